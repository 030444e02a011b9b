import PyProof.Rows.All
import Wide.All
import OpenK.AllK
import Wide.FinOn
import Lean
import PyProof.EqAt
import PyProof.EqKinds
import PyProof.TupleCall
import PyProof.FactsAll.tuple_2
import PyProof.ListMulRoad
import PyProof.ExcArgsOwn
import PyProof.ZipIter
import PyProof.EnumFor
import PyProof.Rows.StrJoin2
import PyProof.FString
import PyProof.StrBlockH
import PyProof.StrWalks
import PyProof.EnumMake
import KE.KIntText
import PyProof.CallStr
import PyProof.ExcInit
import PyProof.ExcClass3
import PyProof.ExcBaseAll.ValueError
import PyProof.NsDelKeeps
import KE.KTryMore
import PyProof.Rows.CountFlat
import PyProof.Rows.KernelRfl
import PyProof.ListRange
import PyProof.InstStoreFacts
import PySem.Challenge.RW_summitwater_k10_refusals_apart
set_option Elab.async false
set_option linter.all false
set_option maxRecDepth 100000
namespace L2
open PySem PySem.Spec PyProof.Rows
abbrev Key:=Sum Int Str
def keyIs:Key→Value→Bool
 | .inl k,v=>Value.isInt k v
 | .inr x,v=>Value.isStrOf x v
def keyH(w:World):Key→Int
 | .inl k=>hashInt k
 | .inr x=>hashStr w x
theorem keyIs_shape:∀ {k:Key} {v:Value},keyIs k v=true→(∃ i t,k=Sum.inl i∧v=Value.int i t)∨(∃ x t,k=Sum.inr x∧v=Value.str x t)
 | .inl i,v,h=>by
  obtain⟨t,e⟩:=Value.isInt_shape (k:=i) (v:=v) h
  exact .inl ⟨i,t,rfl,e⟩
 | .inr x,v,h=>by
  obtain⟨t,e⟩:=Value.isStrOf_shape (x:=x) (v:=v) h
  exact .inr ⟨x,t,rfl,e⟩
theorem key_ll(a b:Int):decide ((Sum.inl a:Key)=Sum.inl b)=(a==b):=by
 by_cases e:a=b
 ·subst e; simp
 ·have h:¬ (Sum.inl a:Key)=Sum.inl b:=fun q=>e (Sum.inl.inj q)
  rw[decide_eq_false h]
  exact(beq_eq_false_iff_ne.mpr e).symm
theorem key_rr(a b:Str):decide ((Sum.inr a:Key)=Sum.inr b)=decide (a=b):=by
 by_cases e:a=b
 ·subst e; simp
 ·have h:¬ (Sum.inr a:Key)=Sum.inr b:=fun q=>e (Sum.inr.inj q)
  rw[decide_eq_false h,decide_eq_false e]
theorem key_lr(a:Int)(b:Str):decide ((Sum.inl a:Key)=Sum.inr b)=false:=decide_eq_false (fun q=>nomatch q)
theorem key_rl(a:Str)(b:Int):decide ((Sum.inr a:Key)=Sum.inl b)=false:=decide_eq_false (fun q=>nomatch q)
def mixKind(prog:Program)(w:World):PySem.KeyKind prog w Key where
 is:=keyIs
 hash:=keyH w
 inj:=fun v a b ha hb=>by
  rcases keyIs_shape ha with⟨i,t,rfl,rfl⟩ | ⟨x,t,rfl,rfl⟩
  ·rcases keyIs_shape hb with⟨j,u,rfl,e⟩ | ⟨y,u,rfl,e⟩
   ·injection e with e1 _; rw[e1]
   ·exact nomatch e
  ·rcases keyIs_shape hb with⟨j,u,rfl,e⟩ | ⟨y,u,rfl,e⟩
   ·exact nomatch e
   ·injection e with e1 _; rw[e1]
 byValue:=fun k v h=>by
  rcases keyIs_shape h with⟨i,t,rfl,rfl⟩ | ⟨x,t,rfl,rfl⟩<;>rfl
 pyHash:=fun hv h=>by
  rcases keyIs_shape hv with⟨i,t,rfl,rfl⟩ | ⟨x,t,rfl,rfl⟩
  ·exact wpAny_pyHash_int h
  ·exact wpAny_pyHash_str h
 eqBool:=fun hu hv h=>by
  rcases keyIs_shape hu with⟨i,t,rfl,rfl⟩ | ⟨x,t,rfl,rfl⟩
  ·rcases keyIs_shape hv with⟨j,u,rfl,rfl⟩ | ⟨y,u,rfl,rfl⟩
   ·rw[key_ll] at h; exact wpAny_eqBool_int h
   ·rw[key_lr] at h; exact SeqAt.EqAt.int_str i t y u _ _ _ _ h
  ·rcases keyIs_shape hv with⟨j,u,rfl,rfl⟩ | ⟨y,u,rfl,rfl⟩
   ·rw[key_rl] at h; exact SeqAt.EqAt.str_int x t j u _ _ _ _ h
   ·rw[key_rr] at h; exact wpAny_eqBool_str h
 «strs»:=fun k x t v h=>by
  rcases keyIs_shape h with⟨i,u,rfl,e⟩ | ⟨y,u,rfl,e⟩
  ·exact nomatch e
  ·injection e with e1 _
   subst e1
   cases v<;>rfl
end L2
namespace L2
open PySem PySem.Spec PyProof.Rows
inductive V where
 | non | bl (b:Bool) | int (i:Int) | str (x:Str) | byt (b:Array UInt8) | flt (b:UInt64) | ref (a:Addr) | ty (n:String)
 deriving DecidableEq
def RelV:V→Value→Prop
 | .non,u=>u=Value.none
 | .bl b,u=>u=Value.bool b
 | .int i,u=>∃ t,u=Value.int i t
 | .str x,u=>∃ t,u=Value.str x t
 | .byt b,u=>∃ t,u=Value.bytes b t
 | .flt b,u=>∃ t,u=Value.float b t
 | .ref a,u=>u=Value.ref a
 | .ty n,u=>u=Value.type n
abbrev Vals:List V→List Value→Prop:=Paired RelV
theorem Vals.length{xs:List V}{us:List Value}(r:Vals xs us):xs.length=us.length:=Paired.length r
theorem Vals.get:∀ {xs:List V} {us:List Value} {i:Nat} {x:V},Vals xs us→xs[i]?=some x→∃ u,us[i]?=some u∧RelV x u
 | _,_,_,_,.nil,e=>by simp at e
 | _,_,0,_,.cons r _,e=>by simp at e; subst e; exact⟨_,rfl,r⟩
 | _,_,i+1,x,.cons _ t,e=>by
  obtain⟨u,h1,h2⟩:=Vals.get (i:=i) (x:=x) t (by simpa using e)
  exact⟨u,by simpa using h1,h2⟩
theorem Vals.set{x:V}{u:Value}(r:RelV x u):∀ {xs:List V} {us:List Value} (i:Nat),Vals xs us→Vals (xs.set i x) (us.set i u)
 | _,_,_,.nil=>.nil
 | _,_,0,.cons _ t=>.cons r t
 | _,_,i+1,.cons q t=>.cons q (Vals.set r i t)
theorem Vals.append:∀ {xs ys:List V} {us ws:List Value},Vals xs us→Vals ys ws→Vals (xs++ys) (us++ws)
 | _,_,_,_,.nil,s=>s
 | _,_,_,_,.cons r t,s=>.cons r (Vals.append t s)
theorem Vals.take:∀ {xs:List V} {us:List Value} (n:Nat),Vals xs us→Vals (xs.take n) (us.take n)
 | _,_,0,_=>.nil
 | _,_,_+1,.nil=>.nil
 | _,_,n+1,.cons r t=>.cons r (Vals.take n t)
theorem Vals.drop:∀ {xs:List V} {us:List Value} (n:Nat),Vals xs us→Vals (xs.drop n) (us.drop n)
 | _,_,0,r=>r
 | _,_,_+1,.nil=>.nil
 | _,_,n+1,.cons _ t=>Vals.drop n t
def RelO:Option V→Option Value→Prop
 | some v,some u=>RelV v u
 | none,none=>True
 | _,_=>False
def KV{κ:Type}:List (κ×V)→List (κ×Value)→Prop:=Paired fun(p:κ×V) (q:κ×Value)=>p.1=q.1∧RelV p.2 q.2
def kV:Key→V
 | .inl i=>.int i
 | .inr x=>.str x
inductive HO where
 | lst (xs:List V)
 | tup (xs:List V)
 | dK (kvs:List (Key×V)) | dT (kvs:List (List Key×V))
 | set (S:Int→Bool) (n:Nat)
 | ins (C dx:Addr) (fs:List (Str×V))
 | own (x:Addr)
 | xd (fs:List (Str×V))
 | met (f x:Addr)
 | rng (lo hi:Int)
 | frz (o:Obj) (u:HO)
 | tbl (ps:Array Value)
 | ext (φ:Heap→Prop)
abbrev Hp:=Addr→Option HO
def upd(H:Hp)(a:Addr)(o:HO):Hp:=fun b=>if b=a then some o else H b
theorem upd_same{H:Hp}{a:Addr}{o:HO}:upd H a o a=some o:=by unfold upd; rw[if_pos rfl]
theorem upd_ne{H:Hp}{a b:Addr}{o:HO}(h:b≠a):upd H a o b=H b:=by unfold upd; rw[if_neg h]
theorem ne_of{H:Hp}{a b:Addr}{o u:HO}(h:H a=some o)(h':H b=some u)(d:o≠u):a≠b:=by
 intro e; subst e; rw[h] at h'; exact d (Option.some.inj h')
theorem ne_of_none{H:Hp}{a b:Addr}{o:HO}(h:H a=some o)(h':H b=none):a≠b:=by
 intro e; subst e; rw[h] at h'; cases h'
section
variable(P:Program)(w:World)
def ObjOk(H:Hp)(h:Heap)(a:Addr):HO→Prop
 | .lst xs=>xs.length≤sizeLine∧∃ (its:List Value) (n:Nat),Vals xs its∧h.get? a=some { cls:=.type "list",data:=.seq its.toArray n }
 | .tup xs=>xs.length≤sizeLine∧∃ its:List Value,Vals xs its∧IsTup h a its.toArray
 | .dK kvs=>kvs.length≤sizeLine∧(a==sysModules)=false∧∃ vs,KV kvs vs∧h.DictOf (mixKind P w) a vs
 | .dT kvs=>kvs.length≤sizeLine∧(a==sysModules)=false∧∃ xs:List (List Key×Addr×Value),
   Paired (fun(p:List Key×V) (q:List Key×Addr×Value)=>p.1=q.1∧H q.2.1=some (.tup (p.1.map kV))∧RelV p.2 q.2.2) kvs xs∧
   ∃ o es ep,h.get? a=some o∧o.ExactDict∧o.data=.dict es ep∧es.toList=xs.map (entryOfKey (tupleKind (mixKind P w)))∧(xs.map (·.1)).Nodup
 | .set S n=>h.SetOf (intKind P w) a S n
 | .ins C dx fs=>H dx=some (.own a)∧fs.length≤1000∧dx≠a∧h.get? a=some (PySem.W.instObj C dx)∧
   ∃ mA,h.Ns1 dx mA∧(∀ f,RelO (fs.lookup f) (mA f))∧PySem.Within mA (fs.map (·.1))
 | .own _=>∃ o,h.get? a=some o
 | .xd fs=>∃ mA,h.Ns1 a mA∧∀ f,RelO (fs.lookup f) (mA f)
 | .rng lo hi=>∃ t u v,h.get? a=some { cls:=.type "range",data:=.fields #[.int lo t,.int hi u,.int 1 v] }
 | .frz o u=>h.get? a=some o∧ObjOk H h a u
 | .tbl ps=>h.get? a=some { cls:=.none,data:=.fields ps }
 | .met f x=>h.get? a=some (PySem.W.methodObj (.ref f) (.ref x))
 | .ext φ=>φ h∧(∃ o,h.get? a=some o)∧∀ h1 h2:Heap,φ h1→(∀ o,h1.get? a=some o→h2.get? a=some o)→φ h2
def HOk(H:Hp)(h:Heap):Prop:=∀ a o,H a=some o→ObjOk P w H h a o
end
section
variable{P:Program}{w:World}{H H':Hp}{h h':Heap}{a:Addr}{o:HO}
theorem ObjOk.lt(x:ObjOk P w H h a o):a<h.objs.size:=by
 cases o with
 | lst xs=>obtain⟨_,_,_,_,e⟩:=x; exact Heap.lt_size e
 | tup xs=>obtain⟨_,_,_,p⟩:=x; exact p.lt
 | dK kvs=>obtain⟨_,_,_,_,o,_,_,e,_⟩:=x; exact Heap.lt_size e
 | dT kvs=>obtain⟨_,_,_,_,o,_,_,e,_⟩:=x; exact Heap.lt_size e
 | set S n=>obtain⟨o,_,_,_,e,_⟩:=x; exact Heap.lt_size e
 | ins C dx fs=>obtain⟨_,_,_,e,_⟩:=x; exact Heap.lt_size e
 | own y=>obtain⟨_,e⟩:=x; exact Heap.lt_size e
 | xd fs=>obtain⟨_,⟨_,_,_,e,_⟩,_⟩:=x; exact Heap.lt_size e
 | rng lo hi=>obtain⟨_,_,_,e⟩:=x; exact Heap.lt_size e
 | frz ob u=>obtain⟨e,_⟩:=x; exact Heap.lt_size e
 | tbl ps=>exact Heap.lt_size (show h.get? a=some _ from x)
 | met f y=>exact Heap.lt_size (show h.get? a=some _ from x)
 | ext φ=>obtain⟨_,⟨_,e⟩,_⟩:=x; exact Heap.lt_size e
theorem Paired.mapP{α β:Type}{F G:α→β→Prop}:∀ {l₁:List α} {l₂:List β},Paired F l₁ l₂→(∀ a b,F a b→G a b)→Paired G l₁ l₂
 | _,_,.nil,_=>.nil
 | _,_,.cons r t,f=>.cons (f _ _ r) (Paired.mapP t f)
theorem ObjOk.stay(x:ObjOk P w H h a o)(k:∀ b u,(b=a∨H b=some (.own a))→h.get? b=some u→h'.get? b=some u)
  (ho:∀ b,H b=some (.own a)→H' b=some (.own a)) (ht:∀ b xs,H b=some (.tup xs)→H' b=some (.tup xs)):ObjOk P w H' h' a o:=by
 induction o with
 | lst xs=>obtain⟨z,its,n,r,e⟩:=x; exact⟨z,its,n,r,k _ _ (.inl rfl) e⟩
 | tup xs=>obtain⟨z,its,r,ob,e,c⟩:=x; exact⟨z,its,r,ob,k _ _ (.inl rfl) e,c⟩
 | dK kvs=>obtain⟨z,y,vs,r,ob,es,ep,e,c⟩:=x; exact⟨z,y,vs,r,ob,es,ep,k _ _ (.inl rfl) e,c⟩
 | dT kvs=>
  obtain⟨z,y,xs,r,ob,es,ep,e,c⟩:=x
  exact⟨z,y,xs,Paired.mapP r fun p q z=>⟨z.1,ht _ _ z.2.1,z.2.2⟩,ob,es,ep,k _ _ (.inl rfl) e,c⟩
 | set S n=>obtain⟨ob,es,ep,t,e,c⟩:=x; exact⟨ob,es,ep,t,k _ _ (.inl rfl) e,c⟩
 | ins C dx fs=>
  obtain⟨d,z,ne,e,mA,⟨od,es,ep,e2,c⟩,r⟩:=x
  exact⟨ho _ d,z,ne,k _ _ (.inl rfl) e,mA,⟨od,es,ep,k _ _ (.inr d) e2,c⟩,r⟩
 | own y=>obtain⟨ob,e⟩:=x; exact⟨ob,k _ _ (.inl rfl) e⟩
 | xd fs=>obtain⟨mA,⟨od,es,ep,e,c⟩,r⟩:=x; exact⟨mA,⟨od,es,ep,k _ _ (.inl rfl) e,c⟩,r⟩
 | rng lo hi=>obtain⟨t,u,v,e⟩:=x; exact⟨t,u,v,k _ _ (.inl rfl) e⟩
 | frz ob u ih=>obtain⟨e,q⟩:=x; exact⟨k _ _ (.inl rfl) e,ih q⟩
 | tbl ps=>
  have e:h.get? a=some { cls:=.none,data:=.fields ps }:=x
  show h'.get? a=some { cls:=.none,data:=.fields ps }
  exact k a _ (.inl rfl) e
 | met f y=>
  have e:h.get? a=some (PySem.W.methodObj (.ref f) (.ref y)):=x
  show h'.get? a=some (PySem.W.methodObj (.ref f) (.ref y))
  exact k a _ (.inl rfl) e
 | ext φ=>obtain⟨p,⟨o,e⟩,st⟩:=x; exact⟨st _ _ p fun o q=>k _ _ (.inl rfl) q,⟨o,k _ _ (.inl rfl) e⟩,st⟩
theorem HOk.lt(x:HOk P w H h)(e:H a=some o):a<h.objs.size:=(x a o e).lt
theorem HOk.fresh(x:HOk P w H h)(e:h.objs.size≤a):H a=none:=by
 cases q:H a with
 | none=>rfl
 | some u=>exact absurd (Nat.lt_of_lt_of_le (x.lt q) e) (Nat.lt_irrefl _)
theorem HOk.kept(x:HOk P w H h)(k:∀ b u,h.get? b=some u→h'.get? b=some u):HOk P w H h':=fun a o e=>
 (x a o e).stay (fun b u _ q=>k b u q) (fun _ q=>q) fun _ _ q=>q
theorem HOk.laid(x:HOk P w H h)(k:∀ b u,h.get? b=some u→h'.get? b=some u)(hp:h.objs.size≤a)(new:ObjOk P w (upd H a o) h' a o):HOk P w (upd H a o) h':=fun b u e=>by
 have hn:=x.fresh hp
 by_cases hb:b=a
 ·subst hb; rw[upd_same] at e; cases e; exact new
 ·rw[upd_ne hb] at e
  exact(x b u e).stay (fun c v _ q=>k c v q) (fun c q=>by rw[upd_ne (ne_of_none q hn)]; exact q) fun c xs q=>by rw[upd_ne (ne_of_none q hn)]; exact q
end
def Rd(H:Hp)(a:Addr)(u:HO):Prop:=H a=some u∨∃ o,H a=some (.frz o u)
theorem Rd.ok{P:Program}{w:World}{H:Hp}{h:Heap}{a:Addr}{u:HO}(r:Rd H a u)(x:HOk P w H h):ObjOk P w H h a u:=by
 rcases r with r | ⟨o,r⟩
 ·exact x a u r
 ·obtain⟨_,q⟩:=x a _ r
  exact q
def Mut:Option HO→Prop
 | some (.lst _)=>True
 | some (.dK _)=>True
 | some (.dT _)=>True
 | some (.set _ _)=>True
 | some (.ins _ _ _)=>True
 | some (.ext _)=>True
 | _=>False
section
variable{P:Program}{w:World}{H:Hp}{h h':Heap}{x e:Addr}{o':HO}
theorem HOk.write(ok:HOk P w H h)(mu:Mut (H x))(he:e=x∨H e=some (.own x))(k:∀ b u,b≠e→h.get? b=some u→h'.get? b=some u)(heo:∃ u,h'.get? e=some u)
  (new:ObjOk P w (upd H x o') h' x o'):HOk P w (upd H x o') h':=fun b u q=>by
 have nown:∀ c y,H c=some (.own y)→c≠x:=fun c y r z=>by subst z; rw[r] at mu; exact mu
 have ntup:∀ c xs,H c=some (.tup xs)→c≠x:=fun c xs r z=>by subst z; rw[r] at mu; exact mu
 by_cases hb:b=x
 ·subst hb; rw[upd_same] at q; cases q; exact new
 ·rw[upd_ne hb] at q
  by_cases hbe:b=e
  ·have q':H b=some (.own x):=by
    rcases he with z | z
    ·exact absurd (hbe.trans z) hb
    ·rw[hbe]; exact z
   rw[q] at q'; cases q'
   obtain⟨v,hv⟩:=heo
   exact⟨v,by rw[hbe]; exact hv⟩
  ·refine(ok b u q).stay (fun c v hc r=>k c v ?_ r) (fun c r=>by rw[upd_ne (nown c b r)]; exact r) fun c xs r=>by rw[upd_ne (ntup c xs r)]; exact r
   rcases hc with rfl | hc
   ·exact hbe
   ·rintro rfl
    rcases he with z | z
    ·exact nown c b hc z
    ·rw[hc] at z; cases z; exact hb rfl
end
structure Un(fs ex:List Addr)(H H':Hp)(h h':Heap):Prop where
 keep:∀ b o,h.get? b=some o→H b=none→b∉fs→b∉ex→h'.get? b=some o
 slot:∀ b o,h.get? b=some o→H b=none→b∈fs→b∉ex→∃ sl,h'.get? b=some { o with slots:=sl }
 free:∀ b o,h.get? b=some o→H b=none→b∉ex→H' b=none
 there:∀ b o,h.get? b=some o→b∉ex→∃ o',h'.get? b=some o'
 tups:∀ b xs,H b=some (.tup xs)→H' b=some (.tup xs)
 frzs:∀ b o u,H b=some (.frz o u)→H' b=some (.frz o u)
 tbls:∀ b ps,H b=some (.tbl ps)→∃ more,H' b=some (.tbl (ps++more))
section
variable{fs fs' ex ex':List Addr}{H H1 H2:Hp}{h h1 h2 h':Heap}{a x e:Addr}{o:HO}
theorem Un.any(u:Un fs ex H H1 h h1){b:Addr}{ob:Obj}(q:h.get? b=some ob)(n:H b=none)(hx:b∉ex):∃ sl,h1.get? b=some { ob with slots:=sl }:=by
 by_cases hb:b∈fs
 ·exact u.slot b ob q n hb hx
 ·exact⟨ob.slots,u.keep b ob q n hb hx⟩
theorem Un.kept(k:∀ b u,h.get? b=some u→h'.get? b=some u):Un fs ex H H h h':=
 ⟨fun b ob q _ _ _=>k b ob q,fun b ob q _ _ _=>⟨ob.slots,k b ob q⟩,fun _ _ _ n _=>n,fun b ob q _=>⟨ob,k b ob q⟩,fun _ _ q=>q,fun _ _ _ q=>q,fun _ ps q=>⟨#[],by rw[q]; simp⟩⟩
theorem Un.refl:Un fs ex H H h h:=Un.kept fun _ _ q=>q
theorem Un.laid(k:∀ b u,h.get? b=some u→h'.get? b=some u)(hp:h.objs.size≤a)(hn:H a=none):Un fs ex H (upd H a o) h h' where
 keep:=fun b u q _ _ _=>k b u q
 slot:=fun b u q _ _ _=>⟨u.slots,k b u q⟩
 free:=fun b u q n _=>by rw[upd_ne (Nat.ne_of_lt (Nat.lt_of_lt_of_le (Heap.lt_size q) hp))]; exact n
 there:=fun b u q _=>⟨u,k b u q⟩
 tups:=fun b xs q=>by rw[upd_ne (ne_of_none q hn)]; exact q
 frzs:=fun b u xs q=>by rw[upd_ne (ne_of_none q hn)]; exact q
 tbls:=fun b ps q=>⟨#[],by rw[upd_ne (ne_of_none q hn),q]; simp⟩
theorem Un.write(mu:Mut (H x))(he:e=x∨H e=some (.own x))(k:∀ b u,b≠e→h.get? b=some u→h'.get? b=some u)(heo:∃ u,h'.get? e=some u):Un fs ex H (upd H x o) h h':=by
 have hx:∀ b,H b=none→b≠x:=fun b n z=>by subst z; rw[n] at mu; exact mu
 have hb:∀ b,H b=none→b≠e:=fun b n z=>by
  subst z
  rcases he with r | r
  ·exact hx b n r
  ·rw[n] at r; cases r
 have hm:∀ b u,H b=some u→¬ Mut (some u)→b≠x:=fun b u q nm z=>by subst z; rw[q] at mu; exact nm mu
 refine⟨fun b u q n _ _=>k b u (hb b n) q,fun b u q n _ _=>⟨u.slots,k b u (hb b n) q⟩,fun b u q n _=>by rw[upd_ne (hx b n)]; exact n,fun b u q _=>?_,
  fun b xs q=>by rw[upd_ne (hm b _ q fun z=>z)]; exact q,fun b u xs q=>by rw[upd_ne (hm b _ q fun z=>z)]; exact q,fun b ps q=>⟨#[],by rw[upd_ne (hm b _ q fun z=>z),q]; simp⟩⟩
 by_cases hbe:b=e
 ·subst hbe; exact heo
 ·exact⟨u,k b u hbe q⟩
end
def trk(h:Heap)(H:Hp):List Addr:=(List.range h.objs.size).filter fun a=>(H a).isSome
def hidT(h:Heap)(H:Hp):Heap:=PySem.W.hideAll h (trk h H)
theorem hidT_size(h:Heap)(H:Hp):(hidT h H).objs.size=h.objs.size:=PySem.W.hideAll_size _ _
theorem hidT_get{h:Heap}{H:Hp}{b:Addr}{o:Obj}(e:h.get? b=some o)(n:H b=none):(hidT h H).get? b=some o:=
 PySem.W.hideAll_get _ e fun hm=>by
  have q:(H b).isSome=true:=(List.mem_filter.mp hm).2
  rw[n] at q; simp at q
theorem of_hidT{h:Heap}{H:Hp}{b:Addr}{o:Obj}(e:(hidT h H).get? b=some o):h.get? b=some o∧H b=none:=by
 have e':h.get? b=some o:=PySem.W.of_hideAll (trk h H) e
 refine⟨e',?_⟩
 cases q:H b with
 | none=>rfl
 | some x=>
  have hm:b∈trk h H:=List.mem_filter.mpr ⟨List.mem_range.mpr (Heap.lt_size e'),by simp[q]⟩
  have z:(hidT h H).get? b=none:=PySem.W.hideAll_none (trk h H) hm
  rw[z] at e; cases e
def allNews(g h:Heap)(L:Addr):List (Addr×Obj):=(List.range h.objs.size).filterMap fun a=>if a=L∨(g.get? a).isSome=true then none else(h.get? a).map fun o=>(a,o)
def rest(g h:Heap)(L d:Addr):List (Addr×Obj):=(allNews g h L).filter fun p=>decide (p.1≠d)
end L2
namespace L2
open PySem PySem.Spec PyProof.Rows
structure Mod(K:PySem.W.Frag)(mg:Str→Option Value)(base:Heap):Prop where
 kin:K.In base
 glob:base.Ns mainGlobals mg
 blt:∃ mb,base.Ns builtinsNs mb∧∀ x:Str,x≠"__name__"→mb x=bootBuiltins x
 nolimit:base.NoLimit
structure Cx where
 prog:Program
 w:World
 K:PySem.W.Frag
 mg:Str→Option Value
 base:Heap
 A:Around
 N:List Str
 s₀:Shared
 H₀:Hp
 env:Env
 outer:List Env
 stack:List Env
 ex:List Addr
 fn:Str→Bool
 calm:Bool
 pn:List (Addr×Obj)
 xe:Value→Shared→Prop
def frs(l:List Env):List Addr:=l.filterMap (·.frame)
abbrev Cx.fs(X:Cx):List Addr:=frs X.outer
def Vis(sc:Scope)(x:Str):Prop:=sc.names.lookup x=some .local∨sc.names.lookup x=some .cell∨sc.names.lookup x=some .free
def Loc(sc:Scope)(x:Str):Prop:=sc.names.lookup x=some .local∨sc.names.lookup x=some .cell
def Look(env:Env)(h:Heap)(m:Str→Option Value)(x:Str)(u:Value):Prop:=
 (env.kindOf x=some .local∧m x=some u)∨((env.kindOf x=some .cell∨env.kindOf x=some .free)∧∃ c,env.cells.lookup x=some c∧h.IsCell c (some u))
structure Cx.Ok(X:Cx):Prop where
 mod:Mod X.K X.mg X.base
 kind:X.env.scope.kind=.function
 glob:X.env.globals=mainGlobals
 blt:X.env.builtins=builtinsNs
 above:X.s₀.heap.objs.size≤X.env.locals
 inj:∀ x y c,X.env.cells.lookup x=some c→X.env.cells.lookup y=some c→x=y
 has:∀ x,(X.env.kindOf x=some .cell∨X.env.kindOf x=some .free)→∃ c,X.env.cells.lookup x=some c
 cab:∀ x c,X.fn x=true→X.env.cells.lookup x=some c→X.s₀.heap.objs.size≤c
 hd:X.calm=true→X.A.handled=none
 frames:X.A.frames=some X.stack
 stk:X.stack=X.outer∨(X.stack=X.env::X.outer∧X.env.frame=some X.env.locals)
 exf:∀ b∈X.ex,b≠X.env.locals∧∀ x c,X.env.cells.lookup x=some c→c≠b
 bs:∀ b o,X.base.get? b=some o→X.s₀.heap.get? b=some o∧X.H₀ b=none
 bsz:X.base.objs.size≤X.s₀.heap.objs.size
 noex:∀ b o,X.base.get? b=some o→b∉X.ex
 exfs:∀ b∈X.ex,b∉X.fs
 funs:X.s₀.heap.FunFrames X.base X.outer
 frf:∀ b∈X.fs,X.H₀ b=none
structure Inv(X:Cx)(pins:List (Addr×Obj))(σ:List (Option V))(H:Hp)(s:Shared):Prop where
 ok:X.Ok
 os:s.os=X.s₀.os
 bare:AllBare s.gens
 base:Un X.fs X.ex X.H₀ H X.s₀.heap s.heap
 loc:∃ m,s.heap.Ns X.env.locals m∧∀ (i:Nat) (x:Str) (v:V),X.N[i]?=some x→σ[i]?=some (some v)→Vis X.env.scope x→∃ u,RelV v u∧Look X.env s.heap m x u
 cell:∀ x c,X.env.cells.lookup x=some c→∃ v,s.heap.IsCell c v
 free:H X.env.locals=none
 freeC:∀ x c,X.env.cells.lookup x=some c→H c=none
 pin:∀ p∈X.pn++pins,s.heap.get? p.1=some p.2∧H p.1=none∧p.1≠X.env.locals∧p.1∉X.fs∧∀ v,p.2.data≠.cell v
 hok:HOk X.prog X.w H s.heap
 len:σ.length=X.N.length
section
variable{X:Cx}{pins:List (Addr×Obj)}{σ:List (Option V)}{H H':Hp}{s:Shared}{h':Heap}
theorem Cx.Ok.nofr(ok:X.Ok){b:Addr}{o:Obj}(e:X.base.get? b=some o):b∉X.fs:=fun hb=>by
 have:=(ok.funs.mem hb).1
 rw[e] at this; cases this
theorem Inv.bs(I:Inv X pins σ H s):∀ b o,X.base.get? b=some o→s.heap.get? b=some o∧H b=none:=fun b o e=>
 ⟨I.base.keep b o (I.ok.bs b o e).1 (I.ok.bs b o e).2 (I.ok.nofr e) (I.ok.noex b o e),I.base.free b o (I.ok.bs b o e).1 (I.ok.bs b o e).2 (I.ok.noex b o e)⟩
theorem Inv.bk(I:Inv X pins σ H s):∀ b o,X.base.get? b=some o→s.heap.get? b=some o:=fun b o e=>(I.bs b o e).1
theorem Inv.mod(I:Inv X pins σ H s):Mod X.K X.mg X.base:=I.ok.mod
theorem Inv.kIn(I:Inv X pins σ H s):X.K.In s.heap:=I.ok.mod.kin.keeps I.bk
theorem Inv.lt(I:Inv X pins σ H s):X.env.locals<s.heap.objs.size:=let ⟨_,hn,_⟩:=I.loc; hn.lt
theorem Inv.sz(I:Inv X pins σ H s):X.s₀.heap.objs.size≤s.heap.objs.size:=Nat.le_trans I.ok.above (Nat.le_of_lt I.lt)
theorem Inv.nofs(I:Inv X pins σ H s){a:Addr}(h:s.heap.objs.size≤a):a∉X.fs:=fun hb=>by
 obtain⟨_,o,ho,_⟩:=I.ok.funs.mem hb
 exact absurd (Nat.lt_of_lt_of_le (Heap.lt_size ho) (Nat.le_trans I.sz h)) (Nat.lt_irrefl _)
theorem Inv.cne(I:Inv X pins σ H s):∀ x c,X.env.cells.lookup x=some c→c≠X.env.locals:=fun x c e z=>by
 obtain⟨v,o,ho,hd⟩:=I.cell x c e
 obtain⟨m,⟨o',es,ep,ho',hd',_⟩,_⟩:=I.loc
 rw[z,ho'] at ho; cases ho; rw[hd'] at hd; cases hd
theorem Inv.funs(I:Inv X pins σ H s):s.heap.FunFrames X.base X.outer:=by
 have all:∀ (l:List Env),(∀ b∈frs l,b∈X.fs)→X.s₀.heap.FunFrames X.base l→s.heap.FunFrames X.base l:=by
  intro l
  induction l with
  | nil=>intro _ _; trivial
  | cons env r ih=>
   intro hs hl
   obtain⟨hk,⟨L,o,hf,hn,ho,hd⟩,hr⟩:=hl
   have hL:L∈X.fs:=hs L (by unfold frs; rw[List.filterMap_cons,hf]; exact List.mem_cons_self)
   obtain⟨sl,e⟩:=I.base.slot L o ho (I.ok.frf L hL) hL fun z=>I.ok.exfs L z hL
   exact⟨hk,⟨L,_,hf,hn,e,hd⟩,ih (fun b hb=>hs b (by unfold frs; rw[List.filterMap_cons,hf]; exact List.mem_cons_of_mem _ hb)) hr⟩
 exact all X.outer (fun _ hb=>hb) I.ok.funs
theorem Inv.stack(I:Inv X pins σ H s):s.heap.FunFrames X.base X.stack:=by
 rcases I.ok.stk with e | ⟨e,hf⟩
 ·rw[e]; exact I.funs
 ·rw[e]
  obtain⟨m,hn,_⟩:=I.loc
  refine .cons (by rw[I.ok.kind]; decide) hf hn ?_ I.funs
  exact Heap.get?_none_of_le (Nat.le_trans I.ok.bsz I.ok.above)
theorem Inv.stkSub(I:Inv X pins σ H s):∀ b∈frs X.stack,b∈X.env.locals::X.fs:=fun b hb=>by
 rcases I.ok.stk with e | ⟨e,hf⟩
 ·rw[e] at hb; exact List.mem_cons_of_mem _ hb
 ·rw[e] at hb
  unfold frs at hb
  rw[List.filterMap_cons,hf] at hb
  exact hb
theorem Inv.stkFree(I:Inv X pins σ H s):∀ b∈frs X.stack,H b=none:=fun b hb=>by
 rcases List.mem_cons.mp (I.stkSub b hb) with e | hb
 ·rw[e]; exact I.free
 ·obtain⟨_,o,ho,_⟩:=I.ok.funs.mem hb
  exact I.base.free b o ho (I.ok.frf b hb) fun z=>I.ok.exfs b z hb
theorem Inv.step{g':Array GenState}{t':Nat}{d':Drawn}{ch:List Addr}(I:Inv X pins σ H s)
  (hch:∀ b∈ch,(b∈X.ex∨X.s₀.heap.objs.size≤b)∧b≠X.env.locals∧(∀ x c,X.env.cells.lookup x=some c→c≠b)∧∀ p∈X.pn++pins,p.1≠b)
  (keep:∀ b o,b≠X.env.locals→b∉X.fs→b∉ch→s.heap.get? b=some o→H b=none→h'.get? b=some o)
  (slot:∀ b o,b≠X.env.locals→b∈X.fs→b∉ch→s.heap.get? b=some o→H b=none→∃ sl,h'.get? b=some { o with slots:=sl }) (free:∀ b o,b∉ch→s.heap.get? b=some o→H b=none→H' b=none)
  (there:∀ b o,b∉ch→s.heap.get? b=some o→∃ o',h'.get? b=some o')
  (tups:∀ b xs,H b=some (.tup xs)→H' b=some (.tup xs)) (frzs:∀ b o u,H b=some (.frz o u)→H' b=some (.frz o u)) (tbls:∀ b ps,H b=some (.tbl ps)→∃ more,H' b=some (.tbl (ps++more)))
  (ns:∀ m,s.heap.Ns X.env.locals m→h'.Ns X.env.locals m) (hok:HOk X.prog X.w H' h') (hg:AllBare g'):
  Inv X pins σ H' { s with heap:=h',gens:=g',drawn:=d',toks:=t' }:=by
 have neL:∀ b o,X.s₀.heap.get? b=some o→b≠X.env.locals:=fun b o e=>Nat.ne_of_lt (Nat.lt_of_lt_of_le (Heap.lt_size e) I.ok.above)
 have neC:∀ b o,X.s₀.heap.get? b=some o→b∉X.ex→b∉ch:=fun b o e hx hb=>by
  rcases(hch b hb).1 with z | z
  ·exact hx z
  ·exact absurd (Nat.lt_of_lt_of_le (Heap.lt_size e) z) (Nat.lt_irrefl _)
 have cellK:∀ x c,X.env.cells.lookup x=some c→∀ v,s.heap.IsCell c v→h'.IsCell c v:=fun x c e v ⟨o,ho,hd⟩=>by
  have nch:c∉ch:=fun z=>(hch c z).2.2.1 x c e rfl
  by_cases hc:c∈X.fs
  ·obtain⟨sl,q⟩:=slot c o (I.cne x c e) hc nch ho (I.freeC x c e)
   exact⟨_,q,hd⟩
  ·exact⟨o,keep c o (I.cne x c e) hc nch ho (I.freeC x c e),hd⟩
 refine⟨I.ok,I.os,hg,⟨fun b o e n hb hx=>?_,fun b o e n hb hx=>?_,fun b o e n hx=>?_,fun b o e hx=>?_,fun b xs e=>tups b xs (I.base.tups b xs e),fun b o xs e=>frzs b o xs (I.base.frzs b o xs e),fun b ps e=>?_⟩,?_,fun x c e=>?_,?_,fun x c e=>?_,fun p hp=>?_,hok,I.len⟩
 ·exact keep b o (neL b o e) hb (neC b o e hx) (I.base.keep b o e n hb hx) (I.base.free b o e n hx)
 ·obtain⟨sl,e1⟩:=I.base.slot b o e n hb hx
  obtain⟨sl',e2⟩:=slot b _ (neL b o e) hb (neC b o e hx) e1 (I.base.free b o e n hx)
  exact⟨sl',e2⟩
 ·obtain⟨o',e1⟩:=I.base.there b o e hx
  exact free b o' (neC b o e hx) e1 (I.base.free b o e n hx)
 ·obtain⟨o',e1⟩:=I.base.there b o e hx
  exact there b o' (neC b o e hx) e1
 ·obtain⟨m1,e1⟩:=I.base.tbls b ps e
  obtain⟨m2,e2⟩:=tbls b _ e1
  exact⟨m1++m2,by rw[e2,Array.append_assoc]⟩
 ·obtain⟨m,hn,hl⟩:=I.loc
  refine⟨m,ns m hn,fun i x v e1 e2 e3=>?_⟩
  obtain⟨u,r,l⟩:=hl i x v e1 e2 e3
  refine⟨u,r,?_⟩
  rcases l with l | ⟨k,c,e,z⟩
  ·exact .inl l
  ·exact .inr ⟨k,c,e,cellK x c e _ z⟩
 ·obtain⟨v,z⟩:=I.cell x c e
  exact⟨v,cellK x c e v z⟩
 ·obtain⟨m,⟨o,_,_,ho,_⟩,_⟩:=I.loc
  exact free _ o (fun z=>(hch _ z).2.1 rfl) ho I.free
 ·obtain⟨v,o,ho,hd⟩:=I.cell x c e
  exact free c o (fun z=>(hch c z).2.2.1 x c e rfl) ho (I.freeC x c e)
 ·obtain⟨e,n,ne,nf,d⟩:=I.pin p hp
  have nch:p.1∉ch:=fun z=>(hch p.1 z).2.2.2 p hp rfl
  exact⟨keep p.1 p.2 ne nf nch e n,free p.1 p.2 nch e n,ne,nf,d⟩
theorem Inv.un{t':Nat}(I:Inv X pins σ H s)(u:Un X.fs [] H H' s.heap h')(hok:HOk X.prog X.w H' h'):Inv X pins σ H' { s with heap:=h',toks:=t' }:=by
 obtain⟨m,⟨o,es,ep,ho,r⟩,_⟩:=id I.loc
 obtain⟨sl,hL⟩:=u.any ho I.free (by simp)
 exact I.step (g':=s.gens) (d':=s.drawn) (ch:=[]) (fun _ z=>nomatch z) (fun b o _ hb _ e n=>u.keep b o e n hb (by simp)) (fun b o _ hb _ e n=>u.slot b o e n hb (by simp)) (fun b o _ e n=>u.free b o e n (by simp)) (fun b o _ e=>u.there b o e (by simp)) u.tups u.frzs u.tbls (fun m' hm=>by
  obtain⟨o',es',ep',ho',r'⟩:=hm
  rw[ho] at ho'; cases ho'
  exact⟨_,es',ep',hL,r'⟩) hok I.bare
theorem Inv.call{g':Array GenState}{t':Nat}{d':Drawn}{ch:List Addr}(I:Inv X pins σ H s)(u:Un (frs X.stack) ch H H' s.heap h')(hok:HOk X.prog X.w H' h')(hg:AllBare g')
  (hch:∀ b∈ch,(b∈X.ex∨X.s₀.heap.objs.size≤b)∧b≠X.env.locals∧(∀ x c,X.env.cells.lookup x=some c→c≠b)∧∀ p∈X.pn++pins,p.1≠b):
  Inv X pins σ H' { s with heap:=h',gens:=g',drawn:=d',toks:=t' }:=by
 obtain⟨m,⟨o,es,ep,ho,r⟩,_⟩:=id I.loc
 obtain⟨sl,hL⟩:=u.any ho I.free fun z=>(hch _ z).2.1 rfl
 exact I.step (ch:=ch) hch (fun b o hL hb hc e n=>u.keep b o e n (fun z=>(List.mem_cons.mp (I.stkSub b z)).elim hL hb) hc) (fun b o _ _ hc e n=>u.any e n hc) (fun b o hc e n=>u.free b o e n hc) (fun b o hc e=>u.there b o e hc) u.tups u.frzs u.tbls (fun m' hm=>by
  obtain⟨o',es',ep',ho',r'⟩:=hm
  rw[ho] at ho'; cases ho'
  exact⟨_,es',ep',hL,r'⟩) hok hg
theorem Inv.turned{t':Nat}{it:Addr}(I:Inv X pins σ H s)(k:∀ b o,b≠it→s.heap.get? b=some o→h'.get? b=some o)(hn:H it=none)(hL:it≠X.env.locals)
  (h1:it∈X.ex∨X.s₀.heap.objs.size≤it) (h2:∀ x c,X.env.cells.lookup x=some c→c≠it) (h3:∀ p∈X.pn++pins,p.1≠it):Inv X pins σ H { s with heap:=h',toks:=t' }:=by
 have nit:∀ b u,H b=some u→b≠it:=fun b u e z=>by rw[z,hn] at e; cases e
 refine I.step (g':=s.gens) (d':=s.drawn) (ch:=[it]) (fun b hb=>?_) (fun b o _ _ hc e _=>k b o (fun z=>hc (by simp[z])) e) (fun b o _ _ hc e _=>⟨o.slots,k b o (fun z=>hc (by simp[z])) e⟩) (fun _ _ _ _ n=>n)
  (fun b o hc e=>⟨o,k b o (fun z=>hc (by simp[z])) e⟩) (fun _ _ e=>e) (fun _ _ _ e=>e) (fun b ps e=>⟨#[],by rw[e]; simp⟩) (fun m hm=>?_) (fun b u e=>?_) I.bare
 ·have e:b=it:=by simpa using hb
  subst e
  exact⟨h1,hL,h2,h3⟩
 ·obtain⟨o,es,ep,ho,r⟩:=hm
  exact⟨o,es,ep,k _ o (Ne.symm hL) ho,r⟩
 ·refine(I.hok b u e).stay (fun c v hc q=>k c v ?_ q) (fun _ q=>q) fun _ _ q=>q
  rcases hc with z | z
  ·rw[z]; exact nit b u e
  ·exact nit c _ z
theorem Inv.tok(I:Inv X pins σ H s)(t:Nat):Inv X pins σ H { s with toks:=t }:=I.un (h':=s.heap) (t':=t) Un.refl I.hok
theorem Inv.kept{t':Nat}(I:Inv X pins σ H s)(k:∀ b u,s.heap.get? b=some u→h'.get? b=some u):Inv X pins σ H { s with heap:=h',toks:=t' }:=I.un (Un.kept k) (I.hok.kept k)
theorem Inv.laid{a:Addr}{o:HO}{t':Nat}(I:Inv X pins σ H s)(k:∀ b u,s.heap.get? b=some u→h'.get? b=some u)(hp:s.heap.objs.size≤a)(new:ObjOk X.prog X.w (upd H a o) h' a o):
  Inv X pins σ (upd H a o) { s with heap:=h',toks:=t' }:=I.un (Un.laid k hp (I.hok.fresh hp)) (I.hok.laid k hp new)
theorem Inv.write{x e:Addr}{o:HO}{t':Nat}(I:Inv X pins σ H s)(mu:Mut (H x))(he:e=x∨H e=some (.own x))(k:∀ b u,b≠e→s.heap.get? b=some u→h'.get? b=some u)(heo:∃ u,h'.get? e=some u)
  (new:ObjOk X.prog X.w (upd H x o) h' x o):Inv X pins σ (upd H x o) { s with heap:=h',toks:=t' }:=I.un (Un.write mu he k heo) (I.hok.write mu he k heo new)
theorem Inv.pins_of{pins':List (Addr×Obj)}(I:Inv X pins σ H s)(h:∀ p∈pins',s.heap.get? p.1=some p.2∧H p.1=none∧p.1≠X.env.locals∧p.1∉X.fs∧∀ v,p.2.data≠.cell v):Inv X pins' σ H s:=
 ⟨I.ok,I.os,I.bare,I.base,I.loc,I.cell,I.free,I.freeC,fun p hp=>(List.mem_append.mp hp).elim (fun z=>I.pin p (List.mem_append_left _ z)) (h p),I.hok,I.len⟩
theorem nodup_ix{N:List Str}(hN:N.Nodup){i j:Nat}{x:Str}(a:N[i]?=some x)(b:N[j]?=some x):i=j:=by
 obtain⟨h1,e1⟩:=List.getElem?_eq_some_iff.mp a
 obtain⟨h2,e2⟩:=List.getElem?_eq_some_iff.mp b
 exact(List.getElem_inj hN).mp (e1.trans e2.symm)
theorem store_ok2{M:Model}{A:Around}{E:Value→Shared→Prop}{i:Nat}{x:Str}{v:V}{u:Value}{Q:Unit→Shared→Prop}(I:Inv X pins σ H s)(hN:X.N.Nodup)(hi:X.N[i]?=some x)(hx:Loc X.env.scope x)(r:RelV v u)
  (h:∀ s',Inv X pins (σ.set i (some v)) H s'→(∃ a,Heap.SameBut a s.heap s'.heap∧(a=X.env.locals∨X.env.cells.lookup x=some a))→Q () s') (hf:X.fn x=true∨X.env.scope.names.lookup x=some .local:=by first | exact .inl rfl | exact .inr rfl | assumption):wpAny M A (storeName X.env x u) Q E s:=by
 obtain⟨m,hn,hl⟩:=id I.loc
 have hcls:(X.env.scope.kind==.class||(X.env.scope.kind==.module&&X.env.locals != X.env.globals))=false:=by rw[I.ok.kind]; rfl
 have hiσ:i<σ.length:=by rw[I.len]; exact(List.getElem?_eq_some_iff.mp hi).1
 have cne:=I.cne
 have tracked:∀ {a:Addr} {h':Heap},(∃ o,s.heap.get? a=some o∧H a=none)→Heap.SameBut a s.heap h'→HOk X.prog X.w H h':=fun{a h'} ha hs b ob e=>by
  obtain⟨_,_,hfree⟩:=ha
  refine(I.hok b ob e).stay (fun c w' hc q=>(hs.2 c ?_).trans q) (fun _ q=>q) fun _ _ q=>q
  rintro rfl
  rcases hc with rfl | hc
  ·rw[hfree] at e; cases e
  ·rw[hfree] at hc; cases hc
 rcases hx with hk | hk
 ·refine wpAny_storeName_local hk hn (fun h' hn' hs=>?_) hcls
  obtain⟨oL,_,_,hoL,_⟩:=id hn
  refine h _ ⟨I.ok,I.os,I.bare,⟨fun b o e n hb hx=>?_,fun b o e n hb hx=>?_,I.base.free,fun b o e hx=>?_,I.base.tups,I.base.frzs,I.base.tbls⟩,⟨_,hn',fun j y v' e1 e2 e3=>?_⟩,fun y c e=>?_,I.free,I.freeC,fun p hp=>?_,tracked ⟨oL,hoL,I.free⟩ hs,by simpa using I.len⟩ ⟨_,hs,.inl rfl⟩
  ·exact(hs.2 b (Nat.ne_of_lt (Nat.lt_of_lt_of_le (Heap.lt_size e) I.ok.above))).trans (I.base.keep b o e n hb hx)
  ·obtain⟨sl,e1⟩:=I.base.slot b o e n hb hx
   exact⟨sl,(hs.2 b (Nat.ne_of_lt (Nat.lt_of_lt_of_le (Heap.lt_size e) I.ok.above))).trans e1⟩
  ·obtain⟨o',e1⟩:=I.base.there b o e hx
   exact⟨o',(hs.2 b (Nat.ne_of_lt (Nat.lt_of_lt_of_le (Heap.lt_size e) I.ok.above))).trans e1⟩
  ·by_cases hj:j=i
   ·subst hj
    rw[hi] at e1; cases e1
    rw[List.getElem?_set_self hiσ] at e2
    cases e2
    exact⟨u,r,.inl ⟨hk,by simp⟩⟩
   ·rw[List.getElem?_set_ne (Ne.symm hj)] at e2
    obtain⟨u',r',q⟩:=hl j y v' e1 e2 e3
    refine⟨u',r',?_⟩
    rcases q with⟨k,e⟩ | ⟨k,c,e,z⟩
    ·refine .inl ⟨k,?_⟩
     have:y≠x:=fun e=>hj (nodup_ix hN e1 (e▸hi))
     simp[this,e]
    ·exact .inr ⟨k,c,e,z.sameBut hs (cne y c e)⟩
  ·obtain⟨w',z⟩:=I.cell y c e
   exact⟨w',z.sameBut hs (cne y c e)⟩
  ·obtain⟨e,n,ne,nf,d⟩:=I.pin p hp
   exact⟨(hs.2 p.1 ne).trans e,n,ne,nf,d⟩
 ·have hfn:X.fn x=true:=by
   rcases hf with z | z
   ·exact z
   ·rw[z] at hk; cases hk
  obtain⟨c,hc⟩:=I.ok.has x (.inl hk)
  obtain⟨w',z⟩:=I.cell x c hc
  refine wpAny_storeName_cell I.ok.kind hk hc z (fun h' hc' hs=>?_)
  obtain⟨oc,hoc,hocd⟩:=id z
  refine h { s with heap:=h' } ⟨I.ok,I.os,I.bare,⟨fun b o e n hb hx=>?_,fun b o e n hb hx=>?_,I.base.free,fun b o e hx=>?_,I.base.tups,I.base.frzs,I.base.tbls⟩,⟨m,hn.sameBut hs (Ne.symm (cne x c hc)),fun j y v' e1 e2 e3=>?_⟩,fun y c' e=>?_,I.free,I.freeC,fun p hp=>?_,tracked ⟨oc,hoc,I.freeC x c hc⟩ hs,by simpa using I.len⟩ ⟨c,hs,.inr hc⟩
  ·exact(hs.2 b (Nat.ne_of_lt (Nat.lt_of_lt_of_le (Heap.lt_size e) (I.ok.cab x c hfn hc)))).trans (I.base.keep b o e n hb hx)
  ·obtain⟨sl,e1⟩:=I.base.slot b o e n hb hx
   exact⟨sl,(hs.2 b (Nat.ne_of_lt (Nat.lt_of_lt_of_le (Heap.lt_size e) (I.ok.cab x c hfn hc)))).trans e1⟩
  ·obtain⟨o',e1⟩:=I.base.there b o e hx
   exact⟨o',(hs.2 b (Nat.ne_of_lt (Nat.lt_of_lt_of_le (Heap.lt_size e) (I.ok.cab x c hfn hc)))).trans e1⟩
  ·by_cases hj:j=i
   ·subst hj
    rw[hi] at e1; cases e1
    rw[List.getElem?_set_self hiσ] at e2
    cases e2
    exact⟨u,r,.inr ⟨.inl hk,c,hc,hc'⟩⟩
   ·rw[List.getElem?_set_ne (Ne.symm hj)] at e2
    obtain⟨u',r',q⟩:=hl j y v' e1 e2 e3
    refine⟨u',r',?_⟩
    rcases q with q | ⟨k,c',e,z'⟩
    ·exact .inl q
    ·refine .inr ⟨k,c',e,z'.sameBut hs ?_⟩
     rintro rfl
     exact hj (nodup_ix hN e1 (I.ok.inj _ _ _ e hc▸hi))
  ·by_cases hcc:c'=c
   ·subst hcc; exact⟨_,hc'⟩
   ·obtain⟨w2,z2⟩:=I.cell y c' e
    exact⟨w2,z2.sameBut hs hcc⟩
  ·obtain⟨e,n,ne,nf,d⟩:=I.pin p hp
   refine⟨(hs.2 p.1 ?_).trans e,n,ne,nf,d⟩
   intro q
   rw[q,hoc] at e
   have q':oc=p.2:=Option.some.inj e
   exact d w' (by rw[←q']; exact hocd)
theorem store_ok{M:Model}{A:Around}{E:Value→Shared→Prop}{i:Nat}{x:Str}{v:V}{u:Value}{Q:Unit→Shared→Prop}(I:Inv X pins σ H s)(hN:X.N.Nodup)(hi:X.N[i]?=some x)(hx:Loc X.env.scope x)(r:RelV v u)
  (h:∀ s',Inv X pins (σ.set i (some v)) H s'→Q () s') (hf:X.fn x=true∨X.env.scope.names.lookup x=some .local:=by first | exact .inl rfl | exact .inr rfl | assumption):wpAny M A (storeName X.env x u) Q E s:=
 store_ok2 I hN hi hx r (fun s' I' _=>h s' I') hf
end
abbrev XK:=Value→Option Addr→Hp→Prop
abbrev St:=List (Option V)
abbrev VK:=V→Hp→Prop
abbrev TE:=St→Hp→VK→Prop
abbrev TT:=St→Hp→(Bool→Hp→Prop)→Prop
abbrev TA:=St→Hp→(List V→Hp→Prop)→Prop
structure Ends where
 nx:St→Hp→Prop
 rt:VK
 bk:St→Hp→Prop:=fun _ _=>False
 ct:St→Hp→Prop:=fun _ _=>False
abbrev TS:=Ends→St→Hp→Prop
def EP(X:Cx)(pins:List (Addr×Obj))(σ:St)(Q:VK)(u:Value)(s':Shared):Prop:=∃ v H',Inv X pins σ H' s'∧RelV v u∧Q v H'
def TP(X:Cx)(pins:List (Addr×Obj))(σ:St)(Q:Bool→Hp→Prop)(b:Bool)(s':Shared):Prop:=∃ H',Inv X pins σ H' s'∧Q b H'
def AP(X:Cx)(pins:List (Addr×Obj))(σ:St)(Q:List V→Hp→Prop)(us:List Value)(s':Shared):Prop:=∃ vs H',Inv X pins σ H' s'∧Vals vs us∧Q vs H'
def SP(X:Cx)(pins:List (Addr×Obj))(D:Ends)(f:Flow)(s':Shared):Prop:=
 match f with
 | .next=>∃ σ' H',Inv X pins σ' H' s'∧D.nx σ' H'
 | .brk=>∃ σ' H',Inv X pins σ' H' s'∧D.bk σ' H'
 | .cont=>∃ σ' H',Inv X pins σ' H' s'∧D.ct σ' H'
 | .ret u=>∃ v σ' H',Inv X pins σ' H' s'∧RelV v u∧D.rt v H'
def PE(X:Cx)(e:Expr)(t:TE):Prop:=
 ∀ (pins:List (Addr×Obj)) (s:Shared) (σ:St) (H:Hp) (Q:VK),Inv X pins σ H s→t σ H Q→wpAny (model X.prog X.w) X.A (eval e X.env) (EP X pins σ Q) X.xe s
def PT(X:Cx)(e:Expr)(t:TT):Prop:=
 ∀ (pins:List (Addr×Obj)) (s:Shared) (σ:St) (H:Hp) (Q:Bool→Hp→Prop),Inv X pins σ H s→t σ H Q→wpAny (model X.prog X.w) X.A (isTrue e X.env (eval e X.env)) (TP X pins σ Q) X.xe s
def PW(X:Cx)(e:Expr)(t:TT):Prop:=
 ∀ (whole:Sem Value) (pins:List (Addr×Obj)) (s:Shared) (σ:St) (H:Hp) (Q:Bool→Hp→Prop),Inv X pins σ H s→t σ H Q→wpAny (model X.prog X.w) X.A (isTrue e X.env whole) (TP X pins σ Q) X.xe s
theorem PW.pt{X:Cx}{e:Expr}{t:TT}(h:PW X e t):PT X e t:=h _
def PA(X:Cx)(es:List Expr)(t:TA):Prop:=
 ∀ (pos:Pos) (pins:List (Addr×Obj)) (s:Shared) (σ:St) (H:Hp) (Q:List V→Hp→Prop),Inv X pins σ H s→t σ H Q→wpAny (model X.prog X.w) X.A (spliced (backTo pos (starEach es X.env))) (AP X pins σ Q) X.xe s
def PS(X:Cx)(st:Stmt)(t:TS):Prop:=
 ∀ (pins:List (Addr×Obj)) (s:Shared) (σ:St) (H:Hp) (D:Ends),Inv X pins σ H s→t D σ H→wpAny (model X.prog X.w) X.A (exec st X.env) (SP X pins D) X.xe s
def PSs(X:Cx)(st:List Stmt)(t:TS):Prop:=
 ∀ (pins:List (Addr×Obj)) (s:Shared) (σ:St) (H:Hp) (D:Ends),Inv X pins σ H s→t D σ H→wpAny (model X.prog X.w) X.A (execs st X.env) (SP X pins D) X.xe s
theorem thn{α:Type}{t:Sem α}{Q Q':α→Shared→Prop}{M:Model}{A:Around}{E:Value→Shared→Prop}{s:Shared}(h:wpAny M A t Q E s)(hQ:∀ a s,Q a s→Q' a s):wpAny M A t Q' E s:=wpAny_mono h hQ fun _ _ x=>x
end L2
namespace L2
open PySem PySem.Spec PyProof.Rows
section
variable{X:Cx}
def tVar(i:Nat):TE:=fun σ H Q=>∃ v,σ[i]?=some (some v)∧Q v H
def tC(v:V):TE:=fun _ H Q=>Q v H
theorem pe_var{i:Nat}{x:Str}{pos:Pos}(hN:X.N[i]?=some x)(hv:Vis X.env.scope x)(hd:(x==("__debug__":Str))=false:=by decide)(hcd:(x==("__classdict__":Str))=false:=by decide):PE X (.Name x pos) (tVar i):=by
 intro pins s σ H Q I h
 obtain⟨v,e,h⟩:=h
 obtain⟨m,hn,hl⟩:=I.loc
 obtain⟨u,r,l⟩:=hl i x v hN e hv
 have fin:EP X pins σ Q u s:=⟨v,H,I,r,h⟩
 rcases l with⟨hk,hm⟩ | ⟨hk,c,hc,hcell⟩
 ·exact wpAny_Name (wpAny_loadName_local I.ok.kind hk hn hm fin) hd
 ·rcases hk with hk | hk
  ·exact wpAny_Name (wpAny_loadName_cell I.ok.kind hk hc hcell fin) hd
  ·exact wpAny_Name (wpAny_loadName_free I.ok.kind hk hc hcell fin hcd) hd
theorem pe_int{i j pos}:PE X (.Constant (.int i) j pos) (tC (.int i)):=fun _ _ _ H _ I h=>wpAny_Constant_int ⟨.int i,H,I.tok _,⟨_,rfl⟩,h⟩
theorem pe_bl{b j pos}:PE X (.Constant (.bool b) j pos) (tC (.bl b)):=fun _ _ _ H _ I h=>Constant_bool ⟨.bl b,H,I,rfl,h⟩
theorem pe_non{j pos}:PE X (.Constant .none j pos) (tC .non):=fun _ _ _ H _ I h=>Constant_none ⟨.non,H,I,rfl,h⟩
theorem pe_str{x j pos}:PE X (.Constant (.str x) j pos) (tC (.str x)):=fun _ _ _ H _ I h=>Calls.Constant_str ⟨.str x,H,I.tok _,⟨_,rfl⟩,h⟩
def Gl(X:Cx)(x:Str):Prop:=X.env.kindOf x=some .globalImplicit
theorem ld_glob{E:Value→Shared→Prop}{pins:List (Addr×Obj)}{s:Shared}{σ:St}{H:Hp}{x:Str}{u:Value}{pos:Pos}{Q:Value→Shared→Prop}(I:Inv X pins σ H s)(hg:Gl X x)(hm:X.mg x=some u)(h:Q u s)
  (hd:(x==("__debug__":Str))=false:=by decide):wpAny (model X.prog X.w) X.A (eval (.Name x pos) X.env) Q E s:=
 Calls.Name_function_global I.ok.kind hg (Calls.loadGlobal_global (by rw[I.ok.glob]; exact I.mod.glob.keeps I.bk) hm h) hd
theorem ld_blt{E:Value→Shared→Prop}{pins:List (Addr×Obj)}{s:Shared}{σ:St}{H:Hp}{x:Str}{u:Value}{pos:Pos}{Q:Value→Shared→Prop}(I:Inv X pins σ H s)(hg:Gl X x)(hm:X.mg x=none)(hv:bootBuiltins x=some u)(h:Q u s)
  (hn:x≠"__name__":=by decide) (hd:(x==("__debug__":Str))=false:=by decide):wpAny (model X.prog X.w) X.A (eval (.Name x pos) X.env) Q E s:=by
 obtain⟨mb,h1,h2⟩:=I.mod.blt
 exact Calls.Name_function_global I.ok.kind hg (Calls.loadGlobal_builtin (by rw[I.ok.glob]; exact I.mod.glob.keeps I.bk) hm (by rw[I.ok.blt]; exact h1.keeps I.bk) ((h2 x hn).trans hv) h) hd
theorem pe_glob{x:Str}{v:V}{u:Value}{pos:Pos}(hg:Gl X x)(hm:X.mg x=some u)(r:RelV v u)(hd:(x==("__debug__":Str))=false:=by decide):PE X (.Name x pos) (tC v):=
 fun _ _ _ H _ I h=>ld_glob I hg hm ⟨v,H,I,r,h⟩ hd
theorem pe_bltn{x:Str}{v:V}{u:Value}{pos:Pos}(hg:Gl X x)(hm:X.mg x=none)(hv:bootBuiltins x=some u)(r:RelV v u)(hn:x≠"__name__":=by decide)(hd:(x==("__debug__":Str))=false:=by decide):PE X (.Name x pos) (tC v):=
 fun _ _ _ H _ I h=>ld_blt I hg hm hv ⟨v,H,I,r,h⟩ hn hd
variable{a b:Expr}{ta tb:TE}{pos:Pos}
variable{tA tB':TT}{rest:List Expr}
def tAnd(t u:TT):TT:=fun σ H Q=>t σ H fun c H1=>if c=true then u σ H1 Q else Q false H1
def tOr(t u:TT):TT:=fun σ H Q=>t σ H fun c H1=>if c=true then Q true H1 else u σ H1 Q
def tNot(t:TT):TT:=fun σ H Q=>t σ H fun c H1=>Q (!c) H1
theorem pw_and1(ha:PT X a tA):PW X (.BoolOp .And [a] pos) tA:=by
 intro wh pins s σ H Q I h
 refine isTrue_and (thn (ha pins s σ H Q I h) fun c s1 e=>?_)
 cases c with
 | true=>exact isTrue_and_nil e
 | false=>exact e
theorem pw_or1(ha:PT X a tA):PW X (.BoolOp .Or [a] pos) tA:=by
 intro wh pins s σ H Q I h
 refine isTrue_or (thn (ha pins s σ H Q I h) fun c s1 e=>?_)
 cases c with
 | false=>exact isTrue_or_nil e
 | true=>exact e
theorem pw_and(ha:PT X a tA)(hb:PW X (.BoolOp .And (b::rest) pos) tB'):PW X (.BoolOp .And (a::b::rest) pos) (tAnd tA tB'):=by
 intro wh pins s σ H Q I h
 refine isTrue_and (thn (ha pins s σ H _ I h) fun c s1 ⟨H1,I1,q1⟩=>?_)
 cases c with
 | true=>exact hb wh pins s1 σ H1 Q I1 q1
 | false=>exact⟨H1,I1,q1⟩
theorem pw_or(ha:PT X a tA)(hb:PW X (.BoolOp .Or (b::rest) pos) tB'):PW X (.BoolOp .Or (a::b::rest) pos) (tOr tA tB'):=by
 intro wh pins s σ H Q I h
 refine isTrue_or (thn (ha pins s σ H _ I h) fun c s1 ⟨H1,I1,q1⟩=>?_)
 cases c with
 | true=>exact⟨H1,I1,q1⟩
 | false=>exact hb wh pins s1 σ H1 Q I1 q1
theorem pt_not(ha:PT X a tA):PT X (.UnaryOp .Not a pos) (tNot tA):=by
 intro pins s σ H Q I h
 exact isTrue_not (ha pins s σ H (fun c H1=>Q (!c) H1) I h)
end
end L2
namespace L2
open PySem PySem.Spec PyProof.Rows
def SqL(K:PySem.W.Frag)(H:Hp)(a:Addr)(xs:List V):Prop:=
 Rd H a (.lst xs)∨
  ∃ (o:Obj) (its:Array Value) (n:Nat),K.lookup a=some o∧o.cls=.type "list"∧o.dict=none∧o.data=.seq its n∧its.size≤sizeLine∧Vals xs its.toList
def SqT(K:PySem.W.Frag)(H:Hp)(a:Addr)(xs:List V):Prop:=
 Rd H a (.tup xs)∨
  ∃ (o:Obj) (its:Array Value) (n:Nat),K.lookup a=some o∧o.cls=.type "tuple"∧o.data=.seq its n∧its.size≤sizeLine∧Vals xs its.toList
section
variable{X:Cx}{pins:List (Addr×Obj)}{σ:St}{H:Hp}{s:Shared}{a:Addr}{xs ys:List V}
theorem SqL.of{K:PySem.W.Frag}(h:H a=some (.lst xs)):SqL K H a xs:=.inl (.inl h)
theorem SqT.of{K:PySem.W.Frag}(h:H a=some (.tup xs)):SqT K H a xs:=.inl (.inl h)
theorem Inv.list(I:Inv X pins σ H s)(h:SqL X.K H a xs):∃ its:List Value,Vals xs its∧PlainL s.heap a its.toArray∧xs.length≤sizeLine:=by
 rcases h with h | ⟨o,its,n,hk,hc,hd,hs,hz,r⟩
 ·obtain⟨z,its,n,r,e⟩:=h.ok I.hok
  exact⟨its,r,⟨_,n,e,rfl,rfl,rfl⟩,z⟩
 ·refine⟨its.toList,r,⟨o,n,I.kIn a o hk,hc,hd,by simpa using hs⟩,?_⟩
  have e:=r.length
  simp only[Array.length_toList] at e
  omega
theorem Inv.tuple(I:Inv X pins σ H s)(h:SqT X.K H a xs):∃ its:List Value,Vals xs its∧IsTup s.heap a its.toArray∧xs.length≤sizeLine:=by
 rcases h with h | ⟨o,its,n,hk,hc,hs,hz,r⟩
 ·obtain⟨z,its,r,p⟩:=h.ok I.hok
  exact⟨its,r,p,z⟩
 ·refine⟨its.toList,r,⟨o,I.kIn a o hk,hc,n,by simpa using hs⟩,?_⟩
  have e:=r.length
  simp only[Array.length_toList] at e
  omega
end
abbrev Cx.wish(X:Cx)(E:Value→Shared→Prop):Cx:={ X with xe:=E }
abbrev Cx.nox(X:Cx):Cx:=X.wish fun _ _=>False
theorem Cx.Ok.wish{X:Cx}(ok:X.Ok)(E:Value→Shared→Prop):(X.wish E).Ok:=
 ⟨ok.mod,ok.kind,ok.glob,ok.blt,ok.above,ok.inj,ok.has,ok.cab,ok.hd,ok.frames,ok.stk,ok.exf,ok.bs,ok.bsz,ok.noex,ok.exfs,ok.funs,ok.frf⟩
theorem Cx.Ok.unwish{X:Cx}{E:Value→Shared→Prop}(ok:(X.wish E).Ok):X.Ok:=
 ⟨ok.mod,ok.kind,ok.glob,ok.blt,ok.above,ok.inj,ok.has,ok.cab,ok.hd,ok.frames,ok.stk,ok.exf,ok.bs,ok.bsz,ok.noex,ok.exfs,ok.funs,ok.frf⟩
section
variable{X:Cx}{pins:List (Addr×Obj)}{σ:St}{H:Hp}{s:Shared}{E:Value→Shared→Prop}
theorem Inv.wish(I:Inv X pins σ H s)(E:Value→Shared→Prop):Inv (X.wish E) pins σ H s:=⟨I.ok.wish E,I.os,I.bare,I.base,I.loc,I.cell,I.free,I.freeC,I.pin,I.hok,I.len⟩
theorem Inv.unwish(I:Inv (X.wish E) pins σ H s):Inv X pins σ H s:=⟨I.ok.unwish,I.os,I.bare,I.base,I.loc,I.cell,I.free,I.freeC,I.pin,I.hok,I.len⟩
theorem SP.unwish{D:Ends}{f:Flow}{s':Shared}(h:SP (X.wish E) pins D f s'):SP X pins D f s':=by
 cases f with
 | next=>obtain⟨σ',H',I,q⟩:=h; exact⟨σ',H',I.unwish,q⟩
 | brk=>obtain⟨σ',H',I,q⟩:=h; exact⟨σ',H',I.unwish,q⟩
 | cont=>obtain⟨σ',H',I,q⟩:=h; exact⟨σ',H',I.unwish,q⟩
 | ret u=>obtain⟨v,σ',H',I,r,q⟩:=h; exact⟨v,σ',H',I.unwish,r,q⟩
theorem PSs.nox{st:List Stmt}{t:TS}(h:PSs X.nox st t):PSs X st t:=fun pins s σ H D I hw=>
 wpAny_mono (h pins s σ H D (I.wish _) hw) (fun _ _ q=>q.unwish) fun _ _ z=>False.elim z
end
section
variable{X:Cx}{st:Stmt}{rest:List Stmt}{t u:TS}{e:Expr}{te:TE}{pos:Pos}
def tNext:TS:=fun D σ H=>D.nx σ H
def tSeq(t u:TS):TS:=fun D σ H=>t { D with nx:=u D } σ H
theorem pss_nil:PSs X [] tNext:=fun _ _ σ H _ I h=>wpAny_execs_nil ⟨σ,H,I,h⟩
theorem pss_cons(h1:PS X st t)(h2:PSs X rest u):PSs X (st::rest) (tSeq t u):=by
 intro pins s σ H D I h
 refine wpAny_execs_cons (thn (h1 pins s σ H { D with nx:=u D } I h) fun f s1 q=>?_)
 cases f with
 | next=>
  obtain⟨σ',H',I',q⟩:=q
  exact h2 pins s1 σ' H' D I' q
 | ret v=>exact q
 | brk=>exact q
 | cont=>exact q
theorem pss_one(h1:PS X st t):PSs X [st] t:=by
 intro pins s σ H D I h
 refine wpAny_execs_cons (thn (h1 pins s σ H D I h) fun f s1 q=>?_)
 cases f with
 | next=>exact wpAny_execs_nil q
 | ret v=>exact q
 | brk=>exact q
 | cont=>exact q
theorem Inv.quiet{pins:List (Addr×Obj)}{σ:St}{H:Hp}{s:Shared}(I:Inv X pins σ H s):interactive X.env=false:=by simp[interactive,I.ok.kind]
def tDrop(te:TE):TS:=fun D σ H=>te σ H fun _ H1=>D.nx σ H1
theorem ps_expr(he:PE X e te)(hs:swapsWith e none pos.line X.env=pure false:=by rfl):PS X (.Expr e pos) (tDrop te):=by
 intro pins s σ H D I h
 exact wpAny_Expr_any (thn (he pins s σ H _ I h) fun v s1 ⟨x,H1,I1,r1,q1⟩=>⟨σ,H1,I1,q1⟩) I.quiet hs
def tRet(te:TE):TS:=fun D σ H=>te σ H D.rt
theorem ps_ret(he:PE X e te):PS X (.Return (some e) pos) (tRet te):=by
 intro pins s σ H D I h
 exact wpAny_Return_some (thn (he pins s σ H _ I h) fun v s1 ⟨x,H1,I1,r1,q1⟩=>⟨x,σ,H1,I1,r1,q1⟩)
def tIfS(c:TT)(t u:TS):TS:=fun D σ H=>c σ H fun b H1=>if b=true then t D σ H1 else u D σ H1
theorem ps_if{c:Expr}{a b:List Stmt}{tc:TT}(hc:PT X c tc)(ha:PSs X a t)(hb:PSs X b u):PS X (.If c a b pos) (tIfS tc t u):=by
 intro pins s σ H D I h
 refine wpAny_If (thn (hc pins s σ H _ I h) fun d s1 ⟨H1,I1,q1⟩=>?_)
 cases d with
 | true=>exact ha pins s1 σ H1 D I1 q1
 | false=>exact hb pins s1 σ H1 D I1 q1
end
abbrev TG:=V→St→Hp→(St→Hp→Prop)→Prop
abbrev TGs:=List V→St→Hp→(St→Hp→Prop)→Prop
def PG(X:Cx)(target:Expr)(t:TG):Prop:=
 ∀ (pins:List (Addr×Obj)) (s:Shared) (σ:St) (H:Hp) (v:V) (u:Value) (Q:St→Hp→Prop),Inv X pins σ H s→RelV v u→t v σ H Q→
  wpAny (model X.prog X.w) X.A (assign target X.env u) (fun _ s'=>∃ σ' H',Inv X pins σ' H' s'∧Q σ' H') X.xe s
def PGs(X:Cx)(ts:List Expr)(t:TGs):Prop:=
 ∀ (pins:List (Addr×Obj)) (s:Shared) (σ:St) (H:Hp) (vs:List V) (us:List Value) (Q:St→Hp→Prop),Inv X pins σ H s→Vals vs us→t vs σ H Q→
  wpAny (model X.prog X.w) X.A (assignInOrder ((assignEach ts X.env).map (·.2)) us) (fun _ s'=>∃ σ' H',Inv X pins σ' H' s'∧Q σ' H') X.xe s
abbrev TSet:=V→V→V→Hp→(Hp→Prop)→Prop
def PSet(X:Cx)(t:TSet):Prop:=
 ∀ (pins:List (Addr×Obj)) (s:Shared) (σ:St) (H:Hp) (o i v:V) (ov iv u:Value) (Q:Hp→Prop),Inv X pins σ H s→RelV o ov→RelV i iv→RelV v u→t o i v H Q→
  wpAny (model X.prog X.w) X.A (setItem ov iv u) (fun _ s'=>∃ H',Inv X pins σ H' s'∧Q H') X.xe s
section
variable{X:Cx}{pos:Pos}
def gName(i:Nat):TG:=fun v σ H Q=>Q (σ.set i (some v)) H
theorem pg_name{i:Nat}{x:Str}(hN:X.N.Nodup)(hi:X.N[i]?=some x)(hx:Loc X.env.scope x)(hf:X.fn x=true∨X.env.scope.names.lookup x=some .local:=by first | exact .inl rfl | exact .inr rfl | assumption):PG X (.Name x pos) (gName i):=by
 intro pins s σ H v u Q I r h
 exact wpAny_assign_Name (store_ok I hN hi hx r (fun s' I'=>⟨_,H,I',h⟩) hf)
def gNil:TGs:=fun vs σ H Q=>vs=[]∧Q σ H
def gCons(t:TG)(u:TGs):TGs:=fun vs σ H Q=>∃ v r,vs=v::r∧t v σ H fun σ' H'=>u r σ' H' Q
theorem pgs_nil:PGs X [] gNil:=by
 intro pins s σ H vs us Q I r h
 obtain⟨e,h⟩:=h
 subst e
 cases r
 exact assignInOrder_nil ⟨σ,H,I,h⟩
theorem pgs_cons{e:Expr}{es:List Expr}{t:TG}{u:TGs}(h1:PG X e t)(h2:PGs X es u)
  (hs:(assignEach (e::es) X.env).map (·.2)=assign e X.env::(assignEach es X.env).map (·.2):=by rfl):PGs X (e::es) (gCons t u):=by
 intro pins s σ H vs us Q I r h
 obtain⟨v,vr,e1,h⟩:=h
 subst e1
 cases r with
 | cons r rr=>
  rw[hs]
  refine assignInOrder_cons (thn (h1 pins s σ H _ _ _ I r h) fun _ s1 ⟨σ1,H1,I1,q1⟩=>?_)
  exact h2 pins s1 σ1 H1 _ _ Q I1 rr q1
def gTup(K:PySem.W.Frag)(n:Nat)(t:TGs):TG:=fun v σ H Q=>∃ a xs,v=.ref a∧SqT K H a xs∧xs.length=n∧t xs σ H Q
theorem pg_tup{es:List Expr}{k:Nat}{t:TGs}{n:Nat}(hc:X.calm=true)(h:PGs X es t)
  (hn:(assignEach es X.env).length=n:=by rfl) (hst:(assignEach es X.env).findIdx? (·.1)=none:=by rfl):PG X (.Tuple es k pos) (gTup X.K n t):=by
 intro pins s σ H v u Q I r hw
 obtain⟨a,xs,e1,hq,hl,hw⟩:=hw
 subst e1
 cases r
 obtain⟨its,rv,ht,hz⟩:=I.tuple hq
 refine assign_Tuple_tuple (I.ok.hd hc) ht (by simp[hn,←hl,rv.length]) hst fun h' hx=>?_
 have I1:Inv X pins σ H { s with heap:=h' }:=I.kept (t':=s.toks) fun b o e=>hx b o (Nat.ne_of_lt (Heap.lt_size e)) e
 exact h pins _ σ H xs _ Q I1 (by simpa using rv) hw
def gSub(to ti:TE)(t:TSet):TG:=fun v σ H Q=>to σ H fun o H1=>ti σ H1 fun i H2=>t o i v H2 fun H3=>Q σ H3
theorem pg_sub{o i:Expr}{to ti:TE}{t:TSet}(ho:PE X o to)(hi:PE X i ti)(hs:PSet X t)
  (ha:∀ v,assign (.Subscript o i pos) X.env v=(do
   let ov ←holding [v] (eval o X.env)
   let iv ←holding [v,ov] (eval i X.env)
   standAt pos
   holding [v,ov,iv] (setItem ov iv v)
   release [v,ov,iv] []):=by intro _; rfl):PG X (.Subscript o i pos) (gSub to ti t):=by
 intro pins s σ H v u Q I r h
 rw[ha]
 refine wpAny_bind (wpAny_holding (thn (ho pins s σ H _ I h) fun ov s1 ⟨x,H1,I1,r1,q1⟩=>?_))
 refine wpAny_bind (wpAny_holding (thn (hi pins s1 σ H1 _ I1 q1) fun iv s2 ⟨y,H2,I2,r2,q2⟩=>?_))
 refine wpAny_bind (wpAny_standAt (wpAny_bind (wpAny_holding (thn (hs pins s2 σ H2 x y v ov iv u _ I2 r1 r2 r q2) fun _ s3 ⟨H3,I3,q3⟩=>?_))))
 exact wpAny_release ⟨σ,H3,I3,q3⟩
def tAsg(te:TE)(g:TG):TS:=fun D σ H=>te σ H fun x H1=>g x σ H1 D.nx
theorem ps_asg{tg e:Expr}{te:TE}{g:TG}(he:PE X e te)(hg:PG X tg g)(hs:swapsWithSole [tg] e pos.line X.env=pure false:=by rfl)(hw:swappedStores [tg] e X.env=pure none:=by rfl)
  (h1:(assignEach [tg] X.env).map (·.2)=[assign tg X.env]:=by rfl):PS X (.Assign [tg] e pos) (tAsg te g):=by
 intro pins s σ H D I h
 refine wpAny_Assign_stores (thn (he pins s σ H _ I h) fun v s1 ⟨x,H1,I1,r1,q1⟩=>?_) hs hw
 rw[h1]
 exact thn (hg pins s1 σ H1 x v _ I1 r1 q1) fun _ s2 q=>q
theorem ps_set{i:Nat}{x:Str}{e:Expr}{te:TE}{pos':Pos}(hN:X.N.Nodup)(hi:X.N[i]?=some x)(hx:Loc X.env.scope x)(he:PE X e te)(hs:swapsWith e (some (.Name x pos')) pos.line X.env=pure false:=by rfl)(hf:X.fn x=true∨X.env.scope.names.lookup x=some .local:=by first | exact .inl rfl | exact .inr rfl | assumption):
  PS X (.Assign [.Name x pos'] e pos) (tAsg te (gName i)):=by
 intro pins s σ H D I h
 refine wpAny_Assign_Name (thn (he pins s σ H _ I h) fun v s1 ⟨y,H1,I1,r1,q1⟩=>?_) hs
 exact store_ok I1 hN hi hx r1 (fun s2 I2=>⟨_,H1,I2,q1⟩) hf
end
structure It where
 go:Nat→Hp→Prop
 yld:Nat→Hp→V→Hp→Prop
 stop:Nat→Hp→Prop
def FpOk(X:Cx)(pins:List (Addr×Obj))(H:Hp)(b:Addr):Prop:=
 H b=none∧b≠X.env.locals∧b∉X.fs∧(b∈X.ex∨X.s₀.heap.objs.size≤b)∧(∀ x c,X.env.cells.lookup x=some c→c≠b)∧∀ p∈X.pn++pins,p.1≠b
theorem Inv.fpOk{X:Cx}{pins:List (Addr×Obj)}{σ:St}{H H':Hp}{s:Shared}{b:Addr}(I:Inv X pins σ H s)(hb:s.heap.objs.size≤b)(hn:H' b=none):FpOk X pins H' b:=by
 refine⟨hn,Nat.ne_of_gt (Nat.lt_of_lt_of_le I.lt hb),I.nofs hb,.inr (Nat.le_trans I.sz hb),fun x c e z=>?_,fun p hp z=>?_⟩
 ·obtain⟨v,q⟩:=I.cell x c e
  exact absurd (Nat.lt_of_lt_of_le q.lt (by rw[z]; exact hb)) (Nat.lt_irrefl _)
 ·exact absurd (Nat.lt_of_lt_of_le (Heap.lt_size (I.pin p hp).1) (by rw[z]; exact hb)) (Nat.lt_irrefl _)
structure Turn(P:Program)(w:World)(K:PySem.W.Frag)(tg:Expr)(J:It)(fp:List Addr)(it:Addr)(tn:Nat→Heap→Prop):Prop where
 mem:it∈fp
 obj:∀ i h,tn i h→∀ b∈fp,∃ o,h.get? b=some o∧∀ v,o.data≠.cell v
 keep:∀ i h h',tn i h→(∀ b∈fp,∀ o,h.get? b=some o→h'.get? b=some o)→tn i h'
 item:∀ (X:Cx),X.prog=P→X.w=w→X.K=K→X.calm=true→∀ (i:Nat) (pins:List (Addr×Obj)) (s:Shared) (σ:St) (H:Hp) (E:Value→Shared→Prop),Inv X pins σ H s→(∀ b∈fp,FpOk X pins H b)→tn i s.heap→J.go i H→
  wpAny (model P w) X.A (pyNext (.ref it)) (fun r s1=>∃ u,r=some u∧
   wpAny (model P w) X.A (letOwnedTupleGo tg (.ref it) u) (fun _ s2=>∃ x H',Inv X pins σ H' s2∧RelV x u∧J.yld i H x H'∧tn (i+1) s2.heap∧∀ b∈fp,H' b=none) E s1) E s
 done:∀ (X:Cx),X.prog=P→X.w=w→X.K=K→X.calm=true→∀ (i:Nat) (pins:List (Addr×Obj)) (s:Shared) (σ:St) (H:Hp) (E:Value→Shared→Prop),Inv X pins σ H s→(∀ b∈fp,FpOk X pins H b)→tn i s.heap→J.stop i H→
  wpAny (model P w) X.A (pyNext (.ref it)) (fun r s1=>r=none∧Inv X pins σ H s1) E s
 self:∀ (A:Around) (i:Nat) (s:Shared) (Q:Value→Shared→Prop) (E:Value→Shared→Prop),tn i s.heap→Q (.ref it) s→wpAny (model P w) A (pyIter (.ref it)) Q E s
abbrev TI:=St→Hp→(It→Hp→Prop)→Prop
def PIE(X:Cx)(pins:List (Addr×Obj))(σ:St)(tg:Expr)(R:It→Hp→Prop)(itv:Value)(s2:Shared):Prop:=
 ∃ (it:Addr) (fp:List Addr) (tn:Nat→Heap→Prop) (J:It) (H':Hp),itv=.ref it∧Inv X pins σ H' s2∧Turn X.prog X.w X.K tg J fp it tn∧tn 0 s2.heap∧(∀ b∈fp,FpOk X pins H' b)∧R J H'
def PI(X:Cx)(tg iter:Expr)(wi:TI):Prop:=
 ∀ (pins:List (Addr×Obj)) (s:Shared) (σ:St) (H:Hp) (R:It→Hp→Prop),Inv X pins σ H s→wi σ H R→
  wpAny (model X.prog X.w) X.A (eval iter X.env) (fun v s1=>wpAny (model X.prog X.w) X.A (pyIter v) (PIE X pins σ tg R) X.xe s1) X.xe s
theorem go_of{M:Model}{A:Around}{E:Value→Shared→Prop}{s:Shared}{tg:Expr}{it:Addr}{u:Value}{o:Obj}{n:String}{vs:Array Value}{Q:Unit→Shared→Prop}(ho:s.heap.get? it=some o)(hc:o.cls=.type n)(hd:o.data=.fields vs)
  (hn:["enumerate","zip","dict_itemiterator","dict_reverseitemiterator","odict_iterator","itertools.zip_longest","itertools.pairwise"].contains n=false) (hQ:Q () s):wpAny M A (letOwnedTupleGo tg (.ref it) u) Q E s:=by
 unfold letOwnedTupleGo
 cases tg<;>first
  | exact wpAny_pure hQ
  | (cases u<;>first
    | exact wpAny_pure hQ
    | (refine wpAny_bind (wpAny_load ho ?_)
       rw[hc,hd]
       show wpAny M A (if(["enumerate","zip","dict_itemiterator","dict_reverseitemiterator","odict_iterator","itertools.zip_longest","itertools.pairwise"].contains n&&vs[0]?==some (rawInt _))=true then _ else _) Q E s
       rw[if_neg (by intro h; rw[hn,Bool.false_and] at h; cases h)]
       exact wpAny_pure hQ))
def Itr(lo:Int)(n:Nat):It:=⟨fun i _=>i<n,fun i H x H'=>H'=H∧x=.int (lo+i),fun i _=>n≤i⟩
theorem turn_range{P:Program}{w:World}{K:PySem.W.Frag}{tg:Expr}(it:Addr)(lo:Int)(n:Nat):Turn P w K tg (Itr lo n) [it] it (fun i h=>IsRangeIter h it (lo+(i:Nat)*1) ((n:Int)-(i:Nat)) 1) where
 mem:=by simp
 obj:=fun i h st b hb=>by
  have e:b=it:=by simpa using hb
  subst e
  exact⟨_,st,fun v z=>by
   have z':Data.fields _=Data.cell v:=z
   cases z'⟩
 keep:=fun i h h' st k=>k it (by simp) _ st
 item:=by
  intro X hP hw hK hc i pins s σ H E I hf st hg
  subst hP hw hK
  obtain⟨f0,f1,f2,f3,f4,f5⟩:=hf it (by simp)
  have W:=Walks.range (prog:=X.prog) (w:=X.w) (I.ok.hd hc) it lo 1 n
  refine W.item i s _ _ hg st fun v h' tk hv st' kk=>?_
  obtain⟨t,rfl⟩:=hv
  have I1:Inv X pins σ H { s with heap:=h',toks:=tk }:=I.turned (fun b o hb e=>kk b o (by simpa using hb) e) f0 f1 f3 f4 f5
  refine⟨_,rfl,go_of (s:={ s with heap:=h',toks:=tk }) (n:="range_iterator") st' rfl rfl (by decide) ⟨.int (lo+i),H,I1,⟨t,?_⟩,⟨rfl,rfl⟩,st',fun b hb=>(hf b hb).1⟩⟩
  rw[Int.mul_one]
 done:=by
  intro X hP hw hK hc i pins s σ H E I hf st hg
  subst hP hw hK
  obtain⟨f0,f1,f2,f3,f4,f5⟩:=hf it (by simp)
  exact wpAny_pyNext_range_end (I.ok.hd hc) st (by have:n≤i:=hg; omega) fun h' eb=>⟨rfl,I.turned (t':=s.toks) (fun b o hb e=>eb b o hb e) f0 f1 f3 f4 f5⟩
 self:=fun _ _ _ _ _ st h=>wpAny_pyIter_rangeiter st h
end L2
namespace L2
open PySem PySem.Spec PyProof.Rows
section
variable{X:Cx}{tg:Expr}
theorem range_it{pins:List (Addr×Obj)}{σ:St}{H:Hp}{s:Shared}{R:It→Hp→Prop}{E:Value→Shared→Prop}{lo hi:Int}{t u v:Tok}{tk:Nat}(I:Inv X pins σ H s)(h1 : -(2^62)≤lo)(h2:lo<2^62)(h3 : -(2^62)≤hi)(h4:hi<2^62)
  (q:R (Itr lo (hi-lo).toNat) H):wpAny (model X.prog X.w) X.A (pyIter (.ref s.heap.objs.size)) (PIE X pins σ tg R) E { s with heap:=s.heap.push { cls:=.type "range",data:=.fields #[.int lo t,.int hi u,.int 1 v] },toks:=tk }:=by
 refine wpAny_pyIter_range (IsRange.new ..) (small_one h1 h2 h3 h4) ?_
 have I1:Inv X pins σ H { s with heap:=s.heap.push { cls:=.type "range",data:=.fields #[.int lo t,.int hi u,.int 1 v] },toks:=tk }:=I.kept fun b o e=>Heap.get?_push_of_some _ e
 refine⟨(s.heap.push { cls:=.type "range",data:=.fields #[.int lo t,.int hi u,.int 1 v] }).objs.size,[(s.heap.push { cls:=.type "range",data:=.fields #[.int lo t,.int hi u,.int 1 v] }).objs.size],_,_,H,rfl,
  I1.kept (t':=tk) fun b o e=>Heap.get?_push_of_some _ e,turn_range _ lo (hi-lo).toNat,?_,fun b hb=>?_,q⟩
 ·have e1:lo+((0:Nat):Int)*1=lo:=by simp
  have e2:(((hi-lo).toNat:Nat):Int)-((0:Nat):Int)=Builtin.Range.rangeSize lo hi 1:=by rw[rangeSize_one]; split<;>omega
  show IsRangeIter _ _ (lo+((0:Nat):Int)*1) ((((hi-lo).toNat:Nat):Int)-((0:Nat):Int)) 1
  rw[e1,e2]
  exact Heap.get?_push_size _ rfl
 ·have e:b=(s.heap.push { cls:=.type "range",data:=.fields #[.int lo t,.int hi u,.int 1 v] }).objs.size:=by simpa using hb
  subst e
  exact I1.fpOk (Nat.le_refl _) (I1.hok.fresh (Nat.le_refl _))
def iRng1(ta:TA):TI:=fun σ H R=>ta σ H fun vs H1=>∃ j:Int,vs=[.int j] ∧ -(2^62)≤j∧j<2^62∧R (Itr 0 j.toNat) H1
theorem pi_range1{a:Expr}{ta:TA}{p pos:Pos}(hg:Gl X "range")(hm:X.mg "range"=none)(ha:PA X [a] ta)(hs:starEach [a] X.env=[(false,eval a X.env)]:=by rfl):PI X tg (.Call (.Name "range" p) [a] [] pos) (iRng1 ta):=by
 intro pins s σ H R I h
 refine Call_ (ld_blt I hg hm boot_range (PyProof.Rows.callWith_type1 (thn (ha pos pins s σ H _ I h) fun us s1 ⟨vs,H1,I1,r1,q1⟩=>?_) hs rfl))
 obtain⟨j,e,q1,q2,q⟩:=q1
 subst e
 cases r1 with
 | cons r rr=>
  cases rr
  obtain⟨t,rfl⟩:=r
  exact call_range_1 (range_it I1 (by omega) (by omega) q1 q2 (by simpa using q))
def tFor(wi:TI)(g:TG)(tb:TS):TS:=fun D σ H=>wi σ H fun J H1=>∃ W:Nat→Nat→St→Hp→Prop,(∃ m,W 0 m σ H1)∧∀ i m σ H,W i m σ H→
 (J.stop i H∧D.nx σ H)∨(J.go i H∧∃ N:St→Hp→Prop,(∀ σ' H',N σ' H'→∃ m',m'<m∧W (i+1) m' σ' H')∧∀ x H',J.yld i H x H'→g x σ H' fun σ2 H2=>tb { D with nx:=N,ct:=N,bk:=D.nx } σ2 H2)
def pinsAt(fp:List Addr)(h:Heap):List (Addr×Obj):=fp.filterMap fun b=>(h.get? b).map fun o=>(b,o)
theorem mem_pinsAt{fp:List Addr}{h:Heap}{b:Addr}{o:Obj}(hb:b∈fp)(e:h.get? b=some o):(b,o)∈pinsAt fp h:=List.mem_filterMap.mpr ⟨b,hb,by rw[e]; rfl⟩
theorem of_pinsAt{fp:List Addr}{h:Heap}{p:Addr×Obj}(hp:p∈pinsAt fp h):p.1∈fp∧h.get? p.1=some p.2:=by
 obtain⟨b,hb,e⟩:=List.mem_filterMap.mp hp
 cases q:h.get? b with
 | none=>rw[q] at e; cases e
 | some o=>
  rw[q] at e
  have e':(b,o)=p:=Option.some.inj e
  subst e'
  exact⟨hb,q⟩
theorem Inv.pinned{pins:List (Addr×Obj)}{σ:St}{H:Hp}{s:Shared}{fp:List Addr}(I:Inv X pins σ H s)(hf:∀ b∈fp,FpOk X pins H b)(ho:∀ b∈fp,∃ o,s.heap.get? b=some o∧∀ v,o.data≠.cell v):Inv X (pins++pinsAt fp s.heap) σ H s:=
 I.pins_of fun p hp=>(List.mem_append.mp hp).elim (fun z=>I.pin p (List.mem_append_right _ z)) fun z=>by
  obtain⟨hb,e⟩:=of_pinsAt z
  obtain⟨f0,f1,f2,_⟩:=hf p.1 hb
  obtain⟨o,e',d⟩:=ho p.1 hb
  rw[e] at e'; cases e'
  exact⟨e,f0,f1,f2,d⟩
theorem Inv.unpinned{pins pl:List (Addr×Obj)}{σ:St}{H:Hp}{s:Shared}(I:Inv X (pins++pl) σ H s):Inv X pins σ H s:=I.pins_of fun p hp=>I.pin p (List.mem_append_right _ (List.mem_append_left _ hp))
theorem ps_for{iter:Expr}{body:List Stmt}{wi:TI}{g:TG}{tb:TS}{pos:Pos}(hp:PassesOwn (model X.prog X.w) X.A X.env X.xe)(hc:X.calm=true)(hi:PI X tg iter wi)(hg:PG X tg g)(hb:PSs X body tb)
  (hs:∀ x,foldedSetIterable iter X.env x=pure x:=by intro _; rfl):PS X (.For tg iter body [] pos) (tFor wi g tb):=by
 intro pins s σ H D I h
 refine wpAny_For (thn (hi pins s σ H _ I h) fun v s1 h1=>thn h1 fun itv s2 h2=>?_) hs
 obtain⟨it,fp,tn,J,H2,e,I2,T,st2,f2,W,⟨m0,w0⟩,turn⟩:=h2
 subst e
 have stat:∀ {H':Hp},(∀ b∈fp,H' b=none)→∀ b∈fp,FpOk X pins H' b:=fun hn b hb=>⟨hn b hb,(f2 b hb).2⟩
 refine codeAny_forLoop_any (fun n s'=>∃ i σ' H',Inv X pins σ' H' s'∧tn i s'.heap∧(∀ b∈fp,H' b=none)∧W i n σ' H') ?_ m0 ⟨0,σ,H2,I2,st2,fun b hb=>(f2 b hb).1,w0⟩
 rintro n s3 ⟨i,σ3,H3,I3,st3,fr3,w3⟩
 rcases turn i n σ3 H3 w3 with⟨stop,qn⟩ | ⟨go,N,hN,step⟩
 ·refine wpAny_passesOwn hp (thn (T.done X rfl rfl rfl hc i pins s3 σ3 H3 X.xe I3 (stat fr3) st3 stop) fun r s4 ⟨hr,I4⟩=>?_)
  subst hr
  exact wpAny_execs_nil ⟨σ3,H3,I4,qn⟩
 ·refine wpAny_passesOwn hp (thn (T.item X rfl rfl rfl hc i pins s3 σ3 H3 X.xe I3 (stat fr3) st3 go) fun r s4 ⟨u,hr,h4⟩=>?_)
  subst hr
  refine wpAny_passesOwn hp (thn h4 fun _ s5 ⟨x,H5,I5,r5,y5,st5,fr5⟩=>?_)
  have I5':=I5.pinned (stat fr5) (T.obj _ _ st5)
  refine wpAny_passesOwn hp (thn (hg _ s5 σ3 H5 x u _ I5' r5 (step x H5 y5)) fun _ s6 ⟨σ6,H6,I6,q6⟩=>?_)
  refine wpAny_passesOwn hp (thn (hb _ s6 σ6 H6 _ I6 q6) fun f s7 q7=>?_)
  have again:∀ {σ7:St} {H7:Hp},Inv X (pins++pinsAt fp s5.heap) σ7 H7 s7→N σ7 H7→∃ m,m<n∧∃ i σ' H',Inv X pins σ' H' s7∧tn i s7.heap∧(∀ b∈fp,H' b=none)∧W i m σ' H':=fun{σ7 H7} I7 n7=>by
   obtain⟨m',hm,w7⟩:=hN σ7 H7 n7
   refine⟨m',hm,i+1,σ7,H7,I7.unpinned,T.keep _ _ _ st5 fun b hb o e=>(I7.pin (b,o) (List.mem_append_right _ (List.mem_append_right _ (mem_pinsAt hb e)))).1,fun b hb=>?_,w7⟩
   obtain⟨o,e,d⟩:=T.obj _ _ st5 b hb
   exact(I7.pin (b,o) (List.mem_append_right _ (List.mem_append_right _ (mem_pinsAt hb e)))).2.1
  cases f with
  | next=>obtain⟨σ7,H7,I7,n7⟩:=q7; exact again I7 n7
  | cont=>obtain⟨σ7,H7,I7,n7⟩:=q7; exact again I7 n7
  | brk=>obtain⟨σ7,H7,I7,q7⟩:=q7; exact⟨σ7,H7,I7.unpinned,q7⟩
  | ret v=>obtain⟨x7,σ7,H7,I7,r7,q7⟩:=q7; exact⟨x7,σ7,H7,I7.unpinned,r7,q7⟩
end
end L2
namespace L2
open PySem PySem.Spec PyProof.Rows
abbrev R2:=V→V→Hp→VK→Prop
def OpR(X:Cx)(f:Value→Value→Sem Value)(r:R2):Prop:=
 ∀ (pins:List (Addr×Obj)) (s:Shared) (σ:St) (H:Hp) (x y:V) (v u:Value) (Q:VK),Inv X pins σ H s→RelV x v→RelV y u→r x y H Q→
  wpAny (model X.prog X.w) X.A (f v u) (EP X pins σ Q) X.xe s
def CallR(X:Cx)(f:Value)(r:List V→Hp→VK→Prop):Prop:=
 ∀ (pins:List (Addr×Obj)) (s:Shared) (σ:St) (H:Hp) (xs:List V) (us:List Value) (Q:VK),Inv X pins σ H s→Vals xs us→r xs H Q→
  wpAny (model X.prog X.w) X.A (call f us) (EP X pins σ Q) X.xe s
def TruR(X:Cx)(r:V→Hp→(Bool→Hp→Prop)→Prop):Prop:=
 ∀ (pins:List (Addr×Obj)) (s:Shared) (σ:St) (H:Hp) (x:V) (v:Value) (Q:Bool→Hp→Prop),Inv X pins σ H s→RelV x v→r x H Q→
  wpAny (model X.prog X.w) X.A (truthy v) (TP X pins σ Q) X.xe s
def tOp(r:R2)(ta tb:TE):TE:=fun σ H Q=>ta σ H fun x H1=>tb σ H1 fun y H2=>r x y H2 Q
def rI(C:Int→Int→Prop)(g:Int→Int→V):R2:=fun x y H Q=>∃ i j,x=.int i∧y=.int j∧C i j∧Q (g i j) H
def rI0(g:Int→Int→V):R2:=fun x y H Q=>∃ i j,x=.int i∧y=.int j∧Q (g i j) H
section
variable{X:Cx}{a b c:Expr}{ta tb tc:TE}{pos:Pos}
theorem binT(ha:PE X a ta)(hb:PE X b tb){pins:List (Addr×Obj)}{s:Shared}{σ:St}{H:Hp}{R:V→V→Hp→Prop}(I:Inv X pins σ H s)
  (h:ta σ H fun x H1=>tb σ H1 fun y H2=>R x y H2) {Q:Value→Shared→Prop} {f:Value→Value→Sem Value}
  (hf:∀ v u s2 x y H2,Inv X pins σ H2 s2→RelV x v→RelV y u→R x y H2→wpAny (model X.prog X.w) X.A (f v u) Q X.xe s2):
  wpAny (model X.prog X.w) X.A (eval a X.env) (fun v s₁=>wpAny (model X.prog X.w) X.A (eval b X.env) (fun u s₂=>wpAny (model X.prog X.w) X.A (f v u) Q X.xe s₂) X.xe s₁) X.xe s:=by
 refine thn (ha pins s σ H _ I h) fun v s1 ⟨x,H1,I1,r1,q1⟩=>?_
 refine thn (hb pins s1 σ H1 _ I1 q1) fun u s2 ⟨y,H2,I2,r2,q2⟩=>?_
 exact hf v u s2 x y H2 I2 r1 r2 q2
theorem pe_op{op:Operator}{r:R2}(ho:OpR X (binaryOp op) r)(ha:PE X a ta)(hb:PE X b tb):PE X (.BinOp a op b pos) (tOp r ta tb):=by
 intro pins s σ H Q I h
 exact wpAny_BinOp (binT ha hb I h fun v u s2 x y H2 I2 rx ry q=>ho pins s2 σ H2 x y v u Q I2 rx ry q)
theorem opI{f:Value→Value→Sem Value}{C:Int→Int→Prop}{g:Int→Int→Int}
  (rule:∀ (i j:Int) (t u:Tok) (s:Shared) (Q:Value→Shared→Prop) (E:Value→Shared→Prop),C i j→Q (.int (g i j) s.toks) { s with toks:=s.toks+1 }→wpAny (model X.prog X.w) X.A (f (.int i t) (.int j u)) Q E s):
  OpR X f (rI C fun i j=>.int (g i j)):=by
 intro pins s σ H x y v u Q I rx ry h
 obtain⟨i,j,rfl,rfl,hc,q⟩:=h
 obtain⟨t,rfl⟩:=rx
 obtain⟨t',rfl⟩:=ry
 exact rule i j t t' s _ _ hc ⟨.int (g i j),H,I.tok _,⟨_,rfl⟩,q⟩
theorem opI0{f:Value→Value→Sem Value}{g:Int→Int→Int}
  (rule:∀ (i j:Int) (t u:Tok) (s:Shared) (Q:Value→Shared→Prop) (E:Value→Shared→Prop),Q (.int (g i j) s.toks) { s with toks:=s.toks+1 }→wpAny (model X.prog X.w) X.A (f (.int i t) (.int j u)) Q E s):
  OpR X f (rI0 fun i j=>.int (g i j)):=by
 intro pins s σ H x y v u Q I rx ry h
 obtain⟨i,j,rfl,rfl,q⟩:=h
 obtain⟨t,rfl⟩:=rx
 obtain⟨t',rfl⟩:=ry
 exact rule i j t t' s _ _ ⟨.int (g i j),H,I.tok _,⟨_,rfl⟩,q⟩
theorem opB0{f:Value→Value→Sem Value}{g:Int→Int→Bool}
  (rule:∀ (i j:Int) (t u:Tok) (s:Shared) (Q:Value→Shared→Prop) (E:Value→Shared→Prop),Q (.bool (g i j)) s→wpAny (model X.prog X.w) X.A (f (.int i t) (.int j u)) Q E s):
  OpR X f (rI0 fun i j=>.bl (g i j)):=by
 intro pins s σ H x y v u Q I rx ry h
 obtain⟨i,j,rfl,rfl,q⟩:=h
 obtain⟨t,rfl⟩:=rx
 obtain⟨t',rfl⟩:=ry
 exact rule i j t t' s _ _ ⟨.bl (g i j),H,I,rfl,q⟩
def CPow(i j:Int):Prop:=0≤j∧j≤1000000∧i.natAbs<2^64
def CMul(i j:Int):Prop:=(-(2^64)<i∧i<2^64)∨(-(2^64)<j∧j<2^64)
theorem CMul.ok{i j:Int}(h:CMul i j):IntMulOk i j:=by
 rcases h with⟨h1,h2⟩ | ⟨h1,h2⟩
 ·exact .of_left (intBits_le_64 h1 h2)
 ·exact .of_right (intBits_le_64 h1 h2)
theorem op_add:OpR X (binaryOp .Add) (rI0 fun i j=>.int (i+j)):=opI0 fun _ _ _ _ _ _ _ q=>add_int q
theorem op_mul:OpR X (binaryOp .Mult) (rI CMul fun i j=>.int (i*j)):=opI fun _ _ _ _ _ _ _ hc q=>mul_int q hc.ok
theorem op_mod:OpR X (binaryOp .Mod) (rI (fun _ j=>0<j) fun i j=>.int (i%j)):=opI fun i j _ _ _ _ _ hc q=>by
 have h1:(0:Int)<j:=hc
 exact mod_int' (by omega) (by rw[Int.fmod_eq_emod_of_nonneg i (by omega)]; exact q)
theorem op_pow:OpR X (binaryOp .Pow) (rI CPow fun i j=>.int (i^j.toNat)):=opI fun _ _ _ _ _ _ _ hc q=>pow_int_small hc.1 hc.2.1 hc.2.2 q
end
section
variable{X:Cx}{a b c:Expr}{ta tb tc:TE}{pos:Pos}
theorem op_lt:OpR X (compareOp .Lt) (rI0 fun i j=>.bl (decide (i<j))):=opB0 fun _ _ _ _ _ _ _ q=>lt_int q
theorem op_gt:OpR X (compareOp .Gt) (rI0 fun i j=>.bl (decide (j<i))):=opB0 fun _ _ _ _ _ _ _ q=>gt_int q
theorem op_ge:OpR X (compareOp .GtE) (rI0 fun i j=>.bl (decide (j≤i))):=opB0 fun _ _ _ _ _ _ _ q=>ge_int q
theorem OpR.or{f:Value→Value→Sem Value}{r r':R2}(h:OpR X f r)(h':OpR X f r'):OpR X f (fun x y H Q=>r x y H Q∨r' x y H Q):=by
 intro pins s σ H x y v u Q I rx ry q
 rcases q with q | q
 ·exact h pins s σ H x y v u Q I rx ry q
 ·exact h' pins s σ H x y v u Q I rx ry q
theorem nomark(b:Expr){op:CmpOp}(h:op≠.In:=by decide)(h2:op≠.NotIn:=by decide):behindInMarks op b=false:=by
 have e1:(op==CmpOp.In)=false:=by cases op<;>first | rfl | exact absurd rfl h
 have e2:(op==CmpOp.NotIn)=false:=by cases op<;>first | rfl | exact absurd rfl h2
 cases b<;>simp[behindInMarks,e1,e2]
def tTest(t:TE):TT:=fun σ H Q=>t σ H fun x H'=>∃ k,x=.bl k∧Q k H'
theorem pt_cmpR{op:CmpOp}{r:R2}(ho:OpR X (compareOp op) r)(ha:PE X a ta)(hb:PE X b tb)(hm:behindInMarks op b=false):PT X (.Compare a [op] [b] pos) (tTest (tOp r ta tb)):=by
 intro pins s σ H Q I h
 refine wpAny_isTrue_Compare1 (thn (ha pins s σ H _ I h) fun v s1 ⟨x,H1,I1,r1,q1⟩=>thn (hb pins s1 σ H1 _ I1 q1) fun u s2 ⟨y,H2,I2,r2,q2⟩=>
  thn (ho pins s2 σ H2 x y v u _ I2 r1 r2 q2) fun c s3 ⟨z,H3,I3,r3,k,e,q3⟩=>?_) hm
 subst e
 cases r3
 exact wpAny_truthy_bool ⟨H3,I3,q3⟩
def TruV(K:PySem.W.Frag)(x:V)(H:Hp)(k:Bool):Prop:=
 match x with
 | .non=>k=false
 | .bl b=>k=b
 | .int i=>k=(i != 0)
 | .str y=>y.length≤sizeLine∧k=((y.length:Int) != 0)
 | .byt y=>y.size≤sizeLine∧k=((y.size:Int) != 0)
 | .ref p=>(∃ xs,SqL K H p xs∧k=!xs.isEmpty)∨(∃ xs,SqT K H p xs∧k=!xs.isEmpty)∨∃ kvs,H p=some (.dK kvs)∧k=!kvs.isEmpty
 | _=>False
theorem isEmpty_kv{κ:Type}{kvs:List (κ×V)}{vs:List (κ×Value)}(r:KV kvs vs):(!vs.isEmpty)=!kvs.isEmpty:=by
 cases r<;>rfl
theorem isEmpty_of{xs:List V}{its:List Value}(r:Vals xs its):(!its.toArray.isEmpty)=!xs.isEmpty:=by
 cases r<;>simp
theorem line63:(sizeLine:Nat)<2^63:=by rw[sizeLine_eq]; decide
theorem tru_ok:TruR X (fun x H Q=>∃ k,TruV X.K x H k∧Q k H):=by
 intro pins s σ H x v Q I rx h
 obtain⟨k,e,q⟩:=h
 have hl:=line63
 have hs:sizeLine=16777216:=sizeLine_eq
 cases x with
 | non=>
  cases rx
  have e':k=false:=e
  subst e'
  exact truthy_none ⟨H,I,q⟩
 | bl b=>
  cases rx
  have e':k=b:=e
  subst e'
  exact wpAny_truthy_bool ⟨H,I,q⟩
 | int i=>
  obtain⟨t,rfl⟩:=rx
  have e':k=(i != 0):=e
  subst e'
  exact PySem.P.truthy_int ⟨H,I,q⟩
 | str y=>
  obtain⟨t,rfl⟩:=rx
  obtain⟨hy,e'⟩:y.length≤sizeLine∧k=((y.length:Int) != 0):=e
  subst e'
  exact PySem.P.truthy_str (by omega) ⟨H,I.tok _,q⟩
 | byt y=>
  obtain⟨t,rfl⟩:=rx
  obtain⟨hy,e'⟩:y.size≤sizeLine∧k=((y.size:Int) != 0):=e
  subst e'
  exact PySem.W.truthy_bytes (by omega) ⟨H,I.tok _,q⟩
 | ref p=>
  cases rx
  have e':(∃ xs,SqL X.K H p xs∧k=!xs.isEmpty)∨(∃ xs,SqT X.K H p xs∧k=!xs.isEmpty)∨∃ kvs,H p=some (.dK kvs)∧k=!kvs.isEmpty:=e
  rcases e' with⟨xs,hx,e'⟩ | ⟨xs,hx,e'⟩ | ⟨kvs,hx,e'⟩
  ·subst e'
   obtain⟨its,r,pl,hz⟩:=I.list hx
   have hlen:=r.length
   exact wpAny_truthy_list pl.isList (by simp only[List.size_toArray]; omega) ⟨H,I.tok _,by rw[isEmpty_of r]; exact q⟩
  ·subst e'
   obtain⟨its,r,pl,hz⟩:=I.tuple hx
   have hlen:=r.length
   exact truthy_tuple pl (by simp only[List.size_toArray]; omega) ⟨H,I.tok _,by rw[isEmpty_of r]; exact q⟩
  ·subst e'
   obtain⟨hz,hS,vs,r,m⟩:kvs.length≤sizeLine∧(p==sysModules)=false∧∃ vs,KV kvs vs∧s.heap.DictOf (mixKind X.prog X.w) p vs:=I.hok p _ hx
   have hlen:kvs.length=vs.length:=Paired.length r
   exact wpAny_truthy_dict hS m (by omega) ⟨H,I.tok _,by rw[isEmpty_kv r]; exact q⟩
 | _=>exact(show False from e).elim
theorem pt_truth(ha:PE X a ta)(he:∀ whole,isTrue a X.env whole=(do let v ←whole; standAt a.pos; holding [v] (truthy v))):
  PT X a (fun σ H Q=>ta σ H fun x H'=>∃ k,TruV X.K x H' k∧Q k H'):=by
 intro pins s σ H Q I h
 exact isTrue_plain (thn (ha pins s σ H _ I h) fun v s1 ⟨x,H1,I1,r1,q1⟩=>tru_ok pins s1 σ H1 x v Q I1 r1 q1) (he _)
theorem op_add_str:OpR X (binaryOp .Add) (fun x y H Q=>∃ i j,x=.str i∧y=.str j∧i.length+j.length≤sizeLine∧Q (.str (i++j)) H):=by
 intro pins s σ H x y v u Q I rx ry h
 obtain⟨i,j,rfl,rfl,hz,q⟩:=h
 obtain⟨t,rfl⟩:=rx
 obtain⟨t',rfl⟩:=ry
 exact add_str (fun t' tk=>⟨.str (i++j),H,I.tok _,⟨_,rfl⟩,q⟩) hz
theorem vals1{x:V}{us:List Value}(r:Vals [x] us):∃ u,us=[u]∧RelV x u:=by
 cases r with
 | cons r1 r2=>cases r2; exact⟨_,rfl,r1⟩
def LenV(K:PySem.W.Frag)(x:V)(H:Hp)(n:Nat):Prop:=
 match x with
 | .str y=>y.length≤sizeLine∧n=y.length
 | .byt y=>y.size≤sizeLine∧n=y.size
 | .ref p=>(∃ xs,SqL K H p xs∧n=xs.length)∨∃ xs,SqT K H p xs∧n=xs.length
 | _=>False
theorem call_len:CallR X (.builtin "len") (fun xs H Q=>∃ x n,xs=[x]∧LenV X.K x H n∧Q (.int n) H):=by
 intro pins s σ H xs us Q I r h
 obtain⟨x,n,rfl,e,q⟩:=h
 obtain⟨u,rfl,rx⟩:=vals1 r
 have hl:=line63
 have hs:sizeLine=16777216:=sizeLine_eq
 cases x with
 | str y=>
  obtain⟨t,rfl⟩:=rx
  obtain⟨hy,e'⟩:y.length≤sizeLine∧n=y.length:=e
  subst e'
  exact len_str (by omega) ⟨.int _,H,I.tok _,⟨_,rfl⟩,q⟩
 | byt y=>
  obtain⟨t,rfl⟩:=rx
  obtain⟨hy,e'⟩:y.size≤sizeLine∧n=y.size:=e
  subst e'
  exact PySem.W.len_bytes (by omega) ⟨.int _,H,I.tok _,⟨_,rfl⟩,q⟩
 | ref p=>
  cases rx
  have e':(∃ xs,SqL X.K H p xs∧n=xs.length)∨∃ xs,SqT X.K H p xs∧n=xs.length:=e
  rcases e' with⟨xs,hx,e'⟩ | ⟨xs,hx,e'⟩
  ·subst e'
   obtain⟨its,r',pl,hz⟩:=I.list hx
   have hlen:=r'.length
   exact Calls.call_len_list pl.isList (by simp only[List.size_toArray]; omega) ⟨.int xs.length,H,I.tok _,⟨_,by simp only[List.size_toArray]; rw[hlen]⟩,q⟩
  ·subst e'
   obtain⟨its,r',pl,hz⟩:=I.tuple hx
   have hlen:=r'.length
   exact len_tuple pl (by simp only[List.size_toArray]; omega) ⟨.int xs.length,H,I.tok _,⟨_,by simp only[List.size_toArray]; rw[hlen]⟩,q⟩
 | _=>exact(show False from e).elim
end
end L2
namespace L2
open PySem PySem.Spec PyProof.Rows
structure ObjM(h:Heap)(x dx C:Addr)(mA:Str→Option Value):Prop where
 obj:h.get? x=some (PySem.W.instObj C dx)
 ns:h.Ns1 dx mA
 ne:dx≠x
structure Cls(K:PySem.W.Frag)(C:Addr):Prop where
 pg:PySem.W.plainGet K C Str.empty=true
 hd:PySem.W.hasDictIn K C=true
 po:PySem.W.plainOver K C=true
 sa:PySem.W.findIn K (.ref C) "__setattr__"=some (some (.builtin "object.__setattr__"))
structure Con(K:PySem.W.Frag)(C:Addr)(f:Str)(v:V)(u:Value):Prop where
 at_:PySem.W.findIn K (.ref C) f=some (some u)
 rel:RelV v u
 get:PySem.W.specialIn K u "__get__"=some none
 cp:PySem.W.copiedNames.contains f=false
structure Meth(K:PySem.W.Frag)(C:Addr)(m:Str)(f:Addr):Prop where
 at_:PySem.W.findIn K (.ref C) m=some (some (.ref f))
 fn:PySem.W.isFn K (.ref f)=true
 kp:PySem.W.keepIn K (.ref f)=true
section
variable{X:Cx}{pins:List (Addr×Obj)}{σ:St}{H:Hp}{s:Shared}{a C dx:Addr}{fs:List (Str×V)}{f:Str}{v:V}{A:Around}{E:Value→Shared→Prop}
theorem attr_of{prog:Program}{w:World}{env:Env}{e:Expr}{f:Str}{pos:Pos}{s:Shared}{Q:Value→Shared→Prop}(hb:attributeBase e f env (eval e env)=eval e env)
  (h:wpAny (model prog w) A (eval e env) (fun o s₁=>wpAny (model prog w) A (getAttr o f true) Q E s₁) E s):wpAny (model prog w) A (eval (.Attribute e f pos) env) Q E s:=
 Attribute_any_ h (by rw[arm_eval_Attribute,hb])
end
section
variable{X:Cx}{pins:List (Addr×Obj)}{σ:St}{H:Hp}{s:Shared}{A:Around}{E:Value→Shared→Prop}{Q:Value→Shared→Prop}{c:Value}{b:Bool}
inductive TyOf(K:PySem.W.Frag)(H:Hp):V→Value→Prop where
 | non:TyOf K H .non (.type "NoneType")
 | bl (x:Bool):TyOf K H (.bl x) (.type "bool")
 | int (i:Int):TyOf K H (.int i) (.type "int")
 | str (x:Str):TyOf K H (.str x) (.type "str")
 | flt (x:UInt64):TyOf K H (.flt x) (.type "float")
 | lst {a:Addr} {xs:List V} (e:H a=some (.lst xs)):TyOf K H (.ref a) (.type "list")
 | frz {a:Addr} {o:Obj} {xs:List V} (e:H a=some (.frz o (.lst xs))):TyOf K H (.ref a) (.type "list")
 | tup {a:Addr} {xs:List V} (e:H a=some (.tup xs)):TyOf K H (.ref a) (.type "tuple")
 | dK {a:Addr} {kvs:List (Key×V)} (e:H a=some (.dK kvs)):TyOf K H (.ref a) (.type "dict")
 | dT {a:Addr} {kvs:List (List Key×V)} (e:H a=some (.dT kvs)):TyOf K H (.ref a) (.type "dict")
 | ins {a C dx:Addr} {fs:List (Str×V)} (e:H a=some (.ins C dx fs)) (cl:Cls K C) (ha:PySem.W.findIn K (.ref C) "__class__"=some (some (.builtin "object.__class__")))
   (hn:PySem.W.specialIn K (.builtin "object.__class__") "__get__"=some (some (.builtin "getset_descriptor.__get__"))) (htk:PySem.W.takesIn K (.builtin "object.__class__")=some true)
   (hm:PySem.W.mroIn K C (.type "object")=some true):TyOf K H (.ref a) (.ref C)
end
end L2
namespace L2
open PySem PySem.Spec PyProof.Rows
structure Room(k:Nat)(A:Around):Prop where
 hd:A.handled=none
 dp:A.depth+3*k+5<recursionLimit
 un:A.units+16*k+200<cLine
 gd:A.guards=some []
theorem Room.mono{j k:Nat}{A:Around}(r:Room k A)(h:j≤k):Room j A:=⟨r.hd,by have:=r.dp; omega,by have:=r.un; omega,r.gd⟩
theorem Room.deeper{k:Nat}{A:Around}(r:Room (k+1) A)(env:Env):Room k (A.deeper env):=
 ⟨r.hd,by have:=r.dp; show A.depth+1+3*k+5<_; omega,by have:=r.un; show A.units+3+16*k+200<_; omega,by first | exact r.gd | (simpa[Around.deeper] using r.gd)⟩
theorem make_depth{A:Around}{C:Addr}{us:List Value}{kw:List (Str×Value)}:(A.under (.builtin "type.__call__" ⟨.ref C::us,kw⟩)).depth=A.depth+1:=by
 first | rfl | simp[Around.under,Code.weight,Code.isCreation,Code.isGuard,Code.isCaller,Code.frames,Code.isFrame,guardIds]
theorem make_units{A:Around}{C:Addr}{us:List Value}{kw:List (Str×Value)}:(A.under (.builtin "type.__call__" ⟨.ref C::us,kw⟩)).units=A.units+1:=by
 first | rfl | simp[Around.under,Code.cUnits,Code.frames,Code.isFrame]
theorem Room.make{k:Nat}{A:Around}(r:Room (k+1) A)(C:Addr)(us:List Value)(kw:List (Str×Value)):Room k (A.under (.builtin "type.__call__" ⟨.ref C::us,kw⟩)):=
 ⟨r.hd,by have:=r.dp; rw[make_depth]; omega,by have:=r.un; rw[make_units]; omega,by first | exact r.gd | (simpa[Around.under,pushGuards,Code.guards,Code.isGuard,guardIds] using r.gd)⟩
theorem Room.depth{k:Nat}{A:Around}(r:Room k A):A.depth<recursionLimit:=by have:=r.dp; omega
theorem Room.units{k:Nat}{A:Around}(r:Room k A):A.units+64<cLine:=by have:=r.un; omega
def tNil:TA:=fun _ H Q=>Q [] H
def tCons(ta:TE)(tr:TA):TA:=fun σ H Q=>ta σ H fun x H1=>tr σ H1 fun xs H2=>Q (x::xs) H2
section
variable{X:Cx}{e:Expr}{es:List Expr}{te:TE}{t:TA}{pos:Pos}
theorem pa_nil:PA X [] tNil:=fun _ _ _ _ H Q I h=>Calls.spliced_nil ⟨[],H,I,.nil,h⟩
theorem pa_cons(ha:PE X e te)(hr:PA X es t)(hs:starEach (e::es) X.env=(false,eval e X.env)::starEach es X.env:=by rfl):PA X (e::es) (tCons te t):=by
 intro pos pins s σ H Q I h
 rw[hs]
 show wpAny _ _ (spliced ((false,eval e X.env)::backTo pos (starEach es X.env))) _ _ s
 refine Calls.spliced_cons (thn (ha pins s σ H _ I h) fun u s1 ⟨x,H1,I1,r1,q1⟩=>?_)
 exact thn (hr pos pins s1 σ H1 _ I1 q1) fun us s2 ⟨xs,H2,I2,r2,q2⟩=>⟨x::xs,H2,I2,.cons r1 r2,q2⟩
def tTup(t:TA):TE:=fun σ H Q=>t σ H fun xs H1=>xs.length≤sizeLine∧∀ p,H1 p=none→Q (.ref p) (upd H1 p (.tup xs))
def tLst(t:TA):TE:=fun σ H Q=>t σ H fun xs H1=>xs.length≤sizeLine∧∀ p,H1 p=none→Q (.ref p) (upd H1 p (.lst xs))
theorem pe_tup{x1}(h:PA X es t):PE X (.Tuple es x1 pos) (tTup t):=by
 intro pins s σ H Q I hq
 refine wpAny_Tuple_spliced (thn (h pos pins s σ H _ I hq) fun us s1 ⟨xs,H1,I1,r,z,q⟩=>⟨by rw[←r.length]; exact z,?_⟩)
 have hf:H1 s1.heap.objs.size=none:=I1.hok.fresh (Nat.le_refl _)
 refine⟨.ref s1.heap.objs.size,upd H1 s1.heap.objs.size (.tup xs),I1.laid (t':=s1.toks) (fun b u e=>Heap.get?_push_of_some _ e) (Nat.le_refl _) ?_,rfl,q _ hf⟩
 exact⟨z,us,r,⟨_,Heap.get?_push_size _ rfl,rfl,_,rfl⟩⟩
theorem pe_lst(h:PA X es t):PE X (.List es pos) (tLst t):=by
 intro pins s σ H Q I hq
 refine wpAny_List_spliced (thn (h pos pins s σ H _ I hq) fun us s1 ⟨xs,H1,I1,r,z,q⟩=>⟨by rw[←r.length]; exact z,?_⟩)
 have hf:H1 s1.heap.objs.size=none:=I1.hok.fresh (Nat.le_refl _)
 refine⟨.ref s1.heap.objs.size,upd H1 s1.heap.objs.size (.lst xs),I1.laid (t':=s1.toks) (fun b u e=>Heap.get?_push_of_some _ e) (Nat.le_refl _) ?_,rfl,q _ hf⟩
 exact⟨z,us,0,r,Heap.get?_push_size _ rfl⟩
end
abbrev Sp:=List V→Hp→VK→XK→Prop
abbrev CXT:=List Env→Hp→Shared→XK→Value→Shared→Prop
structure Env0(P:Program)(w:World)(K:PySem.W.Frag)(mg:Str→Option Value)(base:Heap)(A:Around)(outer:List Env)(s:Shared)(H:Hp):Prop where
 frames:A.frames=some outer
 mod:Mod K mg base
 bs:∀ b o,base.get? b=some o→s.heap.get? b=some o∧H b=none
 bsz:base.objs.size≤s.heap.objs.size
 funs:s.heap.FunFrames base outer
 frf:∀ b∈frs outer,H b=none
 hok:HOk P w H s.heap
 bare:AllBare s.gens
def CE(outer:List Env)(P:Program)(w:World)(H:Hp)(s:Shared)(Q:VK)(u:Value)(s':Shared):Prop:=
 ∃ v H',s'.os=s.os∧AllBare s'.gens∧Un (frs outer) [] H H' s.heap s'.heap∧HOk P w H' s'.heap∧RelV v u∧Q v H'
def CR(CX:CXT)(outer:List Env)(P:Program)(w:World)(H:Hp)(s:Shared)(Q:VK)(E:XK)(r:Result)(s':Shared):Prop:=
 match r with
 | .ok (.ret u)=>CE outer P w H s Q u s'
 | .ok _=>False
 | .error e=>CX outer H s E e s'
structure FnOk(P:Program)(w:World)(K:PySem.W.Frag)(mg:Str→Option Value)(base:Heap)(CX:CXT)(k:Nat)(f:Addr)(fd:FuncData)(ps:List Str)(sp:Sp):Prop where
 len:∀ vs H Q E,sp vs H Q E→vs.length=ps.length
 run:∀ (A:Around) (outer:List Env) (s:Shared) (H:Hp) (args:Args) (us:List Value) (vs:List V) (Q:VK) (E:XK),Room k A→Env0 P w K mg base A outer s H→BindsTo s fd args (ps.zip us)→Vals vs us→sp vs H Q E→
  codeAny (model P w) A (.call (.ref f) args) (CR CX outer P w H s Q E) s
theorem FnOk.mono{P:Program}{w:World}{K:PySem.W.Frag}{mg:Str→Option Value}{base:Heap}{CX:CXT}{j k:Nat}{f:Addr}{fd:FuncData}{ps:List Str}{sp:Sp}(F:FnOk P w K mg base CX j f fd ps sp)(h:j≤k):
  FnOk P w K mg base CX k f fd ps sp:=⟨F.len,fun A outer s H args us vs Q E hr=>F.run A outer s H args us vs Q E (hr.mono h)⟩
theorem Env0.make{P:Program}{w:World}{K:PySem.W.Frag}{mg:Str→Option Value}{base:Heap}{A:Around}{outer:List Env}{s:Shared}{H:Hp}(e:Env0 P w K mg base A outer s H)(C:Addr)(us:List Value)(kw:List (Str×Value)):
  Env0 P w K mg base (A.under (.builtin "type.__call__" ⟨.ref C::us,kw⟩)) outer s H:=⟨by first | exact e.frames | (simpa[Around.under,Code.envs,Code.isFrame,pushEnvs] using e.frames),e.mod,e.bs,e.bsz,e.funs,e.frf,e.hok,e.bare⟩
section
variable{X:Cx}{pins:List (Addr×Obj)}{σ:St}{H:Hp}{s s':Shared}
theorem Inv.env0(I:Inv X pins σ H s):Env0 X.prog X.w X.K X.mg X.base X.A X.stack s H:=
 ⟨I.ok.frames,I.ok.mod,I.bs,Nat.le_trans I.ok.bsz I.sz,I.stack,I.stkFree,I.hok,I.bare⟩
theorem Inv.after{Q:VK}{u:Value}(I:Inv X pins σ H s)(h:CE X.stack X.prog X.w H s Q u s'):EP X pins σ Q u s':=by
 obtain⟨v,H',os,bare,un,hok,r,q⟩:=h
 obtain⟨hh,g,d,t,os'⟩:=s'
 obtain rfl:os'=s.os:=os
 exact⟨v,H',I.call (h':=hh) (g':=g) (d':=d) (t':=t) (ch:=[]) un hok bare (fun b z=>absurd z (by simp)),r,q⟩
end
def tCall(sp:Sp)(dvs:List V)(E:XK)(t:TA):TE:=fun σ H Q=>t σ H fun vs H1=>sp (vs++dvs) H1 Q E
def Binds(K:PySem.W.Frag)(fd:FuncData)(ps:List Str)(ds:List Value):Prop:=
 ∀ (s:Shared) (us:List Value),K.In s.heap→(us++ds).length=ps.length→BindsTo s fd ⟨us,[]⟩ (ps.zip (us++ds))
theorem Binds.all{K:PySem.W.Frag}{fd:FuncData}{ps:List Str}(h:∀ us:List Value,us.length=ps.length→bindArgs fd ⟨us,[]⟩=pure (ps.zip us)):Binds K fd ps []:=fun s us _ hl=>by
 rw[List.append_nil] at hl ⊢
 exact .of_eq (h us hl)
def Passes(CX:CXT)(X:Cx)(E:XK):Prop:=∀ (pins:List (Addr×Obj)) (σ:St) (H:Hp) (s:Shared) (e:Value) (s':Shared),Inv X pins σ H s→CX X.stack H s E e s'→X.xe e s'
section
variable{X:Cx}{CX:CXT}{k:Nat}{f C:Addr}{fd:FuncData}{ps:List Str}{sp:Sp}{dvs:List V}{ds:List Value}{E:XK}{x m:Str}{p pos apos:Pos}{e o:Expr}{es:List Expr}{ta:TE}{t:TA}
theorem run_fn{pins:List (Addr×Obj)}{σ:St}{H:Hp}{s:Shared}{Q:VK}{us:List Value}{vs:List V}(F:FnOk X.prog X.w X.K X.mg X.base CX k f fd ps sp)(hr:Room k X.A)(hb:Binds X.K fd ps ds)(hd:Vals dvs ds)(hx:Passes CX X E)
  (I:Inv X pins σ H s) (r:Vals vs us) (h:sp (vs++dvs) H Q E):wpAny (model X.prog X.w) X.A (call (.ref f) us) (EP X pins σ Q) X.xe s:=by
 have r2:Vals (vs++dvs) (us++ds):=r.append hd
 have hl:(us++ds).length=ps.length:=by rw[←r2.length]; exact F.len _ _ _ _ h
 refine wpAny_call (codeAny_mono (F.run X.A X.stack s H ⟨us,[]⟩ (us++ds) (vs++dvs) Q E hr I.env0 (hb s us I.kIn hl) r2 h) fun r s' hq=>?_)
 cases r with
 | error e=>exact hx pins σ H s e s' I hq
 | ok fl=>
  cases fl with
  | ret u=>exact I.after hq
  | next=>exact False.elim hq
  | brk=>exact False.elim hq
  | cont=>exact False.elim hq
theorem pe_call(F:FnOk X.prog X.w X.K X.mg X.base CX k f fd ps sp)(hr:Room k X.A)(hg:Gl X x)(hm:X.mg x=some (.ref f))(hk:PySem.W.keepIn X.K (.ref f)=true)(hb:Binds X.K fd ps ds)(hd:Vals dvs ds)(hx:Passes CX X E)
  (ha:PA X (e::es) t) (hdb:(x==("__debug__":Str))=false:=by decide) (he:starEach (e::es) X.env=(false,eval e X.env)::starEach es X.env:=by rfl) (hpl:(backTo pos (starEach es X.env)).any (·.1)=false:=by rfl):
  PE X (.Call (.Name x p) (e::es) [] pos) (tCall sp dvs E t):=by
 intro pins s σ H Q I h
 refine wpAny_Call_Name_kw (ld_glob I hg hm ?_ hdb)
 refine PySem.W.callWith_K (h₀:=X.base) I.ok.mod.kin hk (thn (ha pos pins s σ H _ I h) fun us s1 ⟨vs,H1,I1,r,q⟩=>⟨I1.kIn,?_⟩) he hpl
 exact run_fn F hr hb hd hx I1 r q
structure Mk(K:PySem.W.Frag)(C f:Addr):Prop where
 makes:PySem.W.makesIn K C=true
 init:PySem.W.findIn K (.ref C) "__init__"=some (some (.ref f))
 fn:PySem.W.isFn K (.ref f)=true
 kp:PySem.W.keepIn K (.ref C)=true
end
section
variable{X:Cx}{CX:CXT}{k:Nat}{f C:Addr}{fd:FuncData}{ps ks:List Str}{sp:Sp}{E:XK}{x m:Str}{p pos apos kpos:Pos}{e o:Expr}{es:List Expr}{kws:List Keyword}{te ta:TE}{t tk:TA}{nm:Option Str}
structure KBinds(K:PySem.W.Frag)(fd:FuncData)(ps ks:List Str)(g:List Value→List Value→List Value)(gV:List V→List V→List V):Prop where
 to:∀ (s:Shared) (us ws:List Value),K.In s.heap→(g us ws).length=ps.length→BindsTo s fd ⟨us,ks.zip ws⟩ (ps.zip (g us ws))
 rel:∀ {vs:List V} {us:List Value} {zs:List V} {ws:List Value},Vals vs us→Vals zs ws→Vals (gV vs zs) (g us ws)
variable{g:List Value→List Value→List Value}{gV:List V→List V→List V}
end
structure FnScope(N P:List Str)(sc:Scope):Prop where
 kind:sc.kind=.function
 co:sc.isCoroutine=false
 gen:sc.isGenerator=false
 nd:N.Nodup
 pre:N.take P.length=P
 par:∀ x∈P,sc.names.lookup x=some .local∨sc.names.lookup x=some .cell
 nofree:∀ y∈sc.names,y.2≠.free
theorem bindL_out{kindOf:Str→Option NameKind}{x:Str}:∀ {binds:List (Str×Value)} {m:Str→Option Value},(∀ v,(x,v)∉binds)→bindL kindOf binds m x=m x
 | [],_,_=>rfl
 | (n,v)::r,m,h=>by
  unfold bindL
  rw[bindL_out fun w hw=>h w (List.mem_cons_of_mem _ hw)]
  split
  ·have:x≠n:=by rintro rfl; exact h v List.mem_cons_self
   simp[this]
  ·rfl
theorem bindC_out{kindOf:Str→Option NameKind}{x:Str}:∀ {binds:List (Str×Value)} {m:Str→Option Value},(∀ v,(x,v)∉binds)→bindC kindOf binds m x=m x
 | [],_,_=>rfl
 | (n,v)::r,m,h=>by
  unfold bindC
  rw[bindC_out fun w hw=>h w (List.mem_cons_of_mem _ hw)]
  split
  ·rfl
  ·have:x≠n:=by rintro rfl; exact h v List.mem_cons_self
   simp[this]
theorem bindL_get{kindOf:Str→Option NameKind}{x:Str}{v:Value}:∀ {P:List Str} {vs:List Value} {i:Nat} {m:Str→Option Value},P.Nodup→P[i]?=some x→vs[i]?=some v→kindOf x=some .local→
  bindL kindOf (P.zip vs) m x=some v
 | [],_,_,_,_,h,_,_=>by simp at h
 | _::_,[],_,_,_,_,h,_=>by simp at h
 | p::P,w::vs,0,m,nd,h1,h2,hk=>by
  simp at h1 h2; subst h1; subst h2
  show bindL kindOf ((p,w)::P.zip vs) m p=_
  unfold bindL
  rw[bindL_out fun v hv=>(List.nodup_cons.mp nd).1 (List.of_mem_zip hv).1,if_pos hk]
  simp
 | p::P,w::vs,i+1,m,nd,h1,h2,hk=>by
  show bindL kindOf ((p,w)::P.zip vs) m x=_
  unfold bindL
  exact bindL_get (i:=i) (List.nodup_cons.mp nd).2 (by simpa using h1) (by simpa using h2) hk
theorem bindC_get{kindOf:Str→Option NameKind}{x:Str}{v:Value}:∀ {P:List Str} {vs:List Value} {i:Nat} {m:Str→Option Value},P.Nodup→P[i]?=some x→vs[i]?=some v→kindOf x≠some .local→
  bindC kindOf (P.zip vs) m x=some v
 | [],_,_,_,_,h,_,_=>by simp at h
 | _::_,[],_,_,_,_,h,_=>by simp at h
 | p::P,w::vs,0,m,nd,h1,h2,hk=>by
  simp at h1 h2; subst h1; subst h2
  show bindC kindOf ((p,w)::P.zip vs) m p=_
  unfold bindC
  rw[bindC_out fun v hv=>(List.nodup_cons.mp nd).1 (List.of_mem_zip hv).1,if_neg hk]
  simp
 | p::P,w::vs,i+1,m,nd,h1,h2,hk=>by
  show bindC kindOf ((p,w)::P.zip vs) m x=_
  unfold bindC
  exact bindC_get (i:=i) (List.nodup_cons.mp nd).2 (by simpa using h1) (by simpa using h2) hk
def start(N:List Str)(vs:List V):St:=vs.map some++List.replicate (N.length-vs.length) none
def cxOf(CX:CXT)(P:Program)(w:World)(K:PySem.W.Frag)(mg:Str→Option Value)(base:Heap)(N:List Str)(qual:Str)(scope:Scope)(f:Addr)(cd:Value)(A:Around)(outer:List Env)(s:Shared)(H:Hp)(E:XK):Cx where
 prog:=P
 w:=w
 K:=K
 mg:=mg
 base:=base
 A:=A.deeper (envOfC qual scope s.heap.objs.size f cd)
 N:=N
 s₀:=s
 H₀:=H
 env:=envOfC qual scope s.heap.objs.size f cd
 outer:=outer
 stack:=envOfC qual scope s.heap.objs.size f cd::outer
 ex:=[]
 calm:=true
 fn:=fun _=>true
 pn:=[]
 xe:=fun e s'=>wpAny (model P w) (A.deeper (envOfC qual scope s.heap.objs.size f cd)) (leaving (envOfC qual scope s.heap.objs.size f cd) e) (fun _ s''=>CX outer H s E e s'') (fun e' s''=>CX outer H s E e' s'') s'
theorem cell_has{sc:Scope}{n:Nat}{x:Str}(h:sc.names.lookup x=some .cell):∃ c,(cellsFrom n sc.names []).lookup x=some c:=by
 have q:=PySem.W.cellsFrom_some sc.names n [] (.inl h)
 exact Option.isSome_iff_exists.mp q
theorem inv_start{CX:CXT}{P:Program}{w:World}{K:PySem.W.Frag}{mg:Str→Option Value}{base:Heap}{N ps:List Str}{qual:Str}{scope:Scope}{f:Addr}{cd:Value}{A:Around}{outer:List Env}{s s1:Shared}{H:Hp}{E:XK}{us:List Value}{vs:List V}
  (S:FnScope N ps scope) (hd:A.handled=none) (e0:Env0 P w K mg base A outer s H) (hl:vs.length=ps.length) (r:Vals vs us)
  (x:InCallC s s.heap.objs.size (bindL (envOfC qual scope s.heap.objs.size f cd).kindOf (ps.zip us) fun _=>none) (cellsFrom (s.heap.objs.size+1) scope.names []) (bindC (envOfC qual scope s.heap.objs.size f cd).kindOf (ps.zip us) fun _=>none) s1):
  Inv (cxOf CX P w K mg base N qual scope f cd A outer s H E) [] (start N vs) H s1:=by
 have hpl:ps.length≤N.length:=by have:=congrArg List.length S.pre; rw[List.length_take] at this; omega
 obtain⟨h1,tk,rfl,hk⟩:=x.done
 have noA:∀ b:Addr,b∉(cxOf CX P w K mg base N qual scope f cd A outer s H E).ex:=fun b z=>absurd (show b∈([]:List Addr) from z) (by simp)
 refine⟨⟨e0.mod,S.kind,rfl,rfl,Nat.le_refl _,fun y z c h1 h2=>?_,fun y hy=>?_,fun y c _ h=>?_,fun _=>hd,Around.frames_deeper e0.frames,.inr ⟨rfl,rfl⟩,fun b z=>absurd z (noA b),e0.bs,e0.bsz,fun b _ _=>noA b,fun b z=>absurd z (noA b),e0.funs,e0.frf⟩,
  rfl,e0.bare,Un.kept hk,⟨_,x.toInCall.ns,fun i y v h1 h2 h3=>?_⟩,fun y c h=>⟨_,x.cell y c h⟩,e0.hok.fresh (Nat.le_refl _),fun y c h=>?_,fun p hp=>absurd (show p∈([]:List (Addr×Obj)) from hp) (by simp),e0.hok.kept hk,?_⟩
 ·exact name_of_addr x.apart (PySem.mem_of_lookup h1) (PySem.mem_of_lookup h2)
 ·have hy:scope.names.lookup y=some .cell∨scope.names.lookup y=some .free:=hy
  rcases hy with hy | hy
  ·exact cell_has hy
  ·exact absurd rfl (S.nofree _ (PySem.mem_of_lookup hy))
 ·exact Nat.le_of_lt (x.above y c (PySem.mem_of_lookup h))
 ·have hi:i<vs.length:=by
   unfold start at h2
   by_cases hi:i<vs.length
   ·exact hi
   ·rw[List.getElem?_append_right (by simpa using hi)] at h2
    rw[List.getElem?_replicate] at h2
    split at h2<;>cases h2
  have ha:vs[i]?=some v:=by
   unfold start at h2
   rw[List.getElem?_append_left (by simpa using hi),List.getElem?_map] at h2
   cases e:vs[i]? with
   | none=>rw[e] at h2; cases h2
   | some a=>rw[e] at h2; cases h2; rfl
  obtain⟨u,hu,rv⟩:=r.get ha
  have hp:ps[i]?=some y:=by
   rw[←S.pre,List.getElem?_take_of_lt (by omega)]; exact h1
  have ndP:ps.Nodup:=by rw[←S.pre]; exact S.nd.sublist (List.take_sublist _ _)
  refine⟨u,rv,?_⟩
  rcases S.par y (List.mem_of_getElem? hp) with k | k
  ·exact .inl ⟨k,bindL_get ndP hp hu k⟩
  ·obtain⟨c,e⟩:=cell_has (n:=s.heap.objs.size+1) k
   refine .inr ⟨.inl k,c,e,?_⟩
   have q:=x.cell y c e
   rw[bindC_get ndP hp hu (by show scope.names.lookup y≠_; rw[k]; decide)] at q
   exact q
 ·exact e0.hok.fresh (Nat.le_of_lt (x.above y c (PySem.mem_of_lookup h)))
 ·unfold start
  show _=N.length
  rw[List.length_append,List.length_map,List.length_replicate]
  omega
theorem fn_of{CX:CXT}{P:Program}{w:World}{K:PySem.W.Frag}{mg:Str→Option Value}{base:Heap}{k:Nat}{f:Addr}{name qual:Str}{params:Arguments}{body:List Stmt}{scope:Scope}{dV kV doc pm cdv ct oc:Value}{an od:Option Addr}
  {osl:Array (Option Value)} {N ps:List Str} {sp:Sp} (lk:K.lookup f=some ⟨oc,od,.func (PySem.W.fnOf name qual params body scope dV kV doc pm an cdv ct),osl⟩) (hcd:PySem.W.codeIn K cdv qual=true) (S:FnScope N ps scope)
  (len:∀ vs H Q E,sp vs H Q E→vs.length=ps.length)
  (hbody:∀ (A:Around) (outer:List Env) (s:Shared) (H:Hp) (vs:List V) (Q:VK) (E:XK),Room k (A.deeper (envOfC qual scope s.heap.objs.size f cdv))→sp vs H Q E→
   ∃ t,PSs (cxOf CX P w K mg base N qual scope f cdv A outer s H E) body t∧t { nx:=fun _ H'=>Q .non H',rt:=Q } (start N vs) H):
  FnOk P w K mg base CX (k+1) f (PySem.W.fnOf name qual params body scope dV kV doc pm an cdv ct) ps sp:=by
 refine⟨len,fun A outer s H args us vs Q E hr e0 hb r hsp=>?_⟩
 have hl:=len _ _ _ _ hsp
 have KX:K.In s.heap:=e0.mod.kin.keeps fun b o e=>(e0.bs b o e).1
 have lim:s.heap.NoLimit:=e0.mod.nolimit.keeps fun b o e=>(e0.bs b o e).1
 have hkind:∀ y∈ps.zip us,scope.names.lookup y.1=some .local∨(scope.names.lookup y.1=some .cell∧((cellsFrom (s.heap.objs.size+1) scope.names []).lookup y.1).isSome=true):=fun⟨n,v⟩ hy=>by
  rcases S.par n (List.of_mem_zip hy).1 with q | q
  ·exact .inl q
  ·exact .inr ⟨q,PySem.W.cellsFrom_some _ _ _ (.inl q)⟩
 refine codeAny_call_function hr.depth (KX _ _ lk) rfl S.co S.gen rfl (PySem.W.codeRec_of KX hcd) (hb _ _ _ _ ?_)
 refine wpAny_newFunctionEnv_cells S.kind hkind fun env he s1 x=>?_
 subst he
 refine⟨lim.keeps x.toInCall.keep,codeAny_func ?_⟩
 obtain⟨t,ht,hq⟩:=hbody A outer s H vs Q E (hr.deeper _) hsp
 have I:Inv (cxOf CX P w K mg base N qual scope f cdv A outer s H E) [] (start N vs) H s1:=inv_start S hr.hd e0 hl r x
 refine wpAny_mono (ht [] s1 (start N vs) H _ I hq) (fun fl s' hs=>?_) fun e s' hs=>hs
 have fin:∀ {σ':St} {H':Hp} {v:V} {u:Value},Inv (cxOf CX P w K mg base N qual scope f cdv A outer s H E) [] σ' H' s'→RelV v u→Q v H'→CE outer P w H s Q u s':=
  fun{σ' H' v u} J rv q=>⟨v,H',J.os,J.bare,J.base,J.hok,rv,q⟩
 cases fl with
 | ret u=>
  obtain⟨v,σ',H',J,rv,q⟩:=hs
  exact fin J rv q
 | next=>
  obtain⟨σ',H',J,q⟩:=hs
  exact fin (v:=V.non) (u:=Value.none) J rfl q
 | brk=>
  obtain⟨_,_,_,q⟩:=hs
  exact False.elim q
 | cont=>
  obtain⟨_,_,_,q⟩:=hs
  exact False.elim q
end L2
namespace L2
open PySem PySem.Spec PyProof.Rows
section
variable{X:Cx}{x:Str}{p pos:Pos}{e:Expr}{es:List Expr}{t:TA}{id T:String}{r:List V→Hp→VK→Prop}
def tCB(r:List V→Hp→VK→Prop)(t:TA):TE:=fun σ H Q=>t σ H fun vs H1=>r vs H1 Q
theorem pe_callB(hc:CallR X (.builtin id) r)(hg:Gl X x)(hm:X.mg x=none)(hv:bootBuiltins x=some (.builtin id))(ha:PA X (e::es) t)(hn:x≠"__name__":=by decide)(hdb:(x==("__debug__":Str))=false:=by decide)
  (he:starEach (e::es) X.env=(false,eval e X.env)::starEach es X.env:=by rfl) (hpl:(backTo pos (starEach es X.env)).any (·.1)=false:=by rfl):PE X (.Call (.Name x p) (e::es) [] pos) (tCB r t):=by
 intro pins s σ H Q I h
 refine wpAny_Call_Name_kw (ld_blt I hg hm hv ?_ hn hdb)
 exact PyProof.Rows.callWith_builtin1 (thn (ha pos pins s σ H _ I h) fun us s1 ⟨vs,H1,I1,r1,q1⟩=>hc pins s1 σ H1 vs us Q I1 r1 q1) he hpl
theorem pe_callTy(hc:CallR X (.type T) r)(hg:Gl X x)(hm:X.mg x=none)(hv:bootBuiltins x=some (.type T))(ha:PA X (e::es) t)(hn:x≠"__name__":=by decide)(hdb:(x==("__debug__":Str))=false:=by decide)
  (he:starEach (e::es) X.env=(false,eval e X.env)::starEach es X.env:=by rfl) (hpl:(backTo pos (starEach es X.env)).any (·.1)=false:=by rfl):PE X (.Call (.Name x p) (e::es) [] pos) (tCB r t):=by
 intro pins s σ H Q I h
 refine wpAny_Call_Name_kw (ld_blt I hg hm hv ?_ hn hdb)
 exact PyProof.Rows.callWith_type1 (thn (ha pos pins s σ H _ I h) fun us s1 ⟨vs,H1,I1,r1,q1⟩=>hc pins s1 σ H1 vs us Q I1 r1 q1) he hpl
end
end L2
namespace HT
open PySem PyProof.Rows
section
open PySem.SeqAt
open PySem.AutoSeq1 (wpAny_loadPart')
open PySem.MeetsSeq PySem.MeetsSeq2 PySem.MeetsSeq3
end
section
variable{prog:Program}{w:World}{A:Around}{E:Value→Shared→Prop}{s:Shared}
theorem cat_tup{t b:Addr}{vs ws:List Value}{Q:Value→Shared→Prop}(ht:IsTup s.heap t vs.toArray)(hb:IsTup s.heap b ws.toArray)(hv:vs≠[])
  (h1:ws=[]→Q (.ref t) s) (h2:ws≠[]→Q (.ref s.heap.objs.size) { s with heap:=s.heap.push { cls:=.type "tuple",data:=.seq (vs++ws).toArray } })
  (hsz:vs.length+ws.length≤sizeLine):wpAny (model prog w) A (binaryOp .Add (.ref t) (.ref b)) Q E s:=by
 obtain⟨⟨cls,dd,data,sl⟩,ho,hc,n,hd⟩:=id ht
 obtain⟨⟨cls2,dd2,data2,sl2⟩,ho2,hc2,n2,hd2⟩:=id hb
 simp only at hc hd hc2 hd2
 subst hc hd hc2 hd2
 have e:vs.toArray++ws.toArray=(vs++ws).toArray:=by simp
 by_cases hw:ws=[]
 ·exact concat_meets ⟨_,ho,rfl⟩ ⟨_,ho2,rfl⟩ noFill_tuple_add seq_tuple_add PySem.F.slot_tuple_add PySem.F.entry_tuple_add (PySem.F.args_tuple_add_2 _ _)
   (tuple_addW1 t b vs.toArray ws.toArray n n2 dd dd2 sl sl2 (by simpa using hv) (by simp[hw])) ⟨ho,ho2,h1 hw⟩
 ·refine concat_meets ⟨_,ho,rfl⟩ ⟨_,ho2,rfl⟩ noFill_tuple_add seq_tuple_add PySem.F.slot_tuple_add PySem.F.entry_tuple_add (PySem.F.args_tuple_add_2 _ _)
   (tuple_addW2 t b vs.toArray ws.toArray n n2 dd dd2 sl sl2 (by simpa using hv) (by simpa using hw) (by rw[List.size_toArray,List.size_toArray]; exact hsz)) ⟨ho,ho2,?_⟩
  rw[e]
  exact h2 hw
def sIx(n d:Nat):Option Int→Nat
 | none=>d
 | some v=>if v<0 then(v+(n:Int)).toNat else min v.toNat n
theorem sIx_le(n d:Nat)(hd:d≤n)(o:Option Int):sIx n d o≤n:=by
 cases o with
 | none=>exact hd
 | some v=>
  show(if v<0 then(v+(n:Int)).toNat else min v.toNat n)≤n
  by_cases hv:v<0
  ·rw[if_pos hv]; omega
  ·rw[if_neg hv]; exact Nat.min_le_right _ _
theorem clip_eq(v:Int)(n d:Nat):(if v<0 then max (v+(n:Int)) 0 else min v (n:Int))=((sIx n d (some v):Nat):Int):=by
 show(if v<0 then max (v+(n:Int)) 0 else min v (n:Int))=(((if v<0 then(v+(n:Int)).toNat else min v.toNat n):Nat):Int)
 by_cases hv:v<0
 ·simp only[if_pos hv]; omega
 ·simp only[if_neg hv]; omega
theorem adjust_gen(lo hi:Option Int)(n:Nat):Builtin.Slice.sliceAdjust lo hi 1 (n:Int)=(((sIx n 0 lo:Nat):Int),((sIx n n hi:Nat):Int)):=by
 have h1:¬ ((1:Int)<0):=by omega
 unfold Builtin.Slice.sliceAdjust
 simp only[h1,if_false]
 refine Prod.ext ?_ ?_
 ·cases lo with
  | none=>rfl
  | some v=>exact clip_eq v n 0
 ·cases hi with
  | none=>rfl
  | some v=>exact clip_eq v n n
theorem places_gen(i j:Nat):Builtin.Slice.slicePlaces (i:Int) (j:Int) 1=j-i:=by
 unfold Builtin.Slice.slicePlaces
 have h1:(1:Int)>0:=by omega
 simp only[h1,if_true,Int.ediv_one]
 split<;>omega
theorem slicePart_{v:Value}{o:Option Int}{Q:Option Int→Shared→Prop}(p:IsPart v o)(h:Q o s):wpAny (model prog w) A (Builtin.Slice.slicePartIndex v) Q E s:=by
 cases p with
 | none=>exact slicePart_none h
 | int i t=>exact slicePart_int h
theorem sliceApplied_gen{sl:Addr}{vl vu:Value}{lo hi:Option Int}{n:Nat}{Q:Int×Int×Nat→Shared→Prop}(hs:s.heap.IsSliceOf sl vl vu .none)(pl:IsPart vl lo)(pu:IsPart vu hi)
  (h:Q (((sIx n 0 lo:Nat):Int),1,sIx n n hi-sIx n 0 lo) s):wpAny (model prog w) A (Builtin.Slice.sliceApplied (.ref sl) (pure (n:Int))) Q E s:=by
 obtain⟨os,hos,hcs,hds⟩:=id hs
 unfold Builtin.Slice.sliceApplied Builtin.Slice.sliceFields
 refine wpAny_bind (wpAny_bind (wpAny_field hos hds (x:=vl) rfl (wpAny_bind (wpAny_field hos hds (x:=vu) rfl (wpAny_bind (wpAny_field hos hds (x:=.none) rfl (wpAny_pure ?_)))))))
 refine wpAny_bind (slicePart_none ?_)
 show wpAny _ _ (if((1:Int)==0)=true then _ else _) _ _ s
 rw[if_neg (by decide)]
 refine wpAny_bind (slicePart_ pl (wpAny_bind (slicePart_ pu (wpAny_bind (wpAny_pure ?_)))))
 show wpAny _ _ (match Builtin.Slice.sliceAdjust lo hi 1 (n:Int) with | (lo,hi)=>pure (lo,(1:Int),Builtin.Slice.slicePlaces lo hi 1)) _ _ s
 rw[adjust_gen lo hi n]
 show wpAny _ _ (pure (((sIx n 0 lo:Nat):Int),(1:Int),Builtin.Slice.slicePlaces ((sIx n 0 lo:Nat):Int) ((sIx n n hi:Nat):Int) 1)) _ _ s
 rw[places_gen]
 exact wpAny_pure h
theorem pick_gen(xs:Array Value)(i k:Nat):((List.range k).filterMap fun(m:Nat)=>xs[((i:Int)+(m:Int)*1).toNat]?).toArray=((xs.toList.drop i).take k).toArray:=by
 have e:(fun(m:Nat)=>xs[((i:Int)+(m:Int)*1).toNat]?)=fun m=>xs[i+m]?:=by
  funext m
  have:((i:Int)+(m:Int)*1).toNat=i+m:=by omega
  rw[this]
 rw[e]
 have:=pick_run xs i k
 rw[List.filterMap_map] at this
 have e2:((fun x=>xs[x]?)∘fun x=>i+x)=fun m=>xs[i+m]?:=rfl
 rw[e2] at this
 rw[this]
theorem getItem_tuple_cut{t sl:Addr}{items:Array Value}{vl vu:Value}{lo hi:Option Int}{Q:Value→Shared→Prop}(ht:IsTup s.heap t items)(hs:s.heap.IsSliceOf sl vl vu .none)(pl:IsPart vl lo)(pu:IsPart vu hi)
  (hw:¬ (sIx items.size 0 lo=0∧sIx items.size items.size hi=items.size))
  (h:Q (.ref s.heap.objs.size) { s with heap:=s.heap.push { cls:=.type "tuple",data:=.seq ((items.toList.drop (sIx items.size 0 lo)).take (sIx items.size items.size hi-sIx items.size 0 lo)).toArray } })
  (hsz:items.size≤sizeLine):wpAny (model prog w) A (getItem (.ref t) (.ref sl)) Q E s:=by
 have htake:sizeOk (.seq ((items.toList.drop (sIx items.size 0 lo)).take (sIx items.size items.size hi-sIx items.size 0 lo)).toArray):=by
  show((items.toList.drop (sIx items.size 0 lo)).take (sIx items.size items.size hi-sIx items.size 0 lo)).toArray.size≤sizeLine
  rw[List.size_toArray,List.length_take,List.length_drop,Array.length_toList]
  omega
 have hj:sIx items.size items.size hi≤items.size:=sIx_le _ _ (Nat.le_refl _) hi
 obtain⟨os,hos,hcs,hds⟩:=id hs
 have hTs:s.TypeIs (.ref sl) "slice":=⟨os,hos,hcs⟩
 unfold getItem
 try with_reducible refine wpAny_holding ?_
 first | refine wpAny_bind (wpAny_pure ?_) | skip
 refine wpAny_bind (wpAny_sequenceKey ht.typeIs (by decide) ?_)
 refine wpAny_bind (wpAny_callSpecial?_slot (name:=Str.ofString "__getitem__") ht.typeIs PyProof.Rows.slot_tuple_getitem
  (wpAny_call_entry PyProof.Rows.slot_tuple_getitem ht.typeIs entry_tuple_getitem ?_ (args_tuple_getitem _ _)))
 show wpAny _ _ (Builtin.Tuple.tupleItemsOf (.ref t) >>= _) _ _ s
 refine wpAny_bind (tupleItemsOf_ ht ?_)
 refine wpAny_bind (wpAny_typeOf hTs ?_)
 rw[if_pos (by decide)]
 refine wpAny_bind (sliceApplied_gen hs pl pu ?_)
 have hno:¬ ((((sIx items.size 0 lo:Nat):Int)==0&&(1:Int)==1&&(sIx items.size items.size hi-sIx items.size 0 lo)==items.size)=true):=by
  intro q
  rw[Bool.and_eq_true,Bool.and_eq_true] at q
  have q1:((sIx items.size 0 lo:Nat):Int)=0:=eq_of_beq q.1.1
  have q2:sIx items.size items.size hi-sIx items.size 0 lo=items.size:=eq_of_beq q.2
  exact hw ⟨by omega,by omega⟩
 show wpAny _ _ (if(((sIx items.size 0 lo:Nat):Int)==0&&(1:Int)==1&&(sIx items.size items.size hi-sIx items.size 0 lo)==items.size)=true then _ else _) _ _ s
 rw[if_neg hno,pick_gen]
 first
  | exact wpAny_bind (m:=Builtin.Tuple.tupleExact _) (wpAny_newObj_type (wpAny_pure ⟨_,rfl,wpAny_pure h⟩) htake)
  | exact wpAny_bind (m:=Builtin.Tuple.tupleExact _) (wpAny_newObj_type (wpAny_bind (wpAny_pure (wpAny_pure ⟨_,rfl,wpAny_pure h⟩))) htake)
  | exact wpAny_bind (wpAny_bind (m:=Builtin.Tuple.tupleExact _) (wpAny_newObj_type (wpAny_pure (wpAny_pure ⟨_,rfl,wpAny_pure h⟩)) htake))
  | exact wpAny_bind (wpAny_bind (m:=Builtin.Tuple.tupleExact _) (wpAny_newObj_type (wpAny_pure ⟨_,rfl,wpAny_pure h⟩) htake))
end
end HT
namespace L2
open PySem PySem.Spec PyProof.Rows
abbrev TO:=St→Hp→(Option Int→Hp→Prop)→Prop
def PO(X:Cx)(e:Option Expr)(t:TO):Prop:=
 ∀ (pins:List (Addr×Obj)) (s:Shared) (σ:St) (H:Hp) (Q:Option Int→Hp→Prop),Inv X pins σ H s→t σ H Q→
  wpAny (model X.prog X.w) X.A (evalPart e X.env) (fun u s'=>∃ o H',Inv X pins σ H' s'∧IsPart u o∧Q o H') X.xe s
def tNoPart:TO:=fun _ H Q=>Q none H
def tPart(t:TE):TO:=fun σ H Q=>t σ H fun x H1=>∃ i,x=.int i∧Q (some i) H1
section
variable{X:Cx}{e:Expr}{te:TE}{lo hi:Option Expr}{tl th:TO}{pos p2:Pos}
theorem po_none:PO X none tNoPart:=by
 intro pins s σ H Q I h
 rw[evalPart_none]
 exact wpAny_pure ⟨none,H,I,.none,h⟩
theorem po_some(h:PE X e te):PO X (some e) (tPart te):=by
 intro pins s σ H Q I hw
 rw[evalPart_some]
 refine thn (h pins s σ H _ I hw) fun u s1 ⟨x,H1,I1,r1,q1⟩=>?_
 obtain⟨i,rfl,q⟩:=q1
 obtain⟨t,rfl⟩:=r1
 exact⟨some i,H1,I1,.int i t,q⟩
def SlR(X:Cx)(r:V→Option Int→Option Int→Hp→VK→Prop):Prop:=
 ∀ (pins:List (Addr×Obj)) (s:Shared) (σ:St) (H:Hp) (x:V) (v vl vu:Value) (lo hi:Option Int) (sl:Addr) (Q:VK),Inv X pins σ H s→RelV x v→s.heap.IsSliceOf sl vl vu .none→IsPart vl lo→IsPart vu hi→r x lo hi H Q→
  ∃ T id,typeLookup (.type T) "__getitem__"=pure (some (.builtin id))∧s.TypeIs v T∧wpAny (model X.prog X.w) X.A (getItem v (.ref sl)) (EP X pins σ Q) X.xe s
theorem SlR.or{r r':V→Option Int→Option Int→Hp→VK→Prop}(h:SlR X r)(h':SlR X r'):SlR X (fun x lo hi H Q=>r x lo hi H Q∨r' x lo hi H Q):=by
 intro pins s σ H x v vl vu lo hi sl Q I rx hs pl pu q
 rcases q with q | q
 ·exact h pins s σ H x v vl vu lo hi sl Q I rx hs pl pu q
 ·exact h' pins s σ H x v vl vu lo hi sl Q I rx hs pl pu q
def tSl(r:V→Option Int→Option Int→Hp→VK→Prop)(te:TE)(tl th:TO):TE:=fun σ H Q=>te σ H fun x H1=>tl σ H1 fun l H2=>th σ H2 fun u H3=>r x l u H3 Q
theorem pe_slice{r:V→Option Int→Option Int→Hp→VK→Prop}(hr:SlR X r)(he:PE X e te)(hl:PO X lo tl)(hu:PO X hi th):PE X (.Subscript e (.Slice lo hi none p2) pos) (tSl r te tl th):=by
 intro pins s σ H Q I h
 refine Subscript_ (thn (he pins s σ H _ I h) fun v s1 ⟨x,H1,I1,r1,q1⟩=>?_)
 refine wpAny_Slice (thn (hl pins s1 σ H1 _ I1 q1) fun vl s2 ⟨l,H2,I2,pl,q2⟩=>thn (hu pins s2 σ H2 _ I2 q2) fun vu s3 ⟨u,H3,I3,pu,q3⟩=>?_)
 rw[evalPart_none]
 refine wpAny_pure ?_
 have I4:Inv X pins σ H3 { s3 with heap:=s3.heap.push { cls:=.type "slice",data:=.fields #[vl,vu,.none] } }:=I3.kept (t':=s3.toks) fun b ob q=>Heap.get?_push_of_some _ q
 obtain⟨T,id,hT,ht,hg⟩:=hr pins { s3 with heap:=s3.heap.push { cls:=.type "slice",data:=.fields #[vl,vu,.none] } } σ H3 x v vl vu l u s3.heap.objs.size Q I4 r1 (Heap.IsSliceOf.new ..) pl pu q3
 show wpAny (model X.prog X.w) X.A (subscriptTail e (.Slice lo hi none p2) v (.ref s3.heap.objs.size)) (EP X pins σ Q) X.xe { s3 with heap:=s3.heap.push { cls:=.type "slice",data:=.fields #[vl,vu,.none] } }
 exact tail_any (ops:=[.ref s3.heap.objs.size,v]) ht hT hg (by with_unfolding_all rfl)
def cutV(xs:List V)(lo hi:Option Int):List V:=(xs.drop (HT.sIx xs.length 0 lo)).take (HT.sIx xs.length xs.length hi-HT.sIx xs.length 0 lo)
theorem cutV_length(xs:List V)(lo hi:Option Int):(cutV xs lo hi).length≤xs.length:=by
 unfold cutV
 rw[List.length_take,List.length_drop]
 omega
def rSlT(K:PySem.W.Frag):V→Option Int→Option Int→Hp→VK→Prop:=fun x lo hi H Q=>∃ a xs,x=.ref a∧SqT K H a xs∧
 ¬ (HT.sIx xs.length 0 lo=0∧HT.sIx xs.length xs.length hi=xs.length)∧∀ p,H p=none→Q (.ref p) (upd H p (.tup (cutV xs lo hi)))
theorem sl_tup:SlR X (rSlT X.K):=by
 intro pins s σ H x v vl vu lo hi sl Q I rx hs pl pu h
 obtain⟨a,xs,rfl,hx,hw,q⟩:=h
 cases rx
 obtain⟨its,r,ht,hz⟩:=I.tuple hx
 have hlen:its.toArray.size=xs.length:=by rw[List.size_toArray]; exact r.length.symm
 refine⟨"tuple",_,PyProof.Rows.slot_tuple_getitem.lookup,ht.typeIs,?_⟩
 refine HT.getItem_tuple_cut ht hs pl pu (by rw[hlen]; exact hw) ?_ (by rw[hlen]; exact hz)
 rw[hlen]
 refine⟨.ref s.heap.objs.size,_,I.laid (t':=s.toks) (o:=.tup (cutV xs lo hi)) (fun b ob q=>Heap.get?_push_of_some _ q) (Nat.le_refl _) ?_,rfl,q _ (I.hok.fresh (Nat.le_refl _))⟩
 exact⟨Nat.le_trans (cutV_length xs lo hi) hz,_,(r.drop (HT.sIx xs.length 0 lo)).take (HT.sIx xs.length xs.length hi-HT.sIx xs.length 0 lo),IsTup.new _ _⟩
def rCatT(K:PySem.W.Frag):R2:=fun x y H Q=>∃ a b xs ys,x=.ref a∧y=.ref b∧SqT K H a xs∧SqT K H b ys∧xs≠[]∧xs.length+ys.length≤sizeLine∧
 (ys=[]→Q (.ref a) H)∧(ys≠[]→∀ p,H p=none→Q (.ref p) (upd H p (.tup (xs++ys))))
theorem Vals.nil_iff{xs:List V}{us:List Value}(r:Vals xs us):us=[]↔xs=[]:=by
 cases r with
 | nil=>simp
 | cons _ _=>simp
theorem op_catT:OpR X (binaryOp .Add) (rCatT X.K):=by
 intro pins s σ H x y v u Q I rx ry h
 obtain⟨a,b,xs,ys,rfl,rfl,ha,hb,hx,hz,q1,q2⟩:=h
 cases rx
 cases ry
 obtain⟨its,r1,p1,_⟩:=I.tuple ha
 obtain⟨its2,r2,p2,_⟩:=I.tuple hb
 refine HT.cat_tup p1 p2 (fun z=>hx (r1.nil_iff.mp z)) (fun z=>⟨.ref a,H,I,rfl,q1 (r2.nil_iff.mp z)⟩) (fun z=>?_) (by rw[←r1.length,←r2.length]; exact hz)
 refine⟨.ref s.heap.objs.size,_,I.laid (t':=s.toks) (o:=.tup (xs++ys)) (fun b ob q=>Heap.get?_push_of_some _ q) (Nat.le_refl _) ?_,rfl,q2 (fun w=>z (r2.nil_iff.mpr w)) _ (I.hok.fresh (Nat.le_refl _))⟩
 exact⟨by rw[List.length_append]; exact hz,_,r1.append r2,IsTup.new _ _⟩
end
end L2
namespace L2
open PySem PySem.Spec PyProof.Rows
def ixN(n:Nat)(i:Int):Option Nat:=if 0≤i then(if i<n then some i.toNat else none) else if -(n:Int)≤i then some (i+n).toNat else none
def atI{α:Type}(xs:List α)(i:Int):Option α:=(ixN xs.length i).bind fun j=>xs[j]?
theorem ixN_seq{n:Nat}{i:Int}{j:Nat}(h:ixN n i=some j):seqIndex? i n=some j∧j<n ∧ -(n:Int)≤i∧i<n:=by
 unfold ixN at h
 by_cases h0:0≤i
 ·rw[if_pos h0] at h
  by_cases h1:i<n
  ·rw[if_pos h1] at h
   have e:i.toNat=j:=Option.some.inj h
   exact⟨by rw[seqIndex_of h0 h1,e],by omega,by omega,h1⟩
  ·rw[if_neg h1] at h; cases h
 ·rw[if_neg h0] at h
  by_cases h1 : -(n:Int)≤i
  ·rw[if_pos h1] at h
   have e:(i+n).toNat=j:=Option.some.inj h
   exact⟨by rw[seqIndex_neg (by omega) h1,e],by omega,h1,by omega⟩
  ·rw[if_neg h1] at h; cases h
theorem atI_get{α:Type}{xs:List α}{i:Int}{v:α}(h:atI xs i=some v):∃ j,seqIndex? i xs.length=some j∧xs[j]?=some v∧j<xs.length ∧ -(xs.length:Int)≤i∧i<xs.length:=by
 unfold atI at h
 cases e:ixN xs.length i with
 | none=>rw[e] at h; cases h
 | some j=>
  rw[e] at h
  obtain⟨h1,h2,h3,h4⟩:=ixN_seq e
  exact⟨j,h1,h,h2,h3,h4⟩
def PlainIx(b:Expr):Prop:=∀ o i,subscripted b false o i=operate [o,i] (getItem o i)
def IxR(X:Cx)(r:R2):Prop:=
 ∀ (value slice:Expr) (pins:List (Addr×Obj)) (s:Shared) (σ:St) (H:Hp) (x y:V) (v u:Value) (Q:VK),Inv X pins σ H s→RelV x v→RelV y u→r x y H Q→
  subscripted slice false v u=operate [v,u] (getItem v u)→wpAny (model X.prog X.w) X.A (subscriptTail value slice v u) (EP X pins σ Q) X.xe s
def MtR(X:Cx)(id:String)(r:V→List V→Hp→VK→Prop):Prop:=
 ∀ (pins:List (Addr×Obj)) (s:Shared) (σ:St) (H:Hp) (x:V) (xs:List V) (v:Value) (us:List Value) (Q:VK),Inv X pins σ H s→RelV x v→Vals xs us→r x xs H Q→
  wpAny (model X.prog X.w) X.A (call (.builtin id) (v::us)) (EP X pins σ Q) X.xe s
section
variable{X:Cx}{a b:Expr}{ta tb:TE}{pos:Pos}
theorem IxR.or{r r':R2}(h:IxR X r)(h':IxR X r'):IxR X (fun x y H Q=>r x y H Q∨r' x y H Q):=by
 intro value slice pins s σ H x y v u Q I rx ry q hs
 rcases q with q | q
 ·exact h value slice pins s σ H x y v u Q I rx ry q hs
 ·exact h' value slice pins s σ H x y v u Q I rx ry q hs
theorem pe_ix{r:R2}(hr:IxR X r)(ha:PE X a ta)(hb:PE X b tb)(hs:PlainIx b):PE X (.Subscript a b pos) (tOp r ta tb):=by
 intro pins s σ H Q I h
 exact Subscript_ (binT ha hb I h fun v u s2 x y H2 I2 rx ry q=>hr a b pins s2 σ H2 x y v u Q I2 rx ry q (hs _ _))
def rIxL(K:PySem.W.Frag):R2:=fun x y H Q=>∃ p xs i v,x=.ref p∧y=.int i∧SqL K H p xs∧atI xs i=some v∧Q v H
def rIxT(K:PySem.W.Frag):R2:=fun x y H Q=>∃ p xs i v,x=.ref p∧y=.int i∧SqT K H p xs∧atI xs i=some v∧Q v H
def rIxS:R2:=fun x y H Q=>∃ z i c,x=.str z∧y=.int i∧z.length≤sizeLine∧atI z.cps.toList i=some c∧Q (.str ⟨#[c]⟩) H
theorem ix_list:IxR X (rIxL X.K):=by
 intro value slice pins s σ H x y v u Q I rx ry h hs
 obtain⟨p,xs,i,z,rfl,rfl,hq,he,q⟩:=h
 cases rx
 obtain⟨t,rfl⟩:=ry
 obtain⟨its,r,pl,hz⟩:=I.list hq
 obtain⟨j,h1,h2,h3,h4,h5⟩:=atI_get he
 obtain⟨w,ew,rw'⟩:=r.get h2
 have hl:=r.length
 have hn:=line63
 have fin:EP X pins σ Q w s:=⟨z,H,I,rw',q⟩
 by_cases h0:0≤i
 ·have hj:i.toNat=j:=by
   rw[seqIndex_of h0 h5] at h1
   exact Option.some.inj h1
  exact item_listR pl.isList h0 (by omega) (by rw[hj]; simpa using ew) fin hs
 ·have hj:(i+(its.toArray.size:Int)).toNat=j:=by
   rw[seqIndex_neg (by omega) h4] at h1
   rw[List.size_toArray,←hl]
   exact Option.some.inj h1
  exact subscriptTail_builtinR (x:=w) pl.isList.typeIs slot_list_getitem.lookup
   (wpAny_getItem_list_neg (Q:=fun r s'=>r=w∧EP X pins σ Q r s') pl.isList (by omega) (by rw[List.size_toArray]<;>omega) (by omega) (by rw[hj]; simpa using ew) ⟨rfl,fin⟩) hs
theorem ix_tup:IxR X (rIxT X.K):=by
 intro value slice pins s σ H x y v u Q I rx ry h hs
 obtain⟨p,xs,i,z,rfl,rfl,hq,he,q⟩:=h
 cases rx
 obtain⟨t,rfl⟩:=ry
 obtain⟨its,r,pl,hz⟩:=I.tuple hq
 obtain⟨j,h1,h2,h3,h4,h5⟩:=atI_get he
 obtain⟨w,ew,rw'⟩:=r.get h2
 have hl:=r.length
 have hn:=line63
 have fin:EP X pins σ Q w s:=⟨z,H,I,rw',q⟩
 exact subscriptTail_builtinR (x:=w) pl.typeIs slot_tuple_getitem.lookup
  (getItem_tuple (j:=j) (Q:=fun r s'=>r=w∧EP X pins σ Q r s') pl (by omega) (by omega) (by rw[List.size_toArray,←hl]; exact h1) (by simpa using ew) ⟨rfl,fin⟩) hs
theorem ix_str:IxR X rIxS:=by
 intro value slice pins s σ H x y v u Q I rx ry h hs
 obtain⟨z,i,c,rfl,rfl,hz,he,q⟩:=h
 obtain⟨t,rfl⟩:=rx
 obtain⟨t',rfl⟩:=ry
 obtain⟨j,h1,h2,h3,h4,h5⟩:=atI_get he
 have hl:z.cps.toList.length=z.length:=by simp[Str.length]
 rw[hl] at h1 h4 h5
 have hn:=line63
 exact tail_any (typeIs_str s z t) slot_str_getitem.lookup (getItem_str (c:=c) (by
  have e1:decide (i < -(2^63:Int))=false:=decide_eq_false (by omega)
  have e2:decide (i≥2^63)=false:=decide_eq_false (by omega)
  rw[e1,e2,Bool.or_false]) (by rw[h1]; simpa using h2) ⟨.str ⟨#[c]⟩,H,I.tok _,⟨_,rfl⟩,q⟩) hs
def rIx(K:PySem.W.Frag):R2:=fun x y H Q=>rIxL K x y H Q∨rIxT K x y H Q∨rIxS x y H Q
theorem ix_seq:IxR X (rIx X.K):=ix_list.or (ix_tup.or ix_str)
theorem mapSeq_set(its:List Value)(n j:Nat)(u:Value):Obj.mapSeq (·.setIfInBounds j u) { cls:=.type "list",data:=.seq its.toArray n }={ cls:=.type "list",data:=.seq (its.set j u).toArray n }:=by
 simp[Obj.mapSeq]
theorem Inv.lst{pins:List (Addr×Obj)}{σ:St}{H:Hp}{s:Shared}{p:Addr}{xs:List V}(I:Inv X pins σ H s)(h:H p=some (.lst xs)):
  ∃ (its:List Value) (n:Nat),Vals xs its∧s.heap.get? p=some { cls:=.type "list",data:=.seq its.toArray n }∧xs.length≤sizeLine:=by
 obtain⟨z,its,n,r,e⟩:=I.hok p _ h
 exact⟨its,n,r,e,z⟩
theorem Inv.lstUpd{pins:List (Addr×Obj)}{σ:St}{H:Hp}{s:Shared}{p:Addr}{xs ys:List V}{its its':List Value}{n n':Nat}{f:Obj→Obj}(I:Inv X pins σ H s)(h:H p=some (.lst xs))
  (ho:s.heap.get? p=some { cls:=.type "list",data:=.seq its.toArray n }) (hf:f { cls:=.type "list",data:=.seq its.toArray n }={ cls:=.type "list",data:=.seq its'.toArray n' }) (r:Vals ys its') (hz:ys.length≤sizeLine) (t:Nat):
  Inv X pins σ (upd H p (.lst ys)) { s with heap:=s.heap.update p f,toks:=t }:=by
 have e:(s.heap.update p f).get? p=some { cls:=.type "list",data:=.seq its'.toArray n' }:=by
  rw[Heap.get?_update_self f ho (by rw[hf]<;>rfl),hf]
 refine I.write (x:=p) (e:=p) (by rw[h]; trivial) (.inl rfl) (fun b u hb q=>(Heap.get?_update_other _ _ (Ne.symm hb)).trans q) ⟨_,e⟩ ?_
 exact⟨hz,its',n',r,e⟩
def rSetL:V→V→V→Hp→(Hp→Prop)→Prop:=fun o i v H Q=>∃ p xs k j,o=.ref p∧i=.int k∧H p=some (.lst xs)∧ixN xs.length k=some j∧Q (upd H p (.lst (xs.set j v)))
theorem set_list:PSet X rSetL:=by
 intro pins s σ H o i v ov iv u Q I ro ri rv h
 obtain⟨p,xs,k,j,rfl,rfl,hp,hj,q⟩:=h
 cases ro
 obtain⟨t,rfl⟩:=ri
 obtain⟨its,n,r,ho,hz⟩:=I.lst hp
 obtain⟨h1,h2,h3,h4⟩:=ixN_seq hj
 have hl:=r.length
 have hn:=line63
 have I':Inv X pins σ (upd H p (.lst (xs.set j v))) { s with heap:=s.heap.update p (Obj.mapSeq (·.setIfInBounds j u)) }:=
  I.lstUpd hp ho (mapSeq_set its n j u) (r.set rv j) (by rw[List.length_set]; exact hz) s.toks
 by_cases h0:0≤k
 ·have hk:k.toNat=j:=by
   rw[seqIndex_of h0 h4] at h1
   exact Option.some.inj h1
  exact PySem.W.ki_setAt ho h0 (by omega) (by rw[List.size_toArray,←hl]; exact h4) (by rw[hk]; exact⟨_,I',q⟩)
 ·have hk:(k+(its.toArray.size:Int)).toNat=j:=by
   rw[seqIndex_neg (by omega) h3] at h1
   rw[List.size_toArray,←hl]
   exact Option.some.inj h1
  exact PySem.W.ki_setBack ho (by omega) (by rw[List.size_toArray,←hl]; exact h3) (by omega) (by rw[hk]; exact⟨_,I',q⟩)
theorem slice_bounds(lo hi:Option Int)(n:Nat):(sliceBounds lo hi none n).1=((HT.sIx n 0 lo:Nat):Int)∧(sliceBounds lo hi none n).2.1=((HT.sIx n n hi:Nat):Int)∧(sliceBounds lo hi none n).2.2=1:=by
 refine⟨?_,?_,rfl⟩
 ·cases lo with
  | none=>simp[sliceBounds,HT.sIx]
  | some i=>
   simp only[sliceBounds,HT.sIx,Option.getD_none,show(1:Int)>0 by decide,if_true]
   by_cases h:i<0
   ·simp only[h,if_true]<;>omega
   ·simp only[h,if_false]<;>omega
 ·cases hi with
  | none=>simp[sliceBounds,HT.sIx]
  | some i=>
   simp only[sliceBounds,HT.sIx,Option.getD_none,show(1:Int)>0 by decide,if_true]
   by_cases h:i<0
   ·simp only[h,if_true]<;>omega
   ·simp only[h,if_false]<;>omega
theorem slicePick_cut(its:List Value)(lo hi:Option Int):slicePick its.toArray lo hi none=((its.drop (HT.sIx its.length 0 lo)).take (HT.sIx its.length its.length hi-HT.sIx its.length 0 lo)).toArray:=by
 obtain⟨h1,h2,h3⟩:=slice_bounds lo hi its.toArray.size
 unfold slicePick
 rw[h1,h2,h3]
 simp only[sliceRange_one,pick_run,List.size_toArray]<;>rfl
def rSlL(K:PySem.W.Frag):V→Option Int→Option Int→Hp→VK→Prop:=fun x lo hi H Q=>∃ a xs,x=.ref a∧SqL K H a xs∧∀ p,H p=none→Q (.ref p) (upd H p (.lst (cutV xs lo hi)))
theorem sl_list:SlR X (rSlL X.K):=by
 intro pins s σ H x v vl vu lo hi sl Q I rx hs pl pu h
 obtain⟨a,xs,rfl,hx,q⟩:=h
 cases rx
 obtain⟨its,r,ht,hz⟩:=I.list hx
 have hlen:=r.length
 refine⟨"list",_,slot_list_getitem.lookup,ht.isList.typeIs,?_⟩
 refine wpAny_getItem_list_slice ht.isList hs pl pu .none (by simp) ?_ (by rw[List.size_toArray]<;>omega)
 rw[slicePick_cut,←hlen]
 refine⟨.ref s.heap.objs.size,_,I.laid (t':=s.toks) (o:=.lst (cutV xs lo hi)) (fun b ob q=>Heap.get?_push_of_some _ q) (Nat.le_refl _) ?_,rfl,q _ (I.hok.fresh (Nat.le_refl _))⟩
 exact⟨Nat.le_trans (cutV_length xs lo hi) hz,_,0,(r.drop (HT.sIx xs.length 0 lo)).take (HT.sIx xs.length xs.length hi-HT.sIx xs.length 0 lo),Heap.get?_push_size _ rfl⟩
def flatV:V→Bool
 | .non=>true
 | .bl _=>true
 | .int _=>true
 | .str _=>true
 | _=>false
def eqV:V→V→Bool
 | .non,.non=>true
 | .bl a,.bl b=>a==b
 | .bl a,.int b=>(if a then 1 else 0)==b
 | .int a,.bl b=>a==(if b then 1 else 0)
 | .int a,.int b=>a==b
 | .str a,.str b=>a==b
 | _,_=>false
theorem eqAt_V{A:Around}{s:Shared}{y x:V}{u v:Value}(ry:RelV y u)(rx:RelV x v)(fy:flatV y=true)(fx:flatV x=true):SeqAt.EqAt A s u v (eqV y x):=by
 cases y with
 | non=>
  cases ry
  cases x with
  | non=>cases rx; exact SeqAt.EqAt.same _
  | bl b=>cases rx; exact SeqAt.EqAt.none_bool b
  | int b=>obtain⟨t,rfl⟩:=rx; exact SeqAt.EqAt.none_int b t
  | str b=>obtain⟨t,rfl⟩:=rx; exact SeqAt.EqAt.none_str b t
  | _=>exact absurd (show false=true from fx) Bool.false_ne_true
 | bl a=>
  cases ry
  cases x with
  | non=>cases rx; exact SeqAt.EqAt.bool_none a
  | bl b=>cases rx; exact SeqAt.EqAt.bool_bool a b
  | int b=>obtain⟨t,rfl⟩:=rx; exact SeqAt.EqAt.bool_int a b t
  | str b=>obtain⟨t,rfl⟩:=rx; exact SeqAt.EqAt.bool_str a b t
  | _=>exact absurd (show false=true from fx) Bool.false_ne_true
 | int a=>
  obtain⟨t',rfl⟩:=ry
  cases x with
  | non=>cases rx; exact SeqAt.EqAt.int_none a t'
  | bl b=>cases rx; exact SeqAt.EqAt.int_bool a t' b
  | int b=>obtain⟨t,rfl⟩:=rx; exact SeqAt.EqAt.int_int a t' b t
  | str b=>obtain⟨t,rfl⟩:=rx; exact SeqAt.EqAt.int_str a t' b t
  | _=>exact absurd (show false=true from fx) Bool.false_ne_true
 | str a=>
  obtain⟨t',rfl⟩:=ry
  cases x with
  | non=>cases rx; exact SeqAt.EqAt.str_none a t'
  | bl b=>cases rx; exact SeqAt.EqAt.str_bool a t' b
  | int b=>obtain⟨t,rfl⟩:=rx; exact SeqAt.EqAt.str_int a t' b t
  | str b=>obtain⟨t,rfl⟩:=rx; exact SeqAt.EqAt.str_str a t' b t
  | _=>exact absurd (show false=true from fx) Bool.false_ne_true
 | _=>exact absurd (show false=true from fy) Bool.false_ne_true
def eqU(x:V)(u:Value):Bool:=match u with
 | .none=>eqV .non x
 | .bool b=>eqV (.bl b) x
 | .int i _=>eqV (.int i) x
 | .str z _=>eqV (.str z) x
 | _=>false
theorem eqU_of{x y:V}{u:Value}(r:RelV y u)(f:flatV y=true):eqU x u=eqV y x:=by
 cases y with
 | non=>cases r; rfl
 | bl b=>cases r; rfl
 | int i=>obtain⟨t,rfl⟩:=r; rfl
 | str z=>obtain⟨t,rfl⟩:=r; rfl
 | _=>exact absurd (show false=true from f) Bool.false_ne_true
theorem any_eqU{x:V}:∀ {xs:List V} {us:List Value},Vals xs us→xs.all flatV=true→us.any (eqU x)=xs.any fun y=>eqV y x
 | _,_,.nil,_=>rfl
 | y::xs,u::us,.cons r t,f=>by
  rw[List.all_cons,Bool.and_eq_true] at f
  rw[List.any_cons,List.any_cons,eqU_of r f.1,any_eqU t f.2]
theorem mem_eqAt{A:Around}{s:Shared}{x:V}{v:Value}(rx:RelV x v)(fx:flatV x=true):∀ {xs:List V} {us:List Value},Vals xs us→xs.all flatV=true→∀ u∈us,SeqAt.EqAt A s u v (eqU x u)
 | _,_,.nil,_=>fun u hu=>by cases hu
 | y::xs,u::us,.cons r t,f=>fun u' hu=>by
  rw[List.all_cons,Bool.and_eq_true] at f
  rcases List.mem_cons.mp hu with rfl | hu
  ·rw[eqU_of r f.1]; exact eqAt_V r rx f.1 fx
  ·exact mem_eqAt rx fx t f.2 u' hu
def inV(x:V)(xs:List V):Bool:=xs.any fun y=>eqV y x
def rIn(K:PySem.W.Frag)(neg:Bool):R2:=fun x y H Q=>∃ p xs,y=.ref p∧(SqL K H p xs∨SqT K H p xs)∧flatV x=true∧xs.all flatV=true∧Q (.bl (if neg then !inV x xs else inV x xs)) H
theorem op_in_seq:OpR X (compareOp .In) (rIn X.K false):=by
 intro pins s σ H x y v u Q I rx ry h
 obtain⟨p,xs,rfl,hq,fx,fs,q⟩:=h
 cases ry
 rcases hq with hq | hq
 ·obtain⟨its,r,pl,hz⟩:=I.list hq
  refine SeqAt.in_listAt (eqU x) pl.isList (fun w hw=>mem_eqAt rx fx r fs w (by simpa using hw)) ⟨.bl _,H,I,rfl,?_⟩
  rw[show its.toArray.any (eqU x)=its.any (eqU x) by simp,any_eqU r fs]
  exact q
 ·obtain⟨its,r,pl,hz⟩:=I.tuple hq
  refine SeqAt.in_tupleAt (eqU x) pl (fun w hw=>mem_eqAt rx fx r fs w (by simpa using hw)) ⟨.bl _,H,I,rfl,?_⟩
  rw[show its.toArray.any (eqU x)=its.any (eqU x) by simp,any_eqU r fs]
  exact q
theorem call_list_of:CallR X (.type "list") (fun xs H Q=>∃ p ys,xs=[.ref p]∧(SqL X.K H p ys∨SqT X.K H p ys)∧∀ l,H l=none→Q (.ref l) (upd H l (.lst ys))):=by
 intro pins s σ H xs us Q I r h
 obtain⟨p,ys,rfl,hq,q⟩:=h
 obtain⟨u,rfl,rx⟩:=vals1 r
 cases rx
 have fin:∀ (its:List Value),Vals ys its→ys.length≤sizeLine→∀ (h':Heap) (c':Nat),(∀ b o',s.heap.get? b=some o'→h'.get? b=some o')→
   h'.get? s.heap.objs.size=some { cls:=.type "list",dict:=none,data:=.seq its.toArray c',slots:=#[] }→EP X pins σ Q (.ref s.heap.objs.size) { s with heap:=h' }:=fun its r' hz h' c' kp e=>
  ⟨.ref s.heap.objs.size,_,I.laid (t':=s.toks) kp (Nat.le_refl _) (show ObjOk X.prog X.w _ h' _ (.lst ys) from⟨hz,its,c',r',e⟩),rfl,q _ (I.hok.fresh (Nat.le_refl _))⟩
 rcases hq with hq | hq
 ·obtain⟨its,r',pl,hz⟩:=I.list hq
  have hlen:=r'.length
  obtain⟨o,ho,hc,n,hd⟩:=pl.isList
  exact call_list_seq p (.inl rfl) ho hc hd (fun h' c' kp e=>fin its r' hz h' c' kp e) (by simp only[List.size_toArray]<;>omega)
 ·obtain⟨its,r',pl,hz⟩:=I.tuple hq
  have hlen:=r'.length
  obtain⟨o,ho,hc,n,hd⟩:=pl
  exact call_list_seq p (.inr rfl) ho hc hd (fun h' c' kp e=>fin its r' hz h' c' kp e) (by simp only[List.size_toArray]<;>omega)
def tyV(K:PySem.W.Frag)(T:String)(x:V)(H:Hp):Prop:=match x with
 | .str _=>T="str"
 | .int _=>T="int"
 | .ref p=>(T="list"∧∃ xs,SqL K H p xs)∨(T="tuple"∧∃ o,K.lookup p=some o∧o.cls=.type "tuple"∧o.dict=none)∨
   (T="dict"∧((∃ kvs,H p=some (.dK kvs))∨∃ kvs,H p=some (.dT kvs)))∨(T="set"∧∃ S n,H p=some (.set S n))
 | _=>False
theorem tyV_is{pins:List (Addr×Obj)}{σ:St}{H:Hp}{s:Shared}{T:String}{x:V}{v:Value}(I:Inv X pins σ H s)(r:RelV x v)(ty:tyV X.K T x H):
  s.TypeIs v T∧∀ a,v=.ref a→∃ ob,s.heap.get? a=some ob∧ob.dict=none:=by
 cases x with
 | str z=>
  obtain⟨t,rfl⟩:=r
  cases (show T="str" from ty)
  exact⟨typeIs_str s z t,fun _ e=>nomatch e⟩
 | int i=>
  obtain⟨t,rfl⟩:=r
  cases (show T="int" from ty)
  exact⟨typeIs_int s i t,fun _ e=>nomatch e⟩
 | ref p=>
  cases r
  rcases ty with⟨rfl,xs,hq⟩ | ⟨rfl,o,hk,hc,hd⟩ | ⟨rfl,hk⟩ | ⟨rfl,S,n,hk⟩
  ·obtain⟨its,_,pl,_⟩:=I.list hq
   refine⟨pl.isList.typeIs,fun a e=>?_⟩
   cases e
   obtain⟨o,n,e,c,hd,_⟩:=pl
   exact⟨o,e,hd⟩
  ·refine⟨⟨o,I.kIn p o hk,hc⟩,fun a e=>?_⟩
   cases e
   exact⟨o,I.kIn _ o hk,hd⟩
  ·have z:∃ o,s.heap.get? p=some o∧o.ExactDict:=by
    rcases hk with⟨kvs,hk⟩ | ⟨kvs,hk⟩
    ·obtain⟨_,_,_,_,o,_,_,e,ex,_⟩:=I.hok p _ hk
     exact⟨o,e,ex⟩
    ·obtain⟨_,_,_,_,o,_,_,e,ex,_⟩:=I.hok p _ hk
     exact⟨o,e,ex⟩
   obtain⟨o,e,ex⟩:=z
   refine⟨⟨o,e,ex.1⟩,fun a e2=>?_⟩
   cases e2
   exact⟨o,e,ex.2.1⟩
  ·obtain⟨o,_,_,_,e,ex,_⟩:=I.hok p _ hk
   refine⟨⟨o,e,ex.1⟩,fun a e2=>?_⟩
   cases e2
   exact⟨o,e,ex.2.1⟩
 | _=>exact False.elim ty
def tBM(K:PySem.W.Frag)(T:String)(r:V→List V→Hp→VK→Prop)(to:TE)(t:TA):TE:=fun σ H Q=>to σ H fun x H1=>tyV K T x H1∧t σ H1 fun xs H2=>r x xs H2 Q
variable{o e:Expr}{es:List Expr}{to:TE}{t:TA}{name:Str}{apos cpos:Pos}{T id:String}{r:V→List V→Hp→VK→Prop}
theorem pe_bm(pa:PlainAttrs T)(slot:Slot T name id)(hty:typeOf (.builtin id)=pure (.type "method_descriptor"))(hm:MtR X id r)(ho:PE X o to)(ha:PA X (e::es) t)
  (hbase:attributeBase o name X.env (eval o X.env)=eval o X.env:=by rfl)
  (hfew:((backTo cpos (starEach (e::es) X.env)).all (fun x=>!x.1)&&(backToKw cpos (keywordEach [] X.env)).all (fun x=>x.1.isSome)
   && decide ((e::es).length+([]:List Keyword).length+(if([]:List Keyword).isEmpty then 0 else 1)<30))=true:=by rfl)
  (hline:(apos.endLine==cpos.line)=true:=by rfl) (hs:starEach (e::es) X.env=(false,eval e X.env)::starEach es X.env:=by rfl) (hplain:(backTo cpos (starEach es X.env)).any (·.1)=false:=by rfl):
  PE X (.Call (.Attribute o name apos) (e::es) [] cpos) (tBM X.K T r to t):=by
 intro pins s σ H Q I h
 refine wpAny_Call_method_late hbase hfew hline rfl (thn (ho pins s σ H _ I h) fun v s1 ⟨x,H1,I1,r1,ty,q1⟩=>?_)
 obtain⟨h1,h2⟩:=tyV_is I1 r1 ty
 refine⟨T,id,pa,slot,hty,h1,h2,?_⟩
 have hA:=ha cpos pins s1 σ H1 _ I1 q1
 rw[hs] at hA ⊢
 refine Calls.callWith_builtin (by show(false||(backTo cpos (starEach es X.env)).any (·.1))=false; rw[hplain]<;>rfl) (Calls.evalArgs_plain ?_)
 exact thn hA fun us s2 ⟨vs,H2,I2,r2,q2⟩=>hm pins s2 σ H2 x vs v us Q I2 r1 r2 q2
end
end L2
namespace L2
open PySem PySem.Spec PyProof.Rows
def MtM(X:Cx)(id:String)(r:V→List V→Hp→VK→Prop):Prop:=
 ∀ (pins:List (Addr×Obj)) (s:Shared) (σ:St) (H:Hp) (x:V) (xs:List V) (v:Value) (us:List Value) (Q:VK),Inv X pins σ H s→RelV x v→Vals xs us→r x xs H Q→
  wpAny (model X.prog X.w) X.A (call (.builtin id) (v::us)) (EP X pins σ Q) X.xe s
theorem Vals.one:∀ {x:V} {us:List Value},Vals [x] us→∃ u,us=[u]∧RelV x u
 | _,_,.cons r .nil=>⟨_,rfl,r⟩
theorem Vals.two:∀ {x y:V} {us:List Value},Vals [x,y] us→∃ u v,us=[u,v]∧RelV x u∧RelV y v
 | _,_,_,.cons r (.cons q .nil)=>⟨_,_,rfl,r,q⟩
theorem Vals.rep{xs:List V}{us:List Value}(h:Vals xs us):∀ k:Nat,Vals (List.replicate k xs).flatten (List.replicate k us).flatten
 | 0=>.nil
 | k+1=>by
  rw[List.replicate_succ,List.replicate_succ,List.flatten_cons,List.flatten_cons]
  exact Vals.append h (Vals.rep h k)
theorem foldl_rep(its:List Value):∀ (k:Nat) (acc:List Value),
  List.foldl (fun x1 x2=>x1++x2) acc.toArray (List.replicate k its.toArray)=(acc++(List.replicate k its).flatten).toArray
 | 0,acc=>by simp
 | k+1,acc=>by
  have e:acc.toArray++its.toArray=(acc++its).toArray:=by simp
  have e2:(acc++its)++(List.replicate k its).flatten=acc++(List.replicate (k+1) its).flatten:=by
   rw[List.replicate_succ,List.flatten_cons,List.append_assoc]
  rw[←e2,←foldl_rep its k (acc++its),←e,List.replicate_succ,List.foldl_cons]
section
variable{X:Cx}{pins:List (Addr×Obj)}{σ:St}{H:Hp}{s:Shared}{l b:Addr}{xs ys zs:List V}
theorem Inv.lnew{its:List Value}{t':Nat}(I:Inv X pins σ H s)(hv:Vals ys its)(hz:ys.length≤sizeLine):
  Inv X pins σ (upd H s.heap.objs.size (.lst ys)) { s with heap:=s.heap.push { cls:=.type "list",data:=.seq its.toArray },toks:=t' }:=
 I.laid (fun _ _ q=>Heap.get?_push_of_some _ q) (Nat.le_refl _) ⟨hz,its,0,hv,Heap.get?_push_size _ rfl⟩
theorem Inv.fresh(I:Inv X pins σ H s):H s.heap.objs.size=none:=I.hok.fresh (Nat.le_refl _)
theorem Inv.lstM(I:Inv X pins σ H s)(hH:H l=some (.lst xs)):xs.length≤sizeLine∧∃ (its:List Value) (n:Nat),Vals xs its∧xs.length=its.length∧s.heap.get? l=some { cls:=.type "list",data:=.seq its.toArray n }:=by
 obtain⟨z,its,n,r,e⟩:=I.hok l _ hH
 exact⟨z,its,n,r,r.length,e⟩
theorem notLongL{n:Nat}(h:n≤sizeLine):Builtin.List.listTooLong n=false:=by
 unfold Builtin.List.listTooLong
 exact decide_eq_false (by omega)
end
section
variable{X:Cx}
def rCat:R2:=fun x y H Q=>∃ l b xs zs,x=.ref l∧y=.ref b∧H l=some (.lst xs)∧H b=some (.lst zs)∧xs.length+zs.length≤sizeLine∧∀ p,H p=none→Q (.ref p) (upd H p (.lst (xs++zs)))
theorem op_cat:OpR X (binaryOp .Add) rCat:=by
 intro pins s σ H x y v u Q I rx ry h
 obtain⟨l,b,xs,zs,rfl,rfl,hH,hB,hz,q⟩:=h
 cases rx
 cases ry
 obtain⟨z,its,n,r,hl,e⟩:=I.lstM hH
 obtain⟨z2,its2,n2,r2,hl2,e2⟩:=I.lstM hB
 refine PySem.P.add_list e e2 ?_ (by rw[List.size_toArray,List.size_toArray]; omega)
 have ea:its.toArray++its2.toArray=(its++its2).toArray:=by simp
 rw[ea]
 exact⟨.ref _,_,I.lnew (t':=s.toks) (r.append r2) (by rw[List.length_append]; omega),rfl,q _ I.fresh⟩
def rRep:R2:=fun x y H Q=>∃ l k xs,x=.ref l∧y=.int k∧H l=some (.lst xs) ∧ -(2^63)≤k∧k<2^63∧xs.length*k.toNat≤sizeLine∧
 ∀ p,H p=none→Q (.ref p) (upd H p (.lst (List.replicate k.toNat xs).flatten))
theorem len_rep{α:Type}(xs:List α)(k:Nat):(List.replicate k xs).flatten.length=k*xs.length:=by
 induction k with
 | zero=>simp
 | succ k ih=>rw[List.replicate_succ,List.flatten_cons,List.length_append,ih,Nat.succ_mul,Nat.add_comm]
theorem op_rep:OpR X (binaryOp .Mult) rRep:=by
 intro pins s σ H x y v u Q I rx ry h
 obtain⟨l,k,xs,rfl,rfl,hH,h1,h2,hz,q⟩:=h
 cases rx
 obtain⟨t,rfl⟩:=ry
 obtain⟨z,its,n,r,hl,e⟩:=I.lstM hH
 have hlen:its.toArray.size*k.toNat≤sizeLine:=by rw[List.size_toArray,←hl]; exact hz
 have hcap:¬ its.toArray.size*k.toNat>(2^63-1) / 8:=by
  have:(sizeLine:Nat)≤(2^63-1) / 8:=by decide
  omega
 have hfit:¬ (!Builtin.List.listFitsIndex k)=true:=by
  rw[fitsIndex_both h1 h2]
  exact Bool.false_ne_true
 have hlong:¬ Builtin.List.listTooLong (its.toArray.size*k.toNat)=true:=by
  rw[notLongL hlen]
  exact Bool.false_ne_true
 have hnew:List.foldl (fun x1 x2=>x1++x2) #[] (List.replicate (if its.toArray.isEmpty=true then 0 else k.toNat) its.toArray)=(List.replicate k.toNat its).flatten.toArray:=by
  have f0:∀ m:Nat,List.foldl (fun x1 x2=>x1++x2) #[] (List.replicate m its.toArray)=(List.replicate m its).flatten.toArray:=fun m=>by
   have:=foldl_rep its m []
   rw[List.nil_append] at this
   exact this
  rw[f0]
  cases its with
  | nil=>simp
  | cons a r'=>rw[if_neg (by simp)]
 refine wpAny_binaryOp_repeat_ref (T:="list") (U:="int") (by decide) ⟨_,e,rfl⟩ (fun s'=>typeIs_int s' k t) noFill_list_mul F.fills_int_mul F.slot_int_rmul repeat_list F.slot_int_index.lookup
  (call_meets F.slot_int_rmul (typeIs_int s k t) F.entry_int_rmul (F.args_int_rmul_2 _ _) (int___rmul___int_list k t l its.toArray n)
   ⟨e,rfl,⟨_,e,rfl⟩,call_meets F.slot_list_mul ⟨_,e,rfl⟩ F.entry_list_mul (F.args_list_mul_2 _ _) (AutoListH.list___mul___list_int_3 l its.toArray n k t hfit hcap hlong) ⟨e,?_⟩⟩)
 rw[hnew]
 exact⟨.ref _,_,I.lnew (t':=s.toks) (r.rep k.toNat) (by rw[len_rep,Nat.mul_comm]; exact hz),rfl,q _ I.fresh⟩
end
end L2
namespace Att
open PySem PySem.W PySem.Calls PyProof.Rows
theorem ints_of_wellAll{P:Params}{h:Heap}:∀ (ns:List Int) (vs:List Value),WellAll P h vs (ns.map WData.int)→IntsAre vs ns:=by
 intro ns
 induction ns with
 | nil=>
  intro vs w
  rw[List.map_nil] at w
  cases w
  exact .nil
 | cons n ns ih=>
  intro vs w
  rw[List.map_cons] at w
  cases w with
  | cons a b=>
   cases a
   exact .cons _ _ (ih _ b)
theorem script_of{l:OpenLaw}{n:Nat}(hn:l.most=some n){P:Params}{h:Heap}{args:List WData}{vals:List Value}
  (hpre:l.row.toRowW.claim.pre args=true) (hwl:WellAll P h vals args):
  ∃ a vs ns,vals=[Value.ref a]∧args=[WData.list (ns.map WData.int)]∧h.get? a=some { cls:=.type "list",data:=.seq vs.toArray }∧IntsAre vs ns∧ns.length≤n:=by
 have hsh:WShape.hasAll [] args [.list .int]=true:=(pre_splitW hpre).1
 have hc:l.pre.holds [] { args:=args }=true:=(pre_splitW hpre).2
 obtain⟨d,r,rfl,h1,h2⟩:=hasAllW_cons hsh
 obtain rfl:=hasAllW_nil h2
 obtain⟨xs,rfl,h3⟩:=hasW_list h1
 obtain⟨ns,rfl⟩:=items_int h3
 have hlen:ns.length≤n:=by
  unfold OpenLaw.pre at hc
  have h4:(WTm.not (.lt (.lit (.int (n:Int))) (.len (.arg 0)))).holds [] { args:=[.list (ns.map .int)] }=true:=by
   have h4:=(holds_andW hc).1
   rw[hn] at h4
   exact h4
  have h5:=condW_of h4 (w_not (w_lt w_lit (w_len_list (w_arg rfl))))
  rw[List.length_map] at h5
  refine Nat.le_of_not_lt fun q=>?_
  have q':(n:Int)<((ns.length:Nat):Int):=by omega
  first
   | (rw[decide_eq_true q'] at h5; exact absurd h5 (by decide))
   | (simp at h5; omega)
 cases hwl with
 | cons w1 w2=>
  cases w2
  cases w1 with
  | list ho hall=>exact⟨_,_,ns,rfl,rfl,ho,ints_of_wellAll ns _ hall,hlen⟩
theorem post_true(l:OpenLaw)(args:List WData):l.row.toRowW.claim.post args (.bool true) args=true:=
 postW_of (r:=l.row.toRowW) (X:=(true==true))
  (show WShape.has [] (.bool true) .bool=true by first | rfl | decide | simp[WShape.has,WShape.arms,WShape.armsAll])
  (show(WTm.eq .res (.lit (.bool true))).value [] { args:=args,res:=some (.bool true),after:=args }=some (.bool (true==true)) from w_eq_bool (w_res rfl) w_lit) rfl
theorem attach_call{l:OpenLaw}{n:Nat}{q:Program}{loose:List Str}{XP:(Str→Option Value)→Heap→Prop}{YP:World→Heap→Prop}{d:DefRec}
  (hn:l.most=some n) (hdf:d.params.defaults=[])
  (call:∀ (w:World) (s₀ s₁:Shared) (mg mb:Str→Option Value) (fa:Addr) (o:Obj) (pm cd doc:Value) (a:Addr) (vs:List Value) (ns:List Int),
   Ground q loose [] XP w s₀ mg mb s₁.heap→YP w s₁.heap→
   s₁.heap.get? fa=some o→o.data=.func (docDef d.name d.params d.body d.scope pm cd doc)→s₁.heap.CodeRec cd d.name→mg d.name=some (.ref fa)→
   s₁.heap.get? a=some { cls:=.type "list",data:=.seq vs.toArray }→IntsAre vs ns→ns.length≤n→s₁.gens=#[]→
   codeAny (model l.prog w) callerA (.call (.ref fa) ⟨[.ref a],[]⟩) (fun r s'=>r=.ok (.ret (.bool true))∧OldK s₁.heap s'.heap∧s'.os=s₁.os∧AllBare s'.gens) s₁):
  WalkO q loose XP YP l.row.toRowW d [] (fun f vs=>PySem.call f vs):=by
 intro w s₀ s₁ mg mb G Y fa o pm cd doc dV kV ho hd hcd hD hmg hg args vals as hpre hlay hrd hwl hlo
 obtain rfl:dV=.none:=Dflts.none hD hdf
 obtain rfl:kV=.none:=Dflts.noKw hD
 obtain⟨a,vs,ns,rfl,rfl,hobj,hints,hlen⟩:=script_of hn hpre hwl
 refine enter_call (codeAny_mono (call w s₀ s₁ mg mb fa o pm cd doc a vs ns G Y ho (fd_plain hd) hcd hmg hobj hints hlen hg) fun r s' hq=>?_)
 obtain⟨rfl,h2,h3,h4⟩:=hq
 exact⟨.inl ⟨.bool true,.bool true,[],rfl,fun _=>rfl,.bool true,post_true l _,fun _=>⟨List.Pairwise.nil,fun _ hm=>(nomatch hm)⟩⟩,h2,h3,h4⟩
end Att
namespace L2
open PySem PySem.Spec PyProof.Rows
theorem vals_ints:∀ {vs:List Value} {ns:List Int},IntsAre vs ns→Vals (ns.map V.int) vs
 | _,_,.nil=>.nil
 | _,_,.cons n t h=>.cons ⟨t,rfl⟩ (vals_ints h)
def Only(H:Hp):Prop:=∀ b,H b=none∨∃ o xs,H b=some (.frz o (.lst xs))
theorem law_call{P:Program}{w:World}{K:PySem.W.Frag}{mg mb:Str→Option Value}{CX:CXT}{k:Nat}{fa a:Addr}{fd:FuncData}{x:Str}{sp:Sp}{s₁:Shared}{vs:List Value}{ns:List Int}
  (KX:K.In s₁.heap) (hns:s₁.heap.Ns mainGlobals mg) (hb:s₁.heap.Ns builtinsNs mb) (hbb:∀ x:Str,x≠"__name__"→mb x=bootBuiltins x) (hlim:s₁.heap.NoLimit) (hg:s₁.gens=#[])
  (ha:s₁.heap.get? a=some { cls:=.type "list",data:=.seq vs.toArray }) (hi:IntsAre vs ns) (hl:ns.length≤sizeLine) (hr:Room k callerA)
  (F:∀ base:Heap,K.In base→base.Ns mainGlobals mg→FnOk P w K mg base CX k fa fd [x] sp) (hbind:∀ (s:Shared) (u:Value),BindsTo s fd ⟨[u],[]⟩ [(x,u)])
  (hsp:∀ H:Hp,Only H→SqL K H a (ns.map V.int)→sp [.ref a] H (fun v _=>v=.bl true) fun _ _ _=>False)
  (hCX:∀ H e s',CX [] H s₁ (fun _ _ _=>False) e s'→False):
  codeAny (model P w) callerA (.call (.ref fa) ⟨[.ref a],[]⟩) (fun r s'=>r=.ok (.ret (.bool true))∧OldK s₁.heap s'.heap∧s'.os=s₁.os∧AllBare s'.gens) s₁:=by
 have rv:=vals_ints hi
 have lenV:=hi.length
 have core:∀ H:Hp,Only H→SqL K H a (ns.map V.int)→HOk P w H s₁.heap→(∀ b,H b≠none→b=a)→(H a≠none→K.lookup a=none)→
   codeAny (model P w) callerA (.call (.ref fa) ⟨[.ref a],[]⟩) (fun r s'=>r=.ok (.ret (.bool true))∧OldK s₁.heap s'.heap∧s'.os=s₁.os∧AllBare s'.gens) s₁:=by
  intro H hO hS hok hA hK
  have base_of:∀ {b:Addr} {o:Obj},s₁.heap.get? b=some o→H b=none→(hidT s₁.heap H).get? b=some o:=fun e n=>hidT_get e n
  have noA:∀ {b:Addr} {o:Obj} {es:Array DictEntry} {ep:Nat},s₁.heap.get? b=some o→o.data=.dict es ep→H b=none:=fun{b o es ep} e d=>by
   cases q:H b with
   | none=>rfl
   | some u=>
    have e':b=a:=hA b (by rw[q]; simp)
    subst e'
    rw[ha] at e; cases e
    have d':Data.seq vs.toArray _=Data.dict es ep:=d
    cases d'
  have nsK:∀ {b:Addr} {m:Str→Option Value},s₁.heap.Ns b m→(hidT s₁.heap H).Ns b m:=fun{b m} ⟨o,es,ep,e,d,r⟩=>⟨o,es,ep,base_of e (noA e d),d,r⟩
  have hKb:K.In (hidT s₁.heap H):=fun b o e=>base_of (KX b o e) (by
   cases q:H b with
   | none=>rfl
   | some u=>
    have e':b=a:=hA b (by rw[q]; simp)
    subst e'
    rw[hK (by rw[q]; simp)] at e; cases e)
  have hM:Mod K mg (hidT s₁.heap H):=⟨hKb,nsK hns,⟨mb,nsK hb,hbb⟩,let ⟨mc,h1,h2⟩:=hlim; ⟨mc,nsK h1,h2⟩⟩
  have e0:Env0 P w K mg (hidT s₁.heap H) callerA [] s₁ H:=⟨rfl,hM,fun b o e=>of_hidT e,Nat.le_of_eq (hidT_size _ _),trivial,fun b hb=>absurd (show b∈([]:List Addr) from hb) (by simp),hok,.of_eq hg⟩
  refine codeAny_mono ((F _ hKb (nsK hns)).run callerA [] s₁ H ⟨[.ref a],[]⟩ [.ref a] [.ref a] _ _ hr e0 (hbind s₁ (.ref a)) (.cons rfl .nil) (hsp H hO hS)) fun r s' h=>?_
  cases r with
  | error e=>exact(hCX H e s' h).elim
  | ok fl=>
   cases fl with
   | next=>exact False.elim h
   | brk=>exact False.elim h
   | cont=>exact False.elim h
   | ret u=>
    obtain⟨v,H',os,bare,un,hok',r',q⟩:=h
    have q':v=.bl true:=q
    subst q'
    obtain rfl:u=Value.bool true:=r'
    refine⟨rfl,OldK.of_keep fun b o e=>?_,os,bare⟩
    cases q:H b with
    | none=>exact un.keep b o e q (by intro z; exact absurd (show b∈([]:List Addr) from z) (by simp)) (by simp)
    | some u=>
     rcases hO b with z | ⟨ob,xs,z⟩
     ·rw[q] at z; cases z
     ·have z2:=un.frzs b ob _ z
      obtain⟨e1,_⟩:=hok b _ z
      obtain⟨e2,_⟩:=hok' b _ z2
      rw[e] at e1; cases e1
      exact e2
 cases hk:K.lookup a with
 | some o=>
  have e:=KX a o hk
  rw[ha] at e
  cases e
  refine core (fun _=>none) (fun _=>.inl rfl) (.inr ⟨_,vs.toArray,_,hk,rfl,rfl,rfl,by rw[List.size_toArray,lenV]; exact hl,by simpa using rv⟩) (fun b u z=>by have z':(none:Option HO)=some u:=z; cases z') (fun b z=>absurd rfl z) fun z=>absurd rfl z
 | none=>
  refine core (fun b=>if b=a then some (.frz { cls:=.type "list",data:=.seq vs.toArray } (.lst (ns.map V.int))) else none) (fun b=>?_) (.inl (.inr ⟨{ cls:=.type "list",data:=.seq vs.toArray },if_pos rfl⟩)) (fun b u z=>?_) (fun b z=>?_) fun _=>hk
  ·by_cases hb:b=a
   ·exact .inr ⟨_,_,if_pos hb⟩
   ·exact .inl (if_neg hb)
  ·by_cases hb:b=a
   ·have z':=(if_pos hb).symm.trans z
    cases z'
    subst hb
    exact⟨ha,by rw[List.length_map]; exact hl,vs,_,rv,ha⟩
   ·have z':=(if_neg hb).symm.trans z
    cases z'
  ·by_cases hb:b=a
   ·exact hb
   ·exact absurd (if_neg hb) z
end L2
namespace L2
open PySem PySem.Spec PyProof.Rows
theorem walk_of{l:PySem.W.OpenLaw}{n k:Nat}{q:Program}{loose:List Str}{XP:(Str→Option Value)→Heap→Prop}{YP:World→Heap→Prop}{d:DefRec}{K:Params→PySem.W.Frag}{CX:World→CXT}{sp:World→Sp}{x:Str}
  (hn:l.most=some n) (hn2:n≤sizeLine) (hdf:d.params.defaults=[]) (hr:Room k callerA)
  (hY:∀ (w:World) (h:Heap),YP w h→(K w.params).In h)
  (F:∀ (w:World) (mg:Str→Option Value) (fa:Addr) (h:Heap),(K w.params).In h→h.Ns mainGlobals mg→mg d.name=some (.ref fa)→
   ∃ fd:FuncData,(∀ (s:Shared) (u:Value),BindsTo s fd ⟨[u],[]⟩ [(x,u)])∧
    ∀ base:Heap,(K w.params).In base→base.Ns mainGlobals mg→FnOk l.prog w (K w.params) mg base (CX w) k fa fd [x] (sp w))
  (hsp:∀ (w:World) (H:Hp) (a:Addr) (ns:List Int),ns.length≤n→Only H→SqL (K w.params) H a (ns.map V.int)→sp w [.ref a] H (fun v _=>v=.bl true) fun _ _ _=>False)
  (hCX:∀ (w:World) (H:Hp) (s:Shared) (e:Value) (s':Shared),CX w [] H s (fun _ _ _=>False) e s'→False):
  PySem.W.WalkO q loose XP YP l.row.toRowW d [] (fun f vs=>PySem.call f vs):=by
 refine Att.attach_call hn hdf fun w s₀ s₁ mg mb fa o pm cd doc a vs ns G Y ho hd hcd hmg hobj hints hlen hg=>?_
 have KX:=hY w _ Y
 obtain⟨fd,hb,hF⟩:=F w mg fa _ KX G.T.g hmg
 exact law_call KX G.T.g G.T.b G.T.builtins G.T.nolimit hg hobj hints (Nat.le_trans hlen hn2) hr hF hb (fun H hO hS=>hsp w H a ns hlen hO hS) fun H e s'=>hCX w H s₁ e s'
theorem walk_ofK{l:PySem.W.OpenLaw}{n k:Nat}{q:Program}{loose:List Str}{XP:(Str→Option Value)→Heap→Prop}{YP:World→Heap→Prop}{d:DefRec}{K:Params→PySem.W.Frag}{CX:CXT}{sp:PySem.W.Frag→Sp}{x:Str}
  (hn:l.most=some n) (hn2:n≤sizeLine) (hdf:d.params.defaults=[]) (hr:Room k callerA)
  (hY:∀ (w:World) (h:Heap),YP w h→(K w.params).In h)
  (F:∀ (w:World) (mg:Str→Option Value) (fa:Addr) (h:Heap),(K w.params).In h→h.Ns mainGlobals mg→mg d.name=some (.ref fa)→
   ∃ fd:FuncData,(∀ (s:Shared) (u:Value),BindsTo s fd ⟨[u],[]⟩ [(x,u)])∧
    ∀ base:Heap,(K w.params).In base→base.Ns mainGlobals mg→FnOk l.prog w (K w.params) mg base CX k fa fd [x] (sp (K w.params)))
  (hsp:∀ (K:PySem.W.Frag) (H:Hp) (a:Addr) (ns:List Int),ns.length≤n→Only H→SqL K H a (ns.map V.int)→sp K [.ref a] H (fun v _=>v=.bl true) fun _ _ _=>False)
  (hCX:∀ (H:Hp) (s:Shared) (e:Value) (s':Shared),CX [] H s (fun _ _ _=>False) e s'→False):
  PySem.W.WalkO q loose XP YP l.row.toRowW d [] (fun f vs=>PySem.call f vs):=
 walk_of (K:=K) (CX:=fun _=>CX) (sp:=fun w=>sp (K w.params)) hn hn2 hdf hr hY F (fun w H a ns h1 h2 h3=>hsp (K w.params) H a ns h1 h2 h3) fun _ H s e s'=>hCX H s e s'
end L2
namespace L2
open PySem PySem.Spec PyProof.Rows
def defArgs(s:Stmt):Arguments:=match s with
 | .FunctionDef _ a _ _ _ _ _ _ _ _=>a
 | _=>{ posonlyargs:=[],args:=[],vararg:=none,kwonlyargs:=[],kw_defaults:=[],kwarg:=none,defaults:=[] }
def defBody(s:Stmt):List Stmt:=match s with
 | .FunctionDef _ _ b _ _ _ _ _ _ _=>b
 | _=>[]
def defScope(s:Stmt):Scope:=match s with
 | .FunctionDef _ _ _ _ _ _ sc _ _ _=>sc
 | _=>{ kind:=.function,names:=[],isGenerator:=false,isCoroutine:=false }
abbrev CX0:CXT:=fun _ _ _ _ _ _=>False
abbrev E0:XK:=fun _ _ _=>False
theorem pass0{X:Cx}:Passes CX0 X E0:=fun _ _ _ _ _ _ _ h=>h.elim
structure Fun(K:PySem.W.Frag)(x qual:Str)(st:Stmt)(f:Addr)(fd:FuncData):Prop where
 ex:∃ (oc:Value) (od:Option Addr) (kV doc pm:Value) (an:Option Addr) (cdv ct:Value) (osl:Array (Option Value)),
  fd=PySem.W.fnOf x qual (defArgs st) (defBody st) (defScope st) .none kV doc pm an cdv ct∧K.lookup f=some ⟨oc,od,.func fd,osl⟩∧PySem.W.codeIn K cdv qual=true
 kp:PySem.W.keepIn K (.ref f)=true
section
variable{P:Program}{w:World}{K:PySem.W.Frag}{mg:Str→Option Value}{base:Heap}
theorem Fun.ok{x qual:Str}{st:Stmt}{f:Addr}{fd:FuncData}{N ps:List Str}{k:Nat}{sp:Sp}(F:Fun K x qual st f fd)(S:FnScope N ps (defScope st))(len:∀ vs H Q E,sp vs H Q E→vs.length=ps.length)
  (hbody:∀ (cdv:Value) (A:Around) (outer:List Env) (s:Shared) (H:Hp) (vs:List V) (Q:VK) (E:XK),Room k (A.deeper (envOfC qual (defScope st) s.heap.objs.size f cdv))→sp vs H Q E→
   ∃ t,PSs (cxOf CX0 P w K mg base N qual (defScope st) f cdv A outer s H E).nox (defBody st) t∧t { nx:=fun _ H'=>Q .non H',rt:=Q } (start N vs) H):FnOk P w K mg base CX0 (k+1) f fd ps sp:=by
 obtain⟨oc,od,kV,doc,pm,an,cdv,ct,osl,rfl,lk,hcd⟩:=F.ex
 refine fn_of lk hcd S len fun A outer s H vs Q E hr hsp=>?_
 obtain⟨t,h,q⟩:=hbody cdv A outer s H vs Q E hr hsp
 exact⟨t,h.nox,q⟩
theorem Fun.binds{x qual:Str}{st:Stmt}{f:Addr}{fd:FuncData}{ps:List Str}(F:Fun K x qual st f fd)
  (h:∀ (kV doc pm:Value) (an:Option Addr) (cdv ct:Value) (us:List Value),us.length=ps.length→bindArgs (PySem.W.fnOf x qual (defArgs st) (defBody st) (defScope st) .none kV doc pm an cdv ct) ⟨us,[]⟩=pure (ps.zip us)):Binds K fd ps []:=by
 obtain⟨oc,od,kV,doc,pm,an,cdv,ct,osl,rfl,lk,hcd⟩:=F.ex
 exact .all (h kV doc pm an cdv ct)
theorem fun_mk{x qual:Str}{st:Stmt}{f:Addr}{oc:Value}{od an:Option Addr}{osl:Array (Option Value)}{kV doc pm cdv ct:Value}(l:K.lookup f=some ⟨oc,od,.func (PySem.W.fnOf x qual (defArgs st) (defBody st) (defScope st) .none kV doc pm an cdv ct),osl⟩)
  (c:PySem.W.codeIn K cdv qual=true) (k:PySem.W.keepIn K (.ref f)=true):Fun K x qual st f (PySem.W.fnOf x qual (defArgs st) (defBody st) (defScope st) .none kV doc pm an cdv ct):=⟨⟨oc,od,kV,doc,pm,an,cdv,ct,osl,rfl,l,c⟩,k⟩
end
end L2
set_option Elab.async false
set_option linter.all false
set_option maxRecDepth 100000
namespace DL
open PySem PySem.Spec PyProof.Rows L2
inductive D where
 | non | bl (b:Bool) | int (i:Int) | str (x:Str) | tup (l:List D) | lst (i:Nat) | exn (c:Str) (n:Option Int) | fv (x:Str)
structure Cell where
 fz:Bool
 xs:List D
abbrev Sto:=List Cell
abbrev Lc:=List (Option D)
structure XD where
 cls:Str
 fld:Option Int
inductive Out(α:Type) where
 | ok (a:α) (S:Sto)
 | exc (x:XD) (S:Sto)
 | bad
def Out.bind{α β:Type}(o:Out α)(g:α→Sto→Out β):Out β:=
 match o with
 | .ok a S=>g a S
 | .exc x S=>.exc x S
 | .bad=>.bad
structure XCl(K:PySem.W.Frag)(c:Addr):Prop where
 ga:PySem.W.findIn K (.ref c) "__getattribute__"=some (some (.builtin "BaseException.__getattribute__"))
 gt:PySem.W.findIn K (.ref c) "__getattr__"=some none
 cl:PySem.W.findIn K (.ref c) "__class__"=some (some (.builtin "object.__class__"))
 cd:(PySem.W.clsIn K c).isSome=true
 ob:PySem.W.mroIn K c (.type "object")=some true
 be:PySem.W.subIn K (.ref c) (.type "BaseException")=some true
 bt:∀ T∈["bool","int","str","tuple","list"],PySem.W.kitOne K (.ref c) (.type T)=some false
def CN(K:PySem.W.Frag)(y:Str)(c:Addr):Prop:=PySem.W.nsIn K mainGlobals y=some (some (.ref c))
theorem CN.one{K:PySem.W.Frag}{y:Str}{c d:Addr}(h:CN K y c)(g:CN K y d):c=d:=Value.ref.inj (Option.some.inj (Option.some.inj (h.symm.trans g)))
def XO(a c:Addr)(dx:Option Addr):HO:=.ext fun h=>∃ oe,h.get? a=some oe∧oe.cls=.ref c∧oe.dict=dx∧∃ vs,oe.data=.fields vs
def XA(d:Addr)(n:Int):HO:=.ext fun h=>∃ t,h.Ns d fun y=>if y="at" then some (.int n t) else none
mutual
def Rep(K:PySem.W.Frag)(mp:List Addr)(H:Hp):D→V→Prop
 | .non,v=>v=.non
 | .bl b,v=>v=.bl b
 | .int i,v=>v=.int i
 | .str x,v=>v=.str x
 | .tup l,v=>∃ a xs,v=.ref a∧SqT K H a xs∧RepL K mp H l xs
 | .lst i,v=>∃ a,v=.ref a∧mp[i]?=some a
 | .exn c n,v=>∃ a dx p,v=.ref a∧(CN K c p∧XCl K p∧H a=some (XO a p dx))∧∀ i,n=some i→∃ d,dx=some d∧H d=some (XA d i)
 | .fv x,v=>∃ a,v=.ref a∧CN K x a
def RepL(K:PySem.W.Frag)(mp:List Addr)(H:Hp):List D→List V→Prop
 | [],vs=>vs=[]
 | d::l,vs=>∃ v r,vs=v::r∧Rep K mp H d v∧RepL K mp H l r
end
structure Aft(K:PySem.W.Frag)(mp:List Addr)(H:Hp)(mp':List Addr)(H':Hp):Prop where
 pre:∀ (i:Nat) (a:Addr),mp[i]?=some a→mp'[i]?=some a
 tup:∀ a xs,SqT K H a xs→SqT K H' a xs
 ext:∀ a φ,H a=some (.ext φ)→H' a=some (.ext φ)
theorem Aft.refl{K:PySem.W.Frag}{mp:List Addr}{H:Hp}:Aft K mp H mp H:=⟨fun _ _ h=>h,fun _ _ h=>h,fun _ _ h=>h⟩
theorem Aft.trans{K:PySem.W.Frag}{mp mp1 mp2:List Addr}{H H1 H2:Hp}(a:Aft K mp H mp1 H1)(b:Aft K mp1 H1 mp2 H2):Aft K mp H mp2 H2:=
 ⟨fun i x h=>b.pre i x (a.pre i x h),fun x xs h=>b.tup x xs (a.tup x xs h),fun x f h=>b.ext x f (a.ext x f h)⟩
mutual
theorem Rep.aft{K:PySem.W.Frag}{mp mp':List Addr}{H H':Hp}(a:Aft K mp H mp' H'):∀ (d:D) (v:V),Rep K mp H d v→Rep K mp' H' d v
 | .non,v,h=>h
 | .bl _,v,h=>h
 | .int _,v,h=>h
 | .str _,v,h=>h
 | .tup l,v,h=>by
  obtain⟨p,xs,e,s,r⟩:=(show ∃ a xs,v=.ref a∧SqT K H a xs∧RepL K mp H l xs from h)
  exact⟨p,xs,e,a.tup _ _ s,RepL.aft a l xs r⟩
 | .lst i,v,h=>by
  obtain⟨p,e,s⟩:=(show ∃ a,v=.ref a∧mp[i]?=some a from h)
  exact⟨p,e,a.pre _ _ s⟩
 | .exn c n,v,h=>by
  obtain⟨p,dx,q,e,⟨s0,s1,s⟩,r⟩:=(show ∃ a dx p,v=.ref a∧(CN K c p∧XCl K p∧H a=some (XO a p dx))∧∀ i,n=some i→∃ d,dx=some d∧H d=some (XA d i) from h)
  exact⟨p,dx,q,e,⟨s0,s1,a.ext _ _ s⟩,fun i z=>let ⟨d,z1,z2⟩:=r i z; ⟨d,z1,a.ext _ _ z2⟩⟩
 | .fv x,v,h=>h
theorem RepL.aft{K:PySem.W.Frag}{mp mp':List Addr}{H H':Hp}(a:Aft K mp H mp' H'):∀ (l:List D) (vs:List V),RepL K mp H l vs→RepL K mp' H' l vs
 | [],vs,h=>h
 | d::l,vs,h=>by
  obtain⟨v,r,e,h1,h2⟩:=(show ∃ v r,vs=v::r∧Rep K mp H d v∧RepL K mp H l r from h)
  exact⟨v,r,e,Rep.aft a d v h1,RepL.aft a l r h2⟩
end
section
variable{K:PySem.W.Frag}{mp:List Addr}{H:Hp}
theorem RepL.nil:RepL K mp H [] []:=rfl
theorem RepL.cons{d:D}{v:V}{l:List D}{r:List V}(h:Rep K mp H d v)(t:RepL K mp H l r):RepL K mp H (d::l) (v::r):=⟨v,r,rfl,h,t⟩
theorem RepL.len:∀ {l:List D} {vs:List V},RepL K mp H l vs→vs.length=l.length
 | [],vs,h=>by cases (show vs=[] from h); rfl
 | d::l,vs,h=>by
  obtain⟨v,r,e,h1,h2⟩:=h
  subst e
  simp[RepL.len h2]
theorem RepL.get:∀ {l:List D} {vs:List V} {i:Nat} {d:D},RepL K mp H l vs→l[i]?=some d→∃ v,vs[i]?=some v∧Rep K mp H d v
 | [],_,_,_,_,e=>by simp at e
 | d::l,vs,0,_,h,e=>by
  obtain⟨v,r,q,h1,h2⟩:=h
  subst q
  simp at e
  subst e
  exact⟨v,rfl,h1⟩
 | d::l,vs,i+1,x,h,e=>by
  obtain⟨v,r,q,h1,h2⟩:=h
  subst q
  obtain⟨v',a,b⟩:=RepL.get (i:=i) (d:=x) h2 (by simpa using e)
  exact⟨v',by simpa using a,b⟩
theorem RepL.append:∀ {l m:List D} {vs ws:List V},RepL K mp H l vs→RepL K mp H m ws→RepL K mp H (l++m) (vs++ws)
 | [],m,vs,ws,h,g=>by cases (show vs=[] from h); exact g
 | d::l,m,vs,ws,h,g=>by
  obtain⟨v,r,q,h1,h2⟩:=h
  subst q
  exact⟨v,r++ws,rfl,h1,RepL.append h2 g⟩
theorem RepL.take:∀ {l:List D} {vs:List V} (n:Nat),RepL K mp H l vs→RepL K mp H (l.take n) (vs.take n)
 | [],vs,n,h=>by cases (show vs=[] from h); simp; exact RepL.nil
 | d::l,vs,0,h=>by simp; exact RepL.nil
 | d::l,vs,n+1,h=>by
  obtain⟨v,r,q,h1,h2⟩:=h
  subst q
  simpa using RepL.cons h1 (RepL.take n h2)
theorem RepL.drop:∀ {l:List D} {vs:List V} (n:Nat),RepL K mp H l vs→RepL K mp H (l.drop n) (vs.drop n)
 | [],vs,n,h=>by cases (show vs=[] from h); simp; exact RepL.nil
 | d::l,vs,0,h=>by simpa using h
 | d::l,vs,n+1,h=>by
  obtain⟨v,r,q,h1,h2⟩:=h
  subst q
  simpa using RepL.drop n h2
theorem RepL.set:∀ {l:List D} {vs:List V} {d:D} {v:V} (n:Nat),RepL K mp H l vs→Rep K mp H d v→RepL K mp H (l.set n d) (vs.set n v)
 | [],vs,d,v,n,h,g=>by cases (show vs=[] from h); simp; exact RepL.nil
 | x::l,vs,d,v,0,h,g=>by
  obtain⟨v',r,q,h1,h2⟩:=h
  subst q
  simpa using RepL.cons g h2
 | x::l,vs,d,v,n+1,h,g=>by
  obtain⟨v',r,q,h1,h2⟩:=h
  subst q
  simpa using RepL.cons h1 (RepL.set n h2 g)
end
def SqF(K:PySem.W.Frag)(H:Hp)(a:Addr)(xs:List V):Prop:=
 (∃ o,H a=some (.frz o (.lst xs)))∨
  ∃ (o:Obj) (its:Array Value) (n:Nat),K.lookup a=some o∧o.cls=.type "list"∧o.dict=none∧o.data=.seq its n∧its.size≤sizeLine∧Vals xs its.toList
theorem SqF.sq{K:PySem.W.Frag}{H:Hp}{a:Addr}{xs:List V}(h:SqF K H a xs):SqL K H a xs:=by
 rcases h with h | h
 ·exact .inl (.inr h)
 ·exact .inr h
def CellOk(K:PySem.W.Frag)(mp:List Addr)(H:Hp)(a:Addr)(c:Cell):Prop:=
 ∃ xs,RepL K mp H c.xs xs∧(if c.fz=true then SqF K H a xs else H a=some (.lst xs))
structure RS(K:PySem.W.Frag)(mp:List Addr)(H:Hp)(S:Sto):Prop where
 len:mp.length=S.length
 cell:∀ (i:Nat) (a:Addr) (c:Cell),mp[i]?=some a→S[i]?=some c→CellOk K mp H a c
 inj:∀ (i j:Nat) (a:Addr) (ci cj:Cell),mp[i]?=some a→mp[j]?=some a→S[i]?=some ci→S[j]?=some cj→ci.fz=false→cj.fz=false→i=j
structure Gd(K:PySem.W.Frag)(mp:List Addr)(H:Hp)(σ:L2.St)(ρ:Lc)(S:Sto):Prop where
 rs:RS K mp H S
 len:σ.length=ρ.length
 loc:∀ (i:Nat) (d:D),ρ[i]?=some (some d)→∃ v,σ[i]?=some (some v)∧Rep K mp H d v
theorem Gd.aft{K:PySem.W.Frag}{mp mp':List Addr}{H H':Hp}{σ:L2.St}{ρ:Lc}{S S':Sto}(g:Gd K mp H σ ρ S)(a:Aft K mp H mp' H')(r:RS K mp' H' S'):Gd K mp' H' σ ρ S':=
 ⟨r,g.len,fun i d h=>let ⟨v,e,q⟩:=g.loc i d h; ⟨v,e,q.aft a⟩⟩
abbrev XW:=XD→List Addr→Hp→L2.St→Lc→Sto→Prop
abbrev RL(α β:Type):=List Addr→Hp→α→β→Prop
def PostG{α β:Type}(K:PySem.W.Frag)(R:RL α β)(XQ:XW)(σ:L2.St)(ρ:Lc)(mp:List Addr)(H:Hp)(o:Out α)(Q:β→Hp→Prop):Prop:=
 match o with
 | .ok d S=>∀ mp' H' v,Aft K mp H mp' H'→RS K mp' H' S→R mp' H' d v→Q v H'
 | .exc x S=>∀ mp' H',Aft K mp H mp' H'→Gd K mp' H' σ ρ S→XQ x mp' H' σ ρ S
 | .bad=>False
theorem PostG.aft{α β:Type}{K:PySem.W.Frag}{R:RL α β}{XQ:XW}{σ:L2.St}{ρ:Lc}{mp mp':List Addr}{H H':Hp}{o:Out α}{Q:β→Hp→Prop}(p:PostG K R XQ σ ρ mp H o Q)(a:Aft K mp H mp' H'):PostG K R XQ σ ρ mp' H' o Q:=by
 cases o with
 | ok d S=>exact fun m h v b=>p m h v (a.trans b)
 | exc x S=>exact fun m h b=>p m h (a.trans b)
 | bad=>exact p
theorem PostG.ok{α β:Type}{K:PySem.W.Frag}{R:RL α β}{XQ:XW}{σ:L2.St}{ρ:Lc}{mp:List Addr}{H:Hp}{d:α}{S:Sto}{v:β}{Q:β→Hp→Prop}(p:PostG K R XQ σ ρ mp H (.ok d S) Q)(r:RS K mp H S)(h:R mp H d v):Q v H:=p mp H v .refl r h
abbrev Post(K:PySem.W.Frag)(XQ:XW):=PostG (β:=V) K (Rep K) XQ
abbrev Ev(α:Type):=Lc→Sto→Out α
def rdG{α β:Type}(K:PySem.W.Frag)(R:RL α β)(XQ:XW)(f:Ev α):L2.St→Hp→(β→Hp→Prop)→Prop:=fun σ H Q=>∃ mp ρ S,Gd K mp H σ ρ S∧PostG K R XQ σ ρ mp H (f ρ S) Q
def kB:RL Bool Bool:=fun _ _ a b=>b=a
def kO:RL (Option Int) (Option Int):=fun _ _ a b=>b=a
abbrev rdE(K:PySem.W.Frag)(XQ:XW)(f:Ev D):TE:=rdG K (Rep K) XQ f
abbrev rdA(K:PySem.W.Frag)(XQ:XW)(f:Ev (List D)):TA:=rdG K (RepL K) XQ f
abbrev rdT(K:PySem.W.Frag)(XQ:XW)(f:Ev Bool):TT:=rdG K kB XQ f
abbrev rdO(K:PySem.W.Frag)(XQ:XW)(f:Ev (Option Int)):TO:=rdG K kO XQ f
def JE(X:Cx)(XQ:XW)(e:Expr)(f:Ev D):Prop:=PE X e (rdE X.K XQ f)
def JA(X:Cx)(XQ:XW)(es:List Expr)(f:Ev (List D)):Prop:=PA X es (rdA X.K XQ f)
def JT(X:Cx)(XQ:XW)(e:Expr)(f:Ev Bool):Prop:=PT X e (rdT X.K XQ f)
def JW(X:Cx)(XQ:XW)(e:Expr)(f:Ev Bool):Prop:=PW X e (rdT X.K XQ f)
def JO(X:Cx)(XQ:XW)(e:Option Expr)(f:Ev (Option Int)):Prop:=PO X e (rdO X.K XQ f)
theorem PE.mono{X:Cx}{e:Expr}{t t':TE}(h:PE X e t)(m:∀ σ H Q,t' σ H Q→t σ H Q):PE X e t':=fun pins s σ H Q I q=>h pins s σ H Q I (m σ H Q q)
theorem PT.mono{X:Cx}{e:Expr}{t t':TT}(h:PT X e t)(m:∀ σ H Q,t' σ H Q→t σ H Q):PT X e t':=fun pins s σ H Q I q=>h pins s σ H Q I (m σ H Q q)
theorem PW.mono{X:Cx}{e:Expr}{t t':TT}(h:PW X e t)(m:∀ σ H Q,t' σ H Q→t σ H Q):PW X e t':=fun wh pins s σ H Q I q=>h wh pins s σ H Q I (m σ H Q q)
theorem PO.mono{X:Cx}{e:Option Expr}{t t':TO}(h:PO X e t)(m:∀ σ H Q,t' σ H Q→t σ H Q):PO X e t':=fun pins s σ H Q I q=>h pins s σ H Q I (m σ H Q q)
theorem PA.mono{X:Cx}{e:List Expr}{t t':TA}(h:PA X e t)(m:∀ σ H Q,t' σ H Q→t σ H Q):PA X e t':=fun pos pins s σ H Q I q=>h pos pins s σ H Q I (m σ H Q q)
theorem PS.mono{X:Cx}{e:Stmt}{t t':TS}(h:PS X e t)(m:∀ D σ H,t' D σ H→t D σ H):PS X e t':=fun pins s σ H D I q=>h pins s σ H D I (m D σ H q)
theorem PSs.mono{X:Cx}{e:List Stmt}{t t':TS}(h:PSs X e t)(m:∀ D σ H,t' D σ H→t D σ H):PSs X e t':=fun pins s σ H D I q=>h pins s σ H D I (m D σ H q)
theorem bindP{α β γ δ:Type}{K:PySem.W.Frag}{R:RL α β}{R':RL γ δ}{XQ:XW}{mp:List Addr}{H:Hp}{σ:L2.St}{ρ:Lc}{S:Sto}{f:Ev α}{g:α→Sto→Out γ}{Q:δ→Hp→Prop}{Q1:β→Hp→Prop}(G:Gd K mp H σ ρ S)(p:PostG K R' XQ σ ρ mp H ((f ρ S).bind g) Q)
  (k:∀ mp1 H1 d S1 v,Aft K mp H mp1 H1→Gd K mp1 H1 σ ρ S1→R mp1 H1 d v→PostG K R' XQ σ ρ mp1 H1 (g d S1) Q→Q1 v H1):rdG K R XQ f σ H Q1:=by
 refine⟨mp,ρ,S,G,?_⟩
 cases e:f ρ S with
 | ok d S1=>
  rw[e] at p
  exact fun mp1 H1 v a rs r=>k mp1 H1 d S1 v a (G.aft a rs) r (PostG.aft p a)
 | exc x S1=>rw[e] at p; exact p
 | bad=>rw[e] at p; exact p
def vr(i:Nat):Ev D:=fun ρ S=>match ρ[i]? with
 | some (some d)=>.ok d S
 | _=>.bad
def cn(d:D):Ev D:=fun _ S=>.ok d S
section
variable{X:Cx}{XQ:XW}
theorem je_var(i:Nat){x:Str}{pos:Pos}(hN:X.N[i]?=some x:=by rfl)(hv:Vis X.env.scope x:=by first | exact Or.inl rfl | exact Or.inr (Or.inl rfl) | exact Or.inr (Or.inr rfl))(hd:(x==("__debug__":Str))=false:=by decide)
  (hcd:(x==("__classdict__":Str))=false:=by decide):JE X XQ (.Name x pos) (vr i):=by
 refine PE.mono (pe_var hN hv hd hcd) fun σ H Q ⟨mp,ρ,S,G,p⟩=>?_
 unfold vr at p
 cases e:ρ[i]? with
 | none=>rw[e] at p; exact p.elim
 | some o=>
  rw[e] at p
  cases o with
  | none=>exact p.elim
  | some d=>
   obtain⟨v,h1,h2⟩:=G.loc i d e
   exact⟨v,h1,PostG.ok p G.rs h2⟩
theorem je_const{e:Expr}{d:D}{v:V}(h:PE X e (tC v))(r:∀ mp H,Rep X.K mp H d v):JE X XQ e (cn d):=
 PE.mono h fun σ H Q ⟨mp,ρ,S,G,p⟩=>PostG.ok p G.rs (r mp H)
theorem je_int{i:Int}{j pos}:JE X XQ (.Constant (.int i) j pos) (cn (.int i)):=je_const pe_int fun _ _=>rfl
theorem je_bl{b:Bool}{j pos}:JE X XQ (.Constant (.bool b) j pos) (cn (.bl b)):=je_const pe_bl fun _ _=>rfl
theorem je_non{j pos}:JE X XQ (.Constant .none j pos) (cn .non):=je_const pe_non fun _ _=>rfl
theorem je_str{x:Str}{j pos}:JE X XQ (.Constant (.str x) j pos) (cn (.str x)):=je_const pe_str fun _ _=>rfl
def an:Ev (List D):=fun _ S=>.ok [] S
def ac(f:Ev D)(g:Ev (List D)):Ev (List D):=fun ρ S=>(f ρ S).bind fun x S1=>(g ρ S1).bind fun xs S2=>.ok (x::xs) S2
theorem ja_nil:JA X XQ [] an:=PA.mono pa_nil fun σ H Q ⟨mp,ρ,S,G,p⟩=>PostG.ok p G.rs RepL.nil
theorem ja_cons{e:Expr}{es:List Expr}{f:Ev D}{g:Ev (List D)}(ha:JE X XQ e f)(hr:JA X XQ es g)(hs:starEach (e::es) X.env=(false,eval e X.env)::starEach es X.env:=by rfl):JA X XQ (e::es) (ac f g):=by
 refine PA.mono (pa_cons ha hr hs) fun σ H Q ⟨mp,ρ,S,G,p⟩=>?_
 refine bindP G p fun mp1 H1 x S1 v a1 G1 r1 p1=>?_
 refine bindP G1 p1 fun mp2 H2 xs S2 vs a2 G2 r2 p2=>?_
 exact PostG.ok p2 G2.rs (RepL.cons (Rep.aft a2 _ _ r1) r2)
theorem aft_new{K:PySem.W.Frag}{mp:List Addr}{H:Hp}{p:Addr}{o:HO}(h:H p=none):Aft K mp H mp (upd H p o):=by
 refine⟨fun _ _ e=>e,fun a xs s=>?_,fun a φ s=>by rw[upd_ne (ne_of_none s h)]; exact s⟩
 rcases s with(s | ⟨ob,s⟩) | s
 ·exact .inl (.inl (by rw[upd_ne (ne_of_none s h)]; exact s))
 ·exact .inl (.inr ⟨ob,by rw[upd_ne (ne_of_none s h)]; exact s⟩)
 ·exact .inr s
theorem sqF_new{K:PySem.W.Frag}{H:Hp}{p a:Addr}{o:HO}{xs:List V}(h:H p=none)(s:SqF K H a xs):SqF K (upd H p o) a xs:=by
 rcases s with⟨ob,s⟩ | s
 ·exact .inl ⟨ob,by rw[upd_ne (ne_of_none s h)]; exact s⟩
 ·exact .inr s
theorem CellOk.new{K:PySem.W.Frag}{mp mp':List Addr}{H:Hp}{p a:Addr}{o:HO}{c:Cell}(h:H p=none)(af:Aft K mp H mp' (upd H p o))(q:CellOk K mp H a c):CellOk K mp' (upd H p o) a c:=by
 obtain⟨xs,r,e⟩:=q
 refine⟨xs,RepL.aft af _ _ r,?_⟩
 cases z:c.fz with
 | true=>rw[z] at e; exact(if_pos rfl).mpr (sqF_new h ((if_pos rfl).mp e))
 | false=>
  rw[z,if_neg Bool.false_ne_true] at e
  rw[if_neg Bool.false_ne_true,upd_ne (ne_of_none e h)]
  exact e
theorem RS.new{K:PySem.W.Frag}{mp:List Addr}{H:Hp}{S:Sto}{p:Addr}{o:HO}(r:RS K mp H S)(h:H p=none):RS K mp (upd H p o) S:=
 ⟨r.len,fun i a c e1 e2=>(r.cell i a c e1 e2).new h (aft_new h),r.inj⟩
theorem RS.newL{K:PySem.W.Frag}{mp:List Addr}{H:Hp}{S:Sto}{p:Addr}{ds:List D}{vs:List V}(r:RS K mp H S)(h:H p=none)(q:RepL K mp H ds vs):
  Aft K mp H (mp++[p]) (upd H p (.lst vs))∧RS K (mp++[p]) (upd H p (.lst vs)) (S++[⟨false,ds⟩])∧(mp++[p])[S.length]?=some p:=by
 have af:Aft K mp H (mp++[p]) (upd H p (.lst vs)):=⟨fun i a e=>by rw[List.getElem?_append_left (List.getElem?_eq_some_iff.mp e).1]; exact e,(aft_new (mp:=mp) h).tup,(aft_new (K:=K) (mp:=mp) h).ext⟩
 have hl:=r.len
 have lastp:(mp++[p])[S.length]?=some p:=by rw[←hl]; simp
 refine⟨af,⟨by simp[hl],fun i a c e1 e2=>?_,fun i j a ci cj e1 e2 e3 e4 f1 f2=>?_⟩,lastp⟩
 ·by_cases hi:i<S.length
  ·rw[List.getElem?_append_left (by omega)] at e1
   rw[List.getElem?_append_left hi] at e2
   exact(r.cell i a c e1 e2).new h af
  ·have hi':i=S.length:=by
    have:=(List.getElem?_eq_some_iff.mp e2).1
    simp at this
    omega
   subst hi'
   rw[lastp] at e1
   cases e1
   simp at e2
   subst e2
   exact⟨vs,RepL.aft af _ _ q,by simp[upd_same]⟩
 ·have old:∀ (i:Nat) (a:Addr) (c:Cell),i<S.length→(mp++[p])[i]?=some a→(S++[⟨false,ds⟩])[i]?=some c→c.fz=false→mp[i]?=some a∧S[i]?=some c∧a≠p:=fun i a c hi e1 e2 f=>by
   rw[List.getElem?_append_left (by omega)] at e1
   rw[List.getElem?_append_left hi] at e2
   refine⟨e1,e2,?_⟩
   obtain⟨xs,_,e⟩:=r.cell i a c e1 e2
   rw[f,if_neg Bool.false_ne_true] at e
   exact ne_of_none e h
  have hi:=(List.getElem?_eq_some_iff.mp e3).1
  have hj:=(List.getElem?_eq_some_iff.mp e4).1
  simp at hi hj
  by_cases hi':i<S.length
  ·obtain⟨o1,o2,o3⟩:=old i a ci hi' e1 e3 f1
   by_cases hj':j<S.length
   ·obtain⟨u1,u2,u3⟩:=old j a cj hj' e2 e4 f2
    exact r.inj i j a ci cj o1 u1 o2 u2 f1 f2
   ·have:j=S.length:=by omega
    subst this
    rw[lastp] at e2
    cases e2
    exact absurd rfl o3
  ·have:i=S.length:=by omega
   subst this
   rw[lastp] at e1
   cases e1
   by_cases hj':j<S.length
   ·obtain⟨u1,u2,u3⟩:=old j _ cj hj' e2 e4 f2
    exact absurd rfl u3
   ·omega
theorem RS.setL{K:PySem.W.Frag}{mp:List Addr}{H:Hp}{S:Sto}{i:Nat}{a:Addr}{c:Cell}{xs vs:List V}{ds:List D}(r:RS K mp H S)(hi:mp[i]?=some a)(hc:S[i]?=some c)(hf:c.fz=false)(ha:H a=some (.lst xs))(q:RepL K mp H ds vs):
  Aft K mp H mp (upd H a (.lst vs))∧RS K mp (upd H a (.lst vs)) (S.set i ⟨false,ds⟩):=by
 have af:Aft K mp H mp (upd H a (.lst vs)):=by
  refine⟨fun _ _ e=>e,fun b ys s=>?_,fun b φ s=>by rw[upd_ne (ne_of s ha (by intro z; cases z))]; exact s⟩
  rcases s with(s | ⟨ob,s⟩) | s
  ·exact .inl (.inl (by rw[upd_ne (ne_of s ha (by intro z; cases z))]; exact s))
  ·exact .inl (.inr ⟨ob,by rw[upd_ne (ne_of s ha (by intro z; cases z))]; exact s⟩)
  ·exact .inr s
 refine⟨af,⟨by simp[r.len],fun j b cj e1 e2=>?_,fun j k b cj ck e1 e2 e3 e4 f1 f2=>?_⟩⟩
 ·by_cases hj:j=i
  ·subst hj
   rw[hi] at e1
   cases e1
   rw[List.getElem?_set_self (List.getElem?_eq_some_iff.mp hc).1] at e2
   cases e2
   exact⟨vs,RepL.aft af _ _ q,by simp[upd_same]⟩
  ·rw[List.getElem?_set_ne (Ne.symm hj)] at e2
   obtain⟨ys,h1,h2⟩:=r.cell j b cj e1 e2
   refine⟨ys,RepL.aft af _ _ h1,?_⟩
   cases z:cj.fz with
   | true=>
    rw[z] at h2
    have h2:SqF K H b ys:=(if_pos rfl).mp h2
    refine(if_pos rfl).mpr ?_
    rcases h2 with⟨ob,s⟩ | s
    ·exact .inl ⟨ob,by rw[upd_ne (ne_of s ha (by intro z; cases z))]; exact s⟩
    ·exact .inr s
   | false=>
    rw[z,if_neg Bool.false_ne_true] at h2
    rw[if_neg Bool.false_ne_true]
    have hb:b≠a:=fun hb=>by
     subst hb
     exact hj (r.inj j i b cj c e1 hi e2 hc z hf)
    rw[upd_ne hb]
    exact h2
 ·have fz:∀ (j:Nat) (cj:Cell),(S.set i ⟨false,ds⟩)[j]?=some cj→cj.fz=false→∃ c',S[j]?=some c'∧c'.fz=false:=fun j cj e f=>by
   by_cases hj:j=i
   ·subst hj
    exact⟨c,hc,hf⟩
   ·rw[List.getElem?_set_ne (Ne.symm hj)] at e
    exact⟨cj,e,f⟩
  obtain⟨c1,g1,g2⟩:=fz j cj e3 f1
  obtain⟨c2,g3,g4⟩:=fz k ck e4 f2
  exact r.inj j k b c1 c2 e1 e2 g1 g3 g2 g4
theorem RS.items{K:PySem.W.Frag}{mp:List Addr}{H:Hp}{S:Sto}{i:Nat}{c:Cell}{v:V}(r:RS K mp H S)(h:Rep K mp H (.lst i) v)(e:S[i]?=some c):∃ a xs,v=.ref a∧mp[i]?=some a∧SqL K H a xs∧RepL K mp H c.xs xs∧(c.fz=false→H a=some (.lst xs)):=by
 obtain⟨a,ev,ea⟩:=(show ∃ a,v=.ref a∧mp[i]?=some a from h)
 obtain⟨xs,q,z⟩:=r.cell i a c ea e
 cases f:c.fz with
 | true=>rw[f] at z; exact⟨a,xs,ev,ea,((if_pos rfl).mp z:SqF K H a xs).sq,q,fun w=>nomatch w⟩
 | false=>rw[f,if_neg Bool.false_ne_true] at z; exact⟨a,xs,ev,ea,SqL.of z,q,fun _=>z⟩
theorem Rep.tup{K:PySem.W.Frag}{mp:List Addr}{H:Hp}{l:List D}{v:V}(h:Rep K mp H (.tup l) v):∃ a xs,v=.ref a∧SqT K H a xs∧RepL K mp H l xs:=h
def OpD(K:PySem.W.Frag)(r:R2)(o:D→D→Sto→Out D):Prop:=
 ∀ (XQ:XW) (σ:L2.St) (ρ:Lc) (mp:List Addr) (H:Hp) (S:Sto) (x y:D) (v u:V) (Q:VK),RS K mp H S→Rep K mp H x v→Rep K mp H y u→Post K XQ σ ρ mp H (o x y S) Q→r v u H Q
def o2(o:D→D→Sto→Out D)(fa fb:Ev D):Ev D:=fun ρ S=>(fa ρ S).bind fun x S1=>(fb ρ S1).bind fun y S2=>o x y S2
theorem opR2{r:R2}{o:D→D→Sto→Out D}{fa fb:Ev D}(hd:OpD X.K r o):∀ σ H Q,rdE X.K XQ (o2 o fa fb) σ H Q→tOp r (rdE X.K XQ fa) (rdE X.K XQ fb) σ H Q:=by
 intro σ H Q ⟨mp,ρ,S,G,p⟩
 refine bindP G p fun mp1 H1 x S1 v a1 G1 r1 p1=>?_
 refine bindP G1 p1 fun mp2 H2 y S2 u a2 G2 r2 p2=>?_
 exact hd XQ σ ρ mp2 H2 S2 x y v u Q G2.rs (Rep.aft a2 _ _ r1) r2 p2
theorem je_op{a b:Expr}{fa fb:Ev D}{op:Operator}{r:R2}{o:D→D→Sto→Out D}{pos:Pos}(ho:OpR X (binaryOp op) r)(hd:OpD X.K r o)(ha:JE X XQ a fa)(hb:JE X XQ b fb):JE X XQ (.BinOp a op b pos) (o2 o fa fb):=
 PE.mono (pe_op ho ha hb) (opR2 hd)
theorem je_ix{a b:Expr}{fa fb:Ev D}{r:R2}{o:D→D→Sto→Out D}{pos:Pos}(hr:IxR X r)(hd:OpD X.K r o)(ha:JE X XQ a fa)(hb:JE X XQ b fb)(hs:PlainIx b):JE X XQ (.Subscript a b pos) (o2 o fa fb):=
 PE.mono (pe_ix hr ha hb hs) (opR2 hd)
def o1(o:D→Sto→Out D)(fa:Ev D):Ev D:=fun ρ S=>(fa ρ S).bind fun x S1=>o x S1
def tp(f:Ev (List D)):Ev D:=fun ρ S=>(f ρ S).bind fun xs S1=>if xs.length≤1000000 then .ok (.tup xs) S1 else .bad
def ls(f:Ev (List D)):Ev D:=fun ρ S=>(f ρ S).bind fun xs S1=>if xs.length≤1000000 then .ok (.lst S1.length) (S1++[⟨false,xs⟩]) else .bad
theorem line_le{n:Nat}(h:n≤1000000):n≤sizeLine:=Nat.le_trans h (by decide)
theorem post_tup{K:PySem.W.Frag}{σ:L2.St}{ρ:Lc}{mp:List Addr}{H:Hp}{S:Sto}{ds:List D}{vs:List V}{Q:VK}{p:Addr}(po:Post K XQ σ ρ mp H (.ok (.tup ds) S) Q)(r:RS K mp H S)(q:RepL K mp H ds vs)(h:H p=none):Q (.ref p) (upd H p (.tup vs)):=by
 have af:Aft K mp H mp (upd H p (.tup vs)):=aft_new h
 exact po mp _ _ af (r.new h) ⟨p,vs,rfl,SqT.of upd_same,RepL.aft af _ _ q⟩
theorem post_lst{K:PySem.W.Frag}{σ:L2.St}{ρ:Lc}{mp:List Addr}{H:Hp}{S:Sto}{ds:List D}{vs:List V}{Q:VK}{p:Addr}(po:Post K XQ σ ρ mp H (.ok (.lst S.length) (S++[⟨false,ds⟩])) Q)(r:RS K mp H S)(q:RepL K mp H ds vs)(h:H p=none):Q (.ref p) (upd H p (.lst vs)):=by
 obtain⟨af,rs,e⟩:=r.newL h q
 exact po _ _ _ af rs ⟨p,rfl,e⟩
theorem je_tup{es:List Expr}{f:Ev (List D)}{x1}{pos:Pos}(h:JA X XQ es f):JE X XQ (.Tuple es x1 pos) (tp f):=by
 refine PE.mono (pe_tup h) fun σ H Q ⟨mp,ρ,S,G,p⟩=>?_
 refine bindP G p fun mp1 H1 xs S1 vs a1 G1 r1 p1=>?_
 by_cases hl:xs.length≤1000000
 ·rw[if_pos hl] at p1
  exact⟨by rw[r1.len]; exact line_le hl,fun q hq=>post_tup p1 G1.rs r1 hq⟩
 ·rw[if_neg hl] at p1; exact p1.elim
theorem je_lst{es:List Expr}{f:Ev (List D)}{pos:Pos}(h:JA X XQ es f):JE X XQ (.List es pos) (ls f):=by
 refine PE.mono (pe_lst h) fun σ H Q ⟨mp,ρ,S,G,p⟩=>?_
 refine bindP G p fun mp1 H1 xs S1 vs a1 G1 r1 p1=>?_
 by_cases hl:xs.length≤1000000
 ·rw[if_pos hl] at p1
  exact⟨by rw[r1.len]; exact line_le hl,fun q hq=>post_lst p1 G1.rs r1 hq⟩
 ·rw[if_neg hl] at p1; exact p1.elim
def truD:D→Sto→Option Bool
 | .non,_=>some false
 | .bl b,_=>some b
 | .int i,_=>some (i != 0)
 | .str y,_=>if y.length≤1000000 then some ((y.length:Int) != 0) else none
 | .tup l,_=>some (!l.isEmpty)
 | .lst i,S=>match S[i]? with
  | some c=>some (!c.xs.isEmpty)
  | none=>none
 | .exn _ _,_=>none
 | .fv _,_=>none
def tt(f:Ev D):Ev Bool:=fun ρ S=>(f ρ S).bind fun x S1=>match truD x S1 with
 | some b=>.ok b S1
 | none=>.bad
theorem RepL.empty{K:PySem.W.Frag}{mp:List Addr}{H:Hp}{l:List D}{vs:List V}(h:RepL K mp H l vs):(!l.isEmpty)=!vs.isEmpty:=by
 have e:=h.len
 cases l<;>cases vs<;>simp_all
theorem truV_of{K:PySem.W.Frag}{mp:List Addr}{H:Hp}{S:Sto}{x:D}{v:V}{b:Bool}(r:RS K mp H S)(h:Rep K mp H x v)(e:truD x S=some b):TruV K v H b:=by
 cases x with
 | non=>cases (show v=.non from h); exact(Option.some.inj e).symm
 | bl c=>cases (show v=.bl c from h); exact(Option.some.inj e).symm
 | int i=>cases (show v=.int i from h); exact(Option.some.inj e).symm
 | str y=>
  cases (show v=.str y from h)
  have e:(if y.length≤1000000 then some ((y.length:Int) != 0) else none)=some b:=e
  by_cases hl:y.length≤1000000
  ·rw[if_pos hl] at e; exact⟨line_le hl,(Option.some.inj e).symm⟩
  ·rw[if_neg hl] at e; cases e
 | tup l=>
  obtain⟨a,xs,rfl,s,q⟩:=Rep.tup h
  exact .inr (.inl ⟨xs,s,by rw[←q.empty]; exact(Option.some.inj e).symm⟩)
 | lst i=>
  have e:(match S[i]? with | some c=>some (!c.xs.isEmpty) | none=>none)=some b:=e
  cases z:S[i]? with
  | none=>rw[z] at e; cases e
  | some c=>
   rw[z] at e
   obtain⟨a,xs,rfl,_,s,q,_⟩:=r.items h z
   exact .inl ⟨xs,s,by rw[←q.empty]; exact(Option.some.inj e).symm⟩
 | exn c n=>cases (show(none:Option Bool)=some b from e)
 | fv c=>cases (show(none:Option Bool)=some b from e)
theorem jt_val{e:Expr}{f:Ev D}(h:JE X XQ e f)(he:∀ whole,isTrue e X.env whole=(do let v ←whole; standAt e.pos; holding [v] (truthy v)):=by intro _; rfl):JT X XQ e (tt f):=by
 refine PT.mono (pt_truth h he) fun σ H Q ⟨mp,ρ,S,G,p⟩=>?_
 refine bindP G p fun mp1 H1 x S1 v a1 G1 r1 p1=>?_
 cases z:truD x S1 with
 | none=>rw[z] at p1; exact p1.elim
 | some b=>
  rw[z] at p1
  exact⟨b,truV_of G1.rs r1 z,PostG.ok p1 G1.rs rfl⟩
def tb(f:Ev D):Ev Bool:=fun ρ S=>(f ρ S).bind fun x S1=>match x with
 | .bl b=>.ok b S1
 | _=>.bad
theorem tb_of{K:PySem.W.Frag}{f:Ev D}{σ:L2.St}{H:Hp}{Q:Bool→Hp→Prop}(h:rdT K XQ (tb f) σ H Q):rdE K XQ f σ H fun x H1=>∃ k,x=.bl k∧Q k H1:=by
 obtain⟨mp,ρ,S,G,p⟩:=h
 refine bindP G p fun mp1 H1 x S1 v a1 G1 r1 p1=>?_
 cases x with
 | bl b=>exact⟨b,r1,PostG.ok p1 G1.rs rfl⟩
 | _=>exact p1.elim
theorem jt_cmp{a b:Expr}{fa fb:Ev D}{op:CmpOp}{r:R2}{o:D→D→Sto→Out D}{pos:Pos}(ho:OpR X (compareOp op) r)(hd:OpD X.K r o)(ha:JE X XQ a fa)(hb:JE X XQ b fb)(hm:behindInMarks op b=false):JT X XQ (.Compare a [op] [b] pos) (tb (o2 o fa fb)):=
 PT.mono (pt_cmpR ho ha hb hm) fun σ H Q h=>opR2 hd σ H _ (tb_of h)
def tn(f:Ev Bool):Ev Bool:=fun ρ S=>(f ρ S).bind fun b S1=>.ok (!b) S1
def ta(f g:Ev Bool):Ev Bool:=fun ρ S=>(f ρ S).bind fun b S1=>if b=true then g ρ S1 else .ok false S1
def to(f g:Ev Bool):Ev Bool:=fun ρ S=>(f ρ S).bind fun b S1=>if b=true then .ok true S1 else g ρ S1
theorem jt_not{a:Expr}{f:Ev Bool}{pos:Pos}(h:JT X XQ a f):JT X XQ (.UnaryOp .Not a pos) (tn f):=
 PT.mono (pt_not h) fun σ H Q ⟨mp,ρ,S,G,p⟩=>bindP G p fun mp1 H1 b S1 c a1 G1 r1 p1=>by
  cases (show c=b from r1)
  exact PostG.ok p1 G1.rs rfl
theorem jw_and1{a:Expr}{f:Ev Bool}{pos:Pos}(h:JT X XQ a f):JW X XQ (.BoolOp .And [a] pos) f:=pw_and1 h
theorem jw_or1{a:Expr}{f:Ev Bool}{pos:Pos}(h:JT X XQ a f):JW X XQ (.BoolOp .Or [a] pos) f:=pw_or1 h
theorem jw_and{a b:Expr}{rest:List Expr}{f g:Ev Bool}{pos:Pos}(h:JT X XQ a f)(hb:JW X XQ (.BoolOp .And (b::rest) pos) g):JW X XQ (.BoolOp .And (a::b::rest) pos) (ta f g):=
 PW.mono (pw_and h hb) fun σ H Q ⟨mp,ρ,S,G,p⟩=>bindP G p fun mp1 H1 b S1 c a1 G1 r1 p1=>by
  cases (show c=b from r1)
  cases b with
  | true=>exact(if_pos rfl).mpr ⟨mp1,ρ,S1,G1,by simpa using p1⟩
  | false=>exact(if_neg Bool.false_ne_true).mpr (PostG.ok (R:=kB) (d:=false) (S:=S1) (by simpa using p1) G1.rs rfl)
theorem jw_or{a b:Expr}{rest:List Expr}{f g:Ev Bool}{pos:Pos}(h:JT X XQ a f)(hb:JW X XQ (.BoolOp .Or (b::rest) pos) g):JW X XQ (.BoolOp .Or (a::b::rest) pos) (to f g):=
 PW.mono (pw_or h hb) fun σ H Q ⟨mp,ρ,S,G,p⟩=>bindP G p fun mp1 H1 b S1 c a1 G1 r1 p1=>by
  cases (show c=b from r1)
  cases b with
  | false=>exact(if_neg Bool.false_ne_true).mpr ⟨mp1,ρ,S1,G1,by simpa using p1⟩
  | true=>exact(if_pos rfl).mpr (PostG.ok (R:=kB) (d:=true) (S:=S1) (by simpa using p1) G1.rs rfl)
theorem JW.jt{e:Expr}{f:Ev Bool}(h:JW X XQ e f):JT X XQ e f:=PW.pt h
def va(f g:Ev D):Ev D:=fun ρ S=>(f ρ S).bind fun x S1=>match x with
 | .bl b=>if b=true then g ρ S1 else .ok (.bl false) S1
 | _=>.bad
def vo(f g:Ev D):Ev D:=fun ρ S=>(f ρ S).bind fun x S1=>match x with
 | .bl b=>if b=true then .ok (.bl true) S1 else g ρ S1
 | _=>.bad
def vn(f:Ev D):Ev D:=fun ρ S=>(f ρ S).bind fun x S1=>match x with
 | .bl b=>.ok (.bl (!b)) S1
 | _=>.bad
def ie(c:Ev Bool)(f g:Ev D):Ev D:=fun ρ S=>(c ρ S).bind fun b S1=>if b=true then f ρ S1 else g ρ S1
end
end DL
set_option Elab.async false
set_option linter.all false
set_option maxRecDepth 100000
namespace DL
open PySem PySem.Spec PyProof.Rows L2
inductive OS where
 | nx (ρ:Lc) (S:Sto) | rt (d:D) (S:Sto) | bk (ρ:Lc) (S:Sto) | ct (ρ:Lc) (S:Sto) | exc (x:XD) (ρ:Lc) (S:Sto) | bad
abbrev Sv:=Lc→Sto→OS
def PostS(K:PySem.W.Frag)(XQ:XW)(mp:List Addr)(H:Hp)(o:OS)(E:Ends):Prop:=
 match o with
 | .nx ρ S=>∀ mp' H' σ',Aft K mp H mp' H'→Gd K mp' H' σ' ρ S→E.nx σ' H'
 | .rt d S=>∀ mp' H' v,Aft K mp H mp' H'→RS K mp' H' S→Rep K mp' H' d v→E.rt v H'
 | .bk ρ S=>∀ mp' H' σ',Aft K mp H mp' H'→Gd K mp' H' σ' ρ S→E.bk σ' H'
 | .ct ρ S=>∀ mp' H' σ',Aft K mp H mp' H'→Gd K mp' H' σ' ρ S→E.ct σ' H'
 | .exc x ρ S=>∀ mp' H' σ',Aft K mp H mp' H'→Gd K mp' H' σ' ρ S→XQ x mp' H' σ' ρ S
 | .bad=>False
theorem PostS.aft{K:PySem.W.Frag}{XQ:XW}{mp mp':List Addr}{H H':Hp}{o:OS}{E:Ends}(p:PostS K XQ mp H o E)(a:Aft K mp H mp' H'):PostS K XQ mp' H' o E:=by
 cases o with
 | nx ρ S=>exact fun m h v b=>p m h v (a.trans b)
 | rt d S=>exact fun m h v b=>p m h v (a.trans b)
 | bk ρ S=>exact fun m h v b=>p m h v (a.trans b)
 | ct ρ S=>exact fun m h v b=>p m h v (a.trans b)
 | exc x ρ S=>exact fun m h v b=>p m h v (a.trans b)
 | bad=>exact p
def rdS(K:PySem.W.Frag)(XQ:XW)(f:Sv):TS:=fun E σ H=>∃ mp ρ S,Gd K mp H σ ρ S∧PostS K XQ mp H (f ρ S) E
def JS(X:Cx)(XQ:XW)(st:Stmt)(f:Sv):Prop:=PS X st (rdS X.K XQ f)
def JSs(X:Cx)(XQ:XW)(st:List Stmt)(f:Sv):Prop:=PSs X st (rdS X.K XQ f)
def bindS{α:Type}(o:Out α)(ρ:Lc)(k:α→Sto→OS):OS:=
 match o with
 | .ok a S=>k a S
 | .exc x S=>.exc x ρ S
 | .bad=>.bad
theorem bindSP{α β:Type}{K:PySem.W.Frag}{R:RL α β}{XQ:XW}{mp:List Addr}{H:Hp}{σ:L2.St}{ρ:Lc}{S:Sto}{f:Ev α}{g:α→Sto→OS}{E:Ends}{Q1:β→Hp→Prop}(G:Gd K mp H σ ρ S)(p:PostS K XQ mp H (bindS (f ρ S) ρ g) E)
  (k:∀ mp1 H1 d S1 v,Aft K mp H mp1 H1→Gd K mp1 H1 σ ρ S1→R mp1 H1 d v→PostS K XQ mp1 H1 (g d S1) E→Q1 v H1):rdG K R XQ f σ H Q1:=by
 refine⟨mp,ρ,S,G,?_⟩
 cases e:f ρ S with
 | ok d S1=>
  rw[e] at p
  exact fun mp1 H1 v a rs r=>k mp1 H1 d S1 v a (G.aft a rs) r (PostS.aft p a)
 | exc x S1=>rw[e] at p; exact fun m h b c=>p m h σ b c
 | bad=>rw[e] at p; exact p
def skip:Sv:=fun ρ S=>.nx ρ S
def sq(f g:Sv):Sv:=fun ρ S=>match f ρ S with
 | .nx ρ' S'=>g ρ' S'
 | .rt d S'=>.rt d S'
 | .bk ρ' S'=>.bk ρ' S'
 | .ct ρ' S'=>.ct ρ' S'
 | .exc x ρ' S'=>.exc x ρ' S'
 | .bad=>.bad
section
variable{X:Cx}{XQ:XW}
theorem PostS.nx{K:PySem.W.Frag}{mp:List Addr}{H:Hp}{σ:L2.St}{ρ:Lc}{S:Sto}{E:Ends}(p:PostS K XQ mp H (.nx ρ S) E)(G:Gd K mp H σ ρ S):E.nx σ H:=p mp H σ .refl G
theorem PostS.rt{K:PySem.W.Frag}{mp:List Addr}{H:Hp}{d:D}{v:V}{S:Sto}{E:Ends}(p:PostS K XQ mp H (.rt d S) E)(r:RS K mp H S)(h:Rep K mp H d v):E.rt v H:=p mp H v .refl r h
theorem jss_nil:JSs X XQ [] skip:=PSs.mono pss_nil fun E σ H ⟨mp,ρ,S,G,p⟩=>PostS.nx p G
theorem jss_cons{st:Stmt}{rest:List Stmt}{f g:Sv}(h1:JS X XQ st f)(h2:JSs X XQ rest g):JSs X XQ (st::rest) (sq f g):=by
 refine PSs.mono (pss_cons h1 h2) fun E σ H ⟨mp,ρ,S,G,p⟩=>⟨mp,ρ,S,G,?_⟩
 unfold sq at p
 cases e:f ρ S with
 | nx ρ' S'=>rw[e] at p; exact fun m h v a G'=>⟨m,ρ',S',G',PostS.aft p a⟩
 | rt d S'=>rw[e] at p; exact p
 | bk ρ' S'=>rw[e] at p; exact p
 | ct ρ' S'=>rw[e] at p; exact p
 | exc x ρ' S'=>rw[e] at p; exact p
 | bad=>rw[e] at p; exact p
theorem jss_one{st:Stmt}{f:Sv}(h1:JS X XQ st f):JSs X XQ [st] f:=pss_one h1
def sx(f:Ev D):Sv:=fun ρ S=>bindS (f ρ S) ρ fun _ S1=>.nx ρ S1
def sret(f:Ev D):Sv:=fun ρ S=>bindS (f ρ S) ρ fun d S1=>.rt d S1
theorem js_ret{e:Expr}{f:Ev D}{pos:Pos}(he:JE X XQ e f):JS X XQ (.Return (some e) pos) (sret f):=
 PS.mono (ps_ret he) fun E σ H ⟨mp,ρ,S,G,p⟩=>bindSP G p fun mp1 H1 d S1 v a1 G1 r1 p1=>PostS.rt p1 G1.rs r1
def sif(c:Ev Bool)(f g:Sv):Sv:=fun ρ S=>bindS (c ρ S) ρ fun b S1=>if b=true then f ρ S1 else g ρ S1
theorem js_if{c:Expr}{a b:List Stmt}{fc:Ev Bool}{f g:Sv}{pos:Pos}(hc:JT X XQ c fc)(ha:JSs X XQ a f)(hb:JSs X XQ b g):JS X XQ (.If c a b pos) (sif fc f g):=
 PS.mono (ps_if hc ha hb) fun E σ H ⟨mp,ρ,S,G,p⟩=>bindSP G p fun mp1 H1 b S1 c a1 G1 r1 p1=>by
  cases (show c=b from r1)
  cases b with
  | true=>exact(if_pos rfl).mpr ⟨mp1,ρ,S1,G1,by simpa using p1⟩
  | false=>exact(if_neg Bool.false_ne_true).mpr ⟨mp1,ρ,S1,G1,by simpa using p1⟩
theorem Gd.set{K:PySem.W.Frag}{mp:List Addr}{H:Hp}{σ:L2.St}{ρ:Lc}{S:Sto}{d:D}{v:V}(G:Gd K mp H σ ρ S)(i:Nat)(r:Rep K mp H d v):Gd K mp H (σ.set i (some v)) (ρ.set i (some d)) S:=by
 refine⟨G.rs,by simp[G.len],fun j e h=>?_⟩
 by_cases hj:j=i
 ·subst hj
  have hl:j<ρ.length:=by
   have:=(List.getElem?_eq_some_iff.mp h).1
   simpa using this
  rw[List.getElem?_set_self hl] at h
  cases h
  exact⟨v,by rw[List.getElem?_set_self (by rw[G.len]; exact hl)],r⟩
 ·rw[List.getElem?_set_ne (Ne.symm hj)] at h ⊢
  exact G.loc j e h
abbrev Tg:=D→Lc→Option Lc
def rdG1(K:PySem.W.Frag)(g:Tg):TG:=fun v σ H Q=>∃ mp ρ S d ρ',Gd K mp H σ ρ S∧Rep K mp H d v∧g d ρ=some ρ'∧∀ σ',Gd K mp H σ' ρ' S→Q σ' H
def JG(X:Cx)(tg:Expr)(g:Tg):Prop:=PG X tg (rdG1 X.K g)
theorem PG.mono{X:Cx}{e:Expr}{t t':TG}(h:PG X e t)(m:∀ v σ H Q,t' v σ H Q→t v σ H Q):PG X e t':=fun pins s σ H v u Q I r q=>h pins s σ H v u Q I r (m v σ H Q q)
def gn(i:Nat):Tg:=fun d ρ=>some (ρ.set i (some d))
theorem jg_name(i:Nat){x:Str}{pos:Pos}(hN:X.N.Nodup)(hi:X.N[i]?=some x:=by rfl)(hx:Loc X.env.scope x:=by first | exact Or.inl rfl | exact Or.inr rfl)(hf:X.fn x=true∨X.env.scope.names.lookup x=some .local:=by first | exact .inl rfl | exact .inr rfl | assumption):JG X (.Name x pos) (gn i):=
 PG.mono (pg_name hN hi hx hf) fun v σ H Q ⟨mp,ρ,S,d,ρ',G,r,e,k⟩=>by
  cases (Option.some.inj e)
  exact k _ (G.set i r)
abbrev Tgs:=List D→Lc→Option Lc
def rdGs(K:PySem.W.Frag)(g:Tgs):TGs:=fun vs σ H Q=>∃ mp ρ S ds ρ',Gd K mp H σ ρ S∧RepL K mp H ds vs∧g ds ρ=some ρ'∧∀ σ',Gd K mp H σ' ρ' S→Q σ' H
def JGs(X:Cx)(ts:List Expr)(g:Tgs):Prop:=PGs X ts (rdGs X.K g)
theorem PGs.mono{X:Cx}{e:List Expr}{t t':TGs}(h:PGs X e t)(m:∀ v σ H Q,t' v σ H Q→t v σ H Q):PGs X e t':=fun pins s σ H v u Q I r q=>h pins s σ H v u Q I r (m v σ H Q q)
def gnil:Tgs:=fun ds ρ=>match ds with
 | []=>some ρ
 | _::_=>none
def gcons(g:Tg)(k:Tgs):Tgs:=fun ds ρ=>match ds with
 | []=>none
 | d::r=>(g d ρ).bind fun ρ'=>k r ρ'
theorem jgs_nil:JGs X [] gnil:=PGs.mono pgs_nil fun vs σ H Q ⟨mp,ρ,S,ds,ρ',G,r,e,k⟩=>by
 cases ds with
 | nil=>
  cases (show some ρ=some ρ' from e)
  exact⟨r,k _ G⟩
 | cons _ _=>cases (show(none:Option Lc)=some ρ' from e)
theorem jgs_cons{e:Expr}{es:List Expr}{g:Tg}{k:Tgs}(h1:JG X e g)(h2:JGs X es k)
  (hs:(assignEach (e::es) X.env).map (·.2)=assign e X.env::(assignEach es X.env).map (·.2):=by rfl):JGs X (e::es) (gcons g k):=
 PGs.mono (pgs_cons h1 h2 hs) fun vs σ H Q ⟨mp,ρ,S,ds,ρ',G,r,e,q⟩=>by
  cases ds with
  | nil=>cases (show(none:Option Lc)=some ρ' from e)
  | cons d ds=>
   have e:(g d ρ).bind (fun ρ'=>k ds ρ')=some ρ':=e
   obtain⟨v,vr,ev,h3,h4⟩:=(show ∃ v r,vs=v::r∧Rep X.K mp H d v∧RepL X.K mp H ds r from r)
   cases z:g d ρ with
   | none=>rw[z] at e; cases e
   | some ρ1=>
    rw[z] at e
    exact⟨v,vr,ev,mp,ρ,S,d,ρ1,G,h3,z,fun σ1 G1=>⟨mp,ρ1,S,ds,ρ',G1,h4,e,q⟩⟩
def gt(k:Tgs)(n:Nat):Tg:=fun d ρ=>match d with
 | .tup ds=>if ds.length=n then k ds ρ else none
 | _=>none
theorem jg_tup{es:List Expr}{m:Nat}{k:Tgs}{n:Nat}{pos:Pos}(hc:X.calm=true)(h:JGs X es k)
  (hn:(assignEach es X.env).length=n:=by rfl) (hst:(assignEach es X.env).findIdx? (·.1)=none:=by rfl):JG X (.Tuple es m pos) (gt k n):=
 PG.mono (pg_tup hc h hn hst) fun v σ H Q ⟨mp,ρ,S,d,ρ',G,r,e,q⟩=>by
  cases d with
  | tup ds=>
   have e:(if ds.length=n then k ds ρ else none)=some ρ':=e
   obtain⟨a,xs,ev,sq,rl⟩:=Rep.tup r
   by_cases hl:ds.length=n
   ·rw[if_pos hl] at e
    exact⟨a,xs,ev,sq,by rw[rl.len]; exact hl,mp,ρ,S,ds,ρ',G,rl,e,q⟩
   ·rw[if_neg hl] at e; cases e
  | _=>cases (show(none:Option Lc)=some ρ' from e)
def sa(f:Ev D)(g:Tg):Sv:=fun ρ S=>bindS (f ρ S) ρ fun d S1=>match g d ρ with
 | some ρ'=>.nx ρ' S1
 | none=>.bad
theorem asgP{K:PySem.W.Frag}{f:Ev D}{g:Tg}(E:Ends)(σ:L2.St)(H:Hp)(h:rdS K XQ (sa f g) E σ H):tAsg (rdE K XQ f) (rdG1 K g) E σ H:=by
 obtain⟨mp,ρ,S,G,p⟩:=h
 refine bindSP G p fun mp1 H1 d S1 v a1 G1 r1 p1=>?_
 cases z:g d ρ with
 | none=>rw[z] at p1; exact p1.elim
 | some ρ'=>
  rw[z] at p1
  exact⟨mp1,ρ,S1,d,ρ',G1,r1,z,fun σ' G'=>PostS.nx p1 G'⟩
theorem js_asg{tg e:Expr}{f:Ev D}{g:Tg}{pos:Pos}(he:JE X XQ e f)(hg:JG X tg g)(hs:swapsWithSole [tg] e pos.line X.env=pure false:=by rfl)(hw:swappedStores [tg] e X.env=pure none:=by rfl)
  (h1:(assignEach [tg] X.env).map (·.2)=[assign tg X.env]:=by rfl):JS X XQ (.Assign [tg] e pos) (sa f g):=
 PS.mono (ps_asg he hg hs hw h1) asgP
theorem js_set(i:Nat){x:Str}{e:Expr}{f:Ev D}{pos pos':Pos}(hN:X.N.Nodup)(he:JE X XQ e f)(hi:X.N[i]?=some x:=by rfl)(hx:Loc X.env.scope x:=by first | exact Or.inl rfl | exact Or.inr rfl)(hs:swapsWith e (some (.Name x pos')) pos.line X.env=pure false:=by rfl)
  (hf:X.fn x=true∨X.env.scope.names.lookup x=some .local:=by first | exact .inl rfl | exact .inr rfl | assumption):JS X XQ (.Assign [.Name x pos'] e pos) (sa f (gn i)):=
 PS.mono (ps_set hN hi hx he hs hf) fun E σ H ⟨mp,ρ,S,G,p⟩=>bindSP G p fun mp1 H1 d S1 v a1 G1 r1 p1=>PostS.nx p1 (G1.set i r1)
def SetD(t:TSet)(K:PySem.W.Frag)(o:D→D→D→Sto→Option Sto):Prop:=
 ∀ (mp:List Addr) (H:Hp) (S S':Sto) (x y z:D) (v u w:V) (Q:Hp→Prop),RS K mp H S→Rep K mp H x v→Rep K mp H y u→Rep K mp H z w→o x y z S=some S'→(∀ H',Aft K mp H mp H'→RS K mp H' S'→Q H')→t v u w H Q
def ss(f fo fi:Ev D)(o:D→D→D→Sto→Option Sto):Sv:=fun ρ S=>bindS (f ρ S) ρ fun d S1=>bindS (fo ρ S1) ρ fun x S2=>bindS (fi ρ S2) ρ fun y S3=>match o x y d S3 with
 | some S4=>.nx ρ S4
 | none=>.bad
theorem js_sub{ob ix e:Expr}{f fo fi:Ev D}{t:TSet}{o:D→D→D→Sto→Option Sto}{pos p2:Pos}(hset:PSet X t)(ho:SetD t X.K o)(he:JE X XQ e f)(hob:JE X XQ ob fo)(hix:JE X XQ ix fi)
  (hs:swapsWithSole [.Subscript ob ix p2] e pos.line X.env=pure false:=by rfl) (hw:swappedStores [.Subscript ob ix p2] e X.env=pure none:=by rfl)
  (h1:(assignEach [.Subscript ob ix p2] X.env).map (·.2)=[assign (.Subscript ob ix p2) X.env]:=by rfl) (ha:∀ v,assign (.Subscript ob ix p2) X.env v=(do
   let ov ←holding [v] (eval ob X.env)
   let iv ←holding [v,ov] (eval ix X.env)
   standAt p2
   holding [v,ov,iv] (setItem ov iv v)
   release [v,ov,iv] []):=by intro _; rfl):JS X XQ (.Assign [.Subscript ob ix p2] e pos) (ss f fo fi o):=by
 refine PS.mono (ps_asg he (pg_sub hob hix hset ha) hs hw h1) fun E σ H ⟨mp,ρ,S,G,p⟩=>?_
 refine bindSP G p fun mp1 H1 d S1 v a1 G1 r1 p1=>?_
 refine bindSP G1 p1 fun mp2 H2 x S2 vx a2 G2 r2 p2=>?_
 refine bindSP G2 p2 fun mp3 H3 y S3 vy a3 G3 r3 p3=>?_
 cases z:o x y d S3 with
 | none=>rw[z] at p3; exact p3.elim
 | some S4=>
  rw[z] at p3
  exact ho mp3 H3 S3 S4 x y d vx vy v _ G3.rs (Rep.aft a3 _ _ r2) r3 (Rep.aft (a2.trans a3) _ _ r1) z fun H' af rs=>p3 mp3 H' σ af (G3.aft af rs)
structure Src where
 nxt:Nat→Sto→Option D
 fuel:Nat
def ItOk(K:PySem.W.Frag)(mp0:List Addr)(H0:Hp)(J:It)(nxt:Nat→Sto→Option D):Prop:=
 ∀ (mp:List Addr) (H:Hp) (S:Sto),Aft K mp0 H0 mp H→RS K mp H S→∀ k,match nxt k S with
  | some d=>J.go k H∧∀ x H',J.yld k H x H'→Aft K mp H mp H'∧RS K mp H' S∧Rep K mp H' d x
  | none=>J.stop k H
def kI(K:PySem.W.Frag):RL Src It:=fun mp H s J=>ItOk K mp H J s.nxt
abbrev rdI(K:PySem.W.Frag)(XQ:XW)(f:Ev Src):TI:=rdG K (kI K) XQ f
def JI(X:Cx)(XQ:XW)(tg iter:Expr)(f:Ev Src):Prop:=PI X tg iter (rdI X.K XQ f)
theorem PI.mono{X:Cx}{tg e:Expr}{t t':TI}(h:PI X tg e t)(m:∀ σ H Q,t' σ H Q→t σ H Q):PI X tg e t':=fun pins s σ H Q I q=>h pins s σ H Q I (m σ H Q q)
def forN(nxt:Nat→Sto→Option D)(g:Tg)(b:Sv):Nat→Nat→Sv
 | 0,_,_,_=>.bad
 | n+1,k,ρ,S=>match nxt k S with
  | none=>.nx ρ S
  | some d=>match g d ρ with
   | none=>.bad
   | some ρ1=>match b ρ1 S with
    | .nx ρ2 S2=>forN nxt g b n (k+1) ρ2 S2
    | .ct ρ2 S2=>forN nxt g b n (k+1) ρ2 S2
    | .bk ρ2 S2=>.nx ρ2 S2
    | .rt d S2=>.rt d S2
    | .exc x ρ2 S2=>.exc x ρ2 S2
    | .bad=>.bad
def sfor(f:Ev Src)(g:Tg)(b:Sv):Sv:=fun ρ S=>bindS (f ρ S) ρ fun s S1=>forN s.nxt g b s.fuel 0 ρ S1
theorem js_for{tg iter:Expr}{body:List Stmt}{f:Ev Src}{g:Tg}{b:Sv}{pos:Pos}(hp:PassesOwn (model X.prog X.w) X.A X.env X.xe)(hc:X.calm=true)(hi:JI X XQ tg iter f)(hg:JG X tg g)(hb:JSs X XQ body b)
  (hs:∀ x,foldedSetIterable iter X.env x=pure x:=by intro _; rfl):JS X XQ (.For tg iter body [] pos) (sfor f g b):=by
 refine PS.mono (ps_for hp hc hi hg hb hs) fun E σ H ⟨mp,ρ,S,G,p⟩=>?_
 refine bindSP G p fun mp1 H1 s S1 J a1 G1 j1 p1=>?_
 refine⟨fun i m σ' H'=>∃ mp' ρ' S',Aft X.K mp1 H1 mp' H'∧Gd X.K mp' H' σ' ρ' S'∧PostS X.K XQ mp' H' (forN s.nxt g b m i ρ' S') E,⟨s.fuel,mp1,ρ,S1,.refl,G1,p1⟩,?_⟩
 rintro i m σ' H' ⟨mp',ρ',S',a',G',p'⟩
 cases m with
 | zero=>exact(show False from p').elim
 | succ n=>
  have j:=j1 mp' H' S' a' G'.rs i
  unfold forN at p'
  cases z:s.nxt i S' with
  | none=>
   rw[z] at j p'
   exact .inl ⟨j,PostS.nx p' G'⟩
  | some d=>
   rw[z] at j p'
   obtain⟨j1,j2⟩:=j
   refine .inr ⟨j1,fun σ2 H2=>∃ mp2 ρ2 S2,Aft X.K mp1 H1 mp2 H2∧Gd X.K mp2 H2 σ2 ρ2 S2∧PostS X.K XQ mp2 H2 (forN s.nxt g b n (i+1) ρ2 S2) E,fun σ2 H2 q=>⟨n,Nat.lt_succ_self n,q⟩,fun x H2 y=>?_⟩
   obtain⟨a2,r2,x2⟩:=j2 x H2 y
   have G2:=G'.aft a2 r2
   cases zg:g d ρ' with
   | none=>simp only[zg] at p'; exact p'.elim
   | some ρ1=>
    simp only[zg] at p'
    refine⟨mp',ρ',S',d,ρ1,G2,x2,zg,fun σ3 G3=>⟨mp',ρ1,S',G3,?_⟩⟩
    have p2:=PostS.aft p' a2
    cases zb:b ρ1 S' with
    | nx ρ2 S2=>simp only[zb] at p2; exact fun m h v af G4=>⟨m,ρ2,S2,(a'.trans a2).trans af,G4,PostS.aft p2 af⟩
    | ct ρ2 S2=>simp only[zb] at p2; exact fun m h v af G4=>⟨m,ρ2,S2,(a'.trans a2).trans af,G4,PostS.aft p2 af⟩
    | bk ρ2 S2=>simp only[zb] at p2; exact p2
    | rt d S2=>simp only[zb] at p2; exact p2
    | exc x ρ2 S2=>simp only[zb] at p2; exact p2
    | bad=>simp only[zb] at p2; exact p2
def srcOf:D→Sto→Out Src
 | .tup l,S=>.ok ⟨fun k _=>l[k]?,l.length+1⟩ S
 | .lst i,S=>match S[i]? with
  | some c=>.ok ⟨fun k S=>(S[i]?).bind fun c=>c.xs[k]?,c.xs.length+1⟩ S
  | none=>.bad
 | _,_=>.bad
end
end DL
set_option Elab.async false
set_option linter.all false
set_option maxRecDepth 100000
namespace DL
open PySem PySem.Spec PyProof.Rows L2
section
variable{X:Cx}{XQ:XW}
def isrc(f:Ev D):Ev Src:=fun ρ S=>(f ρ S).bind srcOf
def rsrc(lo:Int)(n:Nat):Src:=⟨fun k _=>if k<n then some (.int (lo+k)) else none,n+1⟩
theorem itr_ok{K:PySem.W.Frag}{mp:List Addr}{H:Hp}{lo:Int}{n:Nat}:ItOk K mp H (Itr lo n) (rsrc lo n).nxt:=by
 intro mp' H' S' af rs k
 show match (if k<n then some (D.int (lo+k)) else none) with
  | some d=>(Itr lo n).go k H'∧∀ x H2,(Itr lo n).yld k H' x H2→Aft K mp' H' mp' H2∧RS K mp' H2 S'∧Rep K mp' H2 d x
  | none=>(Itr lo n).stop k H'
 by_cases h:k<n
 ·rw[if_pos h]
  refine⟨h,fun x H2 ⟨h1,h2⟩=>?_⟩
  subst h1 h2
  exact⟨.refl,rs,rfl⟩
 ·rw[if_neg h]
  exact Nat.not_lt.mp h
def ir1(f:Ev (List D)):Ev Src:=fun ρ S=>(f ρ S).bind fun ds S1=>match ds with
 | [.int j]=>if -1000000000000≤j∧j≤1000000000000 then .ok (rsrc 0 j.toNat) S1 else .bad
 | _=>.bad
theorem RepL.one{K:PySem.W.Frag}{mp:List Addr}{H:Hp}{d:D}{vs:List V}(h:RepL K mp H [d] vs):∃ v,vs=[v]∧Rep K mp H d v:=by
 obtain⟨v,r,rfl,h1,h2⟩:=h
 cases (show r=[] from h2)
 exact⟨v,rfl,h1⟩
theorem ji_range1{tg a:Expr}{f:Ev (List D)}{p pos:Pos}(hg:Gl X "range")(hm:X.mg "range"=none)(ha:JA X XQ [a] f)(hs:starEach [a] X.env=[(false,eval a X.env)]:=by rfl):JI X XQ tg (.Call (.Name "range" p) [a] [] pos) (ir1 f):=by
 refine PI.mono (pi_range1 hg hm ha hs) fun σ H R ⟨mp,ρ,S,G,p⟩=>?_
 refine bindP G p fun mp1 H1 ds S1 vs a1 G1 r1 p1=>?_
 split at p1
 ·rename_i j
  by_cases hb : -1000000000000≤j∧j≤1000000000000
  ·rw[if_pos hb] at p1
   obtain⟨v,rfl,h1⟩:=RepL.one r1
   cases (show v=.int j from h1)
   refine⟨j,rfl,by omega,by omega,PostG.ok (R:=kI X.K) (d:=rsrc 0 j.toNat) (S:=S1) p1 G1.rs itr_ok⟩
  ·rw[if_neg hb] at p1; exact p1.elim
 ·exact p1.elim
end
abbrev Fn:=List D→Sto→Out D
def PostF(K:PySem.W.Frag)(mp:List Addr)(H:Hp)(o:Out D)(Q:VK):Prop:=
 match o with
 | .ok d S=>∀ mp' H' v,Aft K mp H mp' H'→RS K mp' H' S→Rep K mp' H' d v→Q v H'
 | _=>False
def spD(K:PySem.W.Frag)(n:Nat)(fn:Fn):Sp:=fun vs H Q _=>∃ mp ds S,RS K mp H S∧RepL K mp H ds vs∧ds.length=n∧PostF K mp H (fn ds S) Q
def fnB(m:Nat)(b:Sv):Fn:=fun ds S=>match b (ds.map some++List.replicate (m-ds.length) none) S with
 | .rt d S'=>.ok d S'
 | .nx _ S'=>.ok .non S'
 | .exc x _ S'=>.exc x S'
 | _=>.bad
theorem start_ok{K:PySem.W.Frag}{mp:List Addr}{H:Hp}{S:Sto}{N:List Str}{ds:List D}{vs:List V}(r:RS K mp H S)(h:RepL K mp H ds vs):Gd K mp H (start N vs) (ds.map some++List.replicate (N.length-ds.length) none) S:=by
 have hl:=h.len
 refine⟨r,by simp[L2.start,hl],fun i d e=>?_⟩
 by_cases hi:i<ds.length
 ·rw[List.getElem?_append_left (by simpa using hi),List.getElem?_map] at e
  cases z:ds[i]? with
  | none=>rw[z] at e; cases e
  | some d'=>
   rw[z] at e
   cases e
   obtain⟨v,e1,q⟩:=h.get z
   refine⟨v,?_,q⟩
   unfold L2.start
   rw[List.getElem?_append_left (by simp[hl]; exact hi),List.getElem?_map,e1]
   rfl
 ·rw[List.getElem?_append_right (by simpa using hi),List.getElem?_replicate] at e
  split at e
  ·cases e
  ·cases e
section
variable{P:Program}{w:World}{K:PySem.W.Frag}{mg:Str→Option Value}{base:Heap}
theorem fn_ok{x qual:Str}{st:Stmt}{f:Addr}{fd:FuncData}{N ps:List Str}{k:Nat}{b:Sv}(F:Fun K x qual st f fd)(Sc:FnScope N ps (defScope st))
  (hb:∀ (cdv:Value) (A:Around) (outer:List PySem.Env) (s:Shared) (H:Hp) (E:XK),Room k (A.deeper (envOfC qual (defScope st) s.heap.objs.size f cdv))→
   JSs (cxOf CX0 P w K mg base N qual (defScope st) f cdv A outer s H E).nox (fun _ _ _ _ _ _=>False) (defBody st) b):FnOk P w K mg base CX0 (k+1) f fd ps (spD K ps.length (fnB N.length b)):=by
 refine F.ok Sc (fun vs H Q E ⟨mp,ds,S,rs,r,hl,_⟩=>by rw[r.len]; exact hl) fun cdv A outer s H vs Q E hr ⟨mp,ds,S,rs,r,hl,p⟩=>?_
 refine⟨_,hb cdv A outer s H E hr,mp,_,S,start_ok rs r,?_⟩
 unfold fnB at p
 show PostS K _ mp H (b (ds.map some++List.replicate (N.length-ds.length) none) S) _
 cases z:b (ds.map some++List.replicate (N.length-ds.length) none) S with
 | rt d S'=>rw[z] at p; exact p
 | nx ρ' S'=>rw[z] at p; exact fun m h v af G=>p m h .non af G.rs rfl
 | bk ρ' S'=>rw[z] at p; exact p.elim
 | ct ρ' S'=>rw[z] at p; exact p.elim
 | exc x ρ' S'=>rw[z] at p; exact p.elim
 | bad=>rw[z] at p; exact p.elim
end
section
variable{X:Cx}{XQ:XW}{k:Nat}{f:Addr}{fd:FuncData}{ps:List Str}{fn:Fn}{x:Str}{p pos:Pos}{e:Expr}{es:List Expr}{t:Ev (List D)}
def cl(n:Nat)(fn:Fn)(t:Ev (List D)):Ev D:=fun ρ S=>(t ρ S).bind fun ds S1=>if ds.length=n then fn ds S1 else .bad
def noExc(fn:Fn):Fn:=fun ds S=>match fn ds S with
 | .ok d S'=>.ok d S'
 | _=>.bad
theorem je_call{j:Nat}(F:FnOk X.prog X.w X.K X.mg X.base CX0 j f fd ps (spD X.K ps.length fn))(hr:Room k X.A)(hj:j≤k)(hg:Gl X x)(hm:X.mg x=some (.ref f))(hk:PySem.W.keepIn X.K (.ref f)=true)(hb:Binds X.K fd ps [])
  (ha:JA X XQ (e::es) t) (hdb:(x==("__debug__":Str))=false:=by decide) (he:starEach (e::es) X.env=(false,eval e X.env)::starEach es X.env:=by rfl) (hpl:(backTo pos (starEach es X.env)).any (·.1)=false:=by rfl):
  JE X XQ (.Call (.Name x p) (e::es) [] pos) (cl ps.length (noExc fn) t):=by
 refine PE.mono (pe_call (F.mono hj) hr hg hm hk hb .nil (pass0) ha hdb he hpl) fun σ H Q ⟨mp,ρ,S,G,p⟩=>?_
 refine bindP G p fun mp1 H1 ds S1 vs a1 G1 r1 p1=>?_
 by_cases hl:ds.length=ps.length
 ·rw[if_pos hl] at p1
  refine⟨mp1,ds,S1,G1.rs,by rw[List.append_nil]; exact r1,hl,?_⟩
  unfold noExc at p1
  cases z:fn ds S1 with
  | ok d S'=>rw[z] at p1; exact p1
  | exc x S'=>rw[z] at p1; exact p1.elim
  | bad=>rw[z] at p1; exact p1.elim
 ·rw[if_neg hl] at p1; exact p1.elim
end
end DL
set_option Elab.async false
set_option linter.all false
set_option maxRecDepth 100000
namespace DL
open PySem PySem.Spec PyProof.Rows L2
structure CompSc(X:Cx)(scope:Scope)(cl:List (Str×Addr))(N':List Str)(pk:List (Option Nat)):Prop where
 kind:scope.kind=.function
 cell:∀ y∈scope.names,y.2=.cell→scope.names.lookup y.1=some .cell
 names:∀ y∈scope.names,y.2=.local→scope.names.lookup y.1=some .local
 clos:closureFor scope X.env=pure cl
 sub:∀ x c,cl.lookup x=some c→X.env.cells.lookup x=some c
 has:∀ x,((relabel scope X.env).names.lookup x=some .cell∨(relabel scope X.env).names.lookup x=some .free)→(x,NameKind.cell)∈scope.names∨∃ c,cl.lookup x=some c
 len:pk.length=N'.length
 take:∀ (i j:Nat) (x:Str),pk[i]?=some (some j)→N'[i]?=some x→X.N[j]?=some x∧(X.env.kindOf x=some .cell∨X.env.kindOf x=some .free)∧((relabel scope X.env).names.lookup x=some .cell∨(relabel scope X.env).names.lookup x=some .free)∧scope.names.lookup x=some .free
def PTs(Y:Cx)(ifs:List Expr)(t:TT):Prop:=
 ∀ (pins:List (Addr×Obj)) (s:Shared) (σ:L2.St) (H:Hp) (Q:Bool→Hp→Prop),Inv Y pins σ H s→t σ H Q→
  wpAny (model Y.prog Y.w) Y.A (forIn ifs true fun c r=>if r=true then do let ok ←isTrue c Y.env (eval c Y.env); pure (ForInStep.yield ok) else pure (ForInStep.yield r)) (TP Y pins σ Q) Y.xe s
section
variable{X:Cx}
structure CompTab(sc scope:Scope)(N N':List Str)(pk:List (Option Nat)):Prop where
 kind:scope.kind=.function
 cell:∀ y∈scope.names,y.2=.cell→scope.names.lookup y.1=some .cell
 names:∀ y∈scope.names,y.2=.local→scope.names.lookup y.1=some .local
 free:∀ y∈scope.names,y.2=.free→sc.names.lookup y.1=some .cell∨sc.names.lookup y.1=some .free
 len:pk.length=N'.length
 take:((List.range N'.length).all fun i=>match pk[i]? with
  | some (some j)=>match N[j]?,N'[i]? with
   | some x,some y=>(x==y)&&((sc.names.lookup y==some NameKind.cell)||(sc.names.lookup y==some NameKind.free))&&(scope.names.lookup y==some NameKind.free)
   | _,_=>false
  | _=>true)=true
abbrev XN:XW:=fun _ _ _ _ _ _=>False
def JTs(Y:Cx)(XQ:XW)(ifs:List Expr)(t:Ev Bool):Prop:=PTs Y ifs (rdT Y.K XQ t)
variable{XQ:XW}
end
end DL
set_option Elab.async false
set_option linter.all false
set_option maxRecDepth 100000
namespace DL
open PySem PySem.Spec PyProof.Rows L2
theorem tm_nofill:fillsNumberSlot (.type "tuple") "mul"=pure false:=
 PySem.fillsNumberSlot_seq (id:="tuple.__mul__") (r:=some (.builtin "tuple.__rmul__")) F.slot_tuple_mul.lookup (by decide +kernel) F.slot_tuple_rmul.lookup (by decide +kernel)
theorem tm_repeats:seqRepeat? (.type "tuple")=pure (some (.builtin "tuple.__mul__")):=by
 unfold seqRepeat?
 rw[PySem.seqSlot_of (T:="tuple") (name:="__mul__") (id:="tuple.__mul__") F.slot_tuple_mul.lookup (by decide +kernel),PySem.seqSlot_of (T:="tuple") (name:="__rmul__") (id:="tuple.__rmul__") F.slot_tuple_rmul.lookup (by decide +kernel)]
 rfl
theorem tm_int(x:Int)(t:Tok)(l:Addr)(xs:Array Value)(n:Nat)(d:Option Addr)(sl:Array (Option Value)):
  Meets (Builtin.«int.__rmul__» ⟨[.int x t,.ref l],[]⟩) (fun _ R s=>s.heap.get? l=some { cls:=.type "tuple",dict:=d,data:=.seq xs n,slots:=sl }∧R (.ok (.ret Value.notImplemented)) s):=
 .of_wp fun prog w A R s h=>by obtain⟨hp,g,d,tk,os⟩:=s; obtain⟨hl,h⟩:=h; wp_walk; exact⟨_,rfl,h⟩
theorem tm_tup(x:Int)(t:Tok)(l:Addr)(xs:Array Value)(n:Nat)(d:Option Addr)(sl:Array (Option Value))(c0:¬ (decide (x < -2^63)||decide (x≥2^63))=true)(c1:¬ (xs.isEmpty||x==1)=true)(c2:¬ (decide (x≤0)||xs.isEmpty)=true)(c3:¬ (xs.size:Int)*x>(2^63-1) / 8)(c4:¬ Builtin.Tuple.tupleTooMany ((xs.size:Int)*x)=true)(c5:(List.foldl (fun x1 x2=>x1++x2) #[] (List.replicate x.toNat xs)).size≤sizeLine):
  Meets (Builtin.«tuple.__mul__» ⟨[.ref l,.int x t],[]⟩) (fun _ R s=>s.heap.get? l=some { cls:=.type "tuple",dict:=d,data:=.seq xs n,slots:=sl }∧R (.ok (.ret (Value.ref s.heap.objs.size))) { s with heap:=s.heap.push { cls:=Value.type "tuple",data:=Data.seq (List.foldl (fun x1 x2=>x1++x2) #[] (List.replicate x.toNat xs)) },toks:=s.toks }):=
 .of_wp fun prog w A R s h=>by
  obtain⟨hp,g,d,tk,os⟩:=s; obtain⟨hl,h⟩:=h
  wp_walk
  refine wpAny_ite_false (decide_eq_false c0) ?_
  wp_walk using wpAny_loadPart' hl
  refine wpAny_ite_false (decide_eq_false c3) ?_
  wp_walk
  exact⟨_,rfl,h⟩
section
variable{X:Cx}
def rRepT(K:PySem.W.Frag):R2:=fun x y H Q=>∃ a k xs,x=.ref a∧y=.int k∧SqT K H a xs∧xs≠[]∧2≤k∧k≤1000000∧xs.length*k.toNat≤sizeLine∧∀ p,H p=none→Q (.ref p) (upd H p (.tup (List.replicate k.toNat xs).flatten))
theorem op_repT:OpR X (binaryOp .Mult) (rRepT X.K):=by
 intro pins s σ H x y v u Q I rx ry ⟨a,k,xs,e1,e2,ha,hne,k2,k3,hz,q⟩
 subst e1 e2
 cases rx
 obtain⟨t,rfl⟩:=ry
 obtain⟨its,r1,p1,_⟩:=I.tuple ha
 obtain⟨⟨cls,dd,data,sl⟩,ho,hc,n,hd⟩:=id p1
 simp only at hc hd
 subst hc hd
 have hl:xs.length=its.length:=r1.length
 have hne':its≠[]:=fun z=>hne (r1.nil_iff.mp z)
 have hie:its.toArray.isEmpty=false:=by
  cases its with
  | nil=>exact absurd rfl hne'
  | cons _ _=>rfl
 have hnew:List.foldl (fun x1 x2=>x1++x2) #[] (List.replicate k.toNat its.toArray)=(List.replicate k.toNat its).flatten.toArray:=by
  have:=foldl_rep its k.toNat []
  rw[List.nil_append] at this
  exact this
 have hsz:(its.toArray.size:Int)*k≤(sizeLine:Int):=by
  rw[List.size_toArray,←hl]
  have h1:((xs.length*k.toNat:Nat):Int)≤(sizeLine:Int):=by exact_mod_cast hz
  rw[Int.natCast_mul,Int.toNat_of_nonneg (by omega)] at h1
  exact h1
 have hsl:(sizeLine:Int)≤(2^63-1) / 8:=by decide
 refine wpAny_binaryOp_repeat_ref (T:="tuple") (U:="int") (by decide) ⟨_,ho,rfl⟩ (fun s'=>typeIs_int s' k t) tm_nofill F.fills_int_mul F.slot_int_rmul tm_repeats F.slot_int_index.lookup
  (call_meets F.slot_int_rmul (typeIs_int s k t) F.entry_int_rmul (F.args_int_rmul_2 _ _) (tm_int k t a its.toArray n dd sl)
   ⟨ho,rfl,⟨_,ho,rfl⟩,call_meets F.slot_tuple_mul ⟨_,ho,rfl⟩ F.entry_tuple_mul (F.args_tuple_mul_2 _ _) (tm_tup k t a its.toArray n dd sl ?c0 ?c1 ?c2 ?c3 ?c4 ?c5) ⟨ho,?_⟩⟩)
 case c0=>simp; omega
 case c1=>rw[hie]; simp; omega
 case c2=>rw[hie]; simp; omega
 case c3=>omega
 case c4=>unfold Builtin.Tuple.tupleTooMany; simp; omega
 case c5=>rw[hnew,List.size_toArray,len_rep,←hl,Nat.mul_comm]; exact hz
 rw[hnew]
 refine⟨.ref s.heap.objs.size,_,I.laid (t':=s.toks) (o:=.tup (List.replicate k.toNat xs).flatten) (fun b ob q=>Heap.get?_push_of_some _ q) (Nat.le_refl _) ?_,rfl,q _ (I.hok.fresh (Nat.le_refl _))⟩
 exact⟨by rw[len_rep,Nat.mul_comm]; exact hz,_,r1.rep k.toNat,IsTup.new _ _⟩
end
end DL
set_option Elab.async false
set_option linter.all false
set_option maxRecDepth 100000
namespace DL
open PySem PySem.Spec PyProof.Rows L2
def mapO{α β:Type}(f:α→Option β):List α→Option (List β)
 | []=>some []
 | x::l=>match f x,mapO f l with
  | some y,some ys=>some (y::ys)
  | _,_=>none
def toP(S:Sto):Nat→D→Option PyData
 | 0,_=>none
 | n+1,d=>match d with
  | .non=>some .none
  | .bl b=>some (.bool b)
  | .int i=>some (.int i)
  | .str x=>some (.str x)
  | .tup l=>(mapO (toP S n) l).map .tuple
  | .lst i=>match S[i]? with
   | some c=>(mapO (toP S n) c.xs).map .list
   | none=>none
  | .exn _ _=>none
  | .fv _=>none
section
variable{X:Cx}{pins:List (Addr×Obj)}{σ:L2.St}{H:Hp}{s:Shared}{mp:List Addr}{S:Sto}
theorem readsPs{f:D→Option PyData}{K:PySem.W.Frag}(hf:∀ (d:D) (v:V) (u:Value) (p:PyData),Rep K mp H d v→RelV v u→f d=some p→∃ as,Reads s.heap u p as):∀ (l:List D) (vs:List V) (us:List Value) (ps:List PyData),RepL K mp H l vs→Vals vs us→mapO f l=some ps→∃ as,ReadsAll s.heap us ps as
 | [],vs,us,ps,h,r,e=>by
  cases (show vs=[] from h); cases r
  cases (Option.some.inj e)
  exact⟨_,.nil⟩
 | d::l,vs,us,ps,h,r,e=>by
  obtain⟨v,vr,rfl,h1,h2⟩:=(show ∃ v r,vs=v::r∧Rep K mp H d v∧RepL K mp H l r from h)
  cases r with
  | cons r1 r2=>
   cases z1:f d with
   | none=>simp only[mapO,z1] at e; cases e
   | some p=>
    cases z2:mapO f l with
    | none=>simp only[mapO,z1,z2] at e; cases e
    | some qs=>
     simp only[mapO,z1,z2] at e
     cases (Option.some.inj e)
     obtain⟨as,ra⟩:=hf d v _ p h1 r1 z1
     obtain⟨bs,rb⟩:=readsPs hf l vr _ qs h2 r2 z2
     exact⟨_,.cons ra rb⟩
theorem readsP(I:Inv X pins σ H s)(rs:RS X.K mp H S):∀ (n:Nat) (d:D) (v:V) (u:Value) (p:PyData),Rep X.K mp H d v→RelV v u→toP S n d=some p→∃ as,Reads s.heap u p as:=by
 intro n
 induction n with
 | zero=>intro d v u p h r e; cases e
 | succ n ih=>
  intro d v u p h r e
  cases d with
  | non=>
   cases (show v=.non from h); cases (show u=Value.none from r)
   cases (Option.some.inj e)
   exact⟨_,.none⟩
  | bl b=>
   cases (show v=.bl b from h); cases (show u=Value.bool b from r)
   cases (Option.some.inj e)
   exact⟨_,.bool b⟩
  | int i=>
   cases (show v=.int i from h); obtain⟨t,rfl⟩:=(show ∃ t,u=Value.int i t from r)
   cases (Option.some.inj e)
   exact⟨_,.int i t⟩
  | str x=>
   cases (show v=.str x from h); obtain⟨t,rfl⟩:=(show ∃ t,u=Value.str x t from r)
   cases (Option.some.inj e)
   exact⟨_,.str x t⟩
  | tup l=>
   obtain⟨a,xs,rfl,sq,q⟩:=Rep.tup h
   cases (show u=Value.ref a from r)
   obtain⟨its,rv,⟨o,ho,hc,k,hd⟩,_⟩:=I.tuple sq
   have e:(mapO (toP S n) l).map PyData.tuple=some p:=e
   cases z:mapO (toP S n) l with
   | none=>rw[z] at e; cases e
   | some ps=>
    rw[z] at e
    cases (Option.some.inj e)
    obtain⟨as,ra⟩:=readsPs ih l xs its ps q rv z
    exact⟨as,.tuple ho hc hd (by simpa using ra)⟩
  | lst i=>
   have e:(match S[i]? with | some c=>(mapO (toP S n) c.xs).map PyData.list | none=>none)=some p:=e
   cases zc:S[i]? with
   | none=>rw[zc] at e; cases e
   | some c=>
    rw[zc] at e
    obtain⟨a,xs,rfl,_,sq,q,_⟩:=rs.items h zc
    cases (show u=Value.ref a from r)
    obtain⟨its,rv,⟨o,k,ho,hc,_,hd⟩,_⟩:=I.list sq
    have e:(mapO (toP S n) c.xs).map PyData.list=some p:=e
    cases z:mapO (toP S n) c.xs with
    | none=>rw[z] at e; cases e
    | some ps=>
     rw[z] at e
     cases (Option.some.inj e)
     obtain⟨as,ra⟩:=readsPs ih c.xs xs its ps q rv z
     exact⟨_,.list ho hc hd (by simpa using ra)⟩
  | exn c n=>cases (show(none:Option PyData)=some p from e)
  | fv c=>cases (show(none:Option PyData)=some p from e)
end
def eqD(x y:D)(S:Sto):Out D:=match toP S 40 x,toP S 40 y with
 | some p,some q=>if(SeqAt.shaped p&&SeqAt.shaped q)=true then .ok (.bl (PyData.eqv p q)) S else .bad
 | _,_=>.bad
def neD(x y:D)(S:Sto):Out D:=match toP S 40 x,toP S 40 y with
 | some p,some q=>if(SeqAt.shaped p&&SeqAt.shaped q)=true then .ok (.bl (!PyData.eqv p q)) S else .bad
 | _,_=>.bad
section
variable{X:Cx}{XQ:XW}
def OpX(X:Cx)(f:Value→Value→Sem Value)(o:D→D→Sto→Out D):Prop:=
 ∀ (pins:List (Addr×Obj)) (s:Shared) (σ:L2.St) (ρ:Lc) (XQ:XW) (mp:List Addr) (H:Hp) (S:Sto) (x y:D) (v u:V) (vv uv:Value) (Q:VK),Inv X pins σ H s→RS X.K mp H S→Rep X.K mp H x v→Rep X.K mp H y u→RelV v vv→RelV u uv→Post X.K XQ σ ρ mp H (o x y S) Q→
  (∀ (e:XD) (S':Sto),o x y S≠.exc e S')→wpAny (model X.prog X.w) X.A (f vv uv) (EP X pins σ Q) X.xe s
theorem pe_opX{a b:Expr}{op:CmpOp}{fa fb:Ev D}{o:D→D→Sto→Out D}{pos:Pos}(ho:OpX X (compareOp op) o)(hno:∀ x y S e S',o x y S≠.exc e S')(ha:JE X XQ a fa)(hb:JE X XQ b fb)(hm:behindInMarks op b=false):JE X XQ (.Compare a [op] [b] pos) (o2 o fa fb):=by
 intro pins s σ H Q I ⟨mp,ρ,S,G,p⟩
 refine wpAny_Compare1 (thn (ha pins s σ H _ I (bindP G p fun mp1 H1 x S1 v a1 G1 r1 p1=>(⟨mp1,ρ,S1,x,G1,r1,p1⟩:∃ mp1 ρ S1 x,Gd X.K mp1 H1 σ ρ S1∧Rep X.K mp1 H1 x v∧Post X.K XQ σ ρ mp1 H1 ((fb ρ S1).bind fun y S2=>o x y S2) Q))) fun vv s1 ⟨v,H1,I1,rv,mp1,ρ1,S1,x,G1,r1,p1⟩=>?_) hm
 refine thn (hb pins s1 σ H1 _ I1 (bindP G1 p1 fun mp2 H2 y S2 u a2 G2 r2 p2=>(⟨mp2,ρ1,S2,x,y,v,G2,Rep.aft a2 _ _ r1,r2,rfl,p2⟩:∃ mp2 ρ S2 x y v',Gd X.K mp2 H2 σ ρ S2∧Rep X.K mp2 H2 x v'∧Rep X.K mp2 H2 y u∧v'=v∧Post X.K XQ σ ρ mp2 H2 (o x y S2) Q))) fun uv s2 ⟨u,H2,I2,ru,mp2,ρ2,S2,x2,y,v',G2,rx,ry,ev,p2⟩=>?_
 subst ev
 exact ho pins s2 σ ρ2 XQ mp2 H2 S2 x2 y _ u vv uv Q I2 G2.rs rx ry rv ru p2 (hno _ _ _)
theorem pt_opX{a b:Expr}{op:CmpOp}{fa fb:Ev D}{o:D→D→Sto→Out D}{pos:Pos}(ho:OpX X (compareOp op) o)(hno:∀ x y S e S',o x y S≠.exc e S')(ha:JE X XQ a fa)(hb:JE X XQ b fb)(hm:behindInMarks op b=false):JT X XQ (.Compare a [op] [b] pos) (tb (o2 o fa fb)):=by
 intro pins s σ H Q I h
 obtain⟨mp,ρ,S,G,p⟩:=tb_of h
 refine wpAny_isTrue_Compare1 (thn (ha pins s σ H _ I (bindP G p fun mp1 H1 x S1 v a1 G1 r1 p1=>(⟨mp1,ρ,S1,x,G1,r1,p1⟩:∃ mp1 ρ S1 x,Gd X.K mp1 H1 σ ρ S1∧Rep X.K mp1 H1 x v∧Post X.K XQ σ ρ mp1 H1 ((fb ρ S1).bind fun y S2=>o x y S2) (fun x H1=>∃ k,x=.bl k∧Q k H1)))) fun vv s1 ⟨v,H1,I1,rv,mp1,ρ1,S1,x,G1,r1,p1⟩=>?_) hm
 refine thn (hb pins s1 σ H1 _ I1 (bindP G1 p1 fun mp2 H2 y S2 u a2 G2 r2 p2=>(⟨mp2,ρ1,S2,x,y,v,G2,Rep.aft a2 _ _ r1,r2,rfl,p2⟩:∃ mp2 ρ S2 x y v',Gd X.K mp2 H2 σ ρ S2∧Rep X.K mp2 H2 x v'∧Rep X.K mp2 H2 y u∧v'=v∧Post X.K XQ σ ρ mp2 H2 (o x y S2) (fun x H1=>∃ k,x=.bl k∧Q k H1)))) fun uv s2 ⟨u,H2,I2,ru,mp2,ρ2,S2,x2,y,v',G2,rx,ry,ev,p2⟩=>?_
 subst ev
 refine thn (ho pins s2 σ ρ2 XQ mp2 H2 S2 x2 y _ u vv uv _ I2 G2.rs rx ry rv ru p2 (hno _ _ _)) fun c s3 ⟨z,H3,I3,r3,k,e,q3⟩=>?_
 subst e
 cases r3
 exact wpAny_truthy_bool ⟨H3,I3,q3⟩
theorem eq_ok(hu:X.A.units+64<cLine):OpX X (compareOp .Eq) eqD:=by
 intro pins s σ ρ XQ mp H S x y v u vv uv Q I rs rx ry rv ru p _
 unfold eqD at p
 cases z1:toP S 40 x with
 | none=>simp only[z1] at p; exact p.elim
 | some a=>
  cases z2:toP S 40 y with
  | none=>simp only[z1,z2] at p; exact p.elim
  | some b=>
   simp only[z1,z2] at p
   by_cases hs:(SeqAt.shaped a&&SeqAt.shaped b)=true
   ·rw[if_pos hs] at p
    obtain⟨as,ra⟩:=readsP I rs 40 x v vv a rx rv z1
    obtain⟨bs,rb⟩:=readsP I rs 40 y u uv b ry ru z2
    rw[Bool.and_eq_true] at hs
    exact SeqAt.compareEq_shaped ra rb hs.1 hs.2 hu ⟨.bl _,H,I,rfl,PostG.ok (R:=Rep X.K) p rs rfl⟩
   ·rw[if_neg hs] at p; exact p.elim
theorem ne_ok(hu:X.A.units+64<cLine):OpX X (compareOp .NotEq) neD:=by
 intro pins s σ ρ XQ mp H S x y v u vv uv Q I rs rx ry rv ru p _
 unfold neD at p
 cases z1:toP S 40 x with
 | none=>simp only[z1] at p; exact p.elim
 | some a=>
  cases z2:toP S 40 y with
  | none=>simp only[z1,z2] at p; exact p.elim
  | some b=>
   simp only[z1,z2] at p
   by_cases hs:(SeqAt.shaped a&&SeqAt.shaped b)=true
   ·rw[if_pos hs] at p
    obtain⟨as,ra⟩:=readsP I rs 40 x v vv a rx rv z1
    obtain⟨bs,rb⟩:=readsP I rs 40 y u uv b ry ru z2
    rw[Bool.and_eq_true] at hs
    exact SeqAt.compareNe_shaped ra rb hs.1 hs.2 hu ⟨.bl _,H,I,rfl,PostG.ok (R:=Rep X.K) p rs rfl⟩
   ·rw[if_neg hs] at p; exact p.elim
theorem eq_no(x y:D)(S:Sto)(e:XD)(S':Sto):eqD x y S≠.exc e S':=by
 unfold eqD
 split
 ·split<;>exact fun z=>nomatch z
 ·exact fun z=>nomatch z
theorem ne_no(x y:D)(S:Sto)(e:XD)(S':Sto):neD x y S≠.exc e S':=by
 unfold neD
 split
 ·split<;>exact fun z=>nomatch z
 ·exact fun z=>nomatch z
theorem je_eq{a b:Expr}{fa fb:Ev D}{pos:Pos}(hu:X.A.units+64<cLine)(ha:JE X XQ a fa)(hb:JE X XQ b fb):JE X XQ (.Compare a [.Eq] [b] pos) (o2 eqD fa fb):=pe_opX (eq_ok hu) eq_no ha hb (nomark _)
theorem jt_eq{a b:Expr}{fa fb:Ev D}{pos:Pos}(hu:X.A.units+64<cLine)(ha:JE X XQ a fa)(hb:JE X XQ b fb):JT X XQ (.Compare a [.Eq] [b] pos) (tb (o2 eqD fa fb)):=pt_opX (eq_ok hu) eq_no ha hb (nomark _)
theorem jt_ne{a b:Expr}{fa fb:Ev D}{pos:Pos}(hu:X.A.units+64<cLine)(ha:JE X XQ a fa)(hb:JE X XQ b fb):JT X XQ (.Compare a [.NotEq] [b] pos) (tb (o2 neD fa fb)):=pt_opX (ne_ok hu) ne_no ha hb (nomark _)
def i2(C:Int→Int→Bool)(g:Int→Int→D):D→D→Sto→Out D:=fun x y S=>match x,y with
 | .int i,.int j=>if C i j=true then .ok (g i j) S else .bad
 | _,_=>.bad
theorem od_int{K:PySem.W.Frag}{C:Int→Int→Prop}{c:Int→Int→Bool}{g:Int→Int→V}{gd:Int→Int→D}(hc:∀ i j,c i j=true→C i j)(hg:∀ mp H i j,Rep K mp H (gd i j) (g i j)):OpD K (rI C g) (i2 c gd):=by
 intro XQ σ ρ mp H S x y v u Q rs rx ry p
 cases x with
 | int i=>
  cases y with
  | int j=>
   have p:Post K XQ σ ρ mp H (if c i j=true then .ok (gd i j) S else .bad) Q:=p
   by_cases h:c i j=true
   ·rw[if_pos h] at p
    exact⟨i,j,rx,ry,hc i j h,PostG.ok (R:=Rep K) p rs (hg mp H i j)⟩
   ·rw[if_neg h] at p; exact p.elim
  | _=>exact(show False from p).elim
 | _=>exact(show False from p).elim
theorem od_int0{K:PySem.W.Frag}{g:Int→Int→V}{gd:Int→Int→D}(hg:∀ mp H i j,Rep K mp H (gd i j) (g i j)):OpD K (rI0 g) (i2 (fun _ _=>true) gd):=by
 intro XQ σ ρ mp H S x y v u Q rs rx ry p
 obtain⟨i,j,h1,h2,_,h3⟩:=od_int (C:=fun _ _=>True) (c:=fun _ _=>true) (fun _ _ _=>trivial) hg XQ σ ρ mp H S x y v u Q rs rx ry p
 exact⟨i,j,h1,h2,h3⟩
abbrev subD:=i2 (fun _ _=>true) fun i j=>.int (i-j)
abbrev modD:=i2 (fun _ j=>decide (0<j)) fun i j=>.int (i%j)
abbrev powD:=i2 (fun i j=>decide (0≤j∧j≤1000000∧i.natAbs<2^64)) fun i j=>.int (i^j.toNat)
abbrev ltD:=i2 (fun _ _=>true) fun i j=>.bl (decide (i<j))
abbrev leD:=i2 (fun _ _=>true) fun i j=>.bl (decide (i≤j))
abbrev gtD:=i2 (fun _ _=>true) fun i j=>.bl (decide (j<i))
abbrev geD:=i2 (fun _ _=>true) fun i j=>.bl (decide (j≤i))
section
variable{a b:Expr}{fa fb:Ev D}{pos:Pos}
theorem je_mod(ha:JE X XQ a fa)(hb:JE X XQ b fb):JE X XQ (.BinOp a .Mod b pos) (o2 modD fa fb):=je_op op_mod (od_int (fun _ _ h=>of_decide_eq_true h) fun _ _ _ _=>rfl) ha hb
theorem je_pow(ha:JE X XQ a fa)(hb:JE X XQ b fb):JE X XQ (.BinOp a .Pow b pos) (o2 powD fa fb):=je_op op_pow (od_int (fun i j h=>(of_decide_eq_true h:0≤j∧j≤1000000∧i.natAbs<2^64)) fun _ _ _ _=>rfl) ha hb
theorem jt_lt(ha:JE X XQ a fa)(hb:JE X XQ b fb):JT X XQ (.Compare a [.Lt] [b] pos) (tb (o2 ltD fa fb)):=jt_cmp op_lt (od_int0 fun _ _ _ _=>rfl) ha hb (nomark _)
theorem jt_gt(ha:JE X XQ a fa)(hb:JE X XQ b fb):JT X XQ (.Compare a [.Gt] [b] pos) (tb (o2 gtD fa fb)):=jt_cmp op_gt (od_int0 fun _ _ _ _=>rfl) ha hb (nomark _)
theorem jt_ge(ha:JE X XQ a fa)(hb:JE X XQ b fb):JT X XQ (.Compare a [.GtE] [b] pos) (tb (o2 geD fa fb)):=jt_cmp op_ge (od_int0 fun _ _ _ _=>rfl) ha hb (nomark _)
end
def addD(x y:D)(S:Sto):Out D:=match x,y with
 | .int i,.int j=>.ok (.int (i+j)) S
 | .str a,.str b=>if a.length+b.length≤1000000 then .ok (.str (a++b)) S else .bad
 | .lst i,.lst j=>match S[i]?,S[j]? with
  | some c,some e=>if(c.fz=false∧e.fz=false)∧c.xs.length+e.xs.length≤1000000 then .ok (.lst S.length) (S++[⟨false,c.xs++e.xs⟩]) else .bad
  | _,_=>.bad
 | .tup a,.tup b=>if a.length+b.length≤1000000 then .ok (.tup (a++b)) S else .bad
 | _,_=>.bad
def rCatE(K:PySem.W.Frag):R2:=fun x y H Q=>∃ a b ys,x=.ref a∧y=.ref b∧SqT K H a []∧SqT K H b ys∧Q (.ref b) H
theorem op_catE:OpR X (binaryOp .Add) (rCatE X.K):=by
 intro pins s σ H x y v u Q I rx ry ⟨a,b,ys,e1,e2,ha,hb,q⟩
 subst e1 e2
 cases rx; cases ry
 obtain⟨its,r1,p1,_⟩:=I.tuple ha
 obtain⟨its2,r2,p2,_⟩:=I.tuple hb
 have ei:=r1.nil_iff.mpr rfl
 subst ei
 obtain⟨⟨cls,dd,data,sl⟩,ho,hc,n,hd⟩:=id p1
 obtain⟨⟨cls2,dd2,data2,sl2⟩,ho2,hc2,n2,hd2⟩:=id p2
 simp only at hc hd hc2 hd2
 subst hc hd hc2 hd2
 exact concat_meets ⟨_,ho,rfl⟩ ⟨_,ho2,rfl⟩ noFill_tuple_add seq_tuple_add PySem.F.slot_tuple_add PySem.F.entry_tuple_add (PySem.F.args_tuple_add_2 _ _)
  (tuple_addW0 a b [].toArray its2.toArray n n2 dd dd2 sl sl2 (by rfl)) ⟨ho,ho2,⟨.ref b,H,I,rfl,q⟩⟩
def rAddA(K:PySem.W.Frag):R2:=fun x y H Q=>rI0 (fun i j=>.int (i+j)) x y H Q∨(∃ i j,x=.str i∧y=.str j∧i.length+j.length≤sizeLine∧Q (.str (i++j)) H)∨rCat x y H Q∨rCatT K x y H Q∨rCatE K x y H Q
theorem op_addA:OpR X (binaryOp .Add) (rAddA X.K):=op_add.or (op_add_str.or (op_cat.or (op_catT.or op_catE)))
theorem od_add{K:PySem.W.Frag}:OpD K (rAddA K) addD:=by
 intro XQ σ ρ mp H S x y v u Q rs rx ry p
 unfold addD at p
 split at p
 ·exact .inl ⟨_,_,rx,ry,PostG.ok (R:=Rep K) p rs rfl⟩
 ·rename_i a b
  by_cases h:a.length+b.length≤1000000
  ·rw[if_pos h] at p
   exact .inr (.inl ⟨_,_,rx,ry,line_le h,PostG.ok (R:=Rep K) p rs rfl⟩)
  ·rw[if_neg h] at p; exact p.elim
 ·rename_i i j
  split at p
  ·rename_i c e zc ze
   by_cases h:(c.fz=false∧e.fz=false)∧c.xs.length+e.xs.length≤1000000
   ·rw[if_pos h] at p
    obtain⟨a1,xs,rfl,_,_,q1,f1⟩:=rs.items rx zc
    obtain⟨a2,ys,rfl,_,_,q2,f2⟩:=rs.items ry ze
    refine .inr (.inr (.inl ⟨a1,a2,xs,ys,rfl,rfl,f1 h.1.1,f2 h.1.2,by rw[q1.len,q2.len]; exact line_le h.2,fun q hq=>post_lst p rs (q1.append q2) hq⟩))
   ·rw[if_neg h] at p; exact p.elim
  ·exact p.elim
 ·rename_i a b
  by_cases h:a.length+b.length≤1000000
  ·rw[if_pos h] at p
   obtain⟨a1,xs,rfl,s1,q1⟩:=Rep.tup rx
   obtain⟨a2,ys,rfl,s2,q2⟩:=Rep.tup ry
   have l1:=q1.len
   have l2:=q2.len
   by_cases he:xs=[]
   ·subst he
    have ea:a=[]:=by cases a with | nil=>rfl | cons _ _=>simp at l1
    subst ea
    exact .inr (.inr (.inr (.inr ⟨a1,a2,ys,rfl,rfl,s1,s2,PostG.ok (R:=Rep K) p rs ry⟩)))
   ·refine .inr (.inr (.inr (.inl ⟨a1,a2,xs,ys,rfl,rfl,s1,s2,he,by rw[l1,l2]; exact line_le h,fun z=>?_,fun _ q hq=>post_tup p rs (q1.append q2) hq⟩)))
    subst z
    have eb:b=[]:=by cases b with | nil=>rfl | cons _ _=>simp at l2
    subst eb
    rw[List.append_nil] at p
    exact PostG.ok (R:=Rep K) p rs rx
  ·rw[if_neg h] at p; exact p.elim
 ·exact p.elim
theorem je_add{a b:Expr}{fa fb:Ev D}{pos:Pos}(ha:JE X XQ a fa)(hb:JE X XQ b fb):JE X XQ (.BinOp a .Add b pos) (o2 addD fa fb):=je_op op_addA od_add ha hb
def mulD(x y:D)(S:Sto):Out D:=match x,y with
 | .int i,.int j=>if(-(2^64)<i∧i<2^64)∨(-(2^64)<j∧j<2^64) then .ok (.int (i*j)) S else .bad
 | .lst i,.int k=>match S[i]? with
  | some c=>if c.fz=false∧(-1000000≤k∧k≤1000000)∧c.xs.length*k.toNat≤1000000 then .ok (.lst S.length) (S++[⟨false,(List.replicate k.toNat c.xs).flatten⟩]) else .bad
  | none=>.bad
 | .tup l,.int k=>if 0<l.length∧(2≤k∧k≤1000000)∧l.length*k.toNat≤1000000 then .ok (.tup (List.replicate k.toNat l).flatten) S else .bad
 | _,_=>.bad
def rMulA(K:PySem.W.Frag):R2:=fun x y H Q=>rI CMul (fun i j=>.int (i*j)) x y H Q∨rRep x y H Q∨rRepT K x y H Q
theorem op_mulA:OpR X (binaryOp .Mult) (rMulA X.K):=op_mul.or (op_rep.or op_repT)
theorem RepL.flat{K:PySem.W.Frag}{mp:List Addr}{H:Hp}{l:List D}{vs:List V}(h:RepL K mp H l vs):∀ k:Nat,RepL K mp H (List.replicate k l).flatten (List.replicate k vs).flatten
 | 0=>RepL.nil
 | k+1=>by
  rw[List.replicate_succ,List.replicate_succ,List.flatten_cons,List.flatten_cons]
  exact RepL.append h (RepL.flat h k)
theorem od_mul{K:PySem.W.Frag}:OpD K (rMulA K) mulD:=by
 intro XQ σ ρ mp H S x y v u Q rs rx ry p
 unfold mulD at p
 split at p
 ·rename_i i j
  by_cases h:(-(2^64)<i∧i<2^64)∨(-(2^64)<j∧j<2^64)
  ·rw[if_pos h] at p
   exact .inl ⟨_,_,rx,ry,h,PostG.ok (R:=Rep K) p rs rfl⟩
  ·rw[if_neg h] at p; exact p.elim
 ·rename_i i k
  split at p
  ·rename_i c zc
   by_cases h:c.fz=false∧(-1000000≤k∧k≤1000000)∧c.xs.length*k.toNat≤1000000
   ·rw[if_pos h] at p
    obtain⟨a1,xs,rfl,_,_,q1,f1⟩:=rs.items rx zc
    exact .inr (.inl ⟨a1,k,xs,rfl,ry,f1 h.1,by omega,by omega,by rw[q1.len]; exact line_le h.2.2,fun q hq=>post_lst p rs (q1.flat _) hq⟩)
   ·rw[if_neg h] at p; exact p.elim
  ·exact p.elim
 ·rename_i l k
  by_cases h:0<l.length∧(2≤k∧k≤1000000)∧l.length*k.toNat≤1000000
  ·rw[if_pos h] at p
   obtain⟨a1,xs,rfl,s1,q1⟩:=Rep.tup rx
   have hl:=q1.len
   exact .inr (.inr ⟨a1,k,xs,rfl,ry,s1,fun z=>by rw[z] at hl; simp at hl; omega,h.2.1.1,h.2.1.2,by rw[q1.len]; exact line_le h.2.2,fun q hq=>post_tup p rs (q1.flat _) hq⟩)
  ·rw[if_neg h] at p; exact p.elim
 ·exact p.elim
theorem je_mul{a b:Expr}{fa fb:Ev D}{pos:Pos}(ha:JE X XQ a fa)(hb:JE X XQ b fb):JE X XQ (.BinOp a .Mult b pos) (o2 mulD fa fb):=je_op op_mulA od_mul ha hb
def negD(x:D)(S:Sto):Out D:=match x with
 | .int i=>.ok (.int (-i)) S
 | _=>.bad
def getD(x y:D)(S:Sto):Out D:=match x,y with
 | .tup l,.int i=>match atI l i with
  | some d=>.ok d S
  | none=>.bad
 | .lst k,.int i=>match S[k]? with
  | some c=>match atI c.xs i with
   | some d=>.ok d S
   | none=>.bad
  | none=>.bad
 | .str z,.int i=>if z.length≤1000000 then(match atI z.cps.toList i with
  | some c=>.ok (.str ⟨#[c]⟩) S
  | none=>.bad) else .bad
 | _,_=>.bad
theorem RepL.atI{K:PySem.W.Frag}{mp:List Addr}{H:Hp}{l:List D}{vs:List V}{i:Int}{d:D}(h:RepL K mp H l vs)(e:L2.atI l i=some d):∃ v,L2.atI vs i=some v∧Rep K mp H d v:=by
 unfold L2.atI at e ⊢
 rw[h.len]
 cases z:ixN l.length i with
 | none=>rw[z] at e; cases e
 | some j=>
  rw[z] at e
  exact h.get e
theorem od_get{K:PySem.W.Frag}:OpD K (rIx K) getD:=by
 intro XQ σ ρ mp H S x y v u Q rs rx ry p
 unfold getD at p
 split at p
 ·rename_i l i
  split at p
  ·rename_i d zd
   obtain⟨a,xs,rfl,sq,q⟩:=Rep.tup rx
   obtain⟨w,hw,rw'⟩:=q.atI zd
   exact .inr (.inl ⟨a,xs,i,w,rfl,ry,sq,hw,PostG.ok (R:=Rep K) p rs rw'⟩)
  ·exact p.elim
 ·rename_i k i
  split at p
  ·rename_i c zc
   split at p
   ·rename_i d zd
    obtain⟨a,xs,rfl,_,sq,q,_⟩:=rs.items rx zc
    obtain⟨w,hw,rw'⟩:=q.atI zd
    exact .inl ⟨a,xs,i,w,rfl,ry,sq,hw,PostG.ok (R:=Rep K) p rs rw'⟩
   ·exact p.elim
  ·exact p.elim
 ·rename_i z i
  by_cases h:z.length≤1000000
  ·rw[if_pos h] at p
   split at p
   ·rename_i c zc
    exact .inr (.inr ⟨z,i,c,rx,ry,line_le h,zc,PostG.ok (R:=Rep K) p rs rfl⟩)
   ·exact p.elim
  ·rw[if_neg h] at p; exact p.elim
 ·exact p.elim
theorem je_get{a b:Expr}{fa fb:Ev D}{pos:Pos}(ha:JE X XQ a fa)(hb:JE X XQ b fb)(hs:PlainIx b:=by intro _ _; rfl):JE X XQ (.Subscript a b pos) (o2 getD fa fb):=je_ix ix_seq od_get ha hb hs
def setD(x y z:D)(S:Sto):Option Sto:=match x,y with
 | .lst k,.int i=>match S[k]? with
  | some c=>match ixN c.xs.length i with
   | some j=>if c.fz=false then some (S.set k ⟨false,c.xs.set j z⟩) else none
   | none=>none
  | none=>none
 | _,_=>none
theorem sd_set{K:PySem.W.Frag}:SetD rSetL K setD:=by
 intro mp H S S' x y z v u w Q rs rx ry rz e k
 unfold setD at e
 split at e
 ·rename_i kk i
  split at e
  ·rename_i c zc
   split at e
   ·rename_i j zj
    by_cases hf:c.fz=false
    ·rw[if_pos hf] at e
     cases (Option.some.inj e)
     obtain⟨a,xs,rfl,ha,sq,q,f⟩:=rs.items rx zc
     have hH:=f hf
     obtain⟨af,rs'⟩:=rs.setL ha zc hf hH (q.set j rz)
     exact⟨a,xs,i,j,rfl,ry,hH,by rw[q.len]; exact zj,k _ af rs'⟩
    ·rw[if_neg hf] at e; cases e
   ·cases e
  ·cases e
 ·cases e
theorem js_setix{ob ix e:Expr}{f fo fi:Ev D}{pos p2:Pos}(he:JE X XQ e f)(hob:JE X XQ ob fo)(hix:JE X XQ ix fi)
  (hs:swapsWithSole [.Subscript ob ix p2] e pos.line X.env=pure false:=by rfl) (hw:swappedStores [.Subscript ob ix p2] e X.env=pure none:=by rfl)
  (h1:(assignEach [.Subscript ob ix p2] X.env).map (·.2)=[assign (.Subscript ob ix p2) X.env]:=by rfl) (ha:∀ v,assign (.Subscript ob ix p2) X.env v=(do
   let ov ←holding [v] (eval ob X.env)
   let iv ←holding [v,ov] (eval ix X.env)
   standAt p2
   holding [v,ov,iv] (setItem ov iv v)
   release [v,ov,iv] []):=by intro _; rfl):JS X XQ (.Assign [.Subscript ob ix p2] e pos) (ss f fo fi setD):=js_sub set_list sd_set he hob hix hs hw h1 ha
end
end DL
set_option Elab.async false
set_option linter.all false
set_option maxRecDepth 100000
namespace DL
open PySem PySem.Spec PyProof.Rows L2
section
variable{X:Cx}{XQ:XW}
def BlD(K:PySem.W.Frag)(r:List V→Hp→VK→Prop)(o:List D→Sto→Out D):Prop:=
 ∀ (XQ:XW) (σ:L2.St) (ρ:Lc) (mp:List Addr) (H:Hp) (S:Sto) (xs:List D) (vs:List V) (Q:VK),RS K mp H S→RepL K mp H xs vs→Post K XQ σ ρ mp H (o xs S) Q→r vs H Q
def b1(o:List D→Sto→Out D)(f:Ev (List D)):Ev D:=fun ρ S=>(f ρ S).bind o
theorem cbR{r:List V→Hp→VK→Prop}{o:List D→Sto→Out D}{f:Ev (List D)}(hd:BlD X.K r o)(σ:L2.St)(H:Hp)(Q:VK)(h:rdE X.K XQ (b1 o f) σ H Q):tCB r (rdA X.K XQ f) σ H Q:=by
 obtain⟨mp,ρ,S,G,p⟩:=h
 exact bindP G p fun mp1 H1 xs S1 vs a1 G1 r1 p1=>hd XQ σ ρ mp1 H1 S1 xs vs Q G1.rs r1 p1
theorem je_blt{id:String}{x:Str}{p pos:Pos}{e:Expr}{es:List Expr}{r:List V→Hp→VK→Prop}{o:List D→Sto→Out D}{f:Ev (List D)}(hc:CallR X (.builtin id) r)(hd:BlD X.K r o)(hg:Gl X x)(hm:X.mg x=none)(hv:bootBuiltins x=some (.builtin id))(ha:JA X XQ (e::es) f)(hn:x≠"__name__":=by decide)(hdb:(x==("__debug__":Str))=false:=by decide)
  (he:starEach (e::es) X.env=(false,eval e X.env)::starEach es X.env:=by rfl) (hpl:(backTo pos (starEach es X.env)).any (·.1)=false:=by rfl):JE X XQ (.Call (.Name x p) (e::es) [] pos) (b1 o f):=
 PE.mono (pe_callB hc hg hm hv ha hn hdb he hpl) (cbR hd)
theorem je_ty{T:String}{x:Str}{p pos:Pos}{e:Expr}{es:List Expr}{r:List V→Hp→VK→Prop}{o:List D→Sto→Out D}{f:Ev (List D)}(hc:CallR X (.type T) r)(hd:BlD X.K r o)(hg:Gl X x)(hm:X.mg x=none)(hv:bootBuiltins x=some (.type T))(ha:JA X XQ (e::es) f)(hn:x≠"__name__":=by decide)(hdb:(x==("__debug__":Str))=false:=by decide)
  (he:starEach (e::es) X.env=(false,eval e X.env)::starEach es X.env:=by rfl) (hpl:(backTo pos (starEach es X.env)).any (·.1)=false:=by rfl):JE X XQ (.Call (.Name x p) (e::es) [] pos) (b1 o f):=
 PE.mono (pe_callTy hc hg hm hv ha hn hdb he hpl) (cbR hd)
def lenD(xs:List D)(S:Sto):Out D:=match xs with
 | [.str z]=>if z.length≤1000000 then .ok (.int z.length) S else .bad
 | [.tup l]=>.ok (.int l.length) S
 | [.lst i]=>match S[i]? with
  | some c=>.ok (.int c.xs.length) S
  | none=>.bad
 | _=>.bad
theorem bd_len{K:PySem.W.Frag}:BlD K (fun xs H Q=>∃ x n,xs=[x]∧LenV K x H n∧Q (.int n) H) lenD:=by
 intro XQ σ ρ mp H S xs vs Q rs r p
 unfold lenD at p
 split at p
 ·rename_i z
  obtain⟨v,rfl,h⟩:=RepL.one r
  cases (show v=.str z from h)
  by_cases hz:z.length≤1000000
  ·rw[if_pos hz] at p
   exact⟨_,_,rfl,⟨line_le hz,rfl⟩,PostG.ok (R:=Rep K) p rs rfl⟩
  ·rw[if_neg hz] at p; exact p.elim
 ·rename_i l
  obtain⟨v,rfl,h⟩:=RepL.one r
  obtain⟨a,xs,rfl,sq,q⟩:=Rep.tup h
  exact⟨_,xs.length,rfl,.inr ⟨xs,sq,rfl⟩,PostG.ok (R:=Rep K) p rs (by rw[q.len]; rfl)⟩
 ·rename_i i
  obtain⟨v,rfl,h⟩:=RepL.one r
  split at p
  ·rename_i c zc
   obtain⟨a,xs,rfl,_,sq,q,_⟩:=rs.items h zc
   exact⟨_,xs.length,rfl,.inl ⟨xs,sq,rfl⟩,PostG.ok (R:=Rep K) p rs (by rw[q.len]; rfl)⟩
  ·exact p.elim
 ·exact p.elim
theorem je_len{p pos:Pos}{e:Expr}{f:Ev (List D)}(hg:Gl X "len")(hm:X.mg "len"=none)(ha:JA X XQ [e] f)(he:starEach [e] X.env=(false,eval e X.env)::starEach [] X.env:=by rfl):JE X XQ (.Call (.Name "len" p) [e] [] pos) (b1 lenD f):=je_blt call_len bd_len hg hm PySem.boot_len ha (he:=he)
def listD(xs:List D)(S:Sto):Out D:=match xs with
 | [.tup l]=>.ok (.lst S.length) (S++[⟨false,l⟩])
 | [.lst i]=>match S[i]? with
  | some c=>.ok (.lst S.length) (S++[⟨false,c.xs⟩])
  | none=>.bad
 | _=>.bad
theorem bd_list{K:PySem.W.Frag}:BlD K (fun xs H Q=>∃ p ys,xs=[.ref p]∧(SqL K H p ys∨SqT K H p ys)∧∀ l,H l=none→Q (.ref l) (upd H l (.lst ys))) listD:=by
 intro XQ σ ρ mp H S xs vs Q rs r p
 unfold listD at p
 split at p
 ·obtain⟨v,rfl,h⟩:=RepL.one r
  obtain⟨a,xs,rfl,sq,q⟩:=Rep.tup h
  exact⟨a,xs,rfl,.inr sq,fun l hl=>post_lst p rs q hl⟩
 ·obtain⟨v,rfl,h⟩:=RepL.one r
  split at p
  ·rename_i c zc
   obtain⟨a,xs,rfl,_,sq,q,_⟩:=rs.items h zc
   exact⟨a,xs,rfl,.inl sq,fun l hl=>post_lst p rs q hl⟩
  ·exact p.elim
 ·exact p.elim
theorem je_list{p pos:Pos}{e:Expr}{f:Ev (List D)}(hg:Gl X "list")(hm:X.mg "list"=none)(ha:JA X XQ [e] f)(he:starEach [e] X.env=(false,eval e X.env)::starEach [] X.env:=by rfl):JE X XQ (.Call (.Name "list" p) [e] [] pos) (b1 listD f):=je_ty call_list_of bd_list hg hm (by rfl) ha (he:=he)
def minD(xs:List D)(S:Sto):Out D:=match xs with
 | [.int i,.int j]=>.ok (.int (if j<i then j else i)) S
 | _=>.bad
def cutD(xs:List D)(lo hi:Option Int):List D:=(xs.drop (HT.sIx xs.length 0 lo)).take (HT.sIx xs.length xs.length hi-HT.sIx xs.length 0 lo)
theorem RepL.cut{K:PySem.W.Frag}{mp:List Addr}{H:Hp}{l:List D}{vs:List V}(h:RepL K mp H l vs)(lo hi:Option Int):RepL K mp H (cutD l lo hi) (cutV vs lo hi):=by
 unfold cutD cutV
 rw[h.len]
 exact(h.drop _).take _
def slD(x:D)(lo hi:Option Int)(S:Sto):Out D:=match x with
 | .tup l=>if HT.sIx l.length 0 lo=0∧HT.sIx l.length l.length hi=l.length then .bad else .ok (.tup (cutD l lo hi)) S
 | .lst i=>match S[i]? with
  | some c=>.ok (.lst S.length) (S++[⟨false,cutD c.xs lo hi⟩])
  | none=>.bad
 | _=>.bad
def sl(fe:Ev D)(fl fh:Ev (Option Int)):Ev D:=fun ρ S=>(fe ρ S).bind fun x S1=>(fl ρ S1).bind fun l S2=>(fh ρ S2).bind fun u S3=>slD x l u S3
def onone:Ev (Option Int):=fun _ S=>.ok none S
def osome(f:Ev D):Ev (Option Int):=fun ρ S=>(f ρ S).bind fun x S1=>match x with
 | .int i=>.ok (some i) S1
 | _=>.bad
theorem jo_none:JO X XQ none onone:=PO.mono po_none fun σ H Q ⟨mp,ρ,S,G,p⟩=>PostG.ok (R:=kO) (show PostG X.K kO XQ σ ρ mp H (.ok none S) Q from p) G.rs rfl
theorem jo_some{e:Expr}{f:Ev D}(h:JE X XQ e f):JO X XQ (some e) (osome f):=PO.mono (po_some h) fun σ H Q ⟨mp,ρ,S,G,p⟩=>bindP G p fun mp1 H1 x S1 v a1 G1 r1 p1=>by
 cases x with
 | int i=>exact⟨i,r1,PostG.ok (R:=kO) p1 G1.rs rfl⟩
 | _=>exact(show False from p1).elim
def MeD(K:PySem.W.Frag)(r:V→List V→Hp→VK→Prop)(o:D→List D→Sto→Out D):Prop:=
 ∀ (XQ:XW) (σ:L2.St) (ρ:Lc) (mp:List Addr) (H:Hp) (S:Sto) (x:D) (xs:List D) (v:V) (vs:List V) (Q:VK),RS K mp H S→Rep K mp H x v→RepL K mp H xs vs→Post K XQ σ ρ mp H (o x xs S) Q→r v vs H Q
def isLst(x:D)(S:Sto):Bool:=match x with
 | .lst i=>match S[i]? with
  | some _=>true
  | none=>false
 | _=>false
def mt(o:D→List D→Sto→Out D)(fo:Ev D)(f:Ev (List D)):Ev D:=fun ρ S=>(fo ρ S).bind fun x S1=>if isLst x S1=true then(f ρ S1).bind fun xs S2=>o x xs S2 else .bad
theorem je_meth{id:String}{name:Str}{o e:Expr}{es:List Expr}{apos cpos:Pos}{r:V→List V→Hp→VK→Prop}{od:D→List D→Sto→Out D}{fo:Ev D}{f:Ev (List D)}(slot:Slot "list" name id)(hty:typeOf (.builtin id)=pure (.type "method_descriptor"))(hm:MtM X id r)(hd:MeD X.K r od)(ho:JE X XQ o fo)(ha:JA X XQ (e::es) f)
  (hbase:attributeBase o name X.env (eval o X.env)=eval o X.env:=by rfl)
  (hfew:((backTo cpos (starEach (e::es) X.env)).all (fun x=>!x.1)&&(backToKw cpos (keywordEach [] X.env)).all (fun x=>x.1.isSome)
   && decide ((e::es).length+([]:List Keyword).length+(if([]:List Keyword).isEmpty then 0 else 1)<30))=true:=by rfl)
  (hline:(apos.endLine==cpos.line)=true:=by rfl) (hs:starEach (e::es) X.env=(false,eval e X.env)::starEach es X.env:=by rfl) (hplain:(backTo cpos (starEach es X.env)).any (·.1)=false:=by rfl):
  JE X XQ (.Call (.Attribute o name apos) (e::es) [] cpos) (mt od fo f):=by
 refine PE.mono (pe_bm PySem.F.plainAttrs_list slot hty hm ho ha hbase hfew hline hs hplain) fun σ H Q ⟨mp,ρ,S,G,p⟩=>?_
 refine bindP G p fun mp1 H1 x S1 v a1 G1 r1 p1=>?_
 by_cases hl:isLst x S1=true
 ·rw[if_pos hl] at p1
  have ty:tyV X.K "list" v H1:=by
   cases x with
   | lst i=>
    cases zc:S1[i]? with
    | none=>simp[isLst,zc] at hl
    | some c=>
     obtain⟨a,xs,rfl,_,sq,_⟩:=G1.rs.items r1 zc
     exact .inl ⟨rfl,xs,sq⟩
   | _=>simp[isLst] at hl
  exact⟨ty,bindP G1 p1 fun mp2 H2 xs S2 vs a2 G2 r2 p2=>hd XQ σ ρ mp2 H2 S2 x xs v vs Q G2.rs (Rep.aft a2 _ _ r1) r2 p2⟩
 ·rw[if_neg hl] at p1; exact p1.elim
end
end DL
set_option Elab.async false
set_option linter.all false
set_option maxRecDepth 100000
namespace DL
open PySem PySem.Spec PyProof.Rows L2
section
variable{X:Cx}{XQ:XW}
def ch(o o':D→D→Sto→Out D)(fa fb fc:Ev D):Ev D:=fun ρ S=>(fa ρ S).bind fun x S1=>(fb ρ S1).bind fun y S2=>(o x y S2).bind fun z S3=>match z with
 | .bl k=>if k=true then(fc ρ S3).bind fun w S4=>o' y w S4 else .ok (.bl false) S3
 | _=>.bad
end
end DL
set_option Elab.async false
set_option linter.all false
set_option maxRecDepth 100000
namespace DL
open PySem PySem.Spec PyProof.Rows L2
def XAt(a c:Addr)(h:Heap):Prop:=∃ oe,h.get? a=some oe∧oe.cls=.ref c∧∃ vs,oe.data=.fields vs
section
variable{prog:Program}{w:World}{A:Around}{E:Value→Shared→Prop}{h:Heap}{g:Array GenState}{d:Drawn}{t:Nat}{os:OsState}{a c:Addr}{o:Obj}{K:PySem.W.Frag}
theorem xat_ty{M:Model}(x:XAt a c h):PySem.W.Looks M h (typeOf (.ref a)) (.ref c):=by
 obtain⟨oe,h1,h2,_⟩:=x
 exact h2▸(PySem.W.Looks.ld h1).andThen .now
theorem xc_get{tp:Value}{R:Result→Shared→Prop}(X:K.In h)(k:XCl K c)(x:XAt a c h)(hq:R (.ok (.ret (.ref c))) ⟨h,g,d,t,os⟩):
  codeAny (model prog w) A (.call (.builtin "getset_descriptor.__get__") ⟨[.builtin "object.__class__",.ref a,tp],[]⟩) R ⟨h,g,d,t,os⟩:=by
 obtain⟨oe,hx,hc,_⟩:=x
 have hT5:(⟨h,g,d,t,os⟩:Shared).TypeIs (.builtin "object.__class__") "getset_descriptor":=F.typeOf_object_class
 refine codeAny_call_builtin F.slot_gs_get.plain F.entry_gs_get (F.slot_gs_get.check _ _ _ _ _ _ _ _ hT5 (F.args_gs_get _ _ _) ?_)
 have L1:=fun(M:Model)=>PySem.W.looks_mroIn (M:=M) X k.ob
 have ow:=F.owner_object_class
 repeat (any_goals (first | assumption | (with_reducible refine wpAny_loadPart_at hx ?_; rw[hc]) | (rw[ow]; with_reducible refine(L1 _).here ?_) | wp_step))
 refine⟨Code.quiet_builtin _ (by decide +kernel),codeAny_builtin F.entry_object_class ?_⟩
 repeat (any_goals (first | assumption | (with_reducible refine wpAny_loadPart_at hx ?_; rw[hc]) | wp_step))
theorem xc_check{M:Model}{nameV:Value}{Q:Unit→Shared→Prop}(X:K.In h)(k:XCl K c)(x:XAt a c h)(hq:Q () ⟨h,g,d,t,os⟩):wpAny M A (checkBuiltinCall "BaseException.__getattribute__" ⟨[.ref a,nameV],[]⟩) Q E ⟨h,g,d,t,os⟩:=by
 obtain⟨oe,hx,hc,_⟩:=x
 have bk:builtinKind "BaseException.__getattribute__"=some .slot:=by decide +kernel
 have bs:splitId "BaseException.__getattribute__"=some ("BaseException","__getattribute__"):=by decide +kernel
 have ha:=F.args_bexc_ga (.ref a) nameV
 have L1:PySem.W.Looks M h (isSubtype (.ref c) (.type "BaseException")) true:=PySem.W.looks_subIn X k.be
 simp only[checkBuiltinCall,bk,bs]
 refine wpAny_bind ?_
 ·unfold isInstance
  repeat (first | (with_reducible refine wpAny_loadPart_at hx ?_; rw[hc]) | (with_reducible refine L1.here ?_) | wp_step)
  exact hq
theorem xc_entry{tk:Tok}{Q:Fin→Shared→Prop}(X:K.In h)(k:XCl K c)(x:XAt a c h)(hq:Q (.done (.ret (.ref c))) ⟨h,g,d,t,os⟩):
  wpAny (model prog w) A (Builtin.«object.__getattribute__» ⟨[.ref a,.str "__class__" tk],[]⟩) Q E ⟨h,g,d,t,os⟩:=by
 obtain⟨oe,hx,hc,hv⟩:=id x
 have hT5:(⟨h,g,d,t,os⟩:Shared).TypeIs (.builtin "object.__class__") "getset_descriptor":=F.typeOf_object_class
 have f5:=F.typeOf_object_class
 have f6:=F.slot_gs_get.lookup
 have f7:=F.slot_gs_set.lookup
 have L1:=fun(M:Model)=>PySem.W.looks_findIn (M:=M) X k.cl
 repeat (any_goals (first | assumption | (with_reducible refine wpAny_loadPart_at hx ?_; rw[hc]) | with_reducible refine(L1 _).here ?_ | wp_step))
 refine xc_get X k x ?_
 repeat (any_goals (first | assumption | wp_step))
theorem xc_by{tk:Tok}{fill expr:Bool}{Q:Value→Shared→Prop}(X:K.In h)(k:XCl K c)(x:XAt a c h)(hq:Q (.ref c) ⟨h,g,d,t,os⟩):
  wpAny (model prog w) A (getAttrBy (.ref a) (.str "__class__" tk) fill expr) Q E ⟨h,g,d,t,os⟩:=by
 obtain⟨oe,hx,hc,hv⟩:=id x
 have f3:=PySem.F.excAttr_ValueError.ga.bind (.ref a)
 have n0:(expr&&onTheHeap (Value.builtin "BaseException.__getattribute__"))=false:=by cases expr<;>rfl
 have n2:(Value.builtin "BaseException.__getattribute__"==Value.builtin "object.__getattribute__")=false:=by decide +kernel
 have n1:(onTheHeap (Value.ref c)&&Value.builtin "BaseException.__getattribute__"==Value.builtin "object.__getattribute__")=false:=by rw[n2]; rfl
 have L1:=fun(M:Model)=>PySem.W.looks_findIn (M:=M) X k.ga
 have L2:=fun(M:Model)=>PySem.W.looks_findIn (M:=M) X k.gt
 repeat (any_goals (first | assumption | (with_reducible refine wpAny_loadPart_at hx ?_; rw[hc]) | with_reducible refine(L1 _).here ?_ | with_reducible refine(L2 _).here ?_ | wp_step))
 refine codeAny_call_builtin PySem.F.excAttr_ValueError.ga.plain F.entry_bexc_ga (xc_check X k x (xc_entry X k x ?_))
 repeat (any_goals (first | assumption | wp_step))
theorem xc_attr{Q:Option Value→Shared→Prop}(X:K.In h)(k:XCl K c)(x:XAt a c h)(hq:Q (some (.ref c)) ⟨h,g,d,t+1,os⟩):wpAny (model prog w) A (getAttr? (.ref a) "__class__") Q E ⟨h,g,d,t,os⟩:=by
 unfold getAttr? getAttrBy?
 repeat (any_goals (first | assumption | with_reducible apply xc_by X k x | wp_step))
end
theorem kitx_exn{K:PySem.W.Frag}{a c:Addr}(k:XCl K c):PySem.W.KitX K (.ref a) (.ref c) (XAt a c) where
 ty:=fun _ _ _ x=>xat_ty x
 it:=fun _ _ X _=>by
  obtain⟨cd,hc⟩:=Option.isSome_iff_exists.mp k.cd
  unfold PySem.W.clsIn at hc
  split at hc
  ·rename_i c' d' cd' sl' ho
   intro A Q E s kp q
   unfold isType loadHead
   exact wpAny_bind (wpAny_loadPart (kp _ _ (X _ _ ho)) (wpAny_pure q))
  ·cases hc
 ne:=fun h tp dd its n sl X htp=>by
  obtain⟨cd,hc⟩:=Option.isSome_iff_exists.mp k.cd
  refine Bool.eq_false_iff.mpr fun q=>?_
  have e:c=tp:=Value.ref.inj (beq_iff_eq.mp q)
  subst e
  unfold PySem.W.clsIn at hc
  split at hc
  ·rename_i c' d' cd' sl' ho
   cases (X _ _ ho).symm.trans htp
  ·cases hc
 ca:=fun{prog w A E Q s} X x q=>by
  obtain⟨hh,g,d,t,os⟩:=s
  exact xc_attr X k x q
end DL
set_option Elab.async false
set_option linter.all false
set_option maxRecDepth 100000
namespace DL
open PySem PySem.Spec PyProof.Rows L2
def tyN:D→String
 | .non=>"NoneType"
 | .bl _=>"bool"
 | .int _=>"int"
 | .str _=>"str"
 | .tup _=>"tuple"
 | .lst _=>"list"
 | .exn _ _=>"exn"
 | .fv _=>"fv"
def isT(T t:String):Bool:=t==T||(T=="int"&&t=="bool")
def isD(T:String)(x:D)(S:Sto):Out D:=match x with
 | .fv _=>.bad
 | _=>.ok (.bl (isT T (tyN x))) S
def Kit(K:PySem.W.Frag)(T:String):Prop:=T∈["bool","int","str","tuple","list"]∧∀ t∈["NoneType","bool","int","str","tuple","list"],PySem.W.kitOne K (.type t) (.type T)=some (isT T t)
theorem kit_bool{K:PySem.W.Frag}:Kit K "bool":=by refine⟨by decide,?_⟩; intro t h; simp only[List.mem_cons,List.mem_nil_iff,or_false] at h; rcases h with rfl | rfl | rfl | rfl | rfl | rfl<;>first | rfl | decide +kernel | (with_unfolding_all rfl)
section
variable{X:Cx}{XQ:XW}
def rIsi(K:PySem.W.Frag)(T:String):List V→Hp→VK→Prop:=fun vs H Q=>∃ x t,vs=[x,.ty T]∧(match x with
 | .non=>t="NoneType" | .bl _=>t="bool" | .int _=>t="int" | .str _=>t="str"
 | .ref a=>(t="tuple"∧∃ xs,SqT K H a xs)∨(t="list"∧∃ xs,SqL K H a xs)∨(t="exn"∧∃ c dx,XCl K c∧H a=some (XO a c dx))
 | _=>False)∧Q (.bl (isT T t)) H
theorem xo_at{pins:List (Addr×Obj)}{σ:L2.St}{H:Hp}{s:Shared}{a c:Addr}{dx:Option Addr}(I:Inv X pins σ H s)(h:H a=some (XO a c dx)):XAt a c s.heap:=by
 obtain⟨⟨oe,h1,h2,_,h3⟩,_,_⟩:=(show ObjOk X.prog X.w H s.heap a (XO a c dx) from I.hok a _ h)
 exact⟨oe,h1,h2,h3⟩
theorem isT_exn{T:String}(h:T∈["bool","int","str","tuple","list"]):isT T "exn"=false:=by
 simp only[List.mem_cons,List.mem_nil_iff,or_false] at h
 rcases h with rfl | rfl | rfl | rfl | rfl<;>rfl
theorem call_isi{T:String}(k:Kit X.K T):CallR X (.builtin "isinstance") (rIsi X.K T):=by
 intro pins s σ H xs us Q I r ⟨x,t,e,h,q⟩
 subst e
 obtain⟨u,w,rfl,ru,rw'⟩:=Vals.two r
 cases (show w=Value.type T from rw')
 have fin:∀ tk,EP X pins σ Q (.bool (isT T t)) { s with toks:=tk }:=fun tk=>⟨.bl _,H,I.tok tk,rfl,q⟩
 cases x with
 | non=>cases (show u=Value.none from ru); cases (show t="NoneType" from h); exact PySem.W.kia_one PySem.W.kitx_none I.kIn True.intro (k.2 _ (by decide)) (fun z=>nomatch z) fin
 | bl y=>cases (show u=Value.bool y from ru); cases (show t="bool" from h); exact PySem.W.kia_one PySem.W.kitx_bool I.kIn True.intro (k.2 _ (by decide)) (fun z=>nomatch z) fin
 | int i=>obtain⟨tk,e⟩:=(show ∃ t,u=Value.int i t from ru); cases e; cases (show t="int" from h); exact PySem.W.kia_one PySem.W.kitx_int I.kIn True.intro (k.2 _ (by decide)) (fun z=>nomatch z) fin
 | str y=>obtain⟨tk,e⟩:=(show ∃ t,u=Value.str y t from ru); cases e; cases (show t="str" from h); exact PySem.W.kia_one PySem.W.kitx_str I.kIn True.intro (k.2 _ (by decide)) (fun z=>nomatch z) fin
 | ref a=>
  cases (show u=Value.ref a from ru)
  rcases h with⟨rfl,xs,sq⟩ | ⟨rfl,xs,sq⟩ | ⟨rfl,c,dx,xc,hH⟩
  ·obtain⟨its,_,⟨o,h1,h2,_⟩,_⟩:=I.tuple sq
   exact PySem.W.kia_one PySem.W.kitx_tuple I.kIn ⟨o,h1,h2⟩ (k.2 _ (by decide)) (fun z=>nomatch z) fin
  ·obtain⟨its,_,⟨o,n,h1,h2,_⟩,_⟩:=I.list sq
   exact PySem.W.kia_one PySem.W.kitx_list I.kIn ⟨o,h1,h2⟩ (k.2 _ (by decide)) (fun z=>nomatch z) fin
  ·have xa:=xo_at I hH
   have e:isT T "exn"=false:=isT_exn k.1
   rw[e] at fin
   exact PySem.W.kia_one (kitx_exn xc) I.kIn xa (xc.bt T k.1) (fun z=>nomatch z) fin
 | _=>exact h.elim
theorem je_isi{T:String}{x:Str}{e:Expr}{f:Ev D}{p p2 pos:Pos}(k:Kit X.K T)(hv:bootBuiltins x=some (.type T))(hnx:x≠"__name__")(hdx:(x==("__debug__":Str))=false)(hg:Gl X "isinstance")(hm:X.mg "isinstance"=none)(hgt:Gl X x)(hmt:X.mg x=none)(he:JE X XQ e f)
  (hs:starEach [e,.Name x p2] X.env=(false,eval e X.env)::starEach [.Name x p2] X.env) (hpl:(backTo pos (starEach [.Name x p2] X.env)).any (·.1)=false) (hs2:starEach [.Name x p2] X.env=(false,eval (.Name x p2) X.env)::starEach [] X.env):
  JE X XQ (.Call (.Name "isinstance" p) [e,.Name x p2] [] pos) (o1 (isD T) f):=by
 refine PE.mono (pe_callB (call_isi k) hg hm (by rfl) (pa_cons he (pa_cons (pe_bltn hgt hmt hv (v:=.ty T) rfl hnx hdx) pa_nil hs2) hs) (by decide) (by decide) hs hpl) fun σ H Q ⟨mp,ρ,S,G,q⟩=>?_
 refine bindP G q fun mp1 H1 d S1 v a1 G1 r1 p1=>?_
 have p2:(∃ c,d=.fv c)∨Post X.K XQ σ ρ mp1 H1 (.ok (.bl (isT T (tyN d))) S1) Q:=by cases d<;>first | exact .inr p1 | exact .inl ⟨_,rfl⟩
 rcases p2 with⟨c,rfl⟩ | p2
 ·exact(show False from p1).elim
 refine⟨v,tyN d,rfl,?_,PostG.ok (R:=Rep X.K) p2 G1.rs rfl⟩
 cases d with
 | non=>cases (show v=.non from r1); exact rfl
 | bl b=>cases (show v=.bl b from r1); exact rfl
 | int b=>cases (show v=.int b from r1); exact rfl
 | str b=>cases (show v=.str b from r1); exact rfl
 | tup l=>obtain⟨a,xs,rfl,sq,_⟩:=Rep.tup r1; exact .inl ⟨rfl,xs,sq⟩
 | lst i=>
  obtain⟨a,rfl,ha⟩:=(show ∃ a,v=.ref a∧mp1[i]?=some a from r1)
  have hl:i<S1.length:=by rw[←G1.rs.len]; exact(List.getElem?_eq_some_iff.mp ha).1
  obtain⟨a2,xs,e2,_,sq,_⟩:=G1.rs.items r1 (List.getElem?_eq_getElem hl)
  cases e2
  exact .inr (.inl ⟨rfl,xs,sq⟩)
 | exn c n=>
  obtain⟨a,dx,q,rfl,⟨_,xc,hH⟩,_⟩:=(show ∃ a dx p,v=.ref a∧(CN X.K c p∧XCl X.K p∧H1 a=some (XO a p dx))∧∀ i,n=some i→∃ d,dx=some d∧H1 d=some (XA d i) from r1)
  exact .inr (.inr ⟨rfl,q,dx,xc,hH⟩)
 | fv c=>exact(show False from p1).elim
end
end DL
set_option Elab.async false
set_option linter.all false
set_option maxRecDepth 100000
namespace DL
open PySem PySem.Spec PyProof.Rows L2
end DL
set_option Elab.async false
set_option linter.all false
set_option maxRecDepth 100000
namespace DL
open PySem PySem.Spec PyProof.Rows L2
end DL
set_option Elab.async false
set_option linter.all false
set_option maxRecDepth 100000
namespace DL
open PySem PySem.Spec PyProof.Rows L2
end DL
set_option Elab.async false
set_option linter.all false
namespace DL
open PySem
theorem se_Constant{c j p}{es:List Expr}{env:PySem.Env}:starEach (.Constant c j p::es) env=(false,eval (.Constant c j p) env)::starEach es env:=rfl
theorem se_Name{x p}{es:List Expr}{env:PySem.Env}:starEach (.Name x p::es) env=(false,eval (.Name x p) env)::starEach es env:=rfl
theorem se_Call{f a k p}{es:List Expr}{env:PySem.Env}:starEach (.Call f a k p::es) env=(false,eval (.Call f a k p) env)::starEach es env:=rfl
theorem se_Subscript{a b p}{es:List Expr}{env:PySem.Env}:starEach (.Subscript a b p::es) env=(false,eval (.Subscript a b p) env)::starEach es env:=rfl
theorem se_BinOp{a o b p}{es:List Expr}{env:PySem.Env}:starEach (.BinOp a o b p::es) env=(false,eval (.BinOp a o b p) env)::starEach es env:=rfl
end DL
set_option Elab.async false
set_option linter.all false
set_option maxRecDepth 100000
namespace DL
open PySem PySem.Spec PyProof.Rows L2
structure Cal(P:Program)(w:World)(K:PySem.W.Frag)(mg:Str→Option Value)(base:Heap)(x:Str)(ps:List Str)(fn:Fn)(j:Nat):Prop where
 ex:∃ f fd,FnOk P w K mg base CX0 j f fd ps (spD K ps.length fn)∧mg x=some (.ref f)∧PySem.W.keepIn K (.ref f)=true∧Binds K fd ps []
structure Dn(K:PySem.W.Frag)(mg:Str→Option Value)(x:Str)(st:Stmt)(ps:List Str):Prop where
 ex:∃ f fd,Fun K x x st f fd∧mg x=some (.ref f)∧Binds K fd ps []
section
variable{P:Program}{w:World}{K:PySem.W.Frag}{mg:Str→Option Value}{base:Heap}
theorem dn_mk{h:Heap}{x:Str}{st:Stmt}{ps:List Str}{f:Addr}{oc:Value}{od an:Option Addr}{osl:Array (Option Value)}{kV doc pm cdv ct:Value}(X:K.In h)(G:h.Ns mainGlobals mg)(a:PySem.W.nsIn K mainGlobals x=some (some (.ref f)))
  (l:K.lookup f=some ⟨oc,od,.func (PySem.W.fnOf x x (defArgs st) (defBody st) (defScope st) .none kV doc pm an cdv ct),osl⟩) (c:PySem.W.codeIn K cdv x=true) (k:PySem.W.keepIn K (.ref f)=true)
  (hb:∀ (kV doc pm:Value) (an:Option Addr) (cdv ct:Value) (us:List Value),us.length=ps.length→bindArgs (PySem.W.fnOf x x (defArgs st) (defBody st) (defScope st) .none kV doc pm an cdv ct) ⟨us,[]⟩=pure (ps.zip us)):Dn K mg x st ps:=
 ⟨f,_,fun_mk l c k,PySem.W.mg_of X G a,(fun_mk (st:=st) l c k).binds hb⟩
theorem cal_of{x:Str}{st:Stmt}{ps:List Str}{fn:Fn}(N:List Str)(k:Nat)(b:Sv)(hfn:fn=fnB N.length b)(d:Dn K mg x st ps)(Sc:FnScope N ps (defScope st))
  (hb:∀ (f:Addr) (cdv:Value) (A:Around) (outer:List PySem.Env) (s:Shared) (H:Hp) (E:XK),Room k (A.deeper (envOfC x (defScope st) s.heap.objs.size f cdv))→
   JSs (cxOf CX0 P w K mg base N x (defScope st) f cdv A outer s H E).nox XN (defBody st) b):Cal P w K mg base x ps fn (k+1):=by
 subst hfn
 obtain⟨f,fd,F,hm,hbi⟩:=d.ex
 exact⟨f,fd,fn_ok F Sc (hb f),hm,F.kp,hbi⟩
end
section
variable{X:Cx}{XQ:XW}
theorem je_own{x:Str}{ps:List Str}{fn:Fn}{j k n:Nat}{p pos:Pos}{e:Expr}{es:List Expr}{t:Ev (List D)}(C:Cal X.prog X.w X.K X.mg X.base x ps fn j)(hr:Room k X.A)(ha:JA X XQ (e::es) t)(hn:ps.length=n)(hj:j≤k:=by decide)(hg:Gl X x:=by rfl)
  (hdb:(x==("__debug__":Str))=false:=by decide) (he:starEach (e::es) X.env=(false,eval e X.env)::starEach es X.env:=by rfl) (hpl:(backTo pos (starEach es X.env)).any (·.1)=false:=by rfl):
  JE X XQ (.Call (.Name x p) (e::es) [] pos) (cl n (noExc fn) t):=by
 subst hn
 obtain⟨f,fd,F,hm,hk,hb⟩:=C.ex
 exact je_call F hr hj hg hm hk hb ha hdb he hpl
def plainN(x:Str):Bool:=!(x==("__debug__":Str))&&!(x==("__classdict__":Str))
def okV(sc:Scope)(x:Str):Bool:=(match sc.names.lookup x with
 | some .local=>true
 | some .cell=>true
 | some .free=>true
 | _=>false)&&plainN x
def okL(sc:Scope)(x:Str):Bool:=match sc.names.lookup x with
 | some .local=>true
 | some .cell=>true
 | _=>false
def okG(sc:Scope)(x:Str):Bool:=(match sc.names.lookup x with
 | some .globalImplicit=>true
 | _=>false)&&plainN x
theorem plainN.of{x:Str}(h:plainN x=true):(x==("__debug__":Str))=false∧(x==("__classdict__":Str))=false:=by
 unfold plainN at h
 rw[Bool.and_eq_true] at h
 exact⟨by simpa using h.1,by simpa using h.2⟩
theorem okV.vis{sc:Scope}{x:Str}(h:okV sc x=true):Vis sc x∧plainN x=true:=by
 unfold okV at h
 rw[Bool.and_eq_true] at h
 refine⟨?_,h.2⟩
 have h:=h.1
 split at h
 ·rename_i e; exact .inl e
 ·rename_i e; exact .inr (.inl e)
 ·rename_i e; exact .inr (.inr e)
 ·cases h
theorem okL.loc{sc:Scope}{x:Str}(h:okL sc x=true):Loc sc x:=by
 unfold okL at h
 split at h
 ·rename_i e; exact .inl e
 ·rename_i e; exact .inr e
 ·cases h
theorem okG.gl{sc:Scope}{x:Str}(h:okG sc x=true):sc.names.lookup x=some .globalImplicit∧plainN x=true:=by
 unfold okG at h
 rw[Bool.and_eq_true] at h
 refine⟨?_,h.2⟩
 have h:=h.1
 split at h
 ·rename_i e; exact e
 ·cases h
structure OkV(sc:Scope)(x:Str):Prop where
 h:okV sc x=true
structure OkL(sc:Scope)(x:Str):Prop where
 h:okL sc x=true
structure OkC(sc:Scope)(x:Str):Prop where
 h:sc.names.lookup x=some .local
structure OkG(sc:Scope)(x:Str):Prop where
 h:okG sc x=true
theorem jv(i:Nat){x:Str}{pos:Pos}(h:OkV X.env.scope x)(hN:X.N[i]?=some x:=by rfl):JE X XQ (.Name x pos) (vr i):=je_var i hN (okV.vis h.h).1 (plainN.of (okV.vis h.h).2).1 (plainN.of (okV.vis h.h).2).2
theorem gl{x:Str}(h:OkG X.env.scope x):Gl X x:=(okG.gl h.h).1
theorem jgn(i:Nat){x:Str}{pos:Pos}(hN:X.N.Nodup)(h:OkL X.env.scope x)(hi:X.N[i]?=some x:=by rfl)(hf:X.fn x=true:=by rfl):JG X (.Name x pos) (gn i):=jg_name i hN hi (okL.loc h.h) (.inl hf)
theorem jset(i:Nat){x:Str}{e:Expr}{f:Ev D}{pos pos':Pos}(hN:X.N.Nodup)(h:OkL X.env.scope x)(he:JE X XQ e f)(hi:X.N[i]?=some x:=by rfl)(hs:swapsWith e (some (.Name x pos')) pos.line X.env=pure false:=by rfl)(hf:X.fn x=true:=by rfl):
  JS X XQ (.Assign [.Name x pos'] e pos) (sa f (gn i)):=js_set i hN he hi (okL.loc h.h) hs (.inl hf)
theorem jown{x:Str}{ps:List Str}{fn:Fn}{j k n:Nat}{p pos:Pos}{e:Expr}{es:List Expr}{t:Ev (List D)}(C:Cal X.prog X.w X.K X.mg X.base x ps fn j)(hr:Room k X.A)(hg:Gl X x)(hp:plainN x=true)(ha:JA X XQ (e::es) t)(hn:ps.length=n:=by rfl)(hj:j≤k:=by decide)
  (he:starEach (e::es) X.env=(false,eval e X.env)::starEach es X.env:=by rfl) (hpl:(backTo pos (starEach es X.env)).any (·.1)=false:=by rfl):
  JE X XQ (.Call (.Name x p) (e::es) [] pos) (cl n (noExc fn) t):=je_own C hr ha hn hj hg (plainN.of hp).1 he hpl
end
end DL
set_option Elab.async false
set_option linter.all false
set_option maxRecDepth 100000
namespace DL
open PySem PySem.Spec PyProof.Rows L2
section
variable{X:Cx}{XQ:XW}
theorem log_of{j:Int}(h1:0<j)(h2:j<2^200):j.natAbs.log2<9000:=by
 have h3:j.natAbs<2^200:=by omega
 exact Nat.lt_of_lt_of_le ((Nat.log2_lt (by omega)).mpr h3) (by decide)
theorem op_fdiv2:OpR X (binaryOp .FloorDiv) (rI (fun _ j=>0<j∧j<2^200) fun i j=>.int (i / j)):=opI fun i j _ _ _ _ _ hc q=>by
 have h1:(0:Int)<j:=hc.1
 have h2:j<2^200:=hc.2
 exact floordiv_int (by omega) (by rw[Int.fdiv_eq_ediv_of_nonneg i (by omega)]; exact q) (.inl (PyProof.noPylong_of_log2 (log_of h1 h2)))
abbrev divD2:=i2 (fun _ j=>decide (0<j∧j<2^200)) fun i j=>.int (i / j)
theorem je_div2{a b:Expr}{fa fb:Ev D}{pos:Pos}(ha:JE X XQ a fa)(hb:JE X XQ b fb):JE X XQ (.BinOp a .FloorDiv b pos) (o2 divD2 fa fb):=je_op op_fdiv2 (od_int (fun _ j h=>(of_decide_eq_true h:0<j∧j<2^200)) fun _ _ _ _=>rfl) ha hb
def intsOf:List D→Option (List Int)
 | []=>some []
 | .int i::r=>(intsOf r).map (i::·)
 | _::_=>none
def seqOf(x:D)(S:Sto):Option (List D):=match x with
 | .tup l=>some l
 | .lst i=>(S[i]?).map (·.xs)
 | _=>none
def sumD(xs:List D)(S:Sto):Out D:=match xs with
 | [x]=>match (seqOf x S).bind intsOf with
  | some ns=>.ok (.int ns.sum) S
  | none=>.bad
 | _=>.bad
def maxD(xs:List D)(S:Sto):Out D:=match xs with
 | [.int i,.int j]=>.ok (.int (if j>i then j else i)) S
 | _=>.bad
def sag(i:Nat)(g:Int→Int→Int)(f:Ev D):Sv:=fun ρ S=>match ρ[i]? with
 | some (some (.int a))=>bindS (f ρ S) ρ fun d S1=>match d with
  | .int b=>.nx (ρ.set i (some (.int (g a b)))) S1
  | _=>.bad
 | _=>.bad
end
section
variable{prog:Program}{w:World}{A:Around}{E:Value→Shared→Prop}{s:Shared}
theorem getItem_tuple_all{t sl:Addr}{items:Array Value}{vl vu:Value}{lo hi:Option Int}{Q:Value→Shared→Prop}(ht:IsTup s.heap t items)(hs:s.heap.IsSliceOf sl vl vu .none)(pl:IsPart vl lo)(pu:IsPart vu hi)
  (hw:HT.sIx items.size 0 lo=0∧HT.sIx items.size items.size hi=items.size)
  (h:Q (.ref t) s):wpAny (model prog w) A (getItem (.ref t) (.ref sl)) Q E s:=by
 obtain⟨os,hos,hcs,hds⟩:=id hs
 have hTs:s.TypeIs (.ref sl) "slice":=⟨os,hos,hcs⟩
 unfold getItem
 try with_reducible refine wpAny_holding ?_
 first | refine wpAny_bind (wpAny_pure ?_) | skip
 refine wpAny_bind (wpAny_sequenceKey ht.typeIs (by decide) ?_)
 refine wpAny_bind (wpAny_callSpecial?_slot (name:=Str.ofString "__getitem__") ht.typeIs PyProof.Rows.slot_tuple_getitem
  (wpAny_call_entry PyProof.Rows.slot_tuple_getitem ht.typeIs entry_tuple_getitem ?_ (args_tuple_getitem _ _)))
 show wpAny _ _ (Builtin.Tuple.tupleItemsOf (.ref t) >>= _) _ _ s
 refine wpAny_bind (tupleItemsOf_ ht ?_)
 refine wpAny_bind (wpAny_typeOf hTs ?_)
 rw[if_pos (by decide)]
 refine wpAny_bind (HT.sliceApplied_gen hs pl pu ?_)
 show wpAny _ _ (if(((HT.sIx items.size 0 lo:Nat):Int)==0&&(1:Int)==1&&(HT.sIx items.size items.size hi-HT.sIx items.size 0 lo)==items.size)=true then _ else _) _ _ s
 rw[if_pos (by rw[hw.1,hw.2]; simp)]
 unfold Builtin.Tuple.tupleIsExact
 refine wpAny_bind (wpAny_bind (wpAny_typeOf ht.typeIs (wpAny_pure ?_)))
 rw[if_pos (by decide)]
 exact wpAny_bind (wpAny_rule (wpAny_pure ⟨_,rfl,wpAny_pure h⟩))
end
section
variable{X:Cx}{XQ:XW}
def rSlA(K:PySem.W.Frag):V→Option Int→Option Int→Hp→VK→Prop:=fun x lo hi H Q=>∃ a xs,x=.ref a∧SqT K H a xs∧(HT.sIx xs.length 0 lo=0∧HT.sIx xs.length xs.length hi=xs.length)∧Q (.ref a) H
theorem sl_all:SlR X (rSlA X.K):=by
 intro pins s σ H x v vl vu lo hi sl Q I rx hs pl pu h
 obtain⟨a,xs,rfl,hx,hw,q⟩:=h
 cases rx
 obtain⟨its,r,ht,hz⟩:=I.tuple hx
 have hlen:its.toArray.size=xs.length:=by rw[List.size_toArray]; exact r.length.symm
 refine⟨"tuple",_,PyProof.Rows.slot_tuple_getitem.lookup,ht.typeIs,?_⟩
 exact getItem_tuple_all ht hs pl pu (by rw[hlen]; exact hw) ⟨.ref a,H,I,rfl,q⟩
def slD2(x:D)(lo hi:Option Int)(S:Sto):Out D:=match x with
 | .tup l=>if HT.sIx l.length 0 lo=0∧HT.sIx l.length l.length hi=l.length then .ok (.tup l) S else .ok (.tup (cutD l lo hi)) S
 | .lst i=>match S[i]? with
  | some c=>.ok (.lst S.length) (S++[⟨false,cutD c.xs lo hi⟩])
  | none=>.bad
 | _=>.bad
def sl2(fe:Ev D)(fl fh:Ev (Option Int)):Ev D:=fun ρ S=>(fe ρ S).bind fun x S1=>(fl ρ S1).bind fun l S2=>(fh ρ S2).bind fun u S3=>slD2 x l u S3
theorem je_slice2{e:Expr}{lo hi:Option Expr}{fe:Ev D}{fl fh:Ev (Option Int)}{pos p2:Pos}(he:JE X XQ e fe)(hl:JO X XQ lo fl)(hh:JO X XQ hi fh):JE X XQ (.Subscript e (.Slice lo hi none p2) pos) (sl2 fe fl fh):=by
 refine PE.mono (pe_slice ((sl_list.or sl_tup).or sl_all) he hl hh) fun σ H Q ⟨mp,ρ,S,G,p⟩=>?_
 refine bindP G p fun mp1 H1 x S1 v a1 G1 r1 p1=>?_
 refine bindP G1 p1 fun mp2 H2 l S2 l' a2 G2 r2 p2=>?_
 refine bindP G2 p2 fun mp3 H3 u S3 u' a3 G3 r3 p3=>?_
 cases (show l'=l from r2)
 cases (show u'=u from r3)
 have r1:=Rep.aft (a2.trans a3) _ _ r1
 cases x with
 | tup ds=>
  have p3:Post X.K XQ σ ρ mp3 H3 (if HT.sIx ds.length 0 l=0∧HT.sIx ds.length ds.length u=ds.length then .ok (.tup ds) S3 else .ok (.tup (cutD ds l u)) S3) Q:=p3
  obtain⟨a,xs,rfl,sq,q⟩:=Rep.tup r1
  by_cases hw:HT.sIx ds.length 0 l=0∧HT.sIx ds.length ds.length u=ds.length
  ·rw[if_pos hw] at p3
   exact .inr ⟨a,xs,rfl,sq,by rw[q.len]; exact hw,PostG.ok (R:=Rep X.K) p3 G3.rs r1⟩
  ·rw[if_neg hw] at p3
   exact .inl (.inr ⟨a,xs,rfl,sq,by rw[q.len]; exact hw,fun t ht=>post_tup p3 G3.rs (q.cut l u) ht⟩)
 | lst i=>
  have p3:Post X.K XQ σ ρ mp3 H3 (match S3[i]? with | some c=>.ok (.lst S3.length) (S3++[⟨false,cutD c.xs l u⟩]) | none=>.bad) Q:=p3
  cases zc:S3[i]? with
  | none=>rw[zc] at p3; exact p3.elim
  | some c=>
   rw[zc] at p3
   obtain⟨a,xs,rfl,_,sq,q,_⟩:=G3.rs.items r1 zc
   exact .inl (.inl ⟨a,xs,rfl,sq,fun t ht=>post_lst p3 G3.rs (q.cut l u) ht⟩)
 | _=>exact(show False from p3).elim
end
end DL
set_option Elab.async false
set_option linter.all false
set_option maxRecDepth 100000
namespace DL
open PySem PySem.Spec PyProof.Rows L2
end DL
set_option Elab.async false
set_option linter.all false
set_option maxRecDepth 100000
namespace DL
open PySem PySem.Spec PyProof.Rows L2
end DL
set_option Elab.async false
set_option linter.all false
set_option maxRecDepth 100000
namespace DL
open PySem PySem.Spec PyProof.Rows L2
end DL
set_option Elab.async false
set_option linter.all false
set_option maxRecDepth 100000
namespace DL
open PySem PySem.Spec PyProof.Rows L2
structure Za(z ti to' i j a b:Addr):Prop where
 q1:ti≠z
 q2:to'≠z
 q3:i≠z
 q4:j≠z
 q5:ti≠to'
 q6:ti≠i
 q7:ti≠j
 q8:to'≠i
 q9:to'≠j
 q10:i≠j
 q11:a≠z
 q12:a≠to'
 q13:a≠i
 q14:a≠j
 q15:b≠z
 q16:b≠to'
 q17:b≠i
 q18:b≠j
end DL
set_option Elab.async false
set_option linter.all false
set_option maxRecDepth 100000
namespace DL
open PySem PySem.Spec PyProof.Rows L2
end DL
set_option Elab.async false
set_option linter.all false
set_option maxRecDepth 100000
namespace DL
open PySem PySem.Spec PyProof.Rows L2
section
variable{X:Cx}{XQ:XW}
def rvD(x:D)(st:Option Int)(S:Sto):Out D:=match x,st with
 | .tup l,some (-1)=>.ok (.tup l.reverse) S
 | _,_=>.bad
def rv(fe:Ev D)(fs:Ev (Option Int)):Ev D:=fun ρ S=>(fe ρ S).bind fun x S1=>(fs ρ S1).bind fun o S2=>rvD x o S2
end
end DL
set_option Elab.async false
set_option linter.all false
set_option maxRecDepth 100000
namespace DL
open PySem PySem.Spec PyProof.Rows L2
def flatD:D→Bool
 | .tup _=>false
 | .lst _=>false
 | .exn _ _=>false
 | .fv _=>false
 | _=>true
def toV:D→V
 | .bl b=>.bl b
 | .int i=>.int i
 | .str s=>.str s
 | _=>.non
def memD(x:D)(l:List D):Bool:=l.any fun y=>eqV (toV y) (toV x)
def itemsD(y:D)(S:Sto):Option (List D):=match y with
 | .tup l=>some l
 | .lst i=>(S[i]?).map (·.xs)
 | _=>none
def inND(neg:Bool)(x y:D)(S:Sto):Out D:=match itemsD y S with
 | some l=>if flatD x=true∧l.all flatD=true then .ok (.bl (if neg=true then !memD x l else memD x l)) S else .bad
 | none=>.bad
abbrev inD:=inND false
section
variable{K:PySem.W.Frag}{mp:List Addr}{H:Hp}
theorem rep_flat{d:D}{v:V}(h:Rep K mp H d v)(f:flatD d=true):v=toV d∧flatV v=true:=by
 cases d with
 | non=>cases (show v=.non from h); exact⟨rfl,rfl⟩
 | bl b=>cases (show v=.bl b from h); exact⟨rfl,rfl⟩
 | int i=>cases (show v=.int i from h); exact⟨rfl,rfl⟩
 | str s=>cases (show v=.str s from h); exact⟨rfl,rfl⟩
 | tup l=>cases f
 | lst i=>cases f
 | exn c n=>cases f
 | fv c=>cases f
theorem repL_flat:∀ {l:List D} {vs:List V},RepL K mp H l vs→l.all flatD=true→vs=l.map toV∧vs.all flatV=true
 | [],vs,h,_=>by cases (show vs=[] from h); exact⟨rfl,rfl⟩
 | d::l,vs,h,f=>by
  obtain⟨v,r,rfl,h1,h2⟩:=(show ∃ v r,vs=v::r∧Rep K mp H d v∧RepL K mp H l r from h)
  rw[List.all_cons,Bool.and_eq_true] at f
  obtain⟨a1,a2⟩:=rep_flat h1 f.1
  obtain⟨b1,b2⟩:=repL_flat h2 f.2
  exact⟨by rw[List.map_cons,←a1,←b1],by rw[List.all_cons,a2,b2]; rfl⟩
theorem od_in(neg:Bool):OpD K (rIn K neg) (inND neg):=by
 intro XQ σ ρ mp H S x y v u Q rs rx ry p
 unfold inND at p
 cases z:itemsD y S with
 | none=>rw[z] at p; exact p.elim
 | some l=>
  rw[z] at p
  by_cases h:flatD x=true∧l.all flatD=true
  ·simp only[if_pos h] at p
   obtain⟨a1,a2⟩:=rep_flat rx h.1
   have fin:∀ xs,RepL K mp H l xs→xs.all flatV=true∧Q (.bl (if neg=true then !inV v xs else inV v xs)) H:=fun xs q=>by
    obtain⟨b1,b2⟩:=repL_flat q h.2
    refine⟨b2,?_⟩
    have e:inV v xs=memD x l:=by
     rw[a1,b1]
     unfold inV memD
     rw[List.any_map]
     rfl
    rw[e]
    exact PostG.ok (R:=Rep K) p rs rfl
   cases y with
   | tup l'=>
    cases (Option.some.inj z)
    obtain⟨a,xs,rfl,s1,q1⟩:=Rep.tup ry
    obtain⟨b2,q⟩:=fin xs q1
    exact⟨a,xs,rfl,.inr s1,a2,b2,q⟩
   | lst i=>
    cases e:S[i]? with
    | none=>rw[show itemsD (.lst i) S=(S[i]?).map (·.xs) from rfl,e] at z; cases z
    | some c=>
     rw[show itemsD (.lst i) S=(S[i]?).map (·.xs) from rfl,e] at z
     cases (Option.some.inj z)
     obtain⟨a,xs,rfl,_,sq,q1,_⟩:=rs.items ry e
     obtain⟨b2,q⟩:=fin xs q1
     exact⟨a,xs,rfl,.inl sq,a2,b2,q⟩
   | _=>cases z
  ·simp only[if_neg h] at p; exact p.elim
end
section
variable{X:Cx}{XQ:XW}{a b:Expr}{fa fb:Ev D}{pos:Pos}
theorem jt_in(ha:JE X XQ a fa)(hb:JE X XQ b fb)(hm:behindInMarks .In b=false:=by rfl):JT X XQ (.Compare a [.In] [b] pos) (tb (o2 inD fa fb)):=jt_cmp op_in_seq (od_in false) ha hb hm
end
end DL
set_option Elab.async false
set_option linter.all false
set_option maxRecDepth 100000
namespace DL
open PySem PySem.Spec PyProof.Rows L2
section
variable{X:Cx}{XQ:XW}
inductive JFs(X:Cx)(XQ:XW):List Expr→List (Ev D)→Prop
 | nil:JFs X XQ [] []
 | cons {e:Expr} {f:Ev D} {es:List Expr} {fs:List (Ev D)}:JE X XQ e f→JFs X XQ es fs→JFs X XQ (e::es) (f::fs)
end
end DL
set_option Elab.async false
set_option linter.all false
set_option maxRecDepth 100000
namespace DL
open PySem PySem.Spec PyProof.Rows L2
structure Zb(z ti to' i j l a b c:Addr):Prop where
 tz:ti≠z
 oz:to'≠z
 iz:i≠z
 jz:j≠z
 lz:l≠z
 t_o:ti≠to'
 t_i:ti≠i
 t_j:ti≠j
 t_l:ti≠l
 oi:to'≠i
 oj:to'≠j
 ol:to'≠l
 ij:i≠j
 il:i≠l
 jl:j≠l
 az:a≠z
 ao:a≠to'
 ai:a≠i
 aj:a≠j
 al:a≠l
 bz:b≠z
 bo:b≠to'
 bi:b≠i
 bj:b≠j
 bl:b≠l
 cz:c≠z
 co:c≠to'
 ci:c≠i
 cj:c≠j
 cl:c≠l
end DL
set_option Elab.async false
set_option linter.all false
set_option maxRecDepth 100000
namespace DL
open PySem PySem.Spec PyProof.Rows L2
end DL
set_option Elab.async false
set_option linter.all false
set_option maxRecDepth 100000
namespace DL
open PySem PySem.Spec PyProof.Rows L2
section
open Builtin Builtin.Str
variable{prog:Program}{w:World}{A:Around}{E:Value→Shared→Prop}{s:Shared}
end
section
variable{X:Cx}{XQ:XW}
variable{a b:Expr}{fa fb:Ev D}{pos:Pos}
end
end DL
set_option Elab.async false
set_option linter.all false
set_option maxRecDepth 100000
namespace DL
open PySem PySem.Spec PyProof.Rows L2
end DL
set_option Elab.async false
set_option linter.all false
set_option maxRecDepth 100000
namespace DL
open PySem PySem.Spec PyProof.Rows L2
end DL
set_option Elab.async false
set_option linter.all false
set_option maxRecDepth 100000
namespace DL
open PySem PySem.Spec PyProof.Rows L2
structure XB(bm:List Value):Prop where
 v:bm.contains (.type "ValueError")=true
 a:bm.contains (.type "AttributeError")=false
 n:bm.contains (.type "NameError")=false
 b:bm.contains (.type "BaseException")=true
theorem XB.has{bm:List Value}(x:XB bm)(C:Addr):(Value.ref C::bm).contains (.type "ValueError")=true:=by rw[List.contains_cons,x.v,Bool.or_true]
theorem XB.noA{bm:List Value}(x:XB bm)(C:Addr):(Value.ref C::bm).contains (.type "AttributeError")=false:=by rw[List.contains_cons,x.a]; rfl
theorem XB.noN{bm:List Value}(x:XB bm)(C:Addr):(Value.ref C::bm).contains (.type "NameError")=false:=by rw[List.contains_cons,x.n]; rfl
abbrev FV:=PySem.F.excBase_ValueError
theorem vi_find(K:PySem.W.Frag):PySem.W.findCls K (.type "ValueError") (.type "type") "__init__"=some (.val (.builtin "ValueError.__init__")):=by
 first
  | rfl
  | kernel_rfl
section
variable{prog:Program}{w:World}{A:Around}{E:Value→Shared→Prop}{s:Shared}
theorem vi_getm{K:PySem.W.Frag}{Q:Value×List Value→Shared→Prop}{pl:Sem Bool}(X:K.In s.heap)(h:Q (.builtin "ValueError.__init__",[]) { s with toks:=s.toks+1 }):
  wpAny (model prog w) A (getMethod (.type "ValueError") (Str.ofString "__init__") pl) Q E s:=by
 have st:opaqueClassAbove (.type "ValueError")=pure none:=by unfold opaqueClassAbove; dsimp only; rw[show Manifest.isStub "ValueError"=false by decide +kernel]; rfl
 have ty:PySem.W.Looks (model prog w) s.heap (typeOf (.type "ValueError")) (.type "type"):=PySem.W.Looks.of_pure (by first | rfl | kernel_rfl)
 have ga:PySem.W.findIn K (.type "type") "__getattribute__"=some (some (.builtin "type.__getattribute__")):=PySem.W.type_tga
 unfold getMethod specialOf
 refine wpAny_bind (wpAny_bind (ty.here ((PySem.W.looks_findIn X ga).here ?_)))
 dsimp only
 rw[if_pos PySem.W.canon_tga]
 refine wpAny_bind (wpAny_mono (Q:=fun v=>Q (v,[])) (E:=E) ?_ (fun _ _ z=>wpAny_pure z) fun _ _ z=>z)
 refine PySem.W.cls_open X (PySem.W.Looks.of_pure st) ty ga (PySem.W.looks_hook X (r:=none) (by rfl)) (by show PySem.W.subIn K _ _=_; rfl) (vi_find K) ?_
 refine wpAny_pure ?_
 show wpAny _ _ (handedOut _) _ _ _
 rw[PySem.W.handedOut_of (by rfl)]
 exact wpAny_pure h
end
section
variable{prog:Program}{w:World}{A:Around}{E:Value→Shared→Prop}{h:Heap}{g:Array GenState}{d:Drawn}{t:Nat}{os:OsState}
variable{nm q:Str}{C N:Addr}{bs bm:List Value}{hdct:Bool}{sn:List Str}{sub:List Value}{ab:Bool}{col:Option Bool}{dd:Option Addr}{k0 k1 k2 k3 k5:Option Value}
theorem vi_call{e:Addr}{dx:Option Addr}{t0:Addr}{v:Value}{Q:Value→Shared→Prop}(x:XB bm)(hC:h.get? C=some (excClassObj nm q C N bs bm hdct sn sub ab col dd k0 k1 k2 k3 k5 "ValueError.__new__"))
  (he:h.get? e=some { cls:=.ref C,dict:=dx,data:=.fields #[.ref t0,.none,.none,.none,.bool false,.none] })
  (hq:∀ h',h'.get? e=some { cls:=.ref C,dict:=dx,data:=.fields #[.ref h.objs.size,.none,.none,.none,.bool false,.none] }→(∀ b o,b≠e→h.get? b=some o→h'.get? b=some o)→h'.get? h.objs.size=some { cls:=.type "tuple",data:=.seq #[v] }→Q .none ⟨h',g,d,t,os⟩):
  wpAny (model prog w) A (call (.builtin "ValueError.__init__") [.ref e,v]) Q E ⟨h,g,d,t,os⟩:=by
 have hB:=x.has C
 refine wpAny_call (codeAny_call_builtin FV.init.plain FV.initEntry ?_)
 have chk:∀ {M:Model} {A:Around} {E:Value→Shared→Prop} {Q:Unit→Shared→Prop},Q () ⟨h,g,d,t,os⟩→wpAny M A (checkBuiltinCall "ValueError.__init__" ⟨[.ref e,v],[]⟩) Q E ⟨h,g,d,t,os⟩:=fun hQ=>by
  have ns:=FV.noStar
  simp only[checkBuiltinCall,FV.initKind,FV.initSplit,FV.initRow]
  repeat (first | with_reducible refine wpAny_loadPart_at he ?_ | with_reducible refine wpAny_loadPart_at hC ?_ | (with_reducible refine wpAny_isSubtype_exc hC ?_; rw[hB]) | wp_step)
  exact hQ
 refine chk ?_
 wp_walk
 have le:e≠h.objs.size:=Nat.ne_of_lt (Heap.lt_size he)
 refine hq _ ?_ (fun b o hb ho=>?_) ?_
 ·rw[Heap.get?_update_self _ (Heap.get?_push_of_some _ he) rfl]
  rfl
 ·rw[Heap.get?_update_other _ _ (Ne.symm hb)]
  exact Heap.get?_push_of_some _ ho
 ·rw[Heap.get?_update_other _ _ le]
  exact Heap.get?_push_size _ rfl
theorem x_check_new{M:Model}{v:Value}{Q:Unit→Shared→Prop}(x:XB bm)(hC:h.get? C=some (excClassObj nm q C N bs bm hdct sn sub ab col dd k0 k1 k2 k3 k5 "ValueError.__new__"))(hq:Q () ⟨h,g,d,t,os⟩):
  wpAny M A (checkBuiltinCall "ValueError.__new__" ⟨[.ref C,v],[]⟩) Q E ⟨h,g,d,t,os⟩:=by
 have hB:=x.has C
 have ns:=FV.noStar
 simp only[checkBuiltinCall,FV.newKind,FV.newSplit,FV.newRow]
 repeat (first | refine wpAny_loadPart_at hC ?_ | (refine wpAny_isSubtype_exc hC ?_; rw[hB]) | refine wpAny_staticBase_exc hC ?_ | refine wpAny_madeBy_exc hC ?_ | simp only[bne_self_eq_false,Bool.false_eq_true,if_false] | wp_step)
 exact hq
theorem x_new{R:Result→Shared→Prop}{v:Value}(x:XB bm)(hC:h.get? C=some (excClassObj nm q C N bs bm hdct sn sub ab col dd k0 k1 k2 k3 k5 "ValueError.__new__"))
  (hq:R (.ok (.ret (.ref (h.objs.size+1)))) ⟨(h.push { cls:=.type "tuple",data:=.seq #[v] }).push { cls:=.ref C,data:=.fields #[.ref h.objs.size,.none,.none,.none,.bool false,.none] },g,d,t,os⟩):
  codeAny (model prog w) A (.builtin "ValueError.__new__" ⟨[.ref C,v],[]⟩) R ⟨h,g,d,t,os⟩:=by
 have he:=FV.ends
 have hB:=x.has C
 have hA:=x.noA C
 have hN:=x.noN C
 refine codeAny_builtinAt FV.entry ?_
 unfold Builtin.«BaseException.__new__»
 refine PySem.wpAt_bind ?_
 show PySem.wpAt _ _ _ (PySem.stack >>= _) _ _ _
 refine PySem.wpAt_bind (PySem.wpAt_stack fun p below=>PySem.wpAt_of_wpAny ?_)
 wp_walk
 refine PySem.wpAt_of_wpAny ?_
 rw[FV.owner]
 repeat (first | with_reducible refine wpAny_madeHere_exc FV.canon hC ?_ | with_reducible refine wpAny_loadPart_at hC ?_ | (with_reducible refine wpAny_isSubtype_exc hC ?_; first | rw[hB] | rw[hA] | rw[hN]) | wp_step)
 show R _ _
 rw[Heap.size_push]
 exact hq
theorem x_call{K:PySem.W.Frag}{fI:Addr}{oI:Obj}{v:Value}{Q:Value→Shared→Prop}(x:XB bm)(X:K.In h)(hC:h.get? C=some (excClassObj nm q C N bs bm hdct sn sub ab col dd k0 k1 k2 k3 k5 "ValueError.__new__"))
  (hi:PySem.W.findIn K (.ref C) "__init__"=some (some (.ref fI))) (hfI:h.get? fI=some oI) (hfc:oI.cls=.type "function")
  (hq:∀ h' e,h.objs.size≤e→Heap.MadeExcOf h h' e (.ref C) [v]→wpAny (model prog w) (A.under (.builtin "type.__call__" ⟨[.ref C,v],[]⟩)) (call (.ref fI) [.ref e,v]) (fun r s'=>r=.none∧Q (.ref e) s') E ⟨h',g,d,t,os⟩):
  wpAny (model prog w) A (call (.ref C) [v]) Q E ⟨h,g,d,t,os⟩:=by
 have hB:=x.has C
 have hA:=x.noA C
 have hN:=x.noN C
 have f1:=tc_lookup
 have f2:=tc_bind (.ref C)
 have hT:(⟨h,g,d,t,os⟩:Shared).TypeIs (.ref C) "type":=⟨_,hC,rfl⟩
 refine wpAny_call (codeAny_of_tree ?_)
 show wpAny _ _ (callAny (.ref C) _) _ _ _
 repeat (any_goals (first | assumption | with_reducible refine wpAny_loadPart_at hC ?_ | wp_step))
 refine⟨rfl,?_⟩
 refine codeAny_call_builtin_at (Code.quiet_builtin _ (by decide +kernel)) entry_typeCall (wpAny_check_type_call_sub hC ?_)
 repeat (first | with_reducible refine wpAny_loadPart_at hC ?_ | with_reducible refine wpAny_madeBy_exc hC ?_ | wp_step)
 refine codeAny_call_builtin_code (Code.quiet_builtin _ FV.quiet) (x_check_new x hC (x_new x hC ?_))
 show wpAny _ _ _ _ _ _
 have kp:∀ b o,h.get? b=some o→((h.push { cls:=.type "tuple",data:=.seq #[v] }).push { cls:=.ref C,data:=.fields #[.ref h.objs.size,.none,.none,.none,.bool false,.none] }).get? b=some o:=fun b o e=>Heap.get?_push_of_some _ (Heap.get?_push_of_some _ e)
 have he:((h.push { cls:=.type "tuple",data:=.seq #[v] }).push { cls:=.ref C,data:=.fields #[.ref h.objs.size,.none,.none,.none,.bool false,.none] }).get? (h.objs.size+1)=some { cls:=.ref C,data:=.fields #[.ref h.objs.size,.none,.none,.none,.bool false,.none] }:=by heap_get
 have ht:((h.push { cls:=.type "tuple",data:=.seq #[v] }).push { cls:=.ref C,data:=.fields #[.ref h.objs.size,.none,.none,.none,.bool false,.none] }).get? h.objs.size=some { cls:=.type "tuple",data:=.seq #[v] }:=Heap.get?_push_of_some _ (Heap.get?_push_size _ rfl)
 have hC1:=kp _ _ hC
 have hf1:=kp _ _ hfI
 have X1:=X.keeps kp
 have hcC:(Value.ref C::bm).contains (.ref C)=true:=by simp
 have done:=hq _ (h.objs.size+1) (Nat.le_succ _) ⟨kp,Heap.get?_none_of_le (Nat.le_succ _),h.objs.size,he,Heap.get?_none_of_le (Nat.le_refl _),ht⟩
 generalize (h.push { cls:=.type "tuple",data:=.seq #[v] }).push { cls:=.ref C,data:=.fields #[.ref h.objs.size,.none,.none,.none,.bool false,.none] }=h1 at *
 unfold isInstance
 repeat (first | with_reducible refine wpAny_loadPart_at he ?_ | (with_reducible refine wpAny_isSubtype_exc hC1 ?_; rw[hcC]) | wp_step)
 show wpAny _ _ (typeLookup (.ref C) _) _ _ _
 refine(PySem.W.looks_findIn X1 hi).here ?_
 refine wpAny_holding (wpAny_bind ?_)
 unfold bindSpecial
 refine wpAny_bind (wpAny_typeOf (T:="function") ⟨_,hf1,hfc⟩ ?_)
 rw[if_pos (by decide)]
 refine wpAny_pure (wpAny_bind (wpAny_mono done (fun r s' hr=>?_) fun _ _ x=>x))
 obtain⟨rfl,hQ⟩:=hr
 wp_walk
 exact hQ
end
end DL
set_option Elab.async false
set_option linter.all false
set_option maxRecDepth 100000
namespace DL
open PySem PySem.Spec PyProof.Rows L2
section
variable{M:Model}{A:Around}{E:Value→Shared→Prop}{env:PySem.Env}
variable{nm q:Str}{C N:Addr}{bs bm:List Value}{hdct:Bool}{sn:List Str}{sub:List Value}{ab:Bool}{col:Option Bool}{dd:Option Addr}{k0 k1 k2 k3 k5:Option Value}{newId:String}
def FreshX(h:Heap)(e C:Addr)(dx:Option Addr):Prop:=∃ t:Addr,h.get? e=some { cls:=.ref C,dict:=dx,data:=.fields #[.ref t,.none,.none,.none,.bool false,.none] }
theorem x_raiseStmt{s:Shared}{x:Sem Value}{Q:Flow→Shared→Prop}(hb:XB bm)(hh:A.handled=none)
  (h:wpAny M A x (fun v s₁=>∃ e dx,v=.ref e∧s₁.heap.get? C=some (excClassObj nm q C N bs bm hdct sn sub ab col dd k0 k1 k2 k3 k5 newId)∧FreshX s₁.heap e C dx∧E (.ref e) s₁) E s):
  wpAny M A (raiseStmt env (some x) none) Q E s:=by
 have hB:(Value.ref C::bm).contains (.type "BaseException")=true:=by rw[List.contains_cons,hb.b,Bool.or_true]
 unfold raiseStmt
 refine wpAny_bind (wpAny_mono h (fun v s₁ h₁=>?_) fun _ _ x=>x)
 obtain⟨e,dx,rfl,hC,⟨t,he⟩,hE⟩:=h₁
 obtain⟨hp,g,d,tk,os⟩:=s₁
 repeat (first | with_reducible refine wpAny_loadPart_at he ?_ | with_reducible refine wpAny_loadPart_at hC ?_ | (with_reducible refine wpAny_isSubtype_exc hC ?_; rw[hB]) | wp_step)
 exact wpAny_raiseNew_none hh hE
theorem x_Raise{s:Shared}{x:Str}{np cpos pos:Pos}{e1:Expr}{es:List Expr}{Q:Flow→Shared→Prop}(hb:XB bm)(hh:A.handled=none)
  (h:wpAny M A (eval (.Name x np) env) (fun f s₁=>f=.ref C∧wpAny M A (spliced (backTo cpos (starEach (e1::es) env))) (fun vs s₂=>
   s₂.heap.get? C=some (excClassObj nm q C N bs bm hdct sn sub ab col dd k0 k1 k2 k3 k5 newId)∧wpAny M A (call (.ref C) vs) (fun v s₃=>∃ e dx,v=.ref e∧
    s₃.heap.get? C=some (excClassObj nm q C N bs bm hdct sn sub ab col dd k0 k1 k2 k3 k5 newId)∧FreshX s₃.heap e C dx∧E (.ref e) s₃) E s₂) E s₁) E s)
  (he:starEach (e1::es) env=(false,eval e1 env)::starEach es env:=by rfl) (hpl:(backTo cpos (starEach es env)).any (·.1)=false:=by rfl):
  wpAny M A (exec (.Raise (some (.Call (.Name x np) (e1::es) [] cpos)) none pos) env) Q E s:=by
 have plain:(backTo cpos (starEach (e1::es) env)).any (·.1)=false:=by
  rw[he]
  show(false||(backTo cpos (starEach es env)).any (·.1))=false
  rw[hpl]; rfl
 rw[arm_exec_Raise]
 have key:wpAny M A (eval (.Call (.Name x np) (e1::es) [] cpos) env) (fun v s₁=>∃ e dx,v=.ref e∧s₁.heap.get? C=some (excClassObj nm q C N bs bm hdct sn sub ab col dd k0 k1 k2 k3 k5 newId)∧FreshX s₁.heap e C dx∧E (.ref e) s₁) E s:=by
  refine wpAny_Call_ofName (wpAny_mono h (fun f s₁ h₁=>?_) fun _ _ x=>x)
  obtain⟨rfl,h₁⟩:=h₁
  unfold callWith
  have ev:wpAny M A (evalArgs (.ref C) true (backTo cpos (starEach (e1::es) env)) []) (fun a s₂=>a.kw=[]∧s₂.heap.get? C=some (excClassObj nm q C N bs bm hdct sn sub ab col dd k0 k1 k2 k3 k5 newId)∧wpAny M A (call (.ref C) a.pos) (fun v s₃=>∃ e dx,v=.ref e∧
    s₃.heap.get? C=some (excClassObj nm q C N bs bm hdct sn sub ab col dd k0 k1 k2 k3 k5 newId)∧FreshX s₃.heap e C dx∧E (.ref e) s₃) E s₂) E s₁:=by
   rw[he] at h₁ ⊢
   exact PySem.Calls.evalArgs_plain (wpAny_mono h₁ (fun vs s₂ z=>⟨rfl,z⟩) fun _ _ x=>x)
  refine wpAny_bind (wpAny_holding (wpAny_mono ev (fun a s₂ h₂=>wpAny_bind (wpAny_standAt ?_)) fun _ _ x=>x))
  obtain⟨ap,ak⟩:=a
  obtain⟨hk,hC,h₂⟩:=h₂
  obtain rfl:ak=[]:=hk
  obtain⟨hp,g,d,tk,os⟩:=s₂
  simp only[plain]
  refine wpAny_bind (wpAny_keeperOf_exc hC ?_)
  exact wpAny_bind (wpAny_mono h₂ (fun r s₃ hr=>wpAny_bind (wpAny_holding (wpAny_point (wpAny_pure hr)))) fun _ _ x=>x)
 first
  | exact wpAny_bind (wpAny_standAt (x_raiseStmt hb hh (wpAny_bind (wpAny_mono key (fun v s₃ h₃=>wpAny_bind (wpAny_standAt (wpAny_pure h₃))) fun _ _ x=>x))))
  | (simp only[evalOpt,Option.map]; exact wpAny_bind (wpAny_standAt (x_raiseStmt hb hh (wpAny_bind (wpAny_mono key (fun v s₃ h₃=>wpAny_bind (wpAny_standAt (wpAny_pure h₃))) fun _ _ x=>x)))))
end
end DL
set_option Elab.async false
set_option linter.all false
set_option maxRecDepth 100000
namespace DL
open PySem PySem.Spec PyProof.Rows L2
def FX(e C:Addr)(dx:Option Addr):HO:=.ext fun h=>FreshX h e C dx
theorem fx_ok{P:Program}{w:World}{H:Hp}{h:Heap}{e C:Addr}{dx:Option Addr}(f:FreshX h e C dx):ObjOk P w H h e (FX e C dx):=
 ⟨f,(let ⟨_,q⟩:=f; ⟨_,q⟩),fun _ _ ⟨t,q⟩ k=>⟨t,k _ q⟩⟩
theorem upd_self{H:Hp}{a:Addr}{o:HO}(h:H a=some o):upd H a o=H:=by
 funext b
 by_cases c:b=a
 ·subst c; rw[upd_same,h]
 ·rw[upd_ne c]
structure KX(K:PySem.W.Frag)(C:Addr):Prop where
 ex:∃ nm q N bs bm hdct sn sub ab col dd k0 k1 k2 k3 k5,K.lookup C=some (excClassObj nm q C N bs bm hdct sn sub ab col dd k0 k1 k2 k3 k5 "ValueError.__new__")∧XB bm
section
variable{X:Cx}
def tVI(K:PySem.W.Frag)(t:TA):TE:=fun σ H Q=>t σ H fun vs H1=>∃ e v C dx,vs=[.ref e,v]∧H1 e=some (FX e C dx)∧KX K C∧Q .non H1
theorem pe_vinit{a b:Expr}{t:TA}{p apos pos:Pos}{pl:Sem Bool}(hg:Gl X "ValueError")(hm:X.mg "ValueError"=none)(ha:PA X [a,b] t)
  (ht:eval (.Call (.Attribute (.Name "ValueError" p) "__init__" apos) [a,b] [] pos) X.env=(do
   let ov ←eval (.Name "ValueError" p) X.env
   standAt apos.atName
   let (f,first) ←holding [ov] (getMethod ov "__init__" pl)
   callWith pos f first (backTo pos (starEach [a,b] X.env)) (backToKw pos (keywordEach [] X.env))))
  (hs:starEach [a,b] X.env=(false,eval a X.env)::starEach [b] X.env:=by rfl) (hpl:(backTo pos (starEach [b] X.env)).any (·.1)=false:=by rfl):
  PE X (.Call (.Attribute (.Name "ValueError" p) "__init__" apos) [a,b] [] pos) (tVI X.K t):=by
 intro pins s σ H Q I h
 refine PySem.W.methodCall_KW (pl:=pl) (ld_blt I hg hm (by rfl) ?_ (by decide) (by decide)) ht
 refine vi_getm I.kIn ?_
 have hA:=ha pos pins { s with toks:=s.toks+1 } σ H _ (I.tok _) h
 show wpAny _ _ (callWith pos (.builtin "ValueError.__init__") [] (backTo pos (starEach [a,b] X.env)) _) _ _ _
 rw[hs] at hA ⊢
 refine Calls.callWith_builtin (by show(false||(backTo pos (starEach [b] X.env)).any (·.1))=false; rw[hpl]<;>rfl) (Calls.evalArgs_plain ?_)
 refine thn hA fun us s2 ⟨vs,H2,I2,r2,e,v,C,dx,ev,hH,kx,q⟩=>?_
 subst ev
 cases r2 with
 | cons ra rb=>
  cases rb with
  | cons rv rn=>
   cases rn
   cases ra
   obtain⟨nm,qn,N,bs,bm,hdct,sn,sub,ab,col,dd,k0,k1,k2,k3,k5,lk,xb⟩:=kx.ex
   have hC:=I2.kIn _ _ lk
   obtain⟨⟨t0,he⟩,_,_⟩:=(show ObjOk X.prog X.w H2 s2.heap e (FX e C dx) from I2.hok e _ hH)
   obtain⟨hp,g,d,tk,os⟩:=s2
   refine vi_call xb hC he fun h' e1 k1' _=>?_
   have I3:=I2.write (h':=h') (x:=e) (e:=e) (o:=FX e C dx) (t':=tk) (by rw[hH]; exact trivial) (.inl rfl) (fun b u hb hu=>k1' b u hb hu) ⟨_,e1⟩ (fx_ok ⟨_,e1⟩)
   rw[upd_self hH] at I3
   exact⟨.non,H2,I3,rfl,q⟩
end
end DL
set_option Elab.async false
set_option linter.all false
set_option maxRecDepth 100000
namespace DL
open PySem PySem.Spec PyProof.Rows L2
def spI(K:PySem.W.Frag):Sp:=fun vs H Q _=>∃ e v C dx,vs=[.ref e,v]∧H e=some (FX e C dx)∧KX K C∧Q .non H
section
variable{X:Cx}{pins:List (Addr×Obj)}{σ:L2.St}{H:Hp}{s:Shared}{C f:Addr}{fd:FuncData}{ps:List Str}{k:Nat}
theorem run_x{oI:Obj}{v:V}{u:Value}(kx:KX X.K C)(hi:PySem.W.findIn X.K (.ref C) "__init__"=some (some (.ref f)))(lf:X.K.lookup f=some oI)(hfc:oI.cls=.type "function")
  (F:FnOk X.prog X.w X.K X.mg X.base CX0 k f fd ps (spI X.K)) (hl:ps.length=2) (hr:Room (k+1) X.A) (hb:Binds X.K fd ps []) (I:Inv X pins σ H s) (rv:RelV v u):
  wpAny (model X.prog X.w) X.A (call (.ref C) [u]) (fun r s'=>∃ e,r=.ref e∧(H e=none∧X.s₀.heap.get? e=none)∧Inv X pins σ (upd H e (FX e C none)) s') X.xe s:=by
 obtain⟨nm,qn,N,bs,bm,hdct,sn,sub,ab,col,dd,k0,k1,k2,k3,k5,lk,xb⟩:=kx.ex
 obtain⟨hp,g,d,tk,os⟩:=s
 refine x_call xb I.kIn (I.kIn _ _ lk) hi (I.kIn _ _ lf) hfc fun h' e le hm=>?_
 have hn:H e=none:=I.hok.fresh le
 have h0:X.s₀.heap.get? e=none:=Heap.get?_none_of_le (Nat.le_trans I.sz le)
 obtain⟨t,ht,_,_⟩:=hm.there
 have I1:Inv X pins σ (upd H e (FX e C none)) ⟨h',g,d,tk,os⟩:=I.laid (t':=tk) hm.keeps le (fx_ok ⟨t,ht⟩)
 refine wpAny_call (codeAny_mono (F.run (X.A.under (.builtin "type.__call__" ⟨[.ref C,u],[]⟩)) X.stack ⟨h',g,d,tk,os⟩ (upd H e (FX e C none)) ⟨[.ref e,u],[]⟩ [.ref e,u] [.ref e,v] (fun v' H'=>v'=.non∧H'=upd H e (FX e C none)) E0
  (hr.make C [u] []) (I1.env0.make C [u] []) (by have:=hb ⟨h',g,d,tk,os⟩ [.ref e,u] I1.kIn (by simpa using hl.symm); simpa using this) (.cons rfl (.cons rv .nil)) ⟨e,v,C,none,rfl,upd_same,kx,rfl,rfl⟩) fun r s' hq=>?_)
 cases r with
 | error x=>exact hq.elim
 | ok fl=>
  cases fl with
  | ret u'=>
   obtain⟨v',H',I',r',e1,e2⟩:=I1.after hq
   subst e1 e2
   exact⟨r',e,rfl,⟨hn,h0⟩,I'⟩
  | next=>exact hq.elim
  | brk=>exact hq.elim
  | cont=>exact hq.elim
def tRz(C:Addr)(W:L2.St→Hp→Addr→Prop)(t:TA):TS:=fun _ σ H=>t σ H fun vs H1=>∃ v,vs=[v]∧∀ e,H1 e=none→W σ (upd H1 e (FX e C none)) e
theorem ps_raise{W:L2.St→Hp→Addr→Prop}{oI:Obj}{x:Str}{np cpos pos:Pos}{a:Expr}{t:TA}(hW:∀ (pins:List (Addr×Obj)) (σ:L2.St) (H:Hp) (e:Addr) (s':Shared),Inv X pins σ H s'→H e=some (FX e C none)→X.s₀.heap.get? e=none→W σ H e→X.xe (.ref e) s')(hcm:X.calm=true)
  (hg:Gl X x) (hm:X.mg x=some (.ref C)) (kx:KX X.K C) (hi:PySem.W.findIn X.K (.ref C) "__init__"=some (some (.ref f))) (lf:X.K.lookup f=some oI) (hfc:oI.cls=.type "function")
  (F:FnOk X.prog X.w X.K X.mg X.base CX0 k f fd ps (spI X.K)) (hl:ps.length=2) (hr:Room (k+1) X.A) (hb:Binds X.K fd ps []) (ha:PA X [a] t) (hdb:(x==("__debug__":Str))=false:=by decide)
  (he:starEach [a] X.env=(false,eval a X.env)::starEach [] X.env:=by rfl) (hpl:(backTo cpos (starEach [] X.env)).any (·.1)=false:=by rfl):
  PS X (.Raise (some (.Call (.Name x np) [a] [] cpos)) none pos) (tRz C W t):=by
 intro pins s σ H D I h
 obtain⟨nm,qn,N,bs,bm,hdct,sn,sub,ab,col,dd,k0,k1,k2,k3,k5,lk,xb⟩:=id kx.ex
 refine x_Raise (C:=C) (nm:=nm) (q:=qn) (N:=N) (bs:=bs) (bm:=bm) (hdct:=hdct) (sn:=sn) (sub:=sub) (ab:=ab) (col:=col) (dd:=dd) (k0:=k0) (k1:=k1) (k2:=k2) (k3:=k3) (k5:=k5) (newId:="ValueError.__new__") xb (I.ok.hd hcm) (ld_glob I hg hm ⟨rfl,?_⟩ hdb) he hpl
 refine thn (ha cpos pins s σ H _ I h) fun us s1 ⟨vs,H1,I1,r1,v,ev,q⟩=>⟨I1.kIn _ _ lk,?_⟩
 subst ev
 obtain⟨u,rfl,rv⟩:=vals1 r1
 refine thn (run_x kx hi lf hfc F hl hr hb I1 rv) fun r s2 ⟨e,er,⟨hn,h0⟩,I2⟩=>?_
 subst er
 have hH:upd H1 e (FX e C none) e=some (FX e C none):=upd_same
 obtain⟨fr,_,_⟩:=(show ObjOk X.prog X.w _ s2.heap e (FX e C none) from I2.hok e _ hH)
 exact⟨e,none,rfl,I2.kIn _ _ lk,fr,hW pins σ _ e s2 I2 hH h0 (q e hn)⟩
end
end DL
set_option Elab.async false
set_option linter.all false
set_option maxRecDepth 100000
namespace DL
open PySem PySem.Spec PyProof.Rows L2
def FlyF(fl:Value)(h:Heap)(a T C:Addr)(dx:Option Addr):Prop:=∃ oe vs oT ts a0,h.get? a=some oe∧(oe.cls=.ref C∧oe.dict=dx∧vs[0]?=some a0)∧oe.data=.fields vs∧vs[1]?=some (.ref T)∧T≠a∧h.get? T=some oT∧oT.data=.fields ts∧ts[3]?=some fl
abbrev Fly:=FlyF .none
section
variable{M:Model}{A:Around}{E:Value→Shared→Prop}{s:Shared}{Q:Unit→Shared→Prop}{env:PySem.Env}{outer:List PySem.Env}{L:Addr}{base:Heap}
theorem rec_nofr{l:List PySem.Env}{h:Heap}{a:Addr}{o:Obj}{vs:Array Value}(hl:h.FunFrames base l)(e:h.get? a=some o)(d:o.data=.fields vs):a∉frs l:=fun hm=>by
 obtain⟨_,o',e',nf⟩:=hl.mem hm
 rw[e] at e'
 cases e'
 exact nf vs d
structure Left(fs:List Addr)(no:List Addr)(h h':Heap):Prop where
 keep:∀ b o,b∉fs→b∉no→h.get? b=some o→h'.get? b=some o
 slot:∀ b o,b∈fs→h.get? b=some o→∃ sl,h'.get? b=some { o with slots:=sl }
theorem mf_dict(f:Array Value→Array Value)(o:Obj):(Obj.mapFields f o).dict=o.dict:=by
 obtain⟨c,d,dt,sl⟩:=o
 cases dt<;>rfl
theorem entD{e C:Addr}{dx:Option Addr}{oe:Obj}{vs:Array Value}{head a0:Value}{hn:Bool}(hfr:A.frames=some (env::outer))(hl:s.heap.FunFrames base (env::outer))(hf:env.frame=some L)
  (he:s.heap.get? e=some oe) (hc:oe.cls=.ref C∧oe.dict=dx) (hd:oe.data=.fields vs) (hz:1<vs.size) (h0:vs[0]?=some a0)
  (hq:∀ h' T,FlyF (rawInt L) h' e T C dx→s.heap.get? T=none→Left (frs (env::outer)) [e] s.heap h'→Q () { s with heap:=h' }):
  wpAny M A (frameOf env >>= fun a=>entryPlaceOf L hn >>= fun pl=>EntryCells.newEntry head a .none (rawInt L) .none pl >>= fun b=>setField (.ref e) 1 b) Q E s:=by
 have nf:=rec_nofr hl he hd
 refine wpAny_bind (wpAny_frameOf_fun hfr hl hf fun h1 so=>wpAny_bind (wpAny_entryPlaceOf fun pl ip=>?_))
 obtain⟨sz,so1,so2⟩:=so
 have g1:h1.get? e=some oe:=(so1 e nf).trans he
 unfold EntryCells.newEntry newFields
 refine wpAny_bind (wpAny_newObj_type ?_ (ip.sizeOk5 _ _ _ _ _))
 generalize hT:({ cls:=.type "traceback",dict:=none,data:=.fields ([head,.ref L,.none,rawInt L,.none]++(if pl.isEmpty then List.replicate 6 Value.none else pl)).toArray }:Obj)=oT
 have g2:=Heap.get?_push_of_some (h:=h1) oT g1
 have nT:h1.objs.size≠e:=Nat.ne_of_gt (Heap.lt_size g1)
 refine wpAny_setField g2 hd hz ?_
 have d3:=Obj.data_mapFields hd (·.setIfInBounds 1 (Value.ref h1.objs.size))
 have g3:=Heap.get?_update_self (Obj.mapFields (·.setIfInBounds 1 (Value.ref h1.objs.size))) g2 (Obj.isFreed_of_fields d3)
 have t3:((h1.push oT).update e (Obj.mapFields (·.setIfInBounds 1 (Value.ref h1.objs.size)))).get? h1.objs.size=some oT:=(Heap.get?_update_other _ _ (Ne.symm nT)).trans (Heap.get?_push_size h1 (by rw[←hT]; rfl))
 have kp:∀ b o,b≠e→h1.get? b=some o→((h1.push oT).update e (Obj.mapFields (·.setIfInBounds 1 (Value.ref h1.objs.size)))).get? b=some o:=fun b o hb q=>by
  rw[Heap.get?_update_other _ _ (Ne.symm hb)]
  exact Heap.get?_push_of_some _ q
 refine hq _ h1.objs.size ⟨_,_,oT,_,a0,g3,⟨(Obj.cls_mapFields _ _).trans hc.1,?_,?_⟩,d3,by simp[hz],nT,t3,by rw[←hT],?_⟩ ?_ ⟨fun b o hb hn q=>kp b o (by simpa using hn) ((so1 b hb).trans q),fun b o hb q=>?_⟩
 ·rw[←hc.2]
  exact mf_dict _ _
 ·rw[Array.getElem?_setIfInBounds_ne (by decide)]; exact h0
 ·first | (simp; done) | (rcases ip with rfl | ⟨_,_,_,_,_,_,_,rfl⟩<;>simp)
 ·exact Heap.get?_none_of_le (by rw[sz]; exact Nat.le_refl _)
 ·obtain⟨sl,q'⟩:=so2 b o q
  exact⟨sl,kp b _ (fun z=>nf (by rw[←z]; exact hb)) q'⟩
theorem fltD{e T C:Addr}{dx:Option Addr}{fl:Value}(f:FlyF fl s.heap e T C dx)(hq:∀ h',Fly h' e T C dx→(∀ b o,b≠T→s.heap.get? b=some o→h'.get? b=some o)→Q () { s with heap:=h' }):wpAny M A (setFlight (.ref e) none) Q E s:=by
 obtain⟨oe,vs,oT,ts,a0,e1,e2,e3,e4,e5,e6,e7,e8⟩:=f
 have h3:3<ts.size:=(Array.getElem?_eq_some_iff.mp e8).1
 refine wpAny_setFlight_none e1 e3 e4 e6 e7 h3 (hq _ ⟨oe,vs,_,_,a0,by rw[Heap.get?_update_other _ _ e5]; exact e1,e2,e3,e4,e5,Heap.get?_update_self _ e6 (Obj.isFreed_of_fields (Obj.data_mapFields e7 _)),Obj.data_mapFields e7 _,by simp[h3]⟩ fun b o hb q=>by rw[Heap.get?_update_other _ _ (Ne.symm hb)]; exact q)
theorem land1{e C:Addr}{dx:Option Addr}(hfr:A.frames=some (env::outer))(hl:s.heap.FunFrames base (env::outer))(hf:env.frame=some L)(fx:FreshX s.heap e C dx)
  (hq:∀ h' T,Fly h' e T C dx→s.heap.get? T=none→Left (frs (env::outer)) [e] s.heap h'→Q () { s with heap:=h' }):wpAny M A (noteFrame (.ref e) env) (fun _ s₂=>wpAny M A (setFlight (.ref e) none) Q E s₂) E s:=by
 obtain⟨t,he⟩:=fx
 unfold noteFrame
 simp only[hf]
 refine wpAny_bind (wpAny_field he rfl rfl ?_)
 show wpAny M A (if(Value.none != Value.none)=true then _ else _) _ _ _
 rw[if_neg (show¬ ((Value.none != Value.none)=true) from by decide)]
 refine entD hfr hl hf he ⟨rfl,rfl⟩ rfl (by simp) rfl fun h1 T f1 hT lf=>fltD (s:={ s with heap:=h1 }) f1 fun h' f2 kp=>hq h' T f2 hT ⟨fun b o hb hn q=>kp b o (fun z=>by rw[z,hT] at q; cases q) (lf.keep b o hb hn q),fun b o hb q=>?_⟩
 obtain⟨sl,q'⟩:=lf.slot b o hb q
 exact⟨sl,kp b _ (fun z=>by rw[z,hT] at q; cases q) q'⟩
theorem land2{a T C:Addr}{dx:Option Addr}(hfr:A.frames=some (env::outer))(hl:s.heap.FunFrames base (env::outer))(hf:env.frame=some L)(fl:Fly s.heap a T C dx)
  (hq:∀ h' T',Fly h' a T' C dx→(s.heap.get? T'=none∨T'=T)→Left (frs (env::outer)) [a,T] s.heap h'→Q () { s with heap:=h' }):wpAny M A (noteFrame (.ref a) env) (fun _ s₂=>wpAny M A (setFlight (.ref a) none) Q E s₂) E s:=by
 obtain⟨oe,vs,oT,ts,a0,e1,⟨c1,c2,c3⟩,e3,e4,e5,e6,e7,e8⟩:=fl
 have h3:3<ts.size:=(Array.getElem?_eq_some_iff.mp e8).1
 have nfT:=rec_nofr hl e6 e7
 unfold noteFrame
 simp only[hf]
 refine wpAny_bind (wpAny_field e1 e3 e4 ?_)
 rw[if_pos (show(Value.ref T != Value.none)=true from by simp)]
 refine wpAny_bind (wpAny_field e6 e7 e8 ?_)
 rw[if_neg (show¬ ((Value.none==rawInt L)=true) from by simp[rawInt])]
 refine wpAny_bind (wpAny_setField e6 e7 h3 ?_)
 have ot:∀ b,b≠T→(s.heap.update T (Obj.mapFields (·.setIfInBounds 3 Value.none))).get? b=s.heap.get? b:=fun b hb=>Heap.get?_update_other _ _ (Ne.symm hb)
 have tt:=Heap.get?_update_self (Obj.mapFields (·.setIfInBounds 3 Value.none)) e6 (Obj.isFreed_of_fields (Obj.data_mapFields e7 _))
 have hl2:(s.heap.update T (Obj.mapFields (·.setIfInBounds 3 Value.none))).FunFrames base (env::outer):=hl.of_keeps fun b o q nf=>⟨o,(ot b fun z=>by rw[z,e6] at q; cases q; exact nf ts e7).trans q,rfl⟩
 refine entD (s:={ s with heap:=s.heap.update T (Obj.mapFields (·.setIfInBounds 3 Value.none)) }) hfr hl2 hf ((ot a (Ne.symm e5)).trans e1) ⟨c1,c2⟩ e3 (Array.getElem?_eq_some_iff.mp e4).1 c3 fun h1 T1 f1 hT lf=>fltD (s:={ s with heap:=h1 }) f1 fun h' f2 kp=>hq h' T1 f2 (.inl ?_) ⟨fun b o hb hn q=>?_,fun b o hb q=>?_⟩
 ·cases z:s.heap.get? T1 with
  | none=>rfl
  | some o=>
   by_cases c:T1=T
   ·rw[c] at hT
    rw[show(s.heap.update T (Obj.mapFields (·.setIfInBounds 3 Value.none))).get? T=_ from tt] at hT
    cases hT
   ·rw[show(s.heap.update T (Obj.mapFields (·.setIfInBounds 3 Value.none))).get? T1=_ from ot T1 c,z] at hT
    cases hT
 ·simp only[List.mem_cons,List.not_mem_nil,or_false,not_or] at hn
  have q1:(s.heap.update T (Obj.mapFields (·.setIfInBounds 3 Value.none))).get? b=some o:=(ot b hn.2).trans q
  exact kp b o (fun z=>by rw[z] at q1; rw[show _=none from hT] at q1; cases q1) (lf.keep b o hb (by simpa using hn.1) q1)
 ·have nb:b≠T:=fun z=>nfT (by rw[←z]; exact hb)
  have q1:(s.heap.update T (Obj.mapFields (·.setIfInBounds 3 Value.none))).get? b=some o:=(ot b nb).trans q
  obtain⟨sl,q'⟩:=lf.slot b o hb q1
  exact⟨sl,kp b _ (fun z=>by rw[z] at q1; rw[show _=none from hT] at q1; cases q1) q'⟩
end
end DL
set_option Elab.async false
set_option linter.all false
set_option maxRecDepth 100000
namespace DL
open PySem PySem.Spec PyProof.Rows L2
def del(H:Hp)(a:Addr):Hp:=fun b=>if b=a then none else H b
theorem del_same{H:Hp}{a:Addr}:del H a a=none:=if_pos rfl
theorem del_ne{H:Hp}{a b:Addr}(h:b≠a):del H a b=H b:=if_neg h
theorem objok_get{P:Program}{w:World}{H:Hp}{h:Heap}{a:Addr}{o:HO}(x:ObjOk P w H h a o):∃ u,h.get? a=some u:=by
 cases o with
 | lst xs=>obtain⟨_,_,_,_,e⟩:=x; exact⟨_,e⟩
 | tup xs=>obtain⟨_,_,_,ob,e,_⟩:=x; exact⟨_,e⟩
 | dK kvs=>obtain⟨_,_,_,_,o,_,_,e,_⟩:=x; exact⟨_,e⟩
 | dT kvs=>obtain⟨_,_,_,_,o,_,_,e,_⟩:=x; exact⟨_,e⟩
 | set S n=>obtain⟨o,_,_,_,e,_⟩:=x; exact⟨_,e⟩
 | ins C dx fs=>obtain⟨_,_,_,e,_⟩:=x; exact⟨_,e⟩
 | own y=>obtain⟨_,e⟩:=x; exact⟨_,e⟩
 | xd fs=>obtain⟨_,⟨_,_,_,e,_⟩,_⟩:=x; exact⟨_,e⟩
 | rng lo hi=>obtain⟨_,_,_,e⟩:=x; exact⟨_,e⟩
 | frz ob u=>obtain⟨e,_⟩:=x; exact⟨_,e⟩
 | tbl ps=>exact⟨_,(show h.get? a=some _ from x)⟩
 | met f y=>exact⟨_,(show h.get? a=some _ from x)⟩
 | ext φ=>obtain⟨_,⟨_,e⟩,_⟩:=x; exact⟨_,e⟩
theorem hok_none{P:Program}{w:World}{H:Hp}{h:Heap}{a:Addr}(k:HOk P w H h)(e:h.get? a=none):H a=none:=by
 cases z:H a with
 | none=>rfl
 | some o=>
  obtain⟨u,q⟩:=objok_get (k a o z)
  rw[e] at q
  cases q
def CXe(P:Program)(w:World):CXT:=fun outer H s E e s'=>∃ a T C dx H',e=.ref a∧s'.os=s.os∧AllBare s'.gens∧Un (frs outer) [] H H' s.heap s'.heap∧HOk P w H' s'.heap∧Fly s'.heap a T C dx∧(H' a=none∧H' T=none)∧(s.heap.get? a=none∧s.heap.get? T=none)∧E (.ref C) dx H'
theorem hok_left{P:Program}{w:World}{H:Hp}{h h':Heap}{fs no:List Addr}(k:HOk P w H h)(l:Left fs no h h')(hf:∀ b∈fs,H b=none)(hn:∀ b∈no,H b=none):HOk P w H h':=fun b o e=>by
 refine(k b o e).stay (fun c u hc q=>l.keep c u (fun z=>?_) (fun z=>?_) q) (fun _ q=>q) fun _ _ q=>q
 ·have:=hf c z
  rcases hc with rfl | hc
  ·rw[e] at this; cases this
  ·rw[hc] at this; cases this
 ·have:=hn c z
  rcases hc with rfl | hc
  ·rw[e] at this; cases this
  ·rw[hc] at this; cases this
theorem hok_del{P:Program}{w:World}{H:Hp}{h:Heap}{a:Addr}{φ:Heap→Prop}(k:HOk P w H h)(ha:H a=some (.ext φ)):HOk P w (del H a) h:=fun b o e=>by
 have nb:b≠a:=fun z=>by rw[z,del_same] at e; cases e
 rw[del_ne nb] at e
 refine(k b o e).stay (fun c u _ q=>q) (fun c q=>?_) fun c xs q=>?_
 ·rw[del_ne (fun z=>by rw[z,ha] at q; cases q)]; exact q
 ·rw[del_ne (fun z=>by rw[z,ha] at q; cases q)]; exact q
end DL
set_option Elab.async false
set_option linter.all false
set_option maxRecDepth 100000
namespace DL
open PySem PySem.Spec PyProof.Rows L2
section
variable{P:Program}{w:World}{K:PySem.W.Frag}{mg:Str→Option Value}{base:Heap}{N:List Str}{qual:Str}{scope:Scope}{f:Addr}{cd:Value}{A:Around}{outer:List PySem.Env}{s:Shared}{H:Hp}{E:XK}
theorem old_none{fs:List Addr}{H0 H1:Hp}{h0 h1:Heap}{b:Addr}(u:Un fs [] H0 H1 h0 h1)(e:h1.get? b=none):h0.get? b=none:=by
 cases z:h0.get? b with
 | none=>rfl
 | some o=>
  obtain⟨o',q⟩:=u.there b o z (by simp)
  rw[e] at q
  cases q
end
end DL
set_option Elab.async false
set_option linter.all false
set_option maxRecDepth 100000
namespace DL
open PySem PySem.Spec PyProof.Rows L2
def XF(H:Hp)(dx:Option Addr)(fl:Option Int):Prop:=∀ i,fl=some i→∃ d,dx=some d∧H d=some (XA d i)
theorem xf_none{H:Hp}{dx:Option Addr}:XF H dx none:=fun _ z=>nomatch z
def WX(K:PySem.W.Frag)(XQ:XW)(σ:L2.St)(C:Addr)(dx:Option Addr)(H:Hp):Prop:=∃ x mp ρ S,XF H dx x.fld∧CN K x.cls C∧XQ x mp H σ ρ S
structure XL(X:Cx)(XQ:XW):Prop where
 own:∀ (pins:List (Addr×Obj)) (σ:L2.St) (H:Hp) (s:Shared) (e C:Addr) (dx:Option Addr),Inv X pins σ H s→H e=some (FX e C dx)→X.s₀.heap.get? e=none→WX X.K XQ σ C dx (del H e)→X.xe (.ref e) s
 cal:∀ (pins:List (Addr×Obj)) (σ:L2.St) (H:Hp) (s:Shared) (e:Value) (s':Shared) (E2:XK),Inv X pins σ H s→CXe X.prog X.w X.stack H s E2 e s'→(∀ C dx H',E2 (.ref C) dx H'→WX X.K XQ σ C dx H')→X.xe e s'
 pas:PassesOwn (model X.prog X.w) X.A X.env X.xe
def PostX(K:PySem.W.Frag)(mp:List Addr)(H:Hp)(o:Out D)(Q:VK)(E:XK):Prop:=
 match o with
 | .ok d S=>∀ mp' H' v,Aft K mp H mp' H'→RS K mp' H' S→Rep K mp' H' d v→Q v H'
 | .exc x S=>∃ C,CN K x.cls C∧∀ mp' H' dx,Aft K mp H mp' H'→RS K mp' H' S→XF H' dx x.fld→E (.ref C) dx H'
 | .bad=>False
def spX(K:PySem.W.Frag)(n:Nat)(fn:Fn):Sp:=fun vs H Q E=>∃ mp ds S,RS K mp H S∧RepL K mp H ds vs∧ds.length=n∧PostX K mp H (fn ds S) Q E
section
variable{P:Program}{w:World}{K:PySem.W.Frag}{mg:Str→Option Value}{base:Heap}
structure CalX(P:Program)(w:World)(K:PySem.W.Frag)(mg:Str→Option Value)(base:Heap)(x:Str)(ps:List Str)(fn:Fn)(j:Nat):Prop where
 ex:∃ f fd,FnOk P w K mg base (CXe P w) j f fd ps (spX K ps.length fn)∧mg x=some (.ref f)∧PySem.W.keepIn K (.ref f)=true∧Binds K fd ps []
end
section
variable{X:Cx}{XQ:XW}{k:Nat}{f:Addr}{fd:FuncData}{ps:List Str}{fn:Fn}{x:Str}{p pos:Pos}{e:Expr}{es:List Expr}
def XNs(K:PySem.W.Frag)(ys:List Str):Prop:=∀ y∈ys,∃ C,CN K y C∧XCl K C
def srs(y:Str)(f:Ev (List D)):Sv:=fun ρ S=>bindS (f ρ S) ρ fun ds S1=>match ds with
 | [_]=>.exc ⟨y,none⟩ ρ S1
 | _=>.bad
structure ClX(P:Program)(w:World)(K:PySem.W.Frag)(mg:Str→Option Value)(base:Heap)(x:Str)(j:Nat):Prop where
 ex:∃ C f fd ps oI,mg x=some (.ref C)∧CN K x C∧KX K C∧PySem.W.findIn K (.ref C) "__init__"=some (some (.ref f))∧K.lookup f=some oI∧oI.cls=.type "function"∧FnOk P w K mg base CX0 j f fd ps (spI K)∧ps.length=2∧Binds K fd ps []
theorem js_raise{j:Nat}{np cpos pos:Pos}{a:Expr}{t:Ev (List D)}(L:XL X XQ)(hcm:X.calm=true)(C:ClX X.prog X.w X.K X.mg X.base x j)(hr:Room k X.A)(hg:Gl X x)(hp:plainN x=true)(ha:JA X XQ [a] t)(hj:j+1≤k:=by decide)
  (he:starEach [a] X.env=(false,eval a X.env)::starEach [] X.env:=by rfl) (hpl:(backTo cpos (starEach [] X.env)).any (·.1)=false:=by rfl):
  JS X XQ (.Raise (some (.Call (.Name x np) [a] [] cpos)) none pos) (srs x t):=by
 obtain⟨C,f,fd,ps,oI,hm,hc,kx,hi,lf,hfc,F,hl,hb⟩:=C.ex
 refine PS.mono (ps_raise (W:=fun σ H e=>WX X.K XQ σ C none (del H e)) (fun pins σ H e s' I hH h0 w=>L.own pins σ H s' e C none I hH h0 w) hcm hg hm kx hi lf hfc F hl (hr.mono hj) hb ha (plainN.of hp).1 he hpl) fun E σ H ⟨mp,ρ,S,G,p⟩=>?_
 refine bindSP G p fun mp1 H1 ds S1 vs a1 G1 r1 p1=>?_
 split at p1
 ·obtain⟨v,rfl,_⟩:=RepL.one r1
  refine⟨v,rfl,fun e he=>⟨⟨x,none⟩,mp1,ρ,S1,xf_none,hc,?_⟩⟩
  have e1:del (upd H1 e (FX e C none)) e=H1:=by
   funext b
   by_cases c:b=e
   ·rw[c,del_same,he]
   ·rw[del_ne c,upd_ne c]
  rw[e1]
  exact p1 mp1 H1 σ .refl G1
 ·exact p1.elim
end
end DL
set_option Elab.async false
set_option linter.all false
set_option maxRecDepth 100000
namespace DL
open PySem PySem.Spec PyProof.Rows L2
structure Plain(X:Cx):Prop where
 stk:X.stack=X.env::X.outer
 fr:X.env.frame=some X.env.locals
 ex:X.ex=[]
structure Landed(X:Cx)(pins:List (Addr×Obj))(σ:L2.St)(H:Hp)(a C:Addr)(dx:Option Addr)(s:Shared):Prop where
 ex:∃ T,Inv X pins σ H s∧Fly s.heap a T C dx∧(H a=none∧H T=none)∧(X.s₀.heap.get? a=none∧X.s₀.heap.get? T=none)∧∀ p∈X.pn++pins,p.1≠a∧p.1≠T
section
variable{X:Cx}{pins:List (Addr×Obj)}{σ:L2.St}{H:Hp}{s:Shared}{A:Around}{E:Value→Shared→Prop}{Q:Unit→Shared→Prop}{M:Model}
theorem Plain.old{b:Addr}(pl:Plain X)(I:Inv X pins σ H s)(e:s.heap.get? b=none):X.s₀.heap.get? b=none:=by
 have u:=I.base
 rw[pl.ex] at u
 exact old_none u e
theorem own_land{e C:Addr}{dx:Option Addr}(pl:Plain X)(I:Inv X pins σ H s)(hH:H e=some (FX e C dx))(le:X.s₀.heap.get? e=none)(hq:∀ s',Landed X pins σ (del H e) e C dx s'→Q () s'):
  wpAny M X.A (noteFrame (.ref e) X.env) (fun _ s₂=>wpAny M X.A (setFlight (.ref e) none) Q E s₂) E s:=by
 obtain⟨fr,_,_⟩:=(show ObjOk X.prog X.w H s.heap e (FX e C dx) from I.hok e _ hH)
 have hfr:X.A.frames=some (X.env::X.outer):=by rw[I.ok.frames,pl.stk]
 have hl:s.heap.FunFrames X.base (X.env::X.outer):=by rw[←pl.stk]; exact I.stack
 refine land1 hfr hl pl.fr fr fun h' T fl hT lf=>hq _ ?_
 have dn:∀ b,H b=none→del H e b=none:=fun b q=>by
  by_cases c:b=e
  ·rw[c,del_same]
  ·rw[del_ne c]; exact q
 have nk:∀ {b:Addr} {o:HO},H b=some o→o≠FX e C dx→b≠e:=fun q n z=>n (by rw[z,hH] at q; exact(Option.some.inj q).symm)
 have ne0:∀ b,H b=none→b≠e:=fun b q z=>by rw[z,hH] at q; cases q
 rw[←pl.stk] at lf
 have un:Un (frs X.stack) [] H (del H e) s.heap h':=⟨fun b o q n hb _=>lf.keep b o hb (fun z=>ne0 b n (by simpa using z)) q,fun b o q n hb _=>lf.slot b o hb q,fun b o q n _=>dn b n,fun b o q _=>by
   by_cases c:b∈frs X.stack
   ·obtain⟨sl,q'⟩:=lf.slot b o c q
    exact⟨_,q'⟩
   ·by_cases c2:b=e
    ·subst c2
     obtain⟨oe,_,_,_,_,z,_⟩:=fl
     exact⟨_,z⟩
    ·exact⟨o,lf.keep b o c (by simpa using c2) q⟩,
  fun b xs q=>by rw[del_ne (nk q (by intro z; cases z))]; exact q,fun b o v q=>by rw[del_ne (nk q (by intro z; cases z))]; exact q,fun b ps q=>⟨#[],by rw[del_ne (nk q (by intro z; cases z)),q]; simp⟩⟩
 have hk:HOk X.prog X.w (del H e) h':=hok_left (hok_del I.hok hH) lf (fun b hb=>dn b (I.stkFree b hb)) (fun b hb=>by
  have:b=e:=by simpa using hb
  rw[this]; exact del_same)
 refine⟨T,?_,fl,⟨del_same,dn T (hok_none I.hok hT)⟩,⟨le,pl.old I hT⟩,fun p hp=>?_⟩
 ·have J:=I.call (h':=h') (g':=s.gens) (d':=s.drawn) (t':=s.toks) (ch:=[]) un hk I.bare (fun b z=>absurd z (by simp))
  exact J
 ·obtain⟨q1,q2,_⟩:=I.pin p hp
  refine⟨ne0 _ q2,fun z=>?_⟩
  rw[z,hT] at q1
  cases q1
theorem call_land{E2:XK}{e:Value}{s':Shared}(pl:Plain X)(I:Inv X pins σ H s)(hx:CXe X.prog X.w X.stack H s E2 e s')(hq:∀ a C dx H' s'',e=.ref a→E2 (.ref C) dx H'→Landed X pins σ H' a C dx s''→Q () s''):
  wpAny M X.A (noteFrame e X.env) (fun _ s₂=>wpAny M X.A (setFlight e none) Q E s₂) E s':=by
 obtain⟨a,T,C,dx,H',rfl,os,bare,un,hok,fly,⟨na,nT⟩,⟨oa,oT⟩,hE2⟩:=hx
 obtain⟨h3,g3,d3,t3,o3⟩:=s'
 obtain rfl:o3=s.os:=os
 have I3:Inv X pins σ H' { s with heap:=h3,gens:=g3,drawn:=d3,toks:=t3 }:=I.call (h':=h3) (g':=g3) (d':=d3) (t':=t3) (ch:=[]) un hok bare (fun b z=>absurd z (by simp))
 have hfr:X.A.frames=some (X.env::X.outer):=by rw[I.ok.frames,pl.stk]
 have hl:h3.FunFrames X.base (X.env::X.outer):=by rw[←pl.stk]; exact I3.stack
 refine land2 (s:={ s with heap:=h3,gens:=g3,drawn:=d3,toks:=t3 }) hfr hl pl.fr fly fun h' T' fl hT lf=>hq a C dx H' _ rfl hE2 ?_
 rw[←pl.stk] at lf
 have nn:∀ b o,s.heap.get? b=some o→b∉[a,T]:=fun b o q z=>by
  simp only[List.mem_cons,List.not_mem_nil,or_false] at z
  rcases z with rfl | rfl
  ·rw[oa] at q; cases q
  ·rw[oT] at q; cases q
 have un2:Un (frs X.stack) [] H H' s.heap h':=⟨fun b o q n hb hx=>lf.keep b o hb (nn b o q) (un.keep b o q n hb hx),fun b o q n hb hx=>by
   obtain⟨sl,q1⟩:=un.slot b o q n hb hx
   obtain⟨sl',q2⟩:=lf.slot b _ hb q1
   exact⟨sl',q2⟩,un.free,fun b o q hx=>by
   obtain⟨o',q1⟩:=un.there b o q hx
   by_cases c:b∈frs X.stack
   ·obtain⟨sl,q2⟩:=lf.slot b o' c q1
    exact⟨_,q2⟩
   ·exact⟨o',lf.keep b o' c (nn b o q) q1⟩,un.tups,un.frzs,un.tbls⟩
 have nT':H' T'=none:=by
  rcases hT with hT | rfl
  ·exact hok_none hok hT
  ·exact nT
 have oT':X.s₀.heap.get? T'=none:=by
  rcases hT with hT | rfl
  ·exact pl.old I3 hT
  ·exact pl.old I oT
 have hk:HOk X.prog X.w H' h':=hok_left hok lf (fun b hb=>I3.stkFree b hb) (fun b hb=>by
  simp only[List.mem_cons,List.not_mem_nil,or_false] at hb
  rcases hb with rfl | rfl
  ·exact na
  ·exact nT)
 refine⟨T',?_,fl,⟨na,nT'⟩,⟨pl.old I oa,oT'⟩,fun p hp=>?_⟩
 ·have J:=I.call (h':=h') (g':=g3) (d':=d3) (t':=t3) (ch:=[]) un2 hk bare (fun b z=>absurd z (by simp))
  exact J
 ·obtain⟨q1,q2,_⟩:=I.pin p hp
  obtain⟨q3,_,_⟩:=I3.pin p hp
  refine And.intro (fun z=>?_) (fun z=>?_)
  ·rw[z,oa] at q1; cases q1
  rcases hT with hT | rfl
  ·rw[z] at q3
   rw[show h3.get? T'=none from hT] at q3
   cases q3
  ·rw[z,oT] at q1; cases q1
end
end DL
set_option Elab.async false
set_option linter.all false
set_option maxRecDepth 100000
namespace DL
open PySem PySem.Spec PyProof.Rows L2
section
variable{X:Cx}{pins:List (Addr×Obj)}{σ:L2.St}{H:Hp}{s:Shared}{A:Around}{E:Value→Shared→Prop}{Q:Unit→Shared→Prop}{M:Model}
theorem inv_off{it:Addr}{h':Heap}(I:Inv X pins σ H s)(k:∀ b o,b≠it→s.heap.get? b=some o→h'.get? b=some o)(there:∃ o,h'.get? it=some o)(hn:H it=none)(hL:it≠X.env.locals)(h0:X.s₀.heap.get? it=none)(h2:∀ x c,X.env.cells.lookup x=some c→c≠it)(h3:∀ p∈X.pn++pins,p.1≠it):Inv X pins σ H { s with heap:=h' }:=by
 have n0:∀ b o,X.s₀.heap.get? b=some o→b≠it:=fun b o e z=>by rw[z,h0] at e; cases e
 have nit:∀ b u,H b=some u→b≠it:=fun b u e z=>by rw[z,hn] at e; cases e
 have ce:∀ x c,X.env.cells.lookup x=some c→∀ v,s.heap.IsCell c v→h'.IsCell c v:=fun x c e v ⟨o,ho,hd⟩=>⟨o,k c o (h2 x c e) ho,hd⟩
 refine⟨I.ok,I.os,I.bare,⟨fun b o e n hb hx=>k b o (n0 b o e) (I.base.keep b o e n hb hx),fun b o e n hb hx=>?_,I.base.free,fun b o e hx=>?_,I.base.tups,I.base.frzs,I.base.tbls⟩,?_,fun x c e=>?_,I.free,I.freeC,fun p hp=>?_,fun b u e=>?_,I.len⟩
 ·obtain⟨sl,q⟩:=I.base.slot b o e n hb hx
  exact⟨sl,k b _ (n0 b o e) q⟩
 ·obtain⟨o',q⟩:=I.base.there b o e hx
  exact⟨o',k b o' (n0 b o e) q⟩
 ·obtain⟨m,⟨o,es,ep,ho,r⟩,hl⟩:=I.loc
  refine⟨m,⟨o,es,ep,k _ o (Ne.symm hL) ho,r⟩,fun i x v e1 e2 e3=>?_⟩
  obtain⟨u,r,l⟩:=hl i x v e1 e2 e3
  refine⟨u,r,?_⟩
  rcases l with l | ⟨kk,c,e,z⟩
  ·exact .inl l
  ·exact .inr ⟨kk,c,e,ce x c e _ z⟩
 ·obtain⟨v,z⟩:=I.cell x c e
  exact⟨v,ce x c e v z⟩
 ·obtain⟨q1,q2,q3,q4,q5⟩:=I.pin p hp
  exact⟨k _ _ (h3 p hp) q1,q2,q3,q4,q5⟩
 ·refine(I.hok b u e).stay (fun c v hc q=>k c v ?_ q) (fun _ q=>q) fun _ _ q=>q
  rcases hc with z | z
  ·rw[z]; exact nit b u e
  ·exact nit c _ z
theorem rec_no{b:Addr}{o:Obj}{vs:Array Value}(I:Inv X pins σ H s)(e:s.heap.get? b=some o)(d:o.data=.fields vs):b≠X.env.locals∧∀ x c,X.env.cells.lookup x=some c→c≠b:=by
 refine⟨fun z=>?_,fun x c hc z=>?_⟩
 ·obtain⟨m,⟨o',es,ep,ho,hd,_⟩,_⟩:=I.loc
  rw[←z,e] at ho
  cases ho
  rw[d] at hd
  cases hd
 ·obtain⟨v,o',ho,hd⟩:=I.cell x c hc
  rw[z,e] at ho
  cases ho
  rw[d] at hd
  cases hd
theorem Landed.flight{a C:Addr}{dx:Option Addr}(l:Landed X pins σ H a C dx s)(hq:∀ s',Landed X pins σ H a C dx s'→Q () s'):wpAny M A (setFlight (.ref a) none) Q E s:=by
 obtain⟨T,I,⟨oe,vs,oT,ts,a0,e1,e2,e3,e4,e5,e6,e7,e8⟩,⟨na,nT⟩,⟨oa,ot⟩,pn⟩:=l.ex
 have h3:3<ts.size:=(Array.getElem?_eq_some_iff.mp e8).1
 refine wpAny_setFlight_none e1 e3 e4 e6 e7 h3 (hq _ ⟨T,?_,?_,⟨na,nT⟩,⟨oa,ot⟩,pn⟩)
 ·have rn:=rec_no I e6 e7
  exact inv_off (it:=T) I (fun b o hb q=>by rw[Heap.get?_update_other _ _ (Ne.symm hb)]; exact q) ⟨_,Heap.get?_update_self _ e6 (Obj.isFreed_of_fields (Obj.data_mapFields e7 _))⟩ nT rn.1 ot rn.2 fun p hp=>(pn p hp).2
 ·exact⟨oe,vs,_,_,a0,by rw[Heap.get?_update_other _ _ e5]; exact e1,e2,e3,e4,e5,Heap.get?_update_self _ e6 (Obj.isFreed_of_fields (Obj.data_mapFields e7 _)),Obj.data_mapFields e7 _,by simp[h3]⟩
theorem inv_know{a:Addr}{φ:Heap→Prop}(I:Inv X pins σ H s)(hn:H a=none)(h0:X.s₀.heap.get? a=none)(hL:a≠X.env.locals)(h2:∀ x c,X.env.cells.lookup x=some c→c≠a)(h3:∀ p∈X.pn++pins,p.1≠a)
  (ok:φ s.heap) (th:∃ o,s.heap.get? a=some o) (st:∀ h1 h2:Heap,φ h1→(∀ o,h1.get? a=some o→h2.get? a=some o)→φ h2):Inv X pins σ (upd H a (.ext φ)) s:=by
 have n0:∀ b o,X.s₀.heap.get? b=some o→b≠a:=fun b o e z=>by rw[z,h0] at e; cases e
 have nk:∀ {b:Addr} {o:HO},H b=some o→b≠a:=fun e z=>by rw[z,hn] at e; cases e
 refine⟨I.ok,I.os,I.bare,⟨I.base.keep,I.base.slot,fun b o e n hx=>?_,I.base.there,fun b xs e=>?_,fun b o v e=>?_,fun b ps e=>?_⟩,I.loc,I.cell,?_,fun x c e=>?_,fun p hp=>?_,fun b o e=>?_,I.len⟩
 ·rw[upd_ne (n0 b o e)]; exact I.base.free b o e n hx
 ·have q:=I.base.tups b xs e
  rw[upd_ne (nk q)]; exact q
 ·have q:=I.base.frzs b o v e
  rw[upd_ne (nk q)]; exact q
 ·obtain⟨more,q⟩:=I.base.tbls b ps e
  exact⟨more,by rw[upd_ne (nk q)]; exact q⟩
 ·rw[upd_ne (Ne.symm hL)]; exact I.free
 ·rw[upd_ne (h2 x c e)]; exact I.freeC x c e
 ·obtain⟨q1,q2,q3,q4,q5⟩:=I.pin p hp
  exact⟨q1,by rw[upd_ne (h3 p hp)]; exact q2,q3,q4,q5⟩
 ·by_cases c:b=a
  ·subst c
   rw[upd_same] at e
   cases e
   exact⟨ok,th,st⟩
  ·rw[upd_ne c] at e
   refine(I.hok b o e).stay (fun c u _ q=>q) (fun c q=>?_) fun c xs q=>?_
   ·rw[upd_ne (nk q)]; exact q
   ·rw[upd_ne (nk q)]; exact q
theorem Landed.know{a C:Addr}{dx:Option Addr}(l:Landed X pins σ H a C dx s):H a=none∧Inv X pins σ (upd H a (XO a C dx)) s:=by
 obtain⟨T,I,⟨oe,vs,oT,ts,a0,e1,e2,e3,e4,e5,e6,e7,e8⟩,⟨na,nT⟩,⟨oa,ot⟩,pn⟩:=l.ex
 have rn:=rec_no I e1 e3
 exact⟨na,inv_know I na oa rn.1 rn.2 (fun p hp=>(pn p hp).1) ⟨oe,e1,e2.1,e2.2.1,vs,e3⟩ ⟨oe,e1⟩ fun h1 h2 ⟨o,q1,q2⟩ k=>⟨o,k _ q1,q2⟩⟩
abbrev hnd(X:Cx)(a:Addr):Cx:={ X with A:=X.A.mark (some (.ref a)),calm:=false,xe:=fun _ _=>False }
theorem _root_.L2.Inv.hnd(I:Inv X pins σ H s)(a:Addr):Inv (DL.hnd X a) pins σ H s:=
 ⟨⟨I.ok.mod,I.ok.kind,I.ok.glob,I.ok.blt,I.ok.above,I.ok.inj,I.ok.has,I.ok.cab,(fun z=>nomatch z),I.ok.frames,I.ok.stk,I.ok.exf,I.ok.bs,I.ok.bsz,I.ok.noex,I.ok.exfs,I.ok.funs,I.ok.frf⟩,I.os,I.bare,I.base,I.loc,I.cell,I.free,I.freeC,I.pin,I.hok,I.len⟩
theorem _root_.L2.Inv.unhnd{a:Addr}(ok:X.Ok)(I:Inv (DL.hnd X a) pins σ H s):Inv X pins σ H s:=⟨ok,I.os,I.bare,I.base,I.loc,I.cell,I.free,I.freeC,I.pin,I.hok,I.len⟩
theorem name_goes{i:Nat}{n:Str}{pos:Pos}(I:Inv X pins σ H s)(hN:X.N.Nodup)(hi:X.N[i]?=some n)(hk:X.env.scope.names.lookup n=some .local)(hq:∀ s',Inv X pins (σ.set i none) H s'→Q () s'):
  wpAny M A (do bindName X.env n .none; unbindBehindTheSuite X.env n pos) Q E s:=by
 obtain⟨m,hn,hl⟩:=id I.loc
 have hcls:(X.env.scope.kind==.class||(X.env.scope.kind==.module&&X.env.locals != X.env.globals))=false:=by rw[I.ok.kind]; rfl
 refine wpAny_nameGoes_keeps hk hn hcls fun h' v hn' hs=>hq _ ?_
 obtain⟨oL,_,_,hoL,_⟩:=id hn
 have below:∀ b o,X.s₀.heap.get? b=some o→b≠X.env.locals:=fun b o e=>Nat.ne_of_lt (Nat.lt_of_lt_of_le (Heap.lt_size e) I.ok.above)
 refine⟨I.ok,I.os,I.bare,⟨fun b o e n hb hx=>(hs.2 b (below b o e)).trans (I.base.keep b o e n hb hx),fun b o e n hb hx=>?_,I.base.free,fun b o e hx=>?_,I.base.tups,I.base.frzs,I.base.tbls⟩,⟨_,hn',fun j y w e1 e2 e3=>?_⟩,fun y c e=>?_,I.free,I.freeC,fun p hp=>?_,fun b ob e=>?_,by simpa using I.len⟩
 ·obtain⟨sl,e1⟩:=I.base.slot b o e n hb hx
  exact⟨sl,(hs.2 b (below b o e)).trans e1⟩
 ·obtain⟨o',e1⟩:=I.base.there b o e hx
  exact⟨o',(hs.2 b (below b o e)).trans e1⟩
 ·by_cases hj:j=i
  ·subst hj
   rw[List.getElem?_set] at e2
   simp only[if_true] at e2
   split at e2<;>cases e2
  ·rw[List.getElem?_set_ne (Ne.symm hj)] at e2
   obtain⟨u',r',q⟩:=hl j y w e1 e2 e3
   refine⟨u',r',?_⟩
   rcases q with⟨k,e⟩ | ⟨k,c,e,z⟩
   ·refine .inl ⟨k,?_⟩
    have:y≠n:=fun e=>hj (nodup_ix hN e1 (e▸hi))
    simp[this,e]
   ·exact .inr ⟨k,c,e,z.sameBut hs (I.cne y c e)⟩
 ·obtain⟨w,z⟩:=I.cell y c e
  exact⟨w,z.sameBut hs (I.cne y c e)⟩
 ·obtain⟨e,n,ne,nf,d⟩:=I.pin p hp
  exact⟨(hs.2 p.1 ne).trans e,n,ne,nf,d⟩
 ·refine(I.hok b ob e).stay (fun c w hc q=>(hs.2 c ?_).trans q) (fun _ q=>q) fun _ _ q=>q
  rintro rfl
  rcases hc with rfl | hc
  ·rw[I.free] at e; cases e
  ·rw[I.free] at hc; cases hc
end
end DL
set_option Elab.async false
set_option linter.all false
set_option maxRecDepth 100000
namespace DL
open PySem PySem.Spec PyProof.Rows L2
abbrev trb(X:Cx)(pn:List (Addr×Obj))(xe:Value→Shared→Prop):Cx:={ X with pn:=pn,xe:=xe }
section
variable{X:Cx}{XQ:XW}{pins:List (Addr×Obj)}{σ:L2.St}{H:Hp}{s:Shared}{pn:List (Addr×Obj)}{xe:Value→Shared→Prop}
theorem _root_.L2.Inv.trb(I:Inv X pins σ H s):Inv (DL.trb X (X.pn++pins) xe) [] σ H s:=
 ⟨⟨I.ok.mod,I.ok.kind,I.ok.glob,I.ok.blt,I.ok.above,I.ok.inj,I.ok.has,I.ok.cab,I.ok.hd,I.ok.frames,I.ok.stk,I.ok.exf,I.ok.bs,I.ok.bsz,I.ok.noex,I.ok.exfs,I.ok.funs,I.ok.frf⟩,I.os,I.bare,I.base,I.loc,I.cell,I.free,I.freeC,fun p hp=>I.pin p (by simpa using hp),I.hok,I.len⟩
theorem _root_.L2.Inv.untrb{pins':List (Addr×Obj)}(ok:X.Ok)(I:Inv (DL.trb X (X.pn++pins) xe) pins' σ H s):Inv X pins σ H s:=
 ⟨ok,I.os,I.bare,I.base,I.loc,I.cell,I.free,I.freeC,fun p hp=>I.pin p (List.mem_append_left _ hp),I.hok,I.len⟩
theorem Landed.untrb{pins':List (Addr×Obj)}{a C:Addr}{dx:Option Addr}(ok:X.Ok)(l:Landed (DL.trb X (X.pn++pins) xe) pins' σ H a C dx s):Landed X pins σ H a C dx s:=by
 obtain⟨T,I,f,n,o,p⟩:=l.ex
 exact⟨T,I.untrb ok,f,n,o,fun q hq=>p q (List.mem_append_left _ hq)⟩
theorem Plain.trb(pl:Plain X):Plain (trb X pn xe):=⟨pl.stk,pl.fr,pl.ex⟩
theorem Gd.unset{K:PySem.W.Frag}{mp:List Addr}{ρ:Lc}{S:Sto}(G:Gd K mp H σ ρ S)(i:Nat):Gd K mp H (σ.set i none) (ρ.set i none) S:=by
 refine⟨G.rs,by simp[G.len],fun j e h=>?_⟩
 by_cases hj:j=i
 ·subst hj
  rw[List.getElem?_set] at h
  simp only[if_true] at h
  split at h<;>cases h
 ·rw[List.getElem?_set_ne (Ne.symm hj)] at h ⊢
  exact G.loc j e h
def stryG(ys:List Str)(hh:XD→Sv)(fb:Sv):Sv:=fun ρ S=>match fb ρ S with
 | .nx ρ' S'=>.nx ρ' S'
 | .rt d S'=>.rt d S'
 | .bk ρ' S'=>.bk ρ' S'
 | .ct ρ' S'=>.ct ρ' S'
 | .exc x ρ' S'=>if x.cls∈ys then hh x ρ' S' else .bad
 | .bad=>.bad
theorem js_tryG{hd:ExceptHandler}{body:List Stmt}{ys:List Str}{hh:XD→Sv}{fb:Sv}{pos:Pos}(pl:Plain X)
  (hH:∀ (pins:List (Addr×Obj)) (σ:L2.St) (H:Hp) (s:Shared) (a C:Addr) (dx:Option Addr) (x:XD) (mp:List Addr) (ρ:Lc) (S:Sto) (D:Ends),x.cls∈ys→CN X.K x.cls C→XF H dx x.fld→Landed X pins σ H a C dx s→Gd X.K mp H σ ρ S→PostS X.K XQ mp H (hh x ρ S) D→wpAny (model X.prog X.w) X.A (handleBy (.ref a) X.env [hd]) (SP X pins D) X.xe s)
  (hb:∀ (pn:List (Addr×Obj)) (xe:Value→Shared→Prop) (XQ':XW),XL (trb X pn xe) XQ'→JSs (trb X pn xe) XQ' body fb):JS X XQ (.Try body [hd] [] [] pos) (stryG ys hh fb):=by
 intro pins s σ H D I ⟨mp,ρ,S,G,p⟩
 refine wpAny_Try_except ?_
 have ok:=I.ok
 let Eh:Value→Shared→Prop:=fun e s₁=>wpAny (model X.prog X.w) X.A (noteFrame e X.env) (fun _ s₂=>wpAny (model X.prog X.w) X.A (setFlight e none) (fun _ s₃=>wpAny (model X.prog X.w) X.A (handleBy e X.env [hd]) (SP X pins D) X.xe s₃) X.xe s₂) X.xe s₁
 let XQ':XW:=fun x mp H σ ρ S=>x.cls∈ys∧Gd X.K mp H σ ρ S∧PostS X.K XQ mp H (hh x ρ S) D
 have fin:∀ (pins':List (Addr×Obj)) (σ:L2.St) (H:Hp) (s:Shared) (a C:Addr) (dx:Option Addr),WX X.K XQ' σ C dx H→Landed (DL.trb X (X.pn++pins) Eh) pins' σ H a C dx s→wpAny (model X.prog X.w) X.A (handleBy (.ref a) X.env [hd]) (SP X pins D) X.xe s:=
  fun pins' σ H s a C dx ⟨x,mp,ρ,S,xf,hc,hm,G,p⟩ l=>hH pins σ H s a C dx x mp ρ S D hm hc xf (l.untrb ok) G p
 have L:XL (DL.trb X (X.pn++pins) Eh) XQ':=⟨fun pins' σ H s e C dx I hH le w=>own_land (X:=DL.trb X (X.pn++pins) Eh) pl.trb I hH le fun s' l=>fin pins' σ _ s' e C dx w l,
  fun pins' σ H s e s' E2 I hx hE=>call_land (X:=DL.trb X (X.pn++pins) Eh) pl.trb I hx fun a C dx H' s'' ea q l=>by
   subst ea
   exact fin pins' σ H' s'' a C dx (hE C dx H' q) l,
  PassesOwn.looking⟩
 have post:PostS X.K XQ' mp H (fb ρ S) D:=by
  unfold stryG at p
  cases z:fb ρ S with
  | nx ρ' S'=>rw[z] at p; exact p
  | rt d S'=>rw[z] at p; exact p
  | bk ρ' S'=>rw[z] at p; exact p
  | ct ρ' S'=>rw[z] at p; exact p
  | bad=>rw[z] at p; exact p
  | exc x ρ' S'=>
   rw[z] at p
   by_cases hm:x.cls∈ys
   ·have p:PostS X.K XQ mp H (hh x ρ' S') D:=by simpa only[if_pos hm] using p
    exact fun mp' H' σ' af G'=>⟨hm,G',PostS.aft p af⟩
   ·have p:PostS X.K XQ mp H .bad D:=by simpa only[if_neg hm] using p
    exact p.elim
 refine wpAny_mono (hb (X.pn++pins) Eh XQ' L [] s σ H D I.trb ⟨mp,ρ,S,G,post⟩) (fun f s1 q=>?_) fun e s1 q=>q
 cases f with
 | next=>
  obtain⟨σ',H',I',q⟩:=q
  exact wpAny_execs_nil ⟨σ',H',I'.untrb ok,q⟩
 | brk=>
  obtain⟨σ',H',I',q⟩:=q
  exact⟨σ',H',I'.untrb ok,q⟩
 | cont=>
  obtain⟨σ',H',I',q⟩:=q
  exact⟨σ',H',I'.untrb ok,q⟩
 | ret u=>
  obtain⟨v,σ',H',I',r,q⟩:=q
  exact⟨v,σ',H',I'.untrb ok,r,q⟩
structure Cat(K:PySem.W.Frag)(mg:Str→Option Value)(c:Str)(ys:List Str):Prop where
 ex:∃ cs,mg c=some (.ref cs)∧∀ y∈ys,∃ C,CN K y C∧XCl K C∧PySem.W.exmOne K (.ref C) (.ref cs)=some true
def hdl(i:Nat)(fh:Sv)(x:XD):Sv:=fun ρ S=>match fh (ρ.set i (some (.exn x.cls x.fld))) S with
 | .nx ρ' S'=>.nx (ρ'.set i none) S'
 | .rt d S'=>.rt d S'
 | .bk ρ' S'=>.bk (ρ'.set i none) S'
 | .ct ρ' S'=>.ct (ρ'.set i none) S'
 | _=>.bad
theorem fly_ty{M:Model}{h:Heap}{a T C:Addr}{dx:Option Addr}(f:Fly h a T C dx):PySem.W.Looks M h (typeOf (.ref a)) (.ref C):=by
 obtain⟨oe,vs,_,_,_,h1,⟨h2,_⟩,_⟩:=f
 exact h2▸(PySem.W.Looks.ld h1).andThen .now
theorem hit_ok{c:Str}{np hpos:Pos}{ys:List Str}{y:Str}{a C:Addr}{dx:Option Addr}{R:Result→Shared→Prop}(ct:Cat X.K X.mg c ys)(hg:Gl X c)(hp:plainN c=true)(hy:y∈ys)(hc:CN X.K y C)(l:Landed X pins σ H a C dx s)(hq:R (.ok .brk) s):
  XCl X.K C∧codeAny (model X.prog X.w) (X.A.mark (some (.ref a))) (.handlers (.ref a) [.ExceptHandler (some (.Name c np)) none [] hpos] X.env) R s:=by
 obtain⟨T,I,f,_⟩:=l.ex
 obtain⟨cs,hm,hk⟩:=ct.ex
 obtain⟨C',hc',xc,he⟩:=hk y hy
 cases CN.one hc hc'
 refine⟨xc,codeAny_handlers_test ?_⟩
 refine ld_glob (X:=hnd X a) (I.hnd a) hg hm ?_ (plainN.of hp).1
 exact(PySem.W.exm_one I.kIn (fly_ty f) he).here hq
theorem js_tryA{c n:Str}{i:Nat}{np hpos pos:Pos}{b0:Stmt}{suite body:List Stmt}{ys:List Str}{fb fh:Sv}(pl:Plain X)(ct:Cat X.K X.mg c ys)(hg:Gl X c)(hp:plainN c=true)(hN:X.N.Nodup)(hi:X.N[i]?=some n)(hn:X.env.scope.names.lookup n=some .local)
  (hb:∀ (pn:List (Addr×Obj)) (xe:Value→Shared→Prop) (XQ':XW),XL (trb X pn xe) XQ'→JSs (trb X pn xe) XQ' body fb) (hs:∀ a,JSs (hnd X a) (fun _ _ _ _ _ _=>False) (b0::suite) fh):
  JS X XQ (.Try body [.ExceptHandler (some (.Name c np)) (some n) (b0::suite) hpos] [] [] pos) (stryG ys (hdl i fh) fb):=by
 refine js_tryG pl (fun pins σ H s a C dx x mp ρ S D hy hc xf l G p=>?_) hb
 refine wpAny_handleBy_cons ?_ (by intro q; cases q)
 obtain⟨xc,hit⟩:=hit_ok (np:=np) (hpos:=hpos) (R:=fun r s₁=>match r with
   | .ok .brk=>codeAny (model X.prog X.w) (X.A.mark (some (.ref a))) (.handlers (.ref a) [.ExceptHandler none (some n) (b0::suite) hpos] X.env) (fun r s₂=>match r with
     | .ok f=>wpAny (model X.prog X.w) X.A (do bindName X.env n .none; unbindBehindTheSuite X.env n hpos) (fun _ s₃=>SP X pins D f s₃) X.xe s₂
     | .error x=>cameBackBy (model X.prog X.w) X.A X.env X.xe x s₂) s₁
   | .ok _=>wpAny (model X.prog X.w) X.A (handleBy (.ref a) X.env []) (SP X pins D) X.xe s₁
   | .error x=>cameBackBy (model X.prog X.w) X.A X.env X.xe x s₁) ct hg hp hy hc l (by
  refine codeAny_handlers_suite_as (l.flight fun s1 l1=>?_)
  obtain⟨na,I1⟩:=l1.know
  have ok:=I1.ok
  have af:Aft X.K mp H mp (upd H a (XO a C dx)):=aft_new na
  have G1:Gd X.K mp (upd H a (XO a C dx)) σ ρ S:=G.aft af (G.rs.new na)
  have re:Rep X.K mp (upd H a (XO a C dx)) (.exn x.cls x.fld) (.ref a):=⟨a,dx,C,rfl,⟨hc,by
   obtain⟨cs,hm,hk⟩:=ct.ex
   obtain⟨C',hc',xc,he⟩:=hk x.cls hy
   cases CN.one hc hc'
   exact xc,upd_same⟩,fun i z=>by
   obtain⟨d,e1,e2⟩:=xf i z
   exact⟨d,e1,by rw[upd_ne (fun q=>by rw[q,na] at e2; cases e2)]; exact e2⟩⟩
  refine store_ok (X:=hnd X a) (v:=.ref a) (I1.hnd a) hN hi (.inl hn) rfl (fun s2 I2=>?_) (.inr hn)
  refine wpAny_mono (hs a pins s2 _ _ { nx:=fun σ' H'=>D.nx (σ'.set i none) H',rt:=D.rt,bk:=fun σ' H'=>D.bk (σ'.set i none) H',ct:=fun σ' H'=>D.ct (σ'.set i none) H' } I2 ⟨mp,_,S,G1.set i re,?_⟩) (fun f s3 q=>?_) (fun e s3 q=>q.elim)
  ·have p:=PostS.aft p af
   unfold hdl at p
   cases z:fh (ρ.set i (some (.exn x.cls x.fld))) S with
   | nx ρ' S'=>rw[z] at p; exact fun mp' H' σ' a' G'=>p mp' H' _ a' (G'.unset i)
   | rt d S'=>rw[z] at p; exact p
   | bk ρ' S'=>rw[z] at p; exact fun mp' H' σ' a' G'=>p mp' H' _ a' (G'.unset i)
   | ct ρ' S'=>rw[z] at p; exact fun mp' H' σ' a' G'=>p mp' H' _ a' (G'.unset i)
   | exc x ρ' S'=>rw[z] at p; exact p.elim
   | bad=>rw[z] at p; exact p.elim
  ·cases f with
   | next=>
    obtain⟨σ',H',I',q⟩:=q
    exact name_goes (I'.unhnd ok) hN hi hn fun s' J=>⟨_,H',J,q⟩
   | brk=>
    obtain⟨σ',H',I',q⟩:=q
    exact name_goes (I'.unhnd ok) hN hi hn fun s' J=>⟨_,H',J,q⟩
   | cont=>
    obtain⟨σ',H',I',q⟩:=q
    exact name_goes (I'.unhnd ok) hN hi hn fun s' J=>⟨_,H',J,q⟩
   | ret u=>
    obtain⟨v,σ',H',I',r,q⟩:=q
    exact name_goes (I'.unhnd ok) hN hi hn fun s' J=>⟨v,_,H',J,r,q⟩)
 exact hit
end
end DL
set_option Elab.async false
set_option linter.all false
set_option maxRecDepth 100000
namespace DL
open PySem PySem.Spec PyProof.Rows L2
def isxD(ys sub:List Str)(x:D)(S:Sto):Out D:=match x with
 | .exn y _=>if y∈ys then .ok (.bl (decide (y∈sub))) S else .bad
 | _=>.bad
structure Isx(K:PySem.W.Frag)(mg:Str→Option Value)(x:Str)(ys sub:List Str):Prop where
 ex:∃ cs,mg x=some (.ref cs)∧∀ y∈ys,∃ C,CN K y C∧PySem.W.kitOne K (.ref C) (.ref cs)=some (decide (y∈sub))
structure IsxB(K:PySem.W.Frag)(T:String)(ys sub:List Str):Prop where
 ex:∀ y∈ys,∃ C,CN K y C∧PySem.W.kitOne K (.ref C) (.type T)=some (decide (y∈sub))
section
variable{X:Cx}{XQ:XW}
def rIsx(K:PySem.W.Frag)(w:V)(c:Value):List V→Hp→VK→Prop:=fun vs H Q=>∃ a C dx b,vs=[.ref a,w]∧XCl K C∧H a=some (XO a C dx)∧PySem.W.kitOne K (.ref C) c=some b∧Q (.bl b) H
theorem call_isx{w:V}{c:Value}(hw:∀ u,RelV w u→u=c):CallR X (.builtin "isinstance") (rIsx X.K w c):=by
 intro pins s σ H xs us Q I r ⟨a,C,dx,b,e,xc,hH,hk,q⟩
 subst e
 obtain⟨u,w',rfl,ru,rw'⟩:=Vals.two r
 cases (show u=Value.ref a from ru)
 cases hw _ rw'
 exact PySem.W.kia_one (kitx_exn xc) I.kIn (xo_at I hH) hk (fun z=>nomatch z) fun tk=>⟨.bl b,H,I.tok tk,rfl,q⟩
theorem je_isx{x:Str}{ys sub:List Str}{e:Expr}{f:Ev D}{p p2 pos:Pos}(k:Isx X.K X.mg x ys sub)(hg:Gl X "isinstance")(hm:X.mg "isinstance"=none)(hgt:Gl X x)(hp:plainN x=true)(he:JE X XQ e f)
  (hs:starEach [e,.Name x p2] X.env=(false,eval e X.env)::starEach [.Name x p2] X.env) (hpl:(backTo pos (starEach [.Name x p2] X.env)).any (·.1)=false) (hs2:starEach [.Name x p2] X.env=(false,eval (.Name x p2) X.env)::starEach [] X.env):
  JE X XQ (.Call (.Name "isinstance" p) [e,.Name x p2] [] pos) (o1 (isxD ys sub) f):=by
 obtain⟨cs,hmt,hk⟩:=k.ex
 refine PE.mono (pe_callB (call_isx (w:=.ref cs) (c:=.ref cs) fun u h=>h) hg hm (by rfl) (pa_cons he (pa_cons (pe_glob hgt hmt (v:=.ref cs) rfl (plainN.of hp).1) pa_nil hs2) hs) (by decide) (by decide) hs hpl) fun σ H Q ⟨mp,ρ,S,G,q⟩=>?_
 refine bindP G q fun mp1 H1 d S1 v a1 G1 r1 p1=>?_
 cases d with
 | exn y n=>
  obtain⟨a,dx,C,rfl,⟨hc,xc,hH⟩,_⟩:=(show ∃ a dx p,v=.ref a∧(CN X.K y p∧XCl X.K p∧H1 a=some (XO a p dx))∧∀ i,n=some i→∃ d,dx=some d∧H1 d=some (XA d i) from r1)
  by_cases hy:y∈ys
  ·have p1:Post X.K XQ σ ρ mp1 H1 (.ok (.bl (decide (y∈sub))) S1) Q:=by simpa only[isxD,if_pos hy] using p1
   obtain⟨C',hc',ko⟩:=hk y hy
   cases CN.one hc hc'
   exact⟨a,C,dx,_,rfl,xc,hH,ko,PostG.ok (R:=Rep X.K) p1 G1.rs rfl⟩
  ·have p1:Post X.K XQ σ ρ mp1 H1 .bad Q:=by simpa only[isxD,if_neg hy] using p1
   exact p1.elim
 | _=>exact p1.elim
theorem je_isxB{x:Str}{T:String}{ys sub:List Str}{e:Expr}{f:Ev D}{p p2 pos:Pos}(k:IsxB X.K T ys sub)(hv:bootBuiltins x=some (.type T))(hnx:x≠"__name__")(hg:Gl X "isinstance")(hm:X.mg "isinstance"=none)(hgt:Gl X x)(hmt:X.mg x=none)(hp:plainN x=true)(he:JE X XQ e f)
  (hs:starEach [e,.Name x p2] X.env=(false,eval e X.env)::starEach [.Name x p2] X.env) (hpl:(backTo pos (starEach [.Name x p2] X.env)).any (·.1)=false) (hs2:starEach [.Name x p2] X.env=(false,eval (.Name x p2) X.env)::starEach [] X.env):
  JE X XQ (.Call (.Name "isinstance" p) [e,.Name x p2] [] pos) (o1 (isxD ys sub) f):=by
 have hk:=k.ex
 refine PE.mono (pe_callB (call_isx (w:=.ty T) (c:=.type T) fun u h=>h) hg hm (by rfl) (pa_cons he (pa_cons (pe_bltn hgt hmt hv (v:=.ty T) rfl hnx (plainN.of hp).1) pa_nil hs2) hs) (by decide) (by decide) hs hpl) fun σ H Q ⟨mp,ρ,S,G,q⟩=>?_
 refine bindP G q fun mp1 H1 d S1 v a1 G1 r1 p1=>?_
 cases d with
 | exn y n=>
  obtain⟨a,dx,C,rfl,⟨hc,xc,hH⟩,_⟩:=(show ∃ a dx p,v=.ref a∧(CN X.K y p∧XCl X.K p∧H1 a=some (XO a p dx))∧∀ i,n=some i→∃ d,dx=some d∧H1 d=some (XA d i) from r1)
  by_cases hy:y∈ys
  ·have p1:Post X.K XQ σ ρ mp1 H1 (.ok (.bl (decide (y∈sub))) S1) Q:=by simpa only[isxD,if_pos hy] using p1
   obtain⟨C',hc',ko⟩:=hk y hy
   cases CN.one hc hc'
   exact⟨a,C,dx,_,rfl,xc,hH,ko,PostG.ok (R:=Rep X.K) p1 G1.rs rfl⟩
  ·have p1:Post X.K XQ σ ρ mp1 H1 .bad Q:=by simpa only[isxD,if_neg hy] using p1
   exact p1.elim
 | _=>exact p1.elim
def blsD:List D→Option (List Bool)
 | []=>some []
 | .bl b::r=>(blsD r).map (b::·)
 | _::_=>none
theorem blsD_map:∀ {l:List D} {bs:List Bool},blsD l=some bs→l=bs.map .bl
 | [],bs,h=>by cases h; rfl
 | d::r,bs,h=>by
  cases d with
  | bl b=>
   have h:(blsD r).map (b::·)=some bs:=h
   cases z:blsD r with
   | none=>rw[z] at h; cases h
   | some q=>rw[z] at h; cases h; rw[blsD_map z]; rfl
  | _=>cases h
theorem bls_rep2{K:PySem.W.Frag}{mp:List Addr}{H:Hp}:∀ {bs:List Bool} {vs:List V},RepL K mp H (bs.map .bl) vs→vs=bs.map .bl
 | [],vs,h=>h
 | b::r,vs,h=>by
  obtain⟨v,q,e,h1,h2⟩:=(show ∃ v r',vs=v::r'∧Rep K mp H (.bl b) v∧RepL K mp H (r.map .bl) r' from h)
  cases (show v=.bl b from h1)
  rw[e,bls_rep2 h2]
  rfl
theorem bls_vals:∀ {bs:List Bool} {us:List Value},Vals (bs.map V.bl) us→us=bs.map Value.bool
 | [],_,.nil=>rfl
 | b::r,_,.cons h t=>by
  rw[bls_vals t]
  cases (show _=Value.bool b from h)
  rfl
theorem eqg_bool(b k:Bool):MeetsSeq.EqGives (.bool b) (.bool k) (b==k):=fun prog w A E s Q h=>PySem.SeqAt.EqAt.bool_bool b k prog w E Q h
def isBv(k:Bool):Value→Bool
 | .bool b=>b==k
 | _=>false
theorem eqg_all(bs:List Bool)(k:Bool):∀ y,y∈(bs.map Value.bool).toArray→MeetsSeq.EqGives y (.bool k) (isBv k y):=fun y hy=>by
 obtain⟨b,_,rfl⟩:=List.mem_map.mp (show y∈bs.map Value.bool from by simpa using hy)
 exact eqg_bool b k
def rCnt:V→List V→Hp→VK→Prop:=fun x vs H Q=>∃ (l:Addr) (bs:List Bool) (k:Bool),x=.ref l∧vs=[.bl k]∧H l=some (.lst (bs.map .bl))∧Q (.int (bs.countP (·==k):Nat)) H
theorem mt_cnt:MtM X "list.count" rCnt:=by
 intro pins s σ H x vs v us Q I rx rv ⟨l,bs,k,e1,e2,hH,q⟩
 subst e1 e2
 cases rx
 obtain⟨u,rfl,ru⟩:=Vals.one rv
 cases (show u=Value.bool k from ru)
 obtain⟨z,its,n,r,hl,e⟩:=I.lstM hH
 cases bls_vals r
 refine call_meets PySem.F.slot_list_count ⟨_,e,rfl⟩ PySem.F.entry_list_count (PySem.F.args_list_count_2 _ _) (MeetsSeq.list_count l _ n (.bool k) (isBv k) (eqg_all bs k)) ⟨e,.int _,H,I.tok _,⟨_,rfl⟩,?_⟩
 have ec:List.countP (isBv k) (List.map Value.bool bs).toArray.toList=bs.countP (·==k):=by
  rw[List.countP_map]; rfl
 rw[ec]
 exact q
def cntD(x:D)(xs:List D)(S:Sto):Out D:=match x,xs with
 | .lst i,[.bl k]=>match S[i]? with
  | some c=>if c.fz=false then(match blsD c.xs with
   | some bs=>.ok (.int (bs.countP (·==k):Nat)) S
   | none=>.bad) else .bad
  | none=>.bad
 | _,_=>.bad
theorem md_cnt{K:PySem.W.Frag}:MeD K rCnt cntD:=by
 intro XQ σ ρ mp H S x xs v vs Q rs rx r p
 unfold cntD at p
 split at p
 ·rename_i i k
  split at p
  ·rename_i c zc
   by_cases hc:c.fz=false
   ·rw[if_pos hc] at p
    split at p
    ·rename_i bs zb
     obtain⟨w,rfl,hw⟩:=RepL.one r
     cases (show w=.bl k from hw)
     obtain⟨a,ys,rfl,ha,sq,q,f⟩:=rs.items rx zc
     rw[blsD_map zb] at q
     cases bls_rep2 q
     exact⟨a,bs,k,rfl,rfl,f hc,p mp H _ .refl rs rfl⟩
    ·exact p.elim
   ·rw[if_neg hc] at p; exact p.elim
  ·exact p.elim
 ·exact p.elim
def rIdx:V→List V→Hp→VK→Prop:=fun x vs H Q=>∃ (l:Addr) (bs:List Bool) (k:Bool) (j:Nat),x=.ref l∧vs=[.bl k]∧H l=some (.lst (bs.map .bl))∧List.findIdx? (·==k) bs=some j∧Q (.int (j:Nat)) H
theorem mt_idx:MtM X "list.index" rIdx:=by
 intro pins s σ H x vs v us Q I rx rv ⟨l,bs,k,j,e1,e2,hH,hj,q⟩
 subst e1 e2
 cases rx
 obtain⟨u,rfl,ru⟩:=Vals.one rv
 cases (show u=Value.bool k from ru)
 obtain⟨z,its,n,r,hl,e⟩:=I.lstM hH
 cases bls_vals r
 rw[List.findIdx?_eq_some_iff_getElem] at hj
 obtain⟨h1,h2,h3⟩:=hj
 have z:bs.length≤sizeLine:=by simpa using z
 rw[sizeLine_eq] at z
 refine call_meets PySem.F.slot_list_index ⟨_,e,rfl⟩ PySem.F.entry_list_index (PySem.F.args_list_index_2 _ _) (MeetsSeq.list_index l _ n (.bool k) (isBv k) (eqg_all bs k) j (by simpa using h1) (by omega) (by simpa[isBv] using h2) (fun m hm hlt=>?_)) ⟨e,.int _,H,I.tok _,⟨_,rfl⟩,q⟩
 have:=h3 m hlt
 simpa[isBv] using this
def idxD(x:D)(xs:List D)(S:Sto):Out D:=match x,xs with
 | .lst i,[.bl k]=>match S[i]? with
  | some c=>if c.fz=false then(match blsD c.xs with
   | some bs=>(match List.findIdx? (·==k) bs with
    | some j=>.ok (.int (j:Nat)) S
    | none=>.bad)
   | none=>.bad) else .bad
  | none=>.bad
 | _,_=>.bad
theorem md_idx{K:PySem.W.Frag}:MeD K rIdx idxD:=by
 intro XQ σ ρ mp H S x xs v vs Q rs rx r p
 unfold idxD at p
 split at p
 ·rename_i i k
  split at p
  ·rename_i c zc
   by_cases hc:c.fz=false
   ·rw[if_pos hc] at p
    split at p
    ·rename_i bs zb
     split at p
     ·rename_i j zj
      obtain⟨w,rfl,hw⟩:=RepL.one r
      cases (show w=.bl k from hw)
      obtain⟨a,ys,rfl,ha,sq,q,f⟩:=rs.items rx zc
      rw[blsD_map zb] at q
      cases bls_rep2 q
      exact⟨a,bs,k,j,rfl,rfl,f hc,zj,p mp H _ .refl rs rfl⟩
     ·exact p.elim
    ·exact p.elim
   ·rw[if_neg hc] at p; exact p.elim
  ·exact p.elim
 ·exact p.elim
theorem je_count{o e:Expr}{apos cpos:Pos}{fo:Ev D}{f:Ev (List D)}(ho:JE X XQ o fo)(ha:JA X XQ [e] f)(hbase:attributeBase o "count" X.env (eval o X.env)=eval o X.env:=by rfl)
  (hfew:((backTo cpos (starEach [e] X.env)).all (fun x=>!x.1)&&(backToKw cpos (keywordEach [] X.env)).all (fun x=>x.1.isSome)
   && decide ([e].length+([]:List Keyword).length+(if([]:List Keyword).isEmpty then 0 else 1)<30))=true:=by rfl)
  (hline:(apos.endLine==cpos.line)=true:=by rfl) (hs:starEach [e] X.env=(false,eval e X.env)::starEach [] X.env:=by rfl):
  JE X XQ (.Call (.Attribute o "count" apos) [e] [] cpos) (mt cntD fo f):=je_meth PySem.F.slot_list_count PySem.F.type_list_count mt_cnt md_cnt ho ha hbase hfew hline hs rfl
theorem je_index{o e:Expr}{apos cpos:Pos}{fo:Ev D}{f:Ev (List D)}(ho:JE X XQ o fo)(ha:JA X XQ [e] f)(hbase:attributeBase o "index" X.env (eval o X.env)=eval o X.env:=by rfl)
  (hfew:((backTo cpos (starEach [e] X.env)).all (fun x=>!x.1)&&(backToKw cpos (keywordEach [] X.env)).all (fun x=>x.1.isSome)
   && decide ([e].length+([]:List Keyword).length+(if([]:List Keyword).isEmpty then 0 else 1)<30))=true:=by rfl)
  (hline:(apos.endLine==cpos.line)=true:=by rfl) (hs:starEach [e] X.env=(false,eval e X.env)::starEach [] X.env:=by rfl):
  JE X XQ (.Call (.Attribute o "index" apos) [e] [] cpos) (mt idxD fo f):=je_meth PySem.F.slot_list_index PySem.F.type_list_index mt_idx md_idx ho ha hbase hfew hline hs rfl
end
end DL
set_option Elab.async false
set_option linter.all false
set_option maxRecDepth 100000
namespace DL
open PySem PySem.Spec PyProof.Rows L2
def xclB(K:PySem.W.Frag)(c:Addr):Bool:=
 (PySem.W.findIn K (.ref c) "__getattribute__"==some (some (.builtin "BaseException.__getattribute__")))&&((PySem.W.findIn K (.ref c) "__getattr__"==some none)&&((PySem.W.findIn K (.ref c) "__class__"==some (some (.builtin "object.__class__")))
  && ((PySem.W.clsIn K c).isSome&&((PySem.W.mroIn K c (.type "object")==some true)&&((PySem.W.subIn K (.ref c) (.type "BaseException")==some true)&&["bool","int","str","tuple","list"].all fun T=>PySem.W.kitOne K (.ref c) (.type T)==some false)))))
theorem xcl_of{K:PySem.W.Frag}{c:Addr}(h:xclB K c=true):XCl K c:=by
 unfold xclB at h
 simp only[Bool.and_eq_true,beq_iff_eq,List.all_eq_true] at h
 obtain⟨h1,h2,h3,h4,h5,h6,h7⟩:=h
 exact⟨h1,h2,h3,h4,h5,h6,h7⟩
def xrowB(K:PySem.W.Frag)(cs:Addr)(l:List (Str×Addr))(p:Str×Addr):Bool:=
 (PySem.W.nsIn K mainGlobals p.1==some (some (.ref p.2)))&&(xclB K p.2&&((PySem.W.exmOne K (.ref p.2) (.ref cs)==some true)&&((PySem.W.kitOne K (.ref p.2) (.type "ValueError")==some true)&&l.all fun q=>PySem.W.kitOne K (.ref p.2) (.ref q.2)==some (decide (p.1∈[q.1])))))
def xtabB(K:PySem.W.Frag)(cs:Addr)(l m:List (Str×Addr)):Bool:=(l.all fun p=>xrowB K cs m p)&&m.all fun q=>PySem.W.nsIn K mainGlobals q.1==some (some (.ref q.2))
structure XT(K:PySem.W.Frag)(mg:Str→Option Value)(sup:Str)(ys ms:List Str):Prop where
 cat:Cat K mg sup ys
 isx:∀ x∈ms,Isx K mg x ys [x]
 val:IsxB K "ValueError" ys ys
 xns:XNs K ys
theorem xt_mk{K:PySem.W.Frag}{h:Heap}{mg:Str→Option Value}{sup:Str}{cs:Addr}{l m:List (Str×Addr)}(X:K.In h)(G:h.Ns mainGlobals mg)(a:PySem.W.nsIn K mainGlobals sup=some (some (.ref cs)))(t:xtabB K cs l m=true):XT K mg sup (l.map (·.1)) (m.map (·.1)):=by
 unfold xtabB at t
 rw[Bool.and_eq_true] at t
 obtain⟨t,tm⟩:=t
 have qm:∀ r∈m,CN K r.1 r.2:=fun r hr=>beq_iff_eq.mp (List.all_eq_true.mp tm r hr)
 have q:∀ p∈l,CN K p.1 p.2∧XCl K p.2∧PySem.W.exmOne K (.ref p.2) (.ref cs)=some true∧PySem.W.kitOne K (.ref p.2) (.type "ValueError")=some true∧∀ r∈m,PySem.W.kitOne K (.ref p.2) (.ref r.2)=some (decide (p.1∈[r.1])):=fun p hp=>by
  have z:=List.all_eq_true.mp t p hp
  unfold xrowB at z
  simp only[Bool.and_eq_true,beq_iff_eq,List.all_eq_true] at z
  obtain⟨h1,h2,h3,h4,h5⟩:=z
  exact⟨h1,xcl_of h2,h3,h4,h5⟩
 refine⟨⟨cs,PySem.W.mg_of X G a,fun y hy=>?_⟩,fun x hx=>?_,⟨fun y hy=>?_⟩,fun y hy=>?_⟩
 ·obtain⟨p,hp,rfl⟩:=List.mem_map.mp hy
  obtain⟨h1,h2,h3,h4,h5⟩:=q p hp
  exact⟨p.2,h1,h2,h3⟩
 ·obtain⟨r,hr,rfl⟩:=List.mem_map.mp hx
  refine⟨r.2,PySem.W.mg_of X G (qm r hr),fun y hy=>?_⟩
  obtain⟨p,hp,rfl⟩:=List.mem_map.mp hy
  obtain⟨h1,h2,h3,h4,h5⟩:=q p hp
  exact⟨p.2,h1,h5 r hr⟩
 ·obtain⟨p,hp,rfl⟩:=List.mem_map.mp hy
  obtain⟨h1,h2,h3,h4,h5⟩:=q p hp
  exact⟨p.2,h1,by rw[h4,decide_eq_true hy]⟩
 ·obtain⟨p,hp,rfl⟩:=List.mem_map.mp hy
  obtain⟨h1,h2,h3,h4,h5⟩:=q p hp
  exact⟨p.2,h1,h2⟩
def kxB(K:PySem.W.Frag)(C:Addr):Bool:=match K.lookup C with
 | some ⟨.type "type",_,.cls cd,sl⟩=>(match cd.mro,sl.toList with
  | .ref C'::bm,[_,_,_,_,some (.builtin n),_]=>C'==C&&(!cd.hasDel&&(n=="ValueError.__new__"&&(bm.contains (.type "ValueError")&&(!bm.contains (.type "AttributeError")&&(!bm.contains (.type "NameError")&&bm.contains (.type "BaseException"))))))
  | _,_=>false)
 | _=>false
theorem kx_of{K:PySem.W.Frag}{C:Addr}(q:kxB K C=true):KX K C:=by
 unfold kxB at q
 split at q
 ·rename_i dd cd sl ho
  split at q
  ·rename_i C' bm k0 k1 k2 k3 n k5 hm hs
   simp only[Bool.and_eq_true,beq_iff_eq,Bool.not_eq_true'] at q
   obtain⟨rfl,hdel,hn,h1,h2,h3,h4⟩:=q
   subst hn
   obtain⟨nm,bs,mro,ns,qn,hd,sn,sub,ab,col,del⟩:=cd
   dsimp only at hm hdel
   subst hm hdel
   have hsl:sl=#[k0,k1,k2,k3,some (.builtin "ValueError.__new__"),k5]:=by
    obtain⟨l⟩:=sl
    simp only at hs
    rw[hs]
   subst hsl
   exact⟨nm,qn,ns,bs,bm,hd,sn,sub,ab,col,dd,k0,k1,k2,k3,k5,ho,⟨h1,h2,h3,h4⟩⟩
  ·cases q
 ·cases q
def clxB(K:PySem.W.Frag)(c f:Addr):Bool:=kxB K c&&(PySem.W.findIn K (.ref c) "__init__"==some (some (.ref f)))
section
variable{P:Program}{w:World}{K:PySem.W.Frag}{mg:Str→Option Value}{base:Heap}
structure IniX(P:Program)(w:World)(K:PySem.W.Frag)(mg:Str→Option Value)(base:Heap)(f:Addr)(j:Nat):Prop where
 ex:∃ fd ps oI,K.lookup f=some oI∧oI.cls=.type "function"∧FnOk P w K mg base CX0 j f fd ps (spI K)∧ps.length=2∧Binds K fd ps []
theorem clx_mk{h:Heap}{x:Str}{C f:Addr}{j:Nat}(X:K.In h)(G:h.Ns mainGlobals mg)(i:IniX P w K mg base f j)(a:PySem.W.nsIn K mainGlobals x=some (some (.ref C)))(t:clxB K C f=true):ClX P w K mg base x j:=by
 obtain⟨fd,ps,oI,l,c,F,n,b⟩:=i.ex
 unfold clxB at t
 simp only[Bool.and_eq_true,beq_iff_eq] at t
 exact⟨C,f,fd,ps,oI,PySem.W.mg_of X G a,a,kx_of t.1,t.2,l,c,F,n,b⟩
abbrev tInit(K:PySem.W.Frag):TS:=tDrop (tVI K (tCons (tVar 0) (tCons (tVar 1) tNil)))
theorem ini_mk{st:Stmt}{f:Addr}{od an:Option Addr}{osl:Array (Option Value)}{kV doc pm cdv ct:Value}(l:K.lookup f=some ⟨.type "function",od,.func (PySem.W.fnOf "__init__" "SummitError.__init__" (defArgs st) (defBody st) (defScope st) .none kV doc pm an cdv ct),osl⟩)
  (c:PySem.W.codeIn K cdv "SummitError.__init__"=true) (k:PySem.W.keepIn K (.ref f)=true) (Sc:FnScope ["self","text"] ["self","text"] (defScope st))
  (hb:∀ (f:Addr) (cdv:Value) (A:Around) (outer:List PySem.Env) (s:Shared) (H:Hp) (E:XK),PSs (cxOf CX0 P w K mg base ["self","text"] "SummitError.__init__" (defScope st) f cdv A outer s H E).nox (defBody st) (tInit K))
  (bi:∀ (kV doc pm:Value) (an:Option Addr) (cdv ct:Value) (us:List Value),us.length=2→bindArgs (PySem.W.fnOf "__init__" "SummitError.__init__" (defArgs st) (defBody st) (defScope st) .none kV doc pm an cdv ct) ⟨us,[]⟩=pure ((["self","text"]:List Str).zip us)):IniX P w K mg base f 1:=by
 have F:=fun_mk (st:=st) l c k
 refine⟨_,["self","text"],_,l,rfl,?_,rfl,F.binds bi⟩
 refine Fun.ok F Sc (fun vs H Q E ⟨e,v,C,dx,ev,_⟩=>by rw[ev]; rfl) fun cdv A outer s H vs Q E hr ⟨e,v,C,dx,ev,hH,kx,q⟩=>?_
 refine⟨_,hb _ cdv A outer s H E,?_⟩
 subst ev
 exact⟨.ref e,rfl,v,rfl,e,v,C,dx,rfl,hH,kx,q⟩
end
end DL
set_option Elab.async false
set_option linter.all false
set_option maxRecDepth 100000
namespace DL
open PySem PySem.Spec PyProof.Rows L2
section
variable{X:Cx}{XQ:XW}
def rngB(i j:Int):Prop:=(-1000000000000≤i∧i≤1000000000000) ∧ -1000000000000≤j∧j≤1000000000000
instance {i j:Int}:Decidable (rngB i j):=inferInstanceAs (Decidable ((-1000000000000≤i∧i≤1000000000000) ∧ -1000000000000≤j∧j≤1000000000000))
end
end DL
set_option Elab.async false
set_option linter.all false
set_option maxRecDepth 100000
namespace DL
open PySem PySem.Spec PyProof.Rows L2
structure FvT(K:PySem.W.Frag)(mg:Str→Option Value)(x:Str):Prop where
 ex:∃ f,CN K x f∧mg x=some (.ref f)
end DL
set_option Elab.async false
set_option linter.all false
set_option maxRecDepth 100000
namespace DL
open PySem PySem.Spec PyProof.Rows L2
section
variable{prog:Program}{w:World}{A:Around}{E:Value→Shared→Prop}{K:PySem.W.Frag}{h:Heap}{g:Array GenState}{d:Drawn}{t:Nat}{os:OsState}{a c dx:Addr}
theorem xa_entry{tk:Tok}{Q:Fin→Shared→Prop}{oe:Obj}{vs:Array Value}{m:Str→Option Value}{v:Value}(X:K.In h)(k:XCl K c)(na:PySem.W.findIn K (.ref c) "at"=some none)(hx:h.get? a=some oe)(hc:oe.cls=.ref c)(hd:oe.dict=some dx)(hf:oe.data=.fields vs)(hh:PySem.W.hasDictIn K c=true)(hn:h.Ns dx m)(hm:m "at"=some v)
  (hq:Q (.done (.ret v)) ⟨h,g,d,t,os⟩):
  wpAny (model prog w) A (Builtin.«object.__getattribute__» ⟨[.ref a,.str "at" tk],[]⟩) Q E ⟨h,g,d,t,os⟩:=by
 have L1:=fun(M:Model)=>PySem.W.looks_findIn (M:=M) X na
 repeat (any_goals (first | assumption | (with_reducible refine wpAny_loadPart_at hx ?_; rw[hc]) | with_reducible refine(L1 _).here ?_ | wp_step))
 rw[hf]
 obtain⟨cd,hcl,hcd⟩:=PySem.W.any_some hh
 show wpAny _ _ (instanceDict a false) _ _ _
 unfold instanceDict
 refine wpAny_bind (wpAny_loadPart_at hx ?_)
 rw[hc]
 refine wpAny_bind ((PySem.W.looks_clsIn X hcl).here ?_)
 rw[hcd,hd]
 refine wpAny_pure ?_
 show wpAny _ _ (nsGet dx "at") _ _ _
 refine wpAny_nsGet hn ?_
 rw[hm]
 repeat (any_goals (first | assumption | wp_step))
theorem xa_by{tk:Tok}{fill expr:Bool}{Q:Value→Shared→Prop}{oe:Obj}{vs:Array Value}{m:Str→Option Value}{n:Int}{tv:Tok}(X:K.In h)(k:XCl K c)(na:PySem.W.findIn K (.ref c) "at"=some none)(hh:PySem.W.hasDictIn K c=true)(hx:h.get? a=some oe)(hc:oe.cls=.ref c)(hd:oe.dict=some dx)(hf:oe.data=.fields vs)(hn:h.Ns dx m)(hm:m "at"=some (.int n tv))
  (hq:Q (.int n tv) ⟨h,g,d,t,os⟩):wpAny (model prog w) A (getAttrBy (.ref a) (.str "at" tk) fill expr) Q E ⟨h,g,d,t,os⟩:=by
 have f3:=PySem.F.excAttr_ValueError.ga.bind (.ref a)
 have n0:(expr&&onTheHeap (Value.builtin "BaseException.__getattribute__"))=false:=by cases expr<;>rfl
 have n2:(Value.builtin "BaseException.__getattribute__"==Value.builtin "object.__getattribute__")=false:=by decide +kernel
 have n1:(onTheHeap (Value.ref c)&&Value.builtin "BaseException.__getattribute__"==Value.builtin "object.__getattribute__")=false:=by rw[n2]; rfl
 have L1:=fun(M:Model)=>PySem.W.looks_findIn (M:=M) X k.ga
 have L2:=fun(M:Model)=>PySem.W.looks_findIn (M:=M) X k.gt
 have x:XAt a c h:=⟨oe,hx,hc,vs,hf⟩
 repeat (any_goals (first | assumption | (with_reducible refine wpAny_loadPart_at hx ?_; rw[hc]) | with_reducible refine(L1 _).here ?_ | with_reducible refine(L2 _).here ?_ | wp_step))
 refine codeAny_call_builtin PySem.F.excAttr_ValueError.ga.plain F.entry_bexc_ga (xc_check X k x (xa_entry X k na hx hc hd hf hh hn hm ?_))
 repeat (any_goals (first | assumption | wp_step))
theorem xa_get{expr:Bool}{Q:Value→Shared→Prop}{oe:Obj}{vs:Array Value}{m:Str→Option Value}{n:Int}{tv:Tok}(X:K.In h)(k:XCl K c)(na:PySem.W.findIn K (.ref c) "at"=some none)(hh:PySem.W.hasDictIn K c=true)(hx:h.get? a=some oe)(hc:oe.cls=.ref c)(hd:oe.dict=some dx)(hf:oe.data=.fields vs)(hn:h.Ns dx m)(hm:m "at"=some (.int n tv))
  (hq:Q (.int n tv) ⟨h,g,d,t+1,os⟩):wpAny (model prog w) A (getAttr (.ref a) "at" expr) Q E ⟨h,g,d,t,os⟩:=by
 unfold getAttr
 repeat (any_goals (first | assumption | with_reducible apply xa_by X k na hh hx hc hd hf hn hm | wp_step))
end
def veTail:List Value→Bool
 | .ref _::r=>veTail r
 | l=>l==[.type "ValueError",.type "Exception",.type "BaseException",.type "object"]
abbrev VE4:List Value:=[.type "ValueError",.type "Exception",.type "BaseException",.type "object"]
theorem ve_other{v:Value}{r:List Value}(h:∀ a,v≠.ref a)(q:veTail (v::r)=true):v::r=VE4:=by
 cases v<;>first | exact beq_iff_eq.mp q | exact absurd rfl (h _)
theorem ve_refuse(self:Value):∀ (l:List Value),veTail l=true→refuseLoop self "__setattr__" l=pure ()
 | [],q=>by cases q
 | v::r,q=>by
  by_cases c:∃ a,v=.ref a
  ·obtain⟨a,rfl⟩:=c
   rw[refuseLoop_ref]
   exact ve_refuse self r q
  ·rw[ve_other (fun a z=>c ⟨a,z⟩) q]
   exact PySem.F.store_ValueError.passes self
theorem ve_has:∀ (l:List Value),veTail l=true→l.contains (.type "object")=true
 | [],q=>by cases q
 | v::r,q=>by
  by_cases c:∃ a,v=.ref a
  ·obtain⟨a,rfl⟩:=c
   rw[List.contains_cons,ve_has r q,Bool.or_true]
  ·rw[ve_other (fun a z=>c ⟨a,z⟩) q]
   decide
section
variable{prog:Program}{w:World}{A:Around}{K:PySem.W.Frag}{s:Shared}{x C:Addr}{R:Result→Shared→Prop}
theorem xs_open{ox:Obj}{od:Option Obj}{nm:Str}{tk:Tok}{v:Value}(X:K.In s.heap)(J:PySem.W.InstAt s.heap x ox C od)(hp:(PySem.W.clsIn K C).any (fun cd=>veTail cd.mro)=true)(na:PySem.W.findIn K (.ref C) nm=some none)
  (hq:wpAny (model prog w) A.in1 (Builtin.ObjectAttr.storeInOwnDict (.ref x) (.ref C) (.str nm tk) nm v false)
   (fun fin s'=>match fin with | .done f=>R (.ok f) s' | .again c'=>c'.quiet=true∧codeAny (model prog w) A c' R s') (fun e s'=>R (.error e) s') s):
  codeAny (model prog w) A (.call (.builtin "object.__setattr__") ⟨[.ref x,.str nm tk,v],[]⟩) R s:=by
 obtain⟨cd,hcl,hve⟩:=PySem.W.any_some hp
 have hE:cd.mro.isEmpty=false:=by
  cases z:cd.mro with
  | nil=>rw[z] at hve; cases hve
  | cons _ _=>rfl
 have isO:PySem.W.Looks (model prog w) s.heap (isInstance (.ref x) (.type "object")) true:=J.type.andThen (PySem.W.looks_mroIn X (by unfold PySem.W.mroIn; rw[hcl,Option.bind_some,hE,if_neg Bool.false_ne_true,ve_has _ hve]))
 have so:=PySem.F.store_object
 refine codeAny_call_builtin so.slot.plain so.entry (@PySem.W.check_slot (model prog w) _ _ s "object.__setattr__" "object" "__setattr__" (.ref x) [.str nm tk,v] [] _ so.kind so.split isO (so.args (.ref x) (.str nm tk) v) ?_)
 rw[PySem.W.osa_eq,refuse_eq]
 refine wpAny_bind (wpAny_bind (J.type.here (wpAny_bind (PySem.W.Looks.here ((PySem.W.looks_clsIn X hcl).andThen .now) ?_))))
 rw[ve_refuse _ _ hve]
 exact wpAny_pure (wpAny_bind (J.type.here (wpAny_bind ((PySem.W.looks_findIn X na).here (wpAny_bind (wpAny_pure hq))))))
set_option maxHeartbeats 1000000 in
theorem xs_tail{E:Value→Shared→Prop}{vs:Array Value}{sl:Array (Option Value)}{nm:Str}{tk:Tok}{v:Value}{Q:Fin→Shared→Prop}(X:K.In s.heap)(hh:PySem.W.hasDictIn K C=true)(hx:s.heap.get? x=some ⟨.ref C,none,.fields vs,sl⟩)
  (hq:∀ h' tk',h'.get? x=some ⟨.ref C,some s.heap.objs.size,.fields vs,sl⟩→h'.Ns s.heap.objs.size (fun y=>if y=nm then some v else none)→(∀ b o,b≠x→s.heap.get? b=some o→h'.get? b=some o)→Q (.done (.ret .none)) { s with heap:=h',toks:=tk' }):
  wpAny (model prog w) A (Builtin.ObjectAttr.storeInOwnDict (.ref x) (.ref C) (.str nm tk) nm v false) Q E s:=by
 obtain⟨cd,hcl,hcd⟩:=PySem.W.any_some hh
 have nx:x≠s.heap.objs.size:=Nat.ne_of_lt (Heap.lt_size hx)
 have x1:(s.heap.push { cls:=.type "dict",data:=.dict #[] }).get? x=some ⟨.ref C,none,.fields vs,sl⟩:=Heap.get?_push_of_some _ hx
 have x2:=Heap.get?_update_self (fun o:Obj=>{ cls:=o.cls,dict:=some s.heap.objs.size,data:=o.data,slots:=o.slots }) x1 rfl
 have d2:((s.heap.push { cls:=.type "dict",data:=.dict #[] }).update x fun o=>{ cls:=o.cls,dict:=some s.heap.objs.size,data:=o.data,slots:=o.slots }).get? s.heap.objs.size=some { cls:=.type "dict",data:=.dict #[] }:=
  (Heap.get?_update_other _ _ nx).trans (Heap.get?_push_size s.heap rfl)
 have nd:((s.heap.push { cls:=.type "dict",data:=.dict #[] }).update x fun o=>{ cls:=o.cls,dict:=some s.heap.objs.size,data:=o.data,slots:=o.slots }).Ns s.heap.objs.size (fun _=>none):=⟨_,#[],_,d2,rfl,fun e he=>absurd he (by simp),fun _=>rfl⟩
 have kp:∀ b o,b≠x→s.heap.get? b=some o→((s.heap.push { cls:=.type "dict",data:=.dict #[] }).update x fun o=>{ cls:=o.cls,dict:=some s.heap.objs.size,data:=o.data,slots:=o.slots }).get? b=some o:=fun b o hb q=>(Heap.get?_update_other _ _ (Ne.symm hb)).trans (Heap.get?_push_of_some _ q)
 unfold Builtin.ObjectAttr.storeInOwnDict
 generalize hS:Builtin.ObjectAttr.storeInDict=F
 repeat (any_goals (first | with_reducible refine wpAny_loadPart_at hx ?_ | with_reducible refine(PySem.W.looks_clsIn X hcl).here ?_ | wp_step))
 subst hS
 show wpAny _ _ (Builtin.ObjectAttr.storeInDict s.heap.objs.size (.str nm tk) nm v) _ _ _
 unfold Builtin.ObjectAttr.storeInDict Builtin.ObjectAttr.newKeyGuard
 refine wpAny_bind (wpAny_pure (wpAny_bind (wpAny_nsSet1 (Heap.Ns1.of_empty nd) fun h' n' sb=>?_)))
 obtain⟨oD,eD,pD,hD,dD,cD⟩:=n'.count (PySem.Within.cons nm v PySem.Within.nil)
 refine wpAny_bind (wpAny_lookBehind hD (by rw[dD]; exact pastItsLine_dict (Nat.le_trans cD (by rw[List.length_cons,List.length_nil,sizeLine_eq]; omega))) ?_)
 refine wpAny_pure (hq h' _ ((sb.2 x nx).trans x2) ?_ fun b o hb q=>(sb.2 b (Nat.ne_of_lt (Heap.lt_size q))).trans (kp b o hb q))
 exact n'.ns
end
end DL
set_option Elab.async false
set_option linter.all false
set_option maxRecDepth 100000
namespace DL
open PySem PySem.Spec PyProof.Rows L2
structure KA(K:PySem.W.Frag)(C:Addr):Prop where
 sa:PySem.W.findIn K (.ref C) "__setattr__"=some (some (.builtin "object.__setattr__"))
 ve:(PySem.W.clsIn K C).any (fun cd=>veTail cd.mro)=true
 na:PySem.W.findIn K (.ref C) "at"=some none
 hd:PySem.W.hasDictIn K C=true
section
variable{X:Cx}{pins:List (Addr×Obj)}{σ:L2.St}{H:Hp}{s:Shared}{C e:Addr}
theorem xa_step{d:Addr}{n:Int}(h1 h2:Heap)(q:∃ t,h1.Ns d fun y=>if y="at" then some (.int n t) else none)(k:∀ o,h1.get? d=some o→h2.get? d=some o):∃ t,h2.Ns d fun y=>if y="at" then some (.int n t) else none:=by
 obtain⟨t,o,es,ep,ho,r⟩:=q
 exact⟨t,o,es,ep,k _ ho,r⟩
theorem set_at{E:Value→Shared→Prop}{A:Around}{n:Int}{t:Tok}{Q:Unit→Shared→Prop}(I:Inv X pins σ H s)(ka:KA X.K C)(hH:H e=some (FX e C none))(h:∀ s' d,H d=none→d≠e→Inv X pins σ (upd (upd H e (FX e C (some d))) d (XA d n)) s'→Q () s'):
  wpAny (model X.prog X.w) A (setAttr (.ref e) "at" (.int n t)) Q E s:=by
 obtain⟨⟨t0,he⟩,_,_⟩:=(show ObjOk X.prog X.w H s.heap e (FX e C none) from I.hok e _ hH)
 have J:PySem.W.InstAt s.heap e ⟨.ref C,none,.fields #[.ref t0,.none,.none,.none,.bool false,.none],#[]⟩ C none:=⟨he,rfl,rfl,trivial⟩
 refine PySem.W.set_plain I.kIn J ka.sa (xs_open (s:={ s with toks:=s.toks+1 }) I.kIn J ka.ve ka.na (xs_tail (s:={ s with toks:=s.toks+1 }) I.kIn ka.hd he fun h' tk' g1 n1 kp=>?_))
 have hn:H s.heap.objs.size=none:=I.hok.fresh (Nat.le_refl _)
 have hdn:s.heap.get? s.heap.objs.size=none:=Heap.get?_none_of_le (Nat.le_refl _)
 have hne:s.heap.objs.size≠e:=Nat.ne_of_gt (Heap.lt_size he)
 have I1:=I.write (h':=h') (x:=e) (e:=e) (o:=FX e C (some s.heap.objs.size)) (t':=tk') (by rw[hH]; exact trivial) (.inl rfl) (fun b u hb hu=>kp b u hb hu) ⟨_,g1⟩ (fx_ok ⟨_,g1⟩)
 refine h _ s.heap.objs.size hn hne (inv_know (φ:=fun h=>∃ t,h.Ns s.heap.objs.size fun y=>if y="at" then some (.int n t) else none) I1 (by rw[upd_ne hne]; exact hn) (Heap.get?_none_of_le I.sz) (fun z=>?_) (fun x c hc z=>?_) (fun p hp z=>?_) ⟨t,n1⟩ (let ⟨o,_,_,q,_⟩:=n1; ⟨o,q⟩) xa_step)
 ·obtain⟨m,⟨o,es,ep,ho,_⟩,_⟩:=I.loc
  rw[←z,hdn] at ho
  cases ho
 ·obtain⟨v,o,ho,_⟩:=I.cell x c hc
  rw[z,hdn] at ho
  cases ho
 ·obtain⟨q1,_⟩:=I.pin p hp
  rw[z,hdn] at q1
  cases q1
def sAt(K:PySem.W.Frag)(ta tv:TE):TS:=fun D σ H=>tv σ H fun y H1=>ta σ H1 fun x H2=>∃ e C n,x=.ref e∧y=.int n∧H2 e=some (FX e C none)∧KA K C∧∀ d,H2 d=none→d≠e→D.nx σ (upd (upd H2 e (FX e C (some d))) d (XA d n))
theorem ps_at{o value:Expr}{pos pos':Pos}{ta tv:TE}(ha:PE X o ta)(hv:PE X value tv)(hs:swapsWith value (some (.Attribute o "at" pos')) pos.line X.env=pure false:=by rfl):PS X (.Assign [.Attribute o "at" pos'] value pos) (sAt X.K ta tv):=by
 intro pins s σ H D I h
 refine plainObj_wpAny_Assign_Attribute (thn (hv pins s σ H _ I h) fun u s1 ⟨y,H1,I1,ry,q⟩=>thn (ha pins s1 σ H1 _ I1 q) fun ov s2 ⟨x,H2,I2,rx,e,C,n,ex,ey,hH,ka,q2⟩=>?_) hs
 subst ex ey
 obtain rfl:ov=Value.ref e:=rx
 obtain⟨t,rfl⟩:=(show ∃ t,u=Value.int n t from ry)
 exact set_at I2 ka hH fun s3 d hd hne I3=>⟨σ,_,I3,q2 d hd hne⟩
structure BaseI(K:PySem.W.Frag)(mg:Str→Option Value)(x:Str)(f:Addr):Prop where
 ex:∃ cs mc,mg x=some (.ref cs)∧PySem.W.readsIn K cs mc=true∧PySem.W.findCls K (.ref cs) mc "__init__"=some (.val (.ref f))∧PySem.W.specialIn K (.ref cs) "__getattribute__"=some (some (.builtin "type.__getattribute__"))∧PySem.W.keepIn K (.ref f)=true
theorem pe_sinit{x:Str}{f:Addr}{fd:FuncData}{ps:List Str}{j k:Nat}{a b:Expr}{t:TA}{p apos pos:Pos}{pl:Sem Bool}(hg:Gl X x)(hdb:(x==("__debug__":Str))=false)(bi:BaseI X.K X.mg x f)(F:FnOk X.prog X.w X.K X.mg X.base CX0 j f fd ps (spI X.K))(hl:ps.length=2)(hr:Room k X.A)(hj:j≤k)(hb:Binds X.K fd ps [])(ha:PA X [a,b] t)
  (ht:eval (.Call (.Attribute (.Name x p) "__init__" apos) [a,b] [] pos) X.env=(do
   let ov ←eval (.Name x p) X.env
   standAt apos.atName
   let (f,first) ←holding [ov] (getMethod ov "__init__" pl)
   callWith pos f first (backTo pos (starEach [a,b] X.env)) (backToKw pos (keywordEach [] X.env))))
  (hs:starEach [a,b] X.env=(false,eval a X.env)::starEach [b] X.env:=by rfl) (hpl:(backTo pos (starEach [b] X.env)).any (·.1)=false:=by rfl):
  PE X (.Call (.Attribute (.Name x p) "__init__" apos) [a,b] [] pos) (tVI X.K t):=by
 intro pins s σ H Q I h
 obtain⟨cs,mc,hm,rd,fc,sg,kp⟩:=bi.ex
 refine PySem.W.methodCall_KW (pl:=pl) (ld_glob I hg hm ?_ hdb) ht
 refine PySem.W.method_cls I.kIn sg (PySem.W.cls_value I.kIn rd fc rfl ?_)
 have I0:Inv X pins σ H { s with toks:=s.toks+1 }:=I.tok _
 refine PySem.W.callWith_K (h₀:=X.base) I0.ok.mod.kin kp (thn (ha pos pins _ σ H _ I0 h) fun us s1 ⟨vs,H1,I1,r,e,v,C,dx,ev,hH,kx,q⟩=>⟨I1.kIn,?_⟩) hs hpl
 exact run_fn (dvs:=[]) (ds:=[]) (E:=E0) (F.mono hj) hr hb .nil (fun _ _ _ _ _ _ _ z=>z.elim) I1 r (by rw[List.append_nil]; exact⟨e,v,C,dx,ev,hH,kx,q⟩)
end
end DL
set_option Elab.async false
set_option linter.all false
set_option maxRecDepth 100000
namespace DL
open PySem PySem.Spec PyProof.Rows L2
def spJ(K:PySem.W.Frag):Sp:=fun vs H Q _=>∃ e n C,vs=[.ref e,.int n]∧H e=some (FX e C none)∧(KX K C∧KA K C)∧∀ d,H d=none→d≠e→Q .non (upd (upd H e (FX e C (some d))) d (XA d n))
abbrev tInitJ(K:PySem.W.Frag)(x:Str):TS:=tSeq (tDrop (tVI K (tCons (tVar 0) (tCons (tC (.str x)) tNil)))) (sAt K (tVar 0) (tVar 1))
section
variable{P:Program}{w:World}{K:PySem.W.Frag}{mg:Str→Option Value}{base:Heap}
structure IniJ(P:Program)(w:World)(K:PySem.W.Frag)(mg:Str→Option Value)(base:Heap)(f:Addr)(j:Nat):Prop where
 ex:∃ fd ps oI,K.lookup f=some oI∧oI.cls=.type "function"∧FnOk P w K mg base CX0 j f fd ps (spJ K)∧ps.length=2∧Binds K fd ps []
theorem inj_mk{st:Stmt}{q x:Str}{f:Addr}{od an:Option Addr}{osl:Array (Option Value)}{kV doc pm cdv ct:Value}(k:Nat)(l:K.lookup f=some ⟨.type "function",od,.func (PySem.W.fnOf "__init__" q (defArgs st) (defBody st) (defScope st) .none kV doc pm an cdv ct),osl⟩)
  (c:PySem.W.codeIn K cdv q=true) (kp:PySem.W.keepIn K (.ref f)=true) (Sc:FnScope ["self","at"] ["self","at"] (defScope st))
  (hb:∀ (f:Addr) (cdv:Value) (A:Around) (outer:List PySem.Env) (s:Shared) (H:Hp) (E:XK),Room k (A.deeper (envOfC q (defScope st) s.heap.objs.size f cdv))→PSs (cxOf CX0 P w K mg base ["self","at"] q (defScope st) f cdv A outer s H E).nox (defBody st) (tInitJ K x))
  (bi:∀ (kV doc pm:Value) (an:Option Addr) (cdv ct:Value) (us:List Value),us.length=2→bindArgs (PySem.W.fnOf "__init__" q (defArgs st) (defBody st) (defScope st) .none kV doc pm an cdv ct) ⟨us,[]⟩=pure ((["self","at"]:List Str).zip us)):IniJ P w K mg base f (k+1):=by
 have F:=fun_mk (st:=st) l c kp
 refine⟨_,["self","at"],_,l,rfl,?_,rfl,F.binds bi⟩
 refine Fun.ok F Sc (fun vs H Q E ⟨e,n,C,ev,_⟩=>by rw[ev]; rfl) fun cdv A outer s H vs Q E hr ⟨e,n,C,ev,hH,⟨kx,ka⟩,q⟩=>?_
 refine⟨_,hb _ cdv A outer s H E hr,?_⟩
 subst ev
 exact⟨.ref e,rfl,e,.str x,C,none,rfl,hH,kx,.int n,rfl,.ref e,rfl,e,C,n,rfl,rfl,hH,ka,fun d hd hne=>q d hd hne⟩
end
section
variable{X:Cx}{pins:List (Addr×Obj)}{σ:L2.St}{H:Hp}{s:Shared}{C f:Addr}{fd:FuncData}{ps:List Str}{k:Nat}
theorem run_xj{oI:Obj}{n:Int}{u:Value}(kx:KX X.K C)(ka:KA X.K C)(hi:PySem.W.findIn X.K (.ref C) "__init__"=some (some (.ref f)))(lf:X.K.lookup f=some oI)(hfc:oI.cls=.type "function")
  (F:FnOk X.prog X.w X.K X.mg X.base CX0 k f fd ps (spJ X.K)) (hl:ps.length=2) (hr:Room (k+1) X.A) (hb:Binds X.K fd ps []) (I:Inv X pins σ H s) (rv:RelV (.int n) u):
  wpAny (model X.prog X.w) X.A (call (.ref C) [u]) (fun r s'=>∃ e d,r=.ref e∧(H e=none∧H d=none∧d≠e∧X.s₀.heap.get? e=none)∧Inv X pins σ (upd (upd (upd H e (FX e C none)) e (FX e C (some d))) d (XA d n)) s') X.xe s:=by
 obtain⟨nm,qn,N,bs,bm,hdct,sn,sub,ab,col,dd,k0,k1,k2,k3,k5,lk,xb⟩:=kx.ex
 obtain⟨hp,g,d,tk,os⟩:=s
 refine x_call xb I.kIn (I.kIn _ _ lk) hi (I.kIn _ _ lf) hfc fun h' e le hm=>?_
 have hn:H e=none:=I.hok.fresh le
 have h0:X.s₀.heap.get? e=none:=Heap.get?_none_of_le (Nat.le_trans I.sz le)
 obtain⟨t,ht,_,_⟩:=hm.there
 have I1:Inv X pins σ (upd H e (FX e C none)) ⟨h',g,d,tk,os⟩:=I.laid (t':=tk) hm.keeps le (fx_ok ⟨t,ht⟩)
 refine wpAny_call (codeAny_mono (F.run (X.A.under (.builtin "type.__call__" ⟨[.ref C,u],[]⟩)) X.stack ⟨h',g,d,tk,os⟩ (upd H e (FX e C none)) ⟨[.ref e,u],[]⟩ [.ref e,u] [.ref e,.int n] (fun v' H'=>v'=.non∧∃ d,upd H e (FX e C none) d=none∧d≠e∧H'=upd (upd (upd H e (FX e C none)) e (FX e C (some d))) d (XA d n)) E0
  (hr.make C [u] []) (I1.env0.make C [u] []) (by have:=hb ⟨h',g,d,tk,os⟩ [.ref e,u] I1.kIn (by simpa using hl.symm); simpa using this) (.cons rfl (.cons rv .nil)) ⟨e,n,C,rfl,upd_same,⟨kx,ka⟩,fun d hd hne=>⟨rfl,d,hd,hne,rfl⟩⟩) fun r s' hq=>?_)
 cases r with
 | error x=>exact hq.elim
 | ok fl=>
  cases fl with
  | ret u'=>
   obtain⟨v',H',I',r',e1,d,hd,hne,e2⟩:=I1.after hq
   subst e1 e2
   exact⟨r',e,d,rfl,⟨hn,by rw[upd_ne hne] at hd; exact hd,hne,h0⟩,I'⟩
  | next=>exact hq.elim
  | brk=>exact hq.elim
  | cont=>exact hq.elim
def tRj(C:Addr)(W:L2.St→Hp→Addr→Option Addr→Prop)(t:TA):TS:=fun _ σ H=>t σ H fun vs H1=>∃ n,vs=[.int n]∧∀ e d,H1 e=none→H1 d=none→d≠e→W σ (upd (upd (upd H1 e (FX e C none)) e (FX e C (some d))) d (XA d n)) e (some d)
theorem ps_raisej{W:L2.St→Hp→Addr→Option Addr→Prop}{oI:Obj}{x:Str}{np cpos pos:Pos}{a:Expr}{t:TA}(hW:∀ (pins:List (Addr×Obj)) (σ:L2.St) (H:Hp) (e:Addr) (dx:Option Addr) (s':Shared),Inv X pins σ H s'→H e=some (FX e C dx)→X.s₀.heap.get? e=none→W σ H e dx→X.xe (.ref e) s')(hcm:X.calm=true)
  (hg:Gl X x) (hm:X.mg x=some (.ref C)) (kx:KX X.K C) (ka:KA X.K C) (hi:PySem.W.findIn X.K (.ref C) "__init__"=some (some (.ref f))) (lf:X.K.lookup f=some oI) (hfc:oI.cls=.type "function")
  (F:FnOk X.prog X.w X.K X.mg X.base CX0 k f fd ps (spJ X.K)) (hl:ps.length=2) (hr:Room (k+1) X.A) (hb:Binds X.K fd ps []) (ha:PA X [a] t) (hdb:(x==("__debug__":Str))=false:=by decide)
  (he:starEach [a] X.env=(false,eval a X.env)::starEach [] X.env:=by rfl) (hpl:(backTo cpos (starEach [] X.env)).any (·.1)=false:=by rfl):
  PS X (.Raise (some (.Call (.Name x np) [a] [] cpos)) none pos) (tRj C W t):=by
 intro pins s σ H D I h
 obtain⟨nm,qn,N,bs,bm,hdct,sn,sub,ab,col,dd,k0,k1,k2,k3,k5,lk,xb⟩:=id kx.ex
 refine x_Raise (C:=C) (nm:=nm) (q:=qn) (N:=N) (bs:=bs) (bm:=bm) (hdct:=hdct) (sn:=sn) (sub:=sub) (ab:=ab) (col:=col) (dd:=dd) (k0:=k0) (k1:=k1) (k2:=k2) (k3:=k3) (k5:=k5) (newId:="ValueError.__new__") xb (I.ok.hd hcm) (ld_glob I hg hm ⟨rfl,?_⟩ hdb) he hpl
 refine thn (ha cpos pins s σ H _ I h) fun us s1 ⟨vs,H1,I1,r1,n,ev,q⟩=>⟨I1.kIn _ _ lk,?_⟩
 subst ev
 obtain⟨u,rfl,rv⟩:=vals1 r1
 refine thn (run_xj kx ka hi lf hfc F hl hr hb I1 rv) fun r s2 ⟨e,d,er,⟨hn,hd,hne,h0⟩,I2⟩=>?_
 subst er
 have hH:upd (upd (upd H1 e (FX e C none)) e (FX e C (some d))) d (XA d n) e=some (FX e C (some d)):=by rw[upd_ne (Ne.symm hne),upd_same]
 obtain⟨fr,_,_⟩:=(show ObjOk X.prog X.w _ s2.heap e (FX e C (some d)) from I2.hok e _ hH)
 exact⟨e,some d,rfl,I2.kIn _ _ lk,fr,hW pins σ _ e (some d) s2 I2 hH h0 (q e d hn hd hne)⟩
def srj(y:Str)(f:Ev (List D)):Sv:=fun ρ S=>bindS (f ρ S) ρ fun ds S1=>match ds with
 | [.int n]=>.exc ⟨y,some n⟩ ρ S1
 | _=>.bad
structure ClJ(P:Program)(w:World)(K:PySem.W.Frag)(mg:Str→Option Value)(base:Heap)(x:Str)(j:Nat):Prop where
 ex:∃ C f fd ps oI,mg x=some (.ref C)∧CN K x C∧(KX K C∧KA K C)∧PySem.W.findIn K (.ref C) "__init__"=some (some (.ref f))∧K.lookup f=some oI∧oI.cls=.type "function"∧FnOk P w K mg base CX0 j f fd ps (spJ K)∧ps.length=2∧Binds K fd ps []
theorem js_raisej{XQ:XW}{x:Str}{j:Nat}{np cpos pos:Pos}{a:Expr}{t:Ev (List D)}(L:XL X XQ)(hcm:X.calm=true)(C:ClJ X.prog X.w X.K X.mg X.base x j)(hr:Room k X.A)(hg:Gl X x)(hp:plainN x=true)(ha:JA X XQ [a] t)(hj:j+1≤k:=by decide)
  (he:starEach [a] X.env=(false,eval a X.env)::starEach [] X.env:=by rfl) (hpl:(backTo cpos (starEach [] X.env)).any (·.1)=false:=by rfl):
  JS X XQ (.Raise (some (.Call (.Name x np) [a] [] cpos)) none pos) (srj x t):=by
 obtain⟨C,f,fd,ps,oI,hm,hc,⟨kx,ka⟩,hi,lf,hfc,F,hl,hb⟩:=C.ex
 refine PS.mono (ps_raisej (W:=fun σ H e dx=>WX X.K XQ σ C dx (del H e)) (fun pins σ H e dx s' I hH h0 w=>L.own pins σ H s' e C dx I hH h0 w) hcm hg hm kx ka hi lf hfc F hl (hr.mono hj) hb ha (plainN.of hp).1 he hpl) fun E σ H ⟨mp,ρ,S,G,p⟩=>?_
 refine bindSP G p fun mp1 H1 ds S1 vs a1 G1 r1 p1=>?_
 split at p1
 ·rename_i n
  obtain⟨v,rfl,hv⟩:=RepL.one r1
  cases (show v=.int n from hv)
  refine⟨n,rfl,fun e d he hd hne=>⟨⟨x,some n⟩,mp1,ρ,S1,fun i z=>⟨d,rfl,?_⟩,hc,?_⟩⟩
  ·cases z
   rw[del_ne hne,upd_same]
  ·have e1:del (upd (upd (upd H1 e (FX e C none)) e (FX e C (some d))) d (XA d n)) e=upd H1 d (XA d n):=by
    funext b
    by_cases c:b=e
    ·rw[c,del_same,upd_ne (Ne.symm hne),he]
    ·rw[del_ne c]
     by_cases c2:b=d
     ·rw[c2,upd_same,upd_same]
     ·rw[upd_ne c2,upd_ne c2,upd_ne c,upd_ne c]
   rw[e1]
   exact p1 mp1 _ σ (aft_new hd) (G1.aft (aft_new hd) (G1.rs.new hd))
 ·exact p1.elim
def tAt(K:PySem.W.Frag)(ta:TE):TE:=fun σ H Q=>ta σ H fun x H1=>∃ a C d n,x=.ref a∧XCl K C∧H1 a=some (XO a C (some d))∧H1 d=some (XA d n)∧PySem.W.findIn K (.ref C) "at"=some none∧PySem.W.hasDictIn K C=true∧Q (.int n) H1
theorem pe_at{e:Expr}{pos:Pos}{ta:TE}(he:PE X e ta)(hb:attributeBase e "at" X.env (eval e X.env)=eval e X.env):PE X (.Attribute e "at" pos) (tAt X.K ta):=by
 intro pins s σ H Q I h
 refine attr_of hb (thn (he pins s σ H _ I h) fun u s1 ⟨x,H1,I1,rx,a,C,d,n,ex,xc,ha,hd,na,hh,q⟩=>?_)
 subst ex
 obtain rfl:u=Value.ref a:=rx
 obtain⟨⟨oe,g1,g2,g3,vs,g4⟩,_,_⟩:=(show ObjOk X.prog X.w H1 s1.heap a (XO a C (some d)) from I1.hok a _ ha)
 obtain⟨⟨t,hn⟩,_,_⟩:=(show ObjOk X.prog X.w H1 s1.heap d (XA d n) from I1.hok d _ hd)
 obtain⟨hp,g,dr,tk,os⟩:=s1
 exact xa_get I1.kIn xc na hh g1 g2 g3 g4 hn (if_pos rfl) ⟨.int n,H1,I1.tok _,⟨_,rfl⟩,q⟩
def atD(ms:List Str)(x:D)(S:Sto):Out D:=match x with
 | .exn y (some n)=>if y∈ms then .ok (.int n) S else .bad
 | _=>.bad
def AtC(K:PySem.W.Frag)(ms:List Str):Prop:=∀ y∈ms,∃ C,CN K y C∧PySem.W.findIn K (.ref C) "at"=some none∧PySem.W.hasDictIn K C=true
theorem je_at{XQ:XW}{e:Expr}{f:Ev D}{ms:List Str}{pos:Pos}(ac:AtC X.K ms)(he:JE X XQ e f)(hb:attributeBase e "at" X.env (eval e X.env)=eval e X.env:=by rfl):JE X XQ (.Attribute e "at" pos) (o1 (atD ms) f):=by
 refine PE.mono (pe_at he hb) fun σ H Q ⟨mp,ρ,S,G,p⟩=>?_
 refine bindP G p fun mp1 H1 d S1 v a1 G1 r1 p1=>?_
 cases d with
 | exn y fl=>
  cases fl with
  | none=>exact p1.elim
  | some n=>
   by_cases hy:y∈ms
   ·have p1:Post X.K XQ σ ρ mp1 H1 (.ok (.int n) S1) Q:=by simpa only[atD,if_pos hy] using p1
    obtain⟨a,dx,C,rfl,⟨hc,xc,hH⟩,hfl⟩:=(show ∃ a dx p,v=.ref a∧(CN X.K y p∧XCl X.K p∧H1 a=some (XO a p dx))∧∀ i,some n=some i→∃ d,dx=some d∧H1 d=some (XA d i) from r1)
    obtain⟨d,rfl,hd⟩:=hfl n rfl
    obtain⟨C',hc',na,hh⟩:=ac y hy
    cases CN.one hc hc'
    exact⟨a,C,d,n,rfl,xc,hH,hd,na,hh,PostG.ok (R:=Rep X.K) p1 G1.rs rfl⟩
   ·have p1:Post X.K XQ σ ρ mp1 H1 .bad Q:=by simpa only[atD,if_neg hy] using p1
    exact p1.elim
 | _=>exact p1.elim
end
end DL
set_option Elab.async false
set_option linter.all false
set_option maxRecDepth 100000
namespace DL
open PySem PySem.Spec PyProof.Rows L2
def atB(K:PySem.W.Frag)(l:List (Str×Addr)):Bool:=l.all fun p=>(PySem.W.nsIn K mainGlobals p.1==some (some (.ref p.2)))&&((PySem.W.findIn K (.ref p.2) "at"==some none)&&PySem.W.hasDictIn K p.2)
theorem at_mk{K:PySem.W.Frag}{l:List (Str×Addr)}(t:atB K l=true):AtC K (l.map (·.1)):=fun y hy=>by
 obtain⟨p,hp,rfl⟩:=List.mem_map.mp hy
 have z:=List.all_eq_true.mp t p hp
 simp only[Bool.and_eq_true,beq_iff_eq] at z
 exact⟨p.2,z.1,z.2.1,z.2.2⟩
def cljB(K:PySem.W.Frag)(C f:Addr):Bool:=kxB K C&&((PySem.W.findIn K (.ref C) "__init__"==some (some (.ref f)))&&((PySem.W.findIn K (.ref C) "__setattr__"==some (some (.builtin "object.__setattr__")))&&(((PySem.W.clsIn K C).any fun cd=>veTail cd.mro)&&((PySem.W.findIn K (.ref C) "at"==some none)&&PySem.W.hasDictIn K C))))
theorem clj_mk{P:Program}{w:World}{K:PySem.W.Frag}{mg:Str→Option Value}{base h:Heap}{x:Str}{C f:Addr}{j:Nat}(X:K.In h)(G:h.Ns mainGlobals mg)(i:IniJ P w K mg base f j)(a:PySem.W.nsIn K mainGlobals x=some (some (.ref C)))(t:cljB K C f=true):ClJ P w K mg base x j:=by
 obtain⟨fd,ps,oI,l,c,F,n,b⟩:=i.ex
 unfold cljB at t
 simp only[Bool.and_eq_true,beq_iff_eq] at t
 exact⟨C,f,fd,ps,oI,PySem.W.mg_of X G a,a,⟨kx_of t.1,⟨t.2.2.1,t.2.2.2.1,t.2.2.2.2.1,t.2.2.2.2.2⟩⟩,t.2.1,l,c,F,n,b⟩
end DL
set_option Elab.async false
set_option linter.all false
set_option maxRecDepth 100000
namespace DL
open PySem PySem.Spec PyProof.Rows L2
structure GE(X:Cx)(XQ:XW)(e:Expr)(f:Ev D):Prop where
 h:JE X XQ e f
structure GA(X:Cx)(XQ:XW)(es:List Expr)(f:Ev (List D)):Prop where
 h:JA X XQ es f
structure GT(X:Cx)(XQ:XW)(e:Expr)(f:Ev Bool):Prop where
 h:JT X XQ e f
structure GW(X:Cx)(XQ:XW)(e:Expr)(f:Ev Bool):Prop where
 h:JW X XQ e f
structure GO(X:Cx)(XQ:XW)(e:Option Expr)(f:Ev (Option Int)):Prop where
 h:JO X XQ e f
structure GS(X:Cx)(XQ:XW)(st:Stmt)(f:Sv):Prop where
 h:JS X XQ st f
structure GSs(X:Cx)(XQ:XW)(st:List Stmt)(f:Sv):Prop where
 h:JSs X XQ st f
structure GI(X:Cx)(XQ:XW)(tg it:Expr)(f:Ev Src):Prop where
 h:JI X XQ tg it f
structure GG(X:Cx)(tg:Expr)(g:Tg):Prop where
 h:JG X tg g
structure GGs(X:Cx)(ts:List Expr)(g:Tgs):Prop where
 h:JGs X ts g
structure GTs(Y:Cx)(XQ:XW)(ifs:List Expr)(t:Ev Bool):Prop where
 h:JTs Y XQ ifs t
section
variable{X:Cx}{pins:List (Addr×Obj)}{σ:L2.St}{H:Hp}{s:Shared}{C f:Addr}{fd:FuncData}{ps:List Str}{k:Nat}
theorem ge_at{XQ:XW}{e:Expr}{f:Ev D}{ms:List Str}{pos:Pos}(ac:AtC X.K ms)(he:GE X XQ e f)(hb:attributeBase e "at" X.env (eval e X.env)=eval e X.env:=by rfl):GE X XQ (.Attribute e "at" pos) (o1 (atD ms) f):=⟨je_at ac he.h hb⟩
end
section
variable{X:Cx}{XQ:XW}
theorem ge_isx{x:Str}{ys sub:List Str}{e:Expr}{f:Ev D}{p p2 pos:Pos}(k:Isx X.K X.mg x ys sub)(hg:Gl X "isinstance")(hm:X.mg "isinstance"=none)(hgt:Gl X x)(hp:plainN x=true)(he:GE X XQ e f)(hs:starEach [e,.Name x p2] X.env=(false,eval e X.env)::starEach [.Name x p2] X.env)(hpl:(backTo pos (starEach [.Name x p2] X.env)).any (·.1)=false)(hs2:starEach [.Name x p2] X.env=(false,eval (.Name x p2) X.env)::starEach [] X.env):GE X XQ (.Call (.Name "isinstance" p) [e,.Name x p2] [] pos) (o1 (isxD ys sub) f):=⟨je_isx k hg hm hgt hp he.h hs hpl hs2⟩
end
section
variable{X:Cx}{XQ:XW}
theorem ge_isxB{x:Str}{T:String}{ys sub:List Str}{e:Expr}{f:Ev D}{p p2 pos:Pos}(k:IsxB X.K T ys sub)(hv:bootBuiltins x=some (.type T))(hnx:x≠"__name__")(hg:Gl X "isinstance")(hm:X.mg "isinstance"=none)(hgt:Gl X x)(hmt:X.mg x=none)(hp:plainN x=true)(he:GE X XQ e f)(hs:starEach [e,.Name x p2] X.env=(false,eval e X.env)::starEach [.Name x p2] X.env)(hpl:(backTo pos (starEach [.Name x p2] X.env)).any (·.1)=false)(hs2:starEach [.Name x p2] X.env=(false,eval (.Name x p2) X.env)::starEach [] X.env):GE X XQ (.Call (.Name "isinstance" p) [e,.Name x p2] [] pos) (o1 (isxD ys sub) f):=⟨je_isxB k hv hnx hg hm hgt hmt hp he.h hs hpl hs2⟩
end
section
variable{X:Cx}{XQ:XW}
theorem ge_count{o e:Expr}{apos cpos:Pos}{fo:Ev D}{f:Ev (List D)}(ho:GE X XQ o fo)(ha:GA X XQ [e] f)(hbase:attributeBase o "count" X.env (eval o X.env)=eval o X.env:=by rfl)(hfew:((backTo cpos (starEach [e] X.env)).all (fun x=>!x.1)&&(backToKw cpos (keywordEach [] X.env)).all (fun x=>x.1.isSome)
   && decide ([e].length+([]:List Keyword).length+(if([]:List Keyword).isEmpty then 0 else 1)<30))=true:=by rfl) (hline:(apos.endLine==cpos.line)=true:=by rfl) (hs:starEach [e] X.env=(false,eval e X.env)::starEach [] X.env:=by rfl):GE X XQ (.Call (.Attribute o "count" apos) [e] [] cpos) (mt cntD fo f):=⟨je_count ho.h ha.h hbase hfew hline hs⟩
end
section
variable{X:Cx}{XQ:XW}
theorem ge_index{o e:Expr}{apos cpos:Pos}{fo:Ev D}{f:Ev (List D)}(ho:GE X XQ o fo)(ha:GA X XQ [e] f)(hbase:attributeBase o "index" X.env (eval o X.env)=eval o X.env:=by rfl)(hfew:((backTo cpos (starEach [e] X.env)).all (fun x=>!x.1)&&(backToKw cpos (keywordEach [] X.env)).all (fun x=>x.1.isSome)
   && decide ([e].length+([]:List Keyword).length+(if([]:List Keyword).isEmpty then 0 else 1)<30))=true:=by rfl) (hline:(apos.endLine==cpos.line)=true:=by rfl) (hs:starEach [e] X.env=(false,eval e X.env)::starEach [] X.env:=by rfl):GE X XQ (.Call (.Attribute o "index" apos) [e] [] cpos) (mt idxD fo f):=⟨je_index ho.h ha.h hbase hfew hline hs⟩
end
section
variable{X:Cx}{XQ:XW}
theorem ge_non{j pos}:GE X XQ (.Constant .none j pos) (cn .non):=⟨je_non ⟩
end
section
variable{X:Cx}{XQ:XW}
theorem ge_bl{b:Bool}{j pos}:GE X XQ (.Constant (.bool b) j pos) (cn (.bl b)):=⟨je_bl ⟩
end
section
variable{X:Cx}{XQ:XW}
theorem ge_int{i:Int}{j pos}:GE X XQ (.Constant (.int i) j pos) (cn (.int i)):=⟨je_int ⟩
end
section
variable{X:Cx}{XQ:XW}
theorem ge_str{x:Str}{j pos}:GE X XQ (.Constant (.str x) j pos) (cn (.str x)):=⟨je_str ⟩
end
section
variable{X:Cx}{XQ:XW}
theorem ge_add{a b:Expr}{fa fb:Ev D}{pos:Pos}(ha:GE X XQ a fa)(hb:GE X XQ b fb):GE X XQ (.BinOp a .Add b pos) (o2 addD fa fb):=⟨je_add ha.h hb.h⟩
end
section
variable{X:Cx}{XQ:XW}
theorem ge_mul{a b:Expr}{fa fb:Ev D}{pos:Pos}(ha:GE X XQ a fa)(hb:GE X XQ b fb):GE X XQ (.BinOp a .Mult b pos) (o2 mulD fa fb):=⟨je_mul ha.h hb.h⟩
end
section
variable{X:Cx}{XQ:XW}{a b:Expr}{fa fb:Ev D}{pos:Pos}
theorem ge_mod(ha:GE X XQ a fa)(hb:GE X XQ b fb):GE X XQ (.BinOp a .Mod b pos) (o2 modD fa fb):=⟨je_mod ha.h hb.h⟩
end
section
variable{X:Cx}{XQ:XW}
theorem ge_div2{a b:Expr}{fa fb:Ev D}{pos:Pos}(ha:GE X XQ a fa)(hb:GE X XQ b fb):GE X XQ (.BinOp a .FloorDiv b pos) (o2 divD2 fa fb):=⟨je_div2 ha.h hb.h⟩
end
section
variable{X:Cx}{XQ:XW}{a b:Expr}{fa fb:Ev D}{pos:Pos}
theorem ge_pow(ha:GE X XQ a fa)(hb:GE X XQ b fb):GE X XQ (.BinOp a .Pow b pos) (o2 powD fa fb):=⟨je_pow ha.h hb.h⟩
end
section
variable{X:Cx}{XQ:XW}
theorem ge_eq{a b:Expr}{fa fb:Ev D}{pos:Pos}(hu:X.A.units+64<cLine)(ha:GE X XQ a fa)(hb:GE X XQ b fb):GE X XQ (.Compare a [.Eq] [b] pos) (o2 eqD fa fb):=⟨je_eq hu ha.h hb.h⟩
end
section
variable{X:Cx}{XQ:XW}
theorem ge_get{a b:Expr}{fa fb:Ev D}{pos:Pos}(ha:GE X XQ a fa)(hb:GE X XQ b fb)(hs:PlainIx b:=by intro _ _; rfl):GE X XQ (.Subscript a b pos) (o2 getD fa fb):=⟨je_get ha.h hb.h hs⟩
end
section
variable{X:Cx}{XQ:XW}
theorem ge_slice2{e:Expr}{lo hi:Option Expr}{fe:Ev D}{fl fh:Ev (Option Int)}{pos p2:Pos}(he:GE X XQ e fe)(hl:GO X XQ lo fl)(hh:GO X XQ hi fh):GE X XQ (.Subscript e (.Slice lo hi none p2) pos) (sl2 fe fl fh):=⟨je_slice2 he.h hl.h hh.h⟩
end
section
variable{X:Cx}{XQ:XW}
theorem ge_lst{es:List Expr}{f:Ev (List D)}{pos:Pos}(h:GA X XQ es f):GE X XQ (.List es pos) (ls f):=⟨je_lst h.h⟩
end
section
variable{X:Cx}{XQ:XW}
theorem ge_tup{es:List Expr}{f:Ev (List D)}{x1}{pos:Pos}(h:GA X XQ es f):GE X XQ (.Tuple es x1 pos) (tp f):=⟨je_tup h.h⟩
end
section
variable{X:Cx}{XQ:XW}
theorem ge_isi{T:String}{x:Str}{e:Expr}{f:Ev D}{p p2 pos:Pos}(k:Kit X.K T)(hv:bootBuiltins x=some (.type T))(hnx:x≠"__name__")(hdx:(x==("__debug__":Str))=false)(hg:Gl X "isinstance")(hm:X.mg "isinstance"=none)(hgt:Gl X x)(hmt:X.mg x=none)(he:GE X XQ e f)(hs:starEach [e,.Name x p2] X.env=(false,eval e X.env)::starEach [.Name x p2] X.env)(hpl:(backTo pos (starEach [.Name x p2] X.env)).any (·.1)=false)(hs2:starEach [.Name x p2] X.env=(false,eval (.Name x p2) X.env)::starEach [] X.env):GE X XQ (.Call (.Name "isinstance" p) [e,.Name x p2] [] pos) (o1 (isD T) f):=⟨je_isi k hv hnx hdx hg hm hgt hmt he.h hs hpl hs2⟩
end
section
variable{X:Cx}{XQ:XW}
theorem ge_len{p pos:Pos}{e:Expr}{f:Ev (List D)}(hg:Gl X "len")(hm:X.mg "len"=none)(ha:GA X XQ [e] f)(he:starEach [e] X.env=(false,eval e X.env)::starEach [] X.env:=by rfl):GE X XQ (.Call (.Name "len" p) [e] [] pos) (b1 lenD f):=⟨je_len hg hm ha.h he⟩
end
section
variable{X:Cx}{XQ:XW}
theorem ge_list{p pos:Pos}{e:Expr}{f:Ev (List D)}(hg:Gl X "list")(hm:X.mg "list"=none)(ha:GA X XQ [e] f)(he:starEach [e] X.env=(false,eval e X.env)::starEach [] X.env:=by rfl):GE X XQ (.Call (.Name "list" p) [e] [] pos) (b1 listD f):=⟨je_list hg hm ha.h he⟩
end
section
variable{X:Cx}{XQ:XW}{a b:Expr}{fa fb:Ev D}{pos:Pos}
theorem gt_lt(ha:GE X XQ a fa)(hb:GE X XQ b fb):GT X XQ (.Compare a [.Lt] [b] pos) (tb (o2 ltD fa fb)):=⟨jt_lt ha.h hb.h⟩
end
section
variable{X:Cx}{XQ:XW}{a b:Expr}{fa fb:Ev D}{pos:Pos}
theorem gt_gt(ha:GE X XQ a fa)(hb:GE X XQ b fb):GT X XQ (.Compare a [.Gt] [b] pos) (tb (o2 gtD fa fb)):=⟨jt_gt ha.h hb.h⟩
end
section
variable{X:Cx}{XQ:XW}{a b:Expr}{fa fb:Ev D}{pos:Pos}
theorem gt_ge(ha:GE X XQ a fa)(hb:GE X XQ b fb):GT X XQ (.Compare a [.GtE] [b] pos) (tb (o2 geD fa fb)):=⟨jt_ge ha.h hb.h⟩
end
section
variable{X:Cx}{XQ:XW}
theorem gt_eq{a b:Expr}{fa fb:Ev D}{pos:Pos}(hu:X.A.units+64<cLine)(ha:GE X XQ a fa)(hb:GE X XQ b fb):GT X XQ (.Compare a [.Eq] [b] pos) (tb (o2 eqD fa fb)):=⟨jt_eq hu ha.h hb.h⟩
end
section
variable{X:Cx}{XQ:XW}
theorem gt_ne{a b:Expr}{fa fb:Ev D}{pos:Pos}(hu:X.A.units+64<cLine)(ha:GE X XQ a fa)(hb:GE X XQ b fb):GT X XQ (.Compare a [.NotEq] [b] pos) (tb (o2 neD fa fb)):=⟨jt_ne hu ha.h hb.h⟩
end
section
variable{X:Cx}{XQ:XW}{a b:Expr}{fa fb:Ev D}{pos:Pos}
theorem gt_in(ha:GE X XQ a fa)(hb:GE X XQ b fb)(hm:behindInMarks .In b=false:=by rfl):GT X XQ (.Compare a [.In] [b] pos) (tb (o2 inD fa fb)):=⟨jt_in ha.h hb.h hm⟩
end
section
variable{X:Cx}{XQ:XW}
theorem gt_not{a:Expr}{f:Ev Bool}{pos:Pos}(h:GT X XQ a f):GT X XQ (.UnaryOp .Not a pos) (tn f):=⟨jt_not h.h⟩
end
section
variable{X:Cx}{XQ:XW}
theorem gt_val{e:Expr}{f:Ev D}(h:GE X XQ e f)(he:∀ whole,isTrue e X.env whole=(do let v ←whole; standAt e.pos; holding [v] (truthy v)):=by intro _; rfl):GT X XQ e (tt f):=⟨jt_val h.h he⟩
end
section
variable{X:Cx}{XQ:XW}
theorem gw_and1{a:Expr}{f:Ev Bool}{pos:Pos}(h:GT X XQ a f):GW X XQ (.BoolOp .And [a] pos) f:=⟨jw_and1 h.h⟩
end
section
variable{X:Cx}{XQ:XW}
theorem gw_or1{a:Expr}{f:Ev Bool}{pos:Pos}(h:GT X XQ a f):GW X XQ (.BoolOp .Or [a] pos) f:=⟨jw_or1 h.h⟩
end
section
variable{X:Cx}{XQ:XW}
theorem gw_and{a b:Expr}{rest:List Expr}{f g:Ev Bool}{pos:Pos}(h:GT X XQ a f)(hb:GW X XQ (.BoolOp .And (b::rest) pos) g):GW X XQ (.BoolOp .And (a::b::rest) pos) (ta f g):=⟨jw_and h.h hb.h⟩
end
section
variable{X:Cx}{XQ:XW}
theorem gw_or{a b:Expr}{rest:List Expr}{f g:Ev Bool}{pos:Pos}(h:GT X XQ a f)(hb:GW X XQ (.BoolOp .Or (b::rest) pos) g):GW X XQ (.BoolOp .Or (a::b::rest) pos) (to f g):=⟨jw_or h.h hb.h⟩
end
section
variable{X:Cx}{XQ:XW}
theorem ga_nil :GA X XQ [] an:=⟨ja_nil ⟩
end
section
variable{X:Cx}{XQ:XW}
theorem ga_cons{e:Expr}{es:List Expr}{f:Ev D}{g:Ev (List D)}(ha:GE X XQ e f)(hr:GA X XQ es g)(hs:starEach (e::es) X.env=(false,eval e X.env)::starEach es X.env:=by rfl):GA X XQ (e::es) (ac f g):=⟨ja_cons ha.h hr.h hs⟩
end
section
variable{X:Cx}{XQ:XW}
theorem go_none :GO X XQ none onone:=⟨jo_none ⟩
end
section
variable{X:Cx}{XQ:XW}
theorem go_some{e:Expr}{f:Ev D}(h:GE X XQ e f):GO X XQ (some e) (osome f):=⟨jo_some h.h⟩
end
section
variable{X:Cx}{XQ:XW}
theorem gi_range1{tg a:Expr}{f:Ev (List D)}{p pos:Pos}(hg:Gl X "range")(hm:X.mg "range"=none)(ha:GA X XQ [a] f)(hs:starEach [a] X.env=[(false,eval a X.env)]:=by rfl):GI X XQ tg (.Call (.Name "range" p) [a] [] pos) (ir1 f):=⟨ji_range1 hg hm ha.h hs⟩
end
section
variable{X:Cx}{XQ:XW}
theorem ggn(i:Nat){x:Str}{pos:Pos}(hN:X.N.Nodup)(h:OkL X.env.scope x)(hi:X.N[i]?=some x:=by rfl)(hf:X.fn x=true:=by rfl):GG X (.Name x pos) (gn i):=⟨jgn i hN h hi hf⟩
end
section
variable{X:Cx}{XQ:XW}
theorem gg_tup{es:List Expr}{m:Nat}{k:Tgs}{n:Nat}{pos:Pos}(hc:X.calm=true)(h:GGs X es k)(hn:(assignEach es X.env).length=n:=by rfl)(hst:(assignEach es X.env).findIdx? (·.1)=none:=by rfl):GG X (.Tuple es m pos) (gt k n):=⟨jg_tup hc h.h hn hst⟩
end
section
variable{X:Cx}{XQ:XW}
theorem ggs_nil :GGs X [] gnil:=⟨jgs_nil ⟩
end
section
variable{X:Cx}{XQ:XW}
theorem ggs_cons{e:Expr}{es:List Expr}{g:Tg}{k:Tgs}(h1:GG X e g)(h2:GGs X es k)(hs:(assignEach (e::es) X.env).map (·.2)=assign e X.env::(assignEach es X.env).map (·.2):=by rfl):GGs X (e::es) (gcons g k):=⟨jgs_cons h1.h h2.h hs⟩
end
section
variable{X:Cx}{XQ:XW}
theorem gss_nil :GSs X XQ [] skip:=⟨jss_nil ⟩
end
section
variable{X:Cx}{XQ:XW}
theorem gss_cons{st:Stmt}{rest:List Stmt}{f g:Sv}(h1:GS X XQ st f)(h2:GSs X XQ rest g):GSs X XQ (st::rest) (sq f g):=⟨jss_cons h1.h h2.h⟩
end
section
variable{X:Cx}{XQ:XW}
theorem gss_one{st:Stmt}{f:Sv}(h1:GS X XQ st f):GSs X XQ [st] f:=⟨jss_one h1.h⟩
end
section
variable{X:Cx}{XQ:XW}
theorem gs_ret{e:Expr}{f:Ev D}{pos:Pos}(he:GE X XQ e f):GS X XQ (.Return (some e) pos) (sret f):=⟨js_ret he.h⟩
end
section
variable{X:Cx}{XQ:XW}
theorem gs_if{c:Expr}{a b:List Stmt}{fc:Ev Bool}{f g:Sv}{pos:Pos}(hc:GT X XQ c fc)(ha:GSs X XQ a f)(hb:GSs X XQ b g):GS X XQ (.If c a b pos) (sif fc f g):=⟨js_if hc.h ha.h hb.h⟩
end
section
variable{X:Cx}{XQ:XW}
theorem gset(i:Nat){x:Str}{e:Expr}{f:Ev D}{pos pos':Pos}(hN:X.N.Nodup)(h:OkL X.env.scope x)(he:GE X XQ e f)(hi:X.N[i]?=some x:=by rfl)(hs:swapsWith e (some (.Name x pos')) pos.line X.env=pure false:=by rfl)(hf:X.fn x=true:=by rfl):GS X XQ (.Assign [.Name x pos'] e pos) (sa f (gn i)):=⟨jset i hN h he.h hi hs hf⟩
end
section
variable{X:Cx}{XQ:XW}
theorem gs_asg{tg e:Expr}{f:Ev D}{g:Tg}{pos:Pos}(he:GE X XQ e f)(hg:GG X tg g)(hs:swapsWithSole [tg] e pos.line X.env=pure false:=by rfl)(hw:swappedStores [tg] e X.env=pure none:=by rfl)(h1:(assignEach [tg] X.env).map (·.2)=[assign tg X.env]:=by rfl):GS X XQ (.Assign [tg] e pos) (sa f g):=⟨js_asg he.h hg.h hs hw h1⟩
end
section
variable{X:Cx}{XQ:XW}
theorem gs_setix{ob ix e:Expr}{f fo fi:Ev D}{pos p2:Pos}(he:GE X XQ e f)(hob:GE X XQ ob fo)(hix:GE X XQ ix fi)(hs:swapsWithSole [.Subscript ob ix p2] e pos.line X.env=pure false:=by rfl)(hw:swappedStores [.Subscript ob ix p2] e X.env=pure none:=by rfl)(h1:(assignEach [.Subscript ob ix p2] X.env).map (·.2)=[assign (.Subscript ob ix p2) X.env]:=by rfl)(ha:∀ v,assign (.Subscript ob ix p2) X.env v=(do
   let ov ←holding [v] (eval ob X.env)
   let iv ←holding [v,ov] (eval ix X.env)
   standAt p2
   holding [v,ov,iv] (setItem ov iv v)
   release [v,ov,iv] []):=by intro _; rfl):GS X XQ (.Assign [.Subscript ob ix p2] e pos) (ss f fo fi setD):=⟨js_setix he.h hob.h hix.h hs hw h1 ha⟩
end
section
variable{X:Cx}{XQ:XW}
theorem gs_for{tg iter:Expr}{body:List Stmt}{f:Ev Src}{g:Tg}{b:Sv}{pos:Pos}(hp:PassesOwn (model X.prog X.w) X.A X.env X.xe)(hc:X.calm=true)(hi:GI X XQ tg iter f)(hg:GG X tg g)(hb:GSs X XQ body b)(hs:∀ x,foldedSetIterable iter X.env x=pure x:=by intro _; rfl):GS X XQ (.For tg iter body [] pos) (sfor f g b):=⟨js_for hp hc hi.h hg.h hb.h hs⟩
end
section
variable{X:Cx}{XQ:XW}
theorem gv(i:Nat){x:Str}{pos:Pos}(h:OkV X.env.scope x)(hN:X.N[i]?=some x:=by rfl):GE X XQ (.Name x pos) (vr i):=⟨jv i h hN⟩
end
section
variable{X:Cx}{XQ:XW}
theorem gown{x:Str}{ps:List Str}{fn:Fn}{j k n:Nat}{p pos:Pos}{e:Expr}{es:List Expr}{t:Ev (List D)}(C:Cal X.prog X.w X.K X.mg X.base x ps fn j)(hr:Room k X.A)(hg:Gl X x)(hp:plainN x=true)(ha:GA X XQ (e::es) t)(hn:ps.length=n:=by rfl)(hj:j≤k:=by decide)(he:starEach (e::es) X.env=(false,eval e X.env)::starEach es X.env:=by rfl)(hpl:(backTo pos (starEach es X.env)).any (·.1)=false:=by rfl):GE X XQ (.Call (.Name x p) (e::es) [] pos) (cl n (noExc fn) t):=⟨jown C hr hg hp ha.h hn hj he hpl⟩
end
theorem GW.jt{X:Cx}{XQ:XW}{e:Expr}{f:Ev Bool}(h:GW X XQ e f):GT X XQ e f:=⟨JW.jt h.h⟩
end DL
set_option Elab.async false
set_option linter.all false
set_option maxRecDepth 100000
namespace DL
open PySem PySem.Spec PyProof.Rows L2
def clsBody:Stmt→List Stmt
 | .ClassDef _ _ _ b _ _ _ _ _ _ _=>b
 | _=>[]
section
variable{X:Cx}{XQ:XW}{k:Nat}{x:Str}{p pos:Pos}{e:Expr}{es:List Expr}
theorem gs_raise{j:Nat}{np cpos pos:Pos}{a:Expr}{t:Ev (List D)}(L:XL X XQ)(hcm:X.calm=true)(C:ClX X.prog X.w X.K X.mg X.base x j)(hr:Room k X.A)(hg:Gl X x)(hp:plainN x=true)(ha:GA X XQ [a] t)(hj:j+1≤k:=by decide)
  (he:starEach [a] X.env=(false,eval a X.env)::starEach [] X.env:=by rfl) (hpl:(backTo cpos (starEach [] X.env)).any (·.1)=false:=by rfl):
  GS X XQ (.Raise (some (.Call (.Name x np) [a] [] cpos)) none pos) (srs x t):=⟨js_raise L hcm C hr hg hp ha.h hj he hpl⟩
theorem gs_raisej{j:Nat}{np cpos pos:Pos}{a:Expr}{t:Ev (List D)}(L:XL X XQ)(hcm:X.calm=true)(C:ClJ X.prog X.w X.K X.mg X.base x j)(hr:Room k X.A)(hg:Gl X x)(hp:plainN x=true)(ha:GA X XQ [a] t)(hj:j+1≤k:=by decide)
  (he:starEach [a] X.env=(false,eval a X.env)::starEach [] X.env:=by rfl) (hpl:(backTo cpos (starEach [] X.env)).any (·.1)=false:=by rfl):
  GS X XQ (.Raise (some (.Call (.Name x np) [a] [] cpos)) none pos) (srj x t):=⟨js_raisej L hcm C hr hg hp ha.h hj he hpl⟩
theorem gs_tryA(i:Nat){c n:Str}{np hpos pos:Pos}{b0:Stmt}{suite body:List Stmt}{ys:List Str}{fb fh:Sv}(pl:Plain X)(ct:Cat X.K X.mg c ys)(hg:Gl X c)(hp:plainN c=true)(hN:X.N.Nodup)(hn:OkC X.env.scope n)
  (hb:∀ (pn:List (Addr×Obj)) (xe:Value→Shared→Prop) (XQ':XW),XL (trb X pn xe) XQ'→GSs (trb X pn xe) XQ' body fb) (hs:∀ a,GSs (hnd X a) XN (b0::suite) fh) (hi:X.N[i]?=some n:=by rfl):
  GS X XQ (.Try body [.ExceptHandler (some (.Name c np)) (some n) (b0::suite) hpos] [] [] pos) (stryG ys (hdl i fh) fb):=⟨js_tryA pl ct hg hp hN hi hn.h (fun a b c d=>(hb a b c d).h) fun a=>(hs a).h⟩
end
structure FH(K:PySem.W.Frag)(x:Str)(st:Stmt):Prop where
 ex:∃ (f:Addr) (oc:Value) (od an:Option Addr) (osl:Array (Option Value)) (kV doc pm cdv ct:Value),PySem.W.nsIn K mainGlobals x=some (some (.ref f))∧K.lookup f=some ⟨oc,od,.func (PySem.W.fnOf x x (defArgs st) (defBody st) (defScope st) .none kV doc pm an cdv ct),osl⟩∧PySem.W.codeIn K cdv x=true∧PySem.W.keepIn K (.ref f)=true
section
variable{K:PySem.W.Frag}{mg:Str→Option Value}
theorem fh_mk{x:Str}{st:Stmt}{f:Addr}{oc:Value}{od an:Option Addr}{osl:Array (Option Value)}{kV doc pm cdv ct:Value}(a:PySem.W.nsIn K mainGlobals x=some (some (.ref f)))
  (l:K.lookup f=some ⟨oc,od,.func (PySem.W.fnOf x x (defArgs st) (defBody st) (defScope st) .none kV doc pm an cdv ct),osl⟩) (c:PySem.W.codeIn K cdv x=true) (k:PySem.W.keepIn K (.ref f)=true):FH K x st:=⟨f,oc,od,an,osl,kV,doc,pm,cdv,ct,a,l,c,k⟩
theorem FH.dn{h:Heap}{x:Str}{st:Stmt}{ps:List Str}(F:FH K x st)(X:K.In h)(G:h.Ns mainGlobals mg)
  (hb:∀ (kV doc pm:Value) (an:Option Addr) (cdv ct:Value) (us:List Value),us.length=ps.length→bindArgs (PySem.W.fnOf x x (defArgs st) (defBody st) (defScope st) .none kV doc pm an cdv ct) ⟨us,[]⟩=pure (ps.zip us)):Dn K mg x st ps:=by
 obtain⟨f,oc,od,an,osl,kV,doc,pm,cdv,ct,a,l,c,k⟩:=F.ex
 exact dn_mk X G a l c k hb
end
end DL
set_option Elab.async false
set_option linter.all false
set_option maxRecDepth 100000
namespace DL
open PySem PySem.Spec PyProof.Rows L2
end DL
set_option Elab.async false
set_option linter.all false
set_option maxRecDepth 100000
namespace Law
open PySem PySem.Spec PyProof.Rows L2 DL
def top(i:Nat):Stmt:=PySem.Challenge.pw_summitwater_k10_refusals_apart.main.body.getD i (.Pass ⟨0,0,0,0⟩)
abbrev st__law_tape:Stmt:=top 15
abbrev st__law_draw:Stmt:=top 16
abbrev st__law_name:Stmt:=top 17
abbrev st__law_raised:Stmt:=top 18
abbrev st_law:Stmt:=top 19
def ys:List Str:=["NoGate","Dry","Full","NoSpring","NoBarge","NoRoom","Uneven","Shallow","Falls","NoText","TooMany","NoLine","SummitError"]
def ms:List Str:=["NoGate","Dry","Full","NoSpring","NoBarge","NoRoom","Uneven","Shallow","Falls","NoText","TooMany","NoLine"]
def ats:List Str:=["Falls","NoText"]
structure Txt(K:PySem.W.Frag)(mg:Str→Option Value):Prop where
 b_ValueError:mg "ValueError"=none
 b_bool:mg "bool"=none
 b_isinstance:mg "isinstance"=none
 b_len:mg "len"=none
 b_list:mg "list"=none
 b_range:mg "range"=none
 xt:XT K mg "SummitError" ys ms
 atc:AtC K ats
abbrev st_init:Stmt:=(clsBody (top 1)).getD 0 (.Pass ⟨0,0,0,0⟩)
theorem sc_init:FnScope ["self","text"] ["self","text"] (defScope st_init):=⟨rfl,rfl,rfl,by decide +kernel,rfl,by decide +kernel,by decide +kernel⟩
theorem gi_VE:OkG (defScope st_init) "ValueError":=⟨by decide +kernel⟩
theorem vi_self:OkV (defScope st_init) "self":=⟨by decide +kernel⟩
theorem vi_text:OkV (defScope st_init) "text":=⟨by decide +kernel⟩
theorem body_init{P:Program}{w:World}{K:PySem.W.Frag}{mg:Str→Option Value}{base:Heap}(hm:mg "ValueError"=none)(f:Addr)(cdv:Value)(A:Around)(outer:List PySem.Env)(s:Shared)(H:Hp)(E:XK):PSs (cxOf CX0 P w K mg base ["self","text"] "SummitError.__init__" (defScope st_init) f cdv A outer s H E).nox (defBody st_init) (tInit K):=by
 conv=>arg 2; whnf
 exact pss_one (ps_expr (pe_vinit (gl gi_VE) hm (pa_cons (pe_var (i:=0) rfl (okV.vis vi_self.h).1) (pa_cons (pe_var (i:=1) rfl (okV.vis vi_text.h).1) pa_nil)) rfl))
abbrev st_init_Falls:Stmt:=(clsBody (top 3)).getD 0 (.Pass ⟨0,0,0,0⟩)
theorem sc_init_Falls:FnScope ["self","at"] ["self","at"] (defScope st_init_Falls):=⟨rfl,rfl,rfl,by decide +kernel,rfl,by decide +kernel,by decide +kernel⟩
theorem gj_Falls:OkG (defScope st_init_Falls) "SummitError":=⟨by decide +kernel⟩
theorem vj_Falls_self:OkV (defScope st_init_Falls) "self":=⟨by decide +kernel⟩
theorem vj_Falls_at:OkV (defScope st_init_Falls) "at":=⟨by decide +kernel⟩
theorem body_init_Falls{P:Program}{w:World}{K:PySem.W.Frag}{mg:Str→Option Value}{base:Heap}{fi:Addr}(bI:BaseI K mg "SummitError" fi)(ini:IniX P w K mg base fi 1)(f:Addr)(cdv:Value)(A:Around)(outer:List PySem.Env)(s:Shared)(H:Hp)(E:XK)(hr:Room 2 (A.deeper (envOfC "Falls.__init__" (defScope st_init_Falls) s.heap.objs.size f cdv))):PSs (cxOf CX0 P w K mg base ["self","at"] "Falls.__init__" (defScope st_init_Falls) f cdv A outer s H E).nox (defBody st_init_Falls) (tInitJ K "a deed of the row is refused"):=by
 obtain⟨fd,ps,oI,l,c,F,n,b⟩:=ini.ex
 conv=>arg 2; whnf
 exact pss_cons (ps_expr (pe_sinit (gl gj_Falls) (by decide) bI F n hr (by decide) b (pa_cons (pe_var (i:=0) rfl (okV.vis vj_Falls_self.h).1) (pa_cons pe_str pa_nil)) rfl)) (pss_one (ps_at (pe_var (i:=0) rfl (okV.vis vj_Falls_self.h).1) (pe_var (i:=1) rfl (okV.vis vj_Falls_at.h).1)))
abbrev st_init_NoText:Stmt:=(clsBody (top 2)).getD 0 (.Pass ⟨0,0,0,0⟩)
theorem sc_init_NoText:FnScope ["self","at"] ["self","at"] (defScope st_init_NoText):=⟨rfl,rfl,rfl,by decide +kernel,rfl,by decide +kernel,by decide +kernel⟩
theorem gj_NoText:OkG (defScope st_init_NoText) "SummitError":=⟨by decide +kernel⟩
theorem vj_NoText_self:OkV (defScope st_init_NoText) "self":=⟨by decide +kernel⟩
theorem vj_NoText_at:OkV (defScope st_init_NoText) "at":=⟨by decide +kernel⟩
theorem body_init_NoText{P:Program}{w:World}{K:PySem.W.Frag}{mg:Str→Option Value}{base:Heap}{fi:Addr}(bI:BaseI K mg "SummitError" fi)(ini:IniX P w K mg base fi 1)(f:Addr)(cdv:Value)(A:Around)(outer:List PySem.Env)(s:Shared)(H:Hp)(E:XK)(hr:Room 2 (A.deeper (envOfC "NoText.__init__" (defScope st_init_NoText) s.heap.objs.size f cdv))):PSs (cxOf CX0 P w K mg base ["self","at"] "NoText.__init__" (defScope st_init_NoText) f cdv A outer s H E).nox (defBody st_init_NoText) (tInitJ K "the text writes nothing of the kind"):=by
 obtain⟨fd,ps,oI,l,c,F,n,b⟩:=ini.ex
 conv=>arg 2; whnf
 exact pss_cons (ps_expr (pe_sinit (gl gj_NoText) (by decide) bI F n hr (by decide) b (pa_cons (pe_var (i:=0) rfl (okV.vis vj_NoText_self.h).1) (pa_cons pe_str pa_nil)) rfl)) (pss_one (ps_at (pe_var (i:=0) rfl (okV.vis vj_NoText_self.h).1) (pe_var (i:=1) rfl (okV.vis vj_NoText_at.h).1)))
section
variable{P:Program}{w:World}{K:PySem.W.Frag}{mg:Str→Option Value}{base:Heap}
def b__law_tape:Sv:=(sret (ls (ac (b1 listD (ac (sl2 (vr 0) onone (osome (cn (.int 63)))) an)) (ac (cn (.int 0)) (ac (cn (.int 0)) an)))))
def f__law_tape:Fn:=fnB 1 b__law_tape
theorem sc__law_tape:FnScope ["_law_script"] ["_law_script"] (defScope st__law_tape):=⟨rfl,rfl,rfl,by decide +kernel,rfl,by decide +kernel,by decide +kernel⟩
abbrev z0:=defScope st__law_tape
theorem g0_1:OkG z0 "list":=⟨by decide +kernel⟩
theorem v0_0:OkV z0 "_law_script":=⟨by decide +kernel⟩
set_option maxHeartbeats 4000000 in
theorem cal__law_tape(T:Txt K mg)(d:Dn K mg "_law_tape" st__law_tape ["_law_script"]):Cal P w K mg base "_law_tape" ["_law_script"] f__law_tape 1:=by
 have Sc:=sc__law_tape
 refine cal_of ["_law_script"] 0 b__law_tape rfl d Sc fun f cdv A outer s H E hr=>?_
 conv=>arg 3; whnf
 refine GSs.h ?_
 exact(gss_one (gs_ret (ge_lst (ga_cons (ge_list (gl g0_1) T.b_list (ga_cons (ge_slice2 (gv 0 v0_0) go_none (go_some ge_int)) ga_nil se_Subscript)) (ga_cons ge_int (ga_cons ge_int ga_nil se_Constant) se_Constant) se_Call))))
def b__law_draw:Sv:=(sq (sif (tb (o2 gtD (o2 getD (vr 0) (cn (.int 2))) (cn (.int 0))))
  (sq (sa (o2 modD (o2 getD (vr 0) (cn (.int 2))) (vr 1)) (gn 2))
  (sq (ss (o2 divD2 (o2 getD (vr 0) (cn (.int 2))) (vr 1)) (vr 0) (cn (.int 2)) setD)
  (sret (vr 2))))
  skip)
  (sq (sa (o2 getD (vr 0) (cn (.int 1))) (gn 3))
  (sq (ss (o2 addD (vr 3) (cn (.int 1))) (vr 0) (cn (.int 1)) setD)
  (sq (sa (cn (.int 0)) (gn 4))
  (sq (sif (tb (o2 gtD (b1 lenD (ac (o2 getD (vr 0) (cn (.int 0))) an)) (cn (.int 0))))
  (sa (o2 getD (o2 getD (vr 0) (cn (.int 0))) (o2 modD (vr 3) (b1 lenD (ac (o2 getD (vr 0) (cn (.int 0))) an)))) (gn 4))
  skip)
  (sq (sif (ta (tb (o2 ltD (vr 3) (b1 lenD (ac (o2 getD (vr 0) (cn (.int 0))) an)))) (tb (o2 geD (vr 4) (o2 powD (cn (.int 10)) (cn (.int 18))))))
  (sq (ss (o2 divD2 (vr 4) (vr 1)) (vr 0) (cn (.int 2)) setD)
  (sret (o2 modD (vr 4) (vr 1))))
  skip)
  (sq (sa (o2 modD (o2 mulD (o2 addD (o2 modD (vr 4) (cn (.int 1000003))) (cn (.int 1))) (o2 addD (o2 addD (o2 mulD (o2 mulD (cn (.int 7919)) (vr 3)) (vr 3)) (o2 mulD (cn (.int 104729)) (vr 3))) (cn (.int 12345)))) (cn (.int 2147483647))) (gn 5))
  (sq (sa (o2 modD (o2 addD (o2 addD (o2 mulD (vr 5) (vr 5)) (o2 mulD (cn (.int 48271)) (vr 3))) (o2 modD (vr 4) (cn (.int 65537)))) (cn (.int 2147483629))) (gn 5))
  (sret (o2 modD (o2 divD2 (vr 5) (cn (.int 8))) (vr 1)))))))))))
def f__law_draw:Fn:=fnB 6 b__law_draw
theorem sc__law_draw:FnScope ["_law_tape_here","_law_many","_law_digit","_law_at","_law_cell","_law_mixed"] ["_law_tape_here","_law_many"] (defScope st__law_draw):=⟨rfl,rfl,rfl,by decide +kernel,rfl,by decide +kernel,by decide +kernel⟩
abbrev z1:=defScope st__law_draw
theorem g1_7:OkG z1 "len":=⟨by decide +kernel⟩
theorem l1_4:OkL z1 "_law_at":=⟨by decide +kernel⟩
theorem l1_6:OkL z1 "_law_cell":=⟨by decide +kernel⟩
theorem l1_2:OkL z1 "_law_digit":=⟨by decide +kernel⟩
theorem l1_9:OkL z1 "_law_mixed":=⟨by decide +kernel⟩
theorem v1_5:OkV z1 "_law_at":=⟨by decide +kernel⟩
theorem v1_8:OkV z1 "_law_cell":=⟨by decide +kernel⟩
theorem v1_3:OkV z1 "_law_digit":=⟨by decide +kernel⟩
theorem v1_1:OkV z1 "_law_many":=⟨by decide +kernel⟩
theorem v1_10:OkV z1 "_law_mixed":=⟨by decide +kernel⟩
theorem v1_0:OkV z1 "_law_tape_here":=⟨by decide +kernel⟩
set_option maxHeartbeats 4000000 in
theorem cal__law_draw(T:Txt K mg)(d:Dn K mg "_law_draw" st__law_draw ["_law_tape_here","_law_many"]):Cal P w K mg base "_law_draw" ["_law_tape_here","_law_many"] f__law_draw 1:=by
 have Sc:=sc__law_draw
 refine cal_of ["_law_tape_here","_law_many","_law_digit","_law_at","_law_cell","_law_mixed"] 0 b__law_draw rfl d Sc fun f cdv A outer s H E hr=>?_
 conv=>arg 3; whnf
 refine GSs.h ?_
 exact(gss_cons (gs_if (gt_gt (ge_get (gv 0 v1_0) ge_int) ge_int)
  (gss_cons (gset 2 Sc.nd l1_2 (ge_mod (ge_get (gv 0 v1_0) ge_int) (gv 1 v1_1)))
  (gss_cons (gs_setix (ge_div2 (ge_get (gv 0 v1_0) ge_int) (gv 1 v1_1)) (gv 0 v1_0) ge_int)
  (gss_one (gs_ret (gv 2 v1_3)))))
  gss_nil)
  (gss_cons (gset 3 Sc.nd l1_4 (ge_get (gv 0 v1_0) ge_int))
  (gss_cons (gs_setix (ge_add (gv 3 v1_5) ge_int) (gv 0 v1_0) ge_int)
  (gss_cons (gset 4 Sc.nd l1_6 ge_int)
  (gss_cons (gs_if (gt_gt (ge_len (gl g1_7) T.b_len (ga_cons (ge_get (gv 0 v1_0) ge_int) ga_nil se_Subscript)) ge_int)
  (gss_one (gset 4 Sc.nd l1_6 (ge_get (ge_get (gv 0 v1_0) ge_int) (ge_mod (gv 3 v1_5) (ge_len (gl g1_7) T.b_len (ga_cons (ge_get (gv 0 v1_0) ge_int) ga_nil se_Subscript))))))
  gss_nil)
  (gss_cons (gs_if (GW.jt (gw_and (gt_lt (gv 3 v1_5) (ge_len (gl g1_7) T.b_len (ga_cons (ge_get (gv 0 v1_0) ge_int) ga_nil se_Subscript))) (gw_and1 (gt_ge (gv 4 v1_8) (ge_pow ge_int ge_int)))))
  (gss_cons (gs_setix (ge_div2 (gv 4 v1_8) (gv 1 v1_1)) (gv 0 v1_0) ge_int)
  (gss_one (gs_ret (ge_mod (gv 4 v1_8) (gv 1 v1_1)))))
  gss_nil)
  (gss_cons (gset 5 Sc.nd l1_9 (ge_mod (ge_mul (ge_add (ge_mod (gv 4 v1_8) ge_int) ge_int) (ge_add (ge_add (ge_mul (ge_mul ge_int (gv 3 v1_5)) (gv 3 v1_5)) (ge_mul ge_int (gv 3 v1_5))) ge_int)) ge_int))
  (gss_cons (gset 5 Sc.nd l1_9 (ge_mod (ge_add (ge_add (ge_mul (gv 5 v1_10) (gv 5 v1_10)) (ge_mul ge_int (gv 3 v1_5))) (ge_mod (gv 4 v1_8) ge_int)) ge_int))
  (gss_one (gs_ret (ge_mod (ge_div2 (gv 5 v1_10) ge_int) (gv 1 v1_1))))))))))))
def b__law_name:Sv:=(sq (sa (ls (ac (cn (.str "nogate")) (ac (cn (.str "dry")) (ac (cn (.str "full")) (ac (cn (.str "nospring")) (ac (cn (.str "nobarge")) (ac (cn (.str "noroom")) (ac (cn (.str "uneven")) (ac (cn (.str "shallow")) (ac (cn (.str "falls")) (ac (cn (.str "notext")) (ac (cn (.str "toomany")) (ac (cn (.str "noline")) an))))))))))))) (gn 1))
  (sq (sif (to (tb (o2 neD (b1 lenD (ac (vr 0) an)) (cn (.int 13)))) (to (tb (o2 neD (mt cntD (sl2 (vr 0) onone (osome (cn (.int 12)))) (ac (cn (.bl true)) an)) (cn (.int 1)))) (tn (tt (o2 getD (vr 0) (cn (.int 12)))))))
  (sret (cn (.str "unlike")))
  skip)
  (sret (o2 getD (vr 1) (mt idxD (vr 0) (ac (cn (.bl true)) an))))))
def f__law_name:Fn:=fnB 2 b__law_name
theorem sc__law_name:FnScope ["_law_marks","_law_words_here"] ["_law_marks"] (defScope st__law_name):=⟨rfl,rfl,rfl,by decide +kernel,rfl,by decide +kernel,by decide +kernel⟩
abbrev z2:=defScope st__law_name
theorem g2_2:OkG z2 "len":=⟨by decide +kernel⟩
theorem l2_0:OkL z2 "_law_words_here":=⟨by decide +kernel⟩
theorem v2_1:OkV z2 "_law_marks":=⟨by decide +kernel⟩
theorem v2_3:OkV z2 "_law_words_here":=⟨by decide +kernel⟩
set_option maxHeartbeats 4000000 in
theorem cal__law_name(T:Txt K mg)(d:Dn K mg "_law_name" st__law_name ["_law_marks"]):Cal P w K mg base "_law_name" ["_law_marks"] f__law_name 1:=by
 have Sc:=sc__law_name
 refine cal_of ["_law_marks","_law_words_here"] 0 b__law_name rfl d Sc fun f cdv A outer s H E hr=>?_
 conv=>arg 3; whnf
 refine GSs.h ?_
 exact(gss_cons (gset 1 Sc.nd l2_0 (ge_lst (ga_cons ge_str (ga_cons ge_str (ga_cons ge_str (ga_cons ge_str (ga_cons ge_str (ga_cons ge_str (ga_cons ge_str (ga_cons ge_str (ga_cons ge_str (ga_cons ge_str (ga_cons ge_str (ga_cons ge_str ga_nil se_Constant) se_Constant) se_Constant) se_Constant) se_Constant) se_Constant) se_Constant) se_Constant) se_Constant) se_Constant) se_Constant) se_Constant)))
  (gss_cons (gs_if (GW.jt (gw_or (gt_ne hr.units (ge_len (gl g2_2) T.b_len (ga_cons (gv 0 v2_1) ga_nil se_Name)) ge_int) (gw_or (gt_ne hr.units (ge_count (ge_slice2 (gv 0 v2_1) go_none (go_some ge_int)) (ga_cons ge_bl ga_nil se_Constant)) ge_int) (gw_or1 (gt_not (gt_val (ge_get (gv 0 v2_1) ge_int)))))))
  (gss_one (gs_ret ge_str))
  gss_nil)
  (gss_one (gs_ret (ge_get (gv 1 v2_3) (ge_index (gv 0 v2_1) (ga_cons ge_bl ga_nil se_Constant)))))))
def tb__law_raised_1:Sv:=(sif (tb (o2 eqD (vr 0) (cn (.int 0))))
  (srs "NoGate" (ac (cn (.str "one")) an))
  (sif (tb (o2 eqD (vr 0) (cn (.int 1))))
  (srs "Dry" (ac (cn (.str "one")) an))
  (sif (tb (o2 eqD (vr 0) (cn (.int 2))))
  (srs "Full" (ac (cn (.str "one")) an))
  (sif (tb (o2 eqD (vr 0) (cn (.int 3))))
  (srs "NoSpring" (ac (cn (.str "one")) an))
  (sif (tb (o2 eqD (vr 0) (cn (.int 4))))
  (srs "NoBarge" (ac (cn (.str "one")) an))
  (sif (tb (o2 eqD (vr 0) (cn (.int 5))))
  (srs "NoRoom" (ac (cn (.str "one")) an))
  (sif (tb (o2 eqD (vr 0) (cn (.int 6))))
  (srs "Uneven" (ac (cn (.str "one")) an))
  (sif (tb (o2 eqD (vr 0) (cn (.int 7))))
  (srs "Shallow" (ac (cn (.str "one")) an))
  (sif (tb (o2 eqD (vr 0) (cn (.int 8))))
  (srj "Falls" (ac (vr 1) an))
  (sif (tb (o2 eqD (vr 0) (cn (.int 9))))
  (srj "NoText" (ac (vr 1) an))
  (sif (tb (o2 eqD (vr 0) (cn (.int 10))))
  (srs "TooMany" (ac (cn (.str "one")) an))
  (sif (tb (o2 eqD (vr 0) (cn (.int 11))))
  (srs "NoLine" (ac (cn (.str "one")) an))
  (srs "SummitError" (ac (cn (.str "one")) an))))))))))))))
def th__law_raised_1:Sv:=(sq (sa (ls (ac (o1 (isxD ys ["NoGate"]) (vr 4)) (ac (o1 (isxD ys ["Dry"]) (vr 4)) (ac (o1 (isxD ys ["Full"]) (vr 4)) (ac (o1 (isxD ys ["NoSpring"]) (vr 4)) an))))) (gn 2))
  (sq (sa (o2 addD (vr 2) (ls (ac (o1 (isxD ys ["NoBarge"]) (vr 4)) (ac (o1 (isxD ys ["NoRoom"]) (vr 4)) (ac (o1 (isxD ys ["Uneven"]) (vr 4)) an))))) (gn 2))
  (sq (sa (o2 addD (vr 2) (ls (ac (o1 (isxD ys ["Shallow"]) (vr 4)) (ac (o1 (isxD ys ["Falls"]) (vr 4)) (ac (o1 (isxD ys ["NoText"]) (vr 4)) an))))) (gn 2))
  (sq (sa (o2 addD (vr 2) (ls (ac (o1 (isxD ys ["TooMany"]) (vr 4)) (ac (o1 (isxD ys ["NoLine"]) (vr 4)) (ac (o1 (isxD ys ys) (vr 4)) an))))) (gn 2))
  (sif (to (tt (o1 (isxD ys ["Falls"]) (vr 4))) (tt (o1 (isxD ys ["NoText"]) (vr 4))))
  (sa (o1 (atD ats) (vr 4)) (gn 3))
  skip)))))
def b__law_raised:Sv:=(sq (sa (ls an) (gn 2))
  (sq (sa (cn .non) (gn 3))
  (sq (stryG ys (hdl 4 th__law_raised_1) tb__law_raised_1)
  (sret (tp (ac (vr 2) (ac (vr 3) an)))))))
def f__law_raised:Fn:=fnB 5 b__law_raised
theorem sc__law_raised:FnScope ["_law_k","_law_number","_law_marks","_law_at","e"] ["_law_k","_law_number"] (defScope st__law_raised):=⟨rfl,rfl,rfl,by decide +kernel,rfl,by decide +kernel,by decide +kernel⟩
abbrev z3:=defScope st__law_raised
theorem c3_21:OkC z3 "e":=⟨by decide +kernel⟩
theorem g3_4:OkG z3 "Dry":=⟨by decide +kernel⟩
theorem g3_12:OkG z3 "Falls":=⟨by decide +kernel⟩
theorem g3_5:OkG z3 "Full":=⟨by decide +kernel⟩
theorem g3_7:OkG z3 "NoBarge":=⟨by decide +kernel⟩
theorem g3_3:OkG z3 "NoGate":=⟨by decide +kernel⟩
theorem g3_15:OkG z3 "NoLine":=⟨by decide +kernel⟩
theorem g3_8:OkG z3 "NoRoom":=⟨by decide +kernel⟩
theorem g3_6:OkG z3 "NoSpring":=⟨by decide +kernel⟩
theorem g3_13:OkG z3 "NoText":=⟨by decide +kernel⟩
theorem g3_10:OkG z3 "Shallow":=⟨by decide +kernel⟩
theorem g3_16:OkG z3 "SummitError":=⟨by decide +kernel⟩
theorem g3_14:OkG z3 "TooMany":=⟨by decide +kernel⟩
theorem g3_9:OkG z3 "Uneven":=⟨by decide +kernel⟩
theorem g3_20:OkG z3 "ValueError":=⟨by decide +kernel⟩
theorem g3_18:OkG z3 "isinstance":=⟨by decide +kernel⟩
theorem l3_1:OkL z3 "_law_at":=⟨by decide +kernel⟩
theorem l3_0:OkL z3 "_law_marks":=⟨by decide +kernel⟩
theorem v3_22:OkV z3 "_law_at":=⟨by decide +kernel⟩
theorem v3_2:OkV z3 "_law_k":=⟨by decide +kernel⟩
theorem v3_19:OkV z3 "_law_marks":=⟨by decide +kernel⟩
theorem v3_11:OkV z3 "_law_number":=⟨by decide +kernel⟩
theorem v3_17:OkV z3 "e":=⟨by decide +kernel⟩
theorem p_Dry:plainN "Dry"=true:=by decide +kernel
theorem p_Falls:plainN "Falls"=true:=by decide +kernel
theorem p_Full:plainN "Full"=true:=by decide +kernel
theorem p_NoBarge:plainN "NoBarge"=true:=by decide +kernel
theorem p_NoGate:plainN "NoGate"=true:=by decide +kernel
theorem p_NoLine:plainN "NoLine"=true:=by decide +kernel
theorem p_NoRoom:plainN "NoRoom"=true:=by decide +kernel
theorem p_NoSpring:plainN "NoSpring"=true:=by decide +kernel
theorem p_NoText:plainN "NoText"=true:=by decide +kernel
theorem p_Shallow:plainN "Shallow"=true:=by decide +kernel
theorem p_SummitError:plainN "SummitError"=true:=by decide +kernel
theorem p_TooMany:plainN "TooMany"=true:=by decide +kernel
theorem p_Uneven:plainN "Uneven"=true:=by decide +kernel
theorem p_ValueError:plainN "ValueError"=true:=by decide +kernel
set_option maxHeartbeats 4000000 in
theorem cal__law_raised(T:Txt K mg)(d:Dn K mg "_law_raised" st__law_raised ["_law_k","_law_number"])(X_Dry:ClX P w K mg base "Dry" 1)(X_Full:ClX P w K mg base "Full" 1)(X_NoBarge:ClX P w K mg base "NoBarge" 1)(X_NoGate:ClX P w K mg base "NoGate" 1)(X_NoLine:ClX P w K mg base "NoLine" 1)(X_NoRoom:ClX P w K mg base "NoRoom" 1)(X_NoSpring:ClX P w K mg base "NoSpring" 1)(X_Shallow:ClX P w K mg base "Shallow" 1)(X_SummitError:ClX P w K mg base "SummitError" 1)(X_TooMany:ClX P w K mg base "TooMany" 1)(X_Uneven:ClX P w K mg base "Uneven" 1)(J_Falls:ClJ P w K mg base "Falls" 3)(J_NoText:ClJ P w K mg base "NoText" 3):Cal P w K mg base "_law_raised" ["_law_k","_law_number"] f__law_raised 5:=by
 have Sc:=sc__law_raised
 refine cal_of ["_law_k","_law_number","_law_marks","_law_at","e"] 4 b__law_raised rfl d Sc fun f cdv A outer s H E hr=>?_
 conv=>arg 3; whnf
 refine GSs.h ?_
 exact(gss_cons (gset 2 Sc.nd l3_0 (ge_lst ga_nil))
  (gss_cons (gset 3 Sc.nd l3_1 ge_non)
  (gss_cons (gs_tryA 4 ⟨rfl,rfl,rfl⟩ T.xt.cat (gl g3_16) p_SummitError Sc.nd c3_21 (fun pn xe XQ L=>(gss_one (gs_if (gt_eq hr.units (gv 0 v3_2) ge_int)
  (gss_one (gs_raise L rfl X_NoGate hr (gl g3_3) p_NoGate (ga_cons ge_str ga_nil se_Constant)))
  (gss_one (gs_if (gt_eq hr.units (gv 0 v3_2) ge_int)
  (gss_one (gs_raise L rfl X_Dry hr (gl g3_4) p_Dry (ga_cons ge_str ga_nil se_Constant)))
  (gss_one (gs_if (gt_eq hr.units (gv 0 v3_2) ge_int)
  (gss_one (gs_raise L rfl X_Full hr (gl g3_5) p_Full (ga_cons ge_str ga_nil se_Constant)))
  (gss_one (gs_if (gt_eq hr.units (gv 0 v3_2) ge_int)
  (gss_one (gs_raise L rfl X_NoSpring hr (gl g3_6) p_NoSpring (ga_cons ge_str ga_nil se_Constant)))
  (gss_one (gs_if (gt_eq hr.units (gv 0 v3_2) ge_int)
  (gss_one (gs_raise L rfl X_NoBarge hr (gl g3_7) p_NoBarge (ga_cons ge_str ga_nil se_Constant)))
  (gss_one (gs_if (gt_eq hr.units (gv 0 v3_2) ge_int)
  (gss_one (gs_raise L rfl X_NoRoom hr (gl g3_8) p_NoRoom (ga_cons ge_str ga_nil se_Constant)))
  (gss_one (gs_if (gt_eq hr.units (gv 0 v3_2) ge_int)
  (gss_one (gs_raise L rfl X_Uneven hr (gl g3_9) p_Uneven (ga_cons ge_str ga_nil se_Constant)))
  (gss_one (gs_if (gt_eq hr.units (gv 0 v3_2) ge_int)
  (gss_one (gs_raise L rfl X_Shallow hr (gl g3_10) p_Shallow (ga_cons ge_str ga_nil se_Constant)))
  (gss_one (gs_if (gt_eq hr.units (gv 0 v3_2) ge_int)
  (gss_one (gs_raisej L rfl J_Falls hr (gl g3_12) p_Falls (ga_cons (gv 1 v3_11) ga_nil se_Name)))
  (gss_one (gs_if (gt_eq hr.units (gv 0 v3_2) ge_int)
  (gss_one (gs_raisej L rfl J_NoText hr (gl g3_13) p_NoText (ga_cons (gv 1 v3_11) ga_nil se_Name)))
  (gss_one (gs_if (gt_eq hr.units (gv 0 v3_2) ge_int)
  (gss_one (gs_raise L rfl X_TooMany hr (gl g3_14) p_TooMany (ga_cons ge_str ga_nil se_Constant)))
  (gss_one (gs_if (gt_eq hr.units (gv 0 v3_2) ge_int)
  (gss_one (gs_raise L rfl X_NoLine hr (gl g3_15) p_NoLine (ga_cons ge_str ga_nil se_Constant)))
  (gss_one (gs_raise L rfl X_SummitError hr (gl g3_16) p_SummitError (ga_cons ge_str ga_nil se_Constant))))))))))))))))))))))))))))
  (fun a=>(gss_cons (gset 2 Sc.nd l3_0 (ge_lst (ga_cons (ge_isx (T.xt.isx "NoGate" (by decide +kernel)) (gl g3_18) T.b_isinstance (gl g3_3) p_NoGate (gv 4 v3_17) (by rfl) (by rfl) (by rfl)) (ga_cons (ge_isx (T.xt.isx "Dry" (by decide +kernel)) (gl g3_18) T.b_isinstance (gl g3_4) p_Dry (gv 4 v3_17) (by rfl) (by rfl) (by rfl)) (ga_cons (ge_isx (T.xt.isx "Full" (by decide +kernel)) (gl g3_18) T.b_isinstance (gl g3_5) p_Full (gv 4 v3_17) (by rfl) (by rfl) (by rfl)) (ga_cons (ge_isx (T.xt.isx "NoSpring" (by decide +kernel)) (gl g3_18) T.b_isinstance (gl g3_6) p_NoSpring (gv 4 v3_17) (by rfl) (by rfl) (by rfl)) ga_nil se_Call) se_Call) se_Call) se_Call)))
  (gss_cons (gset 2 Sc.nd l3_0 (ge_add (gv 2 v3_19) (ge_lst (ga_cons (ge_isx (T.xt.isx "NoBarge" (by decide +kernel)) (gl g3_18) T.b_isinstance (gl g3_7) p_NoBarge (gv 4 v3_17) (by rfl) (by rfl) (by rfl)) (ga_cons (ge_isx (T.xt.isx "NoRoom" (by decide +kernel)) (gl g3_18) T.b_isinstance (gl g3_8) p_NoRoom (gv 4 v3_17) (by rfl) (by rfl) (by rfl)) (ga_cons (ge_isx (T.xt.isx "Uneven" (by decide +kernel)) (gl g3_18) T.b_isinstance (gl g3_9) p_Uneven (gv 4 v3_17) (by rfl) (by rfl) (by rfl)) ga_nil se_Call) se_Call) se_Call))))
  (gss_cons (gset 2 Sc.nd l3_0 (ge_add (gv 2 v3_19) (ge_lst (ga_cons (ge_isx (T.xt.isx "Shallow" (by decide +kernel)) (gl g3_18) T.b_isinstance (gl g3_10) p_Shallow (gv 4 v3_17) (by rfl) (by rfl) (by rfl)) (ga_cons (ge_isx (T.xt.isx "Falls" (by decide +kernel)) (gl g3_18) T.b_isinstance (gl g3_12) p_Falls (gv 4 v3_17) (by rfl) (by rfl) (by rfl)) (ga_cons (ge_isx (T.xt.isx "NoText" (by decide +kernel)) (gl g3_18) T.b_isinstance (gl g3_13) p_NoText (gv 4 v3_17) (by rfl) (by rfl) (by rfl)) ga_nil se_Call) se_Call) se_Call))))
  (gss_cons (gset 2 Sc.nd l3_0 (ge_add (gv 2 v3_19) (ge_lst (ga_cons (ge_isx (T.xt.isx "TooMany" (by decide +kernel)) (gl g3_18) T.b_isinstance (gl g3_14) p_TooMany (gv 4 v3_17) (by rfl) (by rfl) (by rfl)) (ga_cons (ge_isx (T.xt.isx "NoLine" (by decide +kernel)) (gl g3_18) T.b_isinstance (gl g3_15) p_NoLine (gv 4 v3_17) (by rfl) (by rfl) (by rfl)) (ga_cons (ge_isxB T.xt.val (by rfl) (by decide +kernel) (gl g3_18) T.b_isinstance (gl g3_20) T.b_ValueError p_ValueError (gv 4 v3_17) (by rfl) (by rfl) (by rfl)) ga_nil se_Call) se_Call) se_Call))))
  (gss_one (gs_if (GW.jt (gw_or (gt_val (ge_isx (T.xt.isx "Falls" (by decide +kernel)) (gl g3_18) T.b_isinstance (gl g3_12) p_Falls (gv 4 v3_17) (by rfl) (by rfl) (by rfl))) (gw_or1 (gt_val (ge_isx (T.xt.isx "NoText" (by decide +kernel)) (gl g3_18) T.b_isinstance (gl g3_13) p_NoText (gv 4 v3_17) (by rfl) (by rfl) (by rfl))))))
  (gss_one (gset 3 Sc.nd l3_1 (ge_at T.atc (gv 4 v3_17))))
  gss_nil))))))))
  (gss_one (gs_ret (ge_tup (ga_cons (gv 2 v3_19) (ga_cons (gv 3 v3_22) ga_nil se_Name) se_Name)))))))
def lb_law_1:Sv:=(sq (sa (cl 2 (noExc f__law_raised) (ac (vr 4) (ac (vr 2) an))) (gt (gcons (gn 5) (gcons (gn 6) gnil)) 2))
  (sq (sif (tb (o2 neD (cl 1 (noExc f__law_name) (ac (vr 5) an)) (o2 getD (vr 3) (vr 4))))
  (sret (cn (.bl false)))
  skip)
  (sif (ta (tb (o2 inD (vr 4) (ls (ac (cn (.int 8)) (ac (cn (.int 9)) an))))) (to (tt (o1 (isD "bool") (vr 6))) (tb (o2 neD (vr 6) (vr 2)))))
  (sret (cn (.bl false)))
  skip)))
def b_law:Sv:=(sq (sa (cl 1 (noExc f__law_tape) (ac (vr 0) an)) (gn 1))
  (sq (sa (cl 2 (noExc f__law_draw) (ac (vr 1) (ac (o2 powD (cn (.int 10)) (cn (.int 30))) an))) (gn 2))
  (sq (sa (ls (ac (cn (.str "nogate")) (ac (cn (.str "dry")) (ac (cn (.str "full")) (ac (cn (.str "nospring")) (ac (cn (.str "nobarge")) (ac (cn (.str "noroom")) (ac (cn (.str "uneven")) (ac (cn (.str "shallow")) (ac (cn (.str "falls")) (ac (cn (.str "notext")) (ac (cn (.str "toomany")) (ac (cn (.str "noline")) an))))))))))))) (gn 3))
  (sq (sfor (ir1 (ac (cn (.int 12)) an)) (gn 4) lb_law_1)
  (sret (o2 eqD (cl 2 (noExc f__law_raised) (ac (cn (.int 12)) (ac (cn (.int 0)) an))) (tp (ac (o2 addD (o2 mulD (ls (ac (cn (.bl false)) an)) (cn (.int 12))) (ls (ac (cn (.bl true)) an))) (ac (cn .non) an)))))))))
def f_law:Fn:=fnB 7 b_law
theorem sc_law:FnScope ["_law_script","_law_tape_here","_law_number","_law_words_here","_law_k","_law_marks","_law_at"] ["_law_script"] (defScope st_law):=⟨rfl,rfl,rfl,by decide +kernel,rfl,by decide +kernel,by decide +kernel⟩
abbrev z4:=defScope st_law
theorem g4_4:OkG z4 "_law_draw":=⟨by decide +kernel⟩
theorem g4_15:OkG z4 "_law_name":=⟨by decide +kernel⟩
theorem g4_11:OkG z4 "_law_raised":=⟨by decide +kernel⟩
theorem g4_1:OkG z4 "_law_tape":=⟨by decide +kernel⟩
theorem g4_19:OkG z4 "bool":=⟨by decide +kernel⟩
theorem g4_18:OkG z4 "isinstance":=⟨by decide +kernel⟩
theorem g4_7:OkG z4 "range":=⟨by decide +kernel⟩
theorem l4_12:OkL z4 "_law_at":=⟨by decide +kernel⟩
theorem l4_8:OkL z4 "_law_k":=⟨by decide +kernel⟩
theorem l4_13:OkL z4 "_law_marks":=⟨by decide +kernel⟩
theorem l4_5:OkL z4 "_law_number":=⟨by decide +kernel⟩
theorem l4_2:OkL z4 "_law_tape_here":=⟨by decide +kernel⟩
theorem l4_6:OkL z4 "_law_words_here":=⟨by decide +kernel⟩
theorem v4_17:OkV z4 "_law_at":=⟨by decide +kernel⟩
theorem v4_10:OkV z4 "_law_k":=⟨by decide +kernel⟩
theorem v4_14:OkV z4 "_law_marks":=⟨by decide +kernel⟩
theorem v4_9:OkV z4 "_law_number":=⟨by decide +kernel⟩
theorem v4_0:OkV z4 "_law_script":=⟨by decide +kernel⟩
theorem v4_3:OkV z4 "_law_tape_here":=⟨by decide +kernel⟩
theorem v4_16:OkV z4 "_law_words_here":=⟨by decide +kernel⟩
theorem p__law_draw:plainN "_law_draw"=true:=by decide +kernel
theorem p__law_name:plainN "_law_name"=true:=by decide +kernel
theorem p__law_raised:plainN "_law_raised"=true:=by decide +kernel
theorem p__law_tape:plainN "_law_tape"=true:=by decide +kernel
set_option maxHeartbeats 4000000 in
theorem okl_law(T:Txt K mg){f:Addr}{fd:FuncData}(F:Fun K "law" "law" st_law f fd)(C__law_draw:Cal P w K mg base "_law_draw" ["_law_tape_here","_law_many"] f__law_draw 1)(C__law_name:Cal P w K mg base "_law_name" ["_law_marks"] f__law_name 1)(C__law_raised:Cal P w K mg base "_law_raised" ["_law_k","_law_number"] f__law_raised 5)(C__law_tape:Cal P w K mg base "_law_tape" ["_law_script"] f__law_tape 1):FnOk P w K mg base CX0 6 f fd ["_law_script"] (spD K 1 f_law):=by
 have Sc:=sc_law
 refine fn_ok (b:=b_law) F Sc fun cdv A outer s H E hr=>?_
 conv=>arg 3; whnf
 refine GSs.h ?_
 exact(gss_cons (gset 1 Sc.nd l4_2 (gown C__law_tape hr (gl g4_1) p__law_tape (ga_cons (gv 0 v4_0) ga_nil se_Name)))
  (gss_cons (gset 2 Sc.nd l4_5 (gown C__law_draw hr (gl g4_4) p__law_draw (ga_cons (gv 1 v4_3) (ga_cons (ge_pow ge_int ge_int) ga_nil se_BinOp) se_Name)))
  (gss_cons (gset 3 Sc.nd l4_6 (ge_lst (ga_cons ge_str (ga_cons ge_str (ga_cons ge_str (ga_cons ge_str (ga_cons ge_str (ga_cons ge_str (ga_cons ge_str (ga_cons ge_str (ga_cons ge_str (ga_cons ge_str (ga_cons ge_str (ga_cons ge_str ga_nil se_Constant) se_Constant) se_Constant) se_Constant) se_Constant) se_Constant) se_Constant) se_Constant) se_Constant) se_Constant) se_Constant) se_Constant)))
  (gss_cons (gs_for PassesOwn.never rfl (gi_range1 (gl g4_7) T.b_range (ga_cons ge_int ga_nil se_Constant)) (ggn 4 Sc.nd l4_8)
  (gss_cons (gs_asg (gown C__law_raised hr (gl g4_11) p__law_raised (ga_cons (gv 4 v4_10) (ga_cons (gv 2 v4_9) ga_nil se_Name) se_Name)) (gg_tup rfl (ggs_cons (ggn 5 Sc.nd l4_13) (ggs_cons (ggn 6 Sc.nd l4_12) ggs_nil))))
  (gss_cons (gs_if (gt_ne hr.units (gown C__law_name hr (gl g4_15) p__law_name (ga_cons (gv 5 v4_14) ga_nil se_Name)) (ge_get (gv 3 v4_16) (gv 4 v4_10)))
  (gss_one (gs_ret ge_bl))
  gss_nil)
  (gss_one (gs_if (GW.jt (gw_and (gt_in (gv 4 v4_10) (ge_lst (ga_cons ge_int (ga_cons ge_int ga_nil se_Constant) se_Constant))) (gw_and1 (GW.jt (gw_or (gt_val (ge_isi kit_bool (by rfl) (by decide +kernel) (by decide +kernel) (gl g4_18) T.b_isinstance (gl g4_19) T.b_bool (gv 6 v4_17) (by rfl) (by rfl) (by rfl))) (gw_or1 (gt_ne hr.units (gv 6 v4_17) (gv 2 v4_9))))))))
  (gss_one (gs_ret ge_bl))
  gss_nil)))))
  (gss_one (gs_ret (ge_eq hr.units (gown C__law_raised hr (gl g4_11) p__law_raised (ga_cons ge_int (ga_cons ge_int ga_nil se_Constant) se_Constant)) (ge_tup (ga_cons (ge_add (ge_mul (ge_lst (ga_cons ge_bl ga_nil se_Constant)) ge_int) (ge_lst (ga_cons ge_bl ga_nil se_Constant))) (ga_cons ge_non ga_nil se_Constant) se_BinOp)))))))))
set_option maxHeartbeats 4000000 in
theorem allc(T:Txt K mg)(d__law_tape:Dn K mg "_law_tape" st__law_tape ["_law_script"])(d__law_draw:Dn K mg "_law_draw" st__law_draw ["_law_tape_here","_law_many"])(d__law_name:Dn K mg "_law_name" st__law_name ["_law_marks"])(d__law_raised:Dn K mg "_law_raised" st__law_raised ["_law_k","_law_number"])(X_Dry:ClX P w K mg base "Dry" 1)(X_Full:ClX P w K mg base "Full" 1)(X_NoBarge:ClX P w K mg base "NoBarge" 1)(X_NoGate:ClX P w K mg base "NoGate" 1)(X_NoLine:ClX P w K mg base "NoLine" 1)(X_NoRoom:ClX P w K mg base "NoRoom" 1)(X_NoSpring:ClX P w K mg base "NoSpring" 1)(X_Shallow:ClX P w K mg base "Shallow" 1)(X_SummitError:ClX P w K mg base "SummitError" 1)(X_TooMany:ClX P w K mg base "TooMany" 1)(X_Uneven:ClX P w K mg base "Uneven" 1)(J_Falls:ClJ P w K mg base "Falls" 3)(J_NoText:ClJ P w K mg base "NoText" 3){f:Addr}{fd:FuncData}(F:Fun K "law" "law" st_law f fd):FnOk P w K mg base CX0 6 f fd ["_law_script"] (spD K 1 f_law):=by
 have C__law_tape:Cal P w K mg base "_law_tape" ["_law_script"] f__law_tape 1:=cal__law_tape T d__law_tape
 have C__law_draw:Cal P w K mg base "_law_draw" ["_law_tape_here","_law_many"] f__law_draw 1:=cal__law_draw T d__law_draw
 have C__law_name:Cal P w K mg base "_law_name" ["_law_marks"] f__law_name 1:=cal__law_name T d__law_name
 have C__law_raised:Cal P w K mg base "_law_raised" ["_law_k","_law_number"] f__law_raised 5:=cal__law_raised T d__law_raised X_Dry X_Full X_NoBarge X_NoGate X_NoLine X_NoRoom X_NoSpring X_Shallow X_SummitError X_TooMany X_Uneven J_Falls J_NoText
 exact okl_law T F C__law_draw C__law_name C__law_raised C__law_tape
end
set_option maxHeartbeats 4000000 in
theorem all_mk{l:PySem.W.OpenLaw}{w:World}{K:PySem.W.Frag}{h:Heap}{mg:Str→Option Value}{fa:Addr}(X:K.In h)(G:h.Ns mainGlobals mg)(hfa:mg "law"=some (.ref fa))
  (h__law_tape:FH K "_law_tape" st__law_tape)
  (h__law_draw:FH K "_law_draw" st__law_draw)
  (h__law_name:FH K "_law_name" st__law_name)
  (h__law_raised:FH K "_law_raised" st__law_raised)
  {fx_law:Addr} {od_law an_law:Option Addr} {sl_law:Array (Option Value)} {oc_law kV_law dc_law pm_law cd_law ct_law:Value}
  (a_law:PySem.W.nsIn K mainGlobals "law"=some (some (.ref fx_law))) (l_law:K.lookup fx_law=some ⟨oc_law,od_law,.func (PySem.W.fnOf "law" "law" (defArgs st_law) (defBody st_law) (defScope st_law) .none kV_law dc_law pm_law an_law cd_law ct_law),sl_law⟩) (c_law:PySem.W.codeIn K cd_law "law"=true) (k_law:PySem.W.keepIn K (.ref fx_law)=true)
  (z_ValueError:PySem.W.nsIn K mainGlobals "ValueError"=some none)
  (z_bool:PySem.W.nsIn K mainGlobals "bool"=some none)
  (z_isinstance:PySem.W.nsIn K mainGlobals "isinstance"=some none)
  (z_len:PySem.W.nsIn K mainGlobals "len"=some none)
  (z_list:PySem.W.nsIn K mainGlobals "list"=some none)
  (z_range:PySem.W.nsIn K mainGlobals "range"=some none)
  {cc_SummitError:Addr} (ca_SummitError:PySem.W.nsIn K mainGlobals "SummitError"=some (some (.ref cc_SummitError)))
  {cc_NoGate:Addr} (ca_NoGate:PySem.W.nsIn K mainGlobals "NoGate"=some (some (.ref cc_NoGate)))
  {cc_Dry:Addr} (ca_Dry:PySem.W.nsIn K mainGlobals "Dry"=some (some (.ref cc_Dry)))
  {cc_Full:Addr} (ca_Full:PySem.W.nsIn K mainGlobals "Full"=some (some (.ref cc_Full)))
  {cc_NoSpring:Addr} (ca_NoSpring:PySem.W.nsIn K mainGlobals "NoSpring"=some (some (.ref cc_NoSpring)))
  {cc_NoBarge:Addr} (ca_NoBarge:PySem.W.nsIn K mainGlobals "NoBarge"=some (some (.ref cc_NoBarge)))
  {cc_NoRoom:Addr} (ca_NoRoom:PySem.W.nsIn K mainGlobals "NoRoom"=some (some (.ref cc_NoRoom)))
  {cc_Uneven:Addr} (ca_Uneven:PySem.W.nsIn K mainGlobals "Uneven"=some (some (.ref cc_Uneven)))
  {cc_Shallow:Addr} (ca_Shallow:PySem.W.nsIn K mainGlobals "Shallow"=some (some (.ref cc_Shallow)))
  {cc_Falls:Addr} (ca_Falls:PySem.W.nsIn K mainGlobals "Falls"=some (some (.ref cc_Falls)))
  {cc_NoText:Addr} (ca_NoText:PySem.W.nsIn K mainGlobals "NoText"=some (some (.ref cc_NoText)))
  {cc_TooMany:Addr} (ca_TooMany:PySem.W.nsIn K mainGlobals "TooMany"=some (some (.ref cc_TooMany)))
  {cc_NoLine:Addr} (ca_NoLine:PySem.W.nsIn K mainGlobals "NoLine"=some (some (.ref cc_NoLine)))
  (xtb:xtabB K cc_SummitError [("NoGate",cc_NoGate),("Dry",cc_Dry),("Full",cc_Full),("NoSpring",cc_NoSpring),("NoBarge",cc_NoBarge),("NoRoom",cc_NoRoom),("Uneven",cc_Uneven),("Shallow",cc_Shallow),("Falls",cc_Falls),("NoText",cc_NoText),("TooMany",cc_TooMany),("NoLine",cc_NoLine),("SummitError",cc_SummitError)] [("NoGate",cc_NoGate),("Dry",cc_Dry),("Full",cc_Full),("NoSpring",cc_NoSpring),("NoBarge",cc_NoBarge),("NoRoom",cc_NoRoom),("Uneven",cc_Uneven),("Shallow",cc_Shallow),("Falls",cc_Falls),("NoText",cc_NoText),("TooMany",cc_TooMany),("NoLine",cc_NoLine)]=true)
  (atb:atB K [("Falls",cc_Falls),("NoText",cc_NoText)]=true)
  {fi:Addr} {odI anI:Option Addr} {slI:Array (Option Value)} {kVI dcI pmI cdI ctI:Value} (iI:PySem.W.findIn K (.ref cc_SummitError) "__init__"=some (some (.ref fi))) (lI:K.lookup fi=some ⟨.type "function",odI,.func (PySem.W.fnOf "__init__" "SummitError.__init__" (defArgs st_init) (defBody st_init) (defScope st_init) .none kVI dcI pmI anI cdI ctI),slI⟩) (cI:PySem.W.codeIn K cdI "SummitError.__init__"=true) (kI:PySem.W.keepIn K (.ref fi)=true)
  (cx_Dry:clxB K cc_Dry fi=true)
  (cx_Full:clxB K cc_Full fi=true)
  (cx_NoBarge:clxB K cc_NoBarge fi=true)
  (cx_NoGate:clxB K cc_NoGate fi=true)
  (cx_NoLine:clxB K cc_NoLine fi=true)
  (cx_NoRoom:clxB K cc_NoRoom fi=true)
  (cx_NoSpring:clxB K cc_NoSpring fi=true)
  (cx_Shallow:clxB K cc_Shallow fi=true)
  (cx_SummitError:clxB K cc_SummitError fi=true)
  (cx_TooMany:clxB K cc_TooMany fi=true)
  (cx_Uneven:clxB K cc_Uneven fi=true)
  (rdI:PySem.W.readsIn K cc_SummitError (.type "type")=true) (fcI:PySem.W.findCls K (.ref cc_SummitError) (.type "type") "__init__"=some (.val (.ref fi))) (sgI:PySem.W.specialIn K (.ref cc_SummitError) "__getattribute__"=some (some (.builtin "type.__getattribute__")))
  {fj_Falls:Addr} {odJ_Falls anJ_Falls:Option Addr} {slJ_Falls:Array (Option Value)} {kVJ_Falls dcJ_Falls pmJ_Falls cdJ_Falls ctJ_Falls:Value} (iJ_Falls:PySem.W.findIn K (.ref cc_Falls) "__init__"=some (some (.ref fj_Falls))) (lJ_Falls:K.lookup fj_Falls=some ⟨.type "function",odJ_Falls,.func (PySem.W.fnOf "__init__" "Falls.__init__" (defArgs st_init_Falls) (defBody st_init_Falls) (defScope st_init_Falls) .none kVJ_Falls dcJ_Falls pmJ_Falls anJ_Falls cdJ_Falls ctJ_Falls),slJ_Falls⟩) (cJ_Falls:PySem.W.codeIn K cdJ_Falls "Falls.__init__"=true) (kJ_Falls:PySem.W.keepIn K (.ref fj_Falls)=true) (cj_Falls:cljB K cc_Falls fj_Falls=true)
  {fj_NoText:Addr} {odJ_NoText anJ_NoText:Option Addr} {slJ_NoText:Array (Option Value)} {kVJ_NoText dcJ_NoText pmJ_NoText cdJ_NoText ctJ_NoText:Value} (iJ_NoText:PySem.W.findIn K (.ref cc_NoText) "__init__"=some (some (.ref fj_NoText))) (lJ_NoText:K.lookup fj_NoText=some ⟨.type "function",odJ_NoText,.func (PySem.W.fnOf "__init__" "NoText.__init__" (defArgs st_init_NoText) (defBody st_init_NoText) (defScope st_init_NoText) .none kVJ_NoText dcJ_NoText pmJ_NoText anJ_NoText cdJ_NoText ctJ_NoText),slJ_NoText⟩) (cJ_NoText:PySem.W.codeIn K cdJ_NoText "NoText.__init__"=true) (kJ_NoText:PySem.W.keepIn K (.ref fj_NoText)=true) (cj_NoText:cljB K cc_NoText fj_NoText=true)
  : ∃ fd:FuncData,(∀ (s:Shared) (v:Value),BindsTo s fd ⟨[v],[]⟩ [("_law_script",v)])∧∀ base:Heap,K.In base→base.Ns mainGlobals mg→FnOk l.prog w K mg base CX0 6 fa fd ["_law_script"] (spD K 1 f_law):=by
 have e:=hfa.symm.trans (PySem.W.mg_of X G a_law)
 cases e
 have F:=fun_mk (st:=st_law) l_law c_law k_law
 have T:Txt K mg:=⟨PySem.W.mg_none_of X G z_ValueError,PySem.W.mg_none_of X G z_bool,PySem.W.mg_none_of X G z_isinstance,PySem.W.mg_none_of X G z_len,PySem.W.mg_none_of X G z_list,PySem.W.mg_none_of X G z_range,xt_mk X G ca_SummitError xtb,at_mk atb⟩
 have d__law_tape:Dn K mg "_law_tape" st__law_tape ["_law_script"]:=h__law_tape.dn X G fun _ _ _ _ _ _ us hl=>match us,hl with | [_],_=>rfl
 have d__law_draw:Dn K mg "_law_draw" st__law_draw ["_law_tape_here","_law_many"]:=h__law_draw.dn X G fun _ _ _ _ _ _ us hl=>match us,hl with | [_,_],_=>rfl
 have d__law_name:Dn K mg "_law_name" st__law_name ["_law_marks"]:=h__law_name.dn X G fun _ _ _ _ _ _ us hl=>match us,hl with | [_],_=>rfl
 have d__law_raised:Dn K mg "_law_raised" st__law_raised ["_law_k","_law_number"]:=h__law_raised.dn X G fun _ _ _ _ _ _ us hl=>match us,hl with | [_,_],_=>rfl
 have hVE:mg "ValueError"=none:=PySem.W.mg_none_of X G z_ValueError
 have ini:∀ base:Heap,IniX l.prog w K mg base fi 1:=fun base=>ini_mk (st:=st_init) lI cI kI sc_init (body_init hVE) (fun _ _ _ _ _ _ us hl=>match us,hl with | [_,_],_=>rfl)
 have bI:BaseI K mg "SummitError" fi:=⟨cc_SummitError,.type "type",PySem.W.mg_of X G ca_SummitError,rdI,fcI,sgI,kI⟩
 have jni_Falls:∀ base:Heap,IniJ l.prog w K mg base fj_Falls 3:=fun base=>inj_mk (st:=st_init_Falls) 2 lJ_Falls cJ_Falls kJ_Falls sc_init_Falls (body_init_Falls bI (ini base)) (fun _ _ _ _ _ _ us hl=>match us,hl with | [_,_],_=>rfl)
 have jni_NoText:∀ base:Heap,IniJ l.prog w K mg base fj_NoText 3:=fun base=>inj_mk (st:=st_init_NoText) 2 lJ_NoText cJ_NoText kJ_NoText sc_init_NoText (body_init_NoText bI (ini base)) (fun _ _ _ _ _ _ us hl=>match us,hl with | [_,_],_=>rfl)
 exact⟨_,fun s v=>.of_eq rfl,fun base _ _=>allc T d__law_tape d__law_draw d__law_name d__law_raised (clx_mk X G (ini base) ca_Dry cx_Dry) (clx_mk X G (ini base) ca_Full cx_Full) (clx_mk X G (ini base) ca_NoBarge cx_NoBarge) (clx_mk X G (ini base) ca_NoGate cx_NoGate) (clx_mk X G (ini base) ca_NoLine cx_NoLine) (clx_mk X G (ini base) ca_NoRoom cx_NoRoom) (clx_mk X G (ini base) ca_NoSpring cx_NoSpring) (clx_mk X G (ini base) ca_Shallow cx_Shallow) (clx_mk X G (ini base) ca_SummitError cx_SummitError) (clx_mk X G (ini base) ca_TooMany cx_TooMany) (clx_mk X G (ini base) ca_Uneven cx_Uneven) (clj_mk X G (jni_Falls base) ca_Falls cj_Falls) (clj_mk X G (jni_NoText base) ca_NoText cj_NoText) F⟩
end Law
set_option Elab.async false
set_option linter.all false
namespace WM
def stp(b l d:Int):Int:=min b (l+d)
def F(b:Int)(ds:List Int)(x:Int):Int:=ds.foldl (stp b) x
def AP(ds:List Int)(x:Int):Prop:=∀ j,1≤j→j≤ds.length→0≤x+(ds.take j).sum
inductive R where
 | dry (k:Nat) | lev (l:Int)
def R.bind(o:R)(g:Int→R):R:=match o with
 | .dry k=>.dry k
 | .lev l=>g l
def most(b:Int)(ds:List Int):Int:=F b ds.tail b
def start(ds:List Int)(mn:Int):Int:=max 0 (-mn)
structure IsMin(ds:List Int)(mn:Int):Prop where
 le:∀ j,1≤j→j≤ds.length→mn≤(ds.take j).sum
 at':∃ j,1≤j∧j≤ds.length∧mn=(ds.take j).sum
end WM
set_option Elab.async false
set_option linter.all false
set_option maxRecDepth 100000
namespace DL
open PySem PySem.Spec PyProof.Rows L2
section
variable{ρ:Lc}{S:Sto}{α β:Type}
@[simp] theorem bind_ok{a:α}{g:α→Sto→Out β}:(Out.ok a S).bind g=g a S:=id rfl
@[simp] theorem bind_bad{g:α→Sto→Out β}:(Out.bad:Out α).bind g=.bad:=id rfl
@[simp] theorem bindS_ok{a:α}{g:α→Sto→OS}:bindS (Out.ok a S) ρ g=g a S:=id rfl
@[simp] theorem bindS_bad{g:α→Sto→OS}:bindS (Out.bad:Out α) ρ g=.bad:=id rfl
@[simp] theorem vr_ap{i:Nat}:vr i ρ S=match ρ[i]? with
 | some (some d)=>.ok d S
 | _=>.bad:=id rfl
@[simp] theorem cn_ap{d:D}:cn d ρ S=.ok d S:=id rfl
@[simp] theorem an_ap:an ρ S=.ok [] S:=id rfl
@[simp] theorem ac_ap{f:Ev D}{g:Ev (List D)}:ac f g ρ S=(f ρ S).bind fun x S1=>(g ρ S1).bind fun xs S2=>.ok (x::xs) S2:=id rfl
@[simp] theorem o2_ap{o:D→D→Sto→Out D}{fa fb:Ev D}:o2 o fa fb ρ S=(fa ρ S).bind fun x S1=>(fb ρ S1).bind fun y S2=>o x y S2:=id rfl
@[simp] theorem o1_ap{o:D→Sto→Out D}{fa:Ev D}:o1 o fa ρ S=(fa ρ S).bind fun x S1=>o x S1:=id rfl
@[simp] theorem b1_ap{o:List D→Sto→Out D}{f:Ev (List D)}:b1 o f ρ S=(f ρ S).bind o:=id rfl
@[simp] theorem cl_ap{n:Nat}{fn:Fn}{t:Ev (List D)}:cl n fn t ρ S=(t ρ S).bind fun ds S1=>if ds.length=n then fn ds S1 else .bad:=id rfl
@[simp] theorem noExc_ap{fn:Fn}{ds:List D}:noExc fn ds S=match fn ds S with
 | .ok d S'=>.ok d S'
 | _=>.bad:=id rfl
@[simp] theorem tb_ap{f:Ev D}:tb f ρ S=(f ρ S).bind fun x S1=>match x with
 | .bl b=>.ok b S1
 | _=>.bad:=id rfl
@[simp] theorem tt_ap{f:Ev D}:tt f ρ S=(f ρ S).bind fun x S1=>match truD x S1 with
 | some b=>.ok b S1
 | none=>.bad:=id rfl
@[simp] theorem tn_ap{f:Ev Bool}:tn f ρ S=(f ρ S).bind fun b S1=>.ok (!b) S1:=id rfl
@[simp] theorem ta_ap{f g:Ev Bool}:ta f g ρ S=(f ρ S).bind fun b S1=>if b=true then g ρ S1 else .ok false S1:=id rfl
@[simp] theorem to_ap{f g:Ev Bool}:to f g ρ S=(f ρ S).bind fun b S1=>if b=true then .ok true S1 else g ρ S1:=id rfl
@[simp] theorem va_ap{f g:Ev D}:va f g ρ S=(f ρ S).bind fun x S1=>match x with
 | .bl b=>if b=true then g ρ S1 else .ok (.bl false) S1
 | _=>.bad:=id rfl
@[simp] theorem vo_ap{f g:Ev D}:vo f g ρ S=(f ρ S).bind fun x S1=>match x with
 | .bl b=>if b=true then .ok (.bl true) S1 else g ρ S1
 | _=>.bad:=id rfl
@[simp] theorem vn_ap{f:Ev D}:vn f ρ S=(f ρ S).bind fun x S1=>match x with
 | .bl b=>.ok (.bl (!b)) S1
 | _=>.bad:=id rfl
@[simp] theorem ie_ap{c:Ev Bool}{f g:Ev D}:ie c f g ρ S=(c ρ S).bind fun b S1=>if b=true then f ρ S1 else g ρ S1:=id rfl
@[simp] theorem tp_ap{f:Ev (List D)}:tp f ρ S=(f ρ S).bind fun xs S1=>if xs.length≤1000000 then .ok (.tup xs) S1 else .bad:=id rfl
@[simp] theorem ls_ap{f:Ev (List D)}:ls f ρ S=(f ρ S).bind fun xs S1=>if xs.length≤1000000 then .ok (.lst S1.length) (S1++[⟨false,xs⟩]) else .bad:=id rfl
@[simp] theorem sl2_ap{fe:Ev D}{fl fh:Ev (Option Int)}:sl2 fe fl fh ρ S=(fe ρ S).bind fun x S1=>(fl ρ S1).bind fun l S2=>(fh ρ S2).bind fun u S3=>slD2 x l u S3:=id rfl
@[simp] theorem onone_ap:onone ρ S=.ok none S:=id rfl
@[simp] theorem osome_ap{f:Ev D}:osome f ρ S=(f ρ S).bind fun x S1=>match x with
 | .int i=>.ok (some i) S1
 | _=>.bad:=id rfl
@[simp] theorem mt_ap{o:D→List D→Sto→Out D}{fo:Ev D}{f:Ev (List D)}:mt o fo f ρ S=(fo ρ S).bind fun x S1=>if isLst x S1=true then(f ρ S1).bind fun xs S2=>o x xs S2 else .bad:=id rfl
@[simp] theorem ch_ap{o o':D→D→Sto→Out D}{fa fb fc:Ev D}:ch o o' fa fb fc ρ S=(fa ρ S).bind fun x S1=>(fb ρ S1).bind fun y S2=>(o x y S2).bind fun z S3=>match z with
 | .bl b=>if b=true then(fc ρ S3).bind fun w S4=>o' y w S4 else .ok (.bl false) S3
 | _=>.bad:=id rfl
@[simp] theorem sq_ap{f g:Sv}:sq f g ρ S=match f ρ S with
 | .nx ρ' S'=>g ρ' S'
 | .rt d S'=>.rt d S'
 | .bk ρ' S'=>.bk ρ' S'
 | .ct ρ' S'=>.ct ρ' S'
 | .exc x ρ' S'=>.exc x ρ' S'
 | .bad=>.bad:=id rfl
@[simp] theorem sa_ap{f:Ev D}{g:Tg}:sa f g ρ S=bindS (f ρ S) ρ fun d S1=>match g d ρ with
 | some ρ'=>.nx ρ' S1
 | none=>.bad:=id rfl
@[simp] theorem gn_ap{i:Nat}{d:D}:gn i d ρ=some (ρ.set i (some d)):=id rfl
@[simp] theorem sret_ap{f:Ev D}:sret f ρ S=bindS (f ρ S) ρ fun d S1=>.rt d S1:=id rfl
@[simp] theorem sif_ap{c:Ev Bool}{f g:Sv}:sif c f g ρ S=bindS (c ρ S) ρ fun b S1=>if b=true then f ρ S1 else g ρ S1:=id rfl
@[simp] theorem sx_ap{f:Ev D}:sx f ρ S=bindS (f ρ S) ρ fun _ S1=>.nx ρ S1:=id rfl
@[simp] theorem skip_ap:skip ρ S=.nx ρ S:=id rfl
@[simp] theorem ss_ap{f fo fi:Ev D}{o:D→D→D→Sto→Option Sto}:ss f fo fi o ρ S=bindS (f ρ S) ρ fun d S1=>bindS (fo ρ S1) ρ fun x S2=>bindS (fi ρ S2) ρ fun y S3=>match o x y d S3 with
 | some S4=>.nx ρ S4
 | none=>.bad:=id rfl
@[simp] theorem sag_ap{i:Nat}{g:Int→Int→Int}{f:Ev D}:sag i g f ρ S=match ρ[i]? with
 | some (some (.int a))=>bindS (f ρ S) ρ fun d S1=>match d with
  | .int b=>.nx (ρ.set i (some (.int (g a b)))) S1
  | _=>.bad
 | _=>.bad:=id rfl
@[simp] theorem isrc_ap{f:Ev D}:isrc f ρ S=(f ρ S).bind srcOf:=id rfl
@[simp] theorem sfor_ap{f:Ev Src}{g:Tg}{b:Sv}:sfor f g b ρ S=bindS (f ρ S) ρ fun s S1=>forN s.nxt g b s.fuel 0 ρ S1:=id rfl
section
variable{i j:Int}
@[simp] theorem add_ii:addD (.int i) (.int j) S=.ok (.int (i+j)) S:=id rfl
@[simp] theorem sub_ii:subD (.int i) (.int j) S=.ok (.int (i-j)) S:=id rfl
@[simp] theorem neg_i:negD (.int i) S=.ok (.int (-i)) S:=id rfl
theorem mul_r(h1 : -(2^64)<j)(h2:j<2^64):mulD (.int i) (.int j) S=.ok (.int (i*j)) S:=by
 show(if(-(2^64)<i∧i<2^64)∨(-(2^64)<j∧j<2^64) then Out.ok (D.int (i*j)) S else .bad)=_
 rw[if_pos (.inr ⟨h1,h2⟩)]
theorem mul_l(h1 : -(2^64)<i)(h2:i<2^64):mulD (.int i) (.int j) S=.ok (.int (i*j)) S:=by
 show(if(-(2^64)<i∧i<2^64)∨(-(2^64)<j∧j<2^64) then Out.ok (D.int (i*j)) S else .bad)=_
 rw[if_pos (.inl ⟨h1,h2⟩)]
theorem mod_ii(h:0<j):modD (.int i) (.int j) S=.ok (.int (i%j)) S:=by
 show(if decide (0<j)=true then Out.ok (D.int (i%j)) S else .bad)=_
 rw[if_pos (by simpa using h)]
theorem div_ii(h:0<j)(h2:j<2^200):divD2 (.int i) (.int j) S=.ok (.int (i / j)) S:=by
 show(if decide (0<j∧j<2^200)=true then Out.ok (D.int (i / j)) S else .bad)=_
 rw[if_pos (decide_eq_true ⟨h,h2⟩)]
theorem pow_nn{n:Nat}(h:(n:Int)≤1000000)(h2:i.natAbs<2^64):powD (.int i) (.int n) S=.ok (.int (i^n)) S:=by
 show(if decide (0≤(n:Int)∧(n:Int)≤1000000∧i.natAbs<2^64)=true then Out.ok (D.int (i^(n:Int).toNat)) S else .bad)=_
 rw[if_pos (decide_eq_true ⟨by omega,h,h2⟩)]
 rfl
@[simp] theorem pow_6:powD (.int 10) (.int 6) S=.ok (.int 1000000) S:=pow_nn (n:=6) (by decide) (by decide)
@[simp] theorem pow_15:powD (.int 10) (.int 15) S=.ok (.int 1000000000000000) S:=pow_nn (n:=15) (by decide) (by decide)
@[simp] theorem pow_18:powD (.int 10) (.int 18) S=.ok (.int 1000000000000000000) S:=pow_nn (n:=18) (by decide) (by decide)
@[simp] theorem lt_ii:ltD (.int i) (.int j) S=.ok (.bl (decide (i<j))) S:=id rfl
@[simp] theorem le_ii:leD (.int i) (.int j) S=.ok (.bl (decide (i≤j))) S:=id rfl
@[simp] theorem gt_ii:gtD (.int i) (.int j) S=.ok (.bl (decide (j<i))) S:=id rfl
@[simp] theorem ge_ii:geD (.int i) (.int j) S=.ok (.bl (decide (j≤i))) S:=id rfl
@[simp] theorem min_ii:minD [.int i,.int j] S=.ok (.int (min i j)) S:=by
 show Out.ok (D.int (if j<i then j else i)) S=_
 congr 2
 omega
@[simp] theorem max_ii:maxD [.int i,.int j] S=.ok (.int (max i j)) S:=by
 show Out.ok (D.int (if j>i then j else i)) S=_
 congr 2
 omega
@[simp] theorem eq_ii:eqD (.int i) (.int j) S=.ok (.bl (decide (i=j))) S:=by
 simp only[eqD,toP]
 simp[SeqAt.shaped,PyData.eqv]
 rfl
@[simp] theorem ne_ii:neD (.int i) (.int j) S=.ok (.bl (!decide (i=j))) S:=by
 simp only[neD,toP]
 simp[SeqAt.shaped,PyData.eqv]
 rfl
end
@[simp] theorem len_t{l:List D}:lenD [.tup l] S=.ok (.int l.length) S:=id rfl
theorem len_l{k:Nat}{c:Cell}(h:S[k]?=some c):lenD [.lst k] S=.ok (.int c.xs.length) S:=by
 show(match S[k]? with | some c=>Out.ok (D.int c.xs.length) S | none=>.bad)=_
 rw[h]
theorem get_l{k:Nat}{c:Cell}{i:Int}{d:D}(h:S[k]?=some c)(e:atI c.xs i=some d):getD (.lst k) (.int i) S=.ok d S:=by
 show(match S[k]? with | some c=>(match atI c.xs i with | some d=>Out.ok d S | none=>.bad) | none=>.bad)=_
 rw[h]
 show(match atI c.xs i with | some d=>Out.ok d S | none=>.bad)=_
 rw[e]
theorem atI_nn{α:Type}{l:List α}{i:Int}{d:α}(h0:0≤i)(e:l[i.toNat]?=some d):atI l i=some d:=by
 unfold atI ixN
 have:i.toNat<l.length:=(List.getElem?_eq_some_iff.mp e).1
 rw[if_pos h0,if_pos (by omega)]
 exact e
theorem set_l{k:Nat}{xs:List D}{i:Int}{d:D}(h:S[k]?=some ⟨false,xs⟩)(h0:0≤i)(h1:i<xs.length):setD (.lst k) (.int i) d S=some (S.set k ⟨false,xs.set i.toNat d⟩):=by
 show(match S[k]? with | some c=>(match ixN c.xs.length i with | some j=>if c.fz=false then some (S.set k ⟨false,c.xs.set j d⟩) else none | none=>none) | none=>none)=_
 rw[h]
 show(match ixN xs.length i with | some j=>if false=false then some (S.set k ⟨false,xs.set j d⟩) else none | none=>none)=_
 unfold ixN
 rw[if_pos h0,if_pos h1]
 rfl
@[simp] theorem sum_t{l:List Int}:sumD [.tup (l.map D.int)] S=.ok (.int l.sum) S:=by
 have:∀ l:List Int,intsOf (l.map D.int)=some l:=fun l=>by
  induction l with
  | nil=>rfl
  | cons a r ih=>show(intsOf (r.map D.int)).map (a::·)=_; rw[ih]; rfl
 show(match (some (l.map D.int)).bind intsOf with | some ns=>Out.ok (D.int ns.sum) S | none=>.bad)=_
 rw[Option.bind_some,this]
end
end DL
set_option Elab.async false
set_option linter.all false
set_option maxRecDepth 100000
namespace Law
open PySem PySem.Spec PyProof.Rows L2 DL
def fin(o:OS):Out D:=match o with
 | .rt d S'=>.ok d S'
 | .nx _ S'=>.ok .non S'
 | .exc x _ S'=>.exc x S'
 | _=>.bad
theorem fnB_ap{m:Nat}{b:Sv}{ds:List D}{S:Sto}:fnB m b ds S=fin (b (ds.map some++List.replicate (m-ds.length) none) S):=id rfl
@[simp] theorem fin_rt{d:D}{S:Sto}:fin (.rt d S)=.ok d S:=id rfl
theorem fin_nx{f g:Sv}{ρ ρ':Lc}{S S':Sto}(h:f ρ S=.nx ρ' S'):fin (sq f g ρ S)=fin (g ρ' S'):=by rw[sq_ap,h]
theorem fin_ret{f g:Sv}{ρ:Lc}{S S':Sto}{d:D}(h:f ρ S=.rt d S'):fin (sq f g ρ S)=.ok d S':=by rw[sq_ap,h]; rfl
structure Dp(S:Sto)(t k:Nat)(n:Nat):Prop where
 ex:∃ (a b:Int) (xs:List Int),S[t]?=some ⟨false,[.lst k,.int a,.int b]⟩∧S[k]?=some ⟨false,xs.map D.int⟩∧0≤a∧a≤n
 ne:t≠k
structure Kp(S S':Sto)(t k:Nat):Prop where
 len:S.length≤S'.length
 get:∀ i,i<S.length→i≠t→i≠k→S'[i]?=S[i]?
theorem Kp.refl{S:Sto}{t k:Nat}:Kp S S t k:=⟨Nat.le_refl _,fun _ _ _ _=>rfl⟩
theorem Kp.trans{S S1 S2:Sto}{t k:Nat}(a:Kp S S1 t k)(b:Kp S1 S2 t k):Kp S S2 t k:=⟨Nat.le_trans a.len b.len,fun i h h1 h2=>(b.get i (Nat.lt_of_lt_of_le h a.len) h1 h2).trans (a.get i h h1 h2)⟩
theorem Kp.set{S:Sto}{t k j:Nat}{c:Cell}(h:j=t∨j=k):Kp S (S.set j c) t k:=⟨by simp,fun i _ h1 h2=>by
 rw[List.getElem?_set_ne]
 rcases h with h | h
 ·rw[h]; exact Ne.symm h1
 ·rw[h]; exact Ne.symm h2⟩
theorem app_at{S:Sto}{c:Cell}:(S++[c])[S.length]?=some c:=by rw[List.getElem?_append_right (Nat.le_refl _)]; simp
theorem app_old{S:Sto}{c d:Cell}{q:Nat}(e:S[q]?=some d):(S++[c])[q]?=some d:=by
 rw[List.getElem?_append_left (List.getElem?_eq_some_iff.mp e).1]; exact e
def dr_b:Sv:=(sq (sif (ta (tb (o2 ltD (vr 3) (b1 lenD (ac (o2 DL.getD (vr 0) (cn (.int 0))) an)))) (tb (o2 geD (vr 4) (o2 powD (cn (.int 10)) (cn (.int 18))))))
  (sq (ss (o2 divD2 (vr 4) (vr 1)) (vr 0) (cn (.int 2)) setD)
  (sret (o2 modD (vr 4) (vr 1))))
  DL.skip)
  (sq (sa (o2 modD (o2 mulD (o2 addD (o2 modD (vr 4) (cn (.int 1000003))) (cn (.int 1))) (o2 addD (o2 addD (o2 mulD (o2 mulD (cn (.int 7919)) (vr 3)) (vr 3)) (o2 mulD (cn (.int 104729)) (vr 3))) (cn (.int 12345)))) (cn (.int 2147483647))) (gn 5))
  (sq (sa (o2 modD (o2 addD (o2 addD (o2 mulD (vr 5) (vr 5)) (o2 mulD (cn (.int 48271)) (vr 3))) (o2 modD (vr 4) (cn (.int 65537)))) (cn (.int 2147483629))) (gn 5))
  (sret (o2 modD (o2 divD2 (vr 5) (cn (.int 8))) (vr 1))))))
theorem drb_ok{S:Sto}{t k n:Nat}{m a b c:Int}{xs:List Int}{g2:Option D}(e1:S[t]?=some ⟨false,[.lst k,.int (a+1),.int b]⟩)(e2:S[k]?=some ⟨false,xs.map D.int⟩)(ne:t≠k)(ha:0≤a)(han:a≤n)(hn:n<2^60)(hm:0<m)(hm2:m<2^200):
  ∃ r S',fin (dr_b [some (.lst t),some (.int m),g2,some (.int a),some (.int c),none] S)=.ok (.int r) S'∧0≤r∧r<m∧Dp S' t k (n+1)∧Kp S S' t k:=by
 have g0:DL.getD (.lst t) (.int 0) S=.ok (.lst k) S:=get_l e1 rfl
 have ln:lenD [.lst k] S=.ok (.int xs.length) S:=by rw[len_l e2]; simp
 have lt:t<S.length:=(List.getElem?_eq_some_iff.mp e1).1
 have s2:setD (.lst t) (.int 2) (.int (c / m)) S=some (S.set t ⟨false,[.lst k,.int (a+1),.int (c / m)]⟩):=set_l e1 (by decide) (by simp)
 by_cases h:a<xs.length∧1000000000000000000≤c
 ·refine⟨c%m,S.set t ⟨false,[.lst k,.int (a+1),.int (c / m)]⟩,?_,Int.emod_nonneg _ (by omega),Int.emod_lt_of_pos _ hm,⟨⟨a+1,c / m,xs,List.getElem?_set_self lt,by rw[List.getElem?_set_ne ne]; exact e2,by omega,by omega⟩,ne⟩,Kp.set (.inl rfl)⟩
  unfold dr_b
  exact fin_ret (by simp[g0,ln,h.1,h.2,div_ii hm hm2,s2,mod_ii hm])
 ·have sqr:∀ x:Int,mulD (.int (x%2147483647)) (.int (x%2147483647)) S=.ok (.int (x%2147483647*(x%2147483647))) S:=fun x=>mul_r (by omega) (by omega)
  have m1:mulD (.int (7919*a)) (.int a) S=.ok (.int (7919*a*a)) S:=mul_r (by omega) (by omega)
  have m2:∀ y:Int,mulD (.int (c%1000003+1)) (.int y) S=.ok (.int ((c%1000003+1)*y)) S:=fun y=>mul_l (by omega) (by omega)
  obtain⟨z,hz⟩:∃ z:Int,z=((c%1000003+1)*(7919*a*a+104729*a+12345))%2147483647:=⟨_,rfl⟩
  obtain⟨y,hy⟩:∃ y:Int,y=(z*z+48271*a+c%65537)%2147483629:=⟨_,rfl⟩
  have mz:mulD (.int z) (.int z) S=.ok (.int (z*z)) S:=by rw[hz]; exact sqr _
  have e1':sif (ta (tb (o2 ltD (vr 3) (b1 lenD (ac (o2 DL.getD (vr 0) (cn (.int 0))) an)))) (tb (o2 geD (vr 4) (o2 powD (cn (.int 10)) (cn (.int 18)))))) (sq (ss (o2 divD2 (vr 4) (vr 1)) (vr 0) (cn (.int 2)) setD) (sret (o2 modD (vr 4) (vr 1)))) DL.skip [some (.lst t),some (.int m),g2,some (.int a),some (.int c),none] S=.nx [some (.lst t),some (.int m),g2,some (.int a),some (.int c),none] S:=by
   by_cases c1:a<xs.length
   ·have c2:¬ 1000000000000000000≤c:=fun z=>h ⟨c1,z⟩
    simp[g0,ln,c1,c2]
   ·simp[g0,ln,c1]
  refine⟨y / 8%m,S,?_,Int.emod_nonneg _ (by omega),Int.emod_lt_of_pos _ hm,⟨⟨a+1,b,xs,e1,e2,by omega,by omega⟩,ne⟩,.refl⟩
  unfold dr_b
  rw[fin_nx e1']
  refine(fin_nx (ρ':=[some (.lst t),some (.int m),g2,some (.int a),some (.int c),some (.int z)]) (S':=S) (by rw[hz]; simp[mod_ii,mul_l,m1,m2])).trans ?_
  refine(fin_nx (ρ':=[some (.lst t),some (.int m),g2,some (.int a),some (.int c),some (.int y)]) (S':=S) (by rw[hy]; simp[mod_ii,mul_l,mz])).trans ?_
  simp[div_ii,mod_ii hm]
theorem draw_ok{S:Sto}{t k n:Nat}{m:Int}(h:Dp S t k n)(hn:n<2^60)(hm:0<m)(hm2:m<2^200):∃ r S',f__law_draw [.lst t,.int m] S=.ok (.int r) S'∧0≤r∧r<m∧Dp S' t k (n+1)∧Kp S S' t k:=by
 obtain⟨⟨a,b,xs,e1,e2,ha,han⟩,ne⟩:=h
 have lt:t<S.length:=(List.getElem?_eq_some_iff.mp e1).1
 have g1:DL.getD (.lst t) (.int 1) S=.ok (.int a) S:=get_l e1 rfl
 have g2:DL.getD (.lst t) (.int 2) S=.ok (.int b) S:=get_l e1 rfl
 have s1:setD (.lst t) (.int 1) (.int (a+1)) S=some (S.set t ⟨false,[.lst k,.int (a+1),.int b]⟩):=set_l e1 (by decide) (by simp)
 have s2:setD (.lst t) (.int 2) (.int (b / m)) S=some (S.set t ⟨false,[.lst k,.int a,.int (b / m)]⟩):=set_l e1 (by decide) (by simp)
 have hf:∀ X,f__law_draw [.lst t,.int m] S=X↔fin (b__law_draw [some (.lst t),some (.int m),none,none,none,none] S)=X:=fun X=>by rw[show f__law_draw [.lst t,.int m] S=fin (b__law_draw [some (.lst t),some (.int m),none,none,none,none] S) from fnB_ap (m:=6) (b:=b__law_draw)]
 by_cases c:0<b
 ·refine⟨b%m,S.set t ⟨false,[.lst k,.int a,.int (b / m)]⟩,(hf _).mpr ?_,Int.emod_nonneg _ (by omega),Int.emod_lt_of_pos _ hm,⟨⟨a,b / m,xs,List.getElem?_set_self lt,by rw[List.getElem?_set_ne ne]; exact e2,ha,by omega⟩,ne⟩,Kp.set (.inl rfl)⟩
  unfold b__law_draw
  exact fin_ret (by simp[g2,c,mod_ii hm,div_ii hm hm2,s2])
 ·have e1':(S.set t ⟨false,[.lst k,.int (a+1),.int b]⟩)[t]?=some ⟨false,[.lst k,.int (a+1),.int b]⟩:=List.getElem?_set_self lt
  have e2':(S.set t ⟨false,[.lst k,.int (a+1),.int b]⟩)[k]?=some ⟨false,xs.map D.int⟩:=by rw[List.getElem?_set_ne ne]; exact e2
  have kp:Kp S (S.set t ⟨false,[.lst k,.int (a+1),.int b]⟩) t k:=Kp.set (.inl rfl)
  generalize S.set t ⟨false,[.lst k,.int (a+1),.int b]⟩=S1 at *
  have g0:DL.getD (.lst t) (.int 0) S1=.ok (.lst k) S1:=get_l e1' rfl
  have ln:lenD [.lst k] S1=.ok (.int xs.length) S1:=by rw[len_l e2']; simp
  obtain⟨cl',ec⟩:∃ cl':Int,sif (tb (o2 gtD (b1 lenD (ac (o2 DL.getD (vr 0) (cn (.int 0))) an)) (cn (.int 0)))) (sa (o2 DL.getD (o2 DL.getD (vr 0) (cn (.int 0))) (o2 modD (vr 3) (b1 lenD (ac (o2 DL.getD (vr 0) (cn (.int 0))) an)))) (gn 4)) DL.skip [some (.lst t),some (.int m),none,some (.int a),some (.int 0),none] S1=.nx [some (.lst t),some (.int m),none,some (.int a),some (.int cl'),none] S1:=by
   by_cases c2:0<xs.length
   ·have c3:(0:Int)<xs.length:=by omega
    have lti:(a%(xs.length:Int)).toNat<xs.length:=by
     have:=Int.emod_lt_of_pos a c3
     have:=Int.emod_nonneg a (by omega:(xs.length:Int)≠0)
     omega
    have gi:DL.getD (.lst k) (.int (a%(xs.length:Int))) S1=.ok (.int xs[(a%(xs.length:Int)).toNat]) S1:=get_l e2' (atI_nn (Int.emod_nonneg a (by omega)) (by simp[lti]))
    exact⟨xs[(a%(xs.length:Int)).toNat],by simp[g0,ln,c2,mod_ii c3,gi]⟩
   ·exact⟨0,by simp[g0,ln,c2]⟩
  obtain⟨r,S',h1,h2,h3,h4,h5⟩:=drb_ok (c:=cl') (g2:=none) e1' e2' ne ha han hn hm hm2
  refine⟨r,S',(hf _).mpr ?_,h2,h3,h4,kp.trans h5⟩
  unfold b__law_draw
  refine(fin_nx (ρ':=[some (.lst t),some (.int m),none,none,none,none]) (S':=S) (by simp[g2,c])).trans ?_
  refine(fin_nx (ρ':=[some (.lst t),some (.int m),none,some (.int a),none,none]) (S':=S) (by simp[g1])).trans ?_
  refine(fin_nx (ρ':=[some (.lst t),some (.int m),none,some (.int a),none,none]) (S':=S1) (by simp[s1])).trans ?_
  refine(fin_nx (ρ':=[some (.lst t),some (.int m),none,some (.int a),some (.int 0),none]) (S':=S1) (by simp)).trans ?_
  rw[fin_nx ec]
  exact h1
end Law
set_option Elab.async false
set_option linter.all false
set_option maxRecDepth 100000
namespace Law
open PySem PySem.Spec PyProof.Rows L2 DL
theorem isL{S:Sto}{q:Nat}{c:Cell}(e:S[q]?=some c):isLst (.lst q) S=true:=by simp only[isLst,e]
theorem for_inv{nxt:Nat→Sto→Option D}{g:Tg}{b:Sv}{l:List D}(I:Nat→Lc→Sto→Prop)(hn:∀ k ρ S,I k ρ S→nxt k S=l[k]?)(hs:∀ k d ρ S,l[k]?=some d→I k ρ S→∃ ρ1 ρ2 S2,g d ρ=some ρ1∧b ρ1 S=.nx ρ2 S2∧I (k+1) ρ2 S2):
  ∀ (n k:Nat) (ρ:Lc) (S:Sto),k≤l.length→I k ρ S→l.length<n+k→∃ ρ' S',forN nxt g b n k ρ S=.nx ρ' S'∧I l.length ρ' S'
 | 0,k,ρ,S,h1,_,h2=>by omega
 | n+1,k,ρ,S,h1,hI,h2=>by
  unfold forN
  rw[hn k ρ S hI]
  cases z:l[k]? with
  | none=>
   have:k=l.length:=by have:=List.getElem?_eq_none_iff.mp z; omega
   subst this
   exact⟨ρ,S,rfl,hI⟩
  | some d=>
   obtain⟨ρ1,ρ2,S2,h3,h4,h5⟩:=hs k d ρ S z hI
   have hk:k<l.length:=(List.getElem?_eq_some_iff.mp z).1
   obtain⟨ρ',S',h6,h7⟩:=for_inv I hn hs n (k+1) ρ2 S2 hk h5 (by omega)
   refine⟨ρ',S',?_,h7⟩
   simp only[h3,h4]
   exact h6
theorem rng_get{n k:Nat}{S:Sto}:(rsrc 0 n).nxt k S=((List.range n).map fun k:Nat=>D.int (k:Int))[k]?:=by
 show(if k<n then some (D.int (0+k)) else none)=_
 rw[List.getElem?_map]
 by_cases c:k<n
 ·rw[if_pos c,List.getElem?_range c]; simp
 ·rw[if_neg c,List.getElem?_eq_none (by simp; omega)]; rfl
theorem rng_of{n k:Nat}{d:D}(h:((List.range n).map fun k:Nat=>D.int (k:Int))[k]?=some d):k<n∧d=.int k:=by
 have hk:k<n:=by have:=(List.getElem?_eq_some_iff.mp h).1; simpa using this
 rw[List.getElem?_map,List.getElem?_range hk] at h
 exact⟨hk,(Option.some.inj h).symm⟩
theorem ir1_ok{f:Ev (List D)}{ρ:Lc}{S S':Sto}{n:Nat}(h:f ρ S=.ok [.int n] S')(hn:n≤1000000):ir1 f ρ S=.ok (rsrc 0 n) S':=by
 unfold ir1
 rw[h]
 show(if -1000000000000≤(n:Int)∧(n:Int)≤1000000000000 then Out.ok (rsrc 0 (n:Int).toNat) S' else .bad)=_
 rw[if_pos (by omega)]; rfl
theorem add_ll{S:Sto}{i j:Nat}{a b:List D}(h1:S[i]?=some ⟨false,a⟩)(h2:S[j]?=some ⟨false,b⟩)(h:a.length+b.length≤1000000):addD (.lst i) (.lst j) S=.ok (.lst S.length) (S++[⟨false,a++b⟩]):=by
 simp only[addD,h1,h2]
 simp[h]
theorem mul_rep{S:Sto}{i:Nat}{d:D}{n:Nat}(e:S[i]?=some ⟨false,[d]⟩)(hn:n≤1000):mulD (.lst i) (.int n) S=.ok (.lst S.length) (S++[⟨false,List.replicate n d⟩]):=by
 have fl:∀ n:Nat,(List.replicate n [d]).flatten=List.replicate n d:=fun n=>by
  induction n with
  | zero=>rfl
  | succ n ih=>rw[List.replicate_succ,List.flatten_cons,ih]; rfl
 simp only[mulD,e]
 rw[if_pos (by simp; omega)]
 simp[fl]
theorem stok(s:String):PyData.strOk (Str.ofString s)=true:=by
 unfold PyData.strOk
 have hc:∀ c:Char,c.toNat<1114112:=fun c=>by
  rcases c.valid with h | ⟨_,h⟩
  ·exact Nat.lt_of_lt_of_le h (by decide)
  ·exact h
 rw[Str.ofString_eq_toList]
 simp[hc]
structure Ex(S S':Sto):Prop where
 len:S.length≤S'.length
 get:∀ i,i<S.length→S'[i]?=S[i]?
theorem Ex.refl{S:Sto}:Ex S S:=⟨Nat.le_refl _,fun _ _=>rfl⟩
theorem Ex.trans{S S1 S2:Sto}(a:Ex S S1)(b:Ex S1 S2):Ex S S2:=⟨Nat.le_trans a.len b.len,fun i h=>(b.get i (Nat.lt_of_lt_of_le h a.len)).trans (a.get i h)⟩
theorem Ex.app{S:Sto}{c:Cell}:Ex S (S++[c]):=⟨by simp,fun i h=>by rw[List.getElem?_append_left h]⟩
theorem Ex.at{S S':Sto}{q:Nat}{c:Cell}(a:Ex S S')(e:S[q]?=some c):S'[q]?=some c:=(a.get q (List.getElem?_eq_some_iff.mp e).1).trans e
theorem sif_t{c:Ev Bool}{f g:Sv}{ρ:Lc}{S S1:Sto}(h:c ρ S=.ok true S1):sif c f g ρ S=f ρ S1:=by
 rw[sif_ap,h,bindS_ok,if_pos rfl]
theorem sif_f{c:Ev Bool}{f g:Sv}{ρ:Lc}{S S1:Sto}(h:c ρ S=.ok false S1):sif c f g ρ S=g ρ S1:=by
 rw[sif_ap,h,bindS_ok,if_neg (by decide)]
theorem sq_nx{f g:Sv}{ρ ρ':Lc}{S S1:Sto}(h:f ρ S=.nx ρ' S1):sq f g ρ S=g ρ' S1:=by rw[sq_ap,h]
theorem sl_l{S:Sto}{q:Nat}{c:Cell}{lo hi:Option Int}(e:S[q]?=some c):slD2 (.lst q) lo hi S=.ok (.lst S.length) (S++[⟨false,DL.cutD c.xs lo hi⟩]):=by
 simp only[slD2,e]
theorem list_l{S:Sto}{q:Nat}{c:Cell}(e:S[q]?=some c):listD [.lst q] S=.ok (.lst S.length) (S++[⟨false,c.xs⟩]):=by
 simp only[listD,e]
theorem cut_map{ns:List Int}{lo hi:Option Int}:∃ ys:List Int,DL.cutD (ns.map D.int) lo hi=ys.map D.int:=
 ⟨(ns.drop (HT.sIx (ns.map D.int).length 0 lo)).take (HT.sIx (ns.map D.int).length (ns.map D.int).length hi-HT.sIx (ns.map D.int).length 0 lo),by unfold DL.cutD; rw[List.map_take,List.map_drop]⟩
theorem tape_ok{S:Sto}{q:Nat}{fz:Bool}{ns:List Int}(e:S[q]?=some ⟨fz,ns.map D.int⟩):∃ (t k:Nat) (S':Sto),f__law_tape [.lst q] S=.ok (.lst t) S'∧Dp S' t k 0:=by
 obtain⟨ys,hy⟩:=cut_map (ns:=ns) (lo:=none) (hi:=some 63)
 have s1:slD2 (.lst q) none (some 63) S=.ok (.lst S.length) (S++[⟨false,ys.map D.int⟩]):=by rw[sl_l e,hy]
 have q1:(S++[⟨false,ys.map D.int⟩])[S.length]?=some (⟨false,ys.map D.int⟩:Cell):=app_at
 generalize hS1:S++[⟨false,ys.map D.int⟩]=S1 at *
 have s3:listD [.lst S.length] S1=.ok (.lst S1.length) (S1++[⟨false,ys.map D.int⟩]):=list_l q1
 have q3:(S1++[⟨false,ys.map D.int⟩])[S1.length]?=some (⟨false,ys.map D.int⟩:Cell):=app_at
 have l3:(S1++[(⟨false,ys.map D.int⟩:Cell)]).length=S1.length+1:=by simp
 generalize hS3:S1++[⟨false,ys.map D.int⟩]=S3 at *
 refine⟨S3.length,S1.length,S3++[⟨false,[.lst S1.length,.int 0,.int 0]⟩],?_,⟨⟨0,0,ys,app_at,app_old q3,by decide,by decide⟩,by omega⟩⟩
 refine(fnB_ap (m:=1) (b:=b__law_tape)).trans ?_
 show fin (b__law_tape [some (.lst q)] S)=_
 unfold b__law_tape
 simp[s1,s3]
theorem ne_ss{s:Str}{S:Sto}(h:PyData.strOk s=true):neD (.str s) (.str s) S=.ok (.bl false) S:=by
 simp only[neD,toP]
 simp[SeqAt.shaped,PyData.eqv,PyData.canLay0,PyData.depth,h]
@[simp] theorem bind_exc{α β:Type}{x:XD}{S:Sto}{g:α→Sto→Out β}:(Out.exc x S:Out α).bind g=.exc x S:=id rfl
@[simp] theorem bindS_exc{α:Type}{x:XD}{S:Sto}{ρ:Lc}{g:α→Sto→OS}:bindS (Out.exc x S:Out α) ρ g=.exc x ρ S:=id rfl
def words:List D:=[.str "nogate",.str "dry",.str "full",.str "nospring",.str "nobarge",.str "noroom",.str "uneven",.str "shallow",.str "falls",.str "notext",.str "toomany",.str "noline"]
theorem name_ok{S:Sto}{q j:Nat}{m:List D}{bs cs:List Bool}{w:D}(h:S[q]?=some ⟨false,m⟩)(hl:m.length=13)(h12:m[12]?=some (.bl true))(hb:blsD m=some bs)(hc:blsD (DL.cutD m none (some 12))=some cs)(hcnt:cs.countP (·==true)=1)(hidx:List.findIdx? (·==true) bs=some j)(hw:words[j]?=some w):
  ∃ S',f__law_name [.lst q] S=.ok w S'∧Ex S S':=by
 have e1:sa (ls (ac (cn (.str "nogate")) (ac (cn (.str "dry")) (ac (cn (.str "full")) (ac (cn (.str "nospring")) (ac (cn (.str "nobarge")) (ac (cn (.str "noroom")) (ac (cn (.str "uneven")) (ac (cn (.str "shallow")) (ac (cn (.str "falls")) (ac (cn (.str "notext")) (ac (cn (.str "toomany")) (ac (cn (.str "noline")) an))))))))))))) (gn 1) [some (.lst q),none] S=.nx [some (.lst q),some (.lst S.length)] (S++[⟨false,words⟩]):=by simp[words]
 have x1:Ex S (S++[⟨false,words⟩]):=Ex.app
 have w1:(S++[(⟨false,words⟩:Cell)])[S.length]?=some ⟨false,words⟩:=app_at
 have h1:=x1.at h
 generalize S++[(⟨false,words⟩:Cell)]=S1 at *
 have x2:Ex S1 (S1++[⟨false,DL.cutD m none (some 12)⟩]):=Ex.app
 have sl:=sl_l (lo:=none) (hi:=some 12) h1
 have c1:(S1++[(⟨false,DL.cutD m none (some 12)⟩:Cell)])[S1.length]?=some ⟨false,DL.cutD m none (some 12)⟩:=app_at
 have h2:=x2.at h1
 have w2:=x2.at w1
 have ln:lenD [.lst q] S1=.ok (.int 13) S1:=by rw[len_l h1,hl]; rfl
 generalize hS2:S1++[(⟨false,DL.cutD m none (some 12)⟩:Cell)]=S2 at *
 have il:=isL c1
 have ct:cntD (.lst S1.length) [.bl true] S2=.ok (.int 1) S2:=by
  simp only[cntD,c1,hc]
  rw[if_pos trivial,hcnt]
  rfl
 have g12:DL.getD (.lst q) (.int 12) S2=.ok (.bl true) S2:=get_l h2 (atI_nn (by decide) h12)
 have ix:idxD (.lst q) [.bl true] S2=.ok (.int j) S2:=by
  simp only[idxD,h2,hb,hidx]
  rw[if_pos trivial]
 have iq:=isL h2
 have gw:DL.getD (.lst S.length) (.int j) S2=.ok w S2:=get_l w2 (atI_nn (by omega) (by rw[Int.toNat_natCast]; exact hw))
 refine⟨S2,?_,x1.trans x2⟩
 refine(fnB_ap (m:=2) (b:=b__law_name)).trans ?_
 show fin (b__law_name [some (.lst q),none] S)=_
 unfold b__law_name
 refine(fin_nx e1).trans ?_
 refine(fin_nx (ρ':=[some (.lst q),some (.lst S.length)]) (S':=S2) ?_).trans ?_
 ·simp[ln,sl,il,ct,g12,truD]
 ·simp[iq,ix,gw]
theorem toP_bls{S:Sto}{n:Nat}:∀ bs:List Bool,mapO (toP S (n+1)) (bs.map D.bl)=some (bs.map PyData.bool)
 | []=>rfl
 | b::r=>by
  have:=toP_bls (S:=S) (n:=n) r
  rw[List.map_cons,List.map_cons]
  simp only[mapO,this]
  rfl
theorem addls{E:Ev (List D)}{ρ:Lc}{q:Nat}{a xs:List D}{S:Sto}(h6:ρ[2]?=some (some (.lst q)))(hq:S[q]?=some ⟨false,a⟩)(hE:E ρ S=.ok xs S)(hl:xs.length≤1000)(ha:a.length≤1000):
  sa (o2 addD (vr 2) (ls E)) (gn 2) ρ S=.nx (ρ.set 2 (some (.lst (S.length+1)))) ((S++[⟨false,xs⟩])++[⟨false,a++xs⟩]):=by
 have e:addD (.lst q) (.lst S.length) (S++[⟨false,xs⟩])=.ok (.lst (S++[(⟨false,xs⟩:Cell)]).length) ((S++[⟨false,xs⟩])++[⟨false,a++xs⟩]):=add_ll (app_old hq) app_at (by omega)
 have h1:xs.length≤1000000:=by omega
 simp[h6,hE,h1] at e ⊢
 simp[e]
end Law
set_option Elab.async false
set_option linter.all false
set_option maxRecDepth 100000
namespace Law
open PySem PySem.Spec PyProof.Rows L2 DL
def mks(y:Str):List D:=ms.map (fun x=>.bl (decide (y∈[x])))++[.bl (decide (y∈ys))]
def wordOf(y:Str):D:=match (ms.zip words).lookup y with
 | some w=>w
 | none=>.non
def bsOf(y:Str):List Bool:=ms.map (fun x=>decide (y∈[x]))++[decide (y∈ys)]
theorem name_at{S:Sto}{q:Nat}(j:Nat)(y:Str)(h:S[q]?=some ⟨false,mks y⟩)(h1:(mks y)[12]?=some (.bl true):=by kernel_rfl!)(h2:blsD (mks y)=some (bsOf y):=by kernel_rfl!)(h3:blsD (DL.cutD (mks y) none (some 12))=some ((bsOf y).take 12):=by kernel_rfl!)(h4:((bsOf y).take 12).countP (·==true)=1:=by decide +kernel)(h5:List.findIdx? (·==true) (bsOf y)=some j:=by kernel_rfl!)(h6:words[j]?=some (wordOf y):=by kernel_rfl!):∃ S',f__law_name [.lst q] S=.ok (wordOf y) S'∧Ex S S':=
 name_ok h rfl h1 h2 h3 h4 h5 h6
theorem isx_y{y:Str}{fl:Option Int}{sub:List Str}{S:Sto}(hy:y∈ys):isxD ys sub (.exn y fl) S=.ok (.bl (decide (y∈sub))) S:=if_pos hy
def At(y:Str)(fl:Option Int)(a:D):Prop:=(y∈ats∧∃ n,fl=some n∧a=.int n)∨(y∉ats∧a=.non)
theorem th_ok{y:Str}{fl:Option Int}{a:D}{x0 x1 x2:Option D}{S:Sto}(hy:y∈ys)(ha:At y fl a):∃ q S',th__law_raised_1 [x0,x1,x2,some .non,some (.exn y fl)] S=.nx [x0,x1,some (.lst q),some a,some (.exn y fl)] S'∧S'[q]?=some ⟨false,mks y⟩∧Ex S S':=by
 have i:=fun(sub:List Str) (S:Sto)=>isx_y (fl:=fl) (sub:=sub) (S:=S) hy
 have e1:sa (ls (ac (o1 (isxD ys ["NoGate"]) (vr 4)) (ac (o1 (isxD ys ["Dry"]) (vr 4)) (ac (o1 (isxD ys ["Full"]) (vr 4)) (ac (o1 (isxD ys ["NoSpring"]) (vr 4)) an))))) (gn 2) [x0,x1,x2,some .non,some (.exn y fl)] S=.nx [x0,x1,some (.lst S.length),some .non,some (.exn y fl)] (S++[⟨false,[.bl (decide (y∈(["NoGate"]:List Str))),.bl (decide (y∈(["Dry"]:List Str))),.bl (decide (y∈(["Full"]:List Str))),.bl (decide (y∈(["NoSpring"]:List Str)))]⟩]):=by
  simp[i]
 have x1':Ex S (S++[⟨false,[.bl (decide (y∈(["NoGate"]:List Str))),.bl (decide (y∈(["Dry"]:List Str))),.bl (decide (y∈(["Full"]:List Str))),.bl (decide (y∈(["NoSpring"]:List Str)))]⟩]):=Ex.app
 have q1:(S++[(⟨false,[.bl (decide (y∈(["NoGate"]:List Str))),.bl (decide (y∈(["Dry"]:List Str))),.bl (decide (y∈(["Full"]:List Str))),.bl (decide (y∈(["NoSpring"]:List Str)))]⟩:Cell)])[S.length]?=some ⟨false,[.bl (decide (y∈(["NoGate"]:List Str))),.bl (decide (y∈(["Dry"]:List Str))),.bl (decide (y∈(["Full"]:List Str))),.bl (decide (y∈(["NoSpring"]:List Str)))]⟩:=app_at
 generalize S++[(⟨false,[.bl (decide (y∈(["NoGate"]:List Str))),.bl (decide (y∈(["Dry"]:List Str))),.bl (decide (y∈(["Full"]:List Str))),.bl (decide (y∈(["NoSpring"]:List Str)))]⟩:Cell)]=S1 at *
 have stp:∀ {q:Nat} {m:List D} {S:Sto},S[q]?=some ⟨false,m⟩→m.length≤100→∀ (s1 s2 s3:List Str),∃ q' S',sa (o2 addD (vr 2) (ls (ac (o1 (isxD ys s1) (vr 4)) (ac (o1 (isxD ys s2) (vr 4)) (ac (o1 (isxD ys s3) (vr 4)) an))))) (gn 2) [x0,x1,some (.lst q),some .non,some (.exn y fl)] S=.nx [x0,x1,some (.lst q'),some .non,some (.exn y fl)] S'∧S'[q']?=some ⟨false,m++[.bl (decide (y∈s1)),.bl (decide (y∈s2)),.bl (decide (y∈s3))]⟩∧Ex S S':=fun{q m S} hq hm s1 s2 s3=>by
  have ad:=addls (E:=ac (o1 (isxD ys s1) (vr 4)) (ac (o1 (isxD ys s2) (vr 4)) (ac (o1 (isxD ys s3) (vr 4)) an))) (ρ:=[x0,x1,some (.lst q),some .non,some (.exn y fl)]) (xs:=[.bl (decide (y∈s1)),.bl (decide (y∈s2)),.bl (decide (y∈s3))]) rfl hq (by simp[i]) (by simp) (by omega)
  refine⟨_,_,ad,?_,Ex.app.trans Ex.app⟩
  have:=app_at (S:=S++[(⟨false,[.bl (decide (y∈s1)),.bl (decide (y∈s2)),.bl (decide (y∈s3))]⟩:Cell)]) (c:=⟨false,m++[.bl (decide (y∈s1)),.bl (decide (y∈s2)),.bl (decide (y∈s3))]⟩)
  simpa using this
 obtain⟨q2,S2,e2,h2,x2'⟩:=stp q1 (by simp) ["NoBarge"] ["NoRoom"] ["Uneven"]
 obtain⟨q3,S3,e3,h3,x3'⟩:=stp h2 (by simp) ["Shallow"] ["Falls"] ["NoText"]
 obtain⟨q4,S4,e4,h4,x4'⟩:=stp h3 (by simp) ["TooMany"] ["NoLine"] ys
 refine⟨q4,S4,?_,h4,((x1'.trans x2').trans x3').trans x4'⟩
 unfold th__law_raised_1
 rw[sq_nx e1,sq_nx e2,sq_nx e3,sq_nx e4]
 have tt1:∀ sub:List Str,tt (o1 (isxD ys sub) (vr 4)) [x0,x1,some (.lst q4),some .non,some (.exn y fl)] S4=.ok (decide (y∈sub)) S4:=fun sub=>by simp[i,truD]
 have tst:to (tt (o1 (isxD ys ["Falls"]) (vr 4))) (tt (o1 (isxD ys ["NoText"]) (vr 4))) [x0,x1,some (.lst q4),some .non,some (.exn y fl)] S4=.ok (decide (y∈ats)) S4:=by
  simp only[to_ap,tt1,bind_ok]
  by_cases c:y∈(["Falls"]:List Str)
  ·have c':y∈ats:=by simp only[ats,List.mem_cons,List.mem_nil_iff,or_false] at c ⊢; exact .inl c
   simp only[c,c',decide_true,if_true]
  ·have c':(y∈ats)=(y∈(["NoText"]:List Str)):=by
    simp only[ats,List.mem_cons,List.mem_nil_iff,or_false] at c ⊢
    simp only[c,false_or]
   simp only[c,c',decide_false,Bool.false_eq_true,if_false]
 rcases ha with⟨h,n,rfl,rfl⟩ | ⟨h,rfl⟩
 ·rw[sif_t (S1:=S4) (by rw[tst,decide_eq_true h])]
  have:atD ats (.exn y (some n)) S4=.ok (.int n) S4:=if_pos h
  simp[this]
 ·rw[sif_f (S1:=S4) (by rw[tst,decide_eq_false h])]
  rfl
theorem raised_ok{k n:Int}{y:Str}{fl:Option Int}{a:D}{S:Sto}(hb:∀ (x2:Option D) (S:Sto),tb__law_raised_1 [some (.int k),some (.int n),x2,some .non,none] S=.exc ⟨y,fl⟩ [some (.int k),some (.int n),x2,some .non,none] S)(hy:y∈ys)(ha:At y fl a):
  ∃ q S',f__law_raised [.int k,.int n] S=.ok (.tup [.lst q,a]) S'∧S'[q]?=some ⟨false,mks y⟩∧Ex S S':=by
 have x0:Ex S (S++[⟨false,[]⟩]):=Ex.app
 obtain⟨q,S1,e1,h1,x1⟩:=th_ok (x0:=some (.int k)) (x1:=some (.int n)) (x2:=some (.lst S.length)) (S:=S++[⟨false,[]⟩]) hy ha
 refine⟨q,S1,?_,h1,x0.trans x1⟩
 refine(fnB_ap (m:=5) (b:=b__law_raised)).trans ?_
 show fin (b__law_raised [some (.int k),some (.int n),none,none,none] S)=_
 unfold b__law_raised
 refine(fin_nx (ρ':=[some (.int k),some (.int n),some (.lst S.length),none,none]) (S':=S++[⟨false,[]⟩]) (by simp)).trans ?_
 refine(fin_nx (ρ':=[some (.int k),some (.int n),some (.lst S.length),some .non,none]) (S':=S++[⟨false,[]⟩]) (by simp)).trans ?_
 refine(fin_nx (ρ':=[some (.int k),some (.int n),some (.lst q),some a,none]) (S':=S1) ?_).trans ?_
 ·have e:hdl 4 th__law_raised_1 ⟨y,fl⟩ [some (.int k),some (.int n),some (.lst S.length),some .non,none] (S++[⟨false,[]⟩])=.nx [some (.int k),some (.int n),some (.lst q),some a,none] S1:=by
   unfold hdl
   show(match th__law_raised_1 [some (.int k),some (.int n),some (.lst S.length),some .non,some (.exn y fl)] (S++[⟨false,[]⟩]) with | .nx ρ' S'=>OS.nx (ρ'.set 4 none) S' | .rt d S'=>.rt d S' | .bk ρ' S'=>.bk (ρ'.set 4 none) S' | .ct ρ' S'=>.ct (ρ'.set 4 none) S' | _=>.bad)=_
   rw[e1]
   rfl
  unfold stryG
  rw[hb]
  exact(if_pos hy).trans e
 ·simp
theorem atn{y:Str}{fl:Option Int}(h:y∉ats:=by decide +kernel):At y fl .non:=.inr ⟨h,rfl⟩
theorem ata{y:Str}{n:Int}(h:y∈ats:=by decide +kernel):At y (some n) (.int n):=.inl ⟨h,n,rfl,rfl⟩
def nm(k:Nat):Str:=ys.getD k ""
def af(k:Nat)(n:Int):D:=if k=8∨k=9 then .int n else .non
theorem kind_ok{k:Nat}{n:Int}{S:Sto}(hk:k<13):∃ q S',f__law_raised [.int k,.int n] S=.ok (.tup [.lst q,af k n]) S'∧S'[q]?=some ⟨false,mks (nm k)⟩∧Ex S S':=by
 rcases(by omega:k=0∨k=1∨k=2∨k=3∨k=4∨k=5∨k=6∨k=7∨k=8∨k=9∨k=10∨k=11∨k=12) with rfl | rfl | rfl | rfl | rfl | rfl | rfl | rfl | rfl | rfl | rfl | rfl | rfl
 ·exact raised_ok (y:="NoGate") (fl:=none) (fun x2 S=>by unfold tb__law_raised_1; simp[srs]) (by decide +kernel) atn
 ·exact raised_ok (y:="Dry") (fl:=none) (fun x2 S=>by unfold tb__law_raised_1; simp[srs]) (by decide +kernel) atn
 ·exact raised_ok (y:="Full") (fl:=none) (fun x2 S=>by unfold tb__law_raised_1; simp[srs]) (by decide +kernel) atn
 ·exact raised_ok (y:="NoSpring") (fl:=none) (fun x2 S=>by unfold tb__law_raised_1; simp[srs]) (by decide +kernel) atn
 ·exact raised_ok (y:="NoBarge") (fl:=none) (fun x2 S=>by unfold tb__law_raised_1; simp[srs]) (by decide +kernel) atn
 ·exact raised_ok (y:="NoRoom") (fl:=none) (fun x2 S=>by unfold tb__law_raised_1; simp[srs]) (by decide +kernel) atn
 ·exact raised_ok (y:="Uneven") (fl:=none) (fun x2 S=>by unfold tb__law_raised_1; simp[srs]) (by decide +kernel) atn
 ·exact raised_ok (y:="Shallow") (fl:=none) (fun x2 S=>by unfold tb__law_raised_1; simp[srs]) (by decide +kernel) atn
 ·exact raised_ok (y:="Falls") (fl:=some n) (fun x2 S=>by unfold tb__law_raised_1; simp[srj]) (by decide +kernel) ata
 ·exact raised_ok (y:="NoText") (fl:=some n) (fun x2 S=>by unfold tb__law_raised_1; simp[srj]) (by decide +kernel) ata
 ·exact raised_ok (y:="TooMany") (fl:=none) (fun x2 S=>by unfold tb__law_raised_1; simp[srs]) (by decide +kernel) atn
 ·exact raised_ok (y:="NoLine") (fl:=none) (fun x2 S=>by unfold tb__law_raised_1; simp[srs]) (by decide +kernel) atn
 ·exact raised_ok (y:="SummitError") (fl:=none) (fun x2 S=>by unfold tb__law_raised_1; simp[srs]) (by decide +kernel) atn
theorem name_k{S:Sto}{q k:Nat}(hk:k<12)(h:S[q]?=some ⟨false,mks (nm k)⟩):∃ w S',f__law_name [.lst q] S=.ok (.str w) S'∧Ex S S'∧words[k]?=some (.str w)∧PyData.strOk w=true:=by
 have go:∀ (k:Nat) (w:String),wordOf (nm k)=.str w→words[k]?=some (.str w)→(∃ S',f__law_name [.lst q] S=.ok (wordOf (nm k)) S'∧Ex S S')→∃ w S',f__law_name [.lst q] S=.ok (.str w) S'∧Ex S S'∧words[k]?=some (.str w)∧PyData.strOk w=true:=fun k w e1 e2 ⟨S',e3,x⟩=>⟨w,S',by rw[e3,e1],x,e2,stok w⟩
 rcases(by omega:k=0∨k=1∨k=2∨k=3∨k=4∨k=5∨k=6∨k=7∨k=8∨k=9∨k=10∨k=11) with rfl | rfl | rfl | rfl | rfl | rfl | rfl | rfl | rfl | rfl | rfl | rfl
 ·exact go 0 "nogate" (by kernel_rfl!) rfl (name_at 0 _ h)
 ·exact go 1 "dry" (by kernel_rfl!) rfl (name_at 1 _ h)
 ·exact go 2 "full" (by kernel_rfl!) rfl (name_at 2 _ h)
 ·exact go 3 "nospring" (by kernel_rfl!) rfl (name_at 3 _ h)
 ·exact go 4 "nobarge" (by kernel_rfl!) rfl (name_at 4 _ h)
 ·exact go 5 "noroom" (by kernel_rfl!) rfl (name_at 5 _ h)
 ·exact go 6 "uneven" (by kernel_rfl!) rfl (name_at 6 _ h)
 ·exact go 7 "shallow" (by kernel_rfl!) rfl (name_at 7 _ h)
 ·exact go 8 "falls" (by kernel_rfl!) rfl (name_at 8 _ h)
 ·exact go 9 "notext" (by kernel_rfl!) rfl (name_at 9 _ h)
 ·exact go 10 "toomany" (by kernel_rfl!) rfl (name_at 10 _ h)
 ·exact go 11 "noline" (by kernel_rfl!) rfl (name_at 11 _ h)
theorem in_89{k:Nat}{S:Sto}:inD (.int k) (.lst S.length) (S++[⟨false,[.int 8,.int 9]⟩])=.ok (.bl (decide (k=8∨k=9))) (S++[⟨false,[.int 8,.int 9]⟩]):=by
 have two:inD (.int k) (.lst S.length) (S++[⟨false,[.int 8,.int 9]⟩])=.ok (.bl (decide ((k:Int)=8)||decide ((k:Int)=9))) (S++[⟨false,[.int 8,.int 9]⟩]):=by
  show inND false _ _ _=_
  have hi:itemsD (.lst S.length) (S++[⟨false,[.int 8,.int 9]⟩])=some [.int 8,.int 9]:=by
   show((S++[⟨false,[.int 8,.int 9]⟩])[S.length]?).map (·.xs)=_
   rw[app_at]; rfl
  unfold inND
  rw[hi]
  have e:∀ a b:Int,eqV (toV (.int a)) (toV (.int b))=decide (b=a):=fun a b=>by
   rw[show decide (b=a)=decide (a=b) by simp only[decide_eq_decide]; exact eq_comm]
   simp[toV,eqV]
   rfl
  simp[flatD,memD,e]
 rw[two,←Bool.decide_or]
 have:((k:Int)=8∨(k:Int)=9)↔(k=8∨k=9):=by omega
 rw[decide_eq_decide.mpr this]
theorem lb_ok{q t qw k:Nat}{n:Int}{x5 x6:Option D}{S:Sto}(hk:k<12)(hw:S[qw]?=some ⟨false,words⟩):∃ y5 y6 S',lb_law_1 [some (.lst q),some (.lst t),some (.int n),some (.lst qw),some (.int k),x5,x6] S=.nx [some (.lst q),some (.lst t),some (.int n),some (.lst qw),some (.int k),y5,y6] S'∧Ex S S':=by
 obtain⟨q1,S1,e1,h1,x1⟩:=kind_ok (k:=k) (n:=n) (S:=S) (by omega)
 obtain⟨w,S2,e2,x2,w2,so⟩:=name_k hk h1
 have g2:DL.getD (.lst qw) (.int k) S2=.ok (.str w) S2:=get_l ((x1.trans x2).at hw) (atI_nn (by omega) (by rw[Int.toNat_natCast]; exact w2))
 have ns:neD (.str w) (.str w) S2=.ok (.bl false) S2:=ne_ss so
 refine⟨some (.lst q1),some (af k n),S2++[⟨false,[.int 8,.int 9]⟩],?_,(x1.trans x2).trans Ex.app⟩
 unfold lb_law_1
 have s1:sa (cl 2 (noExc f__law_raised) (ac (vr 4) (ac (vr 2) an))) (gt (gcons (gn 5) (gcons (gn 6) gnil)) 2) [some (.lst q),some (.lst t),some (.int n),some (.lst qw),some (.int k),x5,x6] S=.nx [some (.lst q),some (.lst t),some (.int n),some (.lst qw),some (.int k),some (.lst q1),some (af k n)] S1:=by
  simp[e1]
  rfl
 rw[sq_nx s1]
 rw[sq_nx (ρ':=[some (.lst q),some (.lst t),some (.int n),some (.lst qw),some (.int k),some (.lst q1),some (af k n)]) (S1:=S2) (by rw[sif_f (S1:=S2) (by simp[e2,g2,ns])]; rfl)]
 have i8:=in_89 (k:=k) (S:=S2)
 refine(sif_f (S1:=S2++[⟨false,[.int 8,.int 9]⟩]) ?_).trans rfl
 by_cases c:k=8∨k=9
 ·rw[decide_eq_true c] at i8
  have ea:af k n=.int n:=if_pos c
  rw[ea]
  have ib:∀ S:Sto,isD "bool" (.int n) S=.ok (.bl false) S:=fun S=>rfl
  simp[i8,ib,truD]
 ·rw[decide_eq_false c] at i8
  simp[i8]
theorem law_ok{S:Sto}{q:Nat}{fz:Bool}{ns:List Int}(e:S[q]?=some ⟨fz,ns.map D.int⟩):∃ S',f_law [.lst q] S=.ok (.bl true) S':=by
 obtain⟨t,kk,S1,e1,d1⟩:=tape_ok e
 obtain⟨n,S2,e2,_,_,_,_⟩:=draw_ok (m:=1000000000000000000000000000000) d1 (by decide) (by decide) (by decide)
 have p30:powD (.int 10) (.int 30) S1=.ok (.int 1000000000000000000000000000000) S1:=pow_nn (n:=30) (by decide) (by decide)
 have e3:sa (ls (ac (cn (.str "nogate")) (ac (cn (.str "dry")) (ac (cn (.str "full")) (ac (cn (.str "nospring")) (ac (cn (.str "nobarge")) (ac (cn (.str "noroom")) (ac (cn (.str "uneven")) (ac (cn (.str "shallow")) (ac (cn (.str "falls")) (ac (cn (.str "notext")) (ac (cn (.str "toomany")) (ac (cn (.str "noline")) an))))))))))))) (gn 3) [some (.lst q),some (.lst t),some (.int n),none,none,none,none] S2=.nx [some (.lst q),some (.lst t),some (.int n),some (.lst S2.length),none,none,none] (S2++[⟨false,words⟩]):=by simp[words]
 have w3:(S2++[(⟨false,words⟩:Cell)])[S2.length]?=some ⟨false,words⟩:=app_at
 generalize S2++[(⟨false,words⟩:Cell)]=S3 at e3 w3
 obtain⟨ρ4,S4,e4,y4,y5,y6,eρ,x4⟩:=for_inv (nxt:=(rsrc 0 12).nxt) (g:=gn 4) (b:=lb_law_1) (l:=(List.range 12).map fun k:Nat=>D.int (k:Int))
  (fun i ρ S'=>∃ y4 y5 y6,ρ=[some (.lst q),some (.lst t),some (.int n),some (.lst S2.length),y4,y5,y6]∧Ex S3 S')
  (fun i ρ S' _=>rng_get) (fun i d ρ S' hd ⟨y4,y5,y6,h1',x⟩=>by
   subst h1'
   obtain⟨hi,rfl⟩:=rng_of hd
   obtain⟨z5,z6,S'',c1,c2⟩:=lb_ok (q:=q) (t:=t) (qw:=S2.length) (n:=n) (x5:=y5) (x6:=y6) hi (x.at w3)
   exact⟨_,_,S'',rfl,c1,_,z5,z6,rfl,x.trans c2⟩) 13 0 [some (.lst q),some (.lst t),some (.int n),some (.lst S2.length),none,none,none] S3 (Nat.zero_le _) ⟨none,none,none,rfl,.refl⟩ (by decide)
 subst eρ
 obtain⟨q5,S5,e5,h5,x5⟩:=kind_ok (k:=12) (n:=0) (S:=S4) (by decide)
 have e5:f__law_raised [.int 12,.int 0] S4=.ok (.tup [.lst q5,.non]) S5:=e5
 have m5:mks (nm 12)=(List.replicate 12 false++[true]).map D.bl:=by kernel_rfl!
 rw[m5] at h5
 have x6:Ex S5 (S5++[⟨false,[.bl false]⟩]):=Ex.app
 have q6:(S5++[(⟨false,[.bl false]⟩:Cell)])[S5.length]?=some ⟨false,[.bl false]⟩:=app_at
 have l6:(S5++[(⟨false,[.bl false]⟩:Cell)]).length=S5.length+1:=by simp
 have a6:∀ ρ:Lc,ls (ac (cn (.bl false)) an) ρ S5=.ok (.lst S5.length) (S5++[⟨false,[.bl false]⟩]):=fun ρ=>by simp
 generalize S5++[(⟨false,[.bl false]⟩:Cell)]=S6 at x6 q6 l6 a6
 have a7:=mul_rep (n:=12) q6 (by decide)
 have x7:Ex S6 (S6++[⟨false,List.replicate 12 (.bl false)⟩]):=Ex.app
 have q7:(S6++[(⟨false,List.replicate 12 (.bl false)⟩:Cell)])[S6.length]?=some ⟨false,List.replicate 12 (.bl false)⟩:=app_at
 have a7:mulD (.lst S5.length) (.int 12) S6=.ok (.lst S6.length) (S6++[⟨false,List.replicate 12 (.bl false)⟩]):=a7
 generalize S6++[(⟨false,List.replicate 12 (.bl false)⟩:Cell)]=S7 at x7 q7 a7
 have x8:Ex S7 (S7++[⟨false,[.bl true]⟩]):=Ex.app
 have q8:(S7++[(⟨false,[.bl true]⟩:Cell)])[S7.length]?=some ⟨false,[.bl true]⟩:=app_at
 have a8:∀ ρ:Lc,ls (ac (cn (.bl true)) an) ρ S7=.ok (.lst S7.length) (S7++[⟨false,[.bl true]⟩]):=fun ρ=>by simp
 generalize S7++[(⟨false,[.bl true]⟩:Cell)]=S8 at x8 q8 a8
 have a9:=add_ll (x8.at q7) q8 (by simp)
 have x9:Ex S8 (S8++[⟨false,List.replicate 12 (.bl false)++[.bl true]⟩]):=Ex.app
 have q9:(S8++[(⟨false,List.replicate 12 (.bl false)++[.bl true]⟩:Cell)])[S8.length]?=some ⟨false,List.replicate 12 (.bl false)++[.bl true]⟩:=app_at
 generalize S8++[(⟨false,List.replicate 12 (.bl false)++[.bl true]⟩:Cell)]=S9 at x9 q9 a9
 have q9:S9[S8.length]?=some ⟨false,(List.replicate 12 false++[true]).map D.bl⟩:=by rw[q9,List.map_append,List.map_replicate]; rfl
 have h9:=(((x6.trans x7).trans x8).trans x9).at h5
 have tp9:∀ p,S9[p]?=some ⟨false,(List.replicate 12 false++[true]).map D.bl⟩→toP S9 40 (.tup [.lst p,.non])=some (.tuple [.list ((List.replicate 12 false++[true]).map PyData.bool),.none]):=fun p hp=>by
  have t1:toP S9 39 (.lst p)=some (.list ((List.replicate 12 false++[true]).map PyData.bool)):=by
   show(match S9[p]? with | some c=>(mapO (toP S9 38) c.xs).map PyData.list | none=>none)=_
   rw[hp]
   show(mapO (toP S9 38) ((List.replicate 12 false++[true]).map D.bl)).map PyData.list=_
   rw[toP_bls]; rfl
  show(mapO (toP S9 39) [.lst p,.non]).map PyData.tuple=_
  simp only[mapO,t1]
  rfl
 have eq9:eqD (.tup [.lst q5,.non]) (.tup [.lst S8.length,.non]) S9=.ok (.bl true) S9:=by
  simp only[eqD,tp9 _ h9,tp9 _ q9]
  rw[if_pos (by decide +kernel)]
  kernel_rfl!
 refine⟨S9,?_⟩
 refine(fnB_ap (m:=7) (b:=b_law)).trans ?_
 show fin (b_law [some (.lst q),none,none,none,none,none,none] S)=_
 unfold b_law
 refine(fin_nx (ρ':=[some (.lst q),some (.lst t),none,none,none,none,none]) (S':=S1) (by simp[e1])).trans ?_
 refine(fin_nx (ρ':=[some (.lst q),some (.lst t),some (.int n),none,none,none,none]) (S':=S2) (by simp[p30,e2])).trans ?_
 refine(fin_nx e3).trans ?_
 refine(fin_nx (ρ':=[some (.lst q),some (.lst t),some (.int n),some (.lst S2.length),y4,y5,y6]) (S':=S4) (by rw[sfor_ap,ir1_ok (n:=12) (S':=S3) (by simp) (by decide),bindS_ok]; exact e4)).trans ?_
 simp[e5,a6,a7,a8,a9,eq9,-ls_ap]
theorem rep_ints{K:PySem.W.Frag}{mp:List Addr}{H:Hp}:∀ ns:List Int,RepL K mp H (ns.map D.int) (ns.map V.int)
 | []=>RepL.nil
 | a::r=>RepL.cons rfl (rep_ints r)
theorem hsp(K:PySem.W.Frag)(H:Hp)(a:Addr)(ns:List Int)(hl:ns.length≤63)(hO:Only H)(hS:SqL K H a (ns.map V.int)):spD K 1 f_law [.ref a] H (fun v _=>v=.bl true) fun _ _ _=>False:=by
 have hF:SqF K H a (ns.map V.int):=by
  rcases hS with(h | h) | h
  ·rcases hO a with z | ⟨o,xs,z⟩
   ·rw[z] at h; cases h
   ·rw[z] at h; cases h
  ·exact .inl h
  ·exact .inr h
 obtain⟨S',e⟩:=law_ok (S:=[⟨true,ns.map D.int⟩]) (q:=0) (fz:=true) (ns:=ns) rfl
 refine⟨[a],[.lst 0],[⟨true,ns.map D.int⟩],⟨rfl,fun i b c h1 h2=>?_,fun i j b ci cj h1 h2 h3 h4 h5 h6=>?_⟩,RepL.cons ⟨a,rfl,rfl⟩ RepL.nil,rfl,?_⟩
 ·cases i with
  | zero=>
   cases (Option.some.inj h1)
   cases (Option.some.inj h2)
   exact⟨ns.map V.int,rep_ints ns,(if_pos rfl).mpr hF⟩
  | succ i=>simp at h1
 ·cases i with
  | zero=>cases (Option.some.inj h3); cases h5
  | succ i=>simp at h1
 ·show PostF K [a] H (f_law [.lst 0] [⟨true,ns.map D.int⟩]) _
  rw[e]
  exact fun mp' H' v _ _ h=>h
end Law
set_option Elab.async false
def PySem.W.Fast.tw8366644596443560517:Nat:=0
def PySem.W.Fast.tw3271804172641092144:Nat:=0
def PySem.W.Fast.tw4011252244894823230:Nat:=0
def PySem.W.Fast.tw3708951647608673051:Nat:=0
def PySem.W.Fast.tw3041115963672747346:Nat:=0
def PySem.W.Fast.tw1310032017925271828:Nat:=0
def PySem.W.Fast.tw12789207530608690945:Nat:=0
def PySem.W.Fast.tw4071326719467996155:Nat:=0
def PySem.W.Fast.tw15851017677455924569:Nat:=0
def PySem.W.Fast.tw1488687758703853667:Nat:=0
def PySem.W.Fast.tw5141677234924845755:Nat:=0
def PySem.W.Fast.tw13538678840601931736:Nat:=0
def PySem.W.Fast.tw15463085262355428574:Nat:=0
def PySem.W.Fast.tw16550334269674285291:Nat:=0
def PySem.W.Fast.tw14699731117781497853:Nat:=0
def PySem.W.Fast.tw1647381352467456802:Nat:=0
def PySem.W.Fast.tw9141100303182776249:Nat:=0
def PySem.W.Fast.tw3570699117687523477:Nat:=0
def PySem.W.Fast.tw16287879878091177866:Nat:=0
def PySem.W.Fast.tw1595961915661762773:Nat:=0
open PySem PySem.W PyProof.Rows
set_option maxRecDepth 100000 in
set_option maxHeartbeats 0 in
theorem PySem.Challenge.cw_summitwater_k10_refusals_apart_holds : PySem.Challenge.rw_summitwater_k10_refusals_apart.Holds := by
 w_on; o_law; k_head; (case hw=>w_witness2)
 k_fill
 refine L2.walk_ofK (l:=PySem.Challenge.rw_summitwater_k10_refusals_apart) (n:=63) (k:=6) (x:="_law_script") (CX:=L2.CX0) (sp:=fun K=>DL.spD K 1 Law.f_law) rfl (by decide) rfl ⟨rfl,by decide,by decide,rfl⟩ (fun w h Y=>PySem.W.kIn_of Y) ?F Law.hsp (fun _ _ _ _ z=>z)
 case F=>
  intro w mg fa h KX G hmg
  refine' Law.all_mk KX G hmg (DL.fh_mk ?a__law_tape ?l__law_tape ?c__law_tape ?k__law_tape) (DL.fh_mk ?a__law_draw ?l__law_draw ?c__law_draw ?k__law_draw) (DL.fh_mk ?a__law_name ?l__law_name ?c__law_name ?k__law_name) (DL.fh_mk ?a__law_raised ?l__law_raised ?c__law_raised ?k__law_raised) ?a_law ?l_law ?c_law ?k_law ?z_ValueError ?z_bool ?z_isinstance ?z_len ?z_list ?z_range ?ca_SummitError ?ca_NoGate ?ca_Dry ?ca_Full ?ca_NoSpring ?ca_NoBarge ?ca_NoRoom ?ca_Uneven ?ca_Shallow ?ca_Falls ?ca_NoText ?ca_TooMany ?ca_NoLine ?xtb ?atb ?iI ?lI ?cI ?kI ?cx_Dry ?cx_Full ?cx_NoBarge ?cx_NoGate ?cx_NoLine ?cx_NoRoom ?cx_NoSpring ?cx_Shallow ?cx_SummitError ?cx_TooMany ?cx_Uneven ?rdI ?fcI ?sgI ?iJ_Falls ?lJ_Falls ?cJ_Falls ?kJ_Falls ?cj_Falls ?iJ_NoText ?lJ_NoText ?cJ_NoText ?kJ_NoText ?cj_NoText
  (case a__law_tape=>k_is); (case l__law_tape=>k_is); (case c__law_tape=>k_is); (case k__law_tape=>k_is)
  (case a__law_draw=>k_is); (case l__law_draw=>k_is); (case c__law_draw=>k_is); (case k__law_draw=>k_is)
  (case a__law_name=>k_is); (case l__law_name=>k_is); (case c__law_name=>k_is); (case k__law_name=>k_is)
  (case a__law_raised=>k_is); (case l__law_raised=>k_is); (case c__law_raised=>k_is); (case k__law_raised=>k_is)
  (case a_law=>k_is); (case l_law=>k_is); (case c_law=>k_is); (case k_law=>k_is)
  (case z_ValueError=>k_is)
  (case z_bool=>k_is)
  (case z_isinstance=>k_is)
  (case z_len=>k_is)
  (case z_list=>k_is)
  (case z_range=>k_is)
  (case ca_SummitError=>k_is)
  (case ca_NoGate=>k_is)
  (case ca_Dry=>k_is)
  (case ca_Full=>k_is)
  (case ca_NoSpring=>k_is)
  (case ca_NoBarge=>k_is)
  (case ca_NoRoom=>k_is)
  (case ca_Uneven=>k_is)
  (case ca_Shallow=>k_is)
  (case ca_Falls=>k_is)
  (case ca_NoText=>k_is)
  (case ca_TooMany=>k_is)
  (case ca_NoLine=>k_is)
  (case xtb=>kernel_rfl!)
  (case atb=>kernel_rfl!)
  (case iI=>k_is); (case lI=>k_is); (case cI=>k_is); (case kI=>k_is)
  (case cx_Dry=>kernel_rfl!)
  (case cx_Full=>kernel_rfl!)
  (case cx_NoBarge=>kernel_rfl!)
  (case cx_NoGate=>kernel_rfl!)
  (case cx_NoLine=>kernel_rfl!)
  (case cx_NoRoom=>kernel_rfl!)
  (case cx_NoSpring=>kernel_rfl!)
  (case cx_Shallow=>kernel_rfl!)
  (case cx_SummitError=>kernel_rfl!)
  (case cx_TooMany=>kernel_rfl!)
  (case cx_Uneven=>kernel_rfl!)
  (case rdI=>kernel_rfl!); (case fcI=>k_is); (case sgI=>k_is)
  (case iJ_Falls=>k_is); (case lJ_Falls=>k_is); (case cJ_Falls=>k_is); (case kJ_Falls=>k_is); (case cj_Falls=>kernel_rfl!)
  (case iJ_NoText=>k_is); (case lJ_NoText=>k_is); (case cJ_NoText=>k_is); (case kJ_NoText=>k_is); (case cj_NoText=>kernel_rfl!)
