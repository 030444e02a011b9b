import PyProof.Rows.All
import Wide.All
import OpenK.AllK
import Wide.FinOn
import Lean
import PyProof.EqAt
import PyProof.EqKinds
import PyProof.TupleCall
import PyProof.FactsAll.tuple_2
import PyProof.ListMulRoad
import PyProof.ExcArgsOwn
import PyProof.ZipIter
import PyProof.EnumFor
import PyProof.Rows.StrJoin2
import PyProof.FString
import PyProof.StrBlockH
import PyProof.StrWalks
import PyProof.EnumMake
import KE.KIntText
import PyProof.CallStr
import PyProof.ExcInit
import PyProof.ExcClass3
import PyProof.ExcBaseAll.ValueError
import PyProof.NsDelKeeps
import KE.KTryMore
import PyProof.Rows.CountFlat
import PyProof.Rows.KernelRfl
import PyProof.ListRange
import PySem.Challenge.RW_summitwater_k12_whole_water_is_never_mad
set_option Elab.async false
set_option linter.all false
set_option maxRecDepth 100000
namespace L2
open PySem PySem.Spec PyProof.Rows
abbrev Key:=Sum Int Str
def keyIs:Key→Value→Bool
 | .inl k,v=>Value.isInt k v
 | .inr x,v=>Value.isStrOf x v
def keyH(w:World):Key→Int
 | .inl k=>hashInt k
 | .inr x=>hashStr w x
theorem keyIs_shape:∀ {k:Key} {v:Value},keyIs k v=true→(∃ i t,k=Sum.inl i∧v=Value.int i t)∨(∃ x t,k=Sum.inr x∧v=Value.str x t)
 | .inl i,v,h=>by
  obtain⟨t,e⟩:=Value.isInt_shape (k:=i) (v:=v) h
  exact .inl ⟨i,t,rfl,e⟩
 | .inr x,v,h=>by
  obtain⟨t,e⟩:=Value.isStrOf_shape (x:=x) (v:=v) h
  exact .inr ⟨x,t,rfl,e⟩
theorem key_ll(a b:Int):decide ((Sum.inl a:Key)=Sum.inl b)=(a==b):=by
 by_cases e:a=b
 ·subst e; simp
 ·have h:¬ (Sum.inl a:Key)=Sum.inl b:=fun q=>e (Sum.inl.inj q)
  rw[decide_eq_false h]
  exact(beq_eq_false_iff_ne.mpr e).symm
theorem key_rr(a b:Str):decide ((Sum.inr a:Key)=Sum.inr b)=decide (a=b):=by
 by_cases e:a=b
 ·subst e; simp
 ·have h:¬ (Sum.inr a:Key)=Sum.inr b:=fun q=>e (Sum.inr.inj q)
  rw[decide_eq_false h,decide_eq_false e]
theorem key_lr(a:Int)(b:Str):decide ((Sum.inl a:Key)=Sum.inr b)=false:=decide_eq_false (fun q=>nomatch q)
theorem key_rl(a:Str)(b:Int):decide ((Sum.inr a:Key)=Sum.inl b)=false:=decide_eq_false (fun q=>nomatch q)
def mixKind(prog:Program)(w:World):PySem.KeyKind prog w Key where
 is:=keyIs
 hash:=keyH w
 inj:=fun v a b ha hb=>by
  rcases keyIs_shape ha with⟨i,t,rfl,rfl⟩ | ⟨x,t,rfl,rfl⟩
  ·rcases keyIs_shape hb with⟨j,u,rfl,e⟩ | ⟨y,u,rfl,e⟩
   ·injection e with e1 _; rw[e1]
   ·exact nomatch e
  ·rcases keyIs_shape hb with⟨j,u,rfl,e⟩ | ⟨y,u,rfl,e⟩
   ·exact nomatch e
   ·injection e with e1 _; rw[e1]
 byValue:=fun k v h=>by
  rcases keyIs_shape h with⟨i,t,rfl,rfl⟩ | ⟨x,t,rfl,rfl⟩<;>rfl
 pyHash:=fun hv h=>by
  rcases keyIs_shape hv with⟨i,t,rfl,rfl⟩ | ⟨x,t,rfl,rfl⟩
  ·exact wpAny_pyHash_int h
  ·exact wpAny_pyHash_str h
 eqBool:=fun hu hv h=>by
  rcases keyIs_shape hu with⟨i,t,rfl,rfl⟩ | ⟨x,t,rfl,rfl⟩
  ·rcases keyIs_shape hv with⟨j,u,rfl,rfl⟩ | ⟨y,u,rfl,rfl⟩
   ·rw[key_ll] at h; exact wpAny_eqBool_int h
   ·rw[key_lr] at h; exact SeqAt.EqAt.int_str i t y u _ _ _ _ h
  ·rcases keyIs_shape hv with⟨j,u,rfl,rfl⟩ | ⟨y,u,rfl,rfl⟩
   ·rw[key_rl] at h; exact SeqAt.EqAt.str_int x t j u _ _ _ _ h
   ·rw[key_rr] at h; exact wpAny_eqBool_str h
 «strs»:=fun k x t v h=>by
  rcases keyIs_shape h with⟨i,u,rfl,e⟩ | ⟨y,u,rfl,e⟩
  ·exact nomatch e
  ·injection e with e1 _
   subst e1
   cases v<;>rfl
end L2
namespace L2
open PySem PySem.Spec PyProof.Rows
inductive V where
 | non | bl (b:Bool) | int (i:Int) | str (x:Str) | byt (b:Array UInt8) | flt (b:UInt64) | ref (a:Addr) | ty (n:String)
 deriving DecidableEq
def RelV:V→Value→Prop
 | .non,u=>u=Value.none
 | .bl b,u=>u=Value.bool b
 | .int i,u=>∃ t,u=Value.int i t
 | .str x,u=>∃ t,u=Value.str x t
 | .byt b,u=>∃ t,u=Value.bytes b t
 | .flt b,u=>∃ t,u=Value.float b t
 | .ref a,u=>u=Value.ref a
 | .ty n,u=>u=Value.type n
abbrev Vals:List V→List Value→Prop:=Paired RelV
theorem Vals.length{xs:List V}{us:List Value}(r:Vals xs us):xs.length=us.length:=Paired.length r
theorem Vals.get:∀ {xs:List V} {us:List Value} {i:Nat} {x:V},Vals xs us→xs[i]?=some x→∃ u,us[i]?=some u∧RelV x u
 | _,_,_,_,.nil,e=>by simp at e
 | _,_,0,_,.cons r _,e=>by simp at e; subst e; exact⟨_,rfl,r⟩
 | _,_,i+1,x,.cons _ t,e=>by
  obtain⟨u,h1,h2⟩:=Vals.get (i:=i) (x:=x) t (by simpa using e)
  exact⟨u,by simpa using h1,h2⟩
theorem Vals.set{x:V}{u:Value}(r:RelV x u):∀ {xs:List V} {us:List Value} (i:Nat),Vals xs us→Vals (xs.set i x) (us.set i u)
 | _,_,_,.nil=>.nil
 | _,_,0,.cons _ t=>.cons r t
 | _,_,i+1,.cons q t=>.cons q (Vals.set r i t)
theorem Vals.append:∀ {xs ys:List V} {us ws:List Value},Vals xs us→Vals ys ws→Vals (xs++ys) (us++ws)
 | _,_,_,_,.nil,s=>s
 | _,_,_,_,.cons r t,s=>.cons r (Vals.append t s)
theorem Vals.take:∀ {xs:List V} {us:List Value} (n:Nat),Vals xs us→Vals (xs.take n) (us.take n)
 | _,_,0,_=>.nil
 | _,_,_+1,.nil=>.nil
 | _,_,n+1,.cons r t=>.cons r (Vals.take n t)
theorem Vals.drop:∀ {xs:List V} {us:List Value} (n:Nat),Vals xs us→Vals (xs.drop n) (us.drop n)
 | _,_,0,r=>r
 | _,_,_+1,.nil=>.nil
 | _,_,n+1,.cons _ t=>Vals.drop n t
def RelO:Option V→Option Value→Prop
 | some v,some u=>RelV v u
 | none,none=>True
 | _,_=>False
def KV{κ:Type}:List (κ×V)→List (κ×Value)→Prop:=Paired fun(p:κ×V) (q:κ×Value)=>p.1=q.1∧RelV p.2 q.2
def kV:Key→V
 | .inl i=>.int i
 | .inr x=>.str x
inductive HO where
 | lst (xs:List V)
 | tup (xs:List V)
 | dK (kvs:List (Key×V)) | dT (kvs:List (List Key×V))
 | set (S:Int→Bool) (n:Nat)
 | ins (C dx:Addr) (fs:List (Str×V))
 | own (x:Addr)
 | xd (fs:List (Str×V))
 | met (f x:Addr)
 | rng (lo hi:Int)
 | frz (o:Obj) (u:HO)
 | tbl (ps:Array Value)
 | ext (φ:Heap→Prop)
abbrev Hp:=Addr→Option HO
def upd(H:Hp)(a:Addr)(o:HO):Hp:=fun b=>if b=a then some o else H b
theorem upd_same{H:Hp}{a:Addr}{o:HO}:upd H a o a=some o:=by unfold upd; rw[if_pos rfl]
theorem upd_ne{H:Hp}{a b:Addr}{o:HO}(h:b≠a):upd H a o b=H b:=by unfold upd; rw[if_neg h]
theorem ne_of{H:Hp}{a b:Addr}{o u:HO}(h:H a=some o)(h':H b=some u)(d:o≠u):a≠b:=by
 intro e; subst e; rw[h] at h'; exact d (Option.some.inj h')
theorem ne_of_none{H:Hp}{a b:Addr}{o:HO}(h:H a=some o)(h':H b=none):a≠b:=by
 intro e; subst e; rw[h] at h'; cases h'
section
variable(P:Program)(w:World)
def ObjOk(H:Hp)(h:Heap)(a:Addr):HO→Prop
 | .lst xs=>xs.length≤sizeLine∧∃ (its:List Value) (n:Nat),Vals xs its∧h.get? a=some { cls:=.type "list",data:=.seq its.toArray n }
 | .tup xs=>xs.length≤sizeLine∧∃ its:List Value,Vals xs its∧IsTup h a its.toArray
 | .dK kvs=>kvs.length≤sizeLine∧(a==sysModules)=false∧∃ vs,KV kvs vs∧h.DictOf (mixKind P w) a vs
 | .dT kvs=>kvs.length≤sizeLine∧(a==sysModules)=false∧∃ xs:List (List Key×Addr×Value),
   Paired (fun(p:List Key×V) (q:List Key×Addr×Value)=>p.1=q.1∧H q.2.1=some (.tup (p.1.map kV))∧RelV p.2 q.2.2) kvs xs∧
   ∃ o es ep,h.get? a=some o∧o.ExactDict∧o.data=.dict es ep∧es.toList=xs.map (entryOfKey (tupleKind (mixKind P w)))∧(xs.map (·.1)).Nodup
 | .set S n=>h.SetOf (intKind P w) a S n
 | .ins C dx fs=>H dx=some (.own a)∧fs.length≤1000∧dx≠a∧h.get? a=some (PySem.W.instObj C dx)∧
   ∃ mA,h.Ns1 dx mA∧(∀ f,RelO (fs.lookup f) (mA f))∧PySem.Within mA (fs.map (·.1))
 | .own _=>∃ o,h.get? a=some o
 | .xd fs=>∃ mA,h.Ns1 a mA∧∀ f,RelO (fs.lookup f) (mA f)
 | .rng lo hi=>∃ t u v,h.get? a=some { cls:=.type "range",data:=.fields #[.int lo t,.int hi u,.int 1 v] }
 | .frz o u=>h.get? a=some o∧ObjOk H h a u
 | .tbl ps=>h.get? a=some { cls:=.none,data:=.fields ps }
 | .met f x=>h.get? a=some (PySem.W.methodObj (.ref f) (.ref x))
 | .ext φ=>φ h∧(∃ o,h.get? a=some o)∧∀ h1 h2:Heap,φ h1→(∀ o,h1.get? a=some o→h2.get? a=some o)→φ h2
def HOk(H:Hp)(h:Heap):Prop:=∀ a o,H a=some o→ObjOk P w H h a o
end
section
variable{P:Program}{w:World}{H H':Hp}{h h':Heap}{a:Addr}{o:HO}
theorem ObjOk.lt(x:ObjOk P w H h a o):a<h.objs.size:=by
 cases o with
 | lst xs=>obtain⟨_,_,_,_,e⟩:=x; exact Heap.lt_size e
 | tup xs=>obtain⟨_,_,_,p⟩:=x; exact p.lt
 | dK kvs=>obtain⟨_,_,_,_,o,_,_,e,_⟩:=x; exact Heap.lt_size e
 | dT kvs=>obtain⟨_,_,_,_,o,_,_,e,_⟩:=x; exact Heap.lt_size e
 | set S n=>obtain⟨o,_,_,_,e,_⟩:=x; exact Heap.lt_size e
 | ins C dx fs=>obtain⟨_,_,_,e,_⟩:=x; exact Heap.lt_size e
 | own y=>obtain⟨_,e⟩:=x; exact Heap.lt_size e
 | xd fs=>obtain⟨_,⟨_,_,_,e,_⟩,_⟩:=x; exact Heap.lt_size e
 | rng lo hi=>obtain⟨_,_,_,e⟩:=x; exact Heap.lt_size e
 | frz ob u=>obtain⟨e,_⟩:=x; exact Heap.lt_size e
 | tbl ps=>exact Heap.lt_size (show h.get? a=some _ from x)
 | met f y=>exact Heap.lt_size (show h.get? a=some _ from x)
 | ext φ=>obtain⟨_,⟨_,e⟩,_⟩:=x; exact Heap.lt_size e
theorem Paired.mapP{α β:Type}{F G:α→β→Prop}:∀ {l₁:List α} {l₂:List β},Paired F l₁ l₂→(∀ a b,F a b→G a b)→Paired G l₁ l₂
 | _,_,.nil,_=>.nil
 | _,_,.cons r t,f=>.cons (f _ _ r) (Paired.mapP t f)
theorem ObjOk.stay(x:ObjOk P w H h a o)(k:∀ b u,(b=a∨H b=some (.own a))→h.get? b=some u→h'.get? b=some u)
  (ho:∀ b,H b=some (.own a)→H' b=some (.own a)) (ht:∀ b xs,H b=some (.tup xs)→H' b=some (.tup xs)):ObjOk P w H' h' a o:=by
 induction o with
 | lst xs=>obtain⟨z,its,n,r,e⟩:=x; exact⟨z,its,n,r,k _ _ (.inl rfl) e⟩
 | tup xs=>obtain⟨z,its,r,ob,e,c⟩:=x; exact⟨z,its,r,ob,k _ _ (.inl rfl) e,c⟩
 | dK kvs=>obtain⟨z,y,vs,r,ob,es,ep,e,c⟩:=x; exact⟨z,y,vs,r,ob,es,ep,k _ _ (.inl rfl) e,c⟩
 | dT kvs=>
  obtain⟨z,y,xs,r,ob,es,ep,e,c⟩:=x
  exact⟨z,y,xs,Paired.mapP r fun p q z=>⟨z.1,ht _ _ z.2.1,z.2.2⟩,ob,es,ep,k _ _ (.inl rfl) e,c⟩
 | set S n=>obtain⟨ob,es,ep,t,e,c⟩:=x; exact⟨ob,es,ep,t,k _ _ (.inl rfl) e,c⟩
 | ins C dx fs=>
  obtain⟨d,z,ne,e,mA,⟨od,es,ep,e2,c⟩,r⟩:=x
  exact⟨ho _ d,z,ne,k _ _ (.inl rfl) e,mA,⟨od,es,ep,k _ _ (.inr d) e2,c⟩,r⟩
 | own y=>obtain⟨ob,e⟩:=x; exact⟨ob,k _ _ (.inl rfl) e⟩
 | xd fs=>obtain⟨mA,⟨od,es,ep,e,c⟩,r⟩:=x; exact⟨mA,⟨od,es,ep,k _ _ (.inl rfl) e,c⟩,r⟩
 | rng lo hi=>obtain⟨t,u,v,e⟩:=x; exact⟨t,u,v,k _ _ (.inl rfl) e⟩
 | frz ob u ih=>obtain⟨e,q⟩:=x; exact⟨k _ _ (.inl rfl) e,ih q⟩
 | tbl ps=>
  have e:h.get? a=some { cls:=.none,data:=.fields ps }:=x
  show h'.get? a=some { cls:=.none,data:=.fields ps }
  exact k a _ (.inl rfl) e
 | met f y=>
  have e:h.get? a=some (PySem.W.methodObj (.ref f) (.ref y)):=x
  show h'.get? a=some (PySem.W.methodObj (.ref f) (.ref y))
  exact k a _ (.inl rfl) e
 | ext φ=>obtain⟨p,⟨o,e⟩,st⟩:=x; exact⟨st _ _ p fun o q=>k _ _ (.inl rfl) q,⟨o,k _ _ (.inl rfl) e⟩,st⟩
theorem HOk.lt(x:HOk P w H h)(e:H a=some o):a<h.objs.size:=(x a o e).lt
theorem HOk.fresh(x:HOk P w H h)(e:h.objs.size≤a):H a=none:=by
 cases q:H a with
 | none=>rfl
 | some u=>exact absurd (Nat.lt_of_lt_of_le (x.lt q) e) (Nat.lt_irrefl _)
theorem HOk.kept(x:HOk P w H h)(k:∀ b u,h.get? b=some u→h'.get? b=some u):HOk P w H h':=fun a o e=>
 (x a o e).stay (fun b u _ q=>k b u q) (fun _ q=>q) fun _ _ q=>q
theorem HOk.laid(x:HOk P w H h)(k:∀ b u,h.get? b=some u→h'.get? b=some u)(hp:h.objs.size≤a)(new:ObjOk P w (upd H a o) h' a o):HOk P w (upd H a o) h':=fun b u e=>by
 have hn:=x.fresh hp
 by_cases hb:b=a
 ·subst hb; rw[upd_same] at e; cases e; exact new
 ·rw[upd_ne hb] at e
  exact(x b u e).stay (fun c v _ q=>k c v q) (fun c q=>by rw[upd_ne (ne_of_none q hn)]; exact q) fun c xs q=>by rw[upd_ne (ne_of_none q hn)]; exact q
end
def Rd(H:Hp)(a:Addr)(u:HO):Prop:=H a=some u∨∃ o,H a=some (.frz o u)
theorem Rd.ok{P:Program}{w:World}{H:Hp}{h:Heap}{a:Addr}{u:HO}(r:Rd H a u)(x:HOk P w H h):ObjOk P w H h a u:=by
 rcases r with r | ⟨o,r⟩
 ·exact x a u r
 ·obtain⟨_,q⟩:=x a _ r
  exact q
def Mut:Option HO→Prop
 | some (.lst _)=>True
 | some (.dK _)=>True
 | some (.dT _)=>True
 | some (.set _ _)=>True
 | some (.ins _ _ _)=>True
 | some (.ext _)=>True
 | _=>False
section
variable{P:Program}{w:World}{H:Hp}{h h':Heap}{x e:Addr}{o':HO}
theorem HOk.write(ok:HOk P w H h)(mu:Mut (H x))(he:e=x∨H e=some (.own x))(k:∀ b u,b≠e→h.get? b=some u→h'.get? b=some u)(heo:∃ u,h'.get? e=some u)
  (new:ObjOk P w (upd H x o') h' x o'):HOk P w (upd H x o') h':=fun b u q=>by
 have nown:∀ c y,H c=some (.own y)→c≠x:=fun c y r z=>by subst z; rw[r] at mu; exact mu
 have ntup:∀ c xs,H c=some (.tup xs)→c≠x:=fun c xs r z=>by subst z; rw[r] at mu; exact mu
 by_cases hb:b=x
 ·subst hb; rw[upd_same] at q; cases q; exact new
 ·rw[upd_ne hb] at q
  by_cases hbe:b=e
  ·have q':H b=some (.own x):=by
    rcases he with z | z
    ·exact absurd (hbe.trans z) hb
    ·rw[hbe]; exact z
   rw[q] at q'; cases q'
   obtain⟨v,hv⟩:=heo
   exact⟨v,by rw[hbe]; exact hv⟩
  ·refine(ok b u q).stay (fun c v hc r=>k c v ?_ r) (fun c r=>by rw[upd_ne (nown c b r)]; exact r) fun c xs r=>by rw[upd_ne (ntup c xs r)]; exact r
   rcases hc with rfl | hc
   ·exact hbe
   ·rintro rfl
    rcases he with z | z
    ·exact nown c b hc z
    ·rw[hc] at z; cases z; exact hb rfl
end
structure Un(fs ex:List Addr)(H H':Hp)(h h':Heap):Prop where
 keep:∀ b o,h.get? b=some o→H b=none→b∉fs→b∉ex→h'.get? b=some o
 slot:∀ b o,h.get? b=some o→H b=none→b∈fs→b∉ex→∃ sl,h'.get? b=some { o with slots:=sl }
 free:∀ b o,h.get? b=some o→H b=none→b∉ex→H' b=none
 there:∀ b o,h.get? b=some o→b∉ex→∃ o',h'.get? b=some o'
 tups:∀ b xs,H b=some (.tup xs)→H' b=some (.tup xs)
 frzs:∀ b o u,H b=some (.frz o u)→H' b=some (.frz o u)
 tbls:∀ b ps,H b=some (.tbl ps)→∃ more,H' b=some (.tbl (ps++more))
section
variable{fs fs' ex ex':List Addr}{H H1 H2:Hp}{h h1 h2 h':Heap}{a x e:Addr}{o:HO}
theorem Un.any(u:Un fs ex H H1 h h1){b:Addr}{ob:Obj}(q:h.get? b=some ob)(n:H b=none)(hx:b∉ex):∃ sl,h1.get? b=some { ob with slots:=sl }:=by
 by_cases hb:b∈fs
 ·exact u.slot b ob q n hb hx
 ·exact⟨ob.slots,u.keep b ob q n hb hx⟩
theorem Un.kept(k:∀ b u,h.get? b=some u→h'.get? b=some u):Un fs ex H H h h':=
 ⟨fun b ob q _ _ _=>k b ob q,fun b ob q _ _ _=>⟨ob.slots,k b ob q⟩,fun _ _ _ n _=>n,fun b ob q _=>⟨ob,k b ob q⟩,fun _ _ q=>q,fun _ _ _ q=>q,fun _ ps q=>⟨#[],by rw[q]; simp⟩⟩
theorem Un.refl:Un fs ex H H h h:=Un.kept fun _ _ q=>q
theorem Un.laid(k:∀ b u,h.get? b=some u→h'.get? b=some u)(hp:h.objs.size≤a)(hn:H a=none):Un fs ex H (upd H a o) h h' where
 keep:=fun b u q _ _ _=>k b u q
 slot:=fun b u q _ _ _=>⟨u.slots,k b u q⟩
 free:=fun b u q n _=>by rw[upd_ne (Nat.ne_of_lt (Nat.lt_of_lt_of_le (Heap.lt_size q) hp))]; exact n
 there:=fun b u q _=>⟨u,k b u q⟩
 tups:=fun b xs q=>by rw[upd_ne (ne_of_none q hn)]; exact q
 frzs:=fun b u xs q=>by rw[upd_ne (ne_of_none q hn)]; exact q
 tbls:=fun b ps q=>⟨#[],by rw[upd_ne (ne_of_none q hn),q]; simp⟩
theorem Un.write(mu:Mut (H x))(he:e=x∨H e=some (.own x))(k:∀ b u,b≠e→h.get? b=some u→h'.get? b=some u)(heo:∃ u,h'.get? e=some u):Un fs ex H (upd H x o) h h':=by
 have hx:∀ b,H b=none→b≠x:=fun b n z=>by subst z; rw[n] at mu; exact mu
 have hb:∀ b,H b=none→b≠e:=fun b n z=>by
  subst z
  rcases he with r | r
  ·exact hx b n r
  ·rw[n] at r; cases r
 have hm:∀ b u,H b=some u→¬ Mut (some u)→b≠x:=fun b u q nm z=>by subst z; rw[q] at mu; exact nm mu
 refine⟨fun b u q n _ _=>k b u (hb b n) q,fun b u q n _ _=>⟨u.slots,k b u (hb b n) q⟩,fun b u q n _=>by rw[upd_ne (hx b n)]; exact n,fun b u q _=>?_,
  fun b xs q=>by rw[upd_ne (hm b _ q fun z=>z)]; exact q,fun b u xs q=>by rw[upd_ne (hm b _ q fun z=>z)]; exact q,fun b ps q=>⟨#[],by rw[upd_ne (hm b _ q fun z=>z),q]; simp⟩⟩
 by_cases hbe:b=e
 ·subst hbe; exact heo
 ·exact⟨u,k b u hbe q⟩
end
def trk(h:Heap)(H:Hp):List Addr:=(List.range h.objs.size).filter fun a=>(H a).isSome
def hidT(h:Heap)(H:Hp):Heap:=PySem.W.hideAll h (trk h H)
theorem hidT_size(h:Heap)(H:Hp):(hidT h H).objs.size=h.objs.size:=PySem.W.hideAll_size _ _
theorem hidT_get{h:Heap}{H:Hp}{b:Addr}{o:Obj}(e:h.get? b=some o)(n:H b=none):(hidT h H).get? b=some o:=
 PySem.W.hideAll_get _ e fun hm=>by
  have q:(H b).isSome=true:=(List.mem_filter.mp hm).2
  rw[n] at q; simp at q
theorem of_hidT{h:Heap}{H:Hp}{b:Addr}{o:Obj}(e:(hidT h H).get? b=some o):h.get? b=some o∧H b=none:=by
 have e':h.get? b=some o:=PySem.W.of_hideAll (trk h H) e
 refine⟨e',?_⟩
 cases q:H b with
 | none=>rfl
 | some x=>
  have hm:b∈trk h H:=List.mem_filter.mpr ⟨List.mem_range.mpr (Heap.lt_size e'),by simp[q]⟩
  have z:(hidT h H).get? b=none:=PySem.W.hideAll_none (trk h H) hm
  rw[z] at e; cases e
def allNews(g h:Heap)(L:Addr):List (Addr×Obj):=(List.range h.objs.size).filterMap fun a=>if a=L∨(g.get? a).isSome=true then none else(h.get? a).map fun o=>(a,o)
def rest(g h:Heap)(L d:Addr):List (Addr×Obj):=(allNews g h L).filter fun p=>decide (p.1≠d)
end L2
namespace L2
open PySem PySem.Spec PyProof.Rows
structure Mod(K:PySem.W.Frag)(mg:Str→Option Value)(base:Heap):Prop where
 kin:K.In base
 glob:base.Ns mainGlobals mg
 blt:∃ mb,base.Ns builtinsNs mb∧∀ x:Str,x≠"__name__"→mb x=bootBuiltins x
 nolimit:base.NoLimit
structure Cx where
 prog:Program
 w:World
 K:PySem.W.Frag
 mg:Str→Option Value
 base:Heap
 A:Around
 N:List Str
 s₀:Shared
 H₀:Hp
 env:Env
 outer:List Env
 stack:List Env
 ex:List Addr
 fn:Str→Bool
 calm:Bool
 pn:List (Addr×Obj)
 xe:Value→Shared→Prop
def frs(l:List Env):List Addr:=l.filterMap (·.frame)
abbrev Cx.fs(X:Cx):List Addr:=frs X.outer
def Vis(sc:Scope)(x:Str):Prop:=sc.names.lookup x=some .local∨sc.names.lookup x=some .cell∨sc.names.lookup x=some .free
def Loc(sc:Scope)(x:Str):Prop:=sc.names.lookup x=some .local∨sc.names.lookup x=some .cell
def Look(env:Env)(h:Heap)(m:Str→Option Value)(x:Str)(u:Value):Prop:=
 (env.kindOf x=some .local∧m x=some u)∨((env.kindOf x=some .cell∨env.kindOf x=some .free)∧∃ c,env.cells.lookup x=some c∧h.IsCell c (some u))
structure Cx.Ok(X:Cx):Prop where
 mod:Mod X.K X.mg X.base
 kind:X.env.scope.kind=.function
 glob:X.env.globals=mainGlobals
 blt:X.env.builtins=builtinsNs
 above:X.s₀.heap.objs.size≤X.env.locals
 inj:∀ x y c,X.env.cells.lookup x=some c→X.env.cells.lookup y=some c→x=y
 has:∀ x,(X.env.kindOf x=some .cell∨X.env.kindOf x=some .free)→∃ c,X.env.cells.lookup x=some c
 cab:∀ x c,X.fn x=true→X.env.cells.lookup x=some c→X.s₀.heap.objs.size≤c
 hd:X.calm=true→X.A.handled=none
 frames:X.A.frames=some X.stack
 stk:X.stack=X.outer∨(X.stack=X.env::X.outer∧X.env.frame=some X.env.locals)
 exf:∀ b∈X.ex,b≠X.env.locals∧∀ x c,X.env.cells.lookup x=some c→c≠b
 bs:∀ b o,X.base.get? b=some o→X.s₀.heap.get? b=some o∧X.H₀ b=none
 bsz:X.base.objs.size≤X.s₀.heap.objs.size
 noex:∀ b o,X.base.get? b=some o→b∉X.ex
 exfs:∀ b∈X.ex,b∉X.fs
 funs:X.s₀.heap.FunFrames X.base X.outer
 frf:∀ b∈X.fs,X.H₀ b=none
structure Inv(X:Cx)(pins:List (Addr×Obj))(σ:List (Option V))(H:Hp)(s:Shared):Prop where
 ok:X.Ok
 os:s.os=X.s₀.os
 bare:AllBare s.gens
 base:Un X.fs X.ex X.H₀ H X.s₀.heap s.heap
 loc:∃ m,s.heap.Ns X.env.locals m∧∀ (i:Nat) (x:Str) (v:V),X.N[i]?=some x→σ[i]?=some (some v)→Vis X.env.scope x→∃ u,RelV v u∧Look X.env s.heap m x u
 cell:∀ x c,X.env.cells.lookup x=some c→∃ v,s.heap.IsCell c v
 free:H X.env.locals=none
 freeC:∀ x c,X.env.cells.lookup x=some c→H c=none
 pin:∀ p∈X.pn++pins,s.heap.get? p.1=some p.2∧H p.1=none∧p.1≠X.env.locals∧p.1∉X.fs∧∀ v,p.2.data≠.cell v
 hok:HOk X.prog X.w H s.heap
 len:σ.length=X.N.length
section
variable{X:Cx}{pins:List (Addr×Obj)}{σ:List (Option V)}{H H':Hp}{s:Shared}{h':Heap}
theorem Cx.Ok.nofr(ok:X.Ok){b:Addr}{o:Obj}(e:X.base.get? b=some o):b∉X.fs:=fun hb=>by
 have:=(ok.funs.mem hb).1
 rw[e] at this; cases this
theorem Inv.bs(I:Inv X pins σ H s):∀ b o,X.base.get? b=some o→s.heap.get? b=some o∧H b=none:=fun b o e=>
 ⟨I.base.keep b o (I.ok.bs b o e).1 (I.ok.bs b o e).2 (I.ok.nofr e) (I.ok.noex b o e),I.base.free b o (I.ok.bs b o e).1 (I.ok.bs b o e).2 (I.ok.noex b o e)⟩
theorem Inv.bk(I:Inv X pins σ H s):∀ b o,X.base.get? b=some o→s.heap.get? b=some o:=fun b o e=>(I.bs b o e).1
theorem Inv.mod(I:Inv X pins σ H s):Mod X.K X.mg X.base:=I.ok.mod
theorem Inv.kIn(I:Inv X pins σ H s):X.K.In s.heap:=I.ok.mod.kin.keeps I.bk
theorem Inv.lt(I:Inv X pins σ H s):X.env.locals<s.heap.objs.size:=let ⟨_,hn,_⟩:=I.loc; hn.lt
theorem Inv.sz(I:Inv X pins σ H s):X.s₀.heap.objs.size≤s.heap.objs.size:=Nat.le_trans I.ok.above (Nat.le_of_lt I.lt)
theorem Inv.nofs(I:Inv X pins σ H s){a:Addr}(h:s.heap.objs.size≤a):a∉X.fs:=fun hb=>by
 obtain⟨_,o,ho,_⟩:=I.ok.funs.mem hb
 exact absurd (Nat.lt_of_lt_of_le (Heap.lt_size ho) (Nat.le_trans I.sz h)) (Nat.lt_irrefl _)
theorem Inv.cne(I:Inv X pins σ H s):∀ x c,X.env.cells.lookup x=some c→c≠X.env.locals:=fun x c e z=>by
 obtain⟨v,o,ho,hd⟩:=I.cell x c e
 obtain⟨m,⟨o',es,ep,ho',hd',_⟩,_⟩:=I.loc
 rw[z,ho'] at ho; cases ho; rw[hd'] at hd; cases hd
theorem Inv.funs(I:Inv X pins σ H s):s.heap.FunFrames X.base X.outer:=by
 have all:∀ (l:List Env),(∀ b∈frs l,b∈X.fs)→X.s₀.heap.FunFrames X.base l→s.heap.FunFrames X.base l:=by
  intro l
  induction l with
  | nil=>intro _ _; trivial
  | cons env r ih=>
   intro hs hl
   obtain⟨hk,⟨L,o,hf,hn,ho,hd⟩,hr⟩:=hl
   have hL:L∈X.fs:=hs L (by unfold frs; rw[List.filterMap_cons,hf]; exact List.mem_cons_self)
   obtain⟨sl,e⟩:=I.base.slot L o ho (I.ok.frf L hL) hL fun z=>I.ok.exfs L z hL
   exact⟨hk,⟨L,_,hf,hn,e,hd⟩,ih (fun b hb=>hs b (by unfold frs; rw[List.filterMap_cons,hf]; exact List.mem_cons_of_mem _ hb)) hr⟩
 exact all X.outer (fun _ hb=>hb) I.ok.funs
theorem Inv.stack(I:Inv X pins σ H s):s.heap.FunFrames X.base X.stack:=by
 rcases I.ok.stk with e | ⟨e,hf⟩
 ·rw[e]; exact I.funs
 ·rw[e]
  obtain⟨m,hn,_⟩:=I.loc
  refine .cons (by rw[I.ok.kind]; decide) hf hn ?_ I.funs
  exact Heap.get?_none_of_le (Nat.le_trans I.ok.bsz I.ok.above)
theorem Inv.stkSub(I:Inv X pins σ H s):∀ b∈frs X.stack,b∈X.env.locals::X.fs:=fun b hb=>by
 rcases I.ok.stk with e | ⟨e,hf⟩
 ·rw[e] at hb; exact List.mem_cons_of_mem _ hb
 ·rw[e] at hb
  unfold frs at hb
  rw[List.filterMap_cons,hf] at hb
  exact hb
theorem Inv.stkFree(I:Inv X pins σ H s):∀ b∈frs X.stack,H b=none:=fun b hb=>by
 rcases List.mem_cons.mp (I.stkSub b hb) with e | hb
 ·rw[e]; exact I.free
 ·obtain⟨_,o,ho,_⟩:=I.ok.funs.mem hb
  exact I.base.free b o ho (I.ok.frf b hb) fun z=>I.ok.exfs b z hb
theorem Inv.step{g':Array GenState}{t':Nat}{d':Drawn}{ch:List Addr}(I:Inv X pins σ H s)
  (hch:∀ b∈ch,(b∈X.ex∨X.s₀.heap.objs.size≤b)∧b≠X.env.locals∧(∀ x c,X.env.cells.lookup x=some c→c≠b)∧∀ p∈X.pn++pins,p.1≠b)
  (keep:∀ b o,b≠X.env.locals→b∉X.fs→b∉ch→s.heap.get? b=some o→H b=none→h'.get? b=some o)
  (slot:∀ b o,b≠X.env.locals→b∈X.fs→b∉ch→s.heap.get? b=some o→H b=none→∃ sl,h'.get? b=some { o with slots:=sl }) (free:∀ b o,b∉ch→s.heap.get? b=some o→H b=none→H' b=none)
  (there:∀ b o,b∉ch→s.heap.get? b=some o→∃ o',h'.get? b=some o')
  (tups:∀ b xs,H b=some (.tup xs)→H' b=some (.tup xs)) (frzs:∀ b o u,H b=some (.frz o u)→H' b=some (.frz o u)) (tbls:∀ b ps,H b=some (.tbl ps)→∃ more,H' b=some (.tbl (ps++more)))
  (ns:∀ m,s.heap.Ns X.env.locals m→h'.Ns X.env.locals m) (hok:HOk X.prog X.w H' h') (hg:AllBare g'):
  Inv X pins σ H' { s with heap:=h',gens:=g',drawn:=d',toks:=t' }:=by
 have neL:∀ b o,X.s₀.heap.get? b=some o→b≠X.env.locals:=fun b o e=>Nat.ne_of_lt (Nat.lt_of_lt_of_le (Heap.lt_size e) I.ok.above)
 have neC:∀ b o,X.s₀.heap.get? b=some o→b∉X.ex→b∉ch:=fun b o e hx hb=>by
  rcases(hch b hb).1 with z | z
  ·exact hx z
  ·exact absurd (Nat.lt_of_lt_of_le (Heap.lt_size e) z) (Nat.lt_irrefl _)
 have cellK:∀ x c,X.env.cells.lookup x=some c→∀ v,s.heap.IsCell c v→h'.IsCell c v:=fun x c e v ⟨o,ho,hd⟩=>by
  have nch:c∉ch:=fun z=>(hch c z).2.2.1 x c e rfl
  by_cases hc:c∈X.fs
  ·obtain⟨sl,q⟩:=slot c o (I.cne x c e) hc nch ho (I.freeC x c e)
   exact⟨_,q,hd⟩
  ·exact⟨o,keep c o (I.cne x c e) hc nch ho (I.freeC x c e),hd⟩
 refine⟨I.ok,I.os,hg,⟨fun b o e n hb hx=>?_,fun b o e n hb hx=>?_,fun b o e n hx=>?_,fun b o e hx=>?_,fun b xs e=>tups b xs (I.base.tups b xs e),fun b o xs e=>frzs b o xs (I.base.frzs b o xs e),fun b ps e=>?_⟩,?_,fun x c e=>?_,?_,fun x c e=>?_,fun p hp=>?_,hok,I.len⟩
 ·exact keep b o (neL b o e) hb (neC b o e hx) (I.base.keep b o e n hb hx) (I.base.free b o e n hx)
 ·obtain⟨sl,e1⟩:=I.base.slot b o e n hb hx
  obtain⟨sl',e2⟩:=slot b _ (neL b o e) hb (neC b o e hx) e1 (I.base.free b o e n hx)
  exact⟨sl',e2⟩
 ·obtain⟨o',e1⟩:=I.base.there b o e hx
  exact free b o' (neC b o e hx) e1 (I.base.free b o e n hx)
 ·obtain⟨o',e1⟩:=I.base.there b o e hx
  exact there b o' (neC b o e hx) e1
 ·obtain⟨m1,e1⟩:=I.base.tbls b ps e
  obtain⟨m2,e2⟩:=tbls b _ e1
  exact⟨m1++m2,by rw[e2,Array.append_assoc]⟩
 ·obtain⟨m,hn,hl⟩:=I.loc
  refine⟨m,ns m hn,fun i x v e1 e2 e3=>?_⟩
  obtain⟨u,r,l⟩:=hl i x v e1 e2 e3
  refine⟨u,r,?_⟩
  rcases l with l | ⟨k,c,e,z⟩
  ·exact .inl l
  ·exact .inr ⟨k,c,e,cellK x c e _ z⟩
 ·obtain⟨v,z⟩:=I.cell x c e
  exact⟨v,cellK x c e v z⟩
 ·obtain⟨m,⟨o,_,_,ho,_⟩,_⟩:=I.loc
  exact free _ o (fun z=>(hch _ z).2.1 rfl) ho I.free
 ·obtain⟨v,o,ho,hd⟩:=I.cell x c e
  exact free c o (fun z=>(hch c z).2.2.1 x c e rfl) ho (I.freeC x c e)
 ·obtain⟨e,n,ne,nf,d⟩:=I.pin p hp
  have nch:p.1∉ch:=fun z=>(hch p.1 z).2.2.2 p hp rfl
  exact⟨keep p.1 p.2 ne nf nch e n,free p.1 p.2 nch e n,ne,nf,d⟩
theorem Inv.un{t':Nat}(I:Inv X pins σ H s)(u:Un X.fs [] H H' s.heap h')(hok:HOk X.prog X.w H' h'):Inv X pins σ H' { s with heap:=h',toks:=t' }:=by
 obtain⟨m,⟨o,es,ep,ho,r⟩,_⟩:=id I.loc
 obtain⟨sl,hL⟩:=u.any ho I.free (by simp)
 exact I.step (g':=s.gens) (d':=s.drawn) (ch:=[]) (fun _ z=>nomatch z) (fun b o _ hb _ e n=>u.keep b o e n hb (by simp)) (fun b o _ hb _ e n=>u.slot b o e n hb (by simp)) (fun b o _ e n=>u.free b o e n (by simp)) (fun b o _ e=>u.there b o e (by simp)) u.tups u.frzs u.tbls (fun m' hm=>by
  obtain⟨o',es',ep',ho',r'⟩:=hm
  rw[ho] at ho'; cases ho'
  exact⟨_,es',ep',hL,r'⟩) hok I.bare
theorem Inv.call{g':Array GenState}{t':Nat}{d':Drawn}{ch:List Addr}(I:Inv X pins σ H s)(u:Un (frs X.stack) ch H H' s.heap h')(hok:HOk X.prog X.w H' h')(hg:AllBare g')
  (hch:∀ b∈ch,(b∈X.ex∨X.s₀.heap.objs.size≤b)∧b≠X.env.locals∧(∀ x c,X.env.cells.lookup x=some c→c≠b)∧∀ p∈X.pn++pins,p.1≠b):
  Inv X pins σ H' { s with heap:=h',gens:=g',drawn:=d',toks:=t' }:=by
 obtain⟨m,⟨o,es,ep,ho,r⟩,_⟩:=id I.loc
 obtain⟨sl,hL⟩:=u.any ho I.free fun z=>(hch _ z).2.1 rfl
 exact I.step (ch:=ch) hch (fun b o hL hb hc e n=>u.keep b o e n (fun z=>(List.mem_cons.mp (I.stkSub b z)).elim hL hb) hc) (fun b o _ _ hc e n=>u.any e n hc) (fun b o hc e n=>u.free b o e n hc) (fun b o hc e=>u.there b o e hc) u.tups u.frzs u.tbls (fun m' hm=>by
  obtain⟨o',es',ep',ho',r'⟩:=hm
  rw[ho] at ho'; cases ho'
  exact⟨_,es',ep',hL,r'⟩) hok hg
theorem Inv.turned{t':Nat}{it:Addr}(I:Inv X pins σ H s)(k:∀ b o,b≠it→s.heap.get? b=some o→h'.get? b=some o)(hn:H it=none)(hL:it≠X.env.locals)
  (h1:it∈X.ex∨X.s₀.heap.objs.size≤it) (h2:∀ x c,X.env.cells.lookup x=some c→c≠it) (h3:∀ p∈X.pn++pins,p.1≠it):Inv X pins σ H { s with heap:=h',toks:=t' }:=by
 have nit:∀ b u,H b=some u→b≠it:=fun b u e z=>by rw[z,hn] at e; cases e
 refine I.step (g':=s.gens) (d':=s.drawn) (ch:=[it]) (fun b hb=>?_) (fun b o _ _ hc e _=>k b o (fun z=>hc (by simp[z])) e) (fun b o _ _ hc e _=>⟨o.slots,k b o (fun z=>hc (by simp[z])) e⟩) (fun _ _ _ _ n=>n)
  (fun b o hc e=>⟨o,k b o (fun z=>hc (by simp[z])) e⟩) (fun _ _ e=>e) (fun _ _ _ e=>e) (fun b ps e=>⟨#[],by rw[e]; simp⟩) (fun m hm=>?_) (fun b u e=>?_) I.bare
 ·have e:b=it:=by simpa using hb
  subst e
  exact⟨h1,hL,h2,h3⟩
 ·obtain⟨o,es,ep,ho,r⟩:=hm
  exact⟨o,es,ep,k _ o (Ne.symm hL) ho,r⟩
 ·refine(I.hok b u e).stay (fun c v hc q=>k c v ?_ q) (fun _ q=>q) fun _ _ q=>q
  rcases hc with z | z
  ·rw[z]; exact nit b u e
  ·exact nit c _ z
theorem Inv.tok(I:Inv X pins σ H s)(t:Nat):Inv X pins σ H { s with toks:=t }:=I.un (h':=s.heap) (t':=t) Un.refl I.hok
theorem Inv.kept{t':Nat}(I:Inv X pins σ H s)(k:∀ b u,s.heap.get? b=some u→h'.get? b=some u):Inv X pins σ H { s with heap:=h',toks:=t' }:=I.un (Un.kept k) (I.hok.kept k)
theorem Inv.laid{a:Addr}{o:HO}{t':Nat}(I:Inv X pins σ H s)(k:∀ b u,s.heap.get? b=some u→h'.get? b=some u)(hp:s.heap.objs.size≤a)(new:ObjOk X.prog X.w (upd H a o) h' a o):
  Inv X pins σ (upd H a o) { s with heap:=h',toks:=t' }:=I.un (Un.laid k hp (I.hok.fresh hp)) (I.hok.laid k hp new)
theorem Inv.write{x e:Addr}{o:HO}{t':Nat}(I:Inv X pins σ H s)(mu:Mut (H x))(he:e=x∨H e=some (.own x))(k:∀ b u,b≠e→s.heap.get? b=some u→h'.get? b=some u)(heo:∃ u,h'.get? e=some u)
  (new:ObjOk X.prog X.w (upd H x o) h' x o):Inv X pins σ (upd H x o) { s with heap:=h',toks:=t' }:=I.un (Un.write mu he k heo) (I.hok.write mu he k heo new)
theorem Inv.pins_of{pins':List (Addr×Obj)}(I:Inv X pins σ H s)(h:∀ p∈pins',s.heap.get? p.1=some p.2∧H p.1=none∧p.1≠X.env.locals∧p.1∉X.fs∧∀ v,p.2.data≠.cell v):Inv X pins' σ H s:=
 ⟨I.ok,I.os,I.bare,I.base,I.loc,I.cell,I.free,I.freeC,fun p hp=>(List.mem_append.mp hp).elim (fun z=>I.pin p (List.mem_append_left _ z)) (h p),I.hok,I.len⟩
theorem nodup_ix{N:List Str}(hN:N.Nodup){i j:Nat}{x:Str}(a:N[i]?=some x)(b:N[j]?=some x):i=j:=by
 obtain⟨h1,e1⟩:=List.getElem?_eq_some_iff.mp a
 obtain⟨h2,e2⟩:=List.getElem?_eq_some_iff.mp b
 exact(List.getElem_inj hN).mp (e1.trans e2.symm)
theorem store_ok2{M:Model}{A:Around}{E:Value→Shared→Prop}{i:Nat}{x:Str}{v:V}{u:Value}{Q:Unit→Shared→Prop}(I:Inv X pins σ H s)(hN:X.N.Nodup)(hi:X.N[i]?=some x)(hx:Loc X.env.scope x)(r:RelV v u)
  (h:∀ s',Inv X pins (σ.set i (some v)) H s'→(∃ a,Heap.SameBut a s.heap s'.heap∧(a=X.env.locals∨X.env.cells.lookup x=some a))→Q () s') (hf:X.fn x=true∨X.env.scope.names.lookup x=some .local:=by first | exact .inl rfl | exact .inr rfl | assumption):wpAny M A (storeName X.env x u) Q E s:=by
 obtain⟨m,hn,hl⟩:=id I.loc
 have hcls:(X.env.scope.kind==.class||(X.env.scope.kind==.module&&X.env.locals != X.env.globals))=false:=by rw[I.ok.kind]; rfl
 have hiσ:i<σ.length:=by rw[I.len]; exact(List.getElem?_eq_some_iff.mp hi).1
 have cne:=I.cne
 have tracked:∀ {a:Addr} {h':Heap},(∃ o,s.heap.get? a=some o∧H a=none)→Heap.SameBut a s.heap h'→HOk X.prog X.w H h':=fun{a h'} ha hs b ob e=>by
  obtain⟨_,_,hfree⟩:=ha
  refine(I.hok b ob e).stay (fun c w' hc q=>(hs.2 c ?_).trans q) (fun _ q=>q) fun _ _ q=>q
  rintro rfl
  rcases hc with rfl | hc
  ·rw[hfree] at e; cases e
  ·rw[hfree] at hc; cases hc
 rcases hx with hk | hk
 ·refine wpAny_storeName_local hk hn (fun h' hn' hs=>?_) hcls
  obtain⟨oL,_,_,hoL,_⟩:=id hn
  refine h _ ⟨I.ok,I.os,I.bare,⟨fun b o e n hb hx=>?_,fun b o e n hb hx=>?_,I.base.free,fun b o e hx=>?_,I.base.tups,I.base.frzs,I.base.tbls⟩,⟨_,hn',fun j y v' e1 e2 e3=>?_⟩,fun y c e=>?_,I.free,I.freeC,fun p hp=>?_,tracked ⟨oL,hoL,I.free⟩ hs,by simpa using I.len⟩ ⟨_,hs,.inl rfl⟩
  ·exact(hs.2 b (Nat.ne_of_lt (Nat.lt_of_lt_of_le (Heap.lt_size e) I.ok.above))).trans (I.base.keep b o e n hb hx)
  ·obtain⟨sl,e1⟩:=I.base.slot b o e n hb hx
   exact⟨sl,(hs.2 b (Nat.ne_of_lt (Nat.lt_of_lt_of_le (Heap.lt_size e) I.ok.above))).trans e1⟩
  ·obtain⟨o',e1⟩:=I.base.there b o e hx
   exact⟨o',(hs.2 b (Nat.ne_of_lt (Nat.lt_of_lt_of_le (Heap.lt_size e) I.ok.above))).trans e1⟩
  ·by_cases hj:j=i
   ·subst hj
    rw[hi] at e1; cases e1
    rw[List.getElem?_set_self hiσ] at e2
    cases e2
    exact⟨u,r,.inl ⟨hk,by simp⟩⟩
   ·rw[List.getElem?_set_ne (Ne.symm hj)] at e2
    obtain⟨u',r',q⟩:=hl j y v' e1 e2 e3
    refine⟨u',r',?_⟩
    rcases q with⟨k,e⟩ | ⟨k,c,e,z⟩
    ·refine .inl ⟨k,?_⟩
     have:y≠x:=fun e=>hj (nodup_ix hN e1 (e▸hi))
     simp[this,e]
    ·exact .inr ⟨k,c,e,z.sameBut hs (cne y c e)⟩
  ·obtain⟨w',z⟩:=I.cell y c e
   exact⟨w',z.sameBut hs (cne y c e)⟩
  ·obtain⟨e,n,ne,nf,d⟩:=I.pin p hp
   exact⟨(hs.2 p.1 ne).trans e,n,ne,nf,d⟩
 ·have hfn:X.fn x=true:=by
   rcases hf with z | z
   ·exact z
   ·rw[z] at hk; cases hk
  obtain⟨c,hc⟩:=I.ok.has x (.inl hk)
  obtain⟨w',z⟩:=I.cell x c hc
  refine wpAny_storeName_cell I.ok.kind hk hc z (fun h' hc' hs=>?_)
  obtain⟨oc,hoc,hocd⟩:=id z
  refine h { s with heap:=h' } ⟨I.ok,I.os,I.bare,⟨fun b o e n hb hx=>?_,fun b o e n hb hx=>?_,I.base.free,fun b o e hx=>?_,I.base.tups,I.base.frzs,I.base.tbls⟩,⟨m,hn.sameBut hs (Ne.symm (cne x c hc)),fun j y v' e1 e2 e3=>?_⟩,fun y c' e=>?_,I.free,I.freeC,fun p hp=>?_,tracked ⟨oc,hoc,I.freeC x c hc⟩ hs,by simpa using I.len⟩ ⟨c,hs,.inr hc⟩
  ·exact(hs.2 b (Nat.ne_of_lt (Nat.lt_of_lt_of_le (Heap.lt_size e) (I.ok.cab x c hfn hc)))).trans (I.base.keep b o e n hb hx)
  ·obtain⟨sl,e1⟩:=I.base.slot b o e n hb hx
   exact⟨sl,(hs.2 b (Nat.ne_of_lt (Nat.lt_of_lt_of_le (Heap.lt_size e) (I.ok.cab x c hfn hc)))).trans e1⟩
  ·obtain⟨o',e1⟩:=I.base.there b o e hx
   exact⟨o',(hs.2 b (Nat.ne_of_lt (Nat.lt_of_lt_of_le (Heap.lt_size e) (I.ok.cab x c hfn hc)))).trans e1⟩
  ·by_cases hj:j=i
   ·subst hj
    rw[hi] at e1; cases e1
    rw[List.getElem?_set_self hiσ] at e2
    cases e2
    exact⟨u,r,.inr ⟨.inl hk,c,hc,hc'⟩⟩
   ·rw[List.getElem?_set_ne (Ne.symm hj)] at e2
    obtain⟨u',r',q⟩:=hl j y v' e1 e2 e3
    refine⟨u',r',?_⟩
    rcases q with q | ⟨k,c',e,z'⟩
    ·exact .inl q
    ·refine .inr ⟨k,c',e,z'.sameBut hs ?_⟩
     rintro rfl
     exact hj (nodup_ix hN e1 (I.ok.inj _ _ _ e hc▸hi))
  ·by_cases hcc:c'=c
   ·subst hcc; exact⟨_,hc'⟩
   ·obtain⟨w2,z2⟩:=I.cell y c' e
    exact⟨w2,z2.sameBut hs hcc⟩
  ·obtain⟨e,n,ne,nf,d⟩:=I.pin p hp
   refine⟨(hs.2 p.1 ?_).trans e,n,ne,nf,d⟩
   intro q
   rw[q,hoc] at e
   have q':oc=p.2:=Option.some.inj e
   exact d w' (by rw[←q']; exact hocd)
theorem store_ok{M:Model}{A:Around}{E:Value→Shared→Prop}{i:Nat}{x:Str}{v:V}{u:Value}{Q:Unit→Shared→Prop}(I:Inv X pins σ H s)(hN:X.N.Nodup)(hi:X.N[i]?=some x)(hx:Loc X.env.scope x)(r:RelV v u)
  (h:∀ s',Inv X pins (σ.set i (some v)) H s'→Q () s') (hf:X.fn x=true∨X.env.scope.names.lookup x=some .local:=by first | exact .inl rfl | exact .inr rfl | assumption):wpAny M A (storeName X.env x u) Q E s:=
 store_ok2 I hN hi hx r (fun s' I' _=>h s' I') hf
theorem Inv.call'{s':Shared}{ch:List Addr}(I:Inv X pins σ H s)(ho:s'.os=s.os)(u:Un (frs X.stack) ch H H' s.heap s'.heap)(hok:HOk X.prog X.w H' s'.heap)(hg:AllBare s'.gens)
  (hch:∀ b∈ch,(b∈X.ex∨X.s₀.heap.objs.size≤b)∧b≠X.env.locals∧(∀ x c,X.env.cells.lookup x=some c→c≠b)∧∀ p∈X.pn++pins,p.1≠b):Inv X pins σ H' s':=by
 obtain⟨h',g',d',t',o'⟩:=s'
 have e:o'=s.os:=ho
 subst e
 exact I.call (g':=g') (t':=t') (d':=d') u hok hg hch
end
abbrev XK:=Value→Option Addr→Hp→Prop
abbrev St:=List (Option V)
abbrev VK:=V→Hp→Prop
abbrev TE:=St→Hp→VK→Prop
abbrev TT:=St→Hp→(Bool→Hp→Prop)→Prop
abbrev TA:=St→Hp→(List V→Hp→Prop)→Prop
structure Ends where
 nx:St→Hp→Prop
 rt:VK
 bk:St→Hp→Prop:=fun _ _=>False
 ct:St→Hp→Prop:=fun _ _=>False
abbrev TS:=Ends→St→Hp→Prop
def EP(X:Cx)(pins:List (Addr×Obj))(σ:St)(Q:VK)(u:Value)(s':Shared):Prop:=∃ v H',Inv X pins σ H' s'∧RelV v u∧Q v H'
def TP(X:Cx)(pins:List (Addr×Obj))(σ:St)(Q:Bool→Hp→Prop)(b:Bool)(s':Shared):Prop:=∃ H',Inv X pins σ H' s'∧Q b H'
def AP(X:Cx)(pins:List (Addr×Obj))(σ:St)(Q:List V→Hp→Prop)(us:List Value)(s':Shared):Prop:=∃ vs H',Inv X pins σ H' s'∧Vals vs us∧Q vs H'
def SP(X:Cx)(pins:List (Addr×Obj))(D:Ends)(f:Flow)(s':Shared):Prop:=
 match f with
 | .next=>∃ σ' H',Inv X pins σ' H' s'∧D.nx σ' H'
 | .brk=>∃ σ' H',Inv X pins σ' H' s'∧D.bk σ' H'
 | .cont=>∃ σ' H',Inv X pins σ' H' s'∧D.ct σ' H'
 | .ret u=>∃ v σ' H',Inv X pins σ' H' s'∧RelV v u∧D.rt v H'
def PE(X:Cx)(e:Expr)(t:TE):Prop:=
 ∀ (pins:List (Addr×Obj)) (s:Shared) (σ:St) (H:Hp) (Q:VK),Inv X pins σ H s→t σ H Q→wpAny (model X.prog X.w) X.A (eval e X.env) (EP X pins σ Q) X.xe s
def PT(X:Cx)(e:Expr)(t:TT):Prop:=
 ∀ (pins:List (Addr×Obj)) (s:Shared) (σ:St) (H:Hp) (Q:Bool→Hp→Prop),Inv X pins σ H s→t σ H Q→wpAny (model X.prog X.w) X.A (isTrue e X.env (eval e X.env)) (TP X pins σ Q) X.xe s
def PW(X:Cx)(e:Expr)(t:TT):Prop:=
 ∀ (whole:Sem Value) (pins:List (Addr×Obj)) (s:Shared) (σ:St) (H:Hp) (Q:Bool→Hp→Prop),Inv X pins σ H s→t σ H Q→wpAny (model X.prog X.w) X.A (isTrue e X.env whole) (TP X pins σ Q) X.xe s
theorem PW.pt{X:Cx}{e:Expr}{t:TT}(h:PW X e t):PT X e t:=h _
def PA(X:Cx)(es:List Expr)(t:TA):Prop:=
 ∀ (pos:Pos) (pins:List (Addr×Obj)) (s:Shared) (σ:St) (H:Hp) (Q:List V→Hp→Prop),Inv X pins σ H s→t σ H Q→wpAny (model X.prog X.w) X.A (spliced (backTo pos (starEach es X.env))) (AP X pins σ Q) X.xe s
def PS(X:Cx)(st:Stmt)(t:TS):Prop:=
 ∀ (pins:List (Addr×Obj)) (s:Shared) (σ:St) (H:Hp) (D:Ends),Inv X pins σ H s→t D σ H→wpAny (model X.prog X.w) X.A (exec st X.env) (SP X pins D) X.xe s
def PSs(X:Cx)(st:List Stmt)(t:TS):Prop:=
 ∀ (pins:List (Addr×Obj)) (s:Shared) (σ:St) (H:Hp) (D:Ends),Inv X pins σ H s→t D σ H→wpAny (model X.prog X.w) X.A (execs st X.env) (SP X pins D) X.xe s
theorem thn{α:Type}{t:Sem α}{Q Q':α→Shared→Prop}{M:Model}{A:Around}{E:Value→Shared→Prop}{s:Shared}(h:wpAny M A t Q E s)(hQ:∀ a s,Q a s→Q' a s):wpAny M A t Q' E s:=wpAny_mono h hQ fun _ _ x=>x
end L2
namespace L2
open PySem PySem.Spec PyProof.Rows
section
variable{X:Cx}
def tVar(i:Nat):TE:=fun σ H Q=>∃ v,σ[i]?=some (some v)∧Q v H
def tC(v:V):TE:=fun _ H Q=>Q v H
theorem pe_var{i:Nat}{x:Str}{pos:Pos}(hN:X.N[i]?=some x)(hv:Vis X.env.scope x)(hd:(x==("__debug__":Str))=false:=by decide)(hcd:(x==("__classdict__":Str))=false:=by decide):PE X (.Name x pos) (tVar i):=by
 intro pins s σ H Q I h
 obtain⟨v,e,h⟩:=h
 obtain⟨m,hn,hl⟩:=I.loc
 obtain⟨u,r,l⟩:=hl i x v hN e hv
 have fin:EP X pins σ Q u s:=⟨v,H,I,r,h⟩
 rcases l with⟨hk,hm⟩ | ⟨hk,c,hc,hcell⟩
 ·exact wpAny_Name (wpAny_loadName_local I.ok.kind hk hn hm fin) hd
 ·rcases hk with hk | hk
  ·exact wpAny_Name (wpAny_loadName_cell I.ok.kind hk hc hcell fin) hd
  ·exact wpAny_Name (wpAny_loadName_free I.ok.kind hk hc hcell fin hcd) hd
theorem pe_int{i j pos}:PE X (.Constant (.int i) j pos) (tC (.int i)):=fun _ _ _ H _ I h=>wpAny_Constant_int ⟨.int i,H,I.tok _,⟨_,rfl⟩,h⟩
theorem pe_bl{b j pos}:PE X (.Constant (.bool b) j pos) (tC (.bl b)):=fun _ _ _ H _ I h=>Constant_bool ⟨.bl b,H,I,rfl,h⟩
theorem pe_non{j pos}:PE X (.Constant .none j pos) (tC .non):=fun _ _ _ H _ I h=>Constant_none ⟨.non,H,I,rfl,h⟩
theorem pe_str{x j pos}:PE X (.Constant (.str x) j pos) (tC (.str x)):=fun _ _ _ H _ I h=>Calls.Constant_str ⟨.str x,H,I.tok _,⟨_,rfl⟩,h⟩
def Gl(X:Cx)(x:Str):Prop:=X.env.kindOf x=some .globalImplicit
theorem ld_glob{E:Value→Shared→Prop}{pins:List (Addr×Obj)}{s:Shared}{σ:St}{H:Hp}{x:Str}{u:Value}{pos:Pos}{Q:Value→Shared→Prop}(I:Inv X pins σ H s)(hg:Gl X x)(hm:X.mg x=some u)(h:Q u s)
  (hd:(x==("__debug__":Str))=false:=by decide):wpAny (model X.prog X.w) X.A (eval (.Name x pos) X.env) Q E s:=
 Calls.Name_function_global I.ok.kind hg (Calls.loadGlobal_global (by rw[I.ok.glob]; exact I.mod.glob.keeps I.bk) hm h) hd
theorem ld_blt{E:Value→Shared→Prop}{pins:List (Addr×Obj)}{s:Shared}{σ:St}{H:Hp}{x:Str}{u:Value}{pos:Pos}{Q:Value→Shared→Prop}(I:Inv X pins σ H s)(hg:Gl X x)(hm:X.mg x=none)(hv:bootBuiltins x=some u)(h:Q u s)
  (hn:x≠"__name__":=by decide) (hd:(x==("__debug__":Str))=false:=by decide):wpAny (model X.prog X.w) X.A (eval (.Name x pos) X.env) Q E s:=by
 obtain⟨mb,h1,h2⟩:=I.mod.blt
 exact Calls.Name_function_global I.ok.kind hg (Calls.loadGlobal_builtin (by rw[I.ok.glob]; exact I.mod.glob.keeps I.bk) hm (by rw[I.ok.blt]; exact h1.keeps I.bk) ((h2 x hn).trans hv) h) hd
theorem pe_glob{x:Str}{v:V}{u:Value}{pos:Pos}(hg:Gl X x)(hm:X.mg x=some u)(r:RelV v u)(hd:(x==("__debug__":Str))=false:=by decide):PE X (.Name x pos) (tC v):=
 fun _ _ _ H _ I h=>ld_glob I hg hm ⟨v,H,I,r,h⟩ hd
theorem pe_bltn{x:Str}{v:V}{u:Value}{pos:Pos}(hg:Gl X x)(hm:X.mg x=none)(hv:bootBuiltins x=some u)(r:RelV v u)(hn:x≠"__name__":=by decide)(hd:(x==("__debug__":Str))=false:=by decide):PE X (.Name x pos) (tC v):=
 fun _ _ _ H _ I h=>ld_blt I hg hm hv ⟨v,H,I,r,h⟩ hn hd
variable{a b:Expr}{ta tb:TE}{pos:Pos}
variable{tA tB':TT}{rest:List Expr}
def tAnd(t u:TT):TT:=fun σ H Q=>t σ H fun c H1=>if c=true then u σ H1 Q else Q false H1
def tOr(t u:TT):TT:=fun σ H Q=>t σ H fun c H1=>if c=true then Q true H1 else u σ H1 Q
def tNot(t:TT):TT:=fun σ H Q=>t σ H fun c H1=>Q (!c) H1
theorem pw_and1(ha:PT X a tA):PW X (.BoolOp .And [a] pos) tA:=by
 intro wh pins s σ H Q I h
 refine isTrue_and (thn (ha pins s σ H Q I h) fun c s1 e=>?_)
 cases c with
 | true=>exact isTrue_and_nil e
 | false=>exact e
theorem pw_or1(ha:PT X a tA):PW X (.BoolOp .Or [a] pos) tA:=by
 intro wh pins s σ H Q I h
 refine isTrue_or (thn (ha pins s σ H Q I h) fun c s1 e=>?_)
 cases c with
 | false=>exact isTrue_or_nil e
 | true=>exact e
theorem pw_and(ha:PT X a tA)(hb:PW X (.BoolOp .And (b::rest) pos) tB'):PW X (.BoolOp .And (a::b::rest) pos) (tAnd tA tB'):=by
 intro wh pins s σ H Q I h
 refine isTrue_and (thn (ha pins s σ H _ I h) fun c s1 ⟨H1,I1,q1⟩=>?_)
 cases c with
 | true=>exact hb wh pins s1 σ H1 Q I1 q1
 | false=>exact⟨H1,I1,q1⟩
theorem pw_or(ha:PT X a tA)(hb:PW X (.BoolOp .Or (b::rest) pos) tB'):PW X (.BoolOp .Or (a::b::rest) pos) (tOr tA tB'):=by
 intro wh pins s σ H Q I h
 refine isTrue_or (thn (ha pins s σ H _ I h) fun c s1 ⟨H1,I1,q1⟩=>?_)
 cases c with
 | true=>exact⟨H1,I1,q1⟩
 | false=>exact hb wh pins s1 σ H1 Q I1 q1
theorem pt_not(ha:PT X a tA):PT X (.UnaryOp .Not a pos) (tNot tA):=by
 intro pins s σ H Q I h
 exact isTrue_not (ha pins s σ H (fun c H1=>Q (!c) H1) I h)
def tAndV(ta tb:TE):TE:=fun σ H Q=>ta σ H fun x H1=>∃ c,x=.bl c∧if c=true then tb σ H1 Q else Q (.bl false) H1
theorem pe_one{op}{t:TE}(h:PE X a t):PE X (.BoolOp op [a] pos) t:=fun pins s σ H Q I hw=>BoolOp_one (h pins s σ H Q I hw)
theorem pe_and(ha:PE X a ta)(hb:PE X (.BoolOp .And (b::rest) pos) tb):PE X (.BoolOp .And (a::b::rest) pos) (tAndV ta tb):=by
 intro pins s σ H Q I h
 refine BoolOp_and (thn (ha pins s σ H _ I h) fun v s1 ⟨x,H1,I1,r1,q1⟩=>?_)
 obtain⟨c,rfl,q1⟩:=q1
 cases r1
 refine wpAny_truthy_bool ?_
 cases c with
 | true=>exact hb pins s1 σ H1 Q I1 q1
 | false=>exact⟨.bl false,H1,I1,rfl,q1⟩
def tIf(t:TT)(ta tb:TE):TE:=fun σ H Q=>t σ H fun c H1=>if c=true then ta σ H1 Q else tb σ H1 Q
theorem pe_ifExp{c:Expr}(hc:PT X c tA)(ha:PE X a ta)(hb:PE X b tb):PE X (.IfExp c a b pos) (tIf tA ta tb):=by
 intro pins s σ H Q I h
 refine wpAny_IfExp (thn (hc pins s σ H _ I h) fun d s1 ⟨H1,I1,q1⟩=>?_)
 cases d with
 | true=>exact ha pins s1 σ H1 Q I1 q1
 | false=>exact hb pins s1 σ H1 Q I1 q1
end
end L2
namespace L2
open PySem PySem.Spec PyProof.Rows
def SqL(K:PySem.W.Frag)(H:Hp)(a:Addr)(xs:List V):Prop:=
 Rd H a (.lst xs)∨
  ∃ (o:Obj) (its:Array Value) (n:Nat),K.lookup a=some o∧o.cls=.type "list"∧o.dict=none∧o.data=.seq its n∧its.size≤sizeLine∧Vals xs its.toList
def SqT(K:PySem.W.Frag)(H:Hp)(a:Addr)(xs:List V):Prop:=
 Rd H a (.tup xs)∨
  ∃ (o:Obj) (its:Array Value) (n:Nat),K.lookup a=some o∧o.cls=.type "tuple"∧o.data=.seq its n∧its.size≤sizeLine∧Vals xs its.toList
def absV:Value→Option V
 | .none=>some .non
 | .bool b=>some (.bl b)
 | .int i _=>some (.int i)
 | .str x _=>some (.str x)
 | .bytes b _=>some (.byt b)
 | .float b _=>some (.flt b)
 | .ref a=>some (.ref a)
 | .type n=>some (.ty n)
 | _=>none
theorem RelV.abs{x:V}{u:Value}(r:RelV x u):absV u=some x:=by
 cases x with
 | non=>cases r; rfl
 | bl _=>cases r; rfl
 | int _=>obtain⟨t,rfl⟩:=r; rfl
 | str _=>obtain⟨t,rfl⟩:=r; rfl
 | byt _=>obtain⟨t,rfl⟩:=r; rfl
 | flt _=>obtain⟨t,rfl⟩:=r; rfl
 | ref _=>cases r; rfl
 | ty _=>cases r; rfl
theorem RelV.inj{x y:V}{u:Value}(r:RelV x u)(q:RelV y u):x=y:=Option.some.inj (r.abs.symm.trans q.abs)
theorem Vals.inj:∀ {xs ys:List V} {us:List Value},Vals xs us→Vals ys us→xs=ys
 | _,_,_,.nil,.nil=>rfl
 | _,_,_,.cons r t,.cons r' t'=>by rw[r.inj r',Vals.inj t t']
section
variable{X:Cx}{pins:List (Addr×Obj)}{σ:St}{H:Hp}{s:Shared}{a:Addr}{xs ys:List V}
theorem SqL.of{K:PySem.W.Frag}(h:H a=some (.lst xs)):SqL K H a xs:=.inl (.inl h)
theorem SqT.of{K:PySem.W.Frag}(h:H a=some (.tup xs)):SqT K H a xs:=.inl (.inl h)
theorem Inv.list(I:Inv X pins σ H s)(h:SqL X.K H a xs):∃ its:List Value,Vals xs its∧PlainL s.heap a its.toArray∧xs.length≤sizeLine:=by
 rcases h with h | ⟨o,its,n,hk,hc,hd,hs,hz,r⟩
 ·obtain⟨z,its,n,r,e⟩:=h.ok I.hok
  exact⟨its,r,⟨_,n,e,rfl,rfl,rfl⟩,z⟩
 ·refine⟨its.toList,r,⟨o,n,I.kIn a o hk,hc,hd,by simpa using hs⟩,?_⟩
  have e:=r.length
  simp only[Array.length_toList] at e
  omega
theorem Inv.tuple(I:Inv X pins σ H s)(h:SqT X.K H a xs):∃ its:List Value,Vals xs its∧IsTup s.heap a its.toArray∧xs.length≤sizeLine:=by
 rcases h with h | ⟨o,its,n,hk,hc,hs,hz,r⟩
 ·obtain⟨z,its,r,p⟩:=h.ok I.hok
  exact⟨its,r,p,z⟩
 ·refine⟨its.toList,r,⟨o,I.kIn a o hk,hc,n,by simpa using hs⟩,?_⟩
  have e:=r.length
  simp only[Array.length_toList] at e
  omega
theorem Inv.list_inj(I:Inv X pins σ H s)(h:SqL X.K H a xs)(h':SqL X.K H a ys):xs=ys:=by
 obtain⟨its,r,⟨o,n,e,_,_,d⟩,_⟩:=I.list h
 obtain⟨its',r',⟨o',n',e',_,_,d'⟩,_⟩:=I.list h'
 rw[e] at e'; cases e'
 rw[d] at d'
 injection d' with d1 _
 have:its=its':=by simpa using congrArg Array.toList d1
 subst this
 exact r.inj r'
theorem Inv.tuple_inj(I:Inv X pins σ H s)(h:SqT X.K H a xs)(h':SqT X.K H a ys):xs=ys:=by
 obtain⟨its,r,⟨o,e,_,n,d⟩,_⟩:=I.tuple h
 obtain⟨its',r',⟨o',e',_,n',d'⟩,_⟩:=I.tuple h'
 rw[e] at e'; cases e'
 rw[d] at d'
 injection d' with d1 _
 have:its=its':=by simpa using congrArg Array.toList d1
 subst this
 exact r.inj r'
end
abbrev Cx.wish(X:Cx)(E:Value→Shared→Prop):Cx:={ X with xe:=E }
abbrev Cx.nox(X:Cx):Cx:=X.wish fun _ _=>False
theorem Cx.Ok.wish{X:Cx}(ok:X.Ok)(E:Value→Shared→Prop):(X.wish E).Ok:=
 ⟨ok.mod,ok.kind,ok.glob,ok.blt,ok.above,ok.inj,ok.has,ok.cab,ok.hd,ok.frames,ok.stk,ok.exf,ok.bs,ok.bsz,ok.noex,ok.exfs,ok.funs,ok.frf⟩
theorem Cx.Ok.unwish{X:Cx}{E:Value→Shared→Prop}(ok:(X.wish E).Ok):X.Ok:=
 ⟨ok.mod,ok.kind,ok.glob,ok.blt,ok.above,ok.inj,ok.has,ok.cab,ok.hd,ok.frames,ok.stk,ok.exf,ok.bs,ok.bsz,ok.noex,ok.exfs,ok.funs,ok.frf⟩
section
variable{X:Cx}{pins:List (Addr×Obj)}{σ:St}{H:Hp}{s:Shared}{E:Value→Shared→Prop}
theorem Inv.wish(I:Inv X pins σ H s)(E:Value→Shared→Prop):Inv (X.wish E) pins σ H s:=⟨I.ok.wish E,I.os,I.bare,I.base,I.loc,I.cell,I.free,I.freeC,I.pin,I.hok,I.len⟩
theorem Inv.unwish(I:Inv (X.wish E) pins σ H s):Inv X pins σ H s:=⟨I.ok.unwish,I.os,I.bare,I.base,I.loc,I.cell,I.free,I.freeC,I.pin,I.hok,I.len⟩
theorem SP.unwish{D:Ends}{f:Flow}{s':Shared}(h:SP (X.wish E) pins D f s'):SP X pins D f s':=by
 cases f with
 | next=>obtain⟨σ',H',I,q⟩:=h; exact⟨σ',H',I.unwish,q⟩
 | brk=>obtain⟨σ',H',I,q⟩:=h; exact⟨σ',H',I.unwish,q⟩
 | cont=>obtain⟨σ',H',I,q⟩:=h; exact⟨σ',H',I.unwish,q⟩
 | ret u=>obtain⟨v,σ',H',I,r,q⟩:=h; exact⟨v,σ',H',I.unwish,r,q⟩
theorem PSs.nox{st:List Stmt}{t:TS}(h:PSs X.nox st t):PSs X st t:=fun pins s σ H D I hw=>
 wpAny_mono (h pins s σ H D (I.wish _) hw) (fun _ _ q=>q.unwish) fun _ _ z=>False.elim z
end
section
variable{X:Cx}{st:Stmt}{rest:List Stmt}{t u:TS}{e:Expr}{te:TE}{pos:Pos}
def tNext:TS:=fun D σ H=>D.nx σ H
def tSeq(t u:TS):TS:=fun D σ H=>t { D with nx:=u D } σ H
theorem pss_nil:PSs X [] tNext:=fun _ _ σ H _ I h=>wpAny_execs_nil ⟨σ,H,I,h⟩
theorem pss_cons(h1:PS X st t)(h2:PSs X rest u):PSs X (st::rest) (tSeq t u):=by
 intro pins s σ H D I h
 refine wpAny_execs_cons (thn (h1 pins s σ H { D with nx:=u D } I h) fun f s1 q=>?_)
 cases f with
 | next=>
  obtain⟨σ',H',I',q⟩:=q
  exact h2 pins s1 σ' H' D I' q
 | ret v=>exact q
 | brk=>exact q
 | cont=>exact q
theorem pss_one(h1:PS X st t):PSs X [st] t:=by
 intro pins s σ H D I h
 refine wpAny_execs_cons (thn (h1 pins s σ H D I h) fun f s1 q=>?_)
 cases f with
 | next=>exact wpAny_execs_nil q
 | ret v=>exact q
 | brk=>exact q
 | cont=>exact q
theorem Inv.quiet{pins:List (Addr×Obj)}{σ:St}{H:Hp}{s:Shared}(I:Inv X pins σ H s):interactive X.env=false:=by simp[interactive,I.ok.kind]
def tDrop(te:TE):TS:=fun D σ H=>te σ H fun _ H1=>D.nx σ H1
theorem ps_expr(he:PE X e te)(hs:swapsWith e none pos.line X.env=pure false:=by rfl):PS X (.Expr e pos) (tDrop te):=by
 intro pins s σ H D I h
 exact wpAny_Expr_any (thn (he pins s σ H _ I h) fun v s1 ⟨x,H1,I1,r1,q1⟩=>⟨σ,H1,I1,q1⟩) I.quiet hs
def tRet(te:TE):TS:=fun D σ H=>te σ H D.rt
theorem ps_ret(he:PE X e te):PS X (.Return (some e) pos) (tRet te):=by
 intro pins s σ H D I h
 exact wpAny_Return_some (thn (he pins s σ H _ I h) fun v s1 ⟨x,H1,I1,r1,q1⟩=>⟨x,σ,H1,I1,r1,q1⟩)
def tIfS(c:TT)(t u:TS):TS:=fun D σ H=>c σ H fun b H1=>if b=true then t D σ H1 else u D σ H1
theorem ps_if{c:Expr}{a b:List Stmt}{tc:TT}(hc:PT X c tc)(ha:PSs X a t)(hb:PSs X b u):PS X (.If c a b pos) (tIfS tc t u):=by
 intro pins s σ H D I h
 refine wpAny_If (thn (hc pins s σ H _ I h) fun d s1 ⟨H1,I1,q1⟩=>?_)
 cases d with
 | true=>exact ha pins s1 σ H1 D I1 q1
 | false=>exact hb pins s1 σ H1 D I1 q1
end
abbrev TG:=V→St→Hp→(St→Hp→Prop)→Prop
abbrev TGs:=List V→St→Hp→(St→Hp→Prop)→Prop
def PG(X:Cx)(target:Expr)(t:TG):Prop:=
 ∀ (pins:List (Addr×Obj)) (s:Shared) (σ:St) (H:Hp) (v:V) (u:Value) (Q:St→Hp→Prop),Inv X pins σ H s→RelV v u→t v σ H Q→
  wpAny (model X.prog X.w) X.A (assign target X.env u) (fun _ s'=>∃ σ' H',Inv X pins σ' H' s'∧Q σ' H') X.xe s
def PGs(X:Cx)(ts:List Expr)(t:TGs):Prop:=
 ∀ (pins:List (Addr×Obj)) (s:Shared) (σ:St) (H:Hp) (vs:List V) (us:List Value) (Q:St→Hp→Prop),Inv X pins σ H s→Vals vs us→t vs σ H Q→
  wpAny (model X.prog X.w) X.A (assignInOrder ((assignEach ts X.env).map (·.2)) us) (fun _ s'=>∃ σ' H',Inv X pins σ' H' s'∧Q σ' H') X.xe s
abbrev TSet:=V→V→V→Hp→(Hp→Prop)→Prop
def PSet(X:Cx)(t:TSet):Prop:=
 ∀ (pins:List (Addr×Obj)) (s:Shared) (σ:St) (H:Hp) (o i v:V) (ov iv u:Value) (Q:Hp→Prop),Inv X pins σ H s→RelV o ov→RelV i iv→RelV v u→t o i v H Q→
  wpAny (model X.prog X.w) X.A (setItem ov iv u) (fun _ s'=>∃ H',Inv X pins σ H' s'∧Q H') X.xe s
abbrev TIp:=V→V→Hp→VK→Prop
def PIp(X:Cx)(op:Operator)(t:TIp):Prop:=
 ∀ (pins:List (Addr×Obj)) (s:Shared) (σ:St) (H:Hp) (x y:V) (v u:Value) (Q:VK),Inv X pins σ H s→RelV x v→RelV y u→t x y H Q→
  wpAny (model X.prog X.w) X.A (inplaceOp op v u) (EP X pins σ Q) X.xe s
section
variable{X:Cx}{pos:Pos}
def gName(i:Nat):TG:=fun v σ H Q=>Q (σ.set i (some v)) H
theorem pg_name{i:Nat}{x:Str}(hN:X.N.Nodup)(hi:X.N[i]?=some x)(hx:Loc X.env.scope x)(hf:X.fn x=true∨X.env.scope.names.lookup x=some .local:=by first | exact .inl rfl | exact .inr rfl | assumption):PG X (.Name x pos) (gName i):=by
 intro pins s σ H v u Q I r h
 exact wpAny_assign_Name (store_ok I hN hi hx r (fun s' I'=>⟨_,H,I',h⟩) hf)
def gNil:TGs:=fun vs σ H Q=>vs=[]∧Q σ H
def gCons(t:TG)(u:TGs):TGs:=fun vs σ H Q=>∃ v r,vs=v::r∧t v σ H fun σ' H'=>u r σ' H' Q
theorem pgs_nil:PGs X [] gNil:=by
 intro pins s σ H vs us Q I r h
 obtain⟨e,h⟩:=h
 subst e
 cases r
 exact assignInOrder_nil ⟨σ,H,I,h⟩
theorem pgs_cons{e:Expr}{es:List Expr}{t:TG}{u:TGs}(h1:PG X e t)(h2:PGs X es u)
  (hs:(assignEach (e::es) X.env).map (·.2)=assign e X.env::(assignEach es X.env).map (·.2):=by rfl):PGs X (e::es) (gCons t u):=by
 intro pins s σ H vs us Q I r h
 obtain⟨v,vr,e1,h⟩:=h
 subst e1
 cases r with
 | cons r rr=>
  rw[hs]
  refine assignInOrder_cons (thn (h1 pins s σ H _ _ _ I r h) fun _ s1 ⟨σ1,H1,I1,q1⟩=>?_)
  exact h2 pins s1 σ1 H1 _ _ Q I1 rr q1
def gTup(K:PySem.W.Frag)(n:Nat)(t:TGs):TG:=fun v σ H Q=>∃ a xs,v=.ref a∧SqT K H a xs∧xs.length=n∧t xs σ H Q
theorem pg_tup{es:List Expr}{k:Nat}{t:TGs}{n:Nat}(hc:X.calm=true)(h:PGs X es t)
  (hn:(assignEach es X.env).length=n:=by rfl) (hst:(assignEach es X.env).findIdx? (·.1)=none:=by rfl):PG X (.Tuple es k pos) (gTup X.K n t):=by
 intro pins s σ H v u Q I r hw
 obtain⟨a,xs,e1,hq,hl,hw⟩:=hw
 subst e1
 cases r
 obtain⟨its,rv,ht,hz⟩:=I.tuple hq
 refine assign_Tuple_tuple (I.ok.hd hc) ht (by simp[hn,←hl,rv.length]) hst fun h' hx=>?_
 have I1:Inv X pins σ H { s with heap:=h' }:=I.kept (t':=s.toks) fun b o e=>hx b o (Nat.ne_of_lt (Heap.lt_size e)) e
 exact h pins _ σ H xs _ Q I1 (by simpa using rv) hw
def gSub(to ti:TE)(t:TSet):TG:=fun v σ H Q=>to σ H fun o H1=>ti σ H1 fun i H2=>t o i v H2 fun H3=>Q σ H3
theorem pg_sub{o i:Expr}{to ti:TE}{t:TSet}(ho:PE X o to)(hi:PE X i ti)(hs:PSet X t)
  (ha:∀ v,assign (.Subscript o i pos) X.env v=(do
   let ov ←holding [v] (eval o X.env)
   let iv ←holding [v,ov] (eval i X.env)
   standAt pos
   holding [v,ov,iv] (setItem ov iv v)
   release [v,ov,iv] []):=by intro _; rfl):PG X (.Subscript o i pos) (gSub to ti t):=by
 intro pins s σ H v u Q I r h
 rw[ha]
 refine wpAny_bind (wpAny_holding (thn (ho pins s σ H _ I h) fun ov s1 ⟨x,H1,I1,r1,q1⟩=>?_))
 refine wpAny_bind (wpAny_holding (thn (hi pins s1 σ H1 _ I1 q1) fun iv s2 ⟨y,H2,I2,r2,q2⟩=>?_))
 refine wpAny_bind (wpAny_standAt (wpAny_bind (wpAny_holding (thn (hs pins s2 σ H2 x y v ov iv u _ I2 r1 r2 r q2) fun _ s3 ⟨H3,I3,q3⟩=>?_))))
 exact wpAny_release ⟨σ,H3,I3,q3⟩
def tAsg(te:TE)(g:TG):TS:=fun D σ H=>te σ H fun x H1=>g x σ H1 D.nx
theorem ps_asg{tg e:Expr}{te:TE}{g:TG}(he:PE X e te)(hg:PG X tg g)(hs:swapsWithSole [tg] e pos.line X.env=pure false:=by rfl)(hw:swappedStores [tg] e X.env=pure none:=by rfl)
  (h1:(assignEach [tg] X.env).map (·.2)=[assign tg X.env]:=by rfl):PS X (.Assign [tg] e pos) (tAsg te g):=by
 intro pins s σ H D I h
 refine wpAny_Assign_stores (thn (he pins s σ H _ I h) fun v s1 ⟨x,H1,I1,r1,q1⟩=>?_) hs hw
 rw[h1]
 exact thn (hg pins s1 σ H1 x v _ I1 r1 q1) fun _ s2 q=>q
theorem ps_set{i:Nat}{x:Str}{e:Expr}{te:TE}{pos':Pos}(hN:X.N.Nodup)(hi:X.N[i]?=some x)(hx:Loc X.env.scope x)(he:PE X e te)(hs:swapsWith e (some (.Name x pos')) pos.line X.env=pure false:=by rfl)(hf:X.fn x=true∨X.env.scope.names.lookup x=some .local:=by first | exact .inl rfl | exact .inr rfl | assumption):
  PS X (.Assign [.Name x pos'] e pos) (tAsg te (gName i)):=by
 intro pins s σ H D I h
 refine wpAny_Assign_Name (thn (he pins s σ H _ I h) fun v s1 ⟨y,H1,I1,r1,q1⟩=>?_) hs
 exact store_ok I1 hN hi hx r1 (fun s2 I2=>⟨_,H1,I2,q1⟩) hf
def tPar(i j:Nat)(ta:TA):TS:=fun D σ H=>ta σ H fun vs H1=>∃ v w,vs=[v,w]∧D.nx ((σ.set i (some v)).set j (some w)) H1
theorem ps_par{i j:Nat}{x y:Str}{a b:Expr}{ta:TA}{px py pt:Pos}{kt k2 pt2}(hc:X.calm=true)(hN:X.N.Nodup)(hi:X.N[i]?=some x)(hj:X.N[j]?=some y)(hij:i≠j)
  (hx:X.env.scope.names.lookup x=some .local) (hy:X.env.scope.names.lookup y=some .local) (ha:PA X [a,b] ta)
  (hw:swappedStores [.Tuple [.Name x px,.Name y py] kt pt] (.Tuple [a,b] k2 pt2) X.env=pure (some [x,y]))
  (hs:swapsWithSole [.Tuple [.Name x px,.Name y py] kt pt] (.Tuple [a,b] k2 pt2) pos.line X.env=pure false:=by rfl):
  PS X (.Assign [.Tuple [.Name x px,.Name y py] kt pt] (.Tuple [a,b] k2 pt2) pos) (tPar i j ta):=by
 intro pins s σ H D I h
 rw[exec_Assign_arm]
 refine wpAny_bind (wpAny_standAt ?_)
 rw[hs]
 refine wpAny_bind (wpAny_pure ?_)
 rw[if_neg (by decide)]
 refine wpAny_bind (Tuple_ (thn (ha _ pins s σ H _ I h) fun us s1 ⟨vs,H1,I1,r1,q1⟩=>?_))
 obtain⟨v,w,e1,q1⟩:=q1
 subst e1
 obtain⟨u1,u2,rfl,rv,rw'⟩:∃ u1 u2,us=[u1,u2]∧RelV v u1∧RelV w u2:=by
  cases r1 with
  | cons p q=>
   cases q with
   | cons p' q'=>
    cases q'
    exact⟨_,_,rfl,p,p'⟩
 refine wpAny_newObj_type ?_ (by show 2≤sizeLine; decide)
 have I2:Inv X pins σ H1 { s1 with heap:=s1.heap.push { cls:=.type "tuple",data:=.seq [u1,u2].toArray } }:=I1.kept (t':=s1.toks) fun b o e=>Heap.get?_push_of_some _ e
 rw[hw]
 refine wpAny_bind (wpAny_pure ?_)
 show wpAny (model X.prog X.w) X.A (do rule "assign.swapped-stores"; let items ←unpackItems (.ref s1.heap.objs.size) 2 none; assignInOrder [fun v=>bindName X.env y v,fun v=>bindName X.env x v] items.reverse; pure Flow.next) _ _ _
 refine wpAny_bind (wpAny_rule (wpAny_bind (unpackItems_tuple (items:=#[u1,u2]) (I.ok.hd hc) (IsTup.new s1.heap _) fun h' hx'=>?_)))
 have I3:=I2.kept (h':=h') (t':=s1.toks) fun b o e=>hx' b o (Nat.ne_of_lt (Heap.lt_size e)) e
 show wpAny _ _ (assignInOrder [fun v=>bindName X.env y v,fun v=>bindName X.env x v] [u2,u1] >>= fun _=>pure Flow.next) _ _ _
 refine wpAny_bind (assignInOrder_cons (wpAny_bindName (store_ok I3 hN hj (.inl hy) rw' (fun s2 I4=>?_) (.inr hy))))
 refine assignInOrder_cons (wpAny_bindName (store_ok I4 hN hi (.inl hx) rv (fun s3 I5=>assignInOrder_nil (wpAny_pure ?_)) (.inr hx)))
 rw[List.set_comm _ _ (Ne.symm hij)] at I5
 exact⟨_,H1,I5,q1⟩
def tAug(i:Nat)(te:TE)(ti:TIp):TS:=fun D σ H=>∃ x,σ[i]?=some (some x)∧te σ H fun y H1=>ti x y H1 fun z H2=>D.nx (σ.set i (some z)) H2
theorem ps_aug{i:Nat}{x:Str}{e:Expr}{te:TE}{op:Operator}{ti:TIp}{pos':Pos}(hN:X.N.Nodup)(hi:X.N[i]?=some x)(hx:Loc X.env.scope x)(he:PE X e te)(ho:PIp X op ti)(hf:X.fn x=true∨X.env.scope.names.lookup x=some .local:=by first | exact .inl rfl | exact .inr rfl | assumption):
  PS X (.AugAssign (.Name x pos') op e pos) (tAug i te ti):=by
 intro pins s σ H D I h
 obtain⟨v,e1,h⟩:=h
 obtain⟨m,hn,hl⟩:=I.loc
 have vis:Vis X.env.scope x:=by rcases hx with k | k; exact .inl k; exact .inr (.inl k)
 obtain⟨u,r,l⟩:=hl i x v hi e1 vis
 refine wpAny_AugAssign_Name ?_
 have go:wpAny (model X.prog X.w) X.A (eval e X.env) (fun w s₂=>wpAny (model X.prog X.w) X.A (inplaceOp op u w) (fun r s₃=>wpAny (model X.prog X.w) X.A (storeName X.env x r) (fun _=>SP X pins D .next) X.xe s₃) X.xe s₂) X.xe s:=by
  refine thn (he pins s σ H _ I h) fun w s1 ⟨y,H1,I1,r1,q1⟩=>?_
  refine thn (ho pins s1 σ H1 v y u w _ I1 r r1 q1) fun z s2 ⟨zv,H2,I2,r2,q2⟩=>?_
  exact store_ok I2 hN hi hx r2 (fun s3 I3=>⟨_,H2,I3,q2⟩) hf
 rcases l with⟨hk,hm⟩ | ⟨hk,c,hc,hcell⟩
 ·exact wpAny_loadName_local I.ok.kind hk hn hm go
 ·rcases hk with hk | hk
  ·exact wpAny_loadName_cell I.ok.kind hk hc hcell go
  ·rcases hx with k | k
   ·have:X.env.scope.names.lookup x=some .free:=hk
    rw[k] at this; cases this
   ·have:X.env.scope.names.lookup x=some .free:=hk
    rw[k] at this; cases this
def ipI(f:Int→Int→Int):TIp:=fun x y H Q=>∃ i j,x=.int i∧y=.int j∧Q (.int (f i j)) H
theorem ip_add:PIp X .Add (ipI fun i j=>i+j):=by
 intro pins s σ H x y v u Q I r1 r2 h
 obtain⟨i,j,e1,e2,q⟩:=h
 subst e1; subst e2
 obtain⟨t,rfl⟩:=r1
 obtain⟨t',rfl⟩:=r2
 exact iadd_int ⟨.int _,H,I.tok _,⟨_,rfl⟩,q⟩
end
structure It where
 go:Nat→Hp→Prop
 yld:Nat→Hp→V→Hp→Prop
 stop:Nat→Hp→Prop
def FpOk(X:Cx)(pins:List (Addr×Obj))(H:Hp)(b:Addr):Prop:=
 H b=none∧b≠X.env.locals∧b∉X.fs∧(b∈X.ex∨X.s₀.heap.objs.size≤b)∧(∀ x c,X.env.cells.lookup x=some c→c≠b)∧∀ p∈X.pn++pins,p.1≠b
theorem Inv.fpOk{X:Cx}{pins:List (Addr×Obj)}{σ:St}{H H':Hp}{s:Shared}{b:Addr}(I:Inv X pins σ H s)(hb:s.heap.objs.size≤b)(hn:H' b=none):FpOk X pins H' b:=by
 refine⟨hn,Nat.ne_of_gt (Nat.lt_of_lt_of_le I.lt hb),I.nofs hb,.inr (Nat.le_trans I.sz hb),fun x c e z=>?_,fun p hp z=>?_⟩
 ·obtain⟨v,q⟩:=I.cell x c e
  exact absurd (Nat.lt_of_lt_of_le q.lt (by rw[z]; exact hb)) (Nat.lt_irrefl _)
 ·exact absurd (Nat.lt_of_lt_of_le (Heap.lt_size (I.pin p hp).1) (by rw[z]; exact hb)) (Nat.lt_irrefl _)
structure Turn(P:Program)(w:World)(K:PySem.W.Frag)(tg:Expr)(J:It)(fp:List Addr)(it:Addr)(tn:Nat→Heap→Prop):Prop where
 mem:it∈fp
 obj:∀ i h,tn i h→∀ b∈fp,∃ o,h.get? b=some o∧∀ v,o.data≠.cell v
 keep:∀ i h h',tn i h→(∀ b∈fp,∀ o,h.get? b=some o→h'.get? b=some o)→tn i h'
 item:∀ (X:Cx),X.prog=P→X.w=w→X.K=K→X.calm=true→∀ (i:Nat) (pins:List (Addr×Obj)) (s:Shared) (σ:St) (H:Hp) (E:Value→Shared→Prop),Inv X pins σ H s→(∀ b∈fp,FpOk X pins H b)→tn i s.heap→J.go i H→
  wpAny (model P w) X.A (pyNext (.ref it)) (fun r s1=>∃ u,r=some u∧
   wpAny (model P w) X.A (letOwnedTupleGo tg (.ref it) u) (fun _ s2=>∃ x H',Inv X pins σ H' s2∧RelV x u∧J.yld i H x H'∧tn (i+1) s2.heap∧∀ b∈fp,H' b=none) E s1) E s
 done:∀ (X:Cx),X.prog=P→X.w=w→X.K=K→X.calm=true→∀ (i:Nat) (pins:List (Addr×Obj)) (s:Shared) (σ:St) (H:Hp) (E:Value→Shared→Prop),Inv X pins σ H s→(∀ b∈fp,FpOk X pins H b)→tn i s.heap→J.stop i H→
  wpAny (model P w) X.A (pyNext (.ref it)) (fun r s1=>r=none∧Inv X pins σ H s1) E s
 self:∀ (A:Around) (i:Nat) (s:Shared) (Q:Value→Shared→Prop) (E:Value→Shared→Prop),tn i s.heap→Q (.ref it) s→wpAny (model P w) A (pyIter (.ref it)) Q E s
abbrev TI:=St→Hp→(It→Hp→Prop)→Prop
def PIE(X:Cx)(pins:List (Addr×Obj))(σ:St)(tg:Expr)(R:It→Hp→Prop)(itv:Value)(s2:Shared):Prop:=
 ∃ (it:Addr) (fp:List Addr) (tn:Nat→Heap→Prop) (J:It) (H':Hp),itv=.ref it∧Inv X pins σ H' s2∧Turn X.prog X.w X.K tg J fp it tn∧tn 0 s2.heap∧(∀ b∈fp,FpOk X pins H' b)∧R J H'
def PI(X:Cx)(tg iter:Expr)(wi:TI):Prop:=
 ∀ (pins:List (Addr×Obj)) (s:Shared) (σ:St) (H:Hp) (R:It→Hp→Prop),Inv X pins σ H s→wi σ H R→
  wpAny (model X.prog X.w) X.A (eval iter X.env) (fun v s1=>wpAny (model X.prog X.w) X.A (pyIter v) (PIE X pins σ tg R) X.xe s1) X.xe s
theorem go_of{M:Model}{A:Around}{E:Value→Shared→Prop}{s:Shared}{tg:Expr}{it:Addr}{u:Value}{o:Obj}{n:String}{vs:Array Value}{Q:Unit→Shared→Prop}(ho:s.heap.get? it=some o)(hc:o.cls=.type n)(hd:o.data=.fields vs)
  (hn:["enumerate","zip","dict_itemiterator","dict_reverseitemiterator","odict_iterator","itertools.zip_longest","itertools.pairwise"].contains n=false) (hQ:Q () s):wpAny M A (letOwnedTupleGo tg (.ref it) u) Q E s:=by
 unfold letOwnedTupleGo
 cases tg<;>first
  | exact wpAny_pure hQ
  | (cases u<;>first
    | exact wpAny_pure hQ
    | (refine wpAny_bind (wpAny_load ho ?_)
       rw[hc,hd]
       show wpAny M A (if(["enumerate","zip","dict_itemiterator","dict_reverseitemiterator","odict_iterator","itertools.zip_longest","itertools.pairwise"].contains n&&vs[0]?==some (rawInt _))=true then _ else _) Q E s
       rw[if_neg (by intro h; rw[hn,Bool.false_and] at h; cases h)]
       exact wpAny_pure hQ))
def Itl(K:PySem.W.Frag)(a:Addr):It:=
 ⟨fun i H=>∃ xs x,SqL K H a xs∧xs[i]?=some x,fun i H x H'=>H'=H∧∀ xs,SqL K H a xs→xs[i]?=some x,fun i H=>∃ xs,SqL K H a xs∧xs.length≤i⟩
def Itt(K:PySem.W.Frag)(a:Addr):It:=
 ⟨fun i H=>∃ xs x,SqT K H a xs∧xs[i]?=some x,fun i H x H'=>H'=H∧∀ xs,SqT K H a xs→xs[i]?=some x,fun i H=>∃ xs,SqT K H a xs∧xs.length≤i⟩
def Itr(lo:Int)(n:Nat):It:=⟨fun i _=>i<n,fun i H x H'=>H'=H∧x=.int (lo+i),fun i _=>n≤i⟩
theorem turn_list{P:Program}{w:World}{K:PySem.W.Frag}{tg:Expr}(a it:Addr):Turn P w K tg (Itl K a) [it] it (fun i h=>h.IsListIter it a i) where
 mem:=by simp
 obj:=fun i h st b hb=>by
  have e:b=it:=by simpa using hb
  subst e
  obtain⟨o,e,c,d⟩:=st
  exact⟨o,e,fun v z=>by rw[d] at z; cases z⟩
 keep:=fun i h h' st k=>st.at fun o e=>k it (by simp) o e
 item:=by
  intro X hP hw hK hc i pins s σ H E I hf st hg
  subst hP hw hK
  obtain⟨xs,x,hq,hx⟩:=hg
  obtain⟨its,rv,p,hz⟩:=I.list hq
  obtain⟨u,hu,ru⟩:=rv.get hx
  obtain⟨f0,f1,f2,f3,f4,f5⟩:=hf it (by simp)
  refine wpAny_pyNext_list_item st p.isList (x:=u) (by simpa using hu) fun h' st' sb=>?_
  have I1:Inv X pins σ H { s with heap:=h' }:=I.turned (t':=s.toks) (fun b o hb e=>(sb.2 b hb).trans e) f0 f1 f3 f4 f5
  obtain⟨o,e,c,d⟩:=id st'
  exact⟨u,rfl,go_of (s:={ s with heap:=h' }) e c d (by decide) ⟨x,H,I1,ru,⟨rfl,fun ys hy=>by rw[I.list_inj hy hq]; exact hx⟩,st',fun b hb=>(hf b hb).1⟩⟩
 done:=by
  intro X hP hw hK hc i pins s σ H E I hf st hg
  subst hP hw hK
  obtain⟨xs,hq,hx⟩:=hg
  obtain⟨its,rv,p,hz⟩:=I.list hq
  obtain⟨f0,f1,f2,f3,f4,f5⟩:=hf it (by simp)
  have hl:=rv.length
  exact wpAny_pyNext_list_end (I.ok.hd hc) st p.isList (by simp; omega) fun h' eb=>⟨rfl,I.turned (t':=s.toks) (fun b o hb e=>eb b o hb e) f0 f1 f3 f4 f5⟩
 self:=fun _ _ _ _ _ st h=>wpAny_pyIter_listiter st h
theorem turn_tuple{P:Program}{w:World}{K:PySem.W.Frag}{tg:Expr}(a it:Addr):Turn P w K tg (Itt K a) [it] it (fun i h=>h.IsTupleIter it a i) where
 mem:=by simp
 obj:=fun i h st b hb=>by
  have e:b=it:=by simpa using hb
  subst e
  obtain⟨o,e,c,d⟩:=st
  exact⟨o,e,fun v z=>by rw[d] at z; cases z⟩
 keep:=fun i h h' st k=>st.at fun o e=>k it (by simp) o e
 item:=by
  intro X hP hw hK hc i pins s σ H E I hf st hg
  subst hP hw hK
  obtain⟨xs,x,hq,hx⟩:=hg
  obtain⟨its,rv,p,hz⟩:=I.tuple hq
  obtain⟨u,hu,ru⟩:=rv.get hx
  obtain⟨f0,f1,f2,f3,f4,f5⟩:=hf it (by simp)
  refine wpAny_pyNext_tuple_item st (show s.heap.IsTuple a its.toArray from p) (x:=u) (by simpa using hu) fun h' st' sb=>?_
  have I1:Inv X pins σ H { s with heap:=h' }:=I.turned (t':=s.toks) (fun b o hb e=>(sb.2 b hb).trans e) f0 f1 f3 f4 f5
  obtain⟨o,e,c,d⟩:=id st'
  exact⟨u,rfl,go_of (s:={ s with heap:=h' }) e c d (by decide) ⟨x,H,I1,ru,⟨rfl,fun ys hy=>by rw[I.tuple_inj hy hq]; exact hx⟩,st',fun b hb=>(hf b hb).1⟩⟩
 done:=by
  intro X hP hw hK hc i pins s σ H E I hf st hg
  subst hP hw hK
  obtain⟨xs,hq,hx⟩:=hg
  obtain⟨its,rv,p,hz⟩:=I.tuple hq
  obtain⟨f0,f1,f2,f3,f4,f5⟩:=hf it (by simp)
  have hl:=rv.length
  exact wpAny_pyNext_tuple_end (I.ok.hd hc) st (show s.heap.IsTuple a its.toArray from p) (by simp; omega) fun h' eb=>⟨rfl,I.turned (t':=s.toks) (fun b o hb e=>eb b o hb e) f0 f1 f3 f4 f5⟩
 self:=fun _ _ _ _ _ st h=>wpAny_pyIter_tupleiter st h
theorem turn_range{P:Program}{w:World}{K:PySem.W.Frag}{tg:Expr}(it:Addr)(lo:Int)(n:Nat):Turn P w K tg (Itr lo n) [it] it (fun i h=>IsRangeIter h it (lo+(i:Nat)*1) ((n:Int)-(i:Nat)) 1) where
 mem:=by simp
 obj:=fun i h st b hb=>by
  have e:b=it:=by simpa using hb
  subst e
  exact⟨_,st,fun v z=>by
   have z':Data.fields _=Data.cell v:=z
   cases z'⟩
 keep:=fun i h h' st k=>k it (by simp) _ st
 item:=by
  intro X hP hw hK hc i pins s σ H E I hf st hg
  subst hP hw hK
  obtain⟨f0,f1,f2,f3,f4,f5⟩:=hf it (by simp)
  have W:=Walks.range (prog:=X.prog) (w:=X.w) (I.ok.hd hc) it lo 1 n
  refine W.item i s _ _ hg st fun v h' tk hv st' kk=>?_
  obtain⟨t,rfl⟩:=hv
  have I1:Inv X pins σ H { s with heap:=h',toks:=tk }:=I.turned (fun b o hb e=>kk b o (by simpa using hb) e) f0 f1 f3 f4 f5
  refine⟨_,rfl,go_of (s:={ s with heap:=h',toks:=tk }) (n:="range_iterator") st' rfl rfl (by decide) ⟨.int (lo+i),H,I1,⟨t,?_⟩,⟨rfl,rfl⟩,st',fun b hb=>(hf b hb).1⟩⟩
  rw[Int.mul_one]
 done:=by
  intro X hP hw hK hc i pins s σ H E I hf st hg
  subst hP hw hK
  obtain⟨f0,f1,f2,f3,f4,f5⟩:=hf it (by simp)
  exact wpAny_pyNext_range_end (I.ok.hd hc) st (by have:n≤i:=hg; omega) fun h' eb=>⟨rfl,I.turned (t':=s.toks) (fun b o hb e=>eb b o hb e) f0 f1 f3 f4 f5⟩
 self:=fun _ _ _ _ _ st h=>wpAny_pyIter_rangeiter st h
end L2
namespace L2
open PySem PySem.Spec PyProof.Rows
section
variable{X:Cx}{tg:Expr}
theorem range_it{pins:List (Addr×Obj)}{σ:St}{H:Hp}{s:Shared}{R:It→Hp→Prop}{E:Value→Shared→Prop}{lo hi:Int}{t u v:Tok}{tk:Nat}(I:Inv X pins σ H s)(h1 : -(2^62)≤lo)(h2:lo<2^62)(h3 : -(2^62)≤hi)(h4:hi<2^62)
  (q:R (Itr lo (hi-lo).toNat) H):wpAny (model X.prog X.w) X.A (pyIter (.ref s.heap.objs.size)) (PIE X pins σ tg R) E { s with heap:=s.heap.push { cls:=.type "range",data:=.fields #[.int lo t,.int hi u,.int 1 v] },toks:=tk }:=by
 refine wpAny_pyIter_range (IsRange.new ..) (small_one h1 h2 h3 h4) ?_
 have I1:Inv X pins σ H { s with heap:=s.heap.push { cls:=.type "range",data:=.fields #[.int lo t,.int hi u,.int 1 v] },toks:=tk }:=I.kept fun b o e=>Heap.get?_push_of_some _ e
 refine⟨(s.heap.push { cls:=.type "range",data:=.fields #[.int lo t,.int hi u,.int 1 v] }).objs.size,[(s.heap.push { cls:=.type "range",data:=.fields #[.int lo t,.int hi u,.int 1 v] }).objs.size],_,_,H,rfl,
  I1.kept (t':=tk) fun b o e=>Heap.get?_push_of_some _ e,turn_range _ lo (hi-lo).toNat,?_,fun b hb=>?_,q⟩
 ·have e1:lo+((0:Nat):Int)*1=lo:=by simp
  have e2:(((hi-lo).toNat:Nat):Int)-((0:Nat):Int)=Builtin.Range.rangeSize lo hi 1:=by rw[rangeSize_one]; split<;>omega
  show IsRangeIter _ _ (lo+((0:Nat):Int)*1) ((((hi-lo).toNat:Nat):Int)-((0:Nat):Int)) 1
  rw[e1,e2]
  exact Heap.get?_push_size _ rfl
 ·have e:b=(s.heap.push { cls:=.type "range",data:=.fields #[.int lo t,.int hi u,.int 1 v] }).objs.size:=by simpa using hb
  subst e
  exact I1.fpOk (Nat.le_refl _) (I1.hok.fresh (Nat.le_refl _))
def iRng1(ta:TA):TI:=fun σ H R=>ta σ H fun vs H1=>∃ j:Int,vs=[.int j] ∧ -(2^62)≤j∧j<2^62∧R (Itr 0 j.toNat) H1
theorem pi_range1{a:Expr}{ta:TA}{p pos:Pos}(hg:Gl X "range")(hm:X.mg "range"=none)(ha:PA X [a] ta)(hs:starEach [a] X.env=[(false,eval a X.env)]:=by rfl):PI X tg (.Call (.Name "range" p) [a] [] pos) (iRng1 ta):=by
 intro pins s σ H R I h
 refine Call_ (ld_blt I hg hm boot_range (PyProof.Rows.callWith_type1 (thn (ha pos pins s σ H _ I h) fun us s1 ⟨vs,H1,I1,r1,q1⟩=>?_) hs rfl))
 obtain⟨j,e,q1,q2,q⟩:=q1
 subst e
 cases r1 with
 | cons r rr=>
  cases rr
  obtain⟨t,rfl⟩:=r
  exact call_range_1 (range_it I1 (by omega) (by omega) q1 q2 (by simpa using q))
def tFor(wi:TI)(g:TG)(tb:TS):TS:=fun D σ H=>wi σ H fun J H1=>∃ W:Nat→Nat→St→Hp→Prop,(∃ m,W 0 m σ H1)∧∀ i m σ H,W i m σ H→
 (J.stop i H∧D.nx σ H)∨(J.go i H∧∃ N:St→Hp→Prop,(∀ σ' H',N σ' H'→∃ m',m'<m∧W (i+1) m' σ' H')∧∀ x H',J.yld i H x H'→g x σ H' fun σ2 H2=>tb { D with nx:=N,ct:=N,bk:=D.nx } σ2 H2)
def pinsAt(fp:List Addr)(h:Heap):List (Addr×Obj):=fp.filterMap fun b=>(h.get? b).map fun o=>(b,o)
theorem mem_pinsAt{fp:List Addr}{h:Heap}{b:Addr}{o:Obj}(hb:b∈fp)(e:h.get? b=some o):(b,o)∈pinsAt fp h:=List.mem_filterMap.mpr ⟨b,hb,by rw[e]; rfl⟩
theorem of_pinsAt{fp:List Addr}{h:Heap}{p:Addr×Obj}(hp:p∈pinsAt fp h):p.1∈fp∧h.get? p.1=some p.2:=by
 obtain⟨b,hb,e⟩:=List.mem_filterMap.mp hp
 cases q:h.get? b with
 | none=>rw[q] at e; cases e
 | some o=>
  rw[q] at e
  have e':(b,o)=p:=Option.some.inj e
  subst e'
  exact⟨hb,q⟩
theorem Inv.pinned{pins:List (Addr×Obj)}{σ:St}{H:Hp}{s:Shared}{fp:List Addr}(I:Inv X pins σ H s)(hf:∀ b∈fp,FpOk X pins H b)(ho:∀ b∈fp,∃ o,s.heap.get? b=some o∧∀ v,o.data≠.cell v):Inv X (pins++pinsAt fp s.heap) σ H s:=
 I.pins_of fun p hp=>(List.mem_append.mp hp).elim (fun z=>I.pin p (List.mem_append_right _ z)) fun z=>by
  obtain⟨hb,e⟩:=of_pinsAt z
  obtain⟨f0,f1,f2,_⟩:=hf p.1 hb
  obtain⟨o,e',d⟩:=ho p.1 hb
  rw[e] at e'; cases e'
  exact⟨e,f0,f1,f2,d⟩
theorem Inv.unpinned{pins pl:List (Addr×Obj)}{σ:St}{H:Hp}{s:Shared}(I:Inv X (pins++pl) σ H s):Inv X pins σ H s:=I.pins_of fun p hp=>I.pin p (List.mem_append_right _ (List.mem_append_left _ hp))
theorem ps_for{iter:Expr}{body:List Stmt}{wi:TI}{g:TG}{tb:TS}{pos:Pos}(hp:PassesOwn (model X.prog X.w) X.A X.env X.xe)(hc:X.calm=true)(hi:PI X tg iter wi)(hg:PG X tg g)(hb:PSs X body tb)
  (hs:∀ x,foldedSetIterable iter X.env x=pure x:=by intro _; rfl):PS X (.For tg iter body [] pos) (tFor wi g tb):=by
 intro pins s σ H D I h
 refine wpAny_For (thn (hi pins s σ H _ I h) fun v s1 h1=>thn h1 fun itv s2 h2=>?_) hs
 obtain⟨it,fp,tn,J,H2,e,I2,T,st2,f2,W,⟨m0,w0⟩,turn⟩:=h2
 subst e
 have stat:∀ {H':Hp},(∀ b∈fp,H' b=none)→∀ b∈fp,FpOk X pins H' b:=fun hn b hb=>⟨hn b hb,(f2 b hb).2⟩
 refine codeAny_forLoop_any (fun n s'=>∃ i σ' H',Inv X pins σ' H' s'∧tn i s'.heap∧(∀ b∈fp,H' b=none)∧W i n σ' H') ?_ m0 ⟨0,σ,H2,I2,st2,fun b hb=>(f2 b hb).1,w0⟩
 rintro n s3 ⟨i,σ3,H3,I3,st3,fr3,w3⟩
 rcases turn i n σ3 H3 w3 with⟨stop,qn⟩ | ⟨go,N,hN,step⟩
 ·refine wpAny_passesOwn hp (thn (T.done X rfl rfl rfl hc i pins s3 σ3 H3 X.xe I3 (stat fr3) st3 stop) fun r s4 ⟨hr,I4⟩=>?_)
  subst hr
  exact wpAny_execs_nil ⟨σ3,H3,I4,qn⟩
 ·refine wpAny_passesOwn hp (thn (T.item X rfl rfl rfl hc i pins s3 σ3 H3 X.xe I3 (stat fr3) st3 go) fun r s4 ⟨u,hr,h4⟩=>?_)
  subst hr
  refine wpAny_passesOwn hp (thn h4 fun _ s5 ⟨x,H5,I5,r5,y5,st5,fr5⟩=>?_)
  have I5':=I5.pinned (stat fr5) (T.obj _ _ st5)
  refine wpAny_passesOwn hp (thn (hg _ s5 σ3 H5 x u _ I5' r5 (step x H5 y5)) fun _ s6 ⟨σ6,H6,I6,q6⟩=>?_)
  refine wpAny_passesOwn hp (thn (hb _ s6 σ6 H6 _ I6 q6) fun f s7 q7=>?_)
  have again:∀ {σ7:St} {H7:Hp},Inv X (pins++pinsAt fp s5.heap) σ7 H7 s7→N σ7 H7→∃ m,m<n∧∃ i σ' H',Inv X pins σ' H' s7∧tn i s7.heap∧(∀ b∈fp,H' b=none)∧W i m σ' H':=fun{σ7 H7} I7 n7=>by
   obtain⟨m',hm,w7⟩:=hN σ7 H7 n7
   refine⟨m',hm,i+1,σ7,H7,I7.unpinned,T.keep _ _ _ st5 fun b hb o e=>(I7.pin (b,o) (List.mem_append_right _ (List.mem_append_right _ (mem_pinsAt hb e)))).1,fun b hb=>?_,w7⟩
   obtain⟨o,e,d⟩:=T.obj _ _ st5 b hb
   exact(I7.pin (b,o) (List.mem_append_right _ (List.mem_append_right _ (mem_pinsAt hb e)))).2.1
  cases f with
  | next=>obtain⟨σ7,H7,I7,n7⟩:=q7; exact again I7 n7
  | cont=>obtain⟨σ7,H7,I7,n7⟩:=q7; exact again I7 n7
  | brk=>obtain⟨σ7,H7,I7,q7⟩:=q7; exact⟨σ7,H7,I7.unpinned,q7⟩
  | ret v=>obtain⟨x7,σ7,H7,I7,r7,q7⟩:=q7; exact⟨x7,σ7,H7,I7.unpinned,r7,q7⟩
end
end L2
namespace L2
open PySem PySem.Spec PyProof.Rows
abbrev R2:=V→V→Hp→VK→Prop
def OpR(X:Cx)(f:Value→Value→Sem Value)(r:R2):Prop:=
 ∀ (pins:List (Addr×Obj)) (s:Shared) (σ:St) (H:Hp) (x y:V) (v u:Value) (Q:VK),Inv X pins σ H s→RelV x v→RelV y u→r x y H Q→
  wpAny (model X.prog X.w) X.A (f v u) (EP X pins σ Q) X.xe s
def UnR(X:Cx)(f:Value→Sem Value)(r:V→Hp→VK→Prop):Prop:=
 ∀ (pins:List (Addr×Obj)) (s:Shared) (σ:St) (H:Hp) (x:V) (v:Value) (Q:VK),Inv X pins σ H s→RelV x v→r x H Q→
  wpAny (model X.prog X.w) X.A (f v) (EP X pins σ Q) X.xe s
def CallR(X:Cx)(f:Value)(r:List V→Hp→VK→Prop):Prop:=
 ∀ (pins:List (Addr×Obj)) (s:Shared) (σ:St) (H:Hp) (xs:List V) (us:List Value) (Q:VK),Inv X pins σ H s→Vals xs us→r xs H Q→
  wpAny (model X.prog X.w) X.A (call f us) (EP X pins σ Q) X.xe s
def TruR(X:Cx)(r:V→Hp→(Bool→Hp→Prop)→Prop):Prop:=
 ∀ (pins:List (Addr×Obj)) (s:Shared) (σ:St) (H:Hp) (x:V) (v:Value) (Q:Bool→Hp→Prop),Inv X pins σ H s→RelV x v→r x H Q→
  wpAny (model X.prog X.w) X.A (truthy v) (TP X pins σ Q) X.xe s
def tOp(r:R2)(ta tb:TE):TE:=fun σ H Q=>ta σ H fun x H1=>tb σ H1 fun y H2=>r x y H2 Q
def tUn(r:V→Hp→VK→Prop)(ta:TE):TE:=fun σ H Q=>ta σ H fun x H1=>r x H1 Q
def rI(C:Int→Int→Prop)(g:Int→Int→V):R2:=fun x y H Q=>∃ i j,x=.int i∧y=.int j∧C i j∧Q (g i j) H
def rI0(g:Int→Int→V):R2:=fun x y H Q=>∃ i j,x=.int i∧y=.int j∧Q (g i j) H
def rU(g:Int→V):V→Hp→VK→Prop:=fun x H Q=>∃ i,x=.int i∧Q (g i) H
section
variable{X:Cx}{a b c:Expr}{ta tb tc:TE}{pos:Pos}
theorem binT(ha:PE X a ta)(hb:PE X b tb){pins:List (Addr×Obj)}{s:Shared}{σ:St}{H:Hp}{R:V→V→Hp→Prop}(I:Inv X pins σ H s)
  (h:ta σ H fun x H1=>tb σ H1 fun y H2=>R x y H2) {Q:Value→Shared→Prop} {f:Value→Value→Sem Value}
  (hf:∀ v u s2 x y H2,Inv X pins σ H2 s2→RelV x v→RelV y u→R x y H2→wpAny (model X.prog X.w) X.A (f v u) Q X.xe s2):
  wpAny (model X.prog X.w) X.A (eval a X.env) (fun v s₁=>wpAny (model X.prog X.w) X.A (eval b X.env) (fun u s₂=>wpAny (model X.prog X.w) X.A (f v u) Q X.xe s₂) X.xe s₁) X.xe s:=by
 refine thn (ha pins s σ H _ I h) fun v s1 ⟨x,H1,I1,r1,q1⟩=>?_
 refine thn (hb pins s1 σ H1 _ I1 q1) fun u s2 ⟨y,H2,I2,r2,q2⟩=>?_
 exact hf v u s2 x y H2 I2 r1 r2 q2
theorem pe_op{op:Operator}{r:R2}(ho:OpR X (binaryOp op) r)(ha:PE X a ta)(hb:PE X b tb):PE X (.BinOp a op b pos) (tOp r ta tb):=by
 intro pins s σ H Q I h
 exact wpAny_BinOp (binT ha hb I h fun v u s2 x y H2 I2 rx ry q=>ho pins s2 σ H2 x y v u Q I2 rx ry q)
theorem pe_un{op:UnaryOp}{r:V→Hp→VK→Prop}(ho:UnR X (unaryOp op) r)(ha:PE X a ta):PE X (.UnaryOp op a pos) (tUn r ta):=by
 intro pins s σ H Q I h
 exact UnaryOp_ (thn (ha pins s σ H _ I h) fun v s1 ⟨x,H1,I1,r1,q1⟩=>ho pins s1 σ H1 x v Q I1 r1 q1)
theorem opI{f:Value→Value→Sem Value}{C:Int→Int→Prop}{g:Int→Int→Int}
  (rule:∀ (i j:Int) (t u:Tok) (s:Shared) (Q:Value→Shared→Prop) (E:Value→Shared→Prop),C i j→Q (.int (g i j) s.toks) { s with toks:=s.toks+1 }→wpAny (model X.prog X.w) X.A (f (.int i t) (.int j u)) Q E s):
  OpR X f (rI C fun i j=>.int (g i j)):=by
 intro pins s σ H x y v u Q I rx ry h
 obtain⟨i,j,rfl,rfl,hc,q⟩:=h
 obtain⟨t,rfl⟩:=rx
 obtain⟨t',rfl⟩:=ry
 exact rule i j t t' s _ _ hc ⟨.int (g i j),H,I.tok _,⟨_,rfl⟩,q⟩
theorem opI0{f:Value→Value→Sem Value}{g:Int→Int→Int}
  (rule:∀ (i j:Int) (t u:Tok) (s:Shared) (Q:Value→Shared→Prop) (E:Value→Shared→Prop),Q (.int (g i j) s.toks) { s with toks:=s.toks+1 }→wpAny (model X.prog X.w) X.A (f (.int i t) (.int j u)) Q E s):
  OpR X f (rI0 fun i j=>.int (g i j)):=by
 intro pins s σ H x y v u Q I rx ry h
 obtain⟨i,j,rfl,rfl,q⟩:=h
 obtain⟨t,rfl⟩:=rx
 obtain⟨t',rfl⟩:=ry
 exact rule i j t t' s _ _ ⟨.int (g i j),H,I.tok _,⟨_,rfl⟩,q⟩
theorem opB0{f:Value→Value→Sem Value}{g:Int→Int→Bool}
  (rule:∀ (i j:Int) (t u:Tok) (s:Shared) (Q:Value→Shared→Prop) (E:Value→Shared→Prop),Q (.bool (g i j)) s→wpAny (model X.prog X.w) X.A (f (.int i t) (.int j u)) Q E s):
  OpR X f (rI0 fun i j=>.bl (g i j)):=by
 intro pins s σ H x y v u Q I rx ry h
 obtain⟨i,j,rfl,rfl,q⟩:=h
 obtain⟨t,rfl⟩:=rx
 obtain⟨t',rfl⟩:=ry
 exact rule i j t t' s _ _ ⟨.bl (g i j),H,I,rfl,q⟩
def CPow(i j:Int):Prop:=0≤j∧j≤1000000∧i.natAbs<2^64
def CMul(i j:Int):Prop:=(-(2^64)<i∧i<2^64)∨(-(2^64)<j∧j<2^64)
theorem CMul.ok{i j:Int}(h:CMul i j):IntMulOk i j:=by
 rcases h with⟨h1,h2⟩ | ⟨h1,h2⟩
 ·exact .of_left (intBits_le_64 h1 h2)
 ·exact .of_right (intBits_le_64 h1 h2)
theorem op_add:OpR X (binaryOp .Add) (rI0 fun i j=>.int (i+j)):=opI0 fun _ _ _ _ _ _ _ q=>add_int q
theorem op_sub:OpR X (binaryOp .Sub) (rI0 fun i j=>.int (i-j)):=opI0 fun _ _ _ _ _ _ _ q=>sub_int q
theorem op_mul:OpR X (binaryOp .Mult) (rI CMul fun i j=>.int (i*j)):=opI fun _ _ _ _ _ _ _ hc q=>mul_int q hc.ok
theorem op_mod:OpR X (binaryOp .Mod) (rI (fun _ j=>0<j) fun i j=>.int (i%j)):=opI fun i j _ _ _ _ _ hc q=>by
 have h1:(0:Int)<j:=hc
 exact mod_int' (by omega) (by rw[Int.fmod_eq_emod_of_nonneg i (by omega)]; exact q)
theorem op_pow:OpR X (binaryOp .Pow) (rI CPow fun i j=>.int (i^j.toNat)):=opI fun _ _ _ _ _ _ _ hc q=>pow_int_small hc.1 hc.2.1 hc.2.2 q
theorem unI{f:Value→Sem Value}{g:Int→Int}
  (rule:∀ (i:Int) (t:Tok) (s:Shared) (Q:Value→Shared→Prop) (E:Value→Shared→Prop),Q (.int (g i) s.toks) { s with toks:=s.toks+1 }→wpAny (model X.prog X.w) X.A (f (.int i t)) Q E s):
  UnR X f (rU fun i=>.int (g i)):=by
 intro pins s σ H x v Q I rx h
 obtain⟨i,rfl,q⟩:=h
 obtain⟨t,rfl⟩:=rx
 exact rule i t s _ _ ⟨.int (g i),H,I.tok _,⟨_,rfl⟩,q⟩
theorem un_neg:UnR X (unaryOp .USub) (rU fun i=>.int (-i)):=unI fun _ _ _ _ _ q=>neg_int q
end
section
variable{X:Cx}{a b c:Expr}{ta tb tc:TE}{pos:Pos}
theorem fin_bl{pins:List (Addr×Obj)}{σ:St}{H:Hp}{s:Shared}{Q:VK}{k k':Bool}(I:Inv X pins σ H s)(q:Q (.bl k) H)(e:k=k'):EP X pins σ Q (.bool k') s:=by
 subst e
 exact⟨.bl k,H,I,rfl,q⟩
theorem op_lt:OpR X (compareOp .Lt) (rI0 fun i j=>.bl (decide (i<j))):=opB0 fun _ _ _ _ _ _ _ q=>lt_int q
theorem op_le:OpR X (compareOp .LtE) (rI0 fun i j=>.bl (decide (i≤j))):=opB0 fun _ _ _ _ _ _ _ q=>le_int q
theorem op_gt:OpR X (compareOp .Gt) (rI0 fun i j=>.bl (decide (j<i))):=opB0 fun _ _ _ _ _ _ _ q=>gt_int q
theorem op_ge:OpR X (compareOp .GtE) (rI0 fun i j=>.bl (decide (j≤i))):=opB0 fun _ _ _ _ _ _ _ q=>ge_int q
theorem op_isN:OpR X (compareOp .Is) (fun x y H Q=>y=.non∧Q (.bl (decide (x=.non))) H):=by
 intro pins s σ H x y v u Q I rx ry h
 obtain⟨rfl,q⟩:=h
 cases ry
 refine is_none_gen (fin_bl I q ?_)
 cases x<;>first
  | (cases rx; rfl)
  | (obtain⟨t,rfl⟩:=rx; rfl)
theorem op_notN:OpR X (compareOp .IsNot) (fun x y H Q=>y=.non∧Q (.bl (!decide (x=.non))) H):=by
 intro pins s σ H x y v u Q I rx ry h
 obtain⟨rfl,q⟩:=h
 cases ry
 refine isnot_none_gen (fin_bl I q ?_)
 cases x<;>first
  | (cases rx; rfl)
  | (obtain⟨t,rfl⟩:=rx; rfl)
theorem OpR.or{f:Value→Value→Sem Value}{r r':R2}(h:OpR X f r)(h':OpR X f r'):OpR X f (fun x y H Q=>r x y H Q∨r' x y H Q):=by
 intro pins s σ H x y v u Q I rx ry q
 rcases q with q | q
 ·exact h pins s σ H x y v u Q I rx ry q
 ·exact h' pins s σ H x y v u Q I rx ry q
theorem nomark(b:Expr){op:CmpOp}(h:op≠.In:=by decide)(h2:op≠.NotIn:=by decide):behindInMarks op b=false:=by
 have e1:(op==CmpOp.In)=false:=by cases op<;>first | rfl | exact absurd rfl h
 have e2:(op==CmpOp.NotIn)=false:=by cases op<;>first | rfl | exact absurd rfl h2
 cases b<;>simp[behindInMarks,e1,e2]
theorem pe_cmpR{op:CmpOp}{r:R2}(ho:OpR X (compareOp op) r)(ha:PE X a ta)(hb:PE X b tb)(hm:behindInMarks op b=false):PE X (.Compare a [op] [b] pos) (tOp r ta tb):=by
 intro pins s σ H Q I h
 exact wpAny_Compare1 (binT ha hb I h fun v u s2 x y H2 I2 rx ry q=>ho pins s2 σ H2 x y v u Q I2 rx ry q) hm
def tTest(t:TE):TT:=fun σ H Q=>t σ H fun x H'=>∃ k,x=.bl k∧Q k H'
theorem pt_cmpR{op:CmpOp}{r:R2}(ho:OpR X (compareOp op) r)(ha:PE X a ta)(hb:PE X b tb)(hm:behindInMarks op b=false):PT X (.Compare a [op] [b] pos) (tTest (tOp r ta tb)):=by
 intro pins s σ H Q I h
 refine wpAny_isTrue_Compare1 (thn (ha pins s σ H _ I h) fun v s1 ⟨x,H1,I1,r1,q1⟩=>thn (hb pins s1 σ H1 _ I1 q1) fun u s2 ⟨y,H2,I2,r2,q2⟩=>
  thn (ho pins s2 σ H2 x y v u _ I2 r1 r2 q2) fun c s3 ⟨z,H3,I3,r3,k,e,q3⟩=>?_) hm
 subst e
 cases r3
 exact wpAny_truthy_bool ⟨H3,I3,q3⟩
def tChain(r r':R2)(ta tb tc:TE):TE:=fun σ H Q=>ta σ H fun x H1=>tb σ H1 fun y H2=>r x y H2 fun z H3=>∃ k,z=.bl k∧
 (if k=true then tc σ H3 fun w' H4=>r' y w' H4 Q else Q (.bl false) H3)
theorem pt_chain{op op':CmpOp}{r r':R2}(ho:OpR X (compareOp op) r)(ho':OpR X (compareOp op') r')(ha:PE X a ta)(hb:PE X b tb)(hc:PE X c tc)
  (hm:lastMarks [op,op'] [b,c]=false:=by with_unfolding_all rfl):PT X (.Compare a [op,op'] [b,c] pos) (tTest (tChain r r' ta tb tc)):=by
 intro pins s σ H Q I h
 refine isTrue_chain (thn (ha pins s σ H _ I h) fun v s1 ⟨x,H1,I1,r1,q1⟩=>test_link (thn (hb pins s1 σ H1 _ I1 q1) fun u s2 ⟨y,H2,I2,r2,q2⟩=>
  thn (ho pins s2 σ H2 x y v u _ I2 r1 r2 q2) fun d s3 ⟨z,H3,I3,r3,k,e,q3⟩=>?_)) hm
 subst e
 cases r3
 refine wpAny_truthy_bool ?_
 cases k with
 | false=>
  obtain⟨k',e',q'⟩:=q3
  cases e'
  exact ite_ff ⟨H3,I3,q'⟩
 | true=>
  refine ite_tt (test_last (thn (hc pins s3 σ H3 _ I3 q3) fun w' s4 ⟨z',H4,I4,r4,q4⟩=>thn (ho' pins s4 σ H4 y z' u w' _ I4 r2 r4 q4) fun d' s5 ⟨z2,H5,I5,r5,k2,e2,q5⟩=>?_))
  subst e2
  cases r5
  exact wpAny_truthy_bool ⟨H5,I5,q5⟩
def TruV(K:PySem.W.Frag)(x:V)(H:Hp)(k:Bool):Prop:=
 match x with
 | .non=>k=false
 | .bl b=>k=b
 | .int i=>k=(i != 0)
 | .str y=>y.length≤sizeLine∧k=((y.length:Int) != 0)
 | .byt y=>y.size≤sizeLine∧k=((y.size:Int) != 0)
 | .ref p=>(∃ xs,SqL K H p xs∧k=!xs.isEmpty)∨(∃ xs,SqT K H p xs∧k=!xs.isEmpty)∨∃ kvs,H p=some (.dK kvs)∧k=!kvs.isEmpty
 | _=>False
theorem isEmpty_kv{κ:Type}{kvs:List (κ×V)}{vs:List (κ×Value)}(r:KV kvs vs):(!vs.isEmpty)=!kvs.isEmpty:=by
 cases r<;>rfl
theorem isEmpty_of{xs:List V}{its:List Value}(r:Vals xs its):(!its.toArray.isEmpty)=!xs.isEmpty:=by
 cases r<;>simp
theorem line63:(sizeLine:Nat)<2^63:=by rw[sizeLine_eq]; decide
theorem tru_ok:TruR X (fun x H Q=>∃ k,TruV X.K x H k∧Q k H):=by
 intro pins s σ H x v Q I rx h
 obtain⟨k,e,q⟩:=h
 have hl:=line63
 have hs:sizeLine=16777216:=sizeLine_eq
 cases x with
 | non=>
  cases rx
  have e':k=false:=e
  subst e'
  exact truthy_none ⟨H,I,q⟩
 | bl b=>
  cases rx
  have e':k=b:=e
  subst e'
  exact wpAny_truthy_bool ⟨H,I,q⟩
 | int i=>
  obtain⟨t,rfl⟩:=rx
  have e':k=(i != 0):=e
  subst e'
  exact PySem.P.truthy_int ⟨H,I,q⟩
 | str y=>
  obtain⟨t,rfl⟩:=rx
  obtain⟨hy,e'⟩:y.length≤sizeLine∧k=((y.length:Int) != 0):=e
  subst e'
  exact PySem.P.truthy_str (by omega) ⟨H,I.tok _,q⟩
 | byt y=>
  obtain⟨t,rfl⟩:=rx
  obtain⟨hy,e'⟩:y.size≤sizeLine∧k=((y.size:Int) != 0):=e
  subst e'
  exact PySem.W.truthy_bytes (by omega) ⟨H,I.tok _,q⟩
 | ref p=>
  cases rx
  have e':(∃ xs,SqL X.K H p xs∧k=!xs.isEmpty)∨(∃ xs,SqT X.K H p xs∧k=!xs.isEmpty)∨∃ kvs,H p=some (.dK kvs)∧k=!kvs.isEmpty:=e
  rcases e' with⟨xs,hx,e'⟩ | ⟨xs,hx,e'⟩ | ⟨kvs,hx,e'⟩
  ·subst e'
   obtain⟨its,r,pl,hz⟩:=I.list hx
   have hlen:=r.length
   exact wpAny_truthy_list pl.isList (by simp only[List.size_toArray]; omega) ⟨H,I.tok _,by rw[isEmpty_of r]; exact q⟩
  ·subst e'
   obtain⟨its,r,pl,hz⟩:=I.tuple hx
   have hlen:=r.length
   exact truthy_tuple pl (by simp only[List.size_toArray]; omega) ⟨H,I.tok _,by rw[isEmpty_of r]; exact q⟩
  ·subst e'
   obtain⟨hz,hS,vs,r,m⟩:kvs.length≤sizeLine∧(p==sysModules)=false∧∃ vs,KV kvs vs∧s.heap.DictOf (mixKind X.prog X.w) p vs:=I.hok p _ hx
   have hlen:kvs.length=vs.length:=Paired.length r
   exact wpAny_truthy_dict hS m (by omega) ⟨H,I.tok _,by rw[isEmpty_kv r]; exact q⟩
 | _=>exact(show False from e).elim
theorem pt_truth(ha:PE X a ta)(he:∀ whole,isTrue a X.env whole=(do let v ←whole; standAt a.pos; holding [v] (truthy v))):
  PT X a (fun σ H Q=>ta σ H fun x H'=>∃ k,TruV X.K x H' k∧Q k H'):=by
 intro pins s σ H Q I h
 exact isTrue_plain (thn (ha pins s σ H _ I h) fun v s1 ⟨x,H1,I1,r1,q1⟩=>tru_ok pins s1 σ H1 x v Q I1 r1 q1) (he _)
theorem op_add_str:OpR X (binaryOp .Add) (fun x y H Q=>∃ i j,x=.str i∧y=.str j∧i.length+j.length≤sizeLine∧Q (.str (i++j)) H):=by
 intro pins s σ H x y v u Q I rx ry h
 obtain⟨i,j,rfl,rfl,hz,q⟩:=h
 obtain⟨t,rfl⟩:=rx
 obtain⟨t',rfl⟩:=ry
 exact add_str (fun t' tk=>⟨.str (i++j),H,I.tok _,⟨_,rfl⟩,q⟩) hz
theorem vals1{x:V}{us:List Value}(r:Vals [x] us):∃ u,us=[u]∧RelV x u:=by
 cases r with
 | cons r1 r2=>cases r2; exact⟨_,rfl,r1⟩
theorem vals2{x y:V}{us:List Value}(r:Vals [x,y] us):∃ u w',us=[u,w']∧RelV x u∧RelV y w':=by
 cases r with
 | cons r1 r2=>
  cases r2 with
  | cons r3 r4=>cases r4; exact⟨_,_,rfl,r1,r3⟩
theorem call_min2(hc:X.calm=true):CallR X (.builtin "min") (fun xs H Q=>∃ i j,xs=[.int i,.int j]∧Q (.int (if j<i then j else i)) H):=by
 intro pins s σ H xs us Q I r h
 obtain⟨i,j,rfl,q⟩:=h
 obtain⟨u,w',rfl,⟨t,rfl⟩,⟨t',rfl⟩⟩:=vals2 r
 refine min_two_ints (I.ok.hd hc) fun h' tk k=>⟨_,H,I.kept k,?_,q⟩
 by_cases hj:j<i
 ·rw[if_pos hj,if_pos hj]; exact⟨_,rfl⟩
 ·rw[if_neg hj,if_neg hj]; exact⟨_,rfl⟩
theorem call_int1:CallR X (.type "int") (fun xs H Q=>(∃ i,xs=[.int i]∧Q (.int i) H)∨∃ k,xs=[.bl k]∧Q (.int (if k then 1 else 0)) H):=by
 intro pins s σ H xs us Q I r h
 rcases h with⟨i,rfl,q⟩ | ⟨k,rfl,q⟩
 ·obtain⟨u,rfl,t,rfl⟩:=vals1 r
  exact call_int_int ⟨.int i,H,I,⟨_,rfl⟩,q⟩
 ·obtain⟨u,rfl,r1⟩:=vals1 r
  cases r1
  exact call_int_bool ⟨.int (if k then 1 else 0),H,I.tok _,⟨_,rfl⟩,q⟩
def LenV(K:PySem.W.Frag)(x:V)(H:Hp)(n:Nat):Prop:=
 match x with
 | .str y=>y.length≤sizeLine∧n=y.length
 | .byt y=>y.size≤sizeLine∧n=y.size
 | .ref p=>(∃ xs,SqL K H p xs∧n=xs.length)∨∃ xs,SqT K H p xs∧n=xs.length
 | _=>False
theorem call_len:CallR X (.builtin "len") (fun xs H Q=>∃ x n,xs=[x]∧LenV X.K x H n∧Q (.int n) H):=by
 intro pins s σ H xs us Q I r h
 obtain⟨x,n,rfl,e,q⟩:=h
 obtain⟨u,rfl,rx⟩:=vals1 r
 have hl:=line63
 have hs:sizeLine=16777216:=sizeLine_eq
 cases x with
 | str y=>
  obtain⟨t,rfl⟩:=rx
  obtain⟨hy,e'⟩:y.length≤sizeLine∧n=y.length:=e
  subst e'
  exact len_str (by omega) ⟨.int _,H,I.tok _,⟨_,rfl⟩,q⟩
 | byt y=>
  obtain⟨t,rfl⟩:=rx
  obtain⟨hy,e'⟩:y.size≤sizeLine∧n=y.size:=e
  subst e'
  exact PySem.W.len_bytes (by omega) ⟨.int _,H,I.tok _,⟨_,rfl⟩,q⟩
 | ref p=>
  cases rx
  have e':(∃ xs,SqL X.K H p xs∧n=xs.length)∨∃ xs,SqT X.K H p xs∧n=xs.length:=e
  rcases e' with⟨xs,hx,e'⟩ | ⟨xs,hx,e'⟩
  ·subst e'
   obtain⟨its,r',pl,hz⟩:=I.list hx
   have hlen:=r'.length
   exact Calls.call_len_list pl.isList (by simp only[List.size_toArray]; omega) ⟨.int xs.length,H,I.tok _,⟨_,by simp only[List.size_toArray]; rw[hlen]⟩,q⟩
  ·subst e'
   obtain⟨its,r',pl,hz⟩:=I.tuple hx
   have hlen:=r'.length
   exact len_tuple pl (by simp only[List.size_toArray]; omega) ⟨.int xs.length,H,I.tok _,⟨_,by simp only[List.size_toArray]; rw[hlen]⟩,q⟩
 | _=>exact(show False from e).elim
end
end L2
namespace L2
open PySem PySem.Spec PyProof.Rows
structure ObjM(h:Heap)(x dx C:Addr)(mA:Str→Option Value):Prop where
 obj:h.get? x=some (PySem.W.instObj C dx)
 ns:h.Ns1 dx mA
 ne:dx≠x
structure Cls(K:PySem.W.Frag)(C:Addr):Prop where
 pg:PySem.W.plainGet K C Str.empty=true
 hd:PySem.W.hasDictIn K C=true
 po:PySem.W.plainOver K C=true
 sa:PySem.W.findIn K (.ref C) "__setattr__"=some (some (.builtin "object.__setattr__"))
structure Con(K:PySem.W.Frag)(C:Addr)(f:Str)(v:V)(u:Value):Prop where
 at_:PySem.W.findIn K (.ref C) f=some (some u)
 rel:RelV v u
 get:PySem.W.specialIn K u "__get__"=some none
 cp:PySem.W.copiedNames.contains f=false
structure Meth(K:PySem.W.Frag)(C:Addr)(m:Str)(f:Addr):Prop where
 at_:PySem.W.findIn K (.ref C) m=some (some (.ref f))
 fn:PySem.W.isFn K (.ref f)=true
 kp:PySem.W.keepIn K (.ref f)=true
section
variable{X:Cx}{pins:List (Addr×Obj)}{σ:St}{H:Hp}{s:Shared}{A:Around}{E:Value→Shared→Prop}{Q:Value→Shared→Prop}{c:Value}{b:Bool}
inductive TyOf(K:PySem.W.Frag)(H:Hp):V→Value→Prop where
 | non:TyOf K H .non (.type "NoneType")
 | bl (x:Bool):TyOf K H (.bl x) (.type "bool")
 | int (i:Int):TyOf K H (.int i) (.type "int")
 | str (x:Str):TyOf K H (.str x) (.type "str")
 | flt (x:UInt64):TyOf K H (.flt x) (.type "float")
 | lst {a:Addr} {xs:List V} (e:H a=some (.lst xs)):TyOf K H (.ref a) (.type "list")
 | frz {a:Addr} {o:Obj} {xs:List V} (e:H a=some (.frz o (.lst xs))):TyOf K H (.ref a) (.type "list")
 | tup {a:Addr} {xs:List V} (e:H a=some (.tup xs)):TyOf K H (.ref a) (.type "tuple")
 | dK {a:Addr} {kvs:List (Key×V)} (e:H a=some (.dK kvs)):TyOf K H (.ref a) (.type "dict")
 | dT {a:Addr} {kvs:List (List Key×V)} (e:H a=some (.dT kvs)):TyOf K H (.ref a) (.type "dict")
 | ins {a C dx:Addr} {fs:List (Str×V)} (e:H a=some (.ins C dx fs)) (cl:Cls K C) (ha:PySem.W.findIn K (.ref C) "__class__"=some (some (.builtin "object.__class__")))
   (hn:PySem.W.specialIn K (.builtin "object.__class__") "__get__"=some (some (.builtin "getset_descriptor.__get__"))) (htk:PySem.W.takesIn K (.builtin "object.__class__")=some true)
   (hm:PySem.W.mroIn K C (.type "object")=some true):TyOf K H (.ref a) (.ref C)
end
end L2
namespace L2
open PySem PySem.Spec PyProof.Rows
structure Room(k:Nat)(A:Around):Prop where
 hd:A.handled=none
 dp:A.depth+3*k+5<recursionLimit
 un:A.units+16*k+200<cLine
 gd:A.guards=some []
theorem Room.mono{j k:Nat}{A:Around}(r:Room k A)(h:j≤k):Room j A:=⟨r.hd,by have:=r.dp; omega,by have:=r.un; omega,r.gd⟩
theorem Room.deeper{k:Nat}{A:Around}(r:Room (k+1) A)(env:Env):Room k (A.deeper env):=
 ⟨r.hd,by have:=r.dp; show A.depth+1+3*k+5<_; omega,by have:=r.un; show A.units+3+16*k+200<_; omega,by first | exact r.gd | (simpa[Around.deeper] using r.gd)⟩
theorem make_depth{A:Around}{C:Addr}{us:List Value}{kw:List (Str×Value)}:(A.under (.builtin "type.__call__" ⟨.ref C::us,kw⟩)).depth=A.depth+1:=by
 first | rfl | simp[Around.under,Code.weight,Code.isCreation,Code.isGuard,Code.isCaller,Code.frames,Code.isFrame,guardIds]
theorem make_units{A:Around}{C:Addr}{us:List Value}{kw:List (Str×Value)}:(A.under (.builtin "type.__call__" ⟨.ref C::us,kw⟩)).units=A.units+1:=by
 first | rfl | simp[Around.under,Code.cUnits,Code.frames,Code.isFrame]
theorem Room.make{k:Nat}{A:Around}(r:Room (k+1) A)(C:Addr)(us:List Value)(kw:List (Str×Value)):Room k (A.under (.builtin "type.__call__" ⟨.ref C::us,kw⟩)):=
 ⟨r.hd,by have:=r.dp; rw[make_depth]; omega,by have:=r.un; rw[make_units]; omega,by first | exact r.gd | (simpa[Around.under,pushGuards,Code.guards,Code.isGuard,guardIds] using r.gd)⟩
theorem Room.depth{k:Nat}{A:Around}(r:Room k A):A.depth<recursionLimit:=by have:=r.dp; omega
theorem Room.units{k:Nat}{A:Around}(r:Room k A):A.units+64<cLine:=by have:=r.un; omega
def tNil:TA:=fun _ H Q=>Q [] H
def tCons(ta:TE)(tr:TA):TA:=fun σ H Q=>ta σ H fun x H1=>tr σ H1 fun xs H2=>Q (x::xs) H2
section
variable{X:Cx}{e:Expr}{es:List Expr}{te:TE}{t:TA}{pos:Pos}
theorem pa_nil:PA X [] tNil:=fun _ _ _ _ H Q I h=>Calls.spliced_nil ⟨[],H,I,.nil,h⟩
theorem pa_cons(ha:PE X e te)(hr:PA X es t)(hs:starEach (e::es) X.env=(false,eval e X.env)::starEach es X.env:=by rfl):PA X (e::es) (tCons te t):=by
 intro pos pins s σ H Q I h
 rw[hs]
 show wpAny _ _ (spliced ((false,eval e X.env)::backTo pos (starEach es X.env))) _ _ s
 refine Calls.spliced_cons (thn (ha pins s σ H _ I h) fun u s1 ⟨x,H1,I1,r1,q1⟩=>?_)
 exact thn (hr pos pins s1 σ H1 _ I1 q1) fun us s2 ⟨xs,H2,I2,r2,q2⟩=>⟨x::xs,H2,I2,.cons r1 r2,q2⟩
def tTup(t:TA):TE:=fun σ H Q=>t σ H fun xs H1=>xs.length≤sizeLine∧∀ p,H1 p=none→Q (.ref p) (upd H1 p (.tup xs))
def tLst(t:TA):TE:=fun σ H Q=>t σ H fun xs H1=>xs.length≤sizeLine∧∀ p,H1 p=none→Q (.ref p) (upd H1 p (.lst xs))
theorem pe_tup{x1}(h:PA X es t):PE X (.Tuple es x1 pos) (tTup t):=by
 intro pins s σ H Q I hq
 refine wpAny_Tuple_spliced (thn (h pos pins s σ H _ I hq) fun us s1 ⟨xs,H1,I1,r,z,q⟩=>⟨by rw[←r.length]; exact z,?_⟩)
 have hf:H1 s1.heap.objs.size=none:=I1.hok.fresh (Nat.le_refl _)
 refine⟨.ref s1.heap.objs.size,upd H1 s1.heap.objs.size (.tup xs),I1.laid (t':=s1.toks) (fun b u e=>Heap.get?_push_of_some _ e) (Nat.le_refl _) ?_,rfl,q _ hf⟩
 exact⟨z,us,r,⟨_,Heap.get?_push_size _ rfl,rfl,_,rfl⟩⟩
theorem pe_lst(h:PA X es t):PE X (.List es pos) (tLst t):=by
 intro pins s σ H Q I hq
 refine wpAny_List_spliced (thn (h pos pins s σ H _ I hq) fun us s1 ⟨xs,H1,I1,r,z,q⟩=>⟨by rw[←r.length]; exact z,?_⟩)
 have hf:H1 s1.heap.objs.size=none:=I1.hok.fresh (Nat.le_refl _)
 refine⟨.ref s1.heap.objs.size,upd H1 s1.heap.objs.size (.lst xs),I1.laid (t':=s1.toks) (fun b u e=>Heap.get?_push_of_some _ e) (Nat.le_refl _) ?_,rfl,q _ hf⟩
 exact⟨z,us,0,r,Heap.get?_push_size _ rfl⟩
end
abbrev Sp:=List V→Hp→VK→XK→Prop
abbrev CXT:=List Env→Hp→Shared→XK→Value→Shared→Prop
structure Env0(P:Program)(w:World)(K:PySem.W.Frag)(mg:Str→Option Value)(base:Heap)(A:Around)(outer:List Env)(s:Shared)(H:Hp):Prop where
 frames:A.frames=some outer
 mod:Mod K mg base
 bs:∀ b o,base.get? b=some o→s.heap.get? b=some o∧H b=none
 bsz:base.objs.size≤s.heap.objs.size
 funs:s.heap.FunFrames base outer
 frf:∀ b∈frs outer,H b=none
 hok:HOk P w H s.heap
 bare:AllBare s.gens
def CE(outer:List Env)(P:Program)(w:World)(H:Hp)(s:Shared)(Q:VK)(u:Value)(s':Shared):Prop:=
 ∃ v H',s'.os=s.os∧AllBare s'.gens∧Un (frs outer) [] H H' s.heap s'.heap∧HOk P w H' s'.heap∧RelV v u∧Q v H'
def CR(CX:CXT)(outer:List Env)(P:Program)(w:World)(H:Hp)(s:Shared)(Q:VK)(E:XK)(r:Result)(s':Shared):Prop:=
 match r with
 | .ok (.ret u)=>CE outer P w H s Q u s'
 | .ok _=>False
 | .error e=>CX outer H s E e s'
structure FnOk(P:Program)(w:World)(K:PySem.W.Frag)(mg:Str→Option Value)(base:Heap)(CX:CXT)(k:Nat)(f:Addr)(fd:FuncData)(ps:List Str)(sp:Sp):Prop where
 len:∀ vs H Q E,sp vs H Q E→vs.length=ps.length
 run:∀ (A:Around) (outer:List Env) (s:Shared) (H:Hp) (args:Args) (us:List Value) (vs:List V) (Q:VK) (E:XK),Room k A→Env0 P w K mg base A outer s H→BindsTo s fd args (ps.zip us)→Vals vs us→sp vs H Q E→
  codeAny (model P w) A (.call (.ref f) args) (CR CX outer P w H s Q E) s
theorem FnOk.mono{P:Program}{w:World}{K:PySem.W.Frag}{mg:Str→Option Value}{base:Heap}{CX:CXT}{j k:Nat}{f:Addr}{fd:FuncData}{ps:List Str}{sp:Sp}(F:FnOk P w K mg base CX j f fd ps sp)(h:j≤k):
  FnOk P w K mg base CX k f fd ps sp:=⟨F.len,fun A outer s H args us vs Q E hr=>F.run A outer s H args us vs Q E (hr.mono h)⟩
theorem Env0.make{P:Program}{w:World}{K:PySem.W.Frag}{mg:Str→Option Value}{base:Heap}{A:Around}{outer:List Env}{s:Shared}{H:Hp}(e:Env0 P w K mg base A outer s H)(C:Addr)(us:List Value)(kw:List (Str×Value)):
  Env0 P w K mg base (A.under (.builtin "type.__call__" ⟨.ref C::us,kw⟩)) outer s H:=⟨by first | exact e.frames | (simpa[Around.under,Code.envs,Code.isFrame,pushEnvs] using e.frames),e.mod,e.bs,e.bsz,e.funs,e.frf,e.hok,e.bare⟩
section
variable{X:Cx}{pins:List (Addr×Obj)}{σ:St}{H:Hp}{s s':Shared}
theorem Inv.env0(I:Inv X pins σ H s):Env0 X.prog X.w X.K X.mg X.base X.A X.stack s H:=
 ⟨I.ok.frames,I.ok.mod,I.bs,Nat.le_trans I.ok.bsz I.sz,I.stack,I.stkFree,I.hok,I.bare⟩
theorem Inv.after{Q:VK}{u:Value}(I:Inv X pins σ H s)(h:CE X.stack X.prog X.w H s Q u s'):EP X pins σ Q u s':=by
 obtain⟨v,H',os,bare,un,hok,r,q⟩:=h
 obtain⟨hh,g,d,t,os'⟩:=s'
 obtain rfl:os'=s.os:=os
 exact⟨v,H',I.call (h':=hh) (g':=g) (d':=d) (t':=t) (ch:=[]) un hok bare (fun b z=>absurd z (by simp)),r,q⟩
end
def tCall(sp:Sp)(dvs:List V)(E:XK)(t:TA):TE:=fun σ H Q=>t σ H fun vs H1=>sp (vs++dvs) H1 Q E
def Binds(K:PySem.W.Frag)(fd:FuncData)(ps:List Str)(ds:List Value):Prop:=
 ∀ (s:Shared) (us:List Value),K.In s.heap→(us++ds).length=ps.length→BindsTo s fd ⟨us,[]⟩ (ps.zip (us++ds))
theorem Binds.all{K:PySem.W.Frag}{fd:FuncData}{ps:List Str}(h:∀ us:List Value,us.length=ps.length→bindArgs fd ⟨us,[]⟩=pure (ps.zip us)):Binds K fd ps []:=fun s us _ hl=>by
 rw[List.append_nil] at hl ⊢
 exact .of_eq (h us hl)
def Passes(CX:CXT)(X:Cx)(E:XK):Prop:=∀ (pins:List (Addr×Obj)) (σ:St) (H:Hp) (s:Shared) (e:Value) (s':Shared),Inv X pins σ H s→CX X.stack H s E e s'→X.xe e s'
section
variable{X:Cx}{CX:CXT}{k:Nat}{f C:Addr}{fd:FuncData}{ps:List Str}{sp:Sp}{dvs:List V}{ds:List Value}{E:XK}{x m:Str}{p pos apos:Pos}{e o:Expr}{es:List Expr}{ta:TE}{t:TA}
theorem run_fn{pins:List (Addr×Obj)}{σ:St}{H:Hp}{s:Shared}{Q:VK}{us:List Value}{vs:List V}(F:FnOk X.prog X.w X.K X.mg X.base CX k f fd ps sp)(hr:Room k X.A)(hb:Binds X.K fd ps ds)(hd:Vals dvs ds)(hx:Passes CX X E)
  (I:Inv X pins σ H s) (r:Vals vs us) (h:sp (vs++dvs) H Q E):wpAny (model X.prog X.w) X.A (call (.ref f) us) (EP X pins σ Q) X.xe s:=by
 have r2:Vals (vs++dvs) (us++ds):=r.append hd
 have hl:(us++ds).length=ps.length:=by rw[←r2.length]; exact F.len _ _ _ _ h
 refine wpAny_call (codeAny_mono (F.run X.A X.stack s H ⟨us,[]⟩ (us++ds) (vs++dvs) Q E hr I.env0 (hb s us I.kIn hl) r2 h) fun r s' hq=>?_)
 cases r with
 | error e=>exact hx pins σ H s e s' I hq
 | ok fl=>
  cases fl with
  | ret u=>exact I.after hq
  | next=>exact False.elim hq
  | brk=>exact False.elim hq
  | cont=>exact False.elim hq
theorem pe_call(F:FnOk X.prog X.w X.K X.mg X.base CX k f fd ps sp)(hr:Room k X.A)(hg:Gl X x)(hm:X.mg x=some (.ref f))(hk:PySem.W.keepIn X.K (.ref f)=true)(hb:Binds X.K fd ps ds)(hd:Vals dvs ds)(hx:Passes CX X E)
  (ha:PA X (e::es) t) (hdb:(x==("__debug__":Str))=false:=by decide) (he:starEach (e::es) X.env=(false,eval e X.env)::starEach es X.env:=by rfl) (hpl:(backTo pos (starEach es X.env)).any (·.1)=false:=by rfl):
  PE X (.Call (.Name x p) (e::es) [] pos) (tCall sp dvs E t):=by
 intro pins s σ H Q I h
 refine wpAny_Call_Name_kw (ld_glob I hg hm ?_ hdb)
 refine PySem.W.callWith_K (h₀:=X.base) I.ok.mod.kin hk (thn (ha pos pins s σ H _ I h) fun us s1 ⟨vs,H1,I1,r,q⟩=>⟨I1.kIn,?_⟩) he hpl
 exact run_fn F hr hb hd hx I1 r q
structure Mk(K:PySem.W.Frag)(C f:Addr):Prop where
 makes:PySem.W.makesIn K C=true
 init:PySem.W.findIn K (.ref C) "__init__"=some (some (.ref f))
 fn:PySem.W.isFn K (.ref f)=true
 kp:PySem.W.keepIn K (.ref C)=true
end
section
variable{X:Cx}{CX:CXT}{k:Nat}{f C:Addr}{fd:FuncData}{ps ks:List Str}{sp:Sp}{E:XK}{x m:Str}{p pos apos kpos:Pos}{e o:Expr}{es:List Expr}{kws:List Keyword}{te ta:TE}{t tk:TA}{nm:Option Str}
structure KBinds(K:PySem.W.Frag)(fd:FuncData)(ps ks:List Str)(g:List Value→List Value→List Value)(gV:List V→List V→List V):Prop where
 to:∀ (s:Shared) (us ws:List Value),K.In s.heap→(g us ws).length=ps.length→BindsTo s fd ⟨us,ks.zip ws⟩ (ps.zip (g us ws))
 rel:∀ {vs:List V} {us:List Value} {zs:List V} {ws:List Value},Vals vs us→Vals zs ws→Vals (gV vs zs) (g us ws)
variable{g:List Value→List Value→List Value}{gV:List V→List V→List V}
end
structure FnScope(N P:List Str)(sc:Scope):Prop where
 kind:sc.kind=.function
 co:sc.isCoroutine=false
 gen:sc.isGenerator=false
 nd:N.Nodup
 pre:N.take P.length=P
 par:∀ x∈P,sc.names.lookup x=some .local∨sc.names.lookup x=some .cell
 nofree:∀ y∈sc.names,y.2≠.free
theorem bindL_out{kindOf:Str→Option NameKind}{x:Str}:∀ {binds:List (Str×Value)} {m:Str→Option Value},(∀ v,(x,v)∉binds)→bindL kindOf binds m x=m x
 | [],_,_=>rfl
 | (n,v)::r,m,h=>by
  unfold bindL
  rw[bindL_out fun w hw=>h w (List.mem_cons_of_mem _ hw)]
  split
  ·have:x≠n:=by rintro rfl; exact h v List.mem_cons_self
   simp[this]
  ·rfl
theorem bindC_out{kindOf:Str→Option NameKind}{x:Str}:∀ {binds:List (Str×Value)} {m:Str→Option Value},(∀ v,(x,v)∉binds)→bindC kindOf binds m x=m x
 | [],_,_=>rfl
 | (n,v)::r,m,h=>by
  unfold bindC
  rw[bindC_out fun w hw=>h w (List.mem_cons_of_mem _ hw)]
  split
  ·rfl
  ·have:x≠n:=by rintro rfl; exact h v List.mem_cons_self
   simp[this]
theorem bindL_get{kindOf:Str→Option NameKind}{x:Str}{v:Value}:∀ {P:List Str} {vs:List Value} {i:Nat} {m:Str→Option Value},P.Nodup→P[i]?=some x→vs[i]?=some v→kindOf x=some .local→
  bindL kindOf (P.zip vs) m x=some v
 | [],_,_,_,_,h,_,_=>by simp at h
 | _::_,[],_,_,_,_,h,_=>by simp at h
 | p::P,w::vs,0,m,nd,h1,h2,hk=>by
  simp at h1 h2; subst h1; subst h2
  show bindL kindOf ((p,w)::P.zip vs) m p=_
  unfold bindL
  rw[bindL_out fun v hv=>(List.nodup_cons.mp nd).1 (List.of_mem_zip hv).1,if_pos hk]
  simp
 | p::P,w::vs,i+1,m,nd,h1,h2,hk=>by
  show bindL kindOf ((p,w)::P.zip vs) m x=_
  unfold bindL
  exact bindL_get (i:=i) (List.nodup_cons.mp nd).2 (by simpa using h1) (by simpa using h2) hk
theorem bindC_get{kindOf:Str→Option NameKind}{x:Str}{v:Value}:∀ {P:List Str} {vs:List Value} {i:Nat} {m:Str→Option Value},P.Nodup→P[i]?=some x→vs[i]?=some v→kindOf x≠some .local→
  bindC kindOf (P.zip vs) m x=some v
 | [],_,_,_,_,h,_,_=>by simp at h
 | _::_,[],_,_,_,_,h,_=>by simp at h
 | p::P,w::vs,0,m,nd,h1,h2,hk=>by
  simp at h1 h2; subst h1; subst h2
  show bindC kindOf ((p,w)::P.zip vs) m p=_
  unfold bindC
  rw[bindC_out fun v hv=>(List.nodup_cons.mp nd).1 (List.of_mem_zip hv).1,if_neg hk]
  simp
 | p::P,w::vs,i+1,m,nd,h1,h2,hk=>by
  show bindC kindOf ((p,w)::P.zip vs) m x=_
  unfold bindC
  exact bindC_get (i:=i) (List.nodup_cons.mp nd).2 (by simpa using h1) (by simpa using h2) hk
def start(N:List Str)(vs:List V):St:=vs.map some++List.replicate (N.length-vs.length) none
def cxOf(CX:CXT)(P:Program)(w:World)(K:PySem.W.Frag)(mg:Str→Option Value)(base:Heap)(N:List Str)(qual:Str)(scope:Scope)(f:Addr)(cd:Value)(A:Around)(outer:List Env)(s:Shared)(H:Hp)(E:XK):Cx where
 prog:=P
 w:=w
 K:=K
 mg:=mg
 base:=base
 A:=A.deeper (envOfC qual scope s.heap.objs.size f cd)
 N:=N
 s₀:=s
 H₀:=H
 env:=envOfC qual scope s.heap.objs.size f cd
 outer:=outer
 stack:=envOfC qual scope s.heap.objs.size f cd::outer
 ex:=[]
 calm:=true
 fn:=fun _=>true
 pn:=[]
 xe:=fun e s'=>wpAny (model P w) (A.deeper (envOfC qual scope s.heap.objs.size f cd)) (leaving (envOfC qual scope s.heap.objs.size f cd) e) (fun _ s''=>CX outer H s E e s'') (fun e' s''=>CX outer H s E e' s'') s'
theorem cell_has{sc:Scope}{n:Nat}{x:Str}(h:sc.names.lookup x=some .cell):∃ c,(cellsFrom n sc.names []).lookup x=some c:=by
 have q:=PySem.W.cellsFrom_some sc.names n [] (.inl h)
 exact Option.isSome_iff_exists.mp q
theorem inv_start{CX:CXT}{P:Program}{w:World}{K:PySem.W.Frag}{mg:Str→Option Value}{base:Heap}{N ps:List Str}{qual:Str}{scope:Scope}{f:Addr}{cd:Value}{A:Around}{outer:List Env}{s s1:Shared}{H:Hp}{E:XK}{us:List Value}{vs:List V}
  (S:FnScope N ps scope) (hd:A.handled=none) (e0:Env0 P w K mg base A outer s H) (hl:vs.length=ps.length) (r:Vals vs us)
  (x:InCallC s s.heap.objs.size (bindL (envOfC qual scope s.heap.objs.size f cd).kindOf (ps.zip us) fun _=>none) (cellsFrom (s.heap.objs.size+1) scope.names []) (bindC (envOfC qual scope s.heap.objs.size f cd).kindOf (ps.zip us) fun _=>none) s1):
  Inv (cxOf CX P w K mg base N qual scope f cd A outer s H E) [] (start N vs) H s1:=by
 have hpl:ps.length≤N.length:=by have:=congrArg List.length S.pre; rw[List.length_take] at this; omega
 obtain⟨h1,tk,rfl,hk⟩:=x.done
 have noA:∀ b:Addr,b∉(cxOf CX P w K mg base N qual scope f cd A outer s H E).ex:=fun b z=>absurd (show b∈([]:List Addr) from z) (by simp)
 refine⟨⟨e0.mod,S.kind,rfl,rfl,Nat.le_refl _,fun y z c h1 h2=>?_,fun y hy=>?_,fun y c _ h=>?_,fun _=>hd,Around.frames_deeper e0.frames,.inr ⟨rfl,rfl⟩,fun b z=>absurd z (noA b),e0.bs,e0.bsz,fun b _ _=>noA b,fun b z=>absurd z (noA b),e0.funs,e0.frf⟩,
  rfl,e0.bare,Un.kept hk,⟨_,x.toInCall.ns,fun i y v h1 h2 h3=>?_⟩,fun y c h=>⟨_,x.cell y c h⟩,e0.hok.fresh (Nat.le_refl _),fun y c h=>?_,fun p hp=>absurd (show p∈([]:List (Addr×Obj)) from hp) (by simp),e0.hok.kept hk,?_⟩
 ·exact name_of_addr x.apart (PySem.mem_of_lookup h1) (PySem.mem_of_lookup h2)
 ·have hy:scope.names.lookup y=some .cell∨scope.names.lookup y=some .free:=hy
  rcases hy with hy | hy
  ·exact cell_has hy
  ·exact absurd rfl (S.nofree _ (PySem.mem_of_lookup hy))
 ·exact Nat.le_of_lt (x.above y c (PySem.mem_of_lookup h))
 ·have hi:i<vs.length:=by
   unfold start at h2
   by_cases hi:i<vs.length
   ·exact hi
   ·rw[List.getElem?_append_right (by simpa using hi)] at h2
    rw[List.getElem?_replicate] at h2
    split at h2<;>cases h2
  have ha:vs[i]?=some v:=by
   unfold start at h2
   rw[List.getElem?_append_left (by simpa using hi),List.getElem?_map] at h2
   cases e:vs[i]? with
   | none=>rw[e] at h2; cases h2
   | some a=>rw[e] at h2; cases h2; rfl
  obtain⟨u,hu,rv⟩:=r.get ha
  have hp:ps[i]?=some y:=by
   rw[←S.pre,List.getElem?_take_of_lt (by omega)]; exact h1
  have ndP:ps.Nodup:=by rw[←S.pre]; exact S.nd.sublist (List.take_sublist _ _)
  refine⟨u,rv,?_⟩
  rcases S.par y (List.mem_of_getElem? hp) with k | k
  ·exact .inl ⟨k,bindL_get ndP hp hu k⟩
  ·obtain⟨c,e⟩:=cell_has (n:=s.heap.objs.size+1) k
   refine .inr ⟨.inl k,c,e,?_⟩
   have q:=x.cell y c e
   rw[bindC_get ndP hp hu (by show scope.names.lookup y≠_; rw[k]; decide)] at q
   exact q
 ·exact e0.hok.fresh (Nat.le_of_lt (x.above y c (PySem.mem_of_lookup h)))
 ·unfold start
  show _=N.length
  rw[List.length_append,List.length_map,List.length_replicate]
  omega
theorem fn_of{CX:CXT}{P:Program}{w:World}{K:PySem.W.Frag}{mg:Str→Option Value}{base:Heap}{k:Nat}{f:Addr}{name qual:Str}{params:Arguments}{body:List Stmt}{scope:Scope}{dV kV doc pm cdv ct oc:Value}{an od:Option Addr}
  {osl:Array (Option Value)} {N ps:List Str} {sp:Sp} (lk:K.lookup f=some ⟨oc,od,.func (PySem.W.fnOf name qual params body scope dV kV doc pm an cdv ct),osl⟩) (hcd:PySem.W.codeIn K cdv qual=true) (S:FnScope N ps scope)
  (len:∀ vs H Q E,sp vs H Q E→vs.length=ps.length)
  (hbody:∀ (A:Around) (outer:List Env) (s:Shared) (H:Hp) (vs:List V) (Q:VK) (E:XK),Room k (A.deeper (envOfC qual scope s.heap.objs.size f cdv))→sp vs H Q E→
   ∃ t,PSs (cxOf CX P w K mg base N qual scope f cdv A outer s H E) body t∧t { nx:=fun _ H'=>Q .non H',rt:=Q } (start N vs) H):
  FnOk P w K mg base CX (k+1) f (PySem.W.fnOf name qual params body scope dV kV doc pm an cdv ct) ps sp:=by
 refine⟨len,fun A outer s H args us vs Q E hr e0 hb r hsp=>?_⟩
 have hl:=len _ _ _ _ hsp
 have KX:K.In s.heap:=e0.mod.kin.keeps fun b o e=>(e0.bs b o e).1
 have lim:s.heap.NoLimit:=e0.mod.nolimit.keeps fun b o e=>(e0.bs b o e).1
 have hkind:∀ y∈ps.zip us,scope.names.lookup y.1=some .local∨(scope.names.lookup y.1=some .cell∧((cellsFrom (s.heap.objs.size+1) scope.names []).lookup y.1).isSome=true):=fun⟨n,v⟩ hy=>by
  rcases S.par n (List.of_mem_zip hy).1 with q | q
  ·exact .inl q
  ·exact .inr ⟨q,PySem.W.cellsFrom_some _ _ _ (.inl q)⟩
 refine codeAny_call_function hr.depth (KX _ _ lk) rfl S.co S.gen rfl (PySem.W.codeRec_of KX hcd) (hb _ _ _ _ ?_)
 refine wpAny_newFunctionEnv_cells S.kind hkind fun env he s1 x=>?_
 subst he
 refine⟨lim.keeps x.toInCall.keep,codeAny_func ?_⟩
 obtain⟨t,ht,hq⟩:=hbody A outer s H vs Q E (hr.deeper _) hsp
 have I:Inv (cxOf CX P w K mg base N qual scope f cdv A outer s H E) [] (start N vs) H s1:=inv_start S hr.hd e0 hl r x
 refine wpAny_mono (ht [] s1 (start N vs) H _ I hq) (fun fl s' hs=>?_) fun e s' hs=>hs
 have fin:∀ {σ':St} {H':Hp} {v:V} {u:Value},Inv (cxOf CX P w K mg base N qual scope f cdv A outer s H E) [] σ' H' s'→RelV v u→Q v H'→CE outer P w H s Q u s':=
  fun{σ' H' v u} J rv q=>⟨v,H',J.os,J.bare,J.base,J.hok,rv,q⟩
 cases fl with
 | ret u=>
  obtain⟨v,σ',H',J,rv,q⟩:=hs
  exact fin J rv q
 | next=>
  obtain⟨σ',H',J,q⟩:=hs
  exact fin (v:=V.non) (u:=Value.none) J rfl q
 | brk=>
  obtain⟨_,_,_,q⟩:=hs
  exact False.elim q
 | cont=>
  obtain⟨_,_,_,q⟩:=hs
  exact False.elim q
end L2
namespace L2
open PySem PySem.Spec PyProof.Rows
section
variable{X:Cx}{x:Str}{p pos:Pos}{e:Expr}{es:List Expr}{t:TA}{id T:String}{r:List V→Hp→VK→Prop}
def tCB(r:List V→Hp→VK→Prop)(t:TA):TE:=fun σ H Q=>t σ H fun vs H1=>r vs H1 Q
theorem pe_callB(hc:CallR X (.builtin id) r)(hg:Gl X x)(hm:X.mg x=none)(hv:bootBuiltins x=some (.builtin id))(ha:PA X (e::es) t)(hn:x≠"__name__":=by decide)(hdb:(x==("__debug__":Str))=false:=by decide)
  (he:starEach (e::es) X.env=(false,eval e X.env)::starEach es X.env:=by rfl) (hpl:(backTo pos (starEach es X.env)).any (·.1)=false:=by rfl):PE X (.Call (.Name x p) (e::es) [] pos) (tCB r t):=by
 intro pins s σ H Q I h
 refine wpAny_Call_Name_kw (ld_blt I hg hm hv ?_ hn hdb)
 exact PyProof.Rows.callWith_builtin1 (thn (ha pos pins s σ H _ I h) fun us s1 ⟨vs,H1,I1,r1,q1⟩=>hc pins s1 σ H1 vs us Q I1 r1 q1) he hpl
theorem pe_callTy(hc:CallR X (.type T) r)(hg:Gl X x)(hm:X.mg x=none)(hv:bootBuiltins x=some (.type T))(ha:PA X (e::es) t)(hn:x≠"__name__":=by decide)(hdb:(x==("__debug__":Str))=false:=by decide)
  (he:starEach (e::es) X.env=(false,eval e X.env)::starEach es X.env:=by rfl) (hpl:(backTo pos (starEach es X.env)).any (·.1)=false:=by rfl):PE X (.Call (.Name x p) (e::es) [] pos) (tCB r t):=by
 intro pins s σ H Q I h
 refine wpAny_Call_Name_kw (ld_blt I hg hm hv ?_ hn hdb)
 exact PyProof.Rows.callWith_type1 (thn (ha pos pins s σ H _ I h) fun us s1 ⟨vs,H1,I1,r1,q1⟩=>hc pins s1 σ H1 vs us Q I1 r1 q1) he hpl
end
end L2
namespace HT
open PySem PyProof.Rows
section
open PySem.SeqAt
open PySem.AutoSeq1 (wpAny_loadPart')
open PySem.MeetsSeq PySem.MeetsSeq2 PySem.MeetsSeq3
end
section
variable{prog:Program}{w:World}{A:Around}{E:Value→Shared→Prop}{s:Shared}
theorem cat_tup{t b:Addr}{vs ws:List Value}{Q:Value→Shared→Prop}(ht:IsTup s.heap t vs.toArray)(hb:IsTup s.heap b ws.toArray)(hv:vs≠[])
  (h1:ws=[]→Q (.ref t) s) (h2:ws≠[]→Q (.ref s.heap.objs.size) { s with heap:=s.heap.push { cls:=.type "tuple",data:=.seq (vs++ws).toArray } })
  (hsz:vs.length+ws.length≤sizeLine):wpAny (model prog w) A (binaryOp .Add (.ref t) (.ref b)) Q E s:=by
 obtain⟨⟨cls,dd,data,sl⟩,ho,hc,n,hd⟩:=id ht
 obtain⟨⟨cls2,dd2,data2,sl2⟩,ho2,hc2,n2,hd2⟩:=id hb
 simp only at hc hd hc2 hd2
 subst hc hd hc2 hd2
 have e:vs.toArray++ws.toArray=(vs++ws).toArray:=by simp
 by_cases hw:ws=[]
 ·exact concat_meets ⟨_,ho,rfl⟩ ⟨_,ho2,rfl⟩ noFill_tuple_add seq_tuple_add PySem.F.slot_tuple_add PySem.F.entry_tuple_add (PySem.F.args_tuple_add_2 _ _)
   (tuple_addW1 t b vs.toArray ws.toArray n n2 dd dd2 sl sl2 (by simpa using hv) (by simp[hw])) ⟨ho,ho2,h1 hw⟩
 ·refine concat_meets ⟨_,ho,rfl⟩ ⟨_,ho2,rfl⟩ noFill_tuple_add seq_tuple_add PySem.F.slot_tuple_add PySem.F.entry_tuple_add (PySem.F.args_tuple_add_2 _ _)
   (tuple_addW2 t b vs.toArray ws.toArray n n2 dd dd2 sl sl2 (by simpa using hv) (by simpa using hw) (by rw[List.size_toArray,List.size_toArray]; exact hsz)) ⟨ho,ho2,?_⟩
  rw[e]
  exact h2 hw
def sIx(n d:Nat):Option Int→Nat
 | none=>d
 | some v=>if v<0 then(v+(n:Int)).toNat else min v.toNat n
theorem sIx_none(n d:Nat):sIx n d none=d:=rfl
theorem sIx_nat(n d k:Nat):sIx n d (some (k:Int))=min k n:=by
 show(if(k:Int)<0 then((k:Int)+(n:Int)).toNat else min (k:Int).toNat n)=min k n
 rw[if_neg (by omega),Int.toNat_natCast]
theorem sIx_le(n d:Nat)(hd:d≤n)(o:Option Int):sIx n d o≤n:=by
 cases o with
 | none=>exact hd
 | some v=>
  show(if v<0 then(v+(n:Int)).toNat else min v.toNat n)≤n
  by_cases hv:v<0
  ·rw[if_pos hv]; omega
  ·rw[if_neg hv]; exact Nat.min_le_right _ _
theorem clip_eq(v:Int)(n d:Nat):(if v<0 then max (v+(n:Int)) 0 else min v (n:Int))=((sIx n d (some v):Nat):Int):=by
 show(if v<0 then max (v+(n:Int)) 0 else min v (n:Int))=(((if v<0 then(v+(n:Int)).toNat else min v.toNat n):Nat):Int)
 by_cases hv:v<0
 ·simp only[if_pos hv]; omega
 ·simp only[if_neg hv]; omega
theorem adjust_gen(lo hi:Option Int)(n:Nat):Builtin.Slice.sliceAdjust lo hi 1 (n:Int)=(((sIx n 0 lo:Nat):Int),((sIx n n hi:Nat):Int)):=by
 have h1:¬ ((1:Int)<0):=by omega
 unfold Builtin.Slice.sliceAdjust
 simp only[h1,if_false]
 refine Prod.ext ?_ ?_
 ·cases lo with
  | none=>rfl
  | some v=>exact clip_eq v n 0
 ·cases hi with
  | none=>rfl
  | some v=>exact clip_eq v n n
theorem places_gen(i j:Nat):Builtin.Slice.slicePlaces (i:Int) (j:Int) 1=j-i:=by
 unfold Builtin.Slice.slicePlaces
 have h1:(1:Int)>0:=by omega
 simp only[h1,if_true,Int.ediv_one]
 split<;>omega
theorem slicePart_{v:Value}{o:Option Int}{Q:Option Int→Shared→Prop}(p:IsPart v o)(h:Q o s):wpAny (model prog w) A (Builtin.Slice.slicePartIndex v) Q E s:=by
 cases p with
 | none=>exact slicePart_none h
 | int i t=>exact slicePart_int h
theorem sliceApplied_gen{sl:Addr}{vl vu:Value}{lo hi:Option Int}{n:Nat}{Q:Int×Int×Nat→Shared→Prop}(hs:s.heap.IsSliceOf sl vl vu .none)(pl:IsPart vl lo)(pu:IsPart vu hi)
  (h:Q (((sIx n 0 lo:Nat):Int),1,sIx n n hi-sIx n 0 lo) s):wpAny (model prog w) A (Builtin.Slice.sliceApplied (.ref sl) (pure (n:Int))) Q E s:=by
 obtain⟨os,hos,hcs,hds⟩:=id hs
 unfold Builtin.Slice.sliceApplied Builtin.Slice.sliceFields
 refine wpAny_bind (wpAny_bind (wpAny_field hos hds (x:=vl) rfl (wpAny_bind (wpAny_field hos hds (x:=vu) rfl (wpAny_bind (wpAny_field hos hds (x:=.none) rfl (wpAny_pure ?_)))))))
 refine wpAny_bind (slicePart_none ?_)
 show wpAny _ _ (if((1:Int)==0)=true then _ else _) _ _ s
 rw[if_neg (by decide)]
 refine wpAny_bind (slicePart_ pl (wpAny_bind (slicePart_ pu (wpAny_bind (wpAny_pure ?_)))))
 show wpAny _ _ (match Builtin.Slice.sliceAdjust lo hi 1 (n:Int) with | (lo,hi)=>pure (lo,(1:Int),Builtin.Slice.slicePlaces lo hi 1)) _ _ s
 rw[adjust_gen lo hi n]
 show wpAny _ _ (pure (((sIx n 0 lo:Nat):Int),(1:Int),Builtin.Slice.slicePlaces ((sIx n 0 lo:Nat):Int) ((sIx n n hi:Nat):Int) 1)) _ _ s
 rw[places_gen]
 exact wpAny_pure h
theorem pick_gen(xs:Array Value)(i k:Nat):((List.range k).filterMap fun(m:Nat)=>xs[((i:Int)+(m:Int)*1).toNat]?).toArray=((xs.toList.drop i).take k).toArray:=by
 have e:(fun(m:Nat)=>xs[((i:Int)+(m:Int)*1).toNat]?)=fun m=>xs[i+m]?:=by
  funext m
  have:((i:Int)+(m:Int)*1).toNat=i+m:=by omega
  rw[this]
 rw[e]
 have:=pick_run xs i k
 rw[List.filterMap_map] at this
 have e2:((fun x=>xs[x]?)∘fun x=>i+x)=fun m=>xs[i+m]?:=rfl
 rw[e2] at this
 rw[this]
theorem getItem_tuple_cut{t sl:Addr}{items:Array Value}{vl vu:Value}{lo hi:Option Int}{Q:Value→Shared→Prop}(ht:IsTup s.heap t items)(hs:s.heap.IsSliceOf sl vl vu .none)(pl:IsPart vl lo)(pu:IsPart vu hi)
  (hw:¬ (sIx items.size 0 lo=0∧sIx items.size items.size hi=items.size))
  (h:Q (.ref s.heap.objs.size) { s with heap:=s.heap.push { cls:=.type "tuple",data:=.seq ((items.toList.drop (sIx items.size 0 lo)).take (sIx items.size items.size hi-sIx items.size 0 lo)).toArray } })
  (hsz:items.size≤sizeLine):wpAny (model prog w) A (getItem (.ref t) (.ref sl)) Q E s:=by
 have htake:sizeOk (.seq ((items.toList.drop (sIx items.size 0 lo)).take (sIx items.size items.size hi-sIx items.size 0 lo)).toArray):=by
  show((items.toList.drop (sIx items.size 0 lo)).take (sIx items.size items.size hi-sIx items.size 0 lo)).toArray.size≤sizeLine
  rw[List.size_toArray,List.length_take,List.length_drop,Array.length_toList]
  omega
 have hj:sIx items.size items.size hi≤items.size:=sIx_le _ _ (Nat.le_refl _) hi
 obtain⟨os,hos,hcs,hds⟩:=id hs
 have hTs:s.TypeIs (.ref sl) "slice":=⟨os,hos,hcs⟩
 unfold getItem
 try with_reducible refine wpAny_holding ?_
 first | refine wpAny_bind (wpAny_pure ?_) | skip
 refine wpAny_bind (wpAny_sequenceKey ht.typeIs (by decide) ?_)
 refine wpAny_bind (wpAny_callSpecial?_slot (name:=Str.ofString "__getitem__") ht.typeIs PyProof.Rows.slot_tuple_getitem
  (wpAny_call_entry PyProof.Rows.slot_tuple_getitem ht.typeIs entry_tuple_getitem ?_ (args_tuple_getitem _ _)))
 show wpAny _ _ (Builtin.Tuple.tupleItemsOf (.ref t) >>= _) _ _ s
 refine wpAny_bind (tupleItemsOf_ ht ?_)
 refine wpAny_bind (wpAny_typeOf hTs ?_)
 rw[if_pos (by decide)]
 refine wpAny_bind (sliceApplied_gen hs pl pu ?_)
 have hno:¬ ((((sIx items.size 0 lo:Nat):Int)==0&&(1:Int)==1&&(sIx items.size items.size hi-sIx items.size 0 lo)==items.size)=true):=by
  intro q
  rw[Bool.and_eq_true,Bool.and_eq_true] at q
  have q1:((sIx items.size 0 lo:Nat):Int)=0:=eq_of_beq q.1.1
  have q2:sIx items.size items.size hi-sIx items.size 0 lo=items.size:=eq_of_beq q.2
  exact hw ⟨by omega,by omega⟩
 show wpAny _ _ (if(((sIx items.size 0 lo:Nat):Int)==0&&(1:Int)==1&&(sIx items.size items.size hi-sIx items.size 0 lo)==items.size)=true then _ else _) _ _ s
 rw[if_neg hno,pick_gen]
 first
  | exact wpAny_bind (m:=Builtin.Tuple.tupleExact _) (wpAny_newObj_type (wpAny_pure ⟨_,rfl,wpAny_pure h⟩) htake)
  | exact wpAny_bind (m:=Builtin.Tuple.tupleExact _) (wpAny_newObj_type (wpAny_bind (wpAny_pure (wpAny_pure ⟨_,rfl,wpAny_pure h⟩))) htake)
  | exact wpAny_bind (wpAny_bind (m:=Builtin.Tuple.tupleExact _) (wpAny_newObj_type (wpAny_pure (wpAny_pure ⟨_,rfl,wpAny_pure h⟩)) htake))
  | exact wpAny_bind (wpAny_bind (m:=Builtin.Tuple.tupleExact _) (wpAny_newObj_type (wpAny_pure ⟨_,rfl,wpAny_pure h⟩) htake))
end
end HT
namespace L2
open PySem PySem.Spec PyProof.Rows
abbrev TO:=St→Hp→(Option Int→Hp→Prop)→Prop
def PO(X:Cx)(e:Option Expr)(t:TO):Prop:=
 ∀ (pins:List (Addr×Obj)) (s:Shared) (σ:St) (H:Hp) (Q:Option Int→Hp→Prop),Inv X pins σ H s→t σ H Q→
  wpAny (model X.prog X.w) X.A (evalPart e X.env) (fun u s'=>∃ o H',Inv X pins σ H' s'∧IsPart u o∧Q o H') X.xe s
def tNoPart:TO:=fun _ H Q=>Q none H
def tPart(t:TE):TO:=fun σ H Q=>t σ H fun x H1=>∃ i,x=.int i∧Q (some i) H1
theorem intsAre_of{ns:List Int}:∀ {us:List Value},Vals (ns.map V.int) us→IntsAre us ns:=by
 induction ns with
 | nil=>intro us r; rw[List.map_nil] at r; cases r; exact .nil
 | cons n ns ih=>
  intro us r
  rw[List.map_cons] at r
  cases r with
  | cons r1 r2=>
   obtain⟨t,e⟩:=r1
   subst e
   exact .cons n t (ih r2)
section
variable{X:Cx}{e:Expr}{te:TE}{lo hi:Option Expr}{tl th:TO}{pos p2:Pos}
theorem po_none:PO X none tNoPart:=by
 intro pins s σ H Q I h
 rw[evalPart_none]
 exact wpAny_pure ⟨none,H,I,.none,h⟩
theorem po_some(h:PE X e te):PO X (some e) (tPart te):=by
 intro pins s σ H Q I hw
 rw[evalPart_some]
 refine thn (h pins s σ H _ I hw) fun u s1 ⟨x,H1,I1,r1,q1⟩=>?_
 obtain⟨i,rfl,q⟩:=q1
 obtain⟨t,rfl⟩:=r1
 exact⟨some i,H1,I1,.int i t,q⟩
def SlR(X:Cx)(r:V→Option Int→Option Int→Hp→VK→Prop):Prop:=
 ∀ (pins:List (Addr×Obj)) (s:Shared) (σ:St) (H:Hp) (x:V) (v vl vu:Value) (lo hi:Option Int) (sl:Addr) (Q:VK),Inv X pins σ H s→RelV x v→s.heap.IsSliceOf sl vl vu .none→IsPart vl lo→IsPart vu hi→r x lo hi H Q→
  ∃ T id,typeLookup (.type T) "__getitem__"=pure (some (.builtin id))∧s.TypeIs v T∧wpAny (model X.prog X.w) X.A (getItem v (.ref sl)) (EP X pins σ Q) X.xe s
theorem SlR.or{r r':V→Option Int→Option Int→Hp→VK→Prop}(h:SlR X r)(h':SlR X r'):SlR X (fun x lo hi H Q=>r x lo hi H Q∨r' x lo hi H Q):=by
 intro pins s σ H x v vl vu lo hi sl Q I rx hs pl pu q
 rcases q with q | q
 ·exact h pins s σ H x v vl vu lo hi sl Q I rx hs pl pu q
 ·exact h' pins s σ H x v vl vu lo hi sl Q I rx hs pl pu q
def tSl(r:V→Option Int→Option Int→Hp→VK→Prop)(te:TE)(tl th:TO):TE:=fun σ H Q=>te σ H fun x H1=>tl σ H1 fun l H2=>th σ H2 fun u H3=>r x l u H3 Q
theorem pe_slice{r:V→Option Int→Option Int→Hp→VK→Prop}(hr:SlR X r)(he:PE X e te)(hl:PO X lo tl)(hu:PO X hi th):PE X (.Subscript e (.Slice lo hi none p2) pos) (tSl r te tl th):=by
 intro pins s σ H Q I h
 refine Subscript_ (thn (he pins s σ H _ I h) fun v s1 ⟨x,H1,I1,r1,q1⟩=>?_)
 refine wpAny_Slice (thn (hl pins s1 σ H1 _ I1 q1) fun vl s2 ⟨l,H2,I2,pl,q2⟩=>thn (hu pins s2 σ H2 _ I2 q2) fun vu s3 ⟨u,H3,I3,pu,q3⟩=>?_)
 rw[evalPart_none]
 refine wpAny_pure ?_
 have I4:Inv X pins σ H3 { s3 with heap:=s3.heap.push { cls:=.type "slice",data:=.fields #[vl,vu,.none] } }:=I3.kept (t':=s3.toks) fun b ob q=>Heap.get?_push_of_some _ q
 obtain⟨T,id,hT,ht,hg⟩:=hr pins { s3 with heap:=s3.heap.push { cls:=.type "slice",data:=.fields #[vl,vu,.none] } } σ H3 x v vl vu l u s3.heap.objs.size Q I4 r1 (Heap.IsSliceOf.new ..) pl pu q3
 show wpAny (model X.prog X.w) X.A (subscriptTail e (.Slice lo hi none p2) v (.ref s3.heap.objs.size)) (EP X pins σ Q) X.xe { s3 with heap:=s3.heap.push { cls:=.type "slice",data:=.fields #[vl,vu,.none] } }
 exact tail_any (ops:=[.ref s3.heap.objs.size,v]) ht hT hg (by with_unfolding_all rfl)
def cutV(xs:List V)(lo hi:Option Int):List V:=(xs.drop (HT.sIx xs.length 0 lo)).take (HT.sIx xs.length xs.length hi-HT.sIx xs.length 0 lo)
theorem cutV_length(xs:List V)(lo hi:Option Int):(cutV xs lo hi).length≤xs.length:=by
 unfold cutV
 rw[List.length_take,List.length_drop]
 omega
def rSlT(K:PySem.W.Frag):V→Option Int→Option Int→Hp→VK→Prop:=fun x lo hi H Q=>∃ a xs,x=.ref a∧SqT K H a xs∧
 ¬ (HT.sIx xs.length 0 lo=0∧HT.sIx xs.length xs.length hi=xs.length)∧∀ p,H p=none→Q (.ref p) (upd H p (.tup (cutV xs lo hi)))
theorem sl_tup:SlR X (rSlT X.K):=by
 intro pins s σ H x v vl vu lo hi sl Q I rx hs pl pu h
 obtain⟨a,xs,rfl,hx,hw,q⟩:=h
 cases rx
 obtain⟨its,r,ht,hz⟩:=I.tuple hx
 have hlen:its.toArray.size=xs.length:=by rw[List.size_toArray]; exact r.length.symm
 refine⟨"tuple",_,PyProof.Rows.slot_tuple_getitem.lookup,ht.typeIs,?_⟩
 refine HT.getItem_tuple_cut ht hs pl pu (by rw[hlen]; exact hw) ?_ (by rw[hlen]; exact hz)
 rw[hlen]
 refine⟨.ref s.heap.objs.size,_,I.laid (t':=s.toks) (o:=.tup (cutV xs lo hi)) (fun b ob q=>Heap.get?_push_of_some _ q) (Nat.le_refl _) ?_,rfl,q _ (I.hok.fresh (Nat.le_refl _))⟩
 exact⟨Nat.le_trans (cutV_length xs lo hi) hz,_,(r.drop (HT.sIx xs.length 0 lo)).take (HT.sIx xs.length xs.length hi-HT.sIx xs.length 0 lo),IsTup.new _ _⟩
def rCatT(K:PySem.W.Frag):R2:=fun x y H Q=>∃ a b xs ys,x=.ref a∧y=.ref b∧SqT K H a xs∧SqT K H b ys∧xs≠[]∧xs.length+ys.length≤sizeLine∧
 (ys=[]→Q (.ref a) H)∧(ys≠[]→∀ p,H p=none→Q (.ref p) (upd H p (.tup (xs++ys))))
theorem Vals.nil_iff{xs:List V}{us:List Value}(r:Vals xs us):us=[]↔xs=[]:=by
 cases r with
 | nil=>simp
 | cons _ _=>simp
theorem op_catT:OpR X (binaryOp .Add) (rCatT X.K):=by
 intro pins s σ H x y v u Q I rx ry h
 obtain⟨a,b,xs,ys,rfl,rfl,ha,hb,hx,hz,q1,q2⟩:=h
 cases rx
 cases ry
 obtain⟨its,r1,p1,_⟩:=I.tuple ha
 obtain⟨its2,r2,p2,_⟩:=I.tuple hb
 refine HT.cat_tup p1 p2 (fun z=>hx (r1.nil_iff.mp z)) (fun z=>⟨.ref a,H,I,rfl,q1 (r2.nil_iff.mp z)⟩) (fun z=>?_) (by rw[←r1.length,←r2.length]; exact hz)
 refine⟨.ref s.heap.objs.size,_,I.laid (t':=s.toks) (o:=.tup (xs++ys)) (fun b ob q=>Heap.get?_push_of_some _ q) (Nat.le_refl _) ?_,rfl,q2 (fun w=>z (r2.nil_iff.mpr w)) _ (I.hok.fresh (Nat.le_refl _))⟩
 exact⟨by rw[List.length_append]; exact hz,_,r1.append r2,IsTup.new _ _⟩
end
end L2
namespace L2
open PySem PySem.Spec PyProof.Rows
def ixN(n:Nat)(i:Int):Option Nat:=if 0≤i then(if i<n then some i.toNat else none) else if -(n:Int)≤i then some (i+n).toNat else none
def atI{α:Type}(xs:List α)(i:Int):Option α:=(ixN xs.length i).bind fun j=>xs[j]?
theorem ixN_seq{n:Nat}{i:Int}{j:Nat}(h:ixN n i=some j):seqIndex? i n=some j∧j<n ∧ -(n:Int)≤i∧i<n:=by
 unfold ixN at h
 by_cases h0:0≤i
 ·rw[if_pos h0] at h
  by_cases h1:i<n
  ·rw[if_pos h1] at h
   have e:i.toNat=j:=Option.some.inj h
   exact⟨by rw[seqIndex_of h0 h1,e],by omega,by omega,h1⟩
  ·rw[if_neg h1] at h; cases h
 ·rw[if_neg h0] at h
  by_cases h1 : -(n:Int)≤i
  ·rw[if_pos h1] at h
   have e:(i+n).toNat=j:=Option.some.inj h
   exact⟨by rw[seqIndex_neg (by omega) h1,e],by omega,h1,by omega⟩
  ·rw[if_neg h1] at h; cases h
theorem atI_get{α:Type}{xs:List α}{i:Int}{v:α}(h:atI xs i=some v):∃ j,seqIndex? i xs.length=some j∧xs[j]?=some v∧j<xs.length ∧ -(xs.length:Int)≤i∧i<xs.length:=by
 unfold atI at h
 cases e:ixN xs.length i with
 | none=>rw[e] at h; cases h
 | some j=>
  rw[e] at h
  obtain⟨h1,h2,h3,h4⟩:=ixN_seq e
  exact⟨j,h1,h,h2,h3,h4⟩
def PlainIx(b:Expr):Prop:=∀ o i,subscripted b false o i=operate [o,i] (getItem o i)
def IxR(X:Cx)(r:R2):Prop:=
 ∀ (value slice:Expr) (pins:List (Addr×Obj)) (s:Shared) (σ:St) (H:Hp) (x y:V) (v u:Value) (Q:VK),Inv X pins σ H s→RelV x v→RelV y u→r x y H Q→
  subscripted slice false v u=operate [v,u] (getItem v u)→wpAny (model X.prog X.w) X.A (subscriptTail value slice v u) (EP X pins σ Q) X.xe s
def MtR(X:Cx)(id:String)(r:V→List V→Hp→VK→Prop):Prop:=
 ∀ (pins:List (Addr×Obj)) (s:Shared) (σ:St) (H:Hp) (x:V) (xs:List V) (v:Value) (us:List Value) (Q:VK),Inv X pins σ H s→RelV x v→Vals xs us→r x xs H Q→
  wpAny (model X.prog X.w) X.A (call (.builtin id) (v::us)) (EP X pins σ Q) X.xe s
section
variable{X:Cx}{a b:Expr}{ta tb:TE}{pos:Pos}
theorem IxR.or{r r':R2}(h:IxR X r)(h':IxR X r'):IxR X (fun x y H Q=>r x y H Q∨r' x y H Q):=by
 intro value slice pins s σ H x y v u Q I rx ry q hs
 rcases q with q | q
 ·exact h value slice pins s σ H x y v u Q I rx ry q hs
 ·exact h' value slice pins s σ H x y v u Q I rx ry q hs
theorem pe_ix{r:R2}(hr:IxR X r)(ha:PE X a ta)(hb:PE X b tb)(hs:PlainIx b):PE X (.Subscript a b pos) (tOp r ta tb):=by
 intro pins s σ H Q I h
 exact Subscript_ (binT ha hb I h fun v u s2 x y H2 I2 rx ry q=>hr a b pins s2 σ H2 x y v u Q I2 rx ry q (hs _ _))
def rIxL(K:PySem.W.Frag):R2:=fun x y H Q=>∃ p xs i v,x=.ref p∧y=.int i∧SqL K H p xs∧atI xs i=some v∧Q v H
def rIxT(K:PySem.W.Frag):R2:=fun x y H Q=>∃ p xs i v,x=.ref p∧y=.int i∧SqT K H p xs∧atI xs i=some v∧Q v H
def rIxS:R2:=fun x y H Q=>∃ z i c,x=.str z∧y=.int i∧z.length≤sizeLine∧atI z.cps.toList i=some c∧Q (.str ⟨#[c]⟩) H
theorem ix_list:IxR X (rIxL X.K):=by
 intro value slice pins s σ H x y v u Q I rx ry h hs
 obtain⟨p,xs,i,z,rfl,rfl,hq,he,q⟩:=h
 cases rx
 obtain⟨t,rfl⟩:=ry
 obtain⟨its,r,pl,hz⟩:=I.list hq
 obtain⟨j,h1,h2,h3,h4,h5⟩:=atI_get he
 obtain⟨w,ew,rw'⟩:=r.get h2
 have hl:=r.length
 have hn:=line63
 have fin:EP X pins σ Q w s:=⟨z,H,I,rw',q⟩
 by_cases h0:0≤i
 ·have hj:i.toNat=j:=by
   rw[seqIndex_of h0 h5] at h1
   exact Option.some.inj h1
  exact item_listR pl.isList h0 (by omega) (by rw[hj]; simpa using ew) fin hs
 ·have hj:(i+(its.toArray.size:Int)).toNat=j:=by
   rw[seqIndex_neg (by omega) h4] at h1
   rw[List.size_toArray,←hl]
   exact Option.some.inj h1
  exact subscriptTail_builtinR (x:=w) pl.isList.typeIs slot_list_getitem.lookup
   (wpAny_getItem_list_neg (Q:=fun r s'=>r=w∧EP X pins σ Q r s') pl.isList (by omega) (by rw[List.size_toArray]<;>omega) (by omega) (by rw[hj]; simpa using ew) ⟨rfl,fin⟩) hs
theorem ix_tup:IxR X (rIxT X.K):=by
 intro value slice pins s σ H x y v u Q I rx ry h hs
 obtain⟨p,xs,i,z,rfl,rfl,hq,he,q⟩:=h
 cases rx
 obtain⟨t,rfl⟩:=ry
 obtain⟨its,r,pl,hz⟩:=I.tuple hq
 obtain⟨j,h1,h2,h3,h4,h5⟩:=atI_get he
 obtain⟨w,ew,rw'⟩:=r.get h2
 have hl:=r.length
 have hn:=line63
 have fin:EP X pins σ Q w s:=⟨z,H,I,rw',q⟩
 exact subscriptTail_builtinR (x:=w) pl.typeIs slot_tuple_getitem.lookup
  (getItem_tuple (j:=j) (Q:=fun r s'=>r=w∧EP X pins σ Q r s') pl (by omega) (by omega) (by rw[List.size_toArray,←hl]; exact h1) (by simpa using ew) ⟨rfl,fin⟩) hs
theorem ix_str:IxR X rIxS:=by
 intro value slice pins s σ H x y v u Q I rx ry h hs
 obtain⟨z,i,c,rfl,rfl,hz,he,q⟩:=h
 obtain⟨t,rfl⟩:=rx
 obtain⟨t',rfl⟩:=ry
 obtain⟨j,h1,h2,h3,h4,h5⟩:=atI_get he
 have hl:z.cps.toList.length=z.length:=by simp[Str.length]
 rw[hl] at h1 h4 h5
 have hn:=line63
 exact tail_any (typeIs_str s z t) slot_str_getitem.lookup (getItem_str (c:=c) (by
  have e1:decide (i < -(2^63:Int))=false:=decide_eq_false (by omega)
  have e2:decide (i≥2^63)=false:=decide_eq_false (by omega)
  rw[e1,e2,Bool.or_false]) (by rw[h1]; simpa using h2) ⟨.str ⟨#[c]⟩,H,I.tok _,⟨_,rfl⟩,q⟩) hs
def rIx(K:PySem.W.Frag):R2:=fun x y H Q=>rIxL K x y H Q∨rIxT K x y H Q∨rIxS x y H Q
theorem ix_seq:IxR X (rIx X.K):=ix_list.or (ix_tup.or ix_str)
theorem mapSeq_set(its:List Value)(n j:Nat)(u:Value):Obj.mapSeq (·.setIfInBounds j u) { cls:=.type "list",data:=.seq its.toArray n }={ cls:=.type "list",data:=.seq (its.set j u).toArray n }:=by
 simp[Obj.mapSeq]
theorem Inv.lst{pins:List (Addr×Obj)}{σ:St}{H:Hp}{s:Shared}{p:Addr}{xs:List V}(I:Inv X pins σ H s)(h:H p=some (.lst xs)):
  ∃ (its:List Value) (n:Nat),Vals xs its∧s.heap.get? p=some { cls:=.type "list",data:=.seq its.toArray n }∧xs.length≤sizeLine:=by
 obtain⟨z,its,n,r,e⟩:=I.hok p _ h
 exact⟨its,n,r,e,z⟩
theorem Inv.lstUpd{pins:List (Addr×Obj)}{σ:St}{H:Hp}{s:Shared}{p:Addr}{xs ys:List V}{its its':List Value}{n n':Nat}{f:Obj→Obj}(I:Inv X pins σ H s)(h:H p=some (.lst xs))
  (ho:s.heap.get? p=some { cls:=.type "list",data:=.seq its.toArray n }) (hf:f { cls:=.type "list",data:=.seq its.toArray n }={ cls:=.type "list",data:=.seq its'.toArray n' }) (r:Vals ys its') (hz:ys.length≤sizeLine) (t:Nat):
  Inv X pins σ (upd H p (.lst ys)) { s with heap:=s.heap.update p f,toks:=t }:=by
 have e:(s.heap.update p f).get? p=some { cls:=.type "list",data:=.seq its'.toArray n' }:=by
  rw[Heap.get?_update_self f ho (by rw[hf]<;>rfl),hf]
 refine I.write (x:=p) (e:=p) (by rw[h]; trivial) (.inl rfl) (fun b u hb q=>(Heap.get?_update_other _ _ (Ne.symm hb)).trans q) ⟨_,e⟩ ?_
 exact⟨hz,its',n',r,e⟩
def rSetL:V→V→V→Hp→(Hp→Prop)→Prop:=fun o i v H Q=>∃ p xs k j,o=.ref p∧i=.int k∧H p=some (.lst xs)∧ixN xs.length k=some j∧Q (upd H p (.lst (xs.set j v)))
theorem set_list:PSet X rSetL:=by
 intro pins s σ H o i v ov iv u Q I ro ri rv h
 obtain⟨p,xs,k,j,rfl,rfl,hp,hj,q⟩:=h
 cases ro
 obtain⟨t,rfl⟩:=ri
 obtain⟨its,n,r,ho,hz⟩:=I.lst hp
 obtain⟨h1,h2,h3,h4⟩:=ixN_seq hj
 have hl:=r.length
 have hn:=line63
 have I':Inv X pins σ (upd H p (.lst (xs.set j v))) { s with heap:=s.heap.update p (Obj.mapSeq (·.setIfInBounds j u)) }:=
  I.lstUpd hp ho (mapSeq_set its n j u) (r.set rv j) (by rw[List.length_set]; exact hz) s.toks
 by_cases h0:0≤k
 ·have hk:k.toNat=j:=by
   rw[seqIndex_of h0 h4] at h1
   exact Option.some.inj h1
  exact PySem.W.ki_setAt ho h0 (by omega) (by rw[List.size_toArray,←hl]; exact h4) (by rw[hk]; exact⟨_,I',q⟩)
 ·have hk:(k+(its.toArray.size:Int)).toNat=j:=by
   rw[seqIndex_neg (by omega) h3] at h1
   rw[List.size_toArray,←hl]
   exact Option.some.inj h1
  exact PySem.W.ki_setBack ho (by omega) (by rw[List.size_toArray,←hl]; exact h3) (by omega) (by rw[hk]; exact⟨_,I',q⟩)
theorem slice_bounds(lo hi:Option Int)(n:Nat):(sliceBounds lo hi none n).1=((HT.sIx n 0 lo:Nat):Int)∧(sliceBounds lo hi none n).2.1=((HT.sIx n n hi:Nat):Int)∧(sliceBounds lo hi none n).2.2=1:=by
 refine⟨?_,?_,rfl⟩
 ·cases lo with
  | none=>simp[sliceBounds,HT.sIx]
  | some i=>
   simp only[sliceBounds,HT.sIx,Option.getD_none,show(1:Int)>0 by decide,if_true]
   by_cases h:i<0
   ·simp only[h,if_true]<;>omega
   ·simp only[h,if_false]<;>omega
 ·cases hi with
  | none=>simp[sliceBounds,HT.sIx]
  | some i=>
   simp only[sliceBounds,HT.sIx,Option.getD_none,show(1:Int)>0 by decide,if_true]
   by_cases h:i<0
   ·simp only[h,if_true]<;>omega
   ·simp only[h,if_false]<;>omega
theorem slicePick_cut(its:List Value)(lo hi:Option Int):slicePick its.toArray lo hi none=((its.drop (HT.sIx its.length 0 lo)).take (HT.sIx its.length its.length hi-HT.sIx its.length 0 lo)).toArray:=by
 obtain⟨h1,h2,h3⟩:=slice_bounds lo hi its.toArray.size
 unfold slicePick
 rw[h1,h2,h3]
 simp only[sliceRange_one,pick_run,List.size_toArray]<;>rfl
def rSlL(K:PySem.W.Frag):V→Option Int→Option Int→Hp→VK→Prop:=fun x lo hi H Q=>∃ a xs,x=.ref a∧SqL K H a xs∧∀ p,H p=none→Q (.ref p) (upd H p (.lst (cutV xs lo hi)))
theorem sl_list:SlR X (rSlL X.K):=by
 intro pins s σ H x v vl vu lo hi sl Q I rx hs pl pu h
 obtain⟨a,xs,rfl,hx,q⟩:=h
 cases rx
 obtain⟨its,r,ht,hz⟩:=I.list hx
 have hlen:=r.length
 refine⟨"list",_,slot_list_getitem.lookup,ht.isList.typeIs,?_⟩
 refine wpAny_getItem_list_slice ht.isList hs pl pu .none (by simp) ?_ (by rw[List.size_toArray]<;>omega)
 rw[slicePick_cut,←hlen]
 refine⟨.ref s.heap.objs.size,_,I.laid (t':=s.toks) (o:=.lst (cutV xs lo hi)) (fun b ob q=>Heap.get?_push_of_some _ q) (Nat.le_refl _) ?_,rfl,q _ (I.hok.fresh (Nat.le_refl _))⟩
 exact⟨Nat.le_trans (cutV_length xs lo hi) hz,_,0,(r.drop (HT.sIx xs.length 0 lo)).take (HT.sIx xs.length xs.length hi-HT.sIx xs.length 0 lo),Heap.get?_push_size _ rfl⟩
def flatV:V→Bool
 | .non=>true
 | .bl _=>true
 | .int _=>true
 | .str _=>true
 | _=>false
def eqV:V→V→Bool
 | .non,.non=>true
 | .bl a,.bl b=>a==b
 | .bl a,.int b=>(if a then 1 else 0)==b
 | .int a,.bl b=>a==(if b then 1 else 0)
 | .int a,.int b=>a==b
 | .str a,.str b=>a==b
 | _,_=>false
theorem eqAt_V{A:Around}{s:Shared}{y x:V}{u v:Value}(ry:RelV y u)(rx:RelV x v)(fy:flatV y=true)(fx:flatV x=true):SeqAt.EqAt A s u v (eqV y x):=by
 cases y with
 | non=>
  cases ry
  cases x with
  | non=>cases rx; exact SeqAt.EqAt.same _
  | bl b=>cases rx; exact SeqAt.EqAt.none_bool b
  | int b=>obtain⟨t,rfl⟩:=rx; exact SeqAt.EqAt.none_int b t
  | str b=>obtain⟨t,rfl⟩:=rx; exact SeqAt.EqAt.none_str b t
  | _=>exact absurd (show false=true from fx) Bool.false_ne_true
 | bl a=>
  cases ry
  cases x with
  | non=>cases rx; exact SeqAt.EqAt.bool_none a
  | bl b=>cases rx; exact SeqAt.EqAt.bool_bool a b
  | int b=>obtain⟨t,rfl⟩:=rx; exact SeqAt.EqAt.bool_int a b t
  | str b=>obtain⟨t,rfl⟩:=rx; exact SeqAt.EqAt.bool_str a b t
  | _=>exact absurd (show false=true from fx) Bool.false_ne_true
 | int a=>
  obtain⟨t',rfl⟩:=ry
  cases x with
  | non=>cases rx; exact SeqAt.EqAt.int_none a t'
  | bl b=>cases rx; exact SeqAt.EqAt.int_bool a t' b
  | int b=>obtain⟨t,rfl⟩:=rx; exact SeqAt.EqAt.int_int a t' b t
  | str b=>obtain⟨t,rfl⟩:=rx; exact SeqAt.EqAt.int_str a t' b t
  | _=>exact absurd (show false=true from fx) Bool.false_ne_true
 | str a=>
  obtain⟨t',rfl⟩:=ry
  cases x with
  | non=>cases rx; exact SeqAt.EqAt.str_none a t'
  | bl b=>cases rx; exact SeqAt.EqAt.str_bool a t' b
  | int b=>obtain⟨t,rfl⟩:=rx; exact SeqAt.EqAt.str_int a t' b t
  | str b=>obtain⟨t,rfl⟩:=rx; exact SeqAt.EqAt.str_str a t' b t
  | _=>exact absurd (show false=true from fx) Bool.false_ne_true
 | _=>exact absurd (show false=true from fy) Bool.false_ne_true
def eqU(x:V)(u:Value):Bool:=match u with
 | .none=>eqV .non x
 | .bool b=>eqV (.bl b) x
 | .int i _=>eqV (.int i) x
 | .str z _=>eqV (.str z) x
 | _=>false
theorem eqU_of{x y:V}{u:Value}(r:RelV y u)(f:flatV y=true):eqU x u=eqV y x:=by
 cases y with
 | non=>cases r; rfl
 | bl b=>cases r; rfl
 | int i=>obtain⟨t,rfl⟩:=r; rfl
 | str z=>obtain⟨t,rfl⟩:=r; rfl
 | _=>exact absurd (show false=true from f) Bool.false_ne_true
theorem any_eqU{x:V}:∀ {xs:List V} {us:List Value},Vals xs us→xs.all flatV=true→us.any (eqU x)=xs.any fun y=>eqV y x
 | _,_,.nil,_=>rfl
 | y::xs,u::us,.cons r t,f=>by
  rw[List.all_cons,Bool.and_eq_true] at f
  rw[List.any_cons,List.any_cons,eqU_of r f.1,any_eqU t f.2]
theorem mem_eqAt{A:Around}{s:Shared}{x:V}{v:Value}(rx:RelV x v)(fx:flatV x=true):∀ {xs:List V} {us:List Value},Vals xs us→xs.all flatV=true→∀ u∈us,SeqAt.EqAt A s u v (eqU x u)
 | _,_,.nil,_=>fun u hu=>by cases hu
 | y::xs,u::us,.cons r t,f=>fun u' hu=>by
  rw[List.all_cons,Bool.and_eq_true] at f
  rcases List.mem_cons.mp hu with rfl | hu
  ·rw[eqU_of r f.1]; exact eqAt_V r rx f.1 fx
  ·exact mem_eqAt rx fx t f.2 u' hu
def inV(x:V)(xs:List V):Bool:=xs.any fun y=>eqV y x
def rIn(K:PySem.W.Frag)(neg:Bool):R2:=fun x y H Q=>∃ p xs,y=.ref p∧(SqL K H p xs∨SqT K H p xs)∧flatV x=true∧xs.all flatV=true∧Q (.bl (if neg then !inV x xs else inV x xs)) H
theorem op_in_seq:OpR X (compareOp .In) (rIn X.K false):=by
 intro pins s σ H x y v u Q I rx ry h
 obtain⟨p,xs,rfl,hq,fx,fs,q⟩:=h
 cases ry
 rcases hq with hq | hq
 ·obtain⟨its,r,pl,hz⟩:=I.list hq
  refine SeqAt.in_listAt (eqU x) pl.isList (fun w hw=>mem_eqAt rx fx r fs w (by simpa using hw)) ⟨.bl _,H,I,rfl,?_⟩
  rw[show its.toArray.any (eqU x)=its.any (eqU x) by simp,any_eqU r fs]
  exact q
 ·obtain⟨its,r,pl,hz⟩:=I.tuple hq
  refine SeqAt.in_tupleAt (eqU x) pl (fun w hw=>mem_eqAt rx fx r fs w (by simpa using hw)) ⟨.bl _,H,I,rfl,?_⟩
  rw[show its.toArray.any (eqU x)=its.any (eqU x) by simp,any_eqU r fs]
  exact q
theorem call_list_of:CallR X (.type "list") (fun xs H Q=>∃ p ys,xs=[.ref p]∧(SqL X.K H p ys∨SqT X.K H p ys)∧∀ l,H l=none→Q (.ref l) (upd H l (.lst ys))):=by
 intro pins s σ H xs us Q I r h
 obtain⟨p,ys,rfl,hq,q⟩:=h
 obtain⟨u,rfl,rx⟩:=vals1 r
 cases rx
 have fin:∀ (its:List Value),Vals ys its→ys.length≤sizeLine→∀ (h':Heap) (c':Nat),(∀ b o',s.heap.get? b=some o'→h'.get? b=some o')→
   h'.get? s.heap.objs.size=some { cls:=.type "list",dict:=none,data:=.seq its.toArray c',slots:=#[] }→EP X pins σ Q (.ref s.heap.objs.size) { s with heap:=h' }:=fun its r' hz h' c' kp e=>
  ⟨.ref s.heap.objs.size,_,I.laid (t':=s.toks) kp (Nat.le_refl _) (show ObjOk X.prog X.w _ h' _ (.lst ys) from⟨hz,its,c',r',e⟩),rfl,q _ (I.hok.fresh (Nat.le_refl _))⟩
 rcases hq with hq | hq
 ·obtain⟨its,r',pl,hz⟩:=I.list hq
  have hlen:=r'.length
  obtain⟨o,ho,hc,n,hd⟩:=pl.isList
  exact call_list_seq p (.inl rfl) ho hc hd (fun h' c' kp e=>fin its r' hz h' c' kp e) (by simp only[List.size_toArray]<;>omega)
 ·obtain⟨its,r',pl,hz⟩:=I.tuple hq
  have hlen:=r'.length
  obtain⟨o,ho,hc,n,hd⟩:=pl
  exact call_list_seq p (.inr rfl) ho hc hd (fun h' c' kp e=>fin its r' hz h' c' kp e) (by simp only[List.size_toArray]<;>omega)
theorem call_tuple_of:CallR X (.type "tuple") (fun xs H Q=>∃ p ys,xs=[.ref p]∧((SqL X.K H p ys∧∀ l,H l=none→Q (.ref l) (upd H l (.tup ys)))∨(SqT X.K H p ys∧Q (.ref p) H))):=by
 intro pins s σ H xs us Q I r h
 obtain⟨p,ys,rfl,h⟩:=h
 obtain⟨u,rfl,rx⟩:=vals1 r
 cases rx
 rcases h with⟨hq,q⟩ | ⟨hq,q⟩
 ·obtain⟨its,r',pl,hz⟩:=I.list hq
  have hlen:=r'.length
  refine call_tuple_list pl.isList (fun h' kp=>?_) (by simp only[List.size_toArray]<;>omega)
  have I1:Inv X pins σ H { s with heap:=h' }:=I.kept (t':=s.toks) kp
  have I2:Inv X pins σ (upd H h'.objs.size (.tup ys)) { s with heap:=h'.push { cls:=.type "tuple",data:=.seq its.toArray } }:=
   I1.laid (t':=s.toks) (fun b o e=>Heap.get?_push_of_some _ e) (Nat.le_refl _) (show ObjOk X.prog X.w _ _ _ (.tup ys) from⟨hz,its,r',IsTup.new _ _⟩)
  exact⟨.ref h'.objs.size,_,I2,rfl,q _ (I1.hok.fresh (Nat.le_refl _))⟩
 ·obtain⟨its,r',pl,hz⟩:=I.tuple hq
  exact call_tuple_same pl ⟨.ref p,H,I,rfl,q⟩
def tyV(K:PySem.W.Frag)(T:String)(x:V)(H:Hp):Prop:=match x with
 | .str _=>T="str"
 | .int _=>T="int"
 | .ref p=>(T="list"∧∃ xs,SqL K H p xs)∨(T="tuple"∧∃ o,K.lookup p=some o∧o.cls=.type "tuple"∧o.dict=none)∨
   (T="dict"∧((∃ kvs,H p=some (.dK kvs))∨∃ kvs,H p=some (.dT kvs)))∨(T="set"∧∃ S n,H p=some (.set S n))
 | _=>False
theorem tyV_is{pins:List (Addr×Obj)}{σ:St}{H:Hp}{s:Shared}{T:String}{x:V}{v:Value}(I:Inv X pins σ H s)(r:RelV x v)(ty:tyV X.K T x H):
  s.TypeIs v T∧∀ a,v=.ref a→∃ ob,s.heap.get? a=some ob∧ob.dict=none:=by
 cases x with
 | str z=>
  obtain⟨t,rfl⟩:=r
  cases (show T="str" from ty)
  exact⟨typeIs_str s z t,fun _ e=>nomatch e⟩
 | int i=>
  obtain⟨t,rfl⟩:=r
  cases (show T="int" from ty)
  exact⟨typeIs_int s i t,fun _ e=>nomatch e⟩
 | ref p=>
  cases r
  rcases ty with⟨rfl,xs,hq⟩ | ⟨rfl,o,hk,hc,hd⟩ | ⟨rfl,hk⟩ | ⟨rfl,S,n,hk⟩
  ·obtain⟨its,_,pl,_⟩:=I.list hq
   refine⟨pl.isList.typeIs,fun a e=>?_⟩
   cases e
   obtain⟨o,n,e,c,hd,_⟩:=pl
   exact⟨o,e,hd⟩
  ·refine⟨⟨o,I.kIn p o hk,hc⟩,fun a e=>?_⟩
   cases e
   exact⟨o,I.kIn _ o hk,hd⟩
  ·have z:∃ o,s.heap.get? p=some o∧o.ExactDict:=by
    rcases hk with⟨kvs,hk⟩ | ⟨kvs,hk⟩
    ·obtain⟨_,_,_,_,o,_,_,e,ex,_⟩:=I.hok p _ hk
     exact⟨o,e,ex⟩
    ·obtain⟨_,_,_,_,o,_,_,e,ex,_⟩:=I.hok p _ hk
     exact⟨o,e,ex⟩
   obtain⟨o,e,ex⟩:=z
   refine⟨⟨o,e,ex.1⟩,fun a e2=>?_⟩
   cases e2
   exact⟨o,e,ex.2.1⟩
  ·obtain⟨o,_,_,_,e,ex,_⟩:=I.hok p _ hk
   refine⟨⟨o,e,ex.1⟩,fun a e2=>?_⟩
   cases e2
   exact⟨o,e,ex.2.1⟩
 | _=>exact False.elim ty
def tBM(K:PySem.W.Frag)(T:String)(r:V→List V→Hp→VK→Prop)(to:TE)(t:TA):TE:=fun σ H Q=>to σ H fun x H1=>tyV K T x H1∧t σ H1 fun xs H2=>r x xs H2 Q
variable{o e:Expr}{es:List Expr}{to:TE}{t:TA}{name:Str}{apos cpos:Pos}{T id:String}{r:V→List V→Hp→VK→Prop}
theorem pe_bm(pa:PlainAttrs T)(slot:Slot T name id)(hty:typeOf (.builtin id)=pure (.type "method_descriptor"))(hm:MtR X id r)(ho:PE X o to)(ha:PA X (e::es) t)
  (hbase:attributeBase o name X.env (eval o X.env)=eval o X.env:=by rfl)
  (hfew:((backTo cpos (starEach (e::es) X.env)).all (fun x=>!x.1)&&(backToKw cpos (keywordEach [] X.env)).all (fun x=>x.1.isSome)
   && decide ((e::es).length+([]:List Keyword).length+(if([]:List Keyword).isEmpty then 0 else 1)<30))=true:=by rfl)
  (hline:(apos.endLine==cpos.line)=true:=by rfl) (hs:starEach (e::es) X.env=(false,eval e X.env)::starEach es X.env:=by rfl) (hplain:(backTo cpos (starEach es X.env)).any (·.1)=false:=by rfl):
  PE X (.Call (.Attribute o name apos) (e::es) [] cpos) (tBM X.K T r to t):=by
 intro pins s σ H Q I h
 refine wpAny_Call_method_late hbase hfew hline rfl (thn (ho pins s σ H _ I h) fun v s1 ⟨x,H1,I1,r1,ty,q1⟩=>?_)
 obtain⟨h1,h2⟩:=tyV_is I1 r1 ty
 refine⟨T,id,pa,slot,hty,h1,h2,?_⟩
 have hA:=ha cpos pins s1 σ H1 _ I1 q1
 rw[hs] at hA ⊢
 refine Calls.callWith_builtin (by show(false||(backTo cpos (starEach es X.env)).any (·.1))=false; rw[hplain]<;>rfl) (Calls.evalArgs_plain ?_)
 exact thn hA fun us s2 ⟨vs,H2,I2,r2,q2⟩=>hm pins s2 σ H2 x vs v us Q I2 r1 r2 q2
end
end L2
namespace L2
open PySem PySem.Spec PyProof.Rows
def MtM(X:Cx)(id:String)(r:V→List V→Hp→VK→Prop):Prop:=
 ∀ (pins:List (Addr×Obj)) (s:Shared) (σ:St) (H:Hp) (x:V) (xs:List V) (v:Value) (us:List Value) (Q:VK),Inv X pins σ H s→RelV x v→Vals xs us→r x xs H Q→
  wpAny (model X.prog X.w) X.A (call (.builtin id) (v::us)) (EP X pins σ Q) X.xe s
theorem Vals.one:∀ {x:V} {us:List Value},Vals [x] us→∃ u,us=[u]∧RelV x u
 | _,_,.cons r .nil=>⟨_,rfl,r⟩
theorem Vals.two:∀ {x y:V} {us:List Value},Vals [x,y] us→∃ u v,us=[u,v]∧RelV x u∧RelV y v
 | _,_,_,.cons r (.cons q .nil)=>⟨_,_,rfl,r,q⟩
theorem Vals.rep{xs:List V}{us:List Value}(h:Vals xs us):∀ k:Nat,Vals (List.replicate k xs).flatten (List.replicate k us).flatten
 | 0=>.nil
 | k+1=>by
  rw[List.replicate_succ,List.replicate_succ,List.flatten_cons,List.flatten_cons]
  exact Vals.append h (Vals.rep h k)
theorem foldl_rep(its:List Value):∀ (k:Nat) (acc:List Value),
  List.foldl (fun x1 x2=>x1++x2) acc.toArray (List.replicate k its.toArray)=(acc++(List.replicate k its).flatten).toArray
 | 0,acc=>by simp
 | k+1,acc=>by
  have e:acc.toArray++its.toArray=(acc++its).toArray:=by simp
  have e2:(acc++its)++(List.replicate k its).flatten=acc++(List.replicate (k+1) its).flatten:=by
   rw[List.replicate_succ,List.flatten_cons,List.append_assoc]
  rw[←e2,←foldl_rep its k (acc++its),←e,List.replicate_succ,List.foldl_cons]
section
variable{X:Cx}{pins:List (Addr×Obj)}{σ:St}{H:Hp}{s:Shared}{l b:Addr}{xs ys zs:List V}
theorem Inv.lset{its its':List Value}{n:Nat}{f:Array Value→Array Value}{t':Nat}(I:Inv X pins σ H s)(hH:H l=some (.lst xs))
  (e:s.heap.get? l=some { cls:=.type "list",data:=.seq its.toArray n }) (hf:f its.toArray=its'.toArray) (hv:Vals ys its') (hz:ys.length≤sizeLine):
  Inv X pins σ (upd H l (.lst ys)) { s with heap:=s.heap.update l (Obj.mapSeq f),toks:=t' }:=by
 have q:=PySem.IsL.update e f
 rw[hf] at q
 refine I.write (x:=l) (e:=l) (by rw[hH]; exact trivial) (.inl rfl) (fun b' u hb hu=>(Heap.get?_update_other s.heap (Obj.mapSeq f) (Ne.symm hb)).trans hu) ⟨_,q⟩ ?_
 exact⟨hz,its',_,hv,q⟩
theorem Inv.lnew{its:List Value}{t':Nat}(I:Inv X pins σ H s)(hv:Vals ys its)(hz:ys.length≤sizeLine):
  Inv X pins σ (upd H s.heap.objs.size (.lst ys)) { s with heap:=s.heap.push { cls:=.type "list",data:=.seq its.toArray },toks:=t' }:=
 I.laid (fun _ _ q=>Heap.get?_push_of_some _ q) (Nat.le_refl _) ⟨hz,its,0,hv,Heap.get?_push_size _ rfl⟩
theorem Inv.fresh(I:Inv X pins σ H s):H s.heap.objs.size=none:=I.hok.fresh (Nat.le_refl _)
theorem Inv.lstM(I:Inv X pins σ H s)(hH:H l=some (.lst xs)):xs.length≤sizeLine∧∃ (its:List Value) (n:Nat),Vals xs its∧xs.length=its.length∧s.heap.get? l=some { cls:=.type "list",data:=.seq its.toArray n }:=by
 obtain⟨z,its,n,r,e⟩:=I.hok l _ hH
 exact⟨z,its,n,r,r.length,e⟩
theorem notLongL{n:Nat}(h:n≤sizeLine):Builtin.List.listTooLong n=false:=by
 unfold Builtin.List.listTooLong
 exact decide_eq_false (by omega)
end
section
variable{X:Cx}
def rAppend:V→List V→Hp→VK→Prop:=fun x vs H Q=>∃ l xs y,x=.ref l∧vs=[y]∧H l=some (.lst xs)∧xs.length<sizeLine∧Q .non (upd H l (.lst (xs++[y])))
theorem mt_append:MtM X "list.append" rAppend:=by
 intro pins s σ H x vs v us Q I rx rv h
 obtain⟨l,xs,y,rfl,rfl,hH,hz,q⟩:=h
 cases rx
 obtain⟨u,rfl,ru⟩:=rv.one
 obtain⟨z,its,n,r,hl,e⟩:=I.lstM hH
 refine call_meets F.slot_list_append ⟨_,e,rfl⟩ F.entry_list_append (F.args_list_append_2 _ _) (PySem.list_append l its.toArray n u (by rw[List.size_toArray]; omega)) ⟨e,?_⟩
 refine⟨.non,_,I.lset (its':=its++[u]) hH e (by simp) (r.append (.cons ru .nil)) ?_,rfl,q⟩
 rw[List.length_append,List.length_singleton]
 omega
def rCat:R2:=fun x y H Q=>∃ l b xs zs,x=.ref l∧y=.ref b∧H l=some (.lst xs)∧H b=some (.lst zs)∧xs.length+zs.length≤sizeLine∧∀ p,H p=none→Q (.ref p) (upd H p (.lst (xs++zs)))
theorem op_cat:OpR X (binaryOp .Add) rCat:=by
 intro pins s σ H x y v u Q I rx ry h
 obtain⟨l,b,xs,zs,rfl,rfl,hH,hB,hz,q⟩:=h
 cases rx
 cases ry
 obtain⟨z,its,n,r,hl,e⟩:=I.lstM hH
 obtain⟨z2,its2,n2,r2,hl2,e2⟩:=I.lstM hB
 refine PySem.P.add_list e e2 ?_ (by rw[List.size_toArray,List.size_toArray]; omega)
 have ea:its.toArray++its2.toArray=(its++its2).toArray:=by simp
 rw[ea]
 exact⟨.ref _,_,I.lnew (t':=s.toks) (r.append r2) (by rw[List.length_append]; omega),rfl,q _ I.fresh⟩
def rRep:R2:=fun x y H Q=>∃ l k xs,x=.ref l∧y=.int k∧H l=some (.lst xs) ∧ -(2^63)≤k∧k<2^63∧xs.length*k.toNat≤sizeLine∧
 ∀ p,H p=none→Q (.ref p) (upd H p (.lst (List.replicate k.toNat xs).flatten))
theorem len_rep{α:Type}(xs:List α)(k:Nat):(List.replicate k xs).flatten.length=k*xs.length:=by
 induction k with
 | zero=>simp
 | succ k ih=>rw[List.replicate_succ,List.flatten_cons,List.length_append,ih,Nat.succ_mul,Nat.add_comm]
theorem op_rep:OpR X (binaryOp .Mult) rRep:=by
 intro pins s σ H x y v u Q I rx ry h
 obtain⟨l,k,xs,rfl,rfl,hH,h1,h2,hz,q⟩:=h
 cases rx
 obtain⟨t,rfl⟩:=ry
 obtain⟨z,its,n,r,hl,e⟩:=I.lstM hH
 have hlen:its.toArray.size*k.toNat≤sizeLine:=by rw[List.size_toArray,←hl]; exact hz
 have hcap:¬ its.toArray.size*k.toNat>(2^63-1) / 8:=by
  have:(sizeLine:Nat)≤(2^63-1) / 8:=by decide
  omega
 have hfit:¬ (!Builtin.List.listFitsIndex k)=true:=by
  rw[fitsIndex_both h1 h2]
  exact Bool.false_ne_true
 have hlong:¬ Builtin.List.listTooLong (its.toArray.size*k.toNat)=true:=by
  rw[notLongL hlen]
  exact Bool.false_ne_true
 have hnew:List.foldl (fun x1 x2=>x1++x2) #[] (List.replicate (if its.toArray.isEmpty=true then 0 else k.toNat) its.toArray)=(List.replicate k.toNat its).flatten.toArray:=by
  have f0:∀ m:Nat,List.foldl (fun x1 x2=>x1++x2) #[] (List.replicate m its.toArray)=(List.replicate m its).flatten.toArray:=fun m=>by
   have:=foldl_rep its m []
   rw[List.nil_append] at this
   exact this
  rw[f0]
  cases its with
  | nil=>simp
  | cons a r'=>rw[if_neg (by simp)]
 refine wpAny_binaryOp_repeat_ref (T:="list") (U:="int") (by decide) ⟨_,e,rfl⟩ (fun s'=>typeIs_int s' k t) noFill_list_mul F.fills_int_mul F.slot_int_rmul repeat_list F.slot_int_index.lookup
  (call_meets F.slot_int_rmul (typeIs_int s k t) F.entry_int_rmul (F.args_int_rmul_2 _ _) (int___rmul___int_list k t l its.toArray n)
   ⟨e,rfl,⟨_,e,rfl⟩,call_meets F.slot_list_mul ⟨_,e,rfl⟩ F.entry_list_mul (F.args_list_mul_2 _ _) (AutoListH.list___mul___list_int_3 l its.toArray n k t hfit hcap hlong) ⟨e,?_⟩⟩)
 rw[hnew]
 exact⟨.ref _,_,I.lnew (t':=s.toks) (r.rep k.toNat) (by rw[len_rep,Nat.mul_comm]; exact hz),rfl,q _ I.fresh⟩
end
end L2
namespace Att
open PySem PySem.W PySem.Calls PyProof.Rows
theorem ints_of_wellAll{P:Params}{h:Heap}:∀ (ns:List Int) (vs:List Value),WellAll P h vs (ns.map WData.int)→IntsAre vs ns:=by
 intro ns
 induction ns with
 | nil=>
  intro vs w
  rw[List.map_nil] at w
  cases w
  exact .nil
 | cons n ns ih=>
  intro vs w
  rw[List.map_cons] at w
  cases w with
  | cons a b=>
   cases a
   exact .cons _ _ (ih _ b)
theorem script_of{l:OpenLaw}{n:Nat}(hn:l.most=some n){P:Params}{h:Heap}{args:List WData}{vals:List Value}
  (hpre:l.row.toRowW.claim.pre args=true) (hwl:WellAll P h vals args):
  ∃ a vs ns,vals=[Value.ref a]∧args=[WData.list (ns.map WData.int)]∧h.get? a=some { cls:=.type "list",data:=.seq vs.toArray }∧IntsAre vs ns∧ns.length≤n:=by
 have hsh:WShape.hasAll [] args [.list .int]=true:=(pre_splitW hpre).1
 have hc:l.pre.holds [] { args:=args }=true:=(pre_splitW hpre).2
 obtain⟨d,r,rfl,h1,h2⟩:=hasAllW_cons hsh
 obtain rfl:=hasAllW_nil h2
 obtain⟨xs,rfl,h3⟩:=hasW_list h1
 obtain⟨ns,rfl⟩:=items_int h3
 have hlen:ns.length≤n:=by
  unfold OpenLaw.pre at hc
  have h4:(WTm.not (.lt (.lit (.int (n:Int))) (.len (.arg 0)))).holds [] { args:=[.list (ns.map .int)] }=true:=by
   have h4:=(holds_andW hc).1
   rw[hn] at h4
   exact h4
  have h5:=condW_of h4 (w_not (w_lt w_lit (w_len_list (w_arg rfl))))
  rw[List.length_map] at h5
  refine Nat.le_of_not_lt fun q=>?_
  have q':(n:Int)<((ns.length:Nat):Int):=by omega
  first
   | (rw[decide_eq_true q'] at h5; exact absurd h5 (by decide))
   | (simp at h5; omega)
 cases hwl with
 | cons w1 w2=>
  cases w2
  cases w1 with
  | list ho hall=>exact⟨_,_,ns,rfl,rfl,ho,ints_of_wellAll ns _ hall,hlen⟩
theorem post_true(l:OpenLaw)(args:List WData):l.row.toRowW.claim.post args (.bool true) args=true:=
 postW_of (r:=l.row.toRowW) (X:=(true==true))
  (show WShape.has [] (.bool true) .bool=true by first | rfl | decide | simp[WShape.has,WShape.arms,WShape.armsAll])
  (show(WTm.eq .res (.lit (.bool true))).value [] { args:=args,res:=some (.bool true),after:=args }=some (.bool (true==true)) from w_eq_bool (w_res rfl) w_lit) rfl
theorem attach_call{l:OpenLaw}{n:Nat}{q:Program}{loose:List Str}{XP:(Str→Option Value)→Heap→Prop}{YP:World→Heap→Prop}{d:DefRec}
  (hn:l.most=some n) (hdf:d.params.defaults=[])
  (call:∀ (w:World) (s₀ s₁:Shared) (mg mb:Str→Option Value) (fa:Addr) (o:Obj) (pm cd doc:Value) (a:Addr) (vs:List Value) (ns:List Int),
   Ground q loose [] XP w s₀ mg mb s₁.heap→YP w s₁.heap→
   s₁.heap.get? fa=some o→o.data=.func (docDef d.name d.params d.body d.scope pm cd doc)→s₁.heap.CodeRec cd d.name→mg d.name=some (.ref fa)→
   s₁.heap.get? a=some { cls:=.type "list",data:=.seq vs.toArray }→IntsAre vs ns→ns.length≤n→s₁.gens=#[]→
   codeAny (model l.prog w) callerA (.call (.ref fa) ⟨[.ref a],[]⟩) (fun r s'=>r=.ok (.ret (.bool true))∧OldK s₁.heap s'.heap∧s'.os=s₁.os∧AllBare s'.gens) s₁):
  WalkO q loose XP YP l.row.toRowW d [] (fun f vs=>PySem.call f vs):=by
 intro w s₀ s₁ mg mb G Y fa o pm cd doc dV kV ho hd hcd hD hmg hg args vals as hpre hlay hrd hwl hlo
 obtain rfl:dV=.none:=Dflts.none hD hdf
 obtain rfl:kV=.none:=Dflts.noKw hD
 obtain⟨a,vs,ns,rfl,rfl,hobj,hints,hlen⟩:=script_of hn hpre hwl
 refine enter_call (codeAny_mono (call w s₀ s₁ mg mb fa o pm cd doc a vs ns G Y ho (fd_plain hd) hcd hmg hobj hints hlen hg) fun r s' hq=>?_)
 obtain⟨rfl,h2,h3,h4⟩:=hq
 exact⟨.inl ⟨.bool true,.bool true,[],rfl,fun _=>rfl,.bool true,post_true l _,fun _=>⟨List.Pairwise.nil,fun _ hm=>(nomatch hm)⟩⟩,h2,h3,h4⟩
end Att
namespace L2
open PySem PySem.Spec PyProof.Rows
theorem vals_ints:∀ {vs:List Value} {ns:List Int},IntsAre vs ns→Vals (ns.map V.int) vs
 | _,_,.nil=>.nil
 | _,_,.cons n t h=>.cons ⟨t,rfl⟩ (vals_ints h)
def Only(H:Hp):Prop:=∀ b,H b=none∨∃ o xs,H b=some (.frz o (.lst xs))
theorem law_call{P:Program}{w:World}{K:PySem.W.Frag}{mg mb:Str→Option Value}{CX:CXT}{k:Nat}{fa a:Addr}{fd:FuncData}{x:Str}{sp:Sp}{s₁:Shared}{vs:List Value}{ns:List Int}
  (KX:K.In s₁.heap) (hns:s₁.heap.Ns mainGlobals mg) (hb:s₁.heap.Ns builtinsNs mb) (hbb:∀ x:Str,x≠"__name__"→mb x=bootBuiltins x) (hlim:s₁.heap.NoLimit) (hg:s₁.gens=#[])
  (ha:s₁.heap.get? a=some { cls:=.type "list",data:=.seq vs.toArray }) (hi:IntsAre vs ns) (hl:ns.length≤sizeLine) (hr:Room k callerA)
  (F:∀ base:Heap,K.In base→base.Ns mainGlobals mg→FnOk P w K mg base CX k fa fd [x] sp) (hbind:∀ (s:Shared) (u:Value),BindsTo s fd ⟨[u],[]⟩ [(x,u)])
  (hsp:∀ H:Hp,Only H→SqL K H a (ns.map V.int)→sp [.ref a] H (fun v _=>v=.bl true) fun _ _ _=>False)
  (hCX:∀ H e s',CX [] H s₁ (fun _ _ _=>False) e s'→False):
  codeAny (model P w) callerA (.call (.ref fa) ⟨[.ref a],[]⟩) (fun r s'=>r=.ok (.ret (.bool true))∧OldK s₁.heap s'.heap∧s'.os=s₁.os∧AllBare s'.gens) s₁:=by
 have rv:=vals_ints hi
 have lenV:=hi.length
 have core:∀ H:Hp,Only H→SqL K H a (ns.map V.int)→HOk P w H s₁.heap→(∀ b,H b≠none→b=a)→(H a≠none→K.lookup a=none)→
   codeAny (model P w) callerA (.call (.ref fa) ⟨[.ref a],[]⟩) (fun r s'=>r=.ok (.ret (.bool true))∧OldK s₁.heap s'.heap∧s'.os=s₁.os∧AllBare s'.gens) s₁:=by
  intro H hO hS hok hA hK
  have base_of:∀ {b:Addr} {o:Obj},s₁.heap.get? b=some o→H b=none→(hidT s₁.heap H).get? b=some o:=fun e n=>hidT_get e n
  have noA:∀ {b:Addr} {o:Obj} {es:Array DictEntry} {ep:Nat},s₁.heap.get? b=some o→o.data=.dict es ep→H b=none:=fun{b o es ep} e d=>by
   cases q:H b with
   | none=>rfl
   | some u=>
    have e':b=a:=hA b (by rw[q]; simp)
    subst e'
    rw[ha] at e; cases e
    have d':Data.seq vs.toArray _=Data.dict es ep:=d
    cases d'
  have nsK:∀ {b:Addr} {m:Str→Option Value},s₁.heap.Ns b m→(hidT s₁.heap H).Ns b m:=fun{b m} ⟨o,es,ep,e,d,r⟩=>⟨o,es,ep,base_of e (noA e d),d,r⟩
  have hKb:K.In (hidT s₁.heap H):=fun b o e=>base_of (KX b o e) (by
   cases q:H b with
   | none=>rfl
   | some u=>
    have e':b=a:=hA b (by rw[q]; simp)
    subst e'
    rw[hK (by rw[q]; simp)] at e; cases e)
  have hM:Mod K mg (hidT s₁.heap H):=⟨hKb,nsK hns,⟨mb,nsK hb,hbb⟩,let ⟨mc,h1,h2⟩:=hlim; ⟨mc,nsK h1,h2⟩⟩
  have e0:Env0 P w K mg (hidT s₁.heap H) callerA [] s₁ H:=⟨rfl,hM,fun b o e=>of_hidT e,Nat.le_of_eq (hidT_size _ _),trivial,fun b hb=>absurd (show b∈([]:List Addr) from hb) (by simp),hok,.of_eq hg⟩
  refine codeAny_mono ((F _ hKb (nsK hns)).run callerA [] s₁ H ⟨[.ref a],[]⟩ [.ref a] [.ref a] _ _ hr e0 (hbind s₁ (.ref a)) (.cons rfl .nil) (hsp H hO hS)) fun r s' h=>?_
  cases r with
  | error e=>exact(hCX H e s' h).elim
  | ok fl=>
   cases fl with
   | next=>exact False.elim h
   | brk=>exact False.elim h
   | cont=>exact False.elim h
   | ret u=>
    obtain⟨v,H',os,bare,un,hok',r',q⟩:=h
    have q':v=.bl true:=q
    subst q'
    obtain rfl:u=Value.bool true:=r'
    refine⟨rfl,OldK.of_keep fun b o e=>?_,os,bare⟩
    cases q:H b with
    | none=>exact un.keep b o e q (by intro z; exact absurd (show b∈([]:List Addr) from z) (by simp)) (by simp)
    | some u=>
     rcases hO b with z | ⟨ob,xs,z⟩
     ·rw[q] at z; cases z
     ·have z2:=un.frzs b ob _ z
      obtain⟨e1,_⟩:=hok b _ z
      obtain⟨e2,_⟩:=hok' b _ z2
      rw[e] at e1; cases e1
      exact e2
 cases hk:K.lookup a with
 | some o=>
  have e:=KX a o hk
  rw[ha] at e
  cases e
  refine core (fun _=>none) (fun _=>.inl rfl) (.inr ⟨_,vs.toArray,_,hk,rfl,rfl,rfl,by rw[List.size_toArray,lenV]; exact hl,by simpa using rv⟩) (fun b u z=>by have z':(none:Option HO)=some u:=z; cases z') (fun b z=>absurd rfl z) fun z=>absurd rfl z
 | none=>
  refine core (fun b=>if b=a then some (.frz { cls:=.type "list",data:=.seq vs.toArray } (.lst (ns.map V.int))) else none) (fun b=>?_) (.inl (.inr ⟨{ cls:=.type "list",data:=.seq vs.toArray },if_pos rfl⟩)) (fun b u z=>?_) (fun b z=>?_) fun _=>hk
  ·by_cases hb:b=a
   ·exact .inr ⟨_,_,if_pos hb⟩
   ·exact .inl (if_neg hb)
  ·by_cases hb:b=a
   ·have z':=(if_pos hb).symm.trans z
    cases z'
    subst hb
    exact⟨ha,by rw[List.length_map]; exact hl,vs,_,rv,ha⟩
   ·have z':=(if_neg hb).symm.trans z
    cases z'
  ·by_cases hb:b=a
   ·exact hb
   ·exact absurd (if_neg hb) z
end L2
namespace L2
open PySem PySem.Spec PyProof.Rows
theorem walk_of{l:PySem.W.OpenLaw}{n k:Nat}{q:Program}{loose:List Str}{XP:(Str→Option Value)→Heap→Prop}{YP:World→Heap→Prop}{d:DefRec}{K:Params→PySem.W.Frag}{CX:World→CXT}{sp:World→Sp}{x:Str}
  (hn:l.most=some n) (hn2:n≤sizeLine) (hdf:d.params.defaults=[]) (hr:Room k callerA)
  (hY:∀ (w:World) (h:Heap),YP w h→(K w.params).In h)
  (F:∀ (w:World) (mg:Str→Option Value) (fa:Addr) (h:Heap),(K w.params).In h→h.Ns mainGlobals mg→mg d.name=some (.ref fa)→
   ∃ fd:FuncData,(∀ (s:Shared) (u:Value),BindsTo s fd ⟨[u],[]⟩ [(x,u)])∧
    ∀ base:Heap,(K w.params).In base→base.Ns mainGlobals mg→FnOk l.prog w (K w.params) mg base (CX w) k fa fd [x] (sp w))
  (hsp:∀ (w:World) (H:Hp) (a:Addr) (ns:List Int),ns.length≤n→Only H→SqL (K w.params) H a (ns.map V.int)→sp w [.ref a] H (fun v _=>v=.bl true) fun _ _ _=>False)
  (hCX:∀ (w:World) (H:Hp) (s:Shared) (e:Value) (s':Shared),CX w [] H s (fun _ _ _=>False) e s'→False):
  PySem.W.WalkO q loose XP YP l.row.toRowW d [] (fun f vs=>PySem.call f vs):=by
 refine Att.attach_call hn hdf fun w s₀ s₁ mg mb fa o pm cd doc a vs ns G Y ho hd hcd hmg hobj hints hlen hg=>?_
 have KX:=hY w _ Y
 obtain⟨fd,hb,hF⟩:=F w mg fa _ KX G.T.g hmg
 exact law_call KX G.T.g G.T.b G.T.builtins G.T.nolimit hg hobj hints (Nat.le_trans hlen hn2) hr hF hb (fun H hO hS=>hsp w H a ns hlen hO hS) fun H e s'=>hCX w H s₁ e s'
theorem walk_ofK{l:PySem.W.OpenLaw}{n k:Nat}{q:Program}{loose:List Str}{XP:(Str→Option Value)→Heap→Prop}{YP:World→Heap→Prop}{d:DefRec}{K:Params→PySem.W.Frag}{CX:CXT}{sp:PySem.W.Frag→Sp}{x:Str}
  (hn:l.most=some n) (hn2:n≤sizeLine) (hdf:d.params.defaults=[]) (hr:Room k callerA)
  (hY:∀ (w:World) (h:Heap),YP w h→(K w.params).In h)
  (F:∀ (w:World) (mg:Str→Option Value) (fa:Addr) (h:Heap),(K w.params).In h→h.Ns mainGlobals mg→mg d.name=some (.ref fa)→
   ∃ fd:FuncData,(∀ (s:Shared) (u:Value),BindsTo s fd ⟨[u],[]⟩ [(x,u)])∧
    ∀ base:Heap,(K w.params).In base→base.Ns mainGlobals mg→FnOk l.prog w (K w.params) mg base CX k fa fd [x] (sp (K w.params)))
  (hsp:∀ (K:PySem.W.Frag) (H:Hp) (a:Addr) (ns:List Int),ns.length≤n→Only H→SqL K H a (ns.map V.int)→sp K [.ref a] H (fun v _=>v=.bl true) fun _ _ _=>False)
  (hCX:∀ (H:Hp) (s:Shared) (e:Value) (s':Shared),CX [] H s (fun _ _ _=>False) e s'→False):
  PySem.W.WalkO q loose XP YP l.row.toRowW d [] (fun f vs=>PySem.call f vs):=
 walk_of (K:=K) (CX:=fun _=>CX) (sp:=fun w=>sp (K w.params)) hn hn2 hdf hr hY F (fun w H a ns h1 h2 h3=>hsp (K w.params) H a ns h1 h2 h3) fun _ H s e s'=>hCX H s e s'
end L2
namespace L2
open PySem PySem.Spec PyProof.Rows
def defArgs(s:Stmt):Arguments:=match s with
 | .FunctionDef _ a _ _ _ _ _ _ _ _=>a
 | _=>{ posonlyargs:=[],args:=[],vararg:=none,kwonlyargs:=[],kw_defaults:=[],kwarg:=none,defaults:=[] }
def defBody(s:Stmt):List Stmt:=match s with
 | .FunctionDef _ _ b _ _ _ _ _ _ _=>b
 | _=>[]
def defScope(s:Stmt):Scope:=match s with
 | .FunctionDef _ _ _ _ _ _ sc _ _ _=>sc
 | _=>{ kind:=.function,names:=[],isGenerator:=false,isCoroutine:=false }
abbrev CX0:CXT:=fun _ _ _ _ _ _=>False
abbrev E0:XK:=fun _ _ _=>False
theorem pass0{X:Cx}:Passes CX0 X E0:=fun _ _ _ _ _ _ _ h=>h.elim
structure Fun(K:PySem.W.Frag)(x qual:Str)(st:Stmt)(f:Addr)(fd:FuncData):Prop where
 ex:∃ (oc:Value) (od:Option Addr) (kV doc pm:Value) (an:Option Addr) (cdv ct:Value) (osl:Array (Option Value)),
  fd=PySem.W.fnOf x qual (defArgs st) (defBody st) (defScope st) .none kV doc pm an cdv ct∧K.lookup f=some ⟨oc,od,.func fd,osl⟩∧PySem.W.codeIn K cdv qual=true
 kp:PySem.W.keepIn K (.ref f)=true
section
variable{P:Program}{w:World}{K:PySem.W.Frag}{mg:Str→Option Value}{base:Heap}
theorem Fun.ok{x qual:Str}{st:Stmt}{f:Addr}{fd:FuncData}{N ps:List Str}{k:Nat}{sp:Sp}(F:Fun K x qual st f fd)(S:FnScope N ps (defScope st))(len:∀ vs H Q E,sp vs H Q E→vs.length=ps.length)
  (hbody:∀ (cdv:Value) (A:Around) (outer:List Env) (s:Shared) (H:Hp) (vs:List V) (Q:VK) (E:XK),Room k (A.deeper (envOfC qual (defScope st) s.heap.objs.size f cdv))→sp vs H Q E→
   ∃ t,PSs (cxOf CX0 P w K mg base N qual (defScope st) f cdv A outer s H E).nox (defBody st) t∧t { nx:=fun _ H'=>Q .non H',rt:=Q } (start N vs) H):FnOk P w K mg base CX0 (k+1) f fd ps sp:=by
 obtain⟨oc,od,kV,doc,pm,an,cdv,ct,osl,rfl,lk,hcd⟩:=F.ex
 refine fn_of lk hcd S len fun A outer s H vs Q E hr hsp=>?_
 obtain⟨t,h,q⟩:=hbody cdv A outer s H vs Q E hr hsp
 exact⟨t,h.nox,q⟩
theorem Fun.binds{x qual:Str}{st:Stmt}{f:Addr}{fd:FuncData}{ps:List Str}(F:Fun K x qual st f fd)
  (h:∀ (kV doc pm:Value) (an:Option Addr) (cdv ct:Value) (us:List Value),us.length=ps.length→bindArgs (PySem.W.fnOf x qual (defArgs st) (defBody st) (defScope st) .none kV doc pm an cdv ct) ⟨us,[]⟩=pure (ps.zip us)):Binds K fd ps []:=by
 obtain⟨oc,od,kV,doc,pm,an,cdv,ct,osl,rfl,lk,hcd⟩:=F.ex
 exact .all (h kV doc pm an cdv ct)
theorem fun_mk{x qual:Str}{st:Stmt}{f:Addr}{oc:Value}{od an:Option Addr}{osl:Array (Option Value)}{kV doc pm cdv ct:Value}(l:K.lookup f=some ⟨oc,od,.func (PySem.W.fnOf x qual (defArgs st) (defBody st) (defScope st) .none kV doc pm an cdv ct),osl⟩)
  (c:PySem.W.codeIn K cdv qual=true) (k:PySem.W.keepIn K (.ref f)=true):Fun K x qual st f (PySem.W.fnOf x qual (defArgs st) (defBody st) (defScope st) .none kV doc pm an cdv ct):=⟨⟨oc,od,kV,doc,pm,an,cdv,ct,osl,rfl,l,c⟩,k⟩
end
end L2
set_option Elab.async false
set_option linter.all false
set_option maxRecDepth 100000
namespace DL
open PySem PySem.Spec PyProof.Rows L2
inductive D where
 | non | bl (b:Bool) | int (i:Int) | str (x:Str) | tup (l:List D) | lst (i:Nat) | exn (c:Str) (n:Option Int) | fv (x:Str)
structure Cell where
 fz:Bool
 xs:List D
abbrev Sto:=List Cell
abbrev Lc:=List (Option D)
structure XD where
 cls:Str
 fld:Option Int
inductive Out(α:Type) where
 | ok (a:α) (S:Sto)
 | exc (x:XD) (S:Sto)
 | bad
def Out.bind{α β:Type}(o:Out α)(g:α→Sto→Out β):Out β:=
 match o with
 | .ok a S=>g a S
 | .exc x S=>.exc x S
 | .bad=>.bad
structure XCl(K:PySem.W.Frag)(c:Addr):Prop where
 ga:PySem.W.findIn K (.ref c) "__getattribute__"=some (some (.builtin "BaseException.__getattribute__"))
 gt:PySem.W.findIn K (.ref c) "__getattr__"=some none
 cl:PySem.W.findIn K (.ref c) "__class__"=some (some (.builtin "object.__class__"))
 cd:(PySem.W.clsIn K c).isSome=true
 ob:PySem.W.mroIn K c (.type "object")=some true
 be:PySem.W.subIn K (.ref c) (.type "BaseException")=some true
 bt:∀ T∈["bool","int","str","tuple","list"],PySem.W.kitOne K (.ref c) (.type T)=some false
def CN(K:PySem.W.Frag)(y:Str)(c:Addr):Prop:=PySem.W.nsIn K mainGlobals y=some (some (.ref c))
theorem CN.one{K:PySem.W.Frag}{y:Str}{c d:Addr}(h:CN K y c)(g:CN K y d):c=d:=Value.ref.inj (Option.some.inj (Option.some.inj (h.symm.trans g)))
def XO(a c:Addr)(dx:Option Addr):HO:=.ext fun h=>∃ oe,h.get? a=some oe∧oe.cls=.ref c∧oe.dict=dx∧∃ vs,oe.data=.fields vs
def XA(d:Addr)(n:Int):HO:=.ext fun h=>∃ t,h.Ns d fun y=>if y="at" then some (.int n t) else none
mutual
def Rep(K:PySem.W.Frag)(mp:List Addr)(H:Hp):D→V→Prop
 | .non,v=>v=.non
 | .bl b,v=>v=.bl b
 | .int i,v=>v=.int i
 | .str x,v=>v=.str x
 | .tup l,v=>∃ a xs,v=.ref a∧SqT K H a xs∧RepL K mp H l xs
 | .lst i,v=>∃ a,v=.ref a∧mp[i]?=some a
 | .exn c n,v=>∃ a dx p,v=.ref a∧(CN K c p∧XCl K p∧H a=some (XO a p dx))∧∀ i,n=some i→∃ d,dx=some d∧H d=some (XA d i)
 | .fv x,v=>∃ a,v=.ref a∧CN K x a
def RepL(K:PySem.W.Frag)(mp:List Addr)(H:Hp):List D→List V→Prop
 | [],vs=>vs=[]
 | d::l,vs=>∃ v r,vs=v::r∧Rep K mp H d v∧RepL K mp H l r
end
structure Aft(K:PySem.W.Frag)(mp:List Addr)(H:Hp)(mp':List Addr)(H':Hp):Prop where
 pre:∀ (i:Nat) (a:Addr),mp[i]?=some a→mp'[i]?=some a
 tup:∀ a xs,SqT K H a xs→SqT K H' a xs
 ext:∀ a φ,H a=some (.ext φ)→H' a=some (.ext φ)
theorem Aft.refl{K:PySem.W.Frag}{mp:List Addr}{H:Hp}:Aft K mp H mp H:=⟨fun _ _ h=>h,fun _ _ h=>h,fun _ _ h=>h⟩
theorem Aft.trans{K:PySem.W.Frag}{mp mp1 mp2:List Addr}{H H1 H2:Hp}(a:Aft K mp H mp1 H1)(b:Aft K mp1 H1 mp2 H2):Aft K mp H mp2 H2:=
 ⟨fun i x h=>b.pre i x (a.pre i x h),fun x xs h=>b.tup x xs (a.tup x xs h),fun x f h=>b.ext x f (a.ext x f h)⟩
mutual
theorem Rep.aft{K:PySem.W.Frag}{mp mp':List Addr}{H H':Hp}(a:Aft K mp H mp' H'):∀ (d:D) (v:V),Rep K mp H d v→Rep K mp' H' d v
 | .non,v,h=>h
 | .bl _,v,h=>h
 | .int _,v,h=>h
 | .str _,v,h=>h
 | .tup l,v,h=>by
  obtain⟨p,xs,e,s,r⟩:=(show ∃ a xs,v=.ref a∧SqT K H a xs∧RepL K mp H l xs from h)
  exact⟨p,xs,e,a.tup _ _ s,RepL.aft a l xs r⟩
 | .lst i,v,h=>by
  obtain⟨p,e,s⟩:=(show ∃ a,v=.ref a∧mp[i]?=some a from h)
  exact⟨p,e,a.pre _ _ s⟩
 | .exn c n,v,h=>by
  obtain⟨p,dx,q,e,⟨s0,s1,s⟩,r⟩:=(show ∃ a dx p,v=.ref a∧(CN K c p∧XCl K p∧H a=some (XO a p dx))∧∀ i,n=some i→∃ d,dx=some d∧H d=some (XA d i) from h)
  exact⟨p,dx,q,e,⟨s0,s1,a.ext _ _ s⟩,fun i z=>let ⟨d,z1,z2⟩:=r i z; ⟨d,z1,a.ext _ _ z2⟩⟩
 | .fv x,v,h=>h
theorem RepL.aft{K:PySem.W.Frag}{mp mp':List Addr}{H H':Hp}(a:Aft K mp H mp' H'):∀ (l:List D) (vs:List V),RepL K mp H l vs→RepL K mp' H' l vs
 | [],vs,h=>h
 | d::l,vs,h=>by
  obtain⟨v,r,e,h1,h2⟩:=(show ∃ v r,vs=v::r∧Rep K mp H d v∧RepL K mp H l r from h)
  exact⟨v,r,e,Rep.aft a d v h1,RepL.aft a l r h2⟩
end
section
variable{K:PySem.W.Frag}{mp:List Addr}{H:Hp}
theorem RepL.nil:RepL K mp H [] []:=rfl
theorem RepL.cons{d:D}{v:V}{l:List D}{r:List V}(h:Rep K mp H d v)(t:RepL K mp H l r):RepL K mp H (d::l) (v::r):=⟨v,r,rfl,h,t⟩
theorem RepL.len:∀ {l:List D} {vs:List V},RepL K mp H l vs→vs.length=l.length
 | [],vs,h=>by cases (show vs=[] from h); rfl
 | d::l,vs,h=>by
  obtain⟨v,r,e,h1,h2⟩:=h
  subst e
  simp[RepL.len h2]
theorem RepL.get:∀ {l:List D} {vs:List V} {i:Nat} {d:D},RepL K mp H l vs→l[i]?=some d→∃ v,vs[i]?=some v∧Rep K mp H d v
 | [],_,_,_,_,e=>by simp at e
 | d::l,vs,0,_,h,e=>by
  obtain⟨v,r,q,h1,h2⟩:=h
  subst q
  simp at e
  subst e
  exact⟨v,rfl,h1⟩
 | d::l,vs,i+1,x,h,e=>by
  obtain⟨v,r,q,h1,h2⟩:=h
  subst q
  obtain⟨v',a,b⟩:=RepL.get (i:=i) (d:=x) h2 (by simpa using e)
  exact⟨v',by simpa using a,b⟩
theorem RepL.append:∀ {l m:List D} {vs ws:List V},RepL K mp H l vs→RepL K mp H m ws→RepL K mp H (l++m) (vs++ws)
 | [],m,vs,ws,h,g=>by cases (show vs=[] from h); exact g
 | d::l,m,vs,ws,h,g=>by
  obtain⟨v,r,q,h1,h2⟩:=h
  subst q
  exact⟨v,r++ws,rfl,h1,RepL.append h2 g⟩
theorem RepL.take:∀ {l:List D} {vs:List V} (n:Nat),RepL K mp H l vs→RepL K mp H (l.take n) (vs.take n)
 | [],vs,n,h=>by cases (show vs=[] from h); simp; exact RepL.nil
 | d::l,vs,0,h=>by simp; exact RepL.nil
 | d::l,vs,n+1,h=>by
  obtain⟨v,r,q,h1,h2⟩:=h
  subst q
  simpa using RepL.cons h1 (RepL.take n h2)
theorem RepL.drop:∀ {l:List D} {vs:List V} (n:Nat),RepL K mp H l vs→RepL K mp H (l.drop n) (vs.drop n)
 | [],vs,n,h=>by cases (show vs=[] from h); simp; exact RepL.nil
 | d::l,vs,0,h=>by simpa using h
 | d::l,vs,n+1,h=>by
  obtain⟨v,r,q,h1,h2⟩:=h
  subst q
  simpa using RepL.drop n h2
theorem RepL.set:∀ {l:List D} {vs:List V} {d:D} {v:V} (n:Nat),RepL K mp H l vs→Rep K mp H d v→RepL K mp H (l.set n d) (vs.set n v)
 | [],vs,d,v,n,h,g=>by cases (show vs=[] from h); simp; exact RepL.nil
 | x::l,vs,d,v,0,h,g=>by
  obtain⟨v',r,q,h1,h2⟩:=h
  subst q
  simpa using RepL.cons g h2
 | x::l,vs,d,v,n+1,h,g=>by
  obtain⟨v',r,q,h1,h2⟩:=h
  subst q
  simpa using RepL.cons h1 (RepL.set n h2 g)
end
def SqF(K:PySem.W.Frag)(H:Hp)(a:Addr)(xs:List V):Prop:=
 (∃ o,H a=some (.frz o (.lst xs)))∨
  ∃ (o:Obj) (its:Array Value) (n:Nat),K.lookup a=some o∧o.cls=.type "list"∧o.dict=none∧o.data=.seq its n∧its.size≤sizeLine∧Vals xs its.toList
theorem SqF.sq{K:PySem.W.Frag}{H:Hp}{a:Addr}{xs:List V}(h:SqF K H a xs):SqL K H a xs:=by
 rcases h with h | h
 ·exact .inl (.inr h)
 ·exact .inr h
def CellOk(K:PySem.W.Frag)(mp:List Addr)(H:Hp)(a:Addr)(c:Cell):Prop:=
 ∃ xs,RepL K mp H c.xs xs∧(if c.fz=true then SqF K H a xs else H a=some (.lst xs))
structure RS(K:PySem.W.Frag)(mp:List Addr)(H:Hp)(S:Sto):Prop where
 len:mp.length=S.length
 cell:∀ (i:Nat) (a:Addr) (c:Cell),mp[i]?=some a→S[i]?=some c→CellOk K mp H a c
 inj:∀ (i j:Nat) (a:Addr) (ci cj:Cell),mp[i]?=some a→mp[j]?=some a→S[i]?=some ci→S[j]?=some cj→ci.fz=false→cj.fz=false→i=j
structure Gd(K:PySem.W.Frag)(mp:List Addr)(H:Hp)(σ:L2.St)(ρ:Lc)(S:Sto):Prop where
 rs:RS K mp H S
 len:σ.length=ρ.length
 loc:∀ (i:Nat) (d:D),ρ[i]?=some (some d)→∃ v,σ[i]?=some (some v)∧Rep K mp H d v
theorem Gd.aft{K:PySem.W.Frag}{mp mp':List Addr}{H H':Hp}{σ:L2.St}{ρ:Lc}{S S':Sto}(g:Gd K mp H σ ρ S)(a:Aft K mp H mp' H')(r:RS K mp' H' S'):Gd K mp' H' σ ρ S':=
 ⟨r,g.len,fun i d h=>let ⟨v,e,q⟩:=g.loc i d h; ⟨v,e,q.aft a⟩⟩
abbrev XW:=XD→List Addr→Hp→L2.St→Lc→Sto→Prop
abbrev RL(α β:Type):=List Addr→Hp→α→β→Prop
def PostG{α β:Type}(K:PySem.W.Frag)(R:RL α β)(XQ:XW)(σ:L2.St)(ρ:Lc)(mp:List Addr)(H:Hp)(o:Out α)(Q:β→Hp→Prop):Prop:=
 match o with
 | .ok d S=>∀ mp' H' v,Aft K mp H mp' H'→RS K mp' H' S→R mp' H' d v→Q v H'
 | .exc x S=>∀ mp' H',Aft K mp H mp' H'→Gd K mp' H' σ ρ S→XQ x mp' H' σ ρ S
 | .bad=>False
theorem PostG.aft{α β:Type}{K:PySem.W.Frag}{R:RL α β}{XQ:XW}{σ:L2.St}{ρ:Lc}{mp mp':List Addr}{H H':Hp}{o:Out α}{Q:β→Hp→Prop}(p:PostG K R XQ σ ρ mp H o Q)(a:Aft K mp H mp' H'):PostG K R XQ σ ρ mp' H' o Q:=by
 cases o with
 | ok d S=>exact fun m h v b=>p m h v (a.trans b)
 | exc x S=>exact fun m h b=>p m h (a.trans b)
 | bad=>exact p
theorem PostG.ok{α β:Type}{K:PySem.W.Frag}{R:RL α β}{XQ:XW}{σ:L2.St}{ρ:Lc}{mp:List Addr}{H:Hp}{d:α}{S:Sto}{v:β}{Q:β→Hp→Prop}(p:PostG K R XQ σ ρ mp H (.ok d S) Q)(r:RS K mp H S)(h:R mp H d v):Q v H:=p mp H v .refl r h
abbrev Post(K:PySem.W.Frag)(XQ:XW):=PostG (β:=V) K (Rep K) XQ
abbrev Ev(α:Type):=Lc→Sto→Out α
def rdG{α β:Type}(K:PySem.W.Frag)(R:RL α β)(XQ:XW)(f:Ev α):L2.St→Hp→(β→Hp→Prop)→Prop:=fun σ H Q=>∃ mp ρ S,Gd K mp H σ ρ S∧PostG K R XQ σ ρ mp H (f ρ S) Q
def kB:RL Bool Bool:=fun _ _ a b=>b=a
def kO:RL (Option Int) (Option Int):=fun _ _ a b=>b=a
abbrev rdE(K:PySem.W.Frag)(XQ:XW)(f:Ev D):TE:=rdG K (Rep K) XQ f
abbrev rdA(K:PySem.W.Frag)(XQ:XW)(f:Ev (List D)):TA:=rdG K (RepL K) XQ f
abbrev rdT(K:PySem.W.Frag)(XQ:XW)(f:Ev Bool):TT:=rdG K kB XQ f
abbrev rdO(K:PySem.W.Frag)(XQ:XW)(f:Ev (Option Int)):TO:=rdG K kO XQ f
def JE(X:Cx)(XQ:XW)(e:Expr)(f:Ev D):Prop:=PE X e (rdE X.K XQ f)
def JA(X:Cx)(XQ:XW)(es:List Expr)(f:Ev (List D)):Prop:=PA X es (rdA X.K XQ f)
def JT(X:Cx)(XQ:XW)(e:Expr)(f:Ev Bool):Prop:=PT X e (rdT X.K XQ f)
def JW(X:Cx)(XQ:XW)(e:Expr)(f:Ev Bool):Prop:=PW X e (rdT X.K XQ f)
def JO(X:Cx)(XQ:XW)(e:Option Expr)(f:Ev (Option Int)):Prop:=PO X e (rdO X.K XQ f)
theorem PE.mono{X:Cx}{e:Expr}{t t':TE}(h:PE X e t)(m:∀ σ H Q,t' σ H Q→t σ H Q):PE X e t':=fun pins s σ H Q I q=>h pins s σ H Q I (m σ H Q q)
theorem PT.mono{X:Cx}{e:Expr}{t t':TT}(h:PT X e t)(m:∀ σ H Q,t' σ H Q→t σ H Q):PT X e t':=fun pins s σ H Q I q=>h pins s σ H Q I (m σ H Q q)
theorem PW.mono{X:Cx}{e:Expr}{t t':TT}(h:PW X e t)(m:∀ σ H Q,t' σ H Q→t σ H Q):PW X e t':=fun wh pins s σ H Q I q=>h wh pins s σ H Q I (m σ H Q q)
theorem PO.mono{X:Cx}{e:Option Expr}{t t':TO}(h:PO X e t)(m:∀ σ H Q,t' σ H Q→t σ H Q):PO X e t':=fun pins s σ H Q I q=>h pins s σ H Q I (m σ H Q q)
theorem PA.mono{X:Cx}{e:List Expr}{t t':TA}(h:PA X e t)(m:∀ σ H Q,t' σ H Q→t σ H Q):PA X e t':=fun pos pins s σ H Q I q=>h pos pins s σ H Q I (m σ H Q q)
theorem PS.mono{X:Cx}{e:Stmt}{t t':TS}(h:PS X e t)(m:∀ D σ H,t' D σ H→t D σ H):PS X e t':=fun pins s σ H D I q=>h pins s σ H D I (m D σ H q)
theorem PSs.mono{X:Cx}{e:List Stmt}{t t':TS}(h:PSs X e t)(m:∀ D σ H,t' D σ H→t D σ H):PSs X e t':=fun pins s σ H D I q=>h pins s σ H D I (m D σ H q)
theorem bindP{α β γ δ:Type}{K:PySem.W.Frag}{R:RL α β}{R':RL γ δ}{XQ:XW}{mp:List Addr}{H:Hp}{σ:L2.St}{ρ:Lc}{S:Sto}{f:Ev α}{g:α→Sto→Out γ}{Q:δ→Hp→Prop}{Q1:β→Hp→Prop}(G:Gd K mp H σ ρ S)(p:PostG K R' XQ σ ρ mp H ((f ρ S).bind g) Q)
  (k:∀ mp1 H1 d S1 v,Aft K mp H mp1 H1→Gd K mp1 H1 σ ρ S1→R mp1 H1 d v→PostG K R' XQ σ ρ mp1 H1 (g d S1) Q→Q1 v H1):rdG K R XQ f σ H Q1:=by
 refine⟨mp,ρ,S,G,?_⟩
 cases e:f ρ S with
 | ok d S1=>
  rw[e] at p
  exact fun mp1 H1 v a rs r=>k mp1 H1 d S1 v a (G.aft a rs) r (PostG.aft p a)
 | exc x S1=>rw[e] at p; exact p
 | bad=>rw[e] at p; exact p
def vr(i:Nat):Ev D:=fun ρ S=>match ρ[i]? with
 | some (some d)=>.ok d S
 | _=>.bad
def cn(d:D):Ev D:=fun _ S=>.ok d S
section
variable{X:Cx}{XQ:XW}
theorem je_var(i:Nat){x:Str}{pos:Pos}(hN:X.N[i]?=some x:=by rfl)(hv:Vis X.env.scope x:=by first | exact Or.inl rfl | exact Or.inr (Or.inl rfl) | exact Or.inr (Or.inr rfl))(hd:(x==("__debug__":Str))=false:=by decide)
  (hcd:(x==("__classdict__":Str))=false:=by decide):JE X XQ (.Name x pos) (vr i):=by
 refine PE.mono (pe_var hN hv hd hcd) fun σ H Q ⟨mp,ρ,S,G,p⟩=>?_
 unfold vr at p
 cases e:ρ[i]? with
 | none=>rw[e] at p; exact p.elim
 | some o=>
  rw[e] at p
  cases o with
  | none=>exact p.elim
  | some d=>
   obtain⟨v,h1,h2⟩:=G.loc i d e
   exact⟨v,h1,PostG.ok p G.rs h2⟩
theorem je_const{e:Expr}{d:D}{v:V}(h:PE X e (tC v))(r:∀ mp H,Rep X.K mp H d v):JE X XQ e (cn d):=
 PE.mono h fun σ H Q ⟨mp,ρ,S,G,p⟩=>PostG.ok p G.rs (r mp H)
theorem je_int{i:Int}{j pos}:JE X XQ (.Constant (.int i) j pos) (cn (.int i)):=je_const pe_int fun _ _=>rfl
theorem je_bl{b:Bool}{j pos}:JE X XQ (.Constant (.bool b) j pos) (cn (.bl b)):=je_const pe_bl fun _ _=>rfl
theorem je_non{j pos}:JE X XQ (.Constant .none j pos) (cn .non):=je_const pe_non fun _ _=>rfl
theorem je_str{x:Str}{j pos}:JE X XQ (.Constant (.str x) j pos) (cn (.str x)):=je_const pe_str fun _ _=>rfl
def an:Ev (List D):=fun _ S=>.ok [] S
def ac(f:Ev D)(g:Ev (List D)):Ev (List D):=fun ρ S=>(f ρ S).bind fun x S1=>(g ρ S1).bind fun xs S2=>.ok (x::xs) S2
theorem ja_nil:JA X XQ [] an:=PA.mono pa_nil fun σ H Q ⟨mp,ρ,S,G,p⟩=>PostG.ok p G.rs RepL.nil
theorem ja_cons{e:Expr}{es:List Expr}{f:Ev D}{g:Ev (List D)}(ha:JE X XQ e f)(hr:JA X XQ es g)(hs:starEach (e::es) X.env=(false,eval e X.env)::starEach es X.env:=by rfl):JA X XQ (e::es) (ac f g):=by
 refine PA.mono (pa_cons ha hr hs) fun σ H Q ⟨mp,ρ,S,G,p⟩=>?_
 refine bindP G p fun mp1 H1 x S1 v a1 G1 r1 p1=>?_
 refine bindP G1 p1 fun mp2 H2 xs S2 vs a2 G2 r2 p2=>?_
 exact PostG.ok p2 G2.rs (RepL.cons (Rep.aft a2 _ _ r1) r2)
theorem aft_new{K:PySem.W.Frag}{mp:List Addr}{H:Hp}{p:Addr}{o:HO}(h:H p=none):Aft K mp H mp (upd H p o):=by
 refine⟨fun _ _ e=>e,fun a xs s=>?_,fun a φ s=>by rw[upd_ne (ne_of_none s h)]; exact s⟩
 rcases s with(s | ⟨ob,s⟩) | s
 ·exact .inl (.inl (by rw[upd_ne (ne_of_none s h)]; exact s))
 ·exact .inl (.inr ⟨ob,by rw[upd_ne (ne_of_none s h)]; exact s⟩)
 ·exact .inr s
theorem sqF_new{K:PySem.W.Frag}{H:Hp}{p a:Addr}{o:HO}{xs:List V}(h:H p=none)(s:SqF K H a xs):SqF K (upd H p o) a xs:=by
 rcases s with⟨ob,s⟩ | s
 ·exact .inl ⟨ob,by rw[upd_ne (ne_of_none s h)]; exact s⟩
 ·exact .inr s
theorem CellOk.new{K:PySem.W.Frag}{mp mp':List Addr}{H:Hp}{p a:Addr}{o:HO}{c:Cell}(h:H p=none)(af:Aft K mp H mp' (upd H p o))(q:CellOk K mp H a c):CellOk K mp' (upd H p o) a c:=by
 obtain⟨xs,r,e⟩:=q
 refine⟨xs,RepL.aft af _ _ r,?_⟩
 cases z:c.fz with
 | true=>rw[z] at e; exact(if_pos rfl).mpr (sqF_new h ((if_pos rfl).mp e))
 | false=>
  rw[z,if_neg Bool.false_ne_true] at e
  rw[if_neg Bool.false_ne_true,upd_ne (ne_of_none e h)]
  exact e
theorem RS.new{K:PySem.W.Frag}{mp:List Addr}{H:Hp}{S:Sto}{p:Addr}{o:HO}(r:RS K mp H S)(h:H p=none):RS K mp (upd H p o) S:=
 ⟨r.len,fun i a c e1 e2=>(r.cell i a c e1 e2).new h (aft_new h),r.inj⟩
theorem RS.newL{K:PySem.W.Frag}{mp:List Addr}{H:Hp}{S:Sto}{p:Addr}{ds:List D}{vs:List V}(r:RS K mp H S)(h:H p=none)(q:RepL K mp H ds vs):
  Aft K mp H (mp++[p]) (upd H p (.lst vs))∧RS K (mp++[p]) (upd H p (.lst vs)) (S++[⟨false,ds⟩])∧(mp++[p])[S.length]?=some p:=by
 have af:Aft K mp H (mp++[p]) (upd H p (.lst vs)):=⟨fun i a e=>by rw[List.getElem?_append_left (List.getElem?_eq_some_iff.mp e).1]; exact e,(aft_new (mp:=mp) h).tup,(aft_new (K:=K) (mp:=mp) h).ext⟩
 have hl:=r.len
 have lastp:(mp++[p])[S.length]?=some p:=by rw[←hl]; simp
 refine⟨af,⟨by simp[hl],fun i a c e1 e2=>?_,fun i j a ci cj e1 e2 e3 e4 f1 f2=>?_⟩,lastp⟩
 ·by_cases hi:i<S.length
  ·rw[List.getElem?_append_left (by omega)] at e1
   rw[List.getElem?_append_left hi] at e2
   exact(r.cell i a c e1 e2).new h af
  ·have hi':i=S.length:=by
    have:=(List.getElem?_eq_some_iff.mp e2).1
    simp at this
    omega
   subst hi'
   rw[lastp] at e1
   cases e1
   simp at e2
   subst e2
   exact⟨vs,RepL.aft af _ _ q,by simp[upd_same]⟩
 ·have old:∀ (i:Nat) (a:Addr) (c:Cell),i<S.length→(mp++[p])[i]?=some a→(S++[⟨false,ds⟩])[i]?=some c→c.fz=false→mp[i]?=some a∧S[i]?=some c∧a≠p:=fun i a c hi e1 e2 f=>by
   rw[List.getElem?_append_left (by omega)] at e1
   rw[List.getElem?_append_left hi] at e2
   refine⟨e1,e2,?_⟩
   obtain⟨xs,_,e⟩:=r.cell i a c e1 e2
   rw[f,if_neg Bool.false_ne_true] at e
   exact ne_of_none e h
  have hi:=(List.getElem?_eq_some_iff.mp e3).1
  have hj:=(List.getElem?_eq_some_iff.mp e4).1
  simp at hi hj
  by_cases hi':i<S.length
  ·obtain⟨o1,o2,o3⟩:=old i a ci hi' e1 e3 f1
   by_cases hj':j<S.length
   ·obtain⟨u1,u2,u3⟩:=old j a cj hj' e2 e4 f2
    exact r.inj i j a ci cj o1 u1 o2 u2 f1 f2
   ·have:j=S.length:=by omega
    subst this
    rw[lastp] at e2
    cases e2
    exact absurd rfl o3
  ·have:i=S.length:=by omega
   subst this
   rw[lastp] at e1
   cases e1
   by_cases hj':j<S.length
   ·obtain⟨u1,u2,u3⟩:=old j _ cj hj' e2 e4 f2
    exact absurd rfl u3
   ·omega
theorem RS.setL{K:PySem.W.Frag}{mp:List Addr}{H:Hp}{S:Sto}{i:Nat}{a:Addr}{c:Cell}{xs vs:List V}{ds:List D}(r:RS K mp H S)(hi:mp[i]?=some a)(hc:S[i]?=some c)(hf:c.fz=false)(ha:H a=some (.lst xs))(q:RepL K mp H ds vs):
  Aft K mp H mp (upd H a (.lst vs))∧RS K mp (upd H a (.lst vs)) (S.set i ⟨false,ds⟩):=by
 have af:Aft K mp H mp (upd H a (.lst vs)):=by
  refine⟨fun _ _ e=>e,fun b ys s=>?_,fun b φ s=>by rw[upd_ne (ne_of s ha (by intro z; cases z))]; exact s⟩
  rcases s with(s | ⟨ob,s⟩) | s
  ·exact .inl (.inl (by rw[upd_ne (ne_of s ha (by intro z; cases z))]; exact s))
  ·exact .inl (.inr ⟨ob,by rw[upd_ne (ne_of s ha (by intro z; cases z))]; exact s⟩)
  ·exact .inr s
 refine⟨af,⟨by simp[r.len],fun j b cj e1 e2=>?_,fun j k b cj ck e1 e2 e3 e4 f1 f2=>?_⟩⟩
 ·by_cases hj:j=i
  ·subst hj
   rw[hi] at e1
   cases e1
   rw[List.getElem?_set_self (List.getElem?_eq_some_iff.mp hc).1] at e2
   cases e2
   exact⟨vs,RepL.aft af _ _ q,by simp[upd_same]⟩
  ·rw[List.getElem?_set_ne (Ne.symm hj)] at e2
   obtain⟨ys,h1,h2⟩:=r.cell j b cj e1 e2
   refine⟨ys,RepL.aft af _ _ h1,?_⟩
   cases z:cj.fz with
   | true=>
    rw[z] at h2
    have h2:SqF K H b ys:=(if_pos rfl).mp h2
    refine(if_pos rfl).mpr ?_
    rcases h2 with⟨ob,s⟩ | s
    ·exact .inl ⟨ob,by rw[upd_ne (ne_of s ha (by intro z; cases z))]; exact s⟩
    ·exact .inr s
   | false=>
    rw[z,if_neg Bool.false_ne_true] at h2
    rw[if_neg Bool.false_ne_true]
    have hb:b≠a:=fun hb=>by
     subst hb
     exact hj (r.inj j i b cj c e1 hi e2 hc z hf)
    rw[upd_ne hb]
    exact h2
 ·have fz:∀ (j:Nat) (cj:Cell),(S.set i ⟨false,ds⟩)[j]?=some cj→cj.fz=false→∃ c',S[j]?=some c'∧c'.fz=false:=fun j cj e f=>by
   by_cases hj:j=i
   ·subst hj
    exact⟨c,hc,hf⟩
   ·rw[List.getElem?_set_ne (Ne.symm hj)] at e
    exact⟨cj,e,f⟩
  obtain⟨c1,g1,g2⟩:=fz j cj e3 f1
  obtain⟨c2,g3,g4⟩:=fz k ck e4 f2
  exact r.inj j k b c1 c2 e1 e2 g1 g3 g2 g4
theorem RS.items{K:PySem.W.Frag}{mp:List Addr}{H:Hp}{S:Sto}{i:Nat}{c:Cell}{v:V}(r:RS K mp H S)(h:Rep K mp H (.lst i) v)(e:S[i]?=some c):∃ a xs,v=.ref a∧mp[i]?=some a∧SqL K H a xs∧RepL K mp H c.xs xs∧(c.fz=false→H a=some (.lst xs)):=by
 obtain⟨a,ev,ea⟩:=(show ∃ a,v=.ref a∧mp[i]?=some a from h)
 obtain⟨xs,q,z⟩:=r.cell i a c ea e
 cases f:c.fz with
 | true=>rw[f] at z; exact⟨a,xs,ev,ea,((if_pos rfl).mp z:SqF K H a xs).sq,q,fun w=>nomatch w⟩
 | false=>rw[f,if_neg Bool.false_ne_true] at z; exact⟨a,xs,ev,ea,SqL.of z,q,fun _=>z⟩
theorem Rep.tup{K:PySem.W.Frag}{mp:List Addr}{H:Hp}{l:List D}{v:V}(h:Rep K mp H (.tup l) v):∃ a xs,v=.ref a∧SqT K H a xs∧RepL K mp H l xs:=h
def OpD(K:PySem.W.Frag)(r:R2)(o:D→D→Sto→Out D):Prop:=
 ∀ (XQ:XW) (σ:L2.St) (ρ:Lc) (mp:List Addr) (H:Hp) (S:Sto) (x y:D) (v u:V) (Q:VK),RS K mp H S→Rep K mp H x v→Rep K mp H y u→Post K XQ σ ρ mp H (o x y S) Q→r v u H Q
def o2(o:D→D→Sto→Out D)(fa fb:Ev D):Ev D:=fun ρ S=>(fa ρ S).bind fun x S1=>(fb ρ S1).bind fun y S2=>o x y S2
theorem opR2{r:R2}{o:D→D→Sto→Out D}{fa fb:Ev D}(hd:OpD X.K r o):∀ σ H Q,rdE X.K XQ (o2 o fa fb) σ H Q→tOp r (rdE X.K XQ fa) (rdE X.K XQ fb) σ H Q:=by
 intro σ H Q ⟨mp,ρ,S,G,p⟩
 refine bindP G p fun mp1 H1 x S1 v a1 G1 r1 p1=>?_
 refine bindP G1 p1 fun mp2 H2 y S2 u a2 G2 r2 p2=>?_
 exact hd XQ σ ρ mp2 H2 S2 x y v u Q G2.rs (Rep.aft a2 _ _ r1) r2 p2
theorem je_op{a b:Expr}{fa fb:Ev D}{op:Operator}{r:R2}{o:D→D→Sto→Out D}{pos:Pos}(ho:OpR X (binaryOp op) r)(hd:OpD X.K r o)(ha:JE X XQ a fa)(hb:JE X XQ b fb):JE X XQ (.BinOp a op b pos) (o2 o fa fb):=
 PE.mono (pe_op ho ha hb) (opR2 hd)
theorem je_cmp{a b:Expr}{fa fb:Ev D}{op:CmpOp}{r:R2}{o:D→D→Sto→Out D}{pos:Pos}(ho:OpR X (compareOp op) r)(hd:OpD X.K r o)(ha:JE X XQ a fa)(hb:JE X XQ b fb)(hm:behindInMarks op b=false):JE X XQ (.Compare a [op] [b] pos) (o2 o fa fb):=
 PE.mono (pe_cmpR ho ha hb hm) (opR2 hd)
theorem je_ix{a b:Expr}{fa fb:Ev D}{r:R2}{o:D→D→Sto→Out D}{pos:Pos}(hr:IxR X r)(hd:OpD X.K r o)(ha:JE X XQ a fa)(hb:JE X XQ b fb)(hs:PlainIx b):JE X XQ (.Subscript a b pos) (o2 o fa fb):=
 PE.mono (pe_ix hr ha hb hs) (opR2 hd)
def UnD(K:PySem.W.Frag)(r:V→Hp→VK→Prop)(o:D→Sto→Out D):Prop:=
 ∀ (XQ:XW) (σ:L2.St) (ρ:Lc) (mp:List Addr) (H:Hp) (S:Sto) (x:D) (v:V) (Q:VK),RS K mp H S→Rep K mp H x v→Post K XQ σ ρ mp H (o x S) Q→r v H Q
def o1(o:D→Sto→Out D)(fa:Ev D):Ev D:=fun ρ S=>(fa ρ S).bind fun x S1=>o x S1
theorem je_un{a:Expr}{fa:Ev D}{op:UnaryOp}{r:V→Hp→VK→Prop}{o:D→Sto→Out D}{pos:Pos}(ho:UnR X (unaryOp op) r)(hd:UnD X.K r o)(ha:JE X XQ a fa):JE X XQ (.UnaryOp op a pos) (o1 o fa):=by
 refine PE.mono (pe_un ho ha) fun σ H Q ⟨mp,ρ,S,G,p⟩=>?_
 exact bindP G p fun mp1 H1 x S1 v a1 G1 r1 p1=>hd XQ σ ρ mp1 H1 S1 x v Q G1.rs r1 p1
def tp(f:Ev (List D)):Ev D:=fun ρ S=>(f ρ S).bind fun xs S1=>if xs.length≤1000000 then .ok (.tup xs) S1 else .bad
def ls(f:Ev (List D)):Ev D:=fun ρ S=>(f ρ S).bind fun xs S1=>if xs.length≤1000000 then .ok (.lst S1.length) (S1++[⟨false,xs⟩]) else .bad
theorem line_le{n:Nat}(h:n≤1000000):n≤sizeLine:=Nat.le_trans h (by decide)
theorem post_tup{K:PySem.W.Frag}{σ:L2.St}{ρ:Lc}{mp:List Addr}{H:Hp}{S:Sto}{ds:List D}{vs:List V}{Q:VK}{p:Addr}(po:Post K XQ σ ρ mp H (.ok (.tup ds) S) Q)(r:RS K mp H S)(q:RepL K mp H ds vs)(h:H p=none):Q (.ref p) (upd H p (.tup vs)):=by
 have af:Aft K mp H mp (upd H p (.tup vs)):=aft_new h
 exact po mp _ _ af (r.new h) ⟨p,vs,rfl,SqT.of upd_same,RepL.aft af _ _ q⟩
theorem post_lst{K:PySem.W.Frag}{σ:L2.St}{ρ:Lc}{mp:List Addr}{H:Hp}{S:Sto}{ds:List D}{vs:List V}{Q:VK}{p:Addr}(po:Post K XQ σ ρ mp H (.ok (.lst S.length) (S++[⟨false,ds⟩])) Q)(r:RS K mp H S)(q:RepL K mp H ds vs)(h:H p=none):Q (.ref p) (upd H p (.lst vs)):=by
 obtain⟨af,rs,e⟩:=r.newL h q
 exact po _ _ _ af rs ⟨p,rfl,e⟩
theorem je_tup{es:List Expr}{f:Ev (List D)}{x1}{pos:Pos}(h:JA X XQ es f):JE X XQ (.Tuple es x1 pos) (tp f):=by
 refine PE.mono (pe_tup h) fun σ H Q ⟨mp,ρ,S,G,p⟩=>?_
 refine bindP G p fun mp1 H1 xs S1 vs a1 G1 r1 p1=>?_
 by_cases hl:xs.length≤1000000
 ·rw[if_pos hl] at p1
  exact⟨by rw[r1.len]; exact line_le hl,fun q hq=>post_tup p1 G1.rs r1 hq⟩
 ·rw[if_neg hl] at p1; exact p1.elim
theorem je_lst{es:List Expr}{f:Ev (List D)}{pos:Pos}(h:JA X XQ es f):JE X XQ (.List es pos) (ls f):=by
 refine PE.mono (pe_lst h) fun σ H Q ⟨mp,ρ,S,G,p⟩=>?_
 refine bindP G p fun mp1 H1 xs S1 vs a1 G1 r1 p1=>?_
 by_cases hl:xs.length≤1000000
 ·rw[if_pos hl] at p1
  exact⟨by rw[r1.len]; exact line_le hl,fun q hq=>post_lst p1 G1.rs r1 hq⟩
 ·rw[if_neg hl] at p1; exact p1.elim
def truD:D→Sto→Option Bool
 | .non,_=>some false
 | .bl b,_=>some b
 | .int i,_=>some (i != 0)
 | .str y,_=>if y.length≤1000000 then some ((y.length:Int) != 0) else none
 | .tup l,_=>some (!l.isEmpty)
 | .lst i,S=>match S[i]? with
  | some c=>some (!c.xs.isEmpty)
  | none=>none
 | .exn _ _,_=>none
 | .fv _,_=>none
def tt(f:Ev D):Ev Bool:=fun ρ S=>(f ρ S).bind fun x S1=>match truD x S1 with
 | some b=>.ok b S1
 | none=>.bad
theorem RepL.empty{K:PySem.W.Frag}{mp:List Addr}{H:Hp}{l:List D}{vs:List V}(h:RepL K mp H l vs):(!l.isEmpty)=!vs.isEmpty:=by
 have e:=h.len
 cases l<;>cases vs<;>simp_all
theorem truV_of{K:PySem.W.Frag}{mp:List Addr}{H:Hp}{S:Sto}{x:D}{v:V}{b:Bool}(r:RS K mp H S)(h:Rep K mp H x v)(e:truD x S=some b):TruV K v H b:=by
 cases x with
 | non=>cases (show v=.non from h); exact(Option.some.inj e).symm
 | bl c=>cases (show v=.bl c from h); exact(Option.some.inj e).symm
 | int i=>cases (show v=.int i from h); exact(Option.some.inj e).symm
 | str y=>
  cases (show v=.str y from h)
  have e:(if y.length≤1000000 then some ((y.length:Int) != 0) else none)=some b:=e
  by_cases hl:y.length≤1000000
  ·rw[if_pos hl] at e; exact⟨line_le hl,(Option.some.inj e).symm⟩
  ·rw[if_neg hl] at e; cases e
 | tup l=>
  obtain⟨a,xs,rfl,s,q⟩:=Rep.tup h
  exact .inr (.inl ⟨xs,s,by rw[←q.empty]; exact(Option.some.inj e).symm⟩)
 | lst i=>
  have e:(match S[i]? with | some c=>some (!c.xs.isEmpty) | none=>none)=some b:=e
  cases z:S[i]? with
  | none=>rw[z] at e; cases e
  | some c=>
   rw[z] at e
   obtain⟨a,xs,rfl,_,s,q,_⟩:=r.items h z
   exact .inl ⟨xs,s,by rw[←q.empty]; exact(Option.some.inj e).symm⟩
 | exn c n=>cases (show(none:Option Bool)=some b from e)
 | fv c=>cases (show(none:Option Bool)=some b from e)
theorem jt_val{e:Expr}{f:Ev D}(h:JE X XQ e f)(he:∀ whole,isTrue e X.env whole=(do let v ←whole; standAt e.pos; holding [v] (truthy v)):=by intro _; rfl):JT X XQ e (tt f):=by
 refine PT.mono (pt_truth h he) fun σ H Q ⟨mp,ρ,S,G,p⟩=>?_
 refine bindP G p fun mp1 H1 x S1 v a1 G1 r1 p1=>?_
 cases z:truD x S1 with
 | none=>rw[z] at p1; exact p1.elim
 | some b=>
  rw[z] at p1
  exact⟨b,truV_of G1.rs r1 z,PostG.ok p1 G1.rs rfl⟩
def tb(f:Ev D):Ev Bool:=fun ρ S=>(f ρ S).bind fun x S1=>match x with
 | .bl b=>.ok b S1
 | _=>.bad
theorem tb_of{K:PySem.W.Frag}{f:Ev D}{σ:L2.St}{H:Hp}{Q:Bool→Hp→Prop}(h:rdT K XQ (tb f) σ H Q):rdE K XQ f σ H fun x H1=>∃ k,x=.bl k∧Q k H1:=by
 obtain⟨mp,ρ,S,G,p⟩:=h
 refine bindP G p fun mp1 H1 x S1 v a1 G1 r1 p1=>?_
 cases x with
 | bl b=>exact⟨b,r1,PostG.ok p1 G1.rs rfl⟩
 | _=>exact p1.elim
theorem jt_cmp{a b:Expr}{fa fb:Ev D}{op:CmpOp}{r:R2}{o:D→D→Sto→Out D}{pos:Pos}(ho:OpR X (compareOp op) r)(hd:OpD X.K r o)(ha:JE X XQ a fa)(hb:JE X XQ b fb)(hm:behindInMarks op b=false):JT X XQ (.Compare a [op] [b] pos) (tb (o2 o fa fb)):=
 PT.mono (pt_cmpR ho ha hb hm) fun σ H Q h=>opR2 hd σ H _ (tb_of h)
def tn(f:Ev Bool):Ev Bool:=fun ρ S=>(f ρ S).bind fun b S1=>.ok (!b) S1
def ta(f g:Ev Bool):Ev Bool:=fun ρ S=>(f ρ S).bind fun b S1=>if b=true then g ρ S1 else .ok false S1
def to(f g:Ev Bool):Ev Bool:=fun ρ S=>(f ρ S).bind fun b S1=>if b=true then .ok true S1 else g ρ S1
theorem jt_not{a:Expr}{f:Ev Bool}{pos:Pos}(h:JT X XQ a f):JT X XQ (.UnaryOp .Not a pos) (tn f):=
 PT.mono (pt_not h) fun σ H Q ⟨mp,ρ,S,G,p⟩=>bindP G p fun mp1 H1 b S1 c a1 G1 r1 p1=>by
  cases (show c=b from r1)
  exact PostG.ok p1 G1.rs rfl
theorem jw_and1{a:Expr}{f:Ev Bool}{pos:Pos}(h:JT X XQ a f):JW X XQ (.BoolOp .And [a] pos) f:=pw_and1 h
theorem jw_or1{a:Expr}{f:Ev Bool}{pos:Pos}(h:JT X XQ a f):JW X XQ (.BoolOp .Or [a] pos) f:=pw_or1 h
theorem jw_and{a b:Expr}{rest:List Expr}{f g:Ev Bool}{pos:Pos}(h:JT X XQ a f)(hb:JW X XQ (.BoolOp .And (b::rest) pos) g):JW X XQ (.BoolOp .And (a::b::rest) pos) (ta f g):=
 PW.mono (pw_and h hb) fun σ H Q ⟨mp,ρ,S,G,p⟩=>bindP G p fun mp1 H1 b S1 c a1 G1 r1 p1=>by
  cases (show c=b from r1)
  cases b with
  | true=>exact(if_pos rfl).mpr ⟨mp1,ρ,S1,G1,by simpa using p1⟩
  | false=>exact(if_neg Bool.false_ne_true).mpr (PostG.ok (R:=kB) (d:=false) (S:=S1) (by simpa using p1) G1.rs rfl)
theorem jw_or{a b:Expr}{rest:List Expr}{f g:Ev Bool}{pos:Pos}(h:JT X XQ a f)(hb:JW X XQ (.BoolOp .Or (b::rest) pos) g):JW X XQ (.BoolOp .Or (a::b::rest) pos) (to f g):=
 PW.mono (pw_or h hb) fun σ H Q ⟨mp,ρ,S,G,p⟩=>bindP G p fun mp1 H1 b S1 c a1 G1 r1 p1=>by
  cases (show c=b from r1)
  cases b with
  | false=>exact(if_neg Bool.false_ne_true).mpr ⟨mp1,ρ,S1,G1,by simpa using p1⟩
  | true=>exact(if_pos rfl).mpr (PostG.ok (R:=kB) (d:=true) (S:=S1) (by simpa using p1) G1.rs rfl)
theorem JW.jt{e:Expr}{f:Ev Bool}(h:JW X XQ e f):JT X XQ e f:=PW.pt h
def va(f g:Ev D):Ev D:=fun ρ S=>(f ρ S).bind fun x S1=>match x with
 | .bl b=>if b=true then g ρ S1 else .ok (.bl false) S1
 | _=>.bad
def vo(f g:Ev D):Ev D:=fun ρ S=>(f ρ S).bind fun x S1=>match x with
 | .bl b=>if b=true then .ok (.bl true) S1 else g ρ S1
 | _=>.bad
def vn(f:Ev D):Ev D:=fun ρ S=>(f ρ S).bind fun x S1=>match x with
 | .bl b=>.ok (.bl (!b)) S1
 | _=>.bad
theorem je_one{a:Expr}{op}{f:Ev D}{pos:Pos}(h:JE X XQ a f):JE X XQ (.BoolOp op [a] pos) f:=pe_one h
theorem je_and{a b:Expr}{rest:List Expr}{f g:Ev D}{pos:Pos}(ha:JE X XQ a f)(hb:JE X XQ (.BoolOp .And (b::rest) pos) g):JE X XQ (.BoolOp .And (a::b::rest) pos) (va f g):=
 PE.mono (pe_and ha hb) fun σ H Q ⟨mp,ρ,S,G,p⟩=>bindP G p fun mp1 H1 x S1 v a1 G1 r1 p1=>by
  cases x with
  | bl b=>
   refine⟨b,r1,?_⟩
   cases b with
   | true=>exact(if_pos rfl).mpr ⟨mp1,ρ,S1,G1,by simpa using p1⟩
   | false=>exact(if_neg Bool.false_ne_true).mpr (PostG.ok (R:=Rep X.K) (d:=.bl false) (S:=S1) (by simpa using p1) G1.rs rfl)
  | _=>exact p1.elim
def ie(c:Ev Bool)(f g:Ev D):Ev D:=fun ρ S=>(c ρ S).bind fun b S1=>if b=true then f ρ S1 else g ρ S1
theorem je_ifx{a b c:Expr}{fc:Ev Bool}{fa fb:Ev D}{pos:Pos}(hc:JT X XQ c fc)(ha:JE X XQ a fa)(hb:JE X XQ b fb):JE X XQ (.IfExp c a b pos) (ie fc fa fb):=
 PE.mono (pe_ifExp hc ha hb) fun σ H Q ⟨mp,ρ,S,G,p⟩=>bindP G p fun mp1 H1 b S1 c a1 G1 r1 p1=>by
  cases (show c=b from r1)
  cases b with
  | true=>exact(if_pos rfl).mpr ⟨mp1,ρ,S1,G1,by simpa using p1⟩
  | false=>exact(if_neg Bool.false_ne_true).mpr ⟨mp1,ρ,S1,G1,by simpa using p1⟩
end
end DL
set_option Elab.async false
set_option linter.all false
set_option maxRecDepth 100000
namespace DL
open PySem PySem.Spec PyProof.Rows L2
inductive OS where
 | nx (ρ:Lc) (S:Sto) | rt (d:D) (S:Sto) | bk (ρ:Lc) (S:Sto) | ct (ρ:Lc) (S:Sto) | exc (x:XD) (ρ:Lc) (S:Sto) | bad
abbrev Sv:=Lc→Sto→OS
def PostS(K:PySem.W.Frag)(XQ:XW)(mp:List Addr)(H:Hp)(o:OS)(E:Ends):Prop:=
 match o with
 | .nx ρ S=>∀ mp' H' σ',Aft K mp H mp' H'→Gd K mp' H' σ' ρ S→E.nx σ' H'
 | .rt d S=>∀ mp' H' v,Aft K mp H mp' H'→RS K mp' H' S→Rep K mp' H' d v→E.rt v H'
 | .bk ρ S=>∀ mp' H' σ',Aft K mp H mp' H'→Gd K mp' H' σ' ρ S→E.bk σ' H'
 | .ct ρ S=>∀ mp' H' σ',Aft K mp H mp' H'→Gd K mp' H' σ' ρ S→E.ct σ' H'
 | .exc x ρ S=>∀ mp' H' σ',Aft K mp H mp' H'→Gd K mp' H' σ' ρ S→XQ x mp' H' σ' ρ S
 | .bad=>False
theorem PostS.aft{K:PySem.W.Frag}{XQ:XW}{mp mp':List Addr}{H H':Hp}{o:OS}{E:Ends}(p:PostS K XQ mp H o E)(a:Aft K mp H mp' H'):PostS K XQ mp' H' o E:=by
 cases o with
 | nx ρ S=>exact fun m h v b=>p m h v (a.trans b)
 | rt d S=>exact fun m h v b=>p m h v (a.trans b)
 | bk ρ S=>exact fun m h v b=>p m h v (a.trans b)
 | ct ρ S=>exact fun m h v b=>p m h v (a.trans b)
 | exc x ρ S=>exact fun m h v b=>p m h v (a.trans b)
 | bad=>exact p
def rdS(K:PySem.W.Frag)(XQ:XW)(f:Sv):TS:=fun E σ H=>∃ mp ρ S,Gd K mp H σ ρ S∧PostS K XQ mp H (f ρ S) E
def JS(X:Cx)(XQ:XW)(st:Stmt)(f:Sv):Prop:=PS X st (rdS X.K XQ f)
def JSs(X:Cx)(XQ:XW)(st:List Stmt)(f:Sv):Prop:=PSs X st (rdS X.K XQ f)
def bindS{α:Type}(o:Out α)(ρ:Lc)(k:α→Sto→OS):OS:=
 match o with
 | .ok a S=>k a S
 | .exc x S=>.exc x ρ S
 | .bad=>.bad
theorem bindSP{α β:Type}{K:PySem.W.Frag}{R:RL α β}{XQ:XW}{mp:List Addr}{H:Hp}{σ:L2.St}{ρ:Lc}{S:Sto}{f:Ev α}{g:α→Sto→OS}{E:Ends}{Q1:β→Hp→Prop}(G:Gd K mp H σ ρ S)(p:PostS K XQ mp H (bindS (f ρ S) ρ g) E)
  (k:∀ mp1 H1 d S1 v,Aft K mp H mp1 H1→Gd K mp1 H1 σ ρ S1→R mp1 H1 d v→PostS K XQ mp1 H1 (g d S1) E→Q1 v H1):rdG K R XQ f σ H Q1:=by
 refine⟨mp,ρ,S,G,?_⟩
 cases e:f ρ S with
 | ok d S1=>
  rw[e] at p
  exact fun mp1 H1 v a rs r=>k mp1 H1 d S1 v a (G.aft a rs) r (PostS.aft p a)
 | exc x S1=>rw[e] at p; exact fun m h b c=>p m h σ b c
 | bad=>rw[e] at p; exact p
def skip:Sv:=fun ρ S=>.nx ρ S
def sq(f g:Sv):Sv:=fun ρ S=>match f ρ S with
 | .nx ρ' S'=>g ρ' S'
 | .rt d S'=>.rt d S'
 | .bk ρ' S'=>.bk ρ' S'
 | .ct ρ' S'=>.ct ρ' S'
 | .exc x ρ' S'=>.exc x ρ' S'
 | .bad=>.bad
section
variable{X:Cx}{XQ:XW}
theorem PostS.nx{K:PySem.W.Frag}{mp:List Addr}{H:Hp}{σ:L2.St}{ρ:Lc}{S:Sto}{E:Ends}(p:PostS K XQ mp H (.nx ρ S) E)(G:Gd K mp H σ ρ S):E.nx σ H:=p mp H σ .refl G
theorem PostS.rt{K:PySem.W.Frag}{mp:List Addr}{H:Hp}{d:D}{v:V}{S:Sto}{E:Ends}(p:PostS K XQ mp H (.rt d S) E)(r:RS K mp H S)(h:Rep K mp H d v):E.rt v H:=p mp H v .refl r h
theorem jss_nil:JSs X XQ [] skip:=PSs.mono pss_nil fun E σ H ⟨mp,ρ,S,G,p⟩=>PostS.nx p G
theorem jss_cons{st:Stmt}{rest:List Stmt}{f g:Sv}(h1:JS X XQ st f)(h2:JSs X XQ rest g):JSs X XQ (st::rest) (sq f g):=by
 refine PSs.mono (pss_cons h1 h2) fun E σ H ⟨mp,ρ,S,G,p⟩=>⟨mp,ρ,S,G,?_⟩
 unfold sq at p
 cases e:f ρ S with
 | nx ρ' S'=>rw[e] at p; exact fun m h v a G'=>⟨m,ρ',S',G',PostS.aft p a⟩
 | rt d S'=>rw[e] at p; exact p
 | bk ρ' S'=>rw[e] at p; exact p
 | ct ρ' S'=>rw[e] at p; exact p
 | exc x ρ' S'=>rw[e] at p; exact p
 | bad=>rw[e] at p; exact p
theorem jss_one{st:Stmt}{f:Sv}(h1:JS X XQ st f):JSs X XQ [st] f:=pss_one h1
def sx(f:Ev D):Sv:=fun ρ S=>bindS (f ρ S) ρ fun _ S1=>.nx ρ S1
theorem js_expr{e:Expr}{f:Ev D}{pos:Pos}(he:JE X XQ e f)(hs:swapsWith e none pos.line X.env=pure false:=by rfl):JS X XQ (.Expr e pos) (sx f):=
 PS.mono (ps_expr he hs) fun E σ H ⟨mp,ρ,S,G,p⟩=>bindSP G p fun mp1 H1 d S1 v a1 G1 r1 p1=>PostS.nx p1 G1
def sret(f:Ev D):Sv:=fun ρ S=>bindS (f ρ S) ρ fun d S1=>.rt d S1
theorem js_ret{e:Expr}{f:Ev D}{pos:Pos}(he:JE X XQ e f):JS X XQ (.Return (some e) pos) (sret f):=
 PS.mono (ps_ret he) fun E σ H ⟨mp,ρ,S,G,p⟩=>bindSP G p fun mp1 H1 d S1 v a1 G1 r1 p1=>PostS.rt p1 G1.rs r1
def sif(c:Ev Bool)(f g:Sv):Sv:=fun ρ S=>bindS (c ρ S) ρ fun b S1=>if b=true then f ρ S1 else g ρ S1
theorem js_if{c:Expr}{a b:List Stmt}{fc:Ev Bool}{f g:Sv}{pos:Pos}(hc:JT X XQ c fc)(ha:JSs X XQ a f)(hb:JSs X XQ b g):JS X XQ (.If c a b pos) (sif fc f g):=
 PS.mono (ps_if hc ha hb) fun E σ H ⟨mp,ρ,S,G,p⟩=>bindSP G p fun mp1 H1 b S1 c a1 G1 r1 p1=>by
  cases (show c=b from r1)
  cases b with
  | true=>exact(if_pos rfl).mpr ⟨mp1,ρ,S1,G1,by simpa using p1⟩
  | false=>exact(if_neg Bool.false_ne_true).mpr ⟨mp1,ρ,S1,G1,by simpa using p1⟩
theorem Gd.set{K:PySem.W.Frag}{mp:List Addr}{H:Hp}{σ:L2.St}{ρ:Lc}{S:Sto}{d:D}{v:V}(G:Gd K mp H σ ρ S)(i:Nat)(r:Rep K mp H d v):Gd K mp H (σ.set i (some v)) (ρ.set i (some d)) S:=by
 refine⟨G.rs,by simp[G.len],fun j e h=>?_⟩
 by_cases hj:j=i
 ·subst hj
  have hl:j<ρ.length:=by
   have:=(List.getElem?_eq_some_iff.mp h).1
   simpa using this
  rw[List.getElem?_set_self hl] at h
  cases h
  exact⟨v,by rw[List.getElem?_set_self (by rw[G.len]; exact hl)],r⟩
 ·rw[List.getElem?_set_ne (Ne.symm hj)] at h ⊢
  exact G.loc j e h
abbrev Tg:=D→Lc→Option Lc
def rdG1(K:PySem.W.Frag)(g:Tg):TG:=fun v σ H Q=>∃ mp ρ S d ρ',Gd K mp H σ ρ S∧Rep K mp H d v∧g d ρ=some ρ'∧∀ σ',Gd K mp H σ' ρ' S→Q σ' H
def JG(X:Cx)(tg:Expr)(g:Tg):Prop:=PG X tg (rdG1 X.K g)
theorem PG.mono{X:Cx}{e:Expr}{t t':TG}(h:PG X e t)(m:∀ v σ H Q,t' v σ H Q→t v σ H Q):PG X e t':=fun pins s σ H v u Q I r q=>h pins s σ H v u Q I r (m v σ H Q q)
def gn(i:Nat):Tg:=fun d ρ=>some (ρ.set i (some d))
theorem jg_name(i:Nat){x:Str}{pos:Pos}(hN:X.N.Nodup)(hi:X.N[i]?=some x:=by rfl)(hx:Loc X.env.scope x:=by first | exact Or.inl rfl | exact Or.inr rfl)(hf:X.fn x=true∨X.env.scope.names.lookup x=some .local:=by first | exact .inl rfl | exact .inr rfl | assumption):JG X (.Name x pos) (gn i):=
 PG.mono (pg_name hN hi hx hf) fun v σ H Q ⟨mp,ρ,S,d,ρ',G,r,e,k⟩=>by
  cases (Option.some.inj e)
  exact k _ (G.set i r)
abbrev Tgs:=List D→Lc→Option Lc
def rdGs(K:PySem.W.Frag)(g:Tgs):TGs:=fun vs σ H Q=>∃ mp ρ S ds ρ',Gd K mp H σ ρ S∧RepL K mp H ds vs∧g ds ρ=some ρ'∧∀ σ',Gd K mp H σ' ρ' S→Q σ' H
def JGs(X:Cx)(ts:List Expr)(g:Tgs):Prop:=PGs X ts (rdGs X.K g)
theorem PGs.mono{X:Cx}{e:List Expr}{t t':TGs}(h:PGs X e t)(m:∀ v σ H Q,t' v σ H Q→t v σ H Q):PGs X e t':=fun pins s σ H v u Q I r q=>h pins s σ H v u Q I r (m v σ H Q q)
def gnil:Tgs:=fun ds ρ=>match ds with
 | []=>some ρ
 | _::_=>none
def gcons(g:Tg)(k:Tgs):Tgs:=fun ds ρ=>match ds with
 | []=>none
 | d::r=>(g d ρ).bind fun ρ'=>k r ρ'
theorem jgs_nil:JGs X [] gnil:=PGs.mono pgs_nil fun vs σ H Q ⟨mp,ρ,S,ds,ρ',G,r,e,k⟩=>by
 cases ds with
 | nil=>
  cases (show some ρ=some ρ' from e)
  exact⟨r,k _ G⟩
 | cons _ _=>cases (show(none:Option Lc)=some ρ' from e)
theorem jgs_cons{e:Expr}{es:List Expr}{g:Tg}{k:Tgs}(h1:JG X e g)(h2:JGs X es k)
  (hs:(assignEach (e::es) X.env).map (·.2)=assign e X.env::(assignEach es X.env).map (·.2):=by rfl):JGs X (e::es) (gcons g k):=
 PGs.mono (pgs_cons h1 h2 hs) fun vs σ H Q ⟨mp,ρ,S,ds,ρ',G,r,e,q⟩=>by
  cases ds with
  | nil=>cases (show(none:Option Lc)=some ρ' from e)
  | cons d ds=>
   have e:(g d ρ).bind (fun ρ'=>k ds ρ')=some ρ':=e
   obtain⟨v,vr,ev,h3,h4⟩:=(show ∃ v r,vs=v::r∧Rep X.K mp H d v∧RepL X.K mp H ds r from r)
   cases z:g d ρ with
   | none=>rw[z] at e; cases e
   | some ρ1=>
    rw[z] at e
    exact⟨v,vr,ev,mp,ρ,S,d,ρ1,G,h3,z,fun σ1 G1=>⟨mp,ρ1,S,ds,ρ',G1,h4,e,q⟩⟩
def gt(k:Tgs)(n:Nat):Tg:=fun d ρ=>match d with
 | .tup ds=>if ds.length=n then k ds ρ else none
 | _=>none
theorem jg_tup{es:List Expr}{m:Nat}{k:Tgs}{n:Nat}{pos:Pos}(hc:X.calm=true)(h:JGs X es k)
  (hn:(assignEach es X.env).length=n:=by rfl) (hst:(assignEach es X.env).findIdx? (·.1)=none:=by rfl):JG X (.Tuple es m pos) (gt k n):=
 PG.mono (pg_tup hc h hn hst) fun v σ H Q ⟨mp,ρ,S,d,ρ',G,r,e,q⟩=>by
  cases d with
  | tup ds=>
   have e:(if ds.length=n then k ds ρ else none)=some ρ':=e
   obtain⟨a,xs,ev,sq,rl⟩:=Rep.tup r
   by_cases hl:ds.length=n
   ·rw[if_pos hl] at e
    exact⟨a,xs,ev,sq,by rw[rl.len]; exact hl,mp,ρ,S,ds,ρ',G,rl,e,q⟩
   ·rw[if_neg hl] at e; cases e
  | _=>cases (show(none:Option Lc)=some ρ' from e)
def sa(f:Ev D)(g:Tg):Sv:=fun ρ S=>bindS (f ρ S) ρ fun d S1=>match g d ρ with
 | some ρ'=>.nx ρ' S1
 | none=>.bad
theorem asgP{K:PySem.W.Frag}{f:Ev D}{g:Tg}(E:Ends)(σ:L2.St)(H:Hp)(h:rdS K XQ (sa f g) E σ H):tAsg (rdE K XQ f) (rdG1 K g) E σ H:=by
 obtain⟨mp,ρ,S,G,p⟩:=h
 refine bindSP G p fun mp1 H1 d S1 v a1 G1 r1 p1=>?_
 cases z:g d ρ with
 | none=>rw[z] at p1; exact p1.elim
 | some ρ'=>
  rw[z] at p1
  exact⟨mp1,ρ,S1,d,ρ',G1,r1,z,fun σ' G'=>PostS.nx p1 G'⟩
theorem js_asg{tg e:Expr}{f:Ev D}{g:Tg}{pos:Pos}(he:JE X XQ e f)(hg:JG X tg g)(hs:swapsWithSole [tg] e pos.line X.env=pure false:=by rfl)(hw:swappedStores [tg] e X.env=pure none:=by rfl)
  (h1:(assignEach [tg] X.env).map (·.2)=[assign tg X.env]:=by rfl):JS X XQ (.Assign [tg] e pos) (sa f g):=
 PS.mono (ps_asg he hg hs hw h1) asgP
theorem js_set(i:Nat){x:Str}{e:Expr}{f:Ev D}{pos pos':Pos}(hN:X.N.Nodup)(he:JE X XQ e f)(hi:X.N[i]?=some x:=by rfl)(hx:Loc X.env.scope x:=by first | exact Or.inl rfl | exact Or.inr rfl)(hs:swapsWith e (some (.Name x pos')) pos.line X.env=pure false:=by rfl)
  (hf:X.fn x=true∨X.env.scope.names.lookup x=some .local:=by first | exact .inl rfl | exact .inr rfl | assumption):JS X XQ (.Assign [.Name x pos'] e pos) (sa f (gn i)):=
 PS.mono (ps_set hN hi hx he hs hf) fun E σ H ⟨mp,ρ,S,G,p⟩=>bindSP G p fun mp1 H1 d S1 v a1 G1 r1 p1=>PostS.nx p1 (G1.set i r1)
def SetD(t:TSet)(K:PySem.W.Frag)(o:D→D→D→Sto→Option Sto):Prop:=
 ∀ (mp:List Addr) (H:Hp) (S S':Sto) (x y z:D) (v u w:V) (Q:Hp→Prop),RS K mp H S→Rep K mp H x v→Rep K mp H y u→Rep K mp H z w→o x y z S=some S'→(∀ H',Aft K mp H mp H'→RS K mp H' S'→Q H')→t v u w H Q
def ss(f fo fi:Ev D)(o:D→D→D→Sto→Option Sto):Sv:=fun ρ S=>bindS (f ρ S) ρ fun d S1=>bindS (fo ρ S1) ρ fun x S2=>bindS (fi ρ S2) ρ fun y S3=>match o x y d S3 with
 | some S4=>.nx ρ S4
 | none=>.bad
theorem js_sub{ob ix e:Expr}{f fo fi:Ev D}{t:TSet}{o:D→D→D→Sto→Option Sto}{pos p2:Pos}(hset:PSet X t)(ho:SetD t X.K o)(he:JE X XQ e f)(hob:JE X XQ ob fo)(hix:JE X XQ ix fi)
  (hs:swapsWithSole [.Subscript ob ix p2] e pos.line X.env=pure false:=by rfl) (hw:swappedStores [.Subscript ob ix p2] e X.env=pure none:=by rfl)
  (h1:(assignEach [.Subscript ob ix p2] X.env).map (·.2)=[assign (.Subscript ob ix p2) X.env]:=by rfl) (ha:∀ v,assign (.Subscript ob ix p2) X.env v=(do
   let ov ←holding [v] (eval ob X.env)
   let iv ←holding [v,ov] (eval ix X.env)
   standAt p2
   holding [v,ov,iv] (setItem ov iv v)
   release [v,ov,iv] []):=by intro _; rfl):JS X XQ (.Assign [.Subscript ob ix p2] e pos) (ss f fo fi o):=by
 refine PS.mono (ps_asg he (pg_sub hob hix hset ha) hs hw h1) fun E σ H ⟨mp,ρ,S,G,p⟩=>?_
 refine bindSP G p fun mp1 H1 d S1 v a1 G1 r1 p1=>?_
 refine bindSP G1 p1 fun mp2 H2 x S2 vx a2 G2 r2 p2=>?_
 refine bindSP G2 p2 fun mp3 H3 y S3 vy a3 G3 r3 p3=>?_
 cases z:o x y d S3 with
 | none=>rw[z] at p3; exact p3.elim
 | some S4=>
  rw[z] at p3
  exact ho mp3 H3 S3 S4 x y d vx vy v _ G3.rs (Rep.aft a3 _ _ r2) r3 (Rep.aft (a2.trans a3) _ _ r1) z fun H' af rs=>p3 mp3 H' σ af (G3.aft af rs)
structure Src where
 nxt:Nat→Sto→Option D
 fuel:Nat
def ItOk(K:PySem.W.Frag)(mp0:List Addr)(H0:Hp)(J:It)(nxt:Nat→Sto→Option D):Prop:=
 ∀ (mp:List Addr) (H:Hp) (S:Sto),Aft K mp0 H0 mp H→RS K mp H S→∀ k,match nxt k S with
  | some d=>J.go k H∧∀ x H',J.yld k H x H'→Aft K mp H mp H'∧RS K mp H' S∧Rep K mp H' d x
  | none=>J.stop k H
def kI(K:PySem.W.Frag):RL Src It:=fun mp H s J=>ItOk K mp H J s.nxt
abbrev rdI(K:PySem.W.Frag)(XQ:XW)(f:Ev Src):TI:=rdG K (kI K) XQ f
def JI(X:Cx)(XQ:XW)(tg iter:Expr)(f:Ev Src):Prop:=PI X tg iter (rdI X.K XQ f)
theorem PI.mono{X:Cx}{tg e:Expr}{t t':TI}(h:PI X tg e t)(m:∀ σ H Q,t' σ H Q→t σ H Q):PI X tg e t':=fun pins s σ H Q I q=>h pins s σ H Q I (m σ H Q q)
def forN(nxt:Nat→Sto→Option D)(g:Tg)(b:Sv):Nat→Nat→Sv
 | 0,_,_,_=>.bad
 | n+1,k,ρ,S=>match nxt k S with
  | none=>.nx ρ S
  | some d=>match g d ρ with
   | none=>.bad
   | some ρ1=>match b ρ1 S with
    | .nx ρ2 S2=>forN nxt g b n (k+1) ρ2 S2
    | .ct ρ2 S2=>forN nxt g b n (k+1) ρ2 S2
    | .bk ρ2 S2=>.nx ρ2 S2
    | .rt d S2=>.rt d S2
    | .exc x ρ2 S2=>.exc x ρ2 S2
    | .bad=>.bad
def sfor(f:Ev Src)(g:Tg)(b:Sv):Sv:=fun ρ S=>bindS (f ρ S) ρ fun s S1=>forN s.nxt g b s.fuel 0 ρ S1
theorem js_for{tg iter:Expr}{body:List Stmt}{f:Ev Src}{g:Tg}{b:Sv}{pos:Pos}(hp:PassesOwn (model X.prog X.w) X.A X.env X.xe)(hc:X.calm=true)(hi:JI X XQ tg iter f)(hg:JG X tg g)(hb:JSs X XQ body b)
  (hs:∀ x,foldedSetIterable iter X.env x=pure x:=by intro _; rfl):JS X XQ (.For tg iter body [] pos) (sfor f g b):=by
 refine PS.mono (ps_for hp hc hi hg hb hs) fun E σ H ⟨mp,ρ,S,G,p⟩=>?_
 refine bindSP G p fun mp1 H1 s S1 J a1 G1 j1 p1=>?_
 refine⟨fun i m σ' H'=>∃ mp' ρ' S',Aft X.K mp1 H1 mp' H'∧Gd X.K mp' H' σ' ρ' S'∧PostS X.K XQ mp' H' (forN s.nxt g b m i ρ' S') E,⟨s.fuel,mp1,ρ,S1,.refl,G1,p1⟩,?_⟩
 rintro i m σ' H' ⟨mp',ρ',S',a',G',p'⟩
 cases m with
 | zero=>exact(show False from p').elim
 | succ n=>
  have j:=j1 mp' H' S' a' G'.rs i
  unfold forN at p'
  cases z:s.nxt i S' with
  | none=>
   rw[z] at j p'
   exact .inl ⟨j,PostS.nx p' G'⟩
  | some d=>
   rw[z] at j p'
   obtain⟨j1,j2⟩:=j
   refine .inr ⟨j1,fun σ2 H2=>∃ mp2 ρ2 S2,Aft X.K mp1 H1 mp2 H2∧Gd X.K mp2 H2 σ2 ρ2 S2∧PostS X.K XQ mp2 H2 (forN s.nxt g b n (i+1) ρ2 S2) E,fun σ2 H2 q=>⟨n,Nat.lt_succ_self n,q⟩,fun x H2 y=>?_⟩
   obtain⟨a2,r2,x2⟩:=j2 x H2 y
   have G2:=G'.aft a2 r2
   cases zg:g d ρ' with
   | none=>simp only[zg] at p'; exact p'.elim
   | some ρ1=>
    simp only[zg] at p'
    refine⟨mp',ρ',S',d,ρ1,G2,x2,zg,fun σ3 G3=>⟨mp',ρ1,S',G3,?_⟩⟩
    have p2:=PostS.aft p' a2
    cases zb:b ρ1 S' with
    | nx ρ2 S2=>simp only[zb] at p2; exact fun m h v af G4=>⟨m,ρ2,S2,(a'.trans a2).trans af,G4,PostS.aft p2 af⟩
    | ct ρ2 S2=>simp only[zb] at p2; exact fun m h v af G4=>⟨m,ρ2,S2,(a'.trans a2).trans af,G4,PostS.aft p2 af⟩
    | bk ρ2 S2=>simp only[zb] at p2; exact p2
    | rt d S2=>simp only[zb] at p2; exact p2
    | exc x ρ2 S2=>simp only[zb] at p2; exact p2
    | bad=>simp only[zb] at p2; exact p2
def srcOf:D→Sto→Out Src
 | .tup l,S=>.ok ⟨fun k _=>l[k]?,l.length+1⟩ S
 | .lst i,S=>match S[i]? with
  | some c=>.ok ⟨fun k S=>(S[i]?).bind fun c=>c.xs[k]?,c.xs.length+1⟩ S
  | none=>.bad
 | _,_=>.bad
end
end DL
set_option Elab.async false
set_option linter.all false
set_option maxRecDepth 100000
namespace DL
open PySem PySem.Spec PyProof.Rows L2
section
variable{X:Cx}{XQ:XW}
def iSeq(K:PySem.W.Frag)(tl:TE):TI:=fun σ H R=>tl σ H fun x H1=>∃ a,x=.ref a∧(((∃ xs,SqL K H1 a xs)∧R (Itl K a) H1)∨((∃ xs,SqT K H1 a xs)∧R (Itt K a) H1))
theorem pi_seq{tg l:Expr}{tl:TE}(hl:PE X l tl):PI X tg l (iSeq X.K tl):=by
 intro pins s σ H R I h
 refine thn (hl pins s σ H _ I h) fun v s1 ⟨x,H1,I1,r1,q1⟩=>?_
 obtain⟨a,e,q⟩:=q1
 subst e
 cases r1
 rcases q with⟨⟨xs,hq⟩,q⟩ | ⟨⟨xs,hq⟩,q⟩
 ·obtain⟨its,rv,p,hz⟩:=I1.list hq
  refine wpAny_pyIter_list p.isList ?_
  refine⟨s1.heap.objs.size,[s1.heap.objs.size],_,_,H1,rfl,I1.kept (t':=s1.toks) fun b o e=>Heap.get?_push_of_some _ e,turn_list a _,⟨_,Heap.get?_push_size _ rfl,rfl,rfl⟩,fun b hb=>?_,q⟩
  have e:b=s1.heap.objs.size:=by simpa using hb
  subst e
  exact I1.fpOk (Nat.le_refl _) (I1.hok.fresh (Nat.le_refl _))
 ·obtain⟨its,rv,p,hz⟩:=I1.tuple hq
  refine wpAny_pyIter_tuple (show s1.heap.IsTuple a its.toArray from p) ?_
  refine⟨s1.heap.objs.size,[s1.heap.objs.size],_,_,H1,rfl,I1.kept (t':=s1.toks) fun b o e=>Heap.get?_push_of_some _ e,turn_tuple a _,⟨_,Heap.get?_push_size _ rfl,rfl,rfl⟩,fun b hb=>?_,q⟩
  have e:b=s1.heap.objs.size:=by simpa using hb
  subst e
  exact I1.fpOk (Nat.le_refl _) (I1.hok.fresh (Nat.le_refl _))
def isrc(f:Ev D):Ev Src:=fun ρ S=>(f ρ S).bind srcOf
theorem itt_ok{K:PySem.W.Frag}{mp:List Addr}{H:Hp}{a:Addr}{xs:List V}{l:List D}(s:SqT K H a xs)(r:RepL K mp H l xs):ItOk K mp H (Itt K a) (fun k _=>l[k]?):=by
 intro mp' H' S' af rs k
 show match l[k]? with
  | some d=>(Itt K a).go k H'∧∀ x H2,(Itt K a).yld k H' x H2→Aft K mp' H' mp' H2∧RS K mp' H2 S'∧Rep K mp' H2 d x
  | none=>(Itt K a).stop k H'
 cases z:l[k]? with
 | none=>
  refine⟨xs,af.tup _ _ s,?_⟩
  rw[r.len]
  exact List.getElem?_eq_none_iff.mp z
 | some d=>
  have r':=RepL.aft af _ _ r
  obtain⟨v,e,q⟩:=r'.get z
  refine⟨⟨xs,v,af.tup _ _ s,e⟩,fun x H2 ⟨h1,h2⟩=>?_⟩
  subst h1
  have e2:=h2 xs (af.tup _ _ s)
  rw[e] at e2
  cases e2
  exact⟨.refl,rs,q⟩
theorem itl_ok{K:PySem.W.Frag}{mp:List Addr}{H:Hp}{a:Addr}{i:Nat}(hi:mp[i]?=some a):ItOk K mp H (Itl K a) (fun k S=>(S[i]?).bind fun c=>c.xs[k]?):=by
 intro mp' H' S' af rs k
 have hi':=af.pre i a hi
 have hl:i<S'.length:=by rw[←rs.len]; exact(List.getElem?_eq_some_iff.mp hi').1
 have hc:S'[i]?=some S'[i]:=List.getElem?_eq_getElem hl
 obtain⟨a2,xs,e1,e2,sq,r,_⟩:=rs.items (v:=.ref a) ⟨a,rfl,hi'⟩ hc
 cases e1
 simp only[hc,Option.bind_some]
 cases z:(S'[i]).xs[k]? with
 | none=>
  refine⟨xs,sq,?_⟩
  rw[r.len]
  exact List.getElem?_eq_none_iff.mp z
 | some d=>
  obtain⟨v,e,q⟩:=r.get z
  refine⟨⟨xs,v,sq,e⟩,fun x H2 ⟨h1,h2⟩=>?_⟩
  subst h1
  have e2:=h2 xs sq
  rw[e] at e2
  cases e2
  exact⟨.refl,rs,q⟩
theorem ji_seq{tg l:Expr}{f:Ev D}(hl:JE X XQ l f):JI X XQ tg l (isrc f):=by
 refine PI.mono (pi_seq hl) fun σ H R ⟨mp,ρ,S,G,p⟩=>?_
 refine bindP G p fun mp1 H1 d S1 v a1 G1 r1 p1=>?_
 cases d with
 | tup ds=>
  obtain⟨a,xs,rfl,s,q⟩:=Rep.tup r1
  exact⟨a,rfl,.inr ⟨⟨xs,s⟩,PostG.ok (R:=kI X.K) (d:=⟨fun k _=>ds[k]?,ds.length+1⟩) (S:=S1) p1 G1.rs (itt_ok s q)⟩⟩
 | lst i=>
  have p1:PostG X.K (kI X.K) XQ σ ρ mp1 H1 (match S1[i]? with | some c=>.ok ⟨fun k S=>(S[i]?).bind fun c=>c.xs[k]?,c.xs.length+1⟩ S1 | none=>.bad) R:=p1
  cases z:S1[i]? with
  | none=>rw[z] at p1; exact p1.elim
  | some c=>
   rw[z] at p1
   obtain⟨a,xs,rfl,ha,s,q,_⟩:=G1.rs.items r1 z
   exact⟨a,rfl,.inl ⟨⟨xs,s⟩,PostG.ok (R:=kI X.K) (d:=⟨fun k S=>(S[i]?).bind fun c=>c.xs[k]?,c.xs.length+1⟩) (S:=S1) p1 G1.rs (itl_ok ha)⟩⟩
 | _=>exact(show False from p1).elim
def rsrc(lo:Int)(n:Nat):Src:=⟨fun k _=>if k<n then some (.int (lo+k)) else none,n+1⟩
theorem itr_ok{K:PySem.W.Frag}{mp:List Addr}{H:Hp}{lo:Int}{n:Nat}:ItOk K mp H (Itr lo n) (rsrc lo n).nxt:=by
 intro mp' H' S' af rs k
 show match (if k<n then some (D.int (lo+k)) else none) with
  | some d=>(Itr lo n).go k H'∧∀ x H2,(Itr lo n).yld k H' x H2→Aft K mp' H' mp' H2∧RS K mp' H2 S'∧Rep K mp' H2 d x
  | none=>(Itr lo n).stop k H'
 by_cases h:k<n
 ·rw[if_pos h]
  refine⟨h,fun x H2 ⟨h1,h2⟩=>?_⟩
  subst h1 h2
  exact⟨.refl,rs,rfl⟩
 ·rw[if_neg h]
  exact Nat.not_lt.mp h
def ir1(f:Ev (List D)):Ev Src:=fun ρ S=>(f ρ S).bind fun ds S1=>match ds with
 | [.int j]=>if -1000000000000≤j∧j≤1000000000000 then .ok (rsrc 0 j.toNat) S1 else .bad
 | _=>.bad
theorem RepL.one{K:PySem.W.Frag}{mp:List Addr}{H:Hp}{d:D}{vs:List V}(h:RepL K mp H [d] vs):∃ v,vs=[v]∧Rep K mp H d v:=by
 obtain⟨v,r,rfl,h1,h2⟩:=h
 cases (show r=[] from h2)
 exact⟨v,rfl,h1⟩
theorem RepL.two{K:PySem.W.Frag}{mp:List Addr}{H:Hp}{d e:D}{vs:List V}(h:RepL K mp H [d,e] vs):∃ v w,vs=[v,w]∧Rep K mp H d v∧Rep K mp H e w:=by
 obtain⟨v,r,rfl,h1,h2⟩:=h
 obtain⟨w,rfl,h3⟩:=RepL.one h2
 exact⟨v,w,rfl,h1,h3⟩
theorem ji_range1{tg a:Expr}{f:Ev (List D)}{p pos:Pos}(hg:Gl X "range")(hm:X.mg "range"=none)(ha:JA X XQ [a] f)(hs:starEach [a] X.env=[(false,eval a X.env)]:=by rfl):JI X XQ tg (.Call (.Name "range" p) [a] [] pos) (ir1 f):=by
 refine PI.mono (pi_range1 hg hm ha hs) fun σ H R ⟨mp,ρ,S,G,p⟩=>?_
 refine bindP G p fun mp1 H1 ds S1 vs a1 G1 r1 p1=>?_
 split at p1
 ·rename_i j
  by_cases hb : -1000000000000≤j∧j≤1000000000000
  ·rw[if_pos hb] at p1
   obtain⟨v,rfl,h1⟩:=RepL.one r1
   cases (show v=.int j from h1)
   refine⟨j,rfl,by omega,by omega,PostG.ok (R:=kI X.K) (d:=rsrc 0 j.toNat) (S:=S1) p1 G1.rs itr_ok⟩
  ·rw[if_neg hb] at p1; exact p1.elim
 ·exact p1.elim
end
abbrev Fn:=List D→Sto→Out D
def PostF(K:PySem.W.Frag)(mp:List Addr)(H:Hp)(o:Out D)(Q:VK):Prop:=
 match o with
 | .ok d S=>∀ mp' H' v,Aft K mp H mp' H'→RS K mp' H' S→Rep K mp' H' d v→Q v H'
 | _=>False
def spD(K:PySem.W.Frag)(n:Nat)(fn:Fn):Sp:=fun vs H Q _=>∃ mp ds S,RS K mp H S∧RepL K mp H ds vs∧ds.length=n∧PostF K mp H (fn ds S) Q
def fnB(m:Nat)(b:Sv):Fn:=fun ds S=>match b (ds.map some++List.replicate (m-ds.length) none) S with
 | .rt d S'=>.ok d S'
 | .nx _ S'=>.ok .non S'
 | .exc x _ S'=>.exc x S'
 | _=>.bad
theorem start_ok{K:PySem.W.Frag}{mp:List Addr}{H:Hp}{S:Sto}{N:List Str}{ds:List D}{vs:List V}(r:RS K mp H S)(h:RepL K mp H ds vs):Gd K mp H (start N vs) (ds.map some++List.replicate (N.length-ds.length) none) S:=by
 have hl:=h.len
 refine⟨r,by simp[L2.start,hl],fun i d e=>?_⟩
 by_cases hi:i<ds.length
 ·rw[List.getElem?_append_left (by simpa using hi),List.getElem?_map] at e
  cases z:ds[i]? with
  | none=>rw[z] at e; cases e
  | some d'=>
   rw[z] at e
   cases e
   obtain⟨v,e1,q⟩:=h.get z
   refine⟨v,?_,q⟩
   unfold L2.start
   rw[List.getElem?_append_left (by simp[hl]; exact hi),List.getElem?_map,e1]
   rfl
 ·rw[List.getElem?_append_right (by simpa using hi),List.getElem?_replicate] at e
  split at e
  ·cases e
  ·cases e
section
variable{P:Program}{w:World}{K:PySem.W.Frag}{mg:Str→Option Value}{base:Heap}
theorem fn_ok{x qual:Str}{st:Stmt}{f:Addr}{fd:FuncData}{N ps:List Str}{k:Nat}{b:Sv}(F:Fun K x qual st f fd)(Sc:FnScope N ps (defScope st))
  (hb:∀ (cdv:Value) (A:Around) (outer:List PySem.Env) (s:Shared) (H:Hp) (E:XK),Room k (A.deeper (envOfC qual (defScope st) s.heap.objs.size f cdv))→
   JSs (cxOf CX0 P w K mg base N qual (defScope st) f cdv A outer s H E).nox (fun _ _ _ _ _ _=>False) (defBody st) b):FnOk P w K mg base CX0 (k+1) f fd ps (spD K ps.length (fnB N.length b)):=by
 refine F.ok Sc (fun vs H Q E ⟨mp,ds,S,rs,r,hl,_⟩=>by rw[r.len]; exact hl) fun cdv A outer s H vs Q E hr ⟨mp,ds,S,rs,r,hl,p⟩=>?_
 refine⟨_,hb cdv A outer s H E hr,mp,_,S,start_ok rs r,?_⟩
 unfold fnB at p
 show PostS K _ mp H (b (ds.map some++List.replicate (N.length-ds.length) none) S) _
 cases z:b (ds.map some++List.replicate (N.length-ds.length) none) S with
 | rt d S'=>rw[z] at p; exact p
 | nx ρ' S'=>rw[z] at p; exact fun m h v af G=>p m h .non af G.rs rfl
 | bk ρ' S'=>rw[z] at p; exact p.elim
 | ct ρ' S'=>rw[z] at p; exact p.elim
 | exc x ρ' S'=>rw[z] at p; exact p.elim
 | bad=>rw[z] at p; exact p.elim
end
section
variable{X:Cx}{XQ:XW}{k:Nat}{f:Addr}{fd:FuncData}{ps:List Str}{fn:Fn}{x:Str}{p pos:Pos}{e:Expr}{es:List Expr}{t:Ev (List D)}
def cl(n:Nat)(fn:Fn)(t:Ev (List D)):Ev D:=fun ρ S=>(t ρ S).bind fun ds S1=>if ds.length=n then fn ds S1 else .bad
def noExc(fn:Fn):Fn:=fun ds S=>match fn ds S with
 | .ok d S'=>.ok d S'
 | _=>.bad
theorem je_call{j:Nat}(F:FnOk X.prog X.w X.K X.mg X.base CX0 j f fd ps (spD X.K ps.length fn))(hr:Room k X.A)(hj:j≤k)(hg:Gl X x)(hm:X.mg x=some (.ref f))(hk:PySem.W.keepIn X.K (.ref f)=true)(hb:Binds X.K fd ps [])
  (ha:JA X XQ (e::es) t) (hdb:(x==("__debug__":Str))=false:=by decide) (he:starEach (e::es) X.env=(false,eval e X.env)::starEach es X.env:=by rfl) (hpl:(backTo pos (starEach es X.env)).any (·.1)=false:=by rfl):
  JE X XQ (.Call (.Name x p) (e::es) [] pos) (cl ps.length (noExc fn) t):=by
 refine PE.mono (pe_call (F.mono hj) hr hg hm hk hb .nil (pass0) ha hdb he hpl) fun σ H Q ⟨mp,ρ,S,G,p⟩=>?_
 refine bindP G p fun mp1 H1 ds S1 vs a1 G1 r1 p1=>?_
 by_cases hl:ds.length=ps.length
 ·rw[if_pos hl] at p1
  refine⟨mp1,ds,S1,G1.rs,by rw[List.append_nil]; exact r1,hl,?_⟩
  unfold noExc at p1
  cases z:fn ds S1 with
  | ok d S'=>rw[z] at p1; exact p1
  | exc x S'=>rw[z] at p1; exact p1.elim
  | bad=>rw[z] at p1; exact p1.elim
 ·rw[if_neg hl] at p1; exact p1.elim
end
end DL
set_option Elab.async false
set_option linter.all false
set_option maxRecDepth 100000
namespace DL
open PySem PySem.Spec PyProof.Rows L2
section
variable{prog:Program}{w:World}{A:Around}{E:Value→Shared→Prop}{R:Result→Shared→Prop}{s:Shared}
theorem compLoop_any{elt target iter:Expr}{ifs:List Expr}{scope:Scope}{pos:Pos}{it acc:Value}{env:PySem.Env}(I:Nat→Shared→Prop)
  (turn:∀ n s,I n s→wpAny (model prog w) A (pyNext it) (fun r s₁=>match r with
   | none=>R (.ok .next) s₁
   | some v=>wpAny (model prog w) A (letOwnedTupleGo target it v) (fun _ s₁=>wpAny (model prog w) A (assign target env v) (fun _ s₂=>
     wpAny (model prog w) A (forIn ifs true fun c r=>if r=true then do let ok ←isTrue c env (eval c env); pure (ForInStep.yield ok) else pure (ForInStep.yield r)) (fun ok s₃=>
      if ok=true then wpAny (model prog w) A (eval elt env) (fun x s₄=>
       wpAny (model prog w) A (call (.builtin "list.append") [acc,x]) (fun _ s₅=>∃ m,m<n∧I m s₅) (fun _ _=>False) s₄) (fun _ _=>False) s₃
      else ∃ m,m<n∧I m s₃) (fun _ _=>False) s₂) (fun _ _=>False) s₁) (fun _ _=>False) s₁) (fun _ _=>False) s)
  (n:Nat) (h:I n s):
  codeAny (model prog w) A (.compLoop (.ListComp elt [⟨target,iter,ifs,0⟩] scope pos) 0 it acc env) R s:=by
 have noE:∀ {α:Type} {m:Sem α} {Q:α→Shared→Prop} {E':Value→Shared→Prop} {s:Shared},wpAny (model prog w) A m Q (fun _ _=>False) s→wpAny (model prog w) A m Q E' s:=fun h=>wpAny_mono h (fun _ _ q=>q) fun _ _ z=>z.elim
 refine codeAny_loop rfl I (fun n s hI=>?_) n h
 show wpAny _ A ((compTurn (.ListComp elt [⟨target,iter,ifs,0⟩] scope pos) 0 it acc env).onRaise (fun x=>do noteFrame x env; theTreesLotGoes x)) _ _ s
 refine wpAny_noted ?_
 rw[compTurn_list]
 refine wpAny_bind (wpAny_standAt (wpAny_bind (noE (wpAny_mono (turn n s hI) (fun r s₁ h₁=>?_) fun _ _ z=>z))))
 cases r with
 | none=>exact wpAny_pure h₁
 | some v=>
  refine wpAny_bind (noE (wpAny_mono h₁ (fun _ s₁ h₁=>?_) fun _ _ z=>z))
  refine wpAny_bind (noE (wpAny_mono h₁ (fun _ s₂ h₂=>wpAny_bind (noE (wpAny_mono h₂ (fun ok s₃ h₃=>?_) fun _ _ z=>z))) fun _ _ z=>z))
  cases ok with
  | false=>exact wpAny_pure ⟨rfl,h₃⟩
  | true=>
   exact wpAny_bind (wpAny_bind (noE (wpAny_mono h₃ (fun x s₄ h₄=>wpAny_bind (noE (wpAny_mono h₄ (fun _ s₅ h₅=>wpAny_pure (wpAny_pure ⟨rfl,h₅⟩)) fun _ _ z=>z))) fun _ _ z=>z)))
end
def blk(X:Cx)(s2:Shared)(H2:Hp)(C:Addr)(scope:Scope)(cl:List (Str×Addr))(N':List Str)(fp:List Addr):Cx:=
 { X with N:=N',s₀:=s2,H₀:=H2,env:=compEnvC scope cl C X.env,outer:=X.stack,ex:=fp,fn:=fun x=>scope.names.lookup x==some NameKind.cell,pn:=[],xe:=fun _ _=>False }
structure CompSc(X:Cx)(scope:Scope)(cl:List (Str×Addr))(N':List Str)(pk:List (Option Nat)):Prop where
 kind:scope.kind=.function
 cell:∀ y∈scope.names,y.2=.cell→scope.names.lookup y.1=some .cell
 names:∀ y∈scope.names,y.2=.local→scope.names.lookup y.1=some .local
 clos:closureFor scope X.env=pure cl
 sub:∀ x c,cl.lookup x=some c→X.env.cells.lookup x=some c
 has:∀ x,((relabel scope X.env).names.lookup x=some .cell∨(relabel scope X.env).names.lookup x=some .free)→(x,NameKind.cell)∈scope.names∨∃ c,cl.lookup x=some c
 len:pk.length=N'.length
 take:∀ (i j:Nat) (x:Str),pk[i]?=some (some j)→N'[i]?=some x→X.N[j]?=some x∧(X.env.kindOf x=some .cell∨X.env.kindOf x=some .free)∧((relabel scope X.env).names.lookup x=some .cell∨(relabel scope X.env).names.lookup x=some .free)∧scope.names.lookup x=some .free
def pkS{α:Type}(pk:List (Option Nat))(σ:List (Option α)):List (Option α):=pk.map fun o=>o.bind fun j=>(σ[j]?).bind id
def PTs(Y:Cx)(ifs:List Expr)(t:TT):Prop:=
 ∀ (pins:List (Addr×Obj)) (s:Shared) (σ:L2.St) (H:Hp) (Q:Bool→Hp→Prop),Inv Y pins σ H s→t σ H Q→
  wpAny (model Y.prog Y.w) Y.A (forIn ifs true fun c r=>if r=true then do let ok ←isTrue c Y.env (eval c Y.env); pure (ForInStep.yield ok) else pure (ForInStep.yield r)) (TP Y pins σ Q) Y.xe s
theorem pts_nil{Y:Cx}:PTs Y [] (fun _ H Q=>Q true H):=fun _ _ _ H _ I h=>wpAny_tests_nil ⟨H,I,h⟩
theorem pts_one{Y:Cx}{c:Expr}{t:TT}(h:PT Y c t):PTs Y [c] t:=fun pins s σ H Q I q=>wpAny_tests_one (h pins s σ H Q I q)
def tComp(wi:TI)(pk:List (Option Nat))(g:TG)(tt:TT)(te:TE):TE:=fun σ H Q=>wi σ H fun J H1=>∀ a,H1 a=none→∃ W:Nat→Nat→L2.St→Hp→Prop,(∃ m,W 0 m (pkS pk σ) (upd H1 a (.lst [])))∧∀ i m σ' H',W i m σ' H'→
 (J.stop i H'∧Q (.ref a) H')∨(J.go i H'∧∀ x H2,J.yld i H' x H2→g x σ' H2 fun σ3 H3=>tt σ3 H3 fun b H4=>if b=true then te σ3 H4 fun v H5=>∃ xs,H5 a=some (.lst xs)∧xs.length<sizeLine∧∃ m',m'<m∧W (i+1) m' σ3 (upd H5 a (.lst (xs++[v])))
  else ∃ m',m'<m∧W (i+1) m' σ3 H4)
theorem hok_same{P:Program}{w:World}{H:Hp}{h h':Heap}{C:Addr}(k:HOk P w H h)(hn:H C=none)(hs:Heap.SameBut C h h'):HOk P w H h':=fun b ob e=>by
 refine(k b ob e).stay (fun c w' hc q=>(hs.2 c ?_).trans q) (fun _ q=>q) fun _ _ q=>q
 rintro rfl
 rcases hc with rfl | hc
 ·rw[hn] at e; cases e
 ·rw[hn] at hc; cases hc
theorem cellsFrom_app:∀ (names:List (Str×NameKind)) (n:Nat) (acc:List (Str×Addr)),cellsFrom n names acc=cellsFrom n names []++acc
 | [],_,_=>rfl
 | (x,k)::r,n,acc=>by
  unfold cellsFrom
  by_cases hk:(k==NameKind.cell)=true
  ·rw[if_pos hk,if_pos hk,cellsFrom_app r (n+1) ((x,n)::acc),cellsFrom_app r (n+1) [(x,n)],List.append_assoc]
   rfl
  ·rw[if_neg hk,if_neg hk,cellsFrom_app r n acc]
theorem cellsFrom_mem:∀ (names:List (Str×NameKind)) (n:Nat) (x:Str) (c:Addr),(x,c)∈cellsFrom n names []→(x,NameKind.cell)∈names
 | [],_,_,_,h=>by simp[cellsFrom] at h
 | (y,k)::r,n,x,c,h=>by
  unfold cellsFrom at h
  by_cases hk:(k==NameKind.cell)=true
  ·rw[if_pos hk,cellsFrom_app] at h
   rcases List.mem_append.mp h with h | h
   ·exact List.mem_cons_of_mem _ (cellsFrom_mem r (n+1) x c h)
   ·have:x=y:=by simpa using(List.mem_singleton.mp h▸rfl:(x,c).1=(y,n).1)
    have hk:k=.cell:=by simpa using hk
    subst this hk
    exact List.mem_cons_self
  ·rw[if_neg hk] at h
   exact List.mem_cons_of_mem _ (cellsFrom_mem r n x c h)
theorem lookup_app{x:Str}:∀ (a b:List (Str×Addr)),(a++b).lookup x=match a.lookup x with
  | some c=>some c
  | none=>b.lookup x
 | [],_=>rfl
 | (y,c)::r,b=>by
  rw[List.cons_append,List.lookup_cons,List.lookup_cons]
  cases h:x==y with
  | true=>rfl
  | false=>exact lookup_app r b
theorem cellsFrom_has:∀ (names:List (Str×NameKind)) (n:Nat) (x:Str),(x,NameKind.cell)∈names→∃ c,(cellsFrom n names []).lookup x=some c
 | [],_,_,h=>by simp at h
 | (y,k)::r,n,x,h=>by
  unfold cellsFrom
  by_cases hx:(x,NameKind.cell)∈r
  ·by_cases hk:(k==NameKind.cell)=true
   ·rw[if_pos hk,cellsFrom_app,lookup_app]
    obtain⟨c,hc⟩:=cellsFrom_has r (n+1) x hx
    rw[hc]; exact⟨c,rfl⟩
   ·rw[if_neg hk]
    exact cellsFrom_has r n x hx
  ·rcases List.mem_cons.mp h with h | h
   ·cases h
    rw[if_pos (by rfl),cellsFrom_app,lookup_app]
    cases e:(cellsFrom (n+1) r []).lookup y with
    | some c=>exact⟨c,rfl⟩
    | none=>exact⟨n,by simp[List.lookup_cons]⟩
   ·exact absurd h hx
theorem wpAny_newEnv_cl{M:Model}{A:Around}{E:Value→Shared→Prop}{s:Shared}{scope:Scope}{globals:Addr}{cl:List (Str×Addr)}{qual:Str}{env:PySem.Env}{Q:PySem.Env→Shared→Prop}
  (hQ:∀ h',h'=pushCells (s.heap.push { cls:=.type "dict",data:=.dict #[] }) scope.names→
   Q { scope:=scope,locals:=s.heap.objs.size,globals:=globals,cells:=cellsFrom (s.heap.objs.size+1) scope.names cl,qual:=qual,func:=none,code:=env.code,frame:=env.frame,builtins:=env.builtins } { s with heap:=h' }):
  wpAny M A (newFunctionEnv scope globals cl [] qual none .none (some env)) Q E s:=by
 simp only[newFunctionEnv,Option.isSome_some,if_true]
 refine wpAny_bind (wpAny_alloc ?_)
 refine wpAny_bind (wpAny_layCells _ (fun name kind cells=>by cases hkc:kind==NameKind.cell<;>simp[hkc]) _ _ _ _ ?_)
 rw[show({ s with heap:=s.heap.push { cls:=.type "dict",data:=.dict #[] } }:Shared).heap.objs.size=s.heap.objs.size+1 from Heap.size_push ..]
 rw[List.forIn_nil]
 exact wpAny_bind (wpAny_pure (wpAny_pure (hQ _ rfl)))
section
variable{X:Cx}
theorem comp_block{elt tg iter:Expr}{ifs:List Expr}{scope:Scope}{pos:Pos}{cl:List (Str×Addr)}{N':List Str}{pk:List (Option Nat)}{g:TG}{tt:TT}{te:TE}(cs:CompSc X scope cl N' pk)(hcm:X.calm=true)
  (hg:∀ cl s2 H2 C fp,PG (blk X s2 H2 C scope cl N' fp) tg g) (ht:∀ cl s2 H2 C fp,PTs (blk X s2 H2 C scope cl N' fp) ifs tt) (he:∀ cl s2 H2 C fp,PE (blk X s2 H2 C scope cl N' fp) elt te)
  {pins:List (Addr×Obj)} {σ:L2.St} {H2:Hp} {s2:Shared} {it:Addr} {fp:List Addr} {tn:Nat→Heap→Prop} {J:It} (I2:Inv X pins σ H2 s2) (T:Turn X.prog X.w X.K tg J fp it tn) (st2:tn 0 s2.heap) (f2:∀ b∈fp,FpOk X pins H2 b)
  {Q:VK} (hQ:∀ a,H2 a=none→∃ W:Nat→Nat→L2.St→Hp→Prop,(∃ m,W 0 m (pkS pk σ) (upd H2 a (.lst [])))∧∀ i m σ' H',W i m σ' H'→
   (J.stop i H'∧Q (.ref a) H')∨(J.go i H'∧∀ x H3,J.yld i H' x H3→g x σ' H3 fun σ3 H3=>tt σ3 H3 fun b H4=>if b=true then te σ3 H4 fun v H5=>∃ xs,H5 a=some (.lst xs)∧xs.length<sizeLine∧∃ m',m'<m∧W (i+1) m' σ3 (upd H5 a (.lst (xs++[v])))
    else ∃ m',m'<m∧W (i+1) m' σ3 H4)) {E:Value→Shared→Prop} {RR:Value→Addr→Result→Shared→Prop}
  (hRR:∀ D C s' (H':Hp),Q (.ref D) H'→(∃ m,s'.heap.Ns C m)→Inv X pins σ H' s'→H' C=none→s2.heap.objs.size≤C→RR (.ref D) C (.ok .next) s'):
  wpAny (model X.prog X.w) X.A (newList []) (fun acc s₃=>wpAny (model X.prog X.w) X.A (newFunctionEnv scope X.env.globals cl [] X.env.qual none .none (some X.env)) (fun cenv s₄=>
   codeAny (model X.prog X.w) X.A (.compStart (.ListComp elt [⟨tg,iter,ifs,0⟩] scope pos) 0 (.ref it) acc { cenv with scope:=relabel scope X.env }) (RR acc cenv.locals) s₄) E s₃) E s2:=by
 have hD:H2 s2.heap.objs.size=none:=I2.hok.fresh (Nat.le_refl _)
 obtain⟨W,⟨m0,w0⟩,turn⟩:=hQ s2.heap.objs.size hD
 refine wpAny_newObj_type (wpAny_newEnv_cl (fun h₁ hh₁=>?_))
 dsimp only at hh₁ ⊢
 generalize hHh:s2.heap.push { cls:=.type "list",dict:=none,data:=.seq ([]:List Value).toArray }=Hh at hh₁ ⊢
 have hC:Hh.objs.size=s2.heap.objs.size+1:=by rw[←hHh,Heap.size_push]
 have hDC:s2.heap.objs.size≠Hh.objs.size:=by rw[hC]; exact Nat.ne_of_lt (Nat.lt_succ_self _)
 have hCle:s2.heap.objs.size≤Hh.objs.size:=by rw[hC]; exact Nat.le_succ _
 have below:∀ b,b<s2.heap.objs.size→b≠Hh.objs.size∧b≠s2.heap.objs.size:=fun b hb=>⟨by rw[hC]; exact Nat.ne_of_lt (Nat.lt_succ_of_lt hb),Nat.ne_of_lt hb⟩
 have hns₁:h₁.Ns Hh.objs.size (fun _=>none):=by rw[hh₁]; exact(Heap.Ns.new Hh (.type "dict")).keeps (pushCells_keeps _ _)
 have old0:∀ b o,Hh.get? b=some o→h₁.get? b=some o:=fun b o e=>by rw[hh₁]; exact pushCells_keeps _ _ b o (Heap.get?_push_of_some _ e)
 have old:∀ b o,s2.heap.get? b=some o→h₁.get? b=some o:=fun b o e=>old0 b o (by rw[←hHh]; exact Heap.get?_push_of_some _ e)
 have hacc:h₁.get? s2.heap.objs.size=some { cls:=.type "list",dict:=none,data:=.seq ([]:List Value).toArray }:=old0 _ _ (by rw[←hHh]; exact Heap.get?_push_size _ rfl)
 have own:=cellsFrom_ok scope.names (Hh.push { cls:=.type "dict",data:=.dict #[] }) (Hh.objs.size+1) [] ⟨fun _ _ hm=>(nomatch hm),List.Pairwise.nil⟩ (by rw[Heap.size_push]; exact Nat.le_refl _)
 rw[Heap.size_push,←hh₁] at own
 generalize hcs:cellsFrom (Hh.objs.size+1) scope.names cl=cs' at *
 have csl:∀ x c,cs'.lookup x=some c→((x,c)∈cellsFrom (Hh.objs.size+1) scope.names []∧h₁.IsCell c none∧Hh.objs.size+1≤c∧scope.names.lookup x=some .cell)∨((x,NameKind.cell)∉scope.names∧X.env.cells.lookup x=some c):=fun x c h=>by
  rw[←hcs,cellsFrom_app,lookup_app] at h
  cases e:(cellsFrom (Hh.objs.size+1) scope.names []).lookup x with
  | some c'=>
   rw[e] at h
   cases h
   have m:=mem_of_lookup e
   exact .inl ⟨m,(own.empty x c m).1,(own.empty x c m).2,cs.cell (x,.cell) (cellsFrom_mem _ _ _ _ m) rfl⟩
  | none=>
   rw[e] at h
   refine .inr ⟨fun hm=>?_,cs.sub x c h⟩
   obtain⟨c',q⟩:=cellsFrom_has scope.names (Hh.objs.size+1) x hm
   rw[e] at q; cases q
 have cshas:∀ x,((relabel scope X.env).names.lookup x=some .cell∨(relabel scope X.env).names.lookup x=some .free)→∃ c,cs'.lookup x=some c:=fun x h=>by
  rw[←hcs,cellsFrom_app,lookup_app]
  cases e:(cellsFrom (Hh.objs.size+1) scope.names []).lookup x with
  | some c=>exact⟨c,rfl⟩
  | none=>
   rcases cs.has x h with hm | hm
   ·obtain⟨c',q⟩:=cellsFrom_has scope.names (Hh.objs.size+1) x hm
    rw[e] at q; cases q
   ·exact hm
 have lts:∀ x c,X.env.cells.lookup x=some c→c<s2.heap.objs.size:=fun x c h=>by
  obtain⟨v,o,ho,hd⟩:=I2.cell x c h
  exact Heap.lt_size ho
 let Y:=blk X s2 H2 Hh.objs.size scope cs' N' fp
 have fpLt:∀ b∈fp,b<s2.heap.objs.size:=fun b hb=>by
  obtain⟨o,e,_⟩:=T.obj _ _ st2 b hb
  exact Heap.lt_size e
 have okY:Y.Ok:=by
  refine⟨I2.ok.mod,(by show(relabel scope X.env).kind=.function; exact cs.kind),I2.ok.glob,I2.ok.blt,hCle,fun x y c h1 h2=>?_,cshas,(fun x c z h=>by
   rcases csl x c h with⟨_,_,q,_⟩ | ⟨q,_⟩
   ·show s2.heap.objs.size≤c
    rw[hC] at q; omega
   ·have z:scope.names.lookup x=some .cell:=by simpa[Y,blk] using z
    exact absurd (mem_of_lookup z) q),I2.ok.hd,I2.ok.frames,.inl rfl,fun b hb=>⟨Nat.ne_of_lt (by rw[show Y.env.locals=Hh.objs.size from rfl,hC]; exact Nat.lt_succ_of_lt (fpLt b hb)),fun x c h=>by
   rcases csl x c h with⟨_,_,q,_⟩ | ⟨_,q⟩
   ·exact fun z=>absurd (Nat.lt_of_lt_of_le (fpLt b hb) (Nat.le_trans (by rw[hC]; omega) (z▸q))) (Nat.lt_irrefl _)
   ·exact(f2 b hb).2.2.2.2.1 x c q⟩,I2.bs,Nat.le_trans I2.ok.bsz I2.sz,fun b o e hb=>?_,fun b hb hs=>?_,I2.stack,I2.stkFree⟩
  ·rcases csl x c h1 with⟨m1,_,q1,_⟩ | ⟨_,q1⟩<;>rcases csl y c h2 with⟨m2,_,q2,_⟩ | ⟨_,q2⟩
   ·exact name_of_addr own.apart m1 m2
   ·exact absurd (Nat.lt_of_lt_of_le (lts y c q2) (Nat.le_trans (by rw[hC]; omega) q1)) (Nat.lt_irrefl _)
   ·exact absurd (Nat.lt_of_lt_of_le (lts x c q1) (Nat.le_trans (by rw[hC]; omega) q2)) (Nat.lt_irrefl _)
   ·exact I2.ok.inj x y c q1 q2
  ·rcases(f2 b hb).2.2.2.1 with z | z
   ·exact I2.ok.noex b o e z
   ·exact absurd (Nat.lt_of_lt_of_le (Heap.lt_size e) (Nat.le_trans I2.ok.bsz z)) (Nat.lt_irrefl _)
  ·rcases List.mem_cons.mp (I2.stkSub b hs) with z | z
   ·exact(f2 b hb).2.1 z
   ·exact(f2 b hb).2.2.1 z
 have hokY:HOk X.prog X.w (upd H2 s2.heap.objs.size (.lst [])) h₁:=I2.hok.laid old (Nat.le_refl _) ⟨by decide,[],0,.nil,hacc⟩
 have IY:∀ tk,Inv Y [] (pkS pk σ) (upd H2 s2.heap.objs.size (.lst [])) { s2 with heap:=h₁,toks:=tk }:=fun tk=>by
  refine⟨okY,rfl,I2.bare,?_,⟨_,hns₁,fun i x v h1 h2 h3=>?_⟩,fun x c h=>?_,?_,fun x c h=>?_,fun p hp=>absurd (show p∈([]:List (Addr×Obj)) from hp) (by simp),hokY,by show(pkS pk σ).length=N'.length; rw[←cs.len]; simp[pkS]⟩
  ·exact Un.laid old (Nat.le_refl _) hD
  ·unfold pkS at h2
   rw[List.getElem?_map] at h2
   cases e:pk[i]? with
   | none=>rw[e] at h2; cases h2
   | some o=>
    rw[e] at h2
    cases o with
    | none=>cases h2
    | some j=>
     have h2:(σ[j]?).bind id=some v:=Option.some.inj h2
     have h2:σ[j]?=some (some v):=by
      cases z:σ[j]? with
      | none=>rw[z] at h2; cases h2
      | some q=>
       rw[z] at h2
       have h2:q=some v:=h2
       rw[h2]
     obtain⟨n1,n2,n3,n4⟩:=cs.take i j x e h1
     obtain⟨m,_,hl⟩:=I2.loc
     have vis:Vis X.env.scope x:=by
      rcases n2 with n2 | n2
      ·exact .inr (.inl n2)
      ·exact .inr (.inr n2)
     obtain⟨u,r,l⟩:=hl j x v n1 h2 vis
     refine⟨u,r,.inr ⟨n3,?_⟩⟩
     rcases l with⟨k,_⟩ | ⟨_,c,hc,⟨o,ho,hd⟩⟩
     ·rcases n2 with n2 | n2<;>rw[k] at n2<;>cases n2
     ·obtain⟨c',hc'⟩:=cshas x n3
      rcases csl x c' hc' with⟨_,_,_,q⟩ | ⟨_,e2⟩
      ·rw[n4] at q; cases q
      rw[hc] at e2
      cases e2
      exact⟨c,hc',o,old c o ho,hd⟩
  ·rcases csl x c h with⟨_,q,_,_⟩ | ⟨_,q⟩
   ·exact⟨none,q⟩
   obtain⟨v,o,ho,hd⟩:=I2.cell x c q
   exact⟨v,o,old c o ho,hd⟩
  ·show upd H2 s2.heap.objs.size (.lst []) Hh.objs.size=none
   rw[upd_ne (Ne.symm hDC)]
   exact I2.hok.fresh hCle
  ·rcases csl x c h with⟨_,_,z,_⟩ | ⟨_,z⟩
   ·show upd H2 s2.heap.objs.size (.lst []) c=none
    have z:s2.heap.objs.size+2≤c:=by rw[hC] at z; exact z
    rw[upd_ne (Nat.ne_of_gt (by omega:s2.heap.objs.size<c))]
    exact I2.hok.fresh (by omega)
   have q:=I2.freeC x c z
   obtain⟨v,o,ho,hd⟩:=I2.cell x c z
   show upd H2 s2.heap.objs.size (.lst []) c=none
   rw[upd_ne (below c (Heap.lt_size ho)).2]
   exact q
 have stat:∀ {H':Hp},(∀ b∈fp,H' b=none)→∀ b∈fp,FpOk Y [] H' b:=fun hn b hb=>
  ⟨hn b hb,(okY.exf b hb).1,okY.exfs b hb,.inl hb,(okY.exf b hb).2,fun p hp=>absurd (show p∈([]:List (Addr×Obj)) from hp) (by simp)⟩
 have fin:∀ (H':Hp) (σ':L2.St) (s':Shared),Inv Y [] σ' H' s'→∀ h',Heap.SameBut Hh.objs.size s'.heap h'→Inv X pins σ H' { s' with heap:=h' }:=fun H' σ' s' I' h' hs=>by
  have sub:∀ b o,s2.heap.get? b=some o→b≠Hh.objs.size:=fun b o e=>(below b (Heap.lt_size e)).1
  have un:Un (frs X.stack) fp H2 H' s2.heap s'.heap:=I'.base
  refine I2.call' (ch:=fp) I'.os ⟨fun b o e n hb hx=>(hs.2 b (sub b o e)).trans (un.keep b o e n hb hx),fun b o e n hb hx=>?_,un.free,fun b o e hx=>?_,un.tups,un.frzs,un.tbls⟩ (hok_same I'.hok I'.free hs) I'.bare fun b hb=>⟨(f2 b hb).2.2.2.1,(f2 b hb).2.1,(f2 b hb).2.2.2.2.1,(f2 b hb).2.2.2.2.2⟩
  ·obtain⟨sl,q⟩:=un.slot b o e n hb hx
   exact⟨sl,(hs.2 b (sub b o e)).trans q⟩
  ·obtain⟨o',q⟩:=un.there b o e hx
   exact⟨o',(hs.2 b (sub b o e)).trans q⟩
 have loop:∀ s3:Shared,(∃ tk,s3={ s2 with heap:=h₁,toks:=tk })→
   codeAny (model X.prog X.w) X.A (.compLoop (.ListComp elt [⟨tg,iter,ifs,0⟩] scope pos) 0 (.ref it) (.ref s2.heap.objs.size) (compEnvC scope cs' Hh.objs.size X.env)) (RR (.ref s2.heap.objs.size) Hh.objs.size) s3:=by
  rintro s3 ⟨tk,rfl⟩
  refine compLoop_any (fun n s'=>∃ i σ' H',Inv Y [] σ' H' s'∧tn i s'.heap∧(∀ b∈fp,H' b=none)∧W i n σ' H') ?_ m0 ⟨0,_,_,IY tk,T.keep _ _ _ st2 (fun b _ o e=>old b o e),fun b hb=>by rw[upd_ne (below b (fpLt b hb)).2]; exact(f2 b hb).1,w0⟩
  rintro n s4 ⟨i,σ4,H4,I4,st4,fr4,w4⟩
  rcases turn i n σ4 H4 w4 with⟨stop,qn⟩ | ⟨go,step⟩
  ·refine wpAny_mono (T.done Y rfl rfl rfl hcm i [] s4 σ4 H4 (fun _ _=>False) I4 (stat fr4) st4 stop) (fun r s5 ⟨hr,I5⟩=>?_) fun _ _ z=>z
   subst hr
   obtain⟨m,hn,_⟩:=I5.loc
   exact hRR _ _ s5 H4 qn ⟨m,hn⟩ (fin H4 σ4 s5 I5 s5.heap (.refl ..)) I5.free hCle
  ·refine wpAny_mono (T.item Y rfl rfl rfl hcm i [] s4 σ4 H4 (fun _ _=>False) I4 (stat fr4) st4 go) (fun r s5 ⟨u,hr,h5⟩=>?_) fun _ _ z=>z
   subst hr
   refine wpAny_mono h5 (fun _ s6 ⟨x,H6,I6,r6,y6,st6,fr6⟩=>?_) fun _ _ z=>z
   have I6':=I6.pinned (stat fr6) (T.obj _ _ st6)
   refine wpAny_mono (hg cs' s2 H2 Hh.objs.size fp _ s6 σ4 H6 x u _ I6' r6 (step x H6 y6)) (fun _ s7 ⟨σ7,H7,I7,q7⟩=>?_) fun _ _ z=>z
   refine wpAny_mono (ht cs' s2 H2 Hh.objs.size fp _ s7 σ7 H7 _ I7 q7) (fun ok s8 ⟨H8,I8,q8⟩=>?_) fun _ _ z=>z
   have back:∀ {σ9:L2.St} {H9:Hp} {s9:Shared},Inv Y ([]++pinsAt fp s6.heap) σ9 H9 s9→Inv Y [] σ9 H9 s9∧tn (i+1) s9.heap∧∀ b∈fp,H9 b=none:=fun{σ9 H9 s9} I9=>
    ⟨I9.unpinned,T.keep _ _ _ st6 fun b hb o e=>(I9.pin (b,o) (List.mem_append_right _ (List.mem_append_right _ (mem_pinsAt hb e)))).1,fun b hb=>by
     obtain⟨o,e,d⟩:=T.obj _ _ st6 b hb
     exact(I9.pin (b,o) (List.mem_append_right _ (List.mem_append_right _ (mem_pinsAt hb e)))).2.1⟩
   cases ok with
   | false=>
    obtain⟨m',hm,w'⟩:=(if_neg Bool.false_ne_true).mp q8
    obtain⟨b1,b2,b3⟩:=back I8
    exact(if_neg Bool.false_ne_true).mpr ⟨m',hm,i+1,σ7,H8,b1,b2,b3,w'⟩
   | true=>
    refine(if_pos rfl).mpr ?_
    refine wpAny_mono (he cs' s2 H2 Hh.objs.size fp _ s8 σ7 H8 _ I8 ((if_pos rfl).mp q8)) (fun ux s9 ⟨v,H9,I9,r9,xs,ex,hx,m',hm,w'⟩=>?_) fun _ _ z=>z
    refine wpAny_mono (mt_append (X:=Y) _ s9 σ7 H9 (.ref s2.heap.objs.size) [v] (.ref s2.heap.objs.size) [ux] (fun _ H'=>H'=upd H9 s2.heap.objs.size (.lst (xs++[v]))) I9 rfl (.cons r9 .nil) ⟨_,xs,v,rfl,rfl,ex,hx,rfl⟩) (fun _ s10 ⟨_,H10,I10,_,e10⟩=>?_) fun _ _ z=>z
    subst e10
    obtain⟨b1,b2,b3⟩:=back I10
    exact⟨m',hm,i+1,σ7,_,b1,b2,b3,w'⟩
 exact codeAny_compStart_list (loop _ ⟨_,rfl⟩) (T.self _ 0 _ _ _ (T.keep _ _ _ st2 fun b _ o e=>old b o e) (loop _ ⟨_,rfl⟩))
theorem inv_let{pins:List (Addr×Obj)}{σ σ2:L2.St}{H2 H':Hp}{s2 s':Shared}{C:Addr}{h':Heap}(I2:Inv X pins σ2 H2 s2)(I:Inv X pins σ H' s')(hn:H' C=none)(hC:s2.heap.objs.size≤C)(hs:Heap.SameBut C s'.heap h'):Inv X pins σ H' { s' with heap:=h' }:=by
 refine I.turned (t':=s'.toks) (it:=C) (fun b o hb e=>(hs.2 b hb).trans e) hn (fun z=>?_) (.inr (Nat.le_trans I2.sz hC)) (fun x c h z=>?_) fun p hp z=>?_
 ·exact absurd (Nat.lt_of_lt_of_le I2.lt (by rw[←z]; exact hC)) (Nat.lt_irrefl _)
 ·obtain⟨v,q⟩:=I2.cell x c h
  exact absurd (Nat.lt_of_lt_of_le q.lt (by rw[z]; exact hC)) (Nat.lt_irrefl _)
 ·exact absurd (Nat.lt_of_lt_of_le (Heap.lt_size (I2.pin p hp).1) (by rw[z]; exact hC)) (Nat.lt_irrefl _)
theorem closure_of{env:PySem.Env}:∀ (names:List (Str×NameKind)) (acc:List (Str×Addr)),(∀ x∈names,x.2=.free→∃ c,env.cells.lookup x.1=some c)→(∀ x c,acc.lookup x=some c→env.cells.lookup x=some c)→
  ∃ cl,(forIn names acc fun x cs=>(if(x.2==NameKind.free)=true then do let c ←cellOf env x.1; pure (ForInStep.yield ((x.1,c)::cs)) else pure (ForInStep.yield cs):Sem _))=pure cl∧(∀ x c,cl.lookup x=some c→env.cells.lookup x=some c)∧
   (∀ x,(∃ c,acc.lookup x=some c)∨(x,NameKind.free)∈names→∃ c,cl.lookup x=some c)
 | [],acc,_,ha=>⟨acc,rfl,ha,fun x h=>by
   rcases h with h | h
   ·exact h
   ·simp at h⟩
 | (n,k)::r,acc,hn,ha=>by
  have hr:∀ x∈r,x.2=.free→∃ c,env.cells.lookup x.1=some c:=fun x hx=>hn x (List.mem_cons_of_mem _ hx)
  by_cases hk:k=.free
  ·subst hk
   obtain⟨c,hc⟩:=hn (n,.free) List.mem_cons_self rfl
   obtain⟨cl,e,h1,h2⟩:=closure_of r ((n,c)::acc) hr (fun x c' h=>by
    rw[List.lookup_cons] at h
    by_cases hx:(x==n)=true
    ·rw[hx] at h
     cases h
     have:x=n:=by simpa using hx
     rw[this]; exact hc
    ·have hx:(x==n)=false:=by simpa using hx
     rw[hx] at h
     exact ha x c' h)
   refine⟨cl,?_,h1,fun x h=>h2 x ?_⟩
   ·rw[List.forIn_cons]
    simp only[beq_self_eq_true,if_true]
    have q:cellOf env n=pure c:=by unfold cellOf; rw[hc]
    rw[q]
    exact e
   ·rcases h with⟨c',h⟩ | h
    ·left
     rw[List.lookup_cons]
     by_cases hx:(x==n)=true
     ·rw[hx]; exact⟨c,rfl⟩
     ·have hx:(x==n)=false:=by simpa using hx
      rw[hx]; exact⟨c',h⟩
    ·rcases List.mem_cons.mp h with h | h
     ·left
      cases h
      exact⟨c,by rw[List.lookup_cons,beq_self_eq_true]⟩
     ·exact .inr h
  ·have hb:(k==NameKind.free)=false:=by simpa using hk
   obtain⟨cl,e,h1,h2⟩:=closure_of r acc hr ha
   refine⟨cl,?_,h1,fun x h=>h2 x ?_⟩
   ·rw[List.forIn_cons]
    simp only[hb,Bool.false_eq_true,if_false]
    exact e
   ·rcases h with h | h
    ·exact .inl h
    ·rcases List.mem_cons.mp h with h | h
     ·cases h; exact absurd rfl hk
     ·exact .inr h
theorem closure_ok{env:PySem.Env}{scope:Scope}(hn:∀ x∈scope.names,x.2=.free→∃ c,env.cells.lookup x.1=some c):∃ cl,closureFor scope env=pure cl∧(∀ x c,cl.lookup x=some c→env.cells.lookup x=some c)∧(∀ x,(x,NameKind.free)∈scope.names→∃ c,cl.lookup x=some c):=by
 obtain⟨cl,e,h1,h2⟩:=closure_of (env:=env) scope.names [] hn (fun x c h=>by simp at h)
 refine⟨cl,?_,h1,fun x h=>h2 x (.inr h)⟩
 unfold closureFor
 have e2:(forIn scope.names ([]:List (Str×Addr)) fun x r=>(match x with
   | (name,kind)=>if(kind==NameKind.free)=true then do let c ←cellOf env name; pure (ForInStep.yield ((name,c)::r)) else pure (ForInStep.yield r):Sem _))=pure cl:=e
 first
  | exact congrArg (fun m=>m >>= fun cs=>pure cs) e2
  | (show(do let cs ←forIn scope.names ([]:List (Str×Addr)) fun x r=>_; pure cs)=_; rw[e2]; rfl)
structure CompTab(sc scope:Scope)(N N':List Str)(pk:List (Option Nat)):Prop where
 kind:scope.kind=.function
 cell:∀ y∈scope.names,y.2=.cell→scope.names.lookup y.1=some .cell
 names:∀ y∈scope.names,y.2=.local→scope.names.lookup y.1=some .local
 free:∀ y∈scope.names,y.2=.free→sc.names.lookup y.1=some .cell∨sc.names.lookup y.1=some .free
 len:pk.length=N'.length
 take:((List.range N'.length).all fun i=>match pk[i]? with
  | some (some j)=>match N[j]?,N'[i]? with
   | some x,some y=>(x==y)&&((sc.names.lookup y==some NameKind.cell)||(sc.names.lookup y==some NameKind.free))&&(scope.names.lookup y==some NameKind.free)
   | _,_=>false
  | _=>true)=true
theorem relabel_lookup{scope:Scope}{env:PySem.Env}{x:Str}:∀ (names:List (Str×NameKind)),((names.map fun(n,k)=>if(k==NameKind.free&&env.scope.kind==.function&&env.kindOf n==some .cell)=true then(n,NameKind.cell) else(n,k)).lookup x=some .cell∨
   (names.map fun(n,k)=>if(k==NameKind.free&&env.scope.kind==.function&&env.kindOf n==some .cell)=true then(n,NameKind.cell) else(n,k)).lookup x=some .free)→(x,NameKind.cell)∈names∨(x,NameKind.free)∈names
 | [],h=>by simp at h
 | (n,k)::r,h=>by
  rw[List.map_cons] at h
  by_cases hx:(x==n)=true
  ·have e:x=n:=by simpa using hx
   subst e
   by_cases hq:(k==NameKind.free&&env.scope.kind==.function&&env.kindOf x==some .cell)=true
   ·have:k=.free:=by
     rw[Bool.and_eq_true,Bool.and_eq_true] at hq
     simpa using hq.1.1
    subst this
    exact .inr List.mem_cons_self
   ·simp only[hq,Bool.false_eq_true,if_false,List.lookup_cons,beq_self_eq_true] at h
    rcases h with h | h
    ·have:k=.cell:=by simpa using h
     subst this
     exact .inl List.mem_cons_self
    ·have:k=.free:=by simpa using h
     subst this
     exact .inr List.mem_cons_self
  ·have hx:(x==n)=false:=by simpa using hx
   refine(relabel_lookup (scope:=scope) (env:=env) r ?_).imp (List.mem_cons_of_mem _) (List.mem_cons_of_mem _)
   by_cases hq:(k==NameKind.free&&env.scope.kind==.function&&env.kindOf n==some .cell)=true
   ·simpa only[hq,if_true,List.lookup_cons,hx] using h
   ·simpa only[hq,Bool.false_eq_true,if_false,List.lookup_cons,hx] using h
theorem lookup_relabel_free{scope:Scope}{env:PySem.Env}{x:Str}:∀ (names:List (Str×NameKind)),names.lookup x=some .free→((names.map fun(n,k)=>if(k==NameKind.free&&env.scope.kind==.function&&env.kindOf n==some .cell)=true then(n,NameKind.cell) else(n,k)).lookup x=some .cell∨
   (names.map fun(n,k)=>if(k==NameKind.free&&env.scope.kind==.function&&env.kindOf n==some .cell)=true then(n,NameKind.cell) else(n,k)).lookup x=some .free)
 | [],h=>by simp at h
 | (n,k)::r,h=>by
  rw[List.map_cons]
  by_cases hx:(x==n)=true
  ·rw[List.lookup_cons,hx] at h
   have:k=.free:=by simpa using h
   subst this
   by_cases hq:(NameKind.free==NameKind.free&&env.scope.kind==.function&&env.kindOf n==some .cell)=true
   ·left; simp only[hq,if_true,List.lookup_cons,hx]
   ·right; simp only[hq,Bool.false_eq_true,if_false,List.lookup_cons,hx]
  ·have hx:(x==n)=false:=by simpa using hx
   rw[List.lookup_cons,hx] at h
   have:=lookup_relabel_free (scope:=scope) (env:=env) r h
   by_cases hq:(k==NameKind.free&&env.scope.kind==.function&&env.kindOf n==some .cell)=true
   ·simpa only[hq,if_true,List.lookup_cons,hx] using this
   ·simpa only[hq,Bool.false_eq_true,if_false,List.lookup_cons,hx] using this
theorem CompTab.sc{scope:Scope}{N':List Str}{pk:List (Option Nat)}(t:CompTab X.env.scope scope X.N N' pk)(ok:X.Ok):∃ cl,CompSc X scope cl N' pk:=by
 obtain⟨cl,e,h1,h2⟩:=closure_ok (env:=X.env) (scope:=scope) fun x hx hf=>ok.has x.1 (t.free x hx hf)
 refine⟨cl,t.kind,t.cell,t.names,e,h1,fun x h=>(relabel_lookup (scope:=scope) (env:=X.env) scope.names h).imp id (h2 x),t.len,fun i j x hp hn=>?_⟩
 have hi:i<N'.length:=(List.getElem?_eq_some_iff.mp hn).1
 have q:=List.all_eq_true.mp t.take i (List.mem_range.mpr hi)
 simp only[hp,hn] at q
 cases hj:X.N[j]? with
 | none=>simp[hj] at q
 | some y=>
  simp only[hj,Bool.and_eq_true,Bool.or_eq_true,beq_iff_eq] at q
  obtain⟨⟨e1,e2⟩,e3⟩:=q
  subst e1
  exact⟨rfl,e2,lookup_relabel_free (scope:=scope) (env:=X.env) scope.names e3,e3⟩
theorem ps_setComp{i:Nat}{y:Str}{py spos:Pos}{elt tg iter:Expr}{ifs:List Expr}{scope:Scope}{pos:Pos}{N':List Str}{pk:List (Option Nat)}{wi:TI}{g:TG}{tt:TT}{te:TE}(ct:CompTab X.env.scope scope X.N N' pk)(hcm:X.calm=true)(hi:PI X tg iter wi)
  (hg:∀ cl s2 H2 C fp,PG (blk X s2 H2 C scope cl N' fp) tg g) (ht:∀ cl s2 H2 C fp,PTs (blk X s2 H2 C scope cl N' fp) ifs tt) (he:∀ cl s2 H2 C fp,PE (blk X s2 H2 C scope cl N' fp) elt te)
  (hN:X.N.Nodup) (hy:X.N[i]?=some y) (hx:Loc X.env.scope y) (hsw:swapsWith (.ListComp elt [⟨tg,iter,ifs,0⟩] scope pos) (some (.Name y py)) spos.line X.env=pure true)
  (hs:∀ x,foldedSetIterable iter X.env x=pure x:=by intro _; rfl) (hf:X.fn y=true∨X.env.scope.names.lookup y=some .local:=by first | exact .inl rfl | exact .inr rfl | assumption):
  PS X (.Assign [.Name y py] (.ListComp elt [⟨tg,iter,ifs,0⟩] scope pos) spos) (tAsg (tComp wi pk g tt te) (gName i)):=by
 intro pins s σ H E I h
 obtain⟨cl,cs⟩:=ct.sc I.ok
 rw[exec_Assign_Name_used _ _ _ _ hsw]
 refine wpAny_bind (wpAny_standAt (wpAny_bind ?_))
 show wpAny _ X.A (do let _ ←comprehension (.ListComp elt [⟨tg,iter,ifs,0⟩] scope pos) scope X.env _ (newList []) false (eval iter X.env) (some (assign (.Name y py) X.env))) _ _ s
 refine wpAny_bind (wpAny_mono (wpAny_comprehension_free (use:=some (assign (.Name y py) X.env)) (Q:=fun _ s'=>SP X pins E .next s') rfl hs cs.clos cs.kind cs.names
  (thn (hi pins s σ H _ I h) fun x s1 h1=>thn h1 fun itv s2 h2=>?_)) (fun _ s' hq=>wpAny_pure (wpAny_pure hq)) fun _ _ e=>e)
 obtain⟨it,fp,tn,J,H2,e,I2,T,st2,f2,hQ⟩:=h2
 subst e
 refine comp_block cs hcm hg ht he I2 T st2 f2 (Q:=fun x H1=>gName i x σ H1 E.nx) hQ (RR:=fun acc C=>compPost (model X.prog X.w) X.A X.xe (some (assign (.Name y py) X.env)) (fun _ s'=>SP X pins E .next s') acc C) fun D C s' H' q hn inv hfr hC=>?_
 obtain⟨m,hn⟩:=hn
 show wpAny _ X.A (assign (.Name y py) X.env (.ref D)) _ _ _
 refine wpAny_assign_Name (store_ok2 inv hN hy hx (v:=.ref D) rfl (fun s'' I'' hch=>?_) hf)
 obtain⟨a,hsb,ha⟩:=hch
 have hCa:C≠a:=by
  rcases ha with ha | ha
  ·rintro rfl
   exact absurd (Nat.lt_of_lt_of_le I2.lt (by rw[←ha]; exact hC)) (Nat.lt_irrefl _)
  ·rintro rfl
   obtain⟨v,z⟩:=I2.cell y _ ha
   exact absurd (Nat.lt_of_lt_of_le z.lt hC) (Nat.lt_irrefl _)
 exact⟨m,hn.sameBut hsb hCa,fun h' hs'=>⟨_,H',inv_let I2 I'' hfr hC hs',q⟩⟩
abbrev XN:XW:=fun _ _ _ _ _ _=>False
def cbody(a:Nat)(t:Ev Bool)(e:Ev D):Sv:=fun ρ S=>bindS (t ρ S) ρ fun b S1=>if b=true then bindS (e ρ S1) ρ fun d S2=>(match S2[a]? with
  | some c=>if c.fz=false∧c.xs.length<1000000 then .nx ρ (S2.set a ⟨false,c.xs++[d]⟩) else .bad
  | none=>.bad) else .nx ρ S1
def cmp(f:Ev Src)(pk:List (Option Nat))(g:Tg)(t:Ev Bool)(e:Ev D):Ev D:=fun ρ S=>(f ρ S).bind fun src S1=>match forN src.nxt g (cbody S1.length t e) src.fuel 0 (pkS pk ρ) (S1++[⟨false,[]⟩]) with
 | .nx _ S'=>.ok (.lst S1.length) S'
 | _=>.bad
def PostC(K:PySem.W.Frag)(XQ:XW)(σ:L2.St)(ρ:Lc)(a:Nat)(mp:List Addr)(H:Hp)(o:OS)(Q:VK):Prop:=match o with
 | .nx _ S=>Post K XQ σ ρ mp H (.ok (.lst a) S) Q
 | _=>False
theorem PostC.aft{K:PySem.W.Frag}{XQ:XW}{σ:L2.St}{ρ:Lc}{a:Nat}{mp mp':List Addr}{H H':Hp}{o:OS}{Q:VK}(p:PostC K XQ σ ρ a mp H o Q)(af:Aft K mp H mp' H'):PostC K XQ σ ρ a mp' H' o Q:=by
 cases o with
 | nx r S=>exact PostG.aft (show Post K XQ σ ρ mp H (.ok (.lst a) S) Q from p) af
 | _=>exact p
theorem Gd.pick{K:PySem.W.Frag}{mp:List Addr}{H:Hp}{σ:L2.St}{ρ:Lc}{S:Sto}(G:Gd K mp H σ ρ S)(pk:List (Option Nat)):Gd K mp H (pkS pk σ) (pkS pk ρ) S:=by
 refine⟨G.rs,by simp[pkS],fun i d h=>?_⟩
 unfold pkS at h ⊢
 rw[List.getElem?_map] at h ⊢
 cases e:pk[i]? with
 | none=>rw[e] at h; cases h
 | some o=>
  rw[e] at h
  cases o with
  | none=>cases h
  | some j=>
   have h:(ρ[j]?).bind id=some d:=Option.some.inj h
   have h:ρ[j]?=some (some d):=by
    cases z:ρ[j]? with
    | none=>rw[z] at h; cases h
    | some q=>
     rw[z] at h
     have h:q=some d:=h
     rw[h]
   obtain⟨v,e1,r⟩:=G.loc j d h
   refine⟨v,?_,r⟩
   show some ((σ[j]?).bind id)=some (some v)
   rw[e1]
   rfl
def JTs(Y:Cx)(XQ:XW)(ifs:List Expr)(t:Ev Bool):Prop:=PTs Y ifs (rdT Y.K XQ t)
def ttrue:Ev Bool:=fun _ S=>.ok true S
theorem jts_nil{Y:Cx}{XQ:XW}:JTs Y XQ [] ttrue:=fun pins s σ H Q I ⟨mp,ρ,S,G,p⟩=>pts_nil pins s σ H Q I (PostG.ok (show PostG Y.K kB XQ σ ρ mp H (.ok true S) Q from p) G.rs rfl)
theorem jts_one{Y:Cx}{XQ:XW}{c:Expr}{t:Ev Bool}(h:JT Y XQ c t):JTs Y XQ [c] t:=pts_one h
theorem compP{K:PySem.W.Frag}{XQ:XW}{f:Ev Src}{pk:List (Option Nat)}{g:Tg}{t:Ev Bool}{e:Ev D}(σ:L2.St)(H:Hp)(Q:VK)(h:rdE K XQ (cmp f pk g t e) σ H Q):tComp (rdI K XQ f) pk (rdG1 K g) (rdT K XN t) (rdE K XN e) σ H Q:=by
 obtain⟨mp,ρ,S,G,p⟩:=h
 refine bindP G p fun mp1 H1 src S1 J a1 G1 j1 p1=>?_
 intro a ha
 obtain⟨af,rs,la⟩:=G1.rs.newL ha (RepL.nil:RepL K mp1 H1 [] [])
 have p1:PostC K XQ σ ρ S1.length (mp1++[a]) (upd H1 a (.lst [])) (forN src.nxt g (cbody S1.length t e) src.fuel 0 (pkS pk ρ) (S1++[⟨false,[]⟩])) Q:=by
  cases z:forN src.nxt g (cbody S1.length t e) src.fuel 0 (pkS pk ρ) (S1++[⟨false,[]⟩]) with
  | nx r S'=>rw[z] at p1; exact PostG.aft p1 af
  | rt d S'=>rw[z] at p1; exact p1
  | bk r S'=>rw[z] at p1; exact p1
  | ct r S'=>rw[z] at p1; exact p1
  | exc x r S'=>rw[z] at p1; exact p1
  | bad=>rw[z] at p1; exact p1
 refine⟨fun i m σ' H'=>∃ mp' ρ' S',Aft K mp1 H1 mp' H'∧Gd K mp' H' σ' ρ' S'∧mp'[S1.length]?=some a∧PostC K XQ σ ρ S1.length mp' H' (forN src.nxt g (cbody S1.length t e) m i ρ' S') Q,⟨src.fuel,_,_,_,af,(G1.pick pk).aft af rs,la,p1⟩,?_⟩
 rintro i m σ' H' ⟨mp',ρ',S',a',G',la',p'⟩
 cases m with
 | zero=>exact(show False from p').elim
 | succ n=>
  have j:=j1 mp' H' S' a' G'.rs i
  unfold forN at p'
  cases z:src.nxt i S' with
  | none=>
   rw[z] at j p'
   exact .inl ⟨j,PostG.ok (show Post K XQ σ ρ mp' H' (.ok (.lst S1.length) S') Q from p') G'.rs ⟨a,rfl,la'⟩⟩
  | some d=>
   rw[z] at j p'
   obtain⟨j1,j2⟩:=j
   refine .inr ⟨j1,fun x H2 y=>?_⟩
   obtain⟨a2,r2,x2⟩:=j2 x H2 y
   have G2:=G'.aft a2 r2
   cases zg:g d ρ' with
   | none=>simp only[zg] at p'; exact p'.elim
   | some ρ1=>
    simp only[zg] at p'
    refine⟨mp',ρ',S',d,ρ1,G2,x2,zg,fun σ3 G3=>⟨mp',ρ1,S',G3,?_⟩⟩
    have p2:=PostC.aft p' a2
    unfold cbody at p2
    cases zt:t ρ1 S' with
    | exc x S2=>simp only[zt,bindS] at p2; exact p2.elim
    | bad=>simp only[zt,bindS] at p2; exact p2.elim
    | ok b S2=>
     simp only[zt,bindS] at p2
     intro mp3 H3 b' a3 rs3 e3
     cases (show b'=b from e3)
     have G4:=G3.aft a3 rs3
     cases b with
     | false=>
      simp only[Bool.false_eq_true,if_false] at p2
      exact(if_neg Bool.false_ne_true).mpr ⟨n,Nat.lt_succ_self n,mp3,ρ1,S2,(a'.trans a2).trans a3,G4,a3.pre _ _ la',PostC.aft p2 a3⟩
     | true=>
      simp only[if_true] at p2
      refine(if_pos rfl).mpr ⟨mp3,ρ1,S2,G4,?_⟩
      cases ze:e ρ1 S2 with
      | exc x S3=>simp only[ze] at p2; exact p2.elim
      | bad=>simp only[ze] at p2; exact p2.elim
      | ok d2 S3=>
       simp only[ze] at p2
       intro mp4 H4 v a4 rs4 r4
       have la4:=a4.pre _ _ (a3.pre _ _ la')
       have G5:=G4.aft a4 rs4
       cases zc:S3[S1.length]? with
       | none=>simp only[zc] at p2; exact p2.elim
       | some c=>
        simp only[zc] at p2
        by_cases hc:c.fz=false∧c.xs.length<1000000
        ·rw[if_pos hc] at p2
         obtain⟨a5,xs,e5,h5,s5,r5,f5⟩:=rs4.items (v:=.ref a) ⟨a,rfl,la4⟩ zc
         cases e5
         have h5:=f5 hc.1
         obtain⟨af6,rs6⟩:=rs4.setL la4 zc hc.1 h5 (RepL.append r5 (RepL.cons r4 RepL.nil))
         refine⟨xs,h5,?_,n,Nat.lt_succ_self n,mp4,ρ1,_,(((a'.trans a2).trans a3).trans a4).trans af6,G5.aft af6 rs6,la4,PostC.aft p2 ((a3.trans a4).trans af6)⟩
         rw[r5.len]
         exact Nat.lt_of_lt_of_le hc.2 (by decide)
        ·rw[if_neg hc] at p2; exact p2.elim
variable{XQ:XW}
theorem js_setComp(i:Nat){y:Str}{py spos:Pos}{elt tg iter:Expr}{ifs:List Expr}{scope:Scope}{pos:Pos}{N':List Str}{pk:List (Option Nat)}{f:Ev Src}{g:Tg}{t:Ev Bool}{e:Ev D}(ct:CompTab X.env.scope scope X.N N' pk)(hcm:X.calm=true)(hi:JI X XQ tg iter f)
  (hg:∀ cl s2 H2 C fp,JG (blk X s2 H2 C scope cl N' fp) tg g) (ht:∀ cl s2 H2 C fp,JTs (blk X s2 H2 C scope cl N' fp) XN ifs t) (he:∀ cl s2 H2 C fp,JE (blk X s2 H2 C scope cl N' fp) XN elt e)
  (hN:X.N.Nodup) (hy:X.N[i]?=some y:=by rfl) (hx:Loc X.env.scope y:=by first | exact Or.inl rfl | exact Or.inr rfl) (hsw:swapsWith (.ListComp elt [⟨tg,iter,ifs,0⟩] scope pos) (some (.Name y py)) spos.line X.env=pure true:=by rfl)
  (hs:∀ x,foldedSetIterable iter X.env x=pure x:=by intro _; rfl) (hf:X.fn y=true∨X.env.scope.names.lookup y=some .local:=by first | exact .inl rfl | exact .inr rfl | assumption):
  JS X XQ (.Assign [.Name y py] (.ListComp elt [⟨tg,iter,ifs,0⟩] scope pos) spos) (sa (cmp f pk g t e) (gn i)):=by
 refine PS.mono (ps_setComp (g:=rdG1 X.K g) (tt:=rdT X.K XN t) (te:=rdE X.K XN e) ct hcm hi hg ht he hN hy hx hsw hs hf) fun E σ H ⟨mp,ρ,S,G,p⟩=>compP σ H _ ?_
 exact bindSP G p fun mp1 H1 d S1 v a1 G1 r1 p1=>PostS.nx p1 (G1.set i r1)
end
end DL
set_option Elab.async false
set_option linter.all false
set_option maxRecDepth 100000
namespace DL
open PySem PySem.Spec PyProof.Rows L2
theorem tm_nofill:fillsNumberSlot (.type "tuple") "mul"=pure false:=
 PySem.fillsNumberSlot_seq (id:="tuple.__mul__") (r:=some (.builtin "tuple.__rmul__")) F.slot_tuple_mul.lookup (by decide +kernel) F.slot_tuple_rmul.lookup (by decide +kernel)
theorem tm_repeats:seqRepeat? (.type "tuple")=pure (some (.builtin "tuple.__mul__")):=by
 unfold seqRepeat?
 rw[PySem.seqSlot_of (T:="tuple") (name:="__mul__") (id:="tuple.__mul__") F.slot_tuple_mul.lookup (by decide +kernel),PySem.seqSlot_of (T:="tuple") (name:="__rmul__") (id:="tuple.__rmul__") F.slot_tuple_rmul.lookup (by decide +kernel)]
 rfl
theorem tm_int(x:Int)(t:Tok)(l:Addr)(xs:Array Value)(n:Nat)(d:Option Addr)(sl:Array (Option Value)):
  Meets (Builtin.«int.__rmul__» ⟨[.int x t,.ref l],[]⟩) (fun _ R s=>s.heap.get? l=some { cls:=.type "tuple",dict:=d,data:=.seq xs n,slots:=sl }∧R (.ok (.ret Value.notImplemented)) s):=
 .of_wp fun prog w A R s h=>by obtain⟨hp,g,d,tk,os⟩:=s; obtain⟨hl,h⟩:=h; wp_walk; exact⟨_,rfl,h⟩
theorem tm_tup(x:Int)(t:Tok)(l:Addr)(xs:Array Value)(n:Nat)(d:Option Addr)(sl:Array (Option Value))(c0:¬ (decide (x < -2^63)||decide (x≥2^63))=true)(c1:¬ (xs.isEmpty||x==1)=true)(c2:¬ (decide (x≤0)||xs.isEmpty)=true)(c3:¬ (xs.size:Int)*x>(2^63-1) / 8)(c4:¬ Builtin.Tuple.tupleTooMany ((xs.size:Int)*x)=true)(c5:(List.foldl (fun x1 x2=>x1++x2) #[] (List.replicate x.toNat xs)).size≤sizeLine):
  Meets (Builtin.«tuple.__mul__» ⟨[.ref l,.int x t],[]⟩) (fun _ R s=>s.heap.get? l=some { cls:=.type "tuple",dict:=d,data:=.seq xs n,slots:=sl }∧R (.ok (.ret (Value.ref s.heap.objs.size))) { s with heap:=s.heap.push { cls:=Value.type "tuple",data:=Data.seq (List.foldl (fun x1 x2=>x1++x2) #[] (List.replicate x.toNat xs)) },toks:=s.toks }):=
 .of_wp fun prog w A R s h=>by
  obtain⟨hp,g,d,tk,os⟩:=s; obtain⟨hl,h⟩:=h
  wp_walk
  refine wpAny_ite_false (decide_eq_false c0) ?_
  wp_walk using wpAny_loadPart' hl
  refine wpAny_ite_false (decide_eq_false c3) ?_
  wp_walk
  exact⟨_,rfl,h⟩
section
variable{X:Cx}
def rRepT(K:PySem.W.Frag):R2:=fun x y H Q=>∃ a k xs,x=.ref a∧y=.int k∧SqT K H a xs∧xs≠[]∧2≤k∧k≤1000000∧xs.length*k.toNat≤sizeLine∧∀ p,H p=none→Q (.ref p) (upd H p (.tup (List.replicate k.toNat xs).flatten))
theorem op_repT:OpR X (binaryOp .Mult) (rRepT X.K):=by
 intro pins s σ H x y v u Q I rx ry ⟨a,k,xs,e1,e2,ha,hne,k2,k3,hz,q⟩
 subst e1 e2
 cases rx
 obtain⟨t,rfl⟩:=ry
 obtain⟨its,r1,p1,_⟩:=I.tuple ha
 obtain⟨⟨cls,dd,data,sl⟩,ho,hc,n,hd⟩:=id p1
 simp only at hc hd
 subst hc hd
 have hl:xs.length=its.length:=r1.length
 have hne':its≠[]:=fun z=>hne (r1.nil_iff.mp z)
 have hie:its.toArray.isEmpty=false:=by
  cases its with
  | nil=>exact absurd rfl hne'
  | cons _ _=>rfl
 have hnew:List.foldl (fun x1 x2=>x1++x2) #[] (List.replicate k.toNat its.toArray)=(List.replicate k.toNat its).flatten.toArray:=by
  have:=foldl_rep its k.toNat []
  rw[List.nil_append] at this
  exact this
 have hsz:(its.toArray.size:Int)*k≤(sizeLine:Int):=by
  rw[List.size_toArray,←hl]
  have h1:((xs.length*k.toNat:Nat):Int)≤(sizeLine:Int):=by exact_mod_cast hz
  rw[Int.natCast_mul,Int.toNat_of_nonneg (by omega)] at h1
  exact h1
 have hsl:(sizeLine:Int)≤(2^63-1) / 8:=by decide
 refine wpAny_binaryOp_repeat_ref (T:="tuple") (U:="int") (by decide) ⟨_,ho,rfl⟩ (fun s'=>typeIs_int s' k t) tm_nofill F.fills_int_mul F.slot_int_rmul tm_repeats F.slot_int_index.lookup
  (call_meets F.slot_int_rmul (typeIs_int s k t) F.entry_int_rmul (F.args_int_rmul_2 _ _) (tm_int k t a its.toArray n dd sl)
   ⟨ho,rfl,⟨_,ho,rfl⟩,call_meets F.slot_tuple_mul ⟨_,ho,rfl⟩ F.entry_tuple_mul (F.args_tuple_mul_2 _ _) (tm_tup k t a its.toArray n dd sl ?c0 ?c1 ?c2 ?c3 ?c4 ?c5) ⟨ho,?_⟩⟩)
 case c0=>simp; omega
 case c1=>rw[hie]; simp; omega
 case c2=>rw[hie]; simp; omega
 case c3=>omega
 case c4=>unfold Builtin.Tuple.tupleTooMany; simp; omega
 case c5=>rw[hnew,List.size_toArray,len_rep,←hl,Nat.mul_comm]; exact hz
 rw[hnew]
 refine⟨.ref s.heap.objs.size,_,I.laid (t':=s.toks) (o:=.tup (List.replicate k.toNat xs).flatten) (fun b ob q=>Heap.get?_push_of_some _ q) (Nat.le_refl _) ?_,rfl,q _ (I.hok.fresh (Nat.le_refl _))⟩
 exact⟨by rw[len_rep,Nat.mul_comm]; exact hz,_,r1.rep k.toNat,IsTup.new _ _⟩
end
end DL
set_option Elab.async false
set_option linter.all false
set_option maxRecDepth 100000
namespace DL
open PySem PySem.Spec PyProof.Rows L2
def mapO{α β:Type}(f:α→Option β):List α→Option (List β)
 | []=>some []
 | x::l=>match f x,mapO f l with
  | some y,some ys=>some (y::ys)
  | _,_=>none
def toP(S:Sto):Nat→D→Option PyData
 | 0,_=>none
 | n+1,d=>match d with
  | .non=>some .none
  | .bl b=>some (.bool b)
  | .int i=>some (.int i)
  | .str x=>some (.str x)
  | .tup l=>(mapO (toP S n) l).map .tuple
  | .lst i=>match S[i]? with
   | some c=>(mapO (toP S n) c.xs).map .list
   | none=>none
  | .exn _ _=>none
  | .fv _=>none
section
variable{X:Cx}{pins:List (Addr×Obj)}{σ:L2.St}{H:Hp}{s:Shared}{mp:List Addr}{S:Sto}
theorem readsPs{f:D→Option PyData}{K:PySem.W.Frag}(hf:∀ (d:D) (v:V) (u:Value) (p:PyData),Rep K mp H d v→RelV v u→f d=some p→∃ as,Reads s.heap u p as):∀ (l:List D) (vs:List V) (us:List Value) (ps:List PyData),RepL K mp H l vs→Vals vs us→mapO f l=some ps→∃ as,ReadsAll s.heap us ps as
 | [],vs,us,ps,h,r,e=>by
  cases (show vs=[] from h); cases r
  cases (Option.some.inj e)
  exact⟨_,.nil⟩
 | d::l,vs,us,ps,h,r,e=>by
  obtain⟨v,vr,rfl,h1,h2⟩:=(show ∃ v r,vs=v::r∧Rep K mp H d v∧RepL K mp H l r from h)
  cases r with
  | cons r1 r2=>
   cases z1:f d with
   | none=>simp only[mapO,z1] at e; cases e
   | some p=>
    cases z2:mapO f l with
    | none=>simp only[mapO,z1,z2] at e; cases e
    | some qs=>
     simp only[mapO,z1,z2] at e
     cases (Option.some.inj e)
     obtain⟨as,ra⟩:=hf d v _ p h1 r1 z1
     obtain⟨bs,rb⟩:=readsPs hf l vr _ qs h2 r2 z2
     exact⟨_,.cons ra rb⟩
theorem readsP(I:Inv X pins σ H s)(rs:RS X.K mp H S):∀ (n:Nat) (d:D) (v:V) (u:Value) (p:PyData),Rep X.K mp H d v→RelV v u→toP S n d=some p→∃ as,Reads s.heap u p as:=by
 intro n
 induction n with
 | zero=>intro d v u p h r e; cases e
 | succ n ih=>
  intro d v u p h r e
  cases d with
  | non=>
   cases (show v=.non from h); cases (show u=Value.none from r)
   cases (Option.some.inj e)
   exact⟨_,.none⟩
  | bl b=>
   cases (show v=.bl b from h); cases (show u=Value.bool b from r)
   cases (Option.some.inj e)
   exact⟨_,.bool b⟩
  | int i=>
   cases (show v=.int i from h); obtain⟨t,rfl⟩:=(show ∃ t,u=Value.int i t from r)
   cases (Option.some.inj e)
   exact⟨_,.int i t⟩
  | str x=>
   cases (show v=.str x from h); obtain⟨t,rfl⟩:=(show ∃ t,u=Value.str x t from r)
   cases (Option.some.inj e)
   exact⟨_,.str x t⟩
  | tup l=>
   obtain⟨a,xs,rfl,sq,q⟩:=Rep.tup h
   cases (show u=Value.ref a from r)
   obtain⟨its,rv,⟨o,ho,hc,k,hd⟩,_⟩:=I.tuple sq
   have e:(mapO (toP S n) l).map PyData.tuple=some p:=e
   cases z:mapO (toP S n) l with
   | none=>rw[z] at e; cases e
   | some ps=>
    rw[z] at e
    cases (Option.some.inj e)
    obtain⟨as,ra⟩:=readsPs ih l xs its ps q rv z
    exact⟨as,.tuple ho hc hd (by simpa using ra)⟩
  | lst i=>
   have e:(match S[i]? with | some c=>(mapO (toP S n) c.xs).map PyData.list | none=>none)=some p:=e
   cases zc:S[i]? with
   | none=>rw[zc] at e; cases e
   | some c=>
    rw[zc] at e
    obtain⟨a,xs,rfl,_,sq,q,_⟩:=rs.items h zc
    cases (show u=Value.ref a from r)
    obtain⟨its,rv,⟨o,k,ho,hc,_,hd⟩,_⟩:=I.list sq
    have e:(mapO (toP S n) c.xs).map PyData.list=some p:=e
    cases z:mapO (toP S n) c.xs with
    | none=>rw[z] at e; cases e
    | some ps=>
     rw[z] at e
     cases (Option.some.inj e)
     obtain⟨as,ra⟩:=readsPs ih c.xs xs its ps q rv z
     exact⟨_,.list ho hc hd (by simpa using ra)⟩
  | exn c n=>cases (show(none:Option PyData)=some p from e)
  | fv c=>cases (show(none:Option PyData)=some p from e)
end
def eqD(x y:D)(S:Sto):Out D:=match toP S 40 x,toP S 40 y with
 | some p,some q=>if(SeqAt.shaped p&&SeqAt.shaped q)=true then .ok (.bl (PyData.eqv p q)) S else .bad
 | _,_=>.bad
def neD(x y:D)(S:Sto):Out D:=match toP S 40 x,toP S 40 y with
 | some p,some q=>if(SeqAt.shaped p&&SeqAt.shaped q)=true then .ok (.bl (!PyData.eqv p q)) S else .bad
 | _,_=>.bad
section
variable{X:Cx}{XQ:XW}
def OpX(X:Cx)(f:Value→Value→Sem Value)(o:D→D→Sto→Out D):Prop:=
 ∀ (pins:List (Addr×Obj)) (s:Shared) (σ:L2.St) (ρ:Lc) (XQ:XW) (mp:List Addr) (H:Hp) (S:Sto) (x y:D) (v u:V) (vv uv:Value) (Q:VK),Inv X pins σ H s→RS X.K mp H S→Rep X.K mp H x v→Rep X.K mp H y u→RelV v vv→RelV u uv→Post X.K XQ σ ρ mp H (o x y S) Q→
  (∀ (e:XD) (S':Sto),o x y S≠.exc e S')→wpAny (model X.prog X.w) X.A (f vv uv) (EP X pins σ Q) X.xe s
theorem pe_opX{a b:Expr}{op:CmpOp}{fa fb:Ev D}{o:D→D→Sto→Out D}{pos:Pos}(ho:OpX X (compareOp op) o)(hno:∀ x y S e S',o x y S≠.exc e S')(ha:JE X XQ a fa)(hb:JE X XQ b fb)(hm:behindInMarks op b=false):JE X XQ (.Compare a [op] [b] pos) (o2 o fa fb):=by
 intro pins s σ H Q I ⟨mp,ρ,S,G,p⟩
 refine wpAny_Compare1 (thn (ha pins s σ H _ I (bindP G p fun mp1 H1 x S1 v a1 G1 r1 p1=>(⟨mp1,ρ,S1,x,G1,r1,p1⟩:∃ mp1 ρ S1 x,Gd X.K mp1 H1 σ ρ S1∧Rep X.K mp1 H1 x v∧Post X.K XQ σ ρ mp1 H1 ((fb ρ S1).bind fun y S2=>o x y S2) Q))) fun vv s1 ⟨v,H1,I1,rv,mp1,ρ1,S1,x,G1,r1,p1⟩=>?_) hm
 refine thn (hb pins s1 σ H1 _ I1 (bindP G1 p1 fun mp2 H2 y S2 u a2 G2 r2 p2=>(⟨mp2,ρ1,S2,x,y,v,G2,Rep.aft a2 _ _ r1,r2,rfl,p2⟩:∃ mp2 ρ S2 x y v',Gd X.K mp2 H2 σ ρ S2∧Rep X.K mp2 H2 x v'∧Rep X.K mp2 H2 y u∧v'=v∧Post X.K XQ σ ρ mp2 H2 (o x y S2) Q))) fun uv s2 ⟨u,H2,I2,ru,mp2,ρ2,S2,x2,y,v',G2,rx,ry,ev,p2⟩=>?_
 subst ev
 exact ho pins s2 σ ρ2 XQ mp2 H2 S2 x2 y _ u vv uv Q I2 G2.rs rx ry rv ru p2 (hno _ _ _)
theorem pt_opX{a b:Expr}{op:CmpOp}{fa fb:Ev D}{o:D→D→Sto→Out D}{pos:Pos}(ho:OpX X (compareOp op) o)(hno:∀ x y S e S',o x y S≠.exc e S')(ha:JE X XQ a fa)(hb:JE X XQ b fb)(hm:behindInMarks op b=false):JT X XQ (.Compare a [op] [b] pos) (tb (o2 o fa fb)):=by
 intro pins s σ H Q I h
 obtain⟨mp,ρ,S,G,p⟩:=tb_of h
 refine wpAny_isTrue_Compare1 (thn (ha pins s σ H _ I (bindP G p fun mp1 H1 x S1 v a1 G1 r1 p1=>(⟨mp1,ρ,S1,x,G1,r1,p1⟩:∃ mp1 ρ S1 x,Gd X.K mp1 H1 σ ρ S1∧Rep X.K mp1 H1 x v∧Post X.K XQ σ ρ mp1 H1 ((fb ρ S1).bind fun y S2=>o x y S2) (fun x H1=>∃ k,x=.bl k∧Q k H1)))) fun vv s1 ⟨v,H1,I1,rv,mp1,ρ1,S1,x,G1,r1,p1⟩=>?_) hm
 refine thn (hb pins s1 σ H1 _ I1 (bindP G1 p1 fun mp2 H2 y S2 u a2 G2 r2 p2=>(⟨mp2,ρ1,S2,x,y,v,G2,Rep.aft a2 _ _ r1,r2,rfl,p2⟩:∃ mp2 ρ S2 x y v',Gd X.K mp2 H2 σ ρ S2∧Rep X.K mp2 H2 x v'∧Rep X.K mp2 H2 y u∧v'=v∧Post X.K XQ σ ρ mp2 H2 (o x y S2) (fun x H1=>∃ k,x=.bl k∧Q k H1)))) fun uv s2 ⟨u,H2,I2,ru,mp2,ρ2,S2,x2,y,v',G2,rx,ry,ev,p2⟩=>?_
 subst ev
 refine thn (ho pins s2 σ ρ2 XQ mp2 H2 S2 x2 y _ u vv uv _ I2 G2.rs rx ry rv ru p2 (hno _ _ _)) fun c s3 ⟨z,H3,I3,r3,k,e,q3⟩=>?_
 subst e
 cases r3
 exact wpAny_truthy_bool ⟨H3,I3,q3⟩
theorem eq_ok(hu:X.A.units+64<cLine):OpX X (compareOp .Eq) eqD:=by
 intro pins s σ ρ XQ mp H S x y v u vv uv Q I rs rx ry rv ru p _
 unfold eqD at p
 cases z1:toP S 40 x with
 | none=>simp only[z1] at p; exact p.elim
 | some a=>
  cases z2:toP S 40 y with
  | none=>simp only[z1,z2] at p; exact p.elim
  | some b=>
   simp only[z1,z2] at p
   by_cases hs:(SeqAt.shaped a&&SeqAt.shaped b)=true
   ·rw[if_pos hs] at p
    obtain⟨as,ra⟩:=readsP I rs 40 x v vv a rx rv z1
    obtain⟨bs,rb⟩:=readsP I rs 40 y u uv b ry ru z2
    rw[Bool.and_eq_true] at hs
    exact SeqAt.compareEq_shaped ra rb hs.1 hs.2 hu ⟨.bl _,H,I,rfl,PostG.ok (R:=Rep X.K) p rs rfl⟩
   ·rw[if_neg hs] at p; exact p.elim
theorem ne_ok(hu:X.A.units+64<cLine):OpX X (compareOp .NotEq) neD:=by
 intro pins s σ ρ XQ mp H S x y v u vv uv Q I rs rx ry rv ru p _
 unfold neD at p
 cases z1:toP S 40 x with
 | none=>simp only[z1] at p; exact p.elim
 | some a=>
  cases z2:toP S 40 y with
  | none=>simp only[z1,z2] at p; exact p.elim
  | some b=>
   simp only[z1,z2] at p
   by_cases hs:(SeqAt.shaped a&&SeqAt.shaped b)=true
   ·rw[if_pos hs] at p
    obtain⟨as,ra⟩:=readsP I rs 40 x v vv a rx rv z1
    obtain⟨bs,rb⟩:=readsP I rs 40 y u uv b ry ru z2
    rw[Bool.and_eq_true] at hs
    exact SeqAt.compareNe_shaped ra rb hs.1 hs.2 hu ⟨.bl _,H,I,rfl,PostG.ok (R:=Rep X.K) p rs rfl⟩
   ·rw[if_neg hs] at p; exact p.elim
theorem eq_no(x y:D)(S:Sto)(e:XD)(S':Sto):eqD x y S≠.exc e S':=by
 unfold eqD
 split
 ·split<;>exact fun z=>nomatch z
 ·exact fun z=>nomatch z
theorem ne_no(x y:D)(S:Sto)(e:XD)(S':Sto):neD x y S≠.exc e S':=by
 unfold neD
 split
 ·split<;>exact fun z=>nomatch z
 ·exact fun z=>nomatch z
theorem je_eq{a b:Expr}{fa fb:Ev D}{pos:Pos}(hu:X.A.units+64<cLine)(ha:JE X XQ a fa)(hb:JE X XQ b fb):JE X XQ (.Compare a [.Eq] [b] pos) (o2 eqD fa fb):=pe_opX (eq_ok hu) eq_no ha hb (nomark _)
theorem jt_eq{a b:Expr}{fa fb:Ev D}{pos:Pos}(hu:X.A.units+64<cLine)(ha:JE X XQ a fa)(hb:JE X XQ b fb):JT X XQ (.Compare a [.Eq] [b] pos) (tb (o2 eqD fa fb)):=pt_opX (eq_ok hu) eq_no ha hb (nomark _)
theorem je_ne{a b:Expr}{fa fb:Ev D}{pos:Pos}(hu:X.A.units+64<cLine)(ha:JE X XQ a fa)(hb:JE X XQ b fb):JE X XQ (.Compare a [.NotEq] [b] pos) (o2 neD fa fb):=pe_opX (ne_ok hu) ne_no ha hb (nomark _)
theorem jt_ne{a b:Expr}{fa fb:Ev D}{pos:Pos}(hu:X.A.units+64<cLine)(ha:JE X XQ a fa)(hb:JE X XQ b fb):JT X XQ (.Compare a [.NotEq] [b] pos) (tb (o2 neD fa fb)):=pt_opX (ne_ok hu) ne_no ha hb (nomark _)
def i2(C:Int→Int→Bool)(g:Int→Int→D):D→D→Sto→Out D:=fun x y S=>match x,y with
 | .int i,.int j=>if C i j=true then .ok (g i j) S else .bad
 | _,_=>.bad
theorem od_int{K:PySem.W.Frag}{C:Int→Int→Prop}{c:Int→Int→Bool}{g:Int→Int→V}{gd:Int→Int→D}(hc:∀ i j,c i j=true→C i j)(hg:∀ mp H i j,Rep K mp H (gd i j) (g i j)):OpD K (rI C g) (i2 c gd):=by
 intro XQ σ ρ mp H S x y v u Q rs rx ry p
 cases x with
 | int i=>
  cases y with
  | int j=>
   have p:Post K XQ σ ρ mp H (if c i j=true then .ok (gd i j) S else .bad) Q:=p
   by_cases h:c i j=true
   ·rw[if_pos h] at p
    exact⟨i,j,rx,ry,hc i j h,PostG.ok (R:=Rep K) p rs (hg mp H i j)⟩
   ·rw[if_neg h] at p; exact p.elim
  | _=>exact(show False from p).elim
 | _=>exact(show False from p).elim
theorem od_int0{K:PySem.W.Frag}{g:Int→Int→V}{gd:Int→Int→D}(hg:∀ mp H i j,Rep K mp H (gd i j) (g i j)):OpD K (rI0 g) (i2 (fun _ _=>true) gd):=by
 intro XQ σ ρ mp H S x y v u Q rs rx ry p
 obtain⟨i,j,h1,h2,_,h3⟩:=od_int (C:=fun _ _=>True) (c:=fun _ _=>true) (fun _ _ _=>trivial) hg XQ σ ρ mp H S x y v u Q rs rx ry p
 exact⟨i,j,h1,h2,h3⟩
abbrev subD:=i2 (fun _ _=>true) fun i j=>.int (i-j)
abbrev modD:=i2 (fun _ j=>decide (0<j)) fun i j=>.int (i%j)
abbrev powD:=i2 (fun i j=>decide (0≤j∧j≤1000000∧i.natAbs<2^64)) fun i j=>.int (i^j.toNat)
abbrev ltD:=i2 (fun _ _=>true) fun i j=>.bl (decide (i<j))
abbrev leD:=i2 (fun _ _=>true) fun i j=>.bl (decide (i≤j))
abbrev gtD:=i2 (fun _ _=>true) fun i j=>.bl (decide (j<i))
abbrev geD:=i2 (fun _ _=>true) fun i j=>.bl (decide (j≤i))
section
variable{a b:Expr}{fa fb:Ev D}{pos:Pos}
theorem je_sub(ha:JE X XQ a fa)(hb:JE X XQ b fb):JE X XQ (.BinOp a .Sub b pos) (o2 subD fa fb):=je_op op_sub (od_int0 fun _ _ _ _=>rfl) ha hb
theorem je_mod(ha:JE X XQ a fa)(hb:JE X XQ b fb):JE X XQ (.BinOp a .Mod b pos) (o2 modD fa fb):=je_op op_mod (od_int (fun _ _ h=>of_decide_eq_true h) fun _ _ _ _=>rfl) ha hb
theorem je_pow(ha:JE X XQ a fa)(hb:JE X XQ b fb):JE X XQ (.BinOp a .Pow b pos) (o2 powD fa fb):=je_op op_pow (od_int (fun i j h=>(of_decide_eq_true h:0≤j∧j≤1000000∧i.natAbs<2^64)) fun _ _ _ _=>rfl) ha hb
theorem je_lt(ha:JE X XQ a fa)(hb:JE X XQ b fb):JE X XQ (.Compare a [.Lt] [b] pos) (o2 ltD fa fb):=je_cmp op_lt (od_int0 fun _ _ _ _=>rfl) ha hb (nomark _)
theorem je_le(ha:JE X XQ a fa)(hb:JE X XQ b fb):JE X XQ (.Compare a [.LtE] [b] pos) (o2 leD fa fb):=je_cmp op_le (od_int0 fun _ _ _ _=>rfl) ha hb (nomark _)
theorem je_ge(ha:JE X XQ a fa)(hb:JE X XQ b fb):JE X XQ (.Compare a [.GtE] [b] pos) (o2 geD fa fb):=je_cmp op_ge (od_int0 fun _ _ _ _=>rfl) ha hb (nomark _)
theorem jt_lt(ha:JE X XQ a fa)(hb:JE X XQ b fb):JT X XQ (.Compare a [.Lt] [b] pos) (tb (o2 ltD fa fb)):=jt_cmp op_lt (od_int0 fun _ _ _ _=>rfl) ha hb (nomark _)
theorem jt_gt(ha:JE X XQ a fa)(hb:JE X XQ b fb):JT X XQ (.Compare a [.Gt] [b] pos) (tb (o2 gtD fa fb)):=jt_cmp op_gt (od_int0 fun _ _ _ _=>rfl) ha hb (nomark _)
theorem jt_ge(ha:JE X XQ a fa)(hb:JE X XQ b fb):JT X XQ (.Compare a [.GtE] [b] pos) (tb (o2 geD fa fb)):=jt_cmp op_ge (od_int0 fun _ _ _ _=>rfl) ha hb (nomark _)
end
def addD(x y:D)(S:Sto):Out D:=match x,y with
 | .int i,.int j=>.ok (.int (i+j)) S
 | .str a,.str b=>if a.length+b.length≤1000000 then .ok (.str (a++b)) S else .bad
 | .lst i,.lst j=>match S[i]?,S[j]? with
  | some c,some e=>if(c.fz=false∧e.fz=false)∧c.xs.length+e.xs.length≤1000000 then .ok (.lst S.length) (S++[⟨false,c.xs++e.xs⟩]) else .bad
  | _,_=>.bad
 | .tup a,.tup b=>if a.length+b.length≤1000000 then .ok (.tup (a++b)) S else .bad
 | _,_=>.bad
def rCatE(K:PySem.W.Frag):R2:=fun x y H Q=>∃ a b ys,x=.ref a∧y=.ref b∧SqT K H a []∧SqT K H b ys∧Q (.ref b) H
theorem op_catE:OpR X (binaryOp .Add) (rCatE X.K):=by
 intro pins s σ H x y v u Q I rx ry ⟨a,b,ys,e1,e2,ha,hb,q⟩
 subst e1 e2
 cases rx; cases ry
 obtain⟨its,r1,p1,_⟩:=I.tuple ha
 obtain⟨its2,r2,p2,_⟩:=I.tuple hb
 have ei:=r1.nil_iff.mpr rfl
 subst ei
 obtain⟨⟨cls,dd,data,sl⟩,ho,hc,n,hd⟩:=id p1
 obtain⟨⟨cls2,dd2,data2,sl2⟩,ho2,hc2,n2,hd2⟩:=id p2
 simp only at hc hd hc2 hd2
 subst hc hd hc2 hd2
 exact concat_meets ⟨_,ho,rfl⟩ ⟨_,ho2,rfl⟩ noFill_tuple_add seq_tuple_add PySem.F.slot_tuple_add PySem.F.entry_tuple_add (PySem.F.args_tuple_add_2 _ _)
  (tuple_addW0 a b [].toArray its2.toArray n n2 dd dd2 sl sl2 (by rfl)) ⟨ho,ho2,⟨.ref b,H,I,rfl,q⟩⟩
def rAddA(K:PySem.W.Frag):R2:=fun x y H Q=>rI0 (fun i j=>.int (i+j)) x y H Q∨(∃ i j,x=.str i∧y=.str j∧i.length+j.length≤sizeLine∧Q (.str (i++j)) H)∨rCat x y H Q∨rCatT K x y H Q∨rCatE K x y H Q
theorem op_addA:OpR X (binaryOp .Add) (rAddA X.K):=op_add.or (op_add_str.or (op_cat.or (op_catT.or op_catE)))
theorem od_add{K:PySem.W.Frag}:OpD K (rAddA K) addD:=by
 intro XQ σ ρ mp H S x y v u Q rs rx ry p
 unfold addD at p
 split at p
 ·exact .inl ⟨_,_,rx,ry,PostG.ok (R:=Rep K) p rs rfl⟩
 ·rename_i a b
  by_cases h:a.length+b.length≤1000000
  ·rw[if_pos h] at p
   exact .inr (.inl ⟨_,_,rx,ry,line_le h,PostG.ok (R:=Rep K) p rs rfl⟩)
  ·rw[if_neg h] at p; exact p.elim
 ·rename_i i j
  split at p
  ·rename_i c e zc ze
   by_cases h:(c.fz=false∧e.fz=false)∧c.xs.length+e.xs.length≤1000000
   ·rw[if_pos h] at p
    obtain⟨a1,xs,rfl,_,_,q1,f1⟩:=rs.items rx zc
    obtain⟨a2,ys,rfl,_,_,q2,f2⟩:=rs.items ry ze
    refine .inr (.inr (.inl ⟨a1,a2,xs,ys,rfl,rfl,f1 h.1.1,f2 h.1.2,by rw[q1.len,q2.len]; exact line_le h.2,fun q hq=>post_lst p rs (q1.append q2) hq⟩))
   ·rw[if_neg h] at p; exact p.elim
  ·exact p.elim
 ·rename_i a b
  by_cases h:a.length+b.length≤1000000
  ·rw[if_pos h] at p
   obtain⟨a1,xs,rfl,s1,q1⟩:=Rep.tup rx
   obtain⟨a2,ys,rfl,s2,q2⟩:=Rep.tup ry
   have l1:=q1.len
   have l2:=q2.len
   by_cases he:xs=[]
   ·subst he
    have ea:a=[]:=by cases a with | nil=>rfl | cons _ _=>simp at l1
    subst ea
    exact .inr (.inr (.inr (.inr ⟨a1,a2,ys,rfl,rfl,s1,s2,PostG.ok (R:=Rep K) p rs ry⟩)))
   ·refine .inr (.inr (.inr (.inl ⟨a1,a2,xs,ys,rfl,rfl,s1,s2,he,by rw[l1,l2]; exact line_le h,fun z=>?_,fun _ q hq=>post_tup p rs (q1.append q2) hq⟩)))
    subst z
    have eb:b=[]:=by cases b with | nil=>rfl | cons _ _=>simp at l2
    subst eb
    rw[List.append_nil] at p
    exact PostG.ok (R:=Rep K) p rs rx
  ·rw[if_neg h] at p; exact p.elim
 ·exact p.elim
theorem je_add{a b:Expr}{fa fb:Ev D}{pos:Pos}(ha:JE X XQ a fa)(hb:JE X XQ b fb):JE X XQ (.BinOp a .Add b pos) (o2 addD fa fb):=je_op op_addA od_add ha hb
def mulD(x y:D)(S:Sto):Out D:=match x,y with
 | .int i,.int j=>if(-(2^64)<i∧i<2^64)∨(-(2^64)<j∧j<2^64) then .ok (.int (i*j)) S else .bad
 | .lst i,.int k=>match S[i]? with
  | some c=>if c.fz=false∧(-1000000≤k∧k≤1000000)∧c.xs.length*k.toNat≤1000000 then .ok (.lst S.length) (S++[⟨false,(List.replicate k.toNat c.xs).flatten⟩]) else .bad
  | none=>.bad
 | .tup l,.int k=>if 0<l.length∧(2≤k∧k≤1000000)∧l.length*k.toNat≤1000000 then .ok (.tup (List.replicate k.toNat l).flatten) S else .bad
 | _,_=>.bad
def rMulA(K:PySem.W.Frag):R2:=fun x y H Q=>rI CMul (fun i j=>.int (i*j)) x y H Q∨rRep x y H Q∨rRepT K x y H Q
theorem op_mulA:OpR X (binaryOp .Mult) (rMulA X.K):=op_mul.or (op_rep.or op_repT)
theorem RepL.flat{K:PySem.W.Frag}{mp:List Addr}{H:Hp}{l:List D}{vs:List V}(h:RepL K mp H l vs):∀ k:Nat,RepL K mp H (List.replicate k l).flatten (List.replicate k vs).flatten
 | 0=>RepL.nil
 | k+1=>by
  rw[List.replicate_succ,List.replicate_succ,List.flatten_cons,List.flatten_cons]
  exact RepL.append h (RepL.flat h k)
theorem od_mul{K:PySem.W.Frag}:OpD K (rMulA K) mulD:=by
 intro XQ σ ρ mp H S x y v u Q rs rx ry p
 unfold mulD at p
 split at p
 ·rename_i i j
  by_cases h:(-(2^64)<i∧i<2^64)∨(-(2^64)<j∧j<2^64)
  ·rw[if_pos h] at p
   exact .inl ⟨_,_,rx,ry,h,PostG.ok (R:=Rep K) p rs rfl⟩
  ·rw[if_neg h] at p; exact p.elim
 ·rename_i i k
  split at p
  ·rename_i c zc
   by_cases h:c.fz=false∧(-1000000≤k∧k≤1000000)∧c.xs.length*k.toNat≤1000000
   ·rw[if_pos h] at p
    obtain⟨a1,xs,rfl,_,_,q1,f1⟩:=rs.items rx zc
    exact .inr (.inl ⟨a1,k,xs,rfl,ry,f1 h.1,by omega,by omega,by rw[q1.len]; exact line_le h.2.2,fun q hq=>post_lst p rs (q1.flat _) hq⟩)
   ·rw[if_neg h] at p; exact p.elim
  ·exact p.elim
 ·rename_i l k
  by_cases h:0<l.length∧(2≤k∧k≤1000000)∧l.length*k.toNat≤1000000
  ·rw[if_pos h] at p
   obtain⟨a1,xs,rfl,s1,q1⟩:=Rep.tup rx
   have hl:=q1.len
   exact .inr (.inr ⟨a1,k,xs,rfl,ry,s1,fun z=>by rw[z] at hl; simp at hl; omega,h.2.1.1,h.2.1.2,by rw[q1.len]; exact line_le h.2.2,fun q hq=>post_tup p rs (q1.flat _) hq⟩)
  ·rw[if_neg h] at p; exact p.elim
 ·exact p.elim
theorem je_mul{a b:Expr}{fa fb:Ev D}{pos:Pos}(ha:JE X XQ a fa)(hb:JE X XQ b fb):JE X XQ (.BinOp a .Mult b pos) (o2 mulD fa fb):=je_op op_mulA od_mul ha hb
def negD(x:D)(S:Sto):Out D:=match x with
 | .int i=>.ok (.int (-i)) S
 | _=>.bad
def getD(x y:D)(S:Sto):Out D:=match x,y with
 | .tup l,.int i=>match atI l i with
  | some d=>.ok d S
  | none=>.bad
 | .lst k,.int i=>match S[k]? with
  | some c=>match atI c.xs i with
   | some d=>.ok d S
   | none=>.bad
  | none=>.bad
 | .str z,.int i=>if z.length≤1000000 then(match atI z.cps.toList i with
  | some c=>.ok (.str ⟨#[c]⟩) S
  | none=>.bad) else .bad
 | _,_=>.bad
theorem RepL.atI{K:PySem.W.Frag}{mp:List Addr}{H:Hp}{l:List D}{vs:List V}{i:Int}{d:D}(h:RepL K mp H l vs)(e:L2.atI l i=some d):∃ v,L2.atI vs i=some v∧Rep K mp H d v:=by
 unfold L2.atI at e ⊢
 rw[h.len]
 cases z:ixN l.length i with
 | none=>rw[z] at e; cases e
 | some j=>
  rw[z] at e
  exact h.get e
theorem od_get{K:PySem.W.Frag}:OpD K (rIx K) getD:=by
 intro XQ σ ρ mp H S x y v u Q rs rx ry p
 unfold getD at p
 split at p
 ·rename_i l i
  split at p
  ·rename_i d zd
   obtain⟨a,xs,rfl,sq,q⟩:=Rep.tup rx
   obtain⟨w,hw,rw'⟩:=q.atI zd
   exact .inr (.inl ⟨a,xs,i,w,rfl,ry,sq,hw,PostG.ok (R:=Rep K) p rs rw'⟩)
  ·exact p.elim
 ·rename_i k i
  split at p
  ·rename_i c zc
   split at p
   ·rename_i d zd
    obtain⟨a,xs,rfl,_,sq,q,_⟩:=rs.items rx zc
    obtain⟨w,hw,rw'⟩:=q.atI zd
    exact .inl ⟨a,xs,i,w,rfl,ry,sq,hw,PostG.ok (R:=Rep K) p rs rw'⟩
   ·exact p.elim
  ·exact p.elim
 ·rename_i z i
  by_cases h:z.length≤1000000
  ·rw[if_pos h] at p
   split at p
   ·rename_i c zc
    exact .inr (.inr ⟨z,i,c,rx,ry,line_le h,zc,PostG.ok (R:=Rep K) p rs rfl⟩)
   ·exact p.elim
  ·rw[if_neg h] at p; exact p.elim
 ·exact p.elim
theorem je_get{a b:Expr}{fa fb:Ev D}{pos:Pos}(ha:JE X XQ a fa)(hb:JE X XQ b fb)(hs:PlainIx b:=by intro _ _; rfl):JE X XQ (.Subscript a b pos) (o2 getD fa fb):=je_ix ix_seq od_get ha hb hs
def setD(x y z:D)(S:Sto):Option Sto:=match x,y with
 | .lst k,.int i=>match S[k]? with
  | some c=>match ixN c.xs.length i with
   | some j=>if c.fz=false then some (S.set k ⟨false,c.xs.set j z⟩) else none
   | none=>none
  | none=>none
 | _,_=>none
theorem sd_set{K:PySem.W.Frag}:SetD rSetL K setD:=by
 intro mp H S S' x y z v u w Q rs rx ry rz e k
 unfold setD at e
 split at e
 ·rename_i kk i
  split at e
  ·rename_i c zc
   split at e
   ·rename_i j zj
    by_cases hf:c.fz=false
    ·rw[if_pos hf] at e
     cases (Option.some.inj e)
     obtain⟨a,xs,rfl,ha,sq,q,f⟩:=rs.items rx zc
     have hH:=f hf
     obtain⟨af,rs'⟩:=rs.setL ha zc hf hH (q.set j rz)
     exact⟨a,xs,i,j,rfl,ry,hH,by rw[q.len]; exact zj,k _ af rs'⟩
    ·rw[if_neg hf] at e; cases e
   ·cases e
  ·cases e
 ·cases e
theorem js_setix{ob ix e:Expr}{f fo fi:Ev D}{pos p2:Pos}(he:JE X XQ e f)(hob:JE X XQ ob fo)(hix:JE X XQ ix fi)
  (hs:swapsWithSole [.Subscript ob ix p2] e pos.line X.env=pure false:=by rfl) (hw:swappedStores [.Subscript ob ix p2] e X.env=pure none:=by rfl)
  (h1:(assignEach [.Subscript ob ix p2] X.env).map (·.2)=[assign (.Subscript ob ix p2) X.env]:=by rfl) (ha:∀ v,assign (.Subscript ob ix p2) X.env v=(do
   let ov ←holding [v] (eval ob X.env)
   let iv ←holding [v,ov] (eval ix X.env)
   standAt p2
   holding [v,ov,iv] (setItem ov iv v)
   release [v,ov,iv] []):=by intro _; rfl):JS X XQ (.Assign [.Subscript ob ix p2] e pos) (ss f fo fi setD):=js_sub set_list sd_set he hob hix hs hw h1 ha
end
end DL
set_option Elab.async false
set_option linter.all false
set_option maxRecDepth 100000
namespace DL
open PySem PySem.Spec PyProof.Rows L2
section
variable{X:Cx}{XQ:XW}
def BlD(K:PySem.W.Frag)(r:List V→Hp→VK→Prop)(o:List D→Sto→Out D):Prop:=
 ∀ (XQ:XW) (σ:L2.St) (ρ:Lc) (mp:List Addr) (H:Hp) (S:Sto) (xs:List D) (vs:List V) (Q:VK),RS K mp H S→RepL K mp H xs vs→Post K XQ σ ρ mp H (o xs S) Q→r vs H Q
def b1(o:List D→Sto→Out D)(f:Ev (List D)):Ev D:=fun ρ S=>(f ρ S).bind o
theorem cbR{r:List V→Hp→VK→Prop}{o:List D→Sto→Out D}{f:Ev (List D)}(hd:BlD X.K r o)(σ:L2.St)(H:Hp)(Q:VK)(h:rdE X.K XQ (b1 o f) σ H Q):tCB r (rdA X.K XQ f) σ H Q:=by
 obtain⟨mp,ρ,S,G,p⟩:=h
 exact bindP G p fun mp1 H1 xs S1 vs a1 G1 r1 p1=>hd XQ σ ρ mp1 H1 S1 xs vs Q G1.rs r1 p1
theorem je_blt{id:String}{x:Str}{p pos:Pos}{e:Expr}{es:List Expr}{r:List V→Hp→VK→Prop}{o:List D→Sto→Out D}{f:Ev (List D)}(hc:CallR X (.builtin id) r)(hd:BlD X.K r o)(hg:Gl X x)(hm:X.mg x=none)(hv:bootBuiltins x=some (.builtin id))(ha:JA X XQ (e::es) f)(hn:x≠"__name__":=by decide)(hdb:(x==("__debug__":Str))=false:=by decide)
  (he:starEach (e::es) X.env=(false,eval e X.env)::starEach es X.env:=by rfl) (hpl:(backTo pos (starEach es X.env)).any (·.1)=false:=by rfl):JE X XQ (.Call (.Name x p) (e::es) [] pos) (b1 o f):=
 PE.mono (pe_callB hc hg hm hv ha hn hdb he hpl) (cbR hd)
theorem je_ty{T:String}{x:Str}{p pos:Pos}{e:Expr}{es:List Expr}{r:List V→Hp→VK→Prop}{o:List D→Sto→Out D}{f:Ev (List D)}(hc:CallR X (.type T) r)(hd:BlD X.K r o)(hg:Gl X x)(hm:X.mg x=none)(hv:bootBuiltins x=some (.type T))(ha:JA X XQ (e::es) f)(hn:x≠"__name__":=by decide)(hdb:(x==("__debug__":Str))=false:=by decide)
  (he:starEach (e::es) X.env=(false,eval e X.env)::starEach es X.env:=by rfl) (hpl:(backTo pos (starEach es X.env)).any (·.1)=false:=by rfl):JE X XQ (.Call (.Name x p) (e::es) [] pos) (b1 o f):=
 PE.mono (pe_callTy hc hg hm hv ha hn hdb he hpl) (cbR hd)
def lenD(xs:List D)(S:Sto):Out D:=match xs with
 | [.str z]=>if z.length≤1000000 then .ok (.int z.length) S else .bad
 | [.tup l]=>.ok (.int l.length) S
 | [.lst i]=>match S[i]? with
  | some c=>.ok (.int c.xs.length) S
  | none=>.bad
 | _=>.bad
theorem bd_len{K:PySem.W.Frag}:BlD K (fun xs H Q=>∃ x n,xs=[x]∧LenV K x H n∧Q (.int n) H) lenD:=by
 intro XQ σ ρ mp H S xs vs Q rs r p
 unfold lenD at p
 split at p
 ·rename_i z
  obtain⟨v,rfl,h⟩:=RepL.one r
  cases (show v=.str z from h)
  by_cases hz:z.length≤1000000
  ·rw[if_pos hz] at p
   exact⟨_,_,rfl,⟨line_le hz,rfl⟩,PostG.ok (R:=Rep K) p rs rfl⟩
  ·rw[if_neg hz] at p; exact p.elim
 ·rename_i l
  obtain⟨v,rfl,h⟩:=RepL.one r
  obtain⟨a,xs,rfl,sq,q⟩:=Rep.tup h
  exact⟨_,xs.length,rfl,.inr ⟨xs,sq,rfl⟩,PostG.ok (R:=Rep K) p rs (by rw[q.len]; rfl)⟩
 ·rename_i i
  obtain⟨v,rfl,h⟩:=RepL.one r
  split at p
  ·rename_i c zc
   obtain⟨a,xs,rfl,_,sq,q,_⟩:=rs.items h zc
   exact⟨_,xs.length,rfl,.inl ⟨xs,sq,rfl⟩,PostG.ok (R:=Rep K) p rs (by rw[q.len]; rfl)⟩
  ·exact p.elim
 ·exact p.elim
theorem je_len{p pos:Pos}{e:Expr}{f:Ev (List D)}(hg:Gl X "len")(hm:X.mg "len"=none)(ha:JA X XQ [e] f)(he:starEach [e] X.env=(false,eval e X.env)::starEach [] X.env:=by rfl):JE X XQ (.Call (.Name "len" p) [e] [] pos) (b1 lenD f):=je_blt call_len bd_len hg hm PySem.boot_len ha (he:=he)
def listD(xs:List D)(S:Sto):Out D:=match xs with
 | [.tup l]=>.ok (.lst S.length) (S++[⟨false,l⟩])
 | [.lst i]=>match S[i]? with
  | some c=>.ok (.lst S.length) (S++[⟨false,c.xs⟩])
  | none=>.bad
 | _=>.bad
theorem bd_list{K:PySem.W.Frag}:BlD K (fun xs H Q=>∃ p ys,xs=[.ref p]∧(SqL K H p ys∨SqT K H p ys)∧∀ l,H l=none→Q (.ref l) (upd H l (.lst ys))) listD:=by
 intro XQ σ ρ mp H S xs vs Q rs r p
 unfold listD at p
 split at p
 ·obtain⟨v,rfl,h⟩:=RepL.one r
  obtain⟨a,xs,rfl,sq,q⟩:=Rep.tup h
  exact⟨a,xs,rfl,.inr sq,fun l hl=>post_lst p rs q hl⟩
 ·obtain⟨v,rfl,h⟩:=RepL.one r
  split at p
  ·rename_i c zc
   obtain⟨a,xs,rfl,_,sq,q,_⟩:=rs.items h zc
   exact⟨a,xs,rfl,.inl sq,fun l hl=>post_lst p rs q hl⟩
  ·exact p.elim
 ·exact p.elim
def tupD(xs:List D)(S:Sto):Out D:=match xs with
 | [.tup l]=>.ok (.tup l) S
 | [.lst i]=>match S[i]? with
  | some c=>.ok (.tup c.xs) S
  | none=>.bad
 | _=>.bad
theorem bd_tuple{K:PySem.W.Frag}:BlD K (fun xs H Q=>∃ p ys,xs=[.ref p]∧((SqL K H p ys∧∀ l,H l=none→Q (.ref l) (upd H l (.tup ys)))∨(SqT K H p ys∧Q (.ref p) H))) tupD:=by
 intro XQ σ ρ mp H S xs vs Q rs r p
 unfold tupD at p
 split at p
 ·obtain⟨v,rfl,h⟩:=RepL.one r
  obtain⟨a,xs,rfl,sq,q⟩:=Rep.tup h
  exact⟨a,xs,rfl,.inr ⟨sq,PostG.ok (R:=Rep K) p rs h⟩⟩
 ·obtain⟨v,rfl,h⟩:=RepL.one r
  split at p
  ·rename_i c zc
   obtain⟨a,xs,rfl,_,sq,q,_⟩:=rs.items h zc
   exact⟨a,xs,rfl,.inl ⟨sq,fun l hl=>post_tup p rs q hl⟩⟩
  ·exact p.elim
 ·exact p.elim
theorem je_list{p pos:Pos}{e:Expr}{f:Ev (List D)}(hg:Gl X "list")(hm:X.mg "list"=none)(ha:JA X XQ [e] f)(he:starEach [e] X.env=(false,eval e X.env)::starEach [] X.env:=by rfl):JE X XQ (.Call (.Name "list" p) [e] [] pos) (b1 listD f):=je_ty call_list_of bd_list hg hm (by rfl) ha (he:=he)
theorem je_tuple{p pos:Pos}{e:Expr}{f:Ev (List D)}(hg:Gl X "tuple")(hm:X.mg "tuple"=none)(ha:JA X XQ [e] f)(he:starEach [e] X.env=(false,eval e X.env)::starEach [] X.env:=by rfl):JE X XQ (.Call (.Name "tuple" p) [e] [] pos) (b1 tupD f):=je_ty call_tuple_of bd_tuple hg hm (by rfl) ha (he:=he)
def minD(xs:List D)(S:Sto):Out D:=match xs with
 | [.int i,.int j]=>.ok (.int (if j<i then j else i)) S
 | _=>.bad
theorem bd_min{K:PySem.W.Frag}:BlD K (fun xs H Q=>∃ i j,xs=[.int i,.int j]∧Q (.int (if j<i then j else i)) H) minD:=by
 intro XQ σ ρ mp H S xs vs Q rs r p
 unfold minD at p
 split at p
 ·rename_i i j
  obtain⟨v,w,rfl,h1,h2⟩:=RepL.two r
  cases (show v=.int i from h1); cases (show w=.int j from h2)
  exact⟨i,j,rfl,PostG.ok (R:=Rep K) p rs rfl⟩
 ·exact p.elim
theorem je_min{p pos:Pos}{e e':Expr}{f:Ev (List D)}(hc:X.calm=true)(hg:Gl X "min")(hm:X.mg "min"=none)(ha:JA X XQ [e,e'] f)(he:starEach [e,e'] X.env=(false,eval e X.env)::starEach [e'] X.env:=by rfl)(hpl:(backTo pos (starEach [e'] X.env)).any (·.1)=false:=by rfl):JE X XQ (.Call (.Name "min" p) [e,e'] [] pos) (b1 minD f):=je_blt (call_min2 hc) bd_min hg hm (by rfl) ha (he:=he) (hpl:=hpl)
def intD(xs:List D)(S:Sto):Out D:=match xs with
 | [.int i]=>.ok (.int i) S
 | [.bl b]=>.ok (.int (if b then 1 else 0)) S
 | _=>.bad
theorem bd_int{K:PySem.W.Frag}:BlD K (fun xs H Q=>(∃ i,xs=[.int i]∧Q (.int i) H)∨∃ k,xs=[.bl k]∧Q (.int (if k then 1 else 0)) H) intD:=by
 intro XQ σ ρ mp H S xs vs Q rs r p
 unfold intD at p
 split at p
 ·rename_i i
  obtain⟨v,rfl,h⟩:=RepL.one r
  cases (show v=.int i from h)
  exact .inl ⟨i,rfl,PostG.ok (R:=Rep K) p rs rfl⟩
 ·rename_i b
  obtain⟨v,rfl,h⟩:=RepL.one r
  cases (show v=.bl b from h)
  exact .inr ⟨b,rfl,PostG.ok (R:=Rep K) p rs rfl⟩
 ·exact p.elim
theorem je_intc{p pos:Pos}{e:Expr}{f:Ev (List D)}(hg:Gl X "int")(hm:X.mg "int"=none)(ha:JA X XQ [e] f)(he:starEach [e] X.env=(false,eval e X.env)::starEach [] X.env:=by rfl):JE X XQ (.Call (.Name "int" p) [e] [] pos) (b1 intD f):=je_ty call_int1 bd_int hg hm (by rfl) ha (he:=he)
def isnD(x y:D)(S:Sto):Out D:=match x,y with
 | .non,.non=>.ok (.bl true) S
 | .bl _,.non=>.ok (.bl false) S
 | .int _,.non=>.ok (.bl false) S
 | .str _,.non=>.ok (.bl false) S
 | .tup _,.non=>.ok (.bl false) S
 | .lst _,.non=>.ok (.bl false) S
 | .exn _ _,.non=>.ok (.bl false) S
 | _,_=>.bad
def notnD(x y:D)(S:Sto):Out D:=match x,y with
 | .non,.non=>.ok (.bl false) S
 | .bl _,.non=>.ok (.bl true) S
 | .int _,.non=>.ok (.bl true) S
 | .str _,.non=>.ok (.bl true) S
 | .tup _,.non=>.ok (.bl true) S
 | .lst _,.non=>.ok (.bl true) S
 | .exn _ _,.non=>.ok (.bl true) S
 | _,_=>.bad
theorem od_isn{K:PySem.W.Frag}:OpD K (fun x y H Q=>y=.non∧Q (.bl (decide (x=.non))) H) isnD:=by
 intro XQ σ ρ mp H S x y v u Q rs rx ry p
 cases y with
 | non=>
  refine⟨ry,?_⟩
  cases x with
  | non=>cases (show v=.non from rx); exact PostG.ok (R:=Rep K) p rs (by rfl)
  | bl b=>cases (show v=.bl b from rx); exact PostG.ok (R:=Rep K) p rs (by rfl)
  | int b=>cases (show v=.int b from rx); exact PostG.ok (R:=Rep K) p rs (by rfl)
  | str b=>cases (show v=.str b from rx); exact PostG.ok (R:=Rep K) p rs (by rfl)
  | tup l=>obtain⟨a,xs,rfl,_⟩:=Rep.tup rx; exact PostG.ok (R:=Rep K) p rs (by rfl)
  | lst i=>obtain⟨a,rfl,_⟩:=(show ∃ a,v=.ref a∧mp[i]?=some a from rx); exact PostG.ok (R:=Rep K) p rs (by rfl)
  | exn c n=>obtain⟨a,dx,_,rfl,_⟩:=(show ∃ a dx p,v=.ref a∧(CN K c p∧XCl K p∧H a=some (XO a p dx))∧∀ i,n=some i→∃ d,dx=some d∧H d=some (XA d i) from rx); exact PostG.ok (R:=Rep K) p rs (by rfl)
  | fv c=>exact(show False from p).elim
 | _=>cases x<;>exact(show False from p).elim
theorem od_notn{K:PySem.W.Frag}:OpD K (fun x y H Q=>y=.non∧Q (.bl (!decide (x=.non))) H) notnD:=by
 intro XQ σ ρ mp H S x y v u Q rs rx ry p
 cases y with
 | non=>
  refine⟨ry,?_⟩
  cases x with
  | non=>cases (show v=.non from rx); exact PostG.ok (R:=Rep K) p rs (by rfl)
  | bl b=>cases (show v=.bl b from rx); exact PostG.ok (R:=Rep K) p rs (by rfl)
  | int b=>cases (show v=.int b from rx); exact PostG.ok (R:=Rep K) p rs (by rfl)
  | str b=>cases (show v=.str b from rx); exact PostG.ok (R:=Rep K) p rs (by rfl)
  | tup l=>obtain⟨a,xs,rfl,_⟩:=Rep.tup rx; exact PostG.ok (R:=Rep K) p rs (by rfl)
  | lst i=>obtain⟨a,rfl,_⟩:=(show ∃ a,v=.ref a∧mp[i]?=some a from rx); exact PostG.ok (R:=Rep K) p rs (by rfl)
  | exn c n=>obtain⟨a,dx,_,rfl,_⟩:=(show ∃ a dx p,v=.ref a∧(CN K c p∧XCl K p∧H a=some (XO a p dx))∧∀ i,n=some i→∃ d,dx=some d∧H d=some (XA d i) from rx); exact PostG.ok (R:=Rep K) p rs (by rfl)
  | fv c=>exact(show False from p).elim
 | _=>cases x<;>exact(show False from p).elim
section
variable{a b:Expr}{fa fb:Ev D}{pos:Pos}
theorem jt_isn(ha:JE X XQ a fa)(hb:JE X XQ b fb):JT X XQ (.Compare a [.Is] [b] pos) (tb (o2 isnD fa fb)):=jt_cmp op_isN od_isn ha hb (nomark _)
theorem je_notn(ha:JE X XQ a fa)(hb:JE X XQ b fb):JE X XQ (.Compare a [.IsNot] [b] pos) (o2 notnD fa fb):=je_cmp op_notN od_notn ha hb (nomark _)
end
def cutD(xs:List D)(lo hi:Option Int):List D:=(xs.drop (HT.sIx xs.length 0 lo)).take (HT.sIx xs.length xs.length hi-HT.sIx xs.length 0 lo)
theorem RepL.cut{K:PySem.W.Frag}{mp:List Addr}{H:Hp}{l:List D}{vs:List V}(h:RepL K mp H l vs)(lo hi:Option Int):RepL K mp H (cutD l lo hi) (cutV vs lo hi):=by
 unfold cutD cutV
 rw[h.len]
 exact(h.drop _).take _
def slD(x:D)(lo hi:Option Int)(S:Sto):Out D:=match x with
 | .tup l=>if HT.sIx l.length 0 lo=0∧HT.sIx l.length l.length hi=l.length then .bad else .ok (.tup (cutD l lo hi)) S
 | .lst i=>match S[i]? with
  | some c=>.ok (.lst S.length) (S++[⟨false,cutD c.xs lo hi⟩])
  | none=>.bad
 | _=>.bad
def sl(fe:Ev D)(fl fh:Ev (Option Int)):Ev D:=fun ρ S=>(fe ρ S).bind fun x S1=>(fl ρ S1).bind fun l S2=>(fh ρ S2).bind fun u S3=>slD x l u S3
def onone:Ev (Option Int):=fun _ S=>.ok none S
def osome(f:Ev D):Ev (Option Int):=fun ρ S=>(f ρ S).bind fun x S1=>match x with
 | .int i=>.ok (some i) S1
 | _=>.bad
theorem jo_none:JO X XQ none onone:=PO.mono po_none fun σ H Q ⟨mp,ρ,S,G,p⟩=>PostG.ok (R:=kO) (show PostG X.K kO XQ σ ρ mp H (.ok none S) Q from p) G.rs rfl
theorem jo_some{e:Expr}{f:Ev D}(h:JE X XQ e f):JO X XQ (some e) (osome f):=PO.mono (po_some h) fun σ H Q ⟨mp,ρ,S,G,p⟩=>bindP G p fun mp1 H1 x S1 v a1 G1 r1 p1=>by
 cases x with
 | int i=>exact⟨i,r1,PostG.ok (R:=kO) p1 G1.rs rfl⟩
 | _=>exact(show False from p1).elim
def MeD(K:PySem.W.Frag)(r:V→List V→Hp→VK→Prop)(o:D→List D→Sto→Out D):Prop:=
 ∀ (XQ:XW) (σ:L2.St) (ρ:Lc) (mp:List Addr) (H:Hp) (S:Sto) (x:D) (xs:List D) (v:V) (vs:List V) (Q:VK),RS K mp H S→Rep K mp H x v→RepL K mp H xs vs→Post K XQ σ ρ mp H (o x xs S) Q→r v vs H Q
def isLst(x:D)(S:Sto):Bool:=match x with
 | .lst i=>match S[i]? with
  | some _=>true
  | none=>false
 | _=>false
def mt(o:D→List D→Sto→Out D)(fo:Ev D)(f:Ev (List D)):Ev D:=fun ρ S=>(fo ρ S).bind fun x S1=>if isLst x S1=true then(f ρ S1).bind fun xs S2=>o x xs S2 else .bad
theorem je_meth{id:String}{name:Str}{o e:Expr}{es:List Expr}{apos cpos:Pos}{r:V→List V→Hp→VK→Prop}{od:D→List D→Sto→Out D}{fo:Ev D}{f:Ev (List D)}(slot:Slot "list" name id)(hty:typeOf (.builtin id)=pure (.type "method_descriptor"))(hm:MtM X id r)(hd:MeD X.K r od)(ho:JE X XQ o fo)(ha:JA X XQ (e::es) f)
  (hbase:attributeBase o name X.env (eval o X.env)=eval o X.env:=by rfl)
  (hfew:((backTo cpos (starEach (e::es) X.env)).all (fun x=>!x.1)&&(backToKw cpos (keywordEach [] X.env)).all (fun x=>x.1.isSome)
   && decide ((e::es).length+([]:List Keyword).length+(if([]:List Keyword).isEmpty then 0 else 1)<30))=true:=by rfl)
  (hline:(apos.endLine==cpos.line)=true:=by rfl) (hs:starEach (e::es) X.env=(false,eval e X.env)::starEach es X.env:=by rfl) (hplain:(backTo cpos (starEach es X.env)).any (·.1)=false:=by rfl):
  JE X XQ (.Call (.Attribute o name apos) (e::es) [] cpos) (mt od fo f):=by
 refine PE.mono (pe_bm PySem.F.plainAttrs_list slot hty hm ho ha hbase hfew hline hs hplain) fun σ H Q ⟨mp,ρ,S,G,p⟩=>?_
 refine bindP G p fun mp1 H1 x S1 v a1 G1 r1 p1=>?_
 by_cases hl:isLst x S1=true
 ·rw[if_pos hl] at p1
  have ty:tyV X.K "list" v H1:=by
   cases x with
   | lst i=>
    cases zc:S1[i]? with
    | none=>simp[isLst,zc] at hl
    | some c=>
     obtain⟨a,xs,rfl,_,sq,_⟩:=G1.rs.items r1 zc
     exact .inl ⟨rfl,xs,sq⟩
   | _=>simp[isLst] at hl
  exact⟨ty,bindP G1 p1 fun mp2 H2 xs S2 vs a2 G2 r2 p2=>hd XQ σ ρ mp2 H2 S2 x xs v vs Q G2.rs (Rep.aft a2 _ _ r1) r2 p2⟩
 ·rw[if_neg hl] at p1; exact p1.elim
def appD(x:D)(xs:List D)(S:Sto):Out D:=match x,xs with
 | .lst i,[d]=>match S[i]? with
  | some c=>if c.fz=false∧c.xs.length<1000000 then .ok .non (S.set i ⟨false,c.xs++[d]⟩) else .bad
  | none=>.bad
 | _,_=>.bad
theorem md_app{K:PySem.W.Frag}:MeD K rAppend appD:=by
 intro XQ σ ρ mp H S x xs v vs Q rs rx r p
 unfold appD at p
 split at p
 ·rename_i i d
  split at p
  ·rename_i c zc
   by_cases hc:c.fz=false∧c.xs.length<1000000
   ·rw[if_pos hc] at p
    obtain⟨w,rfl,hw⟩:=RepL.one r
    obtain⟨a,ys,rfl,ha,sq,q,f⟩:=rs.items rx zc
    have hH:=f hc.1
    obtain⟨af,rs'⟩:=rs.setL ha zc hc.1 hH (RepL.append q (RepL.cons hw RepL.nil))
    exact⟨a,ys,w,rfl,rfl,hH,by rw[q.len]; exact Nat.lt_of_lt_of_le hc.2 (by decide),p mp _ _ af rs' rfl⟩
   ·rw[if_neg hc] at p; exact p.elim
  ·exact p.elim
 ·exact p.elim
theorem je_append{o e:Expr}{apos cpos:Pos}{fo:Ev D}{f:Ev (List D)}(ho:JE X XQ o fo)(ha:JA X XQ [e] f)(hbase:attributeBase o "append" X.env (eval o X.env)=eval o X.env:=by rfl)
  (hfew:((backTo cpos (starEach [e] X.env)).all (fun x=>!x.1)&&(backToKw cpos (keywordEach [] X.env)).all (fun x=>x.1.isSome)
   && decide ([e].length+([]:List Keyword).length+(if([]:List Keyword).isEmpty then 0 else 1)<30))=true:=by rfl)
  (hline:(apos.endLine==cpos.line)=true:=by rfl) (hs:starEach [e] X.env=(false,eval e X.env)::starEach [] X.env:=by rfl):
  JE X XQ (.Call (.Attribute o "append" apos) [e] [] cpos) (mt appD fo f):=je_meth PySem.F.slot_list_append PySem.F.type_list_append mt_append md_app ho ha hbase hfew hline hs rfl
end
end DL
set_option Elab.async false
set_option linter.all false
set_option maxRecDepth 100000
namespace DL
open PySem PySem.Spec PyProof.Rows L2
section
variable{X:Cx}{XQ:XW}
theorem ud_neg{K:PySem.W.Frag}:UnD K (rU fun i=>.int (-i)) negD:=by
 intro XQ σ ρ mp H S x v Q rs rx p
 cases x with
 | int i=>exact⟨i,rx,PostG.ok (R:=Rep K) (show Post K XQ σ ρ mp H (.ok (.int (-i)) S) Q from p) rs rfl⟩
 | _=>exact(show False from p).elim
theorem je_neg{a:Expr}{fa:Ev D}{pos:Pos}(ha:JE X XQ a fa):JE X XQ (.UnaryOp .USub a pos) (o1 negD fa):=je_un un_neg ud_neg ha
def ch(o o':D→D→Sto→Out D)(fa fb fc:Ev D):Ev D:=fun ρ S=>(fa ρ S).bind fun x S1=>(fb ρ S1).bind fun y S2=>(o x y S2).bind fun z S3=>match z with
 | .bl k=>if k=true then(fc ρ S3).bind fun w S4=>o' y w S4 else .ok (.bl false) S3
 | _=>.bad
theorem chainP{K:PySem.W.Frag}{r r':R2}{o o':D→D→Sto→Out D}{fa fb fc:Ev D}(hd:OpD K r o)(hd':OpD K r' o')(σ:L2.St)(H:Hp)(Q:VK)(h:rdE K XQ (ch o o' fa fb fc) σ H Q):tChain r r' (rdE K XQ fa) (rdE K XQ fb) (rdE K XQ fc) σ H Q:=by
 obtain⟨mp,ρ,S,G,p⟩:=h
 refine bindP G p fun mp1 H1 x S1 v a1 G1 r1 p1=>?_
 refine bindP G1 p1 fun mp2 H2 y S2 u a2 G2 r2 p2=>?_
 refine hd XQ σ ρ mp2 H2 S2 x y v u _ G2.rs (Rep.aft a2 _ _ r1) r2 ?_
 cases z:o x y S2 with
 | bad=>rw[z] at p2; exact p2
 | exc e S3=>rw[z] at p2; exact p2
 | ok d S3=>
  rw[z] at p2
  intro mp3 H3 zv a3 rs3 r3
  have p3:=PostG.aft p2 a3
  have G3:=G2.aft a3 rs3
  cases d with
  | bl k=>
   refine⟨k,r3,?_⟩
   cases k with
   | true=>exact(if_pos rfl).mpr (bindP (f:=fc) G3 (by simpa[Out.bind] using p3) fun mp4 H4 w S4 wv a4 G4 r4 p4=>hd' XQ σ ρ mp4 H4 S4 y w u wv Q G4.rs (Rep.aft (a3.trans a4) _ _ r2) r4 p4)
   | false=>exact(if_neg Bool.false_ne_true).mpr (PostG.ok (R:=Rep K) (d:=.bl false) (S:=S3) (by simpa[Out.bind] using p3) G3.rs rfl)
  | _=>exact(show False from p3).elim
theorem jt_chain{a b c:Expr}{op op':CmpOp}{r r':R2}{o o':D→D→Sto→Out D}{fa fb fc:Ev D}{pos:Pos}(ho:OpR X (compareOp op) r)(hd:OpD X.K r o)(ho':OpR X (compareOp op') r')(hd':OpD X.K r' o')(ha:JE X XQ a fa)(hb:JE X XQ b fb)(hc:JE X XQ c fc)
  (hm:lastMarks [op,op'] [b,c]=false:=by with_unfolding_all rfl):JT X XQ (.Compare a [op,op'] [b,c] pos) (tb (ch o o' fa fb fc)):=PT.mono (pt_chain ho ho' ha hb hc hm) fun σ H Q h=>chainP hd hd' σ H _ (tb_of h)
theorem od_lt{K:PySem.W.Frag}:OpD K (rI0 fun i j=>.bl (decide (i<j))) ltD:=od_int0 fun _ _ _ _=>rfl
theorem od_le{K:PySem.W.Frag}:OpD K (rI0 fun i j=>.bl (decide (i≤j))) leD:=od_int0 fun _ _ _ _=>rfl
end
end DL
set_option Elab.async false
set_option linter.all false
set_option maxRecDepth 100000
namespace DL
open PySem PySem.Spec PyProof.Rows L2
def XAt(a c:Addr)(h:Heap):Prop:=∃ oe,h.get? a=some oe∧oe.cls=.ref c∧∃ vs,oe.data=.fields vs
section
variable{prog:Program}{w:World}{A:Around}{E:Value→Shared→Prop}{h:Heap}{g:Array GenState}{d:Drawn}{t:Nat}{os:OsState}{a c:Addr}{o:Obj}{K:PySem.W.Frag}
theorem xat_ty{M:Model}(x:XAt a c h):PySem.W.Looks M h (typeOf (.ref a)) (.ref c):=by
 obtain⟨oe,h1,h2,_⟩:=x
 exact h2▸(PySem.W.Looks.ld h1).andThen .now
theorem xc_get{tp:Value}{R:Result→Shared→Prop}(X:K.In h)(k:XCl K c)(x:XAt a c h)(hq:R (.ok (.ret (.ref c))) ⟨h,g,d,t,os⟩):
  codeAny (model prog w) A (.call (.builtin "getset_descriptor.__get__") ⟨[.builtin "object.__class__",.ref a,tp],[]⟩) R ⟨h,g,d,t,os⟩:=by
 obtain⟨oe,hx,hc,_⟩:=x
 have hT5:(⟨h,g,d,t,os⟩:Shared).TypeIs (.builtin "object.__class__") "getset_descriptor":=F.typeOf_object_class
 refine codeAny_call_builtin F.slot_gs_get.plain F.entry_gs_get (F.slot_gs_get.check _ _ _ _ _ _ _ _ hT5 (F.args_gs_get _ _ _) ?_)
 have L1:=fun(M:Model)=>PySem.W.looks_mroIn (M:=M) X k.ob
 have ow:=F.owner_object_class
 repeat (any_goals (first | assumption | (with_reducible refine wpAny_loadPart_at hx ?_; rw[hc]) | (rw[ow]; with_reducible refine(L1 _).here ?_) | wp_step))
 refine⟨Code.quiet_builtin _ (by decide +kernel),codeAny_builtin F.entry_object_class ?_⟩
 repeat (any_goals (first | assumption | (with_reducible refine wpAny_loadPart_at hx ?_; rw[hc]) | wp_step))
theorem xc_check{M:Model}{nameV:Value}{Q:Unit→Shared→Prop}(X:K.In h)(k:XCl K c)(x:XAt a c h)(hq:Q () ⟨h,g,d,t,os⟩):wpAny M A (checkBuiltinCall "BaseException.__getattribute__" ⟨[.ref a,nameV],[]⟩) Q E ⟨h,g,d,t,os⟩:=by
 obtain⟨oe,hx,hc,_⟩:=x
 have bk:builtinKind "BaseException.__getattribute__"=some .slot:=by decide +kernel
 have bs:splitId "BaseException.__getattribute__"=some ("BaseException","__getattribute__"):=by decide +kernel
 have ha:=F.args_bexc_ga (.ref a) nameV
 have L1:PySem.W.Looks M h (isSubtype (.ref c) (.type "BaseException")) true:=PySem.W.looks_subIn X k.be
 simp only[checkBuiltinCall,bk,bs]
 refine wpAny_bind ?_
 ·unfold isInstance
  repeat (first | (with_reducible refine wpAny_loadPart_at hx ?_; rw[hc]) | (with_reducible refine L1.here ?_) | wp_step)
  exact hq
theorem xc_entry{tk:Tok}{Q:Fin→Shared→Prop}(X:K.In h)(k:XCl K c)(x:XAt a c h)(hq:Q (.done (.ret (.ref c))) ⟨h,g,d,t,os⟩):
  wpAny (model prog w) A (Builtin.«object.__getattribute__» ⟨[.ref a,.str "__class__" tk],[]⟩) Q E ⟨h,g,d,t,os⟩:=by
 obtain⟨oe,hx,hc,hv⟩:=id x
 have hT5:(⟨h,g,d,t,os⟩:Shared).TypeIs (.builtin "object.__class__") "getset_descriptor":=F.typeOf_object_class
 have f5:=F.typeOf_object_class
 have f6:=F.slot_gs_get.lookup
 have f7:=F.slot_gs_set.lookup
 have L1:=fun(M:Model)=>PySem.W.looks_findIn (M:=M) X k.cl
 repeat (any_goals (first | assumption | (with_reducible refine wpAny_loadPart_at hx ?_; rw[hc]) | with_reducible refine(L1 _).here ?_ | wp_step))
 refine xc_get X k x ?_
 repeat (any_goals (first | assumption | wp_step))
theorem xc_by{tk:Tok}{fill expr:Bool}{Q:Value→Shared→Prop}(X:K.In h)(k:XCl K c)(x:XAt a c h)(hq:Q (.ref c) ⟨h,g,d,t,os⟩):
  wpAny (model prog w) A (getAttrBy (.ref a) (.str "__class__" tk) fill expr) Q E ⟨h,g,d,t,os⟩:=by
 obtain⟨oe,hx,hc,hv⟩:=id x
 have f3:=PySem.F.excAttr_ValueError.ga.bind (.ref a)
 have n0:(expr&&onTheHeap (Value.builtin "BaseException.__getattribute__"))=false:=by cases expr<;>rfl
 have n2:(Value.builtin "BaseException.__getattribute__"==Value.builtin "object.__getattribute__")=false:=by decide +kernel
 have n1:(onTheHeap (Value.ref c)&&Value.builtin "BaseException.__getattribute__"==Value.builtin "object.__getattribute__")=false:=by rw[n2]; rfl
 have L1:=fun(M:Model)=>PySem.W.looks_findIn (M:=M) X k.ga
 have L2:=fun(M:Model)=>PySem.W.looks_findIn (M:=M) X k.gt
 repeat (any_goals (first | assumption | (with_reducible refine wpAny_loadPart_at hx ?_; rw[hc]) | with_reducible refine(L1 _).here ?_ | with_reducible refine(L2 _).here ?_ | wp_step))
 refine codeAny_call_builtin PySem.F.excAttr_ValueError.ga.plain F.entry_bexc_ga (xc_check X k x (xc_entry X k x ?_))
 repeat (any_goals (first | assumption | wp_step))
theorem xc_attr{Q:Option Value→Shared→Prop}(X:K.In h)(k:XCl K c)(x:XAt a c h)(hq:Q (some (.ref c)) ⟨h,g,d,t+1,os⟩):wpAny (model prog w) A (getAttr? (.ref a) "__class__") Q E ⟨h,g,d,t,os⟩:=by
 unfold getAttr? getAttrBy?
 repeat (any_goals (first | assumption | with_reducible apply xc_by X k x | wp_step))
end
theorem kitx_exn{K:PySem.W.Frag}{a c:Addr}(k:XCl K c):PySem.W.KitX K (.ref a) (.ref c) (XAt a c) where
 ty:=fun _ _ _ x=>xat_ty x
 it:=fun _ _ X _=>by
  obtain⟨cd,hc⟩:=Option.isSome_iff_exists.mp k.cd
  unfold PySem.W.clsIn at hc
  split at hc
  ·rename_i c' d' cd' sl' ho
   intro A Q E s kp q
   unfold isType loadHead
   exact wpAny_bind (wpAny_loadPart (kp _ _ (X _ _ ho)) (wpAny_pure q))
  ·cases hc
 ne:=fun h tp dd its n sl X htp=>by
  obtain⟨cd,hc⟩:=Option.isSome_iff_exists.mp k.cd
  refine Bool.eq_false_iff.mpr fun q=>?_
  have e:c=tp:=Value.ref.inj (beq_iff_eq.mp q)
  subst e
  unfold PySem.W.clsIn at hc
  split at hc
  ·rename_i c' d' cd' sl' ho
   cases (X _ _ ho).symm.trans htp
  ·cases hc
 ca:=fun{prog w A E Q s} X x q=>by
  obtain⟨hh,g,d,t,os⟩:=s
  exact xc_attr X k x q
end DL
set_option Elab.async false
set_option linter.all false
set_option maxRecDepth 100000
namespace DL
open PySem PySem.Spec PyProof.Rows L2
def tyN:D→String
 | .non=>"NoneType"
 | .bl _=>"bool"
 | .int _=>"int"
 | .str _=>"str"
 | .tup _=>"tuple"
 | .lst _=>"list"
 | .exn _ _=>"exn"
 | .fv _=>"fv"
def isT(T t:String):Bool:=t==T||(T=="int"&&t=="bool")
def isD(T:String)(x:D)(S:Sto):Out D:=match x with
 | .fv _=>.bad
 | _=>.ok (.bl (isT T (tyN x))) S
def Kit(K:PySem.W.Frag)(T:String):Prop:=T∈["bool","int","str","tuple","list"]∧∀ t∈["NoneType","bool","int","str","tuple","list"],PySem.W.kitOne K (.type t) (.type T)=some (isT T t)
theorem kit_str{K:PySem.W.Frag}:Kit K "str":=by refine⟨by decide,?_⟩; intro t h; simp only[List.mem_cons,List.mem_nil_iff,or_false] at h; rcases h with rfl | rfl | rfl | rfl | rfl | rfl<;>first | rfl | decide +kernel | (with_unfolding_all rfl)
section
variable{X:Cx}{XQ:XW}
def rIsi(K:PySem.W.Frag)(T:String):List V→Hp→VK→Prop:=fun vs H Q=>∃ x t,vs=[x,.ty T]∧(match x with
 | .non=>t="NoneType" | .bl _=>t="bool" | .int _=>t="int" | .str _=>t="str"
 | .ref a=>(t="tuple"∧∃ xs,SqT K H a xs)∨(t="list"∧∃ xs,SqL K H a xs)∨(t="exn"∧∃ c dx,XCl K c∧H a=some (XO a c dx))
 | _=>False)∧Q (.bl (isT T t)) H
theorem xo_at{pins:List (Addr×Obj)}{σ:L2.St}{H:Hp}{s:Shared}{a c:Addr}{dx:Option Addr}(I:Inv X pins σ H s)(h:H a=some (XO a c dx)):XAt a c s.heap:=by
 obtain⟨⟨oe,h1,h2,_,h3⟩,_,_⟩:=(show ObjOk X.prog X.w H s.heap a (XO a c dx) from I.hok a _ h)
 exact⟨oe,h1,h2,h3⟩
theorem isT_exn{T:String}(h:T∈["bool","int","str","tuple","list"]):isT T "exn"=false:=by
 simp only[List.mem_cons,List.mem_nil_iff,or_false] at h
 rcases h with rfl | rfl | rfl | rfl | rfl<;>rfl
theorem call_isi{T:String}(k:Kit X.K T):CallR X (.builtin "isinstance") (rIsi X.K T):=by
 intro pins s σ H xs us Q I r ⟨x,t,e,h,q⟩
 subst e
 obtain⟨u,w,rfl,ru,rw'⟩:=Vals.two r
 cases (show w=Value.type T from rw')
 have fin:∀ tk,EP X pins σ Q (.bool (isT T t)) { s with toks:=tk }:=fun tk=>⟨.bl _,H,I.tok tk,rfl,q⟩
 cases x with
 | non=>cases (show u=Value.none from ru); cases (show t="NoneType" from h); exact PySem.W.kia_one PySem.W.kitx_none I.kIn True.intro (k.2 _ (by decide)) (fun z=>nomatch z) fin
 | bl y=>cases (show u=Value.bool y from ru); cases (show t="bool" from h); exact PySem.W.kia_one PySem.W.kitx_bool I.kIn True.intro (k.2 _ (by decide)) (fun z=>nomatch z) fin
 | int i=>obtain⟨tk,e⟩:=(show ∃ t,u=Value.int i t from ru); cases e; cases (show t="int" from h); exact PySem.W.kia_one PySem.W.kitx_int I.kIn True.intro (k.2 _ (by decide)) (fun z=>nomatch z) fin
 | str y=>obtain⟨tk,e⟩:=(show ∃ t,u=Value.str y t from ru); cases e; cases (show t="str" from h); exact PySem.W.kia_one PySem.W.kitx_str I.kIn True.intro (k.2 _ (by decide)) (fun z=>nomatch z) fin
 | ref a=>
  cases (show u=Value.ref a from ru)
  rcases h with⟨rfl,xs,sq⟩ | ⟨rfl,xs,sq⟩ | ⟨rfl,c,dx,xc,hH⟩
  ·obtain⟨its,_,⟨o,h1,h2,_⟩,_⟩:=I.tuple sq
   exact PySem.W.kia_one PySem.W.kitx_tuple I.kIn ⟨o,h1,h2⟩ (k.2 _ (by decide)) (fun z=>nomatch z) fin
  ·obtain⟨its,_,⟨o,n,h1,h2,_⟩,_⟩:=I.list sq
   exact PySem.W.kia_one PySem.W.kitx_list I.kIn ⟨o,h1,h2⟩ (k.2 _ (by decide)) (fun z=>nomatch z) fin
  ·have xa:=xo_at I hH
   have e:isT T "exn"=false:=isT_exn k.1
   rw[e] at fin
   exact PySem.W.kia_one (kitx_exn xc) I.kIn xa (xc.bt T k.1) (fun z=>nomatch z) fin
 | _=>exact h.elim
theorem je_isi{T:String}{x:Str}{e:Expr}{f:Ev D}{p p2 pos:Pos}(k:Kit X.K T)(hv:bootBuiltins x=some (.type T))(hnx:x≠"__name__")(hdx:(x==("__debug__":Str))=false)(hg:Gl X "isinstance")(hm:X.mg "isinstance"=none)(hgt:Gl X x)(hmt:X.mg x=none)(he:JE X XQ e f)
  (hs:starEach [e,.Name x p2] X.env=(false,eval e X.env)::starEach [.Name x p2] X.env) (hpl:(backTo pos (starEach [.Name x p2] X.env)).any (·.1)=false) (hs2:starEach [.Name x p2] X.env=(false,eval (.Name x p2) X.env)::starEach [] X.env):
  JE X XQ (.Call (.Name "isinstance" p) [e,.Name x p2] [] pos) (o1 (isD T) f):=by
 refine PE.mono (pe_callB (call_isi k) hg hm (by rfl) (pa_cons he (pa_cons (pe_bltn hgt hmt hv (v:=.ty T) rfl hnx hdx) pa_nil hs2) hs) (by decide) (by decide) hs hpl) fun σ H Q ⟨mp,ρ,S,G,q⟩=>?_
 refine bindP G q fun mp1 H1 d S1 v a1 G1 r1 p1=>?_
 have p2:(∃ c,d=.fv c)∨Post X.K XQ σ ρ mp1 H1 (.ok (.bl (isT T (tyN d))) S1) Q:=by cases d<;>first | exact .inr p1 | exact .inl ⟨_,rfl⟩
 rcases p2 with⟨c,rfl⟩ | p2
 ·exact(show False from p1).elim
 refine⟨v,tyN d,rfl,?_,PostG.ok (R:=Rep X.K) p2 G1.rs rfl⟩
 cases d with
 | non=>cases (show v=.non from r1); exact rfl
 | bl b=>cases (show v=.bl b from r1); exact rfl
 | int b=>cases (show v=.int b from r1); exact rfl
 | str b=>cases (show v=.str b from r1); exact rfl
 | tup l=>obtain⟨a,xs,rfl,sq,_⟩:=Rep.tup r1; exact .inl ⟨rfl,xs,sq⟩
 | lst i=>
  obtain⟨a,rfl,ha⟩:=(show ∃ a,v=.ref a∧mp1[i]?=some a from r1)
  have hl:i<S1.length:=by rw[←G1.rs.len]; exact(List.getElem?_eq_some_iff.mp ha).1
  obtain⟨a2,xs,e2,_,sq,_⟩:=G1.rs.items r1 (List.getElem?_eq_getElem hl)
  cases e2
  exact .inr (.inl ⟨rfl,xs,sq⟩)
 | exn c n=>
  obtain⟨a,dx,q,rfl,⟨_,xc,hH⟩,_⟩:=(show ∃ a dx p,v=.ref a∧(CN X.K c p∧XCl X.K p∧H1 a=some (XO a p dx))∧∀ i,n=some i→∃ d,dx=some d∧H1 d=some (XA d i) from r1)
  exact .inr (.inr ⟨rfl,q,dx,xc,hH⟩)
 | fv c=>exact(show False from p1).elim
end
end DL
set_option Elab.async false
set_option linter.all false
set_option maxRecDepth 100000
namespace DL
open PySem PySem.Spec PyProof.Rows L2
section
variable{X:Cx}{XQ:XW}
def spar(i j:Nat)(f:Ev (List D)):Sv:=fun ρ S=>bindS (f ρ S) ρ fun ds S1=>match ds with
 | [d,e]=>.nx ((ρ.set i (some d)).set j (some e)) S1
 | _=>.bad
theorem js_par(i j:Nat){x y:Str}{a b:Expr}{f:Ev (List D)}{px py pt pos:Pos}{kt k2 pt2}(hc:X.calm=true)(hN:X.N.Nodup)(hi:X.N[i]?=some x)(hj:X.N[j]?=some y)(hij:i≠j)
  (hx:X.env.scope.names.lookup x=some .local) (hy:X.env.scope.names.lookup y=some .local) (ha:JA X XQ [a,b] f)
  (hw:swappedStores [.Tuple [.Name x px,.Name y py] kt pt] (.Tuple [a,b] k2 pt2) X.env=pure (some [x,y]))
  (hs:swapsWithSole [.Tuple [.Name x px,.Name y py] kt pt] (.Tuple [a,b] k2 pt2) pos.line X.env=pure false:=by rfl):
  JS X XQ (.Assign [.Tuple [.Name x px,.Name y py] kt pt] (.Tuple [a,b] k2 pt2) pos) (spar i j f):=by
 refine PS.mono (ps_par hc hN hi hj hij hx hy ha hw hs) fun E σ H ⟨mp,ρ,S,G,p⟩=>?_
 refine bindSP G p fun mp1 H1 ds S1 vs a1 G1 r1 p1=>?_
 split at p1
 ·obtain⟨v,w,rfl,h1,h2⟩:=RepL.two r1
  exact⟨v,w,rfl,PostS.nx p1 ((G1.set i h1).set j h2)⟩
 ·exact p1.elim
end
end DL
set_option Elab.async false
set_option linter.all false
set_option maxRecDepth 100000
namespace DL
open PySem PySem.Spec PyProof.Rows L2
section
variable{X:Cx}{XQ:XW}
def CallX(X:Cx)(id:String)(o:List D→Sto→Out D):Prop:=
 ∀ (pins:List (Addr×Obj)) (s:Shared) (σ:L2.St) (ρ:Lc) (XQ:XW) (mp:List Addr) (H:Hp) (S:Sto) (ds:List D) (vs:List V) (us:List Value) (Q:VK),Inv X pins σ H s→RS X.K mp H S→RepL X.K mp H ds vs→Vals vs us→Post X.K XQ σ ρ mp H (o ds S) Q→
  (∀ (e:XD) (S':Sto),o ds S≠.exc e S')→wpAny (model X.prog X.w) X.A (call (.builtin id) us) (EP X pins σ Q) X.xe s
theorem je_bltX{id:String}{x:Str}{p pos:Pos}{e:Expr}{es:List Expr}{o:List D→Sto→Out D}{f:Ev (List D)}(hc:CallX X id o)(hno:∀ ds S e S',o ds S≠.exc e S')(hg:Gl X x)(hm:X.mg x=none)(hv:bootBuiltins x=some (.builtin id))(ha:JA X XQ (e::es) f)(hn:x≠"__name__":=by decide)(hdb:(x==("__debug__":Str))=false:=by decide)
  (he:starEach (e::es) X.env=(false,eval e X.env)::starEach es X.env:=by rfl) (hpl:(backTo pos (starEach es X.env)).any (·.1)=false:=by rfl):JE X XQ (.Call (.Name x p) (e::es) [] pos) (b1 o f):=by
 intro pins s σ H Q I ⟨mp,ρ,S,G,q⟩
 refine wpAny_Call_Name_kw (ld_blt I hg hm hv ?_ hn hdb)
 refine PyProof.Rows.callWith_builtin1 (thn (ha pos pins s σ H _ I (bindP G q fun mp1 H1 ds S1 vs a1 G1 r1 p1=>(⟨mp1,ρ,S1,ds,G1,r1,p1⟩:∃ mp1 ρ S1 ds,Gd X.K mp1 H1 σ ρ S1∧RepL X.K mp1 H1 ds vs∧Post X.K XQ σ ρ mp1 H1 (o ds S1) Q))) fun us s1 ⟨vs,H1,I1,rv,mp1,ρ1,S1,ds,G1,r1,p1⟩=>?_) he hpl
 exact hc pins s1 σ ρ1 XQ mp1 H1 S1 ds vs us Q I1 G1.rs r1 rv p1 (hno _ _)
def reprD(xs:List D)(S:Sto):Out D:=match xs with
 | [.non]=>.ok (.str "None") S
 | [.bl b]=>.ok (.str (if b then "True" else "False")) S
 | [.int i]=>if i.natAbs.log2<1920 then .ok (.str (toString i)) S else .bad
 | [.str x]=>if(reprText x).length≤1000000 then .ok (.str (reprText x)) S else .bad
 | [d]=>match toP S 40 d with
  | some p=>if(p.showable&&!p.hasDict&&decide (p.depth≤60))=true∧p.shown.length≤1000000 then .ok (.str p.shown) S else .bad
  | none=>.bad
 | _=>.bad
theorem repr_no(ds:List D)(S:Sto)(e:XD)(S':Sto):reprD ds S≠.exc e S':=by
 unfold reprD
 split<;>(try split)<;>(try split)<;>exact fun z=>nomatch z
theorem repr_ok{k:Nat}(hr:Room k X.A):CallX X "repr" reprD:=by
 intro pins s σ ρ XQ mp H S ds vs us Q I rs r rv p hno
 clear hno
 have big:∀ (d:D) (v:V) (a:Addr) (u:Value),Rep X.K mp H d v→v=.ref a→RelV v u→Post X.K XQ σ ρ mp H (match toP S 40 d with
   | some p=>if(p.showable&&!p.hasDict&&decide (p.depth≤60))=true∧p.shown.length≤1000000 then .ok (.str p.shown) S else .bad
   | none=>.bad) Q→wpAny (model X.prog X.w) X.A (call (.builtin "repr") [u]) (EP X pins σ Q) X.xe s:=by
  intro d v a u rd ev ru p
  subst ev
  cases z:toP S 40 d with
  | none=>rw[z] at p; exact p.elim
  | some q=>
   rw[z] at p
   by_cases h:(q.showable&&!q.hasDict&&decide (q.depth≤60))=true∧q.shown.length≤1000000
   ·have p:Post X.K XQ σ ρ mp H (.ok (.str q.shown) S) Q:=by simpa only[if_pos h] using p
    obtain⟨as,ra⟩:=readsP I rs 40 d _ u q rd ru z
    cases (show u=Value.ref a from ru)
    have h1:=h.1
    rw[Bool.and_eq_true,Bool.and_eq_true] at h1
    have hd:q.depth≤60:=of_decide_eq_true h1.2
    have hu:=hr.units
    refine repr_of_reads' ra h1.1.1 (fun z=>by rw[z] at h1; simp at h1) hr.gd (by omega) (fun _ _ e=>e) (fun h' u' tk hk=>?_) (line_le h.2)
    exact⟨.str q.shown,H,I.kept (h':=h') (t':=tk) hk,⟨_,rfl⟩,PostG.ok p rs rfl⟩
   ·simp only[if_neg h] at p; exact p.elim
 unfold reprD at p
 split at p
 ·obtain⟨v,rfl,h⟩:=RepL.one r
  obtain⟨u,rfl,ru⟩:=Vals.one rv
  cases (show v=.non from h); cases (show u=Value.none from ru)
  exact PySem.P.repr_of_none ⟨.str "None",H,I.tok _,⟨_,rfl⟩,PostG.ok (R:=Rep X.K) p rs rfl⟩
 ·rename_i b
  obtain⟨v,rfl,h⟩:=RepL.one r
  obtain⟨u,rfl,ru⟩:=Vals.one rv
  cases (show v=.bl b from h); cases (show u=Value.bool b from ru)
  exact PySem.P.repr_of_bool ⟨.str _,H,I.tok _,⟨_,rfl⟩,PostG.ok (R:=Rep X.K) p rs (by cases b<;>rfl)⟩
 ·rename_i i
  obtain⟨v,rfl,h⟩:=RepL.one r
  obtain⟨u,rfl,ru⟩:=Vals.one rv
  cases (show v=.int i from h); obtain⟨t,rfl⟩:=(show ∃ t,u=Value.int i t from ru)
  by_cases hi:i.natAbs.log2<1920
  ·rw[if_pos hi] at p
   exact PySem.P.repr_of_int hi ⟨.str _,H,I.tok _,⟨_,rfl⟩,PostG.ok (R:=Rep X.K) p rs rfl⟩
  ·rw[if_neg hi] at p; exact p.elim
 ·rename_i x
  obtain⟨v,rfl,h⟩:=RepL.one r
  obtain⟨u,rfl,ru⟩:=Vals.one rv
  cases (show v=.str x from h); obtain⟨t,rfl⟩:=(show ∃ t,u=Value.str x t from ru)
  by_cases hi:(reprText x).length≤1000000
  ·rw[if_pos hi] at p
   exact PySem.P.repr_of_str ⟨.str _,H,I.tok _,⟨_,rfl⟩,PostG.ok (R:=Rep X.K) p rs rfl⟩ (line_le hi)
  ·rw[if_neg hi] at p; exact p.elim
 ·rename_i d n1 n2 n3 n4
  obtain⟨v,rfl,h⟩:=RepL.one r
  obtain⟨u,rfl,ru⟩:=Vals.one rv
  cases d with
  | non=>exact absurd rfl n1
  | bl b=>exact absurd rfl (n2 b)
  | int i=>exact absurd rfl (n3 i)
  | str x=>exact absurd rfl (n4 x)
  | tup l=>obtain⟨a,xs,ev,_⟩:=Rep.tup h; exact big _ v a u h ev ru p
  | lst i=>obtain⟨a,ev,_⟩:=(show ∃ a,v=.ref a∧mp[i]?=some a from h); exact big _ v a u h ev ru p
  | exn c n=>obtain⟨a,dx,_,ev,_⟩:=(show ∃ a dx p,v=.ref a∧(CN X.K c p∧XCl X.K p∧H a=some (XO a p dx))∧∀ i,n=some i→∃ d,dx=some d∧H d=some (XA d i) from h); exact big _ v a u h ev ru p
  | fv c=>obtain⟨a,ev,_⟩:=(show ∃ a,v=.ref a∧CN X.K c a from h); exact big _ v a u h ev ru p
 ·exact p.elim
theorem je_repr{k:Nat}{p pos:Pos}{e:Expr}{f:Ev (List D)}(hr:Room k X.A)(hg:Gl X "repr")(hm:X.mg "repr"=none)(ha:JA X XQ [e] f)(he:starEach [e] X.env=(false,eval e X.env)::starEach [] X.env:=by rfl):JE X XQ (.Call (.Name "repr" p) [e] [] pos) (b1 reprD f):=je_bltX (repr_ok hr) repr_no hg hm (by rfl) ha (he:=he)
end
end DL
set_option Elab.async false
set_option linter.all false
set_option maxRecDepth 100000
namespace DL
open PySem PySem.Spec PyProof.Rows L2
end DL
set_option Elab.async false
set_option linter.all false
namespace DL
open PySem
theorem se_Constant{c j p}{es:List Expr}{env:PySem.Env}:starEach (.Constant c j p::es) env=(false,eval (.Constant c j p) env)::starEach es env:=rfl
theorem se_Name{x p}{es:List Expr}{env:PySem.Env}:starEach (.Name x p::es) env=(false,eval (.Name x p) env)::starEach es env:=rfl
theorem se_Tuple{a b p}{es:List Expr}{env:PySem.Env}:starEach (.Tuple a b p::es) env=(false,eval (.Tuple a b p) env)::starEach es env:=rfl
theorem se_List{a p}{es:List Expr}{env:PySem.Env}:starEach (.List a p::es) env=(false,eval (.List a p) env)::starEach es env:=rfl
theorem se_Call{f a k p}{es:List Expr}{env:PySem.Env}:starEach (.Call f a k p::es) env=(false,eval (.Call f a k p) env)::starEach es env:=rfl
theorem se_Subscript{a b p}{es:List Expr}{env:PySem.Env}:starEach (.Subscript a b p::es) env=(false,eval (.Subscript a b p) env)::starEach es env:=rfl
theorem se_BinOp{a o b p}{es:List Expr}{env:PySem.Env}:starEach (.BinOp a o b p::es) env=(false,eval (.BinOp a o b p) env)::starEach es env:=rfl
theorem se_UnaryOp{o a p}{es:List Expr}{env:PySem.Env}:starEach (.UnaryOp o a p::es) env=(false,eval (.UnaryOp o a p) env)::starEach es env:=rfl
theorem se_BoolOp{o a p}{es:List Expr}{env:PySem.Env}:starEach (.BoolOp o a p::es) env=(false,eval (.BoolOp o a p) env)::starEach es env:=rfl
theorem se_Compare{a o b p}{es:List Expr}{env:PySem.Env}:starEach (.Compare a o b p::es) env=(false,eval (.Compare a o b p) env)::starEach es env:=rfl
theorem se_IfExp{a b c p}{es:List Expr}{env:PySem.Env}:starEach (.IfExp a b c p::es) env=(false,eval (.IfExp a b c p) env)::starEach es env:=rfl
end DL
set_option Elab.async false
set_option linter.all false
set_option maxRecDepth 100000
namespace DL
open PySem PySem.Spec PyProof.Rows L2
structure Cal(P:Program)(w:World)(K:PySem.W.Frag)(mg:Str→Option Value)(base:Heap)(x:Str)(ps:List Str)(fn:Fn)(j:Nat):Prop where
 ex:∃ f fd,FnOk P w K mg base CX0 j f fd ps (spD K ps.length fn)∧mg x=some (.ref f)∧PySem.W.keepIn K (.ref f)=true∧Binds K fd ps []
structure Dn(K:PySem.W.Frag)(mg:Str→Option Value)(x:Str)(st:Stmt)(ps:List Str):Prop where
 ex:∃ f fd,Fun K x x st f fd∧mg x=some (.ref f)∧Binds K fd ps []
section
variable{P:Program}{w:World}{K:PySem.W.Frag}{mg:Str→Option Value}{base:Heap}
theorem dn_mk{h:Heap}{x:Str}{st:Stmt}{ps:List Str}{f:Addr}{oc:Value}{od an:Option Addr}{osl:Array (Option Value)}{kV doc pm cdv ct:Value}(X:K.In h)(G:h.Ns mainGlobals mg)(a:PySem.W.nsIn K mainGlobals x=some (some (.ref f)))
  (l:K.lookup f=some ⟨oc,od,.func (PySem.W.fnOf x x (defArgs st) (defBody st) (defScope st) .none kV doc pm an cdv ct),osl⟩) (c:PySem.W.codeIn K cdv x=true) (k:PySem.W.keepIn K (.ref f)=true)
  (hb:∀ (kV doc pm:Value) (an:Option Addr) (cdv ct:Value) (us:List Value),us.length=ps.length→bindArgs (PySem.W.fnOf x x (defArgs st) (defBody st) (defScope st) .none kV doc pm an cdv ct) ⟨us,[]⟩=pure (ps.zip us)):Dn K mg x st ps:=
 ⟨f,_,fun_mk l c k,PySem.W.mg_of X G a,(fun_mk (st:=st) l c k).binds hb⟩
theorem cal_of{x:Str}{st:Stmt}{ps:List Str}{fn:Fn}(N:List Str)(k:Nat)(b:Sv)(hfn:fn=fnB N.length b)(d:Dn K mg x st ps)(Sc:FnScope N ps (defScope st))
  (hb:∀ (f:Addr) (cdv:Value) (A:Around) (outer:List PySem.Env) (s:Shared) (H:Hp) (E:XK),Room k (A.deeper (envOfC x (defScope st) s.heap.objs.size f cdv))→
   JSs (cxOf CX0 P w K mg base N x (defScope st) f cdv A outer s H E).nox XN (defBody st) b):Cal P w K mg base x ps fn (k+1):=by
 subst hfn
 obtain⟨f,fd,F,hm,hbi⟩:=d.ex
 exact⟨f,fd,fn_ok F Sc (hb f),hm,F.kp,hbi⟩
end
section
variable{X:Cx}{XQ:XW}
theorem je_own{x:Str}{ps:List Str}{fn:Fn}{j k n:Nat}{p pos:Pos}{e:Expr}{es:List Expr}{t:Ev (List D)}(C:Cal X.prog X.w X.K X.mg X.base x ps fn j)(hr:Room k X.A)(ha:JA X XQ (e::es) t)(hn:ps.length=n)(hj:j≤k:=by decide)(hg:Gl X x:=by rfl)
  (hdb:(x==("__debug__":Str))=false:=by decide) (he:starEach (e::es) X.env=(false,eval e X.env)::starEach es X.env:=by rfl) (hpl:(backTo pos (starEach es X.env)).any (·.1)=false:=by rfl):
  JE X XQ (.Call (.Name x p) (e::es) [] pos) (cl n (noExc fn) t):=by
 subst hn
 obtain⟨f,fd,F,hm,hk,hb⟩:=C.ex
 exact je_call F hr hj hg hm hk hb ha hdb he hpl
theorem je_cst{x:Str}{v:V}{u:Value}{d:D}{pos:Pos}(hm:X.mg x=some u)(r:RelV v u)(rep:∀ mp H,Rep X.K mp H d v)(hg:Gl X x)(hd:(x==("__debug__":Str))=false):JE X XQ (.Name x pos) (cn d):=je_const (pe_glob hg hm r hd) rep
def plainN(x:Str):Bool:=!(x==("__debug__":Str))&&!(x==("__classdict__":Str))
def okV(sc:Scope)(x:Str):Bool:=(match sc.names.lookup x with
 | some .local=>true
 | some .cell=>true
 | some .free=>true
 | _=>false)&&plainN x
def okL(sc:Scope)(x:Str):Bool:=match sc.names.lookup x with
 | some .local=>true
 | some .cell=>true
 | _=>false
def okG(sc:Scope)(x:Str):Bool:=(match sc.names.lookup x with
 | some .globalImplicit=>true
 | _=>false)&&plainN x
theorem plainN.of{x:Str}(h:plainN x=true):(x==("__debug__":Str))=false∧(x==("__classdict__":Str))=false:=by
 unfold plainN at h
 rw[Bool.and_eq_true] at h
 exact⟨by simpa using h.1,by simpa using h.2⟩
theorem okV.vis{sc:Scope}{x:Str}(h:okV sc x=true):Vis sc x∧plainN x=true:=by
 unfold okV at h
 rw[Bool.and_eq_true] at h
 refine⟨?_,h.2⟩
 have h:=h.1
 split at h
 ·rename_i e; exact .inl e
 ·rename_i e; exact .inr (.inl e)
 ·rename_i e; exact .inr (.inr e)
 ·cases h
theorem okL.loc{sc:Scope}{x:Str}(h:okL sc x=true):Loc sc x:=by
 unfold okL at h
 split at h
 ·rename_i e; exact .inl e
 ·rename_i e; exact .inr e
 ·cases h
theorem okG.gl{sc:Scope}{x:Str}(h:okG sc x=true):sc.names.lookup x=some .globalImplicit∧plainN x=true:=by
 unfold okG at h
 rw[Bool.and_eq_true] at h
 refine⟨?_,h.2⟩
 have h:=h.1
 split at h
 ·rename_i e; exact e
 ·cases h
structure OkV(sc:Scope)(x:Str):Prop where
 h:okV sc x=true
structure OkL(sc:Scope)(x:Str):Prop where
 h:okL sc x=true
structure OkC(sc:Scope)(x:Str):Prop where
 h:sc.names.lookup x=some .local
structure OkG(sc:Scope)(x:Str):Prop where
 h:okG sc x=true
theorem jv(i:Nat){x:Str}{pos:Pos}(h:OkV X.env.scope x)(hN:X.N[i]?=some x:=by rfl):JE X XQ (.Name x pos) (vr i):=je_var i hN (okV.vis h.h).1 (plainN.of (okV.vis h.h).2).1 (plainN.of (okV.vis h.h).2).2
theorem gl{x:Str}(h:OkG X.env.scope x):Gl X x:=(okG.gl h.h).1
theorem jgn(i:Nat){x:Str}{pos:Pos}(hN:X.N.Nodup)(h:OkL X.env.scope x)(hi:X.N[i]?=some x:=by rfl)(hf:X.fn x=true:=by rfl):JG X (.Name x pos) (gn i):=jg_name i hN hi (okL.loc h.h) (.inl hf)
theorem jset(i:Nat){x:Str}{e:Expr}{f:Ev D}{pos pos':Pos}(hN:X.N.Nodup)(h:OkL X.env.scope x)(he:JE X XQ e f)(hi:X.N[i]?=some x:=by rfl)(hs:swapsWith e (some (.Name x pos')) pos.line X.env=pure false:=by rfl)(hf:X.fn x=true:=by rfl):
  JS X XQ (.Assign [.Name x pos'] e pos) (sa f (gn i)):=js_set i hN he hi (okL.loc h.h) hs (.inl hf)
theorem jown{x:Str}{ps:List Str}{fn:Fn}{j k n:Nat}{p pos:Pos}{e:Expr}{es:List Expr}{t:Ev (List D)}(C:Cal X.prog X.w X.K X.mg X.base x ps fn j)(hr:Room k X.A)(hg:Gl X x)(hp:plainN x=true)(ha:JA X XQ (e::es) t)(hn:ps.length=n:=by rfl)(hj:j≤k:=by decide)
  (he:starEach (e::es) X.env=(false,eval e X.env)::starEach es X.env:=by rfl) (hpl:(backTo pos (starEach es X.env)).any (·.1)=false:=by rfl):
  JE X XQ (.Call (.Name x p) (e::es) [] pos) (cl n (noExc fn) t):=je_own C hr ha hn hj hg (plainN.of hp).1 he hpl
def okVC(sc:Scope)(x:Str):Bool:=(match sc.names.lookup x with
 | some .local=>true
 | some .cell=>true
 | some .free=>true
 | _=>false)&&plainN x
theorem lookup_relabel_other{scope:Scope}{env:PySem.Env}{x:Str}{k:NameKind}(hk:k≠.free):∀ (names:List (Str×NameKind)),names.lookup x=some k→(names.map fun(n,k)=>if(k==NameKind.free&&env.scope.kind==.function&&env.kindOf n==some .cell)=true then(n,NameKind.cell) else(n,k)).lookup x=some k
 | [],h=>by simp at h
 | (n,k')::r,h=>by
  rw[List.map_cons]
  by_cases hx:(x==n)=true
  ·rw[List.lookup_cons,hx] at h
   have:k'=k:=by simpa using h
   subst this
   have hb:(k'==NameKind.free)=false:=by simpa using hk
   simp only[hb,Bool.false_and,Bool.false_eq_true,if_false,List.lookup_cons,hx]
  ·have hx:(x==n)=false:=by simpa using hx
   rw[List.lookup_cons,hx] at h
   have:=lookup_relabel_other (scope:=scope) (env:=env) hk r h
   by_cases hq:(k'==NameKind.free&&env.scope.kind==.function&&env.kindOf n==some .cell)=true
   ·simpa only[hq,if_true,List.lookup_cons,hx] using this
   ·simpa only[hq,Bool.false_eq_true,if_false,List.lookup_cons,hx] using this
theorem blk_vis{s2:Shared}{H2:Hp}{C:Addr}{scope:Scope}{c:List (Str×Addr)}{N':List Str}{fp:List Addr}{x:Str}(h:okVC scope x=true):Vis (blk X s2 H2 C scope c N' fp).env.scope x∧plainN x=true:=by
 unfold okVC at h
 rw[Bool.and_eq_true] at h
 refine⟨?_,h.2⟩
 have h:=h.1
 split at h
 ·rename_i e; exact .inl (lookup_relabel_local e)
 ·rename_i e; exact .inr (.inl (lookup_relabel_other (scope:=scope) (env:=X.env) (by decide) scope.names e))
 ·rename_i e; exact .inr (lookup_relabel_free (scope:=scope) (env:=X.env) scope.names e)
 ·cases h
theorem jvB(i:Nat){s2:Shared}{H2:Hp}{C:Addr}{scope:Scope}{c:List (Str×Addr)}{N':List Str}{fp:List Addr}{x:Str}{pos:Pos}(h:okVC scope x=true)(hN:N'[i]?=some x:=by rfl):JE (blk X s2 H2 C scope c N' fp) XQ (.Name x pos) (vr i):=
 je_var i hN (blk_vis h).1 (plainN.of (blk_vis (X:=X) (s2:=s2) (H2:=H2) (C:=C) (c:=c) (N':=N') (fp:=fp) h).2).1 (plainN.of (blk_vis (X:=X) (s2:=s2) (H2:=H2) (C:=C) (c:=c) (N':=N') (fp:=fp) h).2).2
theorem glB{s2:Shared}{H2:Hp}{C:Addr}{scope:Scope}{c:List (Str×Addr)}{N':List Str}{fp:List Addr}{x:Str}(h:okG scope x=true):Gl (blk X s2 H2 C scope c N' fp) x:=
 lookup_relabel_other (scope:=scope) (env:=X.env) (by decide) scope.names (okG.gl h).1
def okLC(sc:Scope)(x:Str):Bool:=match sc.names.lookup x with
 | some .local=>true
 | some .cell=>true
 | _=>false
theorem jgnB(i:Nat){s2:Shared}{H2:Hp}{C:Addr}{scope:Scope}{c:List (Str×Addr)}{N':List Str}{fp:List Addr}{x:Str}{pos:Pos}(hN:N'.Nodup)(h:okLC scope x=true)(hi:N'[i]?=some x:=by rfl):JG (blk X s2 H2 C scope c N' fp) (.Name x pos) (gn i):=by
 unfold okLC at h
 split at h
 ·rename_i e
  exact jg_name i hN hi (.inl (lookup_relabel_local e)) (.inr (lookup_relabel_local e))
 ·rename_i e
  exact jg_name i hN hi (.inr (lookup_relabel_other (scope:=scope) (env:=X.env) (by decide) scope.names e)) (.inl (by show(scope.names.lookup x==some NameKind.cell)=true; rw[e]; rfl))
 ·cases h
theorem jsetComp(i:Nat){sc:Scope}{N:List Str}{y:Str}{py spos:Pos}{elt tg iter:Expr}{ifs:List Expr}{scope:Scope}{pos:Pos}{N':List Str}{pk:List (Option Nat)}{f:Ev Src}{g:Tg}{t:Ev Bool}{e:Ev D}(hsc:X.env.scope=sc)(hNN:X.N=N)(ct:CompTab sc scope N N' pk)(hcm:X.calm=true)(hi:JI X XQ tg iter f)
  (hg:∀ cl s2 H2 C fp,JG (blk X s2 H2 C scope cl N' fp) tg g) (ht:∀ cl s2 H2 C fp,JTs (blk X s2 H2 C scope cl N' fp) XN ifs t) (he:∀ cl s2 H2 C fp,JE (blk X s2 H2 C scope cl N' fp) XN elt e)
  (hN:X.N.Nodup) (hl:OkL X.env.scope y) (hsw:swapsWith (.ListComp elt [⟨tg,iter,ifs,0⟩] scope pos) (some (.Name y py)) spos.line X.env=pure true) (hy:X.N[i]?=some y:=by rfl)
  (hs:∀ x,foldedSetIterable iter X.env x=pure x:=by intro _; rfl) (hf:X.fn y=true:=by rfl):
  JS X XQ (.Assign [.Name y py] (.ListComp elt [⟨tg,iter,ifs,0⟩] scope pos) spos) (sa (cmp f pk g t e) (gn i)):=by
 subst hsc hNN
 exact js_setComp i ct hcm hi hg ht he hN hy (okL.loc hl.h) hsw hs (.inl hf)
end
end DL
set_option Elab.async false
set_option linter.all false
set_option maxRecDepth 100000
namespace DL
open PySem PySem.Spec PyProof.Rows L2
section
variable{X:Cx}{XQ:XW}
theorem log_of{j:Int}(h1:0<j)(h2:j<2^200):j.natAbs.log2<9000:=by
 have h3:j.natAbs<2^200:=by omega
 exact Nat.lt_of_lt_of_le ((Nat.log2_lt (by omega)).mpr h3) (by decide)
theorem op_fdiv2:OpR X (binaryOp .FloorDiv) (rI (fun _ j=>0<j∧j<2^200) fun i j=>.int (i / j)):=opI fun i j _ _ _ _ _ hc q=>by
 have h1:(0:Int)<j:=hc.1
 have h2:j<2^200:=hc.2
 exact floordiv_int (by omega) (by rw[Int.fdiv_eq_ediv_of_nonneg i (by omega)]; exact q) (.inl (PyProof.noPylong_of_log2 (log_of h1 h2)))
abbrev divD2:=i2 (fun _ j=>decide (0<j∧j<2^200)) fun i j=>.int (i / j)
theorem je_div2{a b:Expr}{fa fb:Ev D}{pos:Pos}(ha:JE X XQ a fa)(hb:JE X XQ b fb):JE X XQ (.BinOp a .FloorDiv b pos) (o2 divD2 fa fb):=je_op op_fdiv2 (od_int (fun _ j h=>(of_decide_eq_true h:0<j∧j<2^200)) fun _ _ _ _=>rfl) ha hb
def intsOf:List D→Option (List Int)
 | []=>some []
 | .int i::r=>(intsOf r).map (i::·)
 | _::_=>none
theorem RepL.ints{K:PySem.W.Frag}{mp:List Addr}{H:Hp}:∀ {l:List D} {vs:List V} {ns:List Int},RepL K mp H l vs→intsOf l=some ns→vs=ns.map V.int
 | [],vs,ns,h,e=>by
  cases (show vs=[] from h)
  cases (Option.some.inj (show some []=some ns from e))
  rfl
 | d::l,vs,ns,h,e=>by
  obtain⟨v,r,rfl,h1,h2⟩:=h
  cases d with
  | int i=>
   have e:(intsOf l).map (i::·)=some ns:=e
   cases z:intsOf l with
   | none=>rw[z] at e; cases e
   | some ms=>
    rw[z] at e
    cases (Option.some.inj e)
    cases (show v=.int i from h1)
    rw[RepL.ints h2 z]
    rfl
  | _=>cases (show(none:Option (List Int))=some ns from e)
theorem items_of{ns:List Int}(its:List Value)(r':Vals (ns.map V.int) its):∃ xs:Array (Int×Tok),its.toArray=intItems xs∧preSum (numAt xs) xs.size=ns.sum∧ns=xs.toList.map (·.1):=by
 have hi:=intsAre_of r'
 obtain⟨xs,hx⟩:=hi.allInts.items
 have hn:numsOf its.toArray.toList=ns:=by rw[show its.toArray.toList=its from rfl,hi.numsOf]
 rw[hx,nums_intItems] at hn
 refine⟨xs,hx,?_,hn.symm⟩
 rw[preSum_eq,List.take_of_length_le (by simp),hn]
theorem call_sum(hc:X.calm=true):CallR X (.builtin "sum") (fun xs H Q=>∃ (p:Addr) (ns:List Int),xs=[.ref p]∧(SqL X.K H p (ns.map V.int)∨SqT X.K H p (ns.map V.int))∧Q (.int ns.sum) H):=by
 intro pins s σ H xs us Q I r h
 obtain⟨p,ns,rfl,hq,q⟩:=h
 obtain⟨u,rfl,rx⟩:=vals1 r
 cases rx
 rcases hq with hq | hq
 ·obtain⟨its,r',pl,hz⟩:=I.list hq
  obtain⟨xs,hx,e,_⟩:=items_of its r'
  have hl:=pl.isList
  rw[hx] at hl
  exact sum_intListG (I.ok.hd hc) hl fun h' tk t' hk=>⟨.int ns.sum,H,I.kept hk,⟨t',by rw[e]⟩,q⟩
 ·obtain⟨its,r',pl,hz⟩:=I.tuple hq
  obtain⟨xs,hx,e,_⟩:=items_of its r'
  have hl:s.heap.IsTuple p its.toArray:=pl
  rw[hx] at hl
  exact PySem.W.ktm_sumG (I.ok.hd hc) hl fun h' tk t' hk=>⟨.int ns.sum,H,I.kept hk,⟨t',by rw[e]⟩,q⟩
def seqOf(x:D)(S:Sto):Option (List D):=match x with
 | .tup l=>some l
 | .lst i=>(S[i]?).map (·.xs)
 | _=>none
theorem seq_of{K:PySem.W.Frag}{mp:List Addr}{H:Hp}{S:Sto}{x:D}{v:V}{l:List D}(rs:RS K mp H S)(h:Rep K mp H x v)(e:seqOf x S=some l):∃ a xs,v=.ref a∧(SqL K H a xs∨SqT K H a xs)∧RepL K mp H l xs:=by
 cases x with
 | tup ds=>
  cases (Option.some.inj (show some ds=some l from e))
  obtain⟨a,xs,rfl,s,q⟩:=Rep.tup h
  exact⟨a,xs,rfl,.inr s,q⟩
 | lst i=>
  have e:(S[i]?).map (·.xs)=some l:=e
  cases z:S[i]? with
  | none=>rw[z] at e; cases e
  | some c=>
   rw[z] at e
   cases (Option.some.inj e)
   obtain⟨a,xs,rfl,_,s,q,_⟩:=rs.items h z
   exact⟨a,xs,rfl,.inl s,q⟩
 | _=>cases (show(none:Option (List D))=some l from e)
def sumD(xs:List D)(S:Sto):Out D:=match xs with
 | [x]=>match (seqOf x S).bind intsOf with
  | some ns=>.ok (.int ns.sum) S
  | none=>.bad
 | _=>.bad
theorem bd_sum{K:PySem.W.Frag}:BlD K (fun xs H Q=>∃ (p:Addr) (ns:List Int),xs=[.ref p]∧(SqL K H p (ns.map V.int)∨SqT K H p (ns.map V.int))∧Q (.int ns.sum) H) sumD:=by
 intro XQ σ ρ mp H S xs vs Q rs r p
 unfold sumD at p
 split at p
 ·rename_i x
  obtain⟨v,rfl,h⟩:=RepL.one r
  split at p
  ·rename_i ns z
   obtain⟨l,e1,e2⟩:=Option.bind_eq_some_iff.mp z
   obtain⟨a,ys,rfl,sq,q⟩:=seq_of rs h e1
   cases q.ints e2
   exact⟨a,ns,rfl,sq,PostG.ok (R:=Rep K) p rs rfl⟩
  ·exact p.elim
 ·exact p.elim
theorem je_sum{p pos:Pos}{e:Expr}{f:Ev (List D)}(hc:X.calm=true)(hg:Gl X "sum")(hm:X.mg "sum"=none)(ha:JA X XQ [e] f)(he:starEach [e] X.env=(false,eval e X.env)::starEach [] X.env:=by rfl):JE X XQ (.Call (.Name "sum" p) [e] [] pos) (b1 sumD f):=je_blt (call_sum hc) bd_sum hg hm (by rfl) ha (he:=he)
def maxD(xs:List D)(S:Sto):Out D:=match xs with
 | [.int i,.int j]=>.ok (.int (if j>i then j else i)) S
 | _=>.bad
def sag(i:Nat)(g:Int→Int→Int)(f:Ev D):Sv:=fun ρ S=>match ρ[i]? with
 | some (some (.int a))=>bindS (f ρ S) ρ fun d S1=>match d with
  | .int b=>.nx (ρ.set i (some (.int (g a b)))) S1
  | _=>.bad
 | _=>.bad
theorem augP{K:PySem.W.Frag}{i:Nat}{g:Int→Int→Int}{f:Ev D}(E:Ends)(σ:L2.St)(H:Hp)(h:rdS K XQ (sag i g f) E σ H):tAug i (rdE K XQ f) (ipI g) E σ H:=by
 obtain⟨mp,ρ,S,G,p⟩:=h
 unfold sag at p
 split at p
 ·rename_i a z
  obtain⟨v,e1,r⟩:=G.loc i _ z
  cases (show v=.int a from r)
  refine⟨_,e1,bindSP G p fun mp1 H1 d S1 v a1 G1 r1 p1=>?_⟩
  cases d with
  | int b=>
   cases (show v=.int b from r1)
   exact⟨a,b,rfl,rfl,PostS.nx p1 (G1.set i rfl)⟩
  | _=>exact(show False from p1).elim
 ·exact p.elim
theorem js_inc(i:Nat){x:Str}{e:Expr}{f:Ev D}{pos pos':Pos}(hN:X.N.Nodup)(h:OkL X.env.scope x)(he:JE X XQ e f)(hi:X.N[i]?=some x:=by rfl)(hf:X.fn x=true:=by rfl):JS X XQ (.AugAssign (.Name x pos') .Add e pos) (sag i (fun a b=>a+b) f):=
 PS.mono (ps_aug hN hi (okL.loc h.h) he ip_add (.inl hf)) augP
end
section
variable{prog:Program}{w:World}{A:Around}{E:Value→Shared→Prop}{s:Shared}
theorem getItem_tuple_all{t sl:Addr}{items:Array Value}{vl vu:Value}{lo hi:Option Int}{Q:Value→Shared→Prop}(ht:IsTup s.heap t items)(hs:s.heap.IsSliceOf sl vl vu .none)(pl:IsPart vl lo)(pu:IsPart vu hi)
  (hw:HT.sIx items.size 0 lo=0∧HT.sIx items.size items.size hi=items.size)
  (h:Q (.ref t) s):wpAny (model prog w) A (getItem (.ref t) (.ref sl)) Q E s:=by
 obtain⟨os,hos,hcs,hds⟩:=id hs
 have hTs:s.TypeIs (.ref sl) "slice":=⟨os,hos,hcs⟩
 unfold getItem
 try with_reducible refine wpAny_holding ?_
 first | refine wpAny_bind (wpAny_pure ?_) | skip
 refine wpAny_bind (wpAny_sequenceKey ht.typeIs (by decide) ?_)
 refine wpAny_bind (wpAny_callSpecial?_slot (name:=Str.ofString "__getitem__") ht.typeIs PyProof.Rows.slot_tuple_getitem
  (wpAny_call_entry PyProof.Rows.slot_tuple_getitem ht.typeIs entry_tuple_getitem ?_ (args_tuple_getitem _ _)))
 show wpAny _ _ (Builtin.Tuple.tupleItemsOf (.ref t) >>= _) _ _ s
 refine wpAny_bind (tupleItemsOf_ ht ?_)
 refine wpAny_bind (wpAny_typeOf hTs ?_)
 rw[if_pos (by decide)]
 refine wpAny_bind (HT.sliceApplied_gen hs pl pu ?_)
 show wpAny _ _ (if(((HT.sIx items.size 0 lo:Nat):Int)==0&&(1:Int)==1&&(HT.sIx items.size items.size hi-HT.sIx items.size 0 lo)==items.size)=true then _ else _) _ _ s
 rw[if_pos (by rw[hw.1,hw.2]; simp)]
 unfold Builtin.Tuple.tupleIsExact
 refine wpAny_bind (wpAny_bind (wpAny_typeOf ht.typeIs (wpAny_pure ?_)))
 rw[if_pos (by decide)]
 exact wpAny_bind (wpAny_rule (wpAny_pure ⟨_,rfl,wpAny_pure h⟩))
end
section
variable{X:Cx}{XQ:XW}
def rSlA(K:PySem.W.Frag):V→Option Int→Option Int→Hp→VK→Prop:=fun x lo hi H Q=>∃ a xs,x=.ref a∧SqT K H a xs∧(HT.sIx xs.length 0 lo=0∧HT.sIx xs.length xs.length hi=xs.length)∧Q (.ref a) H
theorem sl_all:SlR X (rSlA X.K):=by
 intro pins s σ H x v vl vu lo hi sl Q I rx hs pl pu h
 obtain⟨a,xs,rfl,hx,hw,q⟩:=h
 cases rx
 obtain⟨its,r,ht,hz⟩:=I.tuple hx
 have hlen:its.toArray.size=xs.length:=by rw[List.size_toArray]; exact r.length.symm
 refine⟨"tuple",_,PyProof.Rows.slot_tuple_getitem.lookup,ht.typeIs,?_⟩
 exact getItem_tuple_all ht hs pl pu (by rw[hlen]; exact hw) ⟨.ref a,H,I,rfl,q⟩
def slD2(x:D)(lo hi:Option Int)(S:Sto):Out D:=match x with
 | .tup l=>if HT.sIx l.length 0 lo=0∧HT.sIx l.length l.length hi=l.length then .ok (.tup l) S else .ok (.tup (cutD l lo hi)) S
 | .lst i=>match S[i]? with
  | some c=>.ok (.lst S.length) (S++[⟨false,cutD c.xs lo hi⟩])
  | none=>.bad
 | _=>.bad
def sl2(fe:Ev D)(fl fh:Ev (Option Int)):Ev D:=fun ρ S=>(fe ρ S).bind fun x S1=>(fl ρ S1).bind fun l S2=>(fh ρ S2).bind fun u S3=>slD2 x l u S3
theorem je_slice2{e:Expr}{lo hi:Option Expr}{fe:Ev D}{fl fh:Ev (Option Int)}{pos p2:Pos}(he:JE X XQ e fe)(hl:JO X XQ lo fl)(hh:JO X XQ hi fh):JE X XQ (.Subscript e (.Slice lo hi none p2) pos) (sl2 fe fl fh):=by
 refine PE.mono (pe_slice ((sl_list.or sl_tup).or sl_all) he hl hh) fun σ H Q ⟨mp,ρ,S,G,p⟩=>?_
 refine bindP G p fun mp1 H1 x S1 v a1 G1 r1 p1=>?_
 refine bindP G1 p1 fun mp2 H2 l S2 l' a2 G2 r2 p2=>?_
 refine bindP G2 p2 fun mp3 H3 u S3 u' a3 G3 r3 p3=>?_
 cases (show l'=l from r2)
 cases (show u'=u from r3)
 have r1:=Rep.aft (a2.trans a3) _ _ r1
 cases x with
 | tup ds=>
  have p3:Post X.K XQ σ ρ mp3 H3 (if HT.sIx ds.length 0 l=0∧HT.sIx ds.length ds.length u=ds.length then .ok (.tup ds) S3 else .ok (.tup (cutD ds l u)) S3) Q:=p3
  obtain⟨a,xs,rfl,sq,q⟩:=Rep.tup r1
  by_cases hw:HT.sIx ds.length 0 l=0∧HT.sIx ds.length ds.length u=ds.length
  ·rw[if_pos hw] at p3
   exact .inr ⟨a,xs,rfl,sq,by rw[q.len]; exact hw,PostG.ok (R:=Rep X.K) p3 G3.rs r1⟩
  ·rw[if_neg hw] at p3
   exact .inl (.inr ⟨a,xs,rfl,sq,by rw[q.len]; exact hw,fun t ht=>post_tup p3 G3.rs (q.cut l u) ht⟩)
 | lst i=>
  have p3:Post X.K XQ σ ρ mp3 H3 (match S3[i]? with | some c=>.ok (.lst S3.length) (S3++[⟨false,cutD c.xs l u⟩]) | none=>.bad) Q:=p3
  cases zc:S3[i]? with
  | none=>rw[zc] at p3; exact p3.elim
  | some c=>
   rw[zc] at p3
   obtain⟨a,xs,rfl,_,sq,q,_⟩:=G3.rs.items r1 zc
   exact .inl (.inl ⟨a,xs,rfl,sq,fun t ht=>post_lst p3 G3.rs (q.cut l u) ht⟩)
 | _=>exact(show False from p3).elim
end
end DL
set_option Elab.async false
set_option linter.all false
set_option maxRecDepth 100000
namespace DL
open PySem PySem.Spec PyProof.Rows L2
section
variable{X:Cx}{XQ:XW}
def sbad:Sv:=fun _ _=>.bad
theorem js_bad{st:Stmt}:JS X XQ st sbad:=fun pins s σ H E I ⟨mp,ρ,S,G,p⟩=>(show False from p).elim
end
end DL
set_option Elab.async false
set_option linter.all false
set_option maxRecDepth 100000
namespace DL
open PySem PySem.Spec PyProof.Rows L2
theorem turnedL{X:Cx}{pins:List (Addr×Obj)}{σ:L2.St}{H:Hp}{s:Shared}{g:Heap}{tk:Nat}{ch:List Addr}(I:Inv X pins σ H s)(k:∀ b o,b∉ch→s.heap.get? b=some o→g.get? b=some o)(hf:∀ b∈ch,FpOk X pins H b):Inv X pins σ H { s with heap:=g,toks:=tk }:=by
 have nit:∀ b u,H b=some u→b∉ch:=fun b u e z=>by have:=(hf b z).1; rw[this] at e; cases e
 refine I.step (g':=s.gens) (d':=s.drawn) (ch:=ch) (fun b hb=>?_) (fun b o _ _ hc e _=>k b o hc e) (fun b o _ _ hc e _=>⟨o.slots,k b o hc e⟩) (fun _ _ _ _ n=>n)
  (fun b o hc e=>⟨o,k b o hc e⟩) (fun _ _ e=>e) (fun _ _ _ e=>e) (fun b ps e=>⟨#[],by rw[e]; simp⟩) (fun m hm=>?_) (fun b u e=>?_) I.bare
 ·obtain⟨f0,f1,f2,f3,f4,f5⟩:=hf b hb
  exact⟨f3,f1,f4,f5⟩
 ·obtain⟨o,es,ep,ho,r⟩:=hm
  exact⟨o,es,ep,k _ o (fun z=>(hf _ z).2.1 rfl) ho,r⟩
 ·refine(I.hok b u e).stay (fun c v hc q=>k c v ?_ q) (fun _ q=>q) fun _ _ q=>q
  rcases hc with z | z
  ·rw[z]; exact nit b u e
  ·exact nit c _ z
end DL
set_option Elab.async false
set_option linter.all false
set_option maxRecDepth 100000
namespace DL
open PySem PySem.Spec PyProof.Rows L2
theorem laid_turned{X:Cx}{pins:List (Addr×Obj)}{σ:L2.St}{H:Hp}{s:Shared}{g:Heap}{tk:Nat}{ch:List Addr}{vs:List V}{us:List Value}(I:Inv X pins σ H s)(hn:H s.heap.objs.size=none)(hz:vs.length≤sizeLine)(rv:Vals vs us)
  (tt:g.get? s.heap.objs.size=some { cls:=.type "tuple",data:=.seq us.toArray }) (k:∀ b o,b∉ch→s.heap.get? b=some o→g.get? b=some o) (hf:∀ b∈ch,FpOk X pins H b) (ltf:∀ b∈ch,b≠s.heap.objs.size):
  Inv X pins σ (upd H s.heap.objs.size (.tup vs)) { s with heap:=g,toks:=tk }:=by
 have I1:Inv X pins σ (upd H s.heap.objs.size (.tup vs)) { s with heap:=s.heap.push { cls:=.type "tuple",data:=.seq us.toArray } }:=
  I.laid (t':=s.toks) (fun b o e=>Heap.get?_push_of_some _ e) (Nat.le_refl _) (show ObjOk X.prog X.w _ _ _ (.tup vs) from⟨hz,us,rv,IsTup.new _ _⟩)
 refine turnedL (ch:=ch) (s:={ s with heap:=s.heap.push { cls:=.type "tuple",data:=.seq us.toArray } }) I1 (fun b o hb e=>?_) fun b hb=>?_
 ·by_cases hs:b=s.heap.objs.size
  ·subst hs
   rw[Heap.get?_push_size _ rfl] at e
   cases e
   exact tt
  ·have:s.heap.get? b=some o:=by
    rcases Heap.get?_push_cases e with⟨z,_⟩ | z
    ·exact absurd z hs
    ·exact z
   exact k b o hb this
 ·obtain⟨f0,f⟩:=hf b hb
  exact⟨by rw[upd_ne (ltf b hb)]; exact f0,f⟩
end DL
set_option Elab.async false
set_option linter.all false
set_option maxRecDepth 100000
namespace DL
open PySem PySem.Spec PyProof.Rows L2
structure Za(z ti to' i j a b:Addr):Prop where
 q1:ti≠z
 q2:to'≠z
 q3:i≠z
 q4:j≠z
 q5:ti≠to'
 q6:ti≠i
 q7:ti≠j
 q8:to'≠i
 q9:to'≠j
 q10:i≠j
 q11:a≠z
 q12:a≠to'
 q13:a≠i
 q14:a≠j
 q15:b≠z
 q16:b≠to'
 q17:b≠i
 q18:b≠j
end DL
set_option Elab.async false
set_option linter.all false
set_option maxRecDepth 100000
namespace DL
open PySem PySem.Spec PyProof.Rows L2
end DL
set_option Elab.async false
set_option linter.all false
set_option maxRecDepth 100000
namespace DL
open PySem PySem.Spec PyProof.Rows L2
section
variable{X:Cx}{XQ:XW}
def rvD(x:D)(st:Option Int)(S:Sto):Out D:=match x,st with
 | .tup l,some (-1)=>.ok (.tup l.reverse) S
 | _,_=>.bad
def rv(fe:Ev D)(fs:Ev (Option Int)):Ev D:=fun ρ S=>(fe ρ S).bind fun x S1=>(fs ρ S1).bind fun o S2=>rvD x o S2
end
end DL
set_option Elab.async false
set_option linter.all false
set_option maxRecDepth 100000
namespace DL
open PySem PySem.Spec PyProof.Rows L2
def flatD:D→Bool
 | .tup _=>false
 | .lst _=>false
 | .exn _ _=>false
 | .fv _=>false
 | _=>true
def toV:D→V
 | .bl b=>.bl b
 | .int i=>.int i
 | .str s=>.str s
 | _=>.non
def memD(x:D)(l:List D):Bool:=l.any fun y=>eqV (toV y) (toV x)
def itemsD(y:D)(S:Sto):Option (List D):=match y with
 | .tup l=>some l
 | .lst i=>(S[i]?).map (·.xs)
 | _=>none
def inND(neg:Bool)(x y:D)(S:Sto):Out D:=match itemsD y S with
 | some l=>if flatD x=true∧l.all flatD=true then .ok (.bl (if neg=true then !memD x l else memD x l)) S else .bad
 | none=>.bad
abbrev inD:=inND false
section
variable{K:PySem.W.Frag}{mp:List Addr}{H:Hp}
theorem rep_flat{d:D}{v:V}(h:Rep K mp H d v)(f:flatD d=true):v=toV d∧flatV v=true:=by
 cases d with
 | non=>cases (show v=.non from h); exact⟨rfl,rfl⟩
 | bl b=>cases (show v=.bl b from h); exact⟨rfl,rfl⟩
 | int i=>cases (show v=.int i from h); exact⟨rfl,rfl⟩
 | str s=>cases (show v=.str s from h); exact⟨rfl,rfl⟩
 | tup l=>cases f
 | lst i=>cases f
 | exn c n=>cases f
 | fv c=>cases f
theorem repL_flat:∀ {l:List D} {vs:List V},RepL K mp H l vs→l.all flatD=true→vs=l.map toV∧vs.all flatV=true
 | [],vs,h,_=>by cases (show vs=[] from h); exact⟨rfl,rfl⟩
 | d::l,vs,h,f=>by
  obtain⟨v,r,rfl,h1,h2⟩:=(show ∃ v r,vs=v::r∧Rep K mp H d v∧RepL K mp H l r from h)
  rw[List.all_cons,Bool.and_eq_true] at f
  obtain⟨a1,a2⟩:=rep_flat h1 f.1
  obtain⟨b1,b2⟩:=repL_flat h2 f.2
  exact⟨by rw[List.map_cons,←a1,←b1],by rw[List.all_cons,a2,b2]; rfl⟩
theorem od_in(neg:Bool):OpD K (rIn K neg) (inND neg):=by
 intro XQ σ ρ mp H S x y v u Q rs rx ry p
 unfold inND at p
 cases z:itemsD y S with
 | none=>rw[z] at p; exact p.elim
 | some l=>
  rw[z] at p
  by_cases h:flatD x=true∧l.all flatD=true
  ·simp only[if_pos h] at p
   obtain⟨a1,a2⟩:=rep_flat rx h.1
   have fin:∀ xs,RepL K mp H l xs→xs.all flatV=true∧Q (.bl (if neg=true then !inV v xs else inV v xs)) H:=fun xs q=>by
    obtain⟨b1,b2⟩:=repL_flat q h.2
    refine⟨b2,?_⟩
    have e:inV v xs=memD x l:=by
     rw[a1,b1]
     unfold inV memD
     rw[List.any_map]
     rfl
    rw[e]
    exact PostG.ok (R:=Rep K) p rs rfl
   cases y with
   | tup l'=>
    cases (Option.some.inj z)
    obtain⟨a,xs,rfl,s1,q1⟩:=Rep.tup ry
    obtain⟨b2,q⟩:=fin xs q1
    exact⟨a,xs,rfl,.inr s1,a2,b2,q⟩
   | lst i=>
    cases e:S[i]? with
    | none=>rw[show itemsD (.lst i) S=(S[i]?).map (·.xs) from rfl,e] at z; cases z
    | some c=>
     rw[show itemsD (.lst i) S=(S[i]?).map (·.xs) from rfl,e] at z
     cases (Option.some.inj z)
     obtain⟨a,xs,rfl,_,sq,q1,_⟩:=rs.items ry e
     obtain⟨b2,q⟩:=fin xs q1
     exact⟨a,xs,rfl,.inl sq,a2,b2,q⟩
   | _=>cases z
  ·simp only[if_neg h] at p; exact p.elim
end
section
variable{X:Cx}{XQ:XW}{a b:Expr}{fa fb:Ev D}{pos:Pos}
theorem jt_in(ha:JE X XQ a fa)(hb:JE X XQ b fb)(hm:behindInMarks .In b=false:=by rfl):JT X XQ (.Compare a [.In] [b] pos) (tb (o2 inD fa fb)):=jt_cmp op_in_seq (od_in false) ha hb hm
end
end DL
set_option Elab.async false
set_option linter.all false
set_option maxRecDepth 100000
namespace DL
open PySem PySem.Spec PyProof.Rows L2
section
variable{X:Cx}{XQ:XW}
inductive JFs(X:Cx)(XQ:XW):List Expr→List (Ev D)→Prop
 | nil:JFs X XQ [] []
 | cons {e:Expr} {f:Ev D} {es:List Expr} {fs:List (Ev D)}:JE X XQ e f→JFs X XQ es fs→JFs X XQ (e::es) (f::fs)
end
end DL
set_option Elab.async false
set_option linter.all false
set_option maxRecDepth 100000
namespace DL
open PySem PySem.Spec PyProof.Rows L2
structure Zb(z ti to' i j l a b c:Addr):Prop where
 tz:ti≠z
 oz:to'≠z
 iz:i≠z
 jz:j≠z
 lz:l≠z
 t_o:ti≠to'
 t_i:ti≠i
 t_j:ti≠j
 t_l:ti≠l
 oi:to'≠i
 oj:to'≠j
 ol:to'≠l
 ij:i≠j
 il:i≠l
 jl:j≠l
 az:a≠z
 ao:a≠to'
 ai:a≠i
 aj:a≠j
 al:a≠l
 bz:b≠z
 bo:b≠to'
 bi:b≠i
 bj:b≠j
 bl:b≠l
 cz:c≠z
 co:c≠to'
 ci:c≠i
 cj:c≠j
 cl:c≠l
end DL
set_option Elab.async false
set_option linter.all false
set_option maxRecDepth 100000
namespace DL
open PySem PySem.Spec PyProof.Rows L2
end DL
set_option Elab.async false
set_option linter.all false
set_option maxRecDepth 100000
namespace DL
open PySem PySem.Spec PyProof.Rows L2
section
open Builtin Builtin.Str
variable{prog:Program}{w:World}{A:Around}{E:Value→Shared→Prop}{s:Shared}
end
section
variable{X:Cx}{XQ:XW}
variable{a b:Expr}{fa fb:Ev D}{pos:Pos}
end
end DL
set_option Elab.async false
set_option linter.all false
set_option maxRecDepth 100000
namespace DL
open PySem PySem.Spec PyProof.Rows L2
def Iel(K:PySem.W.Frag)(a:Addr):It:=
 ⟨fun i H=>∃ xs x,SqL K H a xs∧xs[i]?=some x,fun i H x H'=>∃ y p,(∀ xs,SqL K H a xs→xs[i]?=some y)∧H p=none∧x=.ref p∧H'=upd H p (.tup [.int i,y]),fun i H=>∃ xs,SqL K H a xs∧xs.length≤i⟩
theorem turn_enumL{P:Program}{w:World}{K:PySem.W.Frag}{es:List Expr}{x1}{pos:Pos}(a it e:Addr)(ne:e≠it):
  Turn P w K (.Tuple es x1 pos) (Iel K a) [e,it] e (fun i h=>(∃ old,IsEnum h e it i old)∧h.IsListIter it a i) where
 mem:=by simp
 obj:=fun i h ⟨⟨old,st⟩,o,e1,c,d⟩ b hb=>by
  rcases List.mem_cons.mp hb with rfl | hb
  ·exact⟨_,st,fun v z=>by
    have z':Data.fields _=Data.cell v:=z
    cases z'⟩
  ·have eb:b=it:=by simpa using hb
   subst eb
   exact⟨o,e1,fun v z=>by rw[d] at z; cases z⟩
 keep:=fun i h h' ⟨⟨old,st⟩,ti⟩ k=>⟨⟨old,k e (by simp) _ st⟩,ti.at fun o e1=>k it (by simp) o e1⟩
 item:=by
  intro X hP hw hK hc i pins s σ H E I hf ⟨⟨old,st⟩,ti⟩ hg
  subst hP hw hK
  obtain⟨xs,x,hq,hx⟩:=hg
  obtain⟨its,rv,p,hz⟩:=I.list hq
  obtain⟨u,hu,ru⟩:=rv.get hx
  have hn:H s.heap.objs.size=none:=I.hok.fresh (Nat.le_refl _)
  refine wpAny_pyNext_enum_item st ti p.isList (x:=u) (by simpa using hu) ne fun g oe ti' tt _ kk=>?_
  refine⟨_,rfl,wpAny_letOwnedTupleGo_enum oe fun g2 e2 b2=>?_⟩
  have kk2:∀ b o,b∉[e,it]→s.heap.get? b=some o→g2.get? b=some o:=fun b o hb h1=>
   b2.extBut b o (fun z=>hb (by simp[z])) (kk b o (fun z=>hb (by simp[z])) (fun z=>hb (by simp[z])) h1)
  have el:s.heap.objs.size≠e:=Nat.ne_of_gt (Heap.lt_size st)
  have tt2:g2.get? s.heap.objs.size=some { cls:=.type "tuple",data:=.seq #[.int i s.toks,u] }:=b2.extBut _ _ el tt
  have ltf:∀ b∈[e,it],b≠s.heap.objs.size:=fun b hb=>by
   rcases List.mem_cons.mp hb with rfl | hb
   ·exact Ne.symm el
   ·have eb:b=it:=by simpa using hb
    subst eb
    obtain⟨o,e1,_⟩:=ti
    exact Nat.ne_of_lt (Heap.lt_size e1)
  have I2:Inv X pins σ (upd H s.heap.objs.size (.tup [.int i,x])) { s with heap:=g2,toks:=s.toks+1 }:=
   laid_turned I hn (by rw[sizeLine_eq]; simp only[List.length_cons,List.length_nil]; decide) (.cons ⟨s.toks,rfl⟩ (.cons ru .nil)) tt2 kk2 hf ltf
  exact⟨.ref s.heap.objs.size,_,I2,rfl,⟨x,_,fun ys hy=>by rw[I.list_inj hy hq]; exact hx,hn,rfl,rfl⟩,⟨⟨u,e2⟩,ti'.extBut b2.extBut (Ne.symm ne)⟩,fun b hb=>by
   rw[upd_ne (ltf b hb)]
   exact(hf b hb).1⟩
 done:=by
  intro X hP hw hK hc i pins s σ H E I hf ⟨⟨old,st⟩,ti⟩ hg
  subst hP hw hK
  obtain⟨xs,hq,hx⟩:=hg
  obtain⟨its,rv,p,hz⟩:=I.list hq
  have hl:=rv.length
  exact wpAny_pyNext_enum_end (I.ok.hd hc) st ti p.isList (by simp; omega) fun g eb=>⟨rfl,turnedL I (fun b o hb e1=>eb b o (fun z=>hb (by simp[z])) e1) hf⟩
 self:=fun _ _ _ _ _ ⟨⟨_,st⟩,_⟩ h=>wpAny_pyIter_enum st h
section
variable{X:Cx}{XQ:XW}
def iEnl(K:PySem.W.Frag)(ta:TA):TI:=fun σ H R=>ta σ H fun xs H1=>∃ a,xs=[.ref a]∧(∃ ys,SqL K H1 a ys)∧R (Iel K a) H1
theorem pi_enumL{es:List Expr}{x1}{tp:Pos}{a:Expr}{ta:TA}{p pos:Pos}(hg:Gl X "enumerate")(hm:X.mg "enumerate"=none)(ha:PA X [a] ta)(hs:starEach [a] X.env=[(false,eval a X.env)]:=by rfl):
  PI X (.Tuple es x1 tp) (.Call (.Name "enumerate" p) [a] [] pos) (iEnl X.K ta):=by
 intro pins s σ H R I h
 refine wpAny_Call_Name_kw (ld_blt I hg hm (by rfl) ?_ (by decide) (by decide))
 refine PyProof.Rows.callWith_type1 (thn (ha pos pins s σ H _ I h) fun us s1 ⟨vs,H1,I1,r1,q1⟩=>?_) hs rfl
 obtain⟨c,e,⟨ys,hq⟩,q⟩:=q1
 subst e
 obtain⟨u,rfl,rx⟩:=vals1 r1
 cases rx
 obtain⟨its,rv,pt,hz⟩:=I1.list hq
 refine call_enumerate_list pt.isList fun g e1 i1 _ kk=>?_
 refine wpAny_pyIter_enum e1 ?_
 have I2:Inv X pins σ H1 { s1 with heap:=g }:=I1.kept (t':=s1.toks) kk
 refine⟨s1.heap.objs.size+1,[s1.heap.objs.size+1,s1.heap.objs.size],_,_,H1,rfl,I2,turn_enumL c s1.heap.objs.size (s1.heap.objs.size+1) (Nat.succ_ne_self _),⟨⟨.none,e1⟩,i1⟩,fun b hb=>?_,q⟩
 have hb':s1.heap.objs.size≤b:=by
  rcases List.mem_cons.mp hb with rfl | hb
  ·exact Nat.le_succ _
  ·have eb:b=s1.heap.objs.size:=by simpa using hb
   exact Nat.le_of_eq eb.symm
 exact I1.fpOk hb' (I1.hok.fresh hb')
def ienumL(f:Ev (List D)):Ev Src:=fun ρ S=>(f ρ S).bind fun ds S1=>match ds with
 | [.lst i]=>match S1[i]? with
  | some c=>.ok ⟨fun k S=>(S[i]?).bind fun c=>(c.xs[k]?).map fun d=>.tup [.int k,d],c.xs.length+1⟩ S1
  | none=>.bad
 | _=>.bad
theorem iel_ok{K:PySem.W.Frag}{mp:List Addr}{H:Hp}{a:Addr}{i:Nat}(hi:mp[i]?=some a):ItOk K mp H (Iel K a) (fun k S=>(S[i]?).bind fun c=>(c.xs[k]?).map fun d=>.tup [.int k,d]):=by
 intro mp' H' S' af rs k
 have hi':=af.pre i a hi
 have hl:i<S'.length:=by rw[←rs.len]; exact(List.getElem?_eq_some_iff.mp hi').1
 have hc:S'[i]?=some S'[i]:=List.getElem?_eq_getElem hl
 obtain⟨a2,xs,e1,e2,sq,r,_⟩:=rs.items (v:=.ref a) ⟨a,rfl,hi'⟩ hc
 cases e1
 simp only[hc,Option.bind_some]
 cases z:(S'[i]).xs[k]? with
 | none=>
  refine⟨xs,sq,?_⟩
  rw[r.len]
  exact List.getElem?_eq_none_iff.mp z
 | some d=>
  obtain⟨v,e,q⟩:=r.get z
  refine⟨⟨xs,v,sq,e⟩,fun x H2 ⟨y,p,h2,h3,h4,h5⟩=>?_⟩
  have h2:=h2 xs sq
  rw[e] at h2
  cases h2
  subst h4 h5
  have af2:Aft K mp' H' mp' (upd H' p (.tup [.int k,v])):=aft_new h3
  exact⟨af2,rs.new h3,p,_,rfl,SqT.of upd_same,RepL.cons rfl (RepL.cons (Rep.aft af2 _ _ q) RepL.nil)⟩
theorem ji_enumL{es:List Expr}{x1}{tp:Pos}{a:Expr}{f:Ev (List D)}{p pos:Pos}(hg:Gl X "enumerate")(hm:X.mg "enumerate"=none)(ha:JA X XQ [a] f)(hs:starEach [a] X.env=[(false,eval a X.env)]:=by rfl):
  JI X XQ (.Tuple es x1 tp) (.Call (.Name "enumerate" p) [a] [] pos) (ienumL f):=by
 refine PI.mono (pi_enumL hg hm ha hs) fun σ H R ⟨mp,ρ,S,G,p⟩=>?_
 refine bindP G p fun mp1 H1 ds S1 vs a1 G1 r1 p1=>?_
 split at p1
 ·rename_i i
  split at p1
  ·rename_i c zc
   obtain⟨v,rfl,h1⟩:=RepL.one r1
   obtain⟨a2,xs,rfl,e2,sq,q,_⟩:=G1.rs.items h1 zc
   exact⟨a2,rfl,⟨xs,sq⟩,PostG.ok (R:=kI X.K) (d:=⟨fun k S=>(S[i]?).bind fun c=>(c.xs[k]?).map fun d=>.tup [.int k,d],c.xs.length+1⟩) (S:=S1) p1 G1.rs (iel_ok e2)⟩
  ·exact p1.elim
 ·exact p1.elim
end
end DL
set_option Elab.async false
set_option linter.all false
set_option maxRecDepth 100000
namespace DL
open PySem PySem.Spec PyProof.Rows L2
end DL
set_option Elab.async false
set_option linter.all false
set_option maxRecDepth 100000
namespace DL
open PySem PySem.Spec PyProof.Rows L2
structure XB(bm:List Value):Prop where
 v:bm.contains (.type "ValueError")=true
 a:bm.contains (.type "AttributeError")=false
 n:bm.contains (.type "NameError")=false
 b:bm.contains (.type "BaseException")=true
theorem XB.has{bm:List Value}(x:XB bm)(C:Addr):(Value.ref C::bm).contains (.type "ValueError")=true:=by rw[List.contains_cons,x.v,Bool.or_true]
theorem XB.noA{bm:List Value}(x:XB bm)(C:Addr):(Value.ref C::bm).contains (.type "AttributeError")=false:=by rw[List.contains_cons,x.a]; rfl
theorem XB.noN{bm:List Value}(x:XB bm)(C:Addr):(Value.ref C::bm).contains (.type "NameError")=false:=by rw[List.contains_cons,x.n]; rfl
abbrev FV:=PySem.F.excBase_ValueError
theorem vi_find(K:PySem.W.Frag):PySem.W.findCls K (.type "ValueError") (.type "type") "__init__"=some (.val (.builtin "ValueError.__init__")):=by
 first
  | rfl
  | kernel_rfl
section
variable{prog:Program}{w:World}{A:Around}{E:Value→Shared→Prop}{s:Shared}
theorem vi_getm{K:PySem.W.Frag}{Q:Value×List Value→Shared→Prop}{pl:Sem Bool}(X:K.In s.heap)(h:Q (.builtin "ValueError.__init__",[]) { s with toks:=s.toks+1 }):
  wpAny (model prog w) A (getMethod (.type "ValueError") (Str.ofString "__init__") pl) Q E s:=by
 have st:opaqueClassAbove (.type "ValueError")=pure none:=by unfold opaqueClassAbove; dsimp only; rw[show Manifest.isStub "ValueError"=false by decide +kernel]; rfl
 have ty:PySem.W.Looks (model prog w) s.heap (typeOf (.type "ValueError")) (.type "type"):=PySem.W.Looks.of_pure (by first | rfl | kernel_rfl)
 have ga:PySem.W.findIn K (.type "type") "__getattribute__"=some (some (.builtin "type.__getattribute__")):=PySem.W.type_tga
 unfold getMethod specialOf
 refine wpAny_bind (wpAny_bind (ty.here ((PySem.W.looks_findIn X ga).here ?_)))
 dsimp only
 rw[if_pos PySem.W.canon_tga]
 refine wpAny_bind (wpAny_mono (Q:=fun v=>Q (v,[])) (E:=E) ?_ (fun _ _ z=>wpAny_pure z) fun _ _ z=>z)
 refine PySem.W.cls_open X (PySem.W.Looks.of_pure st) ty ga (PySem.W.looks_hook X (r:=none) (by rfl)) (by show PySem.W.subIn K _ _=_; rfl) (vi_find K) ?_
 refine wpAny_pure ?_
 show wpAny _ _ (handedOut _) _ _ _
 rw[PySem.W.handedOut_of (by rfl)]
 exact wpAny_pure h
end
section
variable{prog:Program}{w:World}{A:Around}{E:Value→Shared→Prop}{h:Heap}{g:Array GenState}{d:Drawn}{t:Nat}{os:OsState}
variable{nm q:Str}{C N:Addr}{bs bm:List Value}{hdct:Bool}{sn:List Str}{sub:List Value}{ab:Bool}{col:Option Bool}{dd:Option Addr}{k0 k1 k2 k3 k5:Option Value}
theorem vi_call{e:Addr}{dx:Option Addr}{t0:Addr}{v:Value}{Q:Value→Shared→Prop}(x:XB bm)(hC:h.get? C=some (excClassObj nm q C N bs bm hdct sn sub ab col dd k0 k1 k2 k3 k5 "ValueError.__new__"))
  (he:h.get? e=some { cls:=.ref C,dict:=dx,data:=.fields #[.ref t0,.none,.none,.none,.bool false,.none] })
  (hq:∀ h',h'.get? e=some { cls:=.ref C,dict:=dx,data:=.fields #[.ref h.objs.size,.none,.none,.none,.bool false,.none] }→(∀ b o,b≠e→h.get? b=some o→h'.get? b=some o)→h'.get? h.objs.size=some { cls:=.type "tuple",data:=.seq #[v] }→Q .none ⟨h',g,d,t,os⟩):
  wpAny (model prog w) A (call (.builtin "ValueError.__init__") [.ref e,v]) Q E ⟨h,g,d,t,os⟩:=by
 have hB:=x.has C
 refine wpAny_call (codeAny_call_builtin FV.init.plain FV.initEntry ?_)
 have chk:∀ {M:Model} {A:Around} {E:Value→Shared→Prop} {Q:Unit→Shared→Prop},Q () ⟨h,g,d,t,os⟩→wpAny M A (checkBuiltinCall "ValueError.__init__" ⟨[.ref e,v],[]⟩) Q E ⟨h,g,d,t,os⟩:=fun hQ=>by
  have ns:=FV.noStar
  simp only[checkBuiltinCall,FV.initKind,FV.initSplit,FV.initRow]
  repeat (first | with_reducible refine wpAny_loadPart_at he ?_ | with_reducible refine wpAny_loadPart_at hC ?_ | (with_reducible refine wpAny_isSubtype_exc hC ?_; rw[hB]) | wp_step)
  exact hQ
 refine chk ?_
 wp_walk
 have le:e≠h.objs.size:=Nat.ne_of_lt (Heap.lt_size he)
 refine hq _ ?_ (fun b o hb ho=>?_) ?_
 ·rw[Heap.get?_update_self _ (Heap.get?_push_of_some _ he) rfl]
  rfl
 ·rw[Heap.get?_update_other _ _ (Ne.symm hb)]
  exact Heap.get?_push_of_some _ ho
 ·rw[Heap.get?_update_other _ _ le]
  exact Heap.get?_push_size _ rfl
theorem x_check_new{M:Model}{v:Value}{Q:Unit→Shared→Prop}(x:XB bm)(hC:h.get? C=some (excClassObj nm q C N bs bm hdct sn sub ab col dd k0 k1 k2 k3 k5 "ValueError.__new__"))(hq:Q () ⟨h,g,d,t,os⟩):
  wpAny M A (checkBuiltinCall "ValueError.__new__" ⟨[.ref C,v],[]⟩) Q E ⟨h,g,d,t,os⟩:=by
 have hB:=x.has C
 have ns:=FV.noStar
 simp only[checkBuiltinCall,FV.newKind,FV.newSplit,FV.newRow]
 repeat (first | refine wpAny_loadPart_at hC ?_ | (refine wpAny_isSubtype_exc hC ?_; rw[hB]) | refine wpAny_staticBase_exc hC ?_ | refine wpAny_madeBy_exc hC ?_ | simp only[bne_self_eq_false,Bool.false_eq_true,if_false] | wp_step)
 exact hq
theorem x_new{R:Result→Shared→Prop}{v:Value}(x:XB bm)(hC:h.get? C=some (excClassObj nm q C N bs bm hdct sn sub ab col dd k0 k1 k2 k3 k5 "ValueError.__new__"))
  (hq:R (.ok (.ret (.ref (h.objs.size+1)))) ⟨(h.push { cls:=.type "tuple",data:=.seq #[v] }).push { cls:=.ref C,data:=.fields #[.ref h.objs.size,.none,.none,.none,.bool false,.none] },g,d,t,os⟩):
  codeAny (model prog w) A (.builtin "ValueError.__new__" ⟨[.ref C,v],[]⟩) R ⟨h,g,d,t,os⟩:=by
 have he:=FV.ends
 have hB:=x.has C
 have hA:=x.noA C
 have hN:=x.noN C
 refine codeAny_builtinAt FV.entry ?_
 unfold Builtin.«BaseException.__new__»
 refine PySem.wpAt_bind ?_
 show PySem.wpAt _ _ _ (PySem.stack >>= _) _ _ _
 refine PySem.wpAt_bind (PySem.wpAt_stack fun p below=>PySem.wpAt_of_wpAny ?_)
 wp_walk
 refine PySem.wpAt_of_wpAny ?_
 rw[FV.owner]
 repeat (first | with_reducible refine wpAny_madeHere_exc FV.canon hC ?_ | with_reducible refine wpAny_loadPart_at hC ?_ | (with_reducible refine wpAny_isSubtype_exc hC ?_; first | rw[hB] | rw[hA] | rw[hN]) | wp_step)
 show R _ _
 rw[Heap.size_push]
 exact hq
theorem x_call{K:PySem.W.Frag}{fI:Addr}{oI:Obj}{v:Value}{Q:Value→Shared→Prop}(x:XB bm)(X:K.In h)(hC:h.get? C=some (excClassObj nm q C N bs bm hdct sn sub ab col dd k0 k1 k2 k3 k5 "ValueError.__new__"))
  (hi:PySem.W.findIn K (.ref C) "__init__"=some (some (.ref fI))) (hfI:h.get? fI=some oI) (hfc:oI.cls=.type "function")
  (hq:∀ h' e,h.objs.size≤e→Heap.MadeExcOf h h' e (.ref C) [v]→wpAny (model prog w) (A.under (.builtin "type.__call__" ⟨[.ref C,v],[]⟩)) (call (.ref fI) [.ref e,v]) (fun r s'=>r=.none∧Q (.ref e) s') E ⟨h',g,d,t,os⟩):
  wpAny (model prog w) A (call (.ref C) [v]) Q E ⟨h,g,d,t,os⟩:=by
 have hB:=x.has C
 have hA:=x.noA C
 have hN:=x.noN C
 have f1:=tc_lookup
 have f2:=tc_bind (.ref C)
 have hT:(⟨h,g,d,t,os⟩:Shared).TypeIs (.ref C) "type":=⟨_,hC,rfl⟩
 refine wpAny_call (codeAny_of_tree ?_)
 show wpAny _ _ (callAny (.ref C) _) _ _ _
 repeat (any_goals (first | assumption | with_reducible refine wpAny_loadPart_at hC ?_ | wp_step))
 refine⟨rfl,?_⟩
 refine codeAny_call_builtin_at (Code.quiet_builtin _ (by decide +kernel)) entry_typeCall (wpAny_check_type_call_sub hC ?_)
 repeat (first | with_reducible refine wpAny_loadPart_at hC ?_ | with_reducible refine wpAny_madeBy_exc hC ?_ | wp_step)
 refine codeAny_call_builtin_code (Code.quiet_builtin _ FV.quiet) (x_check_new x hC (x_new x hC ?_))
 show wpAny _ _ _ _ _ _
 have kp:∀ b o,h.get? b=some o→((h.push { cls:=.type "tuple",data:=.seq #[v] }).push { cls:=.ref C,data:=.fields #[.ref h.objs.size,.none,.none,.none,.bool false,.none] }).get? b=some o:=fun b o e=>Heap.get?_push_of_some _ (Heap.get?_push_of_some _ e)
 have he:((h.push { cls:=.type "tuple",data:=.seq #[v] }).push { cls:=.ref C,data:=.fields #[.ref h.objs.size,.none,.none,.none,.bool false,.none] }).get? (h.objs.size+1)=some { cls:=.ref C,data:=.fields #[.ref h.objs.size,.none,.none,.none,.bool false,.none] }:=by heap_get
 have ht:((h.push { cls:=.type "tuple",data:=.seq #[v] }).push { cls:=.ref C,data:=.fields #[.ref h.objs.size,.none,.none,.none,.bool false,.none] }).get? h.objs.size=some { cls:=.type "tuple",data:=.seq #[v] }:=Heap.get?_push_of_some _ (Heap.get?_push_size _ rfl)
 have hC1:=kp _ _ hC
 have hf1:=kp _ _ hfI
 have X1:=X.keeps kp
 have hcC:(Value.ref C::bm).contains (.ref C)=true:=by simp
 have done:=hq _ (h.objs.size+1) (Nat.le_succ _) ⟨kp,Heap.get?_none_of_le (Nat.le_succ _),h.objs.size,he,Heap.get?_none_of_le (Nat.le_refl _),ht⟩
 generalize (h.push { cls:=.type "tuple",data:=.seq #[v] }).push { cls:=.ref C,data:=.fields #[.ref h.objs.size,.none,.none,.none,.bool false,.none] }=h1 at *
 unfold isInstance
 repeat (first | with_reducible refine wpAny_loadPart_at he ?_ | (with_reducible refine wpAny_isSubtype_exc hC1 ?_; rw[hcC]) | wp_step)
 show wpAny _ _ (typeLookup (.ref C) _) _ _ _
 refine(PySem.W.looks_findIn X1 hi).here ?_
 refine wpAny_holding (wpAny_bind ?_)
 unfold bindSpecial
 refine wpAny_bind (wpAny_typeOf (T:="function") ⟨_,hf1,hfc⟩ ?_)
 rw[if_pos (by decide)]
 refine wpAny_pure (wpAny_bind (wpAny_mono done (fun r s' hr=>?_) fun _ _ x=>x))
 obtain⟨rfl,hQ⟩:=hr
 wp_walk
 exact hQ
end
end DL
set_option Elab.async false
set_option linter.all false
set_option maxRecDepth 100000
namespace DL
open PySem PySem.Spec PyProof.Rows L2
section
variable{M:Model}{A:Around}{E:Value→Shared→Prop}{env:PySem.Env}
variable{nm q:Str}{C N:Addr}{bs bm:List Value}{hdct:Bool}{sn:List Str}{sub:List Value}{ab:Bool}{col:Option Bool}{dd:Option Addr}{k0 k1 k2 k3 k5:Option Value}{newId:String}
def FreshX(h:Heap)(e C:Addr)(dx:Option Addr):Prop:=∃ t:Addr,h.get? e=some { cls:=.ref C,dict:=dx,data:=.fields #[.ref t,.none,.none,.none,.bool false,.none] }
theorem x_raiseStmt{s:Shared}{x:Sem Value}{Q:Flow→Shared→Prop}(hb:XB bm)(hh:A.handled=none)
  (h:wpAny M A x (fun v s₁=>∃ e dx,v=.ref e∧s₁.heap.get? C=some (excClassObj nm q C N bs bm hdct sn sub ab col dd k0 k1 k2 k3 k5 newId)∧FreshX s₁.heap e C dx∧E (.ref e) s₁) E s):
  wpAny M A (raiseStmt env (some x) none) Q E s:=by
 have hB:(Value.ref C::bm).contains (.type "BaseException")=true:=by rw[List.contains_cons,hb.b,Bool.or_true]
 unfold raiseStmt
 refine wpAny_bind (wpAny_mono h (fun v s₁ h₁=>?_) fun _ _ x=>x)
 obtain⟨e,dx,rfl,hC,⟨t,he⟩,hE⟩:=h₁
 obtain⟨hp,g,d,tk,os⟩:=s₁
 repeat (first | with_reducible refine wpAny_loadPart_at he ?_ | with_reducible refine wpAny_loadPart_at hC ?_ | (with_reducible refine wpAny_isSubtype_exc hC ?_; rw[hB]) | wp_step)
 exact wpAny_raiseNew_none hh hE
theorem x_Raise{s:Shared}{x:Str}{np cpos pos:Pos}{e1:Expr}{es:List Expr}{Q:Flow→Shared→Prop}(hb:XB bm)(hh:A.handled=none)
  (h:wpAny M A (eval (.Name x np) env) (fun f s₁=>f=.ref C∧wpAny M A (spliced (backTo cpos (starEach (e1::es) env))) (fun vs s₂=>
   s₂.heap.get? C=some (excClassObj nm q C N bs bm hdct sn sub ab col dd k0 k1 k2 k3 k5 newId)∧wpAny M A (call (.ref C) vs) (fun v s₃=>∃ e dx,v=.ref e∧
    s₃.heap.get? C=some (excClassObj nm q C N bs bm hdct sn sub ab col dd k0 k1 k2 k3 k5 newId)∧FreshX s₃.heap e C dx∧E (.ref e) s₃) E s₂) E s₁) E s)
  (he:starEach (e1::es) env=(false,eval e1 env)::starEach es env:=by rfl) (hpl:(backTo cpos (starEach es env)).any (·.1)=false:=by rfl):
  wpAny M A (exec (.Raise (some (.Call (.Name x np) (e1::es) [] cpos)) none pos) env) Q E s:=by
 have plain:(backTo cpos (starEach (e1::es) env)).any (·.1)=false:=by
  rw[he]
  show(false||(backTo cpos (starEach es env)).any (·.1))=false
  rw[hpl]; rfl
 rw[arm_exec_Raise]
 have key:wpAny M A (eval (.Call (.Name x np) (e1::es) [] cpos) env) (fun v s₁=>∃ e dx,v=.ref e∧s₁.heap.get? C=some (excClassObj nm q C N bs bm hdct sn sub ab col dd k0 k1 k2 k3 k5 newId)∧FreshX s₁.heap e C dx∧E (.ref e) s₁) E s:=by
  refine wpAny_Call_ofName (wpAny_mono h (fun f s₁ h₁=>?_) fun _ _ x=>x)
  obtain⟨rfl,h₁⟩:=h₁
  unfold callWith
  have ev:wpAny M A (evalArgs (.ref C) true (backTo cpos (starEach (e1::es) env)) []) (fun a s₂=>a.kw=[]∧s₂.heap.get? C=some (excClassObj nm q C N bs bm hdct sn sub ab col dd k0 k1 k2 k3 k5 newId)∧wpAny M A (call (.ref C) a.pos) (fun v s₃=>∃ e dx,v=.ref e∧
    s₃.heap.get? C=some (excClassObj nm q C N bs bm hdct sn sub ab col dd k0 k1 k2 k3 k5 newId)∧FreshX s₃.heap e C dx∧E (.ref e) s₃) E s₂) E s₁:=by
   rw[he] at h₁ ⊢
   exact PySem.Calls.evalArgs_plain (wpAny_mono h₁ (fun vs s₂ z=>⟨rfl,z⟩) fun _ _ x=>x)
  refine wpAny_bind (wpAny_holding (wpAny_mono ev (fun a s₂ h₂=>wpAny_bind (wpAny_standAt ?_)) fun _ _ x=>x))
  obtain⟨ap,ak⟩:=a
  obtain⟨hk,hC,h₂⟩:=h₂
  obtain rfl:ak=[]:=hk
  obtain⟨hp,g,d,tk,os⟩:=s₂
  simp only[plain]
  refine wpAny_bind (wpAny_keeperOf_exc hC ?_)
  exact wpAny_bind (wpAny_mono h₂ (fun r s₃ hr=>wpAny_bind (wpAny_holding (wpAny_point (wpAny_pure hr)))) fun _ _ x=>x)
 first
  | exact wpAny_bind (wpAny_standAt (x_raiseStmt hb hh (wpAny_bind (wpAny_mono key (fun v s₃ h₃=>wpAny_bind (wpAny_standAt (wpAny_pure h₃))) fun _ _ x=>x))))
  | (simp only[evalOpt,Option.map]; exact wpAny_bind (wpAny_standAt (x_raiseStmt hb hh (wpAny_bind (wpAny_mono key (fun v s₃ h₃=>wpAny_bind (wpAny_standAt (wpAny_pure h₃))) fun _ _ x=>x)))))
end
end DL
set_option Elab.async false
set_option linter.all false
set_option maxRecDepth 100000
namespace DL
open PySem PySem.Spec PyProof.Rows L2
def FX(e C:Addr)(dx:Option Addr):HO:=.ext fun h=>FreshX h e C dx
theorem fx_ok{P:Program}{w:World}{H:Hp}{h:Heap}{e C:Addr}{dx:Option Addr}(f:FreshX h e C dx):ObjOk P w H h e (FX e C dx):=
 ⟨f,(let ⟨_,q⟩:=f; ⟨_,q⟩),fun _ _ ⟨t,q⟩ k=>⟨t,k _ q⟩⟩
theorem upd_self{H:Hp}{a:Addr}{o:HO}(h:H a=some o):upd H a o=H:=by
 funext b
 by_cases c:b=a
 ·subst c; rw[upd_same,h]
 ·rw[upd_ne c]
structure KX(K:PySem.W.Frag)(C:Addr):Prop where
 ex:∃ nm q N bs bm hdct sn sub ab col dd k0 k1 k2 k3 k5,K.lookup C=some (excClassObj nm q C N bs bm hdct sn sub ab col dd k0 k1 k2 k3 k5 "ValueError.__new__")∧XB bm
section
variable{X:Cx}
def tVI(K:PySem.W.Frag)(t:TA):TE:=fun σ H Q=>t σ H fun vs H1=>∃ e v C dx,vs=[.ref e,v]∧H1 e=some (FX e C dx)∧KX K C∧Q .non H1
theorem pe_vinit{a b:Expr}{t:TA}{p apos pos:Pos}{pl:Sem Bool}(hg:Gl X "ValueError")(hm:X.mg "ValueError"=none)(ha:PA X [a,b] t)
  (ht:eval (.Call (.Attribute (.Name "ValueError" p) "__init__" apos) [a,b] [] pos) X.env=(do
   let ov ←eval (.Name "ValueError" p) X.env
   standAt apos.atName
   let (f,first) ←holding [ov] (getMethod ov "__init__" pl)
   callWith pos f first (backTo pos (starEach [a,b] X.env)) (backToKw pos (keywordEach [] X.env))))
  (hs:starEach [a,b] X.env=(false,eval a X.env)::starEach [b] X.env:=by rfl) (hpl:(backTo pos (starEach [b] X.env)).any (·.1)=false:=by rfl):
  PE X (.Call (.Attribute (.Name "ValueError" p) "__init__" apos) [a,b] [] pos) (tVI X.K t):=by
 intro pins s σ H Q I h
 refine PySem.W.methodCall_KW (pl:=pl) (ld_blt I hg hm (by rfl) ?_ (by decide) (by decide)) ht
 refine vi_getm I.kIn ?_
 have hA:=ha pos pins { s with toks:=s.toks+1 } σ H _ (I.tok _) h
 show wpAny _ _ (callWith pos (.builtin "ValueError.__init__") [] (backTo pos (starEach [a,b] X.env)) _) _ _ _
 rw[hs] at hA ⊢
 refine Calls.callWith_builtin (by show(false||(backTo pos (starEach [b] X.env)).any (·.1))=false; rw[hpl]<;>rfl) (Calls.evalArgs_plain ?_)
 refine thn hA fun us s2 ⟨vs,H2,I2,r2,e,v,C,dx,ev,hH,kx,q⟩=>?_
 subst ev
 cases r2 with
 | cons ra rb=>
  cases rb with
  | cons rv rn=>
   cases rn
   cases ra
   obtain⟨nm,qn,N,bs,bm,hdct,sn,sub,ab,col,dd,k0,k1,k2,k3,k5,lk,xb⟩:=kx.ex
   have hC:=I2.kIn _ _ lk
   obtain⟨⟨t0,he⟩,_,_⟩:=(show ObjOk X.prog X.w H2 s2.heap e (FX e C dx) from I2.hok e _ hH)
   obtain⟨hp,g,d,tk,os⟩:=s2
   refine vi_call xb hC he fun h' e1 k1' _=>?_
   have I3:=I2.write (h':=h') (x:=e) (e:=e) (o:=FX e C dx) (t':=tk) (by rw[hH]; exact trivial) (.inl rfl) (fun b u hb hu=>k1' b u hb hu) ⟨_,e1⟩ (fx_ok ⟨_,e1⟩)
   rw[upd_self hH] at I3
   exact⟨.non,H2,I3,rfl,q⟩
end
end DL
set_option Elab.async false
set_option linter.all false
set_option maxRecDepth 100000
namespace DL
open PySem PySem.Spec PyProof.Rows L2
def spI(K:PySem.W.Frag):Sp:=fun vs H Q _=>∃ e v C dx,vs=[.ref e,v]∧H e=some (FX e C dx)∧KX K C∧Q .non H
section
variable{X:Cx}{pins:List (Addr×Obj)}{σ:L2.St}{H:Hp}{s:Shared}{C f:Addr}{fd:FuncData}{ps:List Str}{k:Nat}
theorem run_x{oI:Obj}{v:V}{u:Value}(kx:KX X.K C)(hi:PySem.W.findIn X.K (.ref C) "__init__"=some (some (.ref f)))(lf:X.K.lookup f=some oI)(hfc:oI.cls=.type "function")
  (F:FnOk X.prog X.w X.K X.mg X.base CX0 k f fd ps (spI X.K)) (hl:ps.length=2) (hr:Room (k+1) X.A) (hb:Binds X.K fd ps []) (I:Inv X pins σ H s) (rv:RelV v u):
  wpAny (model X.prog X.w) X.A (call (.ref C) [u]) (fun r s'=>∃ e,r=.ref e∧(H e=none∧X.s₀.heap.get? e=none)∧Inv X pins σ (upd H e (FX e C none)) s') X.xe s:=by
 obtain⟨nm,qn,N,bs,bm,hdct,sn,sub,ab,col,dd,k0,k1,k2,k3,k5,lk,xb⟩:=kx.ex
 obtain⟨hp,g,d,tk,os⟩:=s
 refine x_call xb I.kIn (I.kIn _ _ lk) hi (I.kIn _ _ lf) hfc fun h' e le hm=>?_
 have hn:H e=none:=I.hok.fresh le
 have h0:X.s₀.heap.get? e=none:=Heap.get?_none_of_le (Nat.le_trans I.sz le)
 obtain⟨t,ht,_,_⟩:=hm.there
 have I1:Inv X pins σ (upd H e (FX e C none)) ⟨h',g,d,tk,os⟩:=I.laid (t':=tk) hm.keeps le (fx_ok ⟨t,ht⟩)
 refine wpAny_call (codeAny_mono (F.run (X.A.under (.builtin "type.__call__" ⟨[.ref C,u],[]⟩)) X.stack ⟨h',g,d,tk,os⟩ (upd H e (FX e C none)) ⟨[.ref e,u],[]⟩ [.ref e,u] [.ref e,v] (fun v' H'=>v'=.non∧H'=upd H e (FX e C none)) E0
  (hr.make C [u] []) (I1.env0.make C [u] []) (by have:=hb ⟨h',g,d,tk,os⟩ [.ref e,u] I1.kIn (by simpa using hl.symm); simpa using this) (.cons rfl (.cons rv .nil)) ⟨e,v,C,none,rfl,upd_same,kx,rfl,rfl⟩) fun r s' hq=>?_)
 cases r with
 | error x=>exact hq.elim
 | ok fl=>
  cases fl with
  | ret u'=>
   obtain⟨v',H',I',r',e1,e2⟩:=I1.after hq
   subst e1 e2
   exact⟨r',e,rfl,⟨hn,h0⟩,I'⟩
  | next=>exact hq.elim
  | brk=>exact hq.elim
  | cont=>exact hq.elim
def tRz(C:Addr)(W:L2.St→Hp→Addr→Prop)(t:TA):TS:=fun _ σ H=>t σ H fun vs H1=>∃ v,vs=[v]∧∀ e,H1 e=none→W σ (upd H1 e (FX e C none)) e
theorem ps_raise{W:L2.St→Hp→Addr→Prop}{oI:Obj}{x:Str}{np cpos pos:Pos}{a:Expr}{t:TA}(hW:∀ (pins:List (Addr×Obj)) (σ:L2.St) (H:Hp) (e:Addr) (s':Shared),Inv X pins σ H s'→H e=some (FX e C none)→X.s₀.heap.get? e=none→W σ H e→X.xe (.ref e) s')(hcm:X.calm=true)
  (hg:Gl X x) (hm:X.mg x=some (.ref C)) (kx:KX X.K C) (hi:PySem.W.findIn X.K (.ref C) "__init__"=some (some (.ref f))) (lf:X.K.lookup f=some oI) (hfc:oI.cls=.type "function")
  (F:FnOk X.prog X.w X.K X.mg X.base CX0 k f fd ps (spI X.K)) (hl:ps.length=2) (hr:Room (k+1) X.A) (hb:Binds X.K fd ps []) (ha:PA X [a] t) (hdb:(x==("__debug__":Str))=false:=by decide)
  (he:starEach [a] X.env=(false,eval a X.env)::starEach [] X.env:=by rfl) (hpl:(backTo cpos (starEach [] X.env)).any (·.1)=false:=by rfl):
  PS X (.Raise (some (.Call (.Name x np) [a] [] cpos)) none pos) (tRz C W t):=by
 intro pins s σ H D I h
 obtain⟨nm,qn,N,bs,bm,hdct,sn,sub,ab,col,dd,k0,k1,k2,k3,k5,lk,xb⟩:=id kx.ex
 refine x_Raise (C:=C) (nm:=nm) (q:=qn) (N:=N) (bs:=bs) (bm:=bm) (hdct:=hdct) (sn:=sn) (sub:=sub) (ab:=ab) (col:=col) (dd:=dd) (k0:=k0) (k1:=k1) (k2:=k2) (k3:=k3) (k5:=k5) (newId:="ValueError.__new__") xb (I.ok.hd hcm) (ld_glob I hg hm ⟨rfl,?_⟩ hdb) he hpl
 refine thn (ha cpos pins s σ H _ I h) fun us s1 ⟨vs,H1,I1,r1,v,ev,q⟩=>⟨I1.kIn _ _ lk,?_⟩
 subst ev
 obtain⟨u,rfl,rv⟩:=vals1 r1
 refine thn (run_x kx hi lf hfc F hl hr hb I1 rv) fun r s2 ⟨e,er,⟨hn,h0⟩,I2⟩=>?_
 subst er
 have hH:upd H1 e (FX e C none) e=some (FX e C none):=upd_same
 obtain⟨fr,_,_⟩:=(show ObjOk X.prog X.w _ s2.heap e (FX e C none) from I2.hok e _ hH)
 exact⟨e,none,rfl,I2.kIn _ _ lk,fr,hW pins σ _ e s2 I2 hH h0 (q e hn)⟩
end
end DL
set_option Elab.async false
set_option linter.all false
set_option maxRecDepth 100000
namespace DL
open PySem PySem.Spec PyProof.Rows L2
def Fly(h:Heap)(a T C:Addr):Prop:=∃ oe vs oT ts a0,h.get? a=some oe∧(oe.cls=.ref C∧vs[0]?=some a0)∧oe.data=.fields vs∧vs[1]?=some (.ref T)∧T≠a∧h.get? T=some oT∧oT.data=.fields ts∧ts[3]?=some .none
section
variable{M:Model}{A:Around}{E:Value→Shared→Prop}{s:Shared}{Q:Unit→Shared→Prop}{env:PySem.Env}{outer:List PySem.Env}{L:Addr}{base:Heap}
theorem frs_mem{l:List PySem.Env}{as:List Addr}:∀ env∈l,∀ a,env.frame=some a→a∈frs l++as:=fun env he a ha=>List.mem_append_left _ (List.mem_filterMap.mpr ⟨env,he,ha⟩)
structure Left(fs:List Addr)(no:List Addr)(h h':Heap):Prop where
 keep:∀ b o,b∉fs→b∉no→h.get? b=some o→h'.get? b=some o
 slot:∀ b o,b∈fs→h.get? b=some o→∃ sl,h'.get? b=some { o with slots:=sl }
theorem leave1{e C:Addr}{dx:Option Addr}(hfr:A.frames=some (env::outer))(hl:s.heap.FunFrames base (env::outer))(hf:env.frame=some L)(fx:FreshX s.heap e C dx)
  (hq:∀ h' T,Fly h' e T C→s.heap.get? T=none→Left (frs (env::outer)) [e] s.heap h'→h'.FunFrames base (env::outer)→Q () { s with heap:=h' }):wpAny M A (leaving env (.ref e)) Q E s:=by
 obtain⟨t,he⟩:=fx
 have hl':s.heap.FunFrames (PySem.W.hideAll s.heap (frs (env::outer)++[e])) (env::outer):=PySem.W.funFrames_hide hl frs_mem
 refine wpAny_leaving_firstW hfr hl' hf he (fun b o q=>PySem.W.of_hideAll _ q) (PySem.W.hideAll_none _ (by simp)) rfl rfl rfl fun h' ⟨k1,k2,k3,k4⟩=>?_
 obtain⟨oe,vs,T,oT,ts,e1,e2,e3,e4,e5,e6,e7,e8,e9⟩:=k3
 have lf:Left (frs (env::outer)) [e] s.heap h':=⟨fun b o hb hn q=>k1 b o (PySem.W.hideAll_get _ q (by
   rw[List.mem_append]
   rintro(z | z)
   ·exact hb z
   ·exact hn z)),fun b o hb q=>by
   obtain⟨_,o',q',nf⟩:=hl.mem hb
   rw[q] at q'
   cases q'
   exact k4 b o q nf⟩
 refine hq h' T ⟨oe,vs,oT,ts,_,e1,e2,e3,e4,e6,e7,e8,e9⟩ ?_ lf ?_
 ·cases z:s.heap.get? T with
  | none=>rfl
  | some o=>
   have nfr:T∉frs (env::outer):=fun hm=>by
    obtain⟨_,o',q',nf⟩:=k2.mem hm
    rw[e7] at q'
    cases q'
    exact nf ts e8
   have:=PySem.W.hideAll_get (frs (env::outer)++[e]) z (by
    rw[List.mem_append]
    rintro(y | y)
    ·exact nfr y
    ·exact e6 (by simpa using y))
   rw[e5] at this
   cases this
 ·exact hl.of_keeps fun b o q nf=>by
   obtain⟨sl,q'⟩:=k4 b o q nf
   exact⟨_,q',rfl⟩
theorem leave2{a T C:Addr}(hfr:A.frames=some (env::outer))(hl:s.heap.FunFrames base (env::outer))(hf:env.frame=some L)(fl:Fly s.heap a T C)
  (hq:∀ h' T',Fly h' a T' C→(s.heap.get? T'=none∨T'=T)→Left (frs (env::outer)) [a,T] s.heap h'→h'.FunFrames base (env::outer)→Q () { s with heap:=h' }):wpAny M A (leaving env (.ref a)) Q E s:=by
 obtain⟨oe,vs,oT,ts,a0,e1,e2,e3,e4,e5,e6,e7,e8⟩:=fl
 have hl':s.heap.FunFrames (PySem.W.hideAll s.heap (frs (env::outer)++[a,T])) (env::outer):=PySem.W.funFrames_hide hl frs_mem
 refine wpAny_leaving_nextW hfr hl' hf ⟨oe,vs,T,oT,ts,e1,e2,e3,e4,PySem.W.hideAll_none _ (by simp),e5,e6,e7,e8⟩ (fun b o q=>PySem.W.of_hideAll _ q) (PySem.W.hideAll_none _ (by simp)) fun h' ⟨k1,k2,k3,k4⟩=>?_
 obtain⟨oe',vs',T',oT',ts',f1,f2,f3,f4,f5,f6,f7,f8,f9⟩:=k3
 have lf:Left (frs (env::outer)) [a,T] s.heap h':=⟨fun b o hb hn q=>k1 b o (PySem.W.hideAll_get _ q (by
   rw[List.mem_append]
   rintro(z | z)
   ·exact hb z
   ·exact hn z)),fun b o hb q=>by
   obtain⟨_,o',q',nf⟩:=hl.mem hb
   rw[q] at q'
   cases q'
   exact k4 b o q nf⟩
 refine hq h' T' ⟨oe',vs',oT',ts',_,f1,f2,f3,f4,f6,f7,f8,f9⟩ ?_ lf ?_
 ·cases z:s.heap.get? T' with
  | none=>exact .inl rfl
  | some o=>
   by_cases c:T'=T
   ·exact .inr c
   have nfr:T'∉frs (env::outer):=fun hm=>by
    obtain⟨_,o',q',nf⟩:=k2.mem hm
    rw[f7] at q'
    cases q'
    exact nf ts' f8
   have:=PySem.W.hideAll_get (frs (env::outer)++[a,T]) z (by
    rw[List.mem_append]
    rintro(y | y)
    ·exact nfr y
    ·simp only[List.mem_cons,List.not_mem_nil,or_false] at y
     rcases y with y | y
     ·exact f6 y
     ·exact c y)
   rw[f5] at this
   cases this
 ·exact hl.of_keeps fun b o q nf=>by
   obtain⟨sl,q'⟩:=k4 b o q nf
   exact⟨_,q',rfl⟩
end
end DL
set_option Elab.async false
set_option linter.all false
set_option maxRecDepth 100000
namespace DL
open PySem PySem.Spec PyProof.Rows L2
def del(H:Hp)(a:Addr):Hp:=fun b=>if b=a then none else H b
theorem del_same{H:Hp}{a:Addr}:del H a a=none:=if_pos rfl
theorem del_ne{H:Hp}{a b:Addr}(h:b≠a):del H a b=H b:=if_neg h
theorem objok_get{P:Program}{w:World}{H:Hp}{h:Heap}{a:Addr}{o:HO}(x:ObjOk P w H h a o):∃ u,h.get? a=some u:=by
 cases o with
 | lst xs=>obtain⟨_,_,_,_,e⟩:=x; exact⟨_,e⟩
 | tup xs=>obtain⟨_,_,_,ob,e,_⟩:=x; exact⟨_,e⟩
 | dK kvs=>obtain⟨_,_,_,_,o,_,_,e,_⟩:=x; exact⟨_,e⟩
 | dT kvs=>obtain⟨_,_,_,_,o,_,_,e,_⟩:=x; exact⟨_,e⟩
 | set S n=>obtain⟨o,_,_,_,e,_⟩:=x; exact⟨_,e⟩
 | ins C dx fs=>obtain⟨_,_,_,e,_⟩:=x; exact⟨_,e⟩
 | own y=>obtain⟨_,e⟩:=x; exact⟨_,e⟩
 | xd fs=>obtain⟨_,⟨_,_,_,e,_⟩,_⟩:=x; exact⟨_,e⟩
 | rng lo hi=>obtain⟨_,_,_,e⟩:=x; exact⟨_,e⟩
 | frz ob u=>obtain⟨e,_⟩:=x; exact⟨_,e⟩
 | tbl ps=>exact⟨_,(show h.get? a=some _ from x)⟩
 | met f y=>exact⟨_,(show h.get? a=some _ from x)⟩
 | ext φ=>obtain⟨_,⟨_,e⟩,_⟩:=x; exact⟨_,e⟩
theorem hok_none{P:Program}{w:World}{H:Hp}{h:Heap}{a:Addr}(k:HOk P w H h)(e:h.get? a=none):H a=none:=by
 cases z:H a with
 | none=>rfl
 | some o=>
  obtain⟨u,q⟩:=objok_get (k a o z)
  rw[e] at q
  cases q
def CXe(P:Program)(w:World):CXT:=fun outer H s E e s'=>∃ a T C H',e=.ref a∧s'.os=s.os∧AllBare s'.gens∧Un (frs outer) [] H H' s.heap s'.heap∧HOk P w H' s'.heap∧Fly s'.heap a T C∧(H' a=none∧H' T=none)∧(s.heap.get? a=none∧s.heap.get? T=none)∧E (.ref C) none H'
theorem hok_left{P:Program}{w:World}{H:Hp}{h h':Heap}{fs no:List Addr}(k:HOk P w H h)(l:Left fs no h h')(hf:∀ b∈fs,H b=none)(hn:∀ b∈no,H b=none):HOk P w H h':=fun b o e=>by
 refine(k b o e).stay (fun c u hc q=>l.keep c u (fun z=>?_) (fun z=>?_) q) (fun _ q=>q) fun _ _ q=>q
 ·have:=hf c z
  rcases hc with rfl | hc
  ·rw[e] at this; cases this
  ·rw[hc] at this; cases this
 ·have:=hn c z
  rcases hc with rfl | hc
  ·rw[e] at this; cases this
  ·rw[hc] at this; cases this
theorem hok_del{P:Program}{w:World}{H:Hp}{h:Heap}{a:Addr}{φ:Heap→Prop}(k:HOk P w H h)(ha:H a=some (.ext φ)):HOk P w (del H a) h:=fun b o e=>by
 have nb:b≠a:=fun z=>by rw[z,del_same] at e; cases e
 rw[del_ne nb] at e
 refine(k b o e).stay (fun c u _ q=>q) (fun c q=>?_) fun c xs q=>?_
 ·rw[del_ne (fun z=>by rw[z,ha] at q; cases q)]; exact q
 ·rw[del_ne (fun z=>by rw[z,ha] at q; cases q)]; exact q
theorem un_left{fs no:List Addr}{L:Addr}{H H1 H':Hp}{h h1 h2:Heap}(u:Un fs [] H H1 h h1)(l:Left (L::fs) no h1 h2)(hL:h.get? L=none)(hno:∀ b∈no,h.get? b=none)(fr:∀ b,H1 b=none→H' b=none)
  (tp:∀ b xs,H1 b=some (.tup xs)→H' b=some (.tup xs)) (fz:∀ b o v,H1 b=some (.frz o v)→H' b=some (.frz o v)) (tb:∀ b ps,H1 b=some (.tbl ps)→H' b=some (.tbl ps)):Un fs [] H H' h h2:=by
 have nL:∀ b o,h.get? b=some o→b≠L:=fun b o e z=>by rw[z,hL] at e; cases e
 have nN:∀ b o,h.get? b=some o→b∉no:=fun b o e z=>by rw[hno b z] at e; cases e
 refine⟨fun b o e n hb hx=>?_,fun b o e n hb hx=>?_,fun b o e n hx=>fr b (u.free b o e n hx),fun b o e hx=>?_,fun b xs e=>tp b xs (u.tups b xs e),fun b o v e=>fz b o v (u.frzs b o v e),fun b ps e=>?_⟩
 ·refine l.keep b o (fun z=>?_) (nN b o e) (u.keep b o e n hb hx)
  rcases List.mem_cons.mp z with z | z
  ·exact nL b o e z
  ·exact hb z
 ·obtain⟨sl,q⟩:=u.slot b o e n hb hx
  obtain⟨sl',q'⟩:=l.slot b _ (List.mem_cons_of_mem _ hb) q
  exact⟨sl',q'⟩
 ·obtain⟨o',q⟩:=u.there b o e hx
  by_cases c:b∈L::fs
  ·obtain⟨sl,q'⟩:=l.slot b o' c q
   exact⟨_,q'⟩
  ·exact⟨o',l.keep b o' c (nN b o e) q⟩
 ·obtain⟨more,q⟩:=u.tbls b ps e
  exact⟨more,tb b _ q⟩
end DL
set_option Elab.async false
set_option linter.all false
set_option maxRecDepth 100000
namespace DL
open PySem PySem.Spec PyProof.Rows L2
section
variable{P:Program}{w:World}{K:PySem.W.Frag}{mg:Str→Option Value}{base:Heap}{N:List Str}{qual:Str}{scope:Scope}{f:Addr}{cd:Value}{A:Around}{outer:List PySem.Env}{s:Shared}{H:Hp}{E:XK}
theorem old_none{fs:List Addr}{H0 H1:Hp}{h0 h1:Heap}{b:Addr}(u:Un fs [] H0 H1 h0 h1)(e:h1.get? b=none):h0.get? b=none:=by
 cases z:h0.get? b with
 | none=>rfl
 | some o=>
  obtain⟨o',q⟩:=u.there b o z (by simp)
  rw[e] at q
  cases q
theorem xe_first{pins:List (Addr×Obj)}{σ:L2.St}{H1:Hp}{s1:Shared}{e C:Addr}(I:Inv (cxOf (CXe P w) P w K mg base N qual scope f cd A outer s H E) pins σ H1 s1)(hH:H1 e=some (FX e C none))(le:s.heap.get? e=none)(hE:E (.ref C) none (del H1 e)):
  (cxOf (CXe P w) P w K mg base N qual scope f cd A outer s H E).xe (.ref e) s1:=by
 obtain⟨fr,_,_⟩:=(show ObjOk P w H1 s1.heap e (FX e C none) from I.hok e _ hH)
 show wpAny (model P w) _ (leaving (envOfC qual scope s.heap.objs.size f cd) (.ref e)) _ _ s1
 have hL:s.heap.get? s.heap.objs.size=none:=Heap.get?_none_of_le (Nat.le_refl _)
 refine leave1 (base:=base) I.ok.frames I.stack rfl fr fun h' T fl hT lf _=>?_
 have hT1:H1 T=none:=hok_none I.hok hT
 have dn:∀ b,H1 b=none→del H1 e b=none:=fun b q=>by
  by_cases c:b=e
  ·rw[c,del_same]
  ·rw[del_ne c]; exact q
 have ne_of_kind:∀ {b:Addr} {o:HO},H1 b=some o→o≠FX e C none→b≠e:=fun q n z=>n (by rw[z,hH] at q; exact(Option.some.inj q).symm)
 refine⟨e,T,C,del H1 e,rfl,I.os,I.bare,un_left (L:=s.heap.objs.size) I.base lf hL (fun b hb=>?_) dn (fun b xs q=>?_) (fun b o v q=>?_) (fun b ps q=>?_),hok_left (hok_del I.hok hH) lf (fun b hb=>dn b (I.stkFree b hb)) (fun b hb=>?_),fl,⟨del_same,dn T hT1⟩,⟨le,old_none I.base hT⟩,hE⟩
 ·have:b=e:=by simpa using hb
  rw[this]; exact le
 ·rw[del_ne (ne_of_kind q (by intro z; cases z))]; exact q
 ·rw[del_ne (ne_of_kind q (by intro z; cases z))]; exact q
 ·rw[del_ne (ne_of_kind q (by intro z; cases z))]; exact q
 ·have:b=e:=by simpa using hb
  rw[this]; exact del_same
theorem xe_on{pins:List (Addr×Obj)}{σ:L2.St}{H2:Hp}{s2 s3:Shared}{e:Value}{E2:XK}(I:Inv (cxOf (CXe P w) P w K mg base N qual scope f cd A outer s H E) pins σ H2 s2)
  (hx:CXe P w (cxOf (CXe P w) P w K mg base N qual scope f cd A outer s H E).stack H2 s2 E2 e s3) (hE:∀ C H',E2 (.ref C) none H'→E (.ref C) none H'):
  (cxOf (CXe P w) P w K mg base N qual scope f cd A outer s H E).xe e s3:=by
 obtain⟨a,T,C,H',rfl,os,bare,un,hok,fly,⟨na,nT⟩,⟨oa,oT⟩,hE2⟩:=hx
 obtain⟨h3,g3,d3,t3,o3⟩:=s3
 obtain rfl:o3=s2.os:=os
 have I3:Inv (cxOf (CXe P w) P w K mg base N qual scope f cd A outer s H E) pins σ H' { s2 with heap:=h3,gens:=g3,drawn:=d3,toks:=t3 }:=I.call (h':=h3) (g':=g3) (d':=d3) (t':=t3) (ch:=[]) un hok bare (fun b z=>absurd z (by simp))
 show wpAny (model P w) _ (leaving (envOfC qual scope s.heap.objs.size f cd) (.ref a)) _ _ _
 have hL:s.heap.get? s.heap.objs.size=none:=Heap.get?_none_of_le (Nat.le_refl _)
 have a0:s.heap.get? a=none:=old_none I.base oa
 have T0:s.heap.get? T=none:=old_none I.base oT
 refine leave2 (base:=base) I3.ok.frames I3.stack rfl fly fun h' T' fl hT lf _=>?_
 have nT':H' T'=none:=by
  rcases hT with hT | rfl
  ·exact hok_none hok hT
  ·exact nT
 have oT':s.heap.get? T'=none:=by
  rcases hT with hT | rfl
  ·exact old_none I3.base hT
  ·exact T0
 refine⟨a,T',C,H',rfl,I3.os,bare,un_left (L:=s.heap.objs.size) I3.base lf hL (fun b hb=>?_) (fun b q=>q) (fun b xs q=>q) (fun b o v q=>q) (fun b ps q=>q),hok_left hok lf (fun b hb=>I3.stkFree b hb) (fun b hb=>?_),fl,⟨na,nT'⟩,⟨a0,oT'⟩,hE _ _ hE2⟩
 ·simp only[List.mem_cons,List.not_mem_nil,or_false] at hb
  rcases hb with rfl | rfl
  ·exact a0
  ·exact T0
 ·simp only[List.mem_cons,List.not_mem_nil,or_false] at hb
  rcases hb with rfl | rfl
  ·exact na
  ·exact nT
end
end DL
set_option Elab.async false
set_option linter.all false
set_option maxRecDepth 100000
namespace DL
open PySem PySem.Spec PyProof.Rows L2
def WX(K:PySem.W.Frag)(XQ:XW)(σ:L2.St)(C:Addr)(H:Hp):Prop:=∃ x mp ρ S,x.fld=none∧CN K x.cls C∧XQ x mp H σ ρ S
structure XL(X:Cx)(XQ:XW):Prop where
 own:∀ (pins:List (Addr×Obj)) (σ:L2.St) (H:Hp) (s:Shared) (e C:Addr),Inv X pins σ H s→H e=some (FX e C none)→X.s₀.heap.get? e=none→WX X.K XQ σ C (del H e)→X.xe (.ref e) s
 cal:∀ (pins:List (Addr×Obj)) (σ:L2.St) (H:Hp) (s:Shared) (e:Value) (s':Shared) (E2:XK),Inv X pins σ H s→CXe X.prog X.w X.stack H s E2 e s'→(∀ C H',E2 (.ref C) none H'→WX X.K XQ σ C H')→X.xe e s'
 pas:PassesOwn (model X.prog X.w) X.A X.env X.xe
def PostX(K:PySem.W.Frag)(mp:List Addr)(H:Hp)(o:Out D)(Q:VK)(E:XK):Prop:=
 match o with
 | .ok d S=>∀ mp' H' v,Aft K mp H mp' H'→RS K mp' H' S→Rep K mp' H' d v→Q v H'
 | .exc x S=>x.fld=none∧∃ C,CN K x.cls C∧∀ mp' H',Aft K mp H mp' H'→RS K mp' H' S→E (.ref C) none H'
 | .bad=>False
def spX(K:PySem.W.Frag)(n:Nat)(fn:Fn):Sp:=fun vs H Q E=>∃ mp ds S,RS K mp H S∧RepL K mp H ds vs∧ds.length=n∧PostX K mp H (fn ds S) Q E
def XQd(K:PySem.W.Frag)(E:XK):XW:=fun x _ H _ _ _=>∃ C,CN K x.cls C∧E (.ref C) none H
section
variable{P:Program}{w:World}{K:PySem.W.Frag}{mg:Str→Option Value}{base:Heap}
theorem xl_def{N:List Str}{qual:Str}{scope:Scope}{f:Addr}{cd:Value}{A:Around}{outer:List PySem.Env}{s:Shared}{H:Hp}{E:XK}:XL (cxOf (CXe P w) P w K mg base N qual scope f cd A outer s H E) (XQd K E) where
 own:=fun pins σ H1 s1 e C I hH le ⟨x,mp,ρ,S,_,hc,C',hc',hE⟩=>by
  cases CN.one hc hc'
  exact xe_first I hH le hE
 cal:=fun pins σ H2 s2 e s3 E2 I hx hE=>xe_on I hx fun C H' q=>by
  obtain⟨x,mp,ρ,S,_,hc,C',hc',hE⟩:=hE C H' q
  cases CN.one hc hc'
  exact hE
 pas:=PassesOwn.leaving
theorem Fun.okX{CX:CXT}{x qual:Str}{st:Stmt}{f:Addr}{fd:FuncData}{N ps:List Str}{k:Nat}{sp:Sp}(F:Fun K x qual st f fd)(S:FnScope N ps (defScope st))(len:∀ vs H Q E,sp vs H Q E→vs.length=ps.length)
  (hbody:∀ (cdv:Value) (A:Around) (outer:List PySem.Env) (s:Shared) (H:Hp) (vs:List V) (Q:VK) (E:XK),Room k (A.deeper (envOfC qual (defScope st) s.heap.objs.size f cdv))→sp vs H Q E→
   ∃ t,PSs (cxOf CX P w K mg base N qual (defScope st) f cdv A outer s H E) (defBody st) t∧t { nx:=fun _ H'=>Q .non H',rt:=Q } (start N vs) H):FnOk P w K mg base CX (k+1) f fd ps sp:=by
 obtain⟨oc,od,kV,doc,pm,an,cdv,ct,osl,rfl,lk,hcd⟩:=F.ex
 exact fn_of lk hcd S len fun A outer s H vs Q E hr hsp=>hbody cdv A outer s H vs Q E hr hsp
theorem fn_okX{x qual:Str}{st:Stmt}{f:Addr}{fd:FuncData}{N ps:List Str}{k:Nat}{b:Sv}(F:Fun K x qual st f fd)(Sc:FnScope N ps (defScope st))
  (hb:∀ (cdv:Value) (A:Around) (outer:List PySem.Env) (s:Shared) (H:Hp) (E:XK) (XQ:XW),Room k (A.deeper (envOfC qual (defScope st) s.heap.objs.size f cdv))→XL (cxOf (CXe P w) P w K mg base N qual (defScope st) f cdv A outer s H E) XQ→
   JSs (cxOf (CXe P w) P w K mg base N qual (defScope st) f cdv A outer s H E) XQ (defBody st) b):FnOk P w K mg base (CXe P w) (k+1) f fd ps (spX K ps.length (fnB N.length b)):=by
 refine Fun.okX F Sc (fun vs H Q E ⟨mp,ds,S,rs,r,hl,_⟩=>by rw[r.len]; exact hl) fun cdv A outer s H vs Q E hr ⟨mp,ds,S,rs,r,hl,p⟩=>?_
 refine⟨_,hb cdv A outer s H E (XQd K E) hr xl_def,mp,_,S,start_ok rs r,?_⟩
 unfold fnB at p
 show PostS K _ mp H (b (ds.map some++List.replicate (N.length-ds.length) none) S) _
 cases z:b (ds.map some++List.replicate (N.length-ds.length) none) S with
 | rt d S'=>rw[z] at p; exact p
 | nx ρ' S'=>rw[z] at p; exact fun m h v af G=>p m h .non af G.rs rfl
 | bk ρ' S'=>rw[z] at p; exact p.elim
 | ct ρ' S'=>rw[z] at p; exact p.elim
 | exc x ρ' S'=>
  rw[z] at p
  obtain⟨_,C,hc,q⟩:=p
  exact fun m h v af G=>⟨C,hc,q m h af G.rs⟩
 | bad=>rw[z] at p; exact p.elim
structure CalX(P:Program)(w:World)(K:PySem.W.Frag)(mg:Str→Option Value)(base:Heap)(x:Str)(ps:List Str)(fn:Fn)(j:Nat):Prop where
 ex:∃ f fd,FnOk P w K mg base (CXe P w) j f fd ps (spX K ps.length fn)∧mg x=some (.ref f)∧PySem.W.keepIn K (.ref f)=true∧Binds K fd ps []
theorem calx_of{x:Str}{st:Stmt}{ps:List Str}{fn:Fn}(N:List Str)(k:Nat)(b:Sv)(hfn:fn=fnB N.length b)(d:Dn K mg x st ps)(Sc:FnScope N ps (defScope st))
  (hb:∀ (f:Addr) (cdv:Value) (A:Around) (outer:List PySem.Env) (s:Shared) (H:Hp) (E:XK) (XQ:XW),Room k (A.deeper (envOfC x (defScope st) s.heap.objs.size f cdv))→XL (cxOf (CXe P w) P w K mg base N x (defScope st) f cdv A outer s H E) XQ→
   JSs (cxOf (CXe P w) P w K mg base N x (defScope st) f cdv A outer s H E) XQ (defBody st) b):CalX P w K mg base x ps fn (k+1):=by
 subst hfn
 obtain⟨f,fd,F,hm,hbi⟩:=d.ex
 exact⟨f,fd,fn_okX F Sc (hb f),hm,F.kp,hbi⟩
end
section
variable{X:Cx}{XQ:XW}{k:Nat}{f:Addr}{fd:FuncData}{ps:List Str}{fn:Fn}{x:Str}{p pos:Pos}{e:Expr}{es:List Expr}
def tCallX(sp:Sp)(Wx:L2.St→Addr→Hp→Prop)(t:TA):TE:=fun σ H Q=>t σ H fun vs H1=>sp vs H1 Q fun c dx H'=>∃ C,c=.ref C∧dx=none∧Wx σ C H'
theorem run_fnX{sp:Sp}{Wx:L2.St→Addr→Hp→Prop}{pins:List (Addr×Obj)}{σ:L2.St}{H:Hp}{s:Shared}{Q:VK}{us:List Value}{vs:List V}(F:FnOk X.prog X.w X.K X.mg X.base (CXe X.prog X.w) k f fd ps sp)(hr:Room k X.A)(hb:Binds X.K fd ps [])
  (hx:∀ (pins:List (Addr×Obj)) (σ:L2.St) (H:Hp) (s:Shared) (e:Value) (s':Shared) (E2:XK),Inv X pins σ H s→CXe X.prog X.w X.stack H s E2 e s'→(∀ C H',E2 (.ref C) none H'→Wx σ C H')→X.xe e s')
  (I:Inv X pins σ H s) (r:Vals vs us) (h:sp vs H Q fun c dx H'=>∃ C,c=.ref C∧dx=none∧Wx σ C H'):wpAny (model X.prog X.w) X.A (call (.ref f) us) (EP X pins σ Q) X.xe s:=by
 have hl:us.length=ps.length:=by rw[←r.length]; exact F.len _ _ _ _ h
 refine wpAny_call (codeAny_mono (F.run X.A X.stack s H ⟨us,[]⟩ us vs Q _ hr I.env0 (by have:=hb s us I.kIn (by simpa using hl); simpa using this) r h) fun r s' hq=>?_)
 cases r with
 | error e=>exact hx pins σ H s e s' (fun c dx H'=>∃ C,c=.ref C∧dx=none∧Wx σ C H') I hq fun C H' ⟨C',e1,_,q⟩=>by cases e1; exact q
 | ok fl=>
  cases fl with
  | ret u=>exact I.after hq
  | next=>exact False.elim hq
  | brk=>exact False.elim hq
  | cont=>exact False.elim hq
theorem pe_callX{sp:Sp}{Wx:L2.St→Addr→Hp→Prop}{t:TA}(F:FnOk X.prog X.w X.K X.mg X.base (CXe X.prog X.w) k f fd ps sp)(hr:Room k X.A)(hg:Gl X x)(hm:X.mg x=some (.ref f))(hk:PySem.W.keepIn X.K (.ref f)=true)(hb:Binds X.K fd ps [])
  (hx:∀ (pins:List (Addr×Obj)) (σ:L2.St) (H:Hp) (s:Shared) (e:Value) (s':Shared) (E2:XK),Inv X pins σ H s→CXe X.prog X.w X.stack H s E2 e s'→(∀ C H',E2 (.ref C) none H'→Wx σ C H')→X.xe e s')
  (ha:PA X (e::es) t) (hdb:(x==("__debug__":Str))=false:=by decide) (he:starEach (e::es) X.env=(false,eval e X.env)::starEach es X.env:=by rfl) (hpl:(backTo pos (starEach es X.env)).any (·.1)=false:=by rfl):
  PE X (.Call (.Name x p) (e::es) [] pos) (tCallX sp Wx t):=by
 intro pins s σ H Q I h
 refine wpAny_Call_Name_kw (ld_glob I hg hm ?_ hdb)
 refine PySem.W.callWith_K (h₀:=X.base) I.ok.mod.kin hk (thn (ha pos pins s σ H _ I h) fun us s1 ⟨vs,H1,I1,r,q⟩=>⟨I1.kIn,?_⟩) he hpl
 exact run_fnX F hr hb hx I1 r q
def gX(ys:List Str)(fn:Fn):Fn:=fun ds S=>match fn ds S with
 | .ok d S'=>.ok d S'
 | .exc ⟨y,none⟩ S'=>if y∈ys then .exc ⟨y,none⟩ S' else .bad
 | _=>.bad
def XNs(K:PySem.W.Frag)(ys:List Str):Prop:=∀ y∈ys,∃ C,CN K y C∧XCl K C
theorem je_callX{j:Nat}{ys:List Str}{t:Ev (List D)}(xs:XNs X.K ys)(L:XL X XQ)(F:FnOk X.prog X.w X.K X.mg X.base (CXe X.prog X.w) j f fd ps (spX X.K ps.length fn))(hr:Room k X.A)(hj:j≤k)(hg:Gl X x)(hm:X.mg x=some (.ref f))(hk:PySem.W.keepIn X.K (.ref f)=true)(hb:Binds X.K fd ps [])
  (ha:JA X XQ (e::es) t) (hdb:(x==("__debug__":Str))=false:=by decide) (he:starEach (e::es) X.env=(false,eval e X.env)::starEach es X.env:=by rfl) (hpl:(backTo pos (starEach es X.env)).any (·.1)=false:=by rfl):
  JE X XQ (.Call (.Name x p) (e::es) [] pos) (cl ps.length (gX ys fn) t):=by
 refine PE.mono (pe_callX (Wx:=WX X.K XQ) (F.mono hj) hr hg hm hk hb L.cal ha hdb he hpl) fun σ H Q ⟨mp,ρ,S,G,p⟩=>?_
 refine bindP G p fun mp1 H1 ds S1 vs a1 G1 r1 p1=>?_
 by_cases hl:ds.length=ps.length
 ·rw[if_pos hl] at p1
  refine⟨mp1,ds,S1,G1.rs,r1,hl,?_⟩
  unfold gX at p1
  cases z:fn ds S1 with
  | ok d S'=>rw[z] at p1; exact p1
  | exc xx S'=>
   rw[z] at p1
   obtain⟨y,fl⟩:=xx
   cases fl with
   | some _=>exact p1.elim
   | none=>
    by_cases hi:y∈ys
    ·have p1:PostG X.K (Rep X.K) XQ σ ρ mp1 H1 (.exc ⟨y,none⟩ S') Q:=by simpa only[if_pos hi] using p1
     obtain⟨C,hC,_⟩:=xs y hi
     refine⟨rfl,C,hC,fun mp' H' af rs=>⟨C,rfl,rfl,⟨y,none⟩,mp',ρ,S',rfl,hC,p1 mp' H' af (G1.aft af rs)⟩⟩
    ·have p1:PostG X.K (Rep X.K) XQ σ ρ mp1 H1 .bad Q:=by simpa only[if_neg hi] using p1
     exact p1.elim
  | bad=>rw[z] at p1; exact p1.elim
 ·rw[if_neg hl] at p1; exact p1.elim
theorem jownX{j n:Nat}{ys:List Str}{t:Ev (List D)}(xs:XNs X.K ys)(L:XL X XQ)(C:CalX X.prog X.w X.K X.mg X.base x ps fn j)(hr:Room k X.A)(hg:Gl X x)(hp:plainN x=true)(ha:JA X XQ (e::es) t)(hn:ps.length=n:=by rfl)(hj:j≤k:=by decide)
  (he:starEach (e::es) X.env=(false,eval e X.env)::starEach es X.env:=by rfl) (hpl:(backTo pos (starEach es X.env)).any (·.1)=false:=by rfl):
  JE X XQ (.Call (.Name x p) (e::es) [] pos) (cl n (gX ys fn) t):=by
 subst hn
 obtain⟨f,fd,F,hm,hk,hb⟩:=C.ex
 exact je_callX xs L F hr hj hg hm hk hb ha (plainN.of hp).1 he hpl
def srs(y:Str)(f:Ev (List D)):Sv:=fun ρ S=>bindS (f ρ S) ρ fun ds S1=>match ds with
 | [_]=>.exc ⟨y,none⟩ ρ S1
 | _=>.bad
structure ClX(P:Program)(w:World)(K:PySem.W.Frag)(mg:Str→Option Value)(base:Heap)(x:Str)(j:Nat):Prop where
 ex:∃ C f fd ps oI,mg x=some (.ref C)∧CN K x C∧KX K C∧PySem.W.findIn K (.ref C) "__init__"=some (some (.ref f))∧K.lookup f=some oI∧oI.cls=.type "function"∧FnOk P w K mg base CX0 j f fd ps (spI K)∧ps.length=2∧Binds K fd ps []
theorem js_raise{j:Nat}{np cpos pos:Pos}{a:Expr}{t:Ev (List D)}(L:XL X XQ)(hcm:X.calm=true)(C:ClX X.prog X.w X.K X.mg X.base x j)(hr:Room k X.A)(hg:Gl X x)(hp:plainN x=true)(ha:JA X XQ [a] t)(hj:j+1≤k:=by decide)
  (he:starEach [a] X.env=(false,eval a X.env)::starEach [] X.env:=by rfl) (hpl:(backTo cpos (starEach [] X.env)).any (·.1)=false:=by rfl):
  JS X XQ (.Raise (some (.Call (.Name x np) [a] [] cpos)) none pos) (srs x t):=by
 obtain⟨C,f,fd,ps,oI,hm,hc,kx,hi,lf,hfc,F,hl,hb⟩:=C.ex
 refine PS.mono (ps_raise (W:=fun σ H e=>WX X.K XQ σ C (del H e)) (fun pins σ H e s' I hH h0 w=>L.own pins σ H s' e C I hH h0 w) hcm hg hm kx hi lf hfc F hl (hr.mono hj) hb ha (plainN.of hp).1 he hpl) fun E σ H ⟨mp,ρ,S,G,p⟩=>?_
 refine bindSP G p fun mp1 H1 ds S1 vs a1 G1 r1 p1=>?_
 split at p1
 ·obtain⟨v,rfl,_⟩:=RepL.one r1
  refine⟨v,rfl,fun e he=>⟨⟨x,none⟩,mp1,ρ,S1,rfl,hc,?_⟩⟩
  have e1:del (upd H1 e (FX e C none)) e=H1:=by
   funext b
   by_cases c:b=e
   ·rw[c,del_same,he]
   ·rw[del_ne c,upd_ne c]
  rw[e1]
  exact p1 mp1 H1 σ .refl G1
 ·exact p1.elim
end
end DL
set_option Elab.async false
set_option linter.all false
set_option maxRecDepth 100000
namespace DL
open PySem PySem.Spec PyProof.Rows L2
section
variable{M:Model}{A:Around}{E:Value→Shared→Prop}{s:Shared}{Q:Unit→Shared→Prop}{env:PySem.Env}{outer:List PySem.Env}{L:Addr}{base:Heap}
theorem land1{e C:Addr}{dx:Option Addr}(hfr:A.frames=some (env::outer))(hl:s.heap.FunFrames base (env::outer))(hf:env.frame=some L)(fx:FreshX s.heap e C dx)
  (hq:∀ h' T,Fly h' e T C→s.heap.get? T=none→Left (frs (env::outer)) [e] s.heap h'→Q () { s with heap:=h' }):wpAny M A (noteFrame (.ref e) env) (fun _ s₂=>wpAny M A (setFlight (.ref e) none) Q E s₂) E s:=by
 obtain⟨t,he⟩:=fx
 have hl':s.heap.FunFrames (PySem.W.hideAll s.heap (frs (env::outer)++[e])) (env::outer):=PySem.W.funFrames_hide hl frs_mem
 unfold noteFrame
 simp only[hf]
 refine wpAny_bind (wpAny_field he rfl rfl ?_)
 show wpAny M A (if(Value.none != Value.none)=true then _ else _) _ _ _
 rw[if_neg (show¬ ((Value.none != Value.none)=true) from by decide)]
 refine wpAny_entryW hfr hl' hf he (fun b o q=>PySem.W.of_hideAll _ q) (PySem.W.hideAll_none _ (by simp)) rfl (by simp) rfl fun h1 ⟨k1,k2,k3,k4⟩=>?_
 refine wpAny_setFlight_noneW (s:={ s with heap:=h1 }) k1 k2 k3 fun h' j1 j2 j3 j4=>?_
 obtain⟨oe,vs,T,oT,ts,e1,e2,e3,e4,e5,e6,e7,e8,e9⟩:=j3
 have lf:Left (frs (env::outer)) [e] s.heap h':=⟨fun b o hb hn q=>j1 b o (PySem.W.hideAll_get _ q (by
   rw[List.mem_append]
   rintro(z | z)
   ·exact hb z
   ·exact hn z)),fun b o hb q=>by
   obtain⟨_,o',q',nf⟩:=hl.mem hb
   rw[q] at q'
   cases q'
   obtain⟨sl,q1⟩:=k4 b o q nf
   exact⟨sl,j4 b _ q1 nf⟩⟩
 refine hq h' T ⟨oe,vs,oT,ts,_,e1,e2,e3,e4,e6,e7,e8,e9⟩ ?_ lf
 cases z:s.heap.get? T with
 | none=>rfl
 | some o=>
  have nfr:T∉frs (env::outer):=fun hm=>by
   obtain⟨_,o',q',nf⟩:=j2.mem hm
   rw[e7] at q'
   cases q'
   exact nf ts e8
  have:=PySem.W.hideAll_get (frs (env::outer)++[e]) z (by
   rw[List.mem_append]
   rintro(y | y)
   ·exact nfr y
   ·exact e6 (by simpa using y))
  rw[e5] at this
  cases this
theorem land2{a T C:Addr}(hfr:A.frames=some (env::outer))(hl:s.heap.FunFrames base (env::outer))(hf:env.frame=some L)(fl:Fly s.heap a T C)
  (hq:∀ h' T',Fly h' a T' C→(s.heap.get? T'=none∨T'=T)→Left (frs (env::outer)) [a,T] s.heap h'→Q () { s with heap:=h' }):wpAny M A (noteFrame (.ref a) env) (fun _ s₂=>wpAny M A (setFlight (.ref a) none) Q E s₂) E s:=by
 obtain⟨oe,vs,oT,ts,a0,e1,e2,e3,e4,e5,e6,e7,e8⟩:=fl
 have hl':s.heap.FunFrames (PySem.W.hideAll s.heap (frs (env::outer)++[a,T])) (env::outer):=PySem.W.funFrames_hide hl frs_mem
 refine wpAny_noteFrame_onW hfr hl' hf ⟨oe,vs,T,oT,ts,e1,e2,e3,e4,PySem.W.hideAll_none _ (by simp),e5,e6,e7,e8⟩ (fun b o q=>PySem.W.of_hideAll _ q) (PySem.W.hideAll_none _ (by simp)) fun h1 ⟨k1,k2,k3,k4⟩=>?_
 refine wpAny_setFlight_noneW (s:={ s with heap:=h1 }) k1 k2 k3 fun h' j1 j2 j3 j4=>?_
 obtain⟨oe',vs',T',oT',ts',f1,f2,f3,f4,f5,f6,f7,f8,f9⟩:=j3
 have lf:Left (frs (env::outer)) [a,T] s.heap h':=⟨fun b o hb hn q=>j1 b o (PySem.W.hideAll_get _ q (by
   rw[List.mem_append]
   rintro(z | z)
   ·exact hb z
   ·exact hn z)),fun b o hb q=>by
   obtain⟨_,o',q',nf⟩:=hl.mem hb
   rw[q] at q'
   cases q'
   obtain⟨sl,q1⟩:=k4 b o q nf
   exact⟨sl,j4 b _ q1 nf⟩⟩
 refine hq h' T' ⟨oe',vs',oT',ts',_,f1,f2,f3,f4,f6,f7,f8,f9⟩ ?_ lf
 cases z:s.heap.get? T' with
 | none=>exact .inl rfl
 | some o=>
  by_cases c:T'=T
  ·exact .inr c
  have nfr:T'∉frs (env::outer):=fun hm=>by
   obtain⟨_,o',q',nf⟩:=j2.mem hm
   rw[f7] at q'
   cases q'
   exact nf ts' f8
  have:=PySem.W.hideAll_get (frs (env::outer)++[a,T]) z (by
   rw[List.mem_append]
   rintro(y | y)
   ·exact nfr y
   ·simp only[List.mem_cons,List.not_mem_nil,or_false] at y
    rcases y with y | y
    ·exact f6 y
    ·exact c y)
  rw[f5] at this
  cases this
end
structure Plain(X:Cx):Prop where
 stk:X.stack=X.env::X.outer
 fr:X.env.frame=some X.env.locals
 ex:X.ex=[]
structure Landed(X:Cx)(pins:List (Addr×Obj))(σ:L2.St)(H:Hp)(a C:Addr)(s:Shared):Prop where
 ex:∃ T,Inv X pins σ H s∧Fly s.heap a T C∧(H a=none∧H T=none)∧(X.s₀.heap.get? a=none∧X.s₀.heap.get? T=none)∧∀ p∈X.pn++pins,p.1≠a∧p.1≠T
section
variable{X:Cx}{pins:List (Addr×Obj)}{σ:L2.St}{H:Hp}{s:Shared}{A:Around}{E:Value→Shared→Prop}{Q:Unit→Shared→Prop}{M:Model}
theorem Plain.old{b:Addr}(pl:Plain X)(I:Inv X pins σ H s)(e:s.heap.get? b=none):X.s₀.heap.get? b=none:=by
 have u:=I.base
 rw[pl.ex] at u
 exact old_none u e
theorem own_land{e C:Addr}(pl:Plain X)(I:Inv X pins σ H s)(hH:H e=some (FX e C none))(le:X.s₀.heap.get? e=none)(hq:∀ s',Landed X pins σ (del H e) e C s'→Q () s'):
  wpAny M X.A (noteFrame (.ref e) X.env) (fun _ s₂=>wpAny M X.A (setFlight (.ref e) none) Q E s₂) E s:=by
 obtain⟨fr,_,_⟩:=(show ObjOk X.prog X.w H s.heap e (FX e C none) from I.hok e _ hH)
 have hfr:X.A.frames=some (X.env::X.outer):=by rw[I.ok.frames,pl.stk]
 have hl:s.heap.FunFrames X.base (X.env::X.outer):=by rw[←pl.stk]; exact I.stack
 refine land1 hfr hl pl.fr fr fun h' T fl hT lf=>hq _ ?_
 have dn:∀ b,H b=none→del H e b=none:=fun b q=>by
  by_cases c:b=e
  ·rw[c,del_same]
  ·rw[del_ne c]; exact q
 have nk:∀ {b:Addr} {o:HO},H b=some o→o≠FX e C none→b≠e:=fun q n z=>n (by rw[z,hH] at q; exact(Option.some.inj q).symm)
 have ne0:∀ b,H b=none→b≠e:=fun b q z=>by rw[z,hH] at q; cases q
 rw[←pl.stk] at lf
 have un:Un (frs X.stack) [] H (del H e) s.heap h':=⟨fun b o q n hb _=>lf.keep b o hb (fun z=>ne0 b n (by simpa using z)) q,fun b o q n hb _=>lf.slot b o hb q,fun b o q n _=>dn b n,fun b o q _=>by
   by_cases c:b∈frs X.stack
   ·obtain⟨sl,q'⟩:=lf.slot b o c q
    exact⟨_,q'⟩
   ·by_cases c2:b=e
    ·subst c2
     obtain⟨oe,_,_,_,_,z,_⟩:=fl
     exact⟨_,z⟩
    ·exact⟨o,lf.keep b o c (by simpa using c2) q⟩,
  fun b xs q=>by rw[del_ne (nk q (by intro z; cases z))]; exact q,fun b o v q=>by rw[del_ne (nk q (by intro z; cases z))]; exact q,fun b ps q=>⟨#[],by rw[del_ne (nk q (by intro z; cases z)),q]; simp⟩⟩
 have hk:HOk X.prog X.w (del H e) h':=hok_left (hok_del I.hok hH) lf (fun b hb=>dn b (I.stkFree b hb)) (fun b hb=>by
  have:b=e:=by simpa using hb
  rw[this]; exact del_same)
 refine⟨T,?_,fl,⟨del_same,dn T (hok_none I.hok hT)⟩,⟨le,pl.old I hT⟩,fun p hp=>?_⟩
 ·have J:=I.call (h':=h') (g':=s.gens) (d':=s.drawn) (t':=s.toks) (ch:=[]) un hk I.bare (fun b z=>absurd z (by simp))
  exact J
 ·obtain⟨q1,q2,_⟩:=I.pin p hp
  refine⟨ne0 _ q2,fun z=>?_⟩
  rw[z,hT] at q1
  cases q1
theorem call_land{E2:XK}{e:Value}{s':Shared}(pl:Plain X)(I:Inv X pins σ H s)(hx:CXe X.prog X.w X.stack H s E2 e s')(hq:∀ a C H' s'',e=.ref a→E2 (.ref C) none H'→Landed X pins σ H' a C s''→Q () s''):
  wpAny M X.A (noteFrame e X.env) (fun _ s₂=>wpAny M X.A (setFlight e none) Q E s₂) E s':=by
 obtain⟨a,T,C,H',rfl,os,bare,un,hok,fly,⟨na,nT⟩,⟨oa,oT⟩,hE2⟩:=hx
 obtain⟨h3,g3,d3,t3,o3⟩:=s'
 obtain rfl:o3=s.os:=os
 have I3:Inv X pins σ H' { s with heap:=h3,gens:=g3,drawn:=d3,toks:=t3 }:=I.call (h':=h3) (g':=g3) (d':=d3) (t':=t3) (ch:=[]) un hok bare (fun b z=>absurd z (by simp))
 have hfr:X.A.frames=some (X.env::X.outer):=by rw[I.ok.frames,pl.stk]
 have hl:h3.FunFrames X.base (X.env::X.outer):=by rw[←pl.stk]; exact I3.stack
 refine land2 (s:={ s with heap:=h3,gens:=g3,drawn:=d3,toks:=t3 }) hfr hl pl.fr fly fun h' T' fl hT lf=>hq a C H' _ rfl hE2 ?_
 rw[←pl.stk] at lf
 have nn:∀ b o,s.heap.get? b=some o→b∉[a,T]:=fun b o q z=>by
  simp only[List.mem_cons,List.not_mem_nil,or_false] at z
  rcases z with rfl | rfl
  ·rw[oa] at q; cases q
  ·rw[oT] at q; cases q
 have un2:Un (frs X.stack) [] H H' s.heap h':=⟨fun b o q n hb hx=>lf.keep b o hb (nn b o q) (un.keep b o q n hb hx),fun b o q n hb hx=>by
   obtain⟨sl,q1⟩:=un.slot b o q n hb hx
   obtain⟨sl',q2⟩:=lf.slot b _ hb q1
   exact⟨sl',q2⟩,un.free,fun b o q hx=>by
   obtain⟨o',q1⟩:=un.there b o q hx
   by_cases c:b∈frs X.stack
   ·obtain⟨sl,q2⟩:=lf.slot b o' c q1
    exact⟨_,q2⟩
   ·exact⟨o',lf.keep b o' c (nn b o q) q1⟩,un.tups,un.frzs,un.tbls⟩
 have nT':H' T'=none:=by
  rcases hT with hT | rfl
  ·exact hok_none hok hT
  ·exact nT
 have oT':X.s₀.heap.get? T'=none:=by
  rcases hT with hT | rfl
  ·exact pl.old I3 hT
  ·exact pl.old I oT
 have hk:HOk X.prog X.w H' h':=hok_left hok lf (fun b hb=>I3.stkFree b hb) (fun b hb=>by
  simp only[List.mem_cons,List.not_mem_nil,or_false] at hb
  rcases hb with rfl | rfl
  ·exact na
  ·exact nT)
 refine⟨T',?_,fl,⟨na,nT'⟩,⟨pl.old I oa,oT'⟩,fun p hp=>?_⟩
 ·have J:=I.call (h':=h') (g':=g3) (d':=d3) (t':=t3) (ch:=[]) un2 hk bare (fun b z=>absurd z (by simp))
  exact J
 ·obtain⟨q1,q2,_⟩:=I.pin p hp
  obtain⟨q3,_,_⟩:=I3.pin p hp
  refine And.intro (fun z=>?_) (fun z=>?_)
  ·rw[z,oa] at q1; cases q1
  rcases hT with hT | rfl
  ·rw[z] at q3
   rw[show h3.get? T'=none from hT] at q3
   cases q3
  ·rw[z,oT] at q1; cases q1
end
end DL
set_option Elab.async false
set_option linter.all false
set_option maxRecDepth 100000
namespace DL
open PySem PySem.Spec PyProof.Rows L2
section
variable{X:Cx}{pins:List (Addr×Obj)}{σ:L2.St}{H:Hp}{s:Shared}{A:Around}{E:Value→Shared→Prop}{Q:Unit→Shared→Prop}{M:Model}
theorem inv_off{it:Addr}{h':Heap}(I:Inv X pins σ H s)(k:∀ b o,b≠it→s.heap.get? b=some o→h'.get? b=some o)(there:∃ o,h'.get? it=some o)(hn:H it=none)(hL:it≠X.env.locals)(h0:X.s₀.heap.get? it=none)(h2:∀ x c,X.env.cells.lookup x=some c→c≠it)(h3:∀ p∈X.pn++pins,p.1≠it):Inv X pins σ H { s with heap:=h' }:=by
 have n0:∀ b o,X.s₀.heap.get? b=some o→b≠it:=fun b o e z=>by rw[z,h0] at e; cases e
 have nit:∀ b u,H b=some u→b≠it:=fun b u e z=>by rw[z,hn] at e; cases e
 have ce:∀ x c,X.env.cells.lookup x=some c→∀ v,s.heap.IsCell c v→h'.IsCell c v:=fun x c e v ⟨o,ho,hd⟩=>⟨o,k c o (h2 x c e) ho,hd⟩
 refine⟨I.ok,I.os,I.bare,⟨fun b o e n hb hx=>k b o (n0 b o e) (I.base.keep b o e n hb hx),fun b o e n hb hx=>?_,I.base.free,fun b o e hx=>?_,I.base.tups,I.base.frzs,I.base.tbls⟩,?_,fun x c e=>?_,I.free,I.freeC,fun p hp=>?_,fun b u e=>?_,I.len⟩
 ·obtain⟨sl,q⟩:=I.base.slot b o e n hb hx
  exact⟨sl,k b _ (n0 b o e) q⟩
 ·obtain⟨o',q⟩:=I.base.there b o e hx
  exact⟨o',k b o' (n0 b o e) q⟩
 ·obtain⟨m,⟨o,es,ep,ho,r⟩,hl⟩:=I.loc
  refine⟨m,⟨o,es,ep,k _ o (Ne.symm hL) ho,r⟩,fun i x v e1 e2 e3=>?_⟩
  obtain⟨u,r,l⟩:=hl i x v e1 e2 e3
  refine⟨u,r,?_⟩
  rcases l with l | ⟨kk,c,e,z⟩
  ·exact .inl l
  ·exact .inr ⟨kk,c,e,ce x c e _ z⟩
 ·obtain⟨v,z⟩:=I.cell x c e
  exact⟨v,ce x c e v z⟩
 ·obtain⟨q1,q2,q3,q4,q5⟩:=I.pin p hp
  exact⟨k _ _ (h3 p hp) q1,q2,q3,q4,q5⟩
 ·refine(I.hok b u e).stay (fun c v hc q=>k c v ?_ q) (fun _ q=>q) fun _ _ q=>q
  rcases hc with z | z
  ·rw[z]; exact nit b u e
  ·exact nit c _ z
theorem rec_no{b:Addr}{o:Obj}{vs:Array Value}(I:Inv X pins σ H s)(e:s.heap.get? b=some o)(d:o.data=.fields vs):b≠X.env.locals∧∀ x c,X.env.cells.lookup x=some c→c≠b:=by
 refine⟨fun z=>?_,fun x c hc z=>?_⟩
 ·obtain⟨m,⟨o',es,ep,ho,hd,_⟩,_⟩:=I.loc
  rw[←z,e] at ho
  cases ho
  rw[d] at hd
  cases hd
 ·obtain⟨v,o',ho,hd⟩:=I.cell x c hc
  rw[z,e] at ho
  cases ho
  rw[d] at hd
  cases hd
theorem Landed.flight{a C:Addr}(l:Landed X pins σ H a C s)(hq:∀ s',Landed X pins σ H a C s'→Q () s'):wpAny M A (setFlight (.ref a) none) Q E s:=by
 obtain⟨T,I,⟨oe,vs,oT,ts,a0,e1,e2,e3,e4,e5,e6,e7,e8⟩,⟨na,nT⟩,⟨oa,ot⟩,pn⟩:=l.ex
 have h3:3<ts.size:=(Array.getElem?_eq_some_iff.mp e8).1
 refine wpAny_setFlight_none e1 e3 e4 e6 e7 h3 (hq _ ⟨T,?_,?_,⟨na,nT⟩,⟨oa,ot⟩,pn⟩)
 ·have rn:=rec_no I e6 e7
  exact inv_off (it:=T) I (fun b o hb q=>by rw[Heap.get?_update_other _ _ (Ne.symm hb)]; exact q) ⟨_,Heap.get?_update_self _ e6 (Obj.isFreed_of_fields (Obj.data_mapFields e7 _))⟩ nT rn.1 ot rn.2 fun p hp=>(pn p hp).2
 ·exact⟨oe,vs,_,_,a0,by rw[Heap.get?_update_other _ _ e5]; exact e1,e2,e3,e4,e5,Heap.get?_update_self _ e6 (Obj.isFreed_of_fields (Obj.data_mapFields e7 _)),Obj.data_mapFields e7 _,by simp[h3]⟩
abbrev hnd(X:Cx)(a:Addr):Cx:={ X with A:=X.A.mark (some (.ref a)),calm:=false,xe:=fun _ _=>False }
theorem _root_.L2.Inv.hnd(I:Inv X pins σ H s)(a:Addr):Inv (DL.hnd X a) pins σ H s:=
 ⟨⟨I.ok.mod,I.ok.kind,I.ok.glob,I.ok.blt,I.ok.above,I.ok.inj,I.ok.has,I.ok.cab,(fun z=>nomatch z),I.ok.frames,I.ok.stk,I.ok.exf,I.ok.bs,I.ok.bsz,I.ok.noex,I.ok.exfs,I.ok.funs,I.ok.frf⟩,I.os,I.bare,I.base,I.loc,I.cell,I.free,I.freeC,I.pin,I.hok,I.len⟩
theorem _root_.L2.Inv.unhnd{a:Addr}(ok:X.Ok)(I:Inv (DL.hnd X a) pins σ H s):Inv X pins σ H s:=⟨ok,I.os,I.bare,I.base,I.loc,I.cell,I.free,I.freeC,I.pin,I.hok,I.len⟩
end
end DL
set_option Elab.async false
set_option linter.all false
set_option maxRecDepth 100000
namespace DL
open PySem PySem.Spec PyProof.Rows L2
abbrev trb(X:Cx)(pn:List (Addr×Obj))(xe:Value→Shared→Prop):Cx:={ X with pn:=pn,xe:=xe }
section
variable{X:Cx}{XQ:XW}{pins:List (Addr×Obj)}{σ:L2.St}{H:Hp}{s:Shared}{pn:List (Addr×Obj)}{xe:Value→Shared→Prop}
theorem _root_.L2.Inv.trb(I:Inv X pins σ H s):Inv (DL.trb X (X.pn++pins) xe) [] σ H s:=
 ⟨⟨I.ok.mod,I.ok.kind,I.ok.glob,I.ok.blt,I.ok.above,I.ok.inj,I.ok.has,I.ok.cab,I.ok.hd,I.ok.frames,I.ok.stk,I.ok.exf,I.ok.bs,I.ok.bsz,I.ok.noex,I.ok.exfs,I.ok.funs,I.ok.frf⟩,I.os,I.bare,I.base,I.loc,I.cell,I.free,I.freeC,fun p hp=>I.pin p (by simpa using hp),I.hok,I.len⟩
theorem _root_.L2.Inv.untrb{pins':List (Addr×Obj)}(ok:X.Ok)(I:Inv (DL.trb X (X.pn++pins) xe) pins' σ H s):Inv X pins σ H s:=
 ⟨ok,I.os,I.bare,I.base,I.loc,I.cell,I.free,I.freeC,fun p hp=>I.pin p (List.mem_append_left _ hp),I.hok,I.len⟩
theorem Landed.untrb{pins':List (Addr×Obj)}{a C:Addr}(ok:X.Ok)(l:Landed (DL.trb X (X.pn++pins) xe) pins' σ H a C s):Landed X pins σ H a C s:=by
 obtain⟨T,I,f,n,o,p⟩:=l.ex
 exact⟨T,I.untrb ok,f,n,o,fun q hq=>p q (List.mem_append_left _ hq)⟩
theorem Plain.trb(pl:Plain X):Plain (trb X pn xe):=⟨pl.stk,pl.fr,pl.ex⟩
def stryG(ys:List Str)(hh:Str→Sv)(fb:Sv):Sv:=fun ρ S=>match fb ρ S with
 | .nx ρ' S'=>.nx ρ' S'
 | .rt d S'=>.rt d S'
 | .bk ρ' S'=>.bk ρ' S'
 | .ct ρ' S'=>.ct ρ' S'
 | .exc ⟨y,none⟩ ρ' S'=>if y∈ys then hh y ρ' S' else .bad
 | _=>.bad
theorem js_tryG{hd:ExceptHandler}{body:List Stmt}{ys:List Str}{hh:Str→Sv}{fb:Sv}{pos:Pos}(pl:Plain X)
  (hH:∀ (pins:List (Addr×Obj)) (σ:L2.St) (H:Hp) (s:Shared) (a C:Addr) (y:Str) (mp:List Addr) (ρ:Lc) (S:Sto) (D:Ends),y∈ys→CN X.K y C→Landed X pins σ H a C s→Gd X.K mp H σ ρ S→PostS X.K XQ mp H (hh y ρ S) D→wpAny (model X.prog X.w) X.A (handleBy (.ref a) X.env [hd]) (SP X pins D) X.xe s)
  (hb:∀ (pn:List (Addr×Obj)) (xe:Value→Shared→Prop) (XQ':XW),XL (trb X pn xe) XQ'→JSs (trb X pn xe) XQ' body fb):JS X XQ (.Try body [hd] [] [] pos) (stryG ys hh fb):=by
 intro pins s σ H D I ⟨mp,ρ,S,G,p⟩
 refine wpAny_Try_except ?_
 have ok:=I.ok
 let Eh:Value→Shared→Prop:=fun e s₁=>wpAny (model X.prog X.w) X.A (noteFrame e X.env) (fun _ s₂=>wpAny (model X.prog X.w) X.A (setFlight e none) (fun _ s₃=>wpAny (model X.prog X.w) X.A (handleBy e X.env [hd]) (SP X pins D) X.xe s₃) X.xe s₂) X.xe s₁
 let XQ':XW:=fun x mp H σ ρ S=>x.fld=none∧x.cls∈ys∧Gd X.K mp H σ ρ S∧PostS X.K XQ mp H (hh x.cls ρ S) D
 have fin:∀ (pins':List (Addr×Obj)) (σ:L2.St) (H:Hp) (s:Shared) (a C:Addr),WX X.K XQ' σ C H→Landed (DL.trb X (X.pn++pins) Eh) pins' σ H a C s→wpAny (model X.prog X.w) X.A (handleBy (.ref a) X.env [hd]) (SP X pins D) X.xe s:=
  fun pins' σ H s a C ⟨x,mp,ρ,S,_,hc,_,hm,G,p⟩ l=>hH pins σ H s a C x.cls mp ρ S D hm hc (l.untrb ok) G p
 have L:XL (DL.trb X (X.pn++pins) Eh) XQ':=⟨fun pins' σ H s e C I hH le w=>own_land (X:=DL.trb X (X.pn++pins) Eh) pl.trb I hH le fun s' l=>fin pins' σ _ s' e C w l,
  fun pins' σ H s e s' E2 I hx hE=>call_land (X:=DL.trb X (X.pn++pins) Eh) pl.trb I hx fun a C H' s'' ea q l=>by
   subst ea
   exact fin pins' σ H' s'' a C (hE C H' q) l,
  PassesOwn.looking⟩
 have post:PostS X.K XQ' mp H (fb ρ S) D:=by
  unfold stryG at p
  cases z:fb ρ S with
  | nx ρ' S'=>rw[z] at p; exact p
  | rt d S'=>rw[z] at p; exact p
  | bk ρ' S'=>rw[z] at p; exact p
  | ct ρ' S'=>rw[z] at p; exact p
  | bad=>rw[z] at p; exact p
  | exc x ρ' S'=>
   rw[z] at p
   obtain⟨y,fl⟩:=x
   cases fl with
   | some _=>exact p.elim
   | none=>
    by_cases hm:y∈ys
    ·have p:PostS X.K XQ mp H (hh y ρ' S') D:=by simpa only[if_pos hm] using p
     exact fun mp' H' σ' af G'=>⟨rfl,hm,G',PostS.aft p af⟩
    ·have p:PostS X.K XQ mp H .bad D:=by simpa only[if_neg hm] using p
     exact p.elim
 refine wpAny_mono (hb (X.pn++pins) Eh XQ' L [] s σ H D I.trb ⟨mp,ρ,S,G,post⟩) (fun f s1 q=>?_) fun e s1 q=>q
 cases f with
 | next=>
  obtain⟨σ',H',I',q⟩:=q
  exact wpAny_execs_nil ⟨σ',H',I'.untrb ok,q⟩
 | brk=>
  obtain⟨σ',H',I',q⟩:=q
  exact⟨σ',H',I'.untrb ok,q⟩
 | cont=>
  obtain⟨σ',H',I',q⟩:=q
  exact⟨σ',H',I'.untrb ok,q⟩
 | ret u=>
  obtain⟨v,σ',H',I',r,q⟩:=q
  exact⟨v,σ',H',I'.untrb ok,r,q⟩
structure Cat(K:PySem.W.Frag)(mg:Str→Option Value)(c:Str)(ys:List Str):Prop where
 ex:∃ cs,mg c=some (.ref cs)∧∀ y∈ys,∃ C,CN K y C∧XCl K C∧PySem.W.exmOne K (.ref C) (.ref cs)=some true
def hdl(i:Nat)(fh:Sv)(y:Str):Sv:=fun ρ S=>match fh (ρ.set i (some (.exn y none))) S with
 | .nx ρ' S'=>.nx (ρ'.set i none) S'
 | .rt d S'=>.rt d S'
 | .bk ρ' S'=>.bk (ρ'.set i none) S'
 | .ct ρ' S'=>.ct (ρ'.set i none) S'
 | _=>.bad
def hdl0(fh:Sv)(y:Str):Sv:=fun ρ S=>match fh ρ S with
 | .nx ρ' S'=>.nx ρ' S'
 | .rt d S'=>.rt d S'
 | .bk ρ' S'=>.bk ρ' S'
 | .ct ρ' S'=>.ct ρ' S'
 | _=>.bad
theorem fly_ty{M:Model}{h:Heap}{a T C:Addr}(f:Fly h a T C):PySem.W.Looks M h (typeOf (.ref a)) (.ref C):=by
 obtain⟨oe,vs,_,_,_,h1,⟨h2,_⟩,_⟩:=f
 exact h2▸(PySem.W.Looks.ld h1).andThen .now
theorem hit_ok{c:Str}{np hpos:Pos}{ys:List Str}{y:Str}{a C:Addr}{R:Result→Shared→Prop}(ct:Cat X.K X.mg c ys)(hg:Gl X c)(hp:plainN c=true)(hy:y∈ys)(hc:CN X.K y C)(l:Landed X pins σ H a C s)(hq:R (.ok .brk) s):
  XCl X.K C∧codeAny (model X.prog X.w) (X.A.mark (some (.ref a))) (.handlers (.ref a) [.ExceptHandler (some (.Name c np)) none [] hpos] X.env) R s:=by
 obtain⟨T,I,f,_⟩:=l.ex
 obtain⟨cs,hm,hk⟩:=ct.ex
 obtain⟨C',hc',xc,he⟩:=hk y hy
 cases CN.one hc hc'
 refine⟨xc,codeAny_handlers_test ?_⟩
 refine ld_glob (X:=hnd X a) (I.hnd a) hg hm ?_ (plainN.of hp).1
 exact(PySem.W.exm_one I.kIn (fly_ty f) he).here hq
theorem js_try0{c:Str}{np hpos pos:Pos}{b0:Stmt}{suite body:List Stmt}{ys:List Str}{fb fh:Sv}(pl:Plain X)(ct:Cat X.K X.mg c ys)(hg:Gl X c)(hp:plainN c=true)
  (hb:∀ (pn:List (Addr×Obj)) (xe:Value→Shared→Prop) (XQ':XW),XL (trb X pn xe) XQ'→JSs (trb X pn xe) XQ' body fb) (hs:∀ a,JSs (hnd X a) (fun _ _ _ _ _ _=>False) (b0::suite) fh):
  JS X XQ (.Try body [.ExceptHandler (some (.Name c np)) none (b0::suite) hpos] [] [] pos) (stryG ys (hdl0 fh) fb):=by
 refine js_tryG pl (fun pins σ H s a C y mp ρ S D hy hc l G p=>?_) hb
 refine wpAny_handleBy_cons ?_ (by intro q; cases q)
 obtain⟨xc,hit⟩:=hit_ok (np:=np) (hpos:=hpos) (R:=fun r s₁=>match r with
   | .ok .brk=>codeAny (model X.prog X.w) (X.A.mark (some (.ref a))) (.handlers (.ref a) [.ExceptHandler none none (b0::suite) hpos] X.env) (fun r s₂=>match r with
     | .ok f=>SP X pins D f s₂
     | .error x=>cameBackBy (model X.prog X.w) X.A X.env X.xe x s₂) s₁
   | .ok _=>wpAny (model X.prog X.w) X.A (handleBy (.ref a) X.env []) (SP X pins D) X.xe s₁
   | .error x=>cameBackBy (model X.prog X.w) X.A X.env X.xe x s₁) ct hg hp hy hc l (by
  refine codeAny_handlers_suite (l.flight fun s1 l1=>?_)
  obtain⟨T,I1,_⟩:=l1.ex
  have ok:=I1.ok
  refine wpAny_mono (hs a pins s1 _ _ D (I1.hnd a) ⟨mp,_,S,G,?_⟩) (fun f s3 q=>?_) (fun e s3 q=>q.elim)
  ·unfold hdl0 at p
   cases z:fh ρ S with
   | nx ρ' S'=>rw[z] at p; exact p
   | rt d S'=>rw[z] at p; exact p
   | bk ρ' S'=>rw[z] at p; exact p
   | ct ρ' S'=>rw[z] at p; exact p
   | exc x ρ' S'=>rw[z] at p; exact p.elim
   | bad=>rw[z] at p; exact p.elim
  ·cases f with
   | next=>
    obtain⟨σ',H',I',q⟩:=q
    exact⟨_,H',I'.unhnd ok,q⟩
   | brk=>
    obtain⟨σ',H',I',q⟩:=q
    exact⟨_,H',I'.unhnd ok,q⟩
   | cont=>
    obtain⟨σ',H',I',q⟩:=q
    exact⟨_,H',I'.unhnd ok,q⟩
   | ret u=>
    obtain⟨v,σ',H',I',r,q⟩:=q
    exact⟨v,_,H',I'.unhnd ok,r,q⟩)
 exact hit
end
end DL
set_option Elab.async false
set_option linter.all false
set_option maxRecDepth 100000
namespace DL
open PySem PySem.Spec PyProof.Rows L2
structure Isx(K:PySem.W.Frag)(mg:Str→Option Value)(x:Str)(ys sub:List Str):Prop where
 ex:∃ cs,mg x=some (.ref cs)∧∀ y∈ys,∃ C,CN K y C∧PySem.W.kitOne K (.ref C) (.ref cs)=some (decide (y∈sub))
structure IsxB(K:PySem.W.Frag)(T:String)(ys sub:List Str):Prop where
 ex:∀ y∈ys,∃ C,CN K y C∧PySem.W.kitOne K (.ref C) (.type T)=some (decide (y∈sub))
end DL
set_option Elab.async false
set_option linter.all false
set_option maxRecDepth 100000
namespace DL
open PySem PySem.Spec PyProof.Rows L2
def xclB(K:PySem.W.Frag)(c:Addr):Bool:=
 (PySem.W.findIn K (.ref c) "__getattribute__"==some (some (.builtin "BaseException.__getattribute__")))&&((PySem.W.findIn K (.ref c) "__getattr__"==some none)&&((PySem.W.findIn K (.ref c) "__class__"==some (some (.builtin "object.__class__")))
  && ((PySem.W.clsIn K c).isSome&&((PySem.W.mroIn K c (.type "object")==some true)&&((PySem.W.subIn K (.ref c) (.type "BaseException")==some true)&&["bool","int","str","tuple","list"].all fun T=>PySem.W.kitOne K (.ref c) (.type T)==some false)))))
theorem xcl_of{K:PySem.W.Frag}{c:Addr}(h:xclB K c=true):XCl K c:=by
 unfold xclB at h
 simp only[Bool.and_eq_true,beq_iff_eq,List.all_eq_true] at h
 obtain⟨h1,h2,h3,h4,h5,h6,h7⟩:=h
 exact⟨h1,h2,h3,h4,h5,h6,h7⟩
def xrowB(K:PySem.W.Frag)(cs:Addr)(l:List (Str×Addr))(p:Str×Addr):Bool:=
 (PySem.W.nsIn K mainGlobals p.1==some (some (.ref p.2)))&&(xclB K p.2&&((PySem.W.exmOne K (.ref p.2) (.ref cs)==some true)&&((PySem.W.kitOne K (.ref p.2) (.type "ValueError")==some true)&&l.all fun q=>PySem.W.kitOne K (.ref p.2) (.ref q.2)==some (decide (p.1∈[q.1])))))
def xtabB(K:PySem.W.Frag)(cs:Addr)(l:List (Str×Addr)):Bool:=l.all fun p=>xrowB K cs l p
structure XT(K:PySem.W.Frag)(mg:Str→Option Value)(sup:Str)(ys:List Str):Prop where
 cat:Cat K mg sup ys
 isx:∀ x∈ys,Isx K mg x ys [x]
 val:IsxB K "ValueError" ys ys
 xns:XNs K ys
theorem xt_mk{K:PySem.W.Frag}{h:Heap}{mg:Str→Option Value}{sup:Str}{cs:Addr}{l:List (Str×Addr)}(X:K.In h)(G:h.Ns mainGlobals mg)(a:PySem.W.nsIn K mainGlobals sup=some (some (.ref cs)))(t:xtabB K cs l=true):XT K mg sup (l.map (·.1)):=by
 have q:∀ p∈l,CN K p.1 p.2∧XCl K p.2∧PySem.W.exmOne K (.ref p.2) (.ref cs)=some true∧PySem.W.kitOne K (.ref p.2) (.type "ValueError")=some true∧∀ r∈l,PySem.W.kitOne K (.ref p.2) (.ref r.2)=some (decide (p.1∈[r.1])):=fun p hp=>by
  have z:=List.all_eq_true.mp t p hp
  unfold xrowB at z
  simp only[Bool.and_eq_true,beq_iff_eq,List.all_eq_true] at z
  obtain⟨h1,h2,h3,h4,h5⟩:=z
  exact⟨h1,xcl_of h2,h3,h4,h5⟩
 refine⟨⟨cs,PySem.W.mg_of X G a,fun y hy=>?_⟩,fun x hx=>?_,⟨fun y hy=>?_⟩,fun y hy=>?_⟩
 ·obtain⟨p,hp,rfl⟩:=List.mem_map.mp hy
  obtain⟨h1,h2,h3,h4,h5⟩:=q p hp
  exact⟨p.2,h1,h2,h3⟩
 ·obtain⟨r,hr,rfl⟩:=List.mem_map.mp hx
  refine⟨r.2,PySem.W.mg_of X G (q r hr).1,fun y hy=>?_⟩
  obtain⟨p,hp,rfl⟩:=List.mem_map.mp hy
  obtain⟨h1,h2,h3,h4,h5⟩:=q p hp
  exact⟨p.2,h1,h5 r hr⟩
 ·obtain⟨p,hp,rfl⟩:=List.mem_map.mp hy
  obtain⟨h1,h2,h3,h4,h5⟩:=q p hp
  exact⟨p.2,h1,by rw[h4,decide_eq_true hy]⟩
 ·obtain⟨p,hp,rfl⟩:=List.mem_map.mp hy
  obtain⟨h1,h2,h3,h4,h5⟩:=q p hp
  exact⟨p.2,h1,h2⟩
def kxB(K:PySem.W.Frag)(C:Addr):Bool:=match K.lookup C with
 | some ⟨.type "type",_,.cls cd,sl⟩=>(match cd.mro,sl.toList with
  | .ref C'::bm,[_,_,_,_,some (.builtin n),_]=>C'==C&&(!cd.hasDel&&(n=="ValueError.__new__"&&(bm.contains (.type "ValueError")&&(!bm.contains (.type "AttributeError")&&(!bm.contains (.type "NameError")&&bm.contains (.type "BaseException"))))))
  | _,_=>false)
 | _=>false
theorem kx_of{K:PySem.W.Frag}{C:Addr}(q:kxB K C=true):KX K C:=by
 unfold kxB at q
 split at q
 ·rename_i dd cd sl ho
  split at q
  ·rename_i C' bm k0 k1 k2 k3 n k5 hm hs
   simp only[Bool.and_eq_true,beq_iff_eq,Bool.not_eq_true'] at q
   obtain⟨rfl,hdel,hn,h1,h2,h3,h4⟩:=q
   subst hn
   obtain⟨nm,bs,mro,ns,qn,hd,sn,sub,ab,col,del⟩:=cd
   dsimp only at hm hdel
   subst hm hdel
   have hsl:sl=#[k0,k1,k2,k3,some (.builtin "ValueError.__new__"),k5]:=by
    obtain⟨l⟩:=sl
    simp only at hs
    rw[hs]
   subst hsl
   exact⟨nm,qn,ns,bs,bm,hd,sn,sub,ab,col,dd,k0,k1,k2,k3,k5,ho,⟨h1,h2,h3,h4⟩⟩
  ·cases q
 ·cases q
def clxB(K:PySem.W.Frag)(c f:Addr):Bool:=kxB K c&&(PySem.W.findIn K (.ref c) "__init__"==some (some (.ref f)))
section
variable{P:Program}{w:World}{K:PySem.W.Frag}{mg:Str→Option Value}{base:Heap}
structure IniX(P:Program)(w:World)(K:PySem.W.Frag)(mg:Str→Option Value)(base:Heap)(f:Addr)(j:Nat):Prop where
 ex:∃ fd ps oI,K.lookup f=some oI∧oI.cls=.type "function"∧FnOk P w K mg base CX0 j f fd ps (spI K)∧ps.length=2∧Binds K fd ps []
theorem clx_mk{h:Heap}{x:Str}{C f:Addr}{j:Nat}(X:K.In h)(G:h.Ns mainGlobals mg)(i:IniX P w K mg base f j)(a:PySem.W.nsIn K mainGlobals x=some (some (.ref C)))(t:clxB K C f=true):ClX P w K mg base x j:=by
 obtain⟨fd,ps,oI,l,c,F,n,b⟩:=i.ex
 unfold clxB at t
 simp only[Bool.and_eq_true,beq_iff_eq] at t
 exact⟨C,f,fd,ps,oI,PySem.W.mg_of X G a,a,kx_of t.1,t.2,l,c,F,n,b⟩
abbrev tInit(K:PySem.W.Frag):TS:=tDrop (tVI K (tCons (tVar 0) (tCons (tVar 1) tNil)))
theorem ini_mk{st:Stmt}{f:Addr}{od an:Option Addr}{osl:Array (Option Value)}{kV doc pm cdv ct:Value}(l:K.lookup f=some ⟨.type "function",od,.func (PySem.W.fnOf "__init__" "SummitError.__init__" (defArgs st) (defBody st) (defScope st) .none kV doc pm an cdv ct),osl⟩)
  (c:PySem.W.codeIn K cdv "SummitError.__init__"=true) (k:PySem.W.keepIn K (.ref f)=true) (Sc:FnScope ["self","text"] ["self","text"] (defScope st))
  (hb:∀ (f:Addr) (cdv:Value) (A:Around) (outer:List PySem.Env) (s:Shared) (H:Hp) (E:XK),PSs (cxOf CX0 P w K mg base ["self","text"] "SummitError.__init__" (defScope st) f cdv A outer s H E).nox (defBody st) (tInit K))
  (bi:∀ (kV doc pm:Value) (an:Option Addr) (cdv ct:Value) (us:List Value),us.length=2→bindArgs (PySem.W.fnOf "__init__" "SummitError.__init__" (defArgs st) (defBody st) (defScope st) .none kV doc pm an cdv ct) ⟨us,[]⟩=pure ((["self","text"]:List Str).zip us)):IniX P w K mg base f 1:=by
 have F:=fun_mk (st:=st) l c k
 refine⟨_,["self","text"],_,l,rfl,?_,rfl,F.binds bi⟩
 refine Fun.ok F Sc (fun vs H Q E ⟨e,v,C,dx,ev,_⟩=>by rw[ev]; rfl) fun cdv A outer s H vs Q E hr ⟨e,v,C,dx,ev,hH,kx,q⟩=>?_
 refine⟨_,hb _ cdv A outer s H E,?_⟩
 subst ev
 exact⟨.ref e,rfl,v,rfl,e,v,C,dx,rfl,hH,kx,q⟩
end
end DL
set_option Elab.async false
set_option linter.all false
set_option maxRecDepth 100000
namespace DL
open PySem PySem.Spec PyProof.Rows L2
section
variable{X:Cx}{XQ:XW}
def rngB(i j:Int):Prop:=(-1000000000000≤i∧i≤1000000000000) ∧ -1000000000000≤j∧j≤1000000000000
instance {i j:Int}:Decidable (rngB i j):=inferInstanceAs (Decidable ((-1000000000000≤i∧i≤1000000000000) ∧ -1000000000000≤j∧j≤1000000000000))
end
end DL
set_option Elab.async false
set_option linter.all false
set_option maxRecDepth 100000
namespace DL
open PySem PySem.Spec PyProof.Rows L2
structure FvT(K:PySem.W.Frag)(mg:Str→Option Value)(x:Str):Prop where
 ex:∃ f,CN K x f∧mg x=some (.ref f)
section
variable{X:Cx}{XQ:XW}{k:Nat}{ps:List Str}{fn:Fn}{x y:Str}{p pos:Pos}{e:Expr}{es:List Expr}
theorem je_fv1(t:FvT X.K X.mg x)(hg:Gl X x)(hp:plainN x=true):JE X XQ (.Name x pos) (cn (.fv x)):=by
 obtain⟨f,hc,hm⟩:=t.ex
 exact je_const (pe_glob hg hm (v:=.ref f) rfl (plainN.of hp).1) fun mp H=>⟨f,rfl,hc⟩
theorem xl_no:XL X.nox (fun _ _ _ _ _ _=>False) where
 own:=fun pins σ H s e C I hH le ⟨x,mp,ρ,S,_,_,h⟩=>h.elim
 cal:=fun pins σ H s e s' E2 I hx hE=>by
  obtain⟨a,T,C,H',_,_,_,_,_,_,_,_,h⟩:=hx
  obtain⟨_,_,_,_,_,_,z⟩:=hE C H' h
  exact z.elim
 pas:=PassesOwn.never
def clv(i:Nat)(x:Str)(n:Nat)(fn:Fn)(t:Ev (List D)):Ev D:=fun ρ S=>match ρ[i]? with
 | some (some (.fv y))=>if y=x then(t ρ S).bind fun ds S1=>if ds.length=n then fn ds S1 else .bad else .bad
 | _=>.bad
theorem je_callV(i:Nat){j:Nat}{ys:List Str}{t:Ev (List D)}(xs:XNs X.K ys)(L:XL X XQ)(C:CalX X.prog X.w X.K X.mg X.base x ps fn j)(hr:Room k X.A)(hj:j≤k)(hN:X.N[i]?=some y)(hv:Vis X.env.scope y)(hy:plainN y=true)
  (ha:JA X XQ (e::es) t) (he:starEach (e::es) X.env=(false,eval e X.env)::starEach es X.env:=by rfl) (hpl:(backTo pos (starEach es X.env)).any (·.1)=false:=by rfl):
  JE X XQ (.Call (.Name y p) (e::es) [] pos) (clv i x ps.length (gX ys fn) t):=by
 obtain⟨f,fd,F,hm,hk,hb⟩:=C.ex
 intro pins s σ H Q I ⟨mp,ρ,S,G,p0⟩
 unfold clv at p0
 split at p0
 ·rename_i z hz
  by_cases c:z=x
  ·rw[if_pos c] at p0
   subst c
   obtain⟨v,hσ,f',rfl,hc⟩:=G.loc i _ hz
   have hm':=PySem.W.mg_of I.ok.mod.kin I.ok.mod.glob hc
   rw[hm] at hm'
   cases hm'
   refine wpAny_Call_Name_kw (thn (pe_var hN hv (plainN.of hy).1 (plainN.of hy).2 pins s σ H (fun w H'=>w=.ref f∧H'=H) I ⟨.ref f,hσ,rfl,rfl⟩) fun u s1 ⟨w,H1,I1,r1,e1,e2⟩=>?_)
   subst e1 e2
   obtain rfl:u=Value.ref f:=r1
   refine PySem.W.callWith_K (h₀:=X.base) I1.ok.mod.kin hk ?_ he hpl
   refine thn (ha pos pins s1 σ H1 (fun vs H2=>spX X.K ps.length fn vs H2 Q fun c dx H'=>∃ C,c=.ref C∧dx=none∧WX X.K XQ σ C H') I1 ?_) fun us s2 ⟨vs,H2,I2,r2,q2⟩=>⟨I2.kIn,run_fnX (F.mono hj) hr hb L.cal I2 r2 q2⟩
   refine bindP G p0 fun mp1 H1 ds S1 vs a1 G1 r1 p1=>?_
   by_cases hl:ds.length=ps.length
   ·rw[if_pos hl] at p1
    refine⟨mp1,ds,S1,G1.rs,r1,hl,?_⟩
    unfold gX at p1
    cases z:fn ds S1 with
    | ok d S'=>rw[z] at p1; exact p1
    | exc xx S'=>
     rw[z] at p1
     obtain⟨y,fl⟩:=xx
     cases fl with
     | some _=>exact p1.elim
     | none=>
      by_cases hi:y∈ys
      ·have p1:PostG X.K (Rep X.K) XQ σ ρ mp1 H1 (.exc ⟨y,none⟩ S') Q:=by simpa only[if_pos hi] using p1
       obtain⟨C,hC,_⟩:=xs y hi
       refine⟨rfl,C,hC,fun mp' H' af rs=>⟨C,rfl,rfl,⟨y,none⟩,mp',ρ,S',rfl,hC,p1 mp' H' af (G1.aft af rs)⟩⟩
      ·have p1:PostG X.K (Rep X.K) XQ σ ρ mp1 H1 .bad Q:=by simpa only[if_neg hi] using p1
       exact p1.elim
    | bad=>rw[z] at p1; exact p1.elim
   ·rw[if_neg hl] at p1; exact p1.elim
  ·rw[if_neg c] at p0; exact p0.elim
 ·exact p0.elim
def orE(f g:Ev D):Ev D:=fun ρ S=>match f ρ S with
 | .bad=>g ρ S
 | r=>r
theorem je_orE{e:Expr}{f g:Ev D}(h1:JE X XQ e f)(h2:JE X XQ e g):JE X XQ e (orE f g):=by
 intro pins s σ H Q I ⟨mp,ρ,S,G,p0⟩
 unfold orE at p0
 cases z:f ρ S with
 | bad=>rw[z] at p0; exact h2 pins s σ H Q I ⟨mp,ρ,S,G,p0⟩
 | ok d S'=>rw[z] at p0; exact h1 pins s σ H Q I ⟨mp,ρ,S,G,by rw[z]; exact p0⟩
 | exc x S'=>rw[z] at p0; exact h1 pins s σ H Q I ⟨mp,ρ,S,G,by rw[z]; exact p0⟩
end
end DL
set_option Elab.async false
set_option linter.all false
set_option maxRecDepth 100000
namespace DL
open PySem PySem.Spec PyProof.Rows L2
structure GE(X:Cx)(XQ:XW)(e:Expr)(f:Ev D):Prop where
 h:JE X XQ e f
structure GA(X:Cx)(XQ:XW)(es:List Expr)(f:Ev (List D)):Prop where
 h:JA X XQ es f
structure GT(X:Cx)(XQ:XW)(e:Expr)(f:Ev Bool):Prop where
 h:JT X XQ e f
structure GW(X:Cx)(XQ:XW)(e:Expr)(f:Ev Bool):Prop where
 h:JW X XQ e f
structure GO(X:Cx)(XQ:XW)(e:Option Expr)(f:Ev (Option Int)):Prop where
 h:JO X XQ e f
structure GS(X:Cx)(XQ:XW)(st:Stmt)(f:Sv):Prop where
 h:JS X XQ st f
structure GSs(X:Cx)(XQ:XW)(st:List Stmt)(f:Sv):Prop where
 h:JSs X XQ st f
structure GI(X:Cx)(XQ:XW)(tg it:Expr)(f:Ev Src):Prop where
 h:JI X XQ tg it f
structure GG(X:Cx)(tg:Expr)(g:Tg):Prop where
 h:JG X tg g
structure GGs(X:Cx)(ts:List Expr)(g:Tgs):Prop where
 h:JGs X ts g
structure GTs(Y:Cx)(XQ:XW)(ifs:List Expr)(t:Ev Bool):Prop where
 h:JTs Y XQ ifs t
section
variable{X:Cx}{XQ:XW}{k:Nat}{ps:List Str}{fn:Fn}{x y:Str}{p pos:Pos}{e:Expr}{es:List Expr}
theorem ge_fv1(t:FvT X.K X.mg x)(hg:Gl X x)(hp:plainN x=true):GE X XQ (.Name x pos) (cn (.fv x)):=⟨je_fv1 t hg hp⟩
end
section
variable{X:Cx}{XQ:XW}{k:Nat}{ps:List Str}{fn:Fn}{x y:Str}{p pos:Pos}{e:Expr}{es:List Expr}
theorem ge_callV(i:Nat){j:Nat}{ys:List Str}{t:Ev (List D)}(xs:XNs X.K ys)(L:XL X XQ)(C:CalX X.prog X.w X.K X.mg X.base x ps fn j)(hr:Room k X.A)(hj:j≤k)(hN:X.N[i]?=some y)(hv:Vis X.env.scope y)(hy:plainN y=true)(ha:GA X XQ (e::es) t)(he:starEach (e::es) X.env=(false,eval e X.env)::starEach es X.env:=by rfl)(hpl:(backTo pos (starEach es X.env)).any (·.1)=false:=by rfl):GE X XQ (.Call (.Name y p) (e::es) [] pos) (clv i x ps.length (gX ys fn) t):=⟨je_callV i xs L C hr hj hN hv hy ha.h he hpl⟩
end
section
variable{X:Cx}{XQ:XW}{k:Nat}{ps:List Str}{fn:Fn}{x y:Str}{p pos:Pos}{e:Expr}{es:List Expr}
theorem ge_orE{e:Expr}{f g:Ev D}(h1:GE X XQ e f)(h2:GE X XQ e g):GE X XQ e (orE f g):=⟨je_orE h1.h h2.h⟩
end
section
variable{X:Cx}{XQ:XW}
theorem gi_enumL{es:List Expr}{x1}{tp:Pos}{a:Expr}{f:Ev (List D)}{p pos:Pos}(hg:Gl X "enumerate")(hm:X.mg "enumerate"=none)(ha:GA X XQ [a] f)(hs:starEach [a] X.env=[(false,eval a X.env)]:=by rfl):GI X XQ (.Tuple es x1 tp) (.Call (.Name "enumerate" p) [a] [] pos) (ienumL f):=⟨ji_enumL hg hm ha.h hs⟩
end
section
variable{X:Cx}{XQ:XW}
theorem ge_non{j pos}:GE X XQ (.Constant .none j pos) (cn .non):=⟨je_non ⟩
end
section
variable{X:Cx}{XQ:XW}
theorem ge_bl{b:Bool}{j pos}:GE X XQ (.Constant (.bool b) j pos) (cn (.bl b)):=⟨je_bl ⟩
end
section
variable{X:Cx}{XQ:XW}
theorem ge_int{i:Int}{j pos}:GE X XQ (.Constant (.int i) j pos) (cn (.int i)):=⟨je_int ⟩
end
section
variable{X:Cx}{XQ:XW}
theorem ge_str{x:Str}{j pos}:GE X XQ (.Constant (.str x) j pos) (cn (.str x)):=⟨je_str ⟩
end
section
variable{X:Cx}{XQ:XW}
theorem ge_add{a b:Expr}{fa fb:Ev D}{pos:Pos}(ha:GE X XQ a fa)(hb:GE X XQ b fb):GE X XQ (.BinOp a .Add b pos) (o2 addD fa fb):=⟨je_add ha.h hb.h⟩
end
section
variable{X:Cx}{XQ:XW}{a b:Expr}{fa fb:Ev D}{pos:Pos}
theorem ge_sub(ha:GE X XQ a fa)(hb:GE X XQ b fb):GE X XQ (.BinOp a .Sub b pos) (o2 subD fa fb):=⟨je_sub ha.h hb.h⟩
end
section
variable{X:Cx}{XQ:XW}
theorem ge_mul{a b:Expr}{fa fb:Ev D}{pos:Pos}(ha:GE X XQ a fa)(hb:GE X XQ b fb):GE X XQ (.BinOp a .Mult b pos) (o2 mulD fa fb):=⟨je_mul ha.h hb.h⟩
end
section
variable{X:Cx}{XQ:XW}{a b:Expr}{fa fb:Ev D}{pos:Pos}
theorem ge_mod(ha:GE X XQ a fa)(hb:GE X XQ b fb):GE X XQ (.BinOp a .Mod b pos) (o2 modD fa fb):=⟨je_mod ha.h hb.h⟩
end
section
variable{X:Cx}{XQ:XW}
theorem ge_div2{a b:Expr}{fa fb:Ev D}{pos:Pos}(ha:GE X XQ a fa)(hb:GE X XQ b fb):GE X XQ (.BinOp a .FloorDiv b pos) (o2 divD2 fa fb):=⟨je_div2 ha.h hb.h⟩
end
section
variable{X:Cx}{XQ:XW}{a b:Expr}{fa fb:Ev D}{pos:Pos}
theorem ge_pow(ha:GE X XQ a fa)(hb:GE X XQ b fb):GE X XQ (.BinOp a .Pow b pos) (o2 powD fa fb):=⟨je_pow ha.h hb.h⟩
end
section
variable{X:Cx}{XQ:XW}{a b:Expr}{fa fb:Ev D}{pos:Pos}
theorem ge_lt(ha:GE X XQ a fa)(hb:GE X XQ b fb):GE X XQ (.Compare a [.Lt] [b] pos) (o2 ltD fa fb):=⟨je_lt ha.h hb.h⟩
end
section
variable{X:Cx}{XQ:XW}{a b:Expr}{fa fb:Ev D}{pos:Pos}
theorem ge_le(ha:GE X XQ a fa)(hb:GE X XQ b fb):GE X XQ (.Compare a [.LtE] [b] pos) (o2 leD fa fb):=⟨je_le ha.h hb.h⟩
end
section
variable{X:Cx}{XQ:XW}{a b:Expr}{fa fb:Ev D}{pos:Pos}
theorem ge_ge(ha:GE X XQ a fa)(hb:GE X XQ b fb):GE X XQ (.Compare a [.GtE] [b] pos) (o2 geD fa fb):=⟨je_ge ha.h hb.h⟩
end
section
variable{X:Cx}{XQ:XW}
theorem ge_eq{a b:Expr}{fa fb:Ev D}{pos:Pos}(hu:X.A.units+64<cLine)(ha:GE X XQ a fa)(hb:GE X XQ b fb):GE X XQ (.Compare a [.Eq] [b] pos) (o2 eqD fa fb):=⟨je_eq hu ha.h hb.h⟩
end
section
variable{X:Cx}{XQ:XW}
theorem ge_ne{a b:Expr}{fa fb:Ev D}{pos:Pos}(hu:X.A.units+64<cLine)(ha:GE X XQ a fa)(hb:GE X XQ b fb):GE X XQ (.Compare a [.NotEq] [b] pos) (o2 neD fa fb):=⟨je_ne hu ha.h hb.h⟩
end
section
variable{X:Cx}{XQ:XW}{a b:Expr}{fa fb:Ev D}{pos:Pos}
theorem ge_notn(ha:GE X XQ a fa)(hb:GE X XQ b fb):GE X XQ (.Compare a [.IsNot] [b] pos) (o2 notnD fa fb):=⟨je_notn ha.h hb.h⟩
end
section
variable{X:Cx}{XQ:XW}
theorem ge_and{a b:Expr}{rest:List Expr}{f g:Ev D}{pos:Pos}(ha:GE X XQ a f)(hb:GE X XQ (.BoolOp .And (b::rest) pos) g):GE X XQ (.BoolOp .And (a::b::rest) pos) (va f g):=⟨je_and ha.h hb.h⟩
end
section
variable{X:Cx}{XQ:XW}
theorem ge_one{a:Expr}{op}{f:Ev D}{pos:Pos}(h:GE X XQ a f):GE X XQ (.BoolOp op [a] pos) f:=⟨je_one h.h⟩
end
section
variable{X:Cx}{XQ:XW}
theorem ge_neg{a:Expr}{fa:Ev D}{pos:Pos}(ha:GE X XQ a fa):GE X XQ (.UnaryOp .USub a pos) (o1 negD fa):=⟨je_neg ha.h⟩
end
section
variable{X:Cx}{XQ:XW}
theorem ge_ifx{a b c:Expr}{fc:Ev Bool}{fa fb:Ev D}{pos:Pos}(hc:GT X XQ c fc)(ha:GE X XQ a fa)(hb:GE X XQ b fb):GE X XQ (.IfExp c a b pos) (ie fc fa fb):=⟨je_ifx hc.h ha.h hb.h⟩
end
section
variable{X:Cx}{XQ:XW}
theorem ge_get{a b:Expr}{fa fb:Ev D}{pos:Pos}(ha:GE X XQ a fa)(hb:GE X XQ b fb)(hs:PlainIx b:=by intro _ _; rfl):GE X XQ (.Subscript a b pos) (o2 getD fa fb):=⟨je_get ha.h hb.h hs⟩
end
section
variable{X:Cx}{XQ:XW}
theorem ge_slice2{e:Expr}{lo hi:Option Expr}{fe:Ev D}{fl fh:Ev (Option Int)}{pos p2:Pos}(he:GE X XQ e fe)(hl:GO X XQ lo fl)(hh:GO X XQ hi fh):GE X XQ (.Subscript e (.Slice lo hi none p2) pos) (sl2 fe fl fh):=⟨je_slice2 he.h hl.h hh.h⟩
end
section
variable{X:Cx}{XQ:XW}
theorem ge_lst{es:List Expr}{f:Ev (List D)}{pos:Pos}(h:GA X XQ es f):GE X XQ (.List es pos) (ls f):=⟨je_lst h.h⟩
end
section
variable{X:Cx}{XQ:XW}
theorem ge_tup{es:List Expr}{f:Ev (List D)}{x1}{pos:Pos}(h:GA X XQ es f):GE X XQ (.Tuple es x1 pos) (tp f):=⟨je_tup h.h⟩
end
section
variable{X:Cx}{XQ:XW}
theorem ge_isi{T:String}{x:Str}{e:Expr}{f:Ev D}{p p2 pos:Pos}(k:Kit X.K T)(hv:bootBuiltins x=some (.type T))(hnx:x≠"__name__")(hdx:(x==("__debug__":Str))=false)(hg:Gl X "isinstance")(hm:X.mg "isinstance"=none)(hgt:Gl X x)(hmt:X.mg x=none)(he:GE X XQ e f)(hs:starEach [e,.Name x p2] X.env=(false,eval e X.env)::starEach [.Name x p2] X.env)(hpl:(backTo pos (starEach [.Name x p2] X.env)).any (·.1)=false)(hs2:starEach [.Name x p2] X.env=(false,eval (.Name x p2) X.env)::starEach [] X.env):GE X XQ (.Call (.Name "isinstance" p) [e,.Name x p2] [] pos) (o1 (isD T) f):=⟨je_isi k hv hnx hdx hg hm hgt hmt he.h hs hpl hs2⟩
end
section
variable{X:Cx}{XQ:XW}
theorem ge_len{p pos:Pos}{e:Expr}{f:Ev (List D)}(hg:Gl X "len")(hm:X.mg "len"=none)(ha:GA X XQ [e] f)(he:starEach [e] X.env=(false,eval e X.env)::starEach [] X.env:=by rfl):GE X XQ (.Call (.Name "len" p) [e] [] pos) (b1 lenD f):=⟨je_len hg hm ha.h he⟩
end
section
variable{X:Cx}{XQ:XW}
theorem ge_list{p pos:Pos}{e:Expr}{f:Ev (List D)}(hg:Gl X "list")(hm:X.mg "list"=none)(ha:GA X XQ [e] f)(he:starEach [e] X.env=(false,eval e X.env)::starEach [] X.env:=by rfl):GE X XQ (.Call (.Name "list" p) [e] [] pos) (b1 listD f):=⟨je_list hg hm ha.h he⟩
end
section
variable{X:Cx}{XQ:XW}
theorem ge_tuple{p pos:Pos}{e:Expr}{f:Ev (List D)}(hg:Gl X "tuple")(hm:X.mg "tuple"=none)(ha:GA X XQ [e] f)(he:starEach [e] X.env=(false,eval e X.env)::starEach [] X.env:=by rfl):GE X XQ (.Call (.Name "tuple" p) [e] [] pos) (b1 tupD f):=⟨je_tuple hg hm ha.h he⟩
end
section
variable{X:Cx}{XQ:XW}
theorem ge_min{p pos:Pos}{e e':Expr}{f:Ev (List D)}(hc:X.calm=true)(hg:Gl X "min")(hm:X.mg "min"=none)(ha:GA X XQ [e,e'] f)(he:starEach [e,e'] X.env=(false,eval e X.env)::starEach [e'] X.env:=by rfl)(hpl:(backTo pos (starEach [e'] X.env)).any (·.1)=false:=by rfl):GE X XQ (.Call (.Name "min" p) [e,e'] [] pos) (b1 minD f):=⟨je_min hc hg hm ha.h he hpl⟩
end
section
variable{X:Cx}{XQ:XW}
theorem ge_intc{p pos:Pos}{e:Expr}{f:Ev (List D)}(hg:Gl X "int")(hm:X.mg "int"=none)(ha:GA X XQ [e] f)(he:starEach [e] X.env=(false,eval e X.env)::starEach [] X.env:=by rfl):GE X XQ (.Call (.Name "int" p) [e] [] pos) (b1 intD f):=⟨je_intc hg hm ha.h he⟩
end
section
variable{X:Cx}{XQ:XW}
theorem ge_repr{k:Nat}{p pos:Pos}{e:Expr}{f:Ev (List D)}(hr:Room k X.A)(hg:Gl X "repr")(hm:X.mg "repr"=none)(ha:GA X XQ [e] f)(he:starEach [e] X.env=(false,eval e X.env)::starEach [] X.env:=by rfl):GE X XQ (.Call (.Name "repr" p) [e] [] pos) (b1 reprD f):=⟨je_repr hr hg hm ha.h he⟩
end
section
variable{X:Cx}{XQ:XW}
theorem ge_sum{p pos:Pos}{e:Expr}{f:Ev (List D)}(hc:X.calm=true)(hg:Gl X "sum")(hm:X.mg "sum"=none)(ha:GA X XQ [e] f)(he:starEach [e] X.env=(false,eval e X.env)::starEach [] X.env:=by rfl):GE X XQ (.Call (.Name "sum" p) [e] [] pos) (b1 sumD f):=⟨je_sum hc hg hm ha.h he⟩
end
section
variable{X:Cx}{XQ:XW}
theorem ge_append{o e:Expr}{apos cpos:Pos}{fo:Ev D}{f:Ev (List D)}(ho:GE X XQ o fo)(ha:GA X XQ [e] f)(hbase:attributeBase o "append" X.env (eval o X.env)=eval o X.env:=by rfl)(hfew:((backTo cpos (starEach [e] X.env)).all (fun x=>!x.1)&&(backToKw cpos (keywordEach [] X.env)).all (fun x=>x.1.isSome)
   && decide ([e].length+([]:List Keyword).length+(if([]:List Keyword).isEmpty then 0 else 1)<30))=true:=by rfl) (hline:(apos.endLine==cpos.line)=true:=by rfl) (hs:starEach [e] X.env=(false,eval e X.env)::starEach [] X.env:=by rfl):GE X XQ (.Call (.Attribute o "append" apos) [e] [] cpos) (mt appD fo f):=⟨je_append ho.h ha.h hbase hfew hline hs⟩
end
section
variable{X:Cx}{XQ:XW}{a b:Expr}{fa fb:Ev D}{pos:Pos}
theorem gt_lt(ha:GE X XQ a fa)(hb:GE X XQ b fb):GT X XQ (.Compare a [.Lt] [b] pos) (tb (o2 ltD fa fb)):=⟨jt_lt ha.h hb.h⟩
end
section
variable{X:Cx}{XQ:XW}{a b:Expr}{fa fb:Ev D}{pos:Pos}
theorem gt_gt(ha:GE X XQ a fa)(hb:GE X XQ b fb):GT X XQ (.Compare a [.Gt] [b] pos) (tb (o2 gtD fa fb)):=⟨jt_gt ha.h hb.h⟩
end
section
variable{X:Cx}{XQ:XW}{a b:Expr}{fa fb:Ev D}{pos:Pos}
theorem gt_ge(ha:GE X XQ a fa)(hb:GE X XQ b fb):GT X XQ (.Compare a [.GtE] [b] pos) (tb (o2 geD fa fb)):=⟨jt_ge ha.h hb.h⟩
end
section
variable{X:Cx}{XQ:XW}
theorem gt_eq{a b:Expr}{fa fb:Ev D}{pos:Pos}(hu:X.A.units+64<cLine)(ha:GE X XQ a fa)(hb:GE X XQ b fb):GT X XQ (.Compare a [.Eq] [b] pos) (tb (o2 eqD fa fb)):=⟨jt_eq hu ha.h hb.h⟩
end
section
variable{X:Cx}{XQ:XW}
theorem gt_ne{a b:Expr}{fa fb:Ev D}{pos:Pos}(hu:X.A.units+64<cLine)(ha:GE X XQ a fa)(hb:GE X XQ b fb):GT X XQ (.Compare a [.NotEq] [b] pos) (tb (o2 neD fa fb)):=⟨jt_ne hu ha.h hb.h⟩
end
section
variable{X:Cx}{XQ:XW}{a b:Expr}{fa fb:Ev D}{pos:Pos}
theorem gt_isn(ha:GE X XQ a fa)(hb:GE X XQ b fb):GT X XQ (.Compare a [.Is] [b] pos) (tb (o2 isnD fa fb)):=⟨jt_isn ha.h hb.h⟩
end
section
variable{X:Cx}{XQ:XW}{a b:Expr}{fa fb:Ev D}{pos:Pos}
theorem gt_in(ha:GE X XQ a fa)(hb:GE X XQ b fb)(hm:behindInMarks .In b=false:=by rfl):GT X XQ (.Compare a [.In] [b] pos) (tb (o2 inD fa fb)):=⟨jt_in ha.h hb.h hm⟩
end
section
variable{X:Cx}{XQ:XW}
theorem gt_chain{a b c:Expr}{op op':CmpOp}{r r':R2}{o o':D→D→Sto→Out D}{fa fb fc:Ev D}{pos:Pos}(ho:OpR X (compareOp op) r)(hd:OpD X.K r o)(ho':OpR X (compareOp op') r')(hd':OpD X.K r' o')(ha:GE X XQ a fa)(hb:GE X XQ b fb)(hc:GE X XQ c fc)(hm:lastMarks [op,op'] [b,c]=false:=by with_unfolding_all rfl):GT X XQ (.Compare a [op,op'] [b,c] pos) (tb (ch o o' fa fb fc)):=⟨jt_chain ho hd ho' hd' ha.h hb.h hc.h hm⟩
end
section
variable{X:Cx}{XQ:XW}
theorem gt_not{a:Expr}{f:Ev Bool}{pos:Pos}(h:GT X XQ a f):GT X XQ (.UnaryOp .Not a pos) (tn f):=⟨jt_not h.h⟩
end
section
variable{X:Cx}{XQ:XW}
theorem gt_val{e:Expr}{f:Ev D}(h:GE X XQ e f)(he:∀ whole,isTrue e X.env whole=(do let v ←whole; standAt e.pos; holding [v] (truthy v)):=by intro _; rfl):GT X XQ e (tt f):=⟨jt_val h.h he⟩
end
section
variable{X:Cx}{XQ:XW}
theorem gw_and1{a:Expr}{f:Ev Bool}{pos:Pos}(h:GT X XQ a f):GW X XQ (.BoolOp .And [a] pos) f:=⟨jw_and1 h.h⟩
end
section
variable{X:Cx}{XQ:XW}
theorem gw_or1{a:Expr}{f:Ev Bool}{pos:Pos}(h:GT X XQ a f):GW X XQ (.BoolOp .Or [a] pos) f:=⟨jw_or1 h.h⟩
end
section
variable{X:Cx}{XQ:XW}
theorem gw_and{a b:Expr}{rest:List Expr}{f g:Ev Bool}{pos:Pos}(h:GT X XQ a f)(hb:GW X XQ (.BoolOp .And (b::rest) pos) g):GW X XQ (.BoolOp .And (a::b::rest) pos) (ta f g):=⟨jw_and h.h hb.h⟩
end
section
variable{X:Cx}{XQ:XW}
theorem gw_or{a b:Expr}{rest:List Expr}{f g:Ev Bool}{pos:Pos}(h:GT X XQ a f)(hb:GW X XQ (.BoolOp .Or (b::rest) pos) g):GW X XQ (.BoolOp .Or (a::b::rest) pos) (to f g):=⟨jw_or h.h hb.h⟩
end
section
variable{X:Cx}{XQ:XW}
theorem ga_nil :GA X XQ [] an:=⟨ja_nil ⟩
end
section
variable{X:Cx}{XQ:XW}
theorem ga_cons{e:Expr}{es:List Expr}{f:Ev D}{g:Ev (List D)}(ha:GE X XQ e f)(hr:GA X XQ es g)(hs:starEach (e::es) X.env=(false,eval e X.env)::starEach es X.env:=by rfl):GA X XQ (e::es) (ac f g):=⟨ja_cons ha.h hr.h hs⟩
end
section
variable{X:Cx}{XQ:XW}
theorem go_none :GO X XQ none onone:=⟨jo_none ⟩
end
section
variable{X:Cx}{XQ:XW}
theorem go_some{e:Expr}{f:Ev D}(h:GE X XQ e f):GO X XQ (some e) (osome f):=⟨jo_some h.h⟩
end
section
variable{X:Cx}{XQ:XW}
theorem gi_range1{tg a:Expr}{f:Ev (List D)}{p pos:Pos}(hg:Gl X "range")(hm:X.mg "range"=none)(ha:GA X XQ [a] f)(hs:starEach [a] X.env=[(false,eval a X.env)]:=by rfl):GI X XQ tg (.Call (.Name "range" p) [a] [] pos) (ir1 f):=⟨ji_range1 hg hm ha.h hs⟩
end
section
variable{X:Cx}{XQ:XW}
theorem gi_seq{tg l:Expr}{f:Ev D}(hl:GE X XQ l f):GI X XQ tg l (isrc f):=⟨ji_seq hl.h⟩
end
section
variable{X:Cx}{XQ:XW}
theorem ggn(i:Nat){x:Str}{pos:Pos}(hN:X.N.Nodup)(h:OkL X.env.scope x)(hi:X.N[i]?=some x:=by rfl)(hf:X.fn x=true:=by rfl):GG X (.Name x pos) (gn i):=⟨jgn i hN h hi hf⟩
end
section
variable{X:Cx}{XQ:XW}
theorem ggnB(i:Nat){s2:Shared}{H2:Hp}{C:Addr}{scope:Scope}{c:List (Str×Addr)}{N':List Str}{fp:List Addr}{x:Str}{pos:Pos}(hN:N'.Nodup)(h:okLC scope x=true)(hi:N'[i]?=some x:=by rfl):GG (blk X s2 H2 C scope c N' fp) (.Name x pos) (gn i):=⟨jgnB i hN h hi⟩
end
section
variable{X:Cx}{XQ:XW}
theorem gg_tup{es:List Expr}{m:Nat}{k:Tgs}{n:Nat}{pos:Pos}(hc:X.calm=true)(h:GGs X es k)(hn:(assignEach es X.env).length=n:=by rfl)(hst:(assignEach es X.env).findIdx? (·.1)=none:=by rfl):GG X (.Tuple es m pos) (gt k n):=⟨jg_tup hc h.h hn hst⟩
end
section
variable{X:Cx}{XQ:XW}
theorem ggs_nil :GGs X [] gnil:=⟨jgs_nil ⟩
end
section
variable{X:Cx}{XQ:XW}
theorem ggs_cons{e:Expr}{es:List Expr}{g:Tg}{k:Tgs}(h1:GG X e g)(h2:GGs X es k)(hs:(assignEach (e::es) X.env).map (·.2)=assign e X.env::(assignEach es X.env).map (·.2):=by rfl):GGs X (e::es) (gcons g k):=⟨jgs_cons h1.h h2.h hs⟩
end
section
variable{X:Cx}{XQ:XW}
theorem gss_nil :GSs X XQ [] skip:=⟨jss_nil ⟩
end
section
variable{X:Cx}{XQ:XW}
theorem gss_cons{st:Stmt}{rest:List Stmt}{f g:Sv}(h1:GS X XQ st f)(h2:GSs X XQ rest g):GSs X XQ (st::rest) (sq f g):=⟨jss_cons h1.h h2.h⟩
end
section
variable{X:Cx}{XQ:XW}
theorem gss_one{st:Stmt}{f:Sv}(h1:GS X XQ st f):GSs X XQ [st] f:=⟨jss_one h1.h⟩
end
section
variable{X:Cx}{XQ:XW}
theorem gs_ret{e:Expr}{f:Ev D}{pos:Pos}(he:GE X XQ e f):GS X XQ (.Return (some e) pos) (sret f):=⟨js_ret he.h⟩
end
section
variable{X:Cx}{XQ:XW}
theorem gs_if{c:Expr}{a b:List Stmt}{fc:Ev Bool}{f g:Sv}{pos:Pos}(hc:GT X XQ c fc)(ha:GSs X XQ a f)(hb:GSs X XQ b g):GS X XQ (.If c a b pos) (sif fc f g):=⟨js_if hc.h ha.h hb.h⟩
end
section
variable{X:Cx}{XQ:XW}
theorem gset(i:Nat){x:Str}{e:Expr}{f:Ev D}{pos pos':Pos}(hN:X.N.Nodup)(h:OkL X.env.scope x)(he:GE X XQ e f)(hi:X.N[i]?=some x:=by rfl)(hs:swapsWith e (some (.Name x pos')) pos.line X.env=pure false:=by rfl)(hf:X.fn x=true:=by rfl):GS X XQ (.Assign [.Name x pos'] e pos) (sa f (gn i)):=⟨jset i hN h he.h hi hs hf⟩
end
section
variable{X:Cx}{XQ:XW}
theorem gsetComp(i:Nat){sc:Scope}{N:List Str}{y:Str}{py spos:Pos}{elt tg iter:Expr}{ifs:List Expr}{scope:Scope}{pos:Pos}{N':List Str}{pk:List (Option Nat)}{f:Ev Src}{g:Tg}{t:Ev Bool}{e:Ev D}(hsc:X.env.scope=sc)(hNN:X.N=N)(ct:CompTab sc scope N N' pk)(hcm:X.calm=true)(hi:GI X XQ tg iter f)(hg:∀ cl s2 H2 C fp,GG (blk X s2 H2 C scope cl N' fp) tg g)(ht:∀ cl s2 H2 C fp,GTs (blk X s2 H2 C scope cl N' fp) XN ifs t)(he:∀ cl s2 H2 C fp,GE (blk X s2 H2 C scope cl N' fp) XN elt e)(hN:X.N.Nodup)(hl:OkL X.env.scope y)(hsw:swapsWith (.ListComp elt [⟨tg,iter,ifs,0⟩] scope pos) (some (.Name y py)) spos.line X.env=pure true)(hy:X.N[i]?=some y:=by rfl)(hs:∀ x,foldedSetIterable iter X.env x=pure x:=by intro _; rfl)(hf:X.fn y=true:=by rfl):GS X XQ (.Assign [.Name y py] (.ListComp elt [⟨tg,iter,ifs,0⟩] scope pos) spos) (sa (cmp f pk g t e) (gn i)):=⟨jsetComp i hsc hNN ct hcm hi.h (fun z0 z1 z2 z3 z4=>(hg z0 z1 z2 z3 z4).h) (fun z0 z1 z2 z3 z4=>(ht z0 z1 z2 z3 z4).h) (fun z0 z1 z2 z3 z4=>(he z0 z1 z2 z3 z4).h) hN hl hsw hy hs hf⟩
end
section
variable{X:Cx}{XQ:XW}
theorem gs_asg{tg e:Expr}{f:Ev D}{g:Tg}{pos:Pos}(he:GE X XQ e f)(hg:GG X tg g)(hs:swapsWithSole [tg] e pos.line X.env=pure false:=by rfl)(hw:swappedStores [tg] e X.env=pure none:=by rfl)(h1:(assignEach [tg] X.env).map (·.2)=[assign tg X.env]:=by rfl):GS X XQ (.Assign [tg] e pos) (sa f g):=⟨js_asg he.h hg.h hs hw h1⟩
end
section
variable{X:Cx}{XQ:XW}
theorem gs_par(i j:Nat){x y:Str}{a b:Expr}{f:Ev (List D)}{px py pt pos:Pos}{kt k2 pt2}(hc:X.calm=true)(hN:X.N.Nodup)(hi:X.N[i]?=some x)(hj:X.N[j]?=some y)(hij:i≠j)(hx:X.env.scope.names.lookup x=some .local)(hy:X.env.scope.names.lookup y=some .local)(ha:GA X XQ [a,b] f)(hw:swappedStores [.Tuple [.Name x px,.Name y py] kt pt] (.Tuple [a,b] k2 pt2) X.env=pure (some [x,y]))(hs:swapsWithSole [.Tuple [.Name x px,.Name y py] kt pt] (.Tuple [a,b] k2 pt2) pos.line X.env=pure false:=by rfl):GS X XQ (.Assign [.Tuple [.Name x px,.Name y py] kt pt] (.Tuple [a,b] k2 pt2) pos) (spar i j f):=⟨js_par i j hc hN hi hj hij hx hy ha.h hw hs⟩
end
section
variable{X:Cx}{XQ:XW}
theorem gs_setix{ob ix e:Expr}{f fo fi:Ev D}{pos p2:Pos}(he:GE X XQ e f)(hob:GE X XQ ob fo)(hix:GE X XQ ix fi)(hs:swapsWithSole [.Subscript ob ix p2] e pos.line X.env=pure false:=by rfl)(hw:swappedStores [.Subscript ob ix p2] e X.env=pure none:=by rfl)(h1:(assignEach [.Subscript ob ix p2] X.env).map (·.2)=[assign (.Subscript ob ix p2) X.env]:=by rfl)(ha:∀ v,assign (.Subscript ob ix p2) X.env v=(do
   let ov ←holding [v] (eval ob X.env)
   let iv ←holding [v,ov] (eval ix X.env)
   standAt p2
   holding [v,ov,iv] (setItem ov iv v)
   release [v,ov,iv] []):=by intro _; rfl):GS X XQ (.Assign [.Subscript ob ix p2] e pos) (ss f fo fi setD):=⟨js_setix he.h hob.h hix.h hs hw h1 ha⟩
end
section
variable{X:Cx}{XQ:XW}
theorem gs_expr{e:Expr}{f:Ev D}{pos:Pos}(he:GE X XQ e f)(hs:swapsWith e none pos.line X.env=pure false:=by rfl):GS X XQ (.Expr e pos) (sx f):=⟨js_expr he.h hs⟩
end
section
variable{X:Cx}{XQ:XW}
theorem gs_for{tg iter:Expr}{body:List Stmt}{f:Ev Src}{g:Tg}{b:Sv}{pos:Pos}(hp:PassesOwn (model X.prog X.w) X.A X.env X.xe)(hc:X.calm=true)(hi:GI X XQ tg iter f)(hg:GG X tg g)(hb:GSs X XQ body b)(hs:∀ x,foldedSetIterable iter X.env x=pure x:=by intro _; rfl):GS X XQ (.For tg iter body [] pos) (sfor f g b):=⟨js_for hp hc hi.h hg.h hb.h hs⟩
end
section
variable{X:Cx}{XQ:XW}
theorem gs_inc(i:Nat){x:Str}{e:Expr}{f:Ev D}{pos pos':Pos}(hN:X.N.Nodup)(h:OkL X.env.scope x)(he:GE X XQ e f)(hi:X.N[i]?=some x:=by rfl)(hf:X.fn x=true:=by rfl):GS X XQ (.AugAssign (.Name x pos') .Add e pos) (sag i (fun a b=>a+b) f):=⟨js_inc i hN h he.h hi hf⟩
end
section
variable{X:Cx}{XQ:XW}
theorem gv(i:Nat){x:Str}{pos:Pos}(h:OkV X.env.scope x)(hN:X.N[i]?=some x:=by rfl):GE X XQ (.Name x pos) (vr i):=⟨jv i h hN⟩
end
section
variable{X:Cx}{XQ:XW}
theorem gvB(i:Nat){s2:Shared}{H2:Hp}{C:Addr}{scope:Scope}{c:List (Str×Addr)}{N':List Str}{fp:List Addr}{x:Str}{pos:Pos}(h:okVC scope x=true)(hN:N'[i]?=some x:=by rfl):GE (blk X s2 H2 C scope c N' fp) XQ (.Name x pos) (vr i):=⟨jvB i h hN⟩
end
section
variable{X:Cx}{XQ:XW}
theorem gown{x:Str}{ps:List Str}{fn:Fn}{j k n:Nat}{p pos:Pos}{e:Expr}{es:List Expr}{t:Ev (List D)}(C:Cal X.prog X.w X.K X.mg X.base x ps fn j)(hr:Room k X.A)(hg:Gl X x)(hp:plainN x=true)(ha:GA X XQ (e::es) t)(hn:ps.length=n:=by rfl)(hj:j≤k:=by decide)(he:starEach (e::es) X.env=(false,eval e X.env)::starEach es X.env:=by rfl)(hpl:(backTo pos (starEach es X.env)).any (·.1)=false:=by rfl):GE X XQ (.Call (.Name x p) (e::es) [] pos) (cl n (noExc fn) t):=⟨jown C hr hg hp ha.h hn hj he hpl⟩
end
section
variable{X:Cx}
theorem gts_nil{Y:Cx}{XQ:XW}:GTs Y XQ [] ttrue:=⟨jts_nil ⟩
end
section
variable{X:Cx}
theorem gts_one{Y:Cx}{XQ:XW}{c:Expr}{t:Ev Bool}(h:GT Y XQ c t):GTs Y XQ [c] t:=⟨jts_one h.h⟩
end
section
variable{X:Cx}{XQ:XW}
theorem gs_bad{st:Stmt}:GS X XQ st sbad:=⟨js_bad ⟩
end
theorem GW.jt{X:Cx}{XQ:XW}{e:Expr}{f:Ev Bool}(h:GW X XQ e f):GT X XQ e f:=⟨JW.jt h.h⟩
end DL
set_option Elab.async false
set_option linter.all false
set_option maxRecDepth 100000
namespace DL
open PySem PySem.Spec PyProof.Rows L2
def clsBody:Stmt→List Stmt
 | .ClassDef _ _ _ b _ _ _ _ _ _ _=>b
 | _=>[]
section
variable{X:Cx}{XQ:XW}{k:Nat}{x:Str}{p pos:Pos}{e:Expr}{es:List Expr}
theorem gownX{fn:Fn}{ps:List Str}{j n:Nat}{ys:List Str}{t:Ev (List D)}(xs:XNs X.K ys)(L:XL X XQ)(C:CalX X.prog X.w X.K X.mg X.base x ps fn j)(hr:Room k X.A)(hg:Gl X x)(hp:plainN x=true)(ha:GA X XQ (e::es) t)(hn:ps.length=n:=by rfl)(hj:j≤k:=by decide)
  (he:starEach (e::es) X.env=(false,eval e X.env)::starEach es X.env:=by rfl) (hpl:(backTo pos (starEach es X.env)).any (·.1)=false:=by rfl):
  GE X XQ (.Call (.Name x p) (e::es) [] pos) (cl n (gX ys fn) t):=⟨jownX xs L C hr hg hp ha.h hn hj he hpl⟩
theorem gs_raise{j:Nat}{np cpos pos:Pos}{a:Expr}{t:Ev (List D)}(L:XL X XQ)(hcm:X.calm=true)(C:ClX X.prog X.w X.K X.mg X.base x j)(hr:Room k X.A)(hg:Gl X x)(hp:plainN x=true)(ha:GA X XQ [a] t)(hj:j+1≤k:=by decide)
  (he:starEach [a] X.env=(false,eval a X.env)::starEach [] X.env:=by rfl) (hpl:(backTo cpos (starEach [] X.env)).any (·.1)=false:=by rfl):
  GS X XQ (.Raise (some (.Call (.Name x np) [a] [] cpos)) none pos) (srs x t):=⟨js_raise L hcm C hr hg hp ha.h hj he hpl⟩
theorem gs_try0{c:Str}{np hpos pos:Pos}{b0:Stmt}{suite body:List Stmt}{ys:List Str}{fb fh:Sv}(pl:Plain X)(ct:Cat X.K X.mg c ys)(hg:Gl X c)(hp:plainN c=true)
  (hb:∀ (pn:List (Addr×Obj)) (xe:Value→Shared→Prop) (XQ':XW),XL (trb X pn xe) XQ'→GSs (trb X pn xe) XQ' body fb) (hs:∀ a,GSs (hnd X a) XN (b0::suite) fh):
  GS X XQ (.Try body [.ExceptHandler (some (.Name c np)) none (b0::suite) hpos] [] [] pos) (stryG ys (hdl0 fh) fb):=⟨js_try0 pl ct hg hp (fun a b c d=>(hb a b c d).h) fun a=>(hs a).h⟩
end
structure FH(K:PySem.W.Frag)(x:Str)(st:Stmt):Prop where
 ex:∃ (f:Addr) (oc:Value) (od an:Option Addr) (osl:Array (Option Value)) (kV doc pm cdv ct:Value),PySem.W.nsIn K mainGlobals x=some (some (.ref f))∧K.lookup f=some ⟨oc,od,.func (PySem.W.fnOf x x (defArgs st) (defBody st) (defScope st) .none kV doc pm an cdv ct),osl⟩∧PySem.W.codeIn K cdv x=true∧PySem.W.keepIn K (.ref f)=true
section
variable{K:PySem.W.Frag}{mg:Str→Option Value}
theorem fh_mk{x:Str}{st:Stmt}{f:Addr}{oc:Value}{od an:Option Addr}{osl:Array (Option Value)}{kV doc pm cdv ct:Value}(a:PySem.W.nsIn K mainGlobals x=some (some (.ref f)))
  (l:K.lookup f=some ⟨oc,od,.func (PySem.W.fnOf x x (defArgs st) (defBody st) (defScope st) .none kV doc pm an cdv ct),osl⟩) (c:PySem.W.codeIn K cdv x=true) (k:PySem.W.keepIn K (.ref f)=true):FH K x st:=⟨f,oc,od,an,osl,kV,doc,pm,cdv,ct,a,l,c,k⟩
theorem FH.dn{h:Heap}{x:Str}{st:Stmt}{ps:List Str}(F:FH K x st)(X:K.In h)(G:h.Ns mainGlobals mg)
  (hb:∀ (kV doc pm:Value) (an:Option Addr) (cdv ct:Value) (us:List Value),us.length=ps.length→bindArgs (PySem.W.fnOf x x (defArgs st) (defBody st) (defScope st) .none kV doc pm an cdv ct) ⟨us,[]⟩=pure (ps.zip us)):Dn K mg x st ps:=by
 obtain⟨f,oc,od,an,osl,kV,doc,pm,cdv,ct,a,l,c,k⟩:=F.ex
 exact dn_mk X G a l c k hb
theorem FH.fv{h:Heap}{x:Str}{st:Stmt}(F:FH K x st)(X:K.In h)(G:h.Ns mainGlobals mg):FvT K mg x:=by
 obtain⟨f,oc,od,an,osl,kV,doc,pm,cdv,ct,a,l,c,k⟩:=F.ex
 exact⟨f,a,PySem.W.mg_of X G a⟩
end
end DL
set_option Elab.async false
set_option linter.all false
set_option maxRecDepth 100000
namespace DL
open PySem PySem.Spec PyProof.Rows L2
section
variable{K:PySem.W.Frag}{h:Heap}{mg:Str→Option Value}{x:Str}
theorem cst_str{y:Str}{t:Tok}(X:K.In h)(G:h.Ns mainGlobals mg)(a:PySem.W.nsIn K mainGlobals x=some (some (.str y t))):∃ u v,mg x=some u∧RelV v u∧∀ mp H,Rep K mp H (.str y) v:=
 ⟨_,.str y,PySem.W.mg_of X G a,⟨t,rfl⟩,fun _ _=>rfl⟩
theorem cst_t1{p:Addr}{y:Str}{t:Tok}{n:Nat}{sl:Array (Option Value)}(X:K.In h)(G:h.Ns mainGlobals mg)(a:PySem.W.nsIn K mainGlobals x=some (some (.ref p)))(l:K.lookup p=some { cls:=.type "tuple",dict:=none,data:=.seq #[.str y t] n,slots:=sl }):
  ∃ u v,mg x=some u∧RelV v u∧∀ mp H,Rep K mp H (.tup [.str y]) v:=
 ⟨_,.ref p,PySem.W.mg_of X G a,rfl,fun _ _=>⟨p,[.str y],rfl,.inr ⟨_,_,n,l,rfl,rfl,by rw[sizeLine_eq]; simp,.cons ⟨t,rfl⟩ .nil⟩,RepL.cons rfl RepL.nil⟩⟩
end
end DL
set_option Elab.async false
set_option linter.all false
set_option maxRecDepth 100000
namespace Law
open PySem PySem.Spec PyProof.Rows L2 DL
def top(i:Nat):Stmt:=PySem.Challenge.pw_summitwater_k12_whole_water_is_never_mad.main.body.getD i (.Pass ⟨0,0,0,0⟩)
abbrev st_has_spring:Stmt:=top 3
abbrev st_most_water:Stmt:=top 4
abbrev st_is_dry:Stmt:=top 5
abbrev st_is_full:Stmt:=top 6
abbrev st_is_shallow:Stmt:=top 7
abbrev st_holds:Stmt:=top 8
abbrev st_higher:Stmt:=top 11
abbrev st_lower:Stmt:=top 12
abbrev st_barges_of:Stmt:=top 25
abbrev st_with_barges:Stmt:=top 26
abbrev st_with_more:Stmt:=top 27
abbrev st_check_gate:Stmt:=top 36
abbrev st_place_behind:Stmt:=top 31
abbrev st_check_water:Stmt:=top 37
abbrev st_place_ahead:Stmt:=top 30
abbrev st_check_move:Stmt:=top 35
abbrev st_check_let:Stmt:=top 33
abbrev st_check_feed:Stmt:=top 34
abbrev st_moved:Stmt:=top 40
abbrev st_with_water:Stmt:=top 39
abbrev st_let_down:Stmt:=top 38
abbrev st_is_last_move:Stmt:=top 32
abbrev st_deed_done:Stmt:=top 29
abbrev st_with_waiting:Stmt:=top 47
abbrev st_without_ends:Stmt:=top 46
abbrev st_open_done:Stmt:=top 48
abbrev st_row_by:Stmt:=top 43
abbrev st_row_done:Stmt:=top 42
abbrev st_water:Stmt:=top 44
abbrev st_open_row:Stmt:=top 49
abbrev st__law_tape:Stmt:=top 51
abbrev st__law_draw:Stmt:=top 52
abbrev st__law_pound:Stmt:=top 53
abbrev st__law_canal:Stmt:=top 54
abbrev st__law_stand:Stmt:=top 55
abbrev st__law_gone:Stmt:=top 58
abbrev st__law_due:Stmt:=top 57
abbrev st__law_can:Stmt:=top 59
abbrev st__law_walk:Stmt:=top 60
abbrev st_law:Stmt:=top 62
def c_CHAMBER:D:=(.tup [(.str "chamber")])
def c_END:D:=(.tup [(.str "end")])
def c_UP:D:=(.str "up")
def ys:List Str:=["NoGate","Dry","Full","NoSpring","NoBarge","NoRoom","Uneven","Shallow","Falls"]
structure Txt(K:PySem.W.Frag)(mg:Str→Option Value):Prop where
 b_ValueError:mg "ValueError"=none
 b_enumerate:mg "enumerate"=none
 b_int:mg "int"=none
 b_isinstance:mg "isinstance"=none
 b_len:mg "len"=none
 b_list:mg "list"=none
 b_min:mg "min"=none
 b_range:mg "range"=none
 b_repr:mg "repr"=none
 b_str:mg "str"=none
 b_sum:mg "sum"=none
 b_tuple:mg "tuple"=none
 k_CHAMBER:∃ u v,mg "CHAMBER"=some u∧RelV v u∧∀ mp H,Rep K mp H c_CHAMBER v
 k_END:∃ u v,mg "END"=some u∧RelV v u∧∀ mp H,Rep K mp H c_END v
 k_UP:∃ u v,mg "UP"=some u∧RelV v u∧∀ mp H,Rep K mp H c_UP v
 fv_deed_done:FvT K mg "deed_done"
 fv_open_done:FvT K mg "open_done"
 xt:XT K mg "SummitError" ys
theorem Txt.c_CHAMBER{X:Cx}{XQ:XW}{pos:Pos}(T:Txt X.K X.mg)(hg:Gl X "CHAMBER"):GE X XQ (.Name "CHAMBER" pos) (cn c_CHAMBER):=let ⟨u,v,h1,h2,h3⟩:=T.k_CHAMBER; ⟨je_cst h1 h2 h3 hg (by decide +kernel)⟩
theorem Txt.c_END{X:Cx}{XQ:XW}{pos:Pos}(T:Txt X.K X.mg)(hg:Gl X "END"):GE X XQ (.Name "END" pos) (cn c_END):=let ⟨u,v,h1,h2,h3⟩:=T.k_END; ⟨je_cst h1 h2 h3 hg (by decide +kernel)⟩
theorem Txt.c_UP{X:Cx}{XQ:XW}{pos:Pos}(T:Txt X.K X.mg)(hg:Gl X "UP"):GE X XQ (.Name "UP" pos) (cn c_UP):=let ⟨u,v,h1,h2,h3⟩:=T.k_UP; ⟨je_cst h1 h2 h3 hg (by decide +kernel)⟩
abbrev st_init:Stmt:=(clsBody (top 14)).getD 0 (.Pass ⟨0,0,0,0⟩)
theorem sc_init:FnScope ["self","text"] ["self","text"] (defScope st_init):=⟨rfl,rfl,rfl,by decide +kernel,rfl,by decide +kernel,by decide +kernel⟩
theorem gi_VE:OkG (defScope st_init) "ValueError":=⟨by decide +kernel⟩
theorem vi_self:OkV (defScope st_init) "self":=⟨by decide +kernel⟩
theorem vi_text:OkV (defScope st_init) "text":=⟨by decide +kernel⟩
theorem body_init{P:Program}{w:World}{K:PySem.W.Frag}{mg:Str→Option Value}{base:Heap}(hm:mg "ValueError"=none)(f:Addr)(cdv:Value)(A:Around)(outer:List PySem.Env)(s:Shared)(H:Hp)(E:XK):PSs (cxOf CX0 P w K mg base ["self","text"] "SummitError.__init__" (defScope st_init) f cdv A outer s H E).nox (defBody st_init) (tInit K):=by
 conv=>arg 2; whnf
 exact pss_one (ps_expr (pe_vinit (gl gi_VE) hm (pa_cons (pe_var (i:=0) rfl (okV.vis vi_self.h).1) (pa_cons (pe_var (i:=1) rfl (okV.vis vi_text.h).1) pa_nil)) rfl))
section
variable{P:Program}{w:World}{K:PySem.W.Frag}{mg:Str→Option Value}{base:Heap}
def b_has_spring:Sv:=(sret (va (o2 eqD (o2 getD (vr 0) (cn (.int 0))) (cn (.str "pound"))) (o2 notnD (o2 getD (vr 0) (cn (.int 4))) (cn .non))))
def f_has_spring:Fn:=fnB 1 b_has_spring
theorem sc_has_spring:FnScope ["place"] ["place"] (defScope st_has_spring):=⟨rfl,rfl,rfl,by decide +kernel,rfl,by decide +kernel,by decide +kernel⟩
abbrev z0:=defScope st_has_spring
theorem v0_0:OkV z0 "place":=⟨by decide +kernel⟩
set_option maxHeartbeats 4000000 in
theorem cal_has_spring(T:Txt K mg)(d:Dn K mg "has_spring" st_has_spring ["place"]):Cal P w K mg base "has_spring" ["place"] f_has_spring 1:=by
 have Sc:=sc_has_spring
 refine cal_of ["place"] 0 b_has_spring rfl d Sc fun f cdv A outer s H E hr=>?_
 conv=>arg 3; whnf
 refine GSs.h ?_
 exact(gss_one (gs_ret (ge_and (ge_eq hr.units (ge_get (gv 0 v0_0) ge_int) ge_str) (ge_one (ge_notn (ge_get (gv 0 v0_0) ge_int) ge_non)))))
def b_most_water:Sv:=(sq (sif (tb (o2 eqD (vr 0) (cn c_END)))
  (sret (cn (.int 0)))
  skip)
  (sret (ie (tb (o2 eqD (vr 0) (cn c_CHAMBER))) (cn (.int 1)) (o2 getD (vr 0) (cn (.int 1))))))
def f_most_water:Fn:=fnB 1 b_most_water
theorem sc_most_water:FnScope ["place"] ["place"] (defScope st_most_water):=⟨rfl,rfl,rfl,by decide +kernel,rfl,by decide +kernel,by decide +kernel⟩
abbrev z1:=defScope st_most_water
theorem g1_2:OkG z1 "CHAMBER":=⟨by decide +kernel⟩
theorem g1_1:OkG z1 "END":=⟨by decide +kernel⟩
theorem v1_0:OkV z1 "place":=⟨by decide +kernel⟩
set_option maxHeartbeats 4000000 in
theorem cal_most_water(T:Txt K mg)(d:Dn K mg "most_water" st_most_water ["place"]):Cal P w K mg base "most_water" ["place"] f_most_water 1:=by
 have Sc:=sc_most_water
 refine cal_of ["place"] 0 b_most_water rfl d Sc fun f cdv A outer s H E hr=>?_
 conv=>arg 3; whnf
 refine GSs.h ?_
 exact(gss_cons (gs_if (gt_eq hr.units (gv 0 v1_0) (T.c_END (gl g1_1)))
  (gss_one (gs_ret ge_int))
  gss_nil)
  (gss_one (gs_ret (ge_ifx (gt_eq hr.units (gv 0 v1_0) (T.c_CHAMBER (gl g1_2))) ge_int (ge_get (gv 0 v1_0) ge_int)))))
def b_is_dry:Sv:=(sret (va (o2 neD (vr 0) (cn c_END)) (o2 eqD (vr 1) (cn (.int 0)))))
def f_is_dry:Fn:=fnB 2 b_is_dry
theorem sc_is_dry:FnScope ["place","level"] ["place","level"] (defScope st_is_dry):=⟨rfl,rfl,rfl,by decide +kernel,rfl,by decide +kernel,by decide +kernel⟩
abbrev z2:=defScope st_is_dry
theorem g2_1:OkG z2 "END":=⟨by decide +kernel⟩
theorem v2_2:OkV z2 "level":=⟨by decide +kernel⟩
theorem v2_0:OkV z2 "place":=⟨by decide +kernel⟩
set_option maxHeartbeats 4000000 in
theorem cal_is_dry(T:Txt K mg)(d:Dn K mg "is_dry" st_is_dry ["place","level"]):Cal P w K mg base "is_dry" ["place","level"] f_is_dry 1:=by
 have Sc:=sc_is_dry
 refine cal_of ["place","level"] 0 b_is_dry rfl d Sc fun f cdv A outer s H E hr=>?_
 conv=>arg 3; whnf
 refine GSs.h ?_
 exact(gss_one (gs_ret (ge_and (ge_ne hr.units (gv 0 v2_0) (T.c_END (gl g2_1))) (ge_one (ge_eq hr.units (gv 1 v2_2) ge_int)))))
def b_is_full:Sv:=(sret (va (o2 neD (vr 0) (cn c_END)) (o2 geD (vr 1) (cl 1 (noExc f_most_water) (ac (vr 0) an)))))
def f_is_full:Fn:=fnB 2 b_is_full
theorem sc_is_full:FnScope ["place","level"] ["place","level"] (defScope st_is_full):=⟨rfl,rfl,rfl,by decide +kernel,rfl,by decide +kernel,by decide +kernel⟩
abbrev z3:=defScope st_is_full
theorem g3_1:OkG z3 "END":=⟨by decide +kernel⟩
theorem g3_3:OkG z3 "most_water":=⟨by decide +kernel⟩
theorem v3_2:OkV z3 "level":=⟨by decide +kernel⟩
theorem v3_0:OkV z3 "place":=⟨by decide +kernel⟩
theorem p_most_water:plainN "most_water"=true:=by decide +kernel
set_option maxHeartbeats 4000000 in
theorem cal_is_full(T:Txt K mg)(d:Dn K mg "is_full" st_is_full ["place","level"])(C_most_water:Cal P w K mg base "most_water" ["place"] f_most_water 1):Cal P w K mg base "is_full" ["place","level"] f_is_full 2:=by
 have Sc:=sc_is_full
 refine cal_of ["place","level"] 1 b_is_full rfl d Sc fun f cdv A outer s H E hr=>?_
 conv=>arg 3; whnf
 refine GSs.h ?_
 exact(gss_one (gs_ret (ge_and (ge_ne hr.units (gv 0 v3_0) (T.c_END (gl g3_1))) (ge_one (ge_ge (gv 1 v3_2) (gown C_most_water hr (gl g3_3) p_most_water (ga_cons (gv 0 v3_0) ga_nil se_Name)))))))
def b_is_shallow:Sv:=(sret (va (o2 eqD (o2 getD (vr 0) (cn (.int 0))) (cn (.str "pound"))) (o2 ltD (vr 1) (o2 getD (vr 0) (cn (.int 2))))))
def f_is_shallow:Fn:=fnB 2 b_is_shallow
theorem sc_is_shallow:FnScope ["place","level"] ["place","level"] (defScope st_is_shallow):=⟨rfl,rfl,rfl,by decide +kernel,rfl,by decide +kernel,by decide +kernel⟩
abbrev z4:=defScope st_is_shallow
theorem v4_1:OkV z4 "level":=⟨by decide +kernel⟩
theorem v4_0:OkV z4 "place":=⟨by decide +kernel⟩
set_option maxHeartbeats 4000000 in
theorem cal_is_shallow(T:Txt K mg)(d:Dn K mg "is_shallow" st_is_shallow ["place","level"]):Cal P w K mg base "is_shallow" ["place","level"] f_is_shallow 1:=by
 have Sc:=sc_is_shallow
 refine cal_of ["place","level"] 0 b_is_shallow rfl d Sc fun f cdv A outer s H E hr=>?_
 conv=>arg 3; whnf
 refine GSs.h ?_
 exact(gss_one (gs_ret (ge_and (ge_eq hr.units (ge_get (gv 0 v4_0) ge_int) ge_str) (ge_one (ge_lt (gv 1 v4_1) (ge_get (gv 0 v4_0) ge_int))))))
def b_holds:Sv:=(sq (sif (tb (o2 eqD (vr 0) (cn c_END)))
  (sret (cn (.bl true)))
  skip)
  (sret (o2 leD (vr 1) (ie (tb (o2 eqD (vr 0) (cn c_CHAMBER))) (cn (.int 1)) (o2 getD (vr 0) (cn (.int 3)))))))
def f_holds:Fn:=fnB 2 b_holds
theorem sc_holds:FnScope ["place","barges"] ["place","barges"] (defScope st_holds):=⟨rfl,rfl,rfl,by decide +kernel,rfl,by decide +kernel,by decide +kernel⟩
abbrev z5:=defScope st_holds
theorem g5_3:OkG z5 "CHAMBER":=⟨by decide +kernel⟩
theorem g5_1:OkG z5 "END":=⟨by decide +kernel⟩
theorem v5_2:OkV z5 "barges":=⟨by decide +kernel⟩
theorem v5_0:OkV z5 "place":=⟨by decide +kernel⟩
set_option maxHeartbeats 4000000 in
theorem cal_holds(T:Txt K mg)(d:Dn K mg "holds" st_holds ["place","barges"]):Cal P w K mg base "holds" ["place","barges"] f_holds 1:=by
 have Sc:=sc_holds
 refine cal_of ["place","barges"] 0 b_holds rfl d Sc fun f cdv A outer s H E hr=>?_
 conv=>arg 3; whnf
 refine GSs.h ?_
 exact(gss_cons (gs_if (gt_eq hr.units (gv 0 v5_0) (T.c_END (gl g5_1)))
  (gss_one (gs_ret ge_bl))
  gss_nil)
  (gss_one (gs_ret (ge_le (gv 1 v5_2) (ge_ifx (gt_eq hr.units (gv 0 v5_0) (T.c_CHAMBER (gl g5_3))) ge_int (ge_get (gv 0 v5_0) ge_int))))))
def b_higher:Sv:=(sret (ie (tb (o2 eqD (o2 getD (o2 getD (vr 0) (cn (.int 1))) (vr 1)) (cn c_UP))) (o2 addD (vr 1) (cn (.int 1))) (vr 1)))
def f_higher:Fn:=fnB 2 b_higher
theorem sc_higher:FnScope ["canal","gate"] ["canal","gate"] (defScope st_higher):=⟨rfl,rfl,rfl,by decide +kernel,rfl,by decide +kernel,by decide +kernel⟩
abbrev z6:=defScope st_higher
theorem g6_2:OkG z6 "UP":=⟨by decide +kernel⟩
theorem v6_0:OkV z6 "canal":=⟨by decide +kernel⟩
theorem v6_1:OkV z6 "gate":=⟨by decide +kernel⟩
set_option maxHeartbeats 4000000 in
theorem cal_higher(T:Txt K mg)(d:Dn K mg "higher" st_higher ["canal","gate"]):Cal P w K mg base "higher" ["canal","gate"] f_higher 1:=by
 have Sc:=sc_higher
 refine cal_of ["canal","gate"] 0 b_higher rfl d Sc fun f cdv A outer s H E hr=>?_
 conv=>arg 3; whnf
 refine GSs.h ?_
 exact(gss_one (gs_ret (ge_ifx (gt_eq hr.units (ge_get (ge_get (gv 0 v6_0) ge_int) (gv 1 v6_1)) (T.c_UP (gl g6_2))) (ge_add (gv 1 v6_1) ge_int) (gv 1 v6_1))))
def b_lower:Sv:=(sret (ie (tb (o2 eqD (o2 getD (o2 getD (vr 0) (cn (.int 1))) (vr 1)) (cn c_UP))) (vr 1) (o2 addD (vr 1) (cn (.int 1)))))
def f_lower:Fn:=fnB 2 b_lower
theorem sc_lower:FnScope ["canal","gate"] ["canal","gate"] (defScope st_lower):=⟨rfl,rfl,rfl,by decide +kernel,rfl,by decide +kernel,by decide +kernel⟩
abbrev z7:=defScope st_lower
theorem g7_2:OkG z7 "UP":=⟨by decide +kernel⟩
theorem v7_0:OkV z7 "canal":=⟨by decide +kernel⟩
theorem v7_1:OkV z7 "gate":=⟨by decide +kernel⟩
set_option maxHeartbeats 4000000 in
theorem cal_lower(T:Txt K mg)(d:Dn K mg "lower" st_lower ["canal","gate"]):Cal P w K mg base "lower" ["canal","gate"] f_lower 1:=by
 have Sc:=sc_lower
 refine cal_of ["canal","gate"] 0 b_lower rfl d Sc fun f cdv A outer s H E hr=>?_
 conv=>arg 3; whnf
 refine GSs.h ?_
 exact(gss_one (gs_ret (ge_ifx (gt_eq hr.units (ge_get (ge_get (gv 0 v7_0) ge_int) (gv 1 v7_1)) (T.c_UP (gl g7_2))) (gv 1 v7_1) (ge_add (gv 1 v7_1) ge_int))))
def b_barges_of:Sv:=(sret (ie (tb (o2 eqD (vr 1) (cn (.str "right")))) (o2 getD (vr 0) (cn (.int 1))) (o2 getD (vr 0) (cn (.int 2)))))
def f_barges_of:Fn:=fnB 2 b_barges_of
theorem sc_barges_of:FnScope ["stand","word"] ["stand","word"] (defScope st_barges_of):=⟨rfl,rfl,rfl,by decide +kernel,rfl,by decide +kernel,by decide +kernel⟩
abbrev z8:=defScope st_barges_of
theorem v8_1:OkV z8 "stand":=⟨by decide +kernel⟩
theorem v8_0:OkV z8 "word":=⟨by decide +kernel⟩
set_option maxHeartbeats 4000000 in
theorem cal_barges_of(T:Txt K mg)(d:Dn K mg "barges_of" st_barges_of ["stand","word"]):Cal P w K mg base "barges_of" ["stand","word"] f_barges_of 1:=by
 have Sc:=sc_barges_of
 refine cal_of ["stand","word"] 0 b_barges_of rfl d Sc fun f cdv A outer s H E hr=>?_
 conv=>arg 3; whnf
 refine GSs.h ?_
 exact(gss_one (gs_ret (ge_ifx (gt_eq hr.units (gv 1 v8_0) ge_str) (ge_get (gv 0 v8_1) ge_int) (ge_get (gv 0 v8_1) ge_int))))
def b_with_barges:Sv:=(sq (sa (vr 0) (gt (gcons (gn 3) (gcons (gn 4) (gcons (gn 5) gnil))) 3))
  (sret (ie (tb (o2 eqD (vr 1) (cn (.str "right")))) (tp (ac (vr 3) (ac (vr 2) (ac (vr 5) an)))) (tp (ac (vr 3) (ac (vr 4) (ac (vr 2) an)))))))
def f_with_barges:Fn:=fnB 6 b_with_barges
theorem sc_with_barges:FnScope ["stand","word","row","levels","rights","lefts"] ["stand","word","row"] (defScope st_with_barges):=⟨rfl,rfl,rfl,by decide +kernel,rfl,by decide +kernel,by decide +kernel⟩
abbrev z9:=defScope st_with_barges
theorem l9_1:OkL z9 "lefts":=⟨by decide +kernel⟩
theorem l9_3:OkL z9 "levels":=⟨by decide +kernel⟩
theorem l9_2:OkL z9 "rights":=⟨by decide +kernel⟩
theorem v9_5:OkV z9 "lefts":=⟨by decide +kernel⟩
theorem v9_7:OkV z9 "levels":=⟨by decide +kernel⟩
theorem v9_8:OkV z9 "rights":=⟨by decide +kernel⟩
theorem v9_6:OkV z9 "row":=⟨by decide +kernel⟩
theorem v9_0:OkV z9 "stand":=⟨by decide +kernel⟩
theorem v9_4:OkV z9 "word":=⟨by decide +kernel⟩
set_option maxHeartbeats 4000000 in
theorem cal_with_barges(T:Txt K mg)(d:Dn K mg "with_barges" st_with_barges ["stand","word","row"]):Cal P w K mg base "with_barges" ["stand","word","row"] f_with_barges 1:=by
 have Sc:=sc_with_barges
 refine cal_of ["stand","word","row","levels","rights","lefts"] 0 b_with_barges rfl d Sc fun f cdv A outer s H E hr=>?_
 conv=>arg 3; whnf
 refine GSs.h ?_
 exact(gss_cons (gs_asg (gv 0 v9_0) (gg_tup rfl (ggs_cons (ggn 3 Sc.nd l9_3) (ggs_cons (ggn 4 Sc.nd l9_2) (ggs_cons (ggn 5 Sc.nd l9_1) ggs_nil)))))
  (gss_one (gs_ret (ge_ifx (gt_eq hr.units (gv 1 v9_4) ge_str) (ge_tup (ga_cons (gv 3 v9_7) (ga_cons (gv 2 v9_6) (ga_cons (gv 5 v9_5) ga_nil se_Name) se_Name) se_Name)) (ge_tup (ga_cons (gv 3 v9_7) (ga_cons (gv 4 v9_8) (ga_cons (gv 2 v9_6) ga_nil se_Name) se_Name) se_Name))))))
def b_with_more:Sv:=(sret (o2 addD (o2 addD (sl2 (vr 0) onone (osome (vr 1))) (tp (ac (o2 addD (o2 getD (vr 0) (vr 1)) (vr 2)) an))) (sl2 (vr 0) (osome (o2 addD (vr 1) (cn (.int 1)))) onone)))
def f_with_more:Fn:=fnB 3 b_with_more
theorem sc_with_more:FnScope ["row","place","many"] ["row","place","many"] (defScope st_with_more):=⟨rfl,rfl,rfl,by decide +kernel,rfl,by decide +kernel,by decide +kernel⟩
abbrev z10:=defScope st_with_more
theorem v10_2:OkV z10 "many":=⟨by decide +kernel⟩
theorem v10_1:OkV z10 "place":=⟨by decide +kernel⟩
theorem v10_0:OkV z10 "row":=⟨by decide +kernel⟩
set_option maxHeartbeats 4000000 in
theorem cal_with_more(T:Txt K mg)(d:Dn K mg "with_more" st_with_more ["row","place","many"]):Cal P w K mg base "with_more" ["row","place","many"] f_with_more 1:=by
 have Sc:=sc_with_more
 refine cal_of ["row","place","many"] 0 b_with_more rfl d Sc fun f cdv A outer s H E hr=>?_
 conv=>arg 3; whnf
 refine GSs.h ?_
 exact(gss_one (gs_ret (ge_add (ge_add (ge_slice2 (gv 0 v10_0) go_none (go_some (gv 1 v10_1))) (ge_tup (ga_cons (ge_add (ge_get (gv 0 v10_0) (gv 1 v10_1)) (gv 2 v10_2)) ga_nil se_BinOp))) (ge_slice2 (gv 0 v10_0) (go_some (ge_add (gv 1 v10_1) ge_int)) go_none))))
def b_check_gate:Sv:=(sif (tn (tb (ch leD ltD (cn (.int 0)) (vr 1) (b1 lenD (ac (o2 getD (vr 0) (cn (.int 1))) an)))))
  (srs "NoGate" (ac (cn (.str "there is no such gate")) an))
  skip)
def f_check_gate:Fn:=fnB 2 b_check_gate
theorem sc_check_gate:FnScope ["canal","gate"] ["canal","gate"] (defScope st_check_gate):=⟨rfl,rfl,rfl,by decide +kernel,rfl,by decide +kernel,by decide +kernel⟩
abbrev z11:=defScope st_check_gate
theorem g11_3:OkG z11 "NoGate":=⟨by decide +kernel⟩
theorem g11_2:OkG z11 "len":=⟨by decide +kernel⟩
theorem v11_1:OkV z11 "canal":=⟨by decide +kernel⟩
theorem v11_0:OkV z11 "gate":=⟨by decide +kernel⟩
theorem p_NoGate:plainN "NoGate"=true:=by decide +kernel
set_option maxHeartbeats 4000000 in
theorem cal_check_gate(T:Txt K mg)(d:Dn K mg "check_gate" st_check_gate ["canal","gate"])(X_NoGate:ClX P w K mg base "NoGate" 1):CalX P w K mg base "check_gate" ["canal","gate"] f_check_gate 3:=by
 have Sc:=sc_check_gate
 refine calx_of ["canal","gate"] 2 b_check_gate rfl d Sc fun f cdv A outer s H E XQ hr L=>?_
 conv=>arg 3; whnf
 refine GSs.h ?_
 exact(gss_one (gs_if (gt_not (gt_chain op_le od_le op_lt od_lt ge_int (gv 1 v11_0) (ge_len (gl g11_2) T.b_len (ga_cons (ge_get (gv 0 v11_1) ge_int) ga_nil se_Subscript))))
  (gss_one (gs_raise L rfl X_NoGate hr (gl g11_3) p_NoGate (ga_cons ge_str ga_nil se_Constant)))
  gss_nil))
def b_place_behind:Sv:=(sq (sa (vr 0) (gt (gcons (gn 1) (gcons (gn 2) gnil)) 2))
  (sret (ie (tb (o2 eqD (vr 1) (cn (.str "right")))) (o2 addD (vr 2) (cn (.int 1))) (vr 2))))
def f_place_behind:Fn:=fnB 3 b_place_behind
theorem sc_place_behind:FnScope ["deed","word","gate"] ["deed"] (defScope st_place_behind):=⟨rfl,rfl,rfl,by decide +kernel,rfl,by decide +kernel,by decide +kernel⟩
abbrev z12:=defScope st_place_behind
theorem l12_1:OkL z12 "gate":=⟨by decide +kernel⟩
theorem l12_2:OkL z12 "word":=⟨by decide +kernel⟩
theorem v12_0:OkV z12 "deed":=⟨by decide +kernel⟩
theorem v12_4:OkV z12 "gate":=⟨by decide +kernel⟩
theorem v12_3:OkV z12 "word":=⟨by decide +kernel⟩
set_option maxHeartbeats 4000000 in
theorem cal_place_behind(T:Txt K mg)(d:Dn K mg "place_behind" st_place_behind ["deed"]):Cal P w K mg base "place_behind" ["deed"] f_place_behind 1:=by
 have Sc:=sc_place_behind
 refine cal_of ["deed","word","gate"] 0 b_place_behind rfl d Sc fun f cdv A outer s H E hr=>?_
 conv=>arg 3; whnf
 refine GSs.h ?_
 exact(gss_cons (gs_asg (gv 0 v12_0) (gg_tup rfl (ggs_cons (ggn 1 Sc.nd l12_2) (ggs_cons (ggn 2 Sc.nd l12_1) ggs_nil))))
  (gss_one (gs_ret (ge_ifx (gt_eq hr.units (gv 1 v12_3) ge_str) (ge_add (gv 2 v12_4) ge_int) (gv 2 v12_4)))))
def b_check_water:Sv:=(sq (sa (o2 getD (vr 0) (cn (.int 0))) (gn 3))
  (sq (sa (cl 2 (noExc f_higher) (ac (vr 0) (ac (vr 2) an))) (gn 4))
  (sq (sa (cl 2 (noExc f_lower) (ac (vr 0) (ac (vr 2) an))) (gn 5))
  (sq (sif (ta (tb (o2 eqD (o2 getD (vr 3) (vr 4)) (cn c_CHAMBER))) (tb (o2 eqD (o2 getD (vr 1) (vr 4)) (cn (.int 1)))))
  (srs "Uneven" (ac (cn (.str "the higher chamber is full")) an))
  skip)
  (sq (sif (ta (tb (o2 eqD (o2 getD (vr 3) (vr 5)) (cn c_CHAMBER))) (tb (o2 eqD (o2 getD (vr 1) (vr 5)) (cn (.int 0)))))
  (srs "Uneven" (ac (cn (.str "the lower chamber is empty")) an))
  skip)
  (sif (to (tt (cl 2 (noExc f_is_shallow) (ac (o2 getD (vr 3) (vr 4)) (ac (o2 getD (vr 1) (vr 4)) an)))) (tt (cl 2 (noExc f_is_shallow) (ac (o2 getD (vr 3) (vr 5)) (ac (o2 getD (vr 1) (vr 5)) an)))))
  (srs "Shallow" (ac (cn (.str "the pound's level is below its deep")) an))
  skip))))))
def f_check_water:Fn:=fnB 6 b_check_water
theorem sc_check_water:FnScope ["canal","levels","gate","places","high","low"] ["canal","levels","gate"] (defScope st_check_water):=⟨rfl,rfl,rfl,by decide +kernel,rfl,by decide +kernel,by decide +kernel⟩
abbrev z13:=defScope st_check_water
theorem g13_9:OkG z13 "CHAMBER":=⟨by decide +kernel⟩
theorem g13_14:OkG z13 "Shallow":=⟨by decide +kernel⟩
theorem g13_11:OkG z13 "Uneven":=⟨by decide +kernel⟩
theorem g13_3:OkG z13 "higher":=⟨by decide +kernel⟩
theorem g13_13:OkG z13 "is_shallow":=⟨by decide +kernel⟩
theorem g13_5:OkG z13 "lower":=⟨by decide +kernel⟩
theorem l13_4:OkL z13 "high":=⟨by decide +kernel⟩
theorem l13_6:OkL z13 "low":=⟨by decide +kernel⟩
theorem l13_1:OkL z13 "places":=⟨by decide +kernel⟩
theorem v13_0:OkV z13 "canal":=⟨by decide +kernel⟩
theorem v13_2:OkV z13 "gate":=⟨by decide +kernel⟩
theorem v13_8:OkV z13 "high":=⟨by decide +kernel⟩
theorem v13_10:OkV z13 "levels":=⟨by decide +kernel⟩
theorem v13_12:OkV z13 "low":=⟨by decide +kernel⟩
theorem v13_7:OkV z13 "places":=⟨by decide +kernel⟩
theorem p_Shallow:plainN "Shallow"=true:=by decide +kernel
theorem p_Uneven:plainN "Uneven"=true:=by decide +kernel
theorem p_higher:plainN "higher"=true:=by decide +kernel
theorem p_is_shallow:plainN "is_shallow"=true:=by decide +kernel
theorem p_lower:plainN "lower"=true:=by decide +kernel
set_option maxHeartbeats 4000000 in
theorem cal_check_water(T:Txt K mg)(d:Dn K mg "check_water" st_check_water ["canal","levels","gate"])(C_higher:Cal P w K mg base "higher" ["canal","gate"] f_higher 1)(C_is_shallow:Cal P w K mg base "is_shallow" ["place","level"] f_is_shallow 1)(C_lower:Cal P w K mg base "lower" ["canal","gate"] f_lower 1)(X_Shallow:ClX P w K mg base "Shallow" 1)(X_Uneven:ClX P w K mg base "Uneven" 1):CalX P w K mg base "check_water" ["canal","levels","gate"] f_check_water 3:=by
 have Sc:=sc_check_water
 refine calx_of ["canal","levels","gate","places","high","low"] 2 b_check_water rfl d Sc fun f cdv A outer s H E XQ hr L=>?_
 conv=>arg 3; whnf
 refine GSs.h ?_
 exact(gss_cons (gset 3 Sc.nd l13_1 (ge_get (gv 0 v13_0) ge_int))
  (gss_cons (gset 4 Sc.nd l13_4 (gown C_higher hr (gl g13_3) p_higher (ga_cons (gv 0 v13_0) (ga_cons (gv 2 v13_2) ga_nil se_Name) se_Name)))
  (gss_cons (gset 5 Sc.nd l13_6 (gown C_lower hr (gl g13_5) p_lower (ga_cons (gv 0 v13_0) (ga_cons (gv 2 v13_2) ga_nil se_Name) se_Name)))
  (gss_cons (gs_if (GW.jt (gw_and (gt_eq hr.units (ge_get (gv 3 v13_7) (gv 4 v13_8)) (T.c_CHAMBER (gl g13_9))) (gw_and1 (gt_eq hr.units (ge_get (gv 1 v13_10) (gv 4 v13_8)) ge_int))))
  (gss_one (gs_raise L rfl X_Uneven hr (gl g13_11) p_Uneven (ga_cons ge_str ga_nil se_Constant)))
  gss_nil)
  (gss_cons (gs_if (GW.jt (gw_and (gt_eq hr.units (ge_get (gv 3 v13_7) (gv 5 v13_12)) (T.c_CHAMBER (gl g13_9))) (gw_and1 (gt_eq hr.units (ge_get (gv 1 v13_10) (gv 5 v13_12)) ge_int))))
  (gss_one (gs_raise L rfl X_Uneven hr (gl g13_11) p_Uneven (ga_cons ge_str ga_nil se_Constant)))
  gss_nil)
  (gss_one (gs_if (GW.jt (gw_or (gt_val (gown C_is_shallow hr (gl g13_13) p_is_shallow (ga_cons (ge_get (gv 3 v13_7) (gv 4 v13_8)) (ga_cons (ge_get (gv 1 v13_10) (gv 4 v13_8)) ga_nil se_Subscript) se_Subscript))) (gw_or1 (gt_val (gown C_is_shallow hr (gl g13_13) p_is_shallow (ga_cons (ge_get (gv 3 v13_7) (gv 5 v13_12)) (ga_cons (ge_get (gv 1 v13_10) (gv 5 v13_12)) ga_nil se_Subscript) se_Subscript))))))
  (gss_one (gs_raise L rfl X_Shallow hr (gl g13_14) p_Shallow (ga_cons ge_str ga_nil se_Constant)))
  gss_nil)))))))
def b_place_ahead:Sv:=(sq (sa (vr 0) (gt (gcons (gn 1) (gcons (gn 2) gnil)) 2))
  (sret (ie (tb (o2 eqD (vr 1) (cn (.str "right")))) (vr 2) (o2 addD (vr 2) (cn (.int 1))))))
def f_place_ahead:Fn:=fnB 3 b_place_ahead
theorem sc_place_ahead:FnScope ["deed","word","gate"] ["deed"] (defScope st_place_ahead):=⟨rfl,rfl,rfl,by decide +kernel,rfl,by decide +kernel,by decide +kernel⟩
abbrev z14:=defScope st_place_ahead
theorem l14_1:OkL z14 "gate":=⟨by decide +kernel⟩
theorem l14_2:OkL z14 "word":=⟨by decide +kernel⟩
theorem v14_0:OkV z14 "deed":=⟨by decide +kernel⟩
theorem v14_4:OkV z14 "gate":=⟨by decide +kernel⟩
theorem v14_3:OkV z14 "word":=⟨by decide +kernel⟩
set_option maxHeartbeats 4000000 in
theorem cal_place_ahead(T:Txt K mg)(d:Dn K mg "place_ahead" st_place_ahead ["deed"]):Cal P w K mg base "place_ahead" ["deed"] f_place_ahead 1:=by
 have Sc:=sc_place_ahead
 refine cal_of ["deed","word","gate"] 0 b_place_ahead rfl d Sc fun f cdv A outer s H E hr=>?_
 conv=>arg 3; whnf
 refine GSs.h ?_
 exact(gss_cons (gs_asg (gv 0 v14_0) (gg_tup rfl (ggs_cons (ggn 1 Sc.nd l14_2) (ggs_cons (ggn 2 Sc.nd l14_1) ggs_nil))))
  (gss_one (gs_ret (ge_ifx (gt_eq hr.units (gv 1 v14_3) ge_str) (gv 2 v14_4) (ge_add (gv 2 v14_4) ge_int)))))
def b_check_move:Sv:=(sq (sa (vr 2) (gt (gcons (gn 3) (gcons (gn 4) gnil)) 2))
  (sq (sx (cl 2 (gX ys f_check_gate) (ac (vr 0) (ac (vr 4) an))))
  (sq (sif (tb (o2 eqD (o2 getD (cl 2 (noExc f_barges_of) (ac (vr 1) (ac (vr 3) an))) (cl 1 (noExc f_place_ahead) (ac (vr 2) an))) (cn (.int 0))))
  (srs "NoBarge" (ac (cn (.str "there is no barge that goes this way")) an))
  skip)
  (sq (sa (cl 1 (noExc f_place_behind) (ac (vr 2) an)) (gn 5))
  (sq (sif (tn (tt (cl 2 (noExc f_holds) (ac (o2 getD (o2 getD (vr 0) (cn (.int 0))) (vr 5)) (ac (o2 addD (o2 addD (o2 getD (o2 getD (vr 1) (cn (.int 1))) (vr 5)) (o2 getD (o2 getD (vr 1) (cn (.int 2))) (vr 5))) (cn (.int 1))) an)))))
  (srs "NoRoom" (ac (cn (.str "the place that the barge comes to has no room")) an))
  skip)
  (sx (cl 3 (gX ys f_check_water) (ac (vr 0) (ac (o2 getD (vr 1) (cn (.int 0))) (ac (vr 4) an))))))))))
def f_check_move:Fn:=fnB 6 b_check_move
theorem sc_check_move:FnScope ["canal","stand","deed","word","gate","target"] ["canal","stand","deed"] (defScope st_check_move):=⟨rfl,rfl,rfl,by decide +kernel,rfl,by decide +kernel,by decide +kernel⟩
abbrev z15:=defScope st_check_move
theorem g15_10:OkG z15 "NoBarge":=⟨by decide +kernel⟩
theorem g15_15:OkG z15 "NoRoom":=⟨by decide +kernel⟩
theorem g15_8:OkG z15 "barges_of":=⟨by decide +kernel⟩
theorem g15_5:OkG z15 "check_gate":=⟨by decide +kernel⟩
theorem g15_16:OkG z15 "check_water":=⟨by decide +kernel⟩
theorem g15_14:OkG z15 "holds":=⟨by decide +kernel⟩
theorem g15_9:OkG z15 "place_ahead":=⟨by decide +kernel⟩
theorem g15_11:OkG z15 "place_behind":=⟨by decide +kernel⟩
theorem l15_1:OkL z15 "gate":=⟨by decide +kernel⟩
theorem l15_12:OkL z15 "target":=⟨by decide +kernel⟩
theorem l15_2:OkL z15 "word":=⟨by decide +kernel⟩
theorem v15_4:OkV z15 "canal":=⟨by decide +kernel⟩
theorem v15_0:OkV z15 "deed":=⟨by decide +kernel⟩
theorem v15_3:OkV z15 "gate":=⟨by decide +kernel⟩
theorem v15_7:OkV z15 "stand":=⟨by decide +kernel⟩
theorem v15_13:OkV z15 "target":=⟨by decide +kernel⟩
theorem v15_6:OkV z15 "word":=⟨by decide +kernel⟩
theorem p_NoBarge:plainN "NoBarge"=true:=by decide +kernel
theorem p_NoRoom:plainN "NoRoom"=true:=by decide +kernel
theorem p_barges_of:plainN "barges_of"=true:=by decide +kernel
theorem p_check_gate:plainN "check_gate"=true:=by decide +kernel
theorem p_check_water:plainN "check_water"=true:=by decide +kernel
theorem p_holds:plainN "holds"=true:=by decide +kernel
theorem p_place_ahead:plainN "place_ahead"=true:=by decide +kernel
theorem p_place_behind:plainN "place_behind"=true:=by decide +kernel
set_option maxHeartbeats 4000000 in
theorem cal_check_move(T:Txt K mg)(d:Dn K mg "check_move" st_check_move ["canal","stand","deed"])(C_barges_of:Cal P w K mg base "barges_of" ["stand","word"] f_barges_of 1)(C_check_gate:CalX P w K mg base "check_gate" ["canal","gate"] f_check_gate 3)(C_check_water:CalX P w K mg base "check_water" ["canal","levels","gate"] f_check_water 3)(C_holds:Cal P w K mg base "holds" ["place","barges"] f_holds 1)(C_place_ahead:Cal P w K mg base "place_ahead" ["deed"] f_place_ahead 1)(C_place_behind:Cal P w K mg base "place_behind" ["deed"] f_place_behind 1)(X_NoBarge:ClX P w K mg base "NoBarge" 1)(X_NoRoom:ClX P w K mg base "NoRoom" 1):CalX P w K mg base "check_move" ["canal","stand","deed"] f_check_move 4:=by
 have Sc:=sc_check_move
 refine calx_of ["canal","stand","deed","word","gate","target"] 3 b_check_move rfl d Sc fun f cdv A outer s H E XQ hr L=>?_
 conv=>arg 3; whnf
 refine GSs.h ?_
 exact(gss_cons (gs_asg (gv 2 v15_0) (gg_tup rfl (ggs_cons (ggn 3 Sc.nd l15_2) (ggs_cons (ggn 4 Sc.nd l15_1) ggs_nil))))
  (gss_cons (gs_expr (gownX T.xt.xns L C_check_gate hr (gl g15_5) p_check_gate (ga_cons (gv 0 v15_4) (ga_cons (gv 4 v15_3) ga_nil se_Name) se_Name)))
  (gss_cons (gs_if (gt_eq hr.units (ge_get (gown C_barges_of hr (gl g15_8) p_barges_of (ga_cons (gv 1 v15_7) (ga_cons (gv 3 v15_6) ga_nil se_Name) se_Name)) (gown C_place_ahead hr (gl g15_9) p_place_ahead (ga_cons (gv 2 v15_0) ga_nil se_Name))) ge_int)
  (gss_one (gs_raise L rfl X_NoBarge hr (gl g15_10) p_NoBarge (ga_cons ge_str ga_nil se_Constant)))
  gss_nil)
  (gss_cons (gset 5 Sc.nd l15_12 (gown C_place_behind hr (gl g15_11) p_place_behind (ga_cons (gv 2 v15_0) ga_nil se_Name)))
  (gss_cons (gs_if (gt_not (gt_val (gown C_holds hr (gl g15_14) p_holds (ga_cons (ge_get (ge_get (gv 0 v15_4) ge_int) (gv 5 v15_13)) (ga_cons (ge_add (ge_add (ge_get (ge_get (gv 1 v15_7) ge_int) (gv 5 v15_13)) (ge_get (ge_get (gv 1 v15_7) ge_int) (gv 5 v15_13))) ge_int) ga_nil se_BinOp) se_Subscript))))
  (gss_one (gs_raise L rfl X_NoRoom hr (gl g15_15) p_NoRoom (ga_cons ge_str ga_nil se_Constant)))
  gss_nil)
  (gss_one (gs_expr (gownX T.xt.xns L C_check_water hr (gl g15_16) p_check_water (ga_cons (gv 0 v15_4) (ga_cons (ge_get (gv 1 v15_7) ge_int) (ga_cons (gv 4 v15_3) ga_nil se_Name) se_Subscript) se_Name)))))))))
def b_check_let:Sv:=(sq (sx (cl 2 (gX ys f_check_gate) (ac (vr 0) (ac (vr 2) an))))
  (sq (spar 3 4 (ac (o2 getD (vr 0) (cn (.int 0))) (ac (o2 getD (vr 1) (cn (.int 0))) an)))
  (sq (sa (cl 2 (noExc f_higher) (ac (vr 0) (ac (vr 2) an))) (gn 5))
  (sq (sa (cl 2 (noExc f_lower) (ac (vr 0) (ac (vr 2) an))) (gn 6))
  (sq (sif (tt (cl 2 (noExc f_is_dry) (ac (o2 getD (vr 3) (vr 5)) (ac (o2 getD (vr 4) (vr 5)) an))))
  (srs "Dry" (ac (cn (.str "the higher place has no lockful")) an))
  skip)
  (sif (tt (cl 2 (noExc f_is_full) (ac (o2 getD (vr 3) (vr 6)) (ac (o2 getD (vr 4) (vr 6)) an))))
  (srs "Full" (ac (cn (.str "the lower place takes no lockful")) an))
  skip))))))
def f_check_let:Fn:=fnB 7 b_check_let
theorem sc_check_let:FnScope ["canal","stand","gate","places","levels","high","low"] ["canal","stand","gate"] (defScope st_check_let):=⟨rfl,rfl,rfl,by decide +kernel,rfl,by decide +kernel,by decide +kernel⟩
abbrev z16:=defScope st_check_let
theorem c16_5:OkC z16 "levels":=⟨by decide +kernel⟩
theorem c16_4:OkC z16 "places":=⟨by decide +kernel⟩
theorem g16_14:OkG z16 "Dry":=⟨by decide +kernel⟩
theorem g16_17:OkG z16 "Full":=⟨by decide +kernel⟩
theorem g16_2:OkG z16 "check_gate":=⟨by decide +kernel⟩
theorem g16_6:OkG z16 "higher":=⟨by decide +kernel⟩
theorem g16_13:OkG z16 "is_dry":=⟨by decide +kernel⟩
theorem g16_16:OkG z16 "is_full":=⟨by decide +kernel⟩
theorem g16_8:OkG z16 "lower":=⟨by decide +kernel⟩
theorem l16_7:OkL z16 "high":=⟨by decide +kernel⟩
theorem l16_9:OkL z16 "low":=⟨by decide +kernel⟩
theorem v16_1:OkV z16 "canal":=⟨by decide +kernel⟩
theorem v16_0:OkV z16 "gate":=⟨by decide +kernel⟩
theorem v16_11:OkV z16 "high":=⟨by decide +kernel⟩
theorem v16_10:OkV z16 "levels":=⟨by decide +kernel⟩
theorem v16_15:OkV z16 "low":=⟨by decide +kernel⟩
theorem v16_12:OkV z16 "places":=⟨by decide +kernel⟩
theorem v16_3:OkV z16 "stand":=⟨by decide +kernel⟩
theorem p_Dry:plainN "Dry"=true:=by decide +kernel
theorem p_Full:plainN "Full"=true:=by decide +kernel
theorem p_is_dry:plainN "is_dry"=true:=by decide +kernel
theorem p_is_full:plainN "is_full"=true:=by decide +kernel
set_option maxHeartbeats 4000000 in
theorem cal_check_let(T:Txt K mg)(d:Dn K mg "check_let" st_check_let ["canal","stand","gate"])(C_check_gate:CalX P w K mg base "check_gate" ["canal","gate"] f_check_gate 3)(C_higher:Cal P w K mg base "higher" ["canal","gate"] f_higher 1)(C_is_dry:Cal P w K mg base "is_dry" ["place","level"] f_is_dry 1)(C_is_full:Cal P w K mg base "is_full" ["place","level"] f_is_full 2)(C_lower:Cal P w K mg base "lower" ["canal","gate"] f_lower 1)(X_Dry:ClX P w K mg base "Dry" 1)(X_Full:ClX P w K mg base "Full" 1):CalX P w K mg base "check_let" ["canal","stand","gate"] f_check_let 4:=by
 have Sc:=sc_check_let
 refine calx_of ["canal","stand","gate","places","levels","high","low"] 3 b_check_let rfl d Sc fun f cdv A outer s H E XQ hr L=>?_
 conv=>arg 3; whnf
 refine GSs.h ?_
 exact(gss_cons (gs_expr (gownX T.xt.xns L C_check_gate hr (gl g16_2) p_check_gate (ga_cons (gv 0 v16_1) (ga_cons (gv 2 v16_0) ga_nil se_Name) se_Name)))
  (gss_cons (gs_par 3 4 rfl Sc.nd rfl rfl (by decide) c16_4.h c16_5.h (ga_cons (ge_get (gv 0 v16_1) ge_int) (ga_cons (ge_get (gv 1 v16_3) ge_int) ga_nil se_Subscript) se_Subscript) (by rfl))
  (gss_cons (gset 5 Sc.nd l16_7 (gown C_higher hr (gl g16_6) p_higher (ga_cons (gv 0 v16_1) (ga_cons (gv 2 v16_0) ga_nil se_Name) se_Name)))
  (gss_cons (gset 6 Sc.nd l16_9 (gown C_lower hr (gl g16_8) p_lower (ga_cons (gv 0 v16_1) (ga_cons (gv 2 v16_0) ga_nil se_Name) se_Name)))
  (gss_cons (gs_if (gt_val (gown C_is_dry hr (gl g16_13) p_is_dry (ga_cons (ge_get (gv 3 v16_12) (gv 5 v16_11)) (ga_cons (ge_get (gv 4 v16_10) (gv 5 v16_11)) ga_nil se_Subscript) se_Subscript)))
  (gss_one (gs_raise L rfl X_Dry hr (gl g16_14) p_Dry (ga_cons ge_str ga_nil se_Constant)))
  gss_nil)
  (gss_one (gs_if (gt_val (gown C_is_full hr (gl g16_16) p_is_full (ga_cons (ge_get (gv 3 v16_12) (gv 6 v16_15)) (ga_cons (ge_get (gv 4 v16_10) (gv 6 v16_15)) ga_nil se_Subscript) se_Subscript)))
  (gss_one (gs_raise L rfl X_Full hr (gl g16_17) p_Full (ga_cons ge_str ga_nil se_Constant)))
  gss_nil)))))))
def b_check_feed:Sv:=(sq (spar 3 4 (ac (o2 getD (vr 0) (cn (.int 0))) (ac (o2 getD (vr 1) (cn (.int 0))) an)))
  (sq (sif (to (tn (tb (ch leD ltD (cn (.int 0)) (vr 2) (b1 lenD (ac (vr 3) an))))) (tn (tt (cl 1 (noExc f_has_spring) (ac (o2 getD (vr 3) (vr 2)) an)))))
  (srs "NoSpring" (ac (cn (.str "there is no spring at this place")) an))
  skip)
  (sif (tt (cl 2 (noExc f_is_full) (ac (o2 getD (vr 3) (vr 2)) (ac (o2 getD (vr 4) (vr 2)) an))))
  (srs "Full" (ac (cn (.str "the pound is at its brim")) an))
  skip)))
def f_check_feed:Fn:=fnB 5 b_check_feed
theorem sc_check_feed:FnScope ["canal","stand","number","places","levels"] ["canal","stand","number"] (defScope st_check_feed):=⟨rfl,rfl,rfl,by decide +kernel,rfl,by decide +kernel,by decide +kernel⟩
abbrev z17:=defScope st_check_feed
theorem c17_3:OkC z17 "levels":=⟨by decide +kernel⟩
theorem c17_2:OkC z17 "places":=⟨by decide +kernel⟩
theorem g17_11:OkG z17 "Full":=⟨by decide +kernel⟩
theorem g17_8:OkG z17 "NoSpring":=⟨by decide +kernel⟩
theorem g17_7:OkG z17 "has_spring":=⟨by decide +kernel⟩
theorem g17_10:OkG z17 "is_full":=⟨by decide +kernel⟩
theorem g17_6:OkG z17 "len":=⟨by decide +kernel⟩
theorem v17_1:OkV z17 "canal":=⟨by decide +kernel⟩
theorem v17_9:OkV z17 "levels":=⟨by decide +kernel⟩
theorem v17_4:OkV z17 "number":=⟨by decide +kernel⟩
theorem v17_5:OkV z17 "places":=⟨by decide +kernel⟩
theorem v17_0:OkV z17 "stand":=⟨by decide +kernel⟩
theorem p_NoSpring:plainN "NoSpring"=true:=by decide +kernel
theorem p_has_spring:plainN "has_spring"=true:=by decide +kernel
set_option maxHeartbeats 4000000 in
theorem cal_check_feed(T:Txt K mg)(d:Dn K mg "check_feed" st_check_feed ["canal","stand","number"])(C_has_spring:Cal P w K mg base "has_spring" ["place"] f_has_spring 1)(C_is_full:Cal P w K mg base "is_full" ["place","level"] f_is_full 2)(X_Full:ClX P w K mg base "Full" 1)(X_NoSpring:ClX P w K mg base "NoSpring" 1):CalX P w K mg base "check_feed" ["canal","stand","number"] f_check_feed 3:=by
 have Sc:=sc_check_feed
 refine calx_of ["canal","stand","number","places","levels"] 2 b_check_feed rfl d Sc fun f cdv A outer s H E XQ hr L=>?_
 conv=>arg 3; whnf
 refine GSs.h ?_
 exact(gss_cons (gs_par 3 4 rfl Sc.nd rfl rfl (by decide) c17_2.h c17_3.h (ga_cons (ge_get (gv 0 v17_1) ge_int) (ga_cons (ge_get (gv 1 v17_0) ge_int) ga_nil se_Subscript) se_Subscript) (by rfl))
  (gss_cons (gs_if (GW.jt (gw_or (gt_not (gt_chain op_le od_le op_lt od_lt ge_int (gv 2 v17_4) (ge_len (gl g17_6) T.b_len (ga_cons (gv 3 v17_5) ga_nil se_Name)))) (gw_or1 (gt_not (gt_val (gown C_has_spring hr (gl g17_7) p_has_spring (ga_cons (ge_get (gv 3 v17_5) (gv 2 v17_4)) ga_nil se_Subscript)))))))
  (gss_one (gs_raise L rfl X_NoSpring hr (gl g17_8) p_NoSpring (ga_cons ge_str ga_nil se_Constant)))
  gss_nil)
  (gss_one (gs_if (gt_val (gown C_is_full hr (gl g17_10) p_is_full (ga_cons (ge_get (gv 3 v17_5) (gv 2 v17_4)) (ga_cons (ge_get (gv 4 v17_9) (gv 2 v17_4)) ga_nil se_Subscript) se_Subscript)))
  (gss_one (gs_raise L rfl X_Full hr (gl g17_11) p_Full (ga_cons ge_str ga_nil se_Constant)))
  gss_nil))))
def b_moved:Sv:=(sq (sa (o2 getD (vr 1) (cn (.int 0))) (gn 2))
  (sq (sa (cl 3 (noExc f_with_more) (ac (cl 2 (noExc f_barges_of) (ac (vr 0) (ac (vr 2) an))) (ac (cl 1 (noExc f_place_ahead) (ac (vr 1) an)) (ac (o1 negD (cn (.int 1))) an)))) (gn 3))
  (sret (cl 3 (noExc f_with_barges) (ac (vr 0) (ac (vr 2) (ac (cl 3 (noExc f_with_more) (ac (vr 3) (ac (cl 1 (noExc f_place_behind) (ac (vr 1) an)) (ac (cn (.int 1)) an)))) an)))))))
def f_moved:Fn:=fnB 4 b_moved
theorem sc_moved:FnScope ["stand","deed","word","row"] ["stand","deed"] (defScope st_moved):=⟨rfl,rfl,rfl,by decide +kernel,rfl,by decide +kernel,by decide +kernel⟩
abbrev z18:=defScope st_moved
theorem g18_5:OkG z18 "barges_of":=⟨by decide +kernel⟩
theorem g18_2:OkG z18 "place_ahead":=⟨by decide +kernel⟩
theorem g18_8:OkG z18 "place_behind":=⟨by decide +kernel⟩
theorem g18_10:OkG z18 "with_barges":=⟨by decide +kernel⟩
theorem g18_6:OkG z18 "with_more":=⟨by decide +kernel⟩
theorem l18_7:OkL z18 "row":=⟨by decide +kernel⟩
theorem l18_1:OkL z18 "word":=⟨by decide +kernel⟩
theorem v18_0:OkV z18 "deed":=⟨by decide +kernel⟩
theorem v18_9:OkV z18 "row":=⟨by decide +kernel⟩
theorem v18_4:OkV z18 "stand":=⟨by decide +kernel⟩
theorem v18_3:OkV z18 "word":=⟨by decide +kernel⟩
theorem p_with_barges:plainN "with_barges"=true:=by decide +kernel
theorem p_with_more:plainN "with_more"=true:=by decide +kernel
set_option maxHeartbeats 4000000 in
theorem cal_moved(T:Txt K mg)(d:Dn K mg "moved" st_moved ["stand","deed"])(C_barges_of:Cal P w K mg base "barges_of" ["stand","word"] f_barges_of 1)(C_place_ahead:Cal P w K mg base "place_ahead" ["deed"] f_place_ahead 1)(C_place_behind:Cal P w K mg base "place_behind" ["deed"] f_place_behind 1)(C_with_barges:Cal P w K mg base "with_barges" ["stand","word","row"] f_with_barges 1)(C_with_more:Cal P w K mg base "with_more" ["row","place","many"] f_with_more 1):Cal P w K mg base "moved" ["stand","deed"] f_moved 2:=by
 have Sc:=sc_moved
 refine cal_of ["stand","deed","word","row"] 1 b_moved rfl d Sc fun f cdv A outer s H E hr=>?_
 conv=>arg 3; whnf
 refine GSs.h ?_
 exact(gss_cons (gset 2 Sc.nd l18_1 (ge_get (gv 1 v18_0) ge_int))
  (gss_cons (gset 3 Sc.nd l18_7 (gown C_with_more hr (gl g18_6) p_with_more (ga_cons (gown C_barges_of hr (gl g18_5) p_barges_of (ga_cons (gv 0 v18_4) (ga_cons (gv 2 v18_3) ga_nil se_Name) se_Name)) (ga_cons (gown C_place_ahead hr (gl g18_2) p_place_ahead (ga_cons (gv 1 v18_0) ga_nil se_Name)) (ga_cons (ge_neg ge_int) ga_nil se_UnaryOp) se_Call) se_Call)))
  (gss_one (gs_ret (gown C_with_barges hr (gl g18_10) p_with_barges (ga_cons (gv 0 v18_4) (ga_cons (gv 2 v18_3) (ga_cons (gown C_with_more hr (gl g18_6) p_with_more (ga_cons (gv 3 v18_9) (ga_cons (gown C_place_behind hr (gl g18_8) p_place_behind (ga_cons (gv 1 v18_0) ga_nil se_Name)) (ga_cons ge_int ga_nil se_Constant) se_Call) se_Name)) ga_nil se_Call) se_Name) se_Name))))))
def b_with_water:Sv:=(sq (sif (tb (o2 eqD (o2 getD (o2 getD (vr 0) (cn (.int 0))) (vr 2)) (cn c_END)))
  (sret (vr 1))
  skip)
  (sret (cl 3 (noExc f_with_more) (ac (vr 1) (ac (vr 2) (ac (vr 3) an))))))
def f_with_water:Fn:=fnB 4 b_with_water
theorem sc_with_water:FnScope ["canal","levels","place","many"] ["canal","levels","place","many"] (defScope st_with_water):=⟨rfl,rfl,rfl,by decide +kernel,rfl,by decide +kernel,by decide +kernel⟩
abbrev z19:=defScope st_with_water
theorem g19_2:OkG z19 "END":=⟨by decide +kernel⟩
theorem g19_5:OkG z19 "with_more":=⟨by decide +kernel⟩
theorem v19_0:OkV z19 "canal":=⟨by decide +kernel⟩
theorem v19_3:OkV z19 "levels":=⟨by decide +kernel⟩
theorem v19_4:OkV z19 "many":=⟨by decide +kernel⟩
theorem v19_1:OkV z19 "place":=⟨by decide +kernel⟩
set_option maxHeartbeats 4000000 in
theorem cal_with_water(T:Txt K mg)(d:Dn K mg "with_water" st_with_water ["canal","levels","place","many"])(C_with_more:Cal P w K mg base "with_more" ["row","place","many"] f_with_more 1):Cal P w K mg base "with_water" ["canal","levels","place","many"] f_with_water 2:=by
 have Sc:=sc_with_water
 refine cal_of ["canal","levels","place","many"] 1 b_with_water rfl d Sc fun f cdv A outer s H E hr=>?_
 conv=>arg 3; whnf
 refine GSs.h ?_
 exact(gss_cons (gs_if (gt_eq hr.units (ge_get (ge_get (gv 0 v19_0) ge_int) (gv 2 v19_1)) (T.c_END (gl g19_2)))
  (gss_one (gs_ret (gv 1 v19_3)))
  gss_nil)
  (gss_one (gs_ret (gown C_with_more hr (gl g19_5) p_with_more (ga_cons (gv 1 v19_3) (ga_cons (gv 2 v19_1) (ga_cons (gv 3 v19_4) ga_nil se_Name) se_Name) se_Name)))))
def b_let_down:Sv:=(sq (sa (vr 1) (gt (gcons (gn 3) (gcons (gn 4) (gcons (gn 5) gnil))) 3))
  (sq (sa (cl 4 (noExc f_with_water) (ac (vr 0) (ac (vr 3) (ac (cl 2 (noExc f_higher) (ac (vr 0) (ac (vr 2) an))) (ac (o1 negD (cn (.int 1))) an))))) (gn 3))
  (sq (sa (cl 4 (noExc f_with_water) (ac (vr 0) (ac (vr 3) (ac (cl 2 (noExc f_lower) (ac (vr 0) (ac (vr 2) an))) (ac (cn (.int 1)) an))))) (gn 3))
  (sret (tp (ac (vr 3) (ac (vr 4) (ac (vr 5) an))))))))
def f_let_down:Fn:=fnB 6 b_let_down
theorem sc_let_down:FnScope ["canal","stand","gate","levels","rights","lefts"] ["canal","stand","gate"] (defScope st_let_down):=⟨rfl,rfl,rfl,by decide +kernel,rfl,by decide +kernel,by decide +kernel⟩
abbrev z20:=defScope st_let_down
theorem g20_6:OkG z20 "higher":=⟨by decide +kernel⟩
theorem g20_9:OkG z20 "lower":=⟨by decide +kernel⟩
theorem g20_8:OkG z20 "with_water":=⟨by decide +kernel⟩
theorem l20_1:OkL z20 "lefts":=⟨by decide +kernel⟩
theorem l20_3:OkL z20 "levels":=⟨by decide +kernel⟩
theorem l20_2:OkL z20 "rights":=⟨by decide +kernel⟩
theorem v20_5:OkV z20 "canal":=⟨by decide +kernel⟩
theorem v20_4:OkV z20 "gate":=⟨by decide +kernel⟩
theorem v20_10:OkV z20 "lefts":=⟨by decide +kernel⟩
theorem v20_7:OkV z20 "levels":=⟨by decide +kernel⟩
theorem v20_11:OkV z20 "rights":=⟨by decide +kernel⟩
theorem v20_0:OkV z20 "stand":=⟨by decide +kernel⟩
theorem p_with_water:plainN "with_water"=true:=by decide +kernel
set_option maxHeartbeats 4000000 in
theorem cal_let_down(T:Txt K mg)(d:Dn K mg "let_down" st_let_down ["canal","stand","gate"])(C_higher:Cal P w K mg base "higher" ["canal","gate"] f_higher 1)(C_lower:Cal P w K mg base "lower" ["canal","gate"] f_lower 1)(C_with_water:Cal P w K mg base "with_water" ["canal","levels","place","many"] f_with_water 2):Cal P w K mg base "let_down" ["canal","stand","gate"] f_let_down 3:=by
 have Sc:=sc_let_down
 refine cal_of ["canal","stand","gate","levels","rights","lefts"] 2 b_let_down rfl d Sc fun f cdv A outer s H E hr=>?_
 conv=>arg 3; whnf
 refine GSs.h ?_
 exact(gss_cons (gs_asg (gv 1 v20_0) (gg_tup rfl (ggs_cons (ggn 3 Sc.nd l20_3) (ggs_cons (ggn 4 Sc.nd l20_2) (ggs_cons (ggn 5 Sc.nd l20_1) ggs_nil)))))
  (gss_cons (gset 3 Sc.nd l20_3 (gown C_with_water hr (gl g20_8) p_with_water (ga_cons (gv 0 v20_5) (ga_cons (gv 3 v20_7) (ga_cons (gown C_higher hr (gl g20_6) p_higher (ga_cons (gv 0 v20_5) (ga_cons (gv 2 v20_4) ga_nil se_Name) se_Name)) (ga_cons (ge_neg ge_int) ga_nil se_UnaryOp) se_Call) se_Name) se_Name)))
  (gss_cons (gset 3 Sc.nd l20_3 (gown C_with_water hr (gl g20_8) p_with_water (ga_cons (gv 0 v20_5) (ga_cons (gv 3 v20_7) (ga_cons (gown C_lower hr (gl g20_9) p_lower (ga_cons (gv 0 v20_5) (ga_cons (gv 2 v20_4) ga_nil se_Name) se_Name)) (ga_cons ge_int ga_nil se_Constant) se_Call) se_Name) se_Name)))
  (gss_one (gs_ret (ge_tup (ga_cons (gv 3 v20_7) (ga_cons (gv 4 v20_11) (ga_cons (gv 5 v20_10) ga_nil se_Name) se_Name) se_Name)))))))
def b_is_last_move:Sv:=(sret (o2 eqD (cl 1 (noExc f_place_behind) (ac (vr 1) an)) (ie (tb (o2 eqD (o2 getD (vr 1) (cn (.int 0))) (cn (.str "right")))) (o2 subD (b1 lenD (ac (o2 getD (vr 0) (cn (.int 0))) an)) (cn (.int 1))) (cn (.int 0)))))
def f_is_last_move:Fn:=fnB 2 b_is_last_move
theorem sc_is_last_move:FnScope ["canal","deed"] ["canal","deed"] (defScope st_is_last_move):=⟨rfl,rfl,rfl,by decide +kernel,rfl,by decide +kernel,by decide +kernel⟩
abbrev z21:=defScope st_is_last_move
theorem g21_3:OkG z21 "len":=⟨by decide +kernel⟩
theorem g21_1:OkG z21 "place_behind":=⟨by decide +kernel⟩
theorem v21_2:OkV z21 "canal":=⟨by decide +kernel⟩
theorem v21_0:OkV z21 "deed":=⟨by decide +kernel⟩
set_option maxHeartbeats 4000000 in
theorem cal_is_last_move(T:Txt K mg)(d:Dn K mg "is_last_move" st_is_last_move ["canal","deed"])(C_place_behind:Cal P w K mg base "place_behind" ["deed"] f_place_behind 1):Cal P w K mg base "is_last_move" ["canal","deed"] f_is_last_move 2:=by
 have Sc:=sc_is_last_move
 refine cal_of ["canal","deed"] 1 b_is_last_move rfl d Sc fun f cdv A outer s H E hr=>?_
 conv=>arg 3; whnf
 refine GSs.h ?_
 exact(gss_one (gs_ret (ge_eq hr.units (gown C_place_behind hr (gl g21_1) p_place_behind (ga_cons (gv 1 v21_0) ga_nil se_Name)) (ge_ifx (gt_eq hr.units (ge_get (gv 1 v21_0) ge_int) ge_str) (ge_sub (ge_len (gl g21_3) T.b_len (ga_cons (ge_get (gv 0 v21_2) ge_int) ga_nil se_Subscript)) ge_int) ge_int))))
def b_deed_done:Sv:=(sq (sa (vr 2) (gt (gcons (gn 3) (gcons (gn 4) gnil)) 2))
  (sq (sif (tb (o2 eqD (vr 3) (cn (.str "let"))))
  (sq (sx (cl 3 (gX ys f_check_let) (ac (vr 0) (ac (vr 1) (ac (vr 4) an)))))
  (sret (tp (ac (cl 3 (noExc f_let_down) (ac (vr 0) (ac (vr 1) (ac (vr 4) an)))) (ac (cn (.int 0)) (ac (cn (.int 0)) an))))))
  skip)
  (sq (sif (tb (o2 eqD (vr 3) (cn (.str "feed"))))
  (sq (sx (cl 3 (gX ys f_check_feed) (ac (vr 0) (ac (vr 1) (ac (vr 4) an)))))
  (sq (sa (vr 1) (gt (gcons (gn 5) (gcons (gn 6) (gcons (gn 7) gnil))) 3))
  (sret (tp (ac (tp (ac (cl 3 (noExc f_with_more) (ac (vr 5) (ac (vr 4) (ac (cn (.int 1)) an)))) (ac (vr 6) (ac (vr 7) an)))) (ac (o2 getD (o2 getD (o2 getD (vr 0) (cn (.int 0))) (vr 4)) (cn (.int 4))) (ac (cn (.int 0)) an)))))))
  skip)
  (sq (sx (cl 3 (gX ys f_check_move) (ac (vr 0) (ac (vr 1) (ac (vr 2) an)))))
  (sret (tp (ac (cl 2 (noExc f_moved) (ac (vr 1) (ac (vr 2) an))) (ac (cn (.int 0)) (ac (ie (tt (cl 2 (noExc f_is_last_move) (ac (vr 0) (ac (vr 2) an)))) (cn (.int 1)) (cn (.int 0))) an)))))))))
def f_deed_done:Fn:=fnB 8 b_deed_done
theorem sc_deed_done:FnScope ["canal","stand","deed","word","number","levels","rights","lefts"] ["canal","stand","deed"] (defScope st_deed_done):=⟨rfl,rfl,rfl,by decide +kernel,rfl,by decide +kernel,by decide +kernel⟩
abbrev z22:=defScope st_deed_done
theorem g22_9:OkG z22 "check_feed":=⟨by decide +kernel⟩
theorem g22_7:OkG z22 "check_let":=⟨by decide +kernel⟩
theorem g22_17:OkG z22 "check_move":=⟨by decide +kernel⟩
theorem g22_18:OkG z22 "is_last_move":=⟨by decide +kernel⟩
theorem g22_8:OkG z22 "let_down":=⟨by decide +kernel⟩
theorem g22_19:OkG z22 "moved":=⟨by decide +kernel⟩
theorem g22_16:OkG z22 "with_more":=⟨by decide +kernel⟩
theorem l22_10:OkL z22 "lefts":=⟨by decide +kernel⟩
theorem l22_12:OkL z22 "levels":=⟨by decide +kernel⟩
theorem l22_1:OkL z22 "number":=⟨by decide +kernel⟩
theorem l22_11:OkL z22 "rights":=⟨by decide +kernel⟩
theorem l22_2:OkL z22 "word":=⟨by decide +kernel⟩
theorem v22_6:OkV z22 "canal":=⟨by decide +kernel⟩
theorem v22_0:OkV z22 "deed":=⟨by decide +kernel⟩
theorem v22_13:OkV z22 "lefts":=⟨by decide +kernel⟩
theorem v22_15:OkV z22 "levels":=⟨by decide +kernel⟩
theorem v22_4:OkV z22 "number":=⟨by decide +kernel⟩
theorem v22_14:OkV z22 "rights":=⟨by decide +kernel⟩
theorem v22_5:OkV z22 "stand":=⟨by decide +kernel⟩
theorem v22_3:OkV z22 "word":=⟨by decide +kernel⟩
theorem p_check_feed:plainN "check_feed"=true:=by decide +kernel
theorem p_check_let:plainN "check_let"=true:=by decide +kernel
theorem p_check_move:plainN "check_move"=true:=by decide +kernel
theorem p_is_last_move:plainN "is_last_move"=true:=by decide +kernel
theorem p_let_down:plainN "let_down"=true:=by decide +kernel
theorem p_moved:plainN "moved"=true:=by decide +kernel
set_option maxHeartbeats 4000000 in
theorem cal_deed_done(T:Txt K mg)(d:Dn K mg "deed_done" st_deed_done ["canal","stand","deed"])(C_check_feed:CalX P w K mg base "check_feed" ["canal","stand","number"] f_check_feed 3)(C_check_let:CalX P w K mg base "check_let" ["canal","stand","gate"] f_check_let 4)(C_check_move:CalX P w K mg base "check_move" ["canal","stand","deed"] f_check_move 4)(C_is_last_move:Cal P w K mg base "is_last_move" ["canal","deed"] f_is_last_move 2)(C_let_down:Cal P w K mg base "let_down" ["canal","stand","gate"] f_let_down 3)(C_moved:Cal P w K mg base "moved" ["stand","deed"] f_moved 2)(C_with_more:Cal P w K mg base "with_more" ["row","place","many"] f_with_more 1):CalX P w K mg base "deed_done" ["canal","stand","deed"] f_deed_done 5:=by
 have Sc:=sc_deed_done
 refine calx_of ["canal","stand","deed","word","number","levels","rights","lefts"] 4 b_deed_done rfl d Sc fun f cdv A outer s H E XQ hr L=>?_
 conv=>arg 3; whnf
 refine GSs.h ?_
 exact(gss_cons (gs_asg (gv 2 v22_0) (gg_tup rfl (ggs_cons (ggn 3 Sc.nd l22_2) (ggs_cons (ggn 4 Sc.nd l22_1) ggs_nil))))
  (gss_cons (gs_if (gt_eq hr.units (gv 3 v22_3) ge_str)
  (gss_cons (gs_expr (gownX T.xt.xns L C_check_let hr (gl g22_7) p_check_let (ga_cons (gv 0 v22_6) (ga_cons (gv 1 v22_5) (ga_cons (gv 4 v22_4) ga_nil se_Name) se_Name) se_Name)))
  (gss_one (gs_ret (ge_tup (ga_cons (gown C_let_down hr (gl g22_8) p_let_down (ga_cons (gv 0 v22_6) (ga_cons (gv 1 v22_5) (ga_cons (gv 4 v22_4) ga_nil se_Name) se_Name) se_Name)) (ga_cons ge_int (ga_cons ge_int ga_nil se_Constant) se_Constant) se_Call)))))
  gss_nil)
  (gss_cons (gs_if (gt_eq hr.units (gv 3 v22_3) ge_str)
  (gss_cons (gs_expr (gownX T.xt.xns L C_check_feed hr (gl g22_9) p_check_feed (ga_cons (gv 0 v22_6) (ga_cons (gv 1 v22_5) (ga_cons (gv 4 v22_4) ga_nil se_Name) se_Name) se_Name)))
  (gss_cons (gs_asg (gv 1 v22_5) (gg_tup rfl (ggs_cons (ggn 5 Sc.nd l22_12) (ggs_cons (ggn 6 Sc.nd l22_11) (ggs_cons (ggn 7 Sc.nd l22_10) ggs_nil)))))
  (gss_one (gs_ret (ge_tup (ga_cons (ge_tup (ga_cons (gown C_with_more hr (gl g22_16) p_with_more (ga_cons (gv 5 v22_15) (ga_cons (gv 4 v22_4) (ga_cons ge_int ga_nil se_Constant) se_Name) se_Name)) (ga_cons (gv 6 v22_14) (ga_cons (gv 7 v22_13) ga_nil se_Name) se_Name) se_Call)) (ga_cons (ge_get (ge_get (ge_get (gv 0 v22_6) ge_int) (gv 4 v22_4)) ge_int) (ga_cons ge_int ga_nil se_Constant) se_Subscript) se_Tuple))))))
  gss_nil)
  (gss_cons (gs_expr (gownX T.xt.xns L C_check_move hr (gl g22_17) p_check_move (ga_cons (gv 0 v22_6) (ga_cons (gv 1 v22_5) (ga_cons (gv 2 v22_0) ga_nil se_Name) se_Name) se_Name)))
  (gss_one (gs_ret (ge_tup (ga_cons (gown C_moved hr (gl g22_19) p_moved (ga_cons (gv 1 v22_5) (ga_cons (gv 2 v22_0) ga_nil se_Name) se_Name)) (ga_cons ge_int (ga_cons (ge_ifx (gt_val (gown C_is_last_move hr (gl g22_18) p_is_last_move (ga_cons (gv 0 v22_6) (ga_cons (gv 2 v22_0) ga_nil se_Name) se_Name))) ge_int ge_int) ga_nil se_IfExp) se_Constant) se_Call))))))))
def b_with_waiting:Sv:=(sq (sa (vr 0) (gt (gcons (gn 1) (gcons (gn 2) (gcons (gn 3) gnil))) 3))
  (sret (tp (ac (vr 1) (ac (o2 addD (tp (ac (cn (.int 1)) an)) (sl2 (vr 2) (osome (cn (.int 1))) onone)) (ac (o2 addD (sl2 (vr 3) onone (osome (o1 negD (cn (.int 1))))) (tp (ac (cn (.int 1)) an))) an))))))
def f_with_waiting:Fn:=fnB 4 b_with_waiting
theorem sc_with_waiting:FnScope ["stand","levels","rights","lefts"] ["stand"] (defScope st_with_waiting):=⟨rfl,rfl,rfl,by decide +kernel,rfl,by decide +kernel,by decide +kernel⟩
abbrev z23:=defScope st_with_waiting
theorem l23_1:OkL z23 "lefts":=⟨by decide +kernel⟩
theorem l23_3:OkL z23 "levels":=⟨by decide +kernel⟩
theorem l23_2:OkL z23 "rights":=⟨by decide +kernel⟩
theorem v23_4:OkV z23 "lefts":=⟨by decide +kernel⟩
theorem v23_6:OkV z23 "levels":=⟨by decide +kernel⟩
theorem v23_5:OkV z23 "rights":=⟨by decide +kernel⟩
theorem v23_0:OkV z23 "stand":=⟨by decide +kernel⟩
set_option maxHeartbeats 4000000 in
theorem cal_with_waiting(T:Txt K mg)(d:Dn K mg "with_waiting" st_with_waiting ["stand"]):Cal P w K mg base "with_waiting" ["stand"] f_with_waiting 1:=by
 have Sc:=sc_with_waiting
 refine cal_of ["stand","levels","rights","lefts"] 0 b_with_waiting rfl d Sc fun f cdv A outer s H E hr=>?_
 conv=>arg 3; whnf
 refine GSs.h ?_
 exact(gss_cons (gs_asg (gv 0 v23_0) (gg_tup rfl (ggs_cons (ggn 1 Sc.nd l23_3) (ggs_cons (ggn 2 Sc.nd l23_2) (ggs_cons (ggn 3 Sc.nd l23_1) ggs_nil)))))
  (gss_one (gs_ret (ge_tup (ga_cons (gv 1 v23_6) (ga_cons (ge_add (ge_tup (ga_cons ge_int ga_nil se_Constant)) (ge_slice2 (gv 2 v23_5) (go_some ge_int) go_none)) (ga_cons (ge_add (ge_slice2 (gv 3 v23_4) go_none (go_some (ge_neg ge_int))) (ge_tup (ga_cons ge_int ga_nil se_Constant))) ga_nil se_BinOp) se_BinOp) se_Name)))))
def b_without_ends:Sv:=(sq (sa (vr 0) (gt (gcons (gn 1) (gcons (gn 2) (gcons (gn 3) gnil))) 3))
  (sret (tp (ac (vr 1) (ac (o2 addD (o2 addD (tp (ac (cn (.int 0)) an)) (sl2 (vr 2) (osome (cn (.int 1))) (osome (o1 negD (cn (.int 1)))))) (tp (ac (cn (.int 0)) an))) (ac (o2 addD (o2 addD (tp (ac (cn (.int 0)) an)) (sl2 (vr 3) (osome (cn (.int 1))) (osome (o1 negD (cn (.int 1)))))) (tp (ac (cn (.int 0)) an))) an))))))
def f_without_ends:Fn:=fnB 4 b_without_ends
theorem sc_without_ends:FnScope ["stand","levels","rights","lefts"] ["stand"] (defScope st_without_ends):=⟨rfl,rfl,rfl,by decide +kernel,rfl,by decide +kernel,by decide +kernel⟩
abbrev z24:=defScope st_without_ends
theorem l24_1:OkL z24 "lefts":=⟨by decide +kernel⟩
theorem l24_3:OkL z24 "levels":=⟨by decide +kernel⟩
theorem l24_2:OkL z24 "rights":=⟨by decide +kernel⟩
theorem v24_4:OkV z24 "lefts":=⟨by decide +kernel⟩
theorem v24_6:OkV z24 "levels":=⟨by decide +kernel⟩
theorem v24_5:OkV z24 "rights":=⟨by decide +kernel⟩
theorem v24_0:OkV z24 "stand":=⟨by decide +kernel⟩
set_option maxHeartbeats 4000000 in
theorem cal_without_ends(T:Txt K mg)(d:Dn K mg "without_ends" st_without_ends ["stand"]):Cal P w K mg base "without_ends" ["stand"] f_without_ends 1:=by
 have Sc:=sc_without_ends
 refine cal_of ["stand","levels","rights","lefts"] 0 b_without_ends rfl d Sc fun f cdv A outer s H E hr=>?_
 conv=>arg 3; whnf
 refine GSs.h ?_
 exact(gss_cons (gs_asg (gv 0 v24_0) (gg_tup rfl (ggs_cons (ggn 1 Sc.nd l24_3) (ggs_cons (ggn 2 Sc.nd l24_2) (ggs_cons (ggn 3 Sc.nd l24_1) ggs_nil)))))
  (gss_one (gs_ret (ge_tup (ga_cons (gv 1 v24_6) (ga_cons (ge_add (ge_add (ge_tup (ga_cons ge_int ga_nil se_Constant)) (ge_slice2 (gv 2 v24_5) (go_some ge_int) (go_some (ge_neg ge_int)))) (ge_tup (ga_cons ge_int ga_nil se_Constant))) (ga_cons (ge_add (ge_add (ge_tup (ga_cons ge_int ga_nil se_Constant)) (ge_slice2 (gv 3 v24_4) (go_some ge_int) (go_some (ge_neg ge_int)))) (ge_tup (ga_cons ge_int ga_nil se_Constant))) ga_nil se_BinOp) se_BinOp) se_Name)))))
def b_open_done:Sv:=(sq (sa (cl 3 (gX ys f_deed_done) (ac (vr 0) (ac (cl 1 (noExc f_with_waiting) (ac (vr 1) an)) (ac (vr 2) an)))) (gt (gcons (gn 3) (gcons (gn 4) (gcons (gn 5) gnil))) 3))
  (sret (tp (ac (cl 1 (noExc f_without_ends) (ac (vr 3) an)) (ac (vr 4) (ac (vr 5) an))))))
def f_open_done:Fn:=fnB 6 b_open_done
theorem sc_open_done:FnScope ["canal","stand","deed","behind","price","gain"] ["canal","stand","deed"] (defScope st_open_done):=⟨rfl,rfl,rfl,by decide +kernel,rfl,by decide +kernel,by decide +kernel⟩
abbrev z25:=defScope st_open_done
theorem g25_4:OkG z25 "deed_done":=⟨by decide +kernel⟩
theorem g25_2:OkG z25 "with_waiting":=⟨by decide +kernel⟩
theorem g25_11:OkG z25 "without_ends":=⟨by decide +kernel⟩
theorem l25_7:OkL z25 "behind":=⟨by decide +kernel⟩
theorem l25_5:OkL z25 "gain":=⟨by decide +kernel⟩
theorem l25_6:OkL z25 "price":=⟨by decide +kernel⟩
theorem v25_10:OkV z25 "behind":=⟨by decide +kernel⟩
theorem v25_3:OkV z25 "canal":=⟨by decide +kernel⟩
theorem v25_0:OkV z25 "deed":=⟨by decide +kernel⟩
theorem v25_8:OkV z25 "gain":=⟨by decide +kernel⟩
theorem v25_9:OkV z25 "price":=⟨by decide +kernel⟩
theorem v25_1:OkV z25 "stand":=⟨by decide +kernel⟩
theorem p_deed_done:plainN "deed_done"=true:=by decide +kernel
theorem p_with_waiting:plainN "with_waiting"=true:=by decide +kernel
theorem p_without_ends:plainN "without_ends"=true:=by decide +kernel
set_option maxHeartbeats 4000000 in
theorem cal_open_done(T:Txt K mg)(d:Dn K mg "open_done" st_open_done ["canal","stand","deed"])(C_deed_done:CalX P w K mg base "deed_done" ["canal","stand","deed"] f_deed_done 5)(C_with_waiting:Cal P w K mg base "with_waiting" ["stand"] f_with_waiting 1)(C_without_ends:Cal P w K mg base "without_ends" ["stand"] f_without_ends 1):CalX P w K mg base "open_done" ["canal","stand","deed"] f_open_done 6:=by
 have Sc:=sc_open_done
 refine calx_of ["canal","stand","deed","behind","price","gain"] 5 b_open_done rfl d Sc fun f cdv A outer s H E XQ hr L=>?_
 conv=>arg 3; whnf
 refine GSs.h ?_
 exact(gss_cons (gs_asg (gownX T.xt.xns L C_deed_done hr (gl g25_4) p_deed_done (ga_cons (gv 0 v25_3) (ga_cons (gown C_with_waiting hr (gl g25_2) p_with_waiting (ga_cons (gv 1 v25_1) ga_nil se_Name)) (ga_cons (gv 2 v25_0) ga_nil se_Name) se_Call) se_Name)) (gg_tup rfl (ggs_cons (ggn 3 Sc.nd l25_7) (ggs_cons (ggn 4 Sc.nd l25_6) (ggs_cons (ggn 5 Sc.nd l25_5) ggs_nil)))))
  (gss_one (gs_ret (ge_tup (ga_cons (gown C_without_ends hr (gl g25_11) p_without_ends (ga_cons (gv 3 v25_10) ga_nil se_Name)) (ga_cons (gv 4 v25_9) (ga_cons (gv 5 v25_8) ga_nil se_Name) se_Name) se_Call)))))
def tb_row_by_1:Sv:=(sa (orE (clv 3 "deed_done" 3 (gX ys f_deed_done) (ac (vr 0) (ac (vr 4) (ac (vr 8) an)))) (clv 3 "open_done" 3 (gX ys f_open_done) (ac (vr 0) (ac (vr 4) (ac (vr 8) an))))) (gt (gcons (gn 4) (gcons (gn 9) (gcons (gn 10) gnil))) 3))
def th_row_by_1:Sv:=sbad
def lb_row_by_2:Sv:=(sq (stryG ys (hdl0 th_row_by_1) tb_row_by_1)
  (sq (sag 5 (fun a b=>a+b) (vr 9))
  (sag 6 (fun a b=>a+b) (vr 10))))
def b_row_by:Sv:=(sq (sa (vr 1) (gn 4))
  (sq (sa (cn (.int 0)) (gn 5))
  (sq (sa (cn (.int 0)) (gn 6))
  (sq (sfor (ienumL (ac (vr 2) an)) (gt (gcons (gn 7) (gcons (gn 8) gnil)) 2) lb_row_by_2)
  (sret (tp (ac (vr 4) (ac (vr 5) (ac (vr 6) an)))))))))
def f_row_by:Fn:=fnB 11 b_row_by
theorem sc_row_by:FnScope ["canal","stand","deeds","done","behind","price","gain","at","deed","paid","gained"] ["canal","stand","deeds","done"] (defScope st_row_by):=⟨rfl,rfl,rfl,by decide +kernel,rfl,by decide +kernel,by decide +kernel⟩
abbrev z26:=defScope st_row_by
theorem g26_14:OkG z26 "SummitError":=⟨by decide +kernel⟩
theorem g26_5:OkG z26 "enumerate":=⟨by decide +kernel⟩
theorem l26_7:OkL z26 "at":=⟨by decide +kernel⟩
theorem l26_1:OkL z26 "behind":=⟨by decide +kernel⟩
theorem l26_6:OkL z26 "deed":=⟨by decide +kernel⟩
theorem l26_3:OkL z26 "gain":=⟨by decide +kernel⟩
theorem l26_12:OkL z26 "gained":=⟨by decide +kernel⟩
theorem l26_13:OkL z26 "paid":=⟨by decide +kernel⟩
theorem l26_2:OkL z26 "price":=⟨by decide +kernel⟩
theorem v26_10:OkV z26 "behind":=⟨by decide +kernel⟩
theorem v26_11:OkV z26 "canal":=⟨by decide +kernel⟩
theorem v26_9:OkV z26 "deed":=⟨by decide +kernel⟩
theorem v26_4:OkV z26 "deeds":=⟨by decide +kernel⟩
theorem v26_8:OkV z26 "done":=⟨by decide +kernel⟩
theorem v26_17:OkV z26 "gain":=⟨by decide +kernel⟩
theorem v26_16:OkV z26 "gained":=⟨by decide +kernel⟩
theorem v26_15:OkV z26 "paid":=⟨by decide +kernel⟩
theorem v26_18:OkV z26 "price":=⟨by decide +kernel⟩
theorem v26_0:OkV z26 "stand":=⟨by decide +kernel⟩
theorem p_SummitError:plainN "SummitError"=true:=by decide +kernel
set_option maxHeartbeats 4000000 in
theorem cal_row_by(T:Txt K mg)(d:Dn K mg "row_by" st_row_by ["canal","stand","deeds","done"])(C_deed_done:CalX P w K mg base "deed_done" ["canal","stand","deed"] f_deed_done 5)(C_open_done:CalX P w K mg base "open_done" ["canal","stand","deed"] f_open_done 6):CalX P w K mg base "row_by" ["canal","stand","deeds","done"] f_row_by 7:=by
 have Sc:=sc_row_by
 refine calx_of ["canal","stand","deeds","done","behind","price","gain","at","deed","paid","gained"] 6 b_row_by rfl d Sc fun f cdv A outer s H E XQ hr L=>?_
 conv=>arg 3; whnf
 refine GSs.h ?_
 exact(gss_cons (gset 4 Sc.nd l26_1 (gv 1 v26_0))
  (gss_cons (gset 5 Sc.nd l26_2 ge_int)
  (gss_cons (gset 6 Sc.nd l26_3 ge_int)
  (gss_cons (gs_for L.pas rfl (gi_enumL (gl g26_5) T.b_enumerate (ga_cons (gv 2 v26_4) ga_nil se_Name)) (gg_tup rfl (ggs_cons (ggn 7 Sc.nd l26_7) (ggs_cons (ggn 8 Sc.nd l26_6) ggs_nil)))
  (gss_cons (gs_try0 ⟨rfl,rfl,rfl⟩ T.xt.cat (gl g26_14) p_SummitError (fun pn xe XQ L=>(gss_one (gs_asg (ge_orE (ge_callV 3 T.xt.xns L C_deed_done hr (by decide) rfl (okV.vis v26_8.h).1 (okV.vis v26_8.h).2 (ga_cons (gv 0 v26_11) (ga_cons (gv 4 v26_10) (ga_cons (gv 8 v26_9) ga_nil se_Name) se_Name) se_Name)) (ge_callV 3 T.xt.xns L C_open_done hr (by decide) rfl (okV.vis v26_8.h).1 (okV.vis v26_8.h).2 (ga_cons (gv 0 v26_11) (ga_cons (gv 4 v26_10) (ga_cons (gv 8 v26_9) ga_nil se_Name) se_Name) se_Name))) (gg_tup rfl (ggs_cons (ggn 4 Sc.nd l26_1) (ggs_cons (ggn 9 Sc.nd l26_13) (ggs_cons (ggn 10 Sc.nd l26_12) ggs_nil)))))))
  (fun a=>(gss_one gs_bad)))
  (gss_cons (gs_inc 5 Sc.nd l26_2 (gv 9 v26_15))
  (gss_one (gs_inc 6 Sc.nd l26_3 (gv 10 v26_16))))))
  (gss_one (gs_ret (ge_tup (ga_cons (gv 4 v26_10) (ga_cons (gv 5 v26_18) (ga_cons (gv 6 v26_17) ga_nil se_Name) se_Name) se_Name))))))))
def b_row_done:Sv:=(sret (cl 4 (gX ys f_row_by) (ac (vr 0) (ac (vr 1) (ac (vr 2) (ac (cn (.fv "deed_done")) an))))))
def f_row_done:Fn:=fnB 3 b_row_done
theorem sc_row_done:FnScope ["canal","stand","deeds"] ["canal","stand","deeds"] (defScope st_row_done):=⟨rfl,rfl,rfl,by decide +kernel,rfl,by decide +kernel,by decide +kernel⟩
abbrev z27:=defScope st_row_done
theorem g27_0:OkG z27 "deed_done":=⟨by decide +kernel⟩
theorem g27_4:OkG z27 "row_by":=⟨by decide +kernel⟩
theorem v27_3:OkV z27 "canal":=⟨by decide +kernel⟩
theorem v27_1:OkV z27 "deeds":=⟨by decide +kernel⟩
theorem v27_2:OkV z27 "stand":=⟨by decide +kernel⟩
theorem p_row_by:plainN "row_by"=true:=by decide +kernel
set_option maxHeartbeats 4000000 in
theorem cal_row_done(T:Txt K mg)(d:Dn K mg "row_done" st_row_done ["canal","stand","deeds"])(C_row_by:CalX P w K mg base "row_by" ["canal","stand","deeds","done"] f_row_by 7):CalX P w K mg base "row_done" ["canal","stand","deeds"] f_row_done 8:=by
 have Sc:=sc_row_done
 refine calx_of ["canal","stand","deeds"] 7 b_row_done rfl d Sc fun f cdv A outer s H E XQ hr L=>?_
 conv=>arg 3; whnf
 refine GSs.h ?_
 exact(gss_one (gs_ret (gownX T.xt.xns L C_row_by hr (gl g27_4) p_row_by (ga_cons (gv 0 v27_3) (ga_cons (gv 1 v27_2) (ga_cons (gv 2 v27_1) (ga_cons (ge_fv1 T.fv_deed_done (gl g27_0) p_deed_done) ga_nil se_Name) se_Name) se_Name) se_Name))))
def lb_water_1:Sv:=(sif (tb (o2 eqD (vr 7) (cn (.str "feed"))))
  (sag 5 (fun a b=>a+b) (cn (.int 1)))
  (sif (ta (tb (o2 eqD (vr 7) (cn (.str "let")))) (tb (o2 eqD (o2 getD (vr 3) (cl 2 (noExc f_higher) (ac (vr 0) (ac (vr 8) an)))) (cn c_END))))
  (sag 4 (fun a b=>a+b) (cn (.int 1)))
  (sif (ta (tb (o2 eqD (vr 7) (cn (.str "let")))) (tb (o2 eqD (o2 getD (vr 3) (cl 2 (noExc f_lower) (ac (vr 0) (ac (vr 8) an)))) (cn c_END))))
  (sag 6 (fun a b=>a+b) (cn (.int 1)))
  skip)))
def b_water:Sv:=(sq (sx (cl 3 (gX ys f_row_done) (ac (vr 0) (ac (vr 1) (ac (vr 2) an)))))
  (sq (sa (o2 getD (vr 0) (cn (.int 0))) (gn 3))
  (sq (sa (cn (.int 0)) (gn 4))
  (sq (sa (cn (.int 0)) (gn 5))
  (sq (sa (cn (.int 0)) (gn 6))
  (sq (sfor (isrc (vr 2)) (gt (gcons (gn 7) (gcons (gn 8) gnil)) 2) lb_water_1)
  (sret (tp (ac (vr 4) (ac (vr 5) (ac (vr 6) an)))))))))))
def f_water:Fn:=fnB 9 b_water
theorem sc_water:FnScope ["canal","stand","deeds","places","came","fed","went","word","number"] ["canal","stand","deeds"] (defScope st_water):=⟨rfl,rfl,rfl,by decide +kernel,rfl,by decide +kernel,by decide +kernel⟩
abbrev z28:=defScope st_water
theorem g28_14:OkG z28 "END":=⟨by decide +kernel⟩
theorem g28_13:OkG z28 "higher":=⟨by decide +kernel⟩
theorem g28_15:OkG z28 "lower":=⟨by decide +kernel⟩
theorem g28_3:OkG z28 "row_done":=⟨by decide +kernel⟩
theorem l28_5:OkL z28 "came":=⟨by decide +kernel⟩
theorem l28_6:OkL z28 "fed":=⟨by decide +kernel⟩
theorem l28_8:OkL z28 "number":=⟨by decide +kernel⟩
theorem l28_4:OkL z28 "places":=⟨by decide +kernel⟩
theorem l28_7:OkL z28 "went":=⟨by decide +kernel⟩
theorem l28_9:OkL z28 "word":=⟨by decide +kernel⟩
theorem v28_18:OkV z28 "came":=⟨by decide +kernel⟩
theorem v28_2:OkV z28 "canal":=⟨by decide +kernel⟩
theorem v28_0:OkV z28 "deeds":=⟨by decide +kernel⟩
theorem v28_17:OkV z28 "fed":=⟨by decide +kernel⟩
theorem v28_12:OkV z28 "number":=⟨by decide +kernel⟩
theorem v28_11:OkV z28 "places":=⟨by decide +kernel⟩
theorem v28_1:OkV z28 "stand":=⟨by decide +kernel⟩
theorem v28_16:OkV z28 "went":=⟨by decide +kernel⟩
theorem v28_10:OkV z28 "word":=⟨by decide +kernel⟩
theorem p_row_done:plainN "row_done"=true:=by decide +kernel
set_option maxHeartbeats 4000000 in
theorem cal_water(T:Txt K mg)(d:Dn K mg "water" st_water ["canal","stand","deeds"])(C_higher:Cal P w K mg base "higher" ["canal","gate"] f_higher 1)(C_lower:Cal P w K mg base "lower" ["canal","gate"] f_lower 1)(C_row_done:CalX P w K mg base "row_done" ["canal","stand","deeds"] f_row_done 8):CalX P w K mg base "water" ["canal","stand","deeds"] f_water 9:=by
 have Sc:=sc_water
 refine calx_of ["canal","stand","deeds","places","came","fed","went","word","number"] 8 b_water rfl d Sc fun f cdv A outer s H E XQ hr L=>?_
 conv=>arg 3; whnf
 refine GSs.h ?_
 exact(gss_cons (gs_expr (gownX T.xt.xns L C_row_done hr (gl g28_3) p_row_done (ga_cons (gv 0 v28_2) (ga_cons (gv 1 v28_1) (ga_cons (gv 2 v28_0) ga_nil se_Name) se_Name) se_Name)))
  (gss_cons (gset 3 Sc.nd l28_4 (ge_get (gv 0 v28_2) ge_int))
  (gss_cons (gset 4 Sc.nd l28_5 ge_int)
  (gss_cons (gset 5 Sc.nd l28_6 ge_int)
  (gss_cons (gset 6 Sc.nd l28_7 ge_int)
  (gss_cons (gs_for L.pas rfl (gi_seq (gv 2 v28_0)) (gg_tup rfl (ggs_cons (ggn 7 Sc.nd l28_9) (ggs_cons (ggn 8 Sc.nd l28_8) ggs_nil)))
  (gss_one (gs_if (gt_eq hr.units (gv 7 v28_10) ge_str)
  (gss_one (gs_inc 5 Sc.nd l28_6 ge_int))
  (gss_one (gs_if (GW.jt (gw_and (gt_eq hr.units (gv 7 v28_10) ge_str) (gw_and1 (gt_eq hr.units (ge_get (gv 3 v28_11) (gown C_higher hr (gl g28_13) p_higher (ga_cons (gv 0 v28_2) (ga_cons (gv 8 v28_12) ga_nil se_Name) se_Name))) (T.c_END (gl g28_14))))))
  (gss_one (gs_inc 4 Sc.nd l28_5 ge_int))
  (gss_one (gs_if (GW.jt (gw_and (gt_eq hr.units (gv 7 v28_10) ge_str) (gw_and1 (gt_eq hr.units (ge_get (gv 3 v28_11) (gown C_lower hr (gl g28_15) p_lower (ga_cons (gv 0 v28_2) (ga_cons (gv 8 v28_12) ga_nil se_Name) se_Name))) (T.c_END (gl g28_14))))))
  (gss_one (gs_inc 6 Sc.nd l28_7 ge_int))
  gss_nil)))))))
  (gss_one (gs_ret (ge_tup (ga_cons (gv 4 v28_18) (ga_cons (gv 5 v28_17) (ga_cons (gv 6 v28_16) ga_nil se_Name) se_Name) se_Name))))))))))
def b_open_row:Sv:=(sret (cl 4 (gX ys f_row_by) (ac (vr 0) (ac (vr 1) (ac (vr 2) (ac (cn (.fv "open_done")) an))))))
def f_open_row:Fn:=fnB 3 b_open_row
theorem sc_open_row:FnScope ["canal","stand","deeds"] ["canal","stand","deeds"] (defScope st_open_row):=⟨rfl,rfl,rfl,by decide +kernel,rfl,by decide +kernel,by decide +kernel⟩
abbrev z29:=defScope st_open_row
theorem g29_0:OkG z29 "open_done":=⟨by decide +kernel⟩
theorem g29_4:OkG z29 "row_by":=⟨by decide +kernel⟩
theorem v29_3:OkV z29 "canal":=⟨by decide +kernel⟩
theorem v29_1:OkV z29 "deeds":=⟨by decide +kernel⟩
theorem v29_2:OkV z29 "stand":=⟨by decide +kernel⟩
theorem p_open_done:plainN "open_done"=true:=by decide +kernel
set_option maxHeartbeats 4000000 in
theorem cal_open_row(T:Txt K mg)(d:Dn K mg "open_row" st_open_row ["canal","stand","deeds"])(C_row_by:CalX P w K mg base "row_by" ["canal","stand","deeds","done"] f_row_by 7):CalX P w K mg base "open_row" ["canal","stand","deeds"] f_open_row 8:=by
 have Sc:=sc_open_row
 refine calx_of ["canal","stand","deeds"] 7 b_open_row rfl d Sc fun f cdv A outer s H E XQ hr L=>?_
 conv=>arg 3; whnf
 refine GSs.h ?_
 exact(gss_one (gs_ret (gownX T.xt.xns L C_row_by hr (gl g29_4) p_row_by (ga_cons (gv 0 v29_3) (ga_cons (gv 1 v29_2) (ga_cons (gv 2 v29_1) (ga_cons (ge_fv1 T.fv_open_done (gl g29_0) p_open_done) ga_nil se_Name) se_Name) se_Name) se_Name))))
def b__law_tape:Sv:=(sret (ls (ac (b1 listD (ac (sl2 (vr 0) onone (osome (cn (.int 63)))) an)) (ac (cn (.int 0)) (ac (cn (.int 0)) an)))))
def f__law_tape:Fn:=fnB 1 b__law_tape
theorem sc__law_tape:FnScope ["_law_script"] ["_law_script"] (defScope st__law_tape):=⟨rfl,rfl,rfl,by decide +kernel,rfl,by decide +kernel,by decide +kernel⟩
abbrev z30:=defScope st__law_tape
theorem g30_1:OkG z30 "list":=⟨by decide +kernel⟩
theorem v30_0:OkV z30 "_law_script":=⟨by decide +kernel⟩
set_option maxHeartbeats 4000000 in
theorem cal__law_tape(T:Txt K mg)(d:Dn K mg "_law_tape" st__law_tape ["_law_script"]):Cal P w K mg base "_law_tape" ["_law_script"] f__law_tape 1:=by
 have Sc:=sc__law_tape
 refine cal_of ["_law_script"] 0 b__law_tape rfl d Sc fun f cdv A outer s H E hr=>?_
 conv=>arg 3; whnf
 refine GSs.h ?_
 exact(gss_one (gs_ret (ge_lst (ga_cons (ge_list (gl g30_1) T.b_list (ga_cons (ge_slice2 (gv 0 v30_0) go_none (go_some ge_int)) ga_nil se_Subscript)) (ga_cons ge_int (ga_cons ge_int ga_nil se_Constant) se_Constant) se_Call))))
def b__law_draw:Sv:=(sq (sif (tb (o2 gtD (o2 getD (vr 0) (cn (.int 2))) (cn (.int 0))))
  (sq (sa (o2 modD (o2 getD (vr 0) (cn (.int 2))) (vr 1)) (gn 2))
  (sq (ss (o2 divD2 (o2 getD (vr 0) (cn (.int 2))) (vr 1)) (vr 0) (cn (.int 2)) setD)
  (sret (vr 2))))
  skip)
  (sq (sa (o2 getD (vr 0) (cn (.int 1))) (gn 3))
  (sq (ss (o2 addD (vr 3) (cn (.int 1))) (vr 0) (cn (.int 1)) setD)
  (sq (sa (cn (.int 0)) (gn 4))
  (sq (sif (tb (o2 gtD (b1 lenD (ac (o2 getD (vr 0) (cn (.int 0))) an)) (cn (.int 0))))
  (sa (o2 getD (o2 getD (vr 0) (cn (.int 0))) (o2 modD (vr 3) (b1 lenD (ac (o2 getD (vr 0) (cn (.int 0))) an)))) (gn 4))
  skip)
  (sq (sif (ta (tb (o2 ltD (vr 3) (b1 lenD (ac (o2 getD (vr 0) (cn (.int 0))) an)))) (tb (o2 geD (vr 4) (o2 powD (cn (.int 10)) (cn (.int 18))))))
  (sq (ss (o2 divD2 (vr 4) (vr 1)) (vr 0) (cn (.int 2)) setD)
  (sret (o2 modD (vr 4) (vr 1))))
  skip)
  (sq (sa (o2 modD (o2 mulD (o2 addD (o2 modD (vr 4) (cn (.int 1000003))) (cn (.int 1))) (o2 addD (o2 addD (o2 mulD (o2 mulD (cn (.int 7919)) (vr 3)) (vr 3)) (o2 mulD (cn (.int 104729)) (vr 3))) (cn (.int 12345)))) (cn (.int 2147483647))) (gn 5))
  (sq (sa (o2 modD (o2 addD (o2 addD (o2 mulD (vr 5) (vr 5)) (o2 mulD (cn (.int 48271)) (vr 3))) (o2 modD (vr 4) (cn (.int 65537)))) (cn (.int 2147483629))) (gn 5))
  (sret (o2 modD (o2 divD2 (vr 5) (cn (.int 8))) (vr 1)))))))))))
def f__law_draw:Fn:=fnB 6 b__law_draw
theorem sc__law_draw:FnScope ["_law_tape_here","_law_many","_law_digit","_law_at","_law_cell","_law_mixed"] ["_law_tape_here","_law_many"] (defScope st__law_draw):=⟨rfl,rfl,rfl,by decide +kernel,rfl,by decide +kernel,by decide +kernel⟩
abbrev z31:=defScope st__law_draw
theorem g31_7:OkG z31 "len":=⟨by decide +kernel⟩
theorem l31_4:OkL z31 "_law_at":=⟨by decide +kernel⟩
theorem l31_6:OkL z31 "_law_cell":=⟨by decide +kernel⟩
theorem l31_2:OkL z31 "_law_digit":=⟨by decide +kernel⟩
theorem l31_9:OkL z31 "_law_mixed":=⟨by decide +kernel⟩
theorem v31_5:OkV z31 "_law_at":=⟨by decide +kernel⟩
theorem v31_8:OkV z31 "_law_cell":=⟨by decide +kernel⟩
theorem v31_3:OkV z31 "_law_digit":=⟨by decide +kernel⟩
theorem v31_1:OkV z31 "_law_many":=⟨by decide +kernel⟩
theorem v31_10:OkV z31 "_law_mixed":=⟨by decide +kernel⟩
theorem v31_0:OkV z31 "_law_tape_here":=⟨by decide +kernel⟩
set_option maxHeartbeats 4000000 in
theorem cal__law_draw(T:Txt K mg)(d:Dn K mg "_law_draw" st__law_draw ["_law_tape_here","_law_many"]):Cal P w K mg base "_law_draw" ["_law_tape_here","_law_many"] f__law_draw 1:=by
 have Sc:=sc__law_draw
 refine cal_of ["_law_tape_here","_law_many","_law_digit","_law_at","_law_cell","_law_mixed"] 0 b__law_draw rfl d Sc fun f cdv A outer s H E hr=>?_
 conv=>arg 3; whnf
 refine GSs.h ?_
 exact(gss_cons (gs_if (gt_gt (ge_get (gv 0 v31_0) ge_int) ge_int)
  (gss_cons (gset 2 Sc.nd l31_2 (ge_mod (ge_get (gv 0 v31_0) ge_int) (gv 1 v31_1)))
  (gss_cons (gs_setix (ge_div2 (ge_get (gv 0 v31_0) ge_int) (gv 1 v31_1)) (gv 0 v31_0) ge_int)
  (gss_one (gs_ret (gv 2 v31_3)))))
  gss_nil)
  (gss_cons (gset 3 Sc.nd l31_4 (ge_get (gv 0 v31_0) ge_int))
  (gss_cons (gs_setix (ge_add (gv 3 v31_5) ge_int) (gv 0 v31_0) ge_int)
  (gss_cons (gset 4 Sc.nd l31_6 ge_int)
  (gss_cons (gs_if (gt_gt (ge_len (gl g31_7) T.b_len (ga_cons (ge_get (gv 0 v31_0) ge_int) ga_nil se_Subscript)) ge_int)
  (gss_one (gset 4 Sc.nd l31_6 (ge_get (ge_get (gv 0 v31_0) ge_int) (ge_mod (gv 3 v31_5) (ge_len (gl g31_7) T.b_len (ga_cons (ge_get (gv 0 v31_0) ge_int) ga_nil se_Subscript))))))
  gss_nil)
  (gss_cons (gs_if (GW.jt (gw_and (gt_lt (gv 3 v31_5) (ge_len (gl g31_7) T.b_len (ga_cons (ge_get (gv 0 v31_0) ge_int) ga_nil se_Subscript))) (gw_and1 (gt_ge (gv 4 v31_8) (ge_pow ge_int ge_int)))))
  (gss_cons (gs_setix (ge_div2 (gv 4 v31_8) (gv 1 v31_1)) (gv 0 v31_0) ge_int)
  (gss_one (gs_ret (ge_mod (gv 4 v31_8) (gv 1 v31_1)))))
  gss_nil)
  (gss_cons (gset 5 Sc.nd l31_9 (ge_mod (ge_mul (ge_add (ge_mod (gv 4 v31_8) ge_int) ge_int) (ge_add (ge_add (ge_mul (ge_mul ge_int (gv 3 v31_5)) (gv 3 v31_5)) (ge_mul ge_int (gv 3 v31_5))) ge_int)) ge_int))
  (gss_cons (gset 5 Sc.nd l31_9 (ge_mod (ge_add (ge_add (ge_mul (gv 5 v31_10) (gv 5 v31_10)) (ge_mul ge_int (gv 3 v31_5))) (ge_mod (gv 4 v31_8) ge_int)) ge_int))
  (gss_one (gs_ret (ge_mod (ge_div2 (gv 5 v31_10) ge_int) (gv 1 v31_1))))))))))))
def b__law_pound:Sv:=(sq (sa (o2 getD (ls (ac (cn (.int 1)) (ac (cn (.int 2)) (ac (cn (.int 3)) (ac (o2 addD (cn (.int 1)) (cl 2 (noExc f__law_draw) (ac (vr 0) (ac (cn (.int 9)) an)))) an))))) (cl 2 (noExc f__law_draw) (ac (vr 0) (ac (cn (.int 4)) an)))) (gn 1))
  (sq (sa (b1 minD (ac (vr 1) (ac (o2 getD (ls (ac (cn (.int 0)) (ac (cn (.int 0)) (ac (cn (.int 1)) (ac (cl 2 (noExc f__law_draw) (ac (vr 0) (ac (cn (.int 10)) an))) an))))) (cl 2 (noExc f__law_draw) (ac (vr 0) (ac (cn (.int 4)) an)))) an))) (gn 2))
  (sq (sa (o2 getD (ls (ac (cn (.int 1)) (ac (cn (.int 2)) (ac (o2 addD (cn (.int 1)) (cl 2 (noExc f__law_draw) (ac (vr 0) (ac (cn (.int 4)) an)))) an)))) (cl 2 (noExc f__law_draw) (ac (vr 0) (ac (cn (.int 3)) an)))) (gn 3))
  (sq (sa (o2 getD (ls (ac (cn .non) (ac (cl 2 (noExc f__law_draw) (ac (vr 0) (ac (cn (.int 100)) an))) (ac (o2 addD (cn (.int 1)) (cl 2 (noExc f__law_draw) (ac (vr 0) (ac (cn (.int 5)) an)))) (ac (cn (.int 0)) an))))) (cl 2 (noExc f__law_draw) (ac (vr 0) (ac (cn (.int 4)) an)))) (gn 4))
  (sret (tp (ac (cn (.str "pound")) (ac (vr 1) (ac (vr 2) (ac (vr 3) (ac (vr 4) an)))))))))))
def f__law_pound:Fn:=fnB 5 b__law_pound
theorem sc__law_pound:FnScope ["_law_tape_here","_law_brim","_law_deep","_law_room","_law_price"] ["_law_tape_here"] (defScope st__law_pound):=⟨rfl,rfl,rfl,by decide +kernel,rfl,by decide +kernel,by decide +kernel⟩
abbrev z32:=defScope st__law_pound
theorem g32_1:OkG z32 "_law_draw":=⟨by decide +kernel⟩
theorem g32_4:OkG z32 "min":=⟨by decide +kernel⟩
theorem l32_2:OkL z32 "_law_brim":=⟨by decide +kernel⟩
theorem l32_5:OkL z32 "_law_deep":=⟨by decide +kernel⟩
theorem l32_7:OkL z32 "_law_price":=⟨by decide +kernel⟩
theorem l32_6:OkL z32 "_law_room":=⟨by decide +kernel⟩
theorem v32_3:OkV z32 "_law_brim":=⟨by decide +kernel⟩
theorem v32_10:OkV z32 "_law_deep":=⟨by decide +kernel⟩
theorem v32_8:OkV z32 "_law_price":=⟨by decide +kernel⟩
theorem v32_9:OkV z32 "_law_room":=⟨by decide +kernel⟩
theorem v32_0:OkV z32 "_law_tape_here":=⟨by decide +kernel⟩
theorem p__law_draw:plainN "_law_draw"=true:=by decide +kernel
set_option maxHeartbeats 4000000 in
theorem cal__law_pound(T:Txt K mg)(d:Dn K mg "_law_pound" st__law_pound ["_law_tape_here"])(C__law_draw:Cal P w K mg base "_law_draw" ["_law_tape_here","_law_many"] f__law_draw 1):Cal P w K mg base "_law_pound" ["_law_tape_here"] f__law_pound 2:=by
 have Sc:=sc__law_pound
 refine cal_of ["_law_tape_here","_law_brim","_law_deep","_law_room","_law_price"] 1 b__law_pound rfl d Sc fun f cdv A outer s H E hr=>?_
 conv=>arg 3; whnf
 refine GSs.h ?_
 exact(gss_cons (gset 1 Sc.nd l32_2 (ge_get (ge_lst (ga_cons ge_int (ga_cons ge_int (ga_cons ge_int (ga_cons (ge_add ge_int (gown C__law_draw hr (gl g32_1) p__law_draw (ga_cons (gv 0 v32_0) (ga_cons ge_int ga_nil se_Constant) se_Name))) ga_nil se_BinOp) se_Constant) se_Constant) se_Constant)) (gown C__law_draw hr (gl g32_1) p__law_draw (ga_cons (gv 0 v32_0) (ga_cons ge_int ga_nil se_Constant) se_Name))))
  (gss_cons (gset 2 Sc.nd l32_5 (ge_min rfl (gl g32_4) T.b_min (ga_cons (gv 1 v32_3) (ga_cons (ge_get (ge_lst (ga_cons ge_int (ga_cons ge_int (ga_cons ge_int (ga_cons (gown C__law_draw hr (gl g32_1) p__law_draw (ga_cons (gv 0 v32_0) (ga_cons ge_int ga_nil se_Constant) se_Name)) ga_nil se_Call) se_Constant) se_Constant) se_Constant)) (gown C__law_draw hr (gl g32_1) p__law_draw (ga_cons (gv 0 v32_0) (ga_cons ge_int ga_nil se_Constant) se_Name))) ga_nil se_Subscript) se_Name)))
  (gss_cons (gset 3 Sc.nd l32_6 (ge_get (ge_lst (ga_cons ge_int (ga_cons ge_int (ga_cons (ge_add ge_int (gown C__law_draw hr (gl g32_1) p__law_draw (ga_cons (gv 0 v32_0) (ga_cons ge_int ga_nil se_Constant) se_Name))) ga_nil se_BinOp) se_Constant) se_Constant)) (gown C__law_draw hr (gl g32_1) p__law_draw (ga_cons (gv 0 v32_0) (ga_cons ge_int ga_nil se_Constant) se_Name))))
  (gss_cons (gset 4 Sc.nd l32_7 (ge_get (ge_lst (ga_cons ge_non (ga_cons (gown C__law_draw hr (gl g32_1) p__law_draw (ga_cons (gv 0 v32_0) (ga_cons ge_int ga_nil se_Constant) se_Name)) (ga_cons (ge_add ge_int (gown C__law_draw hr (gl g32_1) p__law_draw (ga_cons (gv 0 v32_0) (ga_cons ge_int ga_nil se_Constant) se_Name))) (ga_cons ge_int ga_nil se_Constant) se_BinOp) se_Call) se_Constant)) (gown C__law_draw hr (gl g32_1) p__law_draw (ga_cons (gv 0 v32_0) (ga_cons ge_int ga_nil se_Constant) se_Name))))
  (gss_one (gs_ret (ge_tup (ga_cons ge_str (ga_cons (gv 1 v32_3) (ga_cons (gv 2 v32_10) (ga_cons (gv 3 v32_9) (ga_cons (gv 4 v32_8) ga_nil se_Name) se_Name) se_Name) se_Name) se_Constant))))))))
def lb__law_canal_1:Sv:=(sq (sa (va (o2 ltD (cn (.int 0)) (vr 4)) (va (o2 ltD (vr 4) (o2 subD (vr 2) (cn (.int 1)))) (o2 eqD (o2 getD (vr 3) (o1 negD (cn (.int 1)))) (tp (ac (cn (.str "chamber")) an))))) (gn 5))
  (sif (ta (tt (vr 5)) (tb (o2 gtD (cl 2 (noExc f__law_draw) (ac (vr 0) (ac (cn (.int 4)) an))) (cn (.int 0)))))
  (sx (mt appD (vr 3) (ac (cl 1 (noExc f__law_pound) (ac (vr 0) an)) an)))
  (sx (mt appD (vr 3) (ac (tp (ac (cn (.str "chamber")) an)) an)))))
def b__law_canal:Sv:=(sq (sa (o2 addD (cn (.int 1)) (cl 2 (noExc f__law_draw) (ac (vr 0) (ac (vr 1) an)))) (gn 2))
  (sq (sa (ls (ac (tp (ac (cn (.str "end")) an)) an)) (gn 3))
  (sq (sfor (ir1 (ac (vr 2) an)) (gn 4) lb__law_canal_1)
  (sq (sa (o2 addD (cn (.int 1)) (cl 2 (noExc f__law_draw) (ac (vr 0) (ac (vr 2) an)))) (gn 6))
  (sq (sa (o2 addD (o2 mulD (ls (ac (cn (.str "up")) an)) (vr 6)) (o2 mulD (ls (ac (cn (.str "down")) an)) (o2 subD (o2 addD (vr 2) (cn (.int 1))) (vr 6)))) (gn 7))
  (sq (sif (tb (o2 eqD (cl 2 (noExc f__law_draw) (ac (vr 0) (ac (cn (.int 3)) an))) (cn (.int 0))))
  (sa (cmp (ir1 (ac (o2 addD (vr 2) (cn (.int 1))) an)) [none,some 0] (gn 0) ttrue (o2 getD (ls (ac (cn (.str "up")) (ac (cn (.str "down")) an))) (cl 2 (noExc f__law_draw) (ac (vr 1) (ac (cn (.int 2)) an))))) (gn 7))
  skip)
  (sret (tp (ac (b1 tupD (ac (o2 addD (vr 3) (ls (ac (tp (ac (cn (.str "end")) an)) an))) an)) (ac (b1 tupD (ac (vr 7) an)) an))))))))))
def f__law_canal:Fn:=fnB 8 b__law_canal
theorem sc__law_canal:FnScope ["_law_tape_here","_law_most","_law_many","_law_places","_law_k","_law_amid","_law_top","_law_gates"] ["_law_tape_here","_law_most"] (defScope st__law_canal):=⟨rfl,rfl,rfl,by decide +kernel,rfl,by decide +kernel,by decide +kernel⟩
abbrev z33:=defScope st__law_canal
theorem g33_2:OkG z33 "_law_draw":=⟨by decide +kernel⟩
theorem g33_12:OkG z33 "_law_pound":=⟨by decide +kernel⟩
theorem g33_6:OkG z33 "range":=⟨by decide +kernel⟩
theorem g33_17:OkG z33 "tuple":=⟨by decide +kernel⟩
theorem l33_10:OkL z33 "_law_amid":=⟨by decide +kernel⟩
theorem l33_15:OkL z33 "_law_gates":=⟨by decide +kernel⟩
theorem l33_7:OkL z33 "_law_k":=⟨by decide +kernel⟩
theorem l33_3:OkL z33 "_law_many":=⟨by decide +kernel⟩
theorem l33_4:OkL z33 "_law_places":=⟨by decide +kernel⟩
theorem l33_13:OkL z33 "_law_top":=⟨by decide +kernel⟩
theorem v33_11:OkV z33 "_law_amid":=⟨by decide +kernel⟩
theorem v33_16:OkV z33 "_law_gates":=⟨by decide +kernel⟩
theorem v33_8:OkV z33 "_law_k":=⟨by decide +kernel⟩
theorem v33_5:OkV z33 "_law_many":=⟨by decide +kernel⟩
theorem v33_0:OkV z33 "_law_most":=⟨by decide +kernel⟩
theorem v33_9:OkV z33 "_law_places":=⟨by decide +kernel⟩
theorem v33_1:OkV z33 "_law_tape_here":=⟨by decide +kernel⟩
theorem v33_14:OkV z33 "_law_top":=⟨by decide +kernel⟩
theorem p__law_pound:plainN "_law_pound"=true:=by decide +kernel
set_option maxHeartbeats 4000000 in
theorem cal__law_canal(T:Txt K mg)(d:Dn K mg "_law_canal" st__law_canal ["_law_tape_here","_law_most"])(C__law_draw:Cal P w K mg base "_law_draw" ["_law_tape_here","_law_many"] f__law_draw 1)(C__law_pound:Cal P w K mg base "_law_pound" ["_law_tape_here"] f__law_pound 2):Cal P w K mg base "_law_canal" ["_law_tape_here","_law_most"] f__law_canal 3:=by
 have Sc:=sc__law_canal
 refine cal_of ["_law_tape_here","_law_most","_law_many","_law_places","_law_k","_law_amid","_law_top","_law_gates"] 2 b__law_canal rfl d Sc fun f cdv A outer s H E hr=>?_
 conv=>arg 3; whnf
 refine GSs.h ?_
 exact(gss_cons (gset 2 Sc.nd l33_3 (ge_add ge_int (gown C__law_draw hr (gl g33_2) p__law_draw (ga_cons (gv 0 v33_1) (ga_cons (gv 1 v33_0) ga_nil se_Name) se_Name))))
  (gss_cons (gset 3 Sc.nd l33_4 (ge_lst (ga_cons (ge_tup (ga_cons ge_str ga_nil se_Constant)) ga_nil se_Tuple)))
  (gss_cons (gs_for PassesOwn.never rfl (gi_range1 (gl g33_6) T.b_range (ga_cons (gv 2 v33_5) ga_nil se_Name)) (ggn 4 Sc.nd l33_7)
  (gss_cons (gset 5 Sc.nd l33_10 (ge_and (ge_lt ge_int (gv 4 v33_8)) (ge_and (ge_lt (gv 4 v33_8) (ge_sub (gv 2 v33_5) ge_int)) (ge_one (ge_eq hr.units (ge_get (gv 3 v33_9) (ge_neg ge_int)) (ge_tup (ga_cons ge_str ga_nil se_Constant)))))))
  (gss_one (gs_if (GW.jt (gw_and (gt_val (gv 5 v33_11)) (gw_and1 (gt_gt (gown C__law_draw hr (gl g33_2) p__law_draw (ga_cons (gv 0 v33_1) (ga_cons ge_int ga_nil se_Constant) se_Name)) ge_int))))
  (gss_one (gs_expr (ge_append (gv 3 v33_9) (ga_cons (gown C__law_pound hr (gl g33_12) p__law_pound (ga_cons (gv 0 v33_1) ga_nil se_Name)) ga_nil se_Call))))
  (gss_one (gs_expr (ge_append (gv 3 v33_9) (ga_cons (ge_tup (ga_cons ge_str ga_nil se_Constant)) ga_nil se_Tuple))))))))
  (gss_cons (gset 6 Sc.nd l33_13 (ge_add ge_int (gown C__law_draw hr (gl g33_2) p__law_draw (ga_cons (gv 0 v33_1) (ga_cons (gv 2 v33_5) ga_nil se_Name) se_Name))))
  (gss_cons (gset 7 Sc.nd l33_15 (ge_add (ge_mul (ge_lst (ga_cons ge_str ga_nil se_Constant)) (gv 6 v33_14)) (ge_mul (ge_lst (ga_cons ge_str ga_nil se_Constant)) (ge_sub (ge_add (gv 2 v33_5) ge_int) (gv 6 v33_14)))))
  (gss_cons (gs_if (gt_eq hr.units (gown C__law_draw hr (gl g33_2) p__law_draw (ga_cons (gv 0 v33_1) (ga_cons ge_int ga_nil se_Constant) se_Name)) ge_int)
  (gss_one (gsetComp 7 (sc:=defScope st__law_canal) (N:=["_law_tape_here","_law_most","_law_many","_law_places","_law_k","_law_amid","_law_top","_law_gates"]) rfl rfl (N':=["_law_k","_law_tape_here"]) (pk:=[none,some 0]) ⟨rfl,by decide +kernel,by decide +kernel,by decide +kernel,rfl,by decide +kernel⟩ rfl (gi_range1 (gl g33_6) T.b_range (ga_cons (ge_add (gv 2 v33_5) ge_int) ga_nil se_BinOp)) (fun cl s2 H2 C fp=>(ggnB 0 (by decide +kernel) (by decide +kernel))) (fun cl s2 H2 C fp=>gts_nil) (fun cl s2 H2 C fp=>(ge_get (ge_lst (ga_cons ge_str (ga_cons ge_str ga_nil se_Constant) se_Constant)) (gown C__law_draw hr (glB (by decide +kernel)) p__law_draw (ga_cons (gvB 1 (by decide +kernel)) (ga_cons ge_int ga_nil se_Constant) se_Name)))) Sc.nd l33_15 (by rfl)))
  gss_nil)
  (gss_one (gs_ret (ge_tup (ga_cons (ge_tuple (gl g33_17) T.b_tuple (ga_cons (ge_add (gv 3 v33_9) (ge_lst (ga_cons (ge_tup (ga_cons ge_str ga_nil se_Constant)) ga_nil se_Tuple))) ga_nil se_BinOp)) (ga_cons (ge_tuple (gl g33_17) T.b_tuple (ga_cons (gv 7 v33_16) ga_nil se_Name)) ga_nil se_Call) se_Call))))))))))
def lb__law_stand_1:Sv:=(sq (sa (cn (.int 0)) (gn 5))
  (sq (sa (cl 2 (noExc f__law_draw) (ac (vr 0) (ac (o2 addD (vr 2) (cn (.int 1))) an))) (gn 6))
  (sq (sa (cl 2 (noExc f__law_draw) (ac (vr 0) (ac (o2 addD (vr 2) (cn (.int 1))) an))) (gn 7))
  (sq (sif (tb (o2 eqD (o2 getD (vr 4) (cn (.int 0))) (cn (.str "chamber"))))
  (sq (sa (cl 2 (noExc f__law_draw) (ac (vr 0) (ac (cn (.int 2)) an))) (gn 5))
  (sq (sa (cl 2 (noExc f__law_draw) (ac (vr 0) (ac (cn (.int 4)) an))) (gn 8))
  (sq (sa (b1 intD (ac (o2 eqD (vr 8) (cn (.int 1))) an)) (gn 6))
  (sa (b1 intD (ac (o2 eqD (vr 8) (cn (.int 2))) an)) (gn 7)))))
  skip)
  (sq (sif (tb (o2 eqD (o2 getD (vr 4) (cn (.int 0))) (cn (.str "pound"))))
  (sq (sa (o2 getD (ls (ac (cn (.int 0)) (ac (o2 getD (vr 4) (cn (.int 1))) (ac (cl 2 (noExc f__law_draw) (ac (vr 0) (ac (o2 addD (o2 getD (vr 4) (cn (.int 1))) (cn (.int 1))) an))) an)))) (cl 2 (noExc f__law_draw) (ac (vr 0) (ac (cn (.int 3)) an)))) (gn 5))
  (sq (sa (cl 2 (noExc f__law_draw) (ac (vr 0) (ac (o2 addD (o2 getD (vr 4) (cn (.int 3))) (cn (.int 1))) an))) (gn 6))
  (sa (cl 2 (noExc f__law_draw) (ac (vr 0) (ac (o2 addD (o2 subD (o2 getD (vr 4) (cn (.int 3))) (vr 6)) (cn (.int 1))) an))) (gn 7))))
  skip)
  (sq (sx (mt appD (o2 getD (vr 3) (cn (.int 0))) (ac (vr 5) an)))
  (sq (sx (mt appD (o2 getD (vr 3) (cn (.int 1))) (ac (vr 6) an)))
  (sx (mt appD (o2 getD (vr 3) (cn (.int 2))) (ac (vr 7) an))))))))))
def b__law_stand:Sv:=(sq (sa (ls (ac (ls an) (ac (ls an) (ac (ls an) an)))) (gn 3))
  (sq (sfor (isrc (o2 getD (vr 1) (cn (.int 0)))) (gn 4) lb__law_stand_1)
  (sret (tp (ac (b1 tupD (ac (o2 getD (vr 3) (cn (.int 0))) an)) (ac (b1 tupD (ac (o2 getD (vr 3) (cn (.int 1))) an)) (ac (b1 tupD (ac (o2 getD (vr 3) (cn (.int 2))) an)) an)))))))
def f__law_stand:Fn:=fnB 9 b__law_stand
theorem sc__law_stand:FnScope ["_law_tape_here","_law_canal_here","_law_crowd","_law_rows","_law_place","_law_level","_law_rights","_law_lefts","_law_way"] ["_law_tape_here","_law_canal_here","_law_crowd"] (defScope st__law_stand):=⟨rfl,rfl,rfl,by decide +kernel,rfl,by decide +kernel,by decide +kernel⟩
abbrev z34:=defScope st__law_stand
theorem g34_6:OkG z34 "_law_draw":=⟨by decide +kernel⟩
theorem g34_12:OkG z34 "int":=⟨by decide +kernel⟩
theorem g34_17:OkG z34 "tuple":=⟨by decide +kernel⟩
theorem l34_8:OkL z34 "_law_lefts":=⟨by decide +kernel⟩
theorem l34_3:OkL z34 "_law_level":=⟨by decide +kernel⟩
theorem l34_2:OkL z34 "_law_place":=⟨by decide +kernel⟩
theorem l34_7:OkL z34 "_law_rights":=⟨by decide +kernel⟩
theorem l34_0:OkL z34 "_law_rows":=⟨by decide +kernel⟩
theorem l34_10:OkL z34 "_law_way":=⟨by decide +kernel⟩
theorem v34_1:OkV z34 "_law_canal_here":=⟨by decide +kernel⟩
theorem v34_4:OkV z34 "_law_crowd":=⟨by decide +kernel⟩
theorem v34_16:OkV z34 "_law_lefts":=⟨by decide +kernel⟩
theorem v34_15:OkV z34 "_law_level":=⟨by decide +kernel⟩
theorem v34_9:OkV z34 "_law_place":=⟨by decide +kernel⟩
theorem v34_13:OkV z34 "_law_rights":=⟨by decide +kernel⟩
theorem v34_14:OkV z34 "_law_rows":=⟨by decide +kernel⟩
theorem v34_5:OkV z34 "_law_tape_here":=⟨by decide +kernel⟩
theorem v34_11:OkV z34 "_law_way":=⟨by decide +kernel⟩
set_option maxHeartbeats 4000000 in
theorem cal__law_stand(T:Txt K mg)(d:Dn K mg "_law_stand" st__law_stand ["_law_tape_here","_law_canal_here","_law_crowd"])(C__law_draw:Cal P w K mg base "_law_draw" ["_law_tape_here","_law_many"] f__law_draw 1):Cal P w K mg base "_law_stand" ["_law_tape_here","_law_canal_here","_law_crowd"] f__law_stand 2:=by
 have Sc:=sc__law_stand
 refine cal_of ["_law_tape_here","_law_canal_here","_law_crowd","_law_rows","_law_place","_law_level","_law_rights","_law_lefts","_law_way"] 1 b__law_stand rfl d Sc fun f cdv A outer s H E hr=>?_
 conv=>arg 3; whnf
 refine GSs.h ?_
 exact(gss_cons (gset 3 Sc.nd l34_0 (ge_lst (ga_cons (ge_lst ga_nil) (ga_cons (ge_lst ga_nil) (ga_cons (ge_lst ga_nil) ga_nil se_List) se_List) se_List)))
  (gss_cons (gs_for PassesOwn.never rfl (gi_seq (ge_get (gv 1 v34_1) ge_int)) (ggn 4 Sc.nd l34_2)
  (gss_cons (gset 5 Sc.nd l34_3 ge_int)
  (gss_cons (gset 6 Sc.nd l34_7 (gown C__law_draw hr (gl g34_6) p__law_draw (ga_cons (gv 0 v34_5) (ga_cons (ge_add (gv 2 v34_4) ge_int) ga_nil se_BinOp) se_Name)))
  (gss_cons (gset 7 Sc.nd l34_8 (gown C__law_draw hr (gl g34_6) p__law_draw (ga_cons (gv 0 v34_5) (ga_cons (ge_add (gv 2 v34_4) ge_int) ga_nil se_BinOp) se_Name)))
  (gss_cons (gs_if (gt_eq hr.units (ge_get (gv 4 v34_9) ge_int) ge_str)
  (gss_cons (gset 5 Sc.nd l34_3 (gown C__law_draw hr (gl g34_6) p__law_draw (ga_cons (gv 0 v34_5) (ga_cons ge_int ga_nil se_Constant) se_Name)))
  (gss_cons (gset 8 Sc.nd l34_10 (gown C__law_draw hr (gl g34_6) p__law_draw (ga_cons (gv 0 v34_5) (ga_cons ge_int ga_nil se_Constant) se_Name)))
  (gss_cons (gset 6 Sc.nd l34_7 (ge_intc (gl g34_12) T.b_int (ga_cons (ge_eq hr.units (gv 8 v34_11) ge_int) ga_nil se_Compare)))
  (gss_one (gset 7 Sc.nd l34_8 (ge_intc (gl g34_12) T.b_int (ga_cons (ge_eq hr.units (gv 8 v34_11) ge_int) ga_nil se_Compare)))))))
  gss_nil)
  (gss_cons (gs_if (gt_eq hr.units (ge_get (gv 4 v34_9) ge_int) ge_str)
  (gss_cons (gset 5 Sc.nd l34_3 (ge_get (ge_lst (ga_cons ge_int (ga_cons (ge_get (gv 4 v34_9) ge_int) (ga_cons (gown C__law_draw hr (gl g34_6) p__law_draw (ga_cons (gv 0 v34_5) (ga_cons (ge_add (ge_get (gv 4 v34_9) ge_int) ge_int) ga_nil se_BinOp) se_Name)) ga_nil se_Call) se_Subscript) se_Constant)) (gown C__law_draw hr (gl g34_6) p__law_draw (ga_cons (gv 0 v34_5) (ga_cons ge_int ga_nil se_Constant) se_Name))))
  (gss_cons (gset 6 Sc.nd l34_7 (gown C__law_draw hr (gl g34_6) p__law_draw (ga_cons (gv 0 v34_5) (ga_cons (ge_add (ge_get (gv 4 v34_9) ge_int) ge_int) ga_nil se_BinOp) se_Name)))
  (gss_one (gset 7 Sc.nd l34_8 (gown C__law_draw hr (gl g34_6) p__law_draw (ga_cons (gv 0 v34_5) (ga_cons (ge_add (ge_sub (ge_get (gv 4 v34_9) ge_int) (gv 6 v34_13)) ge_int) ga_nil se_BinOp) se_Name))))))
  gss_nil)
  (gss_cons (gs_expr (ge_append (ge_get (gv 3 v34_14) ge_int) (ga_cons (gv 5 v34_15) ga_nil se_Name)))
  (gss_cons (gs_expr (ge_append (ge_get (gv 3 v34_14) ge_int) (ga_cons (gv 6 v34_13) ga_nil se_Name)))
  (gss_one (gs_expr (ge_append (ge_get (gv 3 v34_14) ge_int) (ga_cons (gv 7 v34_16) ga_nil se_Name))))))))))))
  (gss_one (gs_ret (ge_tup (ga_cons (ge_tuple (gl g34_17) T.b_tuple (ga_cons (ge_get (gv 3 v34_14) ge_int) ga_nil se_Subscript)) (ga_cons (ge_tuple (gl g34_17) T.b_tuple (ga_cons (ge_get (gv 3 v34_14) ge_int) ga_nil se_Subscript)) (ga_cons (ge_tuple (gl g34_17) T.b_tuple (ga_cons (ge_get (gv 3 v34_14) ge_int) ga_nil se_Subscript)) ga_nil se_Call) se_Call) se_Call))))))
def lb__law_gone_1:Sv:=(sif (ta (tb (o2 eqD (o2 getD (o2 getD (vr 5) (vr 13)) (cn (.int 0))) (cn (.str "pound")))) (tb (o2 ltD (o2 getD (o2 getD (vr 8) (cn (.int 0))) (vr 13)) (o2 getD (o2 getD (vr 5) (vr 13)) (cn (.int 2))))))
  (sret (cn (.str "shallow")))
  skip)
def b__law_gone:Sv:=(sq (sa (o2 getD (vr 0) (cn (.int 0))) (gn 5))
  (sq (sa (vr 2) (gt (gcons (gn 6) (gcons (gn 7) gnil)) 2))
  (sq (sa (cmp (isrc (vr 1)) [none] (gn 0) ttrue (b1 listD (ac (vr 0) an))) (gn 8))
  (sq (sa (o2 getD (ls (ac (cn (.int 2)) (ac (cn (.int 1)) an))) (b1 intD (ac (o2 eqD (vr 6) (cn (.str "right"))) an))) (gn 9))
  (sq (sa (o2 addD (vr 7) (b1 intD (ac (o2 eqD (vr 6) (cn (.str "left"))) an))) (gn 10))
  (sq (sa (o2 subD (o2 addD (o2 mulD (cn (.int 2)) (vr 7)) (cn (.int 1))) (vr 10)) (gn 11))
  (sq (sif (tb (o2 eqD (o2 getD (o2 getD (vr 8) (vr 9)) (vr 10)) (cn (.int 0))))
  (sret (cn (.str "nobarge")))
  skip)
  (sq (sa (o2 addD (o2 getD (o2 getD (vr 8) (cn (.int 1))) (vr 11)) (o2 getD (o2 getD (vr 8) (cn (.int 2))) (vr 11))) (gn 12))
  (sq (sif (ta (tb (o2 eqD (o2 getD (o2 getD (vr 5) (vr 11)) (cn (.int 0))) (cn (.str "chamber")))) (tb (o2 gtD (vr 12) (cn (.int 0)))))
  (sret (cn (.str "noroom")))
  skip)
  (sq (sif (ta (tb (o2 eqD (o2 getD (o2 getD (vr 5) (vr 11)) (cn (.int 0))) (cn (.str "pound")))) (tb (o2 geD (vr 12) (o2 getD (o2 getD (vr 5) (vr 11)) (cn (.int 3))))))
  (sret (cn (.str "noroom")))
  skip)
  (sq (sif (ta (tb (o2 eqD (o2 getD (o2 getD (vr 5) (vr 3)) (cn (.int 0))) (cn (.str "chamber")))) (tb (o2 gtD (o2 getD (o2 getD (vr 8) (cn (.int 0))) (vr 3)) (cn (.int 0)))))
  (sret (cn (.str "uneven")))
  skip)
  (sq (sif (ta (tb (o2 eqD (o2 getD (o2 getD (vr 5) (vr 4)) (cn (.int 0))) (cn (.str "chamber")))) (tb (o2 eqD (o2 getD (o2 getD (vr 8) (cn (.int 0))) (vr 4)) (cn (.int 0)))))
  (sret (cn (.str "uneven")))
  skip)
  (sq (sfor (isrc (ls (ac (vr 3) (ac (vr 4) an)))) (gn 13) lb__law_gone_1)
  (sq (ss (o2 subD (o2 getD (o2 getD (vr 8) (vr 9)) (vr 10)) (cn (.int 1))) (o2 getD (vr 8) (vr 9)) (vr 10) setD)
  (sq (ss (o2 addD (o2 getD (o2 getD (vr 8) (vr 9)) (vr 11)) (cn (.int 1))) (o2 getD (vr 8) (vr 9)) (vr 11) setD)
  (sq (sa (b1 intD (ac (o2 eqD (vr 11) (o2 getD (ls (ac (cn (.int 0)) (ac (o2 subD (b1 lenD (ac (vr 5) an)) (cn (.int 1))) an))) (b1 intD (ac (o2 eqD (vr 6) (cn (.str "right"))) an)))) an)) (gn 14))
  (sret (tp (ac (tp (ac (b1 tupD (ac (o2 getD (vr 8) (cn (.int 0))) an)) (ac (b1 tupD (ac (o2 getD (vr 8) (cn (.int 1))) an)) (ac (b1 tupD (ac (o2 getD (vr 8) (cn (.int 2))) an)) an)))) (ac (cn (.int 0)) (ac (vr 14) an)))))))))))))))))))))
def f__law_gone:Fn:=fnB 15 b__law_gone
theorem sc__law_gone:FnScope ["_law_canal_here","_law_stand_here","_law_deed","_law_up","_law_down","_law_places","_law_word","_law_n","_law_rows","_law_own","_law_start","_law_goal","_law_there","_law_at","_law_gain"] ["_law_canal_here","_law_stand_here","_law_deed","_law_up","_law_down"] (defScope st__law_gone):=⟨rfl,rfl,rfl,by decide +kernel,rfl,by decide +kernel,by decide +kernel⟩
abbrev z35:=defScope st__law_gone
theorem g35_8:OkG z35 "int":=⟨by decide +kernel⟩
theorem g35_24:OkG z35 "len":=⟨by decide +kernel⟩
theorem g35_27:OkG z35 "tuple":=⟨by decide +kernel⟩
theorem l35_22:OkL z35 "_law_at":=⟨by decide +kernel⟩
theorem l35_25:OkL z35 "_law_gain":=⟨by decide +kernel⟩
theorem l35_13:OkL z35 "_law_goal":=⟨by decide +kernel⟩
theorem l35_3:OkL z35 "_law_n":=⟨by decide +kernel⟩
theorem l35_9:OkL z35 "_law_own":=⟨by decide +kernel⟩
theorem l35_1:OkL z35 "_law_places":=⟨by decide +kernel⟩
theorem l35_6:OkL z35 "_law_rows":=⟨by decide +kernel⟩
theorem l35_11:OkL z35 "_law_start":=⟨by decide +kernel⟩
theorem l35_17:OkL z35 "_law_there":=⟨by decide +kernel⟩
theorem l35_4:OkL z35 "_law_word":=⟨by decide +kernel⟩
theorem v35_23:OkV z35 "_law_at":=⟨by decide +kernel⟩
theorem v35_0:OkV z35 "_law_canal_here":=⟨by decide +kernel⟩
theorem v35_2:OkV z35 "_law_deed":=⟨by decide +kernel⟩
theorem v35_21:OkV z35 "_law_down":=⟨by decide +kernel⟩
theorem v35_26:OkV z35 "_law_gain":=⟨by decide +kernel⟩
theorem v35_16:OkV z35 "_law_goal":=⟨by decide +kernel⟩
theorem v35_10:OkV z35 "_law_n":=⟨by decide +kernel⟩
theorem v35_15:OkV z35 "_law_own":=⟨by decide +kernel⟩
theorem v35_18:OkV z35 "_law_places":=⟨by decide +kernel⟩
theorem v35_14:OkV z35 "_law_rows":=⟨by decide +kernel⟩
theorem v35_5:OkV z35 "_law_stand_here":=⟨by decide +kernel⟩
theorem v35_12:OkV z35 "_law_start":=⟨by decide +kernel⟩
theorem v35_19:OkV z35 "_law_there":=⟨by decide +kernel⟩
theorem v35_20:OkV z35 "_law_up":=⟨by decide +kernel⟩
theorem v35_7:OkV z35 "_law_word":=⟨by decide +kernel⟩
set_option maxHeartbeats 4000000 in
theorem cal__law_gone(T:Txt K mg)(d:Dn K mg "_law_gone" st__law_gone ["_law_canal_here","_law_stand_here","_law_deed","_law_up","_law_down"]):Cal P w K mg base "_law_gone" ["_law_canal_here","_law_stand_here","_law_deed","_law_up","_law_down"] f__law_gone 1:=by
 have Sc:=sc__law_gone
 refine cal_of ["_law_canal_here","_law_stand_here","_law_deed","_law_up","_law_down","_law_places","_law_word","_law_n","_law_rows","_law_own","_law_start","_law_goal","_law_there","_law_at","_law_gain"] 0 b__law_gone rfl d Sc fun f cdv A outer s H E hr=>?_
 conv=>arg 3; whnf
 refine GSs.h ?_
 exact(gss_cons (gset 5 Sc.nd l35_1 (ge_get (gv 0 v35_0) ge_int))
  (gss_cons (gs_asg (gv 2 v35_2) (gg_tup rfl (ggs_cons (ggn 6 Sc.nd l35_4) (ggs_cons (ggn 7 Sc.nd l35_3) ggs_nil))))
  (gss_cons (gsetComp 8 (sc:=defScope st__law_gone) (N:=["_law_canal_here","_law_stand_here","_law_deed","_law_up","_law_down","_law_places","_law_word","_law_n","_law_rows","_law_own","_law_start","_law_goal","_law_there","_law_at","_law_gain"]) rfl rfl (N':=["_law_row"]) (pk:=[none]) ⟨rfl,by decide +kernel,by decide +kernel,by decide +kernel,rfl,by decide +kernel⟩ rfl (gi_seq (gv 1 v35_5)) (fun cl s2 H2 C fp=>(ggnB 0 (by decide +kernel) (by decide +kernel))) (fun cl s2 H2 C fp=>gts_nil) (fun cl s2 H2 C fp=>(ge_list (glB (by decide +kernel)) T.b_list (ga_cons (gvB 0 (by decide +kernel)) ga_nil se_Name))) Sc.nd l35_6 (by rfl))
  (gss_cons (gset 9 Sc.nd l35_9 (ge_get (ge_lst (ga_cons ge_int (ga_cons ge_int ga_nil se_Constant) se_Constant)) (ge_intc (gl g35_8) T.b_int (ga_cons (ge_eq hr.units (gv 6 v35_7) ge_str) ga_nil se_Compare))))
  (gss_cons (gset 10 Sc.nd l35_11 (ge_add (gv 7 v35_10) (ge_intc (gl g35_8) T.b_int (ga_cons (ge_eq hr.units (gv 6 v35_7) ge_str) ga_nil se_Compare))))
  (gss_cons (gset 11 Sc.nd l35_13 (ge_sub (ge_add (ge_mul ge_int (gv 7 v35_10)) ge_int) (gv 10 v35_12)))
  (gss_cons (gs_if (gt_eq hr.units (ge_get (ge_get (gv 8 v35_14) (gv 9 v35_15)) (gv 10 v35_12)) ge_int)
  (gss_one (gs_ret ge_str))
  gss_nil)
  (gss_cons (gset 12 Sc.nd l35_17 (ge_add (ge_get (ge_get (gv 8 v35_14) ge_int) (gv 11 v35_16)) (ge_get (ge_get (gv 8 v35_14) ge_int) (gv 11 v35_16))))
  (gss_cons (gs_if (GW.jt (gw_and (gt_eq hr.units (ge_get (ge_get (gv 5 v35_18) (gv 11 v35_16)) ge_int) ge_str) (gw_and1 (gt_gt (gv 12 v35_19) ge_int))))
  (gss_one (gs_ret ge_str))
  gss_nil)
  (gss_cons (gs_if (GW.jt (gw_and (gt_eq hr.units (ge_get (ge_get (gv 5 v35_18) (gv 11 v35_16)) ge_int) ge_str) (gw_and1 (gt_ge (gv 12 v35_19) (ge_get (ge_get (gv 5 v35_18) (gv 11 v35_16)) ge_int)))))
  (gss_one (gs_ret ge_str))
  gss_nil)
  (gss_cons (gs_if (GW.jt (gw_and (gt_eq hr.units (ge_get (ge_get (gv 5 v35_18) (gv 3 v35_20)) ge_int) ge_str) (gw_and1 (gt_gt (ge_get (ge_get (gv 8 v35_14) ge_int) (gv 3 v35_20)) ge_int))))
  (gss_one (gs_ret ge_str))
  gss_nil)
  (gss_cons (gs_if (GW.jt (gw_and (gt_eq hr.units (ge_get (ge_get (gv 5 v35_18) (gv 4 v35_21)) ge_int) ge_str) (gw_and1 (gt_eq hr.units (ge_get (ge_get (gv 8 v35_14) ge_int) (gv 4 v35_21)) ge_int))))
  (gss_one (gs_ret ge_str))
  gss_nil)
  (gss_cons (gs_for PassesOwn.never rfl (gi_seq (ge_lst (ga_cons (gv 3 v35_20) (ga_cons (gv 4 v35_21) ga_nil se_Name) se_Name))) (ggn 13 Sc.nd l35_22)
  (gss_one (gs_if (GW.jt (gw_and (gt_eq hr.units (ge_get (ge_get (gv 5 v35_18) (gv 13 v35_23)) ge_int) ge_str) (gw_and1 (gt_lt (ge_get (ge_get (gv 8 v35_14) ge_int) (gv 13 v35_23)) (ge_get (ge_get (gv 5 v35_18) (gv 13 v35_23)) ge_int)))))
  (gss_one (gs_ret ge_str))
  gss_nil)))
  (gss_cons (gs_setix (ge_sub (ge_get (ge_get (gv 8 v35_14) (gv 9 v35_15)) (gv 10 v35_12)) ge_int) (ge_get (gv 8 v35_14) (gv 9 v35_15)) (gv 10 v35_12))
  (gss_cons (gs_setix (ge_add (ge_get (ge_get (gv 8 v35_14) (gv 9 v35_15)) (gv 11 v35_16)) ge_int) (ge_get (gv 8 v35_14) (gv 9 v35_15)) (gv 11 v35_16))
  (gss_cons (gset 14 Sc.nd l35_25 (ge_intc (gl g35_8) T.b_int (ga_cons (ge_eq hr.units (gv 11 v35_16) (ge_get (ge_lst (ga_cons ge_int (ga_cons (ge_sub (ge_len (gl g35_24) T.b_len (ga_cons (gv 5 v35_18) ga_nil se_Name)) ge_int) ga_nil se_BinOp) se_Constant)) (ge_intc (gl g35_8) T.b_int (ga_cons (ge_eq hr.units (gv 6 v35_7) ge_str) ga_nil se_Compare)))) ga_nil se_Compare)))
  (gss_one (gs_ret (ge_tup (ga_cons (ge_tup (ga_cons (ge_tuple (gl g35_27) T.b_tuple (ga_cons (ge_get (gv 8 v35_14) ge_int) ga_nil se_Subscript)) (ga_cons (ge_tuple (gl g35_27) T.b_tuple (ga_cons (ge_get (gv 8 v35_14) ge_int) ga_nil se_Subscript)) (ga_cons (ge_tuple (gl g35_27) T.b_tuple (ga_cons (ge_get (gv 8 v35_14) ge_int) ga_nil se_Subscript)) ga_nil se_Call) se_Call) se_Call)) (ga_cons ge_int (ga_cons (gv 14 v35_26) ga_nil se_Name) se_Constant) se_Tuple))))))))))))))))))))
def b__law_due:Sv:=(sq (sa (vr 0) (gt (gcons (gn 3) (gcons (gn 4) gnil)) 2))
  (sq (sa (vr 2) (gt (gcons (gn 5) (gcons (gn 6) gnil)) 2))
  (sq (sa (b1 listD (ac (o2 getD (vr 1) (cn (.int 0))) an)) (gn 7))
  (sq (sif (tb (o2 eqD (vr 5) (cn (.str "feed"))))
  (sq (sif (to (tb (o2 ltD (vr 6) (cn (.int 0)))) (to (tb (o2 geD (vr 6) (b1 lenD (ac (vr 3) an)))) (tb (o2 neD (o2 getD (o2 getD (vr 3) (vr 6)) (cn (.int 0))) (cn (.str "pound"))))))
  (sret (cn (.str "nospring")))
  skip)
  (sq (sif (tb (o2 isnD (o2 getD (o2 getD (vr 3) (vr 6)) (cn (.int 4))) (cn .non)))
  (sret (cn (.str "nospring")))
  skip)
  (sq (sif (tb (o2 eqD (o2 getD (vr 7) (vr 6)) (o2 getD (o2 getD (vr 3) (vr 6)) (cn (.int 1)))))
  (sret (cn (.str "full")))
  skip)
  (sq (ss (o2 addD (o2 getD (vr 7) (vr 6)) (cn (.int 1))) (vr 7) (vr 6) setD)
  (sret (tp (ac (tp (ac (b1 tupD (ac (vr 7) an)) (ac (o2 getD (vr 1) (cn (.int 1))) (ac (o2 getD (vr 1) (cn (.int 2))) an)))) (ac (o2 getD (o2 getD (vr 3) (vr 6)) (cn (.int 4))) (ac (cn (.int 0)) an)))))))))
  skip)
  (sq (sif (to (tb (o2 ltD (vr 6) (cn (.int 0)))) (tb (o2 geD (vr 6) (b1 lenD (ac (vr 4) an)))))
  (sret (cn (.str "nogate")))
  skip)
  (sq (sa (o2 addD (vr 6) (b1 intD (ac (o2 eqD (o2 getD (vr 4) (vr 6)) (cn (.str "up"))) an))) (gn 8))
  (sq (sa (o2 subD (o2 addD (o2 mulD (cn (.int 2)) (vr 6)) (cn (.int 1))) (vr 8)) (gn 9))
  (sq (sif (tb (o2 neD (vr 5) (cn (.str "let"))))
  (sret (cl 5 (noExc f__law_gone) (ac (vr 0) (ac (vr 1) (ac (vr 2) (ac (vr 8) (ac (vr 9) an)))))))
  skip)
  (sq (sif (tb (o2 neD (o2 getD (o2 getD (vr 3) (vr 8)) (cn (.int 0))) (cn (.str "end"))))
  (sq (sif (tb (o2 eqD (o2 getD (vr 7) (vr 8)) (cn (.int 0))))
  (sret (cn (.str "dry")))
  skip)
  (ss (o2 subD (o2 getD (vr 7) (vr 8)) (cn (.int 1))) (vr 7) (vr 8) setD))
  skip)
  (sq (sif (tb (o2 neD (o2 getD (o2 getD (vr 3) (vr 9)) (cn (.int 0))) (cn (.str "end"))))
  (sq (sif (tb (o2 eqD (o2 getD (vr 7) (vr 9)) (o2 getD (o2 addD (o2 getD (vr 3) (vr 9)) (tp (ac (cn (.int 1)) an))) (cn (.int 1)))))
  (sret (cn (.str "full")))
  skip)
  (ss (o2 addD (o2 getD (vr 7) (vr 9)) (cn (.int 1))) (vr 7) (vr 9) setD))
  skip)
  (sret (tp (ac (tp (ac (b1 tupD (ac (vr 7) an)) (ac (o2 getD (vr 1) (cn (.int 1))) (ac (o2 getD (vr 1) (cn (.int 2))) an)))) (ac (cn (.int 0)) (ac (cn (.int 0)) an)))))))))))))))
def f__law_due:Fn:=fnB 10 b__law_due
theorem sc__law_due:FnScope ["_law_canal_here","_law_stand_here","_law_deed","_law_places","_law_gates","_law_word","_law_n","_law_levels","_law_up","_law_down"] ["_law_canal_here","_law_stand_here","_law_deed"] (defScope st__law_due):=⟨rfl,rfl,rfl,by decide +kernel,rfl,by decide +kernel,by decide +kernel⟩
abbrev z36:=defScope st__law_due
theorem g36_21:OkG z36 "_law_gone":=⟨by decide +kernel⟩
theorem g36_16:OkG z36 "int":=⟨by decide +kernel⟩
theorem g36_12:OkG z36 "len":=⟨by decide +kernel⟩
theorem g36_7:OkG z36 "list":=⟨by decide +kernel⟩
theorem g36_14:OkG z36 "tuple":=⟨by decide +kernel⟩
theorem l36_19:OkL z36 "_law_down":=⟨by decide +kernel⟩
theorem l36_1:OkL z36 "_law_gates":=⟨by decide +kernel⟩
theorem l36_8:OkL z36 "_law_levels":=⟨by decide +kernel⟩
theorem l36_4:OkL z36 "_law_n":=⟨by decide +kernel⟩
theorem l36_2:OkL z36 "_law_places":=⟨by decide +kernel⟩
theorem l36_17:OkL z36 "_law_up":=⟨by decide +kernel⟩
theorem l36_5:OkL z36 "_law_word":=⟨by decide +kernel⟩
theorem v36_0:OkV z36 "_law_canal_here":=⟨by decide +kernel⟩
theorem v36_3:OkV z36 "_law_deed":=⟨by decide +kernel⟩
theorem v36_20:OkV z36 "_law_down":=⟨by decide +kernel⟩
theorem v36_15:OkV z36 "_law_gates":=⟨by decide +kernel⟩
theorem v36_13:OkV z36 "_law_levels":=⟨by decide +kernel⟩
theorem v36_10:OkV z36 "_law_n":=⟨by decide +kernel⟩
theorem v36_11:OkV z36 "_law_places":=⟨by decide +kernel⟩
theorem v36_6:OkV z36 "_law_stand_here":=⟨by decide +kernel⟩
theorem v36_18:OkV z36 "_law_up":=⟨by decide +kernel⟩
theorem v36_9:OkV z36 "_law_word":=⟨by decide +kernel⟩
theorem p__law_gone:plainN "_law_gone"=true:=by decide +kernel
set_option maxHeartbeats 4000000 in
theorem cal__law_due(T:Txt K mg)(d:Dn K mg "_law_due" st__law_due ["_law_canal_here","_law_stand_here","_law_deed"])(C__law_gone:Cal P w K mg base "_law_gone" ["_law_canal_here","_law_stand_here","_law_deed","_law_up","_law_down"] f__law_gone 1):Cal P w K mg base "_law_due" ["_law_canal_here","_law_stand_here","_law_deed"] f__law_due 2:=by
 have Sc:=sc__law_due
 refine cal_of ["_law_canal_here","_law_stand_here","_law_deed","_law_places","_law_gates","_law_word","_law_n","_law_levels","_law_up","_law_down"] 1 b__law_due rfl d Sc fun f cdv A outer s H E hr=>?_
 conv=>arg 3; whnf
 refine GSs.h ?_
 exact(gss_cons (gs_asg (gv 0 v36_0) (gg_tup rfl (ggs_cons (ggn 3 Sc.nd l36_2) (ggs_cons (ggn 4 Sc.nd l36_1) ggs_nil))))
  (gss_cons (gs_asg (gv 2 v36_3) (gg_tup rfl (ggs_cons (ggn 5 Sc.nd l36_5) (ggs_cons (ggn 6 Sc.nd l36_4) ggs_nil))))
  (gss_cons (gset 7 Sc.nd l36_8 (ge_list (gl g36_7) T.b_list (ga_cons (ge_get (gv 1 v36_6) ge_int) ga_nil se_Subscript)))
  (gss_cons (gs_if (gt_eq hr.units (gv 5 v36_9) ge_str)
  (gss_cons (gs_if (GW.jt (gw_or (gt_lt (gv 6 v36_10) ge_int) (gw_or (gt_ge (gv 6 v36_10) (ge_len (gl g36_12) T.b_len (ga_cons (gv 3 v36_11) ga_nil se_Name))) (gw_or1 (gt_ne hr.units (ge_get (ge_get (gv 3 v36_11) (gv 6 v36_10)) ge_int) ge_str)))))
  (gss_one (gs_ret ge_str))
  gss_nil)
  (gss_cons (gs_if (gt_isn (ge_get (ge_get (gv 3 v36_11) (gv 6 v36_10)) ge_int) ge_non)
  (gss_one (gs_ret ge_str))
  gss_nil)
  (gss_cons (gs_if (gt_eq hr.units (ge_get (gv 7 v36_13) (gv 6 v36_10)) (ge_get (ge_get (gv 3 v36_11) (gv 6 v36_10)) ge_int))
  (gss_one (gs_ret ge_str))
  gss_nil)
  (gss_cons (gs_setix (ge_add (ge_get (gv 7 v36_13) (gv 6 v36_10)) ge_int) (gv 7 v36_13) (gv 6 v36_10))
  (gss_one (gs_ret (ge_tup (ga_cons (ge_tup (ga_cons (ge_tuple (gl g36_14) T.b_tuple (ga_cons (gv 7 v36_13) ga_nil se_Name)) (ga_cons (ge_get (gv 1 v36_6) ge_int) (ga_cons (ge_get (gv 1 v36_6) ge_int) ga_nil se_Subscript) se_Subscript) se_Call)) (ga_cons (ge_get (ge_get (gv 3 v36_11) (gv 6 v36_10)) ge_int) (ga_cons ge_int ga_nil se_Constant) se_Subscript) se_Tuple))))))))
  gss_nil)
  (gss_cons (gs_if (GW.jt (gw_or (gt_lt (gv 6 v36_10) ge_int) (gw_or1 (gt_ge (gv 6 v36_10) (ge_len (gl g36_12) T.b_len (ga_cons (gv 4 v36_15) ga_nil se_Name))))))
  (gss_one (gs_ret ge_str))
  gss_nil)
  (gss_cons (gset 8 Sc.nd l36_17 (ge_add (gv 6 v36_10) (ge_intc (gl g36_16) T.b_int (ga_cons (ge_eq hr.units (ge_get (gv 4 v36_15) (gv 6 v36_10)) ge_str) ga_nil se_Compare))))
  (gss_cons (gset 9 Sc.nd l36_19 (ge_sub (ge_add (ge_mul ge_int (gv 6 v36_10)) ge_int) (gv 8 v36_18)))
  (gss_cons (gs_if (gt_ne hr.units (gv 5 v36_9) ge_str)
  (gss_one (gs_ret (gown C__law_gone hr (gl g36_21) p__law_gone (ga_cons (gv 0 v36_0) (ga_cons (gv 1 v36_6) (ga_cons (gv 2 v36_3) (ga_cons (gv 8 v36_18) (ga_cons (gv 9 v36_20) ga_nil se_Name) se_Name) se_Name) se_Name) se_Name))))
  gss_nil)
  (gss_cons (gs_if (gt_ne hr.units (ge_get (ge_get (gv 3 v36_11) (gv 8 v36_18)) ge_int) ge_str)
  (gss_cons (gs_if (gt_eq hr.units (ge_get (gv 7 v36_13) (gv 8 v36_18)) ge_int)
  (gss_one (gs_ret ge_str))
  gss_nil)
  (gss_one (gs_setix (ge_sub (ge_get (gv 7 v36_13) (gv 8 v36_18)) ge_int) (gv 7 v36_13) (gv 8 v36_18))))
  gss_nil)
  (gss_cons (gs_if (gt_ne hr.units (ge_get (ge_get (gv 3 v36_11) (gv 9 v36_20)) ge_int) ge_str)
  (gss_cons (gs_if (gt_eq hr.units (ge_get (gv 7 v36_13) (gv 9 v36_20)) (ge_get (ge_add (ge_get (gv 3 v36_11) (gv 9 v36_20)) (ge_tup (ga_cons ge_int ga_nil se_Constant))) ge_int))
  (gss_one (gs_ret ge_str))
  gss_nil)
  (gss_one (gs_setix (ge_add (ge_get (gv 7 v36_13) (gv 9 v36_20)) ge_int) (gv 7 v36_13) (gv 9 v36_20))))
  gss_nil)
  (gss_one (gs_ret (ge_tup (ga_cons (ge_tup (ga_cons (ge_tuple (gl g36_14) T.b_tuple (ga_cons (gv 7 v36_13) ga_nil se_Name)) (ga_cons (ge_get (gv 1 v36_6) ge_int) (ga_cons (ge_get (gv 1 v36_6) ge_int) ga_nil se_Subscript) se_Subscript) se_Call)) (ga_cons ge_int (ga_cons ge_int ga_nil se_Constant) se_Constant) se_Tuple))))))))))))))
def lb__law_can_1:Sv:=(sif (tn (tt (o1 (isD "str") (cl 3 (noExc f__law_due) (ac (vr 0) (ac (vr 1) (ac (tp (ac (vr 3) (ac (vr 4) an))) an)))))))
  (sx (mt appD (vr 2) (ac (tp (ac (vr 3) (ac (vr 4) an))) an)))
  skip)
def lb__law_can_2:Sv:=(sfor (ir1 (ac (b1 lenD (ac (o2 getD (vr 0) (cn (.int 0))) an)) an)) (gn 4) lb__law_can_1)
def b__law_can:Sv:=(sq (sa (ls an) (gn 2))
  (sq (sfor (isrc (ls (ac (cn (.str "let")) (ac (cn (.str "feed")) (ac (cn (.str "right")) (ac (cn (.str "left")) an)))))) (gn 3) lb__law_can_2)
  (sret (vr 2))))
def f__law_can:Fn:=fnB 5 b__law_can
theorem sc__law_can:FnScope ["_law_canal_here","_law_stand_here","_law_found","_law_word","_law_n"] ["_law_canal_here","_law_stand_here"] (defScope st__law_can):=⟨rfl,rfl,rfl,by decide +kernel,rfl,by decide +kernel,by decide +kernel⟩
abbrev z37:=defScope st__law_can
theorem g37_9:OkG z37 "_law_due":=⟨by decide +kernel⟩
theorem g37_10:OkG z37 "isinstance":=⟨by decide +kernel⟩
theorem g37_3:OkG z37 "len":=⟨by decide +kernel⟩
theorem g37_4:OkG z37 "range":=⟨by decide +kernel⟩
theorem g37_11:OkG z37 "str":=⟨by decide +kernel⟩
theorem l37_0:OkL z37 "_law_found":=⟨by decide +kernel⟩
theorem l37_5:OkL z37 "_law_n":=⟨by decide +kernel⟩
theorem l37_1:OkL z37 "_law_word":=⟨by decide +kernel⟩
theorem v37_2:OkV z37 "_law_canal_here":=⟨by decide +kernel⟩
theorem v37_12:OkV z37 "_law_found":=⟨by decide +kernel⟩
theorem v37_6:OkV z37 "_law_n":=⟨by decide +kernel⟩
theorem v37_8:OkV z37 "_law_stand_here":=⟨by decide +kernel⟩
theorem v37_7:OkV z37 "_law_word":=⟨by decide +kernel⟩
theorem p__law_due:plainN "_law_due"=true:=by decide +kernel
set_option maxHeartbeats 4000000 in
theorem cal__law_can(T:Txt K mg)(d:Dn K mg "_law_can" st__law_can ["_law_canal_here","_law_stand_here"])(C__law_due:Cal P w K mg base "_law_due" ["_law_canal_here","_law_stand_here","_law_deed"] f__law_due 2):Cal P w K mg base "_law_can" ["_law_canal_here","_law_stand_here"] f__law_can 3:=by
 have Sc:=sc__law_can
 refine cal_of ["_law_canal_here","_law_stand_here","_law_found","_law_word","_law_n"] 2 b__law_can rfl d Sc fun f cdv A outer s H E hr=>?_
 conv=>arg 3; whnf
 refine GSs.h ?_
 exact(gss_cons (gset 2 Sc.nd l37_0 (ge_lst ga_nil))
  (gss_cons (gs_for PassesOwn.never rfl (gi_seq (ge_lst (ga_cons ge_str (ga_cons ge_str (ga_cons ge_str (ga_cons ge_str ga_nil se_Constant) se_Constant) se_Constant) se_Constant))) (ggn 3 Sc.nd l37_1)
  (gss_one (gs_for PassesOwn.never rfl (gi_range1 (gl g37_4) T.b_range (ga_cons (ge_len (gl g37_3) T.b_len (ga_cons (ge_get (gv 0 v37_2) ge_int) ga_nil se_Subscript)) ga_nil se_Call)) (ggn 4 Sc.nd l37_5)
  (gss_one (gs_if (gt_not (gt_val (ge_isi kit_str (by rfl) (by decide +kernel) (by decide +kernel) (gl g37_10) T.b_isinstance (gl g37_11) T.b_str (gown C__law_due hr (gl g37_9) p__law_due (ga_cons (gv 0 v37_2) (ga_cons (gv 1 v37_8) (ga_cons (ge_tup (ga_cons (gv 3 v37_7) (ga_cons (gv 4 v37_6) ga_nil se_Name) se_Name)) ga_nil se_Tuple) se_Name) se_Name)) (by rfl) (by rfl) (by rfl))))
  (gss_one (gs_expr (ge_append (gv 2 v37_12) (ga_cons (ge_tup (ga_cons (gv 3 v37_7) (ga_cons (gv 4 v37_6) ga_nil se_Name) se_Name)) ga_nil se_Tuple))))
  gss_nil)))))
  (gss_one (gs_ret (gv 2 v37_12)))))
def lb__law_walk_1:Sv:=(sq (sa (cl 2 (noExc f__law_can) (ac (vr 1) (ac (vr 2) an))) (gn 6))
  (sq (sa (cmp (isrc (vr 6)) [none] (gn 0) (tb (o2 inD (o2 getD (vr 0) (cn (.int 0))) (ls (ac (cn (.str "right")) (ac (cn (.str "left")) an))))) (vr 0)) (gn 7))
  (sq (sif (ta (tb (o2 neD (vr 7) (ls an))) (tb (o2 gtD (cl 2 (noExc f__law_draw) (ac (vr 0) (ac (cn (.int 3)) an))) (cn (.int 0)))))
  (sa (vr 7) (gn 6))
  skip)
  (sif (tb (o2 neD (vr 6) (ls an)))
  (sq (sa (o2 getD (vr 6) (cl 2 (noExc f__law_draw) (ac (vr 0) (ac (b1 lenD (ac (vr 6) an)) an)))) (gn 8))
  (sq (sx (mt appD (vr 4) (ac (vr 8) an)))
  (sa (o2 getD (cl 3 (noExc f__law_due) (ac (vr 1) (ac (vr 2) (ac (vr 8) an)))) (cn (.int 0))) (gn 2))))
  skip))))
def b__law_walk:Sv:=(sq (sa (ls an) (gn 4))
  (sq (sfor (ir1 (ac (vr 3) an)) (gn 5) lb__law_walk_1)
  (sret (vr 4))))
def f__law_walk:Fn:=fnB 9 b__law_walk
theorem sc__law_walk:FnScope ["_law_tape_here","_law_canal_here","_law_stand_here","_law_many","_law_row","_law_k","_law_some","_law_going","_law_deed"] ["_law_tape_here","_law_canal_here","_law_stand_here","_law_many"] (defScope st__law_walk):=⟨rfl,rfl,rfl,by decide +kernel,rfl,by decide +kernel,by decide +kernel⟩
abbrev z38:=defScope st__law_walk
theorem g38_6:OkG z38 "_law_can":=⟨by decide +kernel⟩
theorem g38_12:OkG z38 "_law_draw":=⟨by decide +kernel⟩
theorem g38_17:OkG z38 "_law_due":=⟨by decide +kernel⟩
theorem g38_13:OkG z38 "len":=⟨by decide +kernel⟩
theorem g38_2:OkG z38 "range":=⟨by decide +kernel⟩
theorem l38_14:OkL z38 "_law_deed":=⟨by decide +kernel⟩
theorem l38_9:OkL z38 "_law_going":=⟨by decide +kernel⟩
theorem l38_3:OkL z38 "_law_k":=⟨by decide +kernel⟩
theorem l38_0:OkL z38 "_law_row":=⟨by decide +kernel⟩
theorem l38_7:OkL z38 "_law_some":=⟨by decide +kernel⟩
theorem l38_18:OkL z38 "_law_stand_here":=⟨by decide +kernel⟩
theorem v38_5:OkV z38 "_law_canal_here":=⟨by decide +kernel⟩
theorem v38_16:OkV z38 "_law_deed":=⟨by decide +kernel⟩
theorem v38_10:OkV z38 "_law_going":=⟨by decide +kernel⟩
theorem v38_1:OkV z38 "_law_many":=⟨by decide +kernel⟩
theorem v38_15:OkV z38 "_law_row":=⟨by decide +kernel⟩
theorem v38_8:OkV z38 "_law_some":=⟨by decide +kernel⟩
theorem v38_4:OkV z38 "_law_stand_here":=⟨by decide +kernel⟩
theorem v38_11:OkV z38 "_law_tape_here":=⟨by decide +kernel⟩
theorem p__law_can:plainN "_law_can"=true:=by decide +kernel
set_option maxHeartbeats 4000000 in
theorem cal__law_walk(T:Txt K mg)(d:Dn K mg "_law_walk" st__law_walk ["_law_tape_here","_law_canal_here","_law_stand_here","_law_many"])(C__law_can:Cal P w K mg base "_law_can" ["_law_canal_here","_law_stand_here"] f__law_can 3)(C__law_draw:Cal P w K mg base "_law_draw" ["_law_tape_here","_law_many"] f__law_draw 1)(C__law_due:Cal P w K mg base "_law_due" ["_law_canal_here","_law_stand_here","_law_deed"] f__law_due 2):Cal P w K mg base "_law_walk" ["_law_tape_here","_law_canal_here","_law_stand_here","_law_many"] f__law_walk 4:=by
 have Sc:=sc__law_walk
 refine cal_of ["_law_tape_here","_law_canal_here","_law_stand_here","_law_many","_law_row","_law_k","_law_some","_law_going","_law_deed"] 3 b__law_walk rfl d Sc fun f cdv A outer s H E hr=>?_
 conv=>arg 3; whnf
 refine GSs.h ?_
 exact(gss_cons (gset 4 Sc.nd l38_0 (ge_lst ga_nil))
  (gss_cons (gs_for PassesOwn.never rfl (gi_range1 (gl g38_2) T.b_range (ga_cons (gv 3 v38_1) ga_nil se_Name)) (ggn 5 Sc.nd l38_3)
  (gss_cons (gset 6 Sc.nd l38_7 (gown C__law_can hr (gl g38_6) p__law_can (ga_cons (gv 1 v38_5) (ga_cons (gv 2 v38_4) ga_nil se_Name) se_Name)))
  (gss_cons (gsetComp 7 (sc:=defScope st__law_walk) (N:=["_law_tape_here","_law_canal_here","_law_stand_here","_law_many","_law_row","_law_k","_law_some","_law_going","_law_deed"]) rfl rfl (N':=["_law_deed"]) (pk:=[none]) ⟨rfl,by decide +kernel,by decide +kernel,by decide +kernel,rfl,by decide +kernel⟩ rfl (gi_seq (gv 6 v38_8)) (fun cl s2 H2 C fp=>(ggnB 0 (by decide +kernel) (by decide +kernel))) (fun cl s2 H2 C fp=>(gts_one (gt_in (ge_get (gvB 0 (by decide +kernel)) ge_int) (ge_lst (ga_cons ge_str (ga_cons ge_str ga_nil se_Constant) se_Constant))))) (fun cl s2 H2 C fp=>(gvB 0 (by decide +kernel))) Sc.nd l38_9 (by rfl))
  (gss_cons (gs_if (GW.jt (gw_and (gt_ne hr.units (gv 7 v38_10) (ge_lst ga_nil)) (gw_and1 (gt_gt (gown C__law_draw hr (gl g38_12) p__law_draw (ga_cons (gv 0 v38_11) (ga_cons ge_int ga_nil se_Constant) se_Name)) ge_int))))
  (gss_one (gset 6 Sc.nd l38_7 (gv 7 v38_10)))
  gss_nil)
  (gss_one (gs_if (gt_ne hr.units (gv 6 v38_8) (ge_lst ga_nil))
  (gss_cons (gset 8 Sc.nd l38_14 (ge_get (gv 6 v38_8) (gown C__law_draw hr (gl g38_12) p__law_draw (ga_cons (gv 0 v38_11) (ga_cons (ge_len (gl g38_13) T.b_len (ga_cons (gv 6 v38_8) ga_nil se_Name)) ga_nil se_Call) se_Name))))
  (gss_cons (gs_expr (ge_append (gv 4 v38_15) (ga_cons (gv 8 v38_16) ga_nil se_Name)))
  (gss_one (gset 2 Sc.nd l38_18 (ge_get (gown C__law_due hr (gl g38_17) p__law_due (ga_cons (gv 1 v38_5) (ga_cons (gv 2 v38_4) (ga_cons (gv 8 v38_16) ga_nil se_Name) se_Name) se_Name)) ge_int)))))
  gss_nil))))))
  (gss_one (gs_ret (gv 4 v38_15)))))
def lb_law_1:Sv:=(sq (sa (o2 addD (vr 9) (b1 intD (ac (va (o2 eqD (vr 8) (cn (.str "let"))) (o2 eqD (o2 getD (o2 getD (vr 2) (cn (.int 1))) (vr 9)) (cn (.str "up")))) an))) (gn 10))
  (sq (sif (tb (o2 eqD (vr 8) (cn (.str "feed"))))
  (sa (o2 addD (vr 6) (cn (.int 1))) (gn 6))
  skip)
  (sq (sif (ta (tb (o2 eqD (vr 8) (cn (.str "let")))) (tb (o2 inD (vr 10) (ls (ac (cn (.int 0)) (ac (o2 subD (b1 lenD (ac (o2 getD (vr 2) (cn (.int 0))) an)) (cn (.int 1))) an))))))
  (sa (o2 addD (vr 5) (cn (.int 1))) (gn 5))
  skip)
  (sif (ta (tb (o2 eqD (vr 8) (cn (.str "let")))) (tb (o2 inD (o2 subD (o2 addD (o2 mulD (cn (.int 2)) (vr 9)) (cn (.int 1))) (vr 10)) (ls (ac (cn (.int 0)) (ac (o2 subD (b1 lenD (ac (o2 getD (vr 2) (cn (.int 0))) an)) (cn (.int 1))) an))))))
  (sa (o2 addD (vr 7) (cn (.int 1))) (gn 7))
  skip))))
def b_law:Sv:=(sq (sa (cl 1 (noExc f__law_tape) (ac (vr 0) an)) (gn 1))
  (sq (sa (cl 2 (noExc f__law_canal) (ac (vr 1) (ac (o2 getD (ls (ac (cn (.int 5)) (ac (cn (.int 5)) (ac (cn (.int 5)) (ac (cn (.int 11)) an))))) (cl 2 (noExc f__law_draw) (ac (vr 1) (ac (cn (.int 4)) an)))) an))) (gn 2))
  (sq (sa (cl 3 (noExc f__law_stand) (ac (vr 1) (ac (vr 2) (ac (cn (.int 3)) an)))) (gn 3))
  (sq (sa (cl 4 (noExc f__law_walk) (ac (vr 1) (ac (vr 2) (ac (vr 3) (ac (cl 2 (noExc f__law_draw) (ac (vr 1) (ac (cn (.int 25)) an))) an))))) (gn 4))
  (sq (sa (cn (.int 0)) (gn 5))
  (sq (sa (cn (.int 0)) (gn 6))
  (sq (sa (cn (.int 0)) (gn 7))
  (sq (sfor (isrc (vr 4)) (gt (gcons (gn 8) (gcons (gn 9) gnil)) 2) lb_law_1)
  (sq (sa (cl 3 (gX ys f_water) (ac (vr 2) (ac (vr 3) (ac (b1 listD (ac (vr 4) an)) an)))) (gn 11))
  (sq (sif (tb (o2 neD (b1 reprD (ac (vr 11) an)) (b1 reprD (ac (tp (ac (vr 5) (ac (vr 6) (ac (vr 7) an)))) an))))
  (sret (cn (.bl false)))
  skip)
  (sq (sa (o2 getD (cl 3 (gX ys f_row_done) (ac (vr 2) (ac (vr 3) (ac (b1 listD (ac (vr 4) an)) an)))) (cn (.int 0))) (gn 12))
  (sq (sif (tb (o2 neD (b1 sumD (ac (o2 getD (vr 12) (cn (.int 0))) an)) (o2 subD (o2 addD (o2 addD (b1 sumD (ac (o2 getD (vr 3) (cn (.int 0))) an)) (o2 getD (vr 11) (cn (.int 0)))) (o2 getD (vr 11) (cn (.int 1)))) (o2 getD (vr 11) (cn (.int 2))))))
  (sret (cn (.bl false)))
  skip)
  (sq (sif (tb (o2 gtD (cl 2 (noExc f__law_draw) (ac (vr 1) (ac (cn (.int 16)) an))) (cn (.int 0))))
  (sret (cn (.bl true)))
  skip)
  (sq (sa (tp (ac (tp (ac (cn (.str "end")) an)) (ac (tp (ac (cn (.str "chamber")) an)) (ac (tp (ac (cn (.str "pound")) (ac (cn (.int 2)) (ac (cn (.int 0)) (ac (cn (.int 1)) (ac (cn (.int 7)) an)))))) (ac (tp (ac (cn (.str "chamber")) an)) (ac (tp (ac (cn (.str "end")) an)) an)))))) (gn 13))
  (sq (sa (o2 mulD (tp (ac (o2 mulD (tp (ac (cn (.int 0)) an)) (cn (.int 5))) an)) (cn (.int 3))) (gn 14))
  (sq (sa (o2 addD (cn (.int 300)) (cl 2 (noExc f__law_draw) (ac (vr 1) (ac (cn (.int 1100)) an)))) (gn 15))
  (sq (sa (o2 addD (o2 mulD (ls (ac (tp (ac (cn (.str "feed")) (ac (cn (.int 2)) an))) (ac (tp (ac (cn (.str "let")) (ac (cn (.int 2)) an))) (ac (tp (ac (cn (.str "let")) (ac (cn (.int 3)) an))) an)))) (vr 15)) (ls (ac (tp (ac (cn (.str "feed")) (ac (cn (.int 2)) an))) (ac (tp (ac (cn (.str "let")) (ac (cn (.int 1)) an))) (ac (tp (ac (cn (.str "let")) (ac (cn (.int 0)) an))) an))))) (gn 16))
  (sq (sa (cl 3 (gX ys f_water) (ac (tp (ac (vr 13) (ac (tp (ac (cn (.str "up")) (ac (cn (.str "up")) (ac (cn (.str "down")) (ac (cn (.str "down")) an))))) an))) (ac (vr 14) (ac (vr 16) an)))) (gn 11))
  (sq (sif (tb (o2 neD (b1 reprD (ac (vr 11) an)) (b1 reprD (ac (tp (ac (cn (.int 0)) (ac (o2 addD (vr 15) (cn (.int 1))) (ac (o2 addD (vr 15) (cn (.int 1))) an)))) an))))
  (sret (cn (.bl false)))
  skip)
  (sq (sa (b1 reprD (ac (tp (ac (vr 14) (ac (o2 addD (o2 mulD (cn (.int 7)) (vr 15)) (cn (.int 7))) (ac (cn (.int 0)) an)))) an)) (gn 17))
  (sq (sa (tp (ac (vr 13) (ac (tp (ac (cn (.str "up")) (ac (cn (.str "up")) (ac (cn (.str "down")) (ac (cn (.str "down")) an))))) an))) (gn 2))
  (sq (sif (tb (o2 neD (b1 reprD (ac (cl 3 (gX ys f_row_done) (ac (vr 2) (ac (vr 14) (ac (vr 16) an)))) an)) (vr 17)))
  (sret (cn (.bl false)))
  skip)
  (sret (o2 eqD (b1 reprD (ac (cl 3 (gX ys f_open_row) (ac (vr 2) (ac (vr 14) (ac (vr 16) an)))) an)) (vr 17)))))))))))))))))))))))))
def f_law:Fn:=fnB 18 b_law
theorem sc_law:FnScope ["_law_script","_law_tape_here","_law_canal_here","_law_stand_here","_law_row","_law_came","_law_fed","_law_went","_law_word","_law_n","_law_up","_law_found","_law_last","_law_long","_law_none","_law_many","_law_more","_law_paid"] ["_law_script"] (defScope st_law):=⟨rfl,rfl,rfl,by decide +kernel,rfl,by decide +kernel,by decide +kernel⟩
abbrev z39:=defScope st_law
theorem g39_5:OkG z39 "_law_canal":=⟨by decide +kernel⟩
theorem g39_4:OkG z39 "_law_draw":=⟨by decide +kernel⟩
theorem g39_8:OkG z39 "_law_stand":=⟨by decide +kernel⟩
theorem g39_1:OkG z39 "_law_tape":=⟨by decide +kernel⟩
theorem g39_11:OkG z39 "_law_walk":=⟨by decide +kernel⟩
theorem g39_21:OkG z39 "int":=⟨by decide +kernel⟩
theorem g39_25:OkG z39 "len":=⟨by decide +kernel⟩
theorem g39_28:OkG z39 "list":=⟨by decide +kernel⟩
theorem g39_47:OkG z39 "open_row":=⟨by decide +kernel⟩
theorem g39_32:OkG z39 "repr":=⟨by decide +kernel⟩
theorem g39_33:OkG z39 "row_done":=⟨by decide +kernel⟩
theorem g39_36:OkG z39 "sum":=⟨by decide +kernel⟩
theorem g39_29:OkG z39 "water":=⟨by decide +kernel⟩
theorem l39_13:OkL z39 "_law_came":=⟨by decide +kernel⟩
theorem l39_6:OkL z39 "_law_canal_here":=⟨by decide +kernel⟩
theorem l39_14:OkL z39 "_law_fed":=⟨by decide +kernel⟩
theorem l39_30:OkL z39 "_law_found":=⟨by decide +kernel⟩
theorem l39_34:OkL z39 "_law_last":=⟨by decide +kernel⟩
theorem l39_37:OkL z39 "_law_long":=⟨by decide +kernel⟩
theorem l39_39:OkL z39 "_law_many":=⟨by decide +kernel⟩
theorem l39_41:OkL z39 "_law_more":=⟨by decide +kernel⟩
theorem l39_17:OkL z39 "_law_n":=⟨by decide +kernel⟩
theorem l39_38:OkL z39 "_law_none":=⟨by decide +kernel⟩
theorem l39_45:OkL z39 "_law_paid":=⟨by decide +kernel⟩
theorem l39_12:OkL z39 "_law_row":=⟨by decide +kernel⟩
theorem l39_9:OkL z39 "_law_stand_here":=⟨by decide +kernel⟩
theorem l39_2:OkL z39 "_law_tape_here":=⟨by decide +kernel⟩
theorem l39_22:OkL z39 "_law_up":=⟨by decide +kernel⟩
theorem l39_15:OkL z39 "_law_went":=⟨by decide +kernel⟩
theorem l39_18:OkL z39 "_law_word":=⟨by decide +kernel⟩
theorem v39_26:OkV z39 "_law_came":=⟨by decide +kernel⟩
theorem v39_7:OkV z39 "_law_canal_here":=⟨by decide +kernel⟩
theorem v39_23:OkV z39 "_law_fed":=⟨by decide +kernel⟩
theorem v39_31:OkV z39 "_law_found":=⟨by decide +kernel⟩
theorem v39_35:OkV z39 "_law_last":=⟨by decide +kernel⟩
theorem v39_44:OkV z39 "_law_long":=⟨by decide +kernel⟩
theorem v39_40:OkV z39 "_law_many":=⟨by decide +kernel⟩
theorem v39_42:OkV z39 "_law_more":=⟨by decide +kernel⟩
theorem v39_19:OkV z39 "_law_n":=⟨by decide +kernel⟩
theorem v39_43:OkV z39 "_law_none":=⟨by decide +kernel⟩
theorem v39_46:OkV z39 "_law_paid":=⟨by decide +kernel⟩
theorem v39_16:OkV z39 "_law_row":=⟨by decide +kernel⟩
theorem v39_0:OkV z39 "_law_script":=⟨by decide +kernel⟩
theorem v39_10:OkV z39 "_law_stand_here":=⟨by decide +kernel⟩
theorem v39_3:OkV z39 "_law_tape_here":=⟨by decide +kernel⟩
theorem v39_24:OkV z39 "_law_up":=⟨by decide +kernel⟩
theorem v39_27:OkV z39 "_law_went":=⟨by decide +kernel⟩
theorem v39_20:OkV z39 "_law_word":=⟨by decide +kernel⟩
theorem p__law_canal:plainN "_law_canal"=true:=by decide +kernel
theorem p__law_stand:plainN "_law_stand"=true:=by decide +kernel
theorem p__law_tape:plainN "_law_tape"=true:=by decide +kernel
theorem p__law_walk:plainN "_law_walk"=true:=by decide +kernel
theorem p_open_row:plainN "open_row"=true:=by decide +kernel
theorem p_water:plainN "water"=true:=by decide +kernel
set_option maxHeartbeats 4000000 in
theorem okl_law(T:Txt K mg){f:Addr}{fd:FuncData}(F:Fun K "law" "law" st_law f fd)(C__law_canal:Cal P w K mg base "_law_canal" ["_law_tape_here","_law_most"] f__law_canal 3)(C__law_draw:Cal P w K mg base "_law_draw" ["_law_tape_here","_law_many"] f__law_draw 1)(C__law_stand:Cal P w K mg base "_law_stand" ["_law_tape_here","_law_canal_here","_law_crowd"] f__law_stand 2)(C__law_tape:Cal P w K mg base "_law_tape" ["_law_script"] f__law_tape 1)(C__law_walk:Cal P w K mg base "_law_walk" ["_law_tape_here","_law_canal_here","_law_stand_here","_law_many"] f__law_walk 4)(C_open_row:CalX P w K mg base "open_row" ["canal","stand","deeds"] f_open_row 8)(C_row_done:CalX P w K mg base "row_done" ["canal","stand","deeds"] f_row_done 8)(C_water:CalX P w K mg base "water" ["canal","stand","deeds"] f_water 9):FnOk P w K mg base CX0 10 f fd ["_law_script"] (spD K 1 f_law):=by
 have Sc:=sc_law
 refine fn_ok (b:=b_law) F Sc fun cdv A outer s H E hr=>?_
 conv=>arg 3; whnf
 refine GSs.h ?_
 exact(gss_cons (gset 1 Sc.nd l39_2 (gown C__law_tape hr (gl g39_1) p__law_tape (ga_cons (gv 0 v39_0) ga_nil se_Name)))
  (gss_cons (gset 2 Sc.nd l39_6 (gown C__law_canal hr (gl g39_5) p__law_canal (ga_cons (gv 1 v39_3) (ga_cons (ge_get (ge_lst (ga_cons ge_int (ga_cons ge_int (ga_cons ge_int (ga_cons ge_int ga_nil se_Constant) se_Constant) se_Constant) se_Constant)) (gown C__law_draw hr (gl g39_4) p__law_draw (ga_cons (gv 1 v39_3) (ga_cons ge_int ga_nil se_Constant) se_Name))) ga_nil se_Subscript) se_Name)))
  (gss_cons (gset 3 Sc.nd l39_9 (gown C__law_stand hr (gl g39_8) p__law_stand (ga_cons (gv 1 v39_3) (ga_cons (gv 2 v39_7) (ga_cons ge_int ga_nil se_Constant) se_Name) se_Name)))
  (gss_cons (gset 4 Sc.nd l39_12 (gown C__law_walk hr (gl g39_11) p__law_walk (ga_cons (gv 1 v39_3) (ga_cons (gv 2 v39_7) (ga_cons (gv 3 v39_10) (ga_cons (gown C__law_draw hr (gl g39_4) p__law_draw (ga_cons (gv 1 v39_3) (ga_cons ge_int ga_nil se_Constant) se_Name)) ga_nil se_Call) se_Name) se_Name) se_Name)))
  (gss_cons (gset 5 Sc.nd l39_13 ge_int)
  (gss_cons (gset 6 Sc.nd l39_14 ge_int)
  (gss_cons (gset 7 Sc.nd l39_15 ge_int)
  (gss_cons (gs_for PassesOwn.never rfl (gi_seq (gv 4 v39_16)) (gg_tup rfl (ggs_cons (ggn 8 Sc.nd l39_18) (ggs_cons (ggn 9 Sc.nd l39_17) ggs_nil)))
  (gss_cons (gset 10 Sc.nd l39_22 (ge_add (gv 9 v39_19) (ge_intc (gl g39_21) T.b_int (ga_cons (ge_and (ge_eq hr.units (gv 8 v39_20) ge_str) (ge_one (ge_eq hr.units (ge_get (ge_get (gv 2 v39_7) ge_int) (gv 9 v39_19)) ge_str))) ga_nil se_BoolOp))))
  (gss_cons (gs_if (gt_eq hr.units (gv 8 v39_20) ge_str)
  (gss_one (gset 6 Sc.nd l39_14 (ge_add (gv 6 v39_23) ge_int)))
  gss_nil)
  (gss_cons (gs_if (GW.jt (gw_and (gt_eq hr.units (gv 8 v39_20) ge_str) (gw_and1 (gt_in (gv 10 v39_24) (ge_lst (ga_cons ge_int (ga_cons (ge_sub (ge_len (gl g39_25) T.b_len (ga_cons (ge_get (gv 2 v39_7) ge_int) ga_nil se_Subscript)) ge_int) ga_nil se_BinOp) se_Constant))))))
  (gss_one (gset 5 Sc.nd l39_13 (ge_add (gv 5 v39_26) ge_int)))
  gss_nil)
  (gss_one (gs_if (GW.jt (gw_and (gt_eq hr.units (gv 8 v39_20) ge_str) (gw_and1 (gt_in (ge_sub (ge_add (ge_mul ge_int (gv 9 v39_19)) ge_int) (gv 10 v39_24)) (ge_lst (ga_cons ge_int (ga_cons (ge_sub (ge_len (gl g39_25) T.b_len (ga_cons (ge_get (gv 2 v39_7) ge_int) ga_nil se_Subscript)) ge_int) ga_nil se_BinOp) se_Constant))))))
  (gss_one (gset 7 Sc.nd l39_15 (ge_add (gv 7 v39_27) ge_int)))
  gss_nil))))))
  (gss_cons (gset 11 Sc.nd l39_30 (gownX T.xt.xns xl_no C_water hr (gl g39_29) p_water (ga_cons (gv 2 v39_7) (ga_cons (gv 3 v39_10) (ga_cons (ge_list (gl g39_28) T.b_list (ga_cons (gv 4 v39_16) ga_nil se_Name)) ga_nil se_Call) se_Name) se_Name)))
  (gss_cons (gs_if (gt_ne hr.units (ge_repr hr (gl g39_32) T.b_repr (ga_cons (gv 11 v39_31) ga_nil se_Name)) (ge_repr hr (gl g39_32) T.b_repr (ga_cons (ge_tup (ga_cons (gv 5 v39_26) (ga_cons (gv 6 v39_23) (ga_cons (gv 7 v39_27) ga_nil se_Name) se_Name) se_Name)) ga_nil se_Tuple)))
  (gss_one (gs_ret ge_bl))
  gss_nil)
  (gss_cons (gset 12 Sc.nd l39_34 (ge_get (gownX T.xt.xns xl_no C_row_done hr (gl g39_33) p_row_done (ga_cons (gv 2 v39_7) (ga_cons (gv 3 v39_10) (ga_cons (ge_list (gl g39_28) T.b_list (ga_cons (gv 4 v39_16) ga_nil se_Name)) ga_nil se_Call) se_Name) se_Name)) ge_int))
  (gss_cons (gs_if (gt_ne hr.units (ge_sum rfl (gl g39_36) T.b_sum (ga_cons (ge_get (gv 12 v39_35) ge_int) ga_nil se_Subscript)) (ge_sub (ge_add (ge_add (ge_sum rfl (gl g39_36) T.b_sum (ga_cons (ge_get (gv 3 v39_10) ge_int) ga_nil se_Subscript)) (ge_get (gv 11 v39_31) ge_int)) (ge_get (gv 11 v39_31) ge_int)) (ge_get (gv 11 v39_31) ge_int)))
  (gss_one (gs_ret ge_bl))
  gss_nil)
  (gss_cons (gs_if (gt_gt (gown C__law_draw hr (gl g39_4) p__law_draw (ga_cons (gv 1 v39_3) (ga_cons ge_int ga_nil se_Constant) se_Name)) ge_int)
  (gss_one (gs_ret ge_bl))
  gss_nil)
  (gss_cons (gset 13 Sc.nd l39_37 (ge_tup (ga_cons (ge_tup (ga_cons ge_str ga_nil se_Constant)) (ga_cons (ge_tup (ga_cons ge_str ga_nil se_Constant)) (ga_cons (ge_tup (ga_cons ge_str (ga_cons ge_int (ga_cons ge_int (ga_cons ge_int (ga_cons ge_int ga_nil se_Constant) se_Constant) se_Constant) se_Constant) se_Constant)) (ga_cons (ge_tup (ga_cons ge_str ga_nil se_Constant)) (ga_cons (ge_tup (ga_cons ge_str ga_nil se_Constant)) ga_nil se_Tuple) se_Tuple) se_Tuple) se_Tuple) se_Tuple)))
  (gss_cons (gset 14 Sc.nd l39_38 (ge_mul (ge_tup (ga_cons (ge_mul (ge_tup (ga_cons ge_int ga_nil se_Constant)) ge_int) ga_nil se_BinOp)) ge_int))
  (gss_cons (gset 15 Sc.nd l39_39 (ge_add ge_int (gown C__law_draw hr (gl g39_4) p__law_draw (ga_cons (gv 1 v39_3) (ga_cons ge_int ga_nil se_Constant) se_Name))))
  (gss_cons (gset 16 Sc.nd l39_41 (ge_add (ge_mul (ge_lst (ga_cons (ge_tup (ga_cons ge_str (ga_cons ge_int ga_nil se_Constant) se_Constant)) (ga_cons (ge_tup (ga_cons ge_str (ga_cons ge_int ga_nil se_Constant) se_Constant)) (ga_cons (ge_tup (ga_cons ge_str (ga_cons ge_int ga_nil se_Constant) se_Constant)) ga_nil se_Tuple) se_Tuple) se_Tuple)) (gv 15 v39_40)) (ge_lst (ga_cons (ge_tup (ga_cons ge_str (ga_cons ge_int ga_nil se_Constant) se_Constant)) (ga_cons (ge_tup (ga_cons ge_str (ga_cons ge_int ga_nil se_Constant) se_Constant)) (ga_cons (ge_tup (ga_cons ge_str (ga_cons ge_int ga_nil se_Constant) se_Constant)) ga_nil se_Tuple) se_Tuple) se_Tuple))))
  (gss_cons (gset 11 Sc.nd l39_30 (gownX T.xt.xns xl_no C_water hr (gl g39_29) p_water (ga_cons (ge_tup (ga_cons (gv 13 v39_44) (ga_cons (ge_tup (ga_cons ge_str (ga_cons ge_str (ga_cons ge_str (ga_cons ge_str ga_nil se_Constant) se_Constant) se_Constant) se_Constant)) ga_nil se_Tuple) se_Name)) (ga_cons (gv 14 v39_43) (ga_cons (gv 16 v39_42) ga_nil se_Name) se_Name) se_Tuple)))
  (gss_cons (gs_if (gt_ne hr.units (ge_repr hr (gl g39_32) T.b_repr (ga_cons (gv 11 v39_31) ga_nil se_Name)) (ge_repr hr (gl g39_32) T.b_repr (ga_cons (ge_tup (ga_cons ge_int (ga_cons (ge_add (gv 15 v39_40) ge_int) (ga_cons (ge_add (gv 15 v39_40) ge_int) ga_nil se_BinOp) se_BinOp) se_Constant)) ga_nil se_Tuple)))
  (gss_one (gs_ret ge_bl))
  gss_nil)
  (gss_cons (gset 17 Sc.nd l39_45 (ge_repr hr (gl g39_32) T.b_repr (ga_cons (ge_tup (ga_cons (gv 14 v39_43) (ga_cons (ge_add (ge_mul ge_int (gv 15 v39_40)) ge_int) (ga_cons ge_int ga_nil se_Constant) se_BinOp) se_Name)) ga_nil se_Tuple)))
  (gss_cons (gset 2 Sc.nd l39_6 (ge_tup (ga_cons (gv 13 v39_44) (ga_cons (ge_tup (ga_cons ge_str (ga_cons ge_str (ga_cons ge_str (ga_cons ge_str ga_nil se_Constant) se_Constant) se_Constant) se_Constant)) ga_nil se_Tuple) se_Name)))
  (gss_cons (gs_if (gt_ne hr.units (ge_repr hr (gl g39_32) T.b_repr (ga_cons (gownX T.xt.xns xl_no C_row_done hr (gl g39_33) p_row_done (ga_cons (gv 2 v39_7) (ga_cons (gv 14 v39_43) (ga_cons (gv 16 v39_42) ga_nil se_Name) se_Name) se_Name)) ga_nil se_Call)) (gv 17 v39_46))
  (gss_one (gs_ret ge_bl))
  gss_nil)
  (gss_one (gs_ret (ge_eq hr.units (ge_repr hr (gl g39_32) T.b_repr (ga_cons (gownX T.xt.xns xl_no C_open_row hr (gl g39_47) p_open_row (ga_cons (gv 2 v39_7) (ga_cons (gv 14 v39_43) (ga_cons (gv 16 v39_42) ga_nil se_Name) se_Name) se_Name)) ga_nil se_Call)) (gv 17 v39_46))))))))))))))))))))))))))
set_option maxHeartbeats 4000000 in
theorem allc(T:Txt K mg)(d_has_spring:Dn K mg "has_spring" st_has_spring ["place"])(d_most_water:Dn K mg "most_water" st_most_water ["place"])(d_is_dry:Dn K mg "is_dry" st_is_dry ["place","level"])(d_is_full:Dn K mg "is_full" st_is_full ["place","level"])(d_is_shallow:Dn K mg "is_shallow" st_is_shallow ["place","level"])(d_holds:Dn K mg "holds" st_holds ["place","barges"])(d_higher:Dn K mg "higher" st_higher ["canal","gate"])(d_lower:Dn K mg "lower" st_lower ["canal","gate"])(d_barges_of:Dn K mg "barges_of" st_barges_of ["stand","word"])(d_with_barges:Dn K mg "with_barges" st_with_barges ["stand","word","row"])(d_with_more:Dn K mg "with_more" st_with_more ["row","place","many"])(d_check_gate:Dn K mg "check_gate" st_check_gate ["canal","gate"])(d_place_behind:Dn K mg "place_behind" st_place_behind ["deed"])(d_check_water:Dn K mg "check_water" st_check_water ["canal","levels","gate"])(d_place_ahead:Dn K mg "place_ahead" st_place_ahead ["deed"])(d_check_move:Dn K mg "check_move" st_check_move ["canal","stand","deed"])(d_check_let:Dn K mg "check_let" st_check_let ["canal","stand","gate"])(d_check_feed:Dn K mg "check_feed" st_check_feed ["canal","stand","number"])(d_moved:Dn K mg "moved" st_moved ["stand","deed"])(d_with_water:Dn K mg "with_water" st_with_water ["canal","levels","place","many"])(d_let_down:Dn K mg "let_down" st_let_down ["canal","stand","gate"])(d_is_last_move:Dn K mg "is_last_move" st_is_last_move ["canal","deed"])(d_deed_done:Dn K mg "deed_done" st_deed_done ["canal","stand","deed"])(d_with_waiting:Dn K mg "with_waiting" st_with_waiting ["stand"])(d_without_ends:Dn K mg "without_ends" st_without_ends ["stand"])(d_open_done:Dn K mg "open_done" st_open_done ["canal","stand","deed"])(d_row_by:Dn K mg "row_by" st_row_by ["canal","stand","deeds","done"])(d_row_done:Dn K mg "row_done" st_row_done ["canal","stand","deeds"])(d_water:Dn K mg "water" st_water ["canal","stand","deeds"])(d_open_row:Dn K mg "open_row" st_open_row ["canal","stand","deeds"])(d__law_tape:Dn K mg "_law_tape" st__law_tape ["_law_script"])(d__law_draw:Dn K mg "_law_draw" st__law_draw ["_law_tape_here","_law_many"])(d__law_pound:Dn K mg "_law_pound" st__law_pound ["_law_tape_here"])(d__law_canal:Dn K mg "_law_canal" st__law_canal ["_law_tape_here","_law_most"])(d__law_stand:Dn K mg "_law_stand" st__law_stand ["_law_tape_here","_law_canal_here","_law_crowd"])(d__law_gone:Dn K mg "_law_gone" st__law_gone ["_law_canal_here","_law_stand_here","_law_deed","_law_up","_law_down"])(d__law_due:Dn K mg "_law_due" st__law_due ["_law_canal_here","_law_stand_here","_law_deed"])(d__law_can:Dn K mg "_law_can" st__law_can ["_law_canal_here","_law_stand_here"])(d__law_walk:Dn K mg "_law_walk" st__law_walk ["_law_tape_here","_law_canal_here","_law_stand_here","_law_many"])(X_Dry:ClX P w K mg base "Dry" 1)(X_Full:ClX P w K mg base "Full" 1)(X_NoBarge:ClX P w K mg base "NoBarge" 1)(X_NoGate:ClX P w K mg base "NoGate" 1)(X_NoRoom:ClX P w K mg base "NoRoom" 1)(X_NoSpring:ClX P w K mg base "NoSpring" 1)(X_Shallow:ClX P w K mg base "Shallow" 1)(X_Uneven:ClX P w K mg base "Uneven" 1){f:Addr}{fd:FuncData}(F:Fun K "law" "law" st_law f fd):FnOk P w K mg base CX0 10 f fd ["_law_script"] (spD K 1 f_law):=by
 have C_has_spring:Cal P w K mg base "has_spring" ["place"] f_has_spring 1:=cal_has_spring T d_has_spring
 have C_most_water:Cal P w K mg base "most_water" ["place"] f_most_water 1:=cal_most_water T d_most_water
 have C_is_dry:Cal P w K mg base "is_dry" ["place","level"] f_is_dry 1:=cal_is_dry T d_is_dry
 have C_is_full:Cal P w K mg base "is_full" ["place","level"] f_is_full 2:=cal_is_full T d_is_full C_most_water
 have C_is_shallow:Cal P w K mg base "is_shallow" ["place","level"] f_is_shallow 1:=cal_is_shallow T d_is_shallow
 have C_holds:Cal P w K mg base "holds" ["place","barges"] f_holds 1:=cal_holds T d_holds
 have C_higher:Cal P w K mg base "higher" ["canal","gate"] f_higher 1:=cal_higher T d_higher
 have C_lower:Cal P w K mg base "lower" ["canal","gate"] f_lower 1:=cal_lower T d_lower
 have C_barges_of:Cal P w K mg base "barges_of" ["stand","word"] f_barges_of 1:=cal_barges_of T d_barges_of
 have C_with_barges:Cal P w K mg base "with_barges" ["stand","word","row"] f_with_barges 1:=cal_with_barges T d_with_barges
 have C_with_more:Cal P w K mg base "with_more" ["row","place","many"] f_with_more 1:=cal_with_more T d_with_more
 have C_check_gate:CalX P w K mg base "check_gate" ["canal","gate"] f_check_gate 3:=cal_check_gate T d_check_gate X_NoGate
 have C_place_behind:Cal P w K mg base "place_behind" ["deed"] f_place_behind 1:=cal_place_behind T d_place_behind
 have C_check_water:CalX P w K mg base "check_water" ["canal","levels","gate"] f_check_water 3:=cal_check_water T d_check_water C_higher C_is_shallow C_lower X_Shallow X_Uneven
 have C_place_ahead:Cal P w K mg base "place_ahead" ["deed"] f_place_ahead 1:=cal_place_ahead T d_place_ahead
 have C_check_move:CalX P w K mg base "check_move" ["canal","stand","deed"] f_check_move 4:=cal_check_move T d_check_move C_barges_of C_check_gate C_check_water C_holds C_place_ahead C_place_behind X_NoBarge X_NoRoom
 have C_check_let:CalX P w K mg base "check_let" ["canal","stand","gate"] f_check_let 4:=cal_check_let T d_check_let C_check_gate C_higher C_is_dry C_is_full C_lower X_Dry X_Full
 have C_check_feed:CalX P w K mg base "check_feed" ["canal","stand","number"] f_check_feed 3:=cal_check_feed T d_check_feed C_has_spring C_is_full X_Full X_NoSpring
 have C_moved:Cal P w K mg base "moved" ["stand","deed"] f_moved 2:=cal_moved T d_moved C_barges_of C_place_ahead C_place_behind C_with_barges C_with_more
 have C_with_water:Cal P w K mg base "with_water" ["canal","levels","place","many"] f_with_water 2:=cal_with_water T d_with_water C_with_more
 have C_let_down:Cal P w K mg base "let_down" ["canal","stand","gate"] f_let_down 3:=cal_let_down T d_let_down C_higher C_lower C_with_water
 have C_is_last_move:Cal P w K mg base "is_last_move" ["canal","deed"] f_is_last_move 2:=cal_is_last_move T d_is_last_move C_place_behind
 have C_deed_done:CalX P w K mg base "deed_done" ["canal","stand","deed"] f_deed_done 5:=cal_deed_done T d_deed_done C_check_feed C_check_let C_check_move C_is_last_move C_let_down C_moved C_with_more
 have C_with_waiting:Cal P w K mg base "with_waiting" ["stand"] f_with_waiting 1:=cal_with_waiting T d_with_waiting
 have C_without_ends:Cal P w K mg base "without_ends" ["stand"] f_without_ends 1:=cal_without_ends T d_without_ends
 have C_open_done:CalX P w K mg base "open_done" ["canal","stand","deed"] f_open_done 6:=cal_open_done T d_open_done C_deed_done C_with_waiting C_without_ends
 have C_row_by:CalX P w K mg base "row_by" ["canal","stand","deeds","done"] f_row_by 7:=cal_row_by T d_row_by C_deed_done C_open_done
 have C_row_done:CalX P w K mg base "row_done" ["canal","stand","deeds"] f_row_done 8:=cal_row_done T d_row_done C_row_by
 have C_water:CalX P w K mg base "water" ["canal","stand","deeds"] f_water 9:=cal_water T d_water C_higher C_lower C_row_done
 have C_open_row:CalX P w K mg base "open_row" ["canal","stand","deeds"] f_open_row 8:=cal_open_row T d_open_row C_row_by
 have C__law_tape:Cal P w K mg base "_law_tape" ["_law_script"] f__law_tape 1:=cal__law_tape T d__law_tape
 have C__law_draw:Cal P w K mg base "_law_draw" ["_law_tape_here","_law_many"] f__law_draw 1:=cal__law_draw T d__law_draw
 have C__law_pound:Cal P w K mg base "_law_pound" ["_law_tape_here"] f__law_pound 2:=cal__law_pound T d__law_pound C__law_draw
 have C__law_canal:Cal P w K mg base "_law_canal" ["_law_tape_here","_law_most"] f__law_canal 3:=cal__law_canal T d__law_canal C__law_draw C__law_pound
 have C__law_stand:Cal P w K mg base "_law_stand" ["_law_tape_here","_law_canal_here","_law_crowd"] f__law_stand 2:=cal__law_stand T d__law_stand C__law_draw
 have C__law_gone:Cal P w K mg base "_law_gone" ["_law_canal_here","_law_stand_here","_law_deed","_law_up","_law_down"] f__law_gone 1:=cal__law_gone T d__law_gone
 have C__law_due:Cal P w K mg base "_law_due" ["_law_canal_here","_law_stand_here","_law_deed"] f__law_due 2:=cal__law_due T d__law_due C__law_gone
 have C__law_can:Cal P w K mg base "_law_can" ["_law_canal_here","_law_stand_here"] f__law_can 3:=cal__law_can T d__law_can C__law_due
 have C__law_walk:Cal P w K mg base "_law_walk" ["_law_tape_here","_law_canal_here","_law_stand_here","_law_many"] f__law_walk 4:=cal__law_walk T d__law_walk C__law_can C__law_draw C__law_due
 exact okl_law T F C__law_canal C__law_draw C__law_stand C__law_tape C__law_walk C_open_row C_row_done C_water
end
set_option maxHeartbeats 4000000 in
theorem all_mk{l:PySem.W.OpenLaw}{w:World}{K:PySem.W.Frag}{h:Heap}{mg:Str→Option Value}{fa:Addr}(X:K.In h)(G:h.Ns mainGlobals mg)(hfa:mg "law"=some (.ref fa))
  (h_has_spring:FH K "has_spring" st_has_spring)
  (h_most_water:FH K "most_water" st_most_water)
  (h_is_dry:FH K "is_dry" st_is_dry)
  (h_is_full:FH K "is_full" st_is_full)
  (h_is_shallow:FH K "is_shallow" st_is_shallow)
  (h_holds:FH K "holds" st_holds)
  (h_higher:FH K "higher" st_higher)
  (h_lower:FH K "lower" st_lower)
  (h_barges_of:FH K "barges_of" st_barges_of)
  (h_with_barges:FH K "with_barges" st_with_barges)
  (h_with_more:FH K "with_more" st_with_more)
  (h_check_gate:FH K "check_gate" st_check_gate)
  (h_place_behind:FH K "place_behind" st_place_behind)
  (h_check_water:FH K "check_water" st_check_water)
  (h_place_ahead:FH K "place_ahead" st_place_ahead)
  (h_check_move:FH K "check_move" st_check_move)
  (h_check_let:FH K "check_let" st_check_let)
  (h_check_feed:FH K "check_feed" st_check_feed)
  (h_moved:FH K "moved" st_moved)
  (h_with_water:FH K "with_water" st_with_water)
  (h_let_down:FH K "let_down" st_let_down)
  (h_is_last_move:FH K "is_last_move" st_is_last_move)
  (h_deed_done:FH K "deed_done" st_deed_done)
  (h_with_waiting:FH K "with_waiting" st_with_waiting)
  (h_without_ends:FH K "without_ends" st_without_ends)
  (h_open_done:FH K "open_done" st_open_done)
  (h_row_by:FH K "row_by" st_row_by)
  (h_row_done:FH K "row_done" st_row_done)
  (h_water:FH K "water" st_water)
  (h_open_row:FH K "open_row" st_open_row)
  (h__law_tape:FH K "_law_tape" st__law_tape)
  (h__law_draw:FH K "_law_draw" st__law_draw)
  (h__law_pound:FH K "_law_pound" st__law_pound)
  (h__law_canal:FH K "_law_canal" st__law_canal)
  (h__law_stand:FH K "_law_stand" st__law_stand)
  (h__law_gone:FH K "_law_gone" st__law_gone)
  (h__law_due:FH K "_law_due" st__law_due)
  (h__law_can:FH K "_law_can" st__law_can)
  (h__law_walk:FH K "_law_walk" st__law_walk)
  {fx_law:Addr} {od_law an_law:Option Addr} {sl_law:Array (Option Value)} {oc_law kV_law dc_law pm_law cd_law ct_law:Value}
  (a_law:PySem.W.nsIn K mainGlobals "law"=some (some (.ref fx_law))) (l_law:K.lookup fx_law=some ⟨oc_law,od_law,.func (PySem.W.fnOf "law" "law" (defArgs st_law) (defBody st_law) (defScope st_law) .none kV_law dc_law pm_law an_law cd_law ct_law),sl_law⟩) (c_law:PySem.W.codeIn K cd_law "law"=true) (k_law:PySem.W.keepIn K (.ref fx_law)=true)
  (z_ValueError:PySem.W.nsIn K mainGlobals "ValueError"=some none)
  (z_enumerate:PySem.W.nsIn K mainGlobals "enumerate"=some none)
  (z_int:PySem.W.nsIn K mainGlobals "int"=some none)
  (z_isinstance:PySem.W.nsIn K mainGlobals "isinstance"=some none)
  (z_len:PySem.W.nsIn K mainGlobals "len"=some none)
  (z_list:PySem.W.nsIn K mainGlobals "list"=some none)
  (z_min:PySem.W.nsIn K mainGlobals "min"=some none)
  (z_range:PySem.W.nsIn K mainGlobals "range"=some none)
  (z_repr:PySem.W.nsIn K mainGlobals "repr"=some none)
  (z_str:PySem.W.nsIn K mainGlobals "str"=some none)
  (z_sum:PySem.W.nsIn K mainGlobals "sum"=some none)
  (z_tuple:PySem.W.nsIn K mainGlobals "tuple"=some none)
  {kp_CHAMBER:Addr} {kt_CHAMBER:Tok} {kn_CHAMBER:Nat} {ks_CHAMBER:Array (Option Value)} (ka_CHAMBER:PySem.W.nsIn K mainGlobals "CHAMBER"=some (some (.ref kp_CHAMBER))) (kl_CHAMBER:K.lookup kp_CHAMBER=some { cls:=.type "tuple",dict:=none,data:=.seq #[.str "chamber" kt_CHAMBER] kn_CHAMBER,slots:=ks_CHAMBER })
  {kp_END:Addr} {kt_END:Tok} {kn_END:Nat} {ks_END:Array (Option Value)} (ka_END:PySem.W.nsIn K mainGlobals "END"=some (some (.ref kp_END))) (kl_END:K.lookup kp_END=some { cls:=.type "tuple",dict:=none,data:=.seq #[.str "end" kt_END] kn_END,slots:=ks_END })
  {kt_UP:Tok} (ka_UP:PySem.W.nsIn K mainGlobals "UP"=some (some (.str "up" kt_UP)))
  {cc_SummitError:Addr} (ca_SummitError:PySem.W.nsIn K mainGlobals "SummitError"=some (some (.ref cc_SummitError)))
  {cc_NoGate:Addr} (ca_NoGate:PySem.W.nsIn K mainGlobals "NoGate"=some (some (.ref cc_NoGate)))
  {cc_Dry:Addr} (ca_Dry:PySem.W.nsIn K mainGlobals "Dry"=some (some (.ref cc_Dry)))
  {cc_Full:Addr} (ca_Full:PySem.W.nsIn K mainGlobals "Full"=some (some (.ref cc_Full)))
  {cc_NoSpring:Addr} (ca_NoSpring:PySem.W.nsIn K mainGlobals "NoSpring"=some (some (.ref cc_NoSpring)))
  {cc_NoBarge:Addr} (ca_NoBarge:PySem.W.nsIn K mainGlobals "NoBarge"=some (some (.ref cc_NoBarge)))
  {cc_NoRoom:Addr} (ca_NoRoom:PySem.W.nsIn K mainGlobals "NoRoom"=some (some (.ref cc_NoRoom)))
  {cc_Uneven:Addr} (ca_Uneven:PySem.W.nsIn K mainGlobals "Uneven"=some (some (.ref cc_Uneven)))
  {cc_Shallow:Addr} (ca_Shallow:PySem.W.nsIn K mainGlobals "Shallow"=some (some (.ref cc_Shallow)))
  {cc_Falls:Addr} (ca_Falls:PySem.W.nsIn K mainGlobals "Falls"=some (some (.ref cc_Falls)))
  (xtb:xtabB K cc_SummitError [("NoGate",cc_NoGate),("Dry",cc_Dry),("Full",cc_Full),("NoSpring",cc_NoSpring),("NoBarge",cc_NoBarge),("NoRoom",cc_NoRoom),("Uneven",cc_Uneven),("Shallow",cc_Shallow),("Falls",cc_Falls)]=true)
  {fi:Addr} {odI anI:Option Addr} {slI:Array (Option Value)} {kVI dcI pmI cdI ctI:Value} (iI:PySem.W.findIn K (.ref cc_SummitError) "__init__"=some (some (.ref fi))) (lI:K.lookup fi=some ⟨.type "function",odI,.func (PySem.W.fnOf "__init__" "SummitError.__init__" (defArgs st_init) (defBody st_init) (defScope st_init) .none kVI dcI pmI anI cdI ctI),slI⟩) (cI:PySem.W.codeIn K cdI "SummitError.__init__"=true) (kI:PySem.W.keepIn K (.ref fi)=true)
  (cx_Dry:clxB K cc_Dry fi=true)
  (cx_Full:clxB K cc_Full fi=true)
  (cx_NoBarge:clxB K cc_NoBarge fi=true)
  (cx_NoGate:clxB K cc_NoGate fi=true)
  (cx_NoRoom:clxB K cc_NoRoom fi=true)
  (cx_NoSpring:clxB K cc_NoSpring fi=true)
  (cx_Shallow:clxB K cc_Shallow fi=true)
  (cx_Uneven:clxB K cc_Uneven fi=true)
  : ∃ fd:FuncData,(∀ (s:Shared) (v:Value),BindsTo s fd ⟨[v],[]⟩ [("_law_script",v)])∧∀ base:Heap,K.In base→base.Ns mainGlobals mg→FnOk l.prog w K mg base CX0 10 fa fd ["_law_script"] (spD K 1 f_law):=by
 have e:=hfa.symm.trans (PySem.W.mg_of X G a_law)
 cases e
 have F:=fun_mk (st:=st_law) l_law c_law k_law
 have T:Txt K mg:=⟨PySem.W.mg_none_of X G z_ValueError,PySem.W.mg_none_of X G z_enumerate,PySem.W.mg_none_of X G z_int,PySem.W.mg_none_of X G z_isinstance,PySem.W.mg_none_of X G z_len,PySem.W.mg_none_of X G z_list,PySem.W.mg_none_of X G z_min,PySem.W.mg_none_of X G z_range,PySem.W.mg_none_of X G z_repr,PySem.W.mg_none_of X G z_str,PySem.W.mg_none_of X G z_sum,PySem.W.mg_none_of X G z_tuple,cst_t1 X G ka_CHAMBER kl_CHAMBER,cst_t1 X G ka_END kl_END,cst_str X G ka_UP,h_deed_done.fv X G,h_open_done.fv X G,xt_mk X G ca_SummitError xtb⟩
 have d_has_spring:Dn K mg "has_spring" st_has_spring ["place"]:=h_has_spring.dn X G fun _ _ _ _ _ _ us hl=>match us,hl with | [_],_=>rfl
 have d_most_water:Dn K mg "most_water" st_most_water ["place"]:=h_most_water.dn X G fun _ _ _ _ _ _ us hl=>match us,hl with | [_],_=>rfl
 have d_is_dry:Dn K mg "is_dry" st_is_dry ["place","level"]:=h_is_dry.dn X G fun _ _ _ _ _ _ us hl=>match us,hl with | [_,_],_=>rfl
 have d_is_full:Dn K mg "is_full" st_is_full ["place","level"]:=h_is_full.dn X G fun _ _ _ _ _ _ us hl=>match us,hl with | [_,_],_=>rfl
 have d_is_shallow:Dn K mg "is_shallow" st_is_shallow ["place","level"]:=h_is_shallow.dn X G fun _ _ _ _ _ _ us hl=>match us,hl with | [_,_],_=>rfl
 have d_holds:Dn K mg "holds" st_holds ["place","barges"]:=h_holds.dn X G fun _ _ _ _ _ _ us hl=>match us,hl with | [_,_],_=>rfl
 have d_higher:Dn K mg "higher" st_higher ["canal","gate"]:=h_higher.dn X G fun _ _ _ _ _ _ us hl=>match us,hl with | [_,_],_=>rfl
 have d_lower:Dn K mg "lower" st_lower ["canal","gate"]:=h_lower.dn X G fun _ _ _ _ _ _ us hl=>match us,hl with | [_,_],_=>rfl
 have d_barges_of:Dn K mg "barges_of" st_barges_of ["stand","word"]:=h_barges_of.dn X G fun _ _ _ _ _ _ us hl=>match us,hl with | [_,_],_=>rfl
 have d_with_barges:Dn K mg "with_barges" st_with_barges ["stand","word","row"]:=h_with_barges.dn X G fun _ _ _ _ _ _ us hl=>match us,hl with | [_,_,_],_=>rfl
 have d_with_more:Dn K mg "with_more" st_with_more ["row","place","many"]:=h_with_more.dn X G fun _ _ _ _ _ _ us hl=>match us,hl with | [_,_,_],_=>rfl
 have d_check_gate:Dn K mg "check_gate" st_check_gate ["canal","gate"]:=h_check_gate.dn X G fun _ _ _ _ _ _ us hl=>match us,hl with | [_,_],_=>rfl
 have d_place_behind:Dn K mg "place_behind" st_place_behind ["deed"]:=h_place_behind.dn X G fun _ _ _ _ _ _ us hl=>match us,hl with | [_],_=>rfl
 have d_check_water:Dn K mg "check_water" st_check_water ["canal","levels","gate"]:=h_check_water.dn X G fun _ _ _ _ _ _ us hl=>match us,hl with | [_,_,_],_=>rfl
 have d_place_ahead:Dn K mg "place_ahead" st_place_ahead ["deed"]:=h_place_ahead.dn X G fun _ _ _ _ _ _ us hl=>match us,hl with | [_],_=>rfl
 have d_check_move:Dn K mg "check_move" st_check_move ["canal","stand","deed"]:=h_check_move.dn X G fun _ _ _ _ _ _ us hl=>match us,hl with | [_,_,_],_=>rfl
 have d_check_let:Dn K mg "check_let" st_check_let ["canal","stand","gate"]:=h_check_let.dn X G fun _ _ _ _ _ _ us hl=>match us,hl with | [_,_,_],_=>rfl
 have d_check_feed:Dn K mg "check_feed" st_check_feed ["canal","stand","number"]:=h_check_feed.dn X G fun _ _ _ _ _ _ us hl=>match us,hl with | [_,_,_],_=>rfl
 have d_moved:Dn K mg "moved" st_moved ["stand","deed"]:=h_moved.dn X G fun _ _ _ _ _ _ us hl=>match us,hl with | [_,_],_=>rfl
 have d_with_water:Dn K mg "with_water" st_with_water ["canal","levels","place","many"]:=h_with_water.dn X G fun _ _ _ _ _ _ us hl=>match us,hl with | [_,_,_,_],_=>rfl
 have d_let_down:Dn K mg "let_down" st_let_down ["canal","stand","gate"]:=h_let_down.dn X G fun _ _ _ _ _ _ us hl=>match us,hl with | [_,_,_],_=>rfl
 have d_is_last_move:Dn K mg "is_last_move" st_is_last_move ["canal","deed"]:=h_is_last_move.dn X G fun _ _ _ _ _ _ us hl=>match us,hl with | [_,_],_=>rfl
 have d_deed_done:Dn K mg "deed_done" st_deed_done ["canal","stand","deed"]:=h_deed_done.dn X G fun _ _ _ _ _ _ us hl=>match us,hl with | [_,_,_],_=>rfl
 have d_with_waiting:Dn K mg "with_waiting" st_with_waiting ["stand"]:=h_with_waiting.dn X G fun _ _ _ _ _ _ us hl=>match us,hl with | [_],_=>rfl
 have d_without_ends:Dn K mg "without_ends" st_without_ends ["stand"]:=h_without_ends.dn X G fun _ _ _ _ _ _ us hl=>match us,hl with | [_],_=>rfl
 have d_open_done:Dn K mg "open_done" st_open_done ["canal","stand","deed"]:=h_open_done.dn X G fun _ _ _ _ _ _ us hl=>match us,hl with | [_,_,_],_=>rfl
 have d_row_by:Dn K mg "row_by" st_row_by ["canal","stand","deeds","done"]:=h_row_by.dn X G fun _ _ _ _ _ _ us hl=>match us,hl with | [_,_,_,_],_=>rfl
 have d_row_done:Dn K mg "row_done" st_row_done ["canal","stand","deeds"]:=h_row_done.dn X G fun _ _ _ _ _ _ us hl=>match us,hl with | [_,_,_],_=>rfl
 have d_water:Dn K mg "water" st_water ["canal","stand","deeds"]:=h_water.dn X G fun _ _ _ _ _ _ us hl=>match us,hl with | [_,_,_],_=>rfl
 have d_open_row:Dn K mg "open_row" st_open_row ["canal","stand","deeds"]:=h_open_row.dn X G fun _ _ _ _ _ _ us hl=>match us,hl with | [_,_,_],_=>rfl
 have d__law_tape:Dn K mg "_law_tape" st__law_tape ["_law_script"]:=h__law_tape.dn X G fun _ _ _ _ _ _ us hl=>match us,hl with | [_],_=>rfl
 have d__law_draw:Dn K mg "_law_draw" st__law_draw ["_law_tape_here","_law_many"]:=h__law_draw.dn X G fun _ _ _ _ _ _ us hl=>match us,hl with | [_,_],_=>rfl
 have d__law_pound:Dn K mg "_law_pound" st__law_pound ["_law_tape_here"]:=h__law_pound.dn X G fun _ _ _ _ _ _ us hl=>match us,hl with | [_],_=>rfl
 have d__law_canal:Dn K mg "_law_canal" st__law_canal ["_law_tape_here","_law_most"]:=h__law_canal.dn X G fun _ _ _ _ _ _ us hl=>match us,hl with | [_,_],_=>rfl
 have d__law_stand:Dn K mg "_law_stand" st__law_stand ["_law_tape_here","_law_canal_here","_law_crowd"]:=h__law_stand.dn X G fun _ _ _ _ _ _ us hl=>match us,hl with | [_,_,_],_=>rfl
 have d__law_gone:Dn K mg "_law_gone" st__law_gone ["_law_canal_here","_law_stand_here","_law_deed","_law_up","_law_down"]:=h__law_gone.dn X G fun _ _ _ _ _ _ us hl=>match us,hl with | [_,_,_,_,_],_=>rfl
 have d__law_due:Dn K mg "_law_due" st__law_due ["_law_canal_here","_law_stand_here","_law_deed"]:=h__law_due.dn X G fun _ _ _ _ _ _ us hl=>match us,hl with | [_,_,_],_=>rfl
 have d__law_can:Dn K mg "_law_can" st__law_can ["_law_canal_here","_law_stand_here"]:=h__law_can.dn X G fun _ _ _ _ _ _ us hl=>match us,hl with | [_,_],_=>rfl
 have d__law_walk:Dn K mg "_law_walk" st__law_walk ["_law_tape_here","_law_canal_here","_law_stand_here","_law_many"]:=h__law_walk.dn X G fun _ _ _ _ _ _ us hl=>match us,hl with | [_,_,_,_],_=>rfl
 have hVE:mg "ValueError"=none:=PySem.W.mg_none_of X G z_ValueError
 have ini:∀ base:Heap,IniX l.prog w K mg base fi 1:=fun base=>ini_mk (st:=st_init) lI cI kI sc_init (body_init hVE) (fun _ _ _ _ _ _ us hl=>match us,hl with | [_,_],_=>rfl)
 exact⟨_,fun s v=>.of_eq rfl,fun base _ _=>allc T d_has_spring d_most_water d_is_dry d_is_full d_is_shallow d_holds d_higher d_lower d_barges_of d_with_barges d_with_more d_check_gate d_place_behind d_check_water d_place_ahead d_check_move d_check_let d_check_feed d_moved d_with_water d_let_down d_is_last_move d_deed_done d_with_waiting d_without_ends d_open_done d_row_by d_row_done d_water d_open_row d__law_tape d__law_draw d__law_pound d__law_canal d__law_stand d__law_gone d__law_due d__law_can d__law_walk (clx_mk X G (ini base) ca_Dry cx_Dry) (clx_mk X G (ini base) ca_Full cx_Full) (clx_mk X G (ini base) ca_NoBarge cx_NoBarge) (clx_mk X G (ini base) ca_NoGate cx_NoGate) (clx_mk X G (ini base) ca_NoRoom cx_NoRoom) (clx_mk X G (ini base) ca_NoSpring cx_NoSpring) (clx_mk X G (ini base) ca_Shallow cx_Shallow) (clx_mk X G (ini base) ca_Uneven cx_Uneven) F⟩
end Law
set_option Elab.async false
set_option linter.all false
namespace WM
def stp(b l d:Int):Int:=min b (l+d)
def F(b:Int)(ds:List Int)(x:Int):Int:=ds.foldl (stp b) x
def AP(ds:List Int)(x:Int):Prop:=∀ j,1≤j→j≤ds.length→0≤x+(ds.take j).sum
inductive R where
 | dry (k:Nat) | lev (l:Int)
def R.bind(o:R)(g:Int→R):R:=match o with
 | .dry k=>.dry k
 | .lev l=>g l
def wl(b:Int):List Int→Nat→Int→R
 | [],_,x=>.lev x
 | d::r,k,x=>if stp b x d<0 then .dry k else wl b r (k+1) (stp b x d)
def most(b:Int)(ds:List Int):Int:=F b ds.tail b
def start(ds:List Int)(mn:Int):Int:=max 0 (-mn)
structure IsMin(ds:List Int)(mn:Int):Prop where
 le:∀ j,1≤j→j≤ds.length→mn≤(ds.take j).sum
 at':∃ j,1≤j∧j≤ds.length∧mn=(ds.take j).sum
end WM
set_option Elab.async false
set_option linter.all false
set_option maxRecDepth 100000
namespace DL
open PySem PySem.Spec PyProof.Rows L2
section
variable{ρ:Lc}{S:Sto}{α β:Type}
@[simp] theorem bind_ok{a:α}{g:α→Sto→Out β}:(Out.ok a S).bind g=g a S:=id rfl
@[simp] theorem bind_bad{g:α→Sto→Out β}:(Out.bad:Out α).bind g=.bad:=id rfl
@[simp] theorem bindS_ok{a:α}{g:α→Sto→OS}:bindS (Out.ok a S) ρ g=g a S:=id rfl
@[simp] theorem bindS_bad{g:α→Sto→OS}:bindS (Out.bad:Out α) ρ g=.bad:=id rfl
@[simp] theorem vr_ap{i:Nat}:vr i ρ S=match ρ[i]? with
 | some (some d)=>.ok d S
 | _=>.bad:=id rfl
@[simp] theorem cn_ap{d:D}:cn d ρ S=.ok d S:=id rfl
@[simp] theorem an_ap:an ρ S=.ok [] S:=id rfl
@[simp] theorem ac_ap{f:Ev D}{g:Ev (List D)}:ac f g ρ S=(f ρ S).bind fun x S1=>(g ρ S1).bind fun xs S2=>.ok (x::xs) S2:=id rfl
@[simp] theorem o2_ap{o:D→D→Sto→Out D}{fa fb:Ev D}:o2 o fa fb ρ S=(fa ρ S).bind fun x S1=>(fb ρ S1).bind fun y S2=>o x y S2:=id rfl
@[simp] theorem o1_ap{o:D→Sto→Out D}{fa:Ev D}:o1 o fa ρ S=(fa ρ S).bind fun x S1=>o x S1:=id rfl
@[simp] theorem b1_ap{o:List D→Sto→Out D}{f:Ev (List D)}:b1 o f ρ S=(f ρ S).bind o:=id rfl
@[simp] theorem cl_ap{n:Nat}{fn:Fn}{t:Ev (List D)}:cl n fn t ρ S=(t ρ S).bind fun ds S1=>if ds.length=n then fn ds S1 else .bad:=id rfl
@[simp] theorem noExc_ap{fn:Fn}{ds:List D}:noExc fn ds S=match fn ds S with
 | .ok d S'=>.ok d S'
 | _=>.bad:=id rfl
@[simp] theorem tb_ap{f:Ev D}:tb f ρ S=(f ρ S).bind fun x S1=>match x with
 | .bl b=>.ok b S1
 | _=>.bad:=id rfl
@[simp] theorem tt_ap{f:Ev D}:tt f ρ S=(f ρ S).bind fun x S1=>match truD x S1 with
 | some b=>.ok b S1
 | none=>.bad:=id rfl
@[simp] theorem tn_ap{f:Ev Bool}:tn f ρ S=(f ρ S).bind fun b S1=>.ok (!b) S1:=id rfl
@[simp] theorem ta_ap{f g:Ev Bool}:ta f g ρ S=(f ρ S).bind fun b S1=>if b=true then g ρ S1 else .ok false S1:=id rfl
@[simp] theorem to_ap{f g:Ev Bool}:to f g ρ S=(f ρ S).bind fun b S1=>if b=true then .ok true S1 else g ρ S1:=id rfl
@[simp] theorem va_ap{f g:Ev D}:va f g ρ S=(f ρ S).bind fun x S1=>match x with
 | .bl b=>if b=true then g ρ S1 else .ok (.bl false) S1
 | _=>.bad:=id rfl
@[simp] theorem vo_ap{f g:Ev D}:vo f g ρ S=(f ρ S).bind fun x S1=>match x with
 | .bl b=>if b=true then .ok (.bl true) S1 else g ρ S1
 | _=>.bad:=id rfl
@[simp] theorem vn_ap{f:Ev D}:vn f ρ S=(f ρ S).bind fun x S1=>match x with
 | .bl b=>.ok (.bl (!b)) S1
 | _=>.bad:=id rfl
@[simp] theorem ie_ap{c:Ev Bool}{f g:Ev D}:ie c f g ρ S=(c ρ S).bind fun b S1=>if b=true then f ρ S1 else g ρ S1:=id rfl
@[simp] theorem tp_ap{f:Ev (List D)}:tp f ρ S=(f ρ S).bind fun xs S1=>if xs.length≤1000000 then .ok (.tup xs) S1 else .bad:=id rfl
@[simp] theorem ls_ap{f:Ev (List D)}:ls f ρ S=(f ρ S).bind fun xs S1=>if xs.length≤1000000 then .ok (.lst S1.length) (S1++[⟨false,xs⟩]) else .bad:=id rfl
@[simp] theorem sl2_ap{fe:Ev D}{fl fh:Ev (Option Int)}:sl2 fe fl fh ρ S=(fe ρ S).bind fun x S1=>(fl ρ S1).bind fun l S2=>(fh ρ S2).bind fun u S3=>slD2 x l u S3:=id rfl
@[simp] theorem onone_ap:onone ρ S=.ok none S:=id rfl
@[simp] theorem osome_ap{f:Ev D}:osome f ρ S=(f ρ S).bind fun x S1=>match x with
 | .int i=>.ok (some i) S1
 | _=>.bad:=id rfl
@[simp] theorem mt_ap{o:D→List D→Sto→Out D}{fo:Ev D}{f:Ev (List D)}:mt o fo f ρ S=(fo ρ S).bind fun x S1=>if isLst x S1=true then(f ρ S1).bind fun xs S2=>o x xs S2 else .bad:=id rfl
@[simp] theorem ch_ap{o o':D→D→Sto→Out D}{fa fb fc:Ev D}:ch o o' fa fb fc ρ S=(fa ρ S).bind fun x S1=>(fb ρ S1).bind fun y S2=>(o x y S2).bind fun z S3=>match z with
 | .bl b=>if b=true then(fc ρ S3).bind fun w S4=>o' y w S4 else .ok (.bl false) S3
 | _=>.bad:=id rfl
@[simp] theorem sq_ap{f g:Sv}:sq f g ρ S=match f ρ S with
 | .nx ρ' S'=>g ρ' S'
 | .rt d S'=>.rt d S'
 | .bk ρ' S'=>.bk ρ' S'
 | .ct ρ' S'=>.ct ρ' S'
 | .exc x ρ' S'=>.exc x ρ' S'
 | .bad=>.bad:=id rfl
@[simp] theorem sa_ap{f:Ev D}{g:Tg}:sa f g ρ S=bindS (f ρ S) ρ fun d S1=>match g d ρ with
 | some ρ'=>.nx ρ' S1
 | none=>.bad:=id rfl
@[simp] theorem gn_ap{i:Nat}{d:D}:gn i d ρ=some (ρ.set i (some d)):=id rfl
@[simp] theorem sret_ap{f:Ev D}:sret f ρ S=bindS (f ρ S) ρ fun d S1=>.rt d S1:=id rfl
@[simp] theorem sif_ap{c:Ev Bool}{f g:Sv}:sif c f g ρ S=bindS (c ρ S) ρ fun b S1=>if b=true then f ρ S1 else g ρ S1:=id rfl
@[simp] theorem sx_ap{f:Ev D}:sx f ρ S=bindS (f ρ S) ρ fun _ S1=>.nx ρ S1:=id rfl
@[simp] theorem skip_ap:skip ρ S=.nx ρ S:=id rfl
@[simp] theorem ss_ap{f fo fi:Ev D}{o:D→D→D→Sto→Option Sto}:ss f fo fi o ρ S=bindS (f ρ S) ρ fun d S1=>bindS (fo ρ S1) ρ fun x S2=>bindS (fi ρ S2) ρ fun y S3=>match o x y d S3 with
 | some S4=>.nx ρ S4
 | none=>.bad:=id rfl
@[simp] theorem sag_ap{i:Nat}{g:Int→Int→Int}{f:Ev D}:sag i g f ρ S=match ρ[i]? with
 | some (some (.int a))=>bindS (f ρ S) ρ fun d S1=>match d with
  | .int b=>.nx (ρ.set i (some (.int (g a b)))) S1
  | _=>.bad
 | _=>.bad:=id rfl
@[simp] theorem isrc_ap{f:Ev D}:isrc f ρ S=(f ρ S).bind srcOf:=id rfl
@[simp] theorem sfor_ap{f:Ev Src}{g:Tg}{b:Sv}:sfor f g b ρ S=bindS (f ρ S) ρ fun s S1=>forN s.nxt g b s.fuel 0 ρ S1:=id rfl
section
variable{i j:Int}
@[simp] theorem add_ii:addD (.int i) (.int j) S=.ok (.int (i+j)) S:=id rfl
@[simp] theorem sub_ii:subD (.int i) (.int j) S=.ok (.int (i-j)) S:=id rfl
@[simp] theorem neg_i:negD (.int i) S=.ok (.int (-i)) S:=id rfl
theorem mul_r(h1 : -(2^64)<j)(h2:j<2^64):mulD (.int i) (.int j) S=.ok (.int (i*j)) S:=by
 show(if(-(2^64)<i∧i<2^64)∨(-(2^64)<j∧j<2^64) then Out.ok (D.int (i*j)) S else .bad)=_
 rw[if_pos (.inr ⟨h1,h2⟩)]
theorem mul_l(h1 : -(2^64)<i)(h2:i<2^64):mulD (.int i) (.int j) S=.ok (.int (i*j)) S:=by
 show(if(-(2^64)<i∧i<2^64)∨(-(2^64)<j∧j<2^64) then Out.ok (D.int (i*j)) S else .bad)=_
 rw[if_pos (.inl ⟨h1,h2⟩)]
theorem mod_ii(h:0<j):modD (.int i) (.int j) S=.ok (.int (i%j)) S:=by
 show(if decide (0<j)=true then Out.ok (D.int (i%j)) S else .bad)=_
 rw[if_pos (by simpa using h)]
theorem div_ii(h:0<j)(h2:j<2^200):divD2 (.int i) (.int j) S=.ok (.int (i / j)) S:=by
 show(if decide (0<j∧j<2^200)=true then Out.ok (D.int (i / j)) S else .bad)=_
 rw[if_pos (decide_eq_true ⟨h,h2⟩)]
theorem pow_nn{n:Nat}(h:(n:Int)≤1000000)(h2:i.natAbs<2^64):powD (.int i) (.int n) S=.ok (.int (i^n)) S:=by
 show(if decide (0≤(n:Int)∧(n:Int)≤1000000∧i.natAbs<2^64)=true then Out.ok (D.int (i^(n:Int).toNat)) S else .bad)=_
 rw[if_pos (decide_eq_true ⟨by omega,h,h2⟩)]
 rfl
@[simp] theorem pow_6:powD (.int 10) (.int 6) S=.ok (.int 1000000) S:=pow_nn (n:=6) (by decide) (by decide)
@[simp] theorem pow_15:powD (.int 10) (.int 15) S=.ok (.int 1000000000000000) S:=pow_nn (n:=15) (by decide) (by decide)
@[simp] theorem pow_18:powD (.int 10) (.int 18) S=.ok (.int 1000000000000000000) S:=pow_nn (n:=18) (by decide) (by decide)
@[simp] theorem lt_ii:ltD (.int i) (.int j) S=.ok (.bl (decide (i<j))) S:=id rfl
@[simp] theorem le_ii:leD (.int i) (.int j) S=.ok (.bl (decide (i≤j))) S:=id rfl
@[simp] theorem gt_ii:gtD (.int i) (.int j) S=.ok (.bl (decide (j<i))) S:=id rfl
@[simp] theorem ge_ii:geD (.int i) (.int j) S=.ok (.bl (decide (j≤i))) S:=id rfl
@[simp] theorem min_ii:minD [.int i,.int j] S=.ok (.int (min i j)) S:=by
 show Out.ok (D.int (if j<i then j else i)) S=_
 congr 2
 omega
@[simp] theorem max_ii:maxD [.int i,.int j] S=.ok (.int (max i j)) S:=by
 show Out.ok (D.int (if j>i then j else i)) S=_
 congr 2
 omega
@[simp] theorem eq_ii:eqD (.int i) (.int j) S=.ok (.bl (decide (i=j))) S:=by
 simp only[eqD,toP]
 simp[SeqAt.shaped,PyData.eqv]
 rfl
@[simp] theorem ne_ii:neD (.int i) (.int j) S=.ok (.bl (!decide (i=j))) S:=by
 simp only[neD,toP]
 simp[SeqAt.shaped,PyData.eqv]
 rfl
theorem eq_ss{x y:Str}(hx:PyData.strOk x=true)(hy:PyData.strOk y=true):eqD (.str x) (.str y) S=.ok (.bl (x==y)) S:=by
 simp only[eqD,toP]
 simp[SeqAt.shaped,PyData.eqv,PyData.canLay0,PyData.depth,hx,hy]
end
@[simp] theorem len_t{l:List D}:lenD [.tup l] S=.ok (.int l.length) S:=id rfl
theorem len_l{k:Nat}{c:Cell}(h:S[k]?=some c):lenD [.lst k] S=.ok (.int c.xs.length) S:=by
 show(match S[k]? with | some c=>Out.ok (D.int c.xs.length) S | none=>.bad)=_
 rw[h]
theorem get_l{k:Nat}{c:Cell}{i:Int}{d:D}(h:S[k]?=some c)(e:atI c.xs i=some d):getD (.lst k) (.int i) S=.ok d S:=by
 show(match S[k]? with | some c=>(match atI c.xs i with | some d=>Out.ok d S | none=>.bad) | none=>.bad)=_
 rw[h]
 show(match atI c.xs i with | some d=>Out.ok d S | none=>.bad)=_
 rw[e]
theorem get_t{l:List D}{i:Int}{d:D}(e:atI l i=some d):getD (.tup l) (.int i) S=.ok d S:=by
 show(match atI l i with | some d=>Out.ok d S | none=>.bad)=_
 rw[e]
theorem atI_nn{α:Type}{l:List α}{i:Int}{d:α}(h0:0≤i)(e:l[i.toNat]?=some d):atI l i=some d:=by
 unfold atI ixN
 have:i.toNat<l.length:=(List.getElem?_eq_some_iff.mp e).1
 rw[if_pos h0,if_pos (by omega)]
 exact e
theorem set_l{k:Nat}{xs:List D}{i:Int}{d:D}(h:S[k]?=some ⟨false,xs⟩)(h0:0≤i)(h1:i<xs.length):setD (.lst k) (.int i) d S=some (S.set k ⟨false,xs.set i.toNat d⟩):=by
 show(match S[k]? with | some c=>(match ixN c.xs.length i with | some j=>if c.fz=false then some (S.set k ⟨false,c.xs.set j d⟩) else none | none=>none) | none=>none)=_
 rw[h]
 show(match ixN xs.length i with | some j=>if false=false then some (S.set k ⟨false,xs.set j d⟩) else none | none=>none)=_
 unfold ixN
 rw[if_pos h0,if_pos h1]
 rfl
@[simp] theorem sum_t{l:List Int}:sumD [.tup (l.map D.int)] S=.ok (.int l.sum) S:=by
 have:∀ l:List Int,intsOf (l.map D.int)=some l:=fun l=>by
  induction l with
  | nil=>rfl
  | cons a r ih=>show(intsOf (r.map D.int)).map (a::·)=_; rw[ih]; rfl
 show(match (some (l.map D.int)).bind intsOf with | some ns=>Out.ok (D.int ns.sum) S | none=>.bad)=_
 rw[Option.bind_some,this]
end
end DL
set_option Elab.async false
set_option linter.all false
set_option maxRecDepth 100000
namespace Law
open PySem PySem.Spec PyProof.Rows L2 DL
def fin(o:OS):Out D:=match o with
 | .rt d S'=>.ok d S'
 | .nx _ S'=>.ok .non S'
 | .exc x _ S'=>.exc x S'
 | _=>.bad
theorem fnB_ap{m:Nat}{b:Sv}{ds:List D}{S:Sto}:fnB m b ds S=fin (b (ds.map some++List.replicate (m-ds.length) none) S):=id rfl
@[simp] theorem fin_rt{d:D}{S:Sto}:fin (.rt d S)=.ok d S:=id rfl
theorem fin_nx{f g:Sv}{ρ ρ':Lc}{S S':Sto}(h:f ρ S=.nx ρ' S'):fin (sq f g ρ S)=fin (g ρ' S'):=by rw[sq_ap,h]
theorem fin_ret{f g:Sv}{ρ:Lc}{S S':Sto}{d:D}(h:f ρ S=.rt d S'):fin (sq f g ρ S)=.ok d S':=by rw[sq_ap,h]; rfl
structure Dp(S:Sto)(t k:Nat)(n:Nat):Prop where
 ex:∃ (a b:Int) (xs:List Int),S[t]?=some ⟨false,[.lst k,.int a,.int b]⟩∧S[k]?=some ⟨false,xs.map D.int⟩∧0≤a∧a≤n
 ne:t≠k
structure Kp(S S':Sto)(t k:Nat):Prop where
 len:S.length≤S'.length
 get:∀ i,i<S.length→i≠t→i≠k→S'[i]?=S[i]?
theorem Kp.refl{S:Sto}{t k:Nat}:Kp S S t k:=⟨Nat.le_refl _,fun _ _ _ _=>rfl⟩
theorem Kp.trans{S S1 S2:Sto}{t k:Nat}(a:Kp S S1 t k)(b:Kp S1 S2 t k):Kp S S2 t k:=⟨Nat.le_trans a.len b.len,fun i h h1 h2=>(b.get i (Nat.lt_of_lt_of_le h a.len) h1 h2).trans (a.get i h h1 h2)⟩
theorem Kp.set{S:Sto}{t k j:Nat}{c:Cell}(h:j=t∨j=k):Kp S (S.set j c) t k:=⟨by simp,fun i _ h1 h2=>by
 rw[List.getElem?_set_ne]
 rcases h with h | h
 ·rw[h]; exact Ne.symm h1
 ·rw[h]; exact Ne.symm h2⟩
theorem Kp.app{S:Sto}{t k:Nat}{c:Cell}:Kp S (S++[c]) t k:=⟨by simp,fun i h _ _=>by rw[List.getElem?_append_left h]⟩
theorem Kp.at{S S':Sto}{t k q:Nat}{c:Cell}(a:Kp S S' t k)(e:S[q]?=some c)(h1:q≠t)(h2:q≠k):S'[q]?=some c:=(a.get q (List.getElem?_eq_some_iff.mp e).1 h1 h2).trans e
theorem app_at{S:Sto}{c:Cell}:(S++[c])[S.length]?=some c:=by rw[List.getElem?_append_right (Nat.le_refl _)]; simp
theorem app_old{S:Sto}{c d:Cell}{q:Nat}(e:S[q]?=some d):(S++[c])[q]?=some d:=by
 rw[List.getElem?_append_left (List.getElem?_eq_some_iff.mp e).1]; exact e
theorem Dp.app{S:Sto}{t k n:Nat}{c:Cell}(h:Dp S t k n):Dp (S++[c]) t k n:=by
 obtain⟨⟨a,b,xs,e1,e2,h⟩,ne⟩:=h
 exact⟨⟨a,b,xs,app_old e1,app_old e2,h⟩,ne⟩
theorem Dp.lt{S:Sto}{t k n:Nat}(h:Dp S t k n):t<S.length∧k<S.length:=by
 obtain⟨⟨a,b,xs,e1,e2,h⟩,ne⟩:=h
 exact⟨(List.getElem?_eq_some_iff.mp e1).1,(List.getElem?_eq_some_iff.mp e2).1⟩
theorem Dp.set{S:Sto}{t k q n:Nat}{c:Cell}(h:Dp S t k n)(h1:q≠t)(h2:q≠k):Dp (S.set q c) t k n:=by
 obtain⟨⟨a,b,xs,e1,e2,h⟩,ne⟩:=h
 exact⟨⟨a,b,xs,by rw[List.getElem?_set_ne h1]; exact e1,by rw[List.getElem?_set_ne h2]; exact e2,h⟩,ne⟩
theorem Dp.mono{S:Sto}{t k n m:Nat}(h:Dp S t k n)(hm:n≤m):Dp S t k m:=by
 obtain⟨⟨a,b,xs,e1,e2,h0,h1⟩,ne⟩:=h
 exact⟨⟨a,b,xs,e1,e2,h0,by omega⟩,ne⟩
def dr_b:Sv:=(sq (sif (ta (tb (o2 ltD (vr 3) (b1 lenD (ac (o2 DL.getD (vr 0) (cn (.int 0))) an)))) (tb (o2 geD (vr 4) (o2 powD (cn (.int 10)) (cn (.int 18))))))
  (sq (ss (o2 divD2 (vr 4) (vr 1)) (vr 0) (cn (.int 2)) setD)
  (sret (o2 modD (vr 4) (vr 1))))
  DL.skip)
  (sq (sa (o2 modD (o2 mulD (o2 addD (o2 modD (vr 4) (cn (.int 1000003))) (cn (.int 1))) (o2 addD (o2 addD (o2 mulD (o2 mulD (cn (.int 7919)) (vr 3)) (vr 3)) (o2 mulD (cn (.int 104729)) (vr 3))) (cn (.int 12345)))) (cn (.int 2147483647))) (gn 5))
  (sq (sa (o2 modD (o2 addD (o2 addD (o2 mulD (vr 5) (vr 5)) (o2 mulD (cn (.int 48271)) (vr 3))) (o2 modD (vr 4) (cn (.int 65537)))) (cn (.int 2147483629))) (gn 5))
  (sret (o2 modD (o2 divD2 (vr 5) (cn (.int 8))) (vr 1))))))
theorem drb_ok{S:Sto}{t k n:Nat}{m a b c:Int}{xs:List Int}{g2:Option D}(e1:S[t]?=some ⟨false,[.lst k,.int (a+1),.int b]⟩)(e2:S[k]?=some ⟨false,xs.map D.int⟩)(ne:t≠k)(ha:0≤a)(han:a≤n)(hn:n<2^60)(hm:0<m)(hm2:m<2^200):
  ∃ r S',fin (dr_b [some (.lst t),some (.int m),g2,some (.int a),some (.int c),none] S)=.ok (.int r) S'∧0≤r∧r<m∧Dp S' t k (n+1)∧Kp S S' t k:=by
 have g0:DL.getD (.lst t) (.int 0) S=.ok (.lst k) S:=get_l e1 rfl
 have ln:lenD [.lst k] S=.ok (.int xs.length) S:=by rw[len_l e2]; simp
 have lt:t<S.length:=(List.getElem?_eq_some_iff.mp e1).1
 have s2:setD (.lst t) (.int 2) (.int (c / m)) S=some (S.set t ⟨false,[.lst k,.int (a+1),.int (c / m)]⟩):=set_l e1 (by decide) (by simp)
 by_cases h:a<xs.length∧1000000000000000000≤c
 ·refine⟨c%m,S.set t ⟨false,[.lst k,.int (a+1),.int (c / m)]⟩,?_,Int.emod_nonneg _ (by omega),Int.emod_lt_of_pos _ hm,⟨⟨a+1,c / m,xs,List.getElem?_set_self lt,by rw[List.getElem?_set_ne ne]; exact e2,by omega,by omega⟩,ne⟩,Kp.set (.inl rfl)⟩
  unfold dr_b
  exact fin_ret (by simp[g0,ln,h.1,h.2,div_ii hm hm2,s2,mod_ii hm])
 ·have sqr:∀ x:Int,mulD (.int (x%2147483647)) (.int (x%2147483647)) S=.ok (.int (x%2147483647*(x%2147483647))) S:=fun x=>mul_r (by omega) (by omega)
  have m1:mulD (.int (7919*a)) (.int a) S=.ok (.int (7919*a*a)) S:=mul_r (by omega) (by omega)
  have m2:∀ y:Int,mulD (.int (c%1000003+1)) (.int y) S=.ok (.int ((c%1000003+1)*y)) S:=fun y=>mul_l (by omega) (by omega)
  obtain⟨z,hz⟩:∃ z:Int,z=((c%1000003+1)*(7919*a*a+104729*a+12345))%2147483647:=⟨_,rfl⟩
  obtain⟨y,hy⟩:∃ y:Int,y=(z*z+48271*a+c%65537)%2147483629:=⟨_,rfl⟩
  have mz:mulD (.int z) (.int z) S=.ok (.int (z*z)) S:=by rw[hz]; exact sqr _
  have e1':sif (ta (tb (o2 ltD (vr 3) (b1 lenD (ac (o2 DL.getD (vr 0) (cn (.int 0))) an)))) (tb (o2 geD (vr 4) (o2 powD (cn (.int 10)) (cn (.int 18)))))) (sq (ss (o2 divD2 (vr 4) (vr 1)) (vr 0) (cn (.int 2)) setD) (sret (o2 modD (vr 4) (vr 1)))) DL.skip [some (.lst t),some (.int m),g2,some (.int a),some (.int c),none] S=.nx [some (.lst t),some (.int m),g2,some (.int a),some (.int c),none] S:=by
   by_cases c1:a<xs.length
   ·have c2:¬ 1000000000000000000≤c:=fun z=>h ⟨c1,z⟩
    simp[g0,ln,c1,c2]
   ·simp[g0,ln,c1]
  refine⟨y / 8%m,S,?_,Int.emod_nonneg _ (by omega),Int.emod_lt_of_pos _ hm,⟨⟨a+1,b,xs,e1,e2,by omega,by omega⟩,ne⟩,.refl⟩
  unfold dr_b
  rw[fin_nx e1']
  refine(fin_nx (ρ':=[some (.lst t),some (.int m),g2,some (.int a),some (.int c),some (.int z)]) (S':=S) (by rw[hz]; simp[mod_ii,mul_l,m1,m2])).trans ?_
  refine(fin_nx (ρ':=[some (.lst t),some (.int m),g2,some (.int a),some (.int c),some (.int y)]) (S':=S) (by rw[hy]; simp[mod_ii,mul_l,mz])).trans ?_
  simp[div_ii,mod_ii hm]
theorem draw_ok{S:Sto}{t k n:Nat}{m:Int}(h:Dp S t k n)(hn:n<2^60)(hm:0<m)(hm2:m<2^200):∃ r S',f__law_draw [.lst t,.int m] S=.ok (.int r) S'∧0≤r∧r<m∧Dp S' t k (n+1)∧Kp S S' t k:=by
 obtain⟨⟨a,b,xs,e1,e2,ha,han⟩,ne⟩:=h
 have lt:t<S.length:=(List.getElem?_eq_some_iff.mp e1).1
 have g1:DL.getD (.lst t) (.int 1) S=.ok (.int a) S:=get_l e1 rfl
 have g2:DL.getD (.lst t) (.int 2) S=.ok (.int b) S:=get_l e1 rfl
 have s1:setD (.lst t) (.int 1) (.int (a+1)) S=some (S.set t ⟨false,[.lst k,.int (a+1),.int b]⟩):=set_l e1 (by decide) (by simp)
 have s2:setD (.lst t) (.int 2) (.int (b / m)) S=some (S.set t ⟨false,[.lst k,.int a,.int (b / m)]⟩):=set_l e1 (by decide) (by simp)
 have hf:∀ X,f__law_draw [.lst t,.int m] S=X↔fin (b__law_draw [some (.lst t),some (.int m),none,none,none,none] S)=X:=fun X=>by rw[show f__law_draw [.lst t,.int m] S=fin (b__law_draw [some (.lst t),some (.int m),none,none,none,none] S) from fnB_ap (m:=6) (b:=b__law_draw)]
 by_cases c:0<b
 ·refine⟨b%m,S.set t ⟨false,[.lst k,.int a,.int (b / m)]⟩,(hf _).mpr ?_,Int.emod_nonneg _ (by omega),Int.emod_lt_of_pos _ hm,⟨⟨a,b / m,xs,List.getElem?_set_self lt,by rw[List.getElem?_set_ne ne]; exact e2,ha,by omega⟩,ne⟩,Kp.set (.inl rfl)⟩
  unfold b__law_draw
  exact fin_ret (by simp[g2,c,mod_ii hm,div_ii hm hm2,s2])
 ·have e1':(S.set t ⟨false,[.lst k,.int (a+1),.int b]⟩)[t]?=some ⟨false,[.lst k,.int (a+1),.int b]⟩:=List.getElem?_set_self lt
  have e2':(S.set t ⟨false,[.lst k,.int (a+1),.int b]⟩)[k]?=some ⟨false,xs.map D.int⟩:=by rw[List.getElem?_set_ne ne]; exact e2
  have kp:Kp S (S.set t ⟨false,[.lst k,.int (a+1),.int b]⟩) t k:=Kp.set (.inl rfl)
  generalize S.set t ⟨false,[.lst k,.int (a+1),.int b]⟩=S1 at *
  have g0:DL.getD (.lst t) (.int 0) S1=.ok (.lst k) S1:=get_l e1' rfl
  have ln:lenD [.lst k] S1=.ok (.int xs.length) S1:=by rw[len_l e2']; simp
  obtain⟨cl',ec⟩:∃ cl':Int,sif (tb (o2 gtD (b1 lenD (ac (o2 DL.getD (vr 0) (cn (.int 0))) an)) (cn (.int 0)))) (sa (o2 DL.getD (o2 DL.getD (vr 0) (cn (.int 0))) (o2 modD (vr 3) (b1 lenD (ac (o2 DL.getD (vr 0) (cn (.int 0))) an)))) (gn 4)) DL.skip [some (.lst t),some (.int m),none,some (.int a),some (.int 0),none] S1=.nx [some (.lst t),some (.int m),none,some (.int a),some (.int cl'),none] S1:=by
   by_cases c2:0<xs.length
   ·have c3:(0:Int)<xs.length:=by omega
    have lti:(a%(xs.length:Int)).toNat<xs.length:=by
     have:=Int.emod_lt_of_pos a c3
     have:=Int.emod_nonneg a (by omega:(xs.length:Int)≠0)
     omega
    have gi:DL.getD (.lst k) (.int (a%(xs.length:Int))) S1=.ok (.int xs[(a%(xs.length:Int)).toNat]) S1:=get_l e2' (atI_nn (Int.emod_nonneg a (by omega)) (by simp[lti]))
    exact⟨xs[(a%(xs.length:Int)).toNat],by simp[g0,ln,c2,mod_ii c3,gi]⟩
   ·exact⟨0,by simp[g0,ln,c2]⟩
  obtain⟨r,S',h1,h2,h3,h4,h5⟩:=drb_ok (c:=cl') (g2:=none) e1' e2' ne ha han hn hm hm2
  refine⟨r,S',(hf _).mpr ?_,h2,h3,h4,kp.trans h5⟩
  unfold b__law_draw
  refine(fin_nx (ρ':=[some (.lst t),some (.int m),none,none,none,none]) (S':=S) (by simp[g2,c])).trans ?_
  refine(fin_nx (ρ':=[some (.lst t),some (.int m),none,some (.int a),none,none]) (S':=S) (by simp[g1])).trans ?_
  refine(fin_nx (ρ':=[some (.lst t),some (.int m),none,some (.int a),none,none]) (S':=S1) (by simp[s1])).trans ?_
  refine(fin_nx (ρ':=[some (.lst t),some (.int m),none,some (.int a),some (.int 0),none]) (S':=S1) (by simp)).trans ?_
  rw[fin_nx ec]
  exact h1
end Law
set_option Elab.async false
set_option linter.all false
set_option maxRecDepth 100000
namespace Law
open PySem PySem.Spec PyProof.Rows L2 DL
theorem pick{S S1:Sto}{t k:Nat}{xs:List D}{r:Int}{x:D}(s:Kp (S++[⟨false,xs⟩]) S1 t k)(h:t<S.length∧k<S.length)(e:atI xs r=some x):DL.getD (.lst S.length) (.int r) S1=.ok x S1:=
 get_l (c:=⟨false,xs⟩) (s.at app_at (by omega) (by omega)) e
theorem pick_ok{S:Sto}{t k n:Nat}{xs:List D}{m:Int}(h:Dp S t k n)(hn:n<2^60)(hm:m=xs.length)(h0:0<xs.length)(h1:xs.length<1000):∃ r x S1,f__law_draw [.lst t,.int m] (S++[⟨false,xs⟩])=.ok (.int r) S1∧DL.getD (.lst S.length) (.int r) S1=.ok x S1∧x∈xs∧Dp S1 t k (n+1)∧Kp S S1 t k:=by
 obtain⟨r,S1,e1,r0,r1,d1,k1⟩:=draw_ok (m:=m) (h.app (c:=⟨false,xs⟩)) hn (by omega) (by omega)
 have hlt:r.toNat<xs.length:=by omega
 have ea:atI xs r=some xs[r.toNat]:=atI_nn r0 (by simp[hlt])
 exact⟨r,_,S1,e1,pick k1 h.lt ea,List.getElem_mem hlt,d1,Kp.app.trans k1⟩
inductive Pl where
 | e | c | p (br de ro:Int) (pr:D)
def Pl.toD:Pl→D
 | .e=>.tup [.str "end"]
 | .c=>.tup [.str "chamber"]
 | .p br de ro pr=>.tup [.str "pound",.int br,.int de,.int ro,pr]
def Pl.ok:Pl→Prop
 | .p br de ro pr=>1≤br∧br≤9∧0≤de∧de≤br∧1≤ro∧ro≤4∧(pr=.non∨∃ i,pr=.int i∧0≤i∧i≤99)
 | _=>True
theorem pound_ok{S:Sto}{t k n:Nat}(h:Dp S t k n)(hn:n<2^59):∃ br de ro pr S',f__law_pound [.lst t] S=.ok (Pl.toD (.p br de ro pr)) S'∧Pl.ok (.p br de ro pr)∧Dp S' t k (n+9)∧Kp S S' t k:=by
 obtain⟨a1,S1,e1,a10,a11,d1,k1⟩:=draw_ok (m:=9) h (by omega) (by decide) (by decide)
 obtain⟨r2,x2,S2,e2,p2,m2,d2,k2⟩:=pick_ok (xs:=[.int 1,.int 2,.int 3,.int (1+a1)]) (m:=4) d1 (by omega) rfl (by simp) (by simp)
 obtain⟨br,hbr,br0,br1⟩:∃ i:Int,x2=.int i∧1≤i∧i≤9:=by
  simp only[List.mem_cons,List.mem_nil_iff,or_false] at m2
  rcases m2 with rfl | rfl | rfl | rfl
  ·exact⟨_,rfl,by decide,by decide⟩
  ·exact⟨_,rfl,by decide,by decide⟩
  ·exact⟨_,rfl,by decide,by decide⟩
  ·exact⟨_,rfl,by omega,by omega⟩
 subst hbr
 obtain⟨a3,S3,e3,a30,a31,d3,k3⟩:=draw_ok (m:=10) d2 (by omega) (by decide) (by decide)
 obtain⟨r4,x4,S4,e4,p4,m4,d4,k4⟩:=pick_ok (xs:=[.int 0,.int 0,.int 1,.int a3]) (m:=4) d3 (by omega) rfl (by simp) (by simp)
 obtain⟨de,hde,de0⟩:∃ i:Int,x4=.int i∧0≤i:=by
  simp only[List.mem_cons,List.mem_nil_iff,or_false] at m4
  rcases m4 with rfl | rfl | rfl | rfl
  ·exact⟨_,rfl,by decide⟩
  ·exact⟨_,rfl,by decide⟩
  ·exact⟨_,rfl,by decide⟩
  ·exact⟨_,rfl,a30⟩
 subst hde
 obtain⟨a5,S5,e5,a50,a51,d5,k5⟩:=draw_ok (m:=4) d4 (by omega) (by decide) (by decide)
 obtain⟨r6,x6,S6,e6,p6,m6,d6,k6⟩:=pick_ok (xs:=[.int 1,.int 2,.int (1+a5)]) (m:=3) d5 (by omega) rfl (by simp) (by simp)
 obtain⟨ro,hro,ro0,ro1⟩:∃ i:Int,x6=.int i∧1≤i∧i≤4:=by
  simp only[List.mem_cons,List.mem_nil_iff,or_false] at m6
  rcases m6 with rfl | rfl | rfl
  ·exact⟨_,rfl,by decide,by decide⟩
  ·exact⟨_,rfl,by decide,by decide⟩
  ·exact⟨_,rfl,by omega,by omega⟩
 subst hro
 obtain⟨a7,S7,e7,a70,a71,d7,k7⟩:=draw_ok (m:=100) d6 (by omega) (by decide) (by decide)
 obtain⟨a8,S8,e8,a80,a81,d8,k8⟩:=draw_ok (m:=5) d7 (by omega) (by decide) (by decide)
 obtain⟨r9,pr,S9,e9,p9,m9,d9,k9⟩:=pick_ok (xs:=[.non,.int a7,.int (1+a8),.int 0]) (m:=4) d8 (by omega) rfl (by simp) (by simp)
 have hpr:pr=.non∨∃ i:Int,pr=.int i∧0≤i∧i≤99:=by
  simp only[List.mem_cons,List.mem_nil_iff,or_false] at m9
  rcases m9 with rfl | rfl | rfl | rfl
  ·exact .inl rfl
  ·exact .inr ⟨_,rfl,by omega,by omega⟩
  ·exact .inr ⟨_,rfl,by omega,by omega⟩
  ·exact .inr ⟨_,rfl,by omega,by omega⟩
 refine⟨br,min br de,ro,pr,S9,?_,⟨br0,br1,by omega,by omega,ro0,ro1,hpr⟩,d9,k1.trans (k2.trans (k3.trans (k4.trans (k5.trans (k6.trans (k7.trans (k8.trans k9)))))))⟩
 simp[f__law_pound,fnB,b__law_pound,e1,e2,p2,e3,e4,p4,e5,e6,p6,e7,e8,e9,p9,Pl.toD]
theorem app_l{S:Sto}{q:Nat}{xs:List D}{d:D}(e:S[q]?=some ⟨false,xs⟩)(h:xs.length<1000000):appD (.lst q) [d] S=.ok .non (S.set q ⟨false,xs++[d]⟩):=by
 simp only[appD,e]
 simp[h]
theorem isL{S:Sto}{q:Nat}{c:Cell}(e:S[q]?=some c):isLst (.lst q) S=true:=by simp only[isLst,e]
end Law
set_option Elab.async false
set_option linter.all false
set_option maxRecDepth 100000
namespace Law
open PySem PySem.Spec PyProof.Rows L2 DL
theorem for_inv{nxt:Nat→Sto→Option D}{g:Tg}{b:Sv}{l:List D}(I:Nat→Lc→Sto→Prop)(hn:∀ k ρ S,I k ρ S→nxt k S=l[k]?)(hs:∀ k d ρ S,l[k]?=some d→I k ρ S→∃ ρ1 ρ2 S2,g d ρ=some ρ1∧b ρ1 S=.nx ρ2 S2∧I (k+1) ρ2 S2):
  ∀ (n k:Nat) (ρ:Lc) (S:Sto),k≤l.length→I k ρ S→l.length<n+k→∃ ρ' S',forN nxt g b n k ρ S=.nx ρ' S'∧I l.length ρ' S'
 | 0,k,ρ,S,h1,_,h2=>by omega
 | n+1,k,ρ,S,h1,hI,h2=>by
  unfold forN
  rw[hn k ρ S hI]
  cases z:l[k]? with
  | none=>
   have:k=l.length:=by have:=List.getElem?_eq_none_iff.mp z; omega
   subst this
   exact⟨ρ,S,rfl,hI⟩
  | some d=>
   obtain⟨ρ1,ρ2,S2,h3,h4,h5⟩:=hs k d ρ S z hI
   have hk:k<l.length:=(List.getElem?_eq_some_iff.mp z).1
   obtain⟨ρ',S',h6,h7⟩:=for_inv I hn hs n (k+1) ρ2 S2 hk h5 (by omega)
   refine⟨ρ',S',?_,h7⟩
   simp only[h3,h4]
   exact h6
def srcT(l:List D):Src:=⟨fun k _=>l[k]?,l.length+1⟩
def srcL(i n:Nat):Src:=⟨fun k S=>(S[i]?).bind fun c=>c.xs[k]?,n+1⟩
theorem src_t{l:List D}{S:Sto}:srcOf (.tup l) S=.ok (srcT l) S:=id rfl
theorem src_l{i:Nat}{c:Cell}{S:Sto}(e:S[i]?=some c):srcOf (.lst i) S=.ok (srcL i c.xs.length) S:=by
 simp only[srcOf,e]
 rfl
theorem fuelT{l:List D}:l.length<(srcT l).fuel+0:=Nat.lt_succ_self _
theorem rng_get{n k:Nat}{S:Sto}:(rsrc 0 n).nxt k S=((List.range n).map fun k:Nat=>D.int (k:Int))[k]?:=by
 show(if k<n then some (D.int (0+k)) else none)=_
 rw[List.getElem?_map]
 by_cases c:k<n
 ·rw[if_pos c,List.getElem?_range c]; simp
 ·rw[if_neg c,List.getElem?_eq_none (by simp; omega)]; rfl
theorem rng_of{n k:Nat}{d:D}(h:((List.range n).map fun k:Nat=>D.int (k:Int))[k]?=some d):k<n∧d=.int k:=by
 have hk:k<n:=by have:=(List.getElem?_eq_some_iff.mp h).1; simpa using this
 rw[List.getElem?_map,List.getElem?_range hk] at h
 exact⟨hk,(Option.some.inj h).symm⟩
theorem ir1_ok{f:Ev (List D)}{ρ:Lc}{S S':Sto}{n:Nat}(h:f ρ S=.ok [.int n] S')(hn:n≤1000000):ir1 f ρ S=.ok (rsrc 0 n) S':=by
 unfold ir1
 rw[h]
 show(if -1000000000000≤(n:Int)∧(n:Int)≤1000000000000 then Out.ok (rsrc 0 (n:Int).toNat) S' else .bad)=_
 rw[if_pos (by omega)]; rfl
theorem Kp.setq{S0 S:Sto}{t k q:Nat}{c:Cell}(a:Kp S0 S t k)(h:S0.length≤q):Kp S0 (S.set q c) t k:=⟨by simp; exact a.len,fun i hi h1 h2=>by
 rw[List.getElem?_set_ne (by omega)]; exact a.get i hi h1 h2⟩
theorem add_ll{S:Sto}{i j:Nat}{a b:List D}(h1:S[i]?=some ⟨false,a⟩)(h2:S[j]?=some ⟨false,b⟩)(h:a.length+b.length≤1000000):addD (.lst i) (.lst j) S=.ok (.lst S.length) (S++[⟨false,a++b⟩]):=by
 simp only[addD,h1,h2]
 simp[h]
theorem mul_rep{S:Sto}{i:Nat}{d:D}{n:Nat}(e:S[i]?=some ⟨false,[d]⟩)(hn:n≤1000):mulD (.lst i) (.int n) S=.ok (.lst S.length) (S++[⟨false,List.replicate n d⟩]):=by
 have fl:∀ n:Nat,(List.replicate n [d]).flatten=List.replicate n d:=fun n=>by
  induction n with
  | zero=>rfl
  | succ n ih=>rw[List.replicate_succ,List.flatten_cons,ih]; rfl
 simp only[mulD,e]
 rw[if_pos (by simp; omega)]
 simp[fl]
theorem tup_l{S:Sto}{q:Nat}{c:Cell}(e:S[q]?=some c):tupD [.lst q] S=.ok (.tup c.xs) S:=by
 simp only[tupD,e]
def Pl.isC:Pl→Bool
 | .c=>true
 | _=>false
def Pl.isE:Pl→Bool
 | .e=>true
 | _=>false
theorem stok(s:String):PyData.strOk (Str.ofString s)=true:=by
 unfold PyData.strOk
 have hc:∀ c:Char,c.toNat<1114112:=fun c=>by
  rcases c.valid with h | ⟨_,h⟩
  ·exact Nat.lt_of_lt_of_le h (by decide)
  ·exact h
 rw[Str.ofString_eq_toList]
 simp[hc]
theorem eq_cham{p:Pl}{S:Sto}(h:p.ok):eqD p.toD (.tup [.str "chamber"]) S=.ok (.bl p.isC) S:=by
 have n1:(Str.ofString "end"==Str.ofString "chamber")=false:=by decide +kernel
 have n2:(Str.ofString "pound"==Str.ofString "chamber")=false:=by decide +kernel
 cases p with
 | e=>simp[Pl.toD,eqD,toP,mapO,SeqAt.shaped,PyData.canLay0,PyData.canLayAll0,PyData.depth,PyData.depthAll,stok,PyData.eqv,PyData.eqvAll,n1,Pl.isC]
 | c=>simp[Pl.toD,eqD,toP,mapO,SeqAt.shaped,PyData.canLay0,PyData.canLayAll0,PyData.depth,PyData.depthAll,stok,PyData.eqv,PyData.eqvAll,Pl.isC]
 | p br de ro pr=>
  obtain⟨_,_,_,_,_,_,h⟩:=h
  rcases h with rfl | ⟨i,rfl,_⟩
  ·simp[Pl.toD,eqD,toP,mapO,SeqAt.shaped,PyData.canLay0,PyData.canLayAll0,PyData.depth,PyData.depthAll,stok,PyData.eqv,PyData.eqvAll,n2,Pl.isC]
  ·simp[Pl.toD,eqD,toP,mapO,SeqAt.shaped,PyData.canLay0,PyData.canLayAll0,PyData.depth,PyData.depthAll,stok,PyData.eqv,PyData.eqvAll,n2,Pl.isC]
theorem eq_end{p:Pl}{S:Sto}(h:p.ok):eqD p.toD (.tup [.str "end"]) S=.ok (.bl p.isE) S:=by
 have n1:(Str.ofString "chamber"==Str.ofString "end")=false:=by decide +kernel
 have n2:(Str.ofString "pound"==Str.ofString "end")=false:=by decide +kernel
 cases p with
 | e=>simp[Pl.toD,eqD,toP,mapO,SeqAt.shaped,PyData.canLay0,PyData.canLayAll0,PyData.depth,PyData.depthAll,stok,PyData.eqv,PyData.eqvAll,Pl.isE]
 | c=>simp[Pl.toD,eqD,toP,mapO,SeqAt.shaped,PyData.canLay0,PyData.canLayAll0,PyData.depth,PyData.depthAll,stok,PyData.eqv,PyData.eqvAll,n1,Pl.isE]
 | p br de ro pr=>
  obtain⟨_,_,_,_,_,_,h⟩:=h
  rcases h with rfl | ⟨i,rfl,_⟩
  ·simp[Pl.toD,eqD,toP,mapO,SeqAt.shaped,PyData.canLay0,PyData.canLayAll0,PyData.depth,PyData.depthAll,stok,PyData.eqv,PyData.eqvAll,n2,Pl.isE]
  ·simp[Pl.toD,eqD,toP,mapO,SeqAt.shaped,PyData.canLay0,PyData.canLayAll0,PyData.depth,PyData.depthAll,stok,PyData.eqv,PyData.eqvAll,n2,Pl.isE]
theorem canal_step{S0 S:Sto}{t k q:Nat}{n:Nat}{most many:Int}{ps:List Pl}{i:Nat}{g4 g5:Option D}(hd:Dp S t k n)(hk:Kp S0 S t k)(hq:S0.length≤q)(hqt:q≠t)(hqk:q≠k)(hn:n<2^58)(eq':S[q]?=some ⟨false,ps.map Pl.toD⟩)(hp:∀ p∈ps,p.ok)(hne:ps≠[])(hl:ps.length<1000):
  ∃ p S' g5',lb__law_canal_1 [some (.lst t),some (.int most),some (.int many),some (.lst q),some (.int i),g5,none,none] S=.nx [some (.lst t),some (.int most),some (.int many),some (.lst q),some (.int i),g5',none,none] S'∧Pl.ok p∧p.isE=false∧(p.isC=true∨((ps.getLast hne).isC=true∧(i:Int)<many-1))∧S'[q]?=some ⟨false,(ps++[p]).map Pl.toD⟩∧Dp S' t k (n+10)∧Kp S0 S' t k:=by
 have lq:q<S.length:=(List.getElem?_eq_some_iff.mp eq').1
 obtain⟨b,eb,hb⟩:∃ b:Bool,sa (va (o2 ltD (cn (.int 0)) (vr 4)) (va (o2 ltD (vr 4) (o2 subD (vr 2) (cn (.int 1)))) (o2 eqD (o2 DL.getD (vr 3) (o1 negD (cn (.int 1)))) (tp (ac (cn (.str "chamber")) an))))) (gn 5) [some (.lst t),some (.int most),some (.int many),some (.lst q),some (.int i),g5,none,none] S=.nx [some (.lst t),some (.int most),some (.int many),some (.lst q),some (.int i),some (.bl b),none,none] S∧(b=true→(ps.getLast hne).isC=true∧(i:Int)<many-1):=by
  have hlast:DL.getD (.lst q) (.int (-1)) S=.ok (Pl.toD (ps.getLast hne)) S:=by
   refine get_l eq' ?_
   have:0<ps.length:=List.length_pos_iff.mpr hne
   show(ixN (ps.map Pl.toD).length (-1)).bind (fun j=>(ps.map Pl.toD)[j]?)=_
   unfold ixN
   rw[if_neg (by decide),if_pos (by simp; omega),Option.bind_some]
   have:((-1:Int)+((ps.map Pl.toD).length:Nat)).toNat=ps.length-1:=by simp; omega
   rw[this,List.getElem?_map,List.getElem?_eq_getElem (by omega),List.getLast_eq_getElem]
   rfl
  have ec:=eq_cham (S:=S) (hp _ (List.getLast_mem hne))
  by_cases c1:0<i
  ·by_cases c2:(i:Int)<many-1
   ·exact⟨(ps.getLast hne).isC,by simp[c1,c2,hlast,ec],fun z=>⟨z,c2⟩⟩
   ·exact⟨false,by simp[c1,c2],fun z=>nomatch z⟩
  ·exact⟨false,by simp[c1],fun z=>nomatch z⟩
 have fin1:∀ (S1:Sto) (m:Nat),Dp S1 t k m→m≤n+1→Kp S0 S1 t k→S1[q]?=some ⟨false,ps.map Pl.toD⟩→∃ S',sx (mt appD (vr 3) (ac (tp (ac (cn (.str "chamber")) an)) an)) [some (.lst t),some (.int most),some (.int many),some (.lst q),some (.int i),some (.bl b),none,none] S1=.nx [some (.lst t),some (.int most),some (.int many),some (.lst q),some (.int i),some (.bl b),none,none] S'∧S'[q]?=some ⟨false,(ps++[Pl.c]).map Pl.toD⟩∧Dp S' t k (n+10)∧Kp S0 S' t k:=by
  intro S1 m d1 hm k1 e1
  have ap:=app_l (d:=.tup [.str "chamber"]) e1 (by simp; omega)
  have lq1:q<S1.length:=(List.getElem?_eq_some_iff.mp e1).1
  refine⟨S1.set q ⟨false,ps.map Pl.toD++[.tup [.str "chamber"]]⟩,?_,?_,(d1.set hqt hqk).mono (by omega),k1.setq hq⟩
  ·simp[isL e1,ap]
  ·rw[List.getElem?_set_self lq1,List.map_append]; rfl
 cases b with
 | false=>
  obtain⟨S',e1,e2,e3,e4⟩:=fin1 S n hd (by omega) hk eq'
  refine⟨.c,S',some (.bl false),?_,trivial,rfl,.inl rfl,e2,e3,e4⟩
  unfold lb__law_canal_1
  rw[sq_ap,eb]
  simp only[sif_ap,ta_ap,tt_ap,vr_ap,bind_ok,List.getElem?_cons_zero,List.getElem?_cons_succ,truD,Bool.false_eq_true,if_false,bindS_ok]
  exact e1
 | true=>
  obtain⟨r,S1,e1,r0,r1,d1,k1⟩:=draw_ok (m:=4) hd (by omega) (by decide) (by decide)
  have q1:=k1.at eq' hqt hqk
  by_cases c:0<r
  ·obtain⟨br,de,ro,pr,S2,e2,ok2,d2,k2⟩:=pound_ok d1 (by omega)
   have q2:=k2.at q1 hqt hqk
   have ap:=app_l (d:=Pl.toD (.p br de ro pr)) q2 (by simp; omega)
   have lq2:q<S2.length:=(List.getElem?_eq_some_iff.mp q2).1
   refine⟨.p br de ro pr,S2.set q ⟨false,ps.map Pl.toD++[Pl.toD (.p br de ro pr)]⟩,some (.bl true),?_,ok2,rfl,.inr (hb rfl),?_,(d2.set hqt hqk).mono (by omega),((hk.trans k1).trans k2).setq hq⟩
   ·unfold lb__law_canal_1
    rw[sq_ap,eb]
    simp[truD,e1,c,isL q1,e2,ap]
   ·rw[List.getElem?_set_self lq2,List.map_append]; rfl
  ·obtain⟨S',e4,e5,e6,e7⟩:=fin1 S1 (n+1) d1 (by omega) (hk.trans k1) q1
   refine⟨.c,S',some (.bl true),?_,trivial,rfl,.inl rfl,e5,e6,e7⟩
   unfold lb__law_canal_1
   rw[sq_ap,eb]
   have ct:ta (tt (vr 5)) (tb (o2 gtD (cl 2 (noExc f__law_draw) (ac (vr 0) (ac (cn (.int 4)) an))) (cn (.int 0)))) [some (.lst t),some (.int most),some (.int many),some (.lst q),some (.int i),some (.bl true),none,none] S=.ok false S1:=by simp[truD,e1,c]
   simp only[sif_ap,ct,bindS_ok,Bool.false_eq_true,if_false]
   exact e4
end Law
set_option Elab.async false
set_option linter.all false
set_option maxRecDepth 100000
namespace Law
open PySem PySem.Spec PyProof.Rows L2 DL
theorem cbody_ok{a:Nat}{e:Ev D}{ρ:Lc}{S S2:Sto}{d:D}{xs:List D}(h:e ρ S=.ok d S2)(q:S2[a]?=some ⟨false,xs⟩)(hl:xs.length<1000000):cbody a ttrue e ρ S=.nx ρ (S2.set a ⟨false,xs++[d]⟩):=by
 show bindS (ttrue ρ S) ρ _=_
 show bindS (e ρ S) ρ _=_
 rw[h]
 simp only[bindS_ok,q]
 rw[if_pos (by simp[hl])]
theorem cmp_ok{f:Ev Src}{pk:List (Option Nat)}{g:Tg}{c:Ev Bool}{e:Ev D}{ρ ρ':Lc}{S S1 S':Sto}{s:Src}(h:f ρ S=.ok s S1)(l:forN s.nxt g (cbody S1.length c e) s.fuel 0 (pkS pk ρ) (S1++[⟨false,[]⟩])=.nx ρ' S'):cmp f pk g c e ρ S=.ok (.lst S1.length) S':=by
 unfold cmp
 rw[h]
 simp only[bind_ok,l]
theorem ls1{d:D}{ρ:Lc}{S:Sto}:ls (ac (cn d) an) ρ S=.ok (.lst S.length) (S++[⟨false,[d]⟩]):=by simp
def Adj(xs:List Pl):Prop:=∀ i a b,xs[i]?=some a→xs[i+1]?=some b→a.isC=true∨b.isC=true
theorem Adj.snoc{xs:List Pl}{p:Pl}(h:Adj xs)(hne:xs≠[])(hp:p.isC=true∨(xs.getLast hne).isC=true):Adj (xs++[p]):=by
 intro i a b ha hb
 have h0:0<xs.length:=List.length_pos_iff.mpr hne
 by_cases c:i+1<xs.length
 ·rw[List.getElem?_append_left (by omega)] at ha
  rw[List.getElem?_append_left c] at hb
  exact h i a b ha hb
 ·have hl:=(List.getElem?_eq_some_iff.mp hb).1
  have e:i+1=xs.length:=by simp at hl; omega
  rw[e,List.getElem?_append_right (Nat.le_refl _)] at hb
  have hb:p=b:=by simpa using hb
  subst hb
  rw[List.getElem?_append_left (by omega)] at ha
  have:a=xs.getLast hne:=by
   rw[List.getLast_eq_getElem]
   have:=(List.getElem?_eq_some_iff.mp ha).2
   rw[←this]
   congr 1
   omega
  rw[this]
  exact hp.symm
def GU(gs:List D)(m:Nat):Prop:=gs.length=m+1∧∀ g∈gs,g=.str "up"∨g=.str "down"
theorem canal_ok{S:Sto}{t k n:Nat}{most:Int}(h:Dp S t k n)(hn:n<2^57)(hm0:1≤most)(hm1:most≤11):∃ (mid:List Pl) (gs:List D) (S':Sto),f__law_canal [.lst t,.int most] S=.ok (.tup [.tup ((.e::(mid++[.e])).map Pl.toD),.tup gs]) S'∧(∀ p∈mid,p.ok∧p.isE=false)∧Adj (Pl.e::(mid++[Pl.e]))∧GU gs mid.length∧1≤mid.length∧mid.length≤11∧Dp S' t k (n+200)∧Kp S S' t k:=by
 obtain⟨r1,S1,e1,r10,r11,d1,k1⟩:=draw_ok (m:=most) h (by omega) (by omega) (by omega)
 obtain⟨mn,hmn⟩:∃ m:Nat,1+r1=m:=⟨(1+r1).toNat,by omega⟩
 have lt1:=d1.lt
 have d2:=d1.app (c:=⟨false,[.tup [.str "end"]]⟩)
 have q2:(S1++[(⟨false,[.tup [.str "end"]]⟩:Cell)])[S1.length]?=some ⟨false,[.tup [.str "end"]]⟩:=app_at
 have k2:Kp S1 (S1++[(⟨false,[.tup [.str "end"]]⟩:Cell)]) t k:=Kp.app
 generalize hS2:S1++[(⟨false,[.tup [.str "end"]]⟩:Cell)]=S2 at *
 obtain⟨ρ3,S3,ef,mid,g4,g5,eρ,q3,l3,ok3,wt3,d3,k3⟩:=for_inv (nxt:=(rsrc 0 mn).nxt) (g:=gn 4) (b:=lb__law_canal_1) (l:=(List.range mn).map fun k:Nat=>D.int (k:Int))
  (fun i ρ S'=>∃ mid g4 g5,ρ=[some (.lst t),some (.int most),some (.int mn),some (.lst S1.length),g4,g5,none,none]∧S'[S1.length]?=some ⟨false,(Pl.e::mid).map Pl.toD⟩∧mid.length=i∧(∀ p∈mid,p.ok∧p.isE=false)∧(Adj (Pl.e::mid)∧(mid.length=mn→0<mid.length→((Pl.e::mid).getLast (by simp)).isC=true))∧Dp S' t k (n+1+10*i)∧Kp S1 S' t k)
  (fun i _ S _=>rng_get) (fun i d ρ S' hd ⟨mid,g4,g5,h1,h2,h3,h4,hw,h5,h6⟩=>by
   obtain⟨hi,rfl⟩:=rng_of hd
   subst h1
   obtain⟨p,S'',g5',c1,c2,c3,cc,c4,c5,c6⟩:=canal_step (S0:=S1) (q:=S1.length) (most:=most) (many:=mn) (i:=i) (g4:=g4) (g5:=g5) (ps:=.e::mid) h5 h6 (Nat.le_refl _) (by omega) (by omega) (by omega) h2 (fun p hp=>by
    rcases List.mem_cons.mp hp with rfl | hp
    ·trivial
    ·exact(h4 p hp).1) (by simp) (by simp; omega)
   refine⟨_,_,S'',rfl,c1,mid++[p],some (.int i),g5',rfl,c4,by simp[h3],fun p' hp'=>?_,⟨hw.1.snoc (by simp) (cc.imp id (fun z=>z.1)),fun hl _=>by rw[show(Pl.e::(mid++[p])).getLast (by simp)=p from List.getLast_concat (l:=Pl.e::mid)]; exact cc.resolve_right (fun z=>by have:=z.2; simp at hl; omega)⟩,c5.mono (by omega),c6⟩
   rcases List.mem_append.mp hp' with hp' | hp'
   ·exact h4 p' hp'
   ·have:p'=p:=by simpa using hp'
    subst this
    exact⟨c2,c3⟩) (mn+1) 0 [some (.lst t),some (.int most),some (.int mn),some (.lst S1.length),none,none,none,none] S2 (Nat.zero_le _) ⟨[],none,none,rfl,q2,rfl,(fun p hp=>by cases hp),⟨fun i a b ha hb=>by simp at hb,fun _ z=>absurd z (by simp)⟩,d2,k2⟩ (by simp)
 have hlen:((List.range mn).map fun k:Nat=>D.int (k:Int)).length=mn:=by simp
 rw[hlen] at l3 d3
 have hd3:n+1+10*mn≤n+111:=by omega
 obtain⟨r4,S4,e4,r40,r41,d4,k4⟩:=draw_ok (m:=mn) (d3.mono hd3) (by omega) (by omega) (by omega)
 obtain⟨tn,htn⟩:∃ m:Nat,1+r4=m:=⟨(1+r4).toNat,by omega⟩
 have q4:=k4.at q3 (by omega) (by omega)
 obtain⟨bn,hbn⟩:∃ m:Nat,(mn:Int)+1-tn=m:=⟨((mn:Int)+1-tn).toNat,by omega⟩
 obtain⟨gi,gs,S5,e5,q5,d5,k5,hgi,gu5⟩:∃ (gi:Nat) (gs:List D) (S5:Sto),o2 addD (o2 mulD (ls (ac (cn (.str "up")) an)) (vr 6)) (o2 mulD (ls (ac (cn (.str "down")) an)) (o2 subD (o2 addD (vr 2) (cn (.int 1))) (vr 6))) [some (.lst t),some (.int most),some (.int mn),some (.lst S1.length),g4,g5,some (.int tn),none] S4=.ok (.lst gi) S5∧S5[gi]?=some ⟨false,gs⟩∧Dp S5 t k (n+112)∧Kp S4 S5 t k∧S4.length≤gi∧GU gs mn:=by
  have m1:=mul_rep (S:=S4++[⟨false,[.str "up"]⟩]) (n:=tn) app_at (by omega)
  have a1:=app_at (S:=S4++[⟨false,[D.str "up"]⟩]) (c:=⟨false,List.replicate tn (.str "up")⟩)
  have D1:=(d4.app (c:=⟨false,[.str "up"]⟩)).app (c:=⟨false,List.replicate tn (.str "up")⟩)
  have K1:Kp S4 ((S4++[⟨false,[D.str "up"]⟩])++[⟨false,List.replicate tn (.str "up")⟩]) t k:=Kp.app.trans Kp.app
  generalize hA:(S4++[(⟨false,[.str "up"]⟩:Cell)]).length=A at *
  have hA4:S4.length≤A:=by rw[←hA]; simp
  generalize (S4++[(⟨false,[.str "up"]⟩:Cell)])++[⟨false,List.replicate tn (.str "up")⟩]=T1 at *
  have m2:=mul_rep (S:=T1++[⟨false,[.str "down"]⟩]) (n:=bn) app_at (by omega)
  have a2:=app_at (S:=T1++[⟨false,[D.str "down"]⟩]) (c:=⟨false,List.replicate bn (.str "down")⟩)
  have a1':=app_old (c:=⟨false,List.replicate bn (.str "down")⟩) (app_old (c:=⟨false,[.str "down"]⟩) a1)
  have D2:=(D1.app (c:=⟨false,[.str "down"]⟩)).app (c:=⟨false,List.replicate bn (.str "down")⟩)
  have K2:Kp S4 ((T1++[⟨false,[D.str "down"]⟩])++[⟨false,List.replicate bn (.str "down")⟩]) t k:=(K1.trans Kp.app).trans Kp.app
  generalize hB:(T1++[(⟨false,[.str "down"]⟩:Cell)]).length=B at *
  generalize (T1++[(⟨false,[.str "down"]⟩:Cell)])++[⟨false,List.replicate bn (.str "down")⟩]=T2 at *
  have ad:=add_ll a1' a2 (by simp; omega)
  refine⟨T2.length,List.replicate tn (.str "up")++List.replicate bn (.str "down"),T2++[⟨false,List.replicate tn (.str "up")++List.replicate bn (.str "down")⟩],?_,app_at,(D2.app).mono (by omega),K2.trans Kp.app,K2.len,⟨by simp; omega,fun g hg=>by
   rcases List.mem_append.mp hg with z | z
   ·exact .inl (List.eq_of_mem_replicate z)
   ·exact .inr (List.eq_of_mem_replicate z)⟩⟩
  simp only[o2_ap,ls1,vr_ap,cn_ap,bind_ok,List.getElem?_cons_zero,List.getElem?_cons_succ,m1,add_ii,sub_ii,hbn,m2,ad]
 obtain⟨r6,S6,e6,r60,r61,d6,k6⟩:=draw_ok (m:=3) d5 (by omega) (by decide) (by decide)
 have lt4:=d4.lt
 have k46:Kp S4 S6 t k:=k5.trans k6
 have q6:=k46.at q4 (by omega) (by omega)
 have gi6:=k6.at q5 (by omega) (by omega)
 obtain⟨gj,gs',S7,e7,q7,d7,k7,gu7⟩:∃ (gj:Nat) (gs':List D) (S7:Sto),sif (tb (o2 eqD (cl 2 (noExc f__law_draw) (ac (vr 0) (ac (cn (.int 3)) an))) (cn (.int 0)))) (sa (cmp (ir1 (ac (o2 addD (vr 2) (cn (.int 1))) an)) [none,some 0] (gn 0) ttrue (o2 DL.getD (ls (ac (cn (.str "up")) (ac (cn (.str "down")) an))) (cl 2 (noExc f__law_draw) (ac (vr 1) (ac (cn (.int 2)) an))))) (gn 7)) DL.skip [some (.lst t),some (.int most),some (.int mn),some (.lst S1.length),g4,g5,some (.int tn),some (.lst gi)] S5=.nx [some (.lst t),some (.int most),some (.int mn),some (.lst S1.length),g4,g5,some (.int tn),some (.lst gj)] S7∧S7[gj]?=some ⟨false,gs'⟩∧Dp S7 t k (n+130)∧Kp S6 S7 t k∧GU gs' mn:=by
  by_cases c:r6=0
  ·have lt6:=d6.lt
   obtain⟨ρ',S7,el,g,gs',hρ,hq,hl,hu,hd,hk⟩:=for_inv (nxt:=(rsrc 0 (mn+1)).nxt) (g:=gn 0) (b:=cbody S6.length ttrue (o2 DL.getD (ls (ac (cn (.str "up")) (ac (cn (.str "down")) an))) (cl 2 (noExc f__law_draw) (ac (vr 1) (ac (cn (.int 2)) an))))) (l:=(List.range (mn+1)).map fun k:Nat=>D.int (k:Int))
    (fun i ρ S'=>∃ g gs',ρ=[g,some (.lst t)]∧S'[S6.length]?=some ⟨false,gs'⟩∧gs'.length=i∧(∀ g∈gs',g=.str "up"∨g=.str "down")∧Dp S' t k (n+113+i)∧Kp S6 S' t k)
    (fun i _ S _=>rng_get) (fun i d ρ S' hd ⟨g,gs',h1,h2,h3,hu,h4,h5⟩=>by
     obtain⟨hi,rfl⟩:=rng_of hd
     subst h1
     obtain⟨r,x,S'',p1,p2,p3,p4,p5⟩:=pick_ok (xs:=[.str "up",.str "down"]) (m:=2) h4 (by omega) rfl (by simp) (by simp)
     have q'':=p5.at h2 (by omega) (by omega)
     have lq:S6.length<S''.length:=(List.getElem?_eq_some_iff.mp q'').1
     refine⟨_,_,_,rfl,cbody_ok (d:=x) (S2:=S'') ?_ q'' (by omega),some (.int i),gs'++[x],rfl,List.getElem?_set_self lq,by simp[h3],(fun g hg=>by
      rcases List.mem_append.mp hg with z | z
      ·exact hu g z
      ·have:g=x:=by simpa using z
       subst this
       simpa using p3),(p4.set (by omega) (by omega)).mono (by omega),(h5.trans p5).setq (Nat.le_refl _)⟩
     simp[p1,p2]) (mn+1+1) 0 [none,some (.lst t)] (S6++[⟨false,[]⟩]) (Nat.zero_le _) ⟨none,[],rfl,app_at,rfl,(fun g hg=>by cases hg),d6.app,Kp.app⟩ (by simp)
   have hln:((List.range (mn+1)).map fun k:Nat=>D.int (k:Int)).length=mn+1:=by simp
   rw[hln] at hd hl
   have hc:=cmp_ok (pk:=[none,some 0]) (ρ:=[some (.lst t),some (.int most),some (.int mn),some (.lst S1.length),g4,g5,some (.int tn),some (.lst gi)]) (S:=S6) (ir1_ok (f:=ac (o2 addD (vr 2) (cn (.int 1))) an) (n:=mn+1) (by simp) (by omega)) el
   exact⟨S6.length,gs',S7,by simp[e6,c,hc],hq,hd.mono (by omega),hk,⟨hl,hu⟩⟩
  ·exact⟨gi,gs,S6,by simp[e6,c],gi6,d6.mono (by omega),.refl,gu5⟩
 have lt6:=d6.lt
 have q7p:=k7.at q6 (by omega) (by omega)
 have ad:=add_ll (app_old (c:=⟨false,[.tup [.str "end"]]⟩) q7p) (app_at (S:=S7) (c:=⟨false,[.tup [.str "end"]]⟩)) (by simp; omega)
 have tp1:=tup_l (app_at (S:=S7++[⟨false,[D.tup [.str "end"]]⟩]) (c:=⟨false,(Pl.e::mid).map Pl.toD++[.tup [.str "end"]]⟩))
 have tp2:=tup_l (app_old (c:=⟨false,(Pl.e::mid).map Pl.toD++[.tup [.str "end"]]⟩) (app_old (c:=⟨false,[.tup [.str "end"]]⟩) q7))
 refine⟨mid,gs',(S7++[⟨false,[.tup [.str "end"]]⟩])++[⟨false,(Pl.e::mid).map Pl.toD++[.tup [.str "end"]]⟩],?_,ok3,wt3.1.snoc (by simp) (.inr (wt3.2 (by omega) (by omega))),(by rw[l3]; exact gu7),by omega,by omega,(d7.app.app).mono (by omega),(((k1.trans k3).trans (k46.trans k7 |> fun z=>(k4.trans z))).trans Kp.app).trans Kp.app⟩
 have main:∀ fd:Fn,fd=f__law_draw→True:=fun _ _=>trivial
 refine(fnB_ap (m:=8) (b:=b__law_canal)).trans ?_
 show fin (b__law_canal [some (.lst t),some (.int most),none,none,none,none,none,none] S)=_
 unfold b__law_canal
 refine(fin_nx (ρ':=[some (.lst t),some (.int most),some (.int mn),none,none,none,none,none]) (S':=S1) (by rw[←hmn]; simp[e1])).trans ?_
 refine(fin_nx (ρ':=[some (.lst t),some (.int most),some (.int mn),some (.lst S1.length),none,none,none,none]) (S':=S2) (by rw[←hS2]; simp)).trans ?_
 refine(fin_nx (ρ':=ρ3) (S':=S3) ?_).trans ?_
 ·rw[sfor_ap,ir1_ok (n:=mn) (S':=S2) (by simp) (by omega)]
  exact ef
 rw[eρ]
 refine(fin_nx (ρ':=[some (.lst t),some (.int most),some (.int mn),some (.lst S1.length),g4,g5,some (.int tn),none]) (S':=S4) (by rw[←htn]; simp[e4])).trans ?_
 refine(fin_nx (ρ':=[some (.lst t),some (.int most),some (.int mn),some (.lst S1.length),g4,g5,some (.int tn),some (.lst gi)]) (S':=S5) (by rw[sa_ap,e5]; rfl)).trans ?_
 rw[fin_nx e7]
 have lsE:ls (ac (tp (ac (cn (.str "end")) an)) an) [some (.lst t),some (.int most),some (.int mn),some (.lst S1.length),g4,g5,some (.int tn),some (.lst gj)] S7=.ok (.lst S7.length) (S7++[⟨false,[.tup [.str "end"]]⟩]):=by simp
 have v3:∀ S:Sto,vr 3 [some (.lst t),some (.int most),some (.int mn),some (.lst S1.length),g4,g5,some (.int tn),some (.lst gj)] S=.ok (.lst S1.length) S:=fun S=>by simp
 have v7:∀ S:Sto,vr 7 [some (.lst t),some (.int most),some (.int mn),some (.lst S1.length),g4,g5,some (.int tn),some (.lst gj)] S=.ok (.lst gj) S:=fun S=>by simp
 rw[sret_ap,tp_ap,ac_ap,b1_ap,ac_ap,o2_ap,v3,bind_ok,lsE,bind_ok,ad,bind_ok,an_ap,bind_ok,bind_ok,tp1,bind_ok,ac_ap,b1_ap,ac_ap,v7,bind_ok,an_ap,bind_ok,bind_ok,tp2,bind_ok,an_ap,bind_ok,bind_ok,bind_ok]
 rw[if_pos (by simp),bindS_ok,fin_rt]
 simp[Pl.toD]
end Law
set_option Elab.async false
set_option linter.all false
set_option maxRecDepth 100000
namespace Law
open PySem PySem.Spec PyProof.Rows L2 DL
structure Ex(S S':Sto):Prop where
 len:S.length≤S'.length
 get:∀ i,i<S.length→S'[i]?=S[i]?
theorem Ex.refl{S:Sto}:Ex S S:=⟨Nat.le_refl _,fun _ _=>rfl⟩
theorem Ex.trans{S S1 S2:Sto}(a:Ex S S1)(b:Ex S1 S2):Ex S S2:=⟨Nat.le_trans a.len b.len,fun i h=>(b.get i (Nat.lt_of_lt_of_le h a.len)).trans (a.get i h)⟩
theorem Ex.app{S:Sto}{c:Cell}:Ex S (S++[c]):=⟨by simp,fun i h=>by rw[List.getElem?_append_left h]⟩
theorem Ex.setq{S0 S:Sto}{q:Nat}{c:Cell}(a:Ex S0 S)(h:S0.length≤q):Ex S0 (S.set q c):=⟨by simp; exact a.len,fun i hi=>by rw[List.getElem?_set_ne (by omega)]; exact a.get i hi⟩
theorem Ex.kp{S S':Sto}{t k:Nat}(a:Ex S S'):Kp S S' t k:=⟨a.len,fun i h _ _=>a.get i h⟩
theorem Ex.at{S S':Sto}{q:Nat}{c:Cell}(a:Ex S S')(e:S[q]?=some c):S'[q]?=some c:=(a.get q (List.getElem?_eq_some_iff.mp e).1).trans e
theorem Dp.ext{S S':Sto}{t k n:Nat}(h:Dp S t k n)(x:Ex S S'):Dp S' t k n:=by
 obtain⟨⟨a,b,xs,e1,e2,h⟩,ne⟩:=h
 exact⟨⟨a,b,xs,x.at e1,x.at e2,h⟩,ne⟩
def isInt:D→Bool
 | .int _=>true
 | _=>false
theorem add_tt{a b:List D}{S:Sto}(h:a.length+b.length≤1000000):addD (.tup a) (.tup b) S=.ok (.tup (a++b)) S:=by
 show(if a.length+b.length≤1000000 then Out.ok (D.tup (a++b)) S else .bad)=_
 rw[if_pos h]
theorem sok_app{a b:Str}(h1:PyData.strOk a=true)(h2:PyData.strOk b=true):PyData.strOk (a++b)=true:=by
 unfold PyData.strOk at *
 show((a.cps++b.cps).all fun x=>decide (x<1114112))=true
 rw[Array.all_append,h1,h2]
 rfl
theorem join_ok{n:Nat}:∀ ts:List Str,(∀ t∈ts,PyData.strOk t=true∧t.length≤n)→PyData.strOk (Str.join ", " ts)=true∧(Str.join ", " ts).length≤(n+2)*ts.length
 | [],_=>⟨by decide +kernel,by show(Str.join ", " []).length≤_; exact Nat.le_of_eq (by rfl)⟩
 | [x],h=>by
  obtain⟨h1,h2⟩:=h x List.mem_cons_self
  exact⟨h1,by show x.length≤_; simp; omega⟩
 | x::y::r,h=>by
  obtain⟨h1,h2⟩:=h x List.mem_cons_self
  obtain⟨h3,h4⟩:=join_ok (y::r) fun t ht=>h t (List.mem_cons_of_mem _ ht)
  have e:Str.join ", " (x::y::r)=x++", "++Str.join ", " (y::r):=rfl
  refine⟨by rw[e]; exact sok_app (sok_app h1 (stok _)) h3,?_⟩
  rw[e,Str.length_append,Str.length_append]
  have e2:((", ":String):Str).length=2:=rfl
  rw[e2]
  simp only[List.length_cons] at h4 ⊢
  have:(n+2)*(r.length+1+1)=(n+2)*(r.length+1)+(n+2):=by rw[Nat.mul_add (n+2) (r.length+1) 1]; omega
  omega
theorem tup_ok{n:Nat}{ts:List Str}(h:∀ t∈ts,PyData.strOk t=true∧t.length≤n):PyData.strOk (tupleText ts)=true∧(tupleText ts).length≤(n+2)*ts.length+3:=by
 obtain⟨h1,h2⟩:=join_ok ts h
 unfold tupleText
 refine⟨sok_app (sok_app (stok _) h1) (stok _),?_⟩
 rw[Str.length_append,Str.length_append]
 have e1:(("(":String):Str).length=1:=rfl
 have e2:∀ b:Bool,(((if b=true then ",)" else ")":String):Str)).length≤2:=fun b=>by cases b<;>decide +kernel
 have:=e2 (ts.length==1)
 rw[e1]
 omega
theorem shownAll_len:∀ L:List PyData,(PyData.shownAll L).length=L.length
 | []=>rfl
 | a::L=>by show(PyData.shown a::PyData.shownAll L).length=_; simp[shownAll_len L]
theorem list_t{l:List D}{S:Sto}:listD [.tup l] S=.ok (.lst S.length) (S++[⟨false,l⟩]):=id rfl
theorem str_len(s:String):(Str.ofString s).length=s.toList.length:=by
 rw[Str.ofString_eq_toList]
 show(Array.size _)=_
 simp
theorem int_len{i:Int}(h:i.natAbs<10^60):(Str.ofString (toString i)).length≤61:=by
 rw[str_len]
 cases i with
 | ofNat m=>
  show(Nat.repr m).toList.length≤61
  have:=(Nat.length_toDigits_le_iff (b:=10) (n:=m) (k:=60) (by decide) (by decide)).mpr h
  simp only[Nat.repr,String.toList_ofList]
  omega
 | negSucc m=>
  show("-"++Nat.repr (m+1)).toList.length≤61
  have:=(Nat.length_toDigits_le_iff (b:=10) (n:=m+1) (k:=60) (by decide) (by decide)).mpr h
  simp only[Nat.repr,String.toList_append,String.toList_ofList,List.length_append]
  have:("-":String).toList.length=1:=rfl
  omega
structure Gp(p:PyData)(b e:Nat):Prop where
 sh:p.showable=true
 nd:p.hasDict=false
 dp:p.depth≤e
 ok:PyData.strOk p.shown=true
 le:p.shown.length≤b
theorem Gp.mono{p:PyData}{b e b' e':Nat}(h:Gp p b e)(h1:b≤b')(h2:e≤e'):Gp p b' e':=⟨h.sh,h.nd,Nat.le_trans h.dp h2,h.ok,Nat.le_trans h.le h1⟩
theorem gp_all{b e:Nat}:∀ {ps:List PyData},(∀ p∈ps,Gp p b e)→PyData.showableAll ps=true∧PyData.hasDictAll ps=false∧PyData.depthAll ps≤e∧∀ t∈PyData.shownAll ps,PyData.strOk t=true∧t.length≤b
 | [],_=>⟨rfl,rfl,Nat.zero_le _,fun t ht=>by cases ht⟩
 | p::r,h=>by
  have hp:=h p List.mem_cons_self
  obtain⟨a1,a2,a3,a4⟩:=gp_all (ps:=r) fun q hq=>h q (List.mem_cons_of_mem _ hq)
  refine⟨?_,?_,?_,?_⟩
  ·show(p.showable&&PyData.showableAll r)=true; rw[hp.sh,a1]; rfl
  ·show(p.hasDict||PyData.hasDictAll r)=false; rw[hp.nd,a2]; rfl
  ·show max p.depth (PyData.depthAll r)≤e; exact Nat.max_le.mpr ⟨hp.dp,a3⟩
  ·intro t ht
   have ht:t∈p.shown::PyData.shownAll r:=ht
   rcases List.mem_cons.mp ht with rfl | ht
   ·exact⟨hp.ok,hp.le⟩
   ·exact a4 t ht
theorem gp_tup{ps:List PyData}{b e:Nat}(h:∀ p∈ps,Gp p b e):Gp (.tuple ps) ((b+2)*ps.length+3) (e+1):=by
 obtain⟨a1,a2,a3,a4⟩:=gp_all h
 obtain⟨c1,c2⟩:=tup_ok a4
 rw[shownAll_len] at c2
 refine⟨by simpa[PyData.showable] using a1,by simpa[PyData.hasDict] using a2,by simp only[PyData.depth]; omega,?_,?_⟩
 ·show PyData.strOk (tupleText (PyData.shownAll ps))=true; exact c1
 ·show(tupleText (PyData.shownAll ps)).length≤_; exact c2
def Sho(S:Sto)(d:D)(b e:Nat):Prop:=∃ p,(∀ S',Ex S S'→∀ n,e<n→toP S' n d=some p)∧Gp p b e
theorem Sho.mono{S:Sto}{d:D}{b e b' e':Nat}(h:Sho S d b e)(h1:b≤b')(h2:e≤e'):Sho S d b' e':=by
 obtain⟨p,a,g⟩:=h
 exact⟨p,fun S' x n hn=>a S' x n (by omega),g.mono h1 h2⟩
theorem sho_all{S:Sto}{b e:Nat}:∀ {l:List D},(∀ d∈l,Sho S d b e)→∃ ps,(∀ S',Ex S S'→∀ n,e<n→mapO (toP S' n) l=some ps)∧ps.length=l.length∧∀ p∈ps,Gp p b e
 | [],_=>⟨[],fun _ _ _ _=>rfl,rfl,fun p hp=>by cases hp⟩
 | d::l,h=>by
  obtain⟨p,a,g⟩:=h d List.mem_cons_self
  obtain⟨ps,a2,a3,a4⟩:=sho_all (l:=l) fun q hq=>h q (List.mem_cons_of_mem _ hq)
  refine⟨p::ps,fun S' x n hn=>?_,by simp[a3],fun q hq=>?_⟩
  ·simp only[mapO,a S' x n hn,a2 S' x n hn]
  ·rcases List.mem_cons.mp hq with rfl | hq
   ·exact g
   ·exact a4 q hq
theorem sho_tup{S:Sto}{l:List D}{b e:Nat}(h:∀ d∈l,Sho S d b e):Sho S (.tup l) ((b+2)*l.length+3) (e+1):=by
 obtain⟨ps,a,hl,g⟩:=sho_all h
 refine⟨.tuple ps,fun S' x n hn=>?_,by rw[←hl]; exact gp_tup g⟩
 obtain⟨m,rfl⟩:∃ m,n=m+1:=⟨n-1,by omega⟩
 show(mapO (toP S' m) l).map PyData.tuple=_
 rw[a S' x m (by omega)]
 rfl
theorem sho_int{S:Sto}{i:Int}(h:i.natAbs<10^60):Sho S (.int i) 61 0:=by
 refine⟨.int i,fun S' _ n hn=>?_,⟨?_,rfl,Nat.le_refl _,?_,?_⟩⟩
 ·obtain⟨m,rfl⟩:∃ m,n=m+1:=⟨n-1,by omega⟩
  rfl
 ·show decide (i.natAbs.log2<1920)=true
  refine decide_eq_true ?_
  by_cases c:i.natAbs=0
  ·rw[c]; decide
  ·refine Nat.lt_of_lt_of_le ((Nat.log2_lt c).mpr (show i.natAbs<2^200 from Nat.lt_trans h (by decide))) (by decide)
 ·show PyData.strOk (Str.ofString (toString i))=true; exact stok _
 ·show(Str.ofString (toString i)).length≤61; exact int_len h
theorem Sho.repr{S:Sto}{d:D}{b e:Nat}(h:Sho S d b e)(h1:b≤1000000)(h2:e<40):∃ s:Str,PyData.strOk s=true∧∀ S',Ex S S'→reprD [d] S'=.ok (.str s) S':=by
 obtain⟨p,a,g⟩:=h
 refine⟨p.shown,g.ok,fun S' x=>?_⟩
 have ha:=a S' x 40 h2
 have big:∀ (q:PyData),q=p→(if(q.showable&&!q.hasDict&&decide (q.depth≤60))=true∧q.shown.length≤1000000 then Out.ok (D.str q.shown) S' else .bad)=.ok (.str p.shown) S':=fun q hq=>by
  subst hq
  rw[if_pos]
  refine⟨?_,Nat.le_trans g.le h1⟩
  rw[g.sh,g.nd]
  have:=g.dp
  simp
  omega
 cases d with
 | non=>cases (Option.some.inj ha); rfl
 | bl v=>cases (Option.some.inj ha); cases v<;>rfl
 | int i=>
  cases (Option.some.inj ha)
  have:i.natAbs.log2<1920:=of_decide_eq_true g.sh
  show(if i.natAbs.log2<1920 then Out.ok (D.str (toString i)) S' else .bad)=_
  rw[if_pos this]
  rfl
 | str z=>
  cases (Option.some.inj ha)
  have:(reprText z).length≤1000000:=Nat.le_trans g.le h1
  show(if(reprText z).length≤1000000 then Out.ok (D.str (reprText z)) S' else .bad)=_
  rw[if_pos this]
  rfl
 | tup l=>
  show(match toP S' 40 (.tup l) with
   | some p=>if(p.showable&&!p.hasDict&&decide (p.depth≤60))=true∧p.shown.length≤1000000 then Out.ok (D.str p.shown) S' else .bad
   | none=>.bad)=_
  rw[ha]
  exact big p rfl
 | lst i=>
  show(match toP S' 40 (.lst i) with
   | some p=>if(p.showable&&!p.hasDict&&decide (p.depth≤60))=true∧p.shown.length≤1000000 then Out.ok (D.str p.shown) S' else .bad
   | none=>.bad)=_
  rw[ha]
  exact big p rfl
 | exn _ _=>cases ha
 | fv _=>cases ha
theorem sif_t{c:Ev Bool}{f g:Sv}{ρ:Lc}{S S1:Sto}(h:c ρ S=.ok true S1):sif c f g ρ S=f ρ S1:=by
 rw[sif_ap,h,bindS_ok,if_pos rfl]
theorem sif_f{c:Ev Bool}{f g:Sv}{ρ:Lc}{S S1:Sto}(h:c ρ S=.ok false S1):sif c f g ρ S=g ρ S1:=by
 rw[sif_ap,h,bindS_ok,if_neg (by decide)]
theorem sq_nx{f g:Sv}{ρ ρ':Lc}{S S1:Sto}(h:f ρ S=.nx ρ' S1):sq f g ρ S=g ρ' S1:=by rw[sq_ap,h]
theorem sq_rt{f g:Sv}{ρ:Lc}{y:D}{S S1:Sto}(h:f ρ S=.rt y S1):sq f g ρ S=.rt y S1:=by rw[sq_ap,h]
theorem sl_l{S:Sto}{q:Nat}{c:Cell}{lo hi:Option Int}(e:S[q]?=some c):slD2 (.lst q) lo hi S=.ok (.lst S.length) (S++[⟨false,DL.cutD c.xs lo hi⟩]):=by
 simp only[slD2,e]
theorem list_l{S:Sto}{q:Nat}{c:Cell}(e:S[q]?=some c):listD [.lst q] S=.ok (.lst S.length) (S++[⟨false,c.xs⟩]):=by
 simp only[listD,e]
theorem cut_map{ns:List Int}{lo hi:Option Int}:∃ ys:List Int,DL.cutD (ns.map D.int) lo hi=ys.map D.int:=
 ⟨(ns.drop (HT.sIx (ns.map D.int).length 0 lo)).take (HT.sIx (ns.map D.int).length (ns.map D.int).length hi-HT.sIx (ns.map D.int).length 0 lo),by unfold DL.cutD; rw[List.map_take,List.map_drop]⟩
theorem tape_ok{S:Sto}{q:Nat}{fz:Bool}{ns:List Int}(e:S[q]?=some ⟨fz,ns.map D.int⟩):∃ (t k:Nat) (S':Sto),f__law_tape [.lst q] S=.ok (.lst t) S'∧Dp S' t k 0:=by
 obtain⟨ys,hy⟩:=cut_map (ns:=ns) (lo:=none) (hi:=some 63)
 have s1:slD2 (.lst q) none (some 63) S=.ok (.lst S.length) (S++[⟨false,ys.map D.int⟩]):=by rw[sl_l e,hy]
 have q1:(S++[⟨false,ys.map D.int⟩])[S.length]?=some (⟨false,ys.map D.int⟩:Cell):=app_at
 generalize hS1:S++[⟨false,ys.map D.int⟩]=S1 at *
 have s3:listD [.lst S.length] S1=.ok (.lst S1.length) (S1++[⟨false,ys.map D.int⟩]):=list_l q1
 have q3:(S1++[⟨false,ys.map D.int⟩])[S1.length]?=some (⟨false,ys.map D.int⟩:Cell):=app_at
 have l3:(S1++[(⟨false,ys.map D.int⟩:Cell)]).length=S1.length+1:=by simp
 generalize hS3:S1++[⟨false,ys.map D.int⟩]=S3 at *
 refine⟨S3.length,S1.length,S3++[⟨false,[.lst S1.length,.int 0,.int 0]⟩],?_,⟨⟨0,0,ys,app_at,app_old q3,by decide,by decide⟩,by omega⟩⟩
 refine(fnB_ap (m:=1) (b:=b__law_tape)).trans ?_
 show fin (b__law_tape [some (.lst q)] S)=_
 unfold b__law_tape
 simp[s1,s3]
end Law
set_option Elab.async false
set_option linter.all false
set_option maxRecDepth 100000
namespace Law
open PySem PySem.Spec PyProof.Rows L2 DL
def vOk(cr:Int)(p:Pl)(l r f:Int):Prop:=0≤l∧0≤r∧0≤f∧match p with
 | .e=>l=0∧r≤cr∧f≤cr
 | .c=>l≤1∧r+f≤1
 | .p br _ ro _=>l≤br∧r+f≤ro
structure Rows(S:Sto)(a:Nat)(L R F:List Int):Prop where
 r0:S[a]?=some ⟨false,L.map D.int⟩
 r1:S[a+1]?=some ⟨false,R.map D.int⟩
 r2:S[a+2]?=some ⟨false,F.map D.int⟩
 r3:S[a+3]?=some ⟨false,[.lst a,.lst (a+1),.lst (a+2)]⟩
theorem Rows.kp{S S':Sto}{a t k:Nat}{L R F:List Int}(h:Rows S a L R F)(kp:Kp S S' t k)(ht:t<a)(hk:k<a):Rows S' a L R F:=
 ⟨kp.at h.r0 (by omega) (by omega),kp.at h.r1 (by omega) (by omega),kp.at h.r2 (by omega) (by omega),kp.at h.r3 (by omega) (by omega)⟩
def st_app:Sv:=(sq (sx (mt appD (o2 DL.getD (vr 3) (cn (.int 0))) (ac (vr 5) an)))
  (sq (sx (mt appD (o2 DL.getD (vr 3) (cn (.int 1))) (ac (vr 6) an)))
  (sx (mt appD (o2 DL.getD (vr 3) (cn (.int 2))) (ac (vr 7) an)))))
theorem app3{S0 S:Sto}{t k n a:Nat}{x0 x1 x2 x4 x8:Option D}{l r f:Int}{L R F:List Int}(h:Rows S a L R F)(hL:L.length<1000)(hR:R.length<1000)(hF:F.length<1000)(d:Dp S t k n)(kp:Kp S0 S t k)(ht:t<a)(hk:k<a)(h0:S0.length≤a):
  ∃ S',st_app [x0,x1,x2,some (.lst (a+3)),x4,some (.int l),some (.int r),some (.int f),x8] S=.nx [x0,x1,x2,some (.lst (a+3)),x4,some (.int l),some (.int r),some (.int f),x8] S'∧Rows S' a (L++[l]) (R++[r]) (F++[f])∧Dp S' t k n∧Kp S0 S' t k:=by
 have l0:a<S.length:=(List.getElem?_eq_some_iff.mp h.r0).1
 have l1:a+1<S.length:=(List.getElem?_eq_some_iff.mp h.r1).1
 have l2:a+2<S.length:=(List.getElem?_eq_some_iff.mp h.r2).1
 have g0:DL.getD (.lst (a+3)) (.int 0) S=.ok (.lst a) S:=get_l h.r3 rfl
 have p0:=app_l (d:=.int l) h.r0 (by simp; omega)
 have a0:(S.set a ⟨false,L.map D.int++[.int l]⟩)[a]?=some ⟨false,L.map D.int++[.int l]⟩:=List.getElem?_set_self l0
 have a1:(S.set a ⟨false,L.map D.int++[.int l]⟩)[a+1]?=some ⟨false,R.map D.int⟩:=by rw[List.getElem?_set_ne (by omega)]; exact h.r1
 have a2:(S.set a ⟨false,L.map D.int++[.int l]⟩)[a+2]?=some ⟨false,F.map D.int⟩:=by rw[List.getElem?_set_ne (by omega)]; exact h.r2
 have a3:(S.set a ⟨false,L.map D.int++[.int l]⟩)[a+3]?=some ⟨false,[.lst a,.lst (a+1),.lst (a+2)]⟩:=by rw[List.getElem?_set_ne (by omega)]; exact h.r3
 have d1:=d.set (q:=a) (c:=⟨false,L.map D.int++[.int l]⟩) (by omega) (by omega)
 have k1:=kp.setq (q:=a) (c:=⟨false,L.map D.int++[.int l]⟩) h0
 have m1:a+1<(S.set a ⟨false,L.map D.int++[.int l]⟩).length:=by simp; omega
 generalize S.set a ⟨false,L.map D.int++[.int l]⟩=S1 at *
 have g1:DL.getD (.lst (a+3)) (.int 1) S1=.ok (.lst (a+1)) S1:=get_l a3 rfl
 have p1:=app_l (d:=.int r) a1 (by simp; omega)
 have b0:(S1.set (a+1) ⟨false,R.map D.int++[.int r]⟩)[a]?=some ⟨false,L.map D.int++[.int l]⟩:=by rw[List.getElem?_set_ne (by omega)]; exact a0
 have b1:(S1.set (a+1) ⟨false,R.map D.int++[.int r]⟩)[a+1]?=some ⟨false,R.map D.int++[.int r]⟩:=List.getElem?_set_self m1
 have b2:(S1.set (a+1) ⟨false,R.map D.int++[.int r]⟩)[a+2]?=some ⟨false,F.map D.int⟩:=by rw[List.getElem?_set_ne (by omega)]; exact a2
 have b3:(S1.set (a+1) ⟨false,R.map D.int++[.int r]⟩)[a+3]?=some ⟨false,[.lst a,.lst (a+1),.lst (a+2)]⟩:=by rw[List.getElem?_set_ne (by omega)]; exact a3
 have d2:=d1.set (q:=a+1) (c:=⟨false,R.map D.int++[.int r]⟩) (by omega) (by omega)
 have k2:=k1.setq (q:=a+1) (c:=⟨false,R.map D.int++[.int r]⟩) (by omega)
 have m2:a+2<(S1.set (a+1) ⟨false,R.map D.int++[.int r]⟩).length:=(List.getElem?_eq_some_iff.mp b2).1
 generalize S1.set (a+1) ⟨false,R.map D.int++[.int r]⟩=S2 at *
 have g2:DL.getD (.lst (a+3)) (.int 2) S2=.ok (.lst (a+2)) S2:=get_l b3 rfl
 have p2:=app_l (d:=.int f) b2 (by simp; omega)
 refine⟨S2.set (a+2) ⟨false,F.map D.int++[.int f]⟩,?_,⟨?_,?_,?_,?_⟩,d2.set (by omega) (by omega),k2.setq (by omega)⟩
 ·unfold st_app
  simp[g0,isL h.r0,p0,g1,isL a1,p1,g2,isL b2,p2]
 ·rw[List.getElem?_set_ne (by omega),b0]; simp
 ·rw[List.getElem?_set_ne (by omega),b1]; simp
 ·rw[List.getElem?_set_self m2]; simp
 ·rw[List.getElem?_set_ne (by omega)]; exact b3
theorem s1{S:Sto}:eqD (.str "end") (.str "chamber") S=.ok (.bl false) S:=by rw[eq_ss (stok _) (stok _)]; rfl
theorem s2{S:Sto}:eqD (.str "end") (.str "pound") S=.ok (.bl false) S:=by rw[eq_ss (stok _) (stok _)]; rfl
theorem s3{S:Sto}:eqD (.str "chamber") (.str "chamber") S=.ok (.bl true) S:=by rw[eq_ss (stok _) (stok _)]; rfl
theorem s4{S:Sto}:eqD (.str "chamber") (.str "pound") S=.ok (.bl false) S:=by rw[eq_ss (stok _) (stok _)]; rfl
theorem s5{S:Sto}:eqD (.str "pound") (.str "chamber") S=.ok (.bl false) S:=by rw[eq_ss (stok _) (stok _)]; rfl
theorem s6{S:Sto}:eqD (.str "pound") (.str "pound") S=.ok (.bl true) S:=by rw[eq_ss (stok _) (stok _)]; rfl
theorem s7{S:Sto}:eqD (.str "end") (.str "end") S=.ok (.bl true) S:=by rw[eq_ss (stok _) (stok _)]; rfl
theorem s8{S:Sto}:eqD (.str "chamber") (.str "end") S=.ok (.bl false) S:=by rw[eq_ss (stok _) (stok _)]; rfl
theorem s9{S:Sto}:eqD (.str "pound") (.str "end") S=.ok (.bl false) S:=by rw[eq_ss (stok _) (stok _)]; rfl
theorem p0e{S:Sto}{l:List D}{d:D}:DL.getD (.tup (d::l)) (.int 0) S=.ok d S:=get_t (atI_nn (by decide) rfl)
theorem p1e{S:Sto}{l:List D}{d e:D}:DL.getD (.tup (e::d::l)) (.int 1) S=.ok d S:=get_t (atI_nn (by decide) rfl)
theorem p3e{S:Sto}{l:List D}{a b c d:D}:DL.getD (.tup (a::b::c::d::l)) (.int 3) S=.ok d S:=get_t (atI_nn (by decide) rfl)
theorem int_b{b:Bool}{S:Sto}:intD [.bl b] S=.ok (.int (if b then 1 else 0)) S:=id rfl
theorem stand_step{S0 S:Sto}{t k n a:Nat}{cr:Int}{cn':D}{g5 g6 g7 g8:Option D}{p:Pl}{L R F:List Int}(h:Rows S a L R F)(hL:L.length<1000)(hR:R.length<1000)(hF:F.length<1000)(d:Dp S t k n)(kp:Kp S0 S t k)(ht:t<a)(hk:k<a)(h0:S0.length≤a)(hp:p.ok)(hc:0≤cr)(hc2:cr≤1000)(hn:n<2^58):
  ∃ l r f g8' S',lb__law_stand_1 [some (.lst t),some cn',some (.int cr),some (.lst (a+3)),some p.toD,g5,g6,g7,g8] S=.nx [some (.lst t),some cn',some (.int cr),some (.lst (a+3)),some p.toD,some (.int l),some (.int r),some (.int f),g8'] S'∧vOk cr p l r f∧Rows S' a (L++[l]) (R++[r]) (F++[f])∧Dp S' t k (n+6)∧Kp S0 S' t k:=by
 obtain⟨r1,S1,e1,r10,r11,d1,k1⟩:=draw_ok (m:=cr+1) d (by omega) (by omega) (by omega)
 obtain⟨r2,S2,e2,r20,r21,d2,k2⟩:=draw_ok (m:=cr+1) d1 (by omega) (by omega) (by omega)
 have st1:∀ (G:Sv),(sq (sa (cn (.int 0)) (gn 5)) (sq (sa (cl 2 (noExc f__law_draw) (ac (vr 0) (ac (o2 addD (vr 2) (cn (.int 1))) an))) (gn 6)) (sq (sa (cl 2 (noExc f__law_draw) (ac (vr 0) (ac (o2 addD (vr 2) (cn (.int 1))) an))) (gn 7)) G))) [some (.lst t),some cn',some (.int cr),some (.lst (a+3)),some p.toD,g5,g6,g7,g8] S=G [some (.lst t),some cn',some (.int cr),some (.lst (a+3)),some p.toD,some (.int 0),some (.int r1),some (.int r2),g8] S2:=fun G=>by
  simp[e1,e2]
 unfold lb__law_stand_1
 rw[st1]
 cases p with
 | e=>
  obtain⟨S',q1,q2,q3,q4⟩:=app3 (x0:=some (.lst t)) (x1:=some cn') (x2:=some (.int cr)) (x4:=some (Pl.toD .e)) (x8:=g8) (l:=0) (r:=r1) (f:=r2) (h.kp (k1.trans k2) ht hk) hL hR hF d2 (kp.trans (k1.trans k2)) ht hk h0
  refine⟨0,r1,r2,g8,S',?_,⟨by decide,r10,r20,rfl,by omega,by omega⟩,q2,q3.mono (by omega),q4⟩
  rw[←q1]
  simp only[sq_ap,sif_ap,tb_ap,o2_ap,vr_ap,cn_ap,bind_ok,List.getElem?_cons_zero,List.getElem?_cons_succ,Pl.toD,p0e,s1,s2,bindS_ok,Bool.false_eq_true,if_false,skip_ap]
  rfl
 | c=>
  obtain⟨r3,S3,e3,r30,r31,d3,k3⟩:=draw_ok (m:=2) d2 (by omega) (by decide) (by decide)
  obtain⟨r4,S4,e4,r40,r41,d4,k4⟩:=draw_ok (m:=4) d3 (by omega) (by decide) (by decide)
  have kk:=k1.trans (k2.trans (k3.trans k4))
  obtain⟨S',q1,q2,q3,q4⟩:=app3 (x0:=some (.lst t)) (x1:=some cn') (x2:=some (.int cr)) (x4:=some (Pl.toD .c)) (x8:=some (.int r4)) (l:=r3) (r:=if r4=1 then 1 else 0) (f:=if r4=2 then 1 else 0) (h.kp kk ht hk) hL hR hF d4 (kp.trans kk) ht hk h0
  refine⟨r3,if r4=1 then 1 else 0,if r4=2 then 1 else 0,some (.int r4),S',?_,⟨r30,by split<;>decide,by split<;>decide,by omega,by split<;>split<;>omega⟩,q2,q3.mono (by omega),q4⟩
  rw[←q1]
  have i1:∀ x:Int,(if decide (r4=x)=true then(1:Int) else 0)=if r4=x then 1 else 0:=fun x=>by by_cases z:r4=x<;>simp[z]
  simp only[sq_ap,sif_ap,tb_ap,o2_ap,vr_ap,cn_ap,bind_ok,List.getElem?_cons_zero,List.getElem?_cons_succ,Pl.toD,p0e,s3,s4,bindS_ok,if_true,sa_ap,cl_ap,ac_ap,an_ap,List.length_cons,List.length_nil,noExc_ap,e3,e4,gn_ap,b1_ap,eq_ii,int_b,i1,Bool.false_eq_true,if_false,skip_ap,List.set_cons_zero,List.set_cons_succ]
  rfl
 | p br de ro pr=>
  obtain⟨hb0,hb1,_,_,ho0,ho1,_⟩:=hp
  obtain⟨r3,S3,e3,r30,r31,d3,k3⟩:=draw_ok (m:=br+1) d2 (by omega) (by omega) (by omega)
  obtain⟨r4,x4,S4,e4,p4,m4,d4,k4⟩:=pick_ok (xs:=[.int 0,.int br,.int r3]) (m:=3) d3 (by omega) rfl (by simp) (by simp)
  obtain⟨l,hl,l0,l1⟩:∃ i:Int,x4=.int i∧0≤i∧i≤br:=by
   simp only[List.mem_cons,List.mem_nil_iff,or_false] at m4
   rcases m4 with rfl | rfl | rfl
   ·exact⟨_,rfl,by omega,by omega⟩
   ·exact⟨_,rfl,by omega,by omega⟩
   ·exact⟨_,rfl,by omega,by omega⟩
  subst hl
  obtain⟨r5,S5,e5,r50,r51,d5,k5⟩:=draw_ok (m:=ro+1) d4 (by omega) (by omega) (by omega)
  obtain⟨r6,S6,e6,r60,r61,d6,k6⟩:=draw_ok (m:=ro-r5+1) d5 (by omega) (by omega) (by omega)
  have kk:=k1.trans (k2.trans (k3.trans (k4.trans (k5.trans k6))))
  obtain⟨S',q1,q2,q3,q4⟩:=app3 (x0:=some (.lst t)) (x1:=some cn') (x2:=some (.int cr)) (x4:=some (Pl.toD (.p br de ro pr))) (x8:=g8) (l:=l) (r:=r5) (f:=r6) (h.kp kk ht hk) hL hR hF d6 (kp.trans kk) ht hk h0
  refine⟨l,r5,r6,g8,S',?_,⟨l0,r50,r60,l1,by omega⟩,q2,q3,q4⟩
  rw[←q1]
  have lsE:∀ S:Sto,ls (ac (cn (.int 0)) (ac (cn (.int br)) (ac (cn (.int r3)) an))) [] S=.ok (.lst S.length) (S++[⟨false,[.int 0,.int br,.int r3]⟩]):=fun S=>by simp
  simp only[sq_ap,sif_ap,tb_ap,o2_ap,vr_ap,cn_ap,bind_ok,List.getElem?_cons_zero,List.getElem?_cons_succ,Pl.toD,p0e,p1e,p3e,s5,s6,bindS_ok,if_true,sa_ap,cl_ap,ac_ap,an_ap,ls_ap,List.length_cons,List.length_nil,noExc_ap,add_ii,sub_ii,e3,gn_ap,Bool.false_eq_true,if_false,skip_ap,List.set_cons_zero,List.set_cons_succ]
  simp only[Nat.reduceAdd,Nat.reduceLeDiff,if_true,bind_ok,e4,p4,bindS_ok,p3e,add_ii,sub_ii,List.length_cons,List.length_nil,e5,e6,List.set_cons_zero,List.set_cons_succ,List.getElem?_cons_zero,List.getElem?_cons_succ]
  rfl
end Law
set_option Elab.async false
set_option linter.all false
set_option maxRecDepth 100000
namespace Law
open PySem PySem.Spec PyProof.Rows L2 DL
structure StR(cr:Int)(ps:List Pl)(L R F:List Int):Prop where
 lL:L.length=ps.length
 lR:R.length=ps.length
 lF:F.length=ps.length
 at':∀ (i:Nat) (p:Pl),ps[i]?=some p→∃ l r f,L[i]?=some l∧R[i]?=some r∧F[i]?=some f∧vOk cr p l r f
def stD(L R F:List Int):D:=.tup [.tup (L.map D.int),.tup (R.map D.int),.tup (F.map D.int)]
theorem stand_ok{S:Sto}{t k n:Nat}{cr:Int}{ps:List Pl}{gd:D}(h:Dp S t k n)(hn:n<2^57)(hp:∀ p∈ps,p.ok)(hl:ps.length≤13)(hc:0≤cr)(hc2:cr≤1000):
  ∃ (L R F:List Int) (S':Sto),f__law_stand [.lst t,.tup [.tup (ps.map Pl.toD),gd],.int cr] S=.ok (stD L R F) S'∧StR cr ps L R F∧Dp S' t k (n+100)∧Kp S S' t k:=by
 have lt:=h.lt
 have e1:ls (ac (ls an) (ac (ls an) (ac (ls an) an))) [some (.lst t),some (.tup [.tup (ps.map Pl.toD),gd]),some (.int cr),none,none,none,none,none,none] S=.ok (.lst (S.length+3)) (S++[⟨false,[]⟩,⟨false,[]⟩,⟨false,[]⟩,⟨false,[.lst S.length,.lst (S.length+1),.lst (S.length+2)]⟩]):=by simp
 have w:∀ j:Nat,(S++[(⟨false,[]⟩:Cell),⟨false,[]⟩,⟨false,[]⟩,⟨false,[.lst S.length,.lst (S.length+1),.lst (S.length+2)]⟩])[S.length+j]?=[(⟨false,[]⟩:Cell),⟨false,[]⟩,⟨false,[]⟩,⟨false,[.lst S.length,.lst (S.length+1),.lst (S.length+2)]⟩][j]?:=fun j=>by
  rw[List.getElem?_append_right (by omega)]
  congr 1
  omega
 have rw0:Rows (S++[⟨false,[]⟩,⟨false,[]⟩,⟨false,[]⟩,⟨false,[.lst S.length,.lst (S.length+1),.lst (S.length+2)]⟩]) S.length [] [] []:=⟨w 0,w 1,w 2,w 3⟩
 have d1:Dp (S++[⟨false,[]⟩,⟨false,[]⟩,⟨false,[]⟩,⟨false,[.lst S.length,.lst (S.length+1),.lst (S.length+2)]⟩]) t k n:=by
  have:=(((h.app (c:=⟨false,[]⟩)).app (c:=⟨false,[]⟩)).app (c:=⟨false,[]⟩)).app (c:=⟨false,[.lst S.length,.lst (S.length+1),.lst (S.length+2)]⟩)
  simpa using this
 have k1:Kp S (S++[⟨false,[]⟩,⟨false,[]⟩,⟨false,[]⟩,⟨false,[.lst S.length,.lst (S.length+1),.lst (S.length+2)]⟩]) t k:=⟨by simp,fun i hi _ _=>by rw[List.getElem?_append_left hi]⟩
 generalize S++[(⟨false,[]⟩:Cell),⟨false,[]⟩,⟨false,[]⟩,⟨false,[.lst S.length,.lst (S.length+1),.lst (S.length+2)]⟩]=S1 at *
 obtain⟨ρ',S2,ef,L,R,F,g4,g5,g6,g7,g8,eρ,hrw,l1,l2,l3,hat,d2,k2⟩:=for_inv (nxt:=(srcT (ps.map Pl.toD)).nxt) (g:=gn 4) (b:=lb__law_stand_1) (l:=ps.map Pl.toD)
  (fun i ρ S'=>∃ L R F g4 g5 g6 g7 g8,ρ=[some (.lst t),some (.tup [.tup (ps.map Pl.toD),gd]),some (.int cr),some (.lst (S.length+3)),g4,g5,g6,g7,g8]∧Rows S' S.length L R F∧L.length=i∧R.length=i∧F.length=i∧(∀ (j:Nat) (p:Pl),j<i→ps[j]?=some p→∃ l r f,L[j]?=some l∧R[j]?=some r∧F[j]?=some f∧vOk cr p l r f)∧Dp S' t k (n+6*i)∧Kp S S' t k)
  (fun _ _ _ _=>rfl) (fun i d ρ S' hd ⟨L,R,F,g4,g5,g6,g7,g8,h1,h2,h3,h4,h5,h6,h7,h8⟩=>by
   rw[List.getElem?_map] at hd
   cases hp':ps[i]? with
   | none=>rw[hp'] at hd; cases hd
   | some p=>
    rw[hp'] at hd
    cases (Option.some.inj hd)
    subst h1
    have hi:i<ps.length:=(List.getElem?_eq_some_iff.mp hp').1
    obtain⟨l,r,f,g8',S'',c1,c2,c3,c4,c5⟩:=stand_step (S0:=S) (cn':=.tup [.tup (ps.map Pl.toD),gd]) (g5:=g5) (g6:=g6) (g7:=g7) (g8:=g8) (p:=p) h2 (by omega) (by omega) (by omega) h7 h8 (by omega) (by omega) (Nat.le_refl _) (hp p (List.mem_of_getElem? hp')) hc hc2 (by omega)
    refine⟨_,_,S'',rfl,c1,L++[l],R++[r],F++[f],_,_,_,_,_,rfl,c3,by simp[h3],by simp[h4],by simp[h5],fun j q hj hq=>?_,c4.mono (by omega),c5⟩
    by_cases hji:j<i
    ·obtain⟨l',r',f',a1,a2,a3,a4⟩:=h6 j q hji hq
     exact⟨l',r',f',by rw[List.getElem?_append_left (by omega)]; exact a1,by rw[List.getElem?_append_left (by omega)]; exact a2,by rw[List.getElem?_append_left (by omega)]; exact a3,a4⟩
    ·have:j=i:=by omega
     subst this
     rw[hp'] at hq
     cases hq
     exact⟨l,r,f,by rw[List.getElem?_append_right (by omega)]; simp[h3],by rw[List.getElem?_append_right (by omega)]; simp[h4],by rw[List.getElem?_append_right (by omega)]; simp[h5],c2⟩) (srcT (ps.map Pl.toD)).fuel 0 [some (.lst t),some (.tup [.tup (ps.map Pl.toD),gd]),some (.int cr),some (.lst (S.length+3)),none,none,none,none,none] S1 (Nat.zero_le _) ⟨[],[],[],none,none,none,none,none,rfl,rw0,rfl,rfl,rfl,(fun j p hj=>by omega),d1,k1⟩ fuelT
 have hm:(ps.map Pl.toD).length=ps.length:=by simp
 rw[hm] at l1 l2 l3 hat d2
 have g0:DL.getD (.lst (S.length+3)) (.int 0) S2=.ok (.lst S.length) S2:=get_l hrw.r3 rfl
 have g1:DL.getD (.lst (S.length+3)) (.int 1) S2=.ok (.lst (S.length+1)) S2:=get_l hrw.r3 rfl
 have g2:DL.getD (.lst (S.length+3)) (.int 2) S2=.ok (.lst (S.length+2)) S2:=get_l hrw.r3 rfl
 have t0:=tup_l hrw.r0
 have t1:=tup_l hrw.r1
 have t2:=tup_l hrw.r2
 refine⟨L,R,F,S2,?_,⟨l1,l2,l3,fun i p hp'=>hat i p (List.getElem?_eq_some_iff.mp hp').1 hp'⟩,d2.mono (by omega),k2⟩
 refine(fnB_ap (m:=9) (b:=b__law_stand)).trans ?_
 show fin (b__law_stand [some (.lst t),some (.tup [.tup (ps.map Pl.toD),gd]),some (.int cr),none,none,none,none,none,none] S)=_
 unfold b__law_stand
 refine(fin_nx (ρ':=[some (.lst t),some (.tup [.tup (ps.map Pl.toD),gd]),some (.int cr),some (.lst (S.length+3)),none,none,none,none,none]) (S':=S1) (by rw[sa_ap,e1]; rfl)).trans ?_
 refine(fin_nx (ρ':=ρ') (S':=S2) ?_).trans ?_
 ·rw[sfor_ap,isrc_ap,o2_ap]
  simp only[vr_ap,cn_ap,bind_ok,List.getElem?_cons_zero,List.getElem?_cons_succ,p0e,src_t,bindS_ok]
  exact ef
 ·rw[eρ]
  simp[g0,g1,g2,t0,t1,t2,stD]
end Law
set_option Elab.async false
set_option linter.all false
set_option maxRecDepth 100000
namespace Law
open PySem PySem.Spec PyProof.Rows L2 DL
def wat:Pl→Int
 | .e=>0
 | .c=>1
 | .p br _ _ _=>br
theorem water_ok{p:Pl}{S:Sto}(h:p.ok):f_most_water [p.toD] S=.ok (.int (wat p)) S:=by
 have e1:=fun S=>eq_end (S:=S) h
 have e2:=fun S=>eq_cham (S:=S) h
 cases p with
 | e=>simp[f_most_water,fnB,b_most_water,c_END,c_CHAMBER,e1,Pl.isE,wat]
 | c=>simp[f_most_water,fnB,b_most_water,c_END,c_CHAMBER,e1,e2,Pl.isE,Pl.isC,wat]
 | p br de ro pr=>
  have g:∀ S,DL.getD (Pl.toD (.p br de ro pr)) (.int 1) S=.ok (.int br) S:=fun S=>p1e
  simp[f_most_water,fnB,b_most_water,c_END,c_CHAMBER,e1,e2,Pl.isE,Pl.isC,wat,g]
theorem get_int{L:List Int}{k:Nat}{i:Int}{S:Sto}(h:L[k]?=some i):DL.getD (.tup (L.map D.int)) (.int k) S=.ok (.int i) S:=
 get_t (atI_nn (by omega) (by rw[Int.toNat_natCast,List.getElem?_map,h]; rfl))
def plc(mid:List Pl):List Pl:=.e::(mid++[.e])
theorem plc_len{mid:List Pl}:(plc mid).length=mid.length+2:=by simp[plc]
theorem plc_at{mid:List Pl}{i:Nat}{p:Pl}(h:(plc mid)[i]?=some p):(i=0∧p=.e)∨(i=mid.length+1∧p=.e)∨(1≤i∧i≤mid.length∧p∈mid):=by
 cases i with
 | zero=>cases (Option.some.inj h); exact .inl ⟨rfl,rfl⟩
 | succ i=>
  have h:(mid++[Pl.e])[i]?=some p:=h
  by_cases c:i<mid.length
  ·rw[List.getElem?_append_left c] at h
   exact .inr (.inr ⟨by omega,by omega,List.mem_of_getElem? h⟩)
  ·have hlt:=(List.getElem?_eq_some_iff.mp h).1
   simp at hlt
   have:i=mid.length:=by omega
   subst this
   rw[List.getElem?_append_right (Nat.le_refl _)] at h
   simp at h
   exact .inr (.inl ⟨rfl,h.symm⟩)
theorem plc_ok{mid:List Pl}(h:∀ p∈mid,p.ok∧p.isE=false):∀ p∈plc mid,p.ok:=fun p hp=>by
 rcases List.mem_cons.mp hp with rfl | hp
 ·trivial
 ·rcases List.mem_append.mp hp with hp | hp
  ·exact(h p hp).1
  ·have:p=.e:=by simpa using hp
   subst this
   trivial
theorem mem_at{L:List Int}{i:Int}(h:i∈L):∃ k,k<L.length∧L[k]?=some i:=by
 obtain⟨k,hk,e⟩:=List.getElem_of_mem h
 exact⟨k,hk,by rw[List.getElem?_eq_getElem hk,e]⟩
theorem StR.nn{cr:Int}{ps:List Pl}{L R F:List Int}(h:StR cr ps L R F):(∀ i∈L,0≤i)∧(∀ i∈R,0≤i)∧∀ i∈F,0≤i:=by
 refine⟨fun i hi=>?_,fun i hi=>?_,fun i hi=>?_⟩
 ·obtain⟨k,hk,e⟩:=mem_at hi
  rw[h.lL] at hk
  obtain⟨l,r,f,e1,e2,e3,e4⟩:=h.at' k _ (List.getElem?_eq_getElem hk)
  rw[e] at e1; cases e1; exact e4.1
 ·obtain⟨k,hk,e⟩:=mem_at hi
  rw[h.lR] at hk
  obtain⟨l,r,f,e1,e2,e3,e4⟩:=h.at' k _ (List.getElem?_eq_getElem hk)
  rw[e] at e2; cases e2; exact e4.2.1
 ·obtain⟨k,hk,e⟩:=mem_at hi
  rw[h.lF] at hk
  obtain⟨l,r,f,e1,e2,e3,e4⟩:=h.at' k _ (List.getElem?_eq_getElem hk)
  rw[e] at e3; cases e3; exact e4.2.2.1
theorem forN_some{nxt:Nat→Sto→Option D}{g:Tg}{b:Sv}{n k:Nat}{ρ ρ1 ρ2:Lc}{S S2:Sto}{d:D}(h:nxt k S=some d)(h2:g d ρ=some ρ1)(h3:b ρ1 S=.nx ρ2 S2):forN nxt g b (n+1) k ρ S=forN nxt g b n (k+1) ρ2 S2:=by
 conv=>lhs; unfold forN
 simp only[h,h2,h3]
theorem forN_none{nxt:Nat→Sto→Option D}{g:Tg}{b:Sv}{n k:Nat}{ρ:Lc}{S:Sto}(h:nxt k S=none):forN nxt g b (n+1) k ρ S=.nx ρ S:=by
 conv=>lhs; unfold forN
 simp only[h]
theorem ne_ss{s:Str}{S:Sto}(h:PyData.strOk s=true):neD (.str s) (.str s) S=.ok (.bl false) S:=by
 simp only[neD,toP]
 simp[SeqAt.shaped,PyData.eqv,PyData.canLay0,PyData.depth,h]
theorem sl_take{M:List Int}{k:Nat}{S:Sto}(h:k<M.length):slD2 (.tup (M.map D.int)) none (some (k:Int)) S=.ok (.tup ((M.take k).map D.int)) S:=by
 have e2:HT.sIx (M.map D.int).length (M.map D.int).length (some (k:Int))=k:=by
  rw[HT.sIx_nat,List.length_map]
  omega
 show(if HT.sIx (M.map D.int).length 0 none=0∧HT.sIx (M.map D.int).length (M.map D.int).length (some (k:Int))=(M.map D.int).length then Out.ok (D.tup (M.map D.int)) S else .ok (.tup (DL.cutD (M.map D.int) none (some (k:Int)))) S)=_
 rw[if_neg (by rw[e2,List.length_map]; omega)]
 unfold DL.cutD
 rw[e2,HT.sIx_none,List.map_take]
 rfl
theorem sl_past{M:List Int}{k:Nat}{S:Sto}(h:k<M.length):slD2 (.tup (M.map D.int)) (some ((k:Int)+1)) none S=.ok (.tup ((M.drop (k+1)).map D.int)) S:=by
 have e1:HT.sIx (M.map D.int).length 0 (some ((k:Int)+1))=k+1:=by
  have:=HT.sIx_nat (M.map D.int).length 0 (k+1)
  rw[show((k+1:Nat):Int)=(k:Int)+1 from by push_cast; rfl] at this
  rw[this,List.length_map]
  omega
 show(if HT.sIx (M.map D.int).length 0 (some ((k:Int)+1))=0∧HT.sIx (M.map D.int).length (M.map D.int).length none=(M.map D.int).length then Out.ok (D.tup (M.map D.int)) S else .ok (.tup (DL.cutD (M.map D.int) (some ((k:Int)+1)) none)) S)=_
 rw[if_neg (by rw[e1]; omega)]
 unfold DL.cutD
 rw[e1,HT.sIx_none,List.map_drop,List.take_of_length_le (by simp)]
theorem more_ok{M:List Int}{k:Nat}{r m:Int}{S:Sto}(h:M[k]?=some r)(hl:M.length≤1000):f_with_more [.tup (M.map D.int),.int k,.int m] S=.ok (.tup ((M.set k (r+m)).map D.int)) S:=by
 have hk:k<M.length:=(List.getElem?_eq_some_iff.mp h).1
 have g:=get_int (S:=S) h
 have a1:addD (.tup ((M.take k).map D.int)) (.tup [.int (r+m)]) S=.ok (.tup ((M.take k).map D.int++[.int (r+m)])) S:=add_tt (by simp; omega)
 have a2:addD (.tup ((M.take k).map D.int++[.int (r+m)])) (.tup ((M.drop (k+1)).map D.int)) S=.ok (.tup ((M.take k).map D.int++[.int (r+m)]++(M.drop (k+1)).map D.int)) S:=add_tt (by simp; omega)
 refine(fnB_ap (m:=3) (b:=b_with_more)).trans ?_
 show fin (b_with_more [some (.tup (M.map D.int)),some (.int k),some (.int m)] S)=_
 have e:(M.take k).map D.int++[.int (r+m)]++(M.drop (k+1)).map D.int=(M.set k (r+m)).map D.int:=by
  rw[List.set_eq_take_append_cons_drop,if_pos hk]
  simp
 rw[e] at a2
 simp[b_with_more,sl_take hk,sl_past hk,g,a1,a2,-List.map_take,-List.map_drop,-List.map_set]
theorem gX_exc{f:Fn}{ds:List D}{S S':Sto}{y:Str}(h:f ds S=.exc ⟨y,none⟩ S')(hy:y∈ys):gX ys f ds S=.exc ⟨y,none⟩ S':=by
 simp only[gX,h,if_pos hy]
theorem gX_ok{f:Fn}{ds:List D}{S S':Sto}{d:D}(h:f ds S=.ok d S'):gX ys f ds S=.ok d S':=by
 simp only[gX,h]
@[simp] theorem bind_exc{α β:Type}{x:XD}{S:Sto}{g:α→Sto→Out β}:(Out.exc x S:Out α).bind g=.exc x S:=id rfl
@[simp] theorem bindS_exc{α:Type}{x:XD}{S:Sto}{ρ:Lc}{g:α→Sto→OS}:bindS (Out.exc x S:Out α) ρ g=.exc x ρ S:=id rfl
theorem fin_exc{f g:Sv}{ρ ρ':Lc}{x:XD}{S S':Sto}(h:f ρ S=.exc x ρ' S'):fin (sq f g ρ S)=.exc x S':=by rw[sq_ap,h]; rfl
end Law
set_option Elab.async false
set_option linter.all false
set_option maxRecDepth 100000
namespace Law
open PySem PySem.Spec PyProof.Rows L2 DL
def words:List D:=[.str "nogate",.str "dry",.str "full",.str "nospring",.str "nobarge",.str "noroom",.str "uneven",.str "shallow",.str "falls",.str "notext",.str "toomany",.str "noline"]
def wordOf(y:Str):D:=match (ys.zip words).lookup y with
 | some w=>w
 | none=>.non
theorem try_nx{hh:Str→Sv}{fb:Sv}{ρ ρ':Lc}{S S':Sto}(h:fb ρ S=.nx ρ' S'):stryG ys hh fb ρ S=.nx ρ' S':=by simp only[stryG,h]
end Law
set_option Elab.async false
set_option linter.all false
set_option maxRecDepth 100000
namespace Law
open PySem PySem.Spec PyProof.Rows L2 DL
def gd(u:Bool):D:=.str (if u=true then "up" else "down")
def cD(ps:List Pl)(us:List Bool):D:=.tup [.tup (ps.map Pl.toD),.tup (us.map gd)]
theorem gu_bools:∀ {gs:List D},(∀ g∈gs,g=.str "up"∨g=.str "down")→∃ us:List Bool,gs=us.map gd
 | [],_=>⟨[],rfl⟩
 | g::r,h=>by
  obtain⟨us,e⟩:=gu_bools fun x hx=>h x (List.mem_cons_of_mem _ hx)
  rcases h g List.mem_cons_self with z | z
  ·exact⟨true::us,by rw[e,z]; rfl⟩
  ·exact⟨false::us,by rw[e,z]; rfl⟩
inductive Res where
 | no (y:Str) | yes (d:D)
def Res.out(r:Res)(S:Sto):Out D:=match r with
 | .no y=>.exc ⟨y,none⟩ S
 | .yes d=>.ok d S
def Res.toD:Res→D
 | .no y=>wordOf y
 | .yes d=>d
def Res.ok:Res→Prop
 | .no y=>y∈ys
 | .yes _=>True
section
variable{ps:List Pl}{us:List Bool}{L R F:List Int}{S:Sto}
theorem cd0:DL.getD (cD ps us) (.int 0) S=.ok (.tup (ps.map Pl.toD)) S:=get_t (atI_nn (by decide) rfl)
theorem cd1:DL.getD (cD ps us) (.int 1) S=.ok (.tup (us.map gd)) S:=get_t (atI_nn (by decide) rfl)
theorem st0:DL.getD (stD L R F) (.int 0) S=.ok (.tup (L.map D.int)) S:=get_t (atI_nn (by decide) rfl)
theorem st1:DL.getD (stD L R F) (.int 1) S=.ok (.tup (R.map D.int)) S:=get_t (atI_nn (by decide) rfl)
theorem st2:DL.getD (stD L R F) (.int 2) S=.ok (.tup (F.map D.int)) S:=get_t (atI_nn (by decide) rfl)
theorem pl_at{k:Nat}{p:Pl}(h:ps[k]?=some p):DL.getD (.tup (ps.map Pl.toD)) (.int k) S=.ok p.toD S:=
 get_t (atI_nn (by omega) (by rw[Int.toNat_natCast,List.getElem?_map,h]; rfl))
theorem gd_at{k:Nat}{u:Bool}(h:us[k]?=some u):DL.getD (.tup (us.map gd)) (.int k) S=.ok (gd u) S:=
 get_t (atI_nn (by omega) (by rw[Int.toNat_natCast,List.getElem?_map,h]; rfl))
theorem gd_up{u:Bool}:eqD (gd u) (.str "up") S=.ok (.bl u) S:=by
 cases u
 ·show eqD (.str "down") (.str "up") S=_
  rw[eq_ss (stok _) (stok _)]; rfl
 ·show eqD (.str "up") (.str "up") S=_
  rw[eq_ss (stok _) (stok _)]; rfl
def hiI(u:Bool)(k:Nat):Nat:=if u=true then k+1 else k
def loI(u:Bool)(k:Nat):Nat:=if u=true then k else k+1
theorem higher_ok{k:Nat}{u:Bool}(h:us[k]?=some u):f_higher [cD ps us,.int k] S=.ok (.int (hiI u k)) S:=by
 refine(fnB_ap (m:=2) (b:=b_higher)).trans ?_
 show fin (b_higher [some (cD ps us),some (.int k)] S)=_
 have g:=gd_up (u:=u) (S:=S)
 cases u<;>simp[b_higher,cd1,gd_at h,c_UP,g,hiI]
theorem lower_ok{k:Nat}{u:Bool}(h:us[k]?=some u):f_lower [cD ps us,.int k] S=.ok (.int (loI u k)) S:=by
 refine(fnB_ap (m:=2) (b:=b_lower)).trans ?_
 show fin (b_lower [some (cD ps us),some (.int k)] S)=_
 have g:=gd_up (u:=u) (S:=S)
 cases u<;>simp[b_lower,cd1,gd_at h,c_UP,g,loI]
theorem ne_of_eq{x y:D}{b:Bool}(e:eqD x y S=.ok (.bl b) S):neD x y S=.ok (.bl (!b)) S:=by
 unfold eqD at e
 unfold neD
 split at e
 ·rename_i P Q z1 z2
  by_cases hs:(SeqAt.shaped P&&SeqAt.shaped Q)=true
  ·rw[if_pos hs] at e
   have:PyData.eqv P Q=b:=by injection e with e _; injection e
   rw[if_pos hs,this]
  ·rw[if_neg hs] at e; cases e
 ·cases e
theorem ne_end{p:Pl}(h:p.ok):neD p.toD (.tup [.str "end"]) S=.ok (.bl (!p.isE)) S:=ne_of_eq (eq_end h)
theorem is_dry_ok{p:Pl}{l:Int}(h:p.ok):f_is_dry [p.toD,.int l] S=.ok (.bl (!p.isE&&decide (l=0))) S:=by
 refine(fnB_ap (m:=2) (b:=b_is_dry)).trans ?_
 show fin (b_is_dry [some p.toD,some (.int l)] S)=_
 have n:=ne_end (S:=S) h
 cases z:p.isE<;>rw[z] at n<;>simp[b_is_dry,c_END,n]
theorem is_full_ok{p:Pl}{l:Int}(h:p.ok):f_is_full [p.toD,.int l] S=.ok (.bl (!p.isE&&decide (wat p≤l))) S:=by
 refine(fnB_ap (m:=2) (b:=b_is_full)).trans ?_
 show fin (b_is_full [some p.toD,some (.int l)] S)=_
 have n:=ne_end (S:=S) h
 have wa:=water_ok (S:=S) h
 cases z:p.isE<;>rw[z] at n<;>simp[b_is_full,c_END,n,wa]
def spr:Pl→Bool
 | .p _ _ _ (.int _)=>true
 | _=>false
theorem spring_ok{p:Pl}(h:p.ok):f_has_spring [p.toD] S=.ok (.bl (spr p)) S:=by
 refine(fnB_ap (m:=1) (b:=b_has_spring)).trans ?_
 show fin (b_has_spring [some p.toD] S)=_
 cases p with
 | e=>
  have g:DL.getD (Pl.toD .e) (.int 0) S=.ok (.str "end") S:=get_t (atI_nn (by decide) rfl)
  simp[b_has_spring,g,s2,spr]
 | c=>
  have g:DL.getD (Pl.toD .c) (.int 0) S=.ok (.str "chamber") S:=get_t (atI_nn (by decide) rfl)
  simp[b_has_spring,g,s4,spr]
 | p br de ro pr=>
  have g:DL.getD (Pl.toD (.p br de ro pr)) (.int 0) S=.ok (.str "pound") S:=get_t (atI_nn (by decide) rfl)
  have g4:DL.getD (Pl.toD (.p br de ro pr)) (.int 4) S=.ok pr S:=get_t (atI_nn (by decide) rfl)
  obtain⟨_,_,_,_,_,_,hpr⟩:=h
  rcases hpr with rfl | ⟨i,rfl,_⟩
  ·simp[b_has_spring,g,g4,s6,spr,notnD]
  ·simp[b_has_spring,g,g4,s6,spr,notnD]
theorem cg_ok{n:Int}:f_check_gate [cD ps us,.int n] S=if 0≤n∧n<us.length then .ok .non S else .exc ⟨"NoGate",none⟩ S:=by
 refine(fnB_ap (m:=2) (b:=b_check_gate)).trans ?_
 show fin (b_check_gate [some (cD ps us),some (.int n)] S)=_
 by_cases h1:0≤n
 ·by_cases h2:n<us.length
  ·rw[if_pos ⟨h1,h2⟩]
   simp[b_check_gate,cd1,h1,h2,fin]
  ·rw[if_neg (fun z=>h2 z.2)]
   simp[b_check_gate,cd1,h1,h2,fin,srs]
 ·rw[if_neg (fun z=>h1 z.1)]
  simp[b_check_gate,cd1,h1,fin,srs]
end
def hol:Pl→Int→Bool
 | .e,_=>true
 | .c,b=>decide (b≤1)
 | .p _ _ ro _,b=>decide (b≤ro)
theorem holds_ok{p:Pl}{b:Int}{S:Sto}(h:p.ok):f_holds [p.toD,.int b] S=.ok (.bl (hol p b)) S:=by
 have e1:=fun S=>eq_end (S:=S) h
 have e2:=fun S=>eq_cham (S:=S) h
 cases p with
 | e=>simp[f_holds,fnB,b_holds,c_END,c_CHAMBER,e1,Pl.isE,hol]
 | c=>simp[f_holds,fnB,b_holds,c_END,c_CHAMBER,e1,e2,Pl.isE,Pl.isC,hol]
 | p br de ro pr=>
  have g:∀ S,DL.getD (Pl.toD (.p br de ro pr)) (.int 3) S=.ok (.int ro) S:=fun S=>p3e
  simp[f_holds,fnB,b_holds,c_END,c_CHAMBER,e1,e2,Pl.isE,Pl.isC,hol,g]
def wd(b:Bool):D:=.str (if b=true then "right" else "left")
def sel(b:Bool)(R F:List Int):List Int:=if b=true then R else F
theorem w_right{S:Sto}{b:Bool}:eqD (wd b) (.str "right") S=.ok (.bl b) S:=by
 cases b
 ·show eqD (.str "left") (.str "right") S=_
  rw[eq_ss (stok _) (stok _)]; rfl
 ·show eqD (.str "right") (.str "right") S=_
  rw[eq_ss (stok _) (stok _)]; rfl
theorem bof_ok{b:Bool}{L R F:List Int}{S:Sto}:f_barges_of [stD L R F,wd b] S=.ok (.tup ((sel b R F).map D.int)) S:=by
 refine(fnB_ap (m:=2) (b:=b_barges_of)).trans ?_
 show fin (b_barges_of [some (stD L R F),some (wd b)] S)=_
 have w:=w_right (S:=S) (b:=b)
 have g1:DL.getD (stD L R F) (.int 1) S=.ok (.tup (R.map D.int)) S:=p1e
 have g2:DL.getD (stD L R F) (.int 2) S=.ok (.tup (F.map D.int)) S:=get_t (atI_nn (by decide) rfl)
 cases b<;>simp[b_barges_of,w,g1,g2,sel]
structure Rw(S:Sto)(q x y z:Nat)(A B C:List D):Prop where
 q0:S[q]?=some ⟨false,[.lst x,.lst y,.lst z]⟩
 q1:S[x]?=some ⟨false,A⟩
 q2:S[y]?=some ⟨false,B⟩
 q3:S[z]?=some ⟨false,C⟩
theorem lists_ok{A B C:List D}{f:Ev D}{ρ:Lc}{S:Sto}(hf:f ρ S=.ok (.tup [.tup A,.tup B,.tup C]) S):∃ S',cmp (isrc f) [none] (gn 0) ttrue (b1 listD (ac (vr 0) an)) ρ S=.ok (.lst S.length) S'∧Rw S' S.length (S.length+1) (S.length+2) (S.length+3) A B C∧Ex S S':=by
 have w:∀ (l:Sto) (j:Nat),(S++l)[S.length+j]?=l[j]?:=fun l j=>by
  rw[List.getElem?_append_right (by omega)]
  congr 1
  omega
 have w0:∀ l:Sto,(S++l)[S.length]?=l[0]?:=fun l=>w l 0
 have st:∀ (l:Sto) (c:Cell) (X:D),(S++(c::l)).set S.length ⟨false,c.xs++[X]⟩=S++(⟨false,c.xs++[X]⟩::l):=fun l c X=>by
  rw[List.set_append_right _ _ (Nat.le_refl _),Nat.sub_self]; rfl
 have ev:∀ (X:List D) (S':Sto),b1 listD (ac (vr 0) an) [some (.tup X)] S'=.ok (.lst S'.length) (S'++[⟨false,X⟩]):=fun X S'=>by simp[list_t]
 have b1':cbody S.length ttrue (b1 listD (ac (vr 0) an)) [some (.tup A)] (S++[⟨false,[]⟩])=.nx [some (.tup A)] (S++[⟨false,[.lst (S.length+1)]⟩,⟨false,A⟩]):=by
  have:=cbody_ok (a:=S.length) (ev A (S++[⟨false,[]⟩])) (xs:=[]) (by rw[List.append_assoc]; exact w0 _) (by simp)
  rw[this,List.append_assoc]
  refine congrArg (OS.nx _) ?_
  have q:=st [⟨false,A⟩] ⟨false,[]⟩ (.lst (S.length+1))
  simpa using q
 have b2':cbody S.length ttrue (b1 listD (ac (vr 0) an)) [some (.tup B)] (S++[⟨false,[.lst (S.length+1)]⟩,⟨false,A⟩])=.nx [some (.tup B)] (S++[⟨false,[.lst (S.length+1),.lst (S.length+2)]⟩,⟨false,A⟩,⟨false,B⟩]):=by
  have:=cbody_ok (a:=S.length) (ev B (S++[⟨false,[.lst (S.length+1)]⟩,⟨false,A⟩])) (xs:=[.lst (S.length+1)]) (by rw[List.append_assoc]; exact w0 _) (by simp)
  rw[this,List.append_assoc]
  refine congrArg (OS.nx _) ?_
  have q:=st [⟨false,A⟩,⟨false,B⟩] ⟨false,[.lst (S.length+1)]⟩ (.lst (S.length+2))
  simpa using q
 have b3':cbody S.length ttrue (b1 listD (ac (vr 0) an)) [some (.tup C)] (S++[⟨false,[.lst (S.length+1),.lst (S.length+2)]⟩,⟨false,A⟩,⟨false,B⟩])=.nx [some (.tup C)] (S++[⟨false,[.lst (S.length+1),.lst (S.length+2),.lst (S.length+3)]⟩,⟨false,A⟩,⟨false,B⟩,⟨false,C⟩]):=by
  have:=cbody_ok (a:=S.length) (ev C (S++[⟨false,[.lst (S.length+1),.lst (S.length+2)]⟩,⟨false,A⟩,⟨false,B⟩])) (xs:=[.lst (S.length+1),.lst (S.length+2)]) (by rw[List.append_assoc]; exact w0 _) (by simp)
  rw[this,List.append_assoc]
  refine congrArg (OS.nx _) ?_
  have q:=st [⟨false,A⟩,⟨false,B⟩,⟨false,C⟩] ⟨false,[.lst (S.length+1),.lst (S.length+2)]⟩ (.lst (S.length+3))
  simpa using q
 have lp:forN (srcT [.tup A,.tup B,.tup C]).nxt (gn 0) (cbody S.length ttrue (b1 listD (ac (vr 0) an))) (srcT [.tup A,.tup B,.tup C]).fuel 0 [none] (S++[⟨false,[]⟩])=.nx [some (.tup C)] (S++[⟨false,[.lst (S.length+1),.lst (S.length+2),.lst (S.length+3)]⟩,⟨false,A⟩,⟨false,B⟩,⟨false,C⟩]):=by
  show forN _ _ _ (3+1) 0 _ _=_
  rw[forN_some (d:=.tup A) rfl rfl b1',forN_some (d:=.tup B) rfl rfl b2',forN_some (d:=.tup C) rfl rfl b3',forN_none rfl]
 refine⟨_,cmp_ok (s:=srcT [.tup A,.tup B,.tup C]) (S1:=S) (by rw[isrc_ap,hf]; rfl) lp,⟨w0 _,w _ 1,w _ 2,w _ 3⟩,⟨by simp,fun i hi=>by rw[List.getElem?_append_left hi]⟩⟩
theorem Rw.ex{S S':Sto}{q x y z:Nat}{A B C:List D}(h:Rw S q x y z A B C)(e:Ex S S'):Rw S' q x y z A B C:=⟨e.at h.q0,e.at h.q1,e.at h.q2,e.at h.q3⟩
end Law
set_option Elab.async false
set_option linter.all false
set_option maxRecDepth 100000
namespace Law
open PySem PySem.Spec PyProof.Rows L2 DL
theorem y_in:("NoGate":Str)∈ys∧("Dry":Str)∈ys∧("Full":Str)∈ys∧("NoSpring":Str)∈ys:=by decide +kernel
def adw(p:Pl)(L:List Int)(i:Nat)(l d:Int):List Int:=if p.isE=true then L else L.set i (l+d)
section
variable{ps:List Pl}{us:List Bool}{L R F:List Int}{S:Sto}
theorem spar_ok{i j:Nat}{f:Ev (List D)}{ρ:Lc}{a b:D}{S':Sto}(h:f ρ S=.ok [a,b] S'):spar i j f ρ S=.nx ((ρ.set i (some a)).set j (some b)) S':=by
 unfold spar
 rw[h]
 rfl
theorem clet_ok{k:Nat}{u:Bool}{pH pL:Pl}{lH lL:Int}(hu:us[k]?=some u)(h1:ps[hiI u k]?=some pH)(h2:ps[loI u k]?=some pL)(h3:L[hiI u k]?=some lH)(h4:L[loI u k]?=some lL)(ok1:pH.ok)(ok2:pL.ok):
  f_check_let [cD ps us,stD L R F,.int k] S=if(!pH.isE&&decide (lH=0))=true then .exc ⟨"Dry",none⟩ S else if(!pL.isE&&decide (wat pL≤lL))=true then .exc ⟨"Full",none⟩ S else .ok .non S:=by
 have hk:k<us.length:=(List.getElem?_eq_some_iff.mp hu).1
 have cg:=cg_ok (ps:=ps) (us:=us) (n:=(k:Int)) (S:=S)
 rw[if_pos ⟨by omega,by omega⟩] at cg
 have cg:=gX_ok cg
 have hi:=higher_ok (ps:=ps) (S:=S) hu
 have lo:=lower_ok (ps:=ps) (S:=S) hu
 have dry:=is_dry_ok (l:=lH) (S:=S) ok1
 have ful:=is_full_ok (l:=lL) (S:=S) ok2
 refine(fnB_ap (m:=7) (b:=b_check_let)).trans ?_
 show fin (b_check_let [some (cD ps us),some (stD L R F),some (.int k),none,none,none,none] S)=_
 unfold b_check_let
 refine(fin_nx (ρ':=[some (cD ps us),some (stD L R F),some (.int k),none,none,none,none]) (S':=S) (by simp[cg])).trans ?_
 refine(fin_nx (ρ':=[some (cD ps us),some (stD L R F),some (.int k),some (.tup (ps.map Pl.toD)),some (.tup (L.map D.int)),none,none]) (S':=S) (spar_ok (by simp[cd0,st0]))).trans ?_
 refine(fin_nx (ρ':=[some (cD ps us),some (stD L R F),some (.int k),some (.tup (ps.map Pl.toD)),some (.tup (L.map D.int)),some (.int (hiI u k)),none]) (S':=S) (by simp[hi])).trans ?_
 refine(fin_nx (ρ':=[some (cD ps us),some (stD L R F),some (.int k),some (.tup (ps.map Pl.toD)),some (.tup (L.map D.int)),some (.int (hiI u k)),some (.int (loI u k))]) (S':=S) (by simp[lo])).trans ?_
 have g1:=pl_at (S:=S) h1
 have g2:=pl_at (S:=S) h2
 have g3:=get_int (S:=S) h3
 have g4:=get_int (S:=S) h4
 have t1:tt (cl 2 (noExc f_is_dry) (ac (o2 DL.getD (vr 3) (vr 5)) (ac (o2 DL.getD (vr 4) (vr 5)) an))) [some (cD ps us),some (stD L R F),some (.int k),some (.tup (ps.map Pl.toD)),some (.tup (L.map D.int)),some (.int (hiI u k)),some (.int (loI u k))] S=.ok (!pH.isE&&decide (lH=0)) S:=by
  simp[g1,g3,dry,truD]
 have t2:tt (cl 2 (noExc f_is_full) (ac (o2 DL.getD (vr 3) (vr 6)) (ac (o2 DL.getD (vr 4) (vr 6)) an))) [some (cD ps us),some (stD L R F),some (.int k),some (.tup (ps.map Pl.toD)),some (.tup (L.map D.int)),some (.int (hiI u k)),some (.int (loI u k))] S=.ok (!pL.isE&&decide (wat pL≤lL)) S:=by
  simp[g2,g4,ful,truD]
 by_cases c1:(!pH.isE&&decide (lH=0))=true
 ·rw[if_pos c1]
  rw[c1] at t1
  refine fin_exc (ρ':=[some (cD ps us),some (stD L R F),some (.int k),some (.tup (ps.map Pl.toD)),some (.tup (L.map D.int)),some (.int (hiI u k)),some (.int (loI u k))]) ?_
  rw[sif_t t1]
  simp[srs]
 ·rw[if_neg c1]
  rw[Bool.eq_false_iff.mpr c1] at t1
  refine(fin_nx (ρ':=[some (cD ps us),some (stD L R F),some (.int k),some (.tup (ps.map Pl.toD)),some (.tup (L.map D.int)),some (.int (hiI u k)),some (.int (loI u k))]) (S':=S) (by rw[sif_f t1]; rfl)).trans ?_
  by_cases c2:(!pL.isE&&decide (wat pL≤lL))=true
  ·rw[if_pos c2]
   rw[c2] at t2
   rw[sif_t t2]
   simp[srs,fin]
  ·rw[if_neg c2]
   rw[Bool.eq_false_iff.mpr c2] at t2
   rw[sif_f t2]
   rfl
theorem ww_ok{i:Nat}{p:Pl}{l d:Int}(hp:ps[i]?=some p)(hl:L[i]?=some l)(ok:p.ok)(hL:L.length≤1000):f_with_water [cD ps us,.tup (L.map D.int),.int i,.int d] S=.ok (.tup ((adw p L i l d).map D.int)) S:=by
 have e:=eq_end (S:=S) ok
 have mo:=more_ok (S:=S) (m:=d) hl hL
 have g:=pl_at (S:=S) hp
 refine(fnB_ap (m:=4) (b:=b_with_water)).trans ?_
 show fin (b_with_water [some (cD ps us),some (.tup (L.map D.int)),some (.int i),some (.int d)] S)=_
 unfold adw
 cases z:p.isE
 ·rw[z] at e
  simp[b_with_water,cd0,g,c_END,e,mo,-List.map_set]
 ·rw[z] at e
  simp[b_with_water,cd0,g,c_END,e]
theorem adw_len{p:Pl}{i:Nat}{l d:Int}:(adw p L i l d).length=L.length:=by unfold adw; split<;>simp
theorem adw_ne{p:Pl}{i j:Nat}{l d:Int}(h:i≠j):(adw p L i l d)[j]?=L[j]?:=by
 unfold adw
 split
 ·rfl
 ·exact List.getElem?_set_ne h
theorem hl_ne{u:Bool}{k:Nat}:hiI u k≠loI u k:=by cases u<;>simp[hiI,loI]
theorem ld_ok{k:Nat}{u:Bool}{pH pL:Pl}{lH lL:Int}(hu:us[k]?=some u)(h1:ps[hiI u k]?=some pH)(h2:ps[loI u k]?=some pL)(h3:L[hiI u k]?=some lH)(h4:L[loI u k]?=some lL)(ok1:pH.ok)(ok2:pL.ok)(hL:L.length≤1000):
  f_let_down [cD ps us,stD L R F,.int k] S=.ok (stD (adw pL (adw pH L (hiI u k) lH (-1)) (loI u k) lL 1) R F) S:=by
 have hi:=higher_ok (ps:=ps) (S:=S) hu
 have lo:=lower_ok (ps:=ps) (S:=S) hu
 have w1:=ww_ok (us:=us) (d := -1) (S:=S) h1 h3 ok1 hL
 have w2:=ww_ok (us:=us) (L:=adw pH L (hiI u k) lH (-1)) (d:=1) (S:=S) h2 ((adw_ne hl_ne).trans h4) ok2 (by rw[adw_len]; exact hL)
 refine(fnB_ap (m:=6) (b:=b_let_down)).trans ?_
 show fin (b_let_down [some (cD ps us),some (stD L R F),some (.int k),none,none,none] S)=_
 unfold b_let_down
 refine(fin_nx (ρ':=[some (cD ps us),some (stD L R F),some (.int k),some (.tup (L.map D.int)),some (.tup (R.map D.int)),some (.tup (F.map D.int))]) (S':=S) rfl).trans ?_
 refine(fin_nx (ρ':=[some (cD ps us),some (stD L R F),some (.int k),some (.tup ((adw pH L (hiI u k) lH (-1)).map D.int)),some (.tup (R.map D.int)),some (.tup (F.map D.int))]) (S':=S) (by simp[hi,w1])).trans ?_
 refine(fin_nx (ρ':=[some (cD ps us),some (stD L R F),some (.int k),some (.tup ((adw pL (adw pH L (hiI u k) lH (-1)) (loI u k) lL 1).map D.int)),some (.tup (R.map D.int)),some (.tup (F.map D.int))]) (S':=S) (by simp[lo,w2])).trans ?_
 simp[stD]
theorem c_ll:eqD (.str "let") (.str "let") S=.ok (.bl true) S:=by rw[eq_ss (stok _) (stok _)]; rfl
theorem c_fl:eqD (.str "feed") (.str "let") S=.ok (.bl false) S:=by rw[eq_ss (stok _) (stok _)]; rfl
theorem c_ff:eqD (.str "feed") (.str "feed") S=.ok (.bl true) S:=by rw[eq_ss (stok _) (stok _)]; rfl
theorem c_lf:eqD (.str "let") (.str "feed") S=.ok (.bl false) S:=by rw[eq_ss (stok _) (stok _)]; rfl
def rLet(u:Bool)(k:Nat)(pH pL:Pl)(lH lL:Int)(L R F:List Int):Res:=
 if(!pH.isE&&decide (lH=0))=true then .no "Dry" else if(!pL.isE&&decide (wat pL≤lL))=true then .no "Full" else .yes (.tup [stD (adw pL (adw pH L (hiI u k) lH (-1)) (loI u k) lL 1) R F,.int 0,.int 0])
theorem dd_let{k:Nat}{u:Bool}{pH pL:Pl}{lH lL:Int}(hu:us[k]?=some u)(h1:ps[hiI u k]?=some pH)(h2:ps[loI u k]?=some pL)(h3:L[hiI u k]?=some lH)(h4:L[loI u k]?=some lL)(ok1:pH.ok)(ok2:pL.ok)(hL:L.length≤1000):
  f_deed_done [cD ps us,stD L R F,.tup [.str "let",.int k]] S=(rLet u k pH pL lH lL L R F).out S:=by
 have cl':=clet_ok (R:=R) (F:=F) (S:=S) hu h1 h2 h3 h4 ok1 ok2
 have ld:=ld_ok (R:=R) (F:=F) (S:=S) hu h1 h2 h3 h4 ok1 ok2 hL
 refine(fnB_ap (m:=8) (b:=b_deed_done)).trans ?_
 show fin (b_deed_done [some (cD ps us),some (stD L R F),some (.tup [.str "let",.int k]),none,none,none,none,none] S)=_
 unfold b_deed_done
 refine(fin_nx (ρ':=[some (cD ps us),some (stD L R F),some (.tup [.str "let",.int k]),some (.str "let"),some (.int k),none,none,none]) (S':=S) rfl).trans ?_
 unfold rLet
 by_cases c1:(!pH.isE&&decide (lH=0))=true
 ·rw[if_pos c1] at cl' ⊢
  have gx:=gX_exc cl' y_in.2.1
  exact fin_exc (ρ':=[some (cD ps us),some (stD L R F),some (.tup [.str "let",.int k]),some (.str "let"),some (.int k),none,none,none]) (by simp[c_ll,gx])
 ·rw[if_neg c1] at cl' ⊢
  by_cases c2:(!pL.isE&&decide (wat pL≤lL))=true
  ·rw[if_pos c2] at cl' ⊢
   have gx:=gX_exc cl' y_in.2.2.1
   exact fin_exc (ρ':=[some (cD ps us),some (stD L R F),some (.tup [.str "let",.int k]),some (.str "let"),some (.int k),none,none,none]) (by simp[c_ll,gx])
  ·rw[if_neg c2] at cl' ⊢
   have gx:=gX_ok cl'
   exact fin_ret (by simp[c_ll,gx,ld])
theorem dd_nogate{n:Int}(h:¬ (0≤n∧n<us.length)):f_deed_done [cD ps us,stD L R F,.tup [.str "let",.int n]] S=.exc ⟨"NoGate",none⟩ S:=by
 have cg:=cg_ok (ps:=ps) (us:=us) (n:=n) (S:=S)
 rw[if_neg h] at cg
 have cg:=gX_exc cg y_in.1
 have cl':f_check_let [cD ps us,stD L R F,.int n] S=.exc ⟨"NoGate",none⟩ S:=by
  refine(fnB_ap (m:=7) (b:=b_check_let)).trans ?_
  show fin (b_check_let [some (cD ps us),some (stD L R F),some (.int n),none,none,none,none] S)=_
  unfold b_check_let
  exact fin_exc (ρ':=[some (cD ps us),some (stD L R F),some (.int n),none,none,none,none]) (by simp[cg])
 have gx:=gX_exc cl' y_in.1
 refine(fnB_ap (m:=8) (b:=b_deed_done)).trans ?_
 show fin (b_deed_done [some (cD ps us),some (stD L R F),some (.tup [.str "let",.int n]),none,none,none,none,none] S)=_
 unfold b_deed_done
 refine(fin_nx (ρ':=[some (cD ps us),some (stD L R F),some (.tup [.str "let",.int n]),some (.str "let"),some (.int n),none,none,none]) (S':=S) rfl).trans ?_
 exact fin_exc (ρ':=[some (cD ps us),some (stD L R F),some (.tup [.str "let",.int n]),some (.str "let"),some (.int n),none,none,none]) (by simp[c_ll,gx])
def rFeed(k:Nat)(p:Pl)(l:Int)(L R F:List Int):Res:=match p with
 | .p br _ _ (.int i)=>if br≤l then .no "Full" else .yes (.tup [stD (L.set k (l+1)) R F,.int i,.int 0])
 | _=>.no "NoSpring"
theorem pl_pr{br de ro:Int}{pr:D}:DL.getD (Pl.toD (.p br de ro pr)) (.int 4) S=.ok pr S:=get_t (atI_nn (by decide) rfl)
theorem cfeed_ok{k:Nat}{p:Pl}{l:Int}(hp:ps[k]?=some p)(hl:L[k]?=some l)(ok:p.ok):f_check_feed [cD ps us,stD L R F,.int k] S=match rFeed k p l L R F with
  | .no y=>.exc ⟨y,none⟩ S
  | .yes _=>.ok .non S:=by
 have hk:k<ps.length:=(List.getElem?_eq_some_iff.mp hp).1
 have sp:=spring_ok (S:=S) ok
 have fu:=is_full_ok (l:=l) (S:=S) ok
 have g1:=pl_at (S:=S) hp
 have g2:=get_int (S:=S) hl
 refine(fnB_ap (m:=5) (b:=b_check_feed)).trans ?_
 show fin (b_check_feed [some (cD ps us),some (stD L R F),some (.int k),none,none] S)=_
 unfold b_check_feed
 refine(fin_nx (ρ':=[some (cD ps us),some (stD L R F),some (.int k),some (.tup (ps.map Pl.toD)),some (.tup (L.map D.int))]) (S':=S) (spar_ok (by simp[cd0,st0]))).trans ?_
 have hk':(k:Int)<ps.length:=by omega
 have t1:(to (tn (tb (ch leD ltD (cn (.int 0)) (vr 2) (b1 lenD (ac (vr 3) an))))) (tn (tt (cl 1 (noExc f_has_spring) (ac (o2 DL.getD (vr 3) (vr 2)) an))))) [some (cD ps us),some (stD L R F),some (.int k),some (.tup (ps.map Pl.toD)),some (.tup (L.map D.int))] S=.ok (!spr p) S:=by
  simp[hk',g1,sp,truD]
 have t2:tt (cl 2 (noExc f_is_full) (ac (o2 DL.getD (vr 3) (vr 2)) (ac (o2 DL.getD (vr 4) (vr 2)) an))) [some (cD ps us),some (stD L R F),some (.int k),some (.tup (ps.map Pl.toD)),some (.tup (L.map D.int))] S=.ok (!p.isE&&decide (wat p≤l)) S:=by
  simp[g1,g2,fu,truD]
 have no:spr p=false→fin (sq (sif (to (tn (tb (ch leD ltD (cn (.int 0)) (vr 2) (b1 lenD (ac (vr 3) an))))) (tn (tt (cl 1 (noExc f_has_spring) (ac (o2 DL.getD (vr 3) (vr 2)) an))))) (srs "NoSpring" (ac (cn (.str "there is no spring at this place")) an)) DL.skip) (sif (tt (cl 2 (noExc f_is_full) (ac (o2 DL.getD (vr 3) (vr 2)) (ac (o2 DL.getD (vr 4) (vr 2)) an)))) (srs "Full" (ac (cn (.str "the pound is at its brim")) an)) DL.skip) [some (cD ps us),some (stD L R F),some (.int k),some (.tup (ps.map Pl.toD)),some (.tup (L.map D.int))] S)=.exc ⟨"NoSpring",none⟩ S:=fun z=>by
  rw[z] at t1
  exact fin_exc (ρ':=[some (cD ps us),some (stD L R F),some (.int k),some (.tup (ps.map Pl.toD)),some (.tup (L.map D.int))]) (by rw[sif_t t1]; simp[srs])
 cases p with
 | e=>exact no rfl
 | c=>exact no rfl
 | p br de ro pr=>
  obtain⟨_,_,_,_,_,_,hpr⟩:=id ok
  rcases hpr with rfl | ⟨i,rfl,_⟩
  ·exact no rfl
  ·refine(fin_nx (ρ':=[some (cD ps us),some (stD L R F),some (.int k),some (.tup (ps.map Pl.toD)),some (.tup (L.map D.int))]) (S':=S) (by rw[sif_f t1]; rfl)).trans ?_
   have t2:tt (cl 2 (noExc f_is_full) (ac (o2 DL.getD (vr 3) (vr 2)) (ac (o2 DL.getD (vr 4) (vr 2)) an))) [some (cD ps us),some (stD L R F),some (.int k),some (.tup (ps.map Pl.toD)),some (.tup (L.map D.int))] S=.ok (decide (br≤l)) S:=t2
   show _=(match (if br≤l then Res.no "Full" else Res.yes (.tup [stD (L.set k (l+1)) R F,.int i,.int 0])) with | .no y=>Out.exc ⟨y,none⟩ S | .yes _=>.ok D.non S)
   by_cases c:br≤l
   ·rw[if_pos c]
    rw[decide_eq_true c] at t2
    rw[sif_t t2]
    simp[srs,fin]
   ·rw[if_neg c]
    rw[decide_eq_false c] at t2
    rw[sif_f t2]
    rfl
theorem dd_feed{k:Nat}{p:Pl}{l:Int}(hp:ps[k]?=some p)(hl:L[k]?=some l)(ok:p.ok)(hL:L.length≤1000):f_deed_done [cD ps us,stD L R F,.tup [.str "feed",.int k]] S=(rFeed k p l L R F).out S:=by
 have cf:=cfeed_ok (us:=us) (R:=R) (F:=F) (S:=S) hp hl ok
 refine(fnB_ap (m:=8) (b:=b_deed_done)).trans ?_
 show fin (b_deed_done [some (cD ps us),some (stD L R F),some (.tup [.str "feed",.int k]),none,none,none,none,none] S)=_
 unfold b_deed_done
 refine(fin_nx (ρ':=[some (cD ps us),some (stD L R F),some (.tup [.str "feed",.int k]),some (.str "feed"),some (.int k),none,none,none]) (S':=S) rfl).trans ?_
 refine(fin_nx (ρ':=[some (cD ps us),some (stD L R F),some (.tup [.str "feed",.int k]),some (.str "feed"),some (.int k),none,none,none]) (S':=S) (by simp[c_fl])).trans ?_
 have no:∀ y,y∈ys→rFeed k p l L R F=.no y→fin (sq (sif (tb (o2 eqD (vr 3) (cn (.str "feed")))) (sq (sx (cl 3 (gX ys f_check_feed) (ac (vr 0) (ac (vr 1) (ac (vr 4) an))))) (sq (sa (vr 1) (gt (gcons (gn 5) (gcons (gn 6) (gcons (gn 7) gnil))) 3)) (sret (tp (ac (tp (ac (cl 3 (noExc f_with_more) (ac (vr 5) (ac (vr 4) (ac (cn (.int 1)) an)))) (ac (vr 6) (ac (vr 7) an)))) (ac (o2 DL.getD (o2 DL.getD (o2 DL.getD (vr 0) (cn (.int 0))) (vr 4)) (cn (.int 4))) (ac (cn (.int 0)) an))))))) DL.skip) (sq (sx (cl 3 (gX ys f_check_move) (ac (vr 0) (ac (vr 1) (ac (vr 2) an))))) (sret (tp (ac (cl 2 (noExc f_moved) (ac (vr 1) (ac (vr 2) an))) (ac (cn (.int 0)) (ac (ie (tt (cl 2 (noExc f_is_last_move) (ac (vr 0) (ac (vr 2) an)))) (cn (.int 1)) (cn (.int 0))) an)))))) [some (cD ps us),some (stD L R F),some (.tup [.str "feed",.int k]),some (.str "feed"),some (.int k),none,none,none] S)=(Res.no y).out S:=fun y hy z=>by
  rw[z] at cf
  have gx:=gX_exc cf hy
  exact fin_exc (ρ':=[some (cD ps us),some (stD L R F),some (.tup [.str "feed",.int k]),some (.str "feed"),some (.int k),none,none,none]) (by simp[c_ff,gx])
 cases z:rFeed k p l L R F with
 | no y=>
  refine no y ?_ z
  unfold rFeed at z
  split at z
  ·split at z
   ·cases z; exact y_in.2.2.1
   ·cases z
  ·cases z; exact y_in.2.2.2
 | yes d=>
  rw[z] at cf
  have gx:=gX_ok cf
  unfold rFeed at z
  split at z
  ·rename_i br de ro i
   split at z
   ·cases z
   ·cases z
    have g:=pl_at (S:=S) hp
    have mo:=more_ok (S:=S) (m:=1) hl hL
    have pp:=pl_pr (br:=br) (de:=de) (ro:=ro) (pr:=.int i) (S:=S)
    refine fin_ret ?_
    rw[sif_t (S1:=S) (by simp[c_ff]),sq_nx (ρ':=[some (cD ps us),some (stD L R F),some (.tup [.str "feed",.int k]),some (.str "feed"),some (.int k),none,none,none]) (S1:=S) (by simp[gx]),sq_nx (f:=sa (vr 1) (gt (gcons (gn 5) (gcons (gn 6) (gcons (gn 7) gnil))) 3)) (ρ':=[some (cD ps us),some (stD L R F),some (.tup [.str "feed",.int k]),some (.str "feed"),some (.int k),some (.tup (L.map D.int)),some (.tup (R.map D.int)),some (.tup (F.map D.int))]) (S1:=S) rfl]
    simp[mo,cd0,g,pp,stD,-List.map_set]
  ·cases z
end
end Law
set_option Elab.async false
set_option linter.all false
set_option maxRecDepth 100000
namespace Law
open PySem PySem.Spec PyProof.Rows L2 DL
theorem y_mv:("NoGate":Str)∈ys∧("NoBarge":Str)∈ys∧("NoRoom":Str)∈ys∧("Uneven":Str)∈ys∧("Shallow":Str)∈ys:=by decide +kernel
def stI(b:Bool)(k:Nat):Nat:=if b=true then k else k+1
def glI(b:Bool)(k:Nat):Nat:=if b=true then k+1 else k
abbrev dM(b:Bool)(n:Int):D:=.tup [wd b,.int n]
def shal:Pl→Int→Bool
 | .p _ de _ _,l=>decide (l<de)
 | _,_=>false
section
variable{ps:List Pl}{us:List Bool}{L R F:List Int}{S:Sto}{b:Bool}
theorem w_let:eqD (wd b) (.str "let") S=.ok (.bl false) S:=by
 cases b
 ·show eqD (.str "left") (.str "let") S=_
  rw[eq_ss (stok _) (stok _)]; rfl
 ·show eqD (.str "right") (.str "let") S=_
  rw[eq_ss (stok _) (stok _)]; rfl
theorem w_feed:eqD (wd b) (.str "feed") S=.ok (.bl false) S:=by
 cases b
 ·show eqD (.str "left") (.str "feed") S=_
  rw[eq_ss (stok _) (stok _)]; rfl
 ·show eqD (.str "right") (.str "feed") S=_
  rw[eq_ss (stok _) (stok _)]; rfl
theorem w_left:eqD (wd b) (.str "left") S=.ok (.bl (!b)) S:=by
 cases b
 ·show eqD (.str "left") (.str "left") S=_
  rw[eq_ss (stok _) (stok _)]; rfl
 ·show eqD (.str "right") (.str "left") S=_
  rw[eq_ss (stok _) (stok _)]; rfl
theorem ahead_ok{n:Int}:f_place_ahead [dM b n] S=.ok (.int (if b=true then n else n+1)) S:=by
 refine(fnB_ap (m:=3) (b:=b_place_ahead)).trans ?_
 show fin (b_place_ahead [some (dM b n),none,none] S)=_
 unfold b_place_ahead
 refine(fin_nx (ρ':=[some (dM b n),some (wd b),some (.int n)]) (S':=S) rfl).trans ?_
 have w:=w_right (b:=b) (S:=S)
 cases b<;>simp[w]
theorem behind_ok{n:Int}:f_place_behind [dM b n] S=.ok (.int (if b=true then n+1 else n)) S:=by
 refine(fnB_ap (m:=3) (b:=b_place_behind)).trans ?_
 show fin (b_place_behind [some (dM b n),none,none] S)=_
 unfold b_place_behind
 refine(fin_nx (ρ':=[some (dM b n),some (wd b),some (.int n)]) (S':=S) rfl).trans ?_
 have w:=w_right (b:=b) (S:=S)
 cases b<;>simp[w]
theorem st_i{k:Nat}:(if b=true then(k:Int) else(k:Int)+1)=((stI b k:Nat):Int):=by cases b<;>simp[stI]
theorem gl_i{k:Nat}:(if b=true then(k:Int)+1 else(k:Int))=((glI b k:Nat):Int):=by cases b<;>simp[glI]
theorem sg_ne{k:Nat}:stI b k≠glI b k:=by cases b<;>simp[stI,glI]
theorem shal_ok{p:Pl}{l:Int}:f_is_shallow [p.toD,.int l] S=.ok (.bl (shal p l)) S:=by
 refine(fnB_ap (m:=2) (b:=b_is_shallow)).trans ?_
 show fin (b_is_shallow [some p.toD,some (.int l)] S)=_
 cases p with
 | e=>
  have g:DL.getD (Pl.toD .e) (.int 0) S=.ok (.str "end") S:=get_t (atI_nn (by decide) rfl)
  simp[b_is_shallow,g,s2,shal]
 | c=>
  have g:DL.getD (Pl.toD .c) (.int 0) S=.ok (.str "chamber") S:=get_t (atI_nn (by decide) rfl)
  simp[b_is_shallow,g,s4,shal]
 | p br de ro pr=>
  have g:DL.getD (Pl.toD (.p br de ro pr)) (.int 0) S=.ok (.str "pound") S:=get_t (atI_nn (by decide) rfl)
  have g2:DL.getD (Pl.toD (.p br de ro pr)) (.int 2) S=.ok (.int de) S:=get_t (atI_nn (by decide) rfl)
  simp[b_is_shallow,g,g2,s6,shal]
theorem cwat_ok{k:Nat}{u:Bool}{pH pL:Pl}{lH lL:Int}(hu:us[k]?=some u)(h1:ps[hiI u k]?=some pH)(h2:ps[loI u k]?=some pL)(h3:L[hiI u k]?=some lH)(h4:L[loI u k]?=some lL)(ok1:pH.ok)(ok2:pL.ok):
  f_check_water [cD ps us,.tup (L.map D.int),.int k] S=if(pH.isC&&decide (lH=1))=true then .exc ⟨"Uneven",none⟩ S else if(pL.isC&&decide (lL=0))=true then .exc ⟨"Uneven",none⟩ S else if(shal pH lH||shal pL lL)=true then .exc ⟨"Shallow",none⟩ S else .ok .non S:=by
 have hi:=higher_ok (ps:=ps) (S:=S) hu
 have lo:=lower_ok (ps:=ps) (S:=S) hu
 have g1:=pl_at (S:=S) h1
 have g2:=pl_at (S:=S) h2
 have g3:=get_int (S:=S) h3
 have g4:=get_int (S:=S) h4
 have c1:=eq_cham (S:=S) ok1
 have c2:=eq_cham (S:=S) ok2
 have sh1:=shal_ok (p:=pH) (l:=lH) (S:=S)
 have sh2:=shal_ok (p:=pL) (l:=lL) (S:=S)
 refine(fnB_ap (m:=6) (b:=b_check_water)).trans ?_
 show fin (b_check_water [some (cD ps us),some (.tup (L.map D.int)),some (.int k),none,none,none] S)=_
 unfold b_check_water
 refine(fin_nx (ρ':=[some (cD ps us),some (.tup (L.map D.int)),some (.int k),some (.tup (ps.map Pl.toD)),none,none]) (S':=S) (by simp[cd0])).trans ?_
 refine(fin_nx (ρ':=[some (cD ps us),some (.tup (L.map D.int)),some (.int k),some (.tup (ps.map Pl.toD)),some (.int (hiI u k)),none]) (S':=S) (by simp[hi])).trans ?_
 refine(fin_nx (ρ':=[some (cD ps us),some (.tup (L.map D.int)),some (.int k),some (.tup (ps.map Pl.toD)),some (.int (hiI u k)),some (.int (loI u k))]) (S':=S) (by simp[lo])).trans ?_
 generalize hρ:[some (cD ps us),some (D.tup (L.map D.int)),some (.int k),some (.tup (ps.map Pl.toD)),some (.int (hiI u k)),some (.int (loI u k))]=ρ
 have v1:vr 1 ρ S=.ok (.tup (L.map D.int)) S:=by rw[←hρ]; rfl
 have v3:vr 3 ρ S=.ok (.tup (ps.map Pl.toD)) S:=by rw[←hρ]; rfl
 have v4:vr 4 ρ S=.ok (.int (hiI u k)) S:=by rw[←hρ]; rfl
 have v5:vr 5 ρ S=.ok (.int (loI u k)) S:=by rw[←hρ]; rfl
 have t1:ta (tb (o2 eqD (o2 DL.getD (vr 3) (vr 4)) (cn c_CHAMBER))) (tb (o2 eqD (o2 DL.getD (vr 1) (vr 4)) (cn (.int 1)))) ρ S=.ok (pH.isC&&decide (lH=1)) S:=by
  simp only[ta_ap,tb_ap,o2_ap,v3,v4,v1,bind_ok,g1,g3,cn_ap,c_CHAMBER,c1,eq_ii]
  cases pH.isC<;>simp
 have t2:ta (tb (o2 eqD (o2 DL.getD (vr 3) (vr 5)) (cn c_CHAMBER))) (tb (o2 eqD (o2 DL.getD (vr 1) (vr 5)) (cn (.int 0)))) ρ S=.ok (pL.isC&&decide (lL=0)) S:=by
  simp only[ta_ap,tb_ap,o2_ap,v3,v5,v1,bind_ok,g2,g4,cn_ap,c_CHAMBER,c2,eq_ii]
  cases pL.isC<;>simp
 have t3:to (tt (cl 2 (noExc f_is_shallow) (ac (o2 DL.getD (vr 3) (vr 4)) (ac (o2 DL.getD (vr 1) (vr 4)) an)))) (tt (cl 2 (noExc f_is_shallow) (ac (o2 DL.getD (vr 3) (vr 5)) (ac (o2 DL.getD (vr 1) (vr 5)) an)))) ρ S=.ok (shal pH lH||shal pL lL) S:=by
  simp only[to_ap,tt_ap,cl_ap,ac_ap,an_ap,o2_ap,v3,v4,v5,v1,bind_ok,g1,g2,g3,g4,List.length_cons,List.length_nil,if_true,noExc_ap,sh1,sh2,truD]
  cases shal pH lH<;>simp[sh2,truD]
 by_cases e1:(pH.isC&&decide (lH=1))=true
 ·rw[if_pos e1]
  rw[e1] at t1
  exact fin_exc (by rw[sif_t t1]; simp[srs]; rfl)
 ·rw[if_neg e1]
  rw[Bool.eq_false_iff.mpr e1] at t1
  refine(fin_nx (ρ':=ρ) (S':=S) (by rw[sif_f t1]; rfl)).trans ?_
  by_cases e2:(pL.isC&&decide (lL=0))=true
  ·rw[if_pos e2]
   rw[e2] at t2
   exact fin_exc (by rw[sif_t t2]; simp[srs]; rfl)
  ·rw[if_neg e2]
   rw[Bool.eq_false_iff.mpr e2] at t2
   refine(fin_nx (ρ':=ρ) (S':=S) (by rw[sif_f t2]; rfl)).trans ?_
   by_cases e3:(shal pH lH||shal pL lL)=true
   ·rw[if_pos e3]
    rw[e3] at t3
    rw[sif_t t3]
    simp[srs,fin]
   ·rw[if_neg e3]
    rw[Bool.eq_false_iff.mpr e3] at t3
    rw[sif_f t3]
    rfl
structure Mv(ps:List Pl)(us:List Bool)(L R F:List Int)(b:Bool)(k:Nat)(u:Bool)(pH pL pG:Pl)(lH lL a g r1 f1:Int):Prop where
 hu:us[k]?=some u
 h1:ps[hiI u k]?=some pH
 h2:ps[loI u k]?=some pL
 h3:L[hiI u k]?=some lH
 h4:L[loI u k]?=some lL
 ok1:pH.ok
 ok2:pL.ok
 hG:ps[glI b k]?=some pG
 okG:pG.ok
 ha:(sel b R F)[stI b k]?=some a
 hg:(sel b R F)[glI b k]?=some g
 hr:R[glI b k]?=some r1
 hf:F[glI b k]?=some f1
 hn:us.length+1=ps.length
 lM:(sel b R F).length≤1000
def mvRow(b:Bool)(R F:List Int)(k:Nat)(a g:Int):List Int:=((sel b R F).set (stI b k) (a + -1)).set (glI b k) (g+1)
def mvSt(b:Bool)(L R F:List Int)(k:Nat)(a g:Int):D:=stD L (if b=true then mvRow b R F k a g else R) (if b=true then F else mvRow b R F k a g)
def mvNo(pH pL pG:Pl)(lH lL a r1 f1:Int):Option Str:=
 if a=0 then some "NoBarge" else if(hol pG (r1+f1+1))=false then some "NoRoom" else if(pH.isC&&decide (lH=1))=true then some "Uneven" else if(pL.isC&&decide (lL=0))=true then some "Uneven" else if(shal pH lH||shal pL lL)=true then some "Shallow" else none
def rMove(m:Nat)(b:Bool)(k:Nat)(pH pL pG:Pl)(lH lL a g r1 f1:Int)(L R F:List Int):Res:=match mvNo pH pL pG lH lL a r1 f1 with
 | some y=>.no y
 | none=>.yes (.tup [mvSt b L R F k a g,.int 0,.int (if(glI b k:Int)=(if b=true then(m:Int)-1 else 0) then 1 else 0)])
variable{k:Nat}{u:Bool}{pH pL pG:Pl}{lH lL a g r1 f1:Int}
theorem mvNo_in{y:Str}(h:mvNo pH pL pG lH lL a r1 f1=some y):y∈ys:=by
 unfold mvNo at h
 split at h
 ·cases h; exact y_mv.2.1
 ·split at h
  ·cases h; exact y_mv.2.2.1
  ·split at h
   ·cases h; exact y_mv.2.2.2.1
   ·split at h
    ·cases h; exact y_mv.2.2.2.1
    ·split at h
     ·cases h; exact y_mv.2.2.2.2
     ·cases h
theorem cmove_ok(v:Mv ps us L R F b k u pH pL pG lH lL a g r1 f1):f_check_move [cD ps us,stD L R F,dM b k] S=match mvNo pH pL pG lH lL a r1 f1 with
  | some y=>.exc ⟨y,none⟩ S
  | none=>.ok .non S:=by
 have hk:k<us.length:=(List.getElem?_eq_some_iff.mp v.hu).1
 have cg:=cg_ok (ps:=ps) (us:=us) (n:=(k:Int)) (S:=S)
 rw[if_pos ⟨by omega,by omega⟩] at cg
 have cg:=gX_ok cg
 have bo:=bof_ok (b:=b) (L:=L) (R:=R) (F:=F) (S:=S)
 have ah:=ahead_ok (b:=b) (n:=(k:Int)) (S:=S)
 rw[st_i] at ah
 have be:=behind_ok (b:=b) (n:=(k:Int)) (S:=S)
 rw[gl_i] at be
 have ga:=get_int (S:=S) v.ha
 have gG:=pl_at (S:=S) v.hG
 have gr:=get_int (S:=S) v.hr
 have gf:=get_int (S:=S) v.hf
 have ho:=holds_ok (b:=r1+f1+1) (S:=S) v.okG
 have cw:=cwat_ok (S:=S) v.hu v.h1 v.h2 v.h3 v.h4 v.ok1 v.ok2
 refine(fnB_ap (m:=6) (b:=b_check_move)).trans ?_
 show fin (b_check_move [some (cD ps us),some (stD L R F),some (dM b k),none,none,none] S)=_
 unfold b_check_move
 refine(fin_nx (ρ':=[some (cD ps us),some (stD L R F),some (dM b k),some (wd b),some (.int k),none]) (S':=S) rfl).trans ?_
 refine(fin_nx (ρ':=[some (cD ps us),some (stD L R F),some (dM b k),some (wd b),some (.int k),none]) (S':=S) (by simp[cg])).trans ?_
 unfold mvNo
 by_cases e1:a=0
 ·rw[if_pos e1]
  subst e1
  exact fin_exc (ρ':=[some (cD ps us),some (stD L R F),some (dM b k),some (wd b),some (.int k),none]) (by simp[bo,ah,ga,srs])
 ·rw[if_neg e1]
  refine(fin_nx (ρ':=[some (cD ps us),some (stD L R F),some (dM b k),some (wd b),some (.int k),none]) (S':=S) (by simp[bo,ah,ga,e1])).trans ?_
  refine(fin_nx (ρ':=[some (cD ps us),some (stD L R F),some (dM b k),some (wd b),some (.int k),some (.int (glI b k))]) (S':=S) (by simp[be])).trans ?_
  by_cases e2:hol pG (r1+f1+1)=false
  ·rw[if_pos e2]
   rw[e2] at ho
   exact fin_exc (ρ':=[some (cD ps us),some (stD L R F),some (dM b k),some (wd b),some (.int k),some (.int (glI b k))]) (by simp[cd0,gG,st1,st2,gr,gf,ho,truD,srs])
  ·rw[if_neg e2]
   have e2:hol pG (r1+f1+1)=true:=by simpa using e2
   rw[e2] at ho
   refine(fin_nx (ρ':=[some (cD ps us),some (stD L R F),some (dM b k),some (wd b),some (.int k),some (.int (glI b k))]) (S':=S) (by simp[cd0,gG,st1,st2,gr,gf,ho,truD])).trans ?_
   by_cases e3:(pH.isC&&decide (lH=1))=true
   ·rw[if_pos e3] at cw ⊢
    have gx:=gX_exc cw y_mv.2.2.2.1
    simp[st0,gx,fin]
   ·rw[if_neg e3] at cw ⊢
    by_cases e4:(pL.isC&&decide (lL=0))=true
    ·rw[if_pos e4] at cw ⊢
     have gx:=gX_exc cw y_mv.2.2.2.1
     simp[st0,gx,fin]
    ·rw[if_neg e4] at cw ⊢
     by_cases e5:(shal pH lH||shal pL lL)=true
     ·rw[if_pos e5] at cw ⊢
      have gx:=gX_exc cw y_mv.2.2.2.2
      simp[st0,gx,fin]
     ·rw[if_neg e5] at cw ⊢
      have gx:=gX_ok cw
      simp[st0,gx,fin]
theorem moved_ok(v:Mv ps us L R F b k u pH pL pG lH lL a g r1 f1):f_moved [stD L R F,dM b k] S=.ok (mvSt b L R F k a g) S:=by
 have bo:=bof_ok (b:=b) (L:=L) (R:=R) (F:=F) (S:=S)
 have ah:=ahead_ok (b:=b) (n:=(k:Int)) (S:=S)
 rw[st_i] at ah
 have be:=behind_ok (b:=b) (n:=(k:Int)) (S:=S)
 rw[gl_i] at be
 have m1:=more_ok (S:=S) (m := -1) v.ha v.lM
 have hg':((sel b R F).set (stI b k) (a + -1))[glI b k]?=some g:=(List.getElem?_set_ne sg_ne).trans v.hg
 have m2:=more_ok (S:=S) (m:=1) hg' (by rw[List.length_set]; exact v.lM)
 have wb:f_with_barges [stD L R F,wd b,.tup ((mvRow b R F k a g).map D.int)] S=.ok (mvSt b L R F k a g) S:=by
  refine(fnB_ap (m:=6) (b:=b_with_barges)).trans ?_
  show fin (b_with_barges [some (stD L R F),some (wd b),some (.tup ((mvRow b R F k a g).map D.int)),none,none,none] S)=_
  have w:=w_right (S:=S) (b:=b)
  unfold b_with_barges
  refine(fin_nx (ρ':=[some (stD L R F),some (wd b),some (.tup ((mvRow b R F k a g).map D.int)),some (.tup (L.map D.int)),some (.tup (R.map D.int)),some (.tup (F.map D.int))]) (S':=S) rfl).trans ?_
  cases b<;>simp[w,mvSt,stD]
 have d0:DL.getD (dM b k) (.int 0) S=.ok (wd b) S:=get_t (atI_nn (by decide) rfl)
 refine(fnB_ap (m:=4) (b:=b_moved)).trans ?_
 show fin (b_moved [some (stD L R F),some (dM b k),none,none] S)=_
 unfold b_moved
 refine(fin_nx (ρ':=[some (stD L R F),some (dM b k),some (wd b),none]) (S':=S) (by simp[d0])).trans ?_
 refine(fin_nx (ρ':=[some (stD L R F),some (dM b k),some (wd b),some (.tup (((sel b R F).set (stI b k) (a + -1)).map D.int))]) (S':=S) (by simp[bo,ah,m1,-List.map_set])).trans ?_
 unfold mvRow at wb
 simp[m2,be,wb,-List.map_set]
theorem last_ok:f_is_last_move [cD ps us,dM b k] S=.ok (.bl (decide ((glI b k:Int)=(if b=true then(ps.length:Int)-1 else 0)))) S:=by
 have be:=behind_ok (b:=b) (n:=(k:Int)) (S:=S)
 rw[gl_i] at be
 have d0:DL.getD (dM b k) (.int 0) S=.ok (wd b) S:=get_t (atI_nn (by decide) rfl)
 have w:=w_right (S:=S) (b:=b)
 refine(fnB_ap (m:=2) (b:=b_is_last_move)).trans ?_
 show fin (b_is_last_move [some (cD ps us),some (dM b k)] S)=_
 cases b<;>simp[b_is_last_move,be,d0,w,cd0]
theorem dd_move(v:Mv ps us L R F b k u pH pL pG lH lL a g r1 f1):f_deed_done [cD ps us,stD L R F,dM b k] S=(rMove ps.length b k pH pL pG lH lL a g r1 f1 L R F).out S:=by
 have cm:=cmove_ok (S:=S) v
 have mo:=moved_ok (S:=S) v
 have la:=last_ok (ps:=ps) (us:=us) (b:=b) (k:=k) (S:=S)
 have wl:=w_let (b:=b) (S:=S)
 have wf:=w_feed (b:=b) (S:=S)
 refine(fnB_ap (m:=8) (b:=b_deed_done)).trans ?_
 show fin (b_deed_done [some (cD ps us),some (stD L R F),some (dM b k),none,none,none,none,none] S)=_
 unfold b_deed_done
 refine(fin_nx (ρ':=[some (cD ps us),some (stD L R F),some (dM b k),some (wd b),some (.int k),none,none,none]) (S':=S) rfl).trans ?_
 refine(fin_nx (ρ':=[some (cD ps us),some (stD L R F),some (dM b k),some (wd b),some (.int k),none,none,none]) (S':=S) (by simp[wl])).trans ?_
 refine(fin_nx (ρ':=[some (cD ps us),some (stD L R F),some (dM b k),some (wd b),some (.int k),none,none,none]) (S':=S) (by simp[wf])).trans ?_
 unfold rMove
 cases z:mvNo pH pL pG lH lL a r1 f1 with
 | some y=>
  rw[z] at cm
  have gx:=gX_exc cm (mvNo_in z)
  exact fin_exc (ρ':=[some (cD ps us),some (stD L R F),some (dM b k),some (wd b),some (.int k),none,none,none]) (by simp[gx])
 | none=>
  rw[z] at cm
  have gx:=gX_ok cm
  refine(fin_nx (ρ':=[some (cD ps us),some (stD L R F),some (dM b k),some (wd b),some (.int k),none,none,none]) (S':=S) (by simp[gx])).trans ?_
  by_cases c:(glI b k:Int)=(if b=true then(ps.length:Int)-1 else 0)
  ·rw[decide_eq_true c] at la
   rw[if_pos c]
   simp[mo,la,truD]
   rfl
  ·rw[decide_eq_false c] at la
   rw[if_neg c]
   simp[mo,la,truD]
   rfl
theorem dd_mnogate{n:Int}(h:¬ (0≤n∧n<us.length)):f_deed_done [cD ps us,stD L R F,dM b n] S=.exc ⟨"NoGate",none⟩ S:=by
 have cg:=cg_ok (ps:=ps) (us:=us) (n:=n) (S:=S)
 rw[if_neg h] at cg
 have cg:=gX_exc cg y_mv.1
 have wl:=w_let (b:=b) (S:=S)
 have wf:=w_feed (b:=b) (S:=S)
 have cm:f_check_move [cD ps us,stD L R F,dM b n] S=.exc ⟨"NoGate",none⟩ S:=by
  refine(fnB_ap (m:=6) (b:=b_check_move)).trans ?_
  show fin (b_check_move [some (cD ps us),some (stD L R F),some (dM b n),none,none,none] S)=_
  unfold b_check_move
  refine(fin_nx (ρ':=[some (cD ps us),some (stD L R F),some (dM b n),some (wd b),some (.int n),none]) (S':=S) rfl).trans ?_
  exact fin_exc (ρ':=[some (cD ps us),some (stD L R F),some (dM b n),some (wd b),some (.int n),none]) (by simp[cg])
 have gx:=gX_exc cm y_mv.1
 refine(fnB_ap (m:=8) (b:=b_deed_done)).trans ?_
 show fin (b_deed_done [some (cD ps us),some (stD L R F),some (dM b n),none,none,none,none,none] S)=_
 unfold b_deed_done
 refine(fin_nx (ρ':=[some (cD ps us),some (stD L R F),some (dM b n),some (wd b),some (.int n),none,none,none]) (S':=S) rfl).trans ?_
 refine(fin_nx (ρ':=[some (cD ps us),some (stD L R F),some (dM b n),some (wd b),some (.int n),none,none,none]) (S':=S) (by simp[wl])).trans ?_
 refine(fin_nx (ρ':=[some (cD ps us),some (stD L R F),some (dM b n),some (wd b),some (.int n),none,none,none]) (S':=S) (by simp[wf])).trans ?_
 exact fin_exc (ρ':=[some (cD ps us),some (stD L R F),some (dM b n),some (wd b),some (.int n),none,none,none]) (by simp[gx])
end
end Law
set_option Elab.async false
set_option linter.all false
set_option maxRecDepth 100000
namespace Law
open PySem PySem.Spec PyProof.Rows L2 DL
def pn:Pl→Str
 | .e=>"end"
 | .c=>"chamber"
 | .p _ _ _ _=>"pound"
def isP:Pl→Bool
 | .p _ _ _ _=>true
 | _=>false
section
variable{ps:List Pl}{us:List Bool}{L R F:List Int}{S:Sto}
theorem pl0{p:Pl}:DL.getD p.toD (.int 0) S=.ok (.str (pn p)) S:=by cases p<;>exact get_t (atI_nn (by decide) rfl)
theorem ne_pound{p:Pl}:neD (.str (pn p)) (.str "pound") S=.ok (.bl (!isP p)) S:=by
 cases p
 ·exact ne_of_eq s2
 ·exact ne_of_eq s4
 ·exact ne_of_eq s6
theorem ne_endw{p:Pl}:neD (.str (pn p)) (.str "end") S=.ok (.bl (!p.isE)) S:=by
 cases p
 ·exact ne_of_eq s7
 ·exact ne_of_eq s8
 ·exact ne_of_eq s9
abbrev dL(w:Str)(n:Int):D:=.tup [.str w,.int n]
abbrev rd(ps:List Pl)(us:List Bool)(L R F:List Int)(w:Str)(n:Int)(q:Nat)(x8 x9:Option D):Lc:=[some (cD ps us),some (stD L R F),some (dL w n),some (.tup (ps.map Pl.toD)),some (.tup (us.map gd)),some (.str w),some (.int n),some (.lst q),x8,x9]
theorem lst_at{q i:Nat}{l:Int}{M:List Int}(h:S[q]?=some ⟨false,M.map D.int⟩)(hl:M[i]?=some l):DL.getD (.lst q) (.int i) S=.ok (.int l) S:=get_l h (atI_nn (by omega) (by rw[Int.toNat_natCast,List.getElem?_map,hl]; rfl))
theorem lst_set{q i:Nat}{v l:Int}{M:List Int}(h:S[q]?=some ⟨false,M.map D.int⟩)(hl:M[i]?=some l):setD (.lst q) (.int i) (.int v) S=some (S.set q ⟨false,(M.set i v).map D.int⟩):=by
 have hi:i<M.length:=(List.getElem?_eq_some_iff.mp hl).1
 rw[set_l h (by omega) (by simp; omega),Int.toNat_natCast,List.map_set]
theorem due_feed{k:Nat}{p:Pl}{l:Int}(hp:ps[k]?=some p)(hl:L[k]?=some l)(ok:p.ok)(hw:l≤wat p):∃ S',f__law_due [cD ps us,stD L R F,dL "feed" k] S=.ok (rFeed k p l L R F).toD S'∧Ex S S':=by
 have hk:k<ps.length:=(List.getElem?_eq_some_iff.mp hp).1
 have q0:(S++[(⟨false,L.map D.int⟩:Cell)])[S.length]?=some ⟨false,L.map D.int⟩:=app_at
 have x1:Ex S (S++[⟨false,L.map D.int⟩]):=Ex.app
 have key:∃ S',fin (sq (sif (tb (o2 eqD (vr 5) (cn (.str "feed")))) (sq (sif (to (tb (o2 ltD (vr 6) (cn (.int 0)))) (to (tb (o2 geD (vr 6) (b1 lenD (ac (vr 3) an)))) (tb (o2 neD (o2 DL.getD (o2 DL.getD (vr 3) (vr 6)) (cn (.int 0))) (cn (.str "pound")))))) (sret (cn (.str "nospring"))) DL.skip) (sq (sif (tb (o2 isnD (o2 DL.getD (o2 DL.getD (vr 3) (vr 6)) (cn (.int 4))) (cn .non))) (sret (cn (.str "nospring"))) DL.skip) (sq (sif (tb (o2 eqD (o2 DL.getD (vr 7) (vr 6)) (o2 DL.getD (o2 DL.getD (vr 3) (vr 6)) (cn (.int 1))))) (sret (cn (.str "full"))) DL.skip) (sq (ss (o2 addD (o2 DL.getD (vr 7) (vr 6)) (cn (.int 1))) (vr 7) (vr 6) setD) (sret (tp (ac (tp (ac (b1 tupD (ac (vr 7) an)) (ac (o2 DL.getD (vr 1) (cn (.int 1))) (ac (o2 DL.getD (vr 1) (cn (.int 2))) an)))) (ac (o2 DL.getD (o2 DL.getD (vr 3) (vr 6)) (cn (.int 4))) (ac (cn (.int 0)) an))))))))) DL.skip) (fun _ _=>.bad) (rd ps us L R F "feed" k S.length none none) (S++[⟨false,L.map D.int⟩]))=.ok (rFeed k p l L R F).toD S'∧Ex S S':=by
  have g1:=fun S=>pl_at (ps:=ps) (S:=S) hp
  have h0:¬ ((k:Int)<0):=by omega
  have h1:¬ ((ps.length:Int)≤k):=by omega
  cases hP:isP p with
  | false=>
   refine⟨_,?_,x1⟩
   have e:(rFeed k p l L R F).toD=.str "nospring":=by cases p with | p _ _ _ _=>cases hP | _=>rfl
   rw[e]
   have n:=fun S=>ne_pound (p:=p) (S:=S)
   rw[hP] at n
   refine fin_ret ?_
   rw[sif_t (S1:=S++[⟨false,L.map D.int⟩]) (by simp[c_ff])]
   refine sq_rt ?_
   rw[sif_t (S1:=S++[⟨false,L.map D.int⟩])]
   ·rfl
   ·simp[h0,h1,g1,pl0,n]
  | true=>
   cases p with
   | e=>cases hP
   | c=>cases hP
   | p br de ro pr=>
    have n:=fun S=>ne_pound (p:=.p br de ro pr) (S:=S)
    have p4:=fun S=>pl_pr (br:=br) (de:=de) (ro:=ro) (pr:=pr) (S:=S)
    have p1:∀ S,DL.getD (Pl.toD (.p br de ro pr)) (.int 1) S=.ok (.int br) S:=fun S=>get_t (atI_nn (by decide) rfl)
    have b1':∀ X,(sq (sif (to (tb (o2 ltD (vr 6) (cn (.int 0)))) (to (tb (o2 geD (vr 6) (b1 lenD (ac (vr 3) an)))) (tb (o2 neD (o2 DL.getD (o2 DL.getD (vr 3) (vr 6)) (cn (.int 0))) (cn (.str "pound")))))) (sret (cn (.str "nospring"))) DL.skip) X) (rd ps us L R F "feed" k S.length none none) (S++[⟨false,L.map D.int⟩])=X (rd ps us L R F "feed" k S.length none none) (S++[⟨false,L.map D.int⟩]):=fun X=>by
     refine sq_nx ?_
     rw[sif_f (S1:=S++[⟨false,L.map D.int⟩])]
     ·rfl
     ·simp[h0,h1,g1,pl0,n,isP]
    obtain⟨_,_,_,_,_,_,hpr⟩:=id ok
    have hw:l≤br:=hw
    rcases hpr with rfl | ⟨i,rfl,_⟩
    ·refine⟨_,?_,x1⟩
     refine fin_ret ?_
     rw[sif_t (S1:=S++[⟨false,L.map D.int⟩]) (by simp[c_ff]),b1']
     refine sq_rt ?_
     rw[sif_t (S1:=S++[⟨false,L.map D.int⟩])]
     ·rfl
     ·simp[g1,p4,isnD]
    ·have b2':∀ X,(sq (sif (tb (o2 isnD (o2 DL.getD (o2 DL.getD (vr 3) (vr 6)) (cn (.int 4))) (cn .non))) (sret (cn (.str "nospring"))) DL.skip) X) (rd ps us L R F "feed" k S.length none none) (S++[⟨false,L.map D.int⟩])=X (rd ps us L R F "feed" k S.length none none) (S++[⟨false,L.map D.int⟩]):=fun X=>by
      refine sq_nx ?_
      rw[sif_f (S1:=S++[⟨false,L.map D.int⟩])]
      ·rfl
      ·simp[g1,p4,isnD]
     have gl:=lst_at q0 hl
     have t3:tb (o2 eqD (o2 DL.getD (vr 7) (vr 6)) (o2 DL.getD (o2 DL.getD (vr 3) (vr 6)) (cn (.int 1)))) (rd ps us L R F "feed" k S.length none none) (S++[⟨false,L.map D.int⟩])=.ok (decide (l=br)) (S++[⟨false,L.map D.int⟩]):=by
      simp[gl,g1,p1]
     by_cases c:l=br
     ·refine⟨_,?_,x1⟩
      rw[show rFeed k (.p br de ro (.int i)) l L R F=.no "Full" from if_pos (by omega)]
      refine fin_ret ?_
      rw[sif_t (S1:=S++[⟨false,L.map D.int⟩]) (by simp[c_ff]),b1',b2']
      refine sq_rt ?_
      rw[decide_eq_true c] at t3
      rw[sif_t t3]
      rfl
     ·have x2:Ex S ((S++[(⟨false,L.map D.int⟩:Cell)]).set S.length ⟨false,(L.set k (l+1)).map D.int⟩):=x1.setq (Nat.le_refl _)
      refine⟨_,?_,x2⟩
      rw[show rFeed k (.p br de ro (.int i)) l L R F=.yes (.tup [stD (L.set k (l+1)) R F,.int i,.int 0]) from if_neg (by omega)]
      refine fin_ret ?_
      rw[sif_t (S1:=S++[⟨false,L.map D.int⟩]) (by simp[c_ff]),b1',b2']
      rw[decide_eq_false c] at t3
      rw[sq_nx (ρ':=rd ps us L R F "feed" k S.length none none) (S1:=S++[⟨false,L.map D.int⟩]) (by rw[sif_f t3]; rfl)]
      have st:=lst_set (v:=l+1) q0 hl
      have q2:((S++[(⟨false,L.map D.int⟩:Cell)]).set S.length ⟨false,(L.set k (l+1)).map D.int⟩)[S.length]?=some ⟨false,(L.set k (l+1)).map D.int⟩:=List.getElem?_set_self (by simp)
      rw[sq_nx (f:=ss (o2 addD (o2 DL.getD (vr 7) (vr 6)) (cn (.int 1))) (vr 7) (vr 6) setD) (ρ':=rd ps us L R F "feed" k S.length none none) (S1:=(S++[(⟨false,L.map D.int⟩:Cell)]).set S.length ⟨false,(L.set k (l+1)).map D.int⟩) (by simp[gl,st,-List.map_set])]
      have tu:=tup_l q2
      generalize (S++[(⟨false,L.map D.int⟩:Cell)]).set S.length ⟨false,(L.set k (l+1)).map D.int⟩=S2 at tu ⊢
      simp[tu,st1,st2,g1,p4,-List.map_set]
      rfl
 obtain⟨S',e,x⟩:=key
 refine⟨S',?_,x⟩
 refine(fnB_ap (m:=10) (b:=b__law_due)).trans ?_
 show fin (b__law_due [some (cD ps us),some (stD L R F),some (dL "feed" k),none,none,none,none,none,none,none] S)=_
 unfold b__law_due
 refine(fin_nx (ρ':=[some (cD ps us),some (stD L R F),some (dL "feed" k),some (.tup (ps.map Pl.toD)),some (.tup (us.map gd)),none,none,none,none,none]) (S':=S) rfl).trans ?_
 refine(fin_nx (ρ':=[some (cD ps us),some (stD L R F),some (dL "feed" k),some (.tup (ps.map Pl.toD)),some (.tup (us.map gd)),some (.str "feed"),some (.int k),none,none,none]) (S':=S) rfl).trans ?_
 refine(fin_nx (ρ':=rd ps us L R F "feed" k S.length none none) (S':=S++[⟨false,L.map D.int⟩]) (by simp[st0,list_t])).trans ?_
 rw[sq_ap] at e ⊢
 split at e<;>first | exact e | (cases e)
end
end Law
set_option Elab.async false
set_option linter.all false
set_option maxRecDepth 100000
namespace Law
open PySem PySem.Spec PyProof.Rows L2 DL
section
variable{ps:List Pl}{us:List Bool}{L R F:List Int}{S:Sto}
theorem c_nl:neD (.str "let") (.str "let") S=.ok (.bl false) S:=ne_of_eq c_ll
theorem due_pre{w:Str}{n:Int}{X:Sv}:fin ((sq (sa (vr 0) (gt (gcons (gn 3) (gcons (gn 4) gnil)) 2)) (sq (sa (vr 2) (gt (gcons (gn 5) (gcons (gn 6) gnil)) 2)) (sq (sa (b1 listD (ac (o2 DL.getD (vr 1) (cn (.int 0))) an)) (gn 7)) X))) [some (cD ps us),some (stD L R F),some (dL w n),none,none,none,none,none,none,none] S)=fin (X (rd ps us L R F w n S.length none none) (S++[⟨false,L.map D.int⟩])):=by
 refine(fin_nx (ρ':=[some (cD ps us),some (stD L R F),some (dL w n),some (.tup (ps.map Pl.toD)),some (.tup (us.map gd)),none,none,none,none,none]) (S':=S) rfl).trans ?_
 refine(fin_nx (ρ':=[some (cD ps us),some (stD L R F),some (dL w n),some (.tup (ps.map Pl.toD)),some (.tup (us.map gd)),some (.str w),some (.int n),none,none,none]) (S':=S) rfl).trans ?_
 have e:sa (b1 listD (ac (o2 DL.getD (vr 1) (cn (.int 0))) an)) (gn 7) [some (cD ps us),some (stD L R F),some (dL w n),some (.tup (ps.map Pl.toD)),some (.tup (us.map gd)),some (.str w),some (.int n),none,none,none] S=.nx (rd ps us L R F w n S.length none none) (S++[⟨false,L.map D.int⟩]):=by simp[st0,list_t]
 exact fin_nx e
theorem due_let_no{n:Int}(h:¬ (0≤n∧n<us.length)):∃ S',f__law_due [cD ps us,stD L R F,dL "let" n] S=.ok (wordOf "NoGate") S'∧Ex S S':=by
 refine⟨S++[⟨false,L.map D.int⟩],?_,Ex.app⟩
 refine(fnB_ap (m:=10) (b:=b__law_due)).trans ?_
 show fin (b__law_due [some (cD ps us),some (stD L R F),some (dL "let" n),none,none,none,none,none,none,none] S)=_
 unfold b__law_due
 refine due_pre.trans ?_
 refine(fin_nx (ρ':=rd ps us L R F "let" n S.length none none) (S':=S++[⟨false,L.map D.int⟩]) (by rw[sif_f (S1:=S++[⟨false,L.map D.int⟩]) (by simp[c_lf])]; rfl)).trans ?_
 refine fin_ret ?_
 rw[sif_t (S1:=S++[⟨false,L.map D.int⟩])]
 ·rfl
 ·by_cases h1:n<0
  ·simp[h1]
  ·have h2:(us.length:Int)≤n:=by
    by_cases c:(us.length:Int)≤n
    ·exact c
    ·exact absurd ⟨by omega,by omega⟩ h
   simp[h1,h2]
theorem up_ok{q i:Nat}{p:Pl}{l:Int}{M:List Int}{x9:Option D}{w:Str}{n:Int}(hq:S[q]?=some ⟨false,M.map D.int⟩)(hp:ps[i]?=some p)(hl:M[i]?=some l):
  sif (tb (o2 neD (o2 DL.getD (o2 DL.getD (vr 3) (vr 8)) (cn (.int 0))) (cn (.str "end")))) (sq (sif (tb (o2 eqD (o2 DL.getD (vr 7) (vr 8)) (cn (.int 0)))) (sret (cn (.str "dry"))) DL.skip) (ss (o2 subD (o2 DL.getD (vr 7) (vr 8)) (cn (.int 1))) (vr 7) (vr 8) setD)) DL.skip (rd ps us L R F w n q (some (.int i)) x9) S
   = if(!p.isE&&decide (l=0))=true then .rt (.str "dry") S else .nx (rd ps us L R F w n q (some (.int i)) x9) (if p.isE=true then S else S.set q ⟨false,(M.set i (l + -1)).map D.int⟩):=by
 have g1:=pl_at (ps:=ps) (S:=S) hp
 have ne:=ne_endw (p:=p) (S:=S)
 have gl:=lst_at hq hl
 have st:=lst_set (v:=l + -1) hq hl
 cases hE:p.isE
 ·rw[hE] at ne
  rw[sif_t (S1:=S) (by simp[g1,pl0,ne])]
  by_cases c:l=0
  ·subst c
   rw[if_pos (by simp)]
   refine sq_rt ?_
   rw[sif_t (S1:=S) (by simp[gl])]
   rfl
  ·rw[if_neg (by simp[c])]
   rw[sq_nx (ρ':=rd ps us L R F w n q (some (.int i)) x9) (S1:=S) (by rw[sif_f (S1:=S) (by simp[gl,c])]; rfl)]
   rw[←Int.sub_eq_add_neg] at st ⊢
   simp[gl,st,-List.map_set]
 ·rw[hE] at ne
  rw[sif_f (S1:=S) (by simp[g1,pl0,ne]),if_neg (by simp)]
  rfl
theorem wat1{p:Pl}(hE:p.isE=false):∃ d,addD p.toD (.tup [.int 1]) S=.ok d S∧DL.getD d (.int 1) S=.ok (.int (wat p)) S:=by
 cases p with
 | e=>cases hE
 | c=>exact⟨_,add_tt (by simp),get_t (atI_nn (by decide) rfl)⟩
 | p br de ro pr=>exact⟨_,add_tt (by simp),get_t (atI_nn (by decide) rfl)⟩
theorem down_ok{q i:Nat}{p:Pl}{l:Int}{M:List Int}{x8:Option D}{w:Str}{n:Int}(hq:S[q]?=some ⟨false,M.map D.int⟩)(hp:ps[i]?=some p)(hl:M[i]?=some l)(hw:l≤wat p):
  sif (tb (o2 neD (o2 DL.getD (o2 DL.getD (vr 3) (vr 9)) (cn (.int 0))) (cn (.str "end")))) (sq (sif (tb (o2 eqD (o2 DL.getD (vr 7) (vr 9)) (o2 DL.getD (o2 addD (o2 DL.getD (vr 3) (vr 9)) (tp (ac (cn (.int 1)) an))) (cn (.int 1))))) (sret (cn (.str "full"))) DL.skip) (ss (o2 addD (o2 DL.getD (vr 7) (vr 9)) (cn (.int 1))) (vr 7) (vr 9) setD)) DL.skip (rd ps us L R F w n q x8 (some (.int i))) S
   = if(!p.isE&&decide (wat p≤l))=true then .rt (.str "full") S else .nx (rd ps us L R F w n q x8 (some (.int i))) (if p.isE=true then S else S.set q ⟨false,(M.set i (l+1)).map D.int⟩):=by
 have g1:=pl_at (ps:=ps) (S:=S) hp
 have ne:=ne_endw (p:=p) (S:=S)
 have gl:=lst_at hq hl
 have st:=lst_set (v:=l+1) hq hl
 cases hE:p.isE
 ·rw[hE] at ne
  obtain⟨d,a1,a2⟩:=wat1 (S:=S) hE
  have tst:tb (o2 eqD (o2 DL.getD (vr 7) (vr 9)) (o2 DL.getD (o2 addD (o2 DL.getD (vr 3) (vr 9)) (tp (ac (cn (.int 1)) an))) (cn (.int 1)))) (rd ps us L R F w n q x8 (some (.int i))) S=.ok (decide (l=wat p)) S:=by
   simp[gl,g1,a1,a2]
  rw[sif_t (S1:=S) (by simp[g1,pl0,ne])]
  by_cases c:l=wat p
  ·rw[if_pos (by simp; omega)]
   refine sq_rt ?_
   rw[decide_eq_true c] at tst
   rw[sif_t tst]
   rfl
  ·rw[if_neg (by simp; omega)]
   rw[decide_eq_false c] at tst
   rw[sq_nx (ρ':=rd ps us L R F w n q x8 (some (.int i))) (S1:=S) (by rw[sif_f tst]; rfl)]
   simp[gl,st,-List.map_set]
 ·rw[hE] at ne
  rw[sif_f (S1:=S) (by simp[g1,pl0,ne]),if_neg (by simp)]
  rfl
theorem due_let{k:Nat}{u:Bool}{pH pL:Pl}{lH lL:Int}(hu:us[k]?=some u)(h1:ps[hiI u k]?=some pH)(h2:ps[loI u k]?=some pL)(h3:L[hiI u k]?=some lH)(h4:L[loI u k]?=some lL)(hw:lL≤wat pL)(hk:k≤1000):
  ∃ S',f__law_due [cD ps us,stD L R F,dL "let" k] S=.ok (rLet u k pH pL lH lL L R F).toD S'∧Ex S S':=by
 have hk':k<us.length:=(List.getElem?_eq_some_iff.mp hu).1
 have x1:Ex S (S++[⟨false,L.map D.int⟩]):=Ex.app
 have q0:(S++[(⟨false,L.map D.int⟩:Cell)])[S.length]?=some ⟨false,L.map D.int⟩:=app_at
 have hlen:S.length<(S++[(⟨false,L.map D.int⟩:Cell)]).length:=by simp
 generalize hS1:S++[(⟨false,L.map D.int⟩:Cell)]=S1 at x1 q0 hlen
 have mu:mulD (.int 2) (.int (k:Int)) S1=.ok (.int (2*(k:Int))) S1:=mul_l (by decide) (by decide)
 have gg:=gd_at (us:=us) (S:=S1) hu
 have gu:=gd_up (u:=u) (S:=S1)
 have pre:f__law_due [cD ps us,stD L R F,dL "let" k] S=fin (sq (sif (tb (o2 neD (o2 DL.getD (o2 DL.getD (vr 3) (vr 8)) (cn (.int 0))) (cn (.str "end")))) (sq (sif (tb (o2 eqD (o2 DL.getD (vr 7) (vr 8)) (cn (.int 0)))) (sret (cn (.str "dry"))) DL.skip) (ss (o2 subD (o2 DL.getD (vr 7) (vr 8)) (cn (.int 1))) (vr 7) (vr 8) setD)) DL.skip) (sq (sif (tb (o2 neD (o2 DL.getD (o2 DL.getD (vr 3) (vr 9)) (cn (.int 0))) (cn (.str "end")))) (sq (sif (tb (o2 eqD (o2 DL.getD (vr 7) (vr 9)) (o2 DL.getD (o2 addD (o2 DL.getD (vr 3) (vr 9)) (tp (ac (cn (.int 1)) an))) (cn (.int 1))))) (sret (cn (.str "full"))) DL.skip) (ss (o2 addD (o2 DL.getD (vr 7) (vr 9)) (cn (.int 1))) (vr 7) (vr 9) setD)) DL.skip) (sret (tp (ac (tp (ac (b1 tupD (ac (vr 7) an)) (ac (o2 DL.getD (vr 1) (cn (.int 1))) (ac (o2 DL.getD (vr 1) (cn (.int 2))) an)))) (ac (cn (.int 0)) (ac (cn (.int 0)) an)))))) (rd ps us L R F "let" k S.length (some (.int (hiI u k))) (some (.int (loI u k)))) S1):=by
  refine(fnB_ap (m:=10) (b:=b__law_due)).trans ?_
  show fin (b__law_due [some (cD ps us),some (stD L R F),some (dL "let" k),none,none,none,none,none,none,none] S)=_
  unfold b__law_due
  refine due_pre.trans ?_
  rw[hS1]
  refine(fin_nx (ρ':=rd ps us L R F "let" k S.length none none) (S':=S1) (by rw[sif_f (S1:=S1) (by simp[c_lf])]; rfl)).trans ?_
  refine(fin_nx (ρ':=rd ps us L R F "let" k S.length none none) (S':=S1) ?_).trans ?_
  ·rw[sif_f (S1:=S1)]
   ·rfl
   ·have a1:¬ ((k:Int)<0):=by omega
    have a2:¬ ((us.length:Int)≤k):=by omega
    simp[a1,a2]
  refine(fin_nx (ρ':=rd ps us L R F "let" k S.length (some (.int (hiI u k))) none) (S':=S1) ?_).trans ?_
  ·have e:(k:Int)+(if u=true then 1 else 0)=((hiI u k:Nat):Int):=by cases u<;>simp[hiI]
   simp[gg,gu,int_b,e]
  refine(fin_nx (ρ':=rd ps us L R F "let" k S.length (some (.int (hiI u k))) (some (.int (loI u k)))) (S':=S1) ?_).trans ?_
  ·have e:2*(k:Int)+1-((hiI u k:Nat):Int)=((loI u k:Nat):Int):=by cases u<;>simp[hiI,loI]<;>omega
   simp[mu,e]
  exact fin_nx (ρ':=rd ps us L R F "let" k S.length (some (.int (hiI u k))) (some (.int (loI u k)))) (S':=S1) (by rw[sif_f (S1:=S1) (by simp[c_nl])]; rfl)
 have a:=up_ok (us:=us) (L:=L) (R:=R) (F:=F) (x9:=some (.int (loI u k))) (w:="let") (n:=k) q0 h1 h3
 unfold rLet
 by_cases c1:(!pH.isE&&decide (lH=0))=true
 ·rw[if_pos c1] at a ⊢
  exact⟨S1,by rw[pre]; exact fin_ret a,x1⟩
 ·rw[if_neg c1] at a ⊢
  have q2:(if pH.isE=true then S1 else S1.set S.length ⟨false,(L.set (hiI u k) (lH + -1)).map D.int⟩)[S.length]?=some ⟨false,(adw pH L (hiI u k) lH (-1)).map D.int⟩:=by
   unfold adw
   split
   ·exact q0
   ·exact List.getElem?_set_self hlen
  have x2:Ex S (if pH.isE=true then S1 else S1.set S.length ⟨false,(L.set (hiI u k) (lH + -1)).map D.int⟩):=by
   split
   ·exact x1
   ·exact x1.setq (Nat.le_refl _)
  generalize (if pH.isE=true then S1 else S1.set S.length ⟨false,(L.set (hiI u k) (lH + -1)).map D.int⟩)=S2 at a q2 x2
  have hlen2:S.length<S2.length:=(List.getElem?_eq_some_iff.mp q2).1
  have b:=down_ok (us:=us) (L:=L) (R:=R) (F:=F) (x8:=some (.int (hiI u k))) (w:="let") (n:=k) q2 h2 ((adw_ne hl_ne).trans h4) hw
  by_cases c2:(!pL.isE&&decide (wat pL≤lL))=true
  ·rw[if_pos c2] at b ⊢
   exact⟨S2,by rw[pre]; exact(fin_nx a).trans (fin_ret b),x2⟩
  ·rw[if_neg c2] at b ⊢
   have q3:(if pL.isE=true then S2 else S2.set S.length ⟨false,((adw pH L (hiI u k) lH (-1)).set (loI u k) (lL+1)).map D.int⟩)[S.length]?=some ⟨false,(adw pL (adw pH L (hiI u k) lH (-1)) (loI u k) lL 1).map D.int⟩:=by
    rw[show adw pL (adw pH L (hiI u k) lH (-1)) (loI u k) lL 1=if pL.isE=true then adw pH L (hiI u k) lH (-1) else(adw pH L (hiI u k) lH (-1)).set (loI u k) (lL+1) from rfl]
    split
    ·exact q2
    ·exact List.getElem?_set_self hlen2
   have x3:Ex S (if pL.isE=true then S2 else S2.set S.length ⟨false,((adw pH L (hiI u k) lH (-1)).set (loI u k) (lL+1)).map D.int⟩):=by
    split
    ·exact x2
    ·exact x2.setq (Nat.le_refl _)
   generalize (if pL.isE=true then S2 else S2.set S.length ⟨false,((adw pH L (hiI u k) lH (-1)).set (loI u k) (lL+1)).map D.int⟩)=S3 at b q3 x3
   refine⟨S3,?_,x3⟩
   rw[pre]
   refine(fin_nx a).trans ((fin_nx b).trans ?_)
   have tu:=tup_l q3
   simp[tu,st1,st2,-List.map_set]
   rfl
end
end Law
set_option Elab.async false
set_option linter.all false
set_option maxRecDepth 100000
namespace Law
open PySem PySem.Spec PyProof.Rows L2 DL
theorem eq_chw{p:Pl}{S:Sto}:eqD (.str (pn p)) (.str "chamber") S=.ok (.bl p.isC) S:=by
 cases p
 ·exact s1
 ·exact s3
 ·exact s5
theorem eq_pow{p:Pl}{S:Sto}:eqD (.str (pn p)) (.str "pound") S=.ok (.bl (isP p)) S:=by
 cases p
 ·exact s2
 ·exact s4
 ·exact s6
theorem forN_rt{nxt:Nat→Sto→Option D}{g:Tg}{b:Sv}{n k:Nat}{ρ ρ1:Lc}{S S2:Sto}{d y:D}(h:nxt k S=some d)(h2:g d ρ=some ρ1)(h3:b ρ1 S=.rt y S2):forN nxt g b (n+1) k ρ S=.rt y S2:=by
 conv=>lhs; unfold forN
 simp only[h,h2,h3]
def kk(b:Bool):Int:=if b=true then 1 else 2
def rowAt(b:Bool)(n:Nat):Nat:=if b=true then n+2 else n+3
section
variable{q:Nat}{A B C:List D}{S:Sto}
theorem rw0(h:Rw S q (q+1) (q+2) (q+3) A B C):DL.getD (.lst q) (.int 0) S=.ok (.lst (q+1)) S:=get_l h.q0 rfl
theorem rw1(h:Rw S q (q+1) (q+2) (q+3) A B C):DL.getD (.lst q) (.int 1) S=.ok (.lst (q+2)) S:=get_l h.q0 rfl
theorem rw2(h:Rw S q (q+1) (q+2) (q+3) A B C):DL.getD (.lst q) (.int 2) S=.ok (.lst (q+3)) S:=get_l h.q0 rfl
theorem rwk{b:Bool}(h:Rw S q (q+1) (q+2) (q+3) A B C):DL.getD (.lst q) (.int (kk b)) S=.ok (.lst (rowAt b q)) S:=by
 cases b
 ·exact rw2 h
 ·exact rw1 h
end
abbrev RwI(S:Sto)(q:Nat)(L R F:List Int):Prop:=Rw S q (q+1) (q+2) (q+3) (L.map D.int) (R.map D.int) (F.map D.int)
theorem rw_sel{S:Sto}{q:Nat}{L R F:List Int}{b:Bool}(h:RwI S q L R F):S[rowAt b q]?=some ⟨false,(sel b R F).map D.int⟩:=by
 cases b
 ·exact h.q3
 ·exact h.q2
theorem rw_set{S:Sto}{q:Nat}{L R F M:List Int}{b:Bool}(h:RwI S q L R F):RwI (S.set (rowAt b q) ⟨false,M.map D.int⟩) q L (if b=true then M else R) (if b=true then F else M):=by
 have lt:∀ {i:Nat} {c:Cell},S[i]?=some c→i<S.length:=fun e=>(List.getElem?_eq_some_iff.mp e).1
 cases b
 ·have e:rowAt false q=q+3:=rfl
  rw[e]
  refine⟨?_,?_,?_,?_⟩
  ·rw[List.getElem?_set_ne (by omega)]; exact h.q0
  ·rw[List.getElem?_set_ne (by omega)]; exact h.q1
  ·rw[List.getElem?_set_ne (by omega)]; exact h.q2
  ·rw[List.getElem?_set_self (lt h.q3)]; rfl
 ·have e:rowAt true q=q+2:=rfl
  rw[e]
  refine⟨?_,?_,?_,?_⟩
  ·rw[List.getElem?_set_ne (by omega)]; exact h.q0
  ·rw[List.getElem?_set_ne (by omega)]; exact h.q1
  ·rw[List.getElem?_set_self (lt h.q2)]; rfl
  ·rw[List.getElem?_set_ne (by omega)]; exact h.q3
abbrev rg(ps:List Pl)(us:List Bool)(L R F:List Int)(b:Bool)(k hi lo q:Nat)(x12 x13 x14:Option D):Lc:=[some (cD ps us),some (stD L R F),some (dM b k),some (.int hi),some (.int lo),some (.tup (ps.map Pl.toD)),some (wd b),some (.int k),some (.lst q),some (.int (kk b)),some (.int (stI b k)),some (.int (glI b k)),x12,x13,x14]
section
variable{ps:List Pl}{us:List Bool}{L R F:List Int}{S:Sto}{b:Bool}{k:Nat}{u:Bool}{pH pL pG:Pl}{lH lL a g r1 f1:Int}
theorem shal_t{i:Nat}{p:Pl}{l:Int}{hi lo q:Nat}{x12 x14:Option D}(h:RwI S q L R F)(hp:ps[i]?=some p)(hl:L[i]?=some l):lb__law_gone_1 (rg ps us L R F b k hi lo q x12 (some (.int i)) x14) S=if shal p l=true then .rt (.str "shallow") S else .nx (rg ps us L R F b k hi lo q x12 (some (.int i)) x14) S:=by
 have g1:=pl_at (S:=S) hp
 have g2:=rw0 h
 have g3:=lst_at h.q1 hl
 have e:=eq_pow (p:=p) (S:=S)
 have t:ta (tb (o2 eqD (o2 DL.getD (o2 DL.getD (vr 5) (vr 13)) (cn (.int 0))) (cn (.str "pound")))) (tb (o2 ltD (o2 DL.getD (o2 DL.getD (vr 8) (cn (.int 0))) (vr 13)) (o2 DL.getD (o2 DL.getD (vr 5) (vr 13)) (cn (.int 2))))) (rg ps us L R F b k hi lo q x12 (some (.int i)) x14) S=.ok (shal p l) S:=by
  cases p with
  | e=>simp[g1,pl0,e,isP,shal]
  | c=>simp[g1,pl0,e,isP,shal]
  | p br de ro pr=>
   have gd:DL.getD (Pl.toD (.p br de ro pr)) (.int 2) S=.ok (.int de) S:=get_t (atI_nn (by decide) rfl)
   simp[g1,pl0,e,isP,shal,g2,g3,gd]
 unfold lb__law_gone_1
 cases c:shal p l
 ·rw[c] at t
  rw[sif_f t]
  rfl
 ·rw[c] at t
  rw[sif_t t]
  rfl
theorem room_t{hi lo q:Nat}{x13 x14:Option D}{X:Sv}(hG:ps[glI b k]?=some pG):sq (sif (ta (tb (o2 eqD (o2 DL.getD (o2 DL.getD (vr 5) (vr 11)) (cn (.int 0))) (cn (.str "chamber")))) (tb (o2 gtD (vr 12) (cn (.int 0))))) (sret (cn (.str "noroom"))) DL.skip) (sq (sif (ta (tb (o2 eqD (o2 DL.getD (o2 DL.getD (vr 5) (vr 11)) (cn (.int 0))) (cn (.str "pound")))) (tb (o2 geD (vr 12) (o2 DL.getD (o2 DL.getD (vr 5) (vr 11)) (cn (.int 3)))))) (sret (cn (.str "noroom"))) DL.skip) X) (rg ps us L R F b k hi lo q (some (.int (r1+f1))) x13 x14) S
  = if hol pG (r1+f1+1)=false then .rt (.str "noroom") S else X (rg ps us L R F b k hi lo q (some (.int (r1+f1))) x13 x14) S:=by
 have g1:=pl_at (S:=S) hG
 have e1:=eq_chw (p:=pG) (S:=S)
 have e2:=eq_pow (p:=pG) (S:=S)
 cases pG with
 | e=>
  rw[if_neg (by simp[hol])]
  rw[sq_nx (ρ':=rg ps us L R F b k hi lo q (some (.int (r1+f1))) x13 x14) (S1:=S) (by rw[sif_f (S1:=S) (by simp[g1,pl0,e1,Pl.isC])]; rfl),sq_nx (ρ':=rg ps us L R F b k hi lo q (some (.int (r1+f1))) x13 x14) (S1:=S) (by rw[sif_f (S1:=S) (by simp[g1,pl0,e2,isP])]; rfl)]
 | c=>
  by_cases c:0<r1+f1
  ·rw[if_pos (by simp[hol]; omega)]
   refine sq_rt ?_
   rw[sif_t (S1:=S) (by simp[g1,pl0,e1,Pl.isC,c])]
   rfl
  ·rw[if_neg (by simp[hol]; omega)]
   rw[sq_nx (ρ':=rg ps us L R F b k hi lo q (some (.int (r1+f1))) x13 x14) (S1:=S) (by rw[sif_f (S1:=S) (by simp[g1,pl0,e1,Pl.isC]; omega)]; rfl),sq_nx (ρ':=rg ps us L R F b k hi lo q (some (.int (r1+f1))) x13 x14) (S1:=S) (by rw[sif_f (S1:=S) (by simp[g1,pl0,e2,isP])]; rfl)]
 | p br de ro pr=>
  have g3:DL.getD (Pl.toD (.p br de ro pr)) (.int 3) S=.ok (.int ro) S:=get_t (atI_nn (by decide) rfl)
  rw[sq_nx (ρ':=rg ps us L R F b k hi lo q (some (.int (r1+f1))) x13 x14) (S1:=S) (by rw[sif_f (S1:=S) (by simp[g1,pl0,e1,Pl.isC])]; rfl)]
  by_cases c:ro≤r1+f1
  ·rw[if_pos (by simp[hol]; omega)]
   refine sq_rt ?_
   rw[sif_t (S1:=S) (by simp[g1,pl0,e2,isP,g3,c])]
   rfl
  ·rw[if_neg (by simp[hol]; omega)]
   rw[sq_nx (ρ':=rg ps us L R F b k hi lo q (some (.int (r1+f1))) x13 x14) (S1:=S) (by rw[sif_f (S1:=S) (by simp[g1,pl0,e2,isP,g3]; omega)]; rfl)]
theorem gone_ok(v:Mv ps us L R F b k u pH pL pG lH lL a g r1 f1)(hc:pH.isC=true→0≤lH∧lH≤1):∃ S',f__law_gone [cD ps us,stD L R F,dM b k,.int (hiI u k),.int (loI u k)] S=.ok (rMove ps.length b k pH pL pG lH lL a g r1 f1 L R F).toD S'∧Ex S S':=by
 obtain⟨S1,e1,w1,x1⟩:=lists_ok (A:=L.map D.int) (B:=R.map D.int) (C:=F.map D.int) (f:=vr 1) (ρ:=[some (cD ps us),some (stD L R F),some (dM b k),some (.int (hiI u k)),some (.int (loI u k)),some (.tup (ps.map Pl.toD)),some (wd b),some (.int k),none,none,none,none,none,none,none]) (S:=S) rfl
 have w1:RwI S1 S.length L R F:=w1
 have x2:Ex S1 (S1++[⟨false,[.int 2,.int 1]⟩]):=Ex.app
 have gk:∀ c:Bool,DL.getD (.lst S1.length) (.int (if c=true then 1 else 0)) (S1++[⟨false,[.int 2,.int 1]⟩])=.ok (.int (kk c)) (S1++[⟨false,[.int 2,.int 1]⟩]):=fun c=>get_l app_at (by cases c<;>rfl)
 have gb:=gk b
 have wr:=fun S=>w_right (b:=b) (S:=S)
 have wl:=fun S=>w_left (b:=b) (S:=S)
 have pre:f__law_gone [cD ps us,stD L R F,dM b k,.int (hiI u k),.int (loI u k)] S=fin ((sq (sif (tb (o2 eqD (o2 DL.getD (o2 DL.getD (vr 8) (vr 9)) (vr 10)) (cn (.int 0)))) (sret (cn (.str "nobarge"))) DL.skip) (sq (sa (o2 addD (o2 DL.getD (o2 DL.getD (vr 8) (cn (.int 1))) (vr 11)) (o2 DL.getD (o2 DL.getD (vr 8) (cn (.int 2))) (vr 11))) (gn 12)) (sq (sif (ta (tb (o2 eqD (o2 DL.getD (o2 DL.getD (vr 5) (vr 11)) (cn (.int 0))) (cn (.str "chamber")))) (tb (o2 gtD (vr 12) (cn (.int 0))))) (sret (cn (.str "noroom"))) DL.skip) (sq (sif (ta (tb (o2 eqD (o2 DL.getD (o2 DL.getD (vr 5) (vr 11)) (cn (.int 0))) (cn (.str "pound")))) (tb (o2 geD (vr 12) (o2 DL.getD (o2 DL.getD (vr 5) (vr 11)) (cn (.int 3)))))) (sret (cn (.str "noroom"))) DL.skip) (sq (sif (ta (tb (o2 eqD (o2 DL.getD (o2 DL.getD (vr 5) (vr 3)) (cn (.int 0))) (cn (.str "chamber")))) (tb (o2 gtD (o2 DL.getD (o2 DL.getD (vr 8) (cn (.int 0))) (vr 3)) (cn (.int 0))))) (sret (cn (.str "uneven"))) DL.skip) (sq (sif (ta (tb (o2 eqD (o2 DL.getD (o2 DL.getD (vr 5) (vr 4)) (cn (.int 0))) (cn (.str "chamber")))) (tb (o2 eqD (o2 DL.getD (o2 DL.getD (vr 8) (cn (.int 0))) (vr 4)) (cn (.int 0))))) (sret (cn (.str "uneven"))) DL.skip) (sq (sfor (isrc (ls (ac (vr 3) (ac (vr 4) an)))) (gn 13) lb__law_gone_1) (sq (ss (o2 subD (o2 DL.getD (o2 DL.getD (vr 8) (vr 9)) (vr 10)) (cn (.int 1))) (o2 DL.getD (vr 8) (vr 9)) (vr 10) setD) (sq (ss (o2 addD (o2 DL.getD (o2 DL.getD (vr 8) (vr 9)) (vr 11)) (cn (.int 1))) (o2 DL.getD (vr 8) (vr 9)) (vr 11) setD) (sq (sa (b1 intD (ac (o2 eqD (vr 11) (o2 DL.getD (ls (ac (cn (.int 0)) (ac (o2 subD (b1 lenD (ac (vr 5) an)) (cn (.int 1))) an))) (b1 intD (ac (o2 eqD (vr 6) (cn (.str "right"))) an)))) an)) (gn 14)) (sret (tp (ac (tp (ac (b1 tupD (ac (o2 DL.getD (vr 8) (cn (.int 0))) an)) (ac (b1 tupD (ac (o2 DL.getD (vr 8) (cn (.int 1))) an)) (ac (b1 tupD (ac (o2 DL.getD (vr 8) (cn (.int 2))) an)) an)))) (ac (cn (.int 0)) (ac (vr 14) an))))))))))))))) (rg ps us L R F b k (hiI u k) (loI u k) S.length none none none) (S1++[⟨false,[.int 2,.int 1]⟩])):=by
  refine(fnB_ap (m:=15) (b:=b__law_gone)).trans ?_
  show fin (b__law_gone [some (cD ps us),some (stD L R F),some (dM b k),some (.int (hiI u k)),some (.int (loI u k)),none,none,none,none,none,none,none,none,none,none] S)=_
  unfold b__law_gone
  refine(fin_nx (ρ':=[some (cD ps us),some (stD L R F),some (dM b k),some (.int (hiI u k)),some (.int (loI u k)),some (.tup (ps.map Pl.toD)),none,none,none,none,none,none,none,none,none]) (S':=S) (by simp[cd0])).trans ?_
  refine(fin_nx (ρ':=[some (cD ps us),some (stD L R F),some (dM b k),some (.int (hiI u k)),some (.int (loI u k)),some (.tup (ps.map Pl.toD)),some (wd b),some (.int k),none,none,none,none,none,none,none]) (S':=S) rfl).trans ?_
  refine(fin_nx (ρ':=[some (cD ps us),some (stD L R F),some (dM b k),some (.int (hiI u k)),some (.int (loI u k)),some (.tup (ps.map Pl.toD)),some (wd b),some (.int k),some (.lst S.length),none,none,none,none,none,none]) (S':=S1) (by rw[sa_ap,e1]; rfl)).trans ?_
  refine(fin_nx (ρ':=[some (cD ps us),some (stD L R F),some (dM b k),some (.int (hiI u k)),some (.int (loI u k)),some (.tup (ps.map Pl.toD)),some (wd b),some (.int k),some (.lst S.length),some (.int (kk b)),none,none,none,none,none]) (S':=S1++[⟨false,[.int 2,.int 1]⟩]) (by simp[wr,int_b,gb])).trans ?_
  refine(fin_nx (ρ':=[some (cD ps us),some (stD L R F),some (dM b k),some (.int (hiI u k)),some (.int (loI u k)),some (.tup (ps.map Pl.toD)),some (wd b),some (.int k),some (.lst S.length),some (.int (kk b)),some (.int (stI b k)),none,none,none,none]) (S':=S1++[⟨false,[.int 2,.int 1]⟩]) ?_).trans ?_
  ·have e:(k:Int)+(if(!b)=true then 1 else 0)=((stI b k:Nat):Int):=by cases b<;>simp[stI]
   rw[sa_ap]
   simp only[o2_ap,vr_ap,b1_ap,ac_ap,an_ap,cn_ap,List.getElem?_cons_succ,List.getElem?_cons_zero,bind_ok,wl,int_b,add_ii,e,bindS_ok,gn_ap]
   rfl
  refine fin_nx (ρ':=rg ps us L R F b k (hiI u k) (loI u k) S.length none none none) (S':=S1++[⟨false,[.int 2,.int 1]⟩]) ?_
  have mu:mulD (.int 2) (.int (k:Int)) (S1++[⟨false,[.int 2,.int 1]⟩])=.ok (.int (2*(k:Int))) (S1++[⟨false,[.int 2,.int 1]⟩]):=mul_l (by decide) (by decide)
  have e:2*(k:Int)+1-((stI b k:Nat):Int)=((glI b k:Nat):Int):=by cases b<;>simp[stI,glI]<;>omega
  simp[mu,e]
 rw[pre]
 clear pre
 have w2:RwI (S1++[⟨false,[.int 2,.int 1]⟩]) S.length L R F:=w1.ex x2
 have x12:=x1.trans x2
 generalize S1++[(⟨false,[.int 2,.int 1]⟩:Cell)]=S2 at w2 x12
 have gr:=rwk (b:=b) w2
 have ga:=lst_at (rw_sel (b:=b) w2) v.ha
 unfold rMove mvNo
 by_cases c1:a=0
 ·rw[if_pos c1]
  subst c1
  refine⟨S2,fin_ret ?_,x12⟩
  rw[sif_t (S1:=S2) (by simp[gr,ga])]
  rfl
 rw[if_neg c1]
 have g1:=rw1 w2
 have g2:=rw2 w2
 have g0:=rw0 w2
 have gr1:=lst_at w2.q2 v.hr
 have gf1:=lst_at w2.q3 v.hf
 have rt:=fun X:Sv=>room_t (X:=X) (us:=us) (L:=L) (R:=R) (F:=F) (S:=S2) (r1:=r1) (f1:=f1) (hi:=hiI u k) (lo:=loI u k) (q:=S.length) (x13:=none) (x14:=none) v.hG
 have hd:∀ X:Sv,fin (sq (sif (tb (o2 eqD (o2 DL.getD (o2 DL.getD (vr 8) (vr 9)) (vr 10)) (cn (.int 0)))) (sret (cn (.str "nobarge"))) DL.skip) (sq (sa (o2 addD (o2 DL.getD (o2 DL.getD (vr 8) (cn (.int 1))) (vr 11)) (o2 DL.getD (o2 DL.getD (vr 8) (cn (.int 2))) (vr 11))) (gn 12)) X) (rg ps us L R F b k (hiI u k) (loI u k) S.length none none none) S2)=fin (X (rg ps us L R F b k (hiI u k) (loI u k) S.length (some (.int (r1+f1))) none none) S2):=fun X=>by
  refine(fin_nx (ρ':=rg ps us L R F b k (hiI u k) (loI u k) S.length none none none) (S':=S2) (by rw[sif_f (S1:=S2) (by simp[gr,ga,c1])]; rfl)).trans ?_
  exact fin_nx (by simp[g1,g2,gr1,gf1])
 rw[hd,rt]
 by_cases c2:hol pG (r1+f1+1)=false
 ·rw[if_pos c2,if_pos c2]
  exact⟨S2,rfl,x12⟩
 rw[if_neg c2,if_neg c2]
 have gH:=pl_at (S:=S2) v.h1
 have gL:=pl_at (S:=S2) v.h2
 have lHg:=lst_at w2.q1 v.h3
 have lLg:=lst_at w2.q1 v.h4
 have eH:=eq_chw (p:=pH) (S:=S2)
 have eL:=eq_chw (p:=pL) (S:=S2)
 have t3:ta (tb (o2 eqD (o2 DL.getD (o2 DL.getD (vr 5) (vr 3)) (cn (.int 0))) (cn (.str "chamber")))) (tb (o2 gtD (o2 DL.getD (o2 DL.getD (vr 8) (cn (.int 0))) (vr 3)) (cn (.int 0)))) (rg ps us L R F b k (hiI u k) (loI u k) S.length (some (.int (r1+f1))) none none) S2=.ok (pH.isC&&decide (lH=1)) S2:=by
  cases z:pH.isC
  ·rw[z] at eH
   simp[gH,pl0,eH]
  ·rw[z] at eH
   have:=hc z
   have e:decide (0<lH)=decide (lH=1):=by simp only[decide_eq_decide]; omega
   simp[gH,pl0,eH,g0,lHg,e]
 by_cases c3:(pH.isC&&decide (lH=1))=true
 ·rw[if_pos c3]
  rw[c3] at t3
  exact⟨S2,fin_ret (by rw[sif_t t3]; rfl),x12⟩
 rw[if_neg c3]
 rw[Bool.eq_false_iff.mpr c3] at t3
 have t4:ta (tb (o2 eqD (o2 DL.getD (o2 DL.getD (vr 5) (vr 4)) (cn (.int 0))) (cn (.str "chamber")))) (tb (o2 eqD (o2 DL.getD (o2 DL.getD (vr 8) (cn (.int 0))) (vr 4)) (cn (.int 0)))) (rg ps us L R F b k (hiI u k) (loI u k) S.length (some (.int (r1+f1))) none none) S2=.ok (pL.isC&&decide (lL=0)) S2:=by
  cases z:pL.isC
  ·rw[z] at eL
   simp[gL,pl0,eL]
  ·rw[z] at eL
   simp[gL,pl0,eL,g0,lLg]
 by_cases c4:(pL.isC&&decide (lL=0))=true
 ·rw[if_pos c4]
  rw[c4] at t4
  refine⟨S2,(fin_nx (ρ':=rg ps us L R F b k (hiI u k) (loI u k) S.length (some (.int (r1+f1))) none none) (S':=S2) (by rw[sif_f t3]; rfl)).trans (fin_ret (by rw[sif_t t4]; rfl)),x12⟩
 rw[if_neg c4]
 rw[Bool.eq_false_iff.mpr c4] at t4
 have hd2:∀ X:Sv,fin (sq (sif (ta (tb (o2 eqD (o2 DL.getD (o2 DL.getD (vr 5) (vr 3)) (cn (.int 0))) (cn (.str "chamber")))) (tb (o2 gtD (o2 DL.getD (o2 DL.getD (vr 8) (cn (.int 0))) (vr 3)) (cn (.int 0))))) (sret (cn (.str "uneven"))) DL.skip) (sq (sif (ta (tb (o2 eqD (o2 DL.getD (o2 DL.getD (vr 5) (vr 4)) (cn (.int 0))) (cn (.str "chamber")))) (tb (o2 eqD (o2 DL.getD (o2 DL.getD (vr 8) (cn (.int 0))) (vr 4)) (cn (.int 0))))) (sret (cn (.str "uneven"))) DL.skip) X) (rg ps us L R F b k (hiI u k) (loI u k) S.length (some (.int (r1+f1))) none none) S2)=fin (X (rg ps us L R F b k (hiI u k) (loI u k) S.length (some (.int (r1+f1))) none none) S2):=fun X=>by
  refine(fin_nx (ρ':=rg ps us L R F b k (hiI u k) (loI u k) S.length (some (.int (r1+f1))) none none) (S':=S2) (by rw[sif_f t3]; rfl)).trans ?_
  exact fin_nx (ρ':=rg ps us L R F b k (hiI u k) (loI u k) S.length (some (.int (r1+f1))) none none) (S':=S2) (by rw[sif_f t4]; rfl)
 rw[hd2]
 have x3:Ex S2 (S2++[⟨false,[.int (hiI u k),.int (loI u k)]⟩]):=Ex.app
 have el:ls (ac (vr 3) (ac (vr 4) an)) (rg ps us L R F b k (hiI u k) (loI u k) S.length (some (.int (r1+f1))) none none) S2=.ok (.lst S2.length) (S2++[⟨false,[.int (hiI u k),.int (loI u k)]⟩]):=by simp
 have q3:(S2++[(⟨false,[.int (hiI u k),.int (loI u k)]⟩:Cell)])[S2.length]?=some ⟨false,[.int (hiI u k),.int (loI u k)]⟩:=app_at
 have w3:RwI (S2++[⟨false,[.int (hiI u k),.int (loI u k)]⟩]) S.length L R F:=w2.ex x3
 have x13:=x12.trans x3
 generalize S2++[(⟨false,[.int (hiI u k),.int (loI u k)]⟩:Cell)]=S3 at el q3 w3 x13
 have sf:sfor (isrc (ls (ac (vr 3) (ac (vr 4) an)))) (gn 13) lb__law_gone_1 (rg ps us L R F b k (hiI u k) (loI u k) S.length (some (.int (r1+f1))) none none) S2=forN (srcL S2.length 2).nxt (gn 13) lb__law_gone_1 (1+1+1) 0 (rg ps us L R F b k (hiI u k) (loI u k) S.length (some (.int (r1+f1))) none none) S3:=by
  rw[sfor_ap,isrc_ap,el,bind_ok,src_l q3,bindS_ok]
  rfl
 have nx:∀ i,(srcL S2.length 2).nxt i S3=[D.int (hiI u k),D.int (loI u k)][i]?:=fun i=>by
  show(S3[S2.length]?).bind (fun c=>c.xs[i]?)=_
  rw[q3]; rfl
 have sh1:=shal_t (us:=us) (b:=b) (k:=k) (hi:=hiI u k) (lo:=loI u k) (x12:=some (.int (r1+f1))) (x14:=none) w3 v.h1 v.h3
 have sh2:=shal_t (us:=us) (b:=b) (k:=k) (hi:=hiI u k) (lo:=loI u k) (x12:=some (.int (r1+f1))) (x14:=none) w3 v.h2 v.h4
 by_cases c5:(shal pH lH||shal pL lL)=true
 ·rw[if_pos c5]
  refine⟨S3,fin_ret (sf.trans ?_),x13⟩
  cases c6:shal pH lH
  ·rw[c6] at sh1 c5
   have c7:shal pL lL=true:=by simpa using c5
   rw[if_pos c7] at sh2
   rw[forN_some (nx 0) rfl (sh1.trans (if_neg Bool.false_ne_true))]
   exact forN_rt (nx 1) rfl sh2
  ·rw[if_pos c6] at sh1
   exact forN_rt (nx 0) rfl sh1
 rw[if_neg c5]
 have c6:shal pH lH=false∧shal pL lL=false:=by simpa using c5
 rw[c6.1,if_neg Bool.false_ne_true] at sh1
 rw[c6.2,if_neg Bool.false_ne_true] at sh2
 have lp:forN (srcL S2.length 2).nxt (gn 13) lb__law_gone_1 (1+1+1) 0 (rg ps us L R F b k (hiI u k) (loI u k) S.length (some (.int (r1+f1))) none none) S3=.nx (rg ps us L R F b k (hiI u k) (loI u k) S.length (some (.int (r1+f1))) (some (.int (loI u k))) none) S3:=by
  rw[forN_some (nx 0) rfl sh1,forN_some (nx 1) rfl sh2,forN_none (nx 2)]
 have lrow:S.length≤rowAt b S.length:=by cases b<;>simp[rowAt]
 obtain⟨S4,e4,w4,q4s,x4⟩:∃ S4,ss (o2 subD (o2 DL.getD (o2 DL.getD (vr 8) (vr 9)) (vr 10)) (cn (.int 1))) (o2 DL.getD (vr 8) (vr 9)) (vr 10) setD (rg ps us L R F b k (hiI u k) (loI u k) S.length (some (.int (r1+f1))) (some (.int (loI u k))) none) S3=.nx (rg ps us L R F b k (hiI u k) (loI u k) S.length (some (.int (r1+f1))) (some (.int (loI u k))) none) S4∧RwI S4 S.length L (if b=true then(sel b R F).set (stI b k) (a + -1) else R) (if b=true then F else(sel b R F).set (stI b k) (a + -1))∧S4[rowAt b S.length]?=some ⟨false,((sel b R F).set (stI b k) (a + -1)).map D.int⟩∧Ex S S4:=by
  have gr3:=rwk (b:=b) w3
  have q3s:=rw_sel (b:=b) w3
  have ga3:=lst_at q3s v.ha
  have st3:=lst_set (v:=a-1) q3s v.ha
  rw[←Int.sub_eq_add_neg]
  exact⟨S3.set (rowAt b S.length) ⟨false,((sel b R F).set (stI b k) (a-1)).map D.int⟩,by simp[gr3,ga3,st3,-List.map_set],rw_set w3,List.getElem?_set_self (List.getElem?_eq_some_iff.mp q3s).1,x13.setq lrow⟩
 obtain⟨S5,e5,w5,x5⟩:∃ S5,ss (o2 addD (o2 DL.getD (o2 DL.getD (vr 8) (vr 9)) (vr 11)) (cn (.int 1))) (o2 DL.getD (vr 8) (vr 9)) (vr 11) setD (rg ps us L R F b k (hiI u k) (loI u k) S.length (some (.int (r1+f1))) (some (.int (loI u k))) none) S4=.nx (rg ps us L R F b k (hiI u k) (loI u k) S.length (some (.int (r1+f1))) (some (.int (loI u k))) none) S5∧RwI S5 S.length L (if b=true then mvRow b R F k a g else R) (if b=true then F else mvRow b R F k a g)∧Ex S S5:=by
  have gr4:=rwk (b:=b) w4
  have hg':((sel b R F).set (stI b k) (a + -1))[glI b k]?=some g:=(List.getElem?_set_ne sg_ne).trans v.hg
  have gg4:=lst_at q4s hg'
  have st4:=lst_set (v:=g+1) q4s hg'
  have w5:=rw_set (b:=b) (M:=mvRow b R F k a g) w4
  refine⟨S4.set (rowAt b S.length) ⟨false,(mvRow b R F k a g).map D.int⟩,?_,by cases b<;>exact w5,x4.setq lrow⟩
  have st4:setD (.lst (rowAt b S.length)) (.int (glI b k)) (.int (g+1)) S4=some (S4.set (rowAt b S.length) ⟨false,(mvRow b R F k a g).map D.int⟩):=st4
  simp[gr4,gg4,st4]
 have x6:Ex S5 (S5++[⟨false,[.int 0,.int ((ps.length:Int)-1)]⟩]):=Ex.app
 have w6:RwI (S5++[⟨false,[.int 0,.int ((ps.length:Int)-1)]⟩]) S.length L (if b=true then mvRow b R F k a g else R) (if b=true then F else mvRow b R F k a g):=w5.ex x6
 have gv:∀ c:Bool,DL.getD (.lst S5.length) (.int (if c=true then 1 else 0)) (S5++[⟨false,[.int 0,.int ((ps.length:Int)-1)]⟩])=.ok (.int (if c=true then(ps.length:Int)-1 else 0)) (S5++[⟨false,[.int 0,.int ((ps.length:Int)-1)]⟩]):=fun c=>get_l app_at (by cases c<;>rfl)
 have gvb:=gv b
 have e6:sa (b1 intD (ac (o2 eqD (vr 11) (o2 DL.getD (ls (ac (cn (.int 0)) (ac (o2 subD (b1 lenD (ac (vr 5) an)) (cn (.int 1))) an))) (b1 intD (ac (o2 eqD (vr 6) (cn (.str "right"))) an)))) an)) (gn 14) (rg ps us L R F b k (hiI u k) (loI u k) S.length (some (.int (r1+f1))) (some (.int (loI u k))) none) S5=.nx (rg ps us L R F b k (hiI u k) (loI u k) S.length (some (.int (r1+f1))) (some (.int (loI u k))) (some (.int (if(glI b k:Int)=(if b=true then(ps.length:Int)-1 else 0) then 1 else 0)))) (S5++[⟨false,[.int 0,.int ((ps.length:Int)-1)]⟩]):=by
  simp[wr,int_b,gvb]
 generalize S5++[(⟨false,[.int 0,.int ((ps.length:Int)-1)]⟩:Cell)]=S6 at x6 w6 e6
 refine⟨S6,?_,x5.trans x6⟩
 refine(fin_nx (sf.trans lp)).trans ((fin_nx e4).trans ((fin_nx e5).trans ((fin_nx e6).trans ?_)))
 have r0:=rw0 w6
 have r1':=rw1 w6
 have r2':=rw2 w6
 have u0:=tup_l w6.q1
 have u1:=tup_l w6.q2
 have u2:=tup_l w6.q3
 simp only[sret_ap,tp_ap,ac_ap,an_ap,b1_ap,o2_ap,vr_ap,cn_ap,List.getElem?_cons_succ,List.getElem?_cons_zero,bind_ok,r0,r1',r2',u0,u1,u2,List.length_cons,List.length_nil]
 rfl
theorem ne_let:neD (wd b) (.str "let") S=.ok (.bl true) S:=ne_of_eq w_let
abbrev wS(b:Bool):Str:=if b=true then "right" else "left"
theorem due_mno{n:Int}(h:¬ (0≤n∧n<us.length)):∃ S',f__law_due [cD ps us,stD L R F,dM b n] S=.ok (wordOf "NoGate") S'∧Ex S S':=by
 refine⟨S++[⟨false,L.map D.int⟩],?_,Ex.app⟩
 refine(fnB_ap (m:=10) (b:=b__law_due)).trans ?_
 show fin (b__law_due [some (cD ps us),some (stD L R F),some (dL (wS b) n),none,none,none,none,none,none,none] S)=_
 unfold b__law_due
 refine due_pre.trans ?_
 have wf:∀ S,eqD (.str (wS b)) (.str "feed") S=.ok (.bl false) S:=fun S=>w_feed (b:=b)
 refine(fin_nx (ρ':=rd ps us L R F (wS b) n S.length none none) (S':=S++[⟨false,L.map D.int⟩]) (by rw[sif_f (S1:=S++[⟨false,L.map D.int⟩]) (by simp only[tb_ap,o2_ap,vr_ap,cn_ap,List.getElem?_cons_succ,List.getElem?_cons_zero,bind_ok,wf])]; rfl)).trans ?_
 refine fin_ret ?_
 rw[sif_t (S1:=S++[⟨false,L.map D.int⟩])]
 ·rfl
 ·by_cases h1:n<0
  ·simp[h1]
  ·have h2:(us.length:Int)≤n:=by
    by_cases c:(us.length:Int)≤n
    ·exact c
    ·exact absurd ⟨by omega,by omega⟩ h
   simp[h1,h2]
theorem due_move(v:Mv ps us L R F b k u pH pL pG lH lL a g r1 f1)(hc:pH.isC=true→0≤lH∧lH≤1):∃ S',f__law_due [cD ps us,stD L R F,dM b k] S=.ok (rMove ps.length b k pH pL pG lH lL a g r1 f1 L R F).toD S'∧Ex S S':=by
 have hk':k<us.length:=(List.getElem?_eq_some_iff.mp v.hu).1
 have x1:Ex S (S++[⟨false,L.map D.int⟩]):=Ex.app
 obtain⟨S2,e2,x2⟩:=gone_ok (S:=S++[⟨false,L.map D.int⟩]) v hc
 refine⟨S2,?_,x1.trans x2⟩
 have mu:mulD (.int 2) (.int (k:Int)) (S++[⟨false,L.map D.int⟩])=.ok (.int (2*(k:Int))) (S++[⟨false,L.map D.int⟩]):=mul_l (by decide) (by decide)
 have gg:=gd_at (us:=us) (S:=S++[⟨false,L.map D.int⟩]) v.hu
 have gu:=gd_up (u:=u) (S:=S++[⟨false,L.map D.int⟩])
 have wf:∀ S,eqD (.str (wS b)) (.str "feed") S=.ok (.bl false) S:=fun S=>w_feed (b:=b)
 have nl:∀ S,neD (.str (wS b)) (.str "let") S=.ok (.bl true) S:=fun S=>ne_let (b:=b)
 refine(fnB_ap (m:=10) (b:=b__law_due)).trans ?_
 show fin (b__law_due [some (cD ps us),some (stD L R F),some (dL (wS b) k),none,none,none,none,none,none,none] S)=_
 unfold b__law_due
 refine due_pre.trans ?_
 generalize S++[(⟨false,L.map D.int⟩:Cell)]=S1 at *
 refine(fin_nx (ρ':=rd ps us L R F (wS b) k S.length none none) (S':=S1) (by rw[sif_f (S1:=S1) (by simp only[tb_ap,o2_ap,vr_ap,cn_ap,List.getElem?_cons_succ,List.getElem?_cons_zero,bind_ok,wf])]; rfl)).trans ?_
 refine(fin_nx (ρ':=rd ps us L R F (wS b) k S.length none none) (S':=S1) ?_).trans ?_
 ·rw[sif_f (S1:=S1)]
  ·rfl
  ·have a1:¬ ((k:Int)<0):=by omega
   have a2:¬ ((us.length:Int)≤k):=by omega
   simp[a1,a2]
 refine(fin_nx (ρ':=rd ps us L R F (wS b) k S.length (some (.int (hiI u k))) none) (S':=S1) ?_).trans ?_
 ·have e:(k:Int)+(if u=true then 1 else 0)=((hiI u k:Nat):Int):=by cases u<;>simp[hiI]
  simp[gg,gu,int_b,e]
 refine(fin_nx (ρ':=rd ps us L R F (wS b) k S.length (some (.int (hiI u k))) (some (.int (loI u k)))) (S':=S1) ?_).trans ?_
 ·have e:2*(k:Int)+1-((hiI u k:Nat):Int)=((loI u k:Nat):Int):=by cases u<;>simp[hiI,loI]<;>omega
  simp[mu,e]
 refine fin_ret ?_
 rw[sif_t (S1:=S1) (by simp only[tb_ap,o2_ap,vr_ap,cn_ap,List.getElem?_cons_succ,List.getElem?_cons_zero,bind_ok,nl])]
 simp only[sret_ap,cl_ap,ac_ap,an_ap,vr_ap,List.getElem?_cons_succ,List.getElem?_cons_zero,bind_ok,List.length_cons,List.length_nil,if_true,noExc_ap]
 have e2:f__law_gone [cD ps us,stD L R F,dL (wS b) k,.int (hiI u k),.int (loI u k)] S1=.ok (rMove ps.length b k pH pL pG lH lL a g r1 f1 L R F).toD S2:=e2
 rw[e2]
 rfl
end
end Law
set_option Elab.async false
set_option linter.all false
set_option maxRecDepth 100000
namespace Law
open PySem PySem.Spec PyProof.Rows L2 DL
theorem word_str{y:Str}(h:y∈ys):∃ w,wordOf y=.str w:=by
 simp only[ys,List.mem_cons,List.mem_nil_iff,or_false] at h
 rcases h with rfl | rfl | rfl | rfl | rfl | rfl | rfl | rfl | rfl<;>exact⟨_,rfl⟩
def Sm(M:List Int):Prop:=M.length≤13∧∀ i∈M,i.natAbs<10^60
theorem sho_row{S:Sto}{M:List Int}(h:Sm M):Sho S (.tup (M.map D.int)) 822 1:=by
 refine(sho_tup (b:=61) (e:=0) fun d hd=>?_).mono ?_ (Nat.le_refl _)
 ·obtain⟨i,hi,rfl⟩:=List.mem_map.mp hd
  exact sho_int (h.2 i hi)
 ·have:=h.1
  simp only[List.length_map]
  omega
theorem sho_st{S:Sto}{L R F:List Int}(h1:Sm L)(h2:Sm R)(h3:Sm F):Sho S (stD L R F) 2475 2:=(sho_tup (S:=S) (l:=[.tup (L.map D.int),.tup (R.map D.int),.tup (F.map D.int)]) (b:=822) (e:=1) fun d hd=>by
 simp only[List.mem_cons,List.mem_nil_iff,or_false] at hd
 rcases hd with rfl | rfl | rfl
 ·exact sho_row h1
 ·exact sho_row h2
 ·exact sho_row h3).mono (by simp) (by decide)
theorem sho_res{S:Sto}{L R F:List Int}{a b:Int}(h1:Sm L)(h2:Sm R)(h3:Sm F)(ha:a.natAbs<10^60)(hb:b.natAbs<10^60):Sho S (.tup [stD L R F,.int a,.int b]) 7434 3:=(sho_tup (S:=S) (l:=[stD L R F,.int a,.int b]) (b:=2475) (e:=2) fun d hd=>by
 simp only[List.mem_cons,List.mem_nil_iff,or_false] at hd
 rcases hd with rfl | rfl | rfl
 ·exact sho_st h1 h2 h3
 ·exact(sho_int ha).mono (by decide) (by decide)
 ·exact(sho_int hb).mono (by decide) (by decide)).mono (by simp) (by decide)
theorem big0:∀ {i:Int},-2000≤i→i≤2000→i.natAbs<10^60:=fun h1 h2=>Nat.lt_of_le_of_lt (show _≤2000 by omega) (by decide)
end Law
set_option Elab.async false
set_option linter.all false
set_option maxRecDepth 100000
namespace Law
open PySem PySem.Spec PyProof.Rows L2 DL
structure StF(ps:List Pl)(L R F:List Int):Prop where
 lL:L.length=ps.length
 lR:R.length=ps.length
 lF:F.length=ps.length
 nL:∀ i∈L,0≤i
 nR:∀ i∈R,0≤i
 nF:∀ i∈F,0≤i
 at':∀ (i:Nat) (p:Pl) (l r f:Int),ps[i]?=some p→L[i]?=some l→R[i]?=some r→F[i]?=some f→l≤wat p∧hol p (r+f)=true
 sum:R.sum+F.sum≤900
theorem sum_set:∀ {M:List Int} {i:Nat} {a v:Int},M[i]?=some a→(M.set i v).sum=M.sum-a+v
 | [],i,a,v,h=>by simp at h
 | x::M,0,a,v,h=>by
  cases (Option.some.inj h)
  rw[List.set_cons_zero,List.sum_cons,List.sum_cons]
  omega
 | x::M,i+1,a,v,h=>by
  have:=sum_set (M:=M) (i:=i) (v:=v) (by simpa using h)
  rw[List.set_cons_succ,List.sum_cons,List.sum_cons,this]
  omega
theorem mem_set{M:List Int}{i:Nat}{v:Int}(h:∀ j∈M,0≤j)(hv:0≤v):∀ j∈M.set i v,0≤j:=fun j hj=>by
 rcases List.mem_or_eq_of_mem_set hj with z | z
 ·exact h j z
 ·rw[z]; exact hv
theorem set_at{M:List Int}{i j:Nat}{v x:Int}(h:(M.set i v)[j]?=some x):(j=i∧x=v)∨(j≠i∧M[j]?=some x):=by
 by_cases c:j=i
 ·subst c
  have hl:j<M.length:=by
   have:=(List.getElem?_eq_some_iff.mp h).1
   simpa using this
  rw[List.getElem?_set_self hl] at h
  exact .inl ⟨rfl,(Option.some.inj h).symm⟩
 ·rw[List.getElem?_set_ne (Ne.symm c)] at h
  exact .inr ⟨c,h⟩
section
variable{ps:List Pl}{us:List Bool}{L R F:List Int}
theorem StF.setL{i:Nat}{p:Pl}{v:Int}(h:StF ps L R F)(hp:ps[i]?=some p)(h0:0≤v)(h1:v≤wat p):StF ps (L.set i v) R F:=by
 refine⟨by rw[List.length_set]; exact h.lL,h.lR,h.lF,mem_set h.nL h0,h.nR,h.nF,fun j q l r f e1 e2 e3 e4=>?_,h.sum⟩
 rcases set_at e2 with⟨rfl,rfl⟩ | ⟨_,e2⟩
 ·rw[hp] at e1
  cases e1
  have hj:j<L.length:=by rw[h.lL]; exact(List.getElem?_eq_some_iff.mp hp).1
  exact⟨h1,(h.at' j p _ r f hp (List.getElem?_eq_getElem hj) e3 e4).2⟩
 ·exact h.at' j q l r f e1 e2 e3 e4
theorem StF.adw{i:Nat}{p:Pl}{l d:Int}(h:StF ps L R F)(hp:ps[i]?=some p)(hb:p.isE=false→0≤l+d∧l+d≤wat p):StF ps (Law.adw p L i l d) R F:=by
 unfold Law.adw
 split
 ·exact h
 ·rename_i c
  have:=hb (by simpa using c)
  exact h.setL hp this.1 this.2
theorem hol_le{p:Pl}{a b:Int}(h:hol p b=true)(hab:a≤b):hol p a=true:=by
 cases p with
 | e=>rfl
 | c=>
  have:b≤1:=by simpa[hol] using h
  simp[hol]; omega
 | p br de ro pr=>
  have:b≤ro:=by simpa[hol] using h
  simp[hol]; omega
theorem StF.move{b:Bool}{k:Nat}{pG:Pl}{a g r1 f1:Int}(h:StF ps L R F)(hG:ps[glI b k]?=some pG)(ha:(sel b R F)[stI b k]?=some a)(hg:(sel b R F)[glI b k]?=some g)(hr:R[glI b k]?=some r1)(hf:F[glI b k]?=some f1)(h1:1≤a)(h2:hol pG (r1+f1+1)=true):
  StF ps L (if b=true then mvRow b R F k a g else R) (if b=true then F else mvRow b R F k a g):=by
 have hg':((sel b R F).set (stI b k) (a + -1))[glI b k]?=some g:=(List.getElem?_set_ne sg_ne).trans hg
 have hsum:(mvRow b R F k a g).sum=(sel b R F).sum:=by
  unfold mvRow
  rw[sum_set hg',sum_set ha]
  omega
 have at2:∀ (j:Nat) (x:Int),(mvRow b R F k a g)[j]?=some x→(j=glI b k∧x=g+1)∨(j≠glI b k∧∃ y,(sel b R F)[j]?=some y∧x≤y):=fun j x e=>by
  rcases set_at e with⟨c,e⟩ | ⟨c,e⟩
  ·exact .inl ⟨c,e⟩
  ·rcases set_at e with⟨c',e⟩ | ⟨c',e⟩
   ·exact .inr ⟨c,a,by rw[c']; exact ha,by omega⟩
   ·exact .inr ⟨c,x,e,Int.le_refl _⟩
 have nn:∀ {M:List Int},sel b R F=M→(∀ i∈M,0≤i)→∀ i∈mvRow b R F k a g,0≤i:=fun e n=>by
  unfold mvRow
  rw[e]
  exact mem_set (mem_set n (by omega)) (by have:=n g (by rw[←e]; exact List.mem_of_getElem? hg); omega)
 have ln:(mvRow b R F k a g).length=(sel b R F).length:=by unfold mvRow; rw[List.length_set,List.length_set]
 cases b
 ·have e:sel false R F=F:=rfl
  rw[e] at hsum at2 ln hg
  refine⟨h.lL,h.lR,by simp only[Bool.false_eq_true,if_false]; rw[ln]; exact h.lF,h.nL,h.nR,nn e h.nF,fun j q l r f e1 e2 e3 e4=>?_,by simp only[Bool.false_eq_true,if_false]; rw[hsum]; exact h.sum⟩
  simp only[Bool.false_eq_true,if_false] at e3 e4
  rcases at2 j f e4 with⟨c,rfl⟩ | ⟨_,y,ey,hy⟩
  ·rw[c] at e1 e2 e3
   rw[hG] at e1; cases e1
   rw[hr] at e3; cases e3
   rw[hf] at hg; cases hg
   exact⟨(h.at' _ _ _ _ _ hG e2 hr hf).1,hol_le h2 (by omega)⟩
  ·have:=h.at' j q l r y e1 e2 e3 ey
   exact⟨this.1,hol_le this.2 (by omega)⟩
 ·have e:sel true R F=R:=rfl
  rw[e] at hsum at2 ln hg
  refine⟨h.lL,by simp only[if_true]; rw[ln]; exact h.lR,h.lF,h.nL,nn e h.nR,h.nF,fun j q l r f e1 e2 e3 e4=>?_,by simp only[if_true]; rw[hsum]; exact h.sum⟩
  simp only[if_true] at e3 e4
  rcases at2 j r e3 with⟨c,rfl⟩ | ⟨_,y,ey,hy⟩
  ·rw[c] at e1 e2 e4
   rw[hG] at e1; cases e1
   rw[hf] at e4; cases e4
   rw[hr] at hg; cases hg
   exact⟨(h.at' _ _ _ _ _ hG e2 hr hf).1,hol_le h2 (by omega)⟩
  ·have:=h.at' j q l y f e1 e2 ey e4
   exact⟨this.1,hol_le this.2 (by omega)⟩
end
section
variable{cr:Int}
theorem wat_le{p:Pl}{l r f:Int}(h:vOk cr p l r f):l≤wat p:=by
 have:=h.2.2.2
 cases p with
 | e=>simp only at this; simp[wat,this.1]
 | c=>simp only at this; simp[wat,this.1]
 | p br de ro pr=>simp only at this; simp[wat,this.1]
end
inductive Wd where
 | l | f | r | e
def Wd.toD:Wd→D
 | .l=>.str "let"
 | .f=>.str "feed"
 | .r=>wd true
 | .e=>wd false
abbrev ddOf(p:Wd×Nat):D:=.tup [p.1.toD,.int p.2]
theorem sum_nn:∀ {M:List Int},(∀ j∈M,0≤j)→0≤M.sum
 | [],_=>Int.le_refl _
 | x::M,h=>by
  have a:=sum_nn (M:=M) fun j hj=>h j (List.mem_cons_of_mem _ hj)
  have b:=h x List.mem_cons_self
  rw[List.sum_cons]
  omega
theorem sum_at:∀ {M:List Int} {i:Nat} {a:Int},(∀ j∈M,0≤j)→M[i]?=some a→a≤M.sum
 | [],i,a,_,h=>by simp at h
 | x::M,0,a,hn,h=>by
  cases (Option.some.inj h)
  have:=sum_nn (M:=M) fun j hj=>hn j (List.mem_cons_of_mem _ hj)
  rw[List.sum_cons]
  omega
 | x::M,i+1,a,hn,h=>by
  have c:=sum_at (M:=M) (i:=i) (a:=a) (fun j hj=>hn j (List.mem_cons_of_mem _ hj)) (by simpa using h)
  have b:=hn x List.mem_cons_self
  rw[List.sum_cons]
  omega
theorem sum_le4:∀ {M:List Int},(∀ j∈M,j≤4)→M.sum≤4*(M.length:Int)
 | [],_=>by simp
 | x::M,h=>by
  have a:=sum_le4 (M:=M) fun j hj=>h j (List.mem_cons_of_mem _ hj)
  have b:=h x List.mem_cons_self
  rw[List.sum_cons,List.length_cons]
  omega
section
variable{ps:List Pl}{us:List Bool}{L R F:List Int}
theorem StF.toR(h:StF ps L R F):StR 900 ps L R F:=by
 refine⟨h.lL,h.lR,h.lF,fun i p hp=>?_⟩
 have hi:=(List.getElem?_eq_some_iff.mp hp).1
 obtain⟨l,e1⟩:∃ l,L[i]?=some l:=⟨_,List.getElem?_eq_getElem (by rw[h.lL]; exact hi)⟩
 obtain⟨r,e2⟩:∃ l,R[i]?=some l:=⟨_,List.getElem?_eq_getElem (by rw[h.lR]; exact hi)⟩
 obtain⟨f,e3⟩:∃ l,F[i]?=some l:=⟨_,List.getElem?_eq_getElem (by rw[h.lF]; exact hi)⟩
 obtain⟨a,b⟩:=h.at' i p _ _ _ hp e1 e2 e3
 have n1:=h.nL _ (List.mem_of_getElem? e1)
 have n2:=h.nR _ (List.mem_of_getElem? e2)
 have n3:=h.nF _ (List.mem_of_getElem? e3)
 have s2:=sum_at h.nR e2
 have s3:=sum_at h.nF e3
 have t2:=sum_nn h.nR
 have t3:=sum_nn h.nF
 have s:=h.sum
 refine⟨l,r,f,e1,e2,e3,n1,n2,n3,?_⟩
 cases p with
 | e=>
  have a:l≤0:=a
  exact⟨by omega,by omega,by omega⟩
 | c=>
  have a:l≤1:=a
  have b:r+f≤1:=by simpa[hol] using b
  exact⟨a,b⟩
 | p br de ro pr=>
  have a:l≤br:=a
  have b:r+f≤ro:=by simpa[hol] using b
  exact⟨a,b⟩
theorem stf_of3(hp:∀ p∈ps,p.ok)(hl:ps.length≤13)(h:StR 3 ps L R F):StF ps L R F:=by
 obtain⟨n1,n2,n3⟩:=h.nn
 have b2:∀ x∈R,x≤4:=fun x hx=>by
  obtain⟨k,hk,e⟩:=mem_at hx
  rw[h.lR] at hk
  obtain⟨l,r,f,e1,e2,e3,e4⟩:=h.at' k _ (List.getElem?_eq_getElem hk)
  rw[e] at e2
  cases e2
  obtain⟨_,_,f0,e4⟩:=e4
  have ok:=hp _ (List.getElem_mem hk)
  generalize ps[k]=p at e4 ok
  cases p with
  | e=>obtain⟨_,a,_⟩:=e4; omega
  | c=>obtain⟨_,a⟩:=e4; omega
  | p br de ro pr=>
   obtain⟨_,a⟩:=e4
   obtain⟨_,_,_,_,_,o2,_⟩:=ok
   omega
 have b3:∀ x∈F,x≤4:=fun x hx=>by
  obtain⟨k,hk,e⟩:=mem_at hx
  rw[h.lF] at hk
  obtain⟨l,r,f,e1,e2,e3,e4⟩:=h.at' k _ (List.getElem?_eq_getElem hk)
  rw[e] at e3
  cases e3
  obtain⟨_,r0,_,e4⟩:=e4
  have ok:=hp _ (List.getElem_mem hk)
  generalize ps[k]=p at e4 ok
  cases p with
  | e=>obtain⟨_,_,a⟩:=e4; omega
  | c=>obtain⟨_,a⟩:=e4; omega
  | p br de ro pr=>
   obtain⟨_,a⟩:=e4
   obtain⟨_,_,_,_,_,o2,_⟩:=ok
   omega
 refine⟨h.lL,h.lR,h.lF,n1,n2,n3,fun i p l r f e1 e2 e3 e4=>?_,?_⟩
 ·obtain⟨l',r',f',a1,a2,a3,a4⟩:=h.at' i p e1
  rw[e2] at a1; rw[e3] at a2; rw[e4] at a3
  cases a1; cases a2; cases a3
  have:=a4.2.2.2
  cases p with
  | e=>simp only at this; simp[wat,hol,this.1]
  | c=>simp only at this; simp[wat,hol,this.1,this.2]
  | p br de ro pr=>simp only at this; simp[wat,hol,this.1,this.2]
 ·have s2:=sum_le4 b2
  have s3:=sum_le4 b3
  rw[h.lR] at s2
  rw[h.lF] at s3
  omega
end
def Wc(c pl w n:D)(x y z:Int):Prop:=∀ (x1 x2:Option D) (a b e:Int) (S:Sto),lb_water_1 [some c,x1,x2,some pl,some (.int a),some (.int b),some (.int e),some w,some n] S=.nx [some c,x1,x2,some pl,some (.int (a+x)),some (.int (b+y)),some (.int (e+z)),some w,some n] S
abbrev rwE(x0 x1:Option D)(c:D)(x3 x4:Option D)(a b e:Int)(w n:D)(x10:Option D):Lc:=[x0,x1,some c,x3,x4,some (.int a),some (.int b),some (.int e),some w,some n,x10,none,none,none,none,none,none,none]
def Lw(c:D)(p:Wd×Nat)(x y z:Int):Prop:=∀ (x0 x1 x3 x4 x10:Option D) (a b e:Int) (S:Sto),∃ y10 S',lb_law_1 (rwE x0 x1 c x3 x4 a b e p.1.toD (.int p.2) x10) S=.nx (rwE x0 x1 c x3 x4 (a+x) (b+y) (e+z) p.1.toD (.int p.2) y10) S'∧Ex S S'
structure Dd(ps:List Pl)(us:List Bool)(L R F:List Int)(p:Wd×Nat)(A B C:List Int)(a g:Int):Prop where
 sf:StF ps A B C
 a0:0≤a∧a≤1000
 g0:0≤g∧g≤1
 did:∀ S,f_deed_done [cD ps us,stD L R F,ddOf p] S=.ok (.tup [stD A B C,.int a,.int g]) S
 due:∀ S,∃ S',f__law_due [cD ps us,stD L R F,ddOf p] S=.ok (.tup [stD A B C,.int a,.int g]) S'∧Ex S S'
 wc:∃ x y z,Wc (cD ps us) (.tup (ps.map Pl.toD)) p.1.toD (.int p.2) x y z∧A.sum=L.sum+x+y-z∧Lw (cD ps us) p x y z∧(0≤x∧x≤1)∧(0≤y∧y≤1)∧0≤z∧z≤1
 lt:p.2<ps.length
def Wh(ps:List Pl)(us:List Bool)(L R F:List Int)(p:Wd×Nat)(r:Res):Prop:=(∃ y,y∈ys∧r=.no y)∨∃ A B C a g,r=.yes (.tup [stD A B C,.int a,.int g])∧Dd ps us L R F p A B C a g
section
variable{ps:List Pl}{us:List Bool}
theorem wc_feed{c pl n:D}:Wc c pl (.str "feed") n 0 1 0:=fun x1 x2 a b e S=>by
 unfold lb_water_1
 rw[sif_t (S1:=S) (by simp[c_ff])]
 simp[sag]
theorem wc_move{c pl n:D}{v:Bool}:Wc c pl (wd v) n 0 0 0:=fun x1 x2 a b e S=>by
 unfold lb_water_1
 rw[sif_f (S1:=S) (by simp[w_feed]),sif_f (S1:=S) (by simp[w_let]),sif_f (S1:=S) (by simp[w_let])]
 simp
theorem wc_let{k:Nat}{u:Bool}{pH pL:Pl}(eu:us[k]?=some u)(eH:ps[hiI u k]?=some pH)(eL:ps[loI u k]?=some pL)(kH:pH.ok)(kL:pL.ok):Wc (cD ps us) (.tup (ps.map Pl.toD)) (.str "let") (.int k) (if pH.isE=true then 1 else 0) 0 (if pH.isE=true then 0 else if pL.isE=true then 1 else 0):=fun x1 x2 a b e S=>by
 unfold lb_water_1
 have h1:=higher_ok (ps:=ps) (S:=S) eu
 have h2:=lower_ok (ps:=ps) (S:=S) eu
 have g1:=pl_at (S:=S) eH
 have g2:=pl_at (S:=S) eL
 have q1:=eq_end (S:=S) kH
 have q2:=eq_end (S:=S) kL
 rw[sif_f (S1:=S) (by simp[c_lf])]
 by_cases c1:pH.isE=true
 ·rw[c1] at q1
  rw[sif_t (S1:=S) (by simp[c_ll,h1,g1,c_END,q1])]
  simp[sag,c1]
 ·have c1:pH.isE=false:=by simpa using c1
  rw[c1] at q1
  rw[sif_f (S1:=S) (by simp[c_ll,h1,g1,c_END,q1])]
  by_cases c2:pL.isE=true
  ·rw[c2] at q2
   rw[sif_t (S1:=S) (by simp[c_ll,h2,g2,c_END,q2])]
   simp[sag,c1,c2]
  ·have c2:pL.isE=false:=by simpa using c2
   rw[c2] at q2
   rw[sif_f (S1:=S) (by simp[c_ll,h2,g2,c_END,q2])]
   simp[c1,c2]
def EndsOk(ps:List Pl):Prop:=3≤ps.length∧∀ i p,ps[i]?=some p→(p.isE=true↔i=0∨i+1=ps.length)
theorem in_two{i m:Int}{S:Sto}:inD (.int i) (.lst S.length) (S++[⟨false,[.int 0,.int m]⟩])=.ok (.bl (decide (i=0)||decide (i=m))) (S++[⟨false,[.int 0,.int m]⟩]):=by
 show inND false _ _ _=_
 have hi:itemsD (.lst S.length) (S++[⟨false,[.int 0,.int m]⟩])=some [.int 0,.int m]:=by
  show((S++[⟨false,[.int 0,.int m]⟩])[S.length]?).map (·.xs)=_
  rw[app_at]; rfl
 unfold inND
 rw[hi]
 have e:∀ a b:Int,eqV (toV (.int a)) (toV (.int b))=decide (b=a):=fun a b=>by
  rw[show decide (b=a)=decide (a=b) by simp only[decide_eq_decide]; exact eq_comm]
  simp[toV,eqV]
  rfl
 simp[flatD,memD,e]
theorem lw_feed{ps:List Pl}{us:List Bool}{k:Nat}:Lw (cD ps us) (.f,k) 0 1 0:=fun x0 x1 x3 x4 x10 a b e S=>by
 refine⟨some (.int k),S,?_,.refl⟩
 unfold lb_law_1
 rw[sq_nx (ρ':=rwE x0 x1 (cD ps us) x3 x4 a b e (.str "feed") (.int k) (some (.int k))) (S1:=S) (by simp[Wd.toD,c_fl,int_b])]
 rw[sq_nx (ρ':=rwE x0 x1 (cD ps us) x3 x4 a (b+1) e (.str "feed") (.int k) (some (.int k))) (S1:=S) (by rw[sif_t (S1:=S) (by simp[c_ff])]; simp)]
 rw[sq_nx (ρ':=rwE x0 x1 (cD ps us) x3 x4 a (b+1) e (.str "feed") (.int k) (some (.int k))) (S1:=S) (by rw[sif_f (S1:=S) (by simp[c_fl])]; rfl)]
 rw[sif_f (S1:=S) (by simp[c_fl])]
 simp[Wd.toD]
theorem lw_move{ps:List Pl}{us:List Bool}{w:Wd}{v:Bool}{k:Nat}(hw:w.toD=wd v):Lw (cD ps us) (w,k) 0 0 0:=fun x0 x1 x3 x4 x10 a b e S=>by
 refine⟨some (.int k),S,?_,.refl⟩
 show lb_law_1 (rwE x0 x1 (cD ps us) x3 x4 a b e w.toD (.int k) x10) S=.nx (rwE x0 x1 (cD ps us) x3 x4 (a+0) (b+0) (e+0) w.toD (.int k) (some (.int k))) S
 rw[hw]
 unfold lb_law_1
 rw[sq_nx (ρ':=rwE x0 x1 (cD ps us) x3 x4 a b e (wd v) (.int k) (some (.int k))) (S1:=S) (by simp[w_let,int_b])]
 rw[sq_nx (ρ':=rwE x0 x1 (cD ps us) x3 x4 a b e (wd v) (.int k) (some (.int k))) (S1:=S) (by rw[sif_f (S1:=S) (by simp[w_feed])]; rfl)]
 rw[sq_nx (ρ':=rwE x0 x1 (cD ps us) x3 x4 a b e (wd v) (.int k) (some (.int k))) (S1:=S) (by rw[sif_f (S1:=S) (by simp[w_let])]; rfl)]
 rw[sif_f (S1:=S) (by simp[w_let])]
 simp
theorem lw_let{ps:List Pl}{us:List Bool}{k:Nat}{u:Bool}{pH pL:Pl}(he:EndsOk ps)(eu:us[k]?=some u)(eH:ps[hiI u k]?=some pH)(eL:ps[loI u k]?=some pL):Lw (cD ps us) (.l,k) (if pH.isE=true then 1 else 0) 0 (if pH.isE=true then 0 else if pL.isE=true then 1 else 0):=fun x0 x1 x3 x4 x10 a b e S=>by
 have hH:=he.2 _ _ eH
 have hL:=he.2 _ _ eL
 have h3:=he.1
 have no:¬ (pH.isE=true∧pL.isE=true):=fun⟨q1,q2⟩=>by
  have q1:=hH.mp q1
  have q2:=hL.mp q2
  cases u<;>simp only[hiI,loI] at q1 q2<;>simp at q1 q2<;>omega
 have b1':(decide (((hiI u k:Nat):Int)=0)||decide (((hiI u k:Nat):Int)=(ps.length:Int)-1))=pH.isE:=by
  rw[Bool.eq_iff_iff,hH]
  simp
  omega
 have b2':(decide (((loI u k:Nat):Int)=0)||decide (((loI u k:Nat):Int)=(ps.length:Int)-1))=pL.isE:=by
  rw[Bool.eq_iff_iff,hL]
  simp
  omega
 have g1:=fun S:Sto=>gd_at (S:=S) eu
 have g2:=fun S:Sto=>gd_up (u:=u) (S:=S)
 have x1':Ex S (S++[⟨false,[.int 0,.int ((ps.length:Int)-1)]⟩]):=Ex.app
 have i1:=in_two (i:=((hiI u k:Nat):Int)) (m:=(ps.length:Int)-1) (S:=S)
 rw[b1'] at i1
 have l1:∀ ρ:Lc,ρ[2]?=some (some (cD ps us))→ls (ac (cn (.int 0)) (ac (o2 subD (b1 lenD (ac (o2 DL.getD (vr 2) (cn (.int 0))) an)) (cn (.int 1))) an)) ρ S=.ok (.lst S.length) (S++[⟨false,[.int 0,.int ((ps.length:Int)-1)]⟩]):=fun ρ h=>by simp[h,cd0]
 have eup:(k:Int)+(if u=true then 1 else 0)=((hiI u k:Nat):Int):=by cases u<;>simp[hiI]
 have edn:2*(k:Int)+1-((hiI u k:Nat):Int)=((loI u k:Nat):Int):=by cases u<;>simp[hiI,loI]<;>omega
 generalize S++[(⟨false,[.int 0,.int ((ps.length:Int)-1)]⟩:Cell)]=S1 at x1' i1 l1
 have x2':Ex S1 (S1++[⟨false,[.int 0,.int ((ps.length:Int)-1)]⟩]):=Ex.app
 have i2:=in_two (i:=((loI u k:Nat):Int)) (m:=(ps.length:Int)-1) (S:=S1)
 rw[b2'] at i2
 have l2:∀ ρ:Lc,ρ[2]?=some (some (cD ps us))→ls (ac (cn (.int 0)) (ac (o2 subD (b1 lenD (ac (o2 DL.getD (vr 2) (cn (.int 0))) an)) (cn (.int 1))) an)) ρ S1=.ok (.lst S1.length) (S1++[⟨false,[.int 0,.int ((ps.length:Int)-1)]⟩]):=fun ρ h=>by simp[h,cd0]
 generalize S1++[(⟨false,[.int 0,.int ((ps.length:Int)-1)]⟩:Cell)]=S2 at x2' i2 l2
 have mu:mulD (.int 2) (.int (k:Int)) S1=.ok (.int (2*(k:Int))) S1:=mul_l (by decide) (by decide)
 refine⟨some (.int (hiI u k)),S2,?_,x1'.trans x2'⟩
 show lb_law_1 (rwE x0 x1 (cD ps us) x3 x4 a b e (.str "let") (.int k) x10) S=_
 unfold lb_law_1
 rw[sq_nx (ρ':=rwE x0 x1 (cD ps us) x3 x4 a b e (.str "let") (.int k) (some (.int (hiI u k)))) (S1:=S) (by
  rw[sa_ap]
  simp only[o2_ap,vr_ap,b1_ap,ac_ap,an_ap,cn_ap,va_ap,List.getElem?_cons_succ,List.getElem?_cons_zero,bind_ok,c_ll,if_true,cd1,g1,g2,int_b,add_ii,eup,bindS_ok,gn_ap]
  rfl)]
 rw[sq_nx (ρ':=rwE x0 x1 (cD ps us) x3 x4 a b e (.str "let") (.int k) (some (.int (hiI u k)))) (S1:=S) (by rw[sif_f (S1:=S) (by simp[c_lf])]; rfl)]
 have t1:ta (tb (o2 eqD (vr 8) (cn (.str "let")))) (tb (o2 inD (vr 10) (ls (ac (cn (.int 0)) (ac (o2 subD (b1 lenD (ac (o2 DL.getD (vr 2) (cn (.int 0))) an)) (cn (.int 1))) an))))) (rwE x0 x1 (cD ps us) x3 x4 a b e (.str "let") (.int k) (some (.int (hiI u k)))) S=.ok pH.isE S1:=by
  have l1:=l1 (rwE x0 x1 (cD ps us) x3 x4 a b e (.str "let") (.int k) (some (.int (hiI u k)))) rfl
  simp only[ta_ap,tb_ap,o2_ap,vr_ap,cn_ap,List.getElem?_cons_succ,List.getElem?_cons_zero,bind_ok,c_ll,if_true,l1,i1]
 have t2:∀ a':Int,ta (tb (o2 eqD (vr 8) (cn (.str "let")))) (tb (o2 inD (o2 subD (o2 addD (o2 mulD (cn (.int 2)) (vr 9)) (cn (.int 1))) (vr 10)) (ls (ac (cn (.int 0)) (ac (o2 subD (b1 lenD (ac (o2 DL.getD (vr 2) (cn (.int 0))) an)) (cn (.int 1))) an))))) (rwE x0 x1 (cD ps us) x3 x4 a' b e (.str "let") (.int k) (some (.int (hiI u k)))) S1=.ok pL.isE S2:=fun a'=>by
  have l2:=l2 (rwE x0 x1 (cD ps us) x3 x4 a' b e (.str "let") (.int k) (some (.int (hiI u k)))) rfl
  simp only[ta_ap,tb_ap,o2_ap,vr_ap,cn_ap,List.getElem?_cons_succ,List.getElem?_cons_zero,bind_ok,c_ll,if_true,mu,add_ii,sub_ii,edn,l2,i2]
 cases qH:pH.isE with
 | true=>
  have qL:pL.isE=false:=Bool.eq_false_iff.mpr fun z=>no ⟨qH,z⟩
  rw[qH] at t1
  have t2:=t2 (a+1)
  rw[qL] at t2
  rw[sq_nx (ρ':=rwE x0 x1 (cD ps us) x3 x4 (a+1) b e (.str "let") (.int k) (some (.int (hiI u k)))) (S1:=S1) (by rw[sif_t t1]; simp)]
  rw[sif_f t2]
  simp[Wd.toD]
 | false=>
  rw[qH] at t1
  have t2:=t2 a
  rw[sq_nx (ρ':=rwE x0 x1 (cD ps us) x3 x4 a b e (.str "let") (.int k) (some (.int (hiI u k)))) (S1:=S1) (by rw[sif_f t1]; rfl)]
  cases qL:pL.isE with
  | true=>
   rw[qL] at t2
   rw[sif_t t2]
   simp[Wd.toD]
  | false=>
   rw[qL] at t2
   rw[sif_f t2]
   simp[Wd.toD]
theorem adw_sum{p:Pl}{L:List Int}{i:Nat}{l d:Int}(h:L[i]?=some l):(adw p L i l d).sum=L.sum+(if p.isE=true then 0 else d):=by
 unfold adw
 split
 ·omega
 ·rw[sum_set h]; omega
abbrev De(ps:List Pl)(us:List Bool)(L R F:List Int)(p:Wd×Nat)(r:Res):Prop:=(∀ S,f_deed_done [cD ps us,stD L R F,ddOf p] S=r.out S)∧(∀ S,∃ S',f__law_due [cD ps us,stD L R F,ddOf p] S=.ok r.toD S'∧Ex S S')∧Wh ps us L R F p r
variable{L R F:List Int}
theorem de_let(he:EndsOk ps)(hp:∀ p∈ps,p.ok)(hl:ps.length≤13)(hu:us.length+1=ps.length)(st:StR 900 ps L R F)(sf:StF ps L R F){k:Nat}(hk:k<us.length):∃ r,De ps us L R F (.l,k) r:=by
 have eu:=List.getElem?_eq_getElem hk
 generalize us[k]=u at eu
 have hH:hiI u k<ps.length:=by cases u<;>simp[hiI]<;>omega
 have hL:loI u k<ps.length:=by cases u<;>simp[loI]<;>omega
 have eH:=List.getElem?_eq_getElem hH
 have eL:=List.getElem?_eq_getElem hL
 obtain⟨lH,_,_,a1,_,_,a4⟩:=st.at' _ _ eH
 obtain⟨lL,_,_,b1,_,_,b4⟩:=st.at' _ _ eL
 have k1:=hp _ (List.mem_of_getElem? eH)
 have k2:=hp _ (List.mem_of_getElem? eL)
 have w1:=wat_le a4
 have w2:=wat_le b4
 have n1:=a4.1
 have n2:=b4.1
 generalize ps[hiI u k]=pH at eH k1 w1
 generalize ps[loI u k]=pL at eL k2 w2
 have did:∀ (R F:List Int) (S:Sto),f_deed_done [cD ps us,stD L R F,ddOf (.l,k)] S=(rLet u k pH pL lH lL L R F).out S:=fun R F S=>dd_let eu eH eL a1 b1 k1 k2 (by rw[st.lL]; omega)
 have due:∀ S,∃ S',f__law_due [cD ps us,stD L R F,ddOf (.l,k)] S=.ok (rLet u k pH pL lH lL L R F).toD S'∧Ex S S':=fun S=>due_let eu eH eL a1 b1 w2 (by omega)
 refine⟨rLet u k pH pL lH lL L R F,did R F,due,?_⟩
 unfold rLet at did due ⊢
 split at did
 ·rename_i c1
  rw[if_pos c1]
  exact .inl ⟨_,y_in.2.1,rfl⟩
 ·rename_i c1
  rw[if_neg c1] at due ⊢
  split at did
  ·rename_i c2
   rw[if_pos c2]
   exact .inl ⟨_,y_in.2.2.1,rfl⟩
  ·rename_i c2
   rw[if_neg c2] at due ⊢
   refine .inr ⟨_,_,_,_,_,rfl,(sf.adw eH fun z=>?_).adw eL fun z=>?_,by decide,by decide,did R F,due,⟨_,_,_,wc_let eu eH eL k1 k2,?_,lw_let he eu eH eL,by split<;>decide,by decide,by split<;>(try split)<;>decide⟩,by show k<ps.length; omega⟩
   ·have:lH≠0:=by simpa[z] using c1
    exact⟨by omega,by omega⟩
   ·have:¬ wat pL≤lL:=by simpa[z] using c2
    exact⟨by omega,by omega⟩
   ·rw[adw_sum ((adw_ne hl_ne).trans b1),adw_sum a1]
    have no:¬ (pH.isE=true∧pL.isE=true):=fun⟨q1,q2⟩=>by
     have q1:=(he.2 _ _ eH).mp q1
     have q2:=(he.2 _ _ eL).mp q2
     have h3:=he.1
     cases u<;>simp only[hiI,loI] at q1 q2<;>simp at q1 q2<;>omega
    cases qH:pH.isE<;>cases qL:pL.isE<;>simp[qH,qL] at no ⊢<;>omega
theorem de_feed(he:EndsOk ps)(hp:∀ p∈ps,p.ok)(hl:ps.length≤13)(st:StR 900 ps L R F)(sf:StF ps L R F){k:Nat}(hk:k<ps.length):∃ r,De ps us L R F (.f,k) r:=by
 have e:=List.getElem?_eq_getElem hk
 obtain⟨l,_,_,a1,_,_,a4⟩:=st.at' _ _ e
 have k1:=hp _ (List.mem_of_getElem? e)
 have w1:=wat_le a4
 have n1:=a4.1
 generalize ps[k]=p at e k1 w1
 have did:∀ (R F:List Int) (S:Sto),f_deed_done [cD ps us,stD L R F,ddOf (.f,k)] S=(rFeed k p l L R F).out S:=fun R F S=>dd_feed e a1 k1 (by rw[st.lL]; omega)
 have due:∀ S,∃ S',f__law_due [cD ps us,stD L R F,ddOf (.f,k)] S=.ok (rFeed k p l L R F).toD S'∧Ex S S':=fun S=>due_feed e a1 k1 w1
 refine⟨rFeed k p l L R F,did R F,due,?_⟩
 unfold rFeed at did due ⊢
 split at did
 ·rename_i br de ro i
  simp only at due ⊢
  split at did
  ·rename_i c
   rw[if_pos c]
   exact .inl ⟨_,y_in.2.2.1,rfl⟩
  ·rename_i c
   rw[if_neg c] at due ⊢
   have w1:l≤br:=w1
   have pb:0≤i∧i≤1000:=by
    obtain⟨_,_,_,_,_,_,hpr⟩:=k1
    rcases hpr with h | ⟨j,h,h1,h2⟩
    ·cases h
    ·cases h; omega
   exact .inr ⟨_,_,_,_,_,rfl,sf.setL e (by omega) (show l+1≤br by omega),pb,by decide,did R F,due,⟨0,1,0,wc_feed,by rw[sum_set a1]; omega,lw_feed,by decide,by decide,by decide⟩,hk⟩
 ·exact .inl ⟨_,y_in.2.2.2,rfl⟩
theorem de_move(he:EndsOk ps)(hp:∀ p∈ps,p.ok)(hl:ps.length≤13)(hu:us.length+1=ps.length)(st:StR 900 ps L R F)(sf:StF ps L R F)(b:Bool){w:Wd}(hw:w.toD=wd b){k:Nat}(hk:k<us.length):∃ r,De ps us L R F (w,k) r:=by
 have ed:ddOf (w,k)=dM b k:=by show D.tup [w.toD,_]=_; rw[hw]
 have eu:=List.getElem?_eq_getElem hk
 generalize us[k]=u at eu
 have hH:hiI u k<ps.length:=by cases u<;>simp[hiI]<;>omega
 have hL:loI u k<ps.length:=by cases u<;>simp[loI]<;>omega
 have hG:glI b k<ps.length:=by cases b<;>simp[glI]<;>omega
 have hS:stI b k<ps.length:=by cases b<;>simp[stI]<;>omega
 have lM:(sel b R F).length=ps.length:=by
  unfold sel
  split
  ·exact st.lR
  ·exact st.lF
 have nM:∀ i∈sel b R F,0≤i:=by
  unfold sel
  split
  ·exact sf.nR
  ·exact sf.nF
 have eH:=List.getElem?_eq_getElem hH
 have eL:=List.getElem?_eq_getElem hL
 have eG:=List.getElem?_eq_getElem hG
 have aH:=List.getElem?_eq_getElem (l:=L) (i:=hiI u k) (by rw[st.lL]; exact hH)
 have aL:=List.getElem?_eq_getElem (l:=L) (i:=loI u k) (by rw[st.lL]; exact hL)
 have aS:=List.getElem?_eq_getElem (l:=sel b R F) (i:=stI b k) (by rw[lM]; exact hS)
 have aG:=List.getElem?_eq_getElem (l:=sel b R F) (i:=glI b k) (by rw[lM]; exact hG)
 have aR:=List.getElem?_eq_getElem (l:=R) (i:=glI b k) (by rw[st.lR]; exact hG)
 have aF:=List.getElem?_eq_getElem (l:=F) (i:=glI b k) (by rw[st.lF]; exact hG)
 have v:Mv ps us L R F b k u ps[hiI u k] ps[loI u k] ps[glI b k] _ _ _ _ _ _:=⟨eu,eH,eL,aH,aL,hp _ (List.getElem_mem hH),hp _ (List.getElem_mem hL),eG,hp _ (List.getElem_mem hG),aS,aG,aR,aF,hu,by omega⟩
 have hc:(ps[hiI u k]).isC=true→0≤L[hiI u k]'(by rw[st.lL]; exact hH)∧L[hiI u k]'(by rw[st.lL]; exact hH)≤1:=fun z=>by
  obtain⟨l',_,_,q1,_,_,q4⟩:=st.at' _ _ eH
  rw[aH] at q1
  cases q1
  obtain⟨c1,_,_,c2⟩:=q4
  cases y:ps[hiI u k] with
  | c=>rw[y] at c2; exact⟨c1,c2.1⟩
  | e=>rw[y] at z; cases z
  | p _ _ _ _=>rw[y] at z; cases z
 have na:=nM _ (List.mem_of_getElem? aS)
 have ng:=nM _ (List.mem_of_getElem? aG)
 have did:=fun S=>dd_move (S:=S) v
 have due:=fun S=>due_move (S:=S) v hc
 rw[←ed] at did due
 refine⟨_,did,due,?_⟩
 unfold rMove at did due ⊢
 split
 ·rename_i y z; exact .inl ⟨_,mvNo_in z,rfl⟩
 ·rename_i z
  rw[z] at did due
  have z':=z
  unfold mvNo at z'
  split at z'
  ·cases z'
  ·rename_i c1
   split at z'
   ·cases z'
   ·rename_i c2
    refine .inr ⟨_,_,_,_,_,rfl,sf.move eG aS aG aR aF (by omega) (by simpa using c2),by decide,((fun(c:Prop) (_:Decidable c)=>show 0≤(if c then(1:Int) else 0)∧(if c then(1:Int) else 0)≤1 by split<;>decide) _ _),did,due,⟨0,0,0,?_,by omega,lw_move hw,by decide,by decide,by decide⟩,by show k<ps.length; omega⟩
    show Wc _ _ w.toD _ 0 0 0
    rw[hw]
    exact wc_move
theorem deed_all{L R F:List Int}(he:EndsOk ps)(hp:∀ p∈ps,p.ok)(hl:ps.length≤13)(hu:us.length+1=ps.length)(sf:StF ps L R F)(w:Wd){k:Nat}(hk:k<ps.length):∃ r,De ps us L R F (w,k) r:=by
 have no:∃ y,y∈ys∧(Res.no "NoGate")=.no y:=⟨_,y_in.1,rfl⟩
 have st:=sf.toR
 cases w with
 | f=>exact de_feed he hp hl st sf hk
 | l=>
  by_cases c:k<us.length
  ·exact de_let he hp hl hu st sf c
  ·exact⟨.no "NoGate",fun S=>dd_nogate (by omega),fun S=>due_let_no (by omega),.inl no⟩
 | r=>
  by_cases c:k<us.length
  ·exact de_move he hp hl hu st sf true rfl c
  ·exact⟨.no "NoGate",fun S=>dd_mnogate (b:=true) (by omega),fun S=>due_mno (b:=true) (by omega),.inl no⟩
 | e=>
  by_cases c:k<us.length
  ·exact de_move he hp hl hu st sf false rfl c
  ·exact⟨.no "NoGate",fun S=>dd_mnogate (b:=false) (by omega),fun S=>due_mno (b:=false) (by omega),.inl no⟩
end
end Law
set_option Elab.async false
set_option linter.all false
set_option maxRecDepth 100000
namespace Law
open PySem PySem.Spec PyProof.Rows L2 DL
theorem clv_ok{i:Nat}{x:Str}{n:Nat}{fn:Fn}{t:Ev (List D)}{ρ:Lc}{S S1:Sto}{ds:List D}(h:ρ[i]?=some (some (.fv x)))(ht:t ρ S=.ok ds S1)(hl:ds.length=n):clv i x n fn t ρ S=fn ds S1:=by
 unfold clv
 rw[h]
 simp only[if_true,ht,bind_ok,hl]
def enL(l:List D):List D:=l.mapIdx fun k d=>.tup [.int k,d]
theorem en_of{l:List D}{k:Nat}{d:D}(h:(enL l)[k]?=some d):∃ e,l[k]?=some e∧d=.tup [.int k,e]:=by
 unfold enL at h
 rw[List.getElem?_mapIdx] at h
 cases z:l[k]? with
 | none=>rw[z] at h; cases h
 | some e=>rw[z] at h; cases h; exact⟨e,rfl,rfl⟩
theorem en_len{l:List D}:(enL l).length=l.length:=by unfold enL; simp
def nmO:Bool→Str
 | true=>"open_done"
 | false=>"deed_done"
def fnO:Bool→Fn
 | true=>f_open_done
 | false=>f_deed_done
theorem cl2_ok{o:Bool}{t:Ev (List D)}{ρ:Lc}{S:Sto}{ds:List D}{d:D}(h:ρ[3]?=some (some (.fv (nmO o))))(ht:t ρ S=.ok ds S)(hl:ds.length=3)(hd:fnO o ds S=.ok d S):
  orE (clv 3 "deed_done" 3 (gX ys f_deed_done) t) (clv 3 "open_done" 3 (gX ys f_open_done) t) ρ S=.ok d S:=by
 unfold orE
 cases o
 ·have e:clv 3 "deed_done" 3 (gX ys f_deed_done) t ρ S=.ok d S:=(clv_ok (x:="deed_done") h ht hl).trans (gX_ok hd)
  rw[e]
 ·have e1:clv 3 "deed_done" 3 (gX ys f_deed_done) t ρ S=.bad:=by
   unfold clv
   rw[h]
   show(if("open_done":Str)="deed_done" then _ else Out.bad)=_
   rw[if_neg (by decide +kernel)]
  rw[e1]
  show clv 3 "open_done" 3 (gX ys f_open_done) t ρ S=_
  exact(clv_ok (x:="open_done") h ht hl).trans (gX_ok hd)
section
variable{c:D}{sd:Nat→D}{PA GA:Nat→Int}{l:List D}{q:Nat}{fz:Bool}{S:Sto}{o:Bool}
abbrev rr(o:Bool)(c s:D)(q:Nat)(x4 x5 x6 x7 x8 x9 x10:Option D):Lc:=[some c,some s,some (.lst q),some (.fv (nmO o)),x4,x5,x6,x7,x8,x9,x10]
theorem rowby_ok(hq:S[q]?=some ⟨fz,l⟩)(h:∀ i d,l[i]?=some d→∀ S,fnO o [c,sd i,d] S=.ok (.tup [sd (i+1),.int (PA (i+1)-PA i),.int (GA (i+1)-GA i)]) S)(p0:PA 0=0)(g0:GA 0=0):
  f_row_by [c,sd 0,.lst q,.fv (nmO o)] S=.ok (.tup [sd l.length,.int (PA l.length),.int (GA l.length)]) S:=by
 obtain⟨ρ',S',ef,e1,g7,g8,g9,g10,e2⟩:=for_inv (nxt:=fun k S=>(S[q]?).bind fun c=>(c.xs[k]?).map fun d=>D.tup [.int k,d]) (g:=gt (gcons (gn 7) (gcons (gn 8) gnil)) 2) (b:=lb_row_by_2) (l:=enL l)
  (fun k ρ S'=>S'=S∧∃ g7 g8 g9 g10,ρ=rr o c (sd 0) q (some (sd k)) (some (.int (PA k))) (some (.int (GA k))) g7 g8 g9 g10)
  (fun k ρ S' ⟨e,_⟩=>by
   subst e
   show(S'[q]?).bind _=_
   rw[hq]
   unfold enL
   rw[List.getElem?_mapIdx]
   rfl)
  (fun k d ρ S' hd ⟨e,g7,g8,g9,g10,e2⟩=>by
   subst e e2
   obtain⟨x,hx,rfl⟩:=en_of hd
   have did:=h k x hx S'
   refine⟨rr o c (sd 0) q (some (sd k)) (some (.int (PA k))) (some (.int (GA k))) (some (.int k)) (some x) g9 g10,rr o c (sd 0) q (some (sd (k+1))) (some (.int (PA (k+1)))) (some (.int (GA (k+1)))) (some (.int k)) (some x) (some (.int (PA (k+1)-PA k))) (some (.int (GA (k+1)-GA k))),S',rfl,?_,rfl,_,_,_,_,rfl⟩
   have ec:=cl2_ok (o:=o) (t:=ac (vr 0) (ac (vr 4) (ac (vr 8) an))) (ρ:=rr o c (sd 0) q (some (sd k)) (some (.int (PA k))) (some (.int (GA k))) (some (.int k)) (some x) g9 g10) (ds:=[c,sd k,x]) (S:=S') rfl (by simp) rfl did
   have et:tb_row_by_1 (rr o c (sd 0) q (some (sd k)) (some (.int (PA k))) (some (.int (GA k))) (some (.int k)) (some x) g9 g10) S'=.nx (rr o c (sd 0) q (some (sd (k+1))) (some (.int (PA k))) (some (.int (GA k))) (some (.int k)) (some x) (some (.int (PA (k+1)-PA k))) (some (.int (GA (k+1)-GA k)))) S':=by
    unfold tb_row_by_1
    rw[sa_ap,ec,bindS_ok]
    rfl
   have a1:PA k+(PA (k+1)-PA k)=PA (k+1):=by omega
   have a2:GA k+(GA (k+1)-GA k)=GA (k+1):=by omega
   unfold lb_row_by_2
   rw[sq_nx (try_nx et)]
   simp[sag,a1,a2]) (l.length+1) 0 (rr o c (sd 0) q (some (sd 0)) (some (.int (PA 0))) (some (.int (GA 0))) none none none none) S (Nat.zero_le _) ⟨rfl,none,none,none,none,rfl⟩ (by rw[en_len]; omega)
 subst e1 e2
 rw[en_len] at ef
 rw[p0,g0] at ef
 refine(fnB_ap (m:=11) (b:=b_row_by)).trans ?_
 show fin (b_row_by (rr o c (sd 0) q none none none none none none none) S')=_
 unfold b_row_by
 refine(fin_nx (ρ':=rr o c (sd 0) q (some (sd 0)) none none none none none none) (S':=S') (by simp)).trans ?_
 refine(fin_nx (ρ':=rr o c (sd 0) q (some (sd 0)) (some (.int 0)) none none none none none) (S':=S') (by simp)).trans ?_
 refine(fin_nx (ρ':=rr o c (sd 0) q (some (sd 0)) (some (.int 0)) (some (.int 0)) none none none none) (S':=S') (by simp)).trans ?_
 refine(fin_nx (ρ':=rr o c (sd 0) q (some (sd l.length)) (some (.int (PA l.length))) (some (.int (GA l.length))) g7 g8 g9 g10) (S':=S') ?_).trans ?_
 ·rw[sfor_ap]
  have:ienumL (ac (vr 2) an) (rr o c (sd 0) q (some (sd 0)) (some (.int 0)) (some (.int 0)) none none none none) S'=.ok ⟨fun k S=>(S[q]?).bind fun c=>(c.xs[k]?).map fun d=>D.tup [.int k,d],l.length+1⟩ S':=by
   simp[ienumL,hq]
  rw[this,bindS_ok]
  exact ef
 simp
end
def fnR:Bool→Fn
 | true=>f_open_row
 | false=>f_row_done
theorem row_ok{c:D}{sd:Nat→D}{PA GA:Nat→Int}{l:List D}{q:Nat}{fz:Bool}{S:Sto}{o:Bool}(hq:S[q]?=some ⟨fz,l⟩)(h:∀ i d,l[i]?=some d→∀ S,fnO o [c,sd i,d] S=.ok (.tup [sd (i+1),.int (PA (i+1)-PA i),.int (GA (i+1)-GA i)]) S)(p0:PA 0=0)(g0:GA 0=0):
  fnR o [c,sd 0,.lst q] S=.ok (.tup [sd l.length,.int (PA l.length),.int (GA l.length)]) S:=by
 have e:=gX_ok (rowby_ok hq h p0 g0)
 cases o
 ·have e:gX ys f_row_by [c,sd 0,.lst q,.fv "deed_done"] S=.ok (.tup [sd l.length,.int (PA l.length),.int (GA l.length)]) S:=e
  refine(fnB_ap (m:=3) (b:=b_row_done)).trans ?_
  show fin (b_row_done [some c,some (sd 0),some (.lst q)] S)=_
  unfold b_row_done
  simp[e]
 ·have e:gX ys f_row_by [c,sd 0,.lst q,.fv "open_done"] S=.ok (.tup [sd l.length,.int (PA l.length),.int (GA l.length)]) S:=e
  refine(fnB_ap (m:=3) (b:=b_open_row)).trans ?_
  show fin (b_open_row [some c,some (sd 0),some (.lst q)] S)=_
  unfold b_open_row
  simp[e]
def psum(x:Nat→Int):Nat→Int
 | 0=>0
 | i+1=>psum x i+x i
section
variable{c pls s v:D}{X Y Z:Nat→Int}{l:List D}{q:Nat}{fz:Bool}{S:Sto}
abbrev rwt(c s:D)(q:Nat)(x3 x4 x5 x6 x7 x8:Option D):Lc:=[some c,some s,some (.lst q),x3,x4,x5,x6,x7,x8]
theorem water_ok2(hq:S[q]?=some ⟨fz,l⟩)(hrow:f_row_done [c,s,.lst q] S=.ok v S)(hc:DL.getD c (.int 0) S=.ok pls S)(h:∀ i d,l[i]?=some d→∃ w n,d=.tup [w,n]∧Wc c pls w n (X i) (Y i) (Z i)):
  f_water [c,s,.lst q] S=.ok (.tup [.int (psum X l.length),.int (psum Y l.length),.int (psum Z l.length)]) S:=by
 obtain⟨ρ',S',ef,e1,g7,g8,e2⟩:=for_inv (nxt:=(srcL q l.length).nxt) (g:=gt (gcons (gn 7) (gcons (gn 8) gnil)) 2) (b:=lb_water_1) (l:=l)
  (fun k ρ S'=>S'=S∧∃ g7 g8,ρ=rwt c s q (some pls) (some (.int (psum X k))) (some (.int (psum Y k))) (some (.int (psum Z k))) g7 g8)
  (fun k ρ S' ⟨e,_⟩=>by
   subst e
   show(S'[q]?).bind (fun c=>c.xs[k]?)=_
   rw[hq]; rfl)
  (fun k d ρ S' hd ⟨e,g7,g8,e2⟩=>by
   subst e e2
   obtain⟨w,n,rfl,wc⟩:=h k d hd
   exact⟨rwt c s q (some pls) (some (.int (psum X k))) (some (.int (psum Y k))) (some (.int (psum Z k))) (some w) (some n),_,S',rfl,wc _ _ _ _ _ S',rfl,_,_,rfl⟩) (l.length+1) 0 (rwt c s q (some pls) (some (.int 0)) (some (.int 0)) (some (.int 0)) none none) S (Nat.zero_le _) ⟨rfl,none,none,rfl⟩ (by omega)
 subst e1 e2
 have gx:=gX_ok hrow
 refine(fnB_ap (m:=9) (b:=b_water)).trans ?_
 show fin (b_water (rwt c s q none none none none none none) S')=_
 unfold b_water
 refine(fin_nx (ρ':=rwt c s q none none none none none none) (S':=S') (by simp[gx])).trans ?_
 refine(fin_nx (ρ':=rwt c s q (some pls) none none none none none) (S':=S') (by simp[hc])).trans ?_
 refine(fin_nx (ρ':=rwt c s q (some pls) (some (.int 0)) none none none none) (S':=S') (by simp)).trans ?_
 refine(fin_nx (ρ':=rwt c s q (some pls) (some (.int 0)) (some (.int 0)) none none none) (S':=S') (by simp)).trans ?_
 refine(fin_nx (ρ':=rwt c s q (some pls) (some (.int 0)) (some (.int 0)) (some (.int 0)) none none) (S':=S') (by simp)).trans ?_
 refine(fin_nx (ρ':=rwt c s q (some pls) (some (.int (psum X l.length))) (some (.int (psum Y l.length))) (some (.int (psum Z l.length))) g7 g8) (S':=S') ?_).trans ?_
 ·rw[sfor_ap,isrc_ap]
  have:vr 2 (rwt c s q (some pls) (some (.int 0)) (some (.int 0)) (some (.int 0)) none none) S'=.ok (.lst q) S':=by simp
  rw[this,bind_ok,src_l hq,bindS_ok]
  exact ef
 simp
end
end Law
set_option Elab.async false
set_option linter.all false
set_option maxRecDepth 100000
namespace Law
open PySem PySem.Spec PyProof.Rows L2 DL
theorem apd{S:Sto}{q:Nat}{xs:List D}{d:D}(h:S[q]?=some ⟨false,xs⟩)(hl:xs.length<1000000):appD (.lst q) [d] S=.ok .non (S.set q ⟨false,xs++[d]⟩):=by
 simp only[appD,h]
 simp[hl]
structure Ke(q:Nat)(S S':Sto):Prop where
 len:S.length≤S'.length
 get:∀ i,i<S.length→i≠q→S'[i]?=S[i]?
theorem Ke.refl{q:Nat}{S:Sto}:Ke q S S:=⟨Nat.le_refl _,fun _ _ _=>rfl⟩
theorem Ke.trans{q:Nat}{S S1 S2:Sto}(a:Ke q S S1)(b:Ke q S1 S2):Ke q S S2:=⟨Nat.le_trans a.len b.len,fun i h n=>(b.get i (Nat.lt_of_lt_of_le h a.len) n).trans (a.get i h n)⟩
theorem Ke.ex{q:Nat}{S0 S S':Sto}(a:Ex S0 S)(b:Ke q S S')(h:S0.length≤q):Ex S0 S':=⟨Nat.le_trans a.len b.len,fun i hi=>(b.get i (Nat.lt_of_lt_of_le hi a.len) (by omega)).trans (a.get i hi)⟩
theorem Ke.at{q j:Nat}{c:Cell}{S S':Sto}(b:Ke q S S')(h:S[j]?=some c)(n:j≠q):S'[j]?=some c:=(b.get j (List.getElem?_eq_some_iff.mp h).1 n).trans h
def Can(ps:List Pl)(us:List Bool)(L R F:List Int)(p:Wd×Nat):Prop:=∃ A B C a g,Dd ps us L R F p A B C a g
section
variable{ps:List Pl}{us:List Bool}{L R F:List Int}
abbrev rc(ps:List Pl)(us:List Bool)(L R F:List Int)(x2 x3 x4:Option D):Lc:=[some (cD ps us),some (stD L R F),x2,x3,x4]
theorem can_step{qo:Nat}{p:Wd×Nat}{r:Res}{S:Sto}{G:List (Wd×Nat)}(due:∀ S,∃ S',f__law_due [cD ps us,stD L R F,ddOf p] S=.ok r.toD S'∧Ex S S')(wh:Wh ps us L R F p r)(hq:S[qo]?=some ⟨false,G.map ddOf⟩)(hx:G.length<1000):
  ∃ (S':Sto) (G':List (Wd×Nat)),lb__law_can_1 (rc ps us L R F (some (.lst qo)) (some p.1.toD) (some (.int p.2))) S=.nx (rc ps us L R F (some (.lst qo)) (some p.1.toD) (some (.int p.2))) S'∧S'[qo]?=some ⟨false,G'.map ddOf⟩∧(∀ x∈G',x∈G∨Can ps us L R F x)∧G'.length≤G.length+1∧Ke qo S S':=by
 obtain⟨S1,e1,x1⟩:=due S
 have k1:Ke qo S S1:=⟨x1.len,fun i h _=>x1.get i h⟩
 have h1:=x1.at hq
 unfold lb__law_can_1
 rcases wh with⟨y,hy,rfl⟩ | ⟨A,B,C,a,g,rfl,dd⟩
 ·obtain⟨z,hz⟩:=word_str hy
  have e1:f__law_due [cD ps us,stD L R F,.tup [p.1.toD,.int p.2]] S=.ok (.str z) S1:=by rw[←hz]; exact e1
  refine⟨S1,G,?_,h1,fun x hx=>.inl hx,by omega,k1⟩
  rw[sif_f (S1:=S1) (by simp[e1,isD,isT,tyN,truD])]
  rfl
 ·have e1:f__law_due [cD ps us,stD L R F,.tup [p.1.toD,.int p.2]] S=.ok (.tup [stD A B C,.int a,.int g]) S1:=e1
  have l1:qo<S1.length:=(List.getElem?_eq_some_iff.mp h1).1
  refine⟨S1.set qo ⟨false,G.map ddOf++[ddOf p]⟩,G++[p],?_,?_,fun x hx=>?_,by simp,k1.trans ⟨by simp,fun i _ n=>List.getElem?_set_ne (Ne.symm n)⟩⟩
  ·rw[sif_t (S1:=S1) (by simp[e1,isD,isT,tyN,truD])]
   have il:isLst (.lst qo) S1=true:=by simp[isLst,h1]
   simp[apd h1 (by rw[List.length_map]; omega),il]
  ·rw[List.getElem?_set_self l1,List.map_append]
   rfl
  ·rcases List.mem_append.mp hx with z | z
   ·exact .inl z
   ·have:x=p:=by simpa using z
    subst this
    exact .inr ⟨A,B,C,a,g,dd⟩
theorem can_loop{qo:Nat}{w:Wd}{S:Sto}{G:List (Wd×Nat)}{x4:Option D}(he:EndsOk ps)(hp:∀ p∈ps,p.ok)(hl:ps.length≤13)(hu:us.length+1=ps.length)(sf:StF ps L R F)(hq:S[qo]?=some ⟨false,G.map ddOf⟩)(hG:∀ x∈G,Can ps us L R F x)(hx:G.length≤900):
  ∃ (y4:Option D) (S':Sto) (G':List (Wd×Nat)),lb__law_can_2 (rc ps us L R F (some (.lst qo)) (some w.toD) x4) S=.nx (rc ps us L R F (some (.lst qo)) (some w.toD) y4) S'∧S'[qo]?=some ⟨false,G'.map ddOf⟩∧(∀ x∈G',Can ps us L R F x)∧G'.length≤G.length+13∧Ke qo S S':=by
 obtain⟨ρ',S',lp,y4,G',eρ,hq',hG',ln,x⟩:=for_inv (nxt:=(rsrc 0 ps.length).nxt) (g:=gn 4) (b:=lb__law_can_1) (l:=(List.range ps.length).map fun k:Nat=>D.int (k:Int))
  (fun i ρ S'=>∃ (y4:Option D) (G':List (Wd×Nat)),ρ=rc ps us L R F (some (.lst qo)) (some w.toD) y4∧S'[qo]?=some ⟨false,G'.map ddOf⟩∧(∀ x∈G',Can ps us L R F x)∧G'.length≤G.length+i∧Ke qo S S')
  (fun i _ S _=>rng_get) (fun i d ρ S' hd ⟨y4,G',h1,h2,h3,h4,h5⟩=>by
   obtain⟨hi,rfl⟩:=rng_of hd
   subst h1
   obtain⟨r,_,due,wh⟩:=deed_all he hp hl hu sf w hi
   obtain⟨S'',G'',c1,c2,c3,c4,c5⟩:=can_step (p:=(w,i)) due wh h2 (by omega)
   exact⟨_,_,S'',rfl,c1,_,G'',rfl,c2,fun x hx=>(c3 x hx).elim (h3 x) id,by omega,h5.trans c5⟩) (ps.length+1) 0 (rc ps us L R F (some (.lst qo)) (some w.toD) x4) S (Nat.zero_le _) ⟨x4,G,rfl,hq,hG,by omega,.refl⟩ (by simp)
 subst eρ
 rw[List.length_map,List.length_range] at ln
 refine⟨y4,S',G',?_,hq',hG',by omega,x⟩
 unfold lb__law_can_2
 rw[sfor_ap,ir1_ok (n:=ps.length) (S':=S) (by simp[cd0]) (by omega)]
 exact lp
def Ws:List Wd:=[.l,.f,.r,.e]
theorem can_ok{S:Sto}(he:EndsOk ps)(hp:∀ p∈ps,p.ok)(hl:ps.length≤13)(hu:us.length+1=ps.length)(sf:StF ps L R F):
  ∃ (S':Sto) (G:List (Wd×Nat)),f__law_can [cD ps us,stD L R F] S=.ok (.lst S.length) S'∧S'[S.length]?=some ⟨false,G.map ddOf⟩∧(∀ x∈G,Can ps us L R F x)∧G.length≤52∧Ex S S':=by
 have q2:(S++[(⟨false,[]⟩:Cell)])[S.length]?=some ⟨false,[]⟩:=app_at
 have x2:Ex S (S++[⟨false,[]⟩]):=Ex.app
 have l2:S.length<(S++[(⟨false,[]⟩:Cell)]).length:=by simp
 have e2:sa (ls an) (gn 2) (rc ps us L R F none none none) S=.nx (rc ps us L R F (some (.lst S.length)) none none) (S++[⟨false,[]⟩]):=by simp
 generalize S++[(⟨false,[]⟩:Cell)]=S2 at q2 x2 l2 e2
 have q3:(S2++[(⟨false,Ws.map Wd.toD⟩:Cell)])[S2.length]?=some ⟨false,Ws.map Wd.toD⟩:=app_at
 have x3:Ex S2 (S2++[⟨false,Ws.map Wd.toD⟩]):=Ex.app
 have el:ls (ac (cn (.str "let")) (ac (cn (.str "feed")) (ac (cn (.str "right")) (ac (cn (.str "left")) an)))) (rc ps us L R F (some (.lst S.length)) none none) S2=.ok (.lst S2.length) (S2++[⟨false,Ws.map Wd.toD⟩]):=by
  simp only[ls_ap,ac_ap,an_ap,cn_ap,bind_ok,List.length_cons,List.length_nil]
  rfl
 generalize S2++[(⟨false,Ws.map Wd.toD⟩:Cell)]=S3 at q3 x3 el
 obtain⟨ρ',S',lp,y3,y4,G,eρ,hq',hG,ln,x⟩:=for_inv (nxt:=(srcL S2.length 4).nxt) (g:=gn 3) (b:=lb__law_can_2) (l:=Ws.map Wd.toD)
  (fun i ρ S'=>∃ (y3 y4:Option D) (G:List (Wd×Nat)),ρ=rc ps us L R F (some (.lst S.length)) y3 y4∧S'[S.length]?=some ⟨false,G.map ddOf⟩∧(∀ x∈G,Can ps us L R F x)∧G.length≤13*i∧Ke S.length S3 S')
  (fun i ρ S' ⟨_,_,_,_,_,_,_,x⟩=>by
   show(S'[S2.length]?).bind (fun c=>c.xs[i]?)=_
   rw[x.at q3 (by omega)]; rfl) (fun i d ρ S' hd ⟨y3,y4,G,h1,h2,h3,h4,h5⟩=>by
   subst h1
   rw[List.getElem?_map] at hd
   cases hk:Ws[i]? with
   | none=>rw[hk] at hd; cases hd
   | some w=>
    rw[hk] at hd
    cases (Option.some.inj hd)
    have hi:i<4:=(List.getElem?_eq_some_iff.mp hk).1
    obtain⟨y4',S'',G',c1,c2,c3,c4,c5⟩:=can_loop (w:=w) (x4:=y4) he hp hl hu sf h2 h3 (by omega)
    exact⟨_,_,S'',rfl,c1,_,_,G',rfl,c2,c3,by omega,h5.trans c5⟩) (4+1) 0 (rc ps us L R F (some (.lst S.length)) none none) S3 (Nat.zero_le _) ⟨none,none,[],rfl,x3.at q2,(fun x hx=>by cases hx),by simp,.refl⟩ (by decide)
 subst eρ
 refine⟨S',G,?_,hq',hG,by simpa[Ws] using ln,x.ex (x2.trans x3) (Nat.le_refl _)⟩
 refine(fnB_ap (m:=5) (b:=b__law_can)).trans ?_
 show fin (b__law_can (rc ps us L R F none none none) S)=_
 unfold b__law_can
 refine(fin_nx e2).trans ?_
 refine(fin_nx (ρ':=rc ps us L R F (some (.lst S.length)) y3 y4) (S':=S') ?_).trans ?_
 ·rw[sfor_ap,isrc_ap,el,bind_ok,src_l q3,bindS_ok]
  exact lp
 simp
def isM:Wd→Bool
 | .r=>true
 | .e=>true
 | _=>false
theorem in_go{w:Wd}{S:Sto}:inD w.toD (.lst S.length) (S++[⟨false,[.str "right",.str "left"]⟩])=.ok (.bl (isM w)) (S++[⟨false,[.str "right",.str "left"]⟩]):=by
 show inND false _ _ _=_
 have hi:itemsD (.lst S.length) (S++[⟨false,[.str "right",.str "left"]⟩])=some [.str "right",.str "left"]:=by
  show((S++[⟨false,[.str "right",.str "left"]⟩])[S.length]?).map (·.xs)=_
  rw[app_at]; rfl
 unfold inND
 rw[hi]
 cases w<;>simp[flatD,Wd.toD,wd,isM]<;>decide +kernel
theorem go_comp{q:Nat}{fz:Bool}{G:List (Wd×Nat)}{ρ:Lc}{S:Sto}(h6:ρ[6]?=some (some (.lst q)))(hq:S[q]?=some ⟨fz,G.map ddOf⟩)(hl:G.length<1000):
  ∃ S',cmp (isrc (vr 6)) [none] (gn 0) (tb (o2 inD (o2 DL.getD (vr 0) (cn (.int 0))) (ls (ac (cn (.str "right")) (ac (cn (.str "left")) an))))) (vr 0) ρ S=.ok (.lst S.length) S'∧S'[S.length]?=some ⟨false,(G.filter fun p=>isM p.1).map ddOf⟩∧Ex S S':=by
 obtain⟨ρ',S',el,g,hρ,hq',hx⟩:=for_inv (nxt:=(srcL q (G.map ddOf).length).nxt) (g:=gn 0) (b:=cbody S.length (tb (o2 inD (o2 DL.getD (vr 0) (cn (.int 0))) (ls (ac (cn (.str "right")) (ac (cn (.str "left")) an))))) (vr 0)) (l:=G.map ddOf)
  (fun i ρ S'=>∃ g,ρ=[g]∧S'[S.length]?=some ⟨false,((G.take i).filter fun p=>isM p.1).map ddOf⟩∧Ex S S')
  (fun i ρ S' ⟨_,_,_,x⟩=>by
   show(S'[q]?).bind (fun c=>c.xs[i]?)=_
   rw[x.at hq]; rfl) (fun i d ρ S' hd ⟨g,h1,h2,h3⟩=>by
   subst h1
   rw[List.getElem?_map] at hd
   cases hk:G[i]? with
   | none=>rw[hk] at hd; cases hd
   | some p=>
    rw[hk] at hd
    cases (Option.some.inj hd)
    have lq:S.length<S'.length:=(List.getElem?_eq_some_iff.mp h2).1
    have ht:G.take (i+1)=G.take i++[p]:=by rw[List.take_add_one,hk]; rfl
    have hlen:((G.take i).filter fun p=>isM p.1).length<1000:=by
     have:=List.length_filter_le (fun p:Wd×Nat=>isM p.1) (G.take i)
     have:(G.take i).length≤G.length:=by rw[List.length_take]; omega
     omega
    have g0:DL.getD (ddOf p) (.int 0) S'=.ok p.1.toD S':=get_t (atI_nn (by decide) rfl)
    have gi:=in_go (w:=p.1) (S:=S')
    have x4:Ex S' (S'++[⟨false,[.str "right",.str "left"]⟩]):=Ex.app
    have tst:tb (o2 inD (o2 DL.getD (vr 0) (cn (.int 0))) (ls (ac (cn (.str "right")) (ac (cn (.str "left")) an)))) [some (ddOf p)] S'=.ok (isM p.1) (S'++[⟨false,[.str "right",.str "left"]⟩]):=by
     simp[g0,gi]
    generalize S'++[(⟨false,[.str "right",.str "left"]⟩:Cell)]=S4 at x4 tst
    have h2':=x4.at h2
    have lq':S.length<S4.length:=(List.getElem?_eq_some_iff.mp h2').1
    by_cases c:isM p.1=true
    ·refine⟨[some (ddOf p)],[some (ddOf p)],S4.set S.length ⟨false,((G.take i).filter fun p=>isM p.1).map ddOf++[ddOf p]⟩,rfl,?_,some (ddOf p),rfl,?_,(h3.trans x4).setq (Nat.le_refl _)⟩
     ·unfold cbody
      rw[tst,bindS_ok,c]
      simp only[if_true,vr_ap,List.getElem?_cons_zero,bindS_ok,h2']
      rw[if_pos ⟨trivial,by simp only[List.length_map]; omega⟩]
     ·rw[List.getElem?_set_self lq',ht,List.filter_append]
      simp[c]
    ·have c:isM p.1=false:=by simpa using c
     refine⟨[some (ddOf p)],[some (ddOf p)],S4,rfl,?_,some (ddOf p),rfl,?_,h3.trans x4⟩
     ·unfold cbody
      rw[tst,bindS_ok,c]
      rfl
     ·rw[h2',ht,List.filter_append]
      simp[c]) ((G.map ddOf).length+1) 0 [none] (S++[⟨false,[]⟩]) (Nat.zero_le _) ⟨none,rfl,by simp[app_at],Ex.app⟩ (Nat.lt_succ_self _)
 rw[List.length_map,List.take_length] at hq'
 refine⟨S',cmp_ok (pk:=[none]) (ρ:=ρ) (S:=S) (f:=isrc (vr 6)) (s:=srcL q (G.map ddOf).length) (S1:=S) (by rw[isrc_ap,vr_ap,h6]; exact src_l hq) el,hq',hx⟩
end
end Law
set_option Elab.async false
set_option linter.all false
set_option maxRecDepth 100000
namespace Law
open PySem PySem.Spec PyProof.Rows L2 DL
def wStr:Wd→Str
 | .l=>"let"
 | .f=>"feed"
 | .r=>"right"
 | .e=>"left"
def pdd(p:Wd×Nat):PyData:=.tuple [.str (wStr p.1),.int p.2]
theorem toP_dds{S:Sto}{n:Nat}:∀ G:List (Wd×Nat),mapO (toP S (n+3)) (G.map ddOf)=some (G.map pdd)
 | []=>rfl
 | ⟨w,k⟩::r=>by
  have:=toP_dds (S:=S) (n:=n) r
  rw[List.map_cons,List.map_cons]
  have e:toP S (n+3) (ddOf (w,k))=some (pdd (w,k)):=by cases w<;>rfl
  simp only[mapO,this,e]
theorem lay_dds:∀ G:List (Wd×Nat),PyData.canLayAll0 (G.map pdd)=true
 | []=>rfl
 | ⟨w,k⟩::r=>by
  have e:PyData.strOk (wStr w)=true:=by cases w<;>decide +kernel
  simp[PyData.canLayAll0,PyData.canLay0,pdd,lay_dds r,e]
theorem dep_dds:∀ G:List (Wd×Nat),PyData.depthAll (G.map pdd)≤1
 | []=>by simp[PyData.depthAll]
 | ⟨w,k⟩::r=>by
  have:=dep_dds r
  simp[PyData.depthAll,PyData.depth,pdd] at this ⊢
  omega
theorem ne_dd{p q:Nat}{fz:Bool}{G:List (Wd×Nat)}{S:Sto}(hp:S[p]?=some ⟨fz,G.map ddOf⟩)(hq:S[q]?=some ⟨false,[]⟩):neD (.lst p) (.lst q) S=.ok (.bl (!G.isEmpty)) S:=by
 have e1:toP S 40 (.lst p)=some (.list (G.map pdd)):=by
  show(match S[p]? with | some c=>(mapO (toP S 39) c.xs).map PyData.list | none=>none)=_
  rw[hp]
  show(mapO (toP S 39) (G.map ddOf)).map PyData.list=_
  rw[toP_dds]; rfl
 have e2:toP S 40 (.lst q)=some (.list []):=by
  show(match S[q]? with | some c=>(mapO (toP S 39) c.xs).map PyData.list | none=>none)=_
  rw[hq]; rfl
 simp only[neD,e1,e2]
 have dp:=dep_dds G
 rw[if_pos (by
  simp[SeqAt.shaped,PyData.canLay0,PyData.canLayAll0,lay_dds,PyData.depth,PyData.depthAll]
  omega)]
 cases G<;>rfl
structure Run(ps:List Pl)(us:List Bool)(row:List (Wd×Nat))(sL sR sF:Nat→List Int)(PA GA:Nat→Int):Prop where
 st:∀ i,i≤row.length→StF ps (sL i) (sR i) (sF i)
 dd:∀ i p,row[i]?=some p→Dd ps us (sL i) (sR i) (sF i) p (sL (i+1)) (sR (i+1)) (sF (i+1)) (PA (i+1)-PA i) (GA (i+1)-GA i)
 p0:PA 0=0
 g0:GA 0=0
theorem Run.snoc{ps:List Pl}{us:List Bool}{row:List (Wd×Nat)}{sL sR sF:Nat→List Int}{PA GA:Nat→Int}{p:Wd×Nat}{A B C:List Int}{a g:Int}(r:Run ps us row sL sR sF PA GA)(d:Dd ps us (sL row.length) (sR row.length) (sF row.length) p A B C a g):
  ∃ sL' sR' sF' PA' GA',Run ps us (row++[p]) sL' sR' sF' PA' GA'∧(sL' 0=sL 0∧sR' 0=sR 0∧sF' 0=sF 0)∧sL' (row++[p]).length=A∧sR' (row++[p]).length=B∧sF' (row++[p]).length=C:=by
 have ln:(row++[p]).length=row.length+1:=by simp
 refine⟨fun i=>if i≤row.length then sL i else A,fun i=>if i≤row.length then sR i else B,fun i=>if i≤row.length then sF i else C,fun i=>if i≤row.length then PA i else PA row.length+a,fun i=>if i≤row.length then GA i else GA row.length+g,⟨fun i hi=>?_,fun i x hx=>?_,?_,?_⟩,⟨?_,?_,?_⟩,?_,?_,?_⟩
 ·by_cases c:i≤row.length
  ·simp only[if_pos c]; exact r.st i c
  ·simp only[if_neg c]; exact d.sf
 ·by_cases c:i<row.length
  ·rw[List.getElem?_append_left c] at hx
   have c1:i≤row.length:=by omega
   have c2:i+1≤row.length:=by omega
   simp only[if_pos c1,if_pos c2]
   exact r.dd i x hx
  ·have hi:i<(row++[p]).length:=(List.getElem?_eq_some_iff.mp hx).1
   have:i=row.length:=by omega
   subst this
   rw[List.getElem?_append_right (Nat.le_refl _),Nat.sub_self] at hx
   cases (Option.some.inj hx)
   have c2:¬ row.length+1≤row.length:=by omega
   simp only[if_pos (Nat.le_refl row.length),if_neg c2]
   have e1:PA row.length+a-PA row.length=a:=by omega
   have e2:GA row.length+g-GA row.length=g:=by omega
   rw[e1,e2]
   exact d
 ·simp only[if_pos (Nat.zero_le row.length)]; exact r.p0
 ·simp only[if_pos (Nat.zero_le row.length)]; exact r.g0
 ·simp only[if_pos (Nat.zero_le row.length)]
 ·simp only[if_pos (Nat.zero_le row.length)]
 ·simp only[if_pos (Nat.zero_le row.length)]
 ·simp only[ln]; rw[if_neg (by omega)]
 ·simp only[ln]; rw[if_neg (by omega)]
 ·simp only[ln]; rw[if_neg (by omega)]
abbrev rk(t:Nat)(ps:List Pl)(us:List Bool)(s:D)(x3:Option D)(qr:Nat)(x5 x6 x7 x8:Option D):Lc:=[some (.lst t),some (cD ps us),some s,x3,some (.lst qr),x5,x6,x7,x8]
theorem Kp.at'{S S':Sto}{t k j:Nat}{c:Cell}(x:Kp S S' t k)(h:S[j]?=some c)(h1:j≠t)(h2:j≠k):S'[j]?=some c:=(x.get j (List.getElem?_eq_some_iff.mp h).1 h1 h2).trans h
theorem some_ok{S:Sto}{t k n q6 q7 qr:Nat}{ps:List Pl}{us:List Bool}{s:D}{G G':List (Wd×Nat)}{x3 x5 x8:Option D}(d:Dp S t k n)(hn:n<2^56)(h6:S[q6]?=some ⟨false,G.map ddOf⟩)(h7:S[q7]?=some ⟨false,G'.map ddOf⟩):
  ∃ (q:Nat) (S':Sto),sif (ta (tb (o2 neD (vr 7) (ls an))) (tb (o2 gtD (cl 2 (noExc f__law_draw) (ac (vr 0) (ac (cn (.int 3)) an))) (cn (.int 0))))) (sa (vr 7) (gn 6)) skip (rk t ps us s x3 qr x5 (some (.lst q6)) (some (.lst q7)) x8) S=.nx (rk t ps us s x3 qr x5 (some (.lst q)) (some (.lst q7)) x8) S'∧(q=q6∨q=q7)∧Dp S' t k (n+1)∧Kp S S' t k:=by
 have d0:Dp (S++[⟨false,[]⟩]) t k n:=d.app
 have x0:Ex S (S++[⟨false,[]⟩]):=Ex.app
 have ne:=ne_dd (S:=S++[⟨false,[]⟩]) (x0.at h7) app_at
 have k0:Kp S (S++[⟨false,[]⟩]) t k:=x0.kp
 generalize hS:S++[(⟨false,[]⟩:Cell)]=S0 at d0 x0 ne k0
 obtain⟨r,S1,e1,r0,r1,d1,k1⟩:=draw_ok (m:=3) d0 (by omega) (by decide) (by decide)
 cases z:G'.isEmpty with
 | true=>
  rw[z] at ne
  refine⟨q6,S0,?_,.inl rfl,d0.mono (by omega),k0⟩
  rw[sif_f (S1:=S0) (by simp[hS,ne])]
  rfl
 | false=>
  rw[z] at ne
  by_cases c:0<r
  ·refine⟨q7,S1,?_,.inr rfl,d1,k0.trans k1⟩
   rw[sif_t (S1:=S1) (by simp[hS,ne,e1,c])]
   simp
  ·refine⟨q6,S1,?_,.inl rfl,d1,k0.trans k1⟩
   rw[sif_f (S1:=S1) (by simp[hS,ne,e1]; omega)]
   rfl
end Law
set_option Elab.async false
set_option linter.all false
set_option maxRecDepth 100000
namespace Law
open PySem PySem.Spec PyProof.Rows L2 DL
theorem Dp.ltk{S:Sto}{t k n:Nat}(h:Dp S t k n):k<S.length:=by
 obtain⟨⟨a,b,xs,e1,e2,h⟩,ne⟩:=h
 exact(List.getElem?_eq_some_iff.mp e2).1
theorem Dp.setq{S:Sto}{t k n q:Nat}{c:Cell}(h:Dp S t k n)(h1:q≠t)(h2:q≠k):Dp (S.set q c) t k n:=by
 obtain⟨⟨a,b,xs,e1,e2,h⟩,ne⟩:=h
 exact⟨⟨a,b,xs,(List.getElem?_set_ne h1).trans e1,(List.getElem?_set_ne h2).trans e2,h⟩,ne⟩
structure Wk(ps:List Pl)(us:List Bool)(L R F:List Int)(row:List (Wd×Nat))(s:D):Prop where
 ex:∃ sL sR sF PA GA,Run ps us row sL sR sF PA GA∧sL 0=L∧sR 0=R∧sF 0=F∧s=stD (sL row.length) (sR row.length) (sF row.length)
theorem walk_step{S:Sto}{t k n qr:Nat}{ps:List Pl}{us:List Bool}{L R F:List Int}{row:List (Wd×Nat)}{s:D}{x3 x5 x6 x7 x8:Option D}(he:EndsOk ps)(hp:∀ p∈ps,p.ok)(hl:ps.length≤13)(hu:us.length+1=ps.length)(wk:Wk ps us L R F row s)(d:Dp S t k n)(hn:n<2^55)(hr:S[qr]?=some ⟨false,row.map ddOf⟩)(ht:qr≠t)(hk:qr≠k)(ln:row.length≤100):
  ∃ (row':List (Wd×Nat)) (s':D) (y6 y7 y8:Option D) (S':Sto),lb__law_walk_1 (rk t ps us s x3 qr x5 x6 x7 x8) S=.nx (rk t ps us s' x3 qr x5 y6 y7 y8) S'∧Wk ps us L R F row' s'∧row'.length≤row.length+1∧S'[qr]?=some ⟨false,row'.map ddOf⟩∧Dp S' t k (n+2):=by
 obtain⟨sL,sR,sF,PA,GA,run,z1,z2,z3,rfl⟩:=wk.ex
 have lt:=d.lt
 have lk:=d.ltk
 obtain⟨S1,G,e1,q1,hG,lG,x1⟩:=can_ok (us:=us) (S:=S) he hp hl hu (run.st _ (Nat.le_refl _))
 obtain⟨S2,e2,q2,x2⟩:=go_comp (ρ:=rk t ps us (stD (sL row.length) (sR row.length) (sF row.length)) x3 qr x5 (some (.lst S.length)) x7 x8) (q:=S.length) rfl q1 (by omega)
 have l1:=x1.len
 obtain⟨q,S3,e3,hq,d3,k3⟩:=some_ok (ps:=ps) (us:=us) (s:=stD (sL row.length) (sR row.length) (sF row.length)) (qr:=qr) (x3:=x3) (x5:=x5) (x8:=x8) (d.ext (x1.trans x2)) (by omega) (x2.at q1) q2
 have qt:q≠t∧q≠k:=by rcases hq with rfl | rfl<;>exact⟨by omega,by omega⟩
 obtain⟨G6,h6,hG6,l6⟩:∃ G6:List (Wd×Nat),S3[q]?=some ⟨false,G6.map ddOf⟩∧(∀ p∈G6,Can ps us (sL row.length) (sR row.length) (sF row.length) p)∧G6.length≤52:=by
  rcases hq with rfl | rfl
  ·exact⟨G,k3.at' (x2.at q1) qt.1 qt.2,hG,lG⟩
  ·exact⟨_,k3.at' q2 qt.1 qt.2,fun p hp=>hG p (List.mem_filter.mp hp).1,Nat.le_trans (List.length_filter_le _ _) lG⟩
 have r3:S3[qr]?=some ⟨false,row.map ddOf⟩:=k3.at' ((x1.trans x2).at hr) ht hk
 have d4:Dp (S3++[⟨false,[]⟩]) t k (n+1):=d3.app
 have x4:Ex S3 (S3++[⟨false,[]⟩]):=Ex.app
 have ne:=ne_dd (S:=S3++[⟨false,[]⟩]) (x4.at h6) app_at
 have E:lb__law_walk_1 (rk t ps us (stD (sL row.length) (sR row.length) (sF row.length)) x3 qr x5 x6 x7 x8) S=sif (tb (o2 neD (vr 6) (ls an)))
   (sq (sa (o2 DL.getD (vr 6) (cl 2 (noExc f__law_draw) (ac (vr 0) (ac (b1 lenD (ac (vr 6) an)) an)))) (gn 8))
   (sq (sx (mt appD (vr 4) (ac (vr 8) an)))
   (sa (o2 DL.getD (cl 3 (noExc f__law_due) (ac (vr 1) (ac (vr 2) (ac (vr 8) an)))) (cn (.int 0))) (gn 2)))) skip (rk t ps us (stD (sL row.length) (sR row.length) (sF row.length)) x3 qr x5 (some (.lst q)) (some (.lst S1.length)) x8) S3:=by
  unfold lb__law_walk_1
  rw[sq_nx (ρ':=rk t ps us (stD (sL row.length) (sR row.length) (sF row.length)) x3 qr x5 (some (.lst S.length)) x7 x8) (S1:=S1) (by simp[e1])]
  rw[sq_nx (ρ':=rk t ps us (stD (sL row.length) (sR row.length) (sF row.length)) x3 qr x5 (some (.lst S.length)) (some (.lst S1.length)) x8) (S1:=S2) (by rw[sa_ap,e2]; rfl)]
  rw[sq_nx e3]
 rw[E]
 generalize hS:S3++[(⟨false,[]⟩:Cell)]=S4 at d4 x4 ne
 cases hg:G6 with
 | nil=>
  rw[hg] at ne
  refine⟨row,stD (sL row.length) (sR row.length) (sF row.length),some (.lst q),some (.lst S1.length),x8,S4,?_,⟨sL,sR,sF,PA,GA,run,z1,z2,z3,rfl⟩,by omega,x4.at r3,d4.mono (by omega)⟩
  rw[sif_f (S1:=S4) (by simp[hS,ne])]
  rfl
 | cons g0 gs=>
  have l0:0<G6.length:=by rw[hg]; simp
  have ne:neD (.lst q) (.lst S3.length) S4=.ok (.bl true) S4:=by
   rw[ne,hg]; rfl
  obtain⟨r,S5,e5,r0,r1,d5,k5⟩:=draw_ok (m:=(G6.length:Int)) d4 (by omega) (by omega) (by omega)
  have hr':r.toNat<G6.length:=by omega
  have ep:=List.getElem?_eq_getElem hr'
  generalize G6[r.toNat]=p at ep
  have h4:=x4.at h6
  have h5:=k5.at' h4 qt.1 qt.2
  have gt:DL.getD (.lst q) (.int r) S5=.ok (ddOf p) S5:=get_l h5 (atI_nn r0 (by rw[List.getElem?_map,ep]; rfl))
  have le:lenD [.lst q] S4=.ok (.int G6.length) S4:=by simp[lenD,h4]
  have r5:=k5.at' (x4.at r3) ht hk
  have l5:qr<S5.length:=(List.getElem?_eq_some_iff.mp r5).1
  have il:isLst (.lst qr) S5=true:=by simp[isLst,r5]
  have ap:=apd (d:=ddOf p) r5 (by rw[List.length_map]; omega)
  have q6:(S5.set qr ⟨false,row.map ddOf++[ddOf p]⟩)[qr]?=some ⟨false,(row++[p]).map ddOf⟩:=by
   rw[List.getElem?_set_self l5,List.map_append]; rfl
  have d6:Dp (S5.set qr ⟨false,row.map ddOf++[ddOf p]⟩) t k (n+2):=d5.setq ht hk
  generalize S5.set qr ⟨false,row.map ddOf++[ddOf p]⟩=S6 at ap q6 d6
  obtain⟨A,B,C,a,g,dd⟩:=hG6 p (List.mem_of_getElem? ep)
  obtain⟨S7,e7,x7'⟩:=dd.due S6
  have g0':DL.getD (.tup [stD A B C,.int a,.int g]) (.int 0) S7=.ok (stD A B C) S7:=get_t (atI_nn (by decide) rfl)
  obtain⟨sL',sR',sF',PA',GA',run',⟨w1,w2,w3⟩,v1,v2,v3⟩:=run.snoc dd
  refine⟨row++[p],stD A B C,some (.lst q),some (.lst S1.length),some (ddOf p),S7,?_,⟨sL',sR',sF',PA',GA',run',w1.trans z1,w2.trans z2,w3.trans z3,by rw[v1,v2,v3]⟩,by simp,x7'.at q6,d6.ext x7'⟩
  rw[sif_t (S1:=S4) (by simp[hS,ne])]
  rw[sq_nx (ρ':=rk t ps us (stD (sL row.length) (sR row.length) (sF row.length)) x3 qr x5 (some (.lst q)) (some (.lst S1.length)) (some (ddOf p))) (S1:=S5) (by simp[le,e5,gt])]
  rw[sq_nx (ρ':=rk t ps us (stD (sL row.length) (sR row.length) (sF row.length)) x3 qr x5 (some (.lst q)) (some (.lst S1.length)) (some (ddOf p))) (S1:=S6) (by simp[ap,il])]
  simp[e7,g0']
theorem walk_ok{S:Sto}{t k n m:Nat}{ps:List Pl}{us:List Bool}{L R F:List Int}(he:EndsOk ps)(hp:∀ p∈ps,p.ok)(hl:ps.length≤13)(hu:us.length+1=ps.length)(sf:StF ps L R F)(d:Dp S t k n)(hn:n<2^50)(hm:m≤50):
  ∃ (row:List (Wd×Nat)) (s:D) (S':Sto),f__law_walk [.lst t,cD ps us,stD L R F,.int m] S=.ok (.lst S.length) S'∧Wk ps us L R F row s∧row.length≤m∧S'[S.length]?=some ⟨false,row.map ddOf⟩∧Dp S' t k (n+2*m):=by
 have lt:=d.lt
 have lk:=d.ltk
 have q0:(S++[(⟨false,[]⟩:Cell)])[S.length]?=some ⟨false,[]⟩:=app_at
 have d0:Dp (S++[⟨false,[]⟩]) t k n:=d.app
 have e0:sa (ls an) (gn 4) [some (.lst t),some (cD ps us),some (stD L R F),some (.int m),none,none,none,none,none] S=.nx (rk t ps us (stD L R F) (some (.int m)) S.length none none none none) (S++[⟨false,[]⟩]):=by simp
 generalize S++[(⟨false,[]⟩:Cell)]=S0 at q0 d0 e0
 obtain⟨ρ',S',lp,row,s,y5,y6,y7,y8,eρ,wk,ln,hq,d'⟩:=for_inv (nxt:=(rsrc 0 m).nxt) (g:=gn 5) (b:=lb__law_walk_1) (l:=(List.range m).map fun k:Nat=>D.int (k:Int))
  (fun i ρ S'=>∃ (row:List (Wd×Nat)) (s:D) (y5 y6 y7 y8:Option D),ρ=rk t ps us s (some (.int m)) S.length y5 y6 y7 y8∧Wk ps us L R F row s∧row.length≤i∧S'[S.length]?=some ⟨false,row.map ddOf⟩∧Dp S' t k (n+2*i))
  (fun i _ S _=>rng_get) (fun i d ρ S' hd ⟨row,s,y5,y6,y7,y8,h1,h2,h3,h4,h5⟩=>by
   obtain⟨hi,rfl⟩:=rng_of hd
   subst h1
   obtain⟨row',s',z6,z7,z8,S'',c1,c2,c3,c4,c5⟩:=walk_step (x3:=some (.int m)) (x5:=some (.int i)) (x6:=y6) (x7:=y7) (x8:=y8) he hp hl hu h2 h5 (by omega) h4 (by omega) (by omega) (by omega)
   exact⟨_,_,S'',rfl,c1,row',s',_,_,_,_,rfl,c2,by omega,c4,c5.mono (by omega)⟩) (m+1) 0 (rk t ps us (stD L R F) (some (.int m)) S.length none none none none) S0 (Nat.zero_le _) ⟨[],stD L R F,none,none,none,none,rfl,⟨fun _=>L,fun _=>R,fun _=>F,fun _=>0,fun _=>0,⟨fun _ _=>sf,fun i p h=>by simp at h,rfl,rfl⟩,rfl,rfl,rfl,rfl⟩,Nat.zero_le _,q0,d0⟩ (by simp)
 subst eρ
 rw[List.length_map,List.length_range] at ln d'
 refine⟨row,s,S',?_,wk,ln,hq,d'⟩
 refine(fnB_ap (m:=9) (b:=b__law_walk)).trans ?_
 show fin (b__law_walk [some (.lst t),some (cD ps us),some (stD L R F),some (.int m),none,none,none,none,none] S)=_
 unfold b__law_walk
 refine(fin_nx e0).trans ?_
 refine(fin_nx (ρ':=rk t ps us s (some (.int m)) S.length y5 y6 y7 y8) (S':=S') ?_).trans ?_
 ·rw[sfor_ap,ir1_ok (n:=m) (S':=S0) (by simp) (by omega)]
  exact lp
 simp
end Law
set_option Elab.async false
set_option linter.all false
set_option maxRecDepth 100000
namespace Law
open PySem PySem.Spec PyProof.Rows L2 DL
theorem map_at{α:Type}{G:List α}{f:α→D}{i:Nat}{d:D}(h:(G.map f)[i]?=some d):∃ p,G[i]?=some p∧d=f p:=by
 rw[List.getElem?_map] at h
 cases hk:G[i]? with
 | none=>rw[hk] at h; cases h
 | some p=>rw[hk] at h; exact⟨p,rfl,(Option.some.inj h).symm⟩
inductive Kr(o:Bool)(c pl s0:D):List (Wd×Nat)→D→Int→Int→Int→Int→Int→Prop where
 | nil:Kr o c pl s0 [] s0 0 0 0 0 0
 | snoc {K:List (Wd×Nat)} {s s':D} {P G x y z a g x1 y1 z1:Int} {p:Wd×Nat} (h:Kr o c pl s0 K s P G x y z) (hd:∀ S,fnO o [c,s,ddOf p] S=.ok (.tup [s',.int a,.int g]) S) (hw:Wc c pl p.1.toD (.int p.2) x1 y1 z1):Kr o c pl s0 (K++[p]) s' (P+a) (G+g) (x+x1) (y+y1) (z+z1)
theorem psum_congr{X X':Nat→Int}:∀ {n:Nat},(∀ i,i<n→X i=X' i)→psum X n=psum X' n
 | 0,_=>rfl
 | n+1,h=>by
  show psum X n+X n=psum X' n+X' n
  rw[psum_congr fun i hi=>h i (by omega),h n (by omega)]
theorem psum_snoc{X:Nat→Int}{n:Nat}{x1:Int}:psum (fun i=>if i<n then X i else x1) (n+1)=psum X n+x1:=by
 show psum _ n+(if n<n then X n else x1)=_
 rw[if_neg (Nat.lt_irrefl _),psum_congr (X':=X) fun i hi=>if_pos hi]
section
variable{o:Bool}{c pl s0 s:D}{K:List (Wd×Nat)}{P G x y z:Int}
theorem Kr.seq(h:Kr o c pl s0 K s P G x y z):∃ (sd:Nat→D) (PA GA X Y Z:Nat→Int),sd 0=s0∧sd K.length=s∧PA 0=0∧GA 0=0∧PA K.length=P∧GA K.length=G∧psum X K.length=x∧psum Y K.length=y∧psum Z K.length=z∧
  ∀ (i:Nat) (p:Wd×Nat),K[i]?=some p→(∀ S,fnO o [c,sd i,ddOf p] S=.ok (.tup [sd (i+1),.int (PA (i+1)-PA i),.int (GA (i+1)-GA i)]) S)∧Wc c pl p.1.toD (.int p.2) (X i) (Y i) (Z i):=by
 induction h with
 | nil=>exact⟨fun _=>s0,fun _=>0,fun _=>0,fun _=>0,fun _=>0,fun _=>0,rfl,rfl,rfl,rfl,rfl,rfl,rfl,rfl,rfl,fun i p h=>by simp at h⟩
 | snoc h hd hw ih=>
  rename_i K s s' P G x y z a g x1 y1 z1 p
  obtain⟨sd,PA,GA,X,Y,Z,q1,q2,q3,q4,q5,q6,q7,q8,q9,q10⟩:=ih
  have ln:(K++[p]).length=K.length+1:=by simp
  have z0:0≤K.length:=Nat.zero_le _
  have z1':¬ K.length+1≤K.length:=by omega
  refine⟨fun i=>if i≤K.length then sd i else s',fun i=>if i≤K.length then PA i else P+a,fun i=>if i≤K.length then GA i else G+g,fun i=>if i<K.length then X i else x1,fun i=>if i<K.length then Y i else y1,fun i=>if i<K.length then Z i else z1,
   by simp only[if_pos z0]; exact q1,by simp only[ln,if_neg z1'],by simp only[if_pos z0]; exact q3,by simp only[if_pos z0]; exact q4,by simp only[ln,if_neg z1'],by simp only[ln,if_neg z1'],by rw[ln,psum_snoc,q7],by rw[ln,psum_snoc,q8],by rw[ln,psum_snoc,q9],fun i q hq=>?_⟩
  by_cases c1:i<K.length
  ·rw[List.getElem?_append_left c1] at hq
   have c2:i≤K.length:=by omega
   have c3:i+1≤K.length:=by omega
   simp only[if_pos c1,if_pos c2,if_pos c3]
   exact q10 i q hq
  ·have hi:=(List.getElem?_eq_some_iff.mp hq).1
   have:i=K.length:=by omega
   subst this
   rw[List.getElem?_append_right (Nat.le_refl _),Nat.sub_self] at hq
   cases (Option.some.inj hq)
   simp only[if_neg (Nat.lt_irrefl K.length),if_pos (Nat.le_refl K.length),if_neg z1']
   rw[q2,q5,q6,show P+a-P=a by omega,show G+g-G=g by omega]
   exact⟨hd,hw⟩
theorem Kr.row(h:Kr o c pl s0 K s P G x y z){q:Nat}{fz:Bool}{S:Sto}(hq:S[q]?=some ⟨fz,K.map ddOf⟩):fnR o [c,s0,.lst q] S=.ok (.tup [s,.int P,.int G]) S:=by
 obtain⟨sd,PA,GA,X,Y,Z,q1,q2,q3,q4,q5,q6,q7,q8,q9,q10⟩:=h.seq
 have r:=row_ok (c:=c) (sd:=sd) (PA:=PA) (GA:=GA) hq (fun i d hd S=>by
  obtain⟨p,hp,rfl⟩:=map_at hd
  exact(q10 i p hp).1 S) q3 q4
 rw[List.length_map,q1,q2,q5,q6] at r
 exact r
theorem Kr.water(h:Kr false c pl s0 K s P G x y z){q:Nat}{fz:Bool}{S:Sto}(hq:S[q]?=some ⟨fz,K.map ddOf⟩)(hc:DL.getD c (.int 0) S=.ok pl S):f_water [c,s0,.lst q] S=.ok (.tup [.int x,.int y,.int z]) S:=by
 have r:f_row_done [c,s0,.lst q] S=.ok (.tup [s,.int P,.int G]) S:=h.row hq
 obtain⟨sd,PA,GA,X,Y,Z,q1,q2,q3,q4,q5,q6,q7,q8,q9,q10⟩:=h.seq
 have t:=water_ok2 (X:=X) (Y:=Y) (Z:=Z) hq r hc (fun i d hd=>by
  obtain⟨p,hp,rfl⟩:=map_at hd
  exact⟨_,_,rfl,(q10 i p hp).2⟩)
 rw[List.length_map,q7,q8,q9] at t
 exact t
end
def wR(M:List Int):List Int:=M.set 0 1
def wF(M:List Int):List Int:=M.set (M.length-1) 1
def we(M:List Int):List Int:=(M.set 0 0).set (M.length-1) 0
def tl1(M:List Int):List Int:=M.drop 1
def ini(M:List Int):List Int:=M.take (M.length-1)
def mdl(M:List Int):List Int:=(M.drop 1).take (M.length-2)
theorem sIx_m1{n d:Nat}:HT.sIx n d (some (-1))=n-1:=by
 simp only[HT.sIx]
 rw[if_pos (by decide)]
 omega
theorem sIx_1{n d:Nat}(h:1≤n):HT.sIx n d (some 1)=1:=by
 have:=HT.sIx_nat n d 1
 rw[show((1:Nat):Int)=1 from rfl] at this
 rw[this]
 omega
section
variable{M:List Int}{S:Sto}
theorem sl_R(h:2≤M.length):slD2 (.tup (M.map D.int)) (some 1) none S=.ok (.tup ((tl1 M).map D.int)) S:=by
 show(if HT.sIx (M.map D.int).length 0 (some 1)=0∧HT.sIx (M.map D.int).length (M.map D.int).length none=(M.map D.int).length then Out.ok (D.tup (M.map D.int)) S else .ok (.tup (DL.cutD (M.map D.int) (some 1) none)) S)=_
 have e1:HT.sIx (M.map D.int).length 0 (some 1)=1:=sIx_1 (by rw[List.length_map]; omega)
 rw[if_neg (by rw[e1]; omega)]
 unfold DL.cutD
 unfold tl1
 rw[e1,HT.sIx_none,List.map_drop,List.take_of_length_le (by simp)]
theorem sl_F(h:2≤M.length):slD2 (.tup (M.map D.int)) none (some (-1)) S=.ok (.tup ((ini M).map D.int)) S:=by
 show(if HT.sIx (M.map D.int).length 0 none=0∧HT.sIx (M.map D.int).length (M.map D.int).length (some (-1))=(M.map D.int).length then Out.ok (D.tup (M.map D.int)) S else .ok (.tup (DL.cutD (M.map D.int) none (some (-1)))) S)=_
 rw[if_neg (by rw[sIx_m1,List.length_map]; omega)]
 unfold DL.cutD
 unfold ini
 rw[sIx_m1,HT.sIx_none,List.map_take,List.length_map]
 rfl
theorem sl_E(h:2≤M.length):slD2 (.tup (M.map D.int)) (some 1) (some (-1)) S=.ok (.tup ((mdl M).map D.int)) S:=by
 show(if HT.sIx (M.map D.int).length 0 (some 1)=0∧HT.sIx (M.map D.int).length (M.map D.int).length (some (-1))=(M.map D.int).length then Out.ok (D.tup (M.map D.int)) S else .ok (.tup (DL.cutD (M.map D.int) (some 1) (some (-1)))) S)=_
 have e1:HT.sIx (M.map D.int).length 0 (some 1)=1:=sIx_1 (by rw[List.length_map]; omega)
 rw[if_neg (by rw[e1]; omega)]
 unfold DL.cutD
 unfold mdl
 rw[e1,sIx_m1,List.map_take,List.map_drop,List.length_map]
 rfl
theorem wR_eq(h:2≤M.length):wR M=1::tl1 M:=by
 cases M with
 | nil=>simp at h
 | cons m M=>rfl
theorem wF_eq(h:2≤M.length):wF M=ini M++[1]:=by
 unfold wF ini
 rw[List.set_eq_take_append_cons_drop,if_pos (by omega),List.drop_of_length_le (by omega)]
theorem we_eq(h:2≤M.length):we M=0::mdl M++[0]:=by
 cases M with
 | nil=>simp at h
 | cons m M=>
  have h:1≤M.length:=by simpa using h
  unfold we
  rw[List.set_cons_zero,List.length_cons,Nat.add_sub_cancel]
  obtain⟨n,hn⟩:∃ n,M.length=n+1:=⟨M.length-1,by omega⟩
  rw[hn,List.set_cons_succ,List.set_eq_take_append_cons_drop,if_pos (by omega),List.drop_of_length_le (by omega)]
  have e:mdl (m::M)=M.take n:=by
   unfold mdl
   rw[List.length_cons,hn]
   rfl
  rw[e]
  rfl
theorem ad_R(h:2≤M.length)(hl:M.length≤1000):addD (.tup [.int 1]) (.tup ((tl1 M).map D.int)) S=.ok (.tup ((wR M).map D.int)) S:=by
 rw[add_tt (by simp[tl1]; omega),wR_eq h]
 rfl
theorem ad_F(h:2≤M.length)(hl:M.length≤1000):addD (.tup ((ini M).map D.int)) (.tup [.int 1]) S=.ok (.tup ((wF M).map D.int)) S:=by
 rw[add_tt (by simp[ini]; omega),wF_eq h,List.map_append]
 rfl
theorem ad_E1(hl:M.length≤1000):addD (.tup [.int 0]) (.tup ((mdl M).map D.int)) S=.ok (.tup ((0::mdl M).map D.int)) S:=by
 rw[add_tt (by simp[mdl]; omega)]
 rfl
theorem ad_E2(h:2≤M.length)(hl:M.length≤1000):addD (.tup ((0::mdl M).map D.int)) (.tup [.int 0]) S=.ok (.tup ((we M).map D.int)) S:=by
 rw[add_tt (by simp[mdl]; omega),we_eq h,List.map_append]
 rfl
end
section
variable{L R F A B C:List Int}{c dd:D}{a g:Int}{S:Sto}
theorem ww_st(h1:2≤R.length∧R.length≤1000)(h2:2≤F.length∧F.length≤1000):f_with_waiting [stD L R F] S=.ok (stD L (wR R) (wF F)) S:=by
 refine(fnB_ap (m:=4) (b:=b_with_waiting)).trans ?_
 show fin (b_with_waiting [some (stD L R F),none,none,none] S)=_
 unfold b_with_waiting
 refine(fin_nx (ρ':=[some (stD L R F),some (.tup (L.map D.int)),some (.tup (R.map D.int)),some (.tup (F.map D.int))]) (S':=S) rfl).trans ?_
 simp[sl_R h1.1,sl_F h2.1,ad_R h1.1 h1.2,ad_F h2.1 h2.2]
 rfl
theorem wo_st(h1:2≤B.length∧B.length≤1000)(h2:2≤C.length∧C.length≤1000):f_without_ends [stD A B C] S=.ok (stD A (we B) (we C)) S:=by
 refine(fnB_ap (m:=4) (b:=b_without_ends)).trans ?_
 show fin (b_without_ends [some (stD A B C),none,none,none] S)=_
 unfold b_without_ends
 refine(fin_nx (ρ':=[some (stD A B C),some (.tup (A.map D.int)),some (.tup (B.map D.int)),some (.tup (C.map D.int))]) (S':=S) rfl).trans ?_
 have e1:=ad_E1 (M:=B) (S:=S) h1.2
 have e2:=ad_E2 (M:=B) (S:=S) h1.1 h1.2
 have e3:=ad_E1 (M:=C) (S:=S) h2.2
 have e4:=ad_E2 (M:=C) (S:=S) h2.1 h2.2
 simp only[List.map_cons] at e1 e2 e3 e4
 simp[sl_E h1.1,sl_E h2.1,e1,e2,e3,e4]
 rfl
theorem od_yes(h1:2≤R.length∧R.length≤1000)(h2:2≤F.length∧F.length≤1000)(h3:2≤B.length∧B.length≤1000)(h4:2≤C.length∧C.length≤1000)(h:f_deed_done [c,stD L (wR R) (wF F),dd] S=.ok (.tup [stD A B C,.int a,.int g]) S):f_open_done [c,stD L R F,dd] S=.ok (.tup [stD A (we B) (we C),.int a,.int g]) S:=by
 have w:=ww_st (L:=L) (S:=S) h1 h2
 have w2:=wo_st (A:=A) (S:=S) h3 h4
 have gx:=gX_ok h
 refine(fnB_ap (m:=6) (b:=b_open_done)).trans ?_
 show fin (b_open_done [some c,some (stD L R F),some dd,none,none,none] S)=_
 unfold b_open_done
 refine(fin_nx (ρ':=[some c,some (stD L R F),some dd,some (stD A B C),some (.int a),some (.int g)]) (S':=S) (by
  have:cl 3 (gX ys f_deed_done) (ac (vr 0) (ac (cl 1 (noExc f_with_waiting) (ac (vr 1) an)) (ac (vr 2) an))) [some c,some (stD L R F),some dd,none,none,none] S=.ok (.tup [stD A B C,.int a,.int g]) S:=by simp[w,gx]
  rw[sa_ap,this,bindS_ok]
  rfl)).trans ?_
 simp[w2]
end
section
variable{ps:List Pl}{us:List Bool}{row:List (Wd×Nat)}{sL sR sF:Nat→List Int}{PA GA X Y Z:Nat→Int}
structure Wt3(ps:List Pl)(us:List Bool)(row:List (Wd×Nat))(sL:Nat→List Int)(X Y Z:Nat→Int):Prop where
 wc:∀ i p,row[i]?=some p→Wc (cD ps us) (.tup (ps.map Pl.toD)) p.1.toD (.int p.2) (X i) (Y i) (Z i)
 sm:∀ i p,row[i]?=some p→(sL (i+1)).sum=(sL i).sum+X i+Y i-Z i
 lw:∀ i p,row[i]?=some p→Lw (cD ps us) p (X i) (Y i) (Z i)
 bd:∀ i p,row[i]?=some p→(0≤X i∧X i≤1)∧(0≤Y i∧Y i≤1)∧0≤Z i∧Z i≤1
theorem run_w(run:Run ps us row sL sR sF PA GA):∃ X Y Z,Wt3 ps us row sL X Y Z:=by
 have ch:∀ i:Nat,∃ v:Int×Int×Int,∀ p:Wd×Nat,row[i]?=some p→Wc (cD ps us) (.tup (ps.map Pl.toD)) p.1.toD (.int p.2) v.1 v.2.1 v.2.2∧(sL (i+1)).sum=(sL i).sum+v.1+v.2.1-v.2.2∧Lw (cD ps us) p v.1 v.2.1 v.2.2∧(0≤v.1∧v.1≤1)∧(0≤v.2.1∧v.2.1≤1)∧0≤v.2.2∧v.2.2≤1:=fun i=>by
  cases hk:row[i]? with
  | none=>exact⟨(0,0,0),fun p h=>by cases h⟩
  | some p=>
   obtain⟨x,y,z,h⟩:=(run.dd i p hk).wc
   exact⟨(x,y,z),fun p' h'=>by cases h'; exact h⟩
 obtain⟨W,hW⟩:=Classical.axiomOfChoice ch
 exact⟨fun i=>(W i).1,fun i=>(W i).2.1,fun i=>(W i).2.2,fun i p h=>(hW i p h).1,fun i p h=>(hW i p h).2.1,fun i p h=>(hW i p h).2.2.1,fun i p h=>(hW i p h).2.2.2⟩
theorem run_k(run:Run ps us row sL sR sF PA GA)(w:Wt3 ps us row sL X Y Z):∀ i,i≤row.length→Kr false (cD ps us) (.tup (ps.map Pl.toD)) (stD (sL 0) (sR 0) (sF 0)) (row.take i) (stD (sL i) (sR i) (sF i)) (PA i) (GA i) (psum X i) (psum Y i) (psum Z i)∧(sL i).sum=(sL 0).sum+psum X i+psum Y i-psum Z i∧
  ((0≤psum X i∧psum X i≤i)∧(0≤psum Y i∧psum Y i≤i)∧0≤psum Z i∧psum Z i≤i)
 | 0,_=>by
  rw[run.p0,run.g0]
  exact⟨.nil,by simp[psum],by simp[psum]⟩
 | i+1,hi=>by
  obtain⟨k1,s1,b1⟩:=run_k run w i (by omega)
  have ep:=List.getElem?_eq_getElem (l:=row) (i:=i) (by omega)
  generalize row[i]=p at ep
  have k1':=k1.snoc (run.dd i p ep).did (w.wc i p ep)
  rw[show PA i+(PA (i+1)-PA i)=PA (i+1) by omega,show GA i+(GA (i+1)-GA i)=GA (i+1) by omega,←(show row.take (i+1)=row.take i++[p] by rw[List.take_add_one,ep]; rfl)] at k1'
  have sm:=w.sm i p ep
  have bd:=w.bd i p ep
  refine⟨k1',?_,?_⟩
  ·rw[sm,s1]
   show _=_+(psum X i+X i)+(psum Y i+Y i)-(psum Z i+Z i)
   omega
  ·show(0≤psum X i+X i∧psum X i+X i≤((i+1:Nat):Int))∧(0≤psum Y i+Y i∧psum Y i+Y i≤((i+1:Nat):Int))∧0≤psum Z i+Z i∧psum Z i+Z i≤((i+1:Nat):Int)
   omega
theorem count_ok{x0 x1 x3 x10:Option D}{qr:Nat}{S:Sto}(w:Wt3 ps us row sL X Y Z)(hq:S[qr]?=some ⟨false,row.map ddOf⟩):
  ∃ y8 y9 y10 S',sfor (isrc (vr 4)) (gt (gcons (gn 8) (gcons (gn 9) gnil)) 2) lb_law_1 [x0,x1,some (cD ps us),x3,some (.lst qr),some (.int 0),some (.int 0),some (.int 0),none,none,x10,none,none,none,none,none,none,none] S
   = .nx [x0,x1,some (cD ps us),x3,some (.lst qr),some (.int (psum X row.length)),some (.int (psum Y row.length)),some (.int (psum Z row.length)),y8,y9,y10,none,none,none,none,none,none,none] S'∧Ex S S':=by
 obtain⟨ρ',S',lp,y8,y9,y10,eρ,x⟩:=for_inv (nxt:=(srcL qr (row.map ddOf).length).nxt) (g:=gt (gcons (gn 8) (gcons (gn 9) gnil)) 2) (b:=lb_law_1) (l:=row.map ddOf)
  (fun i ρ S'=>∃ y8 y9 y10,ρ=[x0,x1,some (cD ps us),x3,some (.lst qr),some (.int (psum X i)),some (.int (psum Y i)),some (.int (psum Z i)),y8,y9,y10,none,none,none,none,none,none,none]∧Ex S S')
  (fun i ρ S' ⟨_,_,_,_,x⟩=>by
   show(S'[qr]?).bind (fun c=>c.xs[i]?)=_
   rw[x.at hq]; rfl)
  (fun i d ρ S' hd ⟨y8,y9,y10,h1,h2⟩=>by
   subst h1
   obtain⟨p,hp,rfl⟩:=map_at hd
   obtain⟨z10,S'',c1,c2⟩:=w.lw i p hp x0 x1 x3 (some (.lst qr)) y10 (psum X i) (psum Y i) (psum Z i) S'
   exact⟨_,_,S'',rfl,c1,_,_,_,rfl,h2.trans c2⟩) ((row.map ddOf).length+1) 0 _ S (Nat.zero_le _) ⟨none,none,x10,rfl,.refl⟩ (Nat.lt_succ_self _)
 subst eρ
 rw[List.length_map] at lp
 refine⟨y8,y9,y10,S',?_,x⟩
 rw[sfor_ap,isrc_ap]
 have:vr 4 [x0,x1,some (cD ps us),x3,some (.lst qr),some (.int 0),some (.int 0),some (.int 0),none,none,x10,none,none,none,none,none,none,none] S=.ok (.lst qr) S:=by simp
 rw[this,bind_ok,src_l hq,bindS_ok,List.length_map]
 exact lp
end
def psL:List Pl:=[.e,.c,.p 2 0 1 (.int 7),.c,.e]
def usL:List Bool:=[true,true,false,false]
def Zr:List Int:=[0,0,0,0,0]
abbrev plL:D:=.tup (psL.map Pl.toD)
theorem lg{o:Bool}{L A:List Int}{p:Wd×Nat}{a:Int}(h:∀ (R F:List Int) (S:Sto),f_deed_done [cD psL usL,stD L R F,ddOf p] S=.ok (.tup [stD A R F,.int a,.int 0]) S)(S:Sto):fnO o [cD psL usL,stD L Zr Zr,ddOf p] S=.ok (.tup [stD A Zr Zr,.int a,.int 0]) S:=by
 cases o
 ·exact h Zr Zr S
 ·exact od_yes (A:=A) (B:=wR Zr) (C:=wF Zr) (by decide) (by decide) (by decide) (by decide) (h (wR Zr) (wF Zr) S)
theorem okP7:Pl.ok (.p 2 0 1 (.int 7)):=by
 refine⟨by decide,by decide,by decide,by decide,by decide,by decide,.inr ⟨7,rfl,by decide,by decide⟩⟩
section
variable{R F:List Int}{S:Sto}
theorem lf2:f_deed_done [cD psL usL,stD [0,0,0,0,0] R F,ddOf (.f,2)] S=.ok (.tup [stD [0,0,1,0,0] R F,.int 7,.int 0]) S:=(dd_feed (k:=2) (p:=.p 2 0 1 (.int 7)) (l:=0) rfl rfl okP7 (by decide)).trans rfl
theorem ll2:f_deed_done [cD psL usL,stD [0,0,1,0,0] R F,ddOf (.l,2)] S=.ok (.tup [stD [0,0,0,1,0] R F,.int 0,.int 0]) S:=(dd_let (u:=false) (pH:=.p 2 0 1 (.int 7)) (pL:=.c) (lH:=1) (lL:=0) rfl rfl rfl rfl rfl okP7 trivial (by decide)).trans rfl
theorem ll3:f_deed_done [cD psL usL,stD [0,0,0,1,0] R F,ddOf (.l,3)] S=.ok (.tup [stD [0,0,0,0,0] R F,.int 0,.int 0]) S:=(dd_let (u:=false) (pH:=.c) (pL:=.e) (lH:=1) (lL:=0) rfl rfl rfl rfl rfl trivial trivial (by decide)).trans rfl
theorem ll1:f_deed_done [cD psL usL,stD [0,0,1,0,0] R F,ddOf (.l,1)] S=.ok (.tup [stD [0,1,0,0,0] R F,.int 0,.int 0]) S:=(dd_let (u:=true) (pH:=.p 2 0 1 (.int 7)) (pL:=.c) (lH:=1) (lL:=0) rfl rfl rfl rfl rfl okP7 trivial (by decide)).trans rfl
theorem ll0:f_deed_done [cD psL usL,stD [0,1,0,0,0] R F,ddOf (.l,0)] S=.ok (.tup [stD [0,0,0,0,0] R F,.int 0,.int 0]) S:=(dd_let (u:=true) (pH:=.c) (pL:=.e) (lH:=1) (lL:=0) rfl rfl rfl rfl rfl trivial trivial (by decide)).trans rfl
end
theorem wl2:Wc (cD psL usL) plL (.str "let") (.int (2:Nat)) 0 0 0:=wc_let (k:=2) (u:=false) (pH:=.p 2 0 1 (.int 7)) (pL:=.c) rfl rfl rfl okP7 trivial
theorem wl3:Wc (cD psL usL) plL (.str "let") (.int (3:Nat)) 0 0 1:=wc_let (k:=3) (u:=false) (pH:=.c) (pL:=.e) rfl rfl rfl trivial trivial
theorem wl1:Wc (cD psL usL) plL (.str "let") (.int (1:Nat)) 0 0 0:=wc_let (k:=1) (u:=true) (pH:=.p 2 0 1 (.int 7)) (pL:=.c) rfl rfl rfl okP7 trivial
theorem wl0:Wc (cD psL usL) plL (.str "let") (.int (0:Nat)) 0 0 1:=wc_let (k:=0) (u:=true) (pH:=.c) (pL:=.e) rfl rfl rfl trivial trivial
def Tri:List (Wd×Nat):=[(.f,2),(.l,2),(.l,3)]
def Lst:List (Wd×Nat):=[(.f,2),(.l,1),(.l,0)]
def RwN(n:Nat):List (Wd×Nat):=(List.replicate n Tri).flatten++Lst
theorem krT{o:Bool}:∀ n:Nat,Kr o (cD psL usL) plL (stD Zr Zr Zr) (List.replicate n Tri).flatten (stD Zr Zr Zr) (7*n) 0 0 n n
 | 0=>.nil
 | n+1=>by
  have h:=(((krT (o:=o) n).snoc (p:=(.f,2)) (lg fun R F S=>lf2) wc_feed).snoc (p:=(.l,2)) (lg fun R F S=>ll2) wl2).snoc (p:=(.l,3)) (lg fun R F S=>ll3) wl3
  have e:(List.replicate (n+1) Tri).flatten=(((List.replicate n Tri).flatten++[(Wd.f,2)])++[(Wd.l,2)])++[(Wd.l,3)]:=by simp[List.replicate_succ',Tri]
  rw[e]
  have e1:(7*((n+1:Nat):Int))=7*(n:Int)+7+0+0:=by omega
  have e2:(((n+1:Nat):Int))=(n:Int)+1+0+0:=by omega
  have e3:(((n+1:Nat):Int))=(n:Int)+0+0+1:=by omega
  have h:Kr o (cD psL usL) plL (stD Zr Zr Zr) ((((List.replicate n Tri).flatten++[(Wd.f,2)])++[(Wd.l,2)])++[(Wd.l,3)]) (stD Zr Zr Zr) (7*(n:Int)+7+0+0) (0+0+0+0) (0+0+0+0) ((n:Int)+1+0+0) ((n:Int)+0+0+1):=h
  rw[e1]
  conv=>arg 10; rw[e2]
  conv=>arg 11; rw[e3]
  exact h
theorem krN{o:Bool}(n:Nat):Kr o (cD psL usL) plL (stD Zr Zr Zr) (RwN n) (stD Zr Zr Zr) (7*(n:Int)+7) 0 0 ((n:Int)+1) ((n:Int)+1):=by
 have h:=(((krT (o:=o) n).snoc (p:=(.f,2)) (lg fun R F S=>lf2) wc_feed).snoc (p:=(.l,1)) (lg fun R F S=>ll1) wl1).snoc (p:=(.l,0)) (lg fun R F S=>ll0) wl0
 have e:RwN n=(((List.replicate n Tri).flatten++[(Wd.f,2)])++[(Wd.l,1)])++[(Wd.l,0)]:=by simp[RwN,Lst]
 rw[e]
 have h:Kr o (cD psL usL) plL (stD Zr Zr Zr) ((((List.replicate n Tri).flatten++[(Wd.f,2)])++[(Wd.l,1)])++[(Wd.l,0)]) (stD Zr Zr Zr) (7*(n:Int)+7+0+0) (0+0+0+0) (0+0+0+0) ((n:Int)+1+0+0) ((n:Int)+0+0+1):=h
 simpa using h
end Law
set_option Elab.async false
set_option linter.all false
set_option maxRecDepth 100000
namespace Law
open PySem PySem.Spec PyProof.Rows L2 DL
def LONG:Sv:=(sq (sa (tp (ac (tp (ac (cn (.str "end")) an)) (ac (tp (ac (cn (.str "chamber")) an)) (ac (tp (ac (cn (.str "pound")) (ac (cn (.int 2)) (ac (cn (.int 0)) (ac (cn (.int 1)) (ac (cn (.int 7)) an)))))) (ac (tp (ac (cn (.str "chamber")) an)) (ac (tp (ac (cn (.str "end")) an)) an)))))) (gn 13))
  (sq (sa (o2 mulD (tp (ac (o2 mulD (tp (ac (cn (.int 0)) an)) (cn (.int 5))) an)) (cn (.int 3))) (gn 14))
  (sq (sa (o2 addD (cn (.int 300)) (cl 2 (noExc f__law_draw) (ac (vr 1) (ac (cn (.int 1100)) an)))) (gn 15))
  (sq (sa (o2 addD (o2 mulD (ls (ac (tp (ac (cn (.str "feed")) (ac (cn (.int 2)) an))) (ac (tp (ac (cn (.str "let")) (ac (cn (.int 2)) an))) (ac (tp (ac (cn (.str "let")) (ac (cn (.int 3)) an))) an)))) (vr 15)) (ls (ac (tp (ac (cn (.str "feed")) (ac (cn (.int 2)) an))) (ac (tp (ac (cn (.str "let")) (ac (cn (.int 1)) an))) (ac (tp (ac (cn (.str "let")) (ac (cn (.int 0)) an))) an))))) (gn 16))
  (sq (sa (cl 3 (gX ys f_water) (ac (tp (ac (vr 13) (ac (tp (ac (cn (.str "up")) (ac (cn (.str "up")) (ac (cn (.str "down")) (ac (cn (.str "down")) an))))) an))) (ac (vr 14) (ac (vr 16) an)))) (gn 11))
  (sq (sif (tb (o2 neD (b1 reprD (ac (vr 11) an)) (b1 reprD (ac (tp (ac (cn (.int 0)) (ac (o2 addD (vr 15) (cn (.int 1))) (ac (o2 addD (vr 15) (cn (.int 1))) an)))) an))))
  (sret (cn (.bl false)))
  skip)
  (sq (sa (b1 reprD (ac (tp (ac (vr 14) (ac (o2 addD (o2 mulD (cn (.int 7)) (vr 15)) (cn (.int 7))) (ac (cn (.int 0)) an)))) an)) (gn 17))
  (sq (sa (tp (ac (vr 13) (ac (tp (ac (cn (.str "up")) (ac (cn (.str "up")) (ac (cn (.str "down")) (ac (cn (.str "down")) an))))) an))) (gn 2))
  (sq (sif (tb (o2 neD (b1 reprD (ac (cl 3 (gX ys f_row_done) (ac (vr 2) (ac (vr 14) (ac (vr 16) an)))) an)) (vr 17)))
  (sret (cn (.bl false)))
  skip)
  (sret (o2 eqD (b1 reprD (ac (cl 3 (gX ys f_open_row) (ac (vr 2) (ac (vr 14) (ac (vr 16) an)))) an)) (vr 17))))))))))))
theorem ends_plc{mid:List Pl}(hm:∀ p∈mid,p.ok∧p.isE=false)(h1:1≤mid.length):EndsOk (plc mid):=by
 have lm:(plc mid).length=mid.length+2:=plc_len
 refine⟨by omega,fun i p hp=>?_⟩
 rcases plc_at hp with⟨rfl,rfl⟩ | ⟨rfl,rfl⟩ | ⟨a,b,c⟩
 ·exact⟨fun _=>.inl rfl,fun _=>rfl⟩
 ·exact⟨fun _=>.inr (by omega),fun _=>rfl⟩
 ·rw[(hm p c).2]
  exact⟨fun z=>(nomatch z),fun z=>by omega⟩
theorem sho_tri{S:Sto}{a b c:Int}(h1:a.natAbs<10^60)(h2:b.natAbs<10^60)(h3:c.natAbs<10^60):Sho S (.tup [.int a,.int b,.int c]) 192 1:=sho_tup (S:=S) (l:=[.int a,.int b,.int c]) (b:=61) (e:=0) fun d hd=>by
 simp only[List.mem_cons,List.mem_nil_iff,or_false] at hd
 rcases hd with rfl | rfl | rfl
 ·exact sho_int h1
 ·exact sho_int h2
 ·exact sho_int h3
abbrev rz(q t:Nat)(x2 x3 x4 x5 x6 x7 x8 x9 x10 x11 x12 x13 x14 x15 x16 x17:Option D):Lc:=[some (.lst q),some (.lst t),x2,x3,x4,x5,x6,x7,x8,x9,x10,x11,x12,x13,x14,x15,x16,x17]
theorem more_row{ρ:Lc}{S:Sto}{m:Nat}(h15:ρ[15]?=some (some (.int m)))(hm:m≤2000):∃ q S',o2 addD (o2 mulD (ls (ac (tp (ac (cn (.str "feed")) (ac (cn (.int 2)) an))) (ac (tp (ac (cn (.str "let")) (ac (cn (.int 2)) an))) (ac (tp (ac (cn (.str "let")) (ac (cn (.int 3)) an))) an)))) (vr 15)) (ls (ac (tp (ac (cn (.str "feed")) (ac (cn (.int 2)) an))) (ac (tp (ac (cn (.str "let")) (ac (cn (.int 1)) an))) (ac (tp (ac (cn (.str "let")) (ac (cn (.int 0)) an))) an)))) ρ S=.ok (.lst q) S'∧S'[q]?=some ⟨false,(RwN m).map ddOf⟩:=by
 have e1:ls (ac (tp (ac (cn (.str "feed")) (ac (cn (.int 2)) an))) (ac (tp (ac (cn (.str "let")) (ac (cn (.int 2)) an))) (ac (tp (ac (cn (.str "let")) (ac (cn (.int 3)) an))) an))) ρ S=.ok (.lst S.length) (S++[⟨false,Tri.map ddOf⟩]):=by
  simp only[ls_ap,ac_ap,an_ap,cn_ap,tp_ap,bind_ok,List.length_cons,List.length_nil]
  rfl
 have q1:(S++[(⟨false,Tri.map ddOf⟩:Cell)])[S.length]?=some ⟨false,Tri.map ddOf⟩:=app_at
 generalize S++[(⟨false,Tri.map ddOf⟩:Cell)]=S1 at e1 q1
 have e3:mulD (.lst S.length) (.int m) S1=.ok (.lst S1.length) (S1++[⟨false,(List.replicate m (Tri.map ddOf)).flatten⟩]):=by
  simp only[mulD,q1]
  rw[if_pos ⟨trivial,by omega,by simp[Tri]; omega⟩]
  rfl
 have ef:(List.replicate m (Tri.map ddOf)).flatten=((List.replicate m Tri).flatten).map ddOf:=by
  rw[List.map_flatten,List.map_replicate]
 rw[ef] at e3
 have lf:((List.replicate m Tri).flatten).length≤6000:=by
  rw[List.length_flatten,List.map_replicate]
  simp[Tri]
  omega
 generalize hX:(List.replicate m Tri).flatten=X at e3 lf
 have q3:(S1++[(⟨false,X.map ddOf⟩:Cell)])[S1.length]?=some ⟨false,X.map ddOf⟩:=app_at
 generalize S1++[(⟨false,X.map ddOf⟩:Cell)]=S2 at e3 q3
 have e2:ls (ac (tp (ac (cn (.str "feed")) (ac (cn (.int 2)) an))) (ac (tp (ac (cn (.str "let")) (ac (cn (.int 1)) an))) (ac (tp (ac (cn (.str "let")) (ac (cn (.int 0)) an))) an))) ρ S2=.ok (.lst S2.length) (S2++[⟨false,Lst.map ddOf⟩]):=by
  simp only[ls_ap,ac_ap,an_ap,cn_ap,tp_ap,bind_ok,List.length_cons,List.length_nil]
  rfl
 have q2:(S2++[(⟨false,Lst.map ddOf⟩:Cell)])[S2.length]?=some ⟨false,Lst.map ddOf⟩:=app_at
 have q2':(S2++[(⟨false,Lst.map ddOf⟩:Cell)])[S1.length]?=some ⟨false,X.map ddOf⟩:=app_old q3
 generalize S2++[(⟨false,Lst.map ddOf⟩:Cell)]=S3 at e2 q2 q2'
 have e4:addD (.lst S1.length) (.lst S2.length) S3=.ok (.lst S3.length) (S3++[⟨false,X.map ddOf++Lst.map ddOf⟩]):=add_ll q2' q2 (by rw[List.length_map,List.length_map]; simp[Lst]; omega)
 have eX:RwN m=X++Lst:=by rw[←hX]; rfl
 refine⟨S3.length,S3++[⟨false,X.map ddOf++Lst.map ddOf⟩],?_,?_⟩
 ·have ev:vr 15 ρ S1=.ok (.int m) S1:=by rw[vr_ap,h15]
  rw[o2_ap,o2_ap,e1,bind_ok,ev,bind_ok,e3,bind_ok,e2,bind_ok,e4]
 ·rw[app_at,eX,List.map_append]
theorem law_ok{S:Sto}{q:Nat}{fz:Bool}{ns:List Int}(e:S[q]?=some ⟨fz,ns.map D.int⟩):∃ S',f_law [.lst q] S=.ok (.bl true) S':=by
 obtain⟨t,k,S1,e1,d1⟩:=tape_ok e
 obtain⟨r,x,S2,ed,eg,hx,d2,_⟩:=pick_ok (xs:=[.int 5,.int 5,.int 5,.int 11]) (m:=4) d1 (by decide) rfl (by decide) (by decide)
 obtain⟨most,rfl,m0,m1⟩:∃ most:Int,x=.int most∧1≤most∧most≤11:=by
  simp only[List.mem_cons,List.mem_nil_iff,or_false] at hx
  rcases hx with rfl | rfl | rfl | rfl<;>exact⟨_,rfl,by decide,by decide⟩
 obtain⟨mid,gs,S3,e3,hm,_,hg,h1,h2,d3,_⟩:=canal_ok (most:=most) d2 (by decide) m0 m1
 obtain⟨us,rfl⟩:=gu_bools hg.2
 have e3:f__law_canal [.lst t,.int most] S2=.ok (cD (plc mid) us) S3:=e3
 have hu:us.length+1=(plc mid).length:=by
  have:=hg.1
  rw[List.length_map] at this
  rw[plc_len]
  omega
 have hl:(plc mid).length≤13:=by rw[plc_len]; omega
 have hp:=plc_ok hm
 have he:=ends_plc hm (by omega)
 generalize plc mid=ps at *
 obtain⟨L,R,F,S4,e4,st,d4,_⟩:=stand_ok (cr:=3) (gd:=.tup (us.map gd)) (ps:=ps) d3 (by decide) hp hl (by decide) (by decide)
 have e4:f__law_stand [.lst t,cD ps us,.int 3] S3=.ok (stD L R F) S4:=e4
 have sf:=stf_of3 hp hl st
 obtain⟨m,S5,e5,r0,r1,d5,_⟩:=draw_ok (m:=25) d4 (by decide) (by decide) (by decide)
 obtain⟨mn,rfl⟩:∃ mn:Nat,m=mn:=⟨m.toNat,by omega⟩
 obtain⟨row,s,S6,e6,wk,ln,q6,d6⟩:=walk_ok (m:=mn) he hp hl hu sf d5 (by decide) (by omega)
 obtain⟨sL,sR,sF,PA,GA,run,rfl,rfl,rfl,_⟩:=wk.ex
 obtain⟨X,Y,Z,w3⟩:=run_w run
 obtain⟨kr,sm,⟨bx0,bx1⟩,⟨by0,by1⟩,bz0,bz1⟩:=run_k run w3 row.length (Nat.le_refl _)
 rw[List.take_length] at kr
 obtain⟨y8,y9,y10,S7,e7,x7⟩:=count_ok (x0:=some (.lst q)) (x1:=some (.lst t)) (x3:=some (stD (sL 0) (sR 0) (sF 0))) (x10:=none) w3 q6
 have q7:=x7.at q6
 generalize psum X row.length=wx at *
 generalize psum Y row.length=wy at *
 generalize psum Z row.length=wz at *
 have el8:listD [.lst S5.length] S7=.ok (.lst S7.length) (S7++[⟨false,row.map ddOf⟩]):=list_l q7
 have q8:(S7++[(⟨false,row.map ddOf⟩:Cell)])[S7.length]?=some ⟨false,row.map ddOf⟩:=app_at
 have x8:Ex S7 (S7++[⟨false,row.map ddOf⟩]):=Ex.app
 generalize S7++[(⟨false,row.map ddOf⟩:Cell)]=S8 at el8 q8 x8
 have wo:=gX_ok (kr.water q8 cd0)
 obtain⟨s1,so1,rp1⟩:=(sho_tri (S:=S8) (a:=wx) (b:=wy) (c:=wz) (big0 (by omega) (by omega)) (big0 (by omega) (by omega)) (big0 (by omega) (by omega))).repr (by decide) (by decide)
 have r8:=rp1 S8 .refl
 have n8:=ne_ss (S:=S8) so1
 have el9:listD [.lst S5.length] S8=.ok (.lst S8.length) (S8++[⟨false,row.map ddOf⟩]):=list_l (x8.at q7)
 have q9:(S8++[(⟨false,row.map ddOf⟩:Cell)])[S8.length]?=some ⟨false,row.map ddOf⟩:=app_at
 have x9:Ex S8 (S8++[⟨false,row.map ddOf⟩]):=Ex.app
 generalize S8++[(⟨false,row.map ddOf⟩:Cell)]=S9 at el9 q9 x9
 have ro:f_row_done [cD ps us,stD (sL 0) (sR 0) (sF 0),.lst S8.length] S9=_:=kr.row q9
 have gro:=gX_ok ro
 have g0:∀ {a b c:D} {S:Sto},DL.getD (.tup [a,b,c]) (.int 0) S=.ok a S:=get_t (atI_nn (by decide) rfl)
 have g1:∀ {a b c:D} {S:Sto},DL.getD (.tup [a,b,c]) (.int 1) S=.ok b S:=get_t (atI_nn (by decide) rfl)
 have g2:∀ {a b c:D} {S:Sto},DL.getD (.tup [a,b,c]) (.int 2) S=.ok c S:=get_t (atI_nn (by decide) rfl)
 have d9:=d6.ext ((x7.trans x8).trans x9)
 obtain⟨g,S10,e10,ga,gb,d10,_⟩:=draw_ok (m:=16) d9 (by omega) (by decide) (by decide)
 have W3:D:=.tup [.int wx,.int wy,.int wz]
 have go:∀ {x:Out D},fin (sq (sif (tb (o2 gtD (cl 2 (noExc f__law_draw) (ac (vr 1) (ac (cn (.int 16)) an))) (cn (.int 0)))) (sret (cn (.bl true))) skip) LONG (rz q t (some (cD ps us)) (some (stD (sL 0) (sR 0) (sF 0))) (some (.lst S5.length)) (some (.int wx)) (some (.int wy)) (some (.int wz)) y8 y9 y10 (some (.tup [.int wx,.int wy,.int wz])) (some (stD (sL row.length) (sR row.length) (sF row.length))) none none none none none) S9)=x→f_law [.lst q] S=x:=fun{x} h=>by
  refine Eq.trans ?_ h
  refine(fnB_ap (m:=18) (b:=b_law)).trans ?_
  show fin (b_law [some (.lst q),none,none,none,none,none,none,none,none,none,none,none,none,none,none,none,none,none] S)=_
  unfold b_law
  refine(fin_nx (ρ':=rz q t none none none none none none none none none none none none none none none none) (S':=S1) (by simp[e1])).trans ?_
  refine(fin_nx (ρ':=rz q t (some (cD ps us)) none none none none none none none none none none none none none none none) (S':=S3) (by simp[ed,eg,e3])).trans ?_
  refine(fin_nx (ρ':=rz q t (some (cD ps us)) (some (stD (sL 0) (sR 0) (sF 0))) none none none none none none none none none none none none none none) (S':=S4) (by simp[e4])).trans ?_
  refine(fin_nx (ρ':=rz q t (some (cD ps us)) (some (stD (sL 0) (sR 0) (sF 0))) (some (.lst S5.length)) none none none none none none none none none none none none none) (S':=S6) (by simp[e5,e6])).trans ?_
  refine(fin_nx (ρ':=rz q t (some (cD ps us)) (some (stD (sL 0) (sR 0) (sF 0))) (some (.lst S5.length)) (some (.int 0)) none none none none none none none none none none none none) (S':=S6) (by simp)).trans ?_
  refine(fin_nx (ρ':=rz q t (some (cD ps us)) (some (stD (sL 0) (sR 0) (sF 0))) (some (.lst S5.length)) (some (.int 0)) (some (.int 0)) none none none none none none none none none none none) (S':=S6) (by simp)).trans ?_
  refine(fin_nx (ρ':=rz q t (some (cD ps us)) (some (stD (sL 0) (sR 0) (sF 0))) (some (.lst S5.length)) (some (.int 0)) (some (.int 0)) (some (.int 0)) none none none none none none none none none none) (S':=S6) (by simp)).trans ?_
  refine(fin_nx e7).trans ?_
  refine(fin_nx (ρ':=rz q t (some (cD ps us)) (some (stD (sL 0) (sR 0) (sF 0))) (some (.lst S5.length)) (some (.int wx)) (some (.int wy)) (some (.int wz)) y8 y9 y10 (some (.tup [.int wx,.int wy,.int wz])) none none none none none none) (S':=S8) (by simp[el8,wo])).trans ?_
  refine(fin_nx (ρ':=rz q t (some (cD ps us)) (some (stD (sL 0) (sR 0) (sF 0))) (some (.lst S5.length)) (some (.int wx)) (some (.int wy)) (some (.int wz)) y8 y9 y10 (some (.tup [.int wx,.int wy,.int wz])) none none none none none none) (S':=S8) (by
   rw[sif_f (S1:=S8) (by simp[r8,n8])]
   rfl)).trans ?_
  refine(fin_nx (ρ':=rz q t (some (cD ps us)) (some (stD (sL 0) (sR 0) (sF 0))) (some (.lst S5.length)) (some (.int wx)) (some (.int wy)) (some (.int wz)) y8 y9 y10 (some (.tup [.int wx,.int wy,.int wz])) (some (stD (sL row.length) (sR row.length) (sF row.length))) none none none none none) (S':=S9) (by simp[el9,gro,g0])).trans ?_
  refine fin_nx (by
   rw[sif_f (S1:=S9) (by simp[st0,g0,g1,g2,sm])]
   rfl)
 by_cases c:0<g
 ·refine⟨S10,go (fin_ret ?_)⟩
  rw[sif_t (S1:=S10) (by simp[e10,c])]
  rfl
 ·obtain⟨mm,S11,e11,ma,mb,d11,_⟩:=draw_ok (m:=1100) d10 (by omega) (by decide) (by decide)
  obtain⟨mk,rfl⟩:∃ mk:Nat,mm=mk:=⟨mm.toNat,by omega⟩
  have em:(300:Int)+(mk:Int)=((300+mk:Nat):Int):=by omega
  generalize hmm:300+mk=M at em
  have hM:M≤2000:=by omega
  obtain⟨qm,S12,e12,q12⟩:=more_row (ρ:=rz q t (some (cD ps us)) (some (stD (sL 0) (sR 0) (sF 0))) (some (.lst S5.length)) (some (.int wx)) (some (.int wy)) (some (.int wz)) y8 y9 y10 (some (.tup [.int wx,.int wy,.int wz])) (some (stD (sL row.length) (sR row.length) (sF row.length))) (some plL) (some (stD Zr Zr Zr)) (some (.int M)) none none) (S:=S11) rfl hM
  have wL:=gX_ok ((krN (o:=false) M).water q12 cd0)
  have rL:f_row_done [cD psL usL,stD Zr Zr Zr,.lst qm] S12=_:=(krN (o:=false) M).row q12
  have oL:f_open_row [cD psL usL,stD Zr Zr Zr,.lst qm] S12=_:=(krN (o:=true) M).row q12
  have grL:=gX_ok rL
  have goL:=gX_ok oL
  obtain⟨s2,so2,rp2⟩:=(sho_tri (S:=S12) (a:=0) (b:=(M:Int)+1) (c:=(M:Int)+1) (by decide) (Nat.lt_of_le_of_lt (show _≤3000 by omega) (by decide)) (Nat.lt_of_le_of_lt (show _≤3000 by omega) (by decide))).repr (by decide) (by decide)
  have r12:=rp2 S12 .refl
  have n12:=ne_ss (S:=S12) so2
  have smz:Sm Zr:=⟨by decide,fun i hi=>by
   simp only[Zr,List.mem_cons,List.mem_nil_iff,or_false] at hi
   rcases hi with rfl | rfl | rfl | rfl | rfl<;>decide⟩
  obtain⟨s3,so3,rp3⟩:=(sho_res (S:=S12) (a:=7*(M:Int)+7) (b:=0) smz smz smz (Nat.lt_of_le_of_lt (show _≤30000 by omega) (by decide)) (by decide)).repr (by decide) (by decide)
  have r13:=rp3 S12 .refl
  have n13:=ne_ss (S:=S12) so3
  have eq13:eqD (.str s3) (.str s3) S12=.ok (.bl true) S12:=by
   simp only[eqD,toP]
   simp[SeqAt.shaped,PyData.eqv,PyData.canLay0,PyData.depth,so3]
  refine⟨S12,go ?_⟩
  refine(fin_nx (ρ':=rz q t (some (cD ps us)) (some (stD (sL 0) (sR 0) (sF 0))) (some (.lst S5.length)) (some (.int wx)) (some (.int wy)) (some (.int wz)) y8 y9 y10 (some (.tup [.int wx,.int wy,.int wz])) (some (stD (sL row.length) (sR row.length) (sF row.length))) none none none none none) (S':=S10) (by
   rw[sif_f (S1:=S10) (by simp[e10,c])]
   rfl)).trans ?_
  unfold LONG
  refine(fin_nx (ρ':=rz q t (some (cD ps us)) (some (stD (sL 0) (sR 0) (sF 0))) (some (.lst S5.length)) (some (.int wx)) (some (.int wy)) (some (.int wz)) y8 y9 y10 (some (.tup [.int wx,.int wy,.int wz])) (some (stD (sL row.length) (sR row.length) (sF row.length))) (some plL) none none none none) (S':=S10) rfl).trans ?_
  refine(fin_nx (ρ':=rz q t (some (cD ps us)) (some (stD (sL 0) (sR 0) (sF 0))) (some (.lst S5.length)) (some (.int wx)) (some (.int wy)) (some (.int wz)) y8 y9 y10 (some (.tup [.int wx,.int wy,.int wz])) (some (stD (sL row.length) (sR row.length) (sF row.length))) (some plL) (some (stD Zr Zr Zr)) none none none) (S':=S10) (by
   have m1:mulD (.tup [.int 0]) (.int 5) S10=.ok (.tup (Zr.map D.int)) S10:=rfl
   have m2:mulD (.tup [.tup (Zr.map D.int)]) (.int 3) S10=.ok (stD Zr Zr Zr) S10:=rfl
   simp only[sa_ap,o2_ap,tp_ap,ac_ap,an_ap,cn_ap,bind_ok,List.length_cons,List.length_nil]
   rfl)).trans ?_
  refine(fin_nx (ρ':=rz q t (some (cD ps us)) (some (stD (sL 0) (sR 0) (sF 0))) (some (.lst S5.length)) (some (.int wx)) (some (.int wy)) (some (.int wz)) y8 y9 y10 (some (.tup [.int wx,.int wy,.int wz])) (some (stD (sL row.length) (sR row.length) (sF row.length))) (some plL) (some (stD Zr Zr Zr)) (some (.int M)) none none) (S':=S11) (by simp[e11,em])).trans ?_
  refine(fin_nx (ρ':=rz q t (some (cD ps us)) (some (stD (sL 0) (sR 0) (sF 0))) (some (.lst S5.length)) (some (.int wx)) (some (.int wy)) (some (.int wz)) y8 y9 y10 (some (.tup [.int wx,.int wy,.int wz])) (some (stD (sL row.length) (sR row.length) (sF row.length))) (some plL) (some (stD Zr Zr Zr)) (some (.int M)) (some (.lst qm)) none) (S':=S12) (by rw[sa_ap,e12]; rfl)).trans ?_
  refine(fin_nx (ρ':=rz q t (some (cD ps us)) (some (stD (sL 0) (sR 0) (sF 0))) (some (.lst S5.length)) (some (.int wx)) (some (.int wy)) (some (.int wz)) y8 y9 y10 (some (.tup [.int 0,.int ((M:Int)+1),.int ((M:Int)+1)])) (some (stD (sL row.length) (sR row.length) (sF row.length))) (some plL) (some (stD Zr Zr Zr)) (some (.int M)) (some (.lst qm)) none) (S':=S12) (by
   show bindS (gX ys f_water [cD psL usL,stD Zr Zr Zr,.lst qm] S12) _ _=_
   rw[wL]
   rfl)).trans ?_
  refine(fin_nx (ρ':=rz q t (some (cD ps us)) (some (stD (sL 0) (sR 0) (sF 0))) (some (.lst S5.length)) (some (.int wx)) (some (.int wy)) (some (.int wz)) y8 y9 y10 (some (.tup [.int 0,.int ((M:Int)+1),.int ((M:Int)+1)])) (some (stD (sL row.length) (sR row.length) (sF row.length))) (some plL) (some (stD Zr Zr Zr)) (some (.int M)) (some (.lst qm)) none) (S':=S12) (by
   rw[sif_f (S1:=S12) (by simp[r12,n12])]
   rfl)).trans ?_
  have mu:mulD (.int 7) (.int (M:Int)) S12=.ok (.int (7*(M:Int))) S12:=mul_l (by decide) (by decide)
  refine(fin_nx (ρ':=rz q t (some (cD ps us)) (some (stD (sL 0) (sR 0) (sF 0))) (some (.lst S5.length)) (some (.int wx)) (some (.int wy)) (some (.int wz)) y8 y9 y10 (some (.tup [.int 0,.int ((M:Int)+1),.int ((M:Int)+1)])) (some (stD (sL row.length) (sR row.length) (sF row.length))) (some plL) (some (stD Zr Zr Zr)) (some (.int M)) (some (.lst qm)) (some (.str s3))) (S':=S12) (by simp[mu,r13])).trans ?_
  refine(fin_nx (ρ':=rz q t (some (cD psL usL)) (some (stD (sL 0) (sR 0) (sF 0))) (some (.lst S5.length)) (some (.int wx)) (some (.int wy)) (some (.int wz)) y8 y9 y10 (some (.tup [.int 0,.int ((M:Int)+1),.int ((M:Int)+1)])) (some (stD (sL row.length) (sR row.length) (sF row.length))) (some plL) (some (stD Zr Zr Zr)) (some (.int M)) (some (.lst qm)) (some (.str s3))) (S':=S12) rfl).trans ?_
  refine(fin_nx (ρ':=rz q t (some (cD psL usL)) (some (stD (sL 0) (sR 0) (sF 0))) (some (.lst S5.length)) (some (.int wx)) (some (.int wy)) (some (.int wz)) y8 y9 y10 (some (.tup [.int 0,.int ((M:Int)+1),.int ((M:Int)+1)])) (some (stD (sL row.length) (sR row.length) (sF row.length))) (some plL) (some (stD Zr Zr Zr)) (some (.int M)) (some (.lst qm)) (some (.str s3))) (S':=S12) (by
   rw[sif_f (S1:=S12) (by simp[grL,r13,n13])]
   rfl)).trans ?_
  simp[goL,r13,eq13]
theorem rep_ints{K:PySem.W.Frag}{mp:List Addr}{H:Hp}:∀ ns:List Int,RepL K mp H (ns.map D.int) (ns.map V.int)
 | []=>RepL.nil
 | a::r=>RepL.cons rfl (rep_ints r)
theorem hsp(K:PySem.W.Frag)(H:Hp)(a:Addr)(ns:List Int)(hl:ns.length≤63)(hO:Only H)(hS:SqL K H a (ns.map V.int)):spD K 1 f_law [.ref a] H (fun v _=>v=.bl true) fun _ _ _=>False:=by
 have hF:SqF K H a (ns.map V.int):=by
  rcases hS with(h | h) | h
  ·rcases hO a with z | ⟨o,xs,z⟩
   ·rw[z] at h; cases h
   ·rw[z] at h; cases h
  ·exact .inl h
  ·exact .inr h
 obtain⟨S',e⟩:=law_ok (S:=[⟨true,ns.map D.int⟩]) (q:=0) (fz:=true) (ns:=ns) rfl
 refine⟨[a],[.lst 0],[⟨true,ns.map D.int⟩],⟨rfl,fun i b c h1 h2=>?_,fun i j b ci cj h1 h2 h3 h4 h5 h6=>?_⟩,RepL.cons ⟨a,rfl,rfl⟩ RepL.nil,rfl,?_⟩
 ·cases i with
  | zero=>
   cases (Option.some.inj h1)
   cases (Option.some.inj h2)
   exact⟨ns.map V.int,rep_ints ns,(if_pos rfl).mpr hF⟩
  | succ i=>simp at h1
 ·cases i with
  | zero=>cases (Option.some.inj h3); cases h5
  | succ i=>simp at h1
 ·show PostF K [a] H (f_law [.lst 0] [⟨true,ns.map D.int⟩]) _
  rw[e]
  exact fun mp' H' v _ _ h=>h
end Law
set_option Elab.async false
def PySem.W.Fast.tw13318593261799277359:Nat:=0
def PySem.W.Fast.tw9172018905131992160:Nat:=0
def PySem.W.Fast.tw16404190003106032538:Nat:=0
def PySem.W.Fast.tw8116060374525346434:Nat:=0
def PySem.W.Fast.tw1011168800592348454:Nat:=0
def PySem.W.Fast.tw421977436141507193:Nat:=0
def PySem.W.Fast.tw14605884678014894735:Nat:=0
def PySem.W.Fast.tw2367317605664108298:Nat:=0
def PySem.W.Fast.tw8814637428159683193:Nat:=0
def PySem.W.Fast.tw16151502411550758426:Nat:=0
def PySem.W.Fast.tw8530992154267580649:Nat:=0
def PySem.W.Fast.tw10782978065267290293:Nat:=0
def PySem.W.Fast.tw11141539961187360853:Nat:=0
def PySem.W.Fast.tw17516752076314788113:Nat:=0
def PySem.W.Fast.tw15080695846417529555:Nat:=0
def PySem.W.Fast.tw2371162982098321393:Nat:=0
def PySem.W.Fast.tw16669741487440698575:Nat:=0
def PySem.W.Fast.tw4058882210154288697:Nat:=0
def PySem.W.Fast.tw6081541038109656520:Nat:=0
def PySem.W.Fast.tw7426558360566462435:Nat:=0
def PySem.W.Fast.tw480771488376083169:Nat:=0
def PySem.W.Fast.tw16930543239583764718:Nat:=0
def PySem.W.Fast.tw14963623576970233351:Nat:=0
def PySem.W.Fast.tw7940986736505155103:Nat:=0
def PySem.W.Fast.tw2631126111848382754:Nat:=0
def PySem.W.Fast.tw15884667229310603533:Nat:=0
def PySem.W.Fast.tw6425764817031398298:Nat:=0
def PySem.W.Fast.tw17298440705233381123:Nat:=0
def PySem.W.Fast.tw10906635399744045305:Nat:=0
def PySem.W.Fast.tw17740953938925635031:Nat:=0
def PySem.W.Fast.tw15887192468361363119:Nat:=0
def PySem.W.Fast.tw5956430698476560169:Nat:=0
def PySem.W.Fast.tw15326460766080789197:Nat:=0
def PySem.W.Fast.tw346201543171707894:Nat:=0
def PySem.W.Fast.tw17056331303636077977:Nat:=0
def PySem.W.Fast.tw13888103530461209722:Nat:=0
def PySem.W.Fast.tw5037173944829296810:Nat:=0
open PySem PySem.W PyProof.Rows
set_option maxRecDepth 100000 in
set_option maxHeartbeats 0 in
theorem PySem.Challenge.cw_summitwater_k12_whole_water_is_never_mad_holds : PySem.Challenge.rw_summitwater_k12_whole_water_is_never_mad.Holds := by
 w_on; o_law; k_head; (case hw=>w_witness2)
 k_fill
 refine L2.walk_ofK (l:=PySem.Challenge.rw_summitwater_k12_whole_water_is_never_mad) (n:=63) (k:=10) (x:="_law_script") (CX:=L2.CX0) (sp:=fun K=>DL.spD K 1 Law.f_law) rfl (by decide) rfl ⟨rfl,by decide,by decide,rfl⟩ (fun w h Y=>PySem.W.kIn_of Y) ?F Law.hsp (fun _ _ _ _ z=>z)
 case F=>
  intro w mg fa h KX G hmg
  refine' Law.all_mk KX G hmg (DL.fh_mk ?a_has_spring ?l_has_spring ?c_has_spring ?k_has_spring) (DL.fh_mk ?a_most_water ?l_most_water ?c_most_water ?k_most_water) (DL.fh_mk ?a_is_dry ?l_is_dry ?c_is_dry ?k_is_dry) (DL.fh_mk ?a_is_full ?l_is_full ?c_is_full ?k_is_full) (DL.fh_mk ?a_is_shallow ?l_is_shallow ?c_is_shallow ?k_is_shallow) (DL.fh_mk ?a_holds ?l_holds ?c_holds ?k_holds) (DL.fh_mk ?a_higher ?l_higher ?c_higher ?k_higher) (DL.fh_mk ?a_lower ?l_lower ?c_lower ?k_lower) (DL.fh_mk ?a_barges_of ?l_barges_of ?c_barges_of ?k_barges_of) (DL.fh_mk ?a_with_barges ?l_with_barges ?c_with_barges ?k_with_barges) (DL.fh_mk ?a_with_more ?l_with_more ?c_with_more ?k_with_more) (DL.fh_mk ?a_check_gate ?l_check_gate ?c_check_gate ?k_check_gate) (DL.fh_mk ?a_place_behind ?l_place_behind ?c_place_behind ?k_place_behind) (DL.fh_mk ?a_check_water ?l_check_water ?c_check_water ?k_check_water) (DL.fh_mk ?a_place_ahead ?l_place_ahead ?c_place_ahead ?k_place_ahead) (DL.fh_mk ?a_check_move ?l_check_move ?c_check_move ?k_check_move) (DL.fh_mk ?a_check_let ?l_check_let ?c_check_let ?k_check_let) (DL.fh_mk ?a_check_feed ?l_check_feed ?c_check_feed ?k_check_feed) (DL.fh_mk ?a_moved ?l_moved ?c_moved ?k_moved) (DL.fh_mk ?a_with_water ?l_with_water ?c_with_water ?k_with_water) (DL.fh_mk ?a_let_down ?l_let_down ?c_let_down ?k_let_down) (DL.fh_mk ?a_is_last_move ?l_is_last_move ?c_is_last_move ?k_is_last_move) (DL.fh_mk ?a_deed_done ?l_deed_done ?c_deed_done ?k_deed_done) (DL.fh_mk ?a_with_waiting ?l_with_waiting ?c_with_waiting ?k_with_waiting) (DL.fh_mk ?a_without_ends ?l_without_ends ?c_without_ends ?k_without_ends) (DL.fh_mk ?a_open_done ?l_open_done ?c_open_done ?k_open_done) (DL.fh_mk ?a_row_by ?l_row_by ?c_row_by ?k_row_by) (DL.fh_mk ?a_row_done ?l_row_done ?c_row_done ?k_row_done) (DL.fh_mk ?a_water ?l_water ?c_water ?k_water) (DL.fh_mk ?a_open_row ?l_open_row ?c_open_row ?k_open_row) (DL.fh_mk ?a__law_tape ?l__law_tape ?c__law_tape ?k__law_tape) (DL.fh_mk ?a__law_draw ?l__law_draw ?c__law_draw ?k__law_draw) (DL.fh_mk ?a__law_pound ?l__law_pound ?c__law_pound ?k__law_pound) (DL.fh_mk ?a__law_canal ?l__law_canal ?c__law_canal ?k__law_canal) (DL.fh_mk ?a__law_stand ?l__law_stand ?c__law_stand ?k__law_stand) (DL.fh_mk ?a__law_gone ?l__law_gone ?c__law_gone ?k__law_gone) (DL.fh_mk ?a__law_due ?l__law_due ?c__law_due ?k__law_due) (DL.fh_mk ?a__law_can ?l__law_can ?c__law_can ?k__law_can) (DL.fh_mk ?a__law_walk ?l__law_walk ?c__law_walk ?k__law_walk) ?a_law ?l_law ?c_law ?k_law ?z_ValueError ?z_enumerate ?z_int ?z_isinstance ?z_len ?z_list ?z_min ?z_range ?z_repr ?z_str ?z_sum ?z_tuple ?ka_CHAMBER ?kl_CHAMBER ?ka_END ?kl_END ?ka_UP ?ca_SummitError ?ca_NoGate ?ca_Dry ?ca_Full ?ca_NoSpring ?ca_NoBarge ?ca_NoRoom ?ca_Uneven ?ca_Shallow ?ca_Falls ?xtb ?iI ?lI ?cI ?kI ?cx_Dry ?cx_Full ?cx_NoBarge ?cx_NoGate ?cx_NoRoom ?cx_NoSpring ?cx_Shallow ?cx_Uneven
  (case a_has_spring=>k_is); (case l_has_spring=>k_is); (case c_has_spring=>k_is); (case k_has_spring=>k_is)
  (case a_most_water=>k_is); (case l_most_water=>k_is); (case c_most_water=>k_is); (case k_most_water=>k_is)
  (case a_is_dry=>k_is); (case l_is_dry=>k_is); (case c_is_dry=>k_is); (case k_is_dry=>k_is)
  (case a_is_full=>k_is); (case l_is_full=>k_is); (case c_is_full=>k_is); (case k_is_full=>k_is)
  (case a_is_shallow=>k_is); (case l_is_shallow=>k_is); (case c_is_shallow=>k_is); (case k_is_shallow=>k_is)
  (case a_holds=>k_is); (case l_holds=>k_is); (case c_holds=>k_is); (case k_holds=>k_is)
  (case a_higher=>k_is); (case l_higher=>k_is); (case c_higher=>k_is); (case k_higher=>k_is)
  (case a_lower=>k_is); (case l_lower=>k_is); (case c_lower=>k_is); (case k_lower=>k_is)
  (case a_barges_of=>k_is); (case l_barges_of=>k_is); (case c_barges_of=>k_is); (case k_barges_of=>k_is)
  (case a_with_barges=>k_is); (case l_with_barges=>k_is); (case c_with_barges=>k_is); (case k_with_barges=>k_is)
  (case a_with_more=>k_is); (case l_with_more=>k_is); (case c_with_more=>k_is); (case k_with_more=>k_is)
  (case a_check_gate=>k_is); (case l_check_gate=>k_is); (case c_check_gate=>k_is); (case k_check_gate=>k_is)
  (case a_place_behind=>k_is); (case l_place_behind=>k_is); (case c_place_behind=>k_is); (case k_place_behind=>k_is)
  (case a_check_water=>k_is); (case l_check_water=>k_is); (case c_check_water=>k_is); (case k_check_water=>k_is)
  (case a_place_ahead=>k_is); (case l_place_ahead=>k_is); (case c_place_ahead=>k_is); (case k_place_ahead=>k_is)
  (case a_check_move=>k_is); (case l_check_move=>k_is); (case c_check_move=>k_is); (case k_check_move=>k_is)
  (case a_check_let=>k_is); (case l_check_let=>k_is); (case c_check_let=>k_is); (case k_check_let=>k_is)
  (case a_check_feed=>k_is); (case l_check_feed=>k_is); (case c_check_feed=>k_is); (case k_check_feed=>k_is)
  (case a_moved=>k_is); (case l_moved=>k_is); (case c_moved=>k_is); (case k_moved=>k_is)
  (case a_with_water=>k_is); (case l_with_water=>k_is); (case c_with_water=>k_is); (case k_with_water=>k_is)
  (case a_let_down=>k_is); (case l_let_down=>k_is); (case c_let_down=>k_is); (case k_let_down=>k_is)
  (case a_is_last_move=>k_is); (case l_is_last_move=>k_is); (case c_is_last_move=>k_is); (case k_is_last_move=>k_is)
  (case a_deed_done=>k_is); (case l_deed_done=>k_is); (case c_deed_done=>k_is); (case k_deed_done=>k_is)
  (case a_with_waiting=>k_is); (case l_with_waiting=>k_is); (case c_with_waiting=>k_is); (case k_with_waiting=>k_is)
  (case a_without_ends=>k_is); (case l_without_ends=>k_is); (case c_without_ends=>k_is); (case k_without_ends=>k_is)
  (case a_open_done=>k_is); (case l_open_done=>k_is); (case c_open_done=>k_is); (case k_open_done=>k_is)
  (case a_row_by=>k_is); (case l_row_by=>k_is); (case c_row_by=>k_is); (case k_row_by=>k_is)
  (case a_row_done=>k_is); (case l_row_done=>k_is); (case c_row_done=>k_is); (case k_row_done=>k_is)
  (case a_water=>k_is); (case l_water=>k_is); (case c_water=>k_is); (case k_water=>k_is)
  (case a_open_row=>k_is); (case l_open_row=>k_is); (case c_open_row=>k_is); (case k_open_row=>k_is)
  (case a__law_tape=>k_is); (case l__law_tape=>k_is); (case c__law_tape=>k_is); (case k__law_tape=>k_is)
  (case a__law_draw=>k_is); (case l__law_draw=>k_is); (case c__law_draw=>k_is); (case k__law_draw=>k_is)
  (case a__law_pound=>k_is); (case l__law_pound=>k_is); (case c__law_pound=>k_is); (case k__law_pound=>k_is)
  (case a__law_canal=>k_is); (case l__law_canal=>k_is); (case c__law_canal=>k_is); (case k__law_canal=>k_is)
  (case a__law_stand=>k_is); (case l__law_stand=>k_is); (case c__law_stand=>k_is); (case k__law_stand=>k_is)
  (case a__law_gone=>k_is); (case l__law_gone=>k_is); (case c__law_gone=>k_is); (case k__law_gone=>k_is)
  (case a__law_due=>k_is); (case l__law_due=>k_is); (case c__law_due=>k_is); (case k__law_due=>k_is)
  (case a__law_can=>k_is); (case l__law_can=>k_is); (case c__law_can=>k_is); (case k__law_can=>k_is)
  (case a__law_walk=>k_is); (case l__law_walk=>k_is); (case c__law_walk=>k_is); (case k__law_walk=>k_is)
  (case a_law=>k_is); (case l_law=>k_is); (case c_law=>k_is); (case k_law=>k_is)
  (case z_ValueError=>k_is)
  (case z_enumerate=>k_is)
  (case z_int=>k_is)
  (case z_isinstance=>k_is)
  (case z_len=>k_is)
  (case z_list=>k_is)
  (case z_min=>k_is)
  (case z_range=>k_is)
  (case z_repr=>k_is)
  (case z_str=>k_is)
  (case z_sum=>k_is)
  (case z_tuple=>k_is)
  (case ka_CHAMBER=>k_is)
  (case kl_CHAMBER=>k_is)
  (case ka_END=>k_is)
  (case kl_END=>k_is)
  (case ka_UP=>k_is)
  (case ca_SummitError=>k_is)
  (case ca_NoGate=>k_is)
  (case ca_Dry=>k_is)
  (case ca_Full=>k_is)
  (case ca_NoSpring=>k_is)
  (case ca_NoBarge=>k_is)
  (case ca_NoRoom=>k_is)
  (case ca_Uneven=>k_is)
  (case ca_Shallow=>k_is)
  (case ca_Falls=>k_is)
  (case xtb=>kernel_rfl!)
  (case iI=>k_is); (case lI=>k_is); (case cI=>k_is); (case kI=>k_is)
  (case cx_Dry=>kernel_rfl!)
  (case cx_Full=>kernel_rfl!)
  (case cx_NoBarge=>kernel_rfl!)
  (case cx_NoGate=>kernel_rfl!)
  (case cx_NoRoom=>kernel_rfl!)
  (case cx_NoSpring=>kernel_rfl!)
  (case cx_Shallow=>kernel_rfl!)
  (case cx_Uneven=>kernel_rfl!)
