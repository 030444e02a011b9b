import PyProof.Rows.All
import Wide.All
import OpenK.AllK
import Wide.FinOn
import Lean
import PyProof.EqAt
import PyProof.EqKinds
import PyProof.TupleCall
import PyProof.FactsAll.tuple_2
import PyProof.ListMulRoad
import PyProof.ExcArgsOwn
import PyProof.ZipIter
import PyProof.EnumFor
import PyProof.Rows.StrJoin2
import PyProof.FString
import PyProof.StrBlockH
import PyProof.StrWalks
import PyProof.EnumMake
import KE.KIntText
import PyProof.CallStr
import PyProof.ExcInit
import PyProof.ExcClass3
import PyProof.ExcBaseAll.ValueError
import PyProof.NsDelKeeps
import KE.KTryMore
import PyProof.Rows.CountFlat
import PyProof.Rows.KernelRfl
import PyProof.ListRange
import PyProof.InstStoreFacts
import PyProof.Rows.InDataRows
import PyProof.DictTable
import PyProof.DictRoads
import PyProof.DictStraight
import PySem.Challenge.RW_summitwater_k82_stands_texts_refused
import PyProof.StrLawsTight
import PyProof.StrLawsChain
import PyProof.StrLawsIn
import PyProof.StrLawsOccR
import KE.IntTextText
set_option maxHeartbeats 4000000
set_option Elab.async false
set_option linter.all false
set_option maxRecDepth 100000
namespace L2
open PySem PySem.Spec PyProof.Rows
variable{us:List Value}{x:Str}{u:Value}{a b:Addr}{P:Program}{w:World}{h base:Heap}{t' j k:Nat}{N ps:List Str}{M:Model}{A:Around}{E Q:Value->Shared->Prop}{pos:Pos}{pins:List (Addr×Obj)}{K:PySem.W.Frag}{f:Value->Value->Sem Value}{tg:Expr}{op:CmpOp}{fp:List Addr}{mg:Str->Option Value}
abbrev Key:=Sum Int Str
def Gn5:Key->Value->Bool
 | .inl k,v=>Value.isInt k v
 | .inr x,v=>Value.isStrOf x v
def Gv8(w:World):Key->Int
 | .inl k=>hashInt k
 | .inr x=>hashStr w x
theorem Jf:∀ {k:Key} {v:Value},Gn5 k v=true->(∃ i t,k=Sum.inl i/\v=Value.int i t)\/(∃ x t,k=Sum.inr x/\v=Value.str x t)
 | .inl i,v,h=>by
  obtain⟨t,e⟩:=Value.isInt_shape (k:=i) (v:=v) h
  exact .inl ⟨i,t,rfl,e⟩
 | .inr x,v,h=>by
  obtain⟨t,e⟩:=Value.isStrOf_shape (x:=x) (v:=v) h
  exact .inr ⟨x,t,rfl,e⟩
theorem Go6(a b:Int):decide ((Sum.inl a:Key)=Sum.inl b)=(a==b):=by
 by_cases e:a=b
 ·subst e; simp
 ·have h:¬ (Sum.inl a:Key)=Sum.inl b:=fun q=>e (Sum.inl.inj q)
  rw[decide_eq_false h]
  exact(beq_eq_false_iff_ne.mpr e).symm
theorem Go7(a b:Str):decide ((Sum.inr a:Key)=Sum.inr b)=decide (a=b):=by
 by_cases e:a=b
 ·subst e; simp
 ·have h:¬ (Sum.inr a:Key)=Sum.inr b:=fun q=>e (Sum.inr.inj q)
  rw[decide_eq_false h,decide_eq_false e]
theorem Go8(a:Int)(b:Str):decide ((Sum.inl a:Key)=Sum.inr b)=false:=decide_eq_false (fun q=>nomatch q)
theorem Go9(a:Str)(b:Int):decide ((Sum.inr a:Key)=Sum.inl b)=false:=decide_eq_false (fun q=>nomatch q)
def Gcr(prog:Program)(w:World):PySem.KeyKind prog w Key where
 is:=Gn5
 hash:=Gv8 w
 inj:=fun v a b ha hb=>by
  rcases Jf ha with⟨i,t,rfl,rfl⟩ | ⟨x,t,rfl,rfl⟩
  ·rcases Jf hb with⟨j,u,rfl,e⟩ | ⟨y,u,rfl,e⟩
   ·injection e with e1 _; rw[e1]
   ·exact nomatch e
  ·rcases Jf hb with⟨j,u,rfl,e⟩ | ⟨y,u,rfl,e⟩
   ·exact nomatch e
   ·injection e with e1 _; rw[e1]
 byValue:=fun k v h=>by
  rcases Jf h with⟨i,t,rfl,rfl⟩ | ⟨x,t,rfl,rfl⟩<;>rfl
 pyHash:=fun hv h=>by
  rcases Jf hv with⟨i,t,rfl,rfl⟩ | ⟨x,t,rfl,rfl⟩
  ·exact wpAny_pyHash_int h
  ·exact wpAny_pyHash_str h
 eqBool:=fun hu hv h=>by
  rcases Jf hu with⟨i,t,rfl,rfl⟩ | ⟨x,t,rfl,rfl⟩
  ·rcases Jf hv with⟨j,u,rfl,rfl⟩ | ⟨y,u,rfl,rfl⟩
   ·rw[Go6] at h; exact wpAny_eqBool_int h
   ·rw[Go8] at h; exact SeqAt.EqAt.int_str i t y u _ _ _ _ h
  ·rcases Jf hv with⟨j,u,rfl,rfl⟩ | ⟨y,u,rfl,rfl⟩
   ·rw[Go9] at h; exact SeqAt.EqAt.str_int x t j u _ _ _ _ h
   ·rw[Go7] at h; exact wpAny_eqBool_str h
 «strs»:=fun k x t v h=>by
  rcases Jf h with⟨i,u,rfl,e⟩ | ⟨y,u,rfl,e⟩
  ·exact nomatch e
  ·injection e with e1 _
   subst e1
   cases v<;>rfl
inductive V where
 | non | bl (b:Bool) | int (i:Int) | str (x:Str) | byt (b:Array UInt8) | flt (b:UInt64) | ref (a:Addr) | ty (n:String)
 deriving DecidableEq
variable{v:V}
def Ha:V->Value->Prop
 | .non,u=>u=Value.none
 | .bl b,u=>u=Value.bool b
 | .int i,u=>∃ t,u=Value.int i t
 | .str x,u=>∃ t,u=Value.str x t
 | .byt b,u=>∃ t,u=Value.bytes b t
 | .flt b,u=>∃ t,u=Value.float b t
 | .ref a,u=>u=Value.ref a
 | .ty n,u=>u=Value.type n
abbrev Vals:List V->List Value->Prop:=Paired Ha
theorem Vals.length{xs:List V}(r:Vals xs us):xs.length=us.length:=Paired.length r
theorem Vals.get:∀ {xs:List V} {us:List Value} {i:Nat} {x:V},Vals xs us->xs[i]?=some x->∃ u,us[i]?=some u/\Ha x u
 | _,_,_,_,.nil,e=>by simp at e
 | _,_,0,_,.cons r _,e=>by simp at e; subst e; exact⟨_,rfl,r⟩
 | _,_,i+1,x,.cons _ t,e=>by
  obtain⟨u,h1,h2⟩:=Vals.get (i:=i) (x:=x) t (by simpa using e)
  exact⟨u,by simpa using h1,h2⟩
theorem Vals.set{x:V}(r:Ha x u):∀ {xs:List V} {us:List Value} (i:Nat),Vals xs us->Vals (xs.set i x) (us.set i u)
 | _,_,_,.nil=>.nil
 | _,_,0,.cons _ t=>.cons r t
 | _,_,i+1,.cons q t=>.cons q (Vals.set r i t)
theorem Vals.append:∀ {xs ys:List V} {us ws:List Value},Vals xs us->Vals ys ws->Vals (xs++ys) (us++ws)
 | _,_,_,_,.nil,s=>s
 | _,_,_,_,.cons r t,s=>.cons r (Vals.append t s)
theorem Vals.take:∀ {xs:List V} {us:List Value} (n:Nat),Vals xs us->Vals (xs.take n) (us.take n)
 | _,_,0,_=>.nil
 | _,_,_+1,.nil=>.nil
 | _,_,n+1,.cons r t=>.cons r (Vals.take n t)
theorem Vals.drop:∀ {xs:List V} {us:List Value} (n:Nat),Vals xs us->Vals (xs.drop n) (us.drop n)
 | _,_,0,r=>r
 | _,_,_+1,.nil=>.nil
 | _,_,n+1,.cons _ t=>Vals.drop n t
def Gtz:Option V->Option Value->Prop
 | some v,some u=>Ha v u
 | none,none=>True
 | _,_=>False
def KV{κ:Type}:List (κ×V)->List (κ×Value)->Prop:=Paired fun(p:κ×V) (q:κ×Value)=>p.1=q.1/\Ha p.2 q.2
def kV:Key->V
 | .inl i=>.int i
 | .inr x=>.str x
inductive HO where
 | lst (xs:List V)
 | tup (xs:List V)
 | dK (kvs:List (Key×V)) | dT (kvs:List (List Key×V))
 | set (S:Int->Bool) (n:Nat)
 | ins (C dx:Addr) (fs:List (Str×V))
 | own (x:Addr)
 | xd (fs:List (Str×V))
 | met (f x:Addr)
 | rng (lo hi:Int)
 | frz (o:Obj) (u:HO)
 | tbl (ps:Array Value)
 | ext (φ:Heap->Prop)
variable{o:HO}
abbrev Hp:=Addr->Option HO
variable{H:Hp}
def upd(H:Hp)(a:Addr)(o:HO):Hp:=fun b=>if b=a then some o else H b
theorem Hj:upd H a o a=some o:=by unfold upd; rw[if_pos rfl]
theorem Gq(h:b≠a):upd H a o b=H b:=by unfold upd; rw[if_neg h]
theorem Gfs{u:HO}(h:H a=some o)(h':H b=some u)(d:o≠u):a≠b:=by
 intro e; subst e; rw[h] at h'; exact d (Option.some.inj h')
theorem Hx(h:H a=some o)(h':H b=none):a≠b:=by
 intro e; subst e; rw[h] at h'; cases h'
section
variable(P:Program)(w:World)
def Jt(H:Hp)(h:Heap)(a:Addr):HO->Prop
 | .lst xs=>xs.length<=sizeLine/\∃ (its:List Value) (n:Nat),Vals xs its/\h.get? a=some { cls:=.type "list",data:=.seq its.toArray n }
 | .tup xs=>xs.length<=sizeLine/\∃ its:List Value,Vals xs its/\IsTup h a its.toArray
 | .dK kvs=>kvs.length<=sizeLine/\(a==sysModules)=false/\∃ vs,KV kvs vs/\h.DictOf (Gcr P w) a vs
 | .dT kvs=>kvs.length<=sizeLine/\(a==sysModules)=false/\∃ xs:List (List Key×Addr×Value),
   Paired (fun(p:List Key×V) (q:List Key×Addr×Value)=>p.1=q.1/\H q.2.1=some (.tup (p.1.map kV))/\Ha p.2 q.2.2) kvs xs∧
   ∃ o es ep,h.get? a=some o/\o.ExactDict/\o.data=.dict es ep/\es.toList=xs.map (entryOfKey (tupleKind (Gcr P w)))/\(xs.map (·.1)).Nodup
 | .set S n=>h.SetOf (intKind P w) a S n
 | .ins C dx fs=>H dx=some (.own a)/\fs.length<=1000/\dx≠a/\h.get? a=some (PySem.W.instObj C dx)∧
   ∃ mA,h.Ns1 dx mA/\(∀ f,Gtz (fs.lookup f) (mA f))/\PySem.Within mA (fs.map (·.1))
 | .own _=>∃ o,h.get? a=some o
 | .xd fs=>∃ mA,h.Ns1 a mA/\∀ f,Gtz (fs.lookup f) (mA f)
 | .rng lo hi=>∃ t u v,h.get? a=some { cls:=.type "range",data:=.fields #[.int lo t,.int hi u,.int 1 v] }
 | .frz o u=>h.get? a=some o/\Jt H h a u
 | .tbl ps=>h.get? a=some { cls:=.none,data:=.fields ps }
 | .met f x=>h.get? a=some (PySem.W.methodObj (.ref f) (.ref x))
 | .ext φ=>φ h/\(∃ o,h.get? a=some o)/\∀ h1 h2:Heap,φ h1->(∀ o,h1.get? a=some o->h2.get? a=some o)->φ h2
def HOk(H:Hp)(h:Heap):Prop:=∀ a o,H a=some o->Jt P w H h a o
end
section
variable{P:Program}{w:World}{H H':Hp}{h h':Heap}{a:Addr}{o:HO}
theorem Jt.lt(x:Jt P w H h a o):a<h.objs.size:=by
 cases o with
 | lst xs=>obtain⟨_,_,_,_,e⟩:=x; exact Heap.lt_size e
 | tup xs=>obtain⟨_,_,_,p⟩:=x; exact p.lt
 | dK kvs=>obtain⟨_,_,_,_,o,_,_,e,_⟩:=x; exact Heap.lt_size e
 | dT kvs=>obtain⟨_,_,_,_,o,_,_,e,_⟩:=x; exact Heap.lt_size e
 | set S n=>obtain⟨o,_,_,_,e,_⟩:=x; exact Heap.lt_size e
 | ins C dx fs=>obtain⟨_,_,_,e,_⟩:=x; exact Heap.lt_size e
 | own y=>obtain⟨_,e⟩:=x; exact Heap.lt_size e
 | xd fs=>obtain⟨_,⟨_,_,_,e,_⟩,_⟩:=x; exact Heap.lt_size e
 | rng lo hi=>obtain⟨_,_,_,e⟩:=x; exact Heap.lt_size e
 | frz ob u=>obtain⟨e,_⟩:=x; exact Heap.lt_size e
 | tbl ps=>exact Heap.lt_size (show h.get? a=some _ from x)
 | met f y=>exact Heap.lt_size (show h.get? a=some _ from x)
 | ext φ=>obtain⟨_,⟨_,e⟩,_⟩:=x; exact Heap.lt_size e
theorem Paired.mapP{α β:Type}{F G:α->β->Prop}:∀ {l₁:List α} {l₂:List β},Paired F l₁ l₂->(∀ a b,F a b->G a b)->Paired G l₁ l₂
 | _,_,.nil,_=>.nil
 | _,_,.cons r t,f=>.cons (f _ _ r) (Paired.mapP t f)
theorem Jt.stay(x:Jt P w H h a o)(k:∀ b u,(b=a\/H b=some (.own a))->h.get? b=some u->h'.get? b=some u)
  (ho:∀ b,H b=some (.own a)->H' b=some (.own a)) (ht:∀ b xs,H b=some (.tup xs)->H' b=some (.tup xs)):Jt P w H' h' a o:=by
 induction o with
 | lst xs=>obtain⟨z,its,n,r,e⟩:=x; exact⟨z,its,n,r,k _ _ (.inl rfl) e⟩
 | tup xs=>obtain⟨z,its,r,ob,e,c⟩:=x; exact⟨z,its,r,ob,k _ _ (.inl rfl) e,c⟩
 | dK kvs=>obtain⟨z,y,vs,r,ob,es,ep,e,c⟩:=x; exact⟨z,y,vs,r,ob,es,ep,k _ _ (.inl rfl) e,c⟩
 | dT kvs=>
  obtain⟨z,y,xs,r,ob,es,ep,e,c⟩:=x
  exact⟨z,y,xs,Paired.mapP r fun p q z=>⟨z.1,ht _ _ z.2.1,z.2.2⟩,ob,es,ep,k _ _ (.inl rfl) e,c⟩
 | set S n=>obtain⟨ob,es,ep,t,e,c⟩:=x; exact⟨ob,es,ep,t,k _ _ (.inl rfl) e,c⟩
 | ins C dx fs=>
  obtain⟨d,z,ne,e,mA,⟨od,es,ep,e2,c⟩,r⟩:=x
  exact⟨ho _ d,z,ne,k _ _ (.inl rfl) e,mA,⟨od,es,ep,k _ _ (.inr d) e2,c⟩,r⟩
 | own y=>obtain⟨ob,e⟩:=x; exact⟨ob,k _ _ (.inl rfl) e⟩
 | xd fs=>obtain⟨mA,⟨od,es,ep,e,c⟩,r⟩:=x; exact⟨mA,⟨od,es,ep,k _ _ (.inl rfl) e,c⟩,r⟩
 | rng lo hi=>obtain⟨t,u,v,e⟩:=x; exact⟨t,u,v,k _ _ (.inl rfl) e⟩
 | frz ob u ih=>obtain⟨e,q⟩:=x; exact⟨k _ _ (.inl rfl) e,ih q⟩
 | tbl ps=>
  have e:h.get? a=some { cls:=.none,data:=.fields ps }:=x
  show h'.get? a=some { cls:=.none,data:=.fields ps }
  exact k a _ (.inl rfl) e
 | met f y=>
  have e:h.get? a=some (PySem.W.methodObj (.ref f) (.ref y)):=x
  show h'.get? a=some (PySem.W.methodObj (.ref f) (.ref y))
  exact k a _ (.inl rfl) e
 | ext φ=>obtain⟨p,⟨o,e⟩,st⟩:=x; exact⟨st _ _ p fun o q=>k _ _ (.inl rfl) q,⟨o,k _ _ (.inl rfl) e⟩,st⟩
theorem HOk.lt(x:HOk P w H h)(e:H a=some o):a<h.objs.size:=(x a o e).lt
theorem HOk.fresh(x:HOk P w H h)(e:h.objs.size<=a):H a=none:=by
 cases q:H a with
 | none=>rfl
 | some u=>exact absurd (Nat.lt_of_lt_of_le (x.lt q) e) (Nat.lt_irrefl _)
theorem HOk.kept(x:HOk P w H h)(k:∀ b u,h.get? b=some u->h'.get? b=some u):HOk P w H h':=fun a o e=>
 (x a o e).stay (fun b u _ q=>k b u q) (fun _ q=>q) fun _ _ q=>q
theorem HOk.laid(x:HOk P w H h)(k:∀ b u,h.get? b=some u->h'.get? b=some u)(hp:h.objs.size<=a)(new:Jt P w (upd H a o) h' a o):HOk P w (upd H a o) h':=fun b u e=>by
 have hn:=x.fresh hp
 by_cases hb:b=a
 ·subst hb; rw[Hj] at e; cases e; exact new
 ·rw[Gq hb] at e
  exact(x b u e).stay (fun c v _ q=>k c v q) (fun c q=>by rw[Gq (Hx q hn)]; exact q) fun c xs q=>by rw[Gq (Hx q hn)]; exact q
end
def Rd(H:Hp)(a:Addr)(u:HO):Prop:=H a=some u\/∃ o,H a=some (.frz o u)
theorem Rd.ok{u:HO}(r:Rd H a u)(x:HOk P w H h):Jt P w H h a u:=by
 rcases r with r | ⟨o,r⟩
 ·exact x a u r
 ·obtain⟨_,q⟩:=x a _ r
  exact q
def Mut:Option HO->Prop
 | some (.lst _)=>True
 | some (.dK _)=>True
 | some (.dT _)=>True
 | some (.set _ _)=>True
 | some (.ins _ _ _)=>True
 | some (.ext _)=>True
 | _=>False
theorem HOk.write{h':Heap}{x e:Addr}{o':HO}(ok:HOk P w H h)(mu:Mut (H x))(he:e=x\/H e=some (.own x))(k:∀ b u,b≠e->h.get? b=some u->h'.get? b=some u)(heo:∃ u,h'.get? e=some u)(new:Jt P w (upd H x o') h' x o'):HOk P w (upd H x o') h':=fun b u q=>by
 have nown:∀ c y,H c=some (.own y)->c≠x:=fun c y r z=>by subst z; rw[r] at mu; exact mu
 have ntup:∀ c xs,H c=some (.tup xs)->c≠x:=fun c xs r z=>by subst z; rw[r] at mu; exact mu
 by_cases hb:b=x
 ·subst hb; rw[Hj] at q; cases q; exact new
 ·rw[Gq hb] at q
  by_cases hbe:b=e
  ·have q':H b=some (.own x):=by
    rcases he with z | z
    ·exact absurd (hbe.trans z) hb
    ·rw[hbe]; exact z
   rw[q] at q'; cases q'
   obtain⟨v,hv⟩:=heo
   exact⟨v,by rw[hbe]; exact hv⟩
  ·refine(ok b u q).stay (fun c v hc r=>k c v ?_ r) (fun c r=>by rw[Gq (nown c b r)]; exact r) fun c xs r=>by rw[Gq (ntup c xs r)]; exact r
   rcases hc with rfl | hc
   ·exact hbe
   ·rintro rfl
    rcases he with z | z
    ·exact nown c b hc z
    ·rw[hc] at z; cases z; exact hb rfl
structure Un(fs ex:List Addr)(H H':Hp)(h h':Heap):Prop where
 keep:∀ b o,h.get? b=some o->H b=none->b∉fs->b∉ex->h'.get? b=some o
 slot:∀ b o,h.get? b=some o->H b=none->b∈fs->b∉ex->∃ sl,h'.get? b=some { o with slots:=sl }
 free:∀ b o,h.get? b=some o->H b=none->b∉ex->H' b=none
 there:∀ b o,h.get? b=some o->b∉ex->∃ o',h'.get? b=some o'
 tups:∀ b xs,H b=some (.tup xs)->H' b=some (.tup xs)
 frzs:∀ b o u,H b=some (.frz o u)->H' b=some (.frz o u)
 tbls:∀ b ps,H b=some (.tbl ps)->∃ more,H' b=some (.tbl (ps++more))
section
variable{fs fs' ex ex':List Addr}{H H1 H2:Hp}{h h1 h2 h':Heap}{a x e:Addr}{o:HO}
theorem Un.any(u:Un fs ex H H1 h h1){ob:Obj}(q:h.get? b=some ob)(n:H b=none)(hx:b∉ex):∃ sl,h1.get? b=some { ob with slots:=sl }:=by
 by_cases hb:b∈fs
 ·exact u.slot b ob q n hb hx
 ·exact⟨ob.slots,u.keep b ob q n hb hx⟩
theorem Un.kept(k:∀ b u,h.get? b=some u->h'.get? b=some u):Un fs ex H H h h':=
 ⟨fun b ob q _ _ _=>k b ob q,fun b ob q _ _ _=>⟨ob.slots,k b ob q⟩,fun _ _ _ n _=>n,fun b ob q _=>⟨ob,k b ob q⟩,fun _ _ q=>q,fun _ _ _ q=>q,fun _ ps q=>⟨#[],by rw[q]; simp⟩⟩
theorem Un.refl:Un fs ex H H h h:=Un.kept fun _ _ q=>q
theorem Un.laid(k:∀ b u,h.get? b=some u->h'.get? b=some u)(hp:h.objs.size<=a)(hn:H a=none):Un fs ex H (upd H a o) h h' where
 keep:=fun b u q _ _ _=>k b u q
 slot:=fun b u q _ _ _=>⟨u.slots,k b u q⟩
 free:=fun b u q n _=>by rw[Gq (Nat.ne_of_lt (Nat.lt_of_lt_of_le (Heap.lt_size q) hp))]; exact n
 there:=fun b u q _=>⟨u,k b u q⟩
 tups:=fun b xs q=>by rw[Gq (Hx q hn)]; exact q
 frzs:=fun b u xs q=>by rw[Gq (Hx q hn)]; exact q
 tbls:=fun b ps q=>⟨#[],by rw[Gq (Hx q hn),q]; simp⟩
theorem Un.write(mu:Mut (H x))(he:e=x\/H e=some (.own x))(k:∀ b u,b≠e->h.get? b=some u->h'.get? b=some u)(heo:∃ u,h'.get? e=some u):Un fs ex H (upd H x o) h h':=by
 have hx:∀ b,H b=none->b≠x:=fun b n z=>by subst z; rw[n] at mu; exact mu
 have hb:∀ b,H b=none->b≠e:=fun b n z=>by
  subst z
  rcases he with r | r
  ·exact hx b n r
  ·rw[n] at r; cases r
 have hm:∀ b u,H b=some u->¬ Mut (some u)->b≠x:=fun b u q nm z=>by subst z; rw[q] at mu; exact nm mu
 refine⟨fun b u q n _ _=>k b u (hb b n) q,fun b u q n _ _=>⟨u.slots,k b u (hb b n) q⟩,fun b u q n _=>by rw[Gq (hx b n)]; exact n,fun b u q _=>?_,
  fun b xs q=>by rw[Gq (hm b _ q fun z=>z)]; exact q,fun b u xs q=>by rw[Gq (hm b _ q fun z=>z)]; exact q,fun b ps q=>⟨#[],by rw[Gq (hm b _ q fun z=>z),q]; simp⟩⟩
 by_cases hbe:b=e
 ·subst hbe; exact heo
 ·exact⟨u,k b u hbe q⟩
end
def trk(h:Heap)(H:Hp):List Addr:=(List.range h.objs.size).filter fun a=>(H a).isSome
def Gcs(h:Heap)(H:Hp):Heap:=PySem.W.hideAll h (trk h H)
theorem Ggn(h:Heap)(H:Hp):(Gcs h H).objs.size=h.objs.size:=PySem.W.hideAll_size _ _
theorem Ghs{o:Obj}(e:h.get? b=some o)(n:H b=none):(Gcs h H).get? b=some o:=
 PySem.W.hideAll_get _ e fun hm=>by
  have q:(H b).isSome=true:=(List.mem_filter.mp hm).2
  rw[n] at q; simp at q
theorem of_hidT{o:Obj}(e:(Gcs h H).get? b=some o):h.get? b=some o/\H b=none:=by
 have e':h.get? b=some o:=PySem.W.of_hideAll (trk h H) e
 refine⟨e',?_⟩
 cases q:H b with
 | none=>rfl
 | some x=>
  have hm:b∈trk h H:=List.mem_filter.mpr ⟨List.mem_range.mpr (Heap.lt_size e'),by simp[q]⟩
  have z:(Gcs h H).get? b=none:=PySem.W.hideAll_none (trk h H) hm
  rw[z] at e; cases e
def Gk2(g h:Heap)(L:Addr):List (Addr×Obj):=(List.range h.objs.size).filterMap fun a=>if a=L\/(g.get? a).isSome=true then none else(h.get? a).map fun o=>(a,o)
def rest(g h:Heap)(L d:Addr):List (Addr×Obj):=(Gk2 g h L).filter fun p=>decide (p.1≠d)
structure Mod(K:PySem.W.Frag)(mg:Str->Option Value)(base:Heap):Prop where
 kin:K.In base
 glob:base.Ns mainGlobals mg
 blt:∃ mb,base.Ns builtinsNs mb/\∀ x:Str,x≠"__name__"->mb x=bootBuiltins x
 nolimit:base.NoLimit
structure Cx where
 prog:Program
 w:World
 K:PySem.W.Frag
 mg:Str->Option Value
 base:Heap
 A:Around
 N:List Str
 s₀:Shared
 H₀:Hp
 env:Env
 outer:List Env
 stack:List Env
 ex:List Addr
 fn:Str->Bool
 calm:Bool
 pn:List (Addr×Obj)
 xe:Value->Shared->Prop
variable{X:Cx}
def frs(l:List Env):List Addr:=l.filterMap (·.frame)
abbrev Cx.fs(X:Cx):List Addr:=frs X.outer
def Vis(sc:Scope)(x:Str):Prop:=sc.names.lookup x=some .local\/sc.names.lookup x=some .cell\/sc.names.lookup x=some .free
def Loc(sc:Scope)(x:Str):Prop:=sc.names.lookup x=some .local\/sc.names.lookup x=some .cell
def Look(env:Env)(h:Heap)(m:Str->Option Value)(x:Str)(u:Value):Prop:=
 (env.kindOf x=some .local/\m x=some u)\/((env.kindOf x=some .cell\/env.kindOf x=some .free)/\∃ c,env.cells.lookup x=some c/\h.IsCell c (some u))
structure Cx.Ok(X:Cx):Prop where
 mod:Mod X.K X.mg X.base
 kind:X.env.scope.kind=.function
 glob:X.env.globals=mainGlobals
 blt:X.env.builtins=builtinsNs
 above:X.s₀.heap.objs.size<=X.env.locals
 inj:∀ x y c,X.env.cells.lookup x=some c->X.env.cells.lookup y=some c->x=y
 has:∀ x,(X.env.kindOf x=some .cell\/X.env.kindOf x=some .free)->∃ c,X.env.cells.lookup x=some c
 cab:∀ x c,X.fn x=true->X.env.cells.lookup x=some c->X.s₀.heap.objs.size<=c
 hd:X.calm=true->X.A.handled=none
 frames:X.A.frames=some X.stack
 stk:X.stack=X.outer\/(X.stack=X.env::X.outer/\X.env.frame=some X.env.locals)
 exf:∀ b∈X.ex,b≠X.env.locals/\∀ x c,X.env.cells.lookup x=some c->c≠b
 bs:∀ b o,X.base.get? b=some o->X.s₀.heap.get? b=some o/\X.H₀ b=none
 bsz:X.base.objs.size<=X.s₀.heap.objs.size
 noex:∀ b o,X.base.get? b=some o->b∉X.ex
 exfs:∀ b∈X.ex,b∉X.fs
 funs:X.s₀.heap.FunFrames X.base X.outer
 frf:∀ b∈X.fs,X.H₀ b=none
structure Inv(X:Cx)(pins:List (Addr×Obj))(σ:List (Option V))(H:Hp)(s:Shared):Prop where
 ok:X.Ok
 os:s.os=X.s₀.os
 bare:AllBare s.gens
 base:Un X.fs X.ex X.H₀ H X.s₀.heap s.heap
 loc:∃ m,s.heap.Ns X.env.locals m/\∀ (i:Nat) (x:Str) (v:V),X.N[i]?=some x->σ[i]?=some (some v)->Vis X.env.scope x->∃ u,Ha v u/\Look X.env s.heap m x u
 cell:∀ x c,X.env.cells.lookup x=some c->∃ v,s.heap.IsCell c v
 free:H X.env.locals=none
 freeC:∀ x c,X.env.cells.lookup x=some c->H c=none
 pin:∀ p∈X.pn++pins,s.heap.get? p.1=some p.2/\H p.1=none/\p.1≠X.env.locals/\p.1∉X.fs/\∀ v,p.2.data≠.cell v
 hok:HOk X.prog X.w H s.heap
 len:σ.length=X.N.length
section
variable{X:Cx}{pins:List (Addr×Obj)}{σ:List (Option V)}{H H':Hp}{s:Shared}{h':Heap}
theorem Cx.Ok.nofr(ok:X.Ok){o:Obj}(e:X.base.get? b=some o):b∉X.fs:=fun hb=>by
 have:=(ok.funs.mem hb).1
 rw[e] at this; cases this
theorem Inv.bs(I:Inv X pins σ H s):∀ b o,X.base.get? b=some o->s.heap.get? b=some o/\H b=none:=fun b o e=>
 ⟨I.base.keep b o (I.ok.bs b o e).1 (I.ok.bs b o e).2 (I.ok.nofr e) (I.ok.noex b o e),I.base.free b o (I.ok.bs b o e).1 (I.ok.bs b o e).2 (I.ok.noex b o e)⟩
theorem Inv.bk(I:Inv X pins σ H s):∀ b o,X.base.get? b=some o->s.heap.get? b=some o:=fun b o e=>(I.bs b o e).1
theorem Inv.mod(I:Inv X pins σ H s):Mod X.K X.mg X.base:=I.ok.mod
theorem Inv.kIn(I:Inv X pins σ H s):X.K.In s.heap:=I.ok.mod.kin.keeps I.bk
theorem Inv.lt(I:Inv X pins σ H s):X.env.locals<s.heap.objs.size:=let ⟨_,hn,_⟩:=I.loc; hn.lt
theorem Inv.sz(I:Inv X pins σ H s):X.s₀.heap.objs.size<=s.heap.objs.size:=Nat.le_trans I.ok.above (Nat.le_of_lt I.lt)
theorem Inv.nofs(I:Inv X pins σ H s)(h:s.heap.objs.size<=a):a∉X.fs:=fun hb=>by
 obtain⟨_,o,ho,_⟩:=I.ok.funs.mem hb
 exact absurd (Nat.lt_of_lt_of_le (Heap.lt_size ho) (Nat.le_trans I.sz h)) (Nat.lt_irrefl _)
theorem Inv.cne(I:Inv X pins σ H s):∀ x c,X.env.cells.lookup x=some c->c≠X.env.locals:=fun x c e z=>by
 obtain⟨v,o,ho,hd⟩:=I.cell x c e
 obtain⟨m,⟨o',es,ep,ho',hd',_⟩,_⟩:=I.loc
 rw[z,ho'] at ho; cases ho; rw[hd'] at hd; cases hd
theorem Inv.funs(I:Inv X pins σ H s):s.heap.FunFrames X.base X.outer:=by
 have all:∀ (l:List Env),(∀ b∈frs l,b∈X.fs)->X.s₀.heap.FunFrames X.base l->s.heap.FunFrames X.base l:=by
  intro l
  induction l with
  | nil=>intro _ _; trivial
  | cons env r ih=>
   intro hs hl
   obtain⟨hk,⟨L,o,hf,hn,ho,hd⟩,hr⟩:=hl
   have hL:L∈X.fs:=hs L (by unfold frs; rw[List.filterMap_cons,hf]; exact List.mem_cons_self)
   obtain⟨sl,e⟩:=I.base.slot L o ho (I.ok.frf L hL) hL fun z=>I.ok.exfs L z hL
   exact⟨hk,⟨L,_,hf,hn,e,hd⟩,ih (fun b hb=>hs b (by unfold frs; rw[List.filterMap_cons,hf]; exact List.mem_cons_of_mem _ hb)) hr⟩
 exact all X.outer (fun _ hb=>hb) I.ok.funs
theorem Inv.stack(I:Inv X pins σ H s):s.heap.FunFrames X.base X.stack:=by
 rcases I.ok.stk with e | ⟨e,hf⟩
 ·rw[e]; exact I.funs
 ·rw[e]
  obtain⟨m,hn,_⟩:=I.loc
  refine .cons (by rw[I.ok.kind]; decide) hf hn ?_ I.funs
  exact Heap.get?_none_of_le (Nat.le_trans I.ok.bsz I.ok.above)
theorem Inv.stkSub(I:Inv X pins σ H s):∀ b∈frs X.stack,b∈X.env.locals::X.fs:=fun b hb=>by
 rcases I.ok.stk with e | ⟨e,hf⟩
 ·rw[e] at hb; exact List.mem_cons_of_mem _ hb
 ·rw[e] at hb
  unfold frs at hb
  rw[List.filterMap_cons,hf] at hb
  exact hb
theorem Inv.stkFree(I:Inv X pins σ H s):∀ b∈frs X.stack,H b=none:=fun b hb=>by
 rcases List.mem_cons.mp (I.stkSub b hb) with e | hb
 ·rw[e]; exact I.free
 ·obtain⟨_,o,ho,_⟩:=I.ok.funs.mem hb
  exact I.base.free b o ho (I.ok.frf b hb) fun z=>I.ok.exfs b z hb
theorem Inv.step{g':Array GenState}{d':Drawn}{ch:List Addr}(I:Inv X pins σ H s)(hch:∀ b∈ch,(b∈X.ex\/X.s₀.heap.objs.size<=b)/\b≠X.env.locals/\(∀ x c,X.env.cells.lookup x=some c->c≠b)/\∀ p∈X.pn++pins,p.1≠b)(keep:∀ b o,b≠X.env.locals->b∉X.fs->b∉ch->s.heap.get? b=some o->H b=none->h'.get? b=some o)(slot:∀ b o,b≠X.env.locals->b∈X.fs->b∉ch->s.heap.get? b=some o->H b=none->∃ sl,h'.get? b=some { o with slots:=sl })(free:∀ b o,b∉ch->s.heap.get? b=some o->H b=none->H' b=none)(there:∀ b o,b∉ch->s.heap.get? b=some o->∃ o',h'.get? b=some o')(tups:∀ b xs,H b=some (.tup xs)->H' b=some (.tup xs))(frzs:∀ b o u,H b=some (.frz o u)->H' b=some (.frz o u))(tbls:∀ b ps,H b=some (.tbl ps)->∃ more,H' b=some (.tbl (ps++more)))(ns:∀ m,s.heap.Ns X.env.locals m->h'.Ns X.env.locals m)(hok:HOk X.prog X.w H' h')(hg:AllBare g'):
  Inv X pins σ H' { s with heap:=h',gens:=g',drawn:=d',toks:=t' }:=by
 have neL:∀ b o,X.s₀.heap.get? b=some o->b≠X.env.locals:=fun b o e=>Nat.ne_of_lt (Nat.lt_of_lt_of_le (Heap.lt_size e) I.ok.above)
 have neC:∀ b o,X.s₀.heap.get? b=some o->b∉X.ex->b∉ch:=fun b o e hx hb=>by
  rcases(hch b hb).1 with z | z
  ·exact hx z
  ·exact absurd (Nat.lt_of_lt_of_le (Heap.lt_size e) z) (Nat.lt_irrefl _)
 have cellK:∀ x c,X.env.cells.lookup x=some c->∀ v,s.heap.IsCell c v->h'.IsCell c v:=fun x c e v ⟨o,ho,hd⟩=>by
  have nch:c∉ch:=fun z=>(hch c z).2.2.1 x c e rfl
  by_cases hc:c∈X.fs
  ·obtain⟨sl,q⟩:=slot c o (I.cne x c e) hc nch ho (I.freeC x c e)
   exact⟨_,q,hd⟩
  ·exact⟨o,keep c o (I.cne x c e) hc nch ho (I.freeC x c e),hd⟩
 refine⟨I.ok,I.os,hg,⟨fun b o e n hb hx=>?_,fun b o e n hb hx=>?_,fun b o e n hx=>?_,fun b o e hx=>?_,fun b xs e=>tups b xs (I.base.tups b xs e),fun b o xs e=>frzs b o xs (I.base.frzs b o xs e),fun b ps e=>?_⟩,?_,fun x c e=>?_,?_,fun x c e=>?_,fun p hp=>?_,hok,I.len⟩
 ·exact keep b o (neL b o e) hb (neC b o e hx) (I.base.keep b o e n hb hx) (I.base.free b o e n hx)
 ·obtain⟨sl,e1⟩:=I.base.slot b o e n hb hx
  obtain⟨sl',e2⟩:=slot b _ (neL b o e) hb (neC b o e hx) e1 (I.base.free b o e n hx)
  exact⟨sl',e2⟩
 ·obtain⟨o',e1⟩:=I.base.there b o e hx
  exact free b o' (neC b o e hx) e1 (I.base.free b o e n hx)
 ·obtain⟨o',e1⟩:=I.base.there b o e hx
  exact there b o' (neC b o e hx) e1
 ·obtain⟨m1,e1⟩:=I.base.tbls b ps e
  obtain⟨m2,e2⟩:=tbls b _ e1
  exact⟨m1++m2,by rw[e2,Array.append_assoc]⟩
 ·obtain⟨m,hn,hl⟩:=I.loc
  refine⟨m,ns m hn,fun i x v e1 e2 e3=>?_⟩
  obtain⟨u,r,l⟩:=hl i x v e1 e2 e3
  refine⟨u,r,?_⟩
  rcases l with l | ⟨k,c,e,z⟩
  ·exact .inl l
  ·exact .inr ⟨k,c,e,cellK x c e _ z⟩
 ·obtain⟨v,z⟩:=I.cell x c e
  exact⟨v,cellK x c e v z⟩
 ·obtain⟨m,⟨o,_,_,ho,_⟩,_⟩:=I.loc
  exact free _ o (fun z=>(hch _ z).2.1 rfl) ho I.free
 ·obtain⟨v,o,ho,hd⟩:=I.cell x c e
  exact free c o (fun z=>(hch c z).2.2.1 x c e rfl) ho (I.freeC x c e)
 ·obtain⟨e,n,ne,nf,d⟩:=I.pin p hp
  have nch:p.1∉ch:=fun z=>(hch p.1 z).2.2.2 p hp rfl
  exact⟨keep p.1 p.2 ne nf nch e n,free p.1 p.2 nch e n,ne,nf,d⟩
theorem Inv.un(I:Inv X pins σ H s)(u:Un X.fs [] H H' s.heap h')(hok:HOk X.prog X.w H' h'):Inv X pins σ H' { s with heap:=h',toks:=t' }:=by
 obtain⟨m,⟨o,es,ep,ho,r⟩,_⟩:=id I.loc
 obtain⟨sl,hL⟩:=u.any ho I.free (by simp)
 exact I.step (g':=s.gens) (d':=s.drawn) (ch:=[]) (fun _ z=>nomatch z) (fun b o _ hb _ e n=>u.keep b o e n hb (by simp)) (fun b o _ hb _ e n=>u.slot b o e n hb (by simp)) (fun b o _ e n=>u.free b o e n (by simp)) (fun b o _ e=>u.there b o e (by simp)) u.tups u.frzs u.tbls (fun m' hm=>by
  obtain⟨o',es',ep',ho',r'⟩:=hm
  rw[ho] at ho'; cases ho'
  exact⟨_,es',ep',hL,r'⟩) hok I.bare
theorem Inv.call{g':Array GenState}{d':Drawn}{ch:List Addr}(I:Inv X pins σ H s)(u:Un (frs X.stack) ch H H' s.heap h')(hok:HOk X.prog X.w H' h')(hg:AllBare g')(hch:∀ b∈ch,(b∈X.ex\/X.s₀.heap.objs.size<=b)/\b≠X.env.locals/\(∀ x c,X.env.cells.lookup x=some c->c≠b)/\∀ p∈X.pn++pins,p.1≠b):
  Inv X pins σ H' { s with heap:=h',gens:=g',drawn:=d',toks:=t' }:=by
 obtain⟨m,⟨o,es,ep,ho,r⟩,_⟩:=id I.loc
 obtain⟨sl,hL⟩:=u.any ho I.free fun z=>(hch _ z).2.1 rfl
 exact I.step (ch:=ch) hch (fun b o hL hb hc e n=>u.keep b o e n (fun z=>(List.mem_cons.mp (I.stkSub b z)).elim hL hb) hc) (fun b o _ _ hc e n=>u.any e n hc) (fun b o hc e n=>u.free b o e n hc) (fun b o hc e=>u.there b o e hc) u.tups u.frzs u.tbls (fun m' hm=>by
  obtain⟨o',es',ep',ho',r'⟩:=hm
  rw[ho] at ho'; cases ho'
  exact⟨_,es',ep',hL,r'⟩) hok hg
theorem Inv.turned{it:Addr}(I:Inv X pins σ H s)(k:∀ b o,b≠it->s.heap.get? b=some o->h'.get? b=some o)(hn:H it=none)(hL:it≠X.env.locals)(h1:it∈X.ex\/X.s₀.heap.objs.size<=it)(h2:∀ x c,X.env.cells.lookup x=some c->c≠it)(h3:∀ p∈X.pn++pins,p.1≠it):Inv X pins σ H { s with heap:=h',toks:=t' }:=by
 have nit:∀ b u,H b=some u->b≠it:=fun b u e z=>by rw[z,hn] at e; cases e
 refine I.step (g':=s.gens) (d':=s.drawn) (ch:=[it]) (fun b hb=>?_) (fun b o _ _ hc e _=>k b o (fun z=>hc (by simp[z])) e) (fun b o _ _ hc e _=>⟨o.slots,k b o (fun z=>hc (by simp[z])) e⟩) (fun _ _ _ _ n=>n)
  (fun b o hc e=>⟨o,k b o (fun z=>hc (by simp[z])) e⟩) (fun _ _ e=>e) (fun _ _ _ e=>e) (fun b ps e=>⟨#[],by rw[e]; simp⟩) (fun m hm=>?_) (fun b u e=>?_) I.bare
 ·have e:b=it:=by simpa using hb
  subst e
  exact⟨h1,hL,h2,h3⟩
 ·obtain⟨o,es,ep,ho,r⟩:=hm
  exact⟨o,es,ep,k _ o (Ne.symm hL) ho,r⟩
 ·refine(I.hok b u e).stay (fun c v hc q=>k c v ?_ q) (fun _ q=>q) fun _ _ q=>q
  rcases hc with z | z
  ·rw[z]; exact nit b u e
  ·exact nit c _ z
theorem Inv.tok(I:Inv X pins σ H s)(t:Nat):Inv X pins σ H { s with toks:=t }:=I.un (h':=s.heap) (t':=t) Un.refl I.hok
theorem Inv.kept(I:Inv X pins σ H s)(k:∀ b u,s.heap.get? b=some u->h'.get? b=some u):Inv X pins σ H { s with heap:=h',toks:=t' }:=I.un (Un.kept k) (I.hok.kept k)
theorem Inv.laid(I:Inv X pins σ H s)(k:∀ b u,s.heap.get? b=some u->h'.get? b=some u)(hp:s.heap.objs.size<=a)(new:Jt X.prog X.w (upd H a o) h' a o):
  Inv X pins σ (upd H a o) { s with heap:=h',toks:=t' }:=I.un (Un.laid k hp (I.hok.fresh hp)) (I.hok.laid k hp new)
theorem Inv.write{x e:Addr}(I:Inv X pins σ H s)(mu:Mut (H x))(he:e=x\/H e=some (.own x))(k:∀ b u,b≠e->s.heap.get? b=some u->h'.get? b=some u)(heo:∃ u,h'.get? e=some u)(new:Jt X.prog X.w (upd H x o) h' x o):Inv X pins σ (upd H x o) { s with heap:=h',toks:=t' }:=I.un (Un.write mu he k heo) (I.hok.write mu he k heo new)
theorem Inv.pins_of{pins':List (Addr×Obj)}(I:Inv X pins σ H s)(h:∀ p∈pins',s.heap.get? p.1=some p.2/\H p.1=none/\p.1≠X.env.locals/\p.1∉X.fs/\∀ v,p.2.data≠.cell v):Inv X pins' σ H s:=
 ⟨I.ok,I.os,I.bare,I.base,I.loc,I.cell,I.free,I.freeC,fun p hp=>(List.mem_append.mp hp).elim (fun z=>I.pin p (List.mem_append_left _ z)) (h p),I.hok,I.len⟩
theorem Gav(hN:N.Nodup){i:Nat}(a:N[i]?=some x)(b:N[j]?=some x):i=j:=by
 obtain⟨h1,e1⟩:=List.getElem?_eq_some_iff.mp a
 obtain⟨h2,e2⟩:=List.getElem?_eq_some_iff.mp b
 exact(List.getElem_inj hN).mp (e1.trans e2.symm)
theorem Gca{i:Nat}{Q:Unit->Shared->Prop}(I:Inv X pins σ H s)(hN:X.N.Nodup)(hi:X.N[i]?=some x)(hx:Loc X.env.scope x)(r:Ha v u)(h:∀ s',Inv X pins (σ.set i (some v)) H s'->(∃ a,Heap.SameBut a s.heap s'.heap/\(a=X.env.locals\/X.env.cells.lookup x=some a))->Q () s')(hf:X.fn x=true\/X.env.scope.names.lookup x=some .local:=by first | exact .inl rfl | exact .inr rfl | assumption):wpAny M A (storeName X.env x u) Q E s:=by
 obtain⟨m,hn,hl⟩:=id I.loc
 have hcls:(X.env.scope.kind==.class||(X.env.scope.kind==.module&&X.env.locals != X.env.globals))=false:=by rw[I.ok.kind]; rfl
 have hiσ:i<σ.length:=by rw[I.len]; exact(List.getElem?_eq_some_iff.mp hi).1
 have cne:=I.cne
 have tracked:∀ {a:Addr} {h':Heap},(∃ o,s.heap.get? a=some o/\H a=none)->Heap.SameBut a s.heap h'->HOk X.prog X.w H h':=fun{a h'} ha hs b ob e=>by
  obtain⟨_,_,hfree⟩:=ha
  refine(I.hok b ob e).stay (fun c w' hc q=>(hs.2 c ?_).trans q) (fun _ q=>q) fun _ _ q=>q
  rintro rfl
  rcases hc with rfl | hc
  ·rw[hfree] at e; cases e
  ·rw[hfree] at hc; cases hc
 rcases hx with hk | hk
 ·refine wpAny_storeName_local hk hn (fun h' hn' hs=>?_) hcls
  obtain⟨oL,_,_,hoL,_⟩:=id hn
  refine h _ ⟨I.ok,I.os,I.bare,⟨fun b o e n hb hx=>?_,fun b o e n hb hx=>?_,I.base.free,fun b o e hx=>?_,I.base.tups,I.base.frzs,I.base.tbls⟩,⟨_,hn',fun j y v' e1 e2 e3=>?_⟩,fun y c e=>?_,I.free,I.freeC,fun p hp=>?_,tracked ⟨oL,hoL,I.free⟩ hs,by simpa using I.len⟩ ⟨_,hs,.inl rfl⟩
  ·exact(hs.2 b (Nat.ne_of_lt (Nat.lt_of_lt_of_le (Heap.lt_size e) I.ok.above))).trans (I.base.keep b o e n hb hx)
  ·obtain⟨sl,e1⟩:=I.base.slot b o e n hb hx
   exact⟨sl,(hs.2 b (Nat.ne_of_lt (Nat.lt_of_lt_of_le (Heap.lt_size e) I.ok.above))).trans e1⟩
  ·obtain⟨o',e1⟩:=I.base.there b o e hx
   exact⟨o',(hs.2 b (Nat.ne_of_lt (Nat.lt_of_lt_of_le (Heap.lt_size e) I.ok.above))).trans e1⟩
  ·by_cases hj:j=i
   ·subst hj
    rw[hi] at e1; cases e1
    rw[List.getElem?_set_self hiσ] at e2
    cases e2
    exact⟨u,r,.inl ⟨hk,by simp⟩⟩
   ·rw[List.getElem?_set_ne (Ne.symm hj)] at e2
    obtain⟨u',r',q⟩:=hl j y v' e1 e2 e3
    refine⟨u',r',?_⟩
    rcases q with⟨k,e⟩ | ⟨k,c,e,z⟩
    ·refine .inl ⟨k,?_⟩
     have:y≠x:=fun e=>hj (Gav hN e1 (e▸hi))
     simp[this,e]
    ·exact .inr ⟨k,c,e,z.sameBut hs (cne y c e)⟩
  ·obtain⟨w',z⟩:=I.cell y c e
   exact⟨w',z.sameBut hs (cne y c e)⟩
  ·obtain⟨e,n,ne,nf,d⟩:=I.pin p hp
   exact⟨(hs.2 p.1 ne).trans e,n,ne,nf,d⟩
 ·have hfn:X.fn x=true:=by
   rcases hf with z | z
   ·exact z
   ·rw[z] at hk; cases hk
  obtain⟨c,hc⟩:=I.ok.has x (.inl hk)
  obtain⟨w',z⟩:=I.cell x c hc
  refine wpAny_storeName_cell I.ok.kind hk hc z (fun h' hc' hs=>?_)
  obtain⟨oc,hoc,hocd⟩:=id z
  refine h { s with heap:=h' } ⟨I.ok,I.os,I.bare,⟨fun b o e n hb hx=>?_,fun b o e n hb hx=>?_,I.base.free,fun b o e hx=>?_,I.base.tups,I.base.frzs,I.base.tbls⟩,⟨m,hn.sameBut hs (Ne.symm (cne x c hc)),fun j y v' e1 e2 e3=>?_⟩,fun y c' e=>?_,I.free,I.freeC,fun p hp=>?_,tracked ⟨oc,hoc,I.freeC x c hc⟩ hs,by simpa using I.len⟩ ⟨c,hs,.inr hc⟩
  ·exact(hs.2 b (Nat.ne_of_lt (Nat.lt_of_lt_of_le (Heap.lt_size e) (I.ok.cab x c hfn hc)))).trans (I.base.keep b o e n hb hx)
  ·obtain⟨sl,e1⟩:=I.base.slot b o e n hb hx
   exact⟨sl,(hs.2 b (Nat.ne_of_lt (Nat.lt_of_lt_of_le (Heap.lt_size e) (I.ok.cab x c hfn hc)))).trans e1⟩
  ·obtain⟨o',e1⟩:=I.base.there b o e hx
   exact⟨o',(hs.2 b (Nat.ne_of_lt (Nat.lt_of_lt_of_le (Heap.lt_size e) (I.ok.cab x c hfn hc)))).trans e1⟩
  ·by_cases hj:j=i
   ·subst hj
    rw[hi] at e1; cases e1
    rw[List.getElem?_set_self hiσ] at e2
    cases e2
    exact⟨u,r,.inr ⟨.inl hk,c,hc,hc'⟩⟩
   ·rw[List.getElem?_set_ne (Ne.symm hj)] at e2
    obtain⟨u',r',q⟩:=hl j y v' e1 e2 e3
    refine⟨u',r',?_⟩
    rcases q with q | ⟨k,c',e,z'⟩
    ·exact .inl q
    ·refine .inr ⟨k,c',e,z'.sameBut hs ?_⟩
     rintro rfl
     exact hj (Gav hN e1 (I.ok.inj _ _ _ e hc▸hi))
  ·by_cases hcc:c'=c
   ·subst hcc; exact⟨_,hc'⟩
   ·obtain⟨w2,z2⟩:=I.cell y c' e
    exact⟨w2,z2.sameBut hs hcc⟩
  ·obtain⟨e,n,ne,nf,d⟩:=I.pin p hp
   refine⟨(hs.2 p.1 ?_).trans e,n,ne,nf,d⟩
   intro q
   rw[q,hoc] at e
   have q':oc=p.2:=Option.some.inj e
   exact d w' (by rw[<- q']; exact hocd)
theorem Yk{i:Nat}{Q:Unit->Shared->Prop}(I:Inv X pins σ H s)(hN:X.N.Nodup)(hi:X.N[i]?=some x)(hx:Loc X.env.scope x)(r:Ha v u)(h:∀ s',Inv X pins (σ.set i (some v)) H s'->Q () s')(hf:X.fn x=true\/X.env.scope.names.lookup x=some .local:=by first | exact .inl rfl | exact .inr rfl | assumption):wpAny M A (storeName X.env x u) Q E s:=
 Gca I hN hi hx r (fun s' I' _=>h s' I') hf
theorem Inv.call'{s':Shared}{ch:List Addr}(I:Inv X pins σ H s)(ho:s'.os=s.os)(u:Un (frs X.stack) ch H H' s.heap s'.heap)(hok:HOk X.prog X.w H' s'.heap)(hg:AllBare s'.gens)
  (hch:∀ b∈ch,(b∈X.ex\/X.s₀.heap.objs.size<=b)/\b≠X.env.locals/\(∀ x c,X.env.cells.lookup x=some c->c≠b)/\∀ p∈X.pn++pins,p.1≠b):Inv X pins σ H' s':=by
 obtain⟨h',g',d',t',o'⟩:=s'
 have e:o'=s.os:=ho
 subst e
 exact I.call (g':=g') (t':=t') (d':=d') u hok hg hch
end
abbrev XK:=Value->Option Addr->Hp->Prop
abbrev St:=List (Option V)
variable{σ:St}
abbrev VK:=V->Hp->Prop
abbrev TE:=St->Hp->VK->Prop
variable{te:TE}
abbrev TT:=St->Hp->(Bool->Hp->Prop)->Prop
abbrev TA:=St->Hp->(List V->Hp->Prop)->Prop
structure Ends where
 nx:St->Hp->Prop
 rt:VK
 bk:St->Hp->Prop:=fun _ _=>False
 ct:St->Hp->Prop:=fun _ _=>False
abbrev TS:=Ends->St->Hp->Prop
def EP(X:Cx)(pins:List (Addr×Obj))(σ:St)(Q:VK)(u:Value)(s':Shared):Prop:=∃ v H',Inv X pins σ H' s'/\Ha v u/\Q v H'
def TP(X:Cx)(pins:List (Addr×Obj))(σ:St)(Q:Bool->Hp->Prop)(b:Bool)(s':Shared):Prop:=∃ H',Inv X pins σ H' s'/\Q b H'
def AP(X:Cx)(pins:List (Addr×Obj))(σ:St)(Q:List V->Hp->Prop)(us:List Value)(s':Shared):Prop:=∃ vs H',Inv X pins σ H' s'/\Vals vs us/\Q vs H'
def SP(X:Cx)(pins:List (Addr×Obj))(D:Ends)(f:Flow)(s':Shared):Prop:=
 match f with
 | .next=>∃ σ' H',Inv X pins σ' H' s'/\D.nx σ' H'
 | .brk=>∃ σ' H',Inv X pins σ' H' s'/\D.bk σ' H'
 | .cont=>∃ σ' H',Inv X pins σ' H' s'/\D.ct σ' H'
 | .ret u=>∃ v σ' H',Inv X pins σ' H' s'/\Ha v u/\D.rt v H'
def PE(X:Cx)(e:Expr)(t:TE):Prop:=
 ∀ (pins:List (Addr×Obj)) (s:Shared) (σ:St) (H:Hp) (Q:VK),Inv X pins σ H s->t σ H Q->wpAny (model X.prog X.w) X.A (eval e X.env) (EP X pins σ Q) X.xe s
def PT(X:Cx)(e:Expr)(t:TT):Prop:=
 ∀ (pins:List (Addr×Obj)) (s:Shared) (σ:St) (H:Hp) (Q:Bool->Hp->Prop),Inv X pins σ H s->t σ H Q->wpAny (model X.prog X.w) X.A (isTrue e X.env (eval e X.env)) (TP X pins σ Q) X.xe s
def PW(X:Cx)(e:Expr)(t:TT):Prop:=
 ∀ (whole:Sem Value) (pins:List (Addr×Obj)) (s:Shared) (σ:St) (H:Hp) (Q:Bool->Hp->Prop),Inv X pins σ H s->t σ H Q->wpAny (model X.prog X.w) X.A (isTrue e X.env whole) (TP X pins σ Q) X.xe s
theorem PW.pt{e:Expr}{t:TT}(h:PW X e t):PT X e t:=h _
def PA(X:Cx)(es:List Expr)(t:TA):Prop:=
 ∀ (pos:Pos) (pins:List (Addr×Obj)) (s:Shared) (σ:St) (H:Hp) (Q:List V->Hp->Prop),Inv X pins σ H s->t σ H Q->wpAny (model X.prog X.w) X.A (spliced (backTo pos (starEach es X.env))) (AP X pins σ Q) X.xe s
def PS(X:Cx)(st:Stmt)(t:TS):Prop:=
 ∀ (pins:List (Addr×Obj)) (s:Shared) (σ:St) (H:Hp) (D:Ends),Inv X pins σ H s->t D σ H->wpAny (model X.prog X.w) X.A (exec st X.env) (SP X pins D) X.xe s
def PSs(X:Cx)(st:List Stmt)(t:TS):Prop:=
 ∀ (pins:List (Addr×Obj)) (s:Shared) (σ:St) (H:Hp) (D:Ends),Inv X pins σ H s->t D σ H->wpAny (model X.prog X.w) X.A (execs st X.env) (SP X pins D) X.xe s
theorem thn{α:Type}{t:Sem α}{Q Q':α->Shared->Prop}{s:Shared}(h:wpAny M A t Q E s)(hQ:∀ a s,Q a s->Q' a s):wpAny M A t Q' E s:=wpAny_mono h hQ fun _ _ x=>x
section
variable{X:Cx}
def Ggo(i:Nat):TE:=fun σ H Q=>∃ v,σ[i]?=some (some v)/\Q v H
def tC(v:V):TE:=fun _ H Q=>Q v H
theorem Zf{i:Nat}(hN:X.N[i]?=some x)(hv:Vis X.env.scope x)(hd:(x==("__debug__":Str))=false:=by decide)(hcd:(x==("__classdict__":Str))=false:=by decide):PE X (.Name x pos) (Ggo i):=by
 intro pins s σ H Q I h
 obtain⟨v,e,h⟩:=h
 obtain⟨m,hn,hl⟩:=I.loc
 obtain⟨u,r,l⟩:=hl i x v hN e hv
 have fin:EP X pins σ Q u s:=⟨v,H,I,r,h⟩
 rcases l with⟨hk,hm⟩ | ⟨hk,c,hc,hcell⟩
 ·exact wpAny_Name (wpAny_loadName_local I.ok.kind hk hn hm fin) hd
 ·rcases hk with hk | hk
  ·exact wpAny_Name (wpAny_loadName_cell I.ok.kind hk hc hcell fin) hd
  ·exact wpAny_Name (wpAny_loadName_free I.ok.kind hk hc hcell fin hcd) hd
theorem Gpa{i j pos}:PE X (.Constant (.int i) j pos) (tC (.int i)):=fun _ _ _ H _ I h=>wpAny_Constant_int ⟨.int i,H,I.tok _,⟨_,rfl⟩,h⟩
theorem Gt0{b j pos}:PE X (.Constant (.bool b) j pos) (tC (.bl b)):=fun _ _ _ H _ I h=>Constant_bool ⟨.bl b,H,I,rfl,h⟩
theorem Gpb{j pos}:PE X (.Constant .none j pos) (tC .non):=fun _ _ _ H _ I h=>Constant_none ⟨.non,H,I,rfl,h⟩
theorem Ght{x j pos}:PE X (.Constant (.str x) j pos) (tC (.str x)):=fun _ _ _ H _ I h=>Calls.Constant_str ⟨.str x,H,I.tok _,⟨_,rfl⟩,h⟩
def Gl(X:Cx)(x:Str):Prop:=X.env.kindOf x=some .globalImplicit
theorem Xl{s:Shared}(I:Inv X pins σ H s)(hg:Gl X x)(hm:X.mg x=some u)(h:Q u s)(hd:(x==("__debug__":Str))=false:=by decide):wpAny (model X.prog X.w) X.A (eval (.Name x pos) X.env) Q E s:=
 Calls.Name_function_global I.ok.kind hg (Calls.loadGlobal_global (by rw[I.ok.glob]; exact I.mod.glob.keeps I.bk) hm h) hd
theorem Wr{s:Shared}(I:Inv X pins σ H s)(hg:Gl X x)(hm:X.mg x=none)(hv:bootBuiltins x=some u)(h:Q u s)(hn:x≠"__name__":=by decide)(hd:(x==("__debug__":Str))=false:=by decide):wpAny (model X.prog X.w) X.A (eval (.Name x pos) X.env) Q E s:=by
 obtain⟨mb,h1,h2⟩:=I.mod.blt
 exact Calls.Name_function_global I.ok.kind hg (Calls.loadGlobal_builtin (by rw[I.ok.glob]; exact I.mod.glob.keeps I.bk) hm (by rw[I.ok.blt]; exact h1.keeps I.bk) ((h2 x hn).trans hv) h) hd
theorem Gct(hg:Gl X x)(hm:X.mg x=some u)(r:Ha v u)(hd:(x==("__debug__":Str))=false:=by decide):PE X (.Name x pos) (tC v):=
 fun _ _ _ H _ I h=>Xl I hg hm ⟨v,H,I,r,h⟩ hd
theorem Gft(hg:Gl X x)(hm:X.mg x=none)(hv:bootBuiltins x=some u)(r:Ha v u)(hn:x≠"__name__":=by decide)(hd:(x==("__debug__":Str))=false:=by decide):PE X (.Name x pos) (tC v):=
 fun _ _ _ H _ I h=>Wr I hg hm hv ⟨v,H,I,r,h⟩ hn hd
variable{a b:Expr}{ta tb:TE}{pos:Pos}
variable{tA tB':TT}{rest:List Expr}
def Gv9(t u:TT):TT:=fun σ H Q=>t σ H fun c H1=>if c=true then u σ H1 Q else Q false H1
def tOr(t u:TT):TT:=fun σ H Q=>t σ H fun c H1=>if c=true then Q true H1 else u σ H1 Q
def Gwa(t:TT):TT:=fun σ H Q=>t σ H fun c H1=>Q (!c) H1
theorem Gk3(ha:PT X a tA):PW X (.BoolOp .And [a] pos) tA:=by
 intro wh pins s σ H Q I h
 refine isTrue_and (thn (ha pins s σ H Q I h) fun c s1 e=>?_)
 cases c with
 | true=>exact isTrue_and_nil e
 | false=>exact e
theorem Gpc(ha:PT X a tA):PW X (.BoolOp .Or [a] pos) tA:=by
 intro wh pins s σ H Q I h
 refine isTrue_or (thn (ha pins s σ H Q I h) fun c s1 e=>?_)
 cases c with
 | false=>exact isTrue_or_nil e
 | true=>exact e
theorem Gpd(ha:PT X a tA)(hb:PW X (.BoolOp .And (b::rest) pos) tB'):PW X (.BoolOp .And (a::b::rest) pos) (Gv9 tA tB'):=by
 intro wh pins s σ H Q I h
 refine isTrue_and (thn (ha pins s σ H _ I h) fun c s1 ⟨H1,I1,q1⟩=>?_)
 cases c with
 | true=>exact hb wh pins s1 σ H1 Q I1 q1
 | false=>exact⟨H1,I1,q1⟩
theorem Gt1(ha:PT X a tA)(hb:PW X (.BoolOp .Or (b::rest) pos) tB'):PW X (.BoolOp .Or (a::b::rest) pos) (tOr tA tB'):=by
 intro wh pins s σ H Q I h
 refine isTrue_or (thn (ha pins s σ H _ I h) fun c s1 ⟨H1,I1,q1⟩=>?_)
 cases c with
 | true=>exact⟨H1,I1,q1⟩
 | false=>exact hb wh pins s1 σ H1 Q I1 q1
theorem Gpe(ha:PT X a tA):PT X (.UnaryOp .Not a pos) (Gwa tA):=by
 intro pins s σ H Q I h
 exact isTrue_not (ha pins s σ H (fun c H1=>Q (!c) H1) I h)
def Gt2(ta tb:TE):TE:=fun σ H Q=>ta σ H fun x H1=>∃ c,x=.bl c/\if c=true then tb σ H1 Q else Q (.bl false) H1
def Gwb(ta tb:TE):TE:=fun σ H Q=>ta σ H fun x H1=>∃ c,x=.bl c/\if c=true then Q (.bl true) H1 else tb σ H1 Q
def Gt3(ta:TE):TE:=fun σ H Q=>ta σ H fun x H1=>∃ c,x=.bl c/\Q (.bl (!c)) H1
theorem Gpf{op}{t:TE}(h:PE X a t):PE X (.BoolOp op [a] pos) t:=fun pins s σ H Q I hw=>BoolOp_one (h pins s σ H Q I hw)
theorem Gpg(ha:PE X a ta)(hb:PE X (.BoolOp .And (b::rest) pos) tb):PE X (.BoolOp .And (a::b::rest) pos) (Gt2 ta tb):=by
 intro pins s σ H Q I h
 refine BoolOp_and (thn (ha pins s σ H _ I h) fun v s1 ⟨x,H1,I1,r1,q1⟩=>?_)
 obtain⟨c,rfl,q1⟩:=q1
 cases r1
 refine wpAny_truthy_bool ?_
 cases c with
 | true=>exact hb pins s1 σ H1 Q I1 q1
 | false=>exact⟨.bl false,H1,I1,rfl,q1⟩
theorem Gt4(ha:PE X a ta)(hb:PE X (.BoolOp .Or (b::rest) pos) tb):PE X (.BoolOp .Or (a::b::rest) pos) (Gwb ta tb):=by
 intro pins s σ H Q I h
 refine BoolOp_or (thn (ha pins s σ H _ I h) fun v s1 ⟨x,H1,I1,r1,q1⟩=>?_)
 obtain⟨c,rfl,q1⟩:=q1
 cases r1
 refine wpAny_truthy_bool ?_
 cases c with
 | false=>exact hb pins s1 σ H1 Q I1 q1
 | true=>exact⟨.bl true,H1,I1,rfl,q1⟩
theorem Gph(ha:PE X a ta):PE X (.UnaryOp .Not a pos) (Gt3 ta):=by
 intro pins s σ H Q I h
 refine UnaryOp_ (thn (ha pins s σ H _ I h) fun v s1 ⟨x,H1,I1,r1,q1⟩=>?_)
 obtain⟨c,rfl,q1⟩:=q1
 cases r1
 exact not_of (wpAny_truthy_bool ⟨.bl (!c),H1,I1,rfl,q1⟩)
def tIf(t:TT)(ta tb:TE):TE:=fun σ H Q=>t σ H fun c H1=>if c=true then ta σ H1 Q else tb σ H1 Q
theorem Ghu{c:Expr}(hc:PT X c tA)(ha:PE X a ta)(hb:PE X b tb):PE X (.IfExp c a b pos) (tIf tA ta tb):=by
 intro pins s σ H Q I h
 refine wpAny_IfExp (thn (hc pins s σ H _ I h) fun d s1 ⟨H1,I1,q1⟩=>?_)
 cases d with
 | true=>exact ha pins s1 σ H1 Q I1 q1
 | false=>exact hb pins s1 σ H1 Q I1 q1
end
def SqL(K:PySem.W.Frag)(H:Hp)(a:Addr)(xs:List V):Prop:=
 Rd H a (.lst xs)∨
  ∃ (o:Obj) (its:Array Value) (n:Nat),K.lookup a=some o/\o.cls=.type "list"/\o.dict=none/\o.data=.seq its n/\its.size<=sizeLine/\Vals xs its.toList
def SqT(K:PySem.W.Frag)(H:Hp)(a:Addr)(xs:List V):Prop:=
 Rd H a (.tup xs)∨
  ∃ (o:Obj) (its:Array Value) (n:Nat),K.lookup a=some o/\o.cls=.type "tuple"/\o.data=.seq its n/\its.size<=sizeLine/\Vals xs its.toList
def Gwc:Value->Option V
 | .none=>some .non
 | .bool b=>some (.bl b)
 | .int i _=>some (.int i)
 | .str x _=>some (.str x)
 | .bytes b _=>some (.byt b)
 | .float b _=>some (.flt b)
 | .ref a=>some (.ref a)
 | .type n=>some (.ty n)
 | _=>none
theorem Ha.abs{x:V}(r:Ha x u):Gwc u=some x:=by
 cases x with
 | non=>cases r; rfl
 | bl _=>cases r; rfl
 | int _=>obtain⟨t,rfl⟩:=r; rfl
 | str _=>obtain⟨t,rfl⟩:=r; rfl
 | byt _=>obtain⟨t,rfl⟩:=r; rfl
 | flt _=>obtain⟨t,rfl⟩:=r; rfl
 | ref _=>cases r; rfl
 | ty _=>cases r; rfl
theorem Ha.inj{x y:V}(r:Ha x u)(q:Ha y u):x=y:=Option.some.inj (r.abs.symm.trans q.abs)
theorem Vals.inj:∀ {xs ys:List V} {us:List Value},Vals xs us->Vals ys us->xs=ys
 | _,_,_,.nil,.nil=>rfl
 | _,_,_,.cons r t,.cons r' t'=>by rw[r.inj r',Vals.inj t t']
section
variable{X:Cx}{pins:List (Addr×Obj)}{σ:St}{H:Hp}{s:Shared}{a:Addr}{xs ys:List V}
theorem SqL.of(h:H a=some (.lst xs)):SqL K H a xs:=.inl (.inl h)
theorem SqT.of(h:H a=some (.tup xs)):SqT K H a xs:=.inl (.inl h)
theorem Inv.list(I:Inv X pins σ H s)(h:SqL X.K H a xs):∃ its:List Value,Vals xs its/\PlainL s.heap a its.toArray/\xs.length<=sizeLine:=by
 rcases h with h | ⟨o,its,n,hk,hc,hd,hs,hz,r⟩
 ·obtain⟨z,its,n,r,e⟩:=h.ok I.hok
  exact⟨its,r,⟨_,n,e,rfl,rfl,rfl⟩,z⟩
 ·refine⟨its.toList,r,⟨o,n,I.kIn a o hk,hc,hd,by simpa using hs⟩,?_⟩
  have e:=r.length
  simp only[Array.length_toList] at e
  omega
theorem Inv.tuple(I:Inv X pins σ H s)(h:SqT X.K H a xs):∃ its:List Value,Vals xs its/\IsTup s.heap a its.toArray/\xs.length<=sizeLine:=by
 rcases h with h | ⟨o,its,n,hk,hc,hs,hz,r⟩
 ·obtain⟨z,its,r,p⟩:=h.ok I.hok
  exact⟨its,r,p,z⟩
 ·refine⟨its.toList,r,⟨o,I.kIn a o hk,hc,n,by simpa using hs⟩,?_⟩
  have e:=r.length
  simp only[Array.length_toList] at e
  omega
theorem Inv.list_inj(I:Inv X pins σ H s)(h:SqL X.K H a xs)(h':SqL X.K H a ys):xs=ys:=by
 obtain⟨its,r,⟨o,n,e,_,_,d⟩,_⟩:=I.list h
 obtain⟨its',r',⟨o',n',e',_,_,d'⟩,_⟩:=I.list h'
 rw[e] at e'; cases e'
 rw[d] at d'
 injection d' with d1 _
 have:its=its':=by simpa using congrArg Array.toList d1
 subst this
 exact r.inj r'
theorem Inv.tuple_inj(I:Inv X pins σ H s)(h:SqT X.K H a xs)(h':SqT X.K H a ys):xs=ys:=by
 obtain⟨its,r,⟨o,e,_,n,d⟩,_⟩:=I.tuple h
 obtain⟨its',r',⟨o',e',_,n',d'⟩,_⟩:=I.tuple h'
 rw[e] at e'; cases e'
 rw[d] at d'
 injection d' with d1 _
 have:its=its':=by simpa using congrArg Array.toList d1
 subst this
 exact r.inj r'
end
abbrev Cx.wish(X:Cx)(E:Value->Shared->Prop):Cx:={ X with xe:=E }
abbrev Cx.nox(X:Cx):Cx:=X.wish fun _ _=>False
theorem Cx.Ok.wish(ok:X.Ok)(E:Value->Shared->Prop):(X.wish E).Ok:=
 ⟨ok.mod,ok.kind,ok.glob,ok.blt,ok.above,ok.inj,ok.has,ok.cab,ok.hd,ok.frames,ok.stk,ok.exf,ok.bs,ok.bsz,ok.noex,ok.exfs,ok.funs,ok.frf⟩
theorem Cx.Ok.unwish(ok:(X.wish E).Ok):X.Ok:=
 ⟨ok.mod,ok.kind,ok.glob,ok.blt,ok.above,ok.inj,ok.has,ok.cab,ok.hd,ok.frames,ok.stk,ok.exf,ok.bs,ok.bsz,ok.noex,ok.exfs,ok.funs,ok.frf⟩
section
variable{X:Cx}{pins:List (Addr×Obj)}{σ:St}{H:Hp}{s:Shared}{E:Value->Shared->Prop}
theorem Inv.wish(I:Inv X pins σ H s)(E:Value->Shared->Prop):Inv (X.wish E) pins σ H s:=⟨I.ok.wish E,I.os,I.bare,I.base,I.loc,I.cell,I.free,I.freeC,I.pin,I.hok,I.len⟩
theorem Inv.unwish(I:Inv (X.wish E) pins σ H s):Inv X pins σ H s:=⟨I.ok.unwish,I.os,I.bare,I.base,I.loc,I.cell,I.free,I.freeC,I.pin,I.hok,I.len⟩
theorem SP.unwish{D:Ends}{f:Flow}{s':Shared}(h:SP (X.wish E) pins D f s'):SP X pins D f s':=by
 cases f with
 | next=>obtain⟨σ',H',I,q⟩:=h; exact⟨σ',H',I.unwish,q⟩
 | brk=>obtain⟨σ',H',I,q⟩:=h; exact⟨σ',H',I.unwish,q⟩
 | cont=>obtain⟨σ',H',I,q⟩:=h; exact⟨σ',H',I.unwish,q⟩
 | ret u=>obtain⟨v,σ',H',I,r,q⟩:=h; exact⟨v,σ',H',I.unwish,r,q⟩
theorem PSs.nox{st:List Stmt}{t:TS}(h:PSs X.nox st t):PSs X st t:=fun pins s σ H D I hw=>
 wpAny_mono (h pins s σ H D (I.wish _) hw) (fun _ _ q=>q.unwish) fun _ _ z=>False.elim z
end
section
variable{X:Cx}{st:Stmt}{rest:List Stmt}{t u:TS}{e:Expr}{te:TE}{pos:Pos}
def Gt5:TS:=fun D σ H=>D.nx σ H
def Gt6(t u:TS):TS:=fun D σ H=>t { D with nx:=u D } σ H
theorem Gk4:PSs X [] Gt5:=fun _ _ σ H _ I h=>wpAny_execs_nil ⟨σ,H,I,h⟩
theorem Gdv(h1:PS X st t)(h2:PSs X rest u):PSs X (st::rest) (Gt6 t u):=by
 intro pins s σ H D I h
 refine wpAny_execs_cons (thn (h1 pins s σ H { D with nx:=u D } I h) fun f s1 q=>?_)
 cases f with
 | next=>
  obtain⟨σ',H',I',q⟩:=q
  exact h2 pins s1 σ' H' D I' q
 | ret v=>exact q
 | brk=>exact q
 | cont=>exact q
theorem Gcu(h1:PS X st t):PSs X [st] t:=by
 intro pins s σ H D I h
 refine wpAny_execs_cons (thn (h1 pins s σ H D I h) fun f s1 q=>?_)
 cases f with
 | next=>exact wpAny_execs_nil q
 | ret v=>exact q
 | brk=>exact q
 | cont=>exact q
theorem Inv.quiet{s:Shared}(I:Inv X pins σ H s):interactive X.env=false:=by simp[interactive,I.ok.kind]
def Ghv(te:TE):TS:=fun D σ H=>te σ H fun _ H1=>D.nx σ H1
theorem Gcv(he:PE X e te)(hs:swapsWith e none pos.line X.env=pure false:=by rfl):PS X (.Expr e pos) (Ghv te):=by
 intro pins s σ H D I h
 exact wpAny_Expr_any (thn (he pins s σ H _ I h) fun v s1 ⟨x,H1,I1,r1,q1⟩=>⟨σ,H1,I1,q1⟩) I.quiet hs
def Gwd(te:TE):TS:=fun D σ H=>te σ H D.rt
theorem Gpi(he:PE X e te):PS X (.Return (some e) pos) (Gwd te):=by
 intro pins s σ H D I h
 exact wpAny_Return_some (thn (he pins s σ H _ I h) fun v s1 ⟨x,H1,I1,r1,q1⟩=>⟨x,σ,H1,I1,r1,q1⟩)
def Gwe(c:TT)(t u:TS):TS:=fun D σ H=>c σ H fun b H1=>if b=true then t D σ H1 else u D σ H1
theorem Gt7{c:Expr}{a b:List Stmt}{tc:TT}(hc:PT X c tc)(ha:PSs X a t)(hb:PSs X b u):PS X (.If c a b pos) (Gwe tc t u):=by
 intro pins s σ H D I h
 refine wpAny_If (thn (hc pins s σ H _ I h) fun d s1 ⟨H1,I1,q1⟩=>?_)
 cases d with
 | true=>exact ha pins s1 σ H1 D I1 q1
 | false=>exact hb pins s1 σ H1 D I1 q1
end
abbrev TG:=V->St->Hp->(St->Hp->Prop)->Prop
abbrev TGs:=List V->St->Hp->(St->Hp->Prop)->Prop
def PG(X:Cx)(target:Expr)(t:TG):Prop:=
 ∀ (pins:List (Addr×Obj)) (s:Shared) (σ:St) (H:Hp) (v:V) (u:Value) (Q:St->Hp->Prop),Inv X pins σ H s->Ha v u->t v σ H Q→
  wpAny (model X.prog X.w) X.A (assign target X.env u) (fun _ s'=>∃ σ' H',Inv X pins σ' H' s'/\Q σ' H') X.xe s
def PGs(X:Cx)(ts:List Expr)(t:TGs):Prop:=
 ∀ (pins:List (Addr×Obj)) (s:Shared) (σ:St) (H:Hp) (vs:List V) (us:List Value) (Q:St->Hp->Prop),Inv X pins σ H s->Vals vs us->t vs σ H Q→
  wpAny (model X.prog X.w) X.A (assignInOrder ((assignEach ts X.env).map (·.2)) us) (fun _ s'=>∃ σ' H',Inv X pins σ' H' s'/\Q σ' H') X.xe s
abbrev Ghw:=V->V->V->Hp->(Hp->Prop)->Prop
def Gpj(X:Cx)(t:Ghw):Prop:=
 ∀ (pins:List (Addr×Obj)) (s:Shared) (σ:St) (H:Hp) (o i v:V) (ov iv u:Value) (Q:Hp->Prop),Inv X pins σ H s->Ha o ov->Ha i iv->Ha v u->t o i v H Q→
  wpAny (model X.prog X.w) X.A (setItem ov iv u) (fun _ s'=>∃ H',Inv X pins σ H' s'/\Q H') X.xe s
abbrev TIp:=V->V->Hp->VK->Prop
def PIp(X:Cx)(op:Operator)(t:TIp):Prop:=
 ∀ (pins:List (Addr×Obj)) (s:Shared) (σ:St) (H:Hp) (x y:V) (v u:Value) (Q:VK),Inv X pins σ H s->Ha x v->Ha y u->t x y H Q→
  wpAny (model X.prog X.w) X.A (inplaceOp op v u) (EP X pins σ Q) X.xe s
section
variable{X:Cx}{pos:Pos}
def gName(i:Nat):TG:=fun v σ H Q=>Q (σ.set i (some v)) H
theorem Gk5{i:Nat}(hN:X.N.Nodup)(hi:X.N[i]?=some x)(hx:Loc X.env.scope x)(hf:X.fn x=true\/X.env.scope.names.lookup x=some .local:=by first | exact .inl rfl | exact .inr rfl | assumption):PG X (.Name x pos) (gName i):=by
 intro pins s σ H v u Q I r h
 exact wpAny_assign_Name (Yk I hN hi hx r (fun s' I'=>⟨_,H,I',h⟩) hf)
def Gwf:TGs:=fun vs σ H Q=>vs=[]/\Q σ H
def Gt8(t:TG)(u:TGs):TGs:=fun vs σ H Q=>∃ v r,vs=v::r/\t v σ H fun σ' H'=>u r σ' H' Q
theorem Gk6:PGs X [] Gwf:=by
 intro pins s σ H vs us Q I r h
 obtain⟨e,h⟩:=h
 subst e
 cases r
 exact assignInOrder_nil ⟨σ,H,I,h⟩
theorem Ghx{e:Expr}{es:List Expr}{t:TG}{u:TGs}(h1:PG X e t)(h2:PGs X es u)
  (hs:(assignEach (e::es) X.env).map (·.2)=assign e X.env::(assignEach es X.env).map (·.2):=by rfl):PGs X (e::es) (Gt8 t u):=by
 intro pins s σ H vs us Q I r h
 obtain⟨v,vr,e1,h⟩:=h
 subst e1
 cases r with
 | cons r rr=>
  rw[hs]
  refine assignInOrder_cons (thn (h1 pins s σ H _ _ _ I r h) fun _ s1 ⟨σ1,H1,I1,q1⟩=>?_)
  exact h2 pins s1 σ1 H1 _ _ Q I1 rr q1
def Gwg(K:PySem.W.Frag)(n:Nat)(t:TGs):TG:=fun v σ H Q=>∃ a xs,v=.ref a/\SqT K H a xs/\xs.length=n/\t xs σ H Q
theorem Gpk{es:List Expr}{t:TGs}{n:Nat}(hc:X.calm=true)(h:PGs X es t)(hn:(assignEach es X.env).length=n:=by rfl)(hst:(assignEach es X.env).findIdx? (·.1)=none:=by rfl):PG X (.Tuple es k pos) (Gwg X.K n t):=by
 intro pins s σ H v u Q I r hw
 obtain⟨a,xs,e1,hq,hl,hw⟩:=hw
 subst e1
 cases r
 obtain⟨its,rv,ht,hz⟩:=I.tuple hq
 refine assign_Tuple_tuple (I.ok.hd hc) ht (by simp[hn,<- hl,rv.length]) hst fun h' hx=>?_
 have I1:Inv X pins σ H { s with heap:=h' }:=I.kept (t':=s.toks) fun b o e=>hx b o (Nat.ne_of_lt (Heap.lt_size e)) e
 exact h pins _ σ H xs _ Q I1 (by simpa using rv) hw
def Gwh(to ti:TE)(t:Ghw):TG:=fun v σ H Q=>to σ H fun o H1=>ti σ H1 fun i H2=>t o i v H2 fun H3=>Q σ H3
theorem Gpl{o i:Expr}{to ti:TE}{t:Ghw}(ho:PE X o to)(hi:PE X i ti)(hs:Gpj X t)
  (ha:∀ v,assign (.Subscript o i pos) X.env v=(do
   let ov <- holding [v] (eval o X.env)
   let iv <- holding [v,ov] (eval i X.env)
   standAt pos
   holding [v,ov,iv] (setItem ov iv v)
   release [v,ov,iv] []):=by intro _; rfl):PG X (.Subscript o i pos) (Gwh to ti t):=by
 intro pins s σ H v u Q I r h
 rw[ha]
 refine wpAny_bind (wpAny_holding (thn (ho pins s σ H _ I h) fun ov s1 ⟨x,H1,I1,r1,q1⟩=>?_))
 refine wpAny_bind (wpAny_holding (thn (hi pins s1 σ H1 _ I1 q1) fun iv s2 ⟨y,H2,I2,r2,q2⟩=>?_))
 refine wpAny_bind (wpAny_standAt (wpAny_bind (wpAny_holding (thn (hs pins s2 σ H2 x y v ov iv u _ I2 r1 r2 r q2) fun _ s3 ⟨H3,I3,q3⟩=>?_))))
 exact wpAny_release ⟨σ,H3,I3,q3⟩
def Gpm(te:TE)(g:TG):TS:=fun D σ H=>te σ H fun x H1=>g x σ H1 D.nx
theorem Gpn{e:Expr}{g:TG}(he:PE X e te)(hg:PG X tg g)(hs:swapsWithSole [tg] e pos.line X.env=pure false:=by rfl)(hw:swappedStores [tg] e X.env=pure none:=by rfl)(h1:(assignEach [tg] X.env).map (·.2)=[assign tg X.env]:=by rfl):PS X (.Assign [tg] e pos) (Gpm te g):=by
 intro pins s σ H D I h
 refine wpAny_Assign_stores (thn (he pins s σ H _ I h) fun v s1 ⟨x,H1,I1,r1,q1⟩=>?_) hs hw
 rw[h1]
 exact thn (hg pins s1 σ H1 x v _ I1 r1 q1) fun _ s2 q=>q
theorem Gpo{i:Nat}{e:Expr}{pos':Pos}(hN:X.N.Nodup)(hi:X.N[i]?=some x)(hx:Loc X.env.scope x)(he:PE X e te)(hs:swapsWith e (some (.Name x pos')) pos.line X.env=pure false:=by rfl)(hf:X.fn x=true\/X.env.scope.names.lookup x=some .local:=by first | exact .inl rfl | exact .inr rfl | assumption):
  PS X (.Assign [.Name x pos'] e pos) (Gpm te (gName i)):=by
 intro pins s σ H D I h
 refine wpAny_Assign_Name (thn (he pins s σ H _ I h) fun v s1 ⟨y,H1,I1,r1,q1⟩=>?_) hs
 exact Yk I1 hN hi hx r1 (fun s2 I2=>⟨_,H1,I2,q1⟩) hf
def Gt9(i:Nat)(te:TE)(ti:TIp):TS:=fun D σ H=>∃ x,σ[i]?=some (some x)/\te σ H fun y H1=>ti x y H1 fun z H2=>D.nx (σ.set i (some z)) H2
theorem Gpp{i:Nat}{e:Expr}{op:Operator}{ti:TIp}{pos':Pos}(hN:X.N.Nodup)(hi:X.N[i]?=some x)(hx:Loc X.env.scope x)(he:PE X e te)(ho:PIp X op ti)(hf:X.fn x=true\/X.env.scope.names.lookup x=some .local:=by first | exact .inl rfl | exact .inr rfl | assumption):
  PS X (.AugAssign (.Name x pos') op e pos) (Gt9 i te ti):=by
 intro pins s σ H D I h
 obtain⟨v,e1,h⟩:=h
 obtain⟨m,hn,hl⟩:=I.loc
 have vis:Vis X.env.scope x:=by rcases hx with k | k; exact .inl k; exact .inr (.inl k)
 obtain⟨u,r,l⟩:=hl i x v hi e1 vis
 refine wpAny_AugAssign_Name ?_
 have go:wpAny (model X.prog X.w) X.A (eval e X.env) (fun w s₂=>wpAny (model X.prog X.w) X.A (inplaceOp op u w) (fun r s₃=>wpAny (model X.prog X.w) X.A (storeName X.env x r) (fun _=>SP X pins D .next) X.xe s₃) X.xe s₂) X.xe s:=by
  refine thn (he pins s σ H _ I h) fun w s1 ⟨y,H1,I1,r1,q1⟩=>?_
  refine thn (ho pins s1 σ H1 v y u w _ I1 r r1 q1) fun z s2 ⟨zv,H2,I2,r2,q2⟩=>?_
  exact Yk I2 hN hi hx r2 (fun s3 I3=>⟨_,H2,I3,q2⟩) hf
 rcases l with⟨hk,hm⟩ | ⟨hk,c,hc,hcell⟩
 ·exact wpAny_loadName_local I.ok.kind hk hn hm go
 ·rcases hk with hk | hk
  ·exact wpAny_loadName_cell I.ok.kind hk hc hcell go
  ·rcases hx with k | k
   ·have:X.env.scope.names.lookup x=some .free:=hk
    rw[k] at this; cases this
   ·have:X.env.scope.names.lookup x=some .free:=hk
    rw[k] at this; cases this
def ipI(f:Int->Int->Int):TIp:=fun x y H Q=>∃ i j,x=.int i/\y=.int j/\Q (.int (f i j)) H
theorem Gpq:PIp X .Sub (ipI fun i j=>i-j):=by
 intro pins s σ H x y v u Q I r1 r2 h
 obtain⟨i,j,e1,e2,q⟩:=h
 subst e1; subst e2
 obtain⟨t,rfl⟩:=r1
 obtain⟨t',rfl⟩:=r2
 exact isub_int ⟨.int _,H,I.tok _,⟨_,rfl⟩,q⟩
end
structure It where
 go:Nat->Hp->Prop
 yld:Nat->Hp->V->Hp->Prop
 stop:Nat->Hp->Prop
def Gaw(X:Cx)(pins:List (Addr×Obj))(H:Hp)(b:Addr):Prop:=
 H b=none/\b≠X.env.locals/\b∉X.fs/\(b∈X.ex\/X.s₀.heap.objs.size<=b)/\(∀ x c,X.env.cells.lookup x=some c->c≠b)/\∀ p∈X.pn++pins,p.1≠b
theorem Inv.fpOk{H':Hp}{s:Shared}(I:Inv X pins σ H s)(hb:s.heap.objs.size<=b)(hn:H' b=none):Gaw X pins H' b:=by
 refine⟨hn,Nat.ne_of_gt (Nat.lt_of_lt_of_le I.lt hb),I.nofs hb,.inr (Nat.le_trans I.sz hb),fun x c e z=>?_,fun p hp z=>?_⟩
 ·obtain⟨v,q⟩:=I.cell x c e
  exact absurd (Nat.lt_of_lt_of_le q.lt (by rw[z]; exact hb)) (Nat.lt_irrefl _)
 ·exact absurd (Nat.lt_of_lt_of_le (Heap.lt_size (I.pin p hp).1) (by rw[z]; exact hb)) (Nat.lt_irrefl _)
structure Turn(P:Program)(w:World)(K:PySem.W.Frag)(tg:Expr)(J:It)(fp:List Addr)(it:Addr)(tn:Nat->Heap->Prop):Prop where
 mem:it∈fp
 obj:∀ i h,tn i h->∀ b∈fp,∃ o,h.get? b=some o/\∀ v,o.data≠.cell v
 keep:∀ i h h',tn i h->(∀ b∈fp,∀ o,h.get? b=some o->h'.get? b=some o)->tn i h'
 item:∀ (X:Cx),X.prog=P->X.w=w->X.K=K->X.calm=true->∀ (i:Nat) (pins:List (Addr×Obj)) (s:Shared) (σ:St) (H:Hp) (E:Value->Shared->Prop),Inv X pins σ H s->(∀ b∈fp,Gaw X pins H b)->tn i s.heap->J.go i H→
  wpAny (model P w) X.A (pyNext (.ref it)) (fun r s1=>∃ u,r=some u∧
   wpAny (model P w) X.A (letOwnedTupleGo tg (.ref it) u) (fun _ s2=>∃ x H',Inv X pins σ H' s2/\Ha x u/\J.yld i H x H'/\tn (i+1) s2.heap/\∀ b∈fp,H' b=none) E s1) E s
 done:∀ (X:Cx),X.prog=P->X.w=w->X.K=K->X.calm=true->∀ (i:Nat) (pins:List (Addr×Obj)) (s:Shared) (σ:St) (H:Hp) (E:Value->Shared->Prop),Inv X pins σ H s->(∀ b∈fp,Gaw X pins H b)->tn i s.heap->J.stop i H→
  wpAny (model P w) X.A (pyNext (.ref it)) (fun r s1=>r=none/\Inv X pins σ H s1) E s
 self:∀ (A:Around) (i:Nat) (s:Shared) (Q:Value->Shared->Prop) (E:Value->Shared->Prop),tn i s.heap->Q (.ref it) s->wpAny (model P w) A (pyIter (.ref it)) Q E s
abbrev TI:=St->Hp->(It->Hp->Prop)->Prop
def PIE(X:Cx)(pins:List (Addr×Obj))(σ:St)(tg:Expr)(R:It->Hp->Prop)(itv:Value)(s2:Shared):Prop:=
 ∃ (it:Addr) (fp:List Addr) (tn:Nat->Heap->Prop) (J:It) (H':Hp),itv=.ref it/\Inv X pins σ H' s2/\Turn X.prog X.w X.K tg J fp it tn/\tn 0 s2.heap/\(∀ b∈fp,Gaw X pins H' b)/\R J H'
def PI(X:Cx)(tg iter:Expr)(wi:TI):Prop:=
 ∀ (pins:List (Addr×Obj)) (s:Shared) (σ:St) (H:Hp) (R:It->Hp->Prop),Inv X pins σ H s->wi σ H R→
  wpAny (model X.prog X.w) X.A (eval iter X.env) (fun v s1=>wpAny (model X.prog X.w) X.A (pyIter v) (PIE X pins σ tg R) X.xe s1) X.xe s
theorem Gdw{s:Shared}{it:Addr}{o:Obj}{n:String}{vs:Array Value}{Q:Unit->Shared->Prop}(ho:s.heap.get? it=some o)(hc:o.cls=.type n)(hd:o.data=.fields vs)(hn:["enumerate","zip","dict_itemiterator","dict_reverseitemiterator","odict_iterator","itertools.zip_longest","itertools.pairwise"].contains n=false)(hQ:Q () s):wpAny M A (letOwnedTupleGo tg (.ref it) u) Q E s:=by
 unfold letOwnedTupleGo
 cases tg<;>first
  | exact wpAny_pure hQ
  | (cases u<;>first
    | exact wpAny_pure hQ
    | (refine wpAny_bind (wpAny_load ho ?_)
       rw[hc,hd]
       show wpAny M A (if(["enumerate","zip","dict_itemiterator","dict_reverseitemiterator","odict_iterator","itertools.zip_longest","itertools.pairwise"].contains n&&vs[0]?==some (rawInt _))=true then _ else _) Q E s
       rw[if_neg (by intro h; rw[hn,Bool.false_and] at h; cases h)]
       exact wpAny_pure hQ))
def Itl(K:PySem.W.Frag)(a:Addr):It:=
 ⟨fun i H=>∃ xs x,SqL K H a xs/\xs[i]?=some x,fun i H x H'=>H'=H/\∀ xs,SqL K H a xs->xs[i]?=some x,fun i H=>∃ xs,SqL K H a xs/\xs.length<=i⟩
def Itt(K:PySem.W.Frag)(a:Addr):It:=
 ⟨fun i H=>∃ xs x,SqT K H a xs/\xs[i]?=some x,fun i H x H'=>H'=H/\∀ xs,SqT K H a xs->xs[i]?=some x,fun i H=>∃ xs,SqT K H a xs/\xs.length<=i⟩
def Itr(lo:Int)(n:Nat):It:=⟨fun i _=>i<n,fun i H x H'=>H'=H/\x=.int (lo+i),fun i _=>n<=i⟩
theorem turn_list(a it:Addr):Turn P w K tg (Itl K a) [it] it (fun i h=>h.IsListIter it a i) where
 mem:=by simp
 obj:=fun i h st b hb=>by
  have e:b=it:=by simpa using hb
  subst e
  obtain⟨o,e,c,d⟩:=st
  exact⟨o,e,fun v z=>by rw[d] at z; cases z⟩
 keep:=fun i h h' st k=>st.at fun o e=>k it (by simp) o e
 item:=by
  intro X hP hw hK hc i pins s σ H E I hf st hg
  subst hP hw hK
  obtain⟨xs,x,hq,hx⟩:=hg
  obtain⟨its,rv,p,hz⟩:=I.list hq
  obtain⟨u,hu,ru⟩:=rv.get hx
  obtain⟨f0,f1,f2,f3,f4,f5⟩:=hf it (by simp)
  refine wpAny_pyNext_list_item st p.isList (x:=u) (by simpa using hu) fun h' st' sb=>?_
  have I1:Inv X pins σ H { s with heap:=h' }:=I.turned (t':=s.toks) (fun b o hb e=>(sb.2 b hb).trans e) f0 f1 f3 f4 f5
  obtain⟨o,e,c,d⟩:=id st'
  exact⟨u,rfl,Gdw (s:={ s with heap:=h' }) e c d (by decide) ⟨x,H,I1,ru,⟨rfl,fun ys hy=>by rw[I.list_inj hy hq]; exact hx⟩,st',fun b hb=>(hf b hb).1⟩⟩
 done:=by
  intro X hP hw hK hc i pins s σ H E I hf st hg
  subst hP hw hK
  obtain⟨xs,hq,hx⟩:=hg
  obtain⟨its,rv,p,hz⟩:=I.list hq
  obtain⟨f0,f1,f2,f3,f4,f5⟩:=hf it (by simp)
  have hl:=rv.length
  exact wpAny_pyNext_list_end (I.ok.hd hc) st p.isList (by simp; omega) fun h' eb=>⟨rfl,I.turned (t':=s.toks) (fun b o hb e=>eb b o hb e) f0 f1 f3 f4 f5⟩
 self:=fun _ _ _ _ _ st h=>wpAny_pyIter_listiter st h
theorem turn_tuple(a it:Addr):Turn P w K tg (Itt K a) [it] it (fun i h=>h.IsTupleIter it a i) where
 mem:=by simp
 obj:=fun i h st b hb=>by
  have e:b=it:=by simpa using hb
  subst e
  obtain⟨o,e,c,d⟩:=st
  exact⟨o,e,fun v z=>by rw[d] at z; cases z⟩
 keep:=fun i h h' st k=>st.at fun o e=>k it (by simp) o e
 item:=by
  intro X hP hw hK hc i pins s σ H E I hf st hg
  subst hP hw hK
  obtain⟨xs,x,hq,hx⟩:=hg
  obtain⟨its,rv,p,hz⟩:=I.tuple hq
  obtain⟨u,hu,ru⟩:=rv.get hx
  obtain⟨f0,f1,f2,f3,f4,f5⟩:=hf it (by simp)
  refine wpAny_pyNext_tuple_item st (show s.heap.IsTuple a its.toArray from p) (x:=u) (by simpa using hu) fun h' st' sb=>?_
  have I1:Inv X pins σ H { s with heap:=h' }:=I.turned (t':=s.toks) (fun b o hb e=>(sb.2 b hb).trans e) f0 f1 f3 f4 f5
  obtain⟨o,e,c,d⟩:=id st'
  exact⟨u,rfl,Gdw (s:={ s with heap:=h' }) e c d (by decide) ⟨x,H,I1,ru,⟨rfl,fun ys hy=>by rw[I.tuple_inj hy hq]; exact hx⟩,st',fun b hb=>(hf b hb).1⟩⟩
 done:=by
  intro X hP hw hK hc i pins s σ H E I hf st hg
  subst hP hw hK
  obtain⟨xs,hq,hx⟩:=hg
  obtain⟨its,rv,p,hz⟩:=I.tuple hq
  obtain⟨f0,f1,f2,f3,f4,f5⟩:=hf it (by simp)
  have hl:=rv.length
  exact wpAny_pyNext_tuple_end (I.ok.hd hc) st (show s.heap.IsTuple a its.toArray from p) (by simp; omega) fun h' eb=>⟨rfl,I.turned (t':=s.toks) (fun b o hb e=>eb b o hb e) f0 f1 f3 f4 f5⟩
 self:=fun _ _ _ _ _ st h=>wpAny_pyIter_tupleiter st h
theorem turn_range(it:Addr)(lo:Int)(n:Nat):Turn P w K tg (Itr lo n) [it] it (fun i h=>IsRangeIter h it (lo+(i:Nat)*1) ((n:Int)-(i:Nat)) 1) where
 mem:=by simp
 obj:=fun i h st b hb=>by
  have e:b=it:=by simpa using hb
  subst e
  exact⟨_,st,fun v z=>by
   have z':Data.fields _=Data.cell v:=z
   cases z'⟩
 keep:=fun i h h' st k=>k it (by simp) _ st
 item:=by
  intro X hP hw hK hc i pins s σ H E I hf st hg
  subst hP hw hK
  obtain⟨f0,f1,f2,f3,f4,f5⟩:=hf it (by simp)
  have W:=Walks.range (prog:=X.prog) (w:=X.w) (I.ok.hd hc) it lo 1 n
  refine W.item i s _ _ hg st fun v h' tk hv st' kk=>?_
  obtain⟨t,rfl⟩:=hv
  have I1:Inv X pins σ H { s with heap:=h',toks:=tk }:=I.turned (fun b o hb e=>kk b o (by simpa using hb) e) f0 f1 f3 f4 f5
  refine⟨_,rfl,Gdw (s:={ s with heap:=h',toks:=tk }) (n:="range_iterator") st' rfl rfl (by decide) ⟨.int (lo+i),H,I1,⟨t,?_⟩,⟨rfl,rfl⟩,st',fun b hb=>(hf b hb).1⟩⟩
  rw[Int.mul_one]
 done:=by
  intro X hP hw hK hc i pins s σ H E I hf st hg
  subst hP hw hK
  obtain⟨f0,f1,f2,f3,f4,f5⟩:=hf it (by simp)
  exact wpAny_pyNext_range_end (I.ok.hd hc) st (by have:n<=i:=hg; omega) fun h' eb=>⟨rfl,I.turned (t':=s.toks) (fun b o hb e=>eb b o hb e) f0 f1 f3 f4 f5⟩
 self:=fun _ _ _ _ _ st h=>wpAny_pyIter_rangeiter st h
section
variable{X:Cx}{tg:Expr}
theorem Ghy{s:Shared}{R:It->Hp->Prop}{lo hi:Int}{t u v:Tok}{tk:Nat}(I:Inv X pins σ H s)(h1 : -(2^62)<=lo)(h2:lo<2^62)(h3 : -(2^62)<=hi)(h4:hi<2^62)(q:R (Itr lo (hi-lo).toNat) H):wpAny (model X.prog X.w) X.A (pyIter (.ref s.heap.objs.size)) (PIE X pins σ tg R) E { s with heap:=s.heap.push { cls:=.type "range",data:=.fields #[.int lo t,.int hi u,.int 1 v] },toks:=tk }:=by
 refine wpAny_pyIter_range (IsRange.new ..) (small_one h1 h2 h3 h4) ?_
 have I1:Inv X pins σ H { s with heap:=s.heap.push { cls:=.type "range",data:=.fields #[.int lo t,.int hi u,.int 1 v] },toks:=tk }:=I.kept fun b o e=>Heap.get?_push_of_some _ e
 refine⟨(s.heap.push { cls:=.type "range",data:=.fields #[.int lo t,.int hi u,.int 1 v] }).objs.size,[(s.heap.push { cls:=.type "range",data:=.fields #[.int lo t,.int hi u,.int 1 v] }).objs.size],_,_,H,rfl,
  I1.kept (t':=tk) fun b o e=>Heap.get?_push_of_some _ e,turn_range _ lo (hi-lo).toNat,?_,fun b hb=>?_,q⟩
 ·have e1:lo+((0:Nat):Int)*1=lo:=by simp
  have e2:(((hi-lo).toNat:Nat):Int)-((0:Nat):Int)=Builtin.Range.rangeSize lo hi 1:=by rw[rangeSize_one]; split<;>omega
  show IsRangeIter _ _ (lo+((0:Nat):Int)*1) ((((hi-lo).toNat:Nat):Int)-((0:Nat):Int)) 1
  rw[e1,e2]
  exact Heap.get?_push_size _ rfl
 ·have e:b=(s.heap.push { cls:=.type "range",data:=.fields #[.int lo t,.int hi u,.int 1 v] }).objs.size:=by simpa using hb
  subst e
  exact I1.fpOk (Nat.le_refl _) (I1.hok.fresh (Nat.le_refl _))
def Gua(ta:TA):TI:=fun σ H R=>ta σ H fun vs H1=>∃ j:Int,vs=[.int j] /\ -(2^62)<=j/\j<2^62/\R (Itr 0 j.toNat) H1
theorem Ggp{a:Expr}{ta:TA}{p:Pos}(hg:Gl X "range")(hm:X.mg "range"=none)(ha:PA X [a] ta)(hs:starEach [a] X.env=[(false,eval a X.env)]:=by rfl):PI X tg (.Call (.Name "range" p) [a] [] pos) (Gua ta):=by
 intro pins s σ H R I h
 refine Call_ (Wr I hg hm boot_range (PyProof.Rows.callWith_type1 (thn (ha pos pins s σ H _ I h) fun us s1 ⟨vs,H1,I1,r1,q1⟩=>?_) hs rfl))
 obtain⟨j,e,q1,q2,q⟩:=q1
 subst e
 cases r1 with
 | cons r rr=>
  cases rr
  obtain⟨t,rfl⟩:=r
  exact call_range_1 (Ghy I1 (by omega) (by omega) q1 q2 (by simpa using q))
def Gwi(wi:TI)(g:TG)(tb:TS):TS:=fun D σ H=>wi σ H fun J H1=>∃ W:Nat->Nat->St->Hp->Prop,(∃ m,W 0 m σ H1)/\∀ i m σ H,W i m σ H→
 (J.stop i H/\D.nx σ H)\/(J.go i H/\∃ N:St->Hp->Prop,(∀ σ' H',N σ' H'->∃ m',m'<m/\W (i+1) m' σ' H')/\∀ x H',J.yld i H x H'->g x σ H' fun σ2 H2=>tb { D with nx:=N,ct:=N,bk:=D.nx } σ2 H2)
def Gax(fp:List Addr)(h:Heap):List (Addr×Obj):=fp.filterMap fun b=>(h.get? b).map fun o=>(b,o)
theorem Wc{o:Obj}(hb:b∈fp)(e:h.get? b=some o):(b,o)∈Gax fp h:=List.mem_filterMap.mpr ⟨b,hb,by rw[e]; rfl⟩
theorem Ggq{p:Addr×Obj}(hp:p∈Gax fp h):p.1∈fp/\h.get? p.1=some p.2:=by
 obtain⟨b,hb,e⟩:=List.mem_filterMap.mp hp
 cases q:h.get? b with
 | none=>rw[q] at e; cases e
 | some o=>
  rw[q] at e
  have e':(b,o)=p:=Option.some.inj e
  subst e'
  exact⟨hb,q⟩
theorem Inv.pinned{s:Shared}(I:Inv X pins σ H s)(hf:∀ b∈fp,Gaw X pins H b)(ho:∀ b∈fp,∃ o,s.heap.get? b=some o/\∀ v,o.data≠.cell v):Inv X (pins++Gax fp s.heap) σ H s:=
 I.pins_of fun p hp=>(List.mem_append.mp hp).elim (fun z=>I.pin p (List.mem_append_right _ z)) fun z=>by
  obtain⟨hb,e⟩:=Ggq z
  obtain⟨f0,f1,f2,_⟩:=hf p.1 hb
  obtain⟨o,e',d⟩:=ho p.1 hb
  rw[e] at e'; cases e'
  exact⟨e,f0,f1,f2,d⟩
theorem Inv.unpinned{pl:List (Addr×Obj)}{s:Shared}(I:Inv X (pins++pl) σ H s):Inv X pins σ H s:=I.pins_of fun p hp=>I.pin p (List.mem_append_right _ (List.mem_append_left _ hp))
theorem Gpr{iter:Expr}{body:List Stmt}{wi:TI}{g:TG}{tb:TS}(hp:PassesOwn (model X.prog X.w) X.A X.env X.xe)(hc:X.calm=true)(hi:PI X tg iter wi)(hg:PG X tg g)(hb:PSs X body tb)(hs:∀ x,foldedSetIterable iter X.env x=pure x:=by intro _; rfl):PS X (.For tg iter body [] pos) (Gwi wi g tb):=by
 intro pins s σ H D I h
 refine wpAny_For (thn (hi pins s σ H _ I h) fun v s1 h1=>thn h1 fun itv s2 h2=>?_) hs
 obtain⟨it,fp,tn,J,H2,e,I2,T,st2,f2,W,⟨m0,w0⟩,turn⟩:=h2
 subst e
 have stat:∀ {H':Hp},(∀ b∈fp,H' b=none)->∀ b∈fp,Gaw X pins H' b:=fun hn b hb=>⟨hn b hb,(f2 b hb).2⟩
 refine codeAny_forLoop_any (fun n s'=>∃ i σ' H',Inv X pins σ' H' s'/\tn i s'.heap/\(∀ b∈fp,H' b=none)/\W i n σ' H') ?_ m0 ⟨0,σ,H2,I2,st2,fun b hb=>(f2 b hb).1,w0⟩
 rintro n s3 ⟨i,σ3,H3,I3,st3,fr3,w3⟩
 rcases turn i n σ3 H3 w3 with⟨stop,qn⟩ | ⟨go,N,hN,step⟩
 ·refine wpAny_passesOwn hp (thn (T.done X rfl rfl rfl hc i pins s3 σ3 H3 X.xe I3 (stat fr3) st3 stop) fun r s4 ⟨hr,I4⟩=>?_)
  subst hr
  exact wpAny_execs_nil ⟨σ3,H3,I4,qn⟩
 ·refine wpAny_passesOwn hp (thn (T.item X rfl rfl rfl hc i pins s3 σ3 H3 X.xe I3 (stat fr3) st3 go) fun r s4 ⟨u,hr,h4⟩=>?_)
  subst hr
  refine wpAny_passesOwn hp (thn h4 fun _ s5 ⟨x,H5,I5,r5,y5,st5,fr5⟩=>?_)
  have I5':=I5.pinned (stat fr5) (T.obj _ _ st5)
  refine wpAny_passesOwn hp (thn (hg _ s5 σ3 H5 x u _ I5' r5 (step x H5 y5)) fun _ s6 ⟨σ6,H6,I6,q6⟩=>?_)
  refine wpAny_passesOwn hp (thn (hb _ s6 σ6 H6 _ I6 q6) fun f s7 q7=>?_)
  have again:∀ {σ7:St} {H7:Hp},Inv X (pins++Gax fp s5.heap) σ7 H7 s7->N σ7 H7->∃ m,m<n/\∃ i σ' H',Inv X pins σ' H' s7/\tn i s7.heap/\(∀ b∈fp,H' b=none)/\W i m σ' H':=fun{σ7 H7} I7 n7=>by
   obtain⟨m',hm,w7⟩:=hN σ7 H7 n7
   refine⟨m',hm,i+1,σ7,H7,I7.unpinned,T.keep _ _ _ st5 fun b hb o e=>(I7.pin (b,o) (List.mem_append_right _ (List.mem_append_right _ (Wc hb e)))).1,fun b hb=>?_,w7⟩
   obtain⟨o,e,d⟩:=T.obj _ _ st5 b hb
   exact(I7.pin (b,o) (List.mem_append_right _ (List.mem_append_right _ (Wc hb e)))).2.1
  cases f with
  | next=>obtain⟨σ7,H7,I7,n7⟩:=q7; exact again I7 n7
  | cont=>obtain⟨σ7,H7,I7,n7⟩:=q7; exact again I7 n7
  | brk=>obtain⟨σ7,H7,I7,q7⟩:=q7; exact⟨σ7,H7,I7.unpinned,q7⟩
  | ret v=>obtain⟨x7,σ7,H7,I7,r7,q7⟩:=q7; exact⟨x7,σ7,H7,I7.unpinned,r7,q7⟩
end
abbrev R2:=V->V->Hp->VK->Prop
variable{r:R2}
def OpR(X:Cx)(f:Value->Value->Sem Value)(r:R2):Prop:=
 ∀ (pins:List (Addr×Obj)) (s:Shared) (σ:St) (H:Hp) (x y:V) (v u:Value) (Q:VK),Inv X pins σ H s->Ha x v->Ha y u->r x y H Q→
  wpAny (model X.prog X.w) X.A (f v u) (EP X pins σ Q) X.xe s
def UnR(X:Cx)(f:Value->Sem Value)(r:V->Hp->VK->Prop):Prop:=
 ∀ (pins:List (Addr×Obj)) (s:Shared) (σ:St) (H:Hp) (x:V) (v:Value) (Q:VK),Inv X pins σ H s->Ha x v->r x H Q→
  wpAny (model X.prog X.w) X.A (f v) (EP X pins σ Q) X.xe s
def Qq(X:Cx)(f:Value)(r:List V->Hp->VK->Prop):Prop:=
 ∀ (pins:List (Addr×Obj)) (s:Shared) (σ:St) (H:Hp) (xs:List V) (us:List Value) (Q:VK),Inv X pins σ H s->Vals xs us->r xs H Q→
  wpAny (model X.prog X.w) X.A (call f us) (EP X pins σ Q) X.xe s
def Gwj(X:Cx)(r:V->Hp->(Bool->Hp->Prop)->Prop):Prop:=
 ∀ (pins:List (Addr×Obj)) (s:Shared) (σ:St) (H:Hp) (x:V) (v:Value) (Q:Bool->Hp->Prop),Inv X pins σ H s->Ha x v->r x H Q→
  wpAny (model X.prog X.w) X.A (truthy v) (TP X pins σ Q) X.xe s
def tOp(r:R2)(ta tb:TE):TE:=fun σ H Q=>ta σ H fun x H1=>tb σ H1 fun y H2=>r x y H2 Q
def tUn(r:V->Hp->VK->Prop)(ta:TE):TE:=fun σ H Q=>ta σ H fun x H1=>r x H1 Q
def rI(C:Int->Int->Prop)(g:Int->Int->V):R2:=fun x y H Q=>∃ i j,x=.int i/\y=.int j/\C i j/\Q (g i j) H
def rI0(g:Int->Int->V):R2:=fun x y H Q=>∃ i j,x=.int i/\y=.int j/\Q (g i j) H
def rU(g:Int->V):V->Hp->VK->Prop:=fun x H Q=>∃ i,x=.int i/\Q (g i) H
section
variable{X:Cx}{a b c:Expr}{ta tb tc:TE}{pos:Pos}
theorem Gps(ha:PE X a ta)(hb:PE X b tb){s:Shared}{R:V->V->Hp->Prop}(I:Inv X pins σ H s)(h:ta σ H fun x H1=>tb σ H1 fun y H2=>R x y H2)(hf:∀ v u s2 x y H2,Inv X pins σ H2 s2->Ha x v->Ha y u->R x y H2->wpAny (model X.prog X.w) X.A (f v u) Q X.xe s2):
  wpAny (model X.prog X.w) X.A (eval a X.env) (fun v s₁=>wpAny (model X.prog X.w) X.A (eval b X.env) (fun u s₂=>wpAny (model X.prog X.w) X.A (f v u) Q X.xe s₂) X.xe s₁) X.xe s:=by
 refine thn (ha pins s σ H _ I h) fun v s1 ⟨x,H1,I1,r1,q1⟩=>?_
 refine thn (hb pins s1 σ H1 _ I1 q1) fun u s2 ⟨y,H2,I2,r2,q2⟩=>?_
 exact hf v u s2 x y H2 I2 r1 r2 q2
theorem Gub{op:Operator}(ho:OpR X (binaryOp op) r)(ha:PE X a ta)(hb:PE X b tb):PE X (.BinOp a op b pos) (tOp r ta tb):=by
 intro pins s σ H Q I h
 exact wpAny_BinOp (Gps ha hb I h fun v u s2 x y H2 I2 rx ry q=>ho pins s2 σ H2 x y v u Q I2 rx ry q)
theorem Guc{op:UnaryOp}{r:V->Hp->VK->Prop}(ho:UnR X (unaryOp op) r)(ha:PE X a ta):PE X (.UnaryOp op a pos) (tUn r ta):=by
 intro pins s σ H Q I h
 exact UnaryOp_ (thn (ha pins s σ H _ I h) fun v s1 ⟨x,H1,I1,r1,q1⟩=>ho pins s1 σ H1 x v Q I1 r1 q1)
theorem opI{C:Int->Int->Prop}{g:Int->Int->Int}(rule:∀ (i j:Int) (t u:Tok) (s:Shared) (Q:Value->Shared->Prop) (E:Value->Shared->Prop),C i j->Q (.int (g i j) s.toks) { s with toks:=s.toks+1 }->wpAny (model X.prog X.w) X.A (f (.int i t) (.int j u)) Q E s):
  OpR X f (rI C fun i j=>.int (g i j)):=by
 intro pins s σ H x y v u Q I rx ry h
 obtain⟨i,j,rfl,rfl,hc,q⟩:=h
 obtain⟨t,rfl⟩:=rx
 obtain⟨t',rfl⟩:=ry
 exact rule i j t t' s _ _ hc ⟨.int (g i j),H,I.tok _,⟨_,rfl⟩,q⟩
theorem opI0{g:Int->Int->Int}(rule:∀ (i j:Int) (t u:Tok) (s:Shared) (Q:Value->Shared->Prop) (E:Value->Shared->Prop),Q (.int (g i j) s.toks) { s with toks:=s.toks+1 }->wpAny (model X.prog X.w) X.A (f (.int i t) (.int j u)) Q E s):
  OpR X f (rI0 fun i j=>.int (g i j)):=by
 intro pins s σ H x y v u Q I rx ry h
 obtain⟨i,j,rfl,rfl,q⟩:=h
 obtain⟨t,rfl⟩:=rx
 obtain⟨t',rfl⟩:=ry
 exact rule i j t t' s _ _ ⟨.int (g i j),H,I.tok _,⟨_,rfl⟩,q⟩
theorem opB0{g:Int->Int->Bool}(rule:∀ (i j:Int) (t u:Tok) (s:Shared) (Q:Value->Shared->Prop) (E:Value->Shared->Prop),Q (.bool (g i j)) s->wpAny (model X.prog X.w) X.A (f (.int i t) (.int j u)) Q E s):
  OpR X f (rI0 fun i j=>.bl (g i j)):=by
 intro pins s σ H x y v u Q I rx ry h
 obtain⟨i,j,rfl,rfl,q⟩:=h
 obtain⟨t,rfl⟩:=rx
 obtain⟨t',rfl⟩:=ry
 exact rule i j t t' s _ _ ⟨.bl (g i j),H,I,rfl,q⟩
def Gwk(i j:Int):Prop:=0<=j/\j<=1000000/\i.natAbs<2^64
def CMul(i j:Int):Prop:=(-(2^64)<i/\i<2^64)\/(-(2^64)<j/\j<2^64)
theorem CMul.ok{i j:Int}(h:CMul i j):IntMulOk i j:=by
 rcases h with⟨h1,h2⟩ | ⟨h1,h2⟩
 ·exact .of_left (intBits_le_64 h1 h2)
 ·exact .of_right (intBits_le_64 h1 h2)
theorem Gpt:OpR X (binaryOp .Add) (rI0 fun i j=>.int (i+j)):=opI0 fun _ _ _ _ _ _ _ q=>add_int q
theorem Gpu:OpR X (binaryOp .Sub) (rI0 fun i j=>.int (i-j)):=opI0 fun _ _ _ _ _ _ _ q=>sub_int q
theorem Gpv:OpR X (binaryOp .Mult) (rI CMul fun i j=>.int (i*j)):=opI fun _ _ _ _ _ _ _ hc q=>mul_int q hc.ok
theorem Gpw:OpR X (binaryOp .Mod) (rI (fun _ j=>0<j) fun i j=>.int (i%j)):=opI fun i j _ _ _ _ _ hc q=>by
 have h1:(0:Int)<j:=hc
 exact mod_int' (by omega) (by rw[Int.fmod_eq_emod_of_nonneg i (by omega)]; exact q)
theorem Gpx:OpR X (binaryOp .Pow) (rI Gwk fun i j=>.int (i^j.toNat)):=opI fun _ _ _ _ _ _ _ hc q=>pow_int_small hc.1 hc.2.1 hc.2.2 q
theorem unI{f:Value->Sem Value}{g:Int->Int}
  (rule:∀ (i:Int) (t:Tok) (s:Shared) (Q:Value->Shared->Prop) (E:Value->Shared->Prop),Q (.int (g i) s.toks) { s with toks:=s.toks+1 }->wpAny (model X.prog X.w) X.A (f (.int i t)) Q E s):
  UnR X f (rU fun i=>.int (g i)):=by
 intro pins s σ H x v Q I rx h
 obtain⟨i,rfl,q⟩:=h
 obtain⟨t,rfl⟩:=rx
 exact rule i t s _ _ ⟨.int (g i),H,I.tok _,⟨_,rfl⟩,q⟩
theorem Gpy:UnR X (unaryOp .USub) (rU fun i=>.int (-i)):=unI fun _ _ _ _ _ q=>neg_int q
end
section
variable{X:Cx}{a b c:Expr}{ta tb tc:TE}{pos:Pos}
theorem Ghz{s:Shared}{Q:VK}{k k':Bool}(I:Inv X pins σ H s)(q:Q (.bl k) H)(e:k=k'):EP X pins σ Q (.bool k') s:=by
 subst e
 exact⟨.bl k,H,I,rfl,q⟩
theorem Gn6:OpR X (compareOp .Lt) (rI0 fun i j=>.bl (decide (i<j))):=opB0 fun _ _ _ _ _ _ _ q=>lt_int q
theorem Gdx:OpR X (compareOp .LtE) (rI0 fun i j=>.bl (decide (i<=j))):=opB0 fun _ _ _ _ _ _ _ q=>le_int q
theorem Gud:OpR X (compareOp .Gt) (rI0 fun i j=>.bl (decide (j<i))):=opB0 fun _ _ _ _ _ _ _ q=>gt_int q
theorem Gue:OpR X (compareOp .GtE) (rI0 fun i j=>.bl (decide (j<=i))):=opB0 fun _ _ _ _ _ _ _ q=>ge_int q
theorem Ggr:OpR X (compareOp .In) (fun x y H Q=>∃ i j,x=.str i/\y=.str j/\Q (.bl (!(Builtin.Str.occurrences j i 0 j.length 1).isEmpty)) H):=by
 intro pins s σ H x y v u Q I rx ry h
 obtain⟨i,j,rfl,rfl,q⟩:=h
 obtain⟨t,rfl⟩:=rx
 obtain⟨t',rfl⟩:=ry
 exact in_str (Ghz I q rfl)
theorem Gh0:OpR X (compareOp .Is) (fun x y H Q=>y=.non/\Q (.bl (decide (x=.non))) H):=by
 intro pins s σ H x y v u Q I rx ry h
 obtain⟨rfl,q⟩:=h
 cases ry
 refine is_none_gen (Ghz I q ?_)
 cases x<;>first
  | (cases rx; rfl)
  | (obtain⟨t,rfl⟩:=rx; rfl)
theorem OpR.or{r':R2}(h:OpR X f r)(h':OpR X f r'):OpR X f (fun x y H Q=>r x y H Q\/r' x y H Q):=by
 intro pins s σ H x y v u Q I rx ry q
 rcases q with q | q
 ·exact h pins s σ H x y v u Q I rx ry q
 ·exact h' pins s σ H x y v u Q I rx ry q
theorem nomark(b:Expr)(h:op≠.In:=by decide)(h2:op≠.NotIn:=by decide):behindInMarks op b=false:=by
 have e1:(op==CmpOp.In)=false:=by cases op<;>first | rfl | exact absurd rfl h
 have e2:(op==CmpOp.NotIn)=false:=by cases op<;>first | rfl | exact absurd rfl h2
 cases b<;>simp[behindInMarks,e1,e2]
theorem Gk7(ho:OpR X (compareOp op) r)(ha:PE X a ta)(hb:PE X b tb)(hm:behindInMarks op b=false):PE X (.Compare a [op] [b] pos) (tOp r ta tb):=by
 intro pins s σ H Q I h
 exact wpAny_Compare1 (Gps ha hb I h fun v u s2 x y H2 I2 rx ry q=>ho pins s2 σ H2 x y v u Q I2 rx ry q) hm
def Gn7(t:TE):TT:=fun σ H Q=>t σ H fun x H'=>∃ k,x=.bl k/\Q k H'
theorem Gk8(ho:OpR X (compareOp op) r)(ha:PE X a ta)(hb:PE X b tb)(hm:behindInMarks op b=false):PT X (.Compare a [op] [b] pos) (Gn7 (tOp r ta tb)):=by
 intro pins s σ H Q I h
 refine wpAny_isTrue_Compare1 (thn (ha pins s σ H _ I h) fun v s1 ⟨x,H1,I1,r1,q1⟩=>thn (hb pins s1 σ H1 _ I1 q1) fun u s2 ⟨y,H2,I2,r2,q2⟩=>
  thn (ho pins s2 σ H2 x y v u _ I2 r1 r2 q2) fun c s3 ⟨z,H3,I3,r3,k,e,q3⟩=>?_) hm
 subst e
 cases r3
 exact wpAny_truthy_bool ⟨H3,I3,q3⟩
def Gh1(r r':R2)(ta tb tc:TE):TE:=fun σ H Q=>ta σ H fun x H1=>tb σ H1 fun y H2=>r x y H2 fun z H3=>∃ k,z=.bl k∧
 (if k=true then tc σ H3 fun w' H4=>r' y w' H4 Q else Q (.bl false) H3)
theorem Gh2{op':CmpOp}{r':R2}(ho:OpR X (compareOp op) r)(ho':OpR X (compareOp op') r')(ha:PE X a ta)(hb:PE X b tb)(hc:PE X c tc)(hm:lastMarks [op,op'] [b,c]=false:=by with_unfolding_all rfl):PT X (.Compare a [op,op'] [b,c] pos) (Gn7 (Gh1 r r' ta tb tc)):=by
 intro pins s σ H Q I h
 refine isTrue_chain (thn (ha pins s σ H _ I h) fun v s1 ⟨x,H1,I1,r1,q1⟩=>test_link (thn (hb pins s1 σ H1 _ I1 q1) fun u s2 ⟨y,H2,I2,r2,q2⟩=>
  thn (ho pins s2 σ H2 x y v u _ I2 r1 r2 q2) fun d s3 ⟨z,H3,I3,r3,k,e,q3⟩=>?_)) hm
 subst e
 cases r3
 refine wpAny_truthy_bool ?_
 cases k with
 | false=>
  obtain⟨k',e',q'⟩:=q3
  cases e'
  exact ite_ff ⟨H3,I3,q'⟩
 | true=>
  refine ite_tt (test_last (thn (hc pins s3 σ H3 _ I3 q3) fun w' s4 ⟨z',H4,I4,r4,q4⟩=>thn (ho' pins s4 σ H4 y z' u w' _ I4 r2 r4 q4) fun d' s5 ⟨z2,H5,I5,r5,k2,e2,q5⟩=>?_))
  subst e2
  cases r5
  exact wpAny_truthy_bool ⟨H5,I5,q5⟩
def Gpz(K:PySem.W.Frag)(x:V)(H:Hp)(k:Bool):Prop:=
 match x with
 | .non=>k=false
 | .bl b=>k=b
 | .int i=>k=(i != 0)
 | .str y=>y.length<=sizeLine/\k=((y.length:Int) != 0)
 | .byt y=>y.size<=sizeLine/\k=((y.size:Int) != 0)
 | .ref p=>(∃ xs,SqL K H p xs/\k=!xs.isEmpty)\/(∃ xs,SqT K H p xs/\k=!xs.isEmpty)\/∃ kvs,H p=some (.dK kvs)/\k=!kvs.isEmpty
 | _=>False
theorem Ge0{κ:Type}{kvs:List (κ×V)}{vs:List (κ×Value)}(r:KV kvs vs):(!vs.isEmpty)=!kvs.isEmpty:=by
 cases r<;>rfl
theorem Gay{xs:List V}{its:List Value}(r:Vals xs its):(!its.toArray.isEmpty)=!xs.isEmpty:=by
 cases r<;>simp
theorem Zg:(sizeLine:Nat)<2^63:=by rw[sizeLine_eq]; decide
theorem Gp0:Gwj X (fun x H Q=>∃ k,Gpz X.K x H k/\Q k H):=by
 intro pins s σ H x v Q I rx h
 obtain⟨k,e,q⟩:=h
 have hl:=Zg
 have hs:sizeLine=16777216:=sizeLine_eq
 cases x with
 | non=>
  cases rx
  have e':k=false:=e
  subst e'
  exact truthy_none ⟨H,I,q⟩
 | bl b=>
  cases rx
  have e':k=b:=e
  subst e'
  exact wpAny_truthy_bool ⟨H,I,q⟩
 | int i=>
  obtain⟨t,rfl⟩:=rx
  have e':k=(i != 0):=e
  subst e'
  exact PySem.P.truthy_int ⟨H,I,q⟩
 | str y=>
  obtain⟨t,rfl⟩:=rx
  obtain⟨hy,e'⟩:y.length<=sizeLine/\k=((y.length:Int) != 0):=e
  subst e'
  exact PySem.P.truthy_str (by omega) ⟨H,I.tok _,q⟩
 | byt y=>
  obtain⟨t,rfl⟩:=rx
  obtain⟨hy,e'⟩:y.size<=sizeLine/\k=((y.size:Int) != 0):=e
  subst e'
  exact PySem.W.truthy_bytes (by omega) ⟨H,I.tok _,q⟩
 | ref p=>
  cases rx
  have e':(∃ xs,SqL X.K H p xs/\k=!xs.isEmpty)\/(∃ xs,SqT X.K H p xs/\k=!xs.isEmpty)\/∃ kvs,H p=some (.dK kvs)/\k=!kvs.isEmpty:=e
  rcases e' with⟨xs,hx,e'⟩ | ⟨xs,hx,e'⟩ | ⟨kvs,hx,e'⟩
  ·subst e'
   obtain⟨its,r,pl,hz⟩:=I.list hx
   have hlen:=r.length
   exact wpAny_truthy_list pl.isList (by simp only[List.size_toArray]; omega) ⟨H,I.tok _,by rw[Gay r]; exact q⟩
  ·subst e'
   obtain⟨its,r,pl,hz⟩:=I.tuple hx
   have hlen:=r.length
   exact truthy_tuple pl (by simp only[List.size_toArray]; omega) ⟨H,I.tok _,by rw[Gay r]; exact q⟩
  ·subst e'
   obtain⟨hz,hS,vs,r,m⟩:kvs.length<=sizeLine/\(p==sysModules)=false/\∃ vs,KV kvs vs/\s.heap.DictOf (Gcr X.prog X.w) p vs:=I.hok p _ hx
   have hlen:kvs.length=vs.length:=Paired.length r
   exact wpAny_truthy_dict hS m (by omega) ⟨H,I.tok _,by rw[Ge0 r]; exact q⟩
 | _=>exact(show False from e).elim
theorem Gh3(ha:PE X a ta)(he:∀ whole,isTrue a X.env whole=(do let v <- whole; standAt a.pos; holding [v] (truthy v))):
  PT X a (fun σ H Q=>ta σ H fun x H'=>∃ k,Gpz X.K x H' k/\Q k H'):=by
 intro pins s σ H Q I h
 exact isTrue_plain (thn (ha pins s σ H _ I h) fun v s1 ⟨x,H1,I1,r1,q1⟩=>Gp0 pins s1 σ H1 x v Q I1 r1 q1) (he _)
theorem Ge1:OpR X (binaryOp .Add) (fun x y H Q=>∃ i j,x=.str i/\y=.str j/\i.length+j.length<=sizeLine/\Q (.str (i++j)) H):=by
 intro pins s σ H x y v u Q I rx ry h
 obtain⟨i,j,rfl,rfl,hz,q⟩:=h
 obtain⟨t,rfl⟩:=rx
 obtain⟨t',rfl⟩:=ry
 exact add_str (fun t' tk=>⟨.str (i++j),H,I.tok _,⟨_,rfl⟩,q⟩) hz
theorem Ws{x:V}(r:Vals [x] us):∃ u,us=[u]/\Ha x u:=by
 cases r with
 | cons r1 r2=>cases r2; exact⟨_,rfl,r1⟩
theorem Gn8{x y:V}(r:Vals [x,y] us):∃ u w',us=[u,w']/\Ha x u/\Ha y w':=by
 cases r with
 | cons r1 r2=>
  cases r2 with
  | cons r3 r4=>cases r4; exact⟨_,_,rfl,r1,r3⟩
theorem Ggs(hc:X.calm=true):Qq X (.builtin "min") (fun xs H Q=>∃ i j,xs=[.int i,.int j]/\Q (.int (if j<i then j else i)) H):=by
 intro pins s σ H xs us Q I r h
 obtain⟨i,j,rfl,q⟩:=h
 obtain⟨u,w',rfl,⟨t,rfl⟩,⟨t',rfl⟩⟩:=Gn8 r
 refine min_two_ints (I.ok.hd hc) fun h' tk k=>⟨_,H,I.kept k,?_,q⟩
 by_cases hj:j<i
 ·rw[if_pos hj,if_pos hj]; exact⟨_,rfl⟩
 ·rw[if_neg hj,if_neg hj]; exact⟨_,rfl⟩
theorem Ggt:Qq X (.type "int") (fun xs H Q=>(∃ i,xs=[.int i]/\Q (.int i) H)\/∃ k,xs=[.bl k]/\Q (.int (if k then 1 else 0)) H):=by
 intro pins s σ H xs us Q I r h
 rcases h with⟨i,rfl,q⟩ | ⟨k,rfl,q⟩
 ·obtain⟨u,rfl,t,rfl⟩:=Ws r
  exact call_int_int ⟨.int i,H,I,⟨_,rfl⟩,q⟩
 ·obtain⟨u,rfl,r1⟩:=Ws r
  cases r1
  exact call_int_bool ⟨.int (if k then 1 else 0),H,I.tok _,⟨_,rfl⟩,q⟩
theorem Gcw:Qq X (.type "str") (fun xs H Q=>∃ i,xs=[.int i]/\i.natAbs.log2<1920/\Q (.str (toString i)) H):=by
 intro pins s σ H xs us Q I r h
 obtain⟨i,rfl,hz,q⟩:=h
 obtain⟨u,rfl,t,rfl⟩:=Ws r
 exact PySem.P.str_of_int hz ⟨.str _,H,I.tok _,⟨_,rfl⟩,q⟩
def Guf(K:PySem.W.Frag)(x:V)(H:Hp)(n:Nat):Prop:=
 match x with
 | .str y=>y.length<=sizeLine/\n=y.length
 | .byt y=>y.size<=sizeLine/\n=y.size
 | .ref p=>(∃ xs,SqL K H p xs/\n=xs.length)\/∃ xs,SqT K H p xs/\n=xs.length
 | _=>False
theorem Gh4:Qq X (.builtin "len") (fun xs H Q=>∃ x n,xs=[x]/\Guf X.K x H n/\Q (.int n) H):=by
 intro pins s σ H xs us Q I r h
 obtain⟨x,n,rfl,e,q⟩:=h
 obtain⟨u,rfl,rx⟩:=Ws r
 have hl:=Zg
 have hs:sizeLine=16777216:=sizeLine_eq
 cases x with
 | str y=>
  obtain⟨t,rfl⟩:=rx
  obtain⟨hy,e'⟩:y.length<=sizeLine/\n=y.length:=e
  subst e'
  exact len_str (by omega) ⟨.int _,H,I.tok _,⟨_,rfl⟩,q⟩
 | byt y=>
  obtain⟨t,rfl⟩:=rx
  obtain⟨hy,e'⟩:y.size<=sizeLine/\n=y.size:=e
  subst e'
  exact PySem.W.len_bytes (by omega) ⟨.int _,H,I.tok _,⟨_,rfl⟩,q⟩
 | ref p=>
  cases rx
  have e':(∃ xs,SqL X.K H p xs/\n=xs.length)\/∃ xs,SqT X.K H p xs/\n=xs.length:=e
  rcases e' with⟨xs,hx,e'⟩ | ⟨xs,hx,e'⟩
  ·subst e'
   obtain⟨its,r',pl,hz⟩:=I.list hx
   have hlen:=r'.length
   exact Calls.call_len_list pl.isList (by simp only[List.size_toArray]; omega) ⟨.int xs.length,H,I.tok _,⟨_,by simp only[List.size_toArray]; rw[hlen]⟩,q⟩
  ·subst e'
   obtain⟨its,r',pl,hz⟩:=I.tuple hx
   have hlen:=r'.length
   exact len_tuple pl (by simp only[List.size_toArray]; omega) ⟨.int xs.length,H,I.tok _,⟨_,by simp only[List.size_toArray]; rw[hlen]⟩,q⟩
 | _=>exact(show False from e).elim
end
structure ObjM(h:Heap)(x dx C:Addr)(mA:Str->Option Value):Prop where
 obj:h.get? x=some (PySem.W.instObj C dx)
 ns:h.Ns1 dx mA
 ne:dx≠x
structure Cls(K:PySem.W.Frag)(C:Addr):Prop where
 pg:PySem.W.plainGet K C Str.empty=true
 hd:PySem.W.hasDictIn K C=true
 po:PySem.W.plainOver K C=true
 sa:PySem.W.findIn K (.ref C) "__setattr__"=some (some (.builtin "object.__setattr__"))
structure Con(K:PySem.W.Frag)(C:Addr)(f:Str)(v:V)(u:Value):Prop where
 at_:PySem.W.findIn K (.ref C) f=some (some u)
 rel:Ha v u
 get:PySem.W.specialIn K u "__get__"=some none
 cp:PySem.W.copiedNames.contains f=false
structure Meth(K:PySem.W.Frag)(C:Addr)(m:Str)(f:Addr):Prop where
 at_:PySem.W.findIn K (.ref C) m=some (some (.ref f))
 fn:PySem.W.isFn K (.ref f)=true
 kp:PySem.W.keepIn K (.ref f)=true
theorem Gk9{prog:Program}{env:Env}{e:Expr}{f:Str}{s:Shared}(hb:attributeBase e f env (eval e env)=eval e env)(h:wpAny (model prog w) A (eval e env) (fun o s₁=>wpAny (model prog w) A (getAttr o f true) Q E s₁) E s):wpAny (model prog w) A (eval (.Attribute e f pos) env) Q E s:=
 Attribute_any_ h (by rw[arm_eval_Attribute,hb])
section
variable{X:Cx}{pins:List (Addr×Obj)}{σ:St}{H:Hp}{s:Shared}{A:Around}{E:Value->Shared->Prop}{Q:Value->Shared->Prop}{c:Value}{b:Bool}
inductive TyOf(K:PySem.W.Frag)(H:Hp):V->Value->Prop where
 | non:TyOf K H .non (.type "NoneType")
 | bl (x:Bool):TyOf K H (.bl x) (.type "bool")
 | int (i:Int):TyOf K H (.int i) (.type "int")
 | str (x:Str):TyOf K H (.str x) (.type "str")
 | flt (x:UInt64):TyOf K H (.flt x) (.type "float")
 | lst {a:Addr} {xs:List V} (e:H a=some (.lst xs)):TyOf K H (.ref a) (.type "list")
 | frz {a:Addr} {o:Obj} {xs:List V} (e:H a=some (.frz o (.lst xs))):TyOf K H (.ref a) (.type "list")
 | tup {a:Addr} {xs:List V} (e:H a=some (.tup xs)):TyOf K H (.ref a) (.type "tuple")
 | dK {a:Addr} {kvs:List (Key×V)} (e:H a=some (.dK kvs)):TyOf K H (.ref a) (.type "dict")
 | dT {a:Addr} {kvs:List (List Key×V)} (e:H a=some (.dT kvs)):TyOf K H (.ref a) (.type "dict")
 | ins {a C dx:Addr} {fs:List (Str×V)} (e:H a=some (.ins C dx fs)) (cl:Cls K C) (ha:PySem.W.findIn K (.ref C) "__class__"=some (some (.builtin "object.__class__")))
   (hn:PySem.W.specialIn K (.builtin "object.__class__") "__get__"=some (some (.builtin "getset_descriptor.__get__"))) (htk:PySem.W.takesIn K (.builtin "object.__class__")=some true)
   (hm:PySem.W.mroIn K C (.type "object")=some true):TyOf K H (.ref a) (.ref C)
end
structure Room(k:Nat)(A:Around):Prop where
 hd:A.handled=none
 dp:A.depth+3*k+5<recursionLimit
 un:A.units+16*k+200<cLine
 gd:A.guards=some []
theorem Room.mono(r:Room k A)(h:j<=k):Room j A:=⟨r.hd,by have:=r.dp; omega,by have:=r.un; omega,r.gd⟩
theorem Room.deeper(r:Room (k+1) A)(env:Env):Room k (A.deeper env):=
 ⟨r.hd,by have:=r.dp; show A.depth+1+3*k+5<_; omega,by have:=r.un; show A.units+3+16*k+200<_; omega,by first | exact r.gd | (simpa[Around.deeper] using r.gd)⟩
theorem Ge2{C:Addr}{kw:List (Str×Value)}:(A.under (.builtin "type.__call__" ⟨.ref C::us,kw⟩)).depth=A.depth+1:=by
 first | rfl | simp[Around.under,Code.weight,Code.isCreation,Code.isGuard,Code.isCaller,Code.frames,Code.isFrame,guardIds]
theorem Ge3{C:Addr}{kw:List (Str×Value)}:(A.under (.builtin "type.__call__" ⟨.ref C::us,kw⟩)).units=A.units+1:=by
 first | rfl | simp[Around.under,Code.cUnits,Code.frames,Code.isFrame]
theorem Room.make(r:Room (k+1) A)(C:Addr)(us:List Value)(kw:List (Str×Value)):Room k (A.under (.builtin "type.__call__" ⟨.ref C::us,kw⟩)):=
 ⟨r.hd,by have:=r.dp; rw[Ge2]; omega,by have:=r.un; rw[Ge3]; omega,by first | exact r.gd | (simpa[Around.under,pushGuards,Code.guards,Code.isGuard,guardIds] using r.gd)⟩
theorem Room.depth(r:Room k A):A.depth<recursionLimit:=by have:=r.dp; omega
theorem Room.units(r:Room k A):A.units+64<cLine:=by have:=r.un; omega
def Gp1:TA:=fun _ H Q=>Q [] H
def Gdy(ta:TE)(tr:TA):TA:=fun σ H Q=>ta σ H fun x H1=>tr σ H1 fun xs H2=>Q (x::xs) H2
section
variable{X:Cx}{e:Expr}{es:List Expr}{te:TE}{t:TA}{pos:Pos}
theorem pa_nil:PA X [] Gp1:=fun _ _ _ _ H Q I h=>Calls.spliced_nil ⟨[],H,I,.nil,h⟩
theorem Ju(ha:PE X e te)(hr:PA X es t)(hs:starEach (e::es) X.env=(false,eval e X.env)::starEach es X.env:=by rfl):PA X (e::es) (Gdy te t):=by
 intro pos pins s σ H Q I h
 rw[hs]
 show wpAny _ _ (spliced ((false,eval e X.env)::backTo pos (starEach es X.env))) _ _ s
 refine Calls.spliced_cons (thn (ha pins s σ H _ I h) fun u s1 ⟨x,H1,I1,r1,q1⟩=>?_)
 exact thn (hr pos pins s1 σ H1 _ I1 q1) fun us s2 ⟨xs,H2,I2,r2,q2⟩=>⟨x::xs,H2,I2,.cons r1 r2,q2⟩
def Gwl(t:TA):TE:=fun σ H Q=>t σ H fun xs H1=>xs.length<=sizeLine/\∀ p,H1 p=none->Q (.ref p) (upd H1 p (.tup xs))
def Gwm(t:TA):TE:=fun σ H Q=>t σ H fun xs H1=>xs.length<=sizeLine/\∀ p,H1 p=none->Q (.ref p) (upd H1 p (.lst xs))
theorem Gh5{x1}(h:PA X es t):PE X (.Tuple es x1 pos) (Gwl t):=by
 intro pins s σ H Q I hq
 refine wpAny_Tuple_spliced (thn (h pos pins s σ H _ I hq) fun us s1 ⟨xs,H1,I1,r,z,q⟩=>⟨by rw[<- r.length]; exact z,?_⟩)
 have hf:H1 s1.heap.objs.size=none:=I1.hok.fresh (Nat.le_refl _)
 refine⟨.ref s1.heap.objs.size,upd H1 s1.heap.objs.size (.tup xs),I1.laid (t':=s1.toks) (fun b u e=>Heap.get?_push_of_some _ e) (Nat.le_refl _) ?_,rfl,q _ hf⟩
 exact⟨z,us,r,⟨_,Heap.get?_push_size _ rfl,rfl,_,rfl⟩⟩
theorem Gp2(h:PA X es t):PE X (.List es pos) (Gwm t):=by
 intro pins s σ H Q I hq
 refine wpAny_List_spliced (thn (h pos pins s σ H _ I hq) fun us s1 ⟨xs,H1,I1,r,z,q⟩=>⟨by rw[<- r.length]; exact z,?_⟩)
 have hf:H1 s1.heap.objs.size=none:=I1.hok.fresh (Nat.le_refl _)
 refine⟨.ref s1.heap.objs.size,upd H1 s1.heap.objs.size (.lst xs),I1.laid (t':=s1.toks) (fun b u e=>Heap.get?_push_of_some _ e) (Nat.le_refl _) ?_,rfl,q _ hf⟩
 exact⟨z,us,0,r,Heap.get?_push_size _ rfl⟩
end
abbrev Sp:=List V->Hp->VK->XK->Prop
abbrev CXT:=List Env->Hp->Shared->XK->Value->Shared->Prop
variable{CX:CXT}
structure Env0(P:Program)(w:World)(K:PySem.W.Frag)(mg:Str->Option Value)(base:Heap)(A:Around)(outer:List Env)(s:Shared)(H:Hp):Prop where
 frames:A.frames=some outer
 mod:Mod K mg base
 bs:∀ b o,base.get? b=some o->s.heap.get? b=some o/\H b=none
 bsz:base.objs.size<=s.heap.objs.size
 funs:s.heap.FunFrames base outer
 frf:∀ b∈frs outer,H b=none
 hok:HOk P w H s.heap
 bare:AllBare s.gens
def CE(outer:List Env)(P:Program)(w:World)(H:Hp)(s:Shared)(Q:VK)(u:Value)(s':Shared):Prop:=
 ∃ v H',s'.os=s.os/\AllBare s'.gens/\Un (frs outer) [] H H' s.heap s'.heap/\HOk P w H' s'.heap/\Ha v u/\Q v H'
def CR(CX:CXT)(outer:List Env)(P:Program)(w:World)(H:Hp)(s:Shared)(Q:VK)(E:XK)(r:Result)(s':Shared):Prop:=
 match r with
 | .ok (.ret u)=>CE outer P w H s Q u s'
 | .ok _=>False
 | .error e=>CX outer H s E e s'
structure FnOk(P:Program)(w:World)(K:PySem.W.Frag)(mg:Str->Option Value)(base:Heap)(CX:CXT)(k:Nat)(f:Addr)(fd:FuncData)(ps:List Str)(sp:Sp):Prop where
 len:∀ vs H Q E,sp vs H Q E->vs.length=ps.length
 run:∀ (A:Around) (outer:List Env) (s:Shared) (H:Hp) (args:Args) (us:List Value) (vs:List V) (Q:VK) (E:XK),Room k A->Env0 P w K mg base A outer s H->BindsTo s fd args (ps.zip us)->Vals vs us->sp vs H Q E→
  codeAny (model P w) A (.call (.ref f) args) (CR CX outer P w H s Q E) s
theorem FnOk.mono{f:Addr}{fd:FuncData}{sp:Sp}(F:FnOk P w K mg base CX j f fd ps sp)(h:j<=k):
  FnOk P w K mg base CX k f fd ps sp:=⟨F.len,fun A outer s H args us vs Q E hr=>F.run A outer s H args us vs Q E (hr.mono h)⟩
theorem Env0.make{outer:List Env}{s:Shared}(e:Env0 P w K mg base A outer s H)(C:Addr)(us:List Value)(kw:List (Str×Value)):
  Env0 P w K mg base (A.under (.builtin "type.__call__" ⟨.ref C::us,kw⟩)) outer s H:=⟨by first | exact e.frames | (simpa[Around.under,Code.envs,Code.isFrame,pushEnvs] using e.frames),e.mod,e.bs,e.bsz,e.funs,e.frf,e.hok,e.bare⟩
section
variable{X:Cx}{pins:List (Addr×Obj)}{σ:St}{H:Hp}{s s':Shared}
theorem Inv.env0(I:Inv X pins σ H s):Env0 X.prog X.w X.K X.mg X.base X.A X.stack s H:=
 ⟨I.ok.frames,I.ok.mod,I.bs,Nat.le_trans I.ok.bsz I.sz,I.stack,I.stkFree,I.hok,I.bare⟩
theorem Inv.after{Q:VK}(I:Inv X pins σ H s)(h:CE X.stack X.prog X.w H s Q u s'):EP X pins σ Q u s':=by
 obtain⟨v,H',os,bare,un,hok,r,q⟩:=h
 obtain⟨hh,g,d,t,os'⟩:=s'
 obtain rfl:os'=s.os:=os
 exact⟨v,H',I.call (h':=hh) (g':=g) (d':=d) (t':=t) (ch:=[]) un hok bare (fun b z=>absurd z (by simp)),r,q⟩
end
def Gug(sp:Sp)(dvs:List V)(E:XK)(t:TA):TE:=fun σ H Q=>t σ H fun vs H1=>sp (vs++dvs) H1 Q E
def Binds(K:PySem.W.Frag)(fd:FuncData)(ps:List Str)(ds:List Value):Prop:=
 ∀ (s:Shared) (us:List Value),K.In s.heap->(us++ds).length=ps.length->BindsTo s fd ⟨us,[]⟩ (ps.zip (us++ds))
theorem Binds.all{fd:FuncData}(h:∀ us:List Value,us.length=ps.length->bindArgs fd ⟨us,[]⟩=pure (ps.zip us)):Binds K fd ps []:=fun s us _ hl=>by
 rw[List.append_nil] at hl ⊢
 exact .of_eq (h us hl)
def Passes(CX:CXT)(X:Cx)(E:XK):Prop:=∀ (pins:List (Addr×Obj)) (σ:St) (H:Hp) (s:Shared) (e:Value) (s':Shared),Inv X pins σ H s->CX X.stack H s E e s'->X.xe e s'
section
variable{X:Cx}{CX:CXT}{k:Nat}{f C:Addr}{fd:FuncData}{ps:List Str}{sp:Sp}{dvs:List V}{ds:List Value}{E:XK}{x m:Str}{p pos apos:Pos}{e o:Expr}{es:List Expr}{ta:TE}{t:TA}
theorem Gh6{s:Shared}{Q:VK}{vs:List V}(F:FnOk X.prog X.w X.K X.mg X.base CX k f fd ps sp)(hr:Room k X.A)(hb:Binds X.K fd ps ds)(hd:Vals dvs ds)(hx:Passes CX X E)(I:Inv X pins σ H s)(r:Vals vs us)(h:sp (vs++dvs) H Q E):wpAny (model X.prog X.w) X.A (call (.ref f) us) (EP X pins σ Q) X.xe s:=by
 have r2:Vals (vs++dvs) (us++ds):=r.append hd
 have hl:(us++ds).length=ps.length:=by rw[<- r2.length]; exact F.len _ _ _ _ h
 refine wpAny_call (codeAny_mono (F.run X.A X.stack s H ⟨us,[]⟩ (us++ds) (vs++dvs) Q E hr I.env0 (hb s us I.kIn hl) r2 h) fun r s' hq=>?_)
 cases r with
 | error e=>exact hx pins σ H s e s' I hq
 | ok fl=>
  cases fl with
  | ret u=>exact I.after hq
  | next=>exact False.elim hq
  | brk=>exact False.elim hq
  | cont=>exact False.elim hq
theorem Gla(F:FnOk X.prog X.w X.K X.mg X.base CX k f fd ps sp)(hr:Room k X.A)(hg:Gl X x)(hm:X.mg x=some (.ref f))(hk:PySem.W.keepIn X.K (.ref f)=true)(hb:Binds X.K fd ps ds)(hd:Vals dvs ds)(hx:Passes CX X E)
  (ha:PA X (e::es) t) (hdb:(x==("__debug__":Str))=false:=by decide) (he:starEach (e::es) X.env=(false,eval e X.env)::starEach es X.env:=by rfl) (hpl:(backTo pos (starEach es X.env)).any (·.1)=false:=by rfl):
  PE X (.Call (.Name x p) (e::es) [] pos) (Gug sp dvs E t):=by
 intro pins s σ H Q I h
 refine wpAny_Call_Name_kw (Xl I hg hm ?_ hdb)
 refine PySem.W.callWith_K (h₀:=X.base) I.ok.mod.kin hk (thn (ha pos pins s σ H _ I h) fun us s1 ⟨vs,H1,I1,r,q⟩=>⟨I1.kIn,?_⟩) he hpl
 exact Gh6 F hr hb hd hx I1 r q
structure Mk(K:PySem.W.Frag)(C f:Addr):Prop where
 makes:PySem.W.makesIn K C=true
 init:PySem.W.findIn K (.ref C) "__init__"=some (some (.ref f))
 fn:PySem.W.isFn K (.ref f)=true
 kp:PySem.W.keepIn K (.ref C)=true
end
section
variable{X:Cx}{CX:CXT}{k:Nat}{f C:Addr}{fd:FuncData}{ps ks:List Str}{sp:Sp}{E:XK}{x m:Str}{p pos apos kpos:Pos}{e o:Expr}{es:List Expr}{kws:List Keyword}{te ta:TE}{t tk:TA}{nm:Option Str}
structure KBinds(K:PySem.W.Frag)(fd:FuncData)(ps ks:List Str)(g:List Value->List Value->List Value)(gV:List V->List V->List V):Prop where
 to:∀ (s:Shared) (us ws:List Value),K.In s.heap->(g us ws).length=ps.length->BindsTo s fd ⟨us,ks.zip ws⟩ (ps.zip (g us ws))
 rel:∀ {vs:List V} {us:List Value} {zs:List V} {ws:List Value},Vals vs us->Vals zs ws->Vals (gV vs zs) (g us ws)
variable{g:List Value->List Value->List Value}{gV:List V->List V->List V}
end
structure FnScope(N P:List Str)(sc:Scope):Prop where
 kind:sc.kind=.function
 co:sc.isCoroutine=false
 gen:sc.isGenerator=false
 nd:N.Nodup
 pre:N.take P.length=P
 par:∀ x∈P,sc.names.lookup x=some .local\/sc.names.lookup x=some .cell
 nofree:∀ y∈sc.names,y.2≠.free
theorem Gcb{kindOf:Str->Option NameKind}{x:Str}:∀ {binds:List (Str×Value)} {m:Str->Option Value},(∀ v,(x,v)∉binds)->bindL kindOf binds m x=m x
 | [],_,_=>rfl
 | (n,v)::r,m,h=>by
  unfold bindL
  rw[Gcb fun w hw=>h w (List.mem_cons_of_mem _ hw)]
  split
  ·have:x≠n:=by rintro rfl; exact h v List.mem_cons_self
   simp[this]
  ·rfl
theorem Gcc{kindOf:Str->Option NameKind}{x:Str}:∀ {binds:List (Str×Value)} {m:Str->Option Value},(∀ v,(x,v)∉binds)->bindC kindOf binds m x=m x
 | [],_,_=>rfl
 | (n,v)::r,m,h=>by
  unfold bindC
  rw[Gcc fun w hw=>h w (List.mem_cons_of_mem _ hw)]
  split
  ·rfl
  ·have:x≠n:=by rintro rfl; exact h v List.mem_cons_self
   simp[this]
theorem Gcd{kindOf:Str->Option NameKind}{x:Str}{v:Value}:∀ {P:List Str} {vs:List Value} {i:Nat} {m:Str->Option Value},P.Nodup->P[i]?=some x->vs[i]?=some v->kindOf x=some .local→
  bindL kindOf (P.zip vs) m x=some v
 | [],_,_,_,_,h,_,_=>by simp at h
 | _::_,[],_,_,_,_,h,_=>by simp at h
 | p::P,w::vs,0,m,nd,h1,h2,hk=>by
  simp at h1 h2; subst h1; subst h2
  show bindL kindOf ((p,w)::P.zip vs) m p=_
  unfold bindL
  rw[Gcb fun v hv=>(List.nodup_cons.mp nd).1 (List.of_mem_zip hv).1,if_pos hk]
  simp
 | p::P,w::vs,i+1,m,nd,h1,h2,hk=>by
  show bindL kindOf ((p,w)::P.zip vs) m x=_
  unfold bindL
  exact Gcd (i:=i) (List.nodup_cons.mp nd).2 (by simpa using h1) (by simpa using h2) hk
theorem Gce{kindOf:Str->Option NameKind}{x:Str}{v:Value}:∀ {P:List Str} {vs:List Value} {i:Nat} {m:Str->Option Value},P.Nodup->P[i]?=some x->vs[i]?=some v->kindOf x≠some .local→
  bindC kindOf (P.zip vs) m x=some v
 | [],_,_,_,_,h,_,_=>by simp at h
 | _::_,[],_,_,_,_,h,_=>by simp at h
 | p::P,w::vs,0,m,nd,h1,h2,hk=>by
  simp at h1 h2; subst h1; subst h2
  show bindC kindOf ((p,w)::P.zip vs) m p=_
  unfold bindC
  rw[Gcc fun v hv=>(List.nodup_cons.mp nd).1 (List.of_mem_zip hv).1,if_neg hk]
  simp
 | p::P,w::vs,i+1,m,nd,h1,h2,hk=>by
  show bindC kindOf ((p,w)::P.zip vs) m x=_
  unfold bindC
  exact Gce (i:=i) (List.nodup_cons.mp nd).2 (by simpa using h1) (by simpa using h2) hk
def start(N:List Str)(vs:List V):St:=vs.map some++List.replicate (N.length-vs.length) none
def Qi(CX:CXT)(P:Program)(w:World)(K:PySem.W.Frag)(mg:Str->Option Value)(base:Heap)(N:List Str)(qual:Str)(scope:Scope)(f:Addr)(cd:Value)(A:Around)(outer:List Env)(s:Shared)(H:Hp)(E:XK):Cx where
 prog:=P
 w:=w
 K:=K
 mg:=mg
 base:=base
 A:=A.deeper (envOfC qual scope s.heap.objs.size f cd)
 N:=N
 s₀:=s
 H₀:=H
 env:=envOfC qual scope s.heap.objs.size f cd
 outer:=outer
 stack:=envOfC qual scope s.heap.objs.size f cd::outer
 ex:=[]
 calm:=true
 fn:=fun _=>true
 pn:=[]
 xe:=fun e s'=>wpAny (model P w) (A.deeper (envOfC qual scope s.heap.objs.size f cd)) (leaving (envOfC qual scope s.heap.objs.size f cd) e) (fun _ s''=>CX outer H s E e s'') (fun e' s''=>CX outer H s E e' s'') s'
theorem Gdz{sc:Scope}{n:Nat}(h:sc.names.lookup x=some .cell):∃ c,(cellsFrom n sc.names []).lookup x=some c:=by
 have q:=PySem.W.cellsFrom_some sc.names n [] (.inl h)
 exact Option.isSome_iff_exists.mp q
theorem Ggu{qual:Str}{scope:Scope}{f:Addr}{cd:Value}{outer:List Env}{s s1:Shared}{E:XK}{vs:List V}(S:FnScope N ps scope)(hd:A.handled=none)(e0:Env0 P w K mg base A outer s H)(hl:vs.length=ps.length)(r:Vals vs us)(x:InCallC s s.heap.objs.size (bindL (envOfC qual scope s.heap.objs.size f cd).kindOf (ps.zip us) fun _=>none) (cellsFrom (s.heap.objs.size+1) scope.names []) (bindC (envOfC qual scope s.heap.objs.size f cd).kindOf (ps.zip us) fun _=>none) s1):
  Inv (Qi CX P w K mg base N qual scope f cd A outer s H E) [] (start N vs) H s1:=by
 have hpl:ps.length<=N.length:=by have:=congrArg List.length S.pre; rw[List.length_take] at this; omega
 obtain⟨h1,tk,rfl,hk⟩:=x.done
 have noA:∀ b:Addr,b∉(Qi CX P w K mg base N qual scope f cd A outer s H E).ex:=fun b z=>absurd (show b∈([]:List Addr) from z) (by simp)
 refine⟨⟨e0.mod,S.kind,rfl,rfl,Nat.le_refl _,fun y z c h1 h2=>?_,fun y hy=>?_,fun y c _ h=>?_,fun _=>hd,Around.frames_deeper e0.frames,.inr ⟨rfl,rfl⟩,fun b z=>absurd z (noA b),e0.bs,e0.bsz,fun b _ _=>noA b,fun b z=>absurd z (noA b),e0.funs,e0.frf⟩,
  rfl,e0.bare,Un.kept hk,⟨_,x.toInCall.ns,fun i y v h1 h2 h3=>?_⟩,fun y c h=>⟨_,x.cell y c h⟩,e0.hok.fresh (Nat.le_refl _),fun y c h=>?_,fun p hp=>absurd (show p∈([]:List (Addr×Obj)) from hp) (by simp),e0.hok.kept hk,?_⟩
 ·exact name_of_addr x.apart (PySem.mem_of_lookup h1) (PySem.mem_of_lookup h2)
 ·have hy:scope.names.lookup y=some .cell\/scope.names.lookup y=some .free:=hy
  rcases hy with hy | hy
  ·exact Gdz hy
  ·exact absurd rfl (S.nofree _ (PySem.mem_of_lookup hy))
 ·exact Nat.le_of_lt (x.above y c (PySem.mem_of_lookup h))
 ·have hi:i<vs.length:=by
   unfold start at h2
   by_cases hi:i<vs.length
   ·exact hi
   ·rw[List.getElem?_append_right (by simpa using hi)] at h2
    rw[List.getElem?_replicate] at h2
    split at h2<;>cases h2
  have ha:vs[i]?=some v:=by
   unfold start at h2
   rw[List.getElem?_append_left (by simpa using hi),List.getElem?_map] at h2
   cases e:vs[i]? with
   | none=>rw[e] at h2; cases h2
   | some a=>rw[e] at h2; cases h2; rfl
  obtain⟨u,hu,rv⟩:=r.get ha
  have hp:ps[i]?=some y:=by
   rw[<- S.pre,List.getElem?_take_of_lt (by omega)]; exact h1
  have ndP:ps.Nodup:=by rw[<- S.pre]; exact S.nd.sublist (List.take_sublist _ _)
  refine⟨u,rv,?_⟩
  rcases S.par y (List.mem_of_getElem? hp) with k | k
  ·exact .inl ⟨k,Gcd ndP hp hu k⟩
  ·obtain⟨c,e⟩:=Gdz (n:=s.heap.objs.size+1) k
   refine .inr ⟨.inl k,c,e,?_⟩
   have q:=x.cell y c e
   rw[Gce ndP hp hu (by show scope.names.lookup y≠_; rw[k]; decide)] at q
   exact q
 ·exact e0.hok.fresh (Nat.le_of_lt (x.above y c (PySem.mem_of_lookup h)))
 ·unfold start
  show _=N.length
  rw[List.length_append,List.length_map,List.length_replicate]
  omega
theorem Gn9{f:Addr}{name qual:Str}{params:Arguments}{body:List Stmt}{scope:Scope}{dV kV doc pm cdv ct oc:Value}{an od:Option Addr}{osl:Array (Option Value)}{sp:Sp}(lk:K.lookup f=some ⟨oc,od,.func (PySem.W.fnOf name qual params body scope dV kV doc pm an cdv ct),osl⟩)(hcd:PySem.W.codeIn K cdv qual=true)(S:FnScope N ps scope)(len:∀ vs H Q E,sp vs H Q E->vs.length=ps.length)(hbody:∀ (A:Around) (outer:List Env) (s:Shared) (H:Hp) (vs:List V) (Q:VK) (E:XK),Room k (A.deeper (envOfC qual scope s.heap.objs.size f cdv))->sp vs H Q E→
   ∃ t,PSs (Qi CX P w K mg base N qual scope f cdv A outer s H E) body t/\t { nx:=fun _ H'=>Q .non H',rt:=Q } (start N vs) H):
  FnOk P w K mg base CX (k+1) f (PySem.W.fnOf name qual params body scope dV kV doc pm an cdv ct) ps sp:=by
 refine⟨len,fun A outer s H args us vs Q E hr e0 hb r hsp=>?_⟩
 have hl:=len _ _ _ _ hsp
 have KX:K.In s.heap:=e0.mod.kin.keeps fun b o e=>(e0.bs b o e).1
 have lim:s.heap.NoLimit:=e0.mod.nolimit.keeps fun b o e=>(e0.bs b o e).1
 have hkind:∀ y∈ps.zip us,scope.names.lookup y.1=some .local\/(scope.names.lookup y.1=some .cell/\((cellsFrom (s.heap.objs.size+1) scope.names []).lookup y.1).isSome=true):=fun⟨n,v⟩ hy=>by
  rcases S.par n (List.of_mem_zip hy).1 with q | q
  ·exact .inl q
  ·exact .inr ⟨q,PySem.W.cellsFrom_some _ _ _ (.inl q)⟩
 refine codeAny_call_function hr.depth (KX _ _ lk) rfl S.co S.gen rfl (PySem.W.codeRec_of KX hcd) (hb _ _ _ _ ?_)
 refine wpAny_newFunctionEnv_cells S.kind hkind fun env he s1 x=>?_
 subst he
 refine⟨lim.keeps x.toInCall.keep,codeAny_func ?_⟩
 obtain⟨t,ht,hq⟩:=hbody A outer s H vs Q E (hr.deeper _) hsp
 have I:Inv (Qi CX P w K mg base N qual scope f cdv A outer s H E) [] (start N vs) H s1:=Ggu S hr.hd e0 hl r x
 refine wpAny_mono (ht [] s1 (start N vs) H _ I hq) (fun fl s' hs=>?_) fun e s' hs=>hs
 have fin:∀ {σ':St} {H':Hp} {v:V} {u:Value},Inv (Qi CX P w K mg base N qual scope f cdv A outer s H E) [] σ' H' s'->Ha v u->Q v H'->CE outer P w H s Q u s':=
  fun{σ' H' v u} J rv q=>⟨v,H',J.os,J.bare,J.base,J.hok,rv,q⟩
 cases fl with
 | ret u=>
  obtain⟨v,σ',H',J,rv,q⟩:=hs
  exact fin J rv q
 | next=>
  obtain⟨σ',H',J,q⟩:=hs
  exact fin (v:=V.non) (u:=Value.none) J rfl q
 | brk=>
  obtain⟨_,_,_,q⟩:=hs
  exact False.elim q
 | cont=>
  obtain⟨_,_,_,q⟩:=hs
  exact False.elim q
section
variable{X:Cx}{x:Str}{p pos:Pos}{e:Expr}{es:List Expr}{t:TA}{id T:String}{r:List V->Hp->VK->Prop}
def tCB(r:List V->Hp->VK->Prop)(t:TA):TE:=fun σ H Q=>t σ H fun vs H1=>r vs H1 Q
theorem Wt(hc:Qq X (.builtin id) r)(hg:Gl X x)(hm:X.mg x=none)(hv:bootBuiltins x=some (.builtin id))(ha:PA X (e::es) t)(hn:x≠"__name__":=by decide)(hdb:(x==("__debug__":Str))=false:=by decide)
  (he:starEach (e::es) X.env=(false,eval e X.env)::starEach es X.env:=by rfl) (hpl:(backTo pos (starEach es X.env)).any (·.1)=false:=by rfl):PE X (.Call (.Name x p) (e::es) [] pos) (tCB r t):=by
 intro pins s σ H Q I h
 refine wpAny_Call_Name_kw (Wr I hg hm hv ?_ hn hdb)
 exact PyProof.Rows.callWith_builtin1 (thn (ha pos pins s σ H _ I h) fun us s1 ⟨vs,H1,I1,r1,q1⟩=>hc pins s1 σ H1 vs us Q I1 r1 q1) he hpl
theorem Ggv(hc:Qq X (.type T) r)(hg:Gl X x)(hm:X.mg x=none)(hv:bootBuiltins x=some (.type T))(ha:PA X (e::es) t)(hn:x≠"__name__":=by decide)(hdb:(x==("__debug__":Str))=false:=by decide)
  (he:starEach (e::es) X.env=(false,eval e X.env)::starEach es X.env:=by rfl) (hpl:(backTo pos (starEach es X.env)).any (·.1)=false:=by rfl):PE X (.Call (.Name x p) (e::es) [] pos) (tCB r t):=by
 intro pins s σ H Q I h
 refine wpAny_Call_Name_kw (Wr I hg hm hv ?_ hn hdb)
 exact PyProof.Rows.callWith_type1 (thn (ha pos pins s σ H _ I h) fun us s1 ⟨vs,H1,I1,r1,q1⟩=>hc pins s1 σ H1 vs us Q I1 r1 q1) he hpl
end
end L2
namespace HT
open PySem PyProof.Rows
section
open PySem.SeqAt
open PySem.AutoSeq1 (wpAny_loadPart')
open PySem.MeetsSeq PySem.MeetsSeq2 PySem.MeetsSeq3
end
section
variable{prog:Program}{w:World}{A:Around}{E:Value->Shared->Prop}{s:Shared}
theorem Glb{t b:Addr}{vs ws:List Value}{Q:Value->Shared->Prop}(ht:IsTup s.heap t vs.toArray)(hb:IsTup s.heap b ws.toArray)(hv:vs≠[])
  (h1:ws=[]->Q (.ref t) s) (h2:ws≠[]->Q (.ref s.heap.objs.size) { s with heap:=s.heap.push { cls:=.type "tuple",data:=.seq (vs++ws).toArray } })
  (hsz:vs.length+ws.length<=sizeLine):wpAny (model prog w) A (binaryOp .Add (.ref t) (.ref b)) Q E s:=by
 obtain⟨⟨cls,dd,data,sl⟩,ho,hc,n,hd⟩:=id ht
 obtain⟨⟨cls2,dd2,data2,sl2⟩,ho2,hc2,n2,hd2⟩:=id hb
 simp only at hc hd hc2 hd2
 subst hc hd hc2 hd2
 have e:vs.toArray++ws.toArray=(vs++ws).toArray:=by simp
 by_cases hw:ws=[]
 ·exact concat_meets ⟨_,ho,rfl⟩ ⟨_,ho2,rfl⟩ noFill_tuple_add seq_tuple_add PySem.F.slot_tuple_add PySem.F.entry_tuple_add (PySem.F.args_tuple_add_2 _ _)
   (tuple_addW1 t b vs.toArray ws.toArray n n2 dd dd2 sl sl2 (by simpa using hv) (by simp[hw])) ⟨ho,ho2,h1 hw⟩
 ·refine concat_meets ⟨_,ho,rfl⟩ ⟨_,ho2,rfl⟩ noFill_tuple_add seq_tuple_add PySem.F.slot_tuple_add PySem.F.entry_tuple_add (PySem.F.args_tuple_add_2 _ _)
   (tuple_addW2 t b vs.toArray ws.toArray n n2 dd dd2 sl sl2 (by simpa using hv) (by simpa using hw) (by rw[List.size_toArray,List.size_toArray]; exact hsz)) ⟨ho,ho2,?_⟩
  rw[e]
  exact h2 hw
def sIx(n d:Nat):Option Int->Nat
 | none=>d
 | some v=>if v<0 then(v+(n:Int)).toNat else min v.toNat n
theorem Gh7(n d:Nat):sIx n d none=d:=rfl
theorem Glc(n d k:Nat):sIx n d (some (k:Int))=min k n:=by
 show(if(k:Int)<0 then((k:Int)+(n:Int)).toNat else min (k:Int).toNat n)=min k n
 rw[if_neg (by omega),Int.toNat_natCast]
theorem Gp3(n d:Nat)(hd:d<=n)(o:Option Int):sIx n d o<=n:=by
 cases o with
 | none=>exact hd
 | some v=>
  show(if v<0 then(v+(n:Int)).toNat else min v.toNat n)<=n
  by_cases hv:v<0
  ·rw[if_pos hv]; omega
  ·rw[if_neg hv]; exact Nat.min_le_right _ _
theorem Gfu(v:Int)(n d:Nat):(if v<0 then max (v+(n:Int)) 0 else min v (n:Int))=((sIx n d (some v):Nat):Int):=by
 show(if v<0 then max (v+(n:Int)) 0 else min v (n:Int))=(((if v<0 then(v+(n:Int)).toNat else min v.toNat n):Nat):Int)
 by_cases hv:v<0
 ·simp only[if_pos hv]; omega
 ·simp only[if_neg hv]; omega
theorem Ge4(lo hi:Option Int)(n:Nat):Builtin.Slice.sliceAdjust lo hi 1 (n:Int)=(((sIx n 0 lo:Nat):Int),((sIx n n hi:Nat):Int)):=by
 have h1:¬ ((1:Int)<0):=by omega
 unfold Builtin.Slice.sliceAdjust
 simp only[h1,if_false]
 refine Prod.ext ?_ ?_
 ·cases lo with
  | none=>rfl
  | some v=>exact Gfu v n 0
 ·cases hi with
  | none=>rfl
  | some v=>exact Gfu v n n
theorem Ge5(i j:Nat):Builtin.Slice.slicePlaces (i:Int) (j:Int) 1=j-i:=by
 unfold Builtin.Slice.slicePlaces
 have h1:(1:Int)>0:=by omega
 simp only[h1,if_true,Int.ediv_one]
 split<;>omega
theorem Gaz{v:Value}{o:Option Int}{Q:Option Int->Shared->Prop}(p:IsPart v o)(h:Q o s):wpAny (model prog w) A (Builtin.Slice.slicePartIndex v) Q E s:=by
 cases p with
 | none=>exact slicePart_none h
 | int i t=>exact slicePart_int h
theorem Vv{sl:Addr}{vl vu:Value}{lo hi:Option Int}{n:Nat}{Q:Int×Int×Nat->Shared->Prop}(hs:s.heap.IsSliceOf sl vl vu .none)(pl:IsPart vl lo)(pu:IsPart vu hi)
  (h:Q (((sIx n 0 lo:Nat):Int),1,sIx n n hi-sIx n 0 lo) s):wpAny (model prog w) A (Builtin.Slice.sliceApplied (.ref sl) (pure (n:Int))) Q E s:=by
 obtain⟨os,hos,hcs,hds⟩:=id hs
 unfold Builtin.Slice.sliceApplied Builtin.Slice.sliceFields
 refine wpAny_bind (wpAny_bind (wpAny_field hos hds (x:=vl) rfl (wpAny_bind (wpAny_field hos hds (x:=vu) rfl (wpAny_bind (wpAny_field hos hds (x:=.none) rfl (wpAny_pure ?_)))))))
 refine wpAny_bind (slicePart_none ?_)
 show wpAny _ _ (if((1:Int)==0)=true then _ else _) _ _ s
 rw[if_neg (by decide)]
 refine wpAny_bind (Gaz pl (wpAny_bind (Gaz pu (wpAny_bind (wpAny_pure ?_)))))
 show wpAny _ _ (match Builtin.Slice.sliceAdjust lo hi 1 (n:Int) with | (lo,hi)=>pure (lo,(1:Int),Builtin.Slice.slicePlaces lo hi 1)) _ _ s
 rw[Ge4 lo hi n]
 show wpAny _ _ (pure (((sIx n 0 lo:Nat):Int),(1:Int),Builtin.Slice.slicePlaces ((sIx n 0 lo:Nat):Int) ((sIx n n hi:Nat):Int) 1)) _ _ s
 rw[Ge5]
 exact wpAny_pure h
theorem Gh8(xs:Array Value)(i k:Nat):((List.range k).filterMap fun(m:Nat)=>xs[((i:Int)+(m:Int)*1).toNat]?).toArray=((xs.toList.drop i).take k).toArray:=by
 have e:(fun(m:Nat)=>xs[((i:Int)+(m:Int)*1).toNat]?)=fun m=>xs[i+m]?:=by
  funext m
  have:((i:Int)+(m:Int)*1).toNat=i+m:=by omega
  rw[this]
 rw[e]
 have:=pick_run xs i k
 rw[List.filterMap_map] at this
 have e2:((fun x=>xs[x]?)∘fun x=>i+x)=fun m=>xs[i+m]?:=rfl
 rw[e2] at this
 rw[this]
theorem Yl{t sl:Addr}{items:Array Value}{vl vu:Value}{lo hi:Option Int}{Q:Value->Shared->Prop}(ht:IsTup s.heap t items)(hs:s.heap.IsSliceOf sl vl vu .none)(pl:IsPart vl lo)(pu:IsPart vu hi)
  (hw:¬ (sIx items.size 0 lo=0/\sIx items.size items.size hi=items.size))
  (h:Q (.ref s.heap.objs.size) { s with heap:=s.heap.push { cls:=.type "tuple",data:=.seq ((items.toList.drop (sIx items.size 0 lo)).take (sIx items.size items.size hi-sIx items.size 0 lo)).toArray } })
  (hsz:items.size<=sizeLine):wpAny (model prog w) A (getItem (.ref t) (.ref sl)) Q E s:=by
 have htake:sizeOk (.seq ((items.toList.drop (sIx items.size 0 lo)).take (sIx items.size items.size hi-sIx items.size 0 lo)).toArray):=by
  show((items.toList.drop (sIx items.size 0 lo)).take (sIx items.size items.size hi-sIx items.size 0 lo)).toArray.size<=sizeLine
  rw[List.size_toArray,List.length_take,List.length_drop,Array.length_toList]
  omega
 have hj:sIx items.size items.size hi<=items.size:=Gp3 _ _ (Nat.le_refl _) hi
 obtain⟨os,hos,hcs,hds⟩:=id hs
 have hTs:s.TypeIs (.ref sl) "slice":=⟨os,hos,hcs⟩
 unfold getItem
 try with_reducible refine wpAny_holding ?_
 first | refine wpAny_bind (wpAny_pure ?_) | skip
 refine wpAny_bind (wpAny_sequenceKey ht.typeIs (by decide) ?_)
 refine wpAny_bind (wpAny_callSpecial?_slot (name:=Str.ofString "__getitem__") ht.typeIs PyProof.Rows.slot_tuple_getitem
  (wpAny_call_entry PyProof.Rows.slot_tuple_getitem ht.typeIs entry_tuple_getitem ?_ (args_tuple_getitem _ _)))
 show wpAny _ _ (Builtin.Tuple.tupleItemsOf (.ref t) >>= _) _ _ s
 refine wpAny_bind (tupleItemsOf_ ht ?_)
 refine wpAny_bind (wpAny_typeOf hTs ?_)
 rw[if_pos (by decide)]
 refine wpAny_bind (Vv hs pl pu ?_)
 have hno:¬ ((((sIx items.size 0 lo:Nat):Int)==0&&(1:Int)==1&&(sIx items.size items.size hi-sIx items.size 0 lo)==items.size)=true):=by
  intro q
  rw[Bool.and_eq_true,Bool.and_eq_true] at q
  have q1:((sIx items.size 0 lo:Nat):Int)=0:=eq_of_beq q.1.1
  have q2:sIx items.size items.size hi-sIx items.size 0 lo=items.size:=eq_of_beq q.2
  exact hw ⟨by omega,by omega⟩
 show wpAny _ _ (if(((sIx items.size 0 lo:Nat):Int)==0&&(1:Int)==1&&(sIx items.size items.size hi-sIx items.size 0 lo)==items.size)=true then _ else _) _ _ s
 rw[if_neg hno,Gh8]
 first
  | exact wpAny_bind (m:=Builtin.Tuple.tupleExact _) (wpAny_newObj_type (wpAny_pure ⟨_,rfl,wpAny_pure h⟩) htake)
  | exact wpAny_bind (m:=Builtin.Tuple.tupleExact _) (wpAny_newObj_type (wpAny_bind (wpAny_pure (wpAny_pure ⟨_,rfl,wpAny_pure h⟩))) htake)
  | exact wpAny_bind (wpAny_bind (m:=Builtin.Tuple.tupleExact _) (wpAny_newObj_type (wpAny_pure (wpAny_pure ⟨_,rfl,wpAny_pure h⟩)) htake))
  | exact wpAny_bind (wpAny_bind (m:=Builtin.Tuple.tupleExact _) (wpAny_newObj_type (wpAny_pure ⟨_,rfl,wpAny_pure h⟩) htake))
end
end HT
namespace L2
open PySem PySem.Spec PyProof.Rows
variable{xs:List V}{n:Nat}{pins:List (Addr×Obj)}{σ:St}{H:Hp}{its:List Value}
abbrev TO:=St->Hp->(Option Int->Hp->Prop)->Prop
def PO(X:Cx)(e:Option Expr)(t:TO):Prop:=
 ∀ (pins:List (Addr×Obj)) (s:Shared) (σ:St) (H:Hp) (Q:Option Int->Hp->Prop),Inv X pins σ H s->t σ H Q→
  wpAny (model X.prog X.w) X.A (evalPart e X.env) (fun u s'=>∃ o H',Inv X pins σ H' s'/\IsPart u o/\Q o H') X.xe s
def Gld:TO:=fun _ H Q=>Q none H
def Guh(t:TE):TO:=fun σ H Q=>t σ H fun x H1=>∃ i,x=.int i/\Q (some i) H1
theorem Ge6{ns:List Int}:∀ {us:List Value},Vals (ns.map V.int) us->IntsAre us ns:=by
 induction ns with
 | nil=>intro us r; rw[List.map_nil] at r; cases r; exact .nil
 | cons n ns ih=>
  intro us r
  rw[List.map_cons] at r
  cases r with
  | cons r1 r2=>
   obtain⟨t,e⟩:=r1
   subst e
   exact .cons n t (ih r2)
section
variable{X:Cx}{e:Expr}{te:TE}{lo hi:Option Expr}{tl th:TO}{pos p2:Pos}
theorem Gle:PO X none Gld:=by
 intro pins s σ H Q I h
 rw[evalPart_none]
 exact wpAny_pure ⟨none,H,I,.none,h⟩
theorem Glf(h:PE X e te):PO X (some e) (Guh te):=by
 intro pins s σ H Q I hw
 rw[evalPart_some]
 refine thn (h pins s σ H _ I hw) fun u s1 ⟨x,H1,I1,r1,q1⟩=>?_
 obtain⟨i,rfl,q⟩:=q1
 obtain⟨t,rfl⟩:=r1
 exact⟨some i,H1,I1,.int i t,q⟩
def SlR(X:Cx)(r:V->Option Int->Option Int->Hp->VK->Prop):Prop:=
 ∀ (pins:List (Addr×Obj)) (s:Shared) (σ:St) (H:Hp) (x:V) (v vl vu:Value) (lo hi:Option Int) (sl:Addr) (Q:VK),Inv X pins σ H s->Ha x v->s.heap.IsSliceOf sl vl vu .none->IsPart vl lo->IsPart vu hi->r x lo hi H Q→
  ∃ T id,typeLookup (.type T) "__getitem__"=pure (some (.builtin id))/\s.TypeIs v T/\wpAny (model X.prog X.w) X.A (getItem v (.ref sl)) (EP X pins σ Q) X.xe s
theorem SlR.or{r r':V->Option Int->Option Int->Hp->VK->Prop}(h:SlR X r)(h':SlR X r'):SlR X (fun x lo hi H Q=>r x lo hi H Q\/r' x lo hi H Q):=by
 intro pins s σ H x v vl vu lo hi sl Q I rx hs pl pu q
 rcases q with q | q
 ·exact h pins s σ H x v vl vu lo hi sl Q I rx hs pl pu q
 ·exact h' pins s σ H x v vl vu lo hi sl Q I rx hs pl pu q
def tSl(r:V->Option Int->Option Int->Hp->VK->Prop)(te:TE)(tl th:TO):TE:=fun σ H Q=>te σ H fun x H1=>tl σ H1 fun l H2=>th σ H2 fun u H3=>r x l u H3 Q
theorem Gh9{r:V->Option Int->Option Int->Hp->VK->Prop}(hr:SlR X r)(he:PE X e te)(hl:PO X lo tl)(hu:PO X hi th):PE X (.Subscript e (.Slice lo hi none p2) pos) (tSl r te tl th):=by
 intro pins s σ H Q I h
 refine Subscript_ (thn (he pins s σ H _ I h) fun v s1 ⟨x,H1,I1,r1,q1⟩=>?_)
 refine wpAny_Slice (thn (hl pins s1 σ H1 _ I1 q1) fun vl s2 ⟨l,H2,I2,pl,q2⟩=>thn (hu pins s2 σ H2 _ I2 q2) fun vu s3 ⟨u,H3,I3,pu,q3⟩=>?_)
 rw[evalPart_none]
 refine wpAny_pure ?_
 have I4:Inv X pins σ H3 { s3 with heap:=s3.heap.push { cls:=.type "slice",data:=.fields #[vl,vu,.none] } }:=I3.kept (t':=s3.toks) fun b ob q=>Heap.get?_push_of_some _ q
 obtain⟨T,id,hT,ht,hg⟩:=hr pins { s3 with heap:=s3.heap.push { cls:=.type "slice",data:=.fields #[vl,vu,.none] } } σ H3 x v vl vu l u s3.heap.objs.size Q I4 r1 (Heap.IsSliceOf.new ..) pl pu q3
 show wpAny (model X.prog X.w) X.A (subscriptTail e (.Slice lo hi none p2) v (.ref s3.heap.objs.size)) (EP X pins σ Q) X.xe { s3 with heap:=s3.heap.push { cls:=.type "slice",data:=.fields #[vl,vu,.none] } }
 exact tail_any (ops:=[.ref s3.heap.objs.size,v]) ht hT hg (by with_unfolding_all rfl)
def Gd0(xs:List V)(lo hi:Option Int):List V:=(xs.drop (HT.sIx xs.length 0 lo)).take (HT.sIx xs.length xs.length hi-HT.sIx xs.length 0 lo)
theorem Zt(xs:List V)(lo hi:Option Int):(Gd0 xs lo hi).length<=xs.length:=by
 unfold Gd0
 rw[List.length_take,List.length_drop]
 omega
def Gwn(K:PySem.W.Frag):V->Option Int->Option Int->Hp->VK->Prop:=fun x lo hi H Q=>∃ a xs,x=.ref a/\SqT K H a xs∧
 ¬ (HT.sIx xs.length 0 lo=0/\HT.sIx xs.length xs.length hi=xs.length)/\∀ p,H p=none->Q (.ref p) (upd H p (.tup (Gd0 xs lo hi)))
theorem Gp4:SlR X (Gwn X.K):=by
 intro pins s σ H x v vl vu lo hi sl Q I rx hs pl pu h
 obtain⟨a,xs,rfl,hx,hw,q⟩:=h
 cases rx
 obtain⟨its,r,ht,hz⟩:=I.tuple hx
 have hlen:its.toArray.size=xs.length:=by rw[List.size_toArray]; exact r.length.symm
 refine⟨"tuple",_,PyProof.Rows.slot_tuple_getitem.lookup,ht.typeIs,?_⟩
 refine HT.Yl ht hs pl pu (by rw[hlen]; exact hw) ?_ (by rw[hlen]; exact hz)
 rw[hlen]
 refine⟨.ref s.heap.objs.size,_,I.laid (t':=s.toks) (o:=.tup (Gd0 xs lo hi)) (fun b ob q=>Heap.get?_push_of_some _ q) (Nat.le_refl _) ?_,rfl,q _ (I.hok.fresh (Nat.le_refl _))⟩
 exact⟨Nat.le_trans (Zt xs lo hi) hz,_,(r.drop (HT.sIx xs.length 0 lo)).take (HT.sIx xs.length xs.length hi-HT.sIx xs.length 0 lo),IsTup.new _ _⟩
def Goa(K:PySem.W.Frag):R2:=fun x y H Q=>∃ a b xs ys,x=.ref a/\y=.ref b/\SqT K H a xs/\SqT K H b ys/\xs≠[]/\xs.length+ys.length<=sizeLine∧
 (ys=[]->Q (.ref a) H)/\(ys≠[]->∀ p,H p=none->Q (.ref p) (upd H p (.tup (xs++ys))))
theorem Vals.nil_iff{us:List Value}(r:Vals xs us):us=[]↔xs=[]:=by
 cases r with
 | nil=>simp
 | cons _ _=>simp
theorem Glg:OpR X (binaryOp .Add) (Goa X.K):=by
 intro pins s σ H x y v u Q I rx ry h
 obtain⟨a,b,xs,ys,rfl,rfl,ha,hb,hx,hz,q1,q2⟩:=h
 cases rx
 cases ry
 obtain⟨its,r1,p1,_⟩:=I.tuple ha
 obtain⟨its2,r2,p2,_⟩:=I.tuple hb
 refine HT.Glb p1 p2 (fun z=>hx (r1.nil_iff.mp z)) (fun z=>⟨.ref a,H,I,rfl,q1 (r2.nil_iff.mp z)⟩) (fun z=>?_) (by rw[<- r1.length,<- r2.length]; exact hz)
 refine⟨.ref s.heap.objs.size,_,I.laid (t':=s.toks) (o:=.tup (xs++ys)) (fun b ob q=>Heap.get?_push_of_some _ q) (Nat.le_refl _) ?_,rfl,q2 (fun w=>z (r2.nil_iff.mpr w)) _ (I.hok.fresh (Nat.le_refl _))⟩
 exact⟨by rw[List.length_append]; exact hz,_,r1.append r2,IsTup.new _ _⟩
end
def ixN(n:Nat)(i:Int):Option Nat:=if 0<=i then(if i<n then some i.toNat else none) else if -(n:Int)<=i then some (i+n).toNat else none
def atI{α:Type}(xs:List α)(i:Int):Option α:=(ixN xs.length i).bind fun j=>xs[j]?
theorem Gfv{i:Int}{j:Nat}(h:ixN n i=some j):seqIndex? i n=some j/\j<n /\ -(n:Int)<=i/\i<n:=by
 unfold ixN at h
 by_cases h0:0<=i
 ·rw[if_pos h0] at h
  by_cases h1:i<n
  ·rw[if_pos h1] at h
   have e:i.toNat=j:=Option.some.inj h
   exact⟨by rw[seqIndex_of h0 h1,e],by omega,by omega,h1⟩
  ·rw[if_neg h1] at h; cases h
 ·rw[if_neg h0] at h
  by_cases h1 : -(n:Int)<=i
  ·rw[if_pos h1] at h
   have e:(i+n).toNat=j:=Option.some.inj h
   exact⟨by rw[seqIndex_neg (by omega) h1,e],by omega,h1,by omega⟩
  ·rw[if_neg h1] at h; cases h
theorem Gcx{α:Type}{xs:List α}{i:Int}{v:α}(h:atI xs i=some v):∃ j,seqIndex? i xs.length=some j/\xs[j]?=some v/\j<xs.length /\ -(xs.length:Int)<=i/\i<xs.length:=by
 unfold atI at h
 cases e:ixN xs.length i with
 | none=>rw[e] at h; cases h
 | some j=>
  rw[e] at h
  obtain⟨h1,h2,h3,h4⟩:=Gfv e
  exact⟨j,h1,h,h2,h3,h4⟩
def Gao(b:Expr):Prop:=∀ o i,subscripted b false o i=operate [o,i] (getItem o i)
def IxR(X:Cx)(r:R2):Prop:=
 ∀ (value slice:Expr) (pins:List (Addr×Obj)) (s:Shared) (σ:St) (H:Hp) (x y:V) (v u:Value) (Q:VK),Inv X pins σ H s->Ha x v->Ha y u->r x y H Q→
  subscripted slice false v u=operate [v,u] (getItem v u)->wpAny (model X.prog X.w) X.A (subscriptTail value slice v u) (EP X pins σ Q) X.xe s
def MtR(X:Cx)(id:String)(r:V->List V->Hp->VK->Prop):Prop:=
 ∀ (pins:List (Addr×Obj)) (s:Shared) (σ:St) (H:Hp) (x:V) (xs:List V) (v:Value) (us:List Value) (Q:VK),Inv X pins σ H s->Ha x v->Vals xs us->r x xs H Q→
  wpAny (model X.prog X.w) X.A (call (.builtin id) (v::us)) (EP X pins σ Q) X.xe s
section
variable{X:Cx}{a b:Expr}{ta tb:TE}{pos:Pos}
theorem IxR.or{r r':R2}(h:IxR X r)(h':IxR X r'):IxR X (fun x y H Q=>r x y H Q\/r' x y H Q):=by
 intro value slice pins s σ H x y v u Q I rx ry q hs
 rcases q with q | q
 ·exact h value slice pins s σ H x y v u Q I rx ry q hs
 ·exact h' value slice pins s σ H x y v u Q I rx ry q hs
theorem Gui{r:R2}(hr:IxR X r)(ha:PE X a ta)(hb:PE X b tb)(hs:Gao b):PE X (.Subscript a b pos) (tOp r ta tb):=by
 intro pins s σ H Q I h
 exact Subscript_ (Gps ha hb I h fun v u s2 x y H2 I2 rx ry q=>hr a b pins s2 σ H2 x y v u Q I2 rx ry q (hs _ _))
def Guj(K:PySem.W.Frag):R2:=fun x y H Q=>∃ p xs i v,x=.ref p/\y=.int i/\SqL K H p xs/\atI xs i=some v/\Q v H
def Guk(K:PySem.W.Frag):R2:=fun x y H Q=>∃ p xs i v,x=.ref p/\y=.int i/\SqT K H p xs/\atI xs i=some v/\Q v H
def Gul:R2:=fun x y H Q=>∃ z i c,x=.str z/\y=.int i/\z.length<=sizeLine/\atI z.cps.toList i=some c/\Q (.str ⟨#[c]⟩) H
theorem Glh:IxR X (Guj X.K):=by
 intro value slice pins s σ H x y v u Q I rx ry h hs
 obtain⟨p,xs,i,z,rfl,rfl,hq,he,q⟩:=h
 cases rx
 obtain⟨t,rfl⟩:=ry
 obtain⟨its,r,pl,hz⟩:=I.list hq
 obtain⟨j,h1,h2,h3,h4,h5⟩:=Gcx he
 obtain⟨w,ew,rw'⟩:=r.get h2
 have hl:=r.length
 have hn:=Zg
 have fin:EP X pins σ Q w s:=⟨z,H,I,rw',q⟩
 by_cases h0:0<=i
 ·have hj:i.toNat=j:=by
   rw[seqIndex_of h0 h5] at h1
   exact Option.some.inj h1
  exact item_listR pl.isList h0 (by omega) (by rw[hj]; simpa using ew) fin hs
 ·have hj:(i+(its.toArray.size:Int)).toNat=j:=by
   rw[seqIndex_neg (by omega) h4] at h1
   rw[List.size_toArray,<- hl]
   exact Option.some.inj h1
  exact subscriptTail_builtinR (x:=w) pl.isList.typeIs slot_list_getitem.lookup
   (wpAny_getItem_list_neg (Q:=fun r s'=>r=w/\EP X pins σ Q r s') pl.isList (by omega) (by rw[List.size_toArray]<;>omega) (by omega) (by rw[hj]; simpa using ew) ⟨rfl,fin⟩) hs
theorem Gp5:IxR X (Guk X.K):=by
 intro value slice pins s σ H x y v u Q I rx ry h hs
 obtain⟨p,xs,i,z,rfl,rfl,hq,he,q⟩:=h
 cases rx
 obtain⟨t,rfl⟩:=ry
 obtain⟨its,r,pl,hz⟩:=I.tuple hq
 obtain⟨j,h1,h2,h3,h4,h5⟩:=Gcx he
 obtain⟨w,ew,rw'⟩:=r.get h2
 have hl:=r.length
 have hn:=Zg
 have fin:EP X pins σ Q w s:=⟨z,H,I,rw',q⟩
 exact subscriptTail_builtinR (x:=w) pl.typeIs slot_tuple_getitem.lookup
  (getItem_tuple (j:=j) (Q:=fun r s'=>r=w/\EP X pins σ Q r s') pl (by omega) (by omega) (by rw[List.size_toArray,<- hl]; exact h1) (by simpa using ew) ⟨rfl,fin⟩) hs
theorem Gp6:IxR X Gul:=by
 intro value slice pins s σ H x y v u Q I rx ry h hs
 obtain⟨z,i,c,rfl,rfl,hz,he,q⟩:=h
 obtain⟨t,rfl⟩:=rx
 obtain⟨t',rfl⟩:=ry
 obtain⟨j,h1,h2,h3,h4,h5⟩:=Gcx he
 have hl:z.cps.toList.length=z.length:=by simp[Str.length]
 rw[hl] at h1 h4 h5
 have hn:=Zg
 exact tail_any (typeIs_str s z t) slot_str_getitem.lookup (getItem_str (c:=c) (by
  have e1:decide (i < -(2^63:Int))=false:=decide_eq_false (by omega)
  have e2:decide (i≥2^63)=false:=decide_eq_false (by omega)
  rw[e1,e2,Bool.or_false]) (by rw[h1]; simpa using h2) ⟨.str ⟨#[c]⟩,H,I.tok _,⟨_,rfl⟩,q⟩) hs
def rIx(K:PySem.W.Frag):R2:=fun x y H Q=>Guj K x y H Q\/Guk K x y H Q\/Gul x y H Q
theorem Gp7:IxR X (rIx X.K):=Glh.or (Gp5.or Gp6)
theorem Ge7(its:List Value)(n j:Nat)(u:Value):Obj.mapSeq (·.setIfInBounds j u) { cls:=.type "list",data:=.seq its.toArray n }={ cls:=.type "list",data:=.seq (its.set j u).toArray n }:=by
 simp[Obj.mapSeq]
theorem Inv.lst{s:Shared}{p:Addr}(I:Inv X pins σ H s)(h:H p=some (.lst xs)):
  ∃ (its:List Value) (n:Nat),Vals xs its/\s.heap.get? p=some { cls:=.type "list",data:=.seq its.toArray n }/\xs.length<=sizeLine:=by
 obtain⟨z,its,n,r,e⟩:=I.hok p _ h
 exact⟨its,n,r,e,z⟩
theorem Inv.lstUpd{s:Shared}{p:Addr}{ys:List V}{its':List Value}{n':Nat}{f:Obj->Obj}(I:Inv X pins σ H s)(h:H p=some (.lst xs))(ho:s.heap.get? p=some { cls:=.type "list",data:=.seq its.toArray n })(hf:f { cls:=.type "list",data:=.seq its.toArray n }={ cls:=.type "list",data:=.seq its'.toArray n' })(r:Vals ys its')(hz:ys.length<=sizeLine)(t:Nat):
  Inv X pins σ (upd H p (.lst ys)) { s with heap:=s.heap.update p f,toks:=t }:=by
 have e:(s.heap.update p f).get? p=some { cls:=.type "list",data:=.seq its'.toArray n' }:=by
  rw[Heap.get?_update_self f ho (by rw[hf]<;>rfl),hf]
 refine I.write (x:=p) (e:=p) (by rw[h]; trivial) (.inl rfl) (fun b u hb q=>(Heap.get?_update_other _ _ (Ne.symm hb)).trans q) ⟨_,e⟩ ?_
 exact⟨hz,its',n',r,e⟩
def Gob:V->V->V->Hp->(Hp->Prop)->Prop:=fun o i v H Q=>∃ p xs k j,o=.ref p/\i=.int k/\H p=some (.lst xs)/\ixN xs.length k=some j/\Q (upd H p (.lst (xs.set j v)))
theorem Gia:Gpj X Gob:=by
 intro pins s σ H o i v ov iv u Q I ro ri rv h
 obtain⟨p,xs,k,j,rfl,rfl,hp,hj,q⟩:=h
 cases ro
 obtain⟨t,rfl⟩:=ri
 obtain⟨its,n,r,ho,hz⟩:=I.lst hp
 obtain⟨h1,h2,h3,h4⟩:=Gfv hj
 have hl:=r.length
 have hn:=Zg
 have I':Inv X pins σ (upd H p (.lst (xs.set j v))) { s with heap:=s.heap.update p (Obj.mapSeq (·.setIfInBounds j u)) }:=
  I.lstUpd hp ho (Ge7 its n j u) (r.set rv j) (by rw[List.length_set]; exact hz) s.toks
 by_cases h0:0<=k
 ·have hk:k.toNat=j:=by
   rw[seqIndex_of h0 h4] at h1
   exact Option.some.inj h1
  exact PySem.W.ki_setAt ho h0 (by omega) (by rw[List.size_toArray,<- hl]; exact h4) (by rw[hk]; exact⟨_,I',q⟩)
 ·have hk:(k+(its.toArray.size:Int)).toNat=j:=by
   rw[seqIndex_neg (by omega) h3] at h1
   rw[List.size_toArray,<- hl]
   exact Option.some.inj h1
  exact PySem.W.ki_setBack ho (by omega) (by rw[List.size_toArray,<- hl]; exact h3) (by omega) (by rw[hk]; exact⟨_,I',q⟩)
theorem Gcy(lo hi:Option Int)(n:Nat):(sliceBounds lo hi none n).1=((HT.sIx n 0 lo:Nat):Int)/\(sliceBounds lo hi none n).2.1=((HT.sIx n n hi:Nat):Int)/\(sliceBounds lo hi none n).2.2=1:=by
 refine⟨?_,?_,rfl⟩
 ·cases lo with
  | none=>simp[sliceBounds,HT.sIx]
  | some i=>
   simp only[sliceBounds,HT.sIx,Option.getD_none,show(1:Int)>0 by decide,if_true]
   by_cases h:i<0
   ·simp only[h,if_true]<;>omega
   ·simp only[h,if_false]<;>omega
 ·cases hi with
  | none=>simp[sliceBounds,HT.sIx]
  | some i=>
   simp only[sliceBounds,HT.sIx,Option.getD_none,show(1:Int)>0 by decide,if_true]
   by_cases h:i<0
   ·simp only[h,if_true]<;>omega
   ·simp only[h,if_false]<;>omega
theorem Gbv(its:List Value)(lo hi:Option Int):slicePick its.toArray lo hi none=((its.drop (HT.sIx its.length 0 lo)).take (HT.sIx its.length its.length hi-HT.sIx its.length 0 lo)).toArray:=by
 obtain⟨h1,h2,h3⟩:=Gcy lo hi its.toArray.size
 unfold slicePick
 rw[h1,h2,h3]
 simp only[sliceRange_one,pick_run,List.size_toArray]<;>rfl
def Gwo(K:PySem.W.Frag):V->Option Int->Option Int->Hp->VK->Prop:=fun x lo hi H Q=>∃ a xs,x=.ref a/\SqL K H a xs/\∀ p,H p=none->Q (.ref p) (upd H p (.lst (Gd0 xs lo hi)))
theorem Gli:SlR X (Gwo X.K):=by
 intro pins s σ H x v vl vu lo hi sl Q I rx hs pl pu h
 obtain⟨a,xs,rfl,hx,q⟩:=h
 cases rx
 obtain⟨its,r,ht,hz⟩:=I.list hx
 have hlen:=r.length
 refine⟨"list",_,slot_list_getitem.lookup,ht.isList.typeIs,?_⟩
 refine wpAny_getItem_list_slice ht.isList hs pl pu .none (by simp) ?_ (by rw[List.size_toArray]<;>omega)
 rw[Gbv,<- hlen]
 refine⟨.ref s.heap.objs.size,_,I.laid (t':=s.toks) (o:=.lst (Gd0 xs lo hi)) (fun b ob q=>Heap.get?_push_of_some _ q) (Nat.le_refl _) ?_,rfl,q _ (I.hok.fresh (Nat.le_refl _))⟩
 exact⟨Nat.le_trans (Zt xs lo hi) hz,_,0,(r.drop (HT.sIx xs.length 0 lo)).take (HT.sIx xs.length xs.length hi-HT.sIx xs.length 0 lo),Heap.get?_push_size _ rfl⟩
theorem Gcz:OpR X (compareOp .NotIn) (fun x y H Q=>∃ i j,x=.str i/\y=.str j/\Q (.bl (!(!(Builtin.Str.occurrences j i 0 j.length 1).isEmpty))) H):=by
 intro pins s σ H x y v u Q I rx ry h
 obtain⟨i,j,rfl,rfl,q⟩:=h
 obtain⟨t,rfl⟩:=rx
 obtain⟨t',rfl⟩:=ry
 exact notIn_str ⟨.bl _,H,I,rfl,q⟩
theorem Gc0:Qq X (.type "list") (fun xs H Q=>∃ p ys,xs=[.ref p]/\(SqL X.K H p ys\/SqT X.K H p ys)/\∀ l,H l=none->Q (.ref l) (upd H l (.lst ys))):=by
 intro pins s σ H xs us Q I r h
 obtain⟨p,ys,rfl,hq,q⟩:=h
 obtain⟨u,rfl,rx⟩:=Ws r
 cases rx
 have fin:∀ (its:List Value),Vals ys its->ys.length<=sizeLine->∀ (h':Heap) (c':Nat),(∀ b o',s.heap.get? b=some o'->h'.get? b=some o')→
   h'.get? s.heap.objs.size=some { cls:=.type "list",dict:=none,data:=.seq its.toArray c',slots:=#[] }->EP X pins σ Q (.ref s.heap.objs.size) { s with heap:=h' }:=fun its r' hz h' c' kp e=>
  ⟨.ref s.heap.objs.size,_,I.laid (t':=s.toks) kp (Nat.le_refl _) (show Jt X.prog X.w _ h' _ (.lst ys) from⟨hz,its,c',r',e⟩),rfl,q _ (I.hok.fresh (Nat.le_refl _))⟩
 rcases hq with hq | hq
 ·obtain⟨its,r',pl,hz⟩:=I.list hq
  have hlen:=r'.length
  obtain⟨o,ho,hc,n,hd⟩:=pl.isList
  exact call_list_seq p (.inl rfl) ho hc hd (fun h' c' kp e=>fin its r' hz h' c' kp e) (by simp only[List.size_toArray]<;>omega)
 ·obtain⟨its,r',pl,hz⟩:=I.tuple hq
  have hlen:=r'.length
  obtain⟨o,ho,hc,n,hd⟩:=pl
  exact call_list_seq p (.inr rfl) ho hc hd (fun h' c' kp e=>fin its r' hz h' c' kp e) (by simp only[List.size_toArray]<;>omega)
theorem Gbw:Qq X (.type "tuple") (fun xs H Q=>∃ p ys,xs=[.ref p]/\((SqL X.K H p ys/\∀ l,H l=none->Q (.ref l) (upd H l (.tup ys)))\/(SqT X.K H p ys/\Q (.ref p) H))):=by
 intro pins s σ H xs us Q I r h
 obtain⟨p,ys,rfl,h⟩:=h
 obtain⟨u,rfl,rx⟩:=Ws r
 cases rx
 rcases h with⟨hq,q⟩ | ⟨hq,q⟩
 ·obtain⟨its,r',pl,hz⟩:=I.list hq
  have hlen:=r'.length
  refine call_tuple_list pl.isList (fun h' kp=>?_) (by simp only[List.size_toArray]<;>omega)
  have I1:Inv X pins σ H { s with heap:=h' }:=I.kept (t':=s.toks) kp
  have I2:Inv X pins σ (upd H h'.objs.size (.tup ys)) { s with heap:=h'.push { cls:=.type "tuple",data:=.seq its.toArray } }:=
   I1.laid (t':=s.toks) (fun b o e=>Heap.get?_push_of_some _ e) (Nat.le_refl _) (show Jt X.prog X.w _ _ _ (.tup ys) from⟨hz,its,r',IsTup.new _ _⟩)
  exact⟨.ref h'.objs.size,_,I2,rfl,q _ (I1.hok.fresh (Nat.le_refl _))⟩
 ·obtain⟨its,r',pl,hz⟩:=I.tuple hq
  exact call_tuple_same pl ⟨.ref p,H,I,rfl,q⟩
def tyV(K:PySem.W.Frag)(T:String)(x:V)(H:Hp):Prop:=match x with
 | .str _=>T="str"
 | .int _=>T="int"
 | .ref p=>(T="list"/\∃ xs,SqL K H p xs)\/(T="tuple"/\∃ o,K.lookup p=some o/\o.cls=.type "tuple"/\o.dict=none)∨
   (T="dict"/\((∃ kvs,H p=some (.dK kvs))\/∃ kvs,H p=some (.dT kvs)))\/(T="set"/\∃ S n,H p=some (.set S n))
 | _=>False
theorem Gp8{s:Shared}{T:String}{x:V}{v:Value}(I:Inv X pins σ H s)(r:Ha x v)(ty:tyV X.K T x H):
  s.TypeIs v T/\∀ a,v=.ref a->∃ ob,s.heap.get? a=some ob/\ob.dict=none:=by
 cases x with
 | str z=>
  obtain⟨t,rfl⟩:=r
  cases (show T="str" from ty)
  exact⟨typeIs_str s z t,fun _ e=>nomatch e⟩
 | int i=>
  obtain⟨t,rfl⟩:=r
  cases (show T="int" from ty)
  exact⟨typeIs_int s i t,fun _ e=>nomatch e⟩
 | ref p=>
  cases r
  rcases ty with⟨rfl,xs,hq⟩ | ⟨rfl,o,hk,hc,hd⟩ | ⟨rfl,hk⟩ | ⟨rfl,S,n,hk⟩
  ·obtain⟨its,_,pl,_⟩:=I.list hq
   refine⟨pl.isList.typeIs,fun a e=>?_⟩
   cases e
   obtain⟨o,n,e,c,hd,_⟩:=pl
   exact⟨o,e,hd⟩
  ·refine⟨⟨o,I.kIn p o hk,hc⟩,fun a e=>?_⟩
   cases e
   exact⟨o,I.kIn _ o hk,hd⟩
  ·have z:∃ o,s.heap.get? p=some o/\o.ExactDict:=by
    rcases hk with⟨kvs,hk⟩ | ⟨kvs,hk⟩
    ·obtain⟨_,_,_,_,o,_,_,e,ex,_⟩:=I.hok p _ hk
     exact⟨o,e,ex⟩
    ·obtain⟨_,_,_,_,o,_,_,e,ex,_⟩:=I.hok p _ hk
     exact⟨o,e,ex⟩
   obtain⟨o,e,ex⟩:=z
   refine⟨⟨o,e,ex.1⟩,fun a e2=>?_⟩
   cases e2
   exact⟨o,e,ex.2.1⟩
  ·obtain⟨o,_,_,_,e,ex,_⟩:=I.hok p _ hk
   refine⟨⟨o,e,ex.1⟩,fun a e2=>?_⟩
   cases e2
   exact⟨o,e,ex.2.1⟩
 | _=>exact False.elim ty
def tBM(K:PySem.W.Frag)(T:String)(r:V->List V->Hp->VK->Prop)(to:TE)(t:TA):TE:=fun σ H Q=>to σ H fun x H1=>tyV K T x H1/\t σ H1 fun xs H2=>r x xs H2 Q
variable{o e:Expr}{es:List Expr}{to:TE}{t:TA}{name:Str}{apos cpos:Pos}{T id:String}{r:V->List V->Hp->VK->Prop}
theorem Gib(pa:PlainAttrs T)(slot:Slot T name id)(hty:typeOf (.builtin id)=pure (.type "method_descriptor"))(hm:MtR X id r)(ho:PE X o to)(ha:PA X (e::es) t)
  (hbase:attributeBase o name X.env (eval o X.env)=eval o X.env:=by rfl)
  (hfew:((backTo cpos (starEach (e::es) X.env)).all (fun x=>!x.1)&&(backToKw cpos (keywordEach [] X.env)).all (fun x=>x.1.isSome)
   && decide ((e::es).length+([]:List Keyword).length+(if([]:List Keyword).isEmpty then 0 else 1)<30))=true:=by rfl)
  (hline:(apos.endLine==cpos.line)=true:=by rfl) (hs:starEach (e::es) X.env=(false,eval e X.env)::starEach es X.env:=by rfl) (hplain:(backTo cpos (starEach es X.env)).any (·.1)=false:=by rfl):
  PE X (.Call (.Attribute o name apos) (e::es) [] cpos) (tBM X.K T r to t):=by
 intro pins s σ H Q I h
 refine wpAny_Call_method_late hbase hfew hline rfl (thn (ho pins s σ H _ I h) fun v s1 ⟨x,H1,I1,r1,ty,q1⟩=>?_)
 obtain⟨h1,h2⟩:=Gp8 I1 r1 ty
 refine⟨T,id,pa,slot,hty,h1,h2,?_⟩
 have hA:=ha cpos pins s1 σ H1 _ I1 q1
 rw[hs] at hA ⊢
 refine Calls.callWith_builtin (by show(false||(backTo cpos (starEach es X.env)).any (·.1))=false; rw[hplain]<;>rfl) (Calls.evalArgs_plain ?_)
 exact thn hA fun us s2 ⟨vs,H2,I2,r2,q2⟩=>hm pins s2 σ H2 x vs v us Q I2 r1 r2 q2
end
def MtM(X:Cx)(id:String)(r:V->List V->Hp->VK->Prop):Prop:=
 ∀ (pins:List (Addr×Obj)) (s:Shared) (σ:St) (H:Hp) (x:V) (xs:List V) (v:Value) (us:List Value) (Q:VK),Inv X pins σ H s->Ha x v->Vals xs us->r x xs H Q→
  wpAny (model X.prog X.w) X.A (call (.builtin id) (v::us)) (EP X pins σ Q) X.xe s
theorem Vals.one:∀ {x:V} {us:List Value},Vals [x] us->∃ u,us=[u]/\Ha x u
 | _,_,.cons r .nil=>⟨_,rfl,r⟩
theorem Vals.two:∀ {x y:V} {us:List Value},Vals [x,y] us->∃ u v,us=[u,v]/\Ha x u/\Ha y v
 | _,_,_,.cons r (.cons q .nil)=>⟨_,_,rfl,r,q⟩
theorem Vals.eraseIdx:∀ {xs:List V} {us:List Value} (i:Nat),Vals xs us->Vals (xs.eraseIdx i) (us.eraseIdx i)
 | _,_,_,.nil=>.nil
 | _,_,0,.cons _ t=>t
 | _,_,i+1,.cons r t=>.cons r (Vals.eraseIdx i t)
theorem Vals.rep{us:List Value}(h:Vals xs us):∀ k:Nat,Vals (List.replicate k xs).flatten (List.replicate k us).flatten
 | 0=>.nil
 | k+1=>by
  rw[List.replicate_succ,List.replicate_succ,List.flatten_cons,List.flatten_cons]
  exact Vals.append h (Vals.rep h k)
theorem Gcf{α:Type}:∀ (l:List α) (i:Nat),(l.eraseIdx i).length<=l.length
 | [],_=>Nat.le_refl _
 | _::_,0=>Nat.le_succ _
 | _::r,i+1=>Nat.succ_le_succ (Gcf r i)
theorem Zh(its:List Value):∀ (k:Nat) (acc:List Value),
  List.foldl (fun x1 x2=>x1++x2) acc.toArray (List.replicate k its.toArray)=(acc++(List.replicate k its).flatten).toArray
 | 0,acc=>by simp
 | k+1,acc=>by
  have e:acc.toArray++its.toArray=(acc++its).toArray:=by simp
  have e2:(acc++its)++(List.replicate k its).flatten=acc++(List.replicate (k+1) its).flatten:=by
   rw[List.replicate_succ,List.flatten_cons,List.append_assoc]
  rw[<- e2,<- Zh its k (acc++its),<- e,List.replicate_succ,List.foldl_cons]
section
variable{X:Cx}{pins:List (Addr×Obj)}{σ:St}{H:Hp}{s:Shared}{l b:Addr}{xs ys zs:List V}
theorem Inv.lset{its':List Value}{f:Array Value->Array Value}{t':Nat}(I:Inv X pins σ H s)(hH:H l=some (.lst xs))(e:s.heap.get? l=some { cls:=.type "list",data:=.seq its.toArray n })(hf:f its.toArray=its'.toArray)(hv:Vals ys its')(hz:ys.length<=sizeLine):
  Inv X pins σ (upd H l (.lst ys)) { s with heap:=s.heap.update l (Obj.mapSeq f),toks:=t' }:=by
 have q:=PySem.IsL.update e f
 rw[hf] at q
 refine I.write (x:=l) (e:=l) (by rw[hH]; exact trivial) (.inl rfl) (fun b' u hb hu=>(Heap.get?_update_other s.heap (Obj.mapSeq f) (Ne.symm hb)).trans hu) ⟨_,q⟩ ?_
 exact⟨hz,its',_,hv,q⟩
theorem Inv.lnew{t':Nat}(I:Inv X pins σ H s)(hv:Vals ys its)(hz:ys.length<=sizeLine):
  Inv X pins σ (upd H s.heap.objs.size (.lst ys)) { s with heap:=s.heap.push { cls:=.type "list",data:=.seq its.toArray },toks:=t' }:=
 I.laid (fun _ _ q=>Heap.get?_push_of_some _ q) (Nat.le_refl _) ⟨hz,its,0,hv,Heap.get?_push_size _ rfl⟩
theorem Inv.fresh(I:Inv X pins σ H s):H s.heap.objs.size=none:=I.hok.fresh (Nat.le_refl _)
theorem Inv.lstM(I:Inv X pins σ H s)(hH:H l=some (.lst xs)):xs.length<=sizeLine/\∃ (its:List Value) (n:Nat),Vals xs its/\xs.length=its.length/\s.heap.get? l=some { cls:=.type "list",data:=.seq its.toArray n }:=by
 obtain⟨z,its,n,r,e⟩:=I.hok l _ hH
 exact⟨z,its,n,r,r.length,e⟩
theorem Gic(h:n<=sizeLine):Builtin.List.listTooLong n=false:=by
 unfold Builtin.List.listTooLong
 exact decide_eq_false (by omega)
end
section
variable{X:Cx}
def Gfw:V->List V->Hp->VK->Prop:=fun x vs H Q=>∃ l xs y,x=.ref l/\vs=[y]/\H l=some (.lst xs)/\xs.length<sizeLine/\Q .non (upd H l (.lst (xs++[y])))
theorem Gcg:MtM X "list.append" Gfw:=by
 intro pins s σ H x vs v us Q I rx rv h
 obtain⟨l,xs,y,rfl,rfl,hH,hz,q⟩:=h
 cases rx
 obtain⟨u,rfl,ru⟩:=rv.one
 obtain⟨z,its,n,r,hl,e⟩:=I.lstM hH
 refine call_meets F.slot_list_append ⟨_,e,rfl⟩ F.entry_list_append (F.args_list_append_2 _ _) (PySem.list_append l its.toArray n u (by rw[List.size_toArray]; omega)) ⟨e,?_⟩
 refine⟨.non,_,I.lset (its':=its++[u]) hH e (by simp) (r.append (.cons ru .nil)) ?_,rfl,q⟩
 rw[List.length_append,List.length_singleton]
 omega
def Gid:V->List V->Hp->VK->Prop:=fun x vs H Q=>∃ l xs i k y,x=.ref l/\vs=[.int i]/\H l=some (.lst xs) /\ -(2^63)<=i/\i<2^63/\seqIndex? i xs.length=some k/\xs[k]?=some y/\Q y (upd H l (.lst (xs.eraseIdx k)))
theorem Gie:MtM X "list.pop" Gid:=by
 intro pins s σ H x vs v us Q I rx rv h
 obtain⟨l,xs,i,k,y,rfl,rfl,hH,h1,h2,hk,hy,q⟩:=h
 cases rx
 obtain⟨u,rfl,ru⟩:=rv.one
 obtain⟨t,rfl⟩:=ru
 obtain⟨z,its,n,r,hl,e⟩:=I.lstM hH
 obtain⟨w,hw,rw'⟩:=r.get hy
 refine call_meets F.slot_list_pop ⟨_,e,rfl⟩ F.entry_list_pop (F.args_list_pop_2 _ _)
  (MeetsSeq.list_pop_at l its.toArray n i t k w (fitsIndex_both h1 h2) (by rw[List.size_toArray,<- hl]; exact hk) (by rw[<- Array.getElem?_toList]; exact hw) (by rw[List.size_toArray]; omega)) ⟨e,?_⟩
 refine⟨y,_,I.lset (its':=its.eraseIdx k) hH e ?_ (r.eraseIdx k) ?_,rw',q⟩
 ·show its.toArray.eraseIdxIfInBounds k=(its.eraseIdx k).toArray
  rw[List.eraseIdxIfInBounds_toArray]
 ·have:=Gcf xs k
  omega
def Gum:R2:=fun x y H Q=>∃ l b xs zs,x=.ref l/\y=.ref b/\H l=some (.lst xs)/\H b=some (.lst zs)/\xs.length+zs.length<=sizeLine/\∀ p,H p=none->Q (.ref p) (upd H p (.lst (xs++zs)))
theorem Gp9:OpR X (binaryOp .Add) Gum:=by
 intro pins s σ H x y v u Q I rx ry h
 obtain⟨l,b,xs,zs,rfl,rfl,hH,hB,hz,q⟩:=h
 cases rx
 cases ry
 obtain⟨z,its,n,r,hl,e⟩:=I.lstM hH
 obtain⟨z2,its2,n2,r2,hl2,e2⟩:=I.lstM hB
 refine PySem.P.add_list e e2 ?_ (by rw[List.size_toArray,List.size_toArray]; omega)
 have ea:its.toArray++its2.toArray=(its++its2).toArray:=by simp
 rw[ea]
 exact⟨.ref _,_,I.lnew (t':=s.toks) (r.append r2) (by rw[List.length_append]; omega),rfl,q _ I.fresh⟩
def Gun:R2:=fun x y H Q=>∃ l k xs,x=.ref l/\y=.int k/\H l=some (.lst xs) /\ -(2^63)<=k/\k<2^63/\xs.length*k.toNat<=sizeLine∧
 ∀ p,H p=none->Q (.ref p) (upd H p (.lst (List.replicate k.toNat xs).flatten))
theorem Gc1{α:Type}(xs:List α)(k:Nat):(List.replicate k xs).flatten.length=k*xs.length:=by
 induction k with
 | zero=>simp
 | succ k ih=>rw[List.replicate_succ,List.flatten_cons,List.length_append,ih,Nat.succ_mul,Nat.add_comm]
theorem Gqa:OpR X (binaryOp .Mult) Gun:=by
 intro pins s σ H x y v u Q I rx ry h
 obtain⟨l,k,xs,rfl,rfl,hH,h1,h2,hz,q⟩:=h
 cases rx
 obtain⟨t,rfl⟩:=ry
 obtain⟨z,its,n,r,hl,e⟩:=I.lstM hH
 have hlen:its.toArray.size*k.toNat<=sizeLine:=by rw[List.size_toArray,<- hl]; exact hz
 have hcap:¬ its.toArray.size*k.toNat>(2^63-1) / 8:=by
  have:(sizeLine:Nat)<=(2^63-1) / 8:=by decide
  omega
 have hfit:¬ (!Builtin.List.listFitsIndex k)=true:=by
  rw[fitsIndex_both h1 h2]
  exact Bool.false_ne_true
 have hlong:¬ Builtin.List.listTooLong (its.toArray.size*k.toNat)=true:=by
  rw[Gic hlen]
  exact Bool.false_ne_true
 have hnew:List.foldl (fun x1 x2=>x1++x2) #[] (List.replicate (if its.toArray.isEmpty=true then 0 else k.toNat) its.toArray)=(List.replicate k.toNat its).flatten.toArray:=by
  have f0:∀ m:Nat,List.foldl (fun x1 x2=>x1++x2) #[] (List.replicate m its.toArray)=(List.replicate m its).flatten.toArray:=fun m=>by
   have:=Zh its m []
   rw[List.nil_append] at this
   exact this
  rw[f0]
  cases its with
  | nil=>simp
  | cons a r'=>rw[if_neg (by simp)]
 refine wpAny_binaryOp_repeat_ref (T:="list") (U:="int") (by decide) ⟨_,e,rfl⟩ (fun s'=>typeIs_int s' k t) noFill_list_mul F.fills_int_mul F.slot_int_rmul repeat_list F.slot_int_index.lookup
  (call_meets F.slot_int_rmul (typeIs_int s k t) F.entry_int_rmul (F.args_int_rmul_2 _ _) (int___rmul___int_list k t l its.toArray n)
   ⟨e,rfl,⟨_,e,rfl⟩,call_meets F.slot_list_mul ⟨_,e,rfl⟩ F.entry_list_mul (F.args_list_mul_2 _ _) (AutoListH.list___mul___list_int_3 l its.toArray n k t hfit hcap hlong) ⟨e,?_⟩⟩)
 rw[hnew]
 exact⟨.ref _,_,I.lnew (t':=s.toks) (r.rep k.toNat) (by rw[Gc1,Nat.mul_comm]; exact hz),rfl,q _ I.fresh⟩
end
end L2
namespace Att
open PySem PySem.W PySem.Calls PyProof.Rows
theorem Gad{P:Params}{h:Heap}:∀ (ns:List Int) (vs:List Value),WellAll P h vs (ns.map WData.int)->IntsAre vs ns:=by
 intro ns
 induction ns with
 | nil=>
  intro vs w
  rw[List.map_nil] at w
  cases w
  exact .nil
 | cons n ns ih=>
  intro vs w
  rw[List.map_cons] at w
  cases w with
  | cons a b=>
   cases a
   exact .cons _ _ (ih _ b)
theorem Ggw{l:OpenLaw}{n:Nat}(hn:l.most=some n){P:Params}{h:Heap}{args:List WData}{vals:List Value}
  (hpre:l.row.toRowW.claim.pre args=true) (hwl:WellAll P h vals args):
  ∃ a vs ns,vals=[Value.ref a]/\args=[WData.list (ns.map WData.int)]/\h.get? a=some { cls:=.type "list",data:=.seq vs.toArray }/\IntsAre vs ns/\ns.length<=n:=by
 have hsh:WShape.hasAll [] args [.list .int]=true:=(pre_splitW hpre).1
 have hc:l.pre.holds [] { args:=args }=true:=(pre_splitW hpre).2
 obtain⟨d,r,rfl,h1,h2⟩:=hasAllW_cons hsh
 obtain rfl:=hasAllW_nil h2
 obtain⟨xs,rfl,h3⟩:=hasW_list h1
 obtain⟨ns,rfl⟩:=items_int h3
 have hlen:ns.length<=n:=by
  unfold OpenLaw.pre at hc
  have h4:(WTm.not (.lt (.lit (.int (n:Int))) (.len (.arg 0)))).holds [] { args:=[.list (ns.map .int)] }=true:=by
   have h4:=(holds_andW hc).1
   rw[hn] at h4
   exact h4
  have h5:=condW_of h4 (w_not (w_lt w_lit (w_len_list (w_arg rfl))))
  rw[List.length_map] at h5
  refine Nat.le_of_not_lt fun q=>?_
  have q':(n:Int)<((ns.length:Nat):Int):=by omega
  first
   | (rw[decide_eq_true q'] at h5; exact absurd h5 (by decide))
   | (simp at h5; omega)
 cases hwl with
 | cons w1 w2=>
  cases w2
  cases w1 with
  | list ho hall=>exact⟨_,_,ns,rfl,rfl,ho,Gad ns _ hall,hlen⟩
theorem post_true(l:OpenLaw)(args:List WData):l.row.toRowW.claim.post args (.bool true) args=true:=
 postW_of (r:=l.row.toRowW) (X:=(true==true))
  (show WShape.has [] (.bool true) .bool=true by first | rfl | decide | simp[WShape.has,WShape.arms,WShape.armsAll])
  (show(WTm.eq .res (.lit (.bool true))).value [] { args:=args,res:=some (.bool true),after:=args }=some (.bool (true==true)) from w_eq_bool (w_res rfl) w_lit) rfl
theorem attach_call{l:OpenLaw}{n:Nat}{q:Program}{loose:List Str}{XP:(Str->Option Value)->Heap->Prop}{YP:World->Heap->Prop}{d:DefRec}
  (hn:l.most=some n) (hdf:d.params.defaults=[])
  (call:∀ (w:World) (s₀ s₁:Shared) (mg mb:Str->Option Value) (fa:Addr) (o:Obj) (pm cd doc:Value) (a:Addr) (vs:List Value) (ns:List Int),
   Ground q loose [] XP w s₀ mg mb s₁.heap->YP w s₁.heap→
   s₁.heap.get? fa=some o->o.data=.func (docDef d.name d.params d.body d.scope pm cd doc)->s₁.heap.CodeRec cd d.name->mg d.name=some (.ref fa)→
   s₁.heap.get? a=some { cls:=.type "list",data:=.seq vs.toArray }->IntsAre vs ns->ns.length<=n->s₁.gens=#[]→
   codeAny (model l.prog w) callerA (.call (.ref fa) ⟨[.ref a],[]⟩) (fun r s'=>r=.ok (.ret (.bool true))/\OldK s₁.heap s'.heap/\s'.os=s₁.os/\AllBare s'.gens) s₁):
  WalkO q loose XP YP l.row.toRowW d [] (fun f vs=>PySem.call f vs):=by
 intro w s₀ s₁ mg mb G Y fa o pm cd doc dV kV ho hd hcd hD hmg hg args vals as hpre hlay hrd hwl hlo
 obtain rfl:dV=.none:=Dflts.none hD hdf
 obtain rfl:kV=.none:=Dflts.noKw hD
 obtain⟨a,vs,ns,rfl,rfl,hobj,hints,hlen⟩:=Ggw hn hpre hwl
 refine enter_call (codeAny_mono (call w s₀ s₁ mg mb fa o pm cd doc a vs ns G Y ho (fd_plain hd) hcd hmg hobj hints hlen hg) fun r s' hq=>?_)
 obtain⟨rfl,h2,h3,h4⟩:=hq
 exact⟨.inl ⟨.bool true,.bool true,[],rfl,fun _=>rfl,.bool true,post_true l _,fun _=>⟨List.Pairwise.nil,fun _ hm=>(nomatch hm)⟩⟩,h2,h3,h4⟩
end Att
namespace L2
open PySem PySem.Spec PyProof.Rows
variable{k:Nat}{fd:FuncData}{x qual:Str}{st:Stmt}{f:Addr}
theorem Gch:∀ {vs:List Value} {ns:List Int},IntsAre vs ns->Vals (ns.map V.int) vs
 | _,_,.nil=>.nil
 | _,_,.cons n t h=>.cons ⟨t,rfl⟩ (Gch h)
def Only(H:Hp):Prop:=∀ b,H b=none\/∃ o xs,H b=some (.frz o (.lst xs))
theorem Gif{P:Program}{w:World}{K:PySem.W.Frag}{mg mb:Str->Option Value}{CX:CXT}{fa a:Addr}{sp:Sp}{s₁:Shared}{vs:List Value}{ns:List Int}(KX:K.In s₁.heap)(hns:s₁.heap.Ns mainGlobals mg)(hb:s₁.heap.Ns builtinsNs mb)(hbb:∀ x:Str,x≠"__name__"->mb x=bootBuiltins x)(hlim:s₁.heap.NoLimit)(hg:s₁.gens=#[])(ha:s₁.heap.get? a=some { cls:=.type "list",data:=.seq vs.toArray })(hi:IntsAre vs ns)(hl:ns.length<=sizeLine)(hr:Room k callerA)(F:∀ base:Heap,K.In base->base.Ns mainGlobals mg->FnOk P w K mg base CX k fa fd [x] sp)(hbind:∀ (s:Shared) (u:Value),BindsTo s fd ⟨[u],[]⟩ [(x,u)])(hsp:∀ H:Hp,Only H->SqL K H a (ns.map V.int)->sp [.ref a] H (fun v _=>v=.bl true) fun _ _ _=>False)(hCX:∀ H e s',CX [] H s₁ (fun _ _ _=>False) e s'->False):
  codeAny (model P w) callerA (.call (.ref fa) ⟨[.ref a],[]⟩) (fun r s'=>r=.ok (.ret (.bool true))/\OldK s₁.heap s'.heap/\s'.os=s₁.os/\AllBare s'.gens) s₁:=by
 have rv:=Gch hi
 have lenV:=hi.length
 have core:∀ H:Hp,Only H->SqL K H a (ns.map V.int)->HOk P w H s₁.heap->(∀ b,H b≠none->b=a)->(H a≠none->K.lookup a=none)→
   codeAny (model P w) callerA (.call (.ref fa) ⟨[.ref a],[]⟩) (fun r s'=>r=.ok (.ret (.bool true))/\OldK s₁.heap s'.heap/\s'.os=s₁.os/\AllBare s'.gens) s₁:=by
  intro H hO hS hok hA hK
  have base_of:∀ {b:Addr} {o:Obj},s₁.heap.get? b=some o->H b=none->(Gcs s₁.heap H).get? b=some o:=fun e n=>Ghs e n
  have noA:∀ {b:Addr} {o:Obj} {es:Array DictEntry} {ep:Nat},s₁.heap.get? b=some o->o.data=.dict es ep->H b=none:=fun{b o es ep} e d=>by
   cases q:H b with
   | none=>rfl
   | some u=>
    have e':b=a:=hA b (by rw[q]; simp)
    subst e'
    rw[ha] at e; cases e
    have d':Data.seq vs.toArray _=Data.dict es ep:=d
    cases d'
  have nsK:∀ {b:Addr} {m:Str->Option Value},s₁.heap.Ns b m->(Gcs s₁.heap H).Ns b m:=fun{b m} ⟨o,es,ep,e,d,r⟩=>⟨o,es,ep,base_of e (noA e d),d,r⟩
  have hKb:K.In (Gcs s₁.heap H):=fun b o e=>base_of (KX b o e) (by
   cases q:H b with
   | none=>rfl
   | some u=>
    have e':b=a:=hA b (by rw[q]; simp)
    subst e'
    rw[hK (by rw[q]; simp)] at e; cases e)
  have hM:Mod K mg (Gcs s₁.heap H):=⟨hKb,nsK hns,⟨mb,nsK hb,hbb⟩,let ⟨mc,h1,h2⟩:=hlim; ⟨mc,nsK h1,h2⟩⟩
  have e0:Env0 P w K mg (Gcs s₁.heap H) callerA [] s₁ H:=⟨rfl,hM,fun b o e=>of_hidT e,Nat.le_of_eq (Ggn _ _),trivial,fun b hb=>absurd (show b∈([]:List Addr) from hb) (by simp),hok,.of_eq hg⟩
  refine codeAny_mono ((F _ hKb (nsK hns)).run callerA [] s₁ H ⟨[.ref a],[]⟩ [.ref a] [.ref a] _ _ hr e0 (hbind s₁ (.ref a)) (.cons rfl .nil) (hsp H hO hS)) fun r s' h=>?_
  cases r with
  | error e=>exact(hCX H e s' h).elim
  | ok fl=>
   cases fl with
   | next=>exact False.elim h
   | brk=>exact False.elim h
   | cont=>exact False.elim h
   | ret u=>
    obtain⟨v,H',os,bare,un,hok',r',q⟩:=h
    have q':v=.bl true:=q
    subst q'
    obtain rfl:u=Value.bool true:=r'
    refine⟨rfl,OldK.of_keep fun b o e=>?_,os,bare⟩
    cases q:H b with
    | none=>exact un.keep b o e q (by intro z; exact absurd (show b∈([]:List Addr) from z) (by simp)) (by simp)
    | some u=>
     rcases hO b with z | ⟨ob,xs,z⟩
     ·rw[q] at z; cases z
     ·have z2:=un.frzs b ob _ z
      obtain⟨e1,_⟩:=hok b _ z
      obtain⟨e2,_⟩:=hok' b _ z2
      rw[e] at e1; cases e1
      exact e2
 cases hk:K.lookup a with
 | some o=>
  have e:=KX a o hk
  rw[ha] at e
  cases e
  refine core (fun _=>none) (fun _=>.inl rfl) (.inr ⟨_,vs.toArray,_,hk,rfl,rfl,rfl,by rw[List.size_toArray,lenV]; exact hl,by simpa using rv⟩) (fun b u z=>by have z':(none:Option HO)=some u:=z; cases z') (fun b z=>absurd rfl z) fun z=>absurd rfl z
 | none=>
  refine core (fun b=>if b=a then some (.frz { cls:=.type "list",data:=.seq vs.toArray } (.lst (ns.map V.int))) else none) (fun b=>?_) (.inl (.inr ⟨{ cls:=.type "list",data:=.seq vs.toArray },if_pos rfl⟩)) (fun b u z=>?_) (fun b z=>?_) fun _=>hk
  ·by_cases hb:b=a
   ·exact .inr ⟨_,_,if_pos hb⟩
   ·exact .inl (if_neg hb)
  ·by_cases hb:b=a
   ·have z':=(if_pos hb).symm.trans z
    cases z'
    subst hb
    exact⟨ha,by rw[List.length_map]; exact hl,vs,_,rv,ha⟩
   ·have z':=(if_neg hb).symm.trans z
    cases z'
  ·by_cases hb:b=a
   ·exact hb
   ·exact absurd (if_neg hb) z
theorem Glj{l:PySem.W.OpenLaw}{n:Nat}{q:Program}{loose:List Str}{XP:(Str->Option Value)->Heap->Prop}{YP:World->Heap->Prop}{d:DefRec}{K:Params->PySem.W.Frag}{CX:World->CXT}{sp:World->Sp}(hn:l.most=some n)(hn2:n<=sizeLine)(hdf:d.params.defaults=[])(hr:Room k callerA)(hY:∀ (w:World) (h:Heap),YP w h->(K w.params).In h)(F:∀ (w:World) (mg:Str->Option Value) (fa:Addr) (h:Heap),(K w.params).In h->h.Ns mainGlobals mg->mg d.name=some (.ref fa)→
   ∃ fd:FuncData,(∀ (s:Shared) (u:Value),BindsTo s fd ⟨[u],[]⟩ [(x,u)])∧
    ∀ base:Heap,(K w.params).In base->base.Ns mainGlobals mg->FnOk l.prog w (K w.params) mg base (CX w) k fa fd [x] (sp w))(hsp:∀ (w:World) (H:Hp) (a:Addr) (ns:List Int),ns.length<=n->Only H->SqL (K w.params) H a (ns.map V.int)->sp w [.ref a] H (fun v _=>v=.bl true) fun _ _ _=>False)(hCX:∀ (w:World) (H:Hp) (s:Shared) (e:Value) (s':Shared),CX w [] H s (fun _ _ _=>False) e s'->False):
  PySem.W.WalkO q loose XP YP l.row.toRowW d [] (fun f vs=>PySem.call f vs):=by
 refine Att.attach_call hn hdf fun w s₀ s₁ mg mb fa o pm cd doc a vs ns G Y ho hd hcd hmg hobj hints hlen hg=>?_
 have KX:=hY w _ Y
 obtain⟨fd,hb,hF⟩:=F w mg fa _ KX G.T.g hmg
 exact Gif KX G.T.g G.T.b G.T.builtins G.T.nolimit hg hobj hints (Nat.le_trans hlen hn2) hr hF hb (fun H hO hS=>hsp w H a ns hlen hO hS) fun H e s'=>hCX w H s₁ e s'
theorem Gig{l:PySem.W.OpenLaw}{n:Nat}{q:Program}{loose:List Str}{XP:(Str->Option Value)->Heap->Prop}{YP:World->Heap->Prop}{d:DefRec}{K:Params->PySem.W.Frag}{CX:CXT}{sp:PySem.W.Frag->Sp}(hn:l.most=some n)(hn2:n<=sizeLine)(hdf:d.params.defaults=[])(hr:Room k callerA)(hY:∀ (w:World) (h:Heap),YP w h->(K w.params).In h)(F:∀ (w:World) (mg:Str->Option Value) (fa:Addr) (h:Heap),(K w.params).In h->h.Ns mainGlobals mg->mg d.name=some (.ref fa)→
   ∃ fd:FuncData,(∀ (s:Shared) (u:Value),BindsTo s fd ⟨[u],[]⟩ [(x,u)])∧
    ∀ base:Heap,(K w.params).In base->base.Ns mainGlobals mg->FnOk l.prog w (K w.params) mg base CX k fa fd [x] (sp (K w.params)))(hsp:∀ (K:PySem.W.Frag) (H:Hp) (a:Addr) (ns:List Int),ns.length<=n->Only H->SqL K H a (ns.map V.int)->sp K [.ref a] H (fun v _=>v=.bl true) fun _ _ _=>False)(hCX:∀ (H:Hp) (s:Shared) (e:Value) (s':Shared),CX [] H s (fun _ _ _=>False) e s'->False):
  PySem.W.WalkO q loose XP YP l.row.toRowW d [] (fun f vs=>PySem.call f vs):=
 Glj (K:=K) (CX:=fun _=>CX) (sp:=fun w=>sp (K w.params)) hn hn2 hdf hr hY F (fun w H a ns h1 h2 h3=>hsp (K w.params) H a ns h1 h2 h3) fun _ H s e s'=>hCX H s e s'
def Jd(s:Stmt):Arguments:=match s with
 | .FunctionDef _ a _ _ _ _ _ _ _ _=>a
 | _=>{ posonlyargs:=[],args:=[],vararg:=none,kwonlyargs:=[],kw_defaults:=[],kwarg:=none,defaults:=[] }
def Gw(s:Stmt):List Stmt:=match s with
 | .FunctionDef _ _ b _ _ _ _ _ _ _=>b
 | _=>[]
def Gf(s:Stmt):Scope:=match s with
 | .FunctionDef _ _ _ _ _ _ sc _ _ _=>sc
 | _=>{ kind:=.function,names:=[],isGenerator:=false,isCoroutine:=false }
abbrev CX0:CXT:=fun _ _ _ _ _ _=>False
abbrev E0:XK:=fun _ _ _=>False
theorem Guo{X:Cx}:Passes CX0 X E0:=fun _ _ _ _ _ _ _ h=>h.elim
structure Fun(K:PySem.W.Frag)(x qual:Str)(st:Stmt)(f:Addr)(fd:FuncData):Prop where
 ex:∃ (oc:Value) (od:Option Addr) (kV doc pm:Value) (an:Option Addr) (cdv ct:Value) (osl:Array (Option Value)),
  fd=PySem.W.fnOf x qual (Jd st) (Gw st) (Gf st) .none kV doc pm an cdv ct/\K.lookup f=some ⟨oc,od,.func fd,osl⟩/\PySem.W.codeIn K cdv qual=true
 kp:PySem.W.keepIn K (.ref f)=true
section
variable{P:Program}{w:World}{K:PySem.W.Frag}{mg:Str->Option Value}{base:Heap}
theorem Fun.ok{N ps:List Str}{sp:Sp}(F:Fun K x qual st f fd)(S:FnScope N ps (Gf st))(len:∀ vs H Q E,sp vs H Q E->vs.length=ps.length)(hbody:∀ (cdv:Value) (A:Around) (outer:List Env) (s:Shared) (H:Hp) (vs:List V) (Q:VK) (E:XK),Room k (A.deeper (envOfC qual (Gf st) s.heap.objs.size f cdv))->sp vs H Q E→
   ∃ t,PSs (Qi CX0 P w K mg base N qual (Gf st) f cdv A outer s H E).nox (Gw st) t/\t { nx:=fun _ H'=>Q .non H',rt:=Q } (start N vs) H):FnOk P w K mg base CX0 (k+1) f fd ps sp:=by
 obtain⟨oc,od,kV,doc,pm,an,cdv,ct,osl,rfl,lk,hcd⟩:=F.ex
 refine Gn9 lk hcd S len fun A outer s H vs Q E hr hsp=>?_
 obtain⟨t,h,q⟩:=hbody cdv A outer s H vs Q E hr hsp
 exact⟨t,h.nox,q⟩
theorem Fun.binds{ps:List Str}(F:Fun K x qual st f fd)(h:∀ (kV doc pm:Value) (an:Option Addr) (cdv ct:Value) (us:List Value),us.length=ps.length->bindArgs (PySem.W.fnOf x qual (Jd st) (Gw st) (Gf st) .none kV doc pm an cdv ct) ⟨us,[]⟩=pure (ps.zip us)):Binds K fd ps []:=by
 obtain⟨oc,od,kV,doc,pm,an,cdv,ct,osl,rfl,lk,hcd⟩:=F.ex
 exact .all (h kV doc pm an cdv ct)
theorem Ga0{oc:Value}{od an:Option Addr}{osl:Array (Option Value)}{kV doc pm cdv ct:Value}(l:K.lookup f=some ⟨oc,od,.func (PySem.W.fnOf x qual (Jd st) (Gw st) (Gf st) .none kV doc pm an cdv ct),osl⟩)(c:PySem.W.codeIn K cdv qual=true)(k:PySem.W.keepIn K (.ref f)=true):Fun K x qual st f (PySem.W.fnOf x qual (Jd st) (Gw st) (Gf st) .none kV doc pm an cdv ct):=⟨⟨oc,od,kV,doc,pm,an,cdv,ct,osl,rfl,l,c⟩,k⟩
end
end L2
namespace DL
open PySem PySem.Spec PyProof.Rows L2
inductive D where
 | non | bl (b:Bool) | int (i:Int) | str (x:Str) | tup (l:List D) | lst (i:Nat) | exn (c:Str) (n:Option Int) | fv (x:Str)
structure Cell where
 fz:Bool
 xs:List D
abbrev Sto:=List Cell
abbrev Lc:=List (Option D)
structure XD where
 cls:Str
 fld:Option Int
inductive Out(α:Type) where
 | ok (a:α) (S:Sto)
 | exc (x:XD) (S:Sto)
 | bad
def Out.bind{α β:Type}(o:Out α)(g:α->Sto->Out β):Out β:=
 match o with
 | .ok a S=>g a S
 | .exc x S=>.exc x S
 | .bad=>.bad
structure XCl(K:PySem.W.Frag)(c:Addr):Prop where
 ga:PySem.W.findIn K (.ref c) "__getattribute__"=some (some (.builtin "BaseException.__getattribute__"))
 gt:PySem.W.findIn K (.ref c) "__getattr__"=some none
 cl:PySem.W.findIn K (.ref c) "__class__"=some (some (.builtin "object.__class__"))
 cd:(PySem.W.clsIn K c).isSome=true
 ob:PySem.W.mroIn K c (.type "object")=some true
 be:PySem.W.subIn K (.ref c) (.type "BaseException")=some true
 bt:∀ T∈["bool","int","str","tuple","list"],PySem.W.kitOne K (.ref c) (.type T)=some false
def CN(K:PySem.W.Frag)(y:Str)(c:Addr):Prop:=PySem.W.nsIn K mainGlobals y=some (some (.ref c))
theorem CN.one{K:PySem.W.Frag}{y:Str}{c d:Addr}(h:CN K y c)(g:CN K y d):c=d:=Value.ref.inj (Option.some.inj (Option.some.inj (h.symm.trans g)))
def XO(a c:Addr)(dx:Option Addr):HO:=.ext fun h=>∃ oe,h.get? a=some oe/\oe.cls=.ref c/\oe.dict=dx/\∃ vs,oe.data=.fields vs
def XA(d:Addr)(n:Int):HO:=.ext fun h=>∃ t,h.Ns d fun y=>if y="at" then some (.int n t) else none
mutual
def Rep(K:PySem.W.Frag)(mp:List Addr)(H:Hp):D->V->Prop
 | .non,v=>v=.non
 | .bl b,v=>v=.bl b
 | .int i,v=>v=.int i
 | .str x,v=>v=.str x
 | .tup l,v=>∃ a xs,v=.ref a/\SqT K H a xs/\RepL K mp H l xs
 | .lst i,v=>∃ a,v=.ref a/\mp[i]?=some a
 | .exn c n,v=>∃ a dx p,v=.ref a/\(CN K c p/\XCl K p/\H a=some (XO a p dx))/\∀ i,n=some i->∃ d,dx=some d/\H d=some (XA d i)
 | .fv x,v=>∃ a,v=.ref a/\CN K x a
def RepL(K:PySem.W.Frag)(mp:List Addr)(H:Hp):List D->List V->Prop
 | [],vs=>vs=[]
 | d::l,vs=>∃ v r,vs=v::r/\Rep K mp H d v/\RepL K mp H l r
end
structure Aft(K:PySem.W.Frag)(mp:List Addr)(H:Hp)(mp':List Addr)(H':Hp):Prop where
 pre:∀ (i:Nat) (a:Addr),mp[i]?=some a->mp'[i]?=some a
 tup:∀ a xs,SqT K H a xs->SqT K H' a xs
 ext:∀ a φ,H a=some (.ext φ)->H' a=some (.ext φ)
theorem Aft.refl{K:PySem.W.Frag}{mp:List Addr}{H:Hp}:Aft K mp H mp H:=⟨fun _ _ h=>h,fun _ _ h=>h,fun _ _ h=>h⟩
theorem Aft.trans{K:PySem.W.Frag}{mp mp1 mp2:List Addr}{H H1 H2:Hp}(a:Aft K mp H mp1 H1)(b:Aft K mp1 H1 mp2 H2):Aft K mp H mp2 H2:=
 ⟨fun i x h=>b.pre i x (a.pre i x h),fun x xs h=>b.tup x xs (a.tup x xs h),fun x f h=>b.ext x f (a.ext x f h)⟩
mutual
theorem Rep.aft{K:PySem.W.Frag}{mp mp':List Addr}{H H':Hp}(a:Aft K mp H mp' H'):∀ (d:D) (v:V),Rep K mp H d v->Rep K mp' H' d v
 | .non,v,h=>h
 | .bl _,v,h=>h
 | .int _,v,h=>h
 | .str _,v,h=>h
 | .tup l,v,h=>by
  obtain⟨p,xs,e,s,r⟩:=(show ∃ a xs,v=.ref a/\SqT K H a xs/\RepL K mp H l xs from h)
  exact⟨p,xs,e,a.tup _ _ s,RepL.aft a l xs r⟩
 | .lst i,v,h=>by
  obtain⟨p,e,s⟩:=(show ∃ a,v=.ref a/\mp[i]?=some a from h)
  exact⟨p,e,a.pre _ _ s⟩
 | .exn c n,v,h=>by
  obtain⟨p,dx,q,e,⟨s0,s1,s⟩,r⟩:=(show ∃ a dx p,v=.ref a/\(CN K c p/\XCl K p/\H a=some (XO a p dx))/\∀ i,n=some i->∃ d,dx=some d/\H d=some (XA d i) from h)
  exact⟨p,dx,q,e,⟨s0,s1,a.ext _ _ s⟩,fun i z=>let ⟨d,z1,z2⟩:=r i z; ⟨d,z1,a.ext _ _ z2⟩⟩
 | .fv x,v,h=>h
theorem RepL.aft{K:PySem.W.Frag}{mp mp':List Addr}{H H':Hp}(a:Aft K mp H mp' H'):∀ (l:List D) (vs:List V),RepL K mp H l vs->RepL K mp' H' l vs
 | [],vs,h=>h
 | d::l,vs,h=>by
  obtain⟨v,r,e,h1,h2⟩:=(show ∃ v r,vs=v::r/\Rep K mp H d v/\RepL K mp H l r from h)
  exact⟨v,r,e,Rep.aft a d v h1,RepL.aft a l r h2⟩
end
section
variable{K:PySem.W.Frag}{mp:List Addr}{H:Hp}
theorem RepL.nil:RepL K mp H [] []:=rfl
theorem RepL.cons{d:D}{v:V}{l:List D}{r:List V}(h:Rep K mp H d v)(t:RepL K mp H l r):RepL K mp H (d::l) (v::r):=⟨v,r,rfl,h,t⟩
theorem RepL.len:∀ {l:List D} {vs:List V},RepL K mp H l vs->vs.length=l.length
 | [],vs,h=>by cases (show vs=[] from h); rfl
 | d::l,vs,h=>by
  obtain⟨v,r,e,h1,h2⟩:=h
  subst e
  simp[RepL.len h2]
theorem RepL.get:∀ {l:List D} {vs:List V} {i:Nat} {d:D},RepL K mp H l vs->l[i]?=some d->∃ v,vs[i]?=some v/\Rep K mp H d v
 | [],_,_,_,_,e=>by simp at e
 | d::l,vs,0,_,h,e=>by
  obtain⟨v,r,q,h1,h2⟩:=h
  subst q
  simp at e
  subst e
  exact⟨v,rfl,h1⟩
 | d::l,vs,i+1,x,h,e=>by
  obtain⟨v,r,q,h1,h2⟩:=h
  subst q
  obtain⟨v',a,b⟩:=RepL.get (i:=i) (d:=x) h2 (by simpa using e)
  exact⟨v',by simpa using a,b⟩
theorem RepL.append:∀ {l m:List D} {vs ws:List V},RepL K mp H l vs->RepL K mp H m ws->RepL K mp H (l++m) (vs++ws)
 | [],m,vs,ws,h,g=>by cases (show vs=[] from h); exact g
 | d::l,m,vs,ws,h,g=>by
  obtain⟨v,r,q,h1,h2⟩:=h
  subst q
  exact⟨v,r++ws,rfl,h1,RepL.append h2 g⟩
theorem RepL.take:∀ {l:List D} {vs:List V} (n:Nat),RepL K mp H l vs->RepL K mp H (l.take n) (vs.take n)
 | [],vs,n,h=>by cases (show vs=[] from h); simp; exact RepL.nil
 | d::l,vs,0,h=>by simp; exact RepL.nil
 | d::l,vs,n+1,h=>by
  obtain⟨v,r,q,h1,h2⟩:=h
  subst q
  simpa using RepL.cons h1 (RepL.take n h2)
theorem RepL.drop:∀ {l:List D} {vs:List V} (n:Nat),RepL K mp H l vs->RepL K mp H (l.drop n) (vs.drop n)
 | [],vs,n,h=>by cases (show vs=[] from h); simp; exact RepL.nil
 | d::l,vs,0,h=>by simpa using h
 | d::l,vs,n+1,h=>by
  obtain⟨v,r,q,h1,h2⟩:=h
  subst q
  simpa using RepL.drop n h2
theorem RepL.set:∀ {l:List D} {vs:List V} {d:D} {v:V} (n:Nat),RepL K mp H l vs->Rep K mp H d v->RepL K mp H (l.set n d) (vs.set n v)
 | [],vs,d,v,n,h,g=>by cases (show vs=[] from h); simp; exact RepL.nil
 | x::l,vs,d,v,0,h,g=>by
  obtain⟨v',r,q,h1,h2⟩:=h
  subst q
  simpa using RepL.cons g h2
 | x::l,vs,d,v,n+1,h,g=>by
  obtain⟨v',r,q,h1,h2⟩:=h
  subst q
  simpa using RepL.cons h1 (RepL.set n h2 g)
end
def SqF(K:PySem.W.Frag)(H:Hp)(a:Addr)(xs:List V):Prop:=
 (∃ o,H a=some (.frz o (.lst xs)))∨
  ∃ (o:Obj) (its:Array Value) (n:Nat),K.lookup a=some o/\o.cls=.type "list"/\o.dict=none/\o.data=.seq its n/\its.size<=sizeLine/\Vals xs its.toList
theorem SqF.sq{K:PySem.W.Frag}{H:Hp}{a:Addr}{xs:List V}(h:SqF K H a xs):SqL K H a xs:=by
 rcases h with h | h
 ·exact .inl (.inr h)
 ·exact .inr h
def Gc2(K:PySem.W.Frag)(mp:List Addr)(H:Hp)(a:Addr)(c:Cell):Prop:=
 ∃ xs,RepL K mp H c.xs xs/\(if c.fz=true then SqF K H a xs else H a=some (.lst xs))
structure RS(K:PySem.W.Frag)(mp:List Addr)(H:Hp)(S:Sto):Prop where
 len:mp.length=S.length
 cell:∀ (i:Nat) (a:Addr) (c:Cell),mp[i]?=some a->S[i]?=some c->Gc2 K mp H a c
 inj:∀ (i j:Nat) (a:Addr) (ci cj:Cell),mp[i]?=some a->mp[j]?=some a->S[i]?=some ci->S[j]?=some cj->ci.fz=false->cj.fz=false->i=j
structure Gd(K:PySem.W.Frag)(mp:List Addr)(H:Hp)(σ:L2.St)(ρ:Lc)(S:Sto):Prop where
 rs:RS K mp H S
 len:σ.length=ρ.length
 loc:∀ (i:Nat) (d:D),ρ[i]?=some (some d)->∃ v,σ[i]?=some (some v)/\Rep K mp H d v
theorem Gd.aft{K:PySem.W.Frag}{mp mp':List Addr}{H H':Hp}{σ:L2.St}{ρ:Lc}{S S':Sto}(g:Gd K mp H σ ρ S)(a:Aft K mp H mp' H')(r:RS K mp' H' S'):Gd K mp' H' σ ρ S':=
 ⟨r,g.len,fun i d h=>let ⟨v,e,q⟩:=g.loc i d h; ⟨v,e,q.aft a⟩⟩
abbrev XW:=XD->List Addr->Hp->L2.St->Lc->Sto->Prop
abbrev RL(α β:Type):=List Addr->Hp->α->β->Prop
def Gn{α β:Type}(K:PySem.W.Frag)(R:RL α β)(XQ:XW)(σ:L2.St)(ρ:Lc)(mp:List Addr)(H:Hp)(o:Out α)(Q:β->Hp->Prop):Prop:=
 match o with
 | .ok d S=>∀ mp' H' v,Aft K mp H mp' H'->RS K mp' H' S->R mp' H' d v->Q v H'
 | .exc x S=>∀ mp' H',Aft K mp H mp' H'->Gd K mp' H' σ ρ S->XQ x mp' H' σ ρ S
 | .bad=>False
theorem Gn.aft{α β:Type}{K:PySem.W.Frag}{R:RL α β}{XQ:XW}{σ:L2.St}{ρ:Lc}{mp mp':List Addr}{H H':Hp}{o:Out α}{Q:β->Hp->Prop}(p:Gn K R XQ σ ρ mp H o Q)(a:Aft K mp H mp' H'):Gn K R XQ σ ρ mp' H' o Q:=by
 cases o with
 | ok d S=>exact fun m h v b=>p m h v (a.trans b)
 | exc x S=>exact fun m h b=>p m h (a.trans b)
 | bad=>exact p
theorem Gn.ok{α β:Type}{K:PySem.W.Frag}{R:RL α β}{XQ:XW}{σ:L2.St}{ρ:Lc}{mp:List Addr}{H:Hp}{d:α}{S:Sto}{v:β}{Q:β->Hp->Prop}(p:Gn K R XQ σ ρ mp H (.ok d S) Q)(r:RS K mp H S)(h:R mp H d v):Q v H:=p mp H v .refl r h
abbrev Post(K:PySem.W.Frag)(XQ:XW):=Gn (β:=V) K (Rep K) XQ
abbrev Ev(α:Type):=Lc->Sto->Out α
def rdG{α β:Type}(K:PySem.W.Frag)(R:RL α β)(XQ:XW)(f:Ev α):L2.St->Hp->(β->Hp->Prop)->Prop:=fun σ H Q=>∃ mp ρ S,Gd K mp H σ ρ S/\Gn K R XQ σ ρ mp H (f ρ S) Q
def kB:RL Bool Bool:=fun _ _ a b=>b=a
def kO:RL (Option Int) (Option Int):=fun _ _ a b=>b=a
abbrev rdE(K:PySem.W.Frag)(XQ:XW)(f:Ev D):TE:=rdG K (Rep K) XQ f
abbrev rdA(K:PySem.W.Frag)(XQ:XW)(f:Ev (List D)):TA:=rdG K (RepL K) XQ f
abbrev rdT(K:PySem.W.Frag)(XQ:XW)(f:Ev Bool):TT:=rdG K kB XQ f
abbrev rdO(K:PySem.W.Frag)(XQ:XW)(f:Ev (Option Int)):TO:=rdG K kO XQ f
def JE(X:Cx)(XQ:XW)(e:Expr)(f:Ev D):Prop:=PE X e (rdE X.K XQ f)
def JA(X:Cx)(XQ:XW)(es:List Expr)(f:Ev (List D)):Prop:=PA X es (rdA X.K XQ f)
def JT(X:Cx)(XQ:XW)(e:Expr)(f:Ev Bool):Prop:=PT X e (rdT X.K XQ f)
def JW(X:Cx)(XQ:XW)(e:Expr)(f:Ev Bool):Prop:=PW X e (rdT X.K XQ f)
def JO(X:Cx)(XQ:XW)(e:Option Expr)(f:Ev (Option Int)):Prop:=PO X e (rdO X.K XQ f)
theorem PE.mono{X:Cx}{e:Expr}{t t':TE}(h:PE X e t)(m:∀ σ H Q,t' σ H Q->t σ H Q):PE X e t':=fun pins s σ H Q I q=>h pins s σ H Q I (m σ H Q q)
theorem PT.mono{X:Cx}{e:Expr}{t t':TT}(h:PT X e t)(m:∀ σ H Q,t' σ H Q->t σ H Q):PT X e t':=fun pins s σ H Q I q=>h pins s σ H Q I (m σ H Q q)
theorem PW.mono{X:Cx}{e:Expr}{t t':TT}(h:PW X e t)(m:∀ σ H Q,t' σ H Q->t σ H Q):PW X e t':=fun wh pins s σ H Q I q=>h wh pins s σ H Q I (m σ H Q q)
theorem PO.mono{X:Cx}{e:Option Expr}{t t':TO}(h:PO X e t)(m:∀ σ H Q,t' σ H Q->t σ H Q):PO X e t':=fun pins s σ H Q I q=>h pins s σ H Q I (m σ H Q q)
theorem PA.mono{X:Cx}{e:List Expr}{t t':TA}(h:PA X e t)(m:∀ σ H Q,t' σ H Q->t σ H Q):PA X e t':=fun pos pins s σ H Q I q=>h pos pins s σ H Q I (m σ H Q q)
theorem PS.mono{X:Cx}{e:Stmt}{t t':TS}(h:PS X e t)(m:∀ D σ H,t' D σ H->t D σ H):PS X e t':=fun pins s σ H D I q=>h pins s σ H D I (m D σ H q)
theorem PSs.mono{X:Cx}{e:List Stmt}{t t':TS}(h:PSs X e t)(m:∀ D σ H,t' D σ H->t D σ H):PSs X e t':=fun pins s σ H D I q=>h pins s σ H D I (m D σ H q)
theorem bindP{α β γ δ:Type}{K:PySem.W.Frag}{R:RL α β}{R':RL γ δ}{XQ:XW}{mp:List Addr}{H:Hp}{σ:L2.St}{ρ:Lc}{S:Sto}{f:Ev α}{g:α->Sto->Out γ}{Q:δ->Hp->Prop}{Q1:β->Hp->Prop}(G:Gd K mp H σ ρ S)(p:Gn K R' XQ σ ρ mp H ((f ρ S).bind g) Q)
  (k:∀ mp1 H1 d S1 v,Aft K mp H mp1 H1->Gd K mp1 H1 σ ρ S1->R mp1 H1 d v->Gn K R' XQ σ ρ mp1 H1 (g d S1) Q->Q1 v H1):rdG K R XQ f σ H Q1:=by
 refine⟨mp,ρ,S,G,?_⟩
 cases e:f ρ S with
 | ok d S1=>
  rw[e] at p
  exact fun mp1 H1 v a rs r=>k mp1 H1 d S1 v a (G.aft a rs) r (Gn.aft p a)
 | exc x S1=>rw[e] at p; exact p
 | bad=>rw[e] at p; exact p
def vr(i:Nat):Ev D:=fun ρ S=>match ρ[i]? with
 | some (some d)=>.ok d S
 | _=>.bad
def cn(d:D):Ev D:=fun _ S=>.ok d S
section
variable{X:Cx}{XQ:XW}
theorem Gih(i:Nat){x:Str}{pos:Pos}(hN:X.N[i]?=some x:=by rfl)(hv:Vis X.env.scope x:=by first | exact Or.inl rfl | exact Or.inr (Or.inl rfl) | exact Or.inr (Or.inr rfl))(hd:(x==("__debug__":Str))=false:=by decide)
  (hcd:(x==("__classdict__":Str))=false:=by decide):JE X XQ (.Name x pos) (vr i):=by
 refine PE.mono (Zf hN hv hd hcd) fun σ H Q ⟨mp,ρ,S,G,p⟩=>?_
 unfold vr at p
 cases e:ρ[i]? with
 | none=>rw[e] at p; exact p.elim
 | some o=>
  rw[e] at p
  cases o with
  | none=>exact p.elim
  | some d=>
   obtain⟨v,h1,h2⟩:=G.loc i d e
   exact⟨v,h1,Gn.ok p G.rs h2⟩
theorem Wu{e:Expr}{d:D}{v:V}(h:PE X e (tC v))(r:∀ mp H,Rep X.K mp H d v):JE X XQ e (cn d):=
 PE.mono h fun σ H Q ⟨mp,ρ,S,G,p⟩=>Gn.ok p G.rs (r mp H)
theorem Gqb{i:Int}{j pos}:JE X XQ (.Constant (.int i) j pos) (cn (.int i)):=Wu Gpa fun _ _=>rfl
theorem Gup{b:Bool}{j pos}:JE X XQ (.Constant (.bool b) j pos) (cn (.bl b)):=Wu Gt0 fun _ _=>rfl
theorem Gqc{j pos}:JE X XQ (.Constant .none j pos) (cn .non):=Wu Gpb fun _ _=>rfl
theorem Gqd{x:Str}{j pos}:JE X XQ (.Constant (.str x) j pos) (cn (.str x)):=Wu Ght fun _ _=>rfl
def an:Ev (List D):=fun _ S=>.ok [] S
def ac(f:Ev D)(g:Ev (List D)):Ev (List D):=fun ρ S=>(f ρ S).bind fun x S1=>(g ρ S1).bind fun xs S2=>.ok (x::xs) S2
theorem Gqe:JA X XQ [] an:=PA.mono pa_nil fun σ H Q ⟨mp,ρ,S,G,p⟩=>Gn.ok p G.rs RepL.nil
theorem Glk{e:Expr}{es:List Expr}{f:Ev D}{g:Ev (List D)}(ha:JE X XQ e f)(hr:JA X XQ es g)(hs:starEach (e::es) X.env=(false,eval e X.env)::starEach es X.env:=by rfl):JA X XQ (e::es) (ac f g):=by
 refine PA.mono (Ju ha hr hs) fun σ H Q ⟨mp,ρ,S,G,p⟩=>?_
 refine bindP G p fun mp1 H1 x S1 v a1 G1 r1 p1=>?_
 refine bindP G1 p1 fun mp2 H2 xs S2 vs a2 G2 r2 p2=>?_
 exact Gn.ok p2 G2.rs (RepL.cons (Rep.aft a2 _ _ r1) r2)
theorem Km{K:PySem.W.Frag}{mp:List Addr}{H:Hp}{p:Addr}{o:HO}(h:H p=none):Aft K mp H mp (upd H p o):=by
 refine⟨fun _ _ e=>e,fun a xs s=>?_,fun a φ s=>by rw[Gq (Hx s h)]; exact s⟩
 rcases s with(s | ⟨ob,s⟩) | s
 ·exact .inl (.inl (by rw[Gq (Hx s h)]; exact s))
 ·exact .inl (.inr ⟨ob,by rw[Gq (Hx s h)]; exact s⟩)
 ·exact .inr s
theorem Gll{K:PySem.W.Frag}{H:Hp}{p a:Addr}{o:HO}{xs:List V}(h:H p=none)(s:SqF K H a xs):SqF K (upd H p o) a xs:=by
 rcases s with⟨ob,s⟩ | s
 ·exact .inl ⟨ob,by rw[Gq (Hx s h)]; exact s⟩
 ·exact .inr s
theorem Gc2.new{K:PySem.W.Frag}{mp mp':List Addr}{H:Hp}{p a:Addr}{o:HO}{c:Cell}(h:H p=none)(af:Aft K mp H mp' (upd H p o))(q:Gc2 K mp H a c):Gc2 K mp' (upd H p o) a c:=by
 obtain⟨xs,r,e⟩:=q
 refine⟨xs,RepL.aft af _ _ r,?_⟩
 cases z:c.fz with
 | true=>rw[z] at e; exact(if_pos rfl).mpr (Gll h ((if_pos rfl).mp e))
 | false=>
  rw[z,if_neg Bool.false_ne_true] at e
  rw[if_neg Bool.false_ne_true,Gq (Hx e h)]
  exact e
theorem RS.new{K:PySem.W.Frag}{mp:List Addr}{H:Hp}{S:Sto}{p:Addr}{o:HO}(r:RS K mp H S)(h:H p=none):RS K mp (upd H p o) S:=
 ⟨r.len,fun i a c e1 e2=>(r.cell i a c e1 e2).new h (Km h),r.inj⟩
theorem RS.newL{K:PySem.W.Frag}{mp:List Addr}{H:Hp}{S:Sto}{p:Addr}{ds:List D}{vs:List V}(r:RS K mp H S)(h:H p=none)(q:RepL K mp H ds vs):
  Aft K mp H (mp++[p]) (upd H p (.lst vs))/\RS K (mp++[p]) (upd H p (.lst vs)) (S++[⟨false,ds⟩])/\(mp++[p])[S.length]?=some p:=by
 have af:Aft K mp H (mp++[p]) (upd H p (.lst vs)):=⟨fun i a e=>by rw[List.getElem?_append_left (List.getElem?_eq_some_iff.mp e).1]; exact e,(Km (mp:=mp) h).tup,(Km (K:=K) (mp:=mp) h).ext⟩
 have hl:=r.len
 have lastp:(mp++[p])[S.length]?=some p:=by rw[<- hl]; simp
 refine⟨af,⟨by simp[hl],fun i a c e1 e2=>?_,fun i j a ci cj e1 e2 e3 e4 f1 f2=>?_⟩,lastp⟩
 ·by_cases hi:i<S.length
  ·rw[List.getElem?_append_left (by omega)] at e1
   rw[List.getElem?_append_left hi] at e2
   exact(r.cell i a c e1 e2).new h af
  ·have hi':i=S.length:=by
    have:=(List.getElem?_eq_some_iff.mp e2).1
    simp at this
    omega
   subst hi'
   rw[lastp] at e1
   cases e1
   simp at e2
   subst e2
   exact⟨vs,RepL.aft af _ _ q,by simp[Hj]⟩
 ·have old:∀ (i:Nat) (a:Addr) (c:Cell),i<S.length->(mp++[p])[i]?=some a->(S++[⟨false,ds⟩])[i]?=some c->c.fz=false->mp[i]?=some a/\S[i]?=some c/\a≠p:=fun i a c hi e1 e2 f=>by
   rw[List.getElem?_append_left (by omega)] at e1
   rw[List.getElem?_append_left hi] at e2
   refine⟨e1,e2,?_⟩
   obtain⟨xs,_,e⟩:=r.cell i a c e1 e2
   rw[f,if_neg Bool.false_ne_true] at e
   exact Hx e h
  have hi:=(List.getElem?_eq_some_iff.mp e3).1
  have hj:=(List.getElem?_eq_some_iff.mp e4).1
  simp at hi hj
  by_cases hi':i<S.length
  ·obtain⟨o1,o2,o3⟩:=old i a ci hi' e1 e3 f1
   by_cases hj':j<S.length
   ·obtain⟨u1,u2,u3⟩:=old j a cj hj' e2 e4 f2
    exact r.inj i j a ci cj o1 u1 o2 u2 f1 f2
   ·have:j=S.length:=by omega
    subst this
    rw[lastp] at e2
    cases e2
    exact absurd rfl o3
  ·have:i=S.length:=by omega
   subst this
   rw[lastp] at e1
   cases e1
   by_cases hj':j<S.length
   ·obtain⟨u1,u2,u3⟩:=old j _ cj hj' e2 e4 f2
    exact absurd rfl u3
   ·omega
theorem RS.setL{K:PySem.W.Frag}{mp:List Addr}{H:Hp}{S:Sto}{i:Nat}{a:Addr}{c:Cell}{xs vs:List V}{ds:List D}(r:RS K mp H S)(hi:mp[i]?=some a)(hc:S[i]?=some c)(hf:c.fz=false)(ha:H a=some (.lst xs))(q:RepL K mp H ds vs):
  Aft K mp H mp (upd H a (.lst vs))/\RS K mp (upd H a (.lst vs)) (S.set i ⟨false,ds⟩):=by
 have af:Aft K mp H mp (upd H a (.lst vs)):=by
  refine⟨fun _ _ e=>e,fun b ys s=>?_,fun b φ s=>by rw[Gq (Gfs s ha (by intro z; cases z))]; exact s⟩
  rcases s with(s | ⟨ob,s⟩) | s
  ·exact .inl (.inl (by rw[Gq (Gfs s ha (by intro z; cases z))]; exact s))
  ·exact .inl (.inr ⟨ob,by rw[Gq (Gfs s ha (by intro z; cases z))]; exact s⟩)
  ·exact .inr s
 refine⟨af,⟨by simp[r.len],fun j b cj e1 e2=>?_,fun j k b cj ck e1 e2 e3 e4 f1 f2=>?_⟩⟩
 ·by_cases hj:j=i
  ·subst hj
   rw[hi] at e1
   cases e1
   rw[List.getElem?_set_self (List.getElem?_eq_some_iff.mp hc).1] at e2
   cases e2
   exact⟨vs,RepL.aft af _ _ q,by simp[Hj]⟩
  ·rw[List.getElem?_set_ne (Ne.symm hj)] at e2
   obtain⟨ys,h1,h2⟩:=r.cell j b cj e1 e2
   refine⟨ys,RepL.aft af _ _ h1,?_⟩
   cases z:cj.fz with
   | true=>
    rw[z] at h2
    have h2:SqF K H b ys:=(if_pos rfl).mp h2
    refine(if_pos rfl).mpr ?_
    rcases h2 with⟨ob,s⟩ | s
    ·exact .inl ⟨ob,by rw[Gq (Gfs s ha (by intro z; cases z))]; exact s⟩
    ·exact .inr s
   | false=>
    rw[z,if_neg Bool.false_ne_true] at h2
    rw[if_neg Bool.false_ne_true]
    have hb:b≠a:=fun hb=>by
     subst hb
     exact hj (r.inj j i b cj c e1 hi e2 hc z hf)
    rw[Gq hb]
    exact h2
 ·have fz:∀ (j:Nat) (cj:Cell),(S.set i ⟨false,ds⟩)[j]?=some cj->cj.fz=false->∃ c',S[j]?=some c'/\c'.fz=false:=fun j cj e f=>by
   by_cases hj:j=i
   ·subst hj
    exact⟨c,hc,hf⟩
   ·rw[List.getElem?_set_ne (Ne.symm hj)] at e
    exact⟨cj,e,f⟩
  obtain⟨c1,g1,g2⟩:=fz j cj e3 f1
  obtain⟨c2,g3,g4⟩:=fz k ck e4 f2
  exact r.inj j k b c1 c2 e1 e2 g1 g3 g2 g4
theorem RS.items{K:PySem.W.Frag}{mp:List Addr}{H:Hp}{S:Sto}{i:Nat}{c:Cell}{v:V}(r:RS K mp H S)(h:Rep K mp H (.lst i) v)(e:S[i]?=some c):∃ a xs,v=.ref a/\mp[i]?=some a/\SqL K H a xs/\RepL K mp H c.xs xs/\(c.fz=false->H a=some (.lst xs)):=by
 obtain⟨a,ev,ea⟩:=(show ∃ a,v=.ref a/\mp[i]?=some a from h)
 obtain⟨xs,q,z⟩:=r.cell i a c ea e
 cases f:c.fz with
 | true=>rw[f] at z; exact⟨a,xs,ev,ea,((if_pos rfl).mp z:SqF K H a xs).sq,q,fun w=>nomatch w⟩
 | false=>rw[f,if_neg Bool.false_ne_true] at z; exact⟨a,xs,ev,ea,SqL.of z,q,fun _=>z⟩
theorem Rep.tup{K:PySem.W.Frag}{mp:List Addr}{H:Hp}{l:List D}{v:V}(h:Rep K mp H (.tup l) v):∃ a xs,v=.ref a/\SqT K H a xs/\RepL K mp H l xs:=h
def OpD(K:PySem.W.Frag)(r:R2)(o:D->D->Sto->Out D):Prop:=
 ∀ (XQ:XW) (σ:L2.St) (ρ:Lc) (mp:List Addr) (H:Hp) (S:Sto) (x y:D) (v u:V) (Q:VK),RS K mp H S->Rep K mp H x v->Rep K mp H y u->Post K XQ σ ρ mp H (o x y S) Q->r v u H Q
def o2(o:D->D->Sto->Out D)(fa fb:Ev D):Ev D:=fun ρ S=>(fa ρ S).bind fun x S1=>(fb ρ S1).bind fun y S2=>o x y S2
theorem Glm{r:R2}{o:D->D->Sto->Out D}{fa fb:Ev D}(hd:OpD X.K r o):∀ σ H Q,rdE X.K XQ (o2 o fa fb) σ H Q->tOp r (rdE X.K XQ fa) (rdE X.K XQ fb) σ H Q:=by
 intro σ H Q ⟨mp,ρ,S,G,p⟩
 refine bindP G p fun mp1 H1 x S1 v a1 G1 r1 p1=>?_
 refine bindP G1 p1 fun mp2 H2 y S2 u a2 G2 r2 p2=>?_
 exact hd XQ σ ρ mp2 H2 S2 x y v u Q G2.rs (Rep.aft a2 _ _ r1) r2 p2
theorem Gci{a b:Expr}{fa fb:Ev D}{op:Operator}{r:R2}{o:D->D->Sto->Out D}{pos:Pos}(ho:OpR X (binaryOp op) r)(hd:OpD X.K r o)(ha:JE X XQ a fa)(hb:JE X XQ b fb):JE X XQ (.BinOp a op b pos) (o2 o fa fb):=
 PE.mono (Gub ho ha hb) (Glm hd)
theorem Gc3{a b:Expr}{fa fb:Ev D}{op:CmpOp}{r:R2}{o:D->D->Sto->Out D}{pos:Pos}(ho:OpR X (compareOp op) r)(hd:OpD X.K r o)(ha:JE X XQ a fa)(hb:JE X XQ b fb)(hm:behindInMarks op b=false):JE X XQ (.Compare a [op] [b] pos) (o2 o fa fb):=
 PE.mono (Gk7 ho ha hb hm) (Glm hd)
theorem Guq{a b:Expr}{fa fb:Ev D}{r:R2}{o:D->D->Sto->Out D}{pos:Pos}(hr:IxR X r)(hd:OpD X.K r o)(ha:JE X XQ a fa)(hb:JE X XQ b fb)(hs:Gao b):JE X XQ (.Subscript a b pos) (o2 o fa fb):=
 PE.mono (Gui hr ha hb hs) (Glm hd)
def UnD(K:PySem.W.Frag)(r:V->Hp->VK->Prop)(o:D->Sto->Out D):Prop:=
 ∀ (XQ:XW) (σ:L2.St) (ρ:Lc) (mp:List Addr) (H:Hp) (S:Sto) (x:D) (v:V) (Q:VK),RS K mp H S->Rep K mp H x v->Post K XQ σ ρ mp H (o x S) Q->r v H Q
def o1(o:D->Sto->Out D)(fa:Ev D):Ev D:=fun ρ S=>(fa ρ S).bind fun x S1=>o x S1
theorem Gur{a:Expr}{fa:Ev D}{op:UnaryOp}{r:V->Hp->VK->Prop}{o:D->Sto->Out D}{pos:Pos}(ho:UnR X (unaryOp op) r)(hd:UnD X.K r o)(ha:JE X XQ a fa):JE X XQ (.UnaryOp op a pos) (o1 o fa):=by
 refine PE.mono (Guc ho ha) fun σ H Q ⟨mp,ρ,S,G,p⟩=>?_
 exact bindP G p fun mp1 H1 x S1 v a1 G1 r1 p1=>hd XQ σ ρ mp1 H1 S1 x v Q G1.rs r1 p1
def tp(f:Ev (List D)):Ev D:=fun ρ S=>(f ρ S).bind fun xs S1=>if xs.length<=1000000 then .ok (.tup xs) S1 else .bad
def ls(f:Ev (List D)):Ev D:=fun ρ S=>(f ρ S).bind fun xs S1=>if xs.length<=1000000 then .ok (.lst S1.length) (S1++[⟨false,xs⟩]) else .bad
theorem line_le{n:Nat}(h:n<=1000000):n<=sizeLine:=Nat.le_trans h (by decide)
theorem Wv{K:PySem.W.Frag}{σ:L2.St}{ρ:Lc}{mp:List Addr}{H:Hp}{S:Sto}{ds:List D}{vs:List V}{Q:VK}{p:Addr}(po:Post K XQ σ ρ mp H (.ok (.tup ds) S) Q)(r:RS K mp H S)(q:RepL K mp H ds vs)(h:H p=none):Q (.ref p) (upd H p (.tup vs)):=by
 have af:Aft K mp H mp (upd H p (.tup vs)):=Km h
 exact po mp _ _ af (r.new h) ⟨p,vs,rfl,SqT.of Hj,RepL.aft af _ _ q⟩
theorem Vw{K:PySem.W.Frag}{σ:L2.St}{ρ:Lc}{mp:List Addr}{H:Hp}{S:Sto}{ds:List D}{vs:List V}{Q:VK}{p:Addr}(po:Post K XQ σ ρ mp H (.ok (.lst S.length) (S++[⟨false,ds⟩])) Q)(r:RS K mp H S)(q:RepL K mp H ds vs)(h:H p=none):Q (.ref p) (upd H p (.lst vs)):=by
 obtain⟨af,rs,e⟩:=r.newL h q
 exact po _ _ _ af rs ⟨p,rfl,e⟩
theorem Gqf{es:List Expr}{f:Ev (List D)}{x1}{pos:Pos}(h:JA X XQ es f):JE X XQ (.Tuple es x1 pos) (tp f):=by
 refine PE.mono (Gh5 h) fun σ H Q ⟨mp,ρ,S,G,p⟩=>?_
 refine bindP G p fun mp1 H1 xs S1 vs a1 G1 r1 p1=>?_
 by_cases hl:xs.length<=1000000
 ·rw[if_pos hl] at p1
  exact⟨by rw[r1.len]; exact line_le hl,fun q hq=>Wv p1 G1.rs r1 hq⟩
 ·rw[if_neg hl] at p1; exact p1.elim
theorem Gqg{es:List Expr}{f:Ev (List D)}{pos:Pos}(h:JA X XQ es f):JE X XQ (.List es pos) (ls f):=by
 refine PE.mono (Gp2 h) fun σ H Q ⟨mp,ρ,S,G,p⟩=>?_
 refine bindP G p fun mp1 H1 xs S1 vs a1 G1 r1 p1=>?_
 by_cases hl:xs.length<=1000000
 ·rw[if_pos hl] at p1
  exact⟨by rw[r1.len]; exact line_le hl,fun q hq=>Vw p1 G1.rs r1 hq⟩
 ·rw[if_neg hl] at p1; exact p1.elim
def Wo:D->Sto->Option Bool
 | .non,_=>some false
 | .bl b,_=>some b
 | .int i,_=>some (i != 0)
 | .str y,_=>if y.length<=1000000 then some ((y.length:Int) != 0) else none
 | .tup l,_=>some (!l.isEmpty)
 | .lst i,S=>match S[i]? with
  | some c=>some (!c.xs.isEmpty)
  | none=>none
 | .exn _ _,_=>none
 | .fv _,_=>none
def tt(f:Ev D):Ev Bool:=fun ρ S=>(f ρ S).bind fun x S1=>match Wo x S1 with
 | some b=>.ok b S1
 | none=>.bad
theorem RepL.empty{K:PySem.W.Frag}{mp:List Addr}{H:Hp}{l:List D}{vs:List V}(h:RepL K mp H l vs):(!l.isEmpty)=!vs.isEmpty:=by
 have e:=h.len
 cases l<;>cases vs<;>simp_all
theorem Gln{K:PySem.W.Frag}{mp:List Addr}{H:Hp}{S:Sto}{x:D}{v:V}{b:Bool}(r:RS K mp H S)(h:Rep K mp H x v)(e:Wo x S=some b):Gpz K v H b:=by
 cases x with
 | non=>cases (show v=.non from h); exact(Option.some.inj e).symm
 | bl c=>cases (show v=.bl c from h); exact(Option.some.inj e).symm
 | int i=>cases (show v=.int i from h); exact(Option.some.inj e).symm
 | str y=>
  cases (show v=.str y from h)
  have e:(if y.length<=1000000 then some ((y.length:Int) != 0) else none)=some b:=e
  by_cases hl:y.length<=1000000
  ·rw[if_pos hl] at e; exact⟨line_le hl,(Option.some.inj e).symm⟩
  ·rw[if_neg hl] at e; cases e
 | tup l=>
  obtain⟨a,xs,rfl,s,q⟩:=Rep.tup h
  exact .inr (.inl ⟨xs,s,by rw[<- q.empty]; exact(Option.some.inj e).symm⟩)
 | lst i=>
  have e:(match S[i]? with | some c=>some (!c.xs.isEmpty) | none=>none)=some b:=e
  cases z:S[i]? with
  | none=>rw[z] at e; cases e
  | some c=>
   rw[z] at e
   obtain⟨a,xs,rfl,_,s,q,_⟩:=r.items h z
   exact .inl ⟨xs,s,by rw[<- q.empty]; exact(Option.some.inj e).symm⟩
 | exn c n=>cases (show(none:Option Bool)=some b from e)
 | fv c=>cases (show(none:Option Bool)=some b from e)
theorem Gqh{e:Expr}{f:Ev D}(h:JE X XQ e f)(he:∀ whole,isTrue e X.env whole=(do let v <- whole; standAt e.pos; holding [v] (truthy v)):=by intro _; rfl):JT X XQ e (tt f):=by
 refine PT.mono (Gh3 h he) fun σ H Q ⟨mp,ρ,S,G,p⟩=>?_
 refine bindP G p fun mp1 H1 x S1 v a1 G1 r1 p1=>?_
 cases z:Wo x S1 with
 | none=>rw[z] at p1; exact p1.elim
 | some b=>
  rw[z] at p1
  exact⟨b,Gln G1.rs r1 z,Gn.ok p1 G1.rs rfl⟩
def tb(f:Ev D):Ev Bool:=fun ρ S=>(f ρ S).bind fun x S1=>match x with
 | .bl b=>.ok b S1
 | _=>.bad
theorem Gii{K:PySem.W.Frag}{f:Ev D}{σ:L2.St}{H:Hp}{Q:Bool->Hp->Prop}(h:rdT K XQ (tb f) σ H Q):rdE K XQ f σ H fun x H1=>∃ k,x=.bl k/\Q k H1:=by
 obtain⟨mp,ρ,S,G,p⟩:=h
 refine bindP G p fun mp1 H1 x S1 v a1 G1 r1 p1=>?_
 cases x with
 | bl b=>exact⟨b,r1,Gn.ok p1 G1.rs rfl⟩
 | _=>exact p1.elim
theorem Ga1{a b:Expr}{fa fb:Ev D}{op:CmpOp}{r:R2}{o:D->D->Sto->Out D}{pos:Pos}(ho:OpR X (compareOp op) r)(hd:OpD X.K r o)(ha:JE X XQ a fa)(hb:JE X XQ b fb)(hm:behindInMarks op b=false):JT X XQ (.Compare a [op] [b] pos) (tb (o2 o fa fb)):=
 PT.mono (Gk8 ho ha hb hm) fun σ H Q h=>Glm hd σ H _ (Gii h)
def tn(f:Ev Bool):Ev Bool:=fun ρ S=>(f ρ S).bind fun b S1=>.ok (!b) S1
def ta(f g:Ev Bool):Ev Bool:=fun ρ S=>(f ρ S).bind fun b S1=>if b=true then g ρ S1 else .ok false S1
def to(f g:Ev Bool):Ev Bool:=fun ρ S=>(f ρ S).bind fun b S1=>if b=true then .ok true S1 else g ρ S1
theorem Gqi{a:Expr}{f:Ev Bool}{pos:Pos}(h:JT X XQ a f):JT X XQ (.UnaryOp .Not a pos) (tn f):=
 PT.mono (Gpe h) fun σ H Q ⟨mp,ρ,S,G,p⟩=>bindP G p fun mp1 H1 b S1 c a1 G1 r1 p1=>by
  cases (show c=b from r1)
  exact Gn.ok p1 G1.rs rfl
theorem Glo{a:Expr}{f:Ev Bool}{pos:Pos}(h:JT X XQ a f):JW X XQ (.BoolOp .And [a] pos) f:=Gk3 h
theorem Gqj{a:Expr}{f:Ev Bool}{pos:Pos}(h:JT X XQ a f):JW X XQ (.BoolOp .Or [a] pos) f:=Gpc h
theorem Gqk{a b:Expr}{rest:List Expr}{f g:Ev Bool}{pos:Pos}(h:JT X XQ a f)(hb:JW X XQ (.BoolOp .And (b::rest) pos) g):JW X XQ (.BoolOp .And (a::b::rest) pos) (ta f g):=
 PW.mono (Gpd h hb) fun σ H Q ⟨mp,ρ,S,G,p⟩=>bindP G p fun mp1 H1 b S1 c a1 G1 r1 p1=>by
  cases (show c=b from r1)
  cases b with
  | true=>exact(if_pos rfl).mpr ⟨mp1,ρ,S1,G1,by simpa using p1⟩
  | false=>exact(if_neg Bool.false_ne_true).mpr (Gn.ok (R:=kB) (d:=false) (S:=S1) (by simpa using p1) G1.rs rfl)
theorem Gus{a b:Expr}{rest:List Expr}{f g:Ev Bool}{pos:Pos}(h:JT X XQ a f)(hb:JW X XQ (.BoolOp .Or (b::rest) pos) g):JW X XQ (.BoolOp .Or (a::b::rest) pos) (to f g):=
 PW.mono (Gt1 h hb) fun σ H Q ⟨mp,ρ,S,G,p⟩=>bindP G p fun mp1 H1 b S1 c a1 G1 r1 p1=>by
  cases (show c=b from r1)
  cases b with
  | false=>exact(if_neg Bool.false_ne_true).mpr ⟨mp1,ρ,S1,G1,by simpa using p1⟩
  | true=>exact(if_pos rfl).mpr (Gn.ok (R:=kB) (d:=true) (S:=S1) (by simpa using p1) G1.rs rfl)
theorem JW.jt{e:Expr}{f:Ev Bool}(h:JW X XQ e f):JT X XQ e f:=PW.pt h
def va(f g:Ev D):Ev D:=fun ρ S=>(f ρ S).bind fun x S1=>match x with
 | .bl b=>if b=true then g ρ S1 else .ok (.bl false) S1
 | _=>.bad
def vo(f g:Ev D):Ev D:=fun ρ S=>(f ρ S).bind fun x S1=>match x with
 | .bl b=>if b=true then .ok (.bl true) S1 else g ρ S1
 | _=>.bad
def vn(f:Ev D):Ev D:=fun ρ S=>(f ρ S).bind fun x S1=>match x with
 | .bl b=>.ok (.bl (!b)) S1
 | _=>.bad
theorem Gql{a:Expr}{op}{f:Ev D}{pos:Pos}(h:JE X XQ a f):JE X XQ (.BoolOp op [a] pos) f:=Gpf h
theorem Gqm{a b:Expr}{rest:List Expr}{f g:Ev D}{pos:Pos}(ha:JE X XQ a f)(hb:JE X XQ (.BoolOp .And (b::rest) pos) g):JE X XQ (.BoolOp .And (a::b::rest) pos) (va f g):=
 PE.mono (Gpg ha hb) fun σ H Q ⟨mp,ρ,S,G,p⟩=>bindP G p fun mp1 H1 x S1 v a1 G1 r1 p1=>by
  cases x with
  | bl b=>
   refine⟨b,r1,?_⟩
   cases b with
   | true=>exact(if_pos rfl).mpr ⟨mp1,ρ,S1,G1,by simpa using p1⟩
   | false=>exact(if_neg Bool.false_ne_true).mpr (Gn.ok (R:=Rep X.K) (d:=.bl false) (S:=S1) (by simpa using p1) G1.rs rfl)
  | _=>exact p1.elim
theorem Gut{a b:Expr}{rest:List Expr}{f g:Ev D}{pos:Pos}(ha:JE X XQ a f)(hb:JE X XQ (.BoolOp .Or (b::rest) pos) g):JE X XQ (.BoolOp .Or (a::b::rest) pos) (vo f g):=
 PE.mono (Gt4 ha hb) fun σ H Q ⟨mp,ρ,S,G,p⟩=>bindP G p fun mp1 H1 x S1 v a1 G1 r1 p1=>by
  cases x with
  | bl b=>
   refine⟨b,r1,?_⟩
   cases b with
   | false=>exact(if_neg Bool.false_ne_true).mpr ⟨mp1,ρ,S1,G1,by simpa using p1⟩
   | true=>exact(if_pos rfl).mpr (Gn.ok (R:=Rep X.K) (d:=.bl true) (S:=S1) (by simpa using p1) G1.rs rfl)
  | _=>exact p1.elim
theorem Gqn{a:Expr}{f:Ev D}{pos:Pos}(ha:JE X XQ a f):JE X XQ (.UnaryOp .Not a pos) (vn f):=
 PE.mono (Gph ha) fun σ H Q ⟨mp,ρ,S,G,p⟩=>bindP G p fun mp1 H1 x S1 v a1 G1 r1 p1=>by
  cases x with
  | bl b=>exact⟨b,r1,Gn.ok p1 G1.rs rfl⟩
  | _=>exact p1.elim
def ie(c:Ev Bool)(f g:Ev D):Ev D:=fun ρ S=>(c ρ S).bind fun b S1=>if b=true then f ρ S1 else g ρ S1
theorem Gqo{a b c:Expr}{fc:Ev Bool}{fa fb:Ev D}{pos:Pos}(hc:JT X XQ c fc)(ha:JE X XQ a fa)(hb:JE X XQ b fb):JE X XQ (.IfExp c a b pos) (ie fc fa fb):=
 PE.mono (Ghu hc ha hb) fun σ H Q ⟨mp,ρ,S,G,p⟩=>bindP G p fun mp1 H1 b S1 c a1 G1 r1 p1=>by
  cases (show c=b from r1)
  cases b with
  | true=>exact(if_pos rfl).mpr ⟨mp1,ρ,S1,G1,by simpa using p1⟩
  | false=>exact(if_neg Bool.false_ne_true).mpr ⟨mp1,ρ,S1,G1,by simpa using p1⟩
end
inductive OS where
 | nx (ρ:Lc) (S:Sto) | rt (d:D) (S:Sto) | bk (ρ:Lc) (S:Sto) | ct (ρ:Lc) (S:Sto) | exc (x:XD) (ρ:Lc) (S:Sto) | bad
abbrev Sv:=Lc->Sto->OS
def PostS(K:PySem.W.Frag)(XQ:XW)(mp:List Addr)(H:Hp)(o:OS)(E:Ends):Prop:=
 match o with
 | .nx ρ S=>∀ mp' H' σ',Aft K mp H mp' H'->Gd K mp' H' σ' ρ S->E.nx σ' H'
 | .rt d S=>∀ mp' H' v,Aft K mp H mp' H'->RS K mp' H' S->Rep K mp' H' d v->E.rt v H'
 | .bk ρ S=>∀ mp' H' σ',Aft K mp H mp' H'->Gd K mp' H' σ' ρ S->E.bk σ' H'
 | .ct ρ S=>∀ mp' H' σ',Aft K mp H mp' H'->Gd K mp' H' σ' ρ S->E.ct σ' H'
 | .exc x ρ S=>∀ mp' H' σ',Aft K mp H mp' H'->Gd K mp' H' σ' ρ S->XQ x mp' H' σ' ρ S
 | .bad=>False
theorem PostS.aft{K:PySem.W.Frag}{XQ:XW}{mp mp':List Addr}{H H':Hp}{o:OS}{E:Ends}(p:PostS K XQ mp H o E)(a:Aft K mp H mp' H'):PostS K XQ mp' H' o E:=by
 cases o with
 | nx ρ S=>exact fun m h v b=>p m h v (a.trans b)
 | rt d S=>exact fun m h v b=>p m h v (a.trans b)
 | bk ρ S=>exact fun m h v b=>p m h v (a.trans b)
 | ct ρ S=>exact fun m h v b=>p m h v (a.trans b)
 | exc x ρ S=>exact fun m h v b=>p m h v (a.trans b)
 | bad=>exact p
def rdS(K:PySem.W.Frag)(XQ:XW)(f:Sv):TS:=fun E σ H=>∃ mp ρ S,Gd K mp H σ ρ S/\PostS K XQ mp H (f ρ S) E
def JS(X:Cx)(XQ:XW)(st:Stmt)(f:Sv):Prop:=PS X st (rdS X.K XQ f)
def JSs(X:Cx)(XQ:XW)(st:List Stmt)(f:Sv):Prop:=PSs X st (rdS X.K XQ f)
def bindS{α:Type}(o:Out α)(ρ:Lc)(k:α->Sto->OS):OS:=
 match o with
 | .ok a S=>k a S
 | .exc x S=>.exc x ρ S
 | .bad=>.bad
theorem bindSP{α β:Type}{K:PySem.W.Frag}{R:RL α β}{XQ:XW}{mp:List Addr}{H:Hp}{σ:L2.St}{ρ:Lc}{S:Sto}{f:Ev α}{g:α->Sto->OS}{E:Ends}{Q1:β->Hp->Prop}(G:Gd K mp H σ ρ S)(p:PostS K XQ mp H (bindS (f ρ S) ρ g) E)
  (k:∀ mp1 H1 d S1 v,Aft K mp H mp1 H1->Gd K mp1 H1 σ ρ S1->R mp1 H1 d v->PostS K XQ mp1 H1 (g d S1) E->Q1 v H1):rdG K R XQ f σ H Q1:=by
 refine⟨mp,ρ,S,G,?_⟩
 cases e:f ρ S with
 | ok d S1=>
  rw[e] at p
  exact fun mp1 H1 v a rs r=>k mp1 H1 d S1 v a (G.aft a rs) r (PostS.aft p a)
 | exc x S1=>rw[e] at p; exact fun m h b c=>p m h σ b c
 | bad=>rw[e] at p; exact p
def skip:Sv:=fun ρ S=>.nx ρ S
def sq(f g:Sv):Sv:=fun ρ S=>match f ρ S with
 | .nx ρ' S'=>g ρ' S'
 | .rt d S'=>.rt d S'
 | .bk ρ' S'=>.bk ρ' S'
 | .ct ρ' S'=>.ct ρ' S'
 | .exc x ρ' S'=>.exc x ρ' S'
 | .bad=>.bad
section
variable{X:Cx}{XQ:XW}
theorem PostS.nx{K:PySem.W.Frag}{mp:List Addr}{H:Hp}{σ:L2.St}{ρ:Lc}{S:Sto}{E:Ends}(p:PostS K XQ mp H (.nx ρ S) E)(G:Gd K mp H σ ρ S):E.nx σ H:=p mp H σ .refl G
theorem PostS.rt{K:PySem.W.Frag}{mp:List Addr}{H:Hp}{d:D}{v:V}{S:Sto}{E:Ends}(p:PostS K XQ mp H (.rt d S) E)(r:RS K mp H S)(h:Rep K mp H d v):E.rt v H:=p mp H v .refl r h
theorem Glp:JSs X XQ [] skip:=PSs.mono Gk4 fun E σ H ⟨mp,ρ,S,G,p⟩=>PostS.nx p G
theorem Gij{st:Stmt}{rest:List Stmt}{f g:Sv}(h1:JS X XQ st f)(h2:JSs X XQ rest g):JSs X XQ (st::rest) (sq f g):=by
 refine PSs.mono (Gdv h1 h2) fun E σ H ⟨mp,ρ,S,G,p⟩=>⟨mp,ρ,S,G,?_⟩
 unfold sq at p
 cases e:f ρ S with
 | nx ρ' S'=>rw[e] at p; exact fun m h v a G'=>⟨m,ρ',S',G',PostS.aft p a⟩
 | rt d S'=>rw[e] at p; exact p
 | bk ρ' S'=>rw[e] at p; exact p
 | ct ρ' S'=>rw[e] at p; exact p
 | exc x ρ' S'=>rw[e] at p; exact p
 | bad=>rw[e] at p; exact p
theorem Glq{st:Stmt}{f:Sv}(h1:JS X XQ st f):JSs X XQ [st] f:=Gcu h1
def sx(f:Ev D):Sv:=fun ρ S=>bindS (f ρ S) ρ fun _ S1=>.nx ρ S1
theorem Glr{e:Expr}{f:Ev D}{pos:Pos}(he:JE X XQ e f)(hs:swapsWith e none pos.line X.env=pure false:=by rfl):JS X XQ (.Expr e pos) (sx f):=
 PS.mono (Gcv he hs) fun E σ H ⟨mp,ρ,S,G,p⟩=>bindSP G p fun mp1 H1 d S1 v a1 G1 r1 p1=>PostS.nx p1 G1
def sret(f:Ev D):Sv:=fun ρ S=>bindS (f ρ S) ρ fun d S1=>.rt d S1
theorem Gqp{e:Expr}{f:Ev D}{pos:Pos}(he:JE X XQ e f):JS X XQ (.Return (some e) pos) (sret f):=
 PS.mono (Gpi he) fun E σ H ⟨mp,ρ,S,G,p⟩=>bindSP G p fun mp1 H1 d S1 v a1 G1 r1 p1=>PostS.rt p1 G1.rs r1
def sif(c:Ev Bool)(f g:Sv):Sv:=fun ρ S=>bindS (c ρ S) ρ fun b S1=>if b=true then f ρ S1 else g ρ S1
theorem Guu{c:Expr}{a b:List Stmt}{fc:Ev Bool}{f g:Sv}{pos:Pos}(hc:JT X XQ c fc)(ha:JSs X XQ a f)(hb:JSs X XQ b g):JS X XQ (.If c a b pos) (sif fc f g):=
 PS.mono (Gt7 hc ha hb) fun E σ H ⟨mp,ρ,S,G,p⟩=>bindSP G p fun mp1 H1 b S1 c a1 G1 r1 p1=>by
  cases (show c=b from r1)
  cases b with
  | true=>exact(if_pos rfl).mpr ⟨mp1,ρ,S1,G1,by simpa using p1⟩
  | false=>exact(if_neg Bool.false_ne_true).mpr ⟨mp1,ρ,S1,G1,by simpa using p1⟩
theorem Gd.set{K:PySem.W.Frag}{mp:List Addr}{H:Hp}{σ:L2.St}{ρ:Lc}{S:Sto}{d:D}{v:V}(G:Gd K mp H σ ρ S)(i:Nat)(r:Rep K mp H d v):Gd K mp H (σ.set i (some v)) (ρ.set i (some d)) S:=by
 refine⟨G.rs,by simp[G.len],fun j e h=>?_⟩
 by_cases hj:j=i
 ·subst hj
  have hl:j<ρ.length:=by
   have:=(List.getElem?_eq_some_iff.mp h).1
   simpa using this
  rw[List.getElem?_set_self hl] at h
  cases h
  exact⟨v,by rw[List.getElem?_set_self (by rw[G.len]; exact hl)],r⟩
 ·rw[List.getElem?_set_ne (Ne.symm hj)] at h ⊢
  exact G.loc j e h
abbrev Tg:=D->Lc->Option Lc
def Gls(K:PySem.W.Frag)(g:Tg):TG:=fun v σ H Q=>∃ mp ρ S d ρ',Gd K mp H σ ρ S/\Rep K mp H d v/\g d ρ=some ρ'/\∀ σ',Gd K mp H σ' ρ' S->Q σ' H
def JG(X:Cx)(tg:Expr)(g:Tg):Prop:=PG X tg (Gls X.K g)
theorem PG.mono{X:Cx}{e:Expr}{t t':TG}(h:PG X e t)(m:∀ v σ H Q,t' v σ H Q->t v σ H Q):PG X e t':=fun pins s σ H v u Q I r q=>h pins s σ H v u Q I r (m v σ H Q q)
def gn(i:Nat):Tg:=fun d ρ=>some (ρ.set i (some d))
theorem Gc4(i:Nat){x:Str}{pos:Pos}(hN:X.N.Nodup)(hi:X.N[i]?=some x:=by rfl)(hx:Loc X.env.scope x:=by first | exact Or.inl rfl | exact Or.inr rfl)(hf:X.fn x=true\/X.env.scope.names.lookup x=some .local:=by first | exact .inl rfl | exact .inr rfl | assumption):JG X (.Name x pos) (gn i):=
 PG.mono (Gk5 hN hi hx hf) fun v σ H Q ⟨mp,ρ,S,d,ρ',G,r,e,k⟩=>by
  cases (Option.some.inj e)
  exact k _ (G.set i r)
abbrev Tgs:=List D->Lc->Option Lc
def Gwp(K:PySem.W.Frag)(g:Tgs):TGs:=fun vs σ H Q=>∃ mp ρ S ds ρ',Gd K mp H σ ρ S/\RepL K mp H ds vs/\g ds ρ=some ρ'/\∀ σ',Gd K mp H σ' ρ' S->Q σ' H
def JGs(X:Cx)(ts:List Expr)(g:Tgs):Prop:=PGs X ts (Gwp X.K g)
theorem PGs.mono{X:Cx}{e:List Expr}{t t':TGs}(h:PGs X e t)(m:∀ v σ H Q,t' v σ H Q->t v σ H Q):PGs X e t':=fun pins s σ H v u Q I r q=>h pins s σ H v u Q I r (m v σ H Q q)
def gnil:Tgs:=fun ds ρ=>match ds with
 | []=>some ρ
 | _::_=>none
def gcons(g:Tg)(k:Tgs):Tgs:=fun ds ρ=>match ds with
 | []=>none
 | d::r=>(g d ρ).bind fun ρ'=>k r ρ'
theorem Glt:JGs X [] gnil:=PGs.mono Gk6 fun vs σ H Q ⟨mp,ρ,S,ds,ρ',G,r,e,k⟩=>by
 cases ds with
 | nil=>
  cases (show some ρ=some ρ' from e)
  exact⟨r,k _ G⟩
 | cons _ _=>cases (show(none:Option Lc)=some ρ' from e)
theorem Gik{e:Expr}{es:List Expr}{g:Tg}{k:Tgs}(h1:JG X e g)(h2:JGs X es k)
  (hs:(assignEach (e::es) X.env).map (·.2)=assign e X.env::(assignEach es X.env).map (·.2):=by rfl):JGs X (e::es) (gcons g k):=
 PGs.mono (Ghx h1 h2 hs) fun vs σ H Q ⟨mp,ρ,S,ds,ρ',G,r,e,q⟩=>by
  cases ds with
  | nil=>cases (show(none:Option Lc)=some ρ' from e)
  | cons d ds=>
   have e:(g d ρ).bind (fun ρ'=>k ds ρ')=some ρ':=e
   obtain⟨v,vr,ev,h3,h4⟩:=(show ∃ v r,vs=v::r/\Rep X.K mp H d v/\RepL X.K mp H ds r from r)
   cases z:g d ρ with
   | none=>rw[z] at e; cases e
   | some ρ1=>
    rw[z] at e
    exact⟨v,vr,ev,mp,ρ,S,d,ρ1,G,h3,z,fun σ1 G1=>⟨mp,ρ1,S,ds,ρ',G1,h4,e,q⟩⟩
def gt(k:Tgs)(n:Nat):Tg:=fun d ρ=>match d with
 | .tup ds=>if ds.length=n then k ds ρ else none
 | _=>none
theorem Gqq{es:List Expr}{m:Nat}{k:Tgs}{n:Nat}{pos:Pos}(hc:X.calm=true)(h:JGs X es k)
  (hn:(assignEach es X.env).length=n:=by rfl) (hst:(assignEach es X.env).findIdx? (·.1)=none:=by rfl):JG X (.Tuple es m pos) (gt k n):=
 PG.mono (Gpk hc h hn hst) fun v σ H Q ⟨mp,ρ,S,d,ρ',G,r,e,q⟩=>by
  cases d with
  | tup ds=>
   have e:(if ds.length=n then k ds ρ else none)=some ρ':=e
   obtain⟨a,xs,ev,sq,rl⟩:=Rep.tup r
   by_cases hl:ds.length=n
   ·rw[if_pos hl] at e
    exact⟨a,xs,ev,sq,by rw[rl.len]; exact hl,mp,ρ,S,ds,ρ',G,rl,e,q⟩
   ·rw[if_neg hl] at e; cases e
  | _=>cases (show(none:Option Lc)=some ρ' from e)
def sa(f:Ev D)(g:Tg):Sv:=fun ρ S=>bindS (f ρ S) ρ fun d S1=>match g d ρ with
 | some ρ'=>.nx ρ' S1
 | none=>.bad
theorem Gqr(i:Nat){x:Str}{e:Expr}{f:Ev D}{pos pos':Pos}(hN:X.N.Nodup)(he:JE X XQ e f)(hi:X.N[i]?=some x:=by rfl)(hx:Loc X.env.scope x:=by first | exact Or.inl rfl | exact Or.inr rfl)(hs:swapsWith e (some (.Name x pos')) pos.line X.env=pure false:=by rfl)
  (hf:X.fn x=true\/X.env.scope.names.lookup x=some .local:=by first | exact .inl rfl | exact .inr rfl | assumption):JS X XQ (.Assign [.Name x pos'] e pos) (sa f (gn i)):=
 PS.mono (Gpo hN hi hx he hs hf) fun E σ H ⟨mp,ρ,S,G,p⟩=>bindSP G p fun mp1 H1 d S1 v a1 G1 r1 p1=>PostS.nx p1 (G1.set i r1)
def Guv(t:Ghw)(K:PySem.W.Frag)(o:D->D->D->Sto->Option Sto):Prop:=
 ∀ (mp:List Addr) (H:Hp) (S S':Sto) (x y z:D) (v u w:V) (Q:Hp->Prop),RS K mp H S->Rep K mp H x v->Rep K mp H y u->Rep K mp H z w->o x y z S=some S'->(∀ H',Aft K mp H mp H'->RS K mp H' S'->Q H')->t v u w H Q
def ss(f fo fi:Ev D)(o:D->D->D->Sto->Option Sto):Sv:=fun ρ S=>bindS (f ρ S) ρ fun d S1=>bindS (fo ρ S1) ρ fun x S2=>bindS (fi ρ S2) ρ fun y S3=>match o x y d S3 with
 | some S4=>.nx ρ S4
 | none=>.bad
theorem Gqs{ob ix e:Expr}{f fo fi:Ev D}{t:Ghw}{o:D->D->D->Sto->Option Sto}{pos p2:Pos}(hset:Gpj X t)(ho:Guv t X.K o)(he:JE X XQ e f)(hob:JE X XQ ob fo)(hix:JE X XQ ix fi)
  (hs:swapsWithSole [.Subscript ob ix p2] e pos.line X.env=pure false:=by rfl) (hw:swappedStores [.Subscript ob ix p2] e X.env=pure none:=by rfl)
  (h1:(assignEach [.Subscript ob ix p2] X.env).map (·.2)=[assign (.Subscript ob ix p2) X.env]:=by rfl) (ha:∀ v,assign (.Subscript ob ix p2) X.env v=(do
   let ov <- holding [v] (eval ob X.env)
   let iv <- holding [v,ov] (eval ix X.env)
   standAt p2
   holding [v,ov,iv] (setItem ov iv v)
   release [v,ov,iv] []):=by intro _; rfl):JS X XQ (.Assign [.Subscript ob ix p2] e pos) (ss f fo fi o):=by
 refine PS.mono (Gpn he (Gpl hob hix hset ha) hs hw h1) fun E σ H ⟨mp,ρ,S,G,p⟩=>?_
 refine bindSP G p fun mp1 H1 d S1 v a1 G1 r1 p1=>?_
 refine bindSP G1 p1 fun mp2 H2 x S2 vx a2 G2 r2 p2=>?_
 refine bindSP G2 p2 fun mp3 H3 y S3 vy a3 G3 r3 p3=>?_
 cases z:o x y d S3 with
 | none=>rw[z] at p3; exact p3.elim
 | some S4=>
  rw[z] at p3
  exact ho mp3 H3 S3 S4 x y d vx vy v _ G3.rs (Rep.aft a3 _ _ r2) r3 (Rep.aft (a2.trans a3) _ _ r1) z fun H' af rs=>p3 mp3 H' σ af (G3.aft af rs)
structure Src where
 nxt:Nat->Sto->Option D
 fuel:Nat
def Gc5(K:PySem.W.Frag)(mp0:List Addr)(H0:Hp)(J:It)(nxt:Nat->Sto->Option D):Prop:=
 ∀ (mp:List Addr) (H:Hp) (S:Sto),Aft K mp0 H0 mp H->RS K mp H S->∀ k,match nxt k S with
  | some d=>J.go k H/\∀ x H',J.yld k H x H'->Aft K mp H mp H'/\RS K mp H' S/\Rep K mp H' d x
  | none=>J.stop k H
def kI(K:PySem.W.Frag):RL Src It:=fun mp H s J=>Gc5 K mp H J s.nxt
abbrev rdI(K:PySem.W.Frag)(XQ:XW)(f:Ev Src):TI:=rdG K (kI K) XQ f
def JI(X:Cx)(XQ:XW)(tg iter:Expr)(f:Ev Src):Prop:=PI X tg iter (rdI X.K XQ f)
theorem PI.mono{X:Cx}{tg e:Expr}{t t':TI}(h:PI X tg e t)(m:∀ σ H Q,t' σ H Q->t σ H Q):PI X tg e t':=fun pins s σ H Q I q=>h pins s σ H Q I (m σ H Q q)
def forN(nxt:Nat->Sto->Option D)(g:Tg)(b:Sv):Nat->Nat->Sv
 | 0,_,_,_=>.bad
 | n+1,k,ρ,S=>match nxt k S with
  | none=>.nx ρ S
  | some d=>match g d ρ with
   | none=>.bad
   | some ρ1=>match b ρ1 S with
    | .nx ρ2 S2=>forN nxt g b n (k+1) ρ2 S2
    | .ct ρ2 S2=>forN nxt g b n (k+1) ρ2 S2
    | .bk ρ2 S2=>.nx ρ2 S2
    | .rt d S2=>.rt d S2
    | .exc x ρ2 S2=>.exc x ρ2 S2
    | .bad=>.bad
def sfor(f:Ev Src)(g:Tg)(b:Sv):Sv:=fun ρ S=>bindS (f ρ S) ρ fun s S1=>forN s.nxt g b s.fuel 0 ρ S1
theorem Gqt{tg iter:Expr}{body:List Stmt}{f:Ev Src}{g:Tg}{b:Sv}{pos:Pos}(hp:PassesOwn (model X.prog X.w) X.A X.env X.xe)(hc:X.calm=true)(hi:JI X XQ tg iter f)(hg:JG X tg g)(hb:JSs X XQ body b)
  (hs:∀ x,foldedSetIterable iter X.env x=pure x:=by intro _; rfl):JS X XQ (.For tg iter body [] pos) (sfor f g b):=by
 refine PS.mono (Gpr hp hc hi hg hb hs) fun E σ H ⟨mp,ρ,S,G,p⟩=>?_
 refine bindSP G p fun mp1 H1 s S1 J a1 G1 j1 p1=>?_
 refine⟨fun i m σ' H'=>∃ mp' ρ' S',Aft X.K mp1 H1 mp' H'/\Gd X.K mp' H' σ' ρ' S'/\PostS X.K XQ mp' H' (forN s.nxt g b m i ρ' S') E,⟨s.fuel,mp1,ρ,S1,.refl,G1,p1⟩,?_⟩
 rintro i m σ' H' ⟨mp',ρ',S',a',G',p'⟩
 cases m with
 | zero=>exact(show False from p').elim
 | succ n=>
  have j:=j1 mp' H' S' a' G'.rs i
  unfold forN at p'
  cases z:s.nxt i S' with
  | none=>
   rw[z] at j p'
   exact .inl ⟨j,PostS.nx p' G'⟩
  | some d=>
   rw[z] at j p'
   obtain⟨j1,j2⟩:=j
   refine .inr ⟨j1,fun σ2 H2=>∃ mp2 ρ2 S2,Aft X.K mp1 H1 mp2 H2/\Gd X.K mp2 H2 σ2 ρ2 S2/\PostS X.K XQ mp2 H2 (forN s.nxt g b n (i+1) ρ2 S2) E,fun σ2 H2 q=>⟨n,Nat.lt_succ_self n,q⟩,fun x H2 y=>?_⟩
   obtain⟨a2,r2,x2⟩:=j2 x H2 y
   have G2:=G'.aft a2 r2
   cases zg:g d ρ' with
   | none=>simp only[zg] at p'; exact p'.elim
   | some ρ1=>
    simp only[zg] at p'
    refine⟨mp',ρ',S',d,ρ1,G2,x2,zg,fun σ3 G3=>⟨mp',ρ1,S',G3,?_⟩⟩
    have p2:=PostS.aft p' a2
    cases zb:b ρ1 S' with
    | nx ρ2 S2=>simp only[zb] at p2; exact fun m h v af G4=>⟨m,ρ2,S2,(a'.trans a2).trans af,G4,PostS.aft p2 af⟩
    | ct ρ2 S2=>simp only[zb] at p2; exact fun m h v af G4=>⟨m,ρ2,S2,(a'.trans a2).trans af,G4,PostS.aft p2 af⟩
    | bk ρ2 S2=>simp only[zb] at p2; exact p2
    | rt d S2=>simp only[zb] at p2; exact p2
    | exc x ρ2 S2=>simp only[zb] at p2; exact p2
    | bad=>simp only[zb] at p2; exact p2
def Gcj:D->Sto->Out Src
 | .tup l,S=>.ok ⟨fun k _=>l[k]?,l.length+1⟩ S
 | .lst i,S=>match S[i]? with
  | some c=>.ok ⟨fun k S=>(S[i]?).bind fun c=>c.xs[k]?,c.xs.length+1⟩ S
  | none=>.bad
 | _,_=>.bad
end
section
variable{X:Cx}{XQ:XW}
def Gwq(K:PySem.W.Frag)(tl:TE):TI:=fun σ H R=>tl σ H fun x H1=>∃ a,x=.ref a/\(((∃ xs,SqL K H1 a xs)/\R (Itl K a) H1)\/((∃ xs,SqT K H1 a xs)/\R (Itt K a) H1))
theorem Gqu{tg l:Expr}{tl:TE}(hl:PE X l tl):PI X tg l (Gwq X.K tl):=by
 intro pins s σ H R I h
 refine thn (hl pins s σ H _ I h) fun v s1 ⟨x,H1,I1,r1,q1⟩=>?_
 obtain⟨a,e,q⟩:=q1
 subst e
 cases r1
 rcases q with⟨⟨xs,hq⟩,q⟩ | ⟨⟨xs,hq⟩,q⟩
 ·obtain⟨its,rv,p,hz⟩:=I1.list hq
  refine wpAny_pyIter_list p.isList ?_
  refine⟨s1.heap.objs.size,[s1.heap.objs.size],_,_,H1,rfl,I1.kept (t':=s1.toks) fun b o e=>Heap.get?_push_of_some _ e,turn_list a _,⟨_,Heap.get?_push_size _ rfl,rfl,rfl⟩,fun b hb=>?_,q⟩
  have e:b=s1.heap.objs.size:=by simpa using hb
  subst e
  exact I1.fpOk (Nat.le_refl _) (I1.hok.fresh (Nat.le_refl _))
 ·obtain⟨its,rv,p,hz⟩:=I1.tuple hq
  refine wpAny_pyIter_tuple (show s1.heap.IsTuple a its.toArray from p) ?_
  refine⟨s1.heap.objs.size,[s1.heap.objs.size],_,_,H1,rfl,I1.kept (t':=s1.toks) fun b o e=>Heap.get?_push_of_some _ e,turn_tuple a _,⟨_,Heap.get?_push_size _ rfl,rfl,rfl⟩,fun b hb=>?_,q⟩
  have e:b=s1.heap.objs.size:=by simpa using hb
  subst e
  exact I1.fpOk (Nat.le_refl _) (I1.hok.fresh (Nat.le_refl _))
def isrc(f:Ev D):Ev Src:=fun ρ S=>(f ρ S).bind Gcj
theorem Gqv{K:PySem.W.Frag}{mp:List Addr}{H:Hp}{a:Addr}{xs:List V}{l:List D}(s:SqT K H a xs)(r:RepL K mp H l xs):Gc5 K mp H (Itt K a) (fun k _=>l[k]?):=by
 intro mp' H' S' af rs k
 show match l[k]? with
  | some d=>(Itt K a).go k H'/\∀ x H2,(Itt K a).yld k H' x H2->Aft K mp' H' mp' H2/\RS K mp' H2 S'/\Rep K mp' H2 d x
  | none=>(Itt K a).stop k H'
 cases z:l[k]? with
 | none=>
  refine⟨xs,af.tup _ _ s,?_⟩
  rw[r.len]
  exact List.getElem?_eq_none_iff.mp z
 | some d=>
  have r':=RepL.aft af _ _ r
  obtain⟨v,e,q⟩:=r'.get z
  refine⟨⟨xs,v,af.tup _ _ s,e⟩,fun x H2 ⟨h1,h2⟩=>?_⟩
  subst h1
  have e2:=h2 xs (af.tup _ _ s)
  rw[e] at e2
  cases e2
  exact⟨.refl,rs,q⟩
theorem Gqw{K:PySem.W.Frag}{mp:List Addr}{H:Hp}{a:Addr}{i:Nat}(hi:mp[i]?=some a):Gc5 K mp H (Itl K a) (fun k S=>(S[i]?).bind fun c=>c.xs[k]?):=by
 intro mp' H' S' af rs k
 have hi':=af.pre i a hi
 have hl:i<S'.length:=by rw[<- rs.len]; exact(List.getElem?_eq_some_iff.mp hi').1
 have hc:S'[i]?=some S'[i]:=List.getElem?_eq_getElem hl
 obtain⟨a2,xs,e1,e2,sq,r,_⟩:=rs.items (v:=.ref a) ⟨a,rfl,hi'⟩ hc
 cases e1
 simp only[hc,Option.bind_some]
 cases z:(S'[i]).xs[k]? with
 | none=>
  refine⟨xs,sq,?_⟩
  rw[r.len]
  exact List.getElem?_eq_none_iff.mp z
 | some d=>
  obtain⟨v,e,q⟩:=r.get z
  refine⟨⟨xs,v,sq,e⟩,fun x H2 ⟨h1,h2⟩=>?_⟩
  subst h1
  have e2:=h2 xs sq
  rw[e] at e2
  cases e2
  exact⟨.refl,rs,q⟩
theorem Gqx{tg l:Expr}{f:Ev D}(hl:JE X XQ l f):JI X XQ tg l (isrc f):=by
 refine PI.mono (Gqu hl) fun σ H R ⟨mp,ρ,S,G,p⟩=>?_
 refine bindP G p fun mp1 H1 d S1 v a1 G1 r1 p1=>?_
 cases d with
 | tup ds=>
  obtain⟨a,xs,rfl,s,q⟩:=Rep.tup r1
  exact⟨a,rfl,.inr ⟨⟨xs,s⟩,Gn.ok (R:=kI X.K) (d:=⟨fun k _=>ds[k]?,ds.length+1⟩) (S:=S1) p1 G1.rs (Gqv s q)⟩⟩
 | lst i=>
  have p1:Gn X.K (kI X.K) XQ σ ρ mp1 H1 (match S1[i]? with | some c=>.ok ⟨fun k S=>(S[i]?).bind fun c=>c.xs[k]?,c.xs.length+1⟩ S1 | none=>.bad) R:=p1
  cases z:S1[i]? with
  | none=>rw[z] at p1; exact p1.elim
  | some c=>
   rw[z] at p1
   obtain⟨a,xs,rfl,ha,s,q,_⟩:=G1.rs.items r1 z
   exact⟨a,rfl,.inl ⟨⟨xs,s⟩,Gn.ok (R:=kI X.K) (d:=⟨fun k S=>(S[i]?).bind fun c=>c.xs[k]?,c.xs.length+1⟩) (S:=S1) p1 G1.rs (Gqw ha)⟩⟩
 | _=>exact(show False from p1).elim
def rsrc(lo:Int)(n:Nat):Src:=⟨fun k _=>if k<n then some (.int (lo+k)) else none,n+1⟩
theorem Gqy{K:PySem.W.Frag}{mp:List Addr}{H:Hp}{lo:Int}{n:Nat}:Gc5 K mp H (Itr lo n) (rsrc lo n).nxt:=by
 intro mp' H' S' af rs k
 show match (if k<n then some (D.int (lo+k)) else none) with
  | some d=>(Itr lo n).go k H'/\∀ x H2,(Itr lo n).yld k H' x H2->Aft K mp' H' mp' H2/\RS K mp' H2 S'/\Rep K mp' H2 d x
  | none=>(Itr lo n).stop k H'
 by_cases h:k<n
 ·rw[if_pos h]
  refine⟨h,fun x H2 ⟨h1,h2⟩=>?_⟩
  subst h1 h2
  exact⟨.refl,rs,rfl⟩
 ·rw[if_neg h]
  exact Nat.not_lt.mp h
def ir1(f:Ev (List D)):Ev Src:=fun ρ S=>(f ρ S).bind fun ds S1=>match ds with
 | [.int j]=>if -1000000000000<=j/\j<=1000000000000 then .ok (rsrc 0 j.toNat) S1 else .bad
 | _=>.bad
theorem RepL.one{K:PySem.W.Frag}{mp:List Addr}{H:Hp}{d:D}{vs:List V}(h:RepL K mp H [d] vs):∃ v,vs=[v]/\Rep K mp H d v:=by
 obtain⟨v,r,rfl,h1,h2⟩:=h
 cases (show r=[] from h2)
 exact⟨v,rfl,h1⟩
theorem RepL.two{K:PySem.W.Frag}{mp:List Addr}{H:Hp}{d e:D}{vs:List V}(h:RepL K mp H [d,e] vs):∃ v w,vs=[v,w]/\Rep K mp H d v/\Rep K mp H e w:=by
 obtain⟨v,r,rfl,h1,h2⟩:=h
 obtain⟨w,rfl,h3⟩:=RepL.one h2
 exact⟨v,w,rfl,h1,h3⟩
theorem Ggx{tg a:Expr}{f:Ev (List D)}{p pos:Pos}(hg:Gl X "range")(hm:X.mg "range"=none)(ha:JA X XQ [a] f)(hs:starEach [a] X.env=[(false,eval a X.env)]:=by rfl):JI X XQ tg (.Call (.Name "range" p) [a] [] pos) (ir1 f):=by
 refine PI.mono (Ggp hg hm ha hs) fun σ H R ⟨mp,ρ,S,G,p⟩=>?_
 refine bindP G p fun mp1 H1 ds S1 vs a1 G1 r1 p1=>?_
 split at p1
 ·rename_i j
  by_cases hb : -1000000000000<=j/\j<=1000000000000
  ·rw[if_pos hb] at p1
   obtain⟨v,rfl,h1⟩:=RepL.one r1
   cases (show v=.int j from h1)
   refine⟨j,rfl,by omega,by omega,Gn.ok (R:=kI X.K) (d:=rsrc 0 j.toNat) (S:=S1) p1 G1.rs Gqy⟩
  ·rw[if_neg hb] at p1; exact p1.elim
 ·exact p1.elim
end
abbrev Fn:=List D->Sto->Out D
def Goc(K:PySem.W.Frag)(mp:List Addr)(H:Hp)(o:Out D)(Q:VK):Prop:=
 match o with
 | .ok d S=>∀ mp' H' v,Aft K mp H mp' H'->RS K mp' H' S->Rep K mp' H' d v->Q v H'
 | _=>False
def spD(K:PySem.W.Frag)(n:Nat)(fn:Fn):Sp:=fun vs H Q _=>∃ mp ds S,RS K mp H S/\RepL K mp H ds vs/\ds.length=n/\Goc K mp H (fn ds S) Q
def fnB(m:Nat)(b:Sv):Fn:=fun ds S=>match b (ds.map some++List.replicate (m-ds.length) none) S with
 | .rt d S'=>.ok d S'
 | .nx _ S'=>.ok .non S'
 | .exc x _ S'=>.exc x S'
 | _=>.bad
theorem Gd1{K:PySem.W.Frag}{mp:List Addr}{H:Hp}{S:Sto}{N:List Str}{ds:List D}{vs:List V}(r:RS K mp H S)(h:RepL K mp H ds vs):Gd K mp H (start N vs) (ds.map some++List.replicate (N.length-ds.length) none) S:=by
 have hl:=h.len
 refine⟨r,by simp[L2.start,hl],fun i d e=>?_⟩
 by_cases hi:i<ds.length
 ·rw[List.getElem?_append_left (by simpa using hi),List.getElem?_map] at e
  cases z:ds[i]? with
  | none=>rw[z] at e; cases e
  | some d'=>
   rw[z] at e
   cases e
   obtain⟨v,e1,q⟩:=h.get z
   refine⟨v,?_,q⟩
   unfold L2.start
   rw[List.getElem?_append_left (by simp[hl]; exact hi),List.getElem?_map,e1]
   rfl
 ·rw[List.getElem?_append_right (by simpa using hi),List.getElem?_replicate] at e
  split at e
  ·cases e
  ·cases e
theorem God{P:Program}{w:World}{K:PySem.W.Frag}{mg:Str->Option Value}{base:Heap}{x qual:Str}{st:Stmt}{f:Addr}{fd:FuncData}{N ps:List Str}{k:Nat}{b:Sv}(F:Fun K x qual st f fd)(Sc:FnScope N ps (Gf st))(hb:∀ (cdv:Value) (A:Around) (outer:List PySem.Env) (s:Shared) (H:Hp) (E:XK),Room k (A.deeper (envOfC qual (Gf st) s.heap.objs.size f cdv))→
   JSs (Qi CX0 P w K mg base N qual (Gf st) f cdv A outer s H E).nox (fun _ _ _ _ _ _=>False) (Gw st) b):FnOk P w K mg base CX0 (k+1) f fd ps (spD K ps.length (fnB N.length b)):=by
 refine F.ok Sc (fun vs H Q E ⟨mp,ds,S,rs,r,hl,_⟩=>by rw[r.len]; exact hl) fun cdv A outer s H vs Q E hr ⟨mp,ds,S,rs,r,hl,p⟩=>?_
 refine⟨_,hb cdv A outer s H E hr,mp,_,S,Gd1 rs r,?_⟩
 unfold fnB at p
 show PostS K _ mp H (b (ds.map some++List.replicate (N.length-ds.length) none) S) _
 cases z:b (ds.map some++List.replicate (N.length-ds.length) none) S with
 | rt d S'=>rw[z] at p; exact p
 | nx ρ' S'=>rw[z] at p; exact fun m h v af G=>p m h .non af G.rs rfl
 | bk ρ' S'=>rw[z] at p; exact p.elim
 | ct ρ' S'=>rw[z] at p; exact p.elim
 | exc x ρ' S'=>rw[z] at p; exact p.elim
 | bad=>rw[z] at p; exact p.elim
section
variable{X:Cx}{XQ:XW}{k:Nat}{f:Addr}{fd:FuncData}{ps:List Str}{fn:Fn}{x:Str}{p pos:Pos}{e:Expr}{es:List Expr}{t:Ev (List D)}
def cl(n:Nat)(fn:Fn)(t:Ev (List D)):Ev D:=fun ρ S=>(t ρ S).bind fun ds S1=>if ds.length=n then fn ds S1 else .bad
def Gp(fn:Fn):Fn:=fun ds S=>match fn ds S with
 | .ok d S'=>.ok d S'
 | _=>.bad
theorem Glu{j:Nat}(F:FnOk X.prog X.w X.K X.mg X.base CX0 j f fd ps (spD X.K ps.length fn))(hr:Room k X.A)(hj:j<=k)(hg:Gl X x)(hm:X.mg x=some (.ref f))(hk:PySem.W.keepIn X.K (.ref f)=true)(hb:Binds X.K fd ps [])
  (ha:JA X XQ (e::es) t) (hdb:(x==("__debug__":Str))=false:=by decide) (he:starEach (e::es) X.env=(false,eval e X.env)::starEach es X.env:=by rfl) (hpl:(backTo pos (starEach es X.env)).any (·.1)=false:=by rfl):
  JE X XQ (.Call (.Name x p) (e::es) [] pos) (cl ps.length (Gp fn) t):=by
 refine PE.mono (Gla (F.mono hj) hr hg hm hk hb .nil (Guo) ha hdb he hpl) fun σ H Q ⟨mp,ρ,S,G,p⟩=>?_
 refine bindP G p fun mp1 H1 ds S1 vs a1 G1 r1 p1=>?_
 by_cases hl:ds.length=ps.length
 ·rw[if_pos hl] at p1
  refine⟨mp1,ds,S1,G1.rs,by rw[List.append_nil]; exact r1,hl,?_⟩
  unfold Gp at p1
  cases z:fn ds S1 with
  | ok d S'=>rw[z] at p1; exact p1
  | exc x S'=>rw[z] at p1; exact p1.elim
  | bad=>rw[z] at p1; exact p1.elim
 ·rw[if_neg hl] at p1; exact p1.elim
end
theorem Gc6{prog:Program}{w:World}{A:Around}{R:Result->Shared->Prop}{s:Shared}{elt target iter:Expr}{ifs:List Expr}{scope:Scope}{pos:Pos}{it acc:Value}{env:PySem.Env}(I:Nat->Shared->Prop)(turn:∀ n s,I n s->wpAny (model prog w) A (pyNext it) (fun r s₁=>match r with
   | none=>R (.ok .next) s₁
   | some v=>wpAny (model prog w) A (letOwnedTupleGo target it v) (fun _ s₁=>wpAny (model prog w) A (assign target env v) (fun _ s₂=>
     wpAny (model prog w) A (forIn ifs true fun c r=>if r=true then do let ok <- isTrue c env (eval c env); pure (ForInStep.yield ok) else pure (ForInStep.yield r)) (fun ok s₃=>
      if ok=true then wpAny (model prog w) A (eval elt env) (fun x s₄=>
       wpAny (model prog w) A (call (.builtin "list.append") [acc,x]) (fun _ s₅=>∃ m,m<n/\I m s₅) (fun _ _=>False) s₄) (fun _ _=>False) s₃
      else ∃ m,m<n/\I m s₃) (fun _ _=>False) s₂) (fun _ _=>False) s₁) (fun _ _=>False) s₁) (fun _ _=>False) s)(n:Nat)(h:I n s):
  codeAny (model prog w) A (.compLoop (.ListComp elt [⟨target,iter,ifs,0⟩] scope pos) 0 it acc env) R s:=by
 have noE:∀ {α:Type} {m:Sem α} {Q:α->Shared->Prop} {E':Value->Shared->Prop} {s:Shared},wpAny (model prog w) A m Q (fun _ _=>False) s->wpAny (model prog w) A m Q E' s:=fun h=>wpAny_mono h (fun _ _ q=>q) fun _ _ z=>z.elim
 refine codeAny_loop rfl I (fun n s hI=>?_) n h
 show wpAny _ A ((compTurn (.ListComp elt [⟨target,iter,ifs,0⟩] scope pos) 0 it acc env).onRaise (fun x=>do noteFrame x env; theTreesLotGoes x)) _ _ s
 refine wpAny_noted ?_
 rw[compTurn_list]
 refine wpAny_bind (wpAny_standAt (wpAny_bind (noE (wpAny_mono (turn n s hI) (fun r s₁ h₁=>?_) fun _ _ z=>z))))
 cases r with
 | none=>exact wpAny_pure h₁
 | some v=>
  refine wpAny_bind (noE (wpAny_mono h₁ (fun _ s₁ h₁=>?_) fun _ _ z=>z))
  refine wpAny_bind (noE (wpAny_mono h₁ (fun _ s₂ h₂=>wpAny_bind (noE (wpAny_mono h₂ (fun ok s₃ h₃=>?_) fun _ _ z=>z))) fun _ _ z=>z))
  cases ok with
  | false=>exact wpAny_pure ⟨rfl,h₃⟩
  | true=>
   exact wpAny_bind (wpAny_bind (noE (wpAny_mono h₃ (fun x s₄ h₄=>wpAny_bind (noE (wpAny_mono h₄ (fun _ s₅ h₅=>wpAny_pure (wpAny_pure ⟨rfl,h₅⟩)) fun _ _ z=>z))) fun _ _ z=>z)))
def blk(X:Cx)(s2:Shared)(H2:Hp)(C:Addr)(scope:Scope)(cl:List (Str×Addr))(N':List Str)(fp:List Addr):Cx:=
 { X with N:=N',s₀:=s2,H₀:=H2,env:=compEnvC scope cl C X.env,outer:=X.stack,ex:=fp,fn:=fun x=>scope.names.lookup x==some NameKind.cell,pn:=[],xe:=fun _ _=>False }
structure CompSc(X:Cx)(scope:Scope)(cl:List (Str×Addr))(N':List Str)(pk:List (Option Nat)):Prop where
 kind:scope.kind=.function
 cell:∀ y∈scope.names,y.2=.cell->scope.names.lookup y.1=some .cell
 names:∀ y∈scope.names,y.2=.local->scope.names.lookup y.1=some .local
 clos:closureFor scope X.env=pure cl
 sub:∀ x c,cl.lookup x=some c->X.env.cells.lookup x=some c
 has:∀ x,((relabel scope X.env).names.lookup x=some .cell\/(relabel scope X.env).names.lookup x=some .free)->(x,NameKind.cell)∈scope.names\/∃ c,cl.lookup x=some c
 len:pk.length=N'.length
 take:∀ (i j:Nat) (x:Str),pk[i]?=some (some j)->N'[i]?=some x->X.N[j]?=some x/\(X.env.kindOf x=some .cell\/X.env.kindOf x=some .free)/\((relabel scope X.env).names.lookup x=some .cell\/(relabel scope X.env).names.lookup x=some .free)/\scope.names.lookup x=some .free
def pkS{α:Type}(pk:List (Option Nat))(σ:List (Option α)):List (Option α):=pk.map fun o=>o.bind fun j=>(σ[j]?).bind id
def PTs(Y:Cx)(ifs:List Expr)(t:TT):Prop:=
 ∀ (pins:List (Addr×Obj)) (s:Shared) (σ:L2.St) (H:Hp) (Q:Bool->Hp->Prop),Inv Y pins σ H s->t σ H Q→
  wpAny (model Y.prog Y.w) Y.A (forIn ifs true fun c r=>if r=true then do let ok <- isTrue c Y.env (eval c Y.env); pure (ForInStep.yield ok) else pure (ForInStep.yield r)) (TP Y pins σ Q) Y.xe s
theorem Glv{Y:Cx}:PTs Y [] (fun _ H Q=>Q true H):=fun _ _ _ H _ I h=>wpAny_tests_nil ⟨H,I,h⟩
def Gil(wi:TI)(pk:List (Option Nat))(g:TG)(tt:TT)(te:TE):TE:=fun σ H Q=>wi σ H fun J H1=>∀ a,H1 a=none->∃ W:Nat->Nat->L2.St->Hp->Prop,(∃ m,W 0 m (pkS pk σ) (upd H1 a (.lst [])))/\∀ i m σ' H',W i m σ' H'→
 (J.stop i H'/\Q (.ref a) H')\/(J.go i H'/\∀ x H2,J.yld i H' x H2->g x σ' H2 fun σ3 H3=>tt σ3 H3 fun b H4=>if b=true then te σ3 H4 fun v H5=>∃ xs,H5 a=some (.lst xs)/\xs.length<sizeLine/\∃ m',m'<m/\W (i+1) m' σ3 (upd H5 a (.lst (xs++[v])))
  else ∃ m',m'<m/\W (i+1) m' σ3 H4)
theorem Gim{P:Program}{w:World}{H:Hp}{h h':Heap}{C:Addr}(k:HOk P w H h)(hn:H C=none)(hs:Heap.SameBut C h h'):HOk P w H h':=fun b ob e=>by
 refine(k b ob e).stay (fun c w' hc q=>(hs.2 c ?_).trans q) (fun _ q=>q) fun _ _ q=>q
 rintro rfl
 rcases hc with rfl | hc
 ·rw[hn] at e; cases e
 ·rw[hn] at hc; cases hc
theorem Hv:∀ (names:List (Str×NameKind)) (n:Nat) (acc:List (Str×Addr)),cellsFrom n names acc=cellsFrom n names []++acc
 | [],_,_=>rfl
 | (x,k)::r,n,acc=>by
  unfold cellsFrom
  by_cases hk:(k==NameKind.cell)=true
  ·rw[if_pos hk,if_pos hk,Hv r (n+1) ((x,n)::acc),Hv r (n+1) [(x,n)],List.append_assoc]
   rfl
  ·rw[if_neg hk,if_neg hk,Hv r n acc]
theorem Vc:∀ (names:List (Str×NameKind)) (n:Nat) (x:Str) (c:Addr),(x,c)∈cellsFrom n names []->(x,NameKind.cell)∈names
 | [],_,_,_,h=>by simp[cellsFrom] at h
 | (y,k)::r,n,x,c,h=>by
  unfold cellsFrom at h
  by_cases hk:(k==NameKind.cell)=true
  ·rw[if_pos hk,Hv] at h
   rcases List.mem_append.mp h with h | h
   ·exact List.mem_cons_of_mem _ (Vc r (n+1) x c h)
   ·have:x=y:=by simpa using(List.mem_singleton.mp h▸rfl:(x,c).1=(y,n).1)
    have hk:k=.cell:=by simpa using hk
    subst this hk
    exact List.mem_cons_self
  ·rw[if_neg hk] at h
   exact List.mem_cons_of_mem _ (Vc r n x c h)
theorem Ui{x:Str}:∀ (a b:List (Str×Addr)),(a++b).lookup x=match a.lookup x with
  | some c=>some c
  | none=>b.lookup x
 | [],_=>rfl
 | (y,c)::r,b=>by
  rw[List.cons_append,List.lookup_cons,List.lookup_cons]
  cases h:x==y with
  | true=>rfl
  | false=>exact Ui r b
theorem Ql:∀ (names:List (Str×NameKind)) (n:Nat) (x:Str),(x,NameKind.cell)∈names->∃ c,(cellsFrom n names []).lookup x=some c
 | [],_,_,h=>by simp at h
 | (y,k)::r,n,x,h=>by
  unfold cellsFrom
  by_cases hx:(x,NameKind.cell)∈r
  ·by_cases hk:(k==NameKind.cell)=true
   ·rw[if_pos hk,Hv,Ui]
    obtain⟨c,hc⟩:=Ql r (n+1) x hx
    rw[hc]; exact⟨c,rfl⟩
   ·rw[if_neg hk]
    exact Ql r n x hx
  ·rcases List.mem_cons.mp h with h | h
   ·cases h
    rw[if_pos (by rfl),Hv,Ui]
    cases e:(cellsFrom (n+1) r []).lookup y with
    | some c=>exact⟨c,rfl⟩
    | none=>exact⟨n,by simp[List.lookup_cons]⟩
   ·exact absurd h hx
theorem Gae{M:Model}{A:Around}{E:Value->Shared->Prop}{s:Shared}{scope:Scope}{globals:Addr}{cl:List (Str×Addr)}{qual:Str}{env:PySem.Env}{Q:PySem.Env->Shared->Prop}
  (hQ:∀ h',h'=pushCells (s.heap.push { cls:=.type "dict",data:=.dict #[] }) scope.names→
   Q { scope:=scope,locals:=s.heap.objs.size,globals:=globals,cells:=cellsFrom (s.heap.objs.size+1) scope.names cl,qual:=qual,func:=none,code:=env.code,frame:=env.frame,builtins:=env.builtins } { s with heap:=h' }):
  wpAny M A (newFunctionEnv scope globals cl [] qual none .none (some env)) Q E s:=by
 simp only[newFunctionEnv,Option.isSome_some,if_true]
 refine wpAny_bind (wpAny_alloc ?_)
 refine wpAny_bind (wpAny_layCells _ (fun name kind cells=>by cases hkc:kind==NameKind.cell<;>simp[hkc]) _ _ _ _ ?_)
 rw[show({ s with heap:=s.heap.push { cls:=.type "dict",data:=.dict #[] } }:Shared).heap.objs.size=s.heap.objs.size+1 from Heap.size_push ..]
 rw[List.forIn_nil]
 exact wpAny_bind (wpAny_pure (wpAny_pure (hQ _ rfl)))
section
variable{X:Cx}
theorem Ga2{elt tg iter:Expr}{ifs:List Expr}{scope:Scope}{pos:Pos}{cl:List (Str×Addr)}{N':List Str}{pk:List (Option Nat)}{g:TG}{tt:TT}{te:TE}(cs:CompSc X scope cl N' pk)(hcm:X.calm=true)
  (hg:∀ cl s2 H2 C fp,PG (blk X s2 H2 C scope cl N' fp) tg g) (ht:∀ cl s2 H2 C fp,PTs (blk X s2 H2 C scope cl N' fp) ifs tt) (he:∀ cl s2 H2 C fp,PE (blk X s2 H2 C scope cl N' fp) elt te)
  {pins:List (Addr×Obj)} {σ:L2.St} {H2:Hp} {s2:Shared} {it:Addr} {fp:List Addr} {tn:Nat->Heap->Prop} {J:It} (I2:Inv X pins σ H2 s2) (T:Turn X.prog X.w X.K tg J fp it tn) (st2:tn 0 s2.heap) (f2:∀ b∈fp,Gaw X pins H2 b)
  {Q:VK} (hQ:∀ a,H2 a=none->∃ W:Nat->Nat->L2.St->Hp->Prop,(∃ m,W 0 m (pkS pk σ) (upd H2 a (.lst [])))/\∀ i m σ' H',W i m σ' H'→
   (J.stop i H'/\Q (.ref a) H')\/(J.go i H'/\∀ x H3,J.yld i H' x H3->g x σ' H3 fun σ3 H3=>tt σ3 H3 fun b H4=>if b=true then te σ3 H4 fun v H5=>∃ xs,H5 a=some (.lst xs)/\xs.length<sizeLine/\∃ m',m'<m/\W (i+1) m' σ3 (upd H5 a (.lst (xs++[v])))
    else ∃ m',m'<m/\W (i+1) m' σ3 H4)) {E:Value->Shared->Prop} {RR:Value->Addr->Result->Shared->Prop}
  (hRR:∀ D C s' (H':Hp),Q (.ref D) H'->(∃ m,s'.heap.Ns C m)->Inv X pins σ H' s'->H' C=none->s2.heap.objs.size<=C->RR (.ref D) C (.ok .next) s'):
  wpAny (model X.prog X.w) X.A (newList []) (fun acc s₃=>wpAny (model X.prog X.w) X.A (newFunctionEnv scope X.env.globals cl [] X.env.qual none .none (some X.env)) (fun cenv s₄=>
   codeAny (model X.prog X.w) X.A (.compStart (.ListComp elt [⟨tg,iter,ifs,0⟩] scope pos) 0 (.ref it) acc { cenv with scope:=relabel scope X.env }) (RR acc cenv.locals) s₄) E s₃) E s2:=by
 have hD:H2 s2.heap.objs.size=none:=I2.hok.fresh (Nat.le_refl _)
 obtain⟨W,⟨m0,w0⟩,turn⟩:=hQ s2.heap.objs.size hD
 refine wpAny_newObj_type (Gae (fun h₁ hh₁=>?_))
 dsimp only at hh₁ ⊢
 generalize hHh:s2.heap.push { cls:=.type "list",dict:=none,data:=.seq ([]:List Value).toArray }=Hh at hh₁ ⊢
 have hC:Hh.objs.size=s2.heap.objs.size+1:=by rw[<- hHh,Heap.size_push]
 have hDC:s2.heap.objs.size≠Hh.objs.size:=by rw[hC]; exact Nat.ne_of_lt (Nat.lt_succ_self _)
 have hCle:s2.heap.objs.size<=Hh.objs.size:=by rw[hC]; exact Nat.le_succ _
 have below:∀ b,b<s2.heap.objs.size->b≠Hh.objs.size/\b≠s2.heap.objs.size:=fun b hb=>⟨by rw[hC]; exact Nat.ne_of_lt (Nat.lt_succ_of_lt hb),Nat.ne_of_lt hb⟩
 have hns₁:h₁.Ns Hh.objs.size (fun _=>none):=by rw[hh₁]; exact(Heap.Ns.new Hh (.type "dict")).keeps (pushCells_keeps _ _)
 have old0:∀ b o,Hh.get? b=some o->h₁.get? b=some o:=fun b o e=>by rw[hh₁]; exact pushCells_keeps _ _ b o (Heap.get?_push_of_some _ e)
 have old:∀ b o,s2.heap.get? b=some o->h₁.get? b=some o:=fun b o e=>old0 b o (by rw[<- hHh]; exact Heap.get?_push_of_some _ e)
 have hacc:h₁.get? s2.heap.objs.size=some { cls:=.type "list",dict:=none,data:=.seq ([]:List Value).toArray }:=old0 _ _ (by rw[<- hHh]; exact Heap.get?_push_size _ rfl)
 have own:=cellsFrom_ok scope.names (Hh.push { cls:=.type "dict",data:=.dict #[] }) (Hh.objs.size+1) [] ⟨fun _ _ hm=>(nomatch hm),List.Pairwise.nil⟩ (by rw[Heap.size_push]; exact Nat.le_refl _)
 rw[Heap.size_push,<- hh₁] at own
 generalize hcs:cellsFrom (Hh.objs.size+1) scope.names cl=cs' at *
 have csl:∀ x c,cs'.lookup x=some c->((x,c)∈cellsFrom (Hh.objs.size+1) scope.names []/\h₁.IsCell c none/\Hh.objs.size+1<=c/\scope.names.lookup x=some .cell)\/((x,NameKind.cell)∉scope.names/\X.env.cells.lookup x=some c):=fun x c h=>by
  rw[<- hcs,Hv,Ui] at h
  cases e:(cellsFrom (Hh.objs.size+1) scope.names []).lookup x with
  | some c'=>
   rw[e] at h
   cases h
   have m:=mem_of_lookup e
   exact .inl ⟨m,(own.empty x c m).1,(own.empty x c m).2,cs.cell (x,.cell) (Vc _ _ _ _ m) rfl⟩
  | none=>
   rw[e] at h
   refine .inr ⟨fun hm=>?_,cs.sub x c h⟩
   obtain⟨c',q⟩:=Ql scope.names (Hh.objs.size+1) x hm
   rw[e] at q; cases q
 have cshas:∀ x,((relabel scope X.env).names.lookup x=some .cell\/(relabel scope X.env).names.lookup x=some .free)->∃ c,cs'.lookup x=some c:=fun x h=>by
  rw[<- hcs,Hv,Ui]
  cases e:(cellsFrom (Hh.objs.size+1) scope.names []).lookup x with
  | some c=>exact⟨c,rfl⟩
  | none=>
   rcases cs.has x h with hm | hm
   ·obtain⟨c',q⟩:=Ql scope.names (Hh.objs.size+1) x hm
    rw[e] at q; cases q
   ·exact hm
 have lts:∀ x c,X.env.cells.lookup x=some c->c<s2.heap.objs.size:=fun x c h=>by
  obtain⟨v,o,ho,hd⟩:=I2.cell x c h
  exact Heap.lt_size ho
 let Y:=blk X s2 H2 Hh.objs.size scope cs' N' fp
 have fpLt:∀ b∈fp,b<s2.heap.objs.size:=fun b hb=>by
  obtain⟨o,e,_⟩:=T.obj _ _ st2 b hb
  exact Heap.lt_size e
 have okY:Y.Ok:=by
  refine⟨I2.ok.mod,(by show(relabel scope X.env).kind=.function; exact cs.kind),I2.ok.glob,I2.ok.blt,hCle,fun x y c h1 h2=>?_,cshas,(fun x c z h=>by
   rcases csl x c h with⟨_,_,q,_⟩ | ⟨q,_⟩
   ·show s2.heap.objs.size<=c
    rw[hC] at q; omega
   ·have z:scope.names.lookup x=some .cell:=by simpa[Y,blk] using z
    exact absurd (mem_of_lookup z) q),I2.ok.hd,I2.ok.frames,.inl rfl,fun b hb=>⟨Nat.ne_of_lt (by rw[show Y.env.locals=Hh.objs.size from rfl,hC]; exact Nat.lt_succ_of_lt (fpLt b hb)),fun x c h=>by
   rcases csl x c h with⟨_,_,q,_⟩ | ⟨_,q⟩
   ·exact fun z=>absurd (Nat.lt_of_lt_of_le (fpLt b hb) (Nat.le_trans (by rw[hC]; omega) (z▸q))) (Nat.lt_irrefl _)
   ·exact(f2 b hb).2.2.2.2.1 x c q⟩,I2.bs,Nat.le_trans I2.ok.bsz I2.sz,fun b o e hb=>?_,fun b hb hs=>?_,I2.stack,I2.stkFree⟩
  ·rcases csl x c h1 with⟨m1,_,q1,_⟩ | ⟨_,q1⟩<;>rcases csl y c h2 with⟨m2,_,q2,_⟩ | ⟨_,q2⟩
   ·exact name_of_addr own.apart m1 m2
   ·exact absurd (Nat.lt_of_lt_of_le (lts y c q2) (Nat.le_trans (by rw[hC]; omega) q1)) (Nat.lt_irrefl _)
   ·exact absurd (Nat.lt_of_lt_of_le (lts x c q1) (Nat.le_trans (by rw[hC]; omega) q2)) (Nat.lt_irrefl _)
   ·exact I2.ok.inj x y c q1 q2
  ·rcases(f2 b hb).2.2.2.1 with z | z
   ·exact I2.ok.noex b o e z
   ·exact absurd (Nat.lt_of_lt_of_le (Heap.lt_size e) (Nat.le_trans I2.ok.bsz z)) (Nat.lt_irrefl _)
  ·rcases List.mem_cons.mp (I2.stkSub b hs) with z | z
   ·exact(f2 b hb).2.1 z
   ·exact(f2 b hb).2.2.1 z
 have hokY:HOk X.prog X.w (upd H2 s2.heap.objs.size (.lst [])) h₁:=I2.hok.laid old (Nat.le_refl _) ⟨by decide,[],0,.nil,hacc⟩
 have IY:∀ tk,Inv Y [] (pkS pk σ) (upd H2 s2.heap.objs.size (.lst [])) { s2 with heap:=h₁,toks:=tk }:=fun tk=>by
  refine⟨okY,rfl,I2.bare,?_,⟨_,hns₁,fun i x v h1 h2 h3=>?_⟩,fun x c h=>?_,?_,fun x c h=>?_,fun p hp=>absurd (show p∈([]:List (Addr×Obj)) from hp) (by simp),hokY,by show(pkS pk σ).length=N'.length; rw[<- cs.len]; simp[pkS]⟩
  ·exact Un.laid old (Nat.le_refl _) hD
  ·unfold pkS at h2
   rw[List.getElem?_map] at h2
   cases e:pk[i]? with
   | none=>rw[e] at h2; cases h2
   | some o=>
    rw[e] at h2
    cases o with
    | none=>cases h2
    | some j=>
     have h2:(σ[j]?).bind id=some v:=Option.some.inj h2
     have h2:σ[j]?=some (some v):=by
      cases z:σ[j]? with
      | none=>rw[z] at h2; cases h2
      | some q=>
       rw[z] at h2
       have h2:q=some v:=h2
       rw[h2]
     obtain⟨n1,n2,n3,n4⟩:=cs.take i j x e h1
     obtain⟨m,_,hl⟩:=I2.loc
     have vis:Vis X.env.scope x:=by
      rcases n2 with n2 | n2
      ·exact .inr (.inl n2)
      ·exact .inr (.inr n2)
     obtain⟨u,r,l⟩:=hl j x v n1 h2 vis
     refine⟨u,r,.inr ⟨n3,?_⟩⟩
     rcases l with⟨k,_⟩ | ⟨_,c,hc,⟨o,ho,hd⟩⟩
     ·rcases n2 with n2 | n2<;>rw[k] at n2<;>cases n2
     ·obtain⟨c',hc'⟩:=cshas x n3
      rcases csl x c' hc' with⟨_,_,_,q⟩ | ⟨_,e2⟩
      ·rw[n4] at q; cases q
      rw[hc] at e2
      cases e2
      exact⟨c,hc',o,old c o ho,hd⟩
  ·rcases csl x c h with⟨_,q,_,_⟩ | ⟨_,q⟩
   ·exact⟨none,q⟩
   obtain⟨v,o,ho,hd⟩:=I2.cell x c q
   exact⟨v,o,old c o ho,hd⟩
  ·show upd H2 s2.heap.objs.size (.lst []) Hh.objs.size=none
   rw[Gq (Ne.symm hDC)]
   exact I2.hok.fresh hCle
  ·rcases csl x c h with⟨_,_,z,_⟩ | ⟨_,z⟩
   ·show upd H2 s2.heap.objs.size (.lst []) c=none
    have z:s2.heap.objs.size+2<=c:=by rw[hC] at z; exact z
    rw[Gq (Nat.ne_of_gt (by omega:s2.heap.objs.size<c))]
    exact I2.hok.fresh (by omega)
   have q:=I2.freeC x c z
   obtain⟨v,o,ho,hd⟩:=I2.cell x c z
   show upd H2 s2.heap.objs.size (.lst []) c=none
   rw[Gq (below c (Heap.lt_size ho)).2]
   exact q
 have stat:∀ {H':Hp},(∀ b∈fp,H' b=none)->∀ b∈fp,Gaw Y [] H' b:=fun hn b hb=>
  ⟨hn b hb,(okY.exf b hb).1,okY.exfs b hb,.inl hb,(okY.exf b hb).2,fun p hp=>absurd (show p∈([]:List (Addr×Obj)) from hp) (by simp)⟩
 have fin:∀ (H':Hp) (σ':L2.St) (s':Shared),Inv Y [] σ' H' s'->∀ h',Heap.SameBut Hh.objs.size s'.heap h'->Inv X pins σ H' { s' with heap:=h' }:=fun H' σ' s' I' h' hs=>by
  have sub:∀ b o,s2.heap.get? b=some o->b≠Hh.objs.size:=fun b o e=>(below b (Heap.lt_size e)).1
  have un:Un (frs X.stack) fp H2 H' s2.heap s'.heap:=I'.base
  refine I2.call' (ch:=fp) I'.os ⟨fun b o e n hb hx=>(hs.2 b (sub b o e)).trans (un.keep b o e n hb hx),fun b o e n hb hx=>?_,un.free,fun b o e hx=>?_,un.tups,un.frzs,un.tbls⟩ (Gim I'.hok I'.free hs) I'.bare fun b hb=>⟨(f2 b hb).2.2.2.1,(f2 b hb).2.1,(f2 b hb).2.2.2.2.1,(f2 b hb).2.2.2.2.2⟩
  ·obtain⟨sl,q⟩:=un.slot b o e n hb hx
   exact⟨sl,(hs.2 b (sub b o e)).trans q⟩
  ·obtain⟨o',q⟩:=un.there b o e hx
   exact⟨o',(hs.2 b (sub b o e)).trans q⟩
 have loop:∀ s3:Shared,(∃ tk,s3={ s2 with heap:=h₁,toks:=tk })→
   codeAny (model X.prog X.w) X.A (.compLoop (.ListComp elt [⟨tg,iter,ifs,0⟩] scope pos) 0 (.ref it) (.ref s2.heap.objs.size) (compEnvC scope cs' Hh.objs.size X.env)) (RR (.ref s2.heap.objs.size) Hh.objs.size) s3:=by
  rintro s3 ⟨tk,rfl⟩
  refine Gc6 (fun n s'=>∃ i σ' H',Inv Y [] σ' H' s'/\tn i s'.heap/\(∀ b∈fp,H' b=none)/\W i n σ' H') ?_ m0 ⟨0,_,_,IY tk,T.keep _ _ _ st2 (fun b _ o e=>old b o e),fun b hb=>by rw[Gq (below b (fpLt b hb)).2]; exact(f2 b hb).1,w0⟩
  rintro n s4 ⟨i,σ4,H4,I4,st4,fr4,w4⟩
  rcases turn i n σ4 H4 w4 with⟨stop,qn⟩ | ⟨go,step⟩
  ·refine wpAny_mono (T.done Y rfl rfl rfl hcm i [] s4 σ4 H4 (fun _ _=>False) I4 (stat fr4) st4 stop) (fun r s5 ⟨hr,I5⟩=>?_) fun _ _ z=>z
   subst hr
   obtain⟨m,hn,_⟩:=I5.loc
   exact hRR _ _ s5 H4 qn ⟨m,hn⟩ (fin H4 σ4 s5 I5 s5.heap (.refl ..)) I5.free hCle
  ·refine wpAny_mono (T.item Y rfl rfl rfl hcm i [] s4 σ4 H4 (fun _ _=>False) I4 (stat fr4) st4 go) (fun r s5 ⟨u,hr,h5⟩=>?_) fun _ _ z=>z
   subst hr
   refine wpAny_mono h5 (fun _ s6 ⟨x,H6,I6,r6,y6,st6,fr6⟩=>?_) fun _ _ z=>z
   have I6':=I6.pinned (stat fr6) (T.obj _ _ st6)
   refine wpAny_mono (hg cs' s2 H2 Hh.objs.size fp _ s6 σ4 H6 x u _ I6' r6 (step x H6 y6)) (fun _ s7 ⟨σ7,H7,I7,q7⟩=>?_) fun _ _ z=>z
   refine wpAny_mono (ht cs' s2 H2 Hh.objs.size fp _ s7 σ7 H7 _ I7 q7) (fun ok s8 ⟨H8,I8,q8⟩=>?_) fun _ _ z=>z
   have back:∀ {σ9:L2.St} {H9:Hp} {s9:Shared},Inv Y ([]++Gax fp s6.heap) σ9 H9 s9->Inv Y [] σ9 H9 s9/\tn (i+1) s9.heap/\∀ b∈fp,H9 b=none:=fun{σ9 H9 s9} I9=>
    ⟨I9.unpinned,T.keep _ _ _ st6 fun b hb o e=>(I9.pin (b,o) (List.mem_append_right _ (List.mem_append_right _ (Wc hb e)))).1,fun b hb=>by
     obtain⟨o,e,d⟩:=T.obj _ _ st6 b hb
     exact(I9.pin (b,o) (List.mem_append_right _ (List.mem_append_right _ (Wc hb e)))).2.1⟩
   cases ok with
   | false=>
    obtain⟨m',hm,w'⟩:=(if_neg Bool.false_ne_true).mp q8
    obtain⟨b1,b2,b3⟩:=back I8
    exact(if_neg Bool.false_ne_true).mpr ⟨m',hm,i+1,σ7,H8,b1,b2,b3,w'⟩
   | true=>
    refine(if_pos rfl).mpr ?_
    refine wpAny_mono (he cs' s2 H2 Hh.objs.size fp _ s8 σ7 H8 _ I8 ((if_pos rfl).mp q8)) (fun ux s9 ⟨v,H9,I9,r9,xs,ex,hx,m',hm,w'⟩=>?_) fun _ _ z=>z
    refine wpAny_mono (Gcg (X:=Y) _ s9 σ7 H9 (.ref s2.heap.objs.size) [v] (.ref s2.heap.objs.size) [ux] (fun _ H'=>H'=upd H9 s2.heap.objs.size (.lst (xs++[v]))) I9 rfl (.cons r9 .nil) ⟨_,xs,v,rfl,rfl,ex,hx,rfl⟩) (fun _ s10 ⟨_,H10,I10,_,e10⟩=>?_) fun _ _ z=>z
    subst e10
    obtain⟨b1,b2,b3⟩:=back I10
    exact⟨m',hm,i+1,σ7,_,b1,b2,b3,w'⟩
 exact codeAny_compStart_list (loop _ ⟨_,rfl⟩) (T.self _ 0 _ _ _ (T.keep _ _ _ st2 fun b _ o e=>old b o e) (loop _ ⟨_,rfl⟩))
theorem Gfx{pins:List (Addr×Obj)}{σ σ2:L2.St}{H2 H':Hp}{s2 s':Shared}{C:Addr}{h':Heap}(I2:Inv X pins σ2 H2 s2)(I:Inv X pins σ H' s')(hn:H' C=none)(hC:s2.heap.objs.size<=C)(hs:Heap.SameBut C s'.heap h'):Inv X pins σ H' { s' with heap:=h' }:=by
 refine I.turned (t':=s'.toks) (it:=C) (fun b o hb e=>(hs.2 b hb).trans e) hn (fun z=>?_) (.inr (Nat.le_trans I2.sz hC)) (fun x c h z=>?_) fun p hp z=>?_
 ·exact absurd (Nat.lt_of_lt_of_le I2.lt (by rw[<- z]; exact hC)) (Nat.lt_irrefl _)
 ·obtain⟨v,q⟩:=I2.cell x c h
  exact absurd (Nat.lt_of_lt_of_le q.lt (by rw[z]; exact hC)) (Nat.lt_irrefl _)
 ·exact absurd (Nat.lt_of_lt_of_le (Heap.lt_size (I2.pin p hp).1) (by rw[z]; exact hC)) (Nat.lt_irrefl _)
theorem Xw{env:PySem.Env}:∀ (names:List (Str×NameKind)) (acc:List (Str×Addr)),(∀ x∈names,x.2=.free->∃ c,env.cells.lookup x.1=some c)->(∀ x c,acc.lookup x=some c->env.cells.lookup x=some c)→
  ∃ cl,(forIn names acc fun x cs=>(if(x.2==NameKind.free)=true then do let c <- cellOf env x.1; pure (ForInStep.yield ((x.1,c)::cs)) else pure (ForInStep.yield cs):Sem _))=pure cl/\(∀ x c,cl.lookup x=some c->env.cells.lookup x=some c)∧
   (∀ x,(∃ c,acc.lookup x=some c)\/(x,NameKind.free)∈names->∃ c,cl.lookup x=some c)
 | [],acc,_,ha=>⟨acc,rfl,ha,fun x h=>by
   rcases h with h | h
   ·exact h
   ·simp at h⟩
 | (n,k)::r,acc,hn,ha=>by
  have hr:∀ x∈r,x.2=.free->∃ c,env.cells.lookup x.1=some c:=fun x hx=>hn x (List.mem_cons_of_mem _ hx)
  by_cases hk:k=.free
  ·subst hk
   obtain⟨c,hc⟩:=hn (n,.free) List.mem_cons_self rfl
   obtain⟨cl,e,h1,h2⟩:=Xw r ((n,c)::acc) hr (fun x c' h=>by
    rw[List.lookup_cons] at h
    by_cases hx:(x==n)=true
    ·rw[hx] at h
     cases h
     have:x=n:=by simpa using hx
     rw[this]; exact hc
    ·have hx:(x==n)=false:=by simpa using hx
     rw[hx] at h
     exact ha x c' h)
   refine⟨cl,?_,h1,fun x h=>h2 x ?_⟩
   ·rw[List.forIn_cons]
    simp only[beq_self_eq_true,if_true]
    have q:cellOf env n=pure c:=by unfold cellOf; rw[hc]
    rw[q]
    exact e
   ·rcases h with⟨c',h⟩ | h
    ·left
     rw[List.lookup_cons]
     by_cases hx:(x==n)=true
     ·rw[hx]; exact⟨c,rfl⟩
     ·have hx:(x==n)=false:=by simpa using hx
      rw[hx]; exact⟨c',h⟩
    ·rcases List.mem_cons.mp h with h | h
     ·left
      cases h
      exact⟨c,by rw[List.lookup_cons,beq_self_eq_true]⟩
     ·exact .inr h
  ·have hb:(k==NameKind.free)=false:=by simpa using hk
   obtain⟨cl,e,h1,h2⟩:=Xw r acc hr ha
   refine⟨cl,?_,h1,fun x h=>h2 x ?_⟩
   ·rw[List.forIn_cons]
    simp only[hb,Bool.false_eq_true,if_false]
    exact e
   ·rcases h with h | h
    ·exact .inl h
    ·rcases List.mem_cons.mp h with h | h
     ·cases h; exact absurd rfl hk
     ·exact .inr h
theorem Ge8{env:PySem.Env}{scope:Scope}(hn:∀ x∈scope.names,x.2=.free->∃ c,env.cells.lookup x.1=some c):∃ cl,closureFor scope env=pure cl/\(∀ x c,cl.lookup x=some c->env.cells.lookup x=some c)/\(∀ x,(x,NameKind.free)∈scope.names->∃ c,cl.lookup x=some c):=by
 obtain⟨cl,e,h1,h2⟩:=Xw (env:=env) scope.names [] hn (fun x c h=>by simp at h)
 refine⟨cl,?_,h1,fun x h=>h2 x (.inr h)⟩
 unfold closureFor
 have e2:(forIn scope.names ([]:List (Str×Addr)) fun x r=>(match x with
   | (name,kind)=>if(kind==NameKind.free)=true then do let c <- cellOf env name; pure (ForInStep.yield ((name,c)::r)) else pure (ForInStep.yield r):Sem _))=pure cl:=e
 first
  | exact congrArg (fun m=>m >>= fun cs=>pure cs) e2
  | (show(do let cs <- forIn scope.names ([]:List (Str×Addr)) fun x r=>_; pure cs)=_; rw[e2]; rfl)
structure CompTab(sc scope:Scope)(N N':List Str)(pk:List (Option Nat)):Prop where
 kind:scope.kind=.function
 cell:∀ y∈scope.names,y.2=.cell->scope.names.lookup y.1=some .cell
 names:∀ y∈scope.names,y.2=.local->scope.names.lookup y.1=some .local
 free:∀ y∈scope.names,y.2=.free->sc.names.lookup y.1=some .cell\/sc.names.lookup y.1=some .free
 len:pk.length=N'.length
 take:((List.range N'.length).all fun i=>match pk[i]? with
  | some (some j)=>match N[j]?,N'[i]? with
   | some x,some y=>(x==y)&&((sc.names.lookup y==some NameKind.cell)||(sc.names.lookup y==some NameKind.free))&&(scope.names.lookup y==some NameKind.free)
   | _,_=>false
  | _=>true)=true
theorem Ww{scope:Scope}{env:PySem.Env}{x:Str}:∀ (names:List (Str×NameKind)),((names.map fun(n,k)=>if(k==NameKind.free&&env.scope.kind==.function&&env.kindOf n==some .cell)=true then(n,NameKind.cell) else(n,k)).lookup x=some .cell∨
   (names.map fun(n,k)=>if(k==NameKind.free&&env.scope.kind==.function&&env.kindOf n==some .cell)=true then(n,NameKind.cell) else(n,k)).lookup x=some .free)->(x,NameKind.cell)∈names\/(x,NameKind.free)∈names
 | [],h=>by simp at h
 | (n,k)::r,h=>by
  rw[List.map_cons] at h
  by_cases hx:(x==n)=true
  ·have e:x=n:=by simpa using hx
   subst e
   by_cases hq:(k==NameKind.free&&env.scope.kind==.function&&env.kindOf x==some .cell)=true
   ·have:k=.free:=by
     rw[Bool.and_eq_true,Bool.and_eq_true] at hq
     simpa using hq.1.1
    subst this
    exact .inr List.mem_cons_self
   ·simp only[hq,Bool.false_eq_true,if_false,List.lookup_cons,beq_self_eq_true] at h
    rcases h with h | h
    ·have:k=.cell:=by simpa using h
     subst this
     exact .inl List.mem_cons_self
    ·have:k=.free:=by simpa using h
     subst this
     exact .inr List.mem_cons_self
  ·have hx:(x==n)=false:=by simpa using hx
   refine(Ww (scope:=scope) (env:=env) r ?_).imp (List.mem_cons_of_mem _) (List.mem_cons_of_mem _)
   by_cases hq:(k==NameKind.free&&env.scope.kind==.function&&env.kindOf n==some .cell)=true
   ·simpa only[hq,if_true,List.lookup_cons,hx] using h
   ·simpa only[hq,Bool.false_eq_true,if_false,List.lookup_cons,hx] using h
theorem Jk{scope:Scope}{env:PySem.Env}{x:Str}:∀ (names:List (Str×NameKind)),names.lookup x=some .free->((names.map fun(n,k)=>if(k==NameKind.free&&env.scope.kind==.function&&env.kindOf n==some .cell)=true then(n,NameKind.cell) else(n,k)).lookup x=some .cell∨
   (names.map fun(n,k)=>if(k==NameKind.free&&env.scope.kind==.function&&env.kindOf n==some .cell)=true then(n,NameKind.cell) else(n,k)).lookup x=some .free)
 | [],h=>by simp at h
 | (n,k)::r,h=>by
  rw[List.map_cons]
  by_cases hx:(x==n)=true
  ·rw[List.lookup_cons,hx] at h
   have:k=.free:=by simpa using h
   subst this
   by_cases hq:(NameKind.free==NameKind.free&&env.scope.kind==.function&&env.kindOf n==some .cell)=true
   ·left; simp only[hq,if_true,List.lookup_cons,hx]
   ·right; simp only[hq,Bool.false_eq_true,if_false,List.lookup_cons,hx]
  ·have hx:(x==n)=false:=by simpa using hx
   rw[List.lookup_cons,hx] at h
   have:=Jk (scope:=scope) (env:=env) r h
   by_cases hq:(k==NameKind.free&&env.scope.kind==.function&&env.kindOf n==some .cell)=true
   ·simpa only[hq,if_true,List.lookup_cons,hx] using this
   ·simpa only[hq,Bool.false_eq_true,if_false,List.lookup_cons,hx] using this
theorem CompTab.sc{scope:Scope}{N':List Str}{pk:List (Option Nat)}(t:CompTab X.env.scope scope X.N N' pk)(ok:X.Ok):∃ cl,CompSc X scope cl N' pk:=by
 obtain⟨cl,e,h1,h2⟩:=Ge8 (env:=X.env) (scope:=scope) fun x hx hf=>ok.has x.1 (t.free x hx hf)
 refine⟨cl,t.kind,t.cell,t.names,e,h1,fun x h=>(Ww (scope:=scope) (env:=X.env) scope.names h).imp id (h2 x),t.len,fun i j x hp hn=>?_⟩
 have hi:i<N'.length:=(List.getElem?_eq_some_iff.mp hn).1
 have q:=List.all_eq_true.mp t.take i (List.mem_range.mpr hi)
 simp only[hp,hn] at q
 cases hj:X.N[j]? with
 | none=>simp[hj] at q
 | some y=>
  simp only[hj,Bool.and_eq_true,Bool.or_eq_true,beq_iff_eq] at q
  obtain⟨⟨e1,e2⟩,e3⟩:=q
  subst e1
  exact⟨rfl,e2,Jk (scope:=scope) (env:=X.env) scope.names e3,e3⟩
theorem Glw{elt tg iter:Expr}{ifs:List Expr}{scope:Scope}{pos:Pos}{N':List Str}{pk:List (Option Nat)}{wi:TI}{g:TG}{tt:TT}{te:TE}(ct:CompTab X.env.scope scope X.N N' pk)(hcm:X.calm=true)(hi:PI X tg iter wi)
  (hg:∀ cl s2 H2 C fp,PG (blk X s2 H2 C scope cl N' fp) tg g) (ht:∀ cl s2 H2 C fp,PTs (blk X s2 H2 C scope cl N' fp) ifs tt) (he:∀ cl s2 H2 C fp,PE (blk X s2 H2 C scope cl N' fp) elt te)
  (hs:∀ x,foldedSetIterable iter X.env x=pure x:=by intro _; rfl):PE X (.ListComp elt [⟨tg,iter,ifs,0⟩] scope pos) (Gil wi pk g tt te):=by
 intro pins s σ H Q I h
 obtain⟨cl,cs⟩:=ct.sc I.ok
 rw[eval_ListComp]
 refine wpAny_comprehension_free (use:=none) rfl hs cs.clos cs.kind cs.names (thn (hi pins s σ H _ I h) fun x s1 h1=>thn h1 fun itv s2 h2=>?_)
 obtain⟨it,fp,tn,J,H2,e,I2,T,st2,f2,hQ⟩:=h2
 subst e
 refine Ga2 cs hcm hg ht he I2 T st2 f2 hQ (RR:=fun acc C=>compPost (model X.prog X.w) X.A X.xe none (EP X pins σ Q) acc C) fun D C s' H' q hn inv hf hC=>?_
 obtain⟨m,hn⟩:=hn
 exact⟨m,hn,fun h' hs'=>⟨.ref D,H',Gfx I2 inv hf hC hs',rfl,q⟩⟩
theorem Ge9{i:Nat}{y:Str}{py spos:Pos}{elt tg iter:Expr}{ifs:List Expr}{scope:Scope}{pos:Pos}{N':List Str}{pk:List (Option Nat)}{wi:TI}{g:TG}{tt:TT}{te:TE}(ct:CompTab X.env.scope scope X.N N' pk)(hcm:X.calm=true)(hi:PI X tg iter wi)
  (hg:∀ cl s2 H2 C fp,PG (blk X s2 H2 C scope cl N' fp) tg g) (ht:∀ cl s2 H2 C fp,PTs (blk X s2 H2 C scope cl N' fp) ifs tt) (he:∀ cl s2 H2 C fp,PE (blk X s2 H2 C scope cl N' fp) elt te)
  (hN:X.N.Nodup) (hy:X.N[i]?=some y) (hx:Loc X.env.scope y) (hsw:swapsWith (.ListComp elt [⟨tg,iter,ifs,0⟩] scope pos) (some (.Name y py)) spos.line X.env=pure true)
  (hs:∀ x,foldedSetIterable iter X.env x=pure x:=by intro _; rfl) (hf:X.fn y=true\/X.env.scope.names.lookup y=some .local:=by first | exact .inl rfl | exact .inr rfl | assumption):
  PS X (.Assign [.Name y py] (.ListComp elt [⟨tg,iter,ifs,0⟩] scope pos) spos) (Gpm (Gil wi pk g tt te) (gName i)):=by
 intro pins s σ H E I h
 obtain⟨cl,cs⟩:=ct.sc I.ok
 rw[exec_Assign_Name_used _ _ _ _ hsw]
 refine wpAny_bind (wpAny_standAt (wpAny_bind ?_))
 show wpAny _ X.A (do let _ <- comprehension (.ListComp elt [⟨tg,iter,ifs,0⟩] scope pos) scope X.env _ (newList []) false (eval iter X.env) (some (assign (.Name y py) X.env))) _ _ s
 refine wpAny_bind (wpAny_mono (wpAny_comprehension_free (use:=some (assign (.Name y py) X.env)) (Q:=fun _ s'=>SP X pins E .next s') rfl hs cs.clos cs.kind cs.names
  (thn (hi pins s σ H _ I h) fun x s1 h1=>thn h1 fun itv s2 h2=>?_)) (fun _ s' hq=>wpAny_pure (wpAny_pure hq)) fun _ _ e=>e)
 obtain⟨it,fp,tn,J,H2,e,I2,T,st2,f2,hQ⟩:=h2
 subst e
 refine Ga2 cs hcm hg ht he I2 T st2 f2 (Q:=fun x H1=>gName i x σ H1 E.nx) hQ (RR:=fun acc C=>compPost (model X.prog X.w) X.A X.xe (some (assign (.Name y py) X.env)) (fun _ s'=>SP X pins E .next s') acc C) fun D C s' H' q hn inv hfr hC=>?_
 obtain⟨m,hn⟩:=hn
 show wpAny _ X.A (assign (.Name y py) X.env (.ref D)) _ _ _
 refine wpAny_assign_Name (Gca inv hN hy hx (v:=.ref D) rfl (fun s'' I'' hch=>?_) hf)
 obtain⟨a,hsb,ha⟩:=hch
 have hCa:C≠a:=by
  rcases ha with ha | ha
  ·rintro rfl
   exact absurd (Nat.lt_of_lt_of_le I2.lt (by rw[<- ha]; exact hC)) (Nat.lt_irrefl _)
  ·rintro rfl
   obtain⟨v,z⟩:=I2.cell y _ ha
   exact absurd (Nat.lt_of_lt_of_le z.lt hC) (Nat.lt_irrefl _)
 exact⟨m,hn.sameBut hsb hCa,fun h' hs'=>⟨_,H',Gfx I2 I'' hfr hC hs',q⟩⟩
abbrev XN:XW:=fun _ _ _ _ _ _=>False
def cbody(a:Nat)(t:Ev Bool)(e:Ev D):Sv:=fun ρ S=>bindS (t ρ S) ρ fun b S1=>if b=true then bindS (e ρ S1) ρ fun d S2=>(match S2[a]? with
  | some c=>if c.fz=false/\c.xs.length<1000000 then .nx ρ (S2.set a ⟨false,c.xs++[d]⟩) else .bad
  | none=>.bad) else .nx ρ S1
def cmp(f:Ev Src)(pk:List (Option Nat))(g:Tg)(t:Ev Bool)(e:Ev D):Ev D:=fun ρ S=>(f ρ S).bind fun src S1=>match forN src.nxt g (cbody S1.length t e) src.fuel 0 (pkS pk ρ) (S1++[⟨false,[]⟩]) with
 | .nx _ S'=>.ok (.lst S1.length) S'
 | _=>.bad
def Zu(K:PySem.W.Frag)(XQ:XW)(σ:L2.St)(ρ:Lc)(a:Nat)(mp:List Addr)(H:Hp)(o:OS)(Q:VK):Prop:=match o with
 | .nx _ S=>Post K XQ σ ρ mp H (.ok (.lst a) S) Q
 | _=>False
theorem Zu.aft{K:PySem.W.Frag}{XQ:XW}{σ:L2.St}{ρ:Lc}{a:Nat}{mp mp':List Addr}{H H':Hp}{o:OS}{Q:VK}(p:Zu K XQ σ ρ a mp H o Q)(af:Aft K mp H mp' H'):Zu K XQ σ ρ a mp' H' o Q:=by
 cases o with
 | nx r S=>exact Gn.aft (show Post K XQ σ ρ mp H (.ok (.lst a) S) Q from p) af
 | _=>exact p
theorem Gd.pick{K:PySem.W.Frag}{mp:List Addr}{H:Hp}{σ:L2.St}{ρ:Lc}{S:Sto}(G:Gd K mp H σ ρ S)(pk:List (Option Nat)):Gd K mp H (pkS pk σ) (pkS pk ρ) S:=by
 refine⟨G.rs,by simp[pkS],fun i d h=>?_⟩
 unfold pkS at h ⊢
 rw[List.getElem?_map] at h ⊢
 cases e:pk[i]? with
 | none=>rw[e] at h; cases h
 | some o=>
  rw[e] at h
  cases o with
  | none=>cases h
  | some j=>
   have h:(ρ[j]?).bind id=some d:=Option.some.inj h
   have h:ρ[j]?=some (some d):=by
    cases z:ρ[j]? with
    | none=>rw[z] at h; cases h
    | some q=>
     rw[z] at h
     have h:q=some d:=h
     rw[h]
   obtain⟨v,e1,r⟩:=G.loc j d h
   refine⟨v,?_,r⟩
   show some ((σ[j]?).bind id)=some (some v)
   rw[e1]
   rfl
def JTs(Y:Cx)(XQ:XW)(ifs:List Expr)(t:Ev Bool):Prop:=PTs Y ifs (rdT Y.K XQ t)
def ttrue:Ev Bool:=fun _ S=>.ok true S
theorem Glx{Y:Cx}{XQ:XW}:JTs Y XQ [] ttrue:=fun pins s σ H Q I ⟨mp,ρ,S,G,p⟩=>Glv pins s σ H Q I (Gn.ok (show Gn Y.K kB XQ σ ρ mp H (.ok true S) Q from p) G.rs rfl)
theorem Goe{K:PySem.W.Frag}{XQ:XW}{f:Ev Src}{pk:List (Option Nat)}{g:Tg}{t:Ev Bool}{e:Ev D}(σ:L2.St)(H:Hp)(Q:VK)(h:rdE K XQ (cmp f pk g t e) σ H Q):Gil (rdI K XQ f) pk (Gls K g) (rdT K XN t) (rdE K XN e) σ H Q:=by
 obtain⟨mp,ρ,S,G,p⟩:=h
 refine bindP G p fun mp1 H1 src S1 J a1 G1 j1 p1=>?_
 intro a ha
 obtain⟨af,rs,la⟩:=G1.rs.newL ha (RepL.nil:RepL K mp1 H1 [] [])
 have p1:Zu K XQ σ ρ S1.length (mp1++[a]) (upd H1 a (.lst [])) (forN src.nxt g (cbody S1.length t e) src.fuel 0 (pkS pk ρ) (S1++[⟨false,[]⟩])) Q:=by
  cases z:forN src.nxt g (cbody S1.length t e) src.fuel 0 (pkS pk ρ) (S1++[⟨false,[]⟩]) with
  | nx r S'=>rw[z] at p1; exact Gn.aft p1 af
  | rt d S'=>rw[z] at p1; exact p1
  | bk r S'=>rw[z] at p1; exact p1
  | ct r S'=>rw[z] at p1; exact p1
  | exc x r S'=>rw[z] at p1; exact p1
  | bad=>rw[z] at p1; exact p1
 refine⟨fun i m σ' H'=>∃ mp' ρ' S',Aft K mp1 H1 mp' H'/\Gd K mp' H' σ' ρ' S'/\mp'[S1.length]?=some a/\Zu K XQ σ ρ S1.length mp' H' (forN src.nxt g (cbody S1.length t e) m i ρ' S') Q,⟨src.fuel,_,_,_,af,(G1.pick pk).aft af rs,la,p1⟩,?_⟩
 rintro i m σ' H' ⟨mp',ρ',S',a',G',la',p'⟩
 cases m with
 | zero=>exact(show False from p').elim
 | succ n=>
  have j:=j1 mp' H' S' a' G'.rs i
  unfold forN at p'
  cases z:src.nxt i S' with
  | none=>
   rw[z] at j p'
   exact .inl ⟨j,Gn.ok (show Post K XQ σ ρ mp' H' (.ok (.lst S1.length) S') Q from p') G'.rs ⟨a,rfl,la'⟩⟩
  | some d=>
   rw[z] at j p'
   obtain⟨j1,j2⟩:=j
   refine .inr ⟨j1,fun x H2 y=>?_⟩
   obtain⟨a2,r2,x2⟩:=j2 x H2 y
   have G2:=G'.aft a2 r2
   cases zg:g d ρ' with
   | none=>simp only[zg] at p'; exact p'.elim
   | some ρ1=>
    simp only[zg] at p'
    refine⟨mp',ρ',S',d,ρ1,G2,x2,zg,fun σ3 G3=>⟨mp',ρ1,S',G3,?_⟩⟩
    have p2:=Zu.aft p' a2
    unfold cbody at p2
    cases zt:t ρ1 S' with
    | exc x S2=>simp only[zt,bindS] at p2; exact p2.elim
    | bad=>simp only[zt,bindS] at p2; exact p2.elim
    | ok b S2=>
     simp only[zt,bindS] at p2
     intro mp3 H3 b' a3 rs3 e3
     cases (show b'=b from e3)
     have G4:=G3.aft a3 rs3
     cases b with
     | false=>
      simp only[Bool.false_eq_true,if_false] at p2
      exact(if_neg Bool.false_ne_true).mpr ⟨n,Nat.lt_succ_self n,mp3,ρ1,S2,(a'.trans a2).trans a3,G4,a3.pre _ _ la',Zu.aft p2 a3⟩
     | true=>
      simp only[if_true] at p2
      refine(if_pos rfl).mpr ⟨mp3,ρ1,S2,G4,?_⟩
      cases ze:e ρ1 S2 with
      | exc x S3=>simp only[ze] at p2; exact p2.elim
      | bad=>simp only[ze] at p2; exact p2.elim
      | ok d2 S3=>
       simp only[ze] at p2
       intro mp4 H4 v a4 rs4 r4
       have la4:=a4.pre _ _ (a3.pre _ _ la')
       have G5:=G4.aft a4 rs4
       cases zc:S3[S1.length]? with
       | none=>simp only[zc] at p2; exact p2.elim
       | some c=>
        simp only[zc] at p2
        by_cases hc:c.fz=false/\c.xs.length<1000000
        ·rw[if_pos hc] at p2
         obtain⟨a5,xs,e5,h5,s5,r5,f5⟩:=rs4.items (v:=.ref a) ⟨a,rfl,la4⟩ zc
         cases e5
         have h5:=f5 hc.1
         obtain⟨af6,rs6⟩:=rs4.setL la4 zc hc.1 h5 (RepL.append r5 (RepL.cons r4 RepL.nil))
         refine⟨xs,h5,?_,n,Nat.lt_succ_self n,mp4,ρ1,_,(((a'.trans a2).trans a3).trans a4).trans af6,G5.aft af6 rs6,la4,Zu.aft p2 ((a3.trans a4).trans af6)⟩
         rw[r5.len]
         exact Nat.lt_of_lt_of_le hc.2 (by decide)
        ·rw[if_neg hc] at p2; exact p2.elim
variable{XQ:XW}
theorem Gfy{elt tg iter:Expr}{ifs:List Expr}{scope:Scope}{pos:Pos}{N':List Str}{pk:List (Option Nat)}{f:Ev Src}{g:Tg}{t:Ev Bool}{e:Ev D}(ct:CompTab X.env.scope scope X.N N' pk)(hcm:X.calm=true)(hi:JI X XQ tg iter f)
  (hg:∀ cl s2 H2 C fp,JG (blk X s2 H2 C scope cl N' fp) tg g) (ht:∀ cl s2 H2 C fp,JTs (blk X s2 H2 C scope cl N' fp) XN ifs t) (he:∀ cl s2 H2 C fp,JE (blk X s2 H2 C scope cl N' fp) XN elt e)
  (hs:∀ x,foldedSetIterable iter X.env x=pure x:=by intro _; rfl):JE X XQ (.ListComp elt [⟨tg,iter,ifs,0⟩] scope pos) (cmp f pk g t e):=
 PE.mono (Glw (g:=Gls X.K g) (tt:=rdT X.K XN t) (te:=rdE X.K XN e) ct hcm hi hg ht he hs) Goe
theorem Gfa(i:Nat){y:Str}{py spos:Pos}{elt tg iter:Expr}{ifs:List Expr}{scope:Scope}{pos:Pos}{N':List Str}{pk:List (Option Nat)}{f:Ev Src}{g:Tg}{t:Ev Bool}{e:Ev D}(ct:CompTab X.env.scope scope X.N N' pk)(hcm:X.calm=true)(hi:JI X XQ tg iter f)
  (hg:∀ cl s2 H2 C fp,JG (blk X s2 H2 C scope cl N' fp) tg g) (ht:∀ cl s2 H2 C fp,JTs (blk X s2 H2 C scope cl N' fp) XN ifs t) (he:∀ cl s2 H2 C fp,JE (blk X s2 H2 C scope cl N' fp) XN elt e)
  (hN:X.N.Nodup) (hy:X.N[i]?=some y:=by rfl) (hx:Loc X.env.scope y:=by first | exact Or.inl rfl | exact Or.inr rfl) (hsw:swapsWith (.ListComp elt [⟨tg,iter,ifs,0⟩] scope pos) (some (.Name y py)) spos.line X.env=pure true:=by rfl)
  (hs:∀ x,foldedSetIterable iter X.env x=pure x:=by intro _; rfl) (hf:X.fn y=true\/X.env.scope.names.lookup y=some .local:=by first | exact .inl rfl | exact .inr rfl | assumption):
  JS X XQ (.Assign [.Name y py] (.ListComp elt [⟨tg,iter,ifs,0⟩] scope pos) spos) (sa (cmp f pk g t e) (gn i)):=by
 refine PS.mono (Ge9 (g:=Gls X.K g) (tt:=rdT X.K XN t) (te:=rdE X.K XN e) ct hcm hi hg ht he hN hy hx hsw hs hf) fun E σ H ⟨mp,ρ,S,G,p⟩=>Goe σ H _ ?_
 exact bindSP G p fun mp1 H1 d S1 v a1 G1 r1 p1=>PostS.nx p1 (G1.set i r1)
end
theorem Ggy:fillsNumberSlot (.type "tuple") "mul"=pure false:=
 PySem.fillsNumberSlot_seq (id:="tuple.__mul__") (r:=some (.builtin "tuple.__rmul__")) F.slot_tuple_mul.lookup (by decide +kernel) F.slot_tuple_rmul.lookup (by decide +kernel)
theorem Gfb:seqRepeat? (.type "tuple")=pure (some (.builtin "tuple.__mul__")):=by
 unfold seqRepeat?
 rw[PySem.seqSlot_of (T:="tuple") (name:="__mul__") (id:="tuple.__mul__") F.slot_tuple_mul.lookup (by decide +kernel),PySem.seqSlot_of (T:="tuple") (name:="__rmul__") (id:="tuple.__rmul__") F.slot_tuple_rmul.lookup (by decide +kernel)]
 rfl
theorem Gqz(x:Int)(t:Tok)(l:Addr)(xs:Array Value)(n:Nat)(d:Option Addr)(sl:Array (Option Value)):
  Meets (Builtin.«int.__rmul__» ⟨[.int x t,.ref l],[]⟩) (fun _ R s=>s.heap.get? l=some { cls:=.type "tuple",dict:=d,data:=.seq xs n,slots:=sl }/\R (.ok (.ret Value.notImplemented)) s):=
 .of_wp fun prog w A R s h=>by obtain⟨hp,g,d,tk,os⟩:=s; obtain⟨hl,h⟩:=h; wp_walk; exact⟨_,rfl,h⟩
theorem Gq0(x:Int)(t:Tok)(l:Addr)(xs:Array Value)(n:Nat)(d:Option Addr)(sl:Array (Option Value))(c0:¬ (decide (x < -2^63)||decide (x≥2^63))=true)(c1:¬ (xs.isEmpty||x==1)=true)(c2:¬ (decide (x<=0)||xs.isEmpty)=true)(c3:¬ (xs.size:Int)*x>(2^63-1) / 8)(c4:¬ Builtin.Tuple.tupleTooMany ((xs.size:Int)*x)=true)(c5:(List.foldl (fun x1 x2=>x1++x2) #[] (List.replicate x.toNat xs)).size<=sizeLine):
  Meets (Builtin.«tuple.__mul__» ⟨[.ref l,.int x t],[]⟩) (fun _ R s=>s.heap.get? l=some { cls:=.type "tuple",dict:=d,data:=.seq xs n,slots:=sl }/\R (.ok (.ret (Value.ref s.heap.objs.size))) { s with heap:=s.heap.push { cls:=Value.type "tuple",data:=Data.seq (List.foldl (fun x1 x2=>x1++x2) #[] (List.replicate x.toNat xs)) },toks:=s.toks }):=
 .of_wp fun prog w A R s h=>by
  obtain⟨hp,g,d,tk,os⟩:=s; obtain⟨hl,h⟩:=h
  wp_walk
  refine wpAny_ite_false (decide_eq_false c0) ?_
  wp_walk using wpAny_loadPart' hl
  refine wpAny_ite_false (decide_eq_false c3) ?_
  wp_walk
  exact⟨_,rfl,h⟩
section
variable{X:Cx}
def Gof(K:PySem.W.Frag):R2:=fun x y H Q=>∃ a k xs,x=.ref a/\y=.int k/\SqT K H a xs/\xs≠[]/\2<=k/\k<=1000000/\xs.length*k.toNat<=sizeLine/\∀ p,H p=none->Q (.ref p) (upd H p (.tup (List.replicate k.toNat xs).flatten))
theorem Gly:OpR X (binaryOp .Mult) (Gof X.K):=by
 intro pins s σ H x y v u Q I rx ry ⟨a,k,xs,e1,e2,ha,hne,k2,k3,hz,q⟩
 subst e1 e2
 cases rx
 obtain⟨t,rfl⟩:=ry
 obtain⟨its,r1,p1,_⟩:=I.tuple ha
 obtain⟨⟨cls,dd,data,sl⟩,ho,hc,n,hd⟩:=id p1
 simp only at hc hd
 subst hc hd
 have hl:xs.length=its.length:=r1.length
 have hne':its≠[]:=fun z=>hne (r1.nil_iff.mp z)
 have hie:its.toArray.isEmpty=false:=by
  cases its with
  | nil=>exact absurd rfl hne'
  | cons _ _=>rfl
 have hnew:List.foldl (fun x1 x2=>x1++x2) #[] (List.replicate k.toNat its.toArray)=(List.replicate k.toNat its).flatten.toArray:=by
  have:=Zh its k.toNat []
  rw[List.nil_append] at this
  exact this
 have hsz:(its.toArray.size:Int)*k<=(sizeLine:Int):=by
  rw[List.size_toArray,<- hl]
  have h1:((xs.length*k.toNat:Nat):Int)<=(sizeLine:Int):=by exact_mod_cast hz
  rw[Int.natCast_mul,Int.toNat_of_nonneg (by omega)] at h1
  exact h1
 have hsl:(sizeLine:Int)<=(2^63-1) / 8:=by decide
 refine wpAny_binaryOp_repeat_ref (T:="tuple") (U:="int") (by decide) ⟨_,ho,rfl⟩ (fun s'=>typeIs_int s' k t) Ggy F.fills_int_mul F.slot_int_rmul Gfb F.slot_int_index.lookup
  (call_meets F.slot_int_rmul (typeIs_int s k t) F.entry_int_rmul (F.args_int_rmul_2 _ _) (Gqz k t a its.toArray n dd sl)
   ⟨ho,rfl,⟨_,ho,rfl⟩,call_meets F.slot_tuple_mul ⟨_,ho,rfl⟩ F.entry_tuple_mul (F.args_tuple_mul_2 _ _) (Gq0 k t a its.toArray n dd sl ?c0 ?c1 ?c2 ?c3 ?c4 ?c5) ⟨ho,?_⟩⟩)
 case c0=>simp; omega
 case c1=>rw[hie]; simp; omega
 case c2=>rw[hie]; simp; omega
 case c3=>omega
 case c4=>unfold Builtin.Tuple.tupleTooMany; simp; omega
 case c5=>rw[hnew,List.size_toArray,Gc1,<- hl,Nat.mul_comm]; exact hz
 rw[hnew]
 refine⟨.ref s.heap.objs.size,_,I.laid (t':=s.toks) (o:=.tup (List.replicate k.toNat xs).flatten) (fun b ob q=>Heap.get?_push_of_some _ q) (Nat.le_refl _) ?_,rfl,q _ (I.hok.fresh (Nat.le_refl _))⟩
 exact⟨by rw[Gc1,Nat.mul_comm]; exact hz,_,r1.rep k.toNat,IsTup.new _ _⟩
end
def Vd{α β:Type}(f:α->Option β):List α->Option (List β)
 | []=>some []
 | x::l=>match f x,Vd f l with
  | some y,some ys=>some (y::ys)
  | _,_=>none
def toP(S:Sto):Nat->D->Option PyData
 | 0,_=>none
 | n+1,d=>match d with
  | .non=>some .none
  | .bl b=>some (.bool b)
  | .int i=>some (.int i)
  | .str x=>some (.str x)
  | .tup l=>(Vd (toP S n) l).map .tuple
  | .lst i=>match S[i]? with
   | some c=>(Vd (toP S n) c.xs).map .list
   | none=>none
  | .exn _ _=>none
  | .fv _=>none
section
variable{X:Cx}{pins:List (Addr×Obj)}{σ:L2.St}{H:Hp}{s:Shared}{mp:List Addr}{S:Sto}
theorem Gc7{f:D->Option PyData}{K:PySem.W.Frag}(hf:∀ (d:D) (v:V) (u:Value) (p:PyData),Rep K mp H d v->Ha v u->f d=some p->∃ as,Reads s.heap u p as):∀ (l:List D) (vs:List V) (us:List Value) (ps:List PyData),RepL K mp H l vs->Vals vs us->Vd f l=some ps->∃ as,ReadsAll s.heap us ps as
 | [],vs,us,ps,h,r,e=>by
  cases (show vs=[] from h); cases r
  cases (Option.some.inj e)
  exact⟨_,.nil⟩
 | d::l,vs,us,ps,h,r,e=>by
  obtain⟨v,vr,rfl,h1,h2⟩:=(show ∃ v r,vs=v::r/\Rep K mp H d v/\RepL K mp H l r from h)
  cases r with
  | cons r1 r2=>
   cases z1:f d with
   | none=>simp only[Vd,z1] at e; cases e
   | some p=>
    cases z2:Vd f l with
    | none=>simp only[Vd,z1,z2] at e; cases e
    | some qs=>
     simp only[Vd,z1,z2] at e
     cases (Option.some.inj e)
     obtain⟨as,ra⟩:=hf d v _ p h1 r1 z1
     obtain⟨bs,rb⟩:=Gc7 hf l vr _ qs h2 r2 z2
     exact⟨_,.cons ra rb⟩
theorem Gc8(I:Inv X pins σ H s)(rs:RS X.K mp H S):∀ (n:Nat) (d:D) (v:V) (u:Value) (p:PyData),Rep X.K mp H d v->Ha v u->toP S n d=some p->∃ as,Reads s.heap u p as:=by
 intro n
 induction n with
 | zero=>intro d v u p h r e; cases e
 | succ n ih=>
  intro d v u p h r e
  cases d with
  | non=>
   cases (show v=.non from h); cases (show u=Value.none from r)
   cases (Option.some.inj e)
   exact⟨_,.none⟩
  | bl b=>
   cases (show v=.bl b from h); cases (show u=Value.bool b from r)
   cases (Option.some.inj e)
   exact⟨_,.bool b⟩
  | int i=>
   cases (show v=.int i from h); obtain⟨t,rfl⟩:=(show ∃ t,u=Value.int i t from r)
   cases (Option.some.inj e)
   exact⟨_,.int i t⟩
  | str x=>
   cases (show v=.str x from h); obtain⟨t,rfl⟩:=(show ∃ t,u=Value.str x t from r)
   cases (Option.some.inj e)
   exact⟨_,.str x t⟩
  | tup l=>
   obtain⟨a,xs,rfl,sq,q⟩:=Rep.tup h
   cases (show u=Value.ref a from r)
   obtain⟨its,rv,⟨o,ho,hc,k,hd⟩,_⟩:=I.tuple sq
   have e:(Vd (toP S n) l).map PyData.tuple=some p:=e
   cases z:Vd (toP S n) l with
   | none=>rw[z] at e; cases e
   | some ps=>
    rw[z] at e
    cases (Option.some.inj e)
    obtain⟨as,ra⟩:=Gc7 ih l xs its ps q rv z
    exact⟨as,.tuple ho hc hd (by simpa using ra)⟩
  | lst i=>
   have e:(match S[i]? with | some c=>(Vd (toP S n) c.xs).map PyData.list | none=>none)=some p:=e
   cases zc:S[i]? with
   | none=>rw[zc] at e; cases e
   | some c=>
    rw[zc] at e
    obtain⟨a,xs,rfl,_,sq,q,_⟩:=rs.items h zc
    cases (show u=Value.ref a from r)
    obtain⟨its,rv,⟨o,k,ho,hc,_,hd⟩,_⟩:=I.list sq
    have e:(Vd (toP S n) c.xs).map PyData.list=some p:=e
    cases z:Vd (toP S n) c.xs with
    | none=>rw[z] at e; cases e
    | some ps=>
     rw[z] at e
     cases (Option.some.inj e)
     obtain⟨as,ra⟩:=Gc7 ih c.xs xs its ps q rv z
     exact⟨_,.list ho hc hd (by simpa using ra)⟩
  | exn c n=>cases (show(none:Option PyData)=some p from e)
  | fv c=>cases (show(none:Option PyData)=some p from e)
end
def eqD(x y:D)(S:Sto):Out D:=match toP S 40 x,toP S 40 y with
 | some p,some q=>if(SeqAt.shaped p&&SeqAt.shaped q)=true then .ok (.bl (PyData.eqv p q)) S else .bad
 | _,_=>.bad
def neD(x y:D)(S:Sto):Out D:=match toP S 40 x,toP S 40 y with
 | some p,some q=>if(SeqAt.shaped p&&SeqAt.shaped q)=true then .ok (.bl (!PyData.eqv p q)) S else .bad
 | _,_=>.bad
section
variable{X:Cx}{XQ:XW}
def OpX(X:Cx)(f:Value->Value->Sem Value)(o:D->D->Sto->Out D):Prop:=
 ∀ (pins:List (Addr×Obj)) (s:Shared) (σ:L2.St) (ρ:Lc) (XQ:XW) (mp:List Addr) (H:Hp) (S:Sto) (x y:D) (v u:V) (vv uv:Value) (Q:VK),Inv X pins σ H s->RS X.K mp H S->Rep X.K mp H x v->Rep X.K mp H y u->Ha v vv->Ha u uv->Post X.K XQ σ ρ mp H (o x y S) Q→
  (∀ (e:XD) (S':Sto),o x y S≠.exc e S')->wpAny (model X.prog X.w) X.A (f vv uv) (EP X pins σ Q) X.xe s
theorem Gin{a b:Expr}{op:CmpOp}{fa fb:Ev D}{o:D->D->Sto->Out D}{pos:Pos}(ho:OpX X (compareOp op) o)(hno:∀ x y S e S',o x y S≠.exc e S')(ha:JE X XQ a fa)(hb:JE X XQ b fb)(hm:behindInMarks op b=false):JE X XQ (.Compare a [op] [b] pos) (o2 o fa fb):=by
 intro pins s σ H Q I ⟨mp,ρ,S,G,p⟩
 refine wpAny_Compare1 (thn (ha pins s σ H _ I (bindP G p fun mp1 H1 x S1 v a1 G1 r1 p1=>(⟨mp1,ρ,S1,x,G1,r1,p1⟩:∃ mp1 ρ S1 x,Gd X.K mp1 H1 σ ρ S1/\Rep X.K mp1 H1 x v/\Post X.K XQ σ ρ mp1 H1 ((fb ρ S1).bind fun y S2=>o x y S2) Q))) fun vv s1 ⟨v,H1,I1,rv,mp1,ρ1,S1,x,G1,r1,p1⟩=>?_) hm
 refine thn (hb pins s1 σ H1 _ I1 (bindP G1 p1 fun mp2 H2 y S2 u a2 G2 r2 p2=>(⟨mp2,ρ1,S2,x,y,v,G2,Rep.aft a2 _ _ r1,r2,rfl,p2⟩:∃ mp2 ρ S2 x y v',Gd X.K mp2 H2 σ ρ S2/\Rep X.K mp2 H2 x v'/\Rep X.K mp2 H2 y u/\v'=v/\Post X.K XQ σ ρ mp2 H2 (o x y S2) Q))) fun uv s2 ⟨u,H2,I2,ru,mp2,ρ2,S2,x2,y,v',G2,rx,ry,ev,p2⟩=>?_
 subst ev
 exact ho pins s2 σ ρ2 XQ mp2 H2 S2 x2 y _ u vv uv Q I2 G2.rs rx ry rv ru p2 (hno _ _ _)
theorem Gio{a b:Expr}{op:CmpOp}{fa fb:Ev D}{o:D->D->Sto->Out D}{pos:Pos}(ho:OpX X (compareOp op) o)(hno:∀ x y S e S',o x y S≠.exc e S')(ha:JE X XQ a fa)(hb:JE X XQ b fb)(hm:behindInMarks op b=false):JT X XQ (.Compare a [op] [b] pos) (tb (o2 o fa fb)):=by
 intro pins s σ H Q I h
 obtain⟨mp,ρ,S,G,p⟩:=Gii h
 refine wpAny_isTrue_Compare1 (thn (ha pins s σ H _ I (bindP G p fun mp1 H1 x S1 v a1 G1 r1 p1=>(⟨mp1,ρ,S1,x,G1,r1,p1⟩:∃ mp1 ρ S1 x,Gd X.K mp1 H1 σ ρ S1/\Rep X.K mp1 H1 x v/\Post X.K XQ σ ρ mp1 H1 ((fb ρ S1).bind fun y S2=>o x y S2) (fun x H1=>∃ k,x=.bl k/\Q k H1)))) fun vv s1 ⟨v,H1,I1,rv,mp1,ρ1,S1,x,G1,r1,p1⟩=>?_) hm
 refine thn (hb pins s1 σ H1 _ I1 (bindP G1 p1 fun mp2 H2 y S2 u a2 G2 r2 p2=>(⟨mp2,ρ1,S2,x,y,v,G2,Rep.aft a2 _ _ r1,r2,rfl,p2⟩:∃ mp2 ρ S2 x y v',Gd X.K mp2 H2 σ ρ S2/\Rep X.K mp2 H2 x v'/\Rep X.K mp2 H2 y u/\v'=v/\Post X.K XQ σ ρ mp2 H2 (o x y S2) (fun x H1=>∃ k,x=.bl k/\Q k H1)))) fun uv s2 ⟨u,H2,I2,ru,mp2,ρ2,S2,x2,y,v',G2,rx,ry,ev,p2⟩=>?_
 subst ev
 refine thn (ho pins s2 σ ρ2 XQ mp2 H2 S2 x2 y _ u vv uv _ I2 G2.rs rx ry rv ru p2 (hno _ _ _)) fun c s3 ⟨z,H3,I3,r3,k,e,q3⟩=>?_
 subst e
 cases r3
 exact wpAny_truthy_bool ⟨H3,I3,q3⟩
theorem Gog(hu:X.A.units+64<cLine):OpX X (compareOp .Eq) eqD:=by
 intro pins s σ ρ XQ mp H S x y v u vv uv Q I rs rx ry rv ru p _
 unfold eqD at p
 cases z1:toP S 40 x with
 | none=>simp only[z1] at p; exact p.elim
 | some a=>
  cases z2:toP S 40 y with
  | none=>simp only[z1,z2] at p; exact p.elim
  | some b=>
   simp only[z1,z2] at p
   by_cases hs:(SeqAt.shaped a&&SeqAt.shaped b)=true
   ·rw[if_pos hs] at p
    obtain⟨as,ra⟩:=Gc8 I rs 40 x v vv a rx rv z1
    obtain⟨bs,rb⟩:=Gc8 I rs 40 y u uv b ry ru z2
    rw[Bool.and_eq_true] at hs
    exact SeqAt.compareEq_shaped ra rb hs.1 hs.2 hu ⟨.bl _,H,I,rfl,Gn.ok (R:=Rep X.K) p rs rfl⟩
   ·rw[if_neg hs] at p; exact p.elim
theorem Goh(hu:X.A.units+64<cLine):OpX X (compareOp .NotEq) neD:=by
 intro pins s σ ρ XQ mp H S x y v u vv uv Q I rs rx ry rv ru p _
 unfold neD at p
 cases z1:toP S 40 x with
 | none=>simp only[z1] at p; exact p.elim
 | some a=>
  cases z2:toP S 40 y with
  | none=>simp only[z1,z2] at p; exact p.elim
  | some b=>
   simp only[z1,z2] at p
   by_cases hs:(SeqAt.shaped a&&SeqAt.shaped b)=true
   ·rw[if_pos hs] at p
    obtain⟨as,ra⟩:=Gc8 I rs 40 x v vv a rx rv z1
    obtain⟨bs,rb⟩:=Gc8 I rs 40 y u uv b ry ru z2
    rw[Bool.and_eq_true] at hs
    exact SeqAt.compareNe_shaped ra rb hs.1 hs.2 hu ⟨.bl _,H,I,rfl,Gn.ok (R:=Rep X.K) p rs rfl⟩
   ·rw[if_neg hs] at p; exact p.elim
theorem Goi(x y:D)(S:Sto)(e:XD)(S':Sto):eqD x y S≠.exc e S':=by
 unfold eqD
 split
 ·split<;>exact fun z=>nomatch z
 ·exact fun z=>nomatch z
theorem Goj(x y:D)(S:Sto)(e:XD)(S':Sto):neD x y S≠.exc e S':=by
 unfold neD
 split
 ·split<;>exact fun z=>nomatch z
 ·exact fun z=>nomatch z
theorem Guw{a b:Expr}{fa fb:Ev D}{pos:Pos}(hu:X.A.units+64<cLine)(ha:JE X XQ a fa)(hb:JE X XQ b fb):JE X XQ (.Compare a [.Eq] [b] pos) (o2 eqD fa fb):=Gin (Gog hu) Goi ha hb (nomark _)
theorem Gux{a b:Expr}{fa fb:Ev D}{pos:Pos}(hu:X.A.units+64<cLine)(ha:JE X XQ a fa)(hb:JE X XQ b fb):JT X XQ (.Compare a [.Eq] [b] pos) (tb (o2 eqD fa fb)):=Gio (Gog hu) Goi ha hb (nomark _)
theorem Guy{a b:Expr}{fa fb:Ev D}{pos:Pos}(hu:X.A.units+64<cLine)(ha:JE X XQ a fa)(hb:JE X XQ b fb):JE X XQ (.Compare a [.NotEq] [b] pos) (o2 neD fa fb):=Gin (Goh hu) Goj ha hb (nomark _)
theorem Guz{a b:Expr}{fa fb:Ev D}{pos:Pos}(hu:X.A.units+64<cLine)(ha:JE X XQ a fa)(hb:JE X XQ b fb):JT X XQ (.Compare a [.NotEq] [b] pos) (tb (o2 neD fa fb)):=Gio (Goh hu) Goj ha hb (nomark _)
def i2(C:Int->Int->Bool)(g:Int->Int->D):D->D->Sto->Out D:=fun x y S=>match x,y with
 | .int i,.int j=>if C i j=true then .ok (g i j) S else .bad
 | _,_=>.bad
theorem Gc9{K:PySem.W.Frag}{C:Int->Int->Prop}{c:Int->Int->Bool}{g:Int->Int->V}{gd:Int->Int->D}(hc:∀ i j,c i j=true->C i j)(hg:∀ mp H i j,Rep K mp H (gd i j) (g i j)):OpD K (rI C g) (i2 c gd):=by
 intro XQ σ ρ mp H S x y v u Q rs rx ry p
 cases x with
 | int i=>
  cases y with
  | int j=>
   have p:Post K XQ σ ρ mp H (if c i j=true then .ok (gd i j) S else .bad) Q:=p
   by_cases h:c i j=true
   ·rw[if_pos h] at p
    exact⟨i,j,rx,ry,hc i j h,Gn.ok (R:=Rep K) p rs (hg mp H i j)⟩
   ·rw[if_neg h] at p; exact p.elim
  | _=>exact(show False from p).elim
 | _=>exact(show False from p).elim
theorem od_int0{K:PySem.W.Frag}{g:Int->Int->V}{gd:Int->Int->D}(hg:∀ mp H i j,Rep K mp H (gd i j) (g i j)):OpD K (rI0 g) (i2 (fun _ _=>true) gd):=by
 intro XQ σ ρ mp H S x y v u Q rs rx ry p
 obtain⟨i,j,h1,h2,_,h3⟩:=Gc9 (C:=fun _ _=>True) (c:=fun _ _=>true) (fun _ _ _=>trivial) hg XQ σ ρ mp H S x y v u Q rs rx ry p
 exact⟨i,j,h1,h2,h3⟩
abbrev Zi:=i2 (fun _ _=>true) fun i j=>.int (i-j)
abbrev Xq:=i2 (fun _ j=>decide (0<j)) fun i j=>.int (i%j)
abbrev Gd2:=i2 (fun i j=>decide (0<=j/\j<=1000000/\i.natAbs<2^64)) fun i j=>.int (i^j.toNat)
abbrev ltD:=i2 (fun _ _=>true) fun i j=>.bl (decide (i<j))
abbrev leD:=i2 (fun _ _=>true) fun i j=>.bl (decide (i<=j))
abbrev gtD:=i2 (fun _ _=>true) fun i j=>.bl (decide (j<i))
abbrev geD:=i2 (fun _ _=>true) fun i j=>.bl (decide (j<=i))
section
variable{a b:Expr}{fa fb:Ev D}{pos:Pos}
theorem Gq1(ha:JE X XQ a fa)(hb:JE X XQ b fb):JE X XQ (.BinOp a .Sub b pos) (o2 Zi fa fb):=Gci Gpu (od_int0 fun _ _ _ _=>rfl) ha hb
theorem Gq2(ha:JE X XQ a fa)(hb:JE X XQ b fb):JE X XQ (.BinOp a .Mod b pos) (o2 Xq fa fb):=Gci Gpw (Gc9 (fun _ _ h=>of_decide_eq_true h) fun _ _ _ _=>rfl) ha hb
theorem Gq3(ha:JE X XQ a fa)(hb:JE X XQ b fb):JE X XQ (.BinOp a .Pow b pos) (o2 Gd2 fa fb):=Gci Gpx (Gc9 (fun i j h=>(of_decide_eq_true h:0<=j/\j<=1000000/\i.natAbs<2^64)) fun _ _ _ _=>rfl) ha hb
theorem Gu0(ha:JE X XQ a fa)(hb:JE X XQ b fb):JE X XQ (.Compare a [.Lt] [b] pos) (o2 ltD fa fb):=Gc3 Gn6 (od_int0 fun _ _ _ _=>rfl) ha hb (nomark _)
theorem Gu1(ha:JE X XQ a fa)(hb:JE X XQ b fb):JE X XQ (.Compare a [.LtE] [b] pos) (o2 leD fa fb):=Gc3 Gdx (od_int0 fun _ _ _ _=>rfl) ha hb (nomark _)
theorem Gu2(ha:JE X XQ a fa)(hb:JE X XQ b fb):JT X XQ (.Compare a [.Lt] [b] pos) (tb (o2 ltD fa fb)):=Ga1 Gn6 (od_int0 fun _ _ _ _=>rfl) ha hb (nomark _)
theorem Gu3(ha:JE X XQ a fa)(hb:JE X XQ b fb):JT X XQ (.Compare a [.Gt] [b] pos) (tb (o2 gtD fa fb)):=Ga1 Gud (od_int0 fun _ _ _ _=>rfl) ha hb (nomark _)
theorem Gu4(ha:JE X XQ a fa)(hb:JE X XQ b fb):JT X XQ (.Compare a [.GtE] [b] pos) (tb (o2 geD fa fb)):=Ga1 Gue (od_int0 fun _ _ _ _=>rfl) ha hb (nomark _)
end
def Jj(x y:D)(S:Sto):Out D:=match x,y with
 | .int i,.int j=>.ok (.int (i+j)) S
 | .str a,.str b=>if a.length+b.length<=1000000 then .ok (.str (a++b)) S else .bad
 | .lst i,.lst j=>match S[i]?,S[j]? with
  | some c,some e=>if(c.fz=false/\e.fz=false)/\c.xs.length+e.xs.length<=1000000 then .ok (.lst S.length) (S++[⟨false,c.xs++e.xs⟩]) else .bad
  | _,_=>.bad
 | .tup a,.tup b=>if a.length+b.length<=1000000 then .ok (.tup (a++b)) S else .bad
 | _,_=>.bad
def Gok(K:PySem.W.Frag):R2:=fun x y H Q=>∃ a b ys,x=.ref a/\y=.ref b/\SqT K H a []/\SqT K H b ys/\Q (.ref b) H
theorem Glz:OpR X (binaryOp .Add) (Gok X.K):=by
 intro pins s σ H x y v u Q I rx ry ⟨a,b,ys,e1,e2,ha,hb,q⟩
 subst e1 e2
 cases rx; cases ry
 obtain⟨its,r1,p1,_⟩:=I.tuple ha
 obtain⟨its2,r2,p2,_⟩:=I.tuple hb
 have ei:=r1.nil_iff.mpr rfl
 subst ei
 obtain⟨⟨cls,dd,data,sl⟩,ho,hc,n,hd⟩:=id p1
 obtain⟨⟨cls2,dd2,data2,sl2⟩,ho2,hc2,n2,hd2⟩:=id p2
 simp only at hc hd hc2 hd2
 subst hc hd hc2 hd2
 exact concat_meets ⟨_,ho,rfl⟩ ⟨_,ho2,rfl⟩ noFill_tuple_add seq_tuple_add PySem.F.slot_tuple_add PySem.F.entry_tuple_add (PySem.F.args_tuple_add_2 _ _)
  (tuple_addW0 a b [].toArray its2.toArray n n2 dd dd2 sl sl2 (by rfl)) ⟨ho,ho2,⟨.ref b,H,I,rfl,q⟩⟩
def Gol(K:PySem.W.Frag):R2:=fun x y H Q=>rI0 (fun i j=>.int (i+j)) x y H Q\/(∃ i j,x=.str i/\y=.str j/\i.length+j.length<=sizeLine/\Q (.str (i++j)) H)\/Gum x y H Q\/Goa K x y H Q\/Gok K x y H Q
theorem Gl0:OpR X (binaryOp .Add) (Gol X.K):=Gpt.or (Ge1.or (Gp9.or (Glg.or Glz)))
theorem Gq4{K:PySem.W.Frag}:OpD K (Gol K) Jj:=by
 intro XQ σ ρ mp H S x y v u Q rs rx ry p
 unfold Jj at p
 split at p
 ·exact .inl ⟨_,_,rx,ry,Gn.ok (R:=Rep K) p rs rfl⟩
 ·rename_i a b
  by_cases h:a.length+b.length<=1000000
  ·rw[if_pos h] at p
   exact .inr (.inl ⟨_,_,rx,ry,line_le h,Gn.ok (R:=Rep K) p rs rfl⟩)
  ·rw[if_neg h] at p; exact p.elim
 ·rename_i i j
  split at p
  ·rename_i c e zc ze
   by_cases h:(c.fz=false/\e.fz=false)/\c.xs.length+e.xs.length<=1000000
   ·rw[if_pos h] at p
    obtain⟨a1,xs,rfl,_,_,q1,f1⟩:=rs.items rx zc
    obtain⟨a2,ys,rfl,_,_,q2,f2⟩:=rs.items ry ze
    refine .inr (.inr (.inl ⟨a1,a2,xs,ys,rfl,rfl,f1 h.1.1,f2 h.1.2,by rw[q1.len,q2.len]; exact line_le h.2,fun q hq=>Vw p rs (q1.append q2) hq⟩))
   ·rw[if_neg h] at p; exact p.elim
  ·exact p.elim
 ·rename_i a b
  by_cases h:a.length+b.length<=1000000
  ·rw[if_pos h] at p
   obtain⟨a1,xs,rfl,s1,q1⟩:=Rep.tup rx
   obtain⟨a2,ys,rfl,s2,q2⟩:=Rep.tup ry
   have l1:=q1.len
   have l2:=q2.len
   by_cases he:xs=[]
   ·subst he
    have ea:a=[]:=by cases a with | nil=>rfl | cons _ _=>simp at l1
    subst ea
    exact .inr (.inr (.inr (.inr ⟨a1,a2,ys,rfl,rfl,s1,s2,Gn.ok (R:=Rep K) p rs ry⟩)))
   ·refine .inr (.inr (.inr (.inl ⟨a1,a2,xs,ys,rfl,rfl,s1,s2,he,by rw[l1,l2]; exact line_le h,fun z=>?_,fun _ q hq=>Wv p rs (q1.append q2) hq⟩)))
    subst z
    have eb:b=[]:=by cases b with | nil=>rfl | cons _ _=>simp at l2
    subst eb
    rw[List.append_nil] at p
    exact Gn.ok (R:=Rep K) p rs rx
  ·rw[if_neg h] at p; exact p.elim
 ·exact p.elim
theorem Gq5{a b:Expr}{fa fb:Ev D}{pos:Pos}(ha:JE X XQ a fa)(hb:JE X XQ b fb):JE X XQ (.BinOp a .Add b pos) (o2 Jj fa fb):=Gci Gl0 Gq4 ha hb
def Xx(x y:D)(S:Sto):Out D:=match x,y with
 | .int i,.int j=>if(-(2^64)<i/\i<2^64)\/(-(2^64)<j/\j<2^64) then .ok (.int (i*j)) S else .bad
 | .lst i,.int k=>match S[i]? with
  | some c=>if c.fz=false/\(-1000000<=k/\k<=1000000)/\c.xs.length*k.toNat<=1000000 then .ok (.lst S.length) (S++[⟨false,(List.replicate k.toNat c.xs).flatten⟩]) else .bad
  | none=>.bad
 | .tup l,.int k=>if 0<l.length/\(2<=k/\k<=1000000)/\l.length*k.toNat<=1000000 then .ok (.tup (List.replicate k.toNat l).flatten) S else .bad
 | _,_=>.bad
def Gom(K:PySem.W.Frag):R2:=fun x y H Q=>rI CMul (fun i j=>.int (i*j)) x y H Q\/Gun x y H Q\/Gof K x y H Q
theorem Gl1:OpR X (binaryOp .Mult) (Gom X.K):=Gpv.or (Gqa.or Gly)
theorem RepL.flat{K:PySem.W.Frag}{mp:List Addr}{H:Hp}{l:List D}{vs:List V}(h:RepL K mp H l vs):∀ k:Nat,RepL K mp H (List.replicate k l).flatten (List.replicate k vs).flatten
 | 0=>RepL.nil
 | k+1=>by
  rw[List.replicate_succ,List.replicate_succ,List.flatten_cons,List.flatten_cons]
  exact RepL.append h (RepL.flat h k)
theorem Gq6{K:PySem.W.Frag}:OpD K (Gom K) Xx:=by
 intro XQ σ ρ mp H S x y v u Q rs rx ry p
 unfold Xx at p
 split at p
 ·rename_i i j
  by_cases h:(-(2^64)<i/\i<2^64)\/(-(2^64)<j/\j<2^64)
  ·rw[if_pos h] at p
   exact .inl ⟨_,_,rx,ry,h,Gn.ok (R:=Rep K) p rs rfl⟩
  ·rw[if_neg h] at p; exact p.elim
 ·rename_i i k
  split at p
  ·rename_i c zc
   by_cases h:c.fz=false/\(-1000000<=k/\k<=1000000)/\c.xs.length*k.toNat<=1000000
   ·rw[if_pos h] at p
    obtain⟨a1,xs,rfl,_,_,q1,f1⟩:=rs.items rx zc
    exact .inr (.inl ⟨a1,k,xs,rfl,ry,f1 h.1,by omega,by omega,by rw[q1.len]; exact line_le h.2.2,fun q hq=>Vw p rs (q1.flat _) hq⟩)
   ·rw[if_neg h] at p; exact p.elim
  ·exact p.elim
 ·rename_i l k
  by_cases h:0<l.length/\(2<=k/\k<=1000000)/\l.length*k.toNat<=1000000
  ·rw[if_pos h] at p
   obtain⟨a1,xs,rfl,s1,q1⟩:=Rep.tup rx
   have hl:=q1.len
   exact .inr (.inr ⟨a1,k,xs,rfl,ry,s1,fun z=>by rw[z] at hl; simp at hl; omega,h.2.1.1,h.2.1.2,by rw[q1.len]; exact line_le h.2.2,fun q hq=>Wv p rs (q1.flat _) hq⟩)
  ·rw[if_neg h] at p; exact p.elim
 ·exact p.elim
theorem Gq7{a b:Expr}{fa fb:Ev D}{pos:Pos}(ha:JE X XQ a fa)(hb:JE X XQ b fb):JE X XQ (.BinOp a .Mult b pos) (o2 Xx fa fb):=Gci Gl1 Gq6 ha hb
def Gfc(x:D)(S:Sto):Out D:=match x with
 | .int i=>.ok (.int (-i)) S
 | _=>.bad
def getD(x y:D)(S:Sto):Out D:=match x,y with
 | .tup l,.int i=>match atI l i with
  | some d=>.ok d S
  | none=>.bad
 | .lst k,.int i=>match S[k]? with
  | some c=>match atI c.xs i with
   | some d=>.ok d S
   | none=>.bad
  | none=>.bad
 | .str z,.int i=>if z.length<=1000000 then(match atI z.cps.toList i with
  | some c=>.ok (.str ⟨#[c]⟩) S
  | none=>.bad) else .bad
 | _,_=>.bad
theorem RepL.atI{K:PySem.W.Frag}{mp:List Addr}{H:Hp}{l:List D}{vs:List V}{i:Int}{d:D}(h:RepL K mp H l vs)(e:L2.atI l i=some d):∃ v,L2.atI vs i=some v/\Rep K mp H d v:=by
 unfold L2.atI at e ⊢
 rw[h.len]
 cases z:ixN l.length i with
 | none=>rw[z] at e; cases e
 | some j=>
  rw[z] at e
  exact h.get e
theorem Gq8{K:PySem.W.Frag}:OpD K (rIx K) getD:=by
 intro XQ σ ρ mp H S x y v u Q rs rx ry p
 unfold getD at p
 split at p
 ·rename_i l i
  split at p
  ·rename_i d zd
   obtain⟨a,xs,rfl,sq,q⟩:=Rep.tup rx
   obtain⟨w,hw,rw'⟩:=q.atI zd
   exact .inr (.inl ⟨a,xs,i,w,rfl,ry,sq,hw,Gn.ok (R:=Rep K) p rs rw'⟩)
  ·exact p.elim
 ·rename_i k i
  split at p
  ·rename_i c zc
   split at p
   ·rename_i d zd
    obtain⟨a,xs,rfl,_,sq,q,_⟩:=rs.items rx zc
    obtain⟨w,hw,rw'⟩:=q.atI zd
    exact .inl ⟨a,xs,i,w,rfl,ry,sq,hw,Gn.ok (R:=Rep K) p rs rw'⟩
   ·exact p.elim
  ·exact p.elim
 ·rename_i z i
  by_cases h:z.length<=1000000
  ·rw[if_pos h] at p
   split at p
   ·rename_i c zc
    exact .inr (.inr ⟨z,i,c,rx,ry,line_le h,zc,Gn.ok (R:=Rep K) p rs rfl⟩)
   ·exact p.elim
  ·rw[if_neg h] at p; exact p.elim
 ·exact p.elim
theorem Gq9{a b:Expr}{fa fb:Ev D}{pos:Pos}(ha:JE X XQ a fa)(hb:JE X XQ b fb)(hs:Gao b:=by intro _ _; rfl):JE X XQ (.Subscript a b pos) (o2 getD fa fb):=Guq Gp7 Gq8 ha hb hs
def Ut(x y z:D)(S:Sto):Option Sto:=match x,y with
 | .lst k,.int i=>match S[k]? with
  | some c=>match ixN c.xs.length i with
   | some j=>if c.fz=false then some (S.set k ⟨false,c.xs.set j z⟩) else none
   | none=>none
  | none=>none
 | _,_=>none
theorem Gra{K:PySem.W.Frag}:Guv Gob K Ut:=by
 intro mp H S S' x y z v u w Q rs rx ry rz e k
 unfold Ut at e
 split at e
 ·rename_i kk i
  split at e
  ·rename_i c zc
   split at e
   ·rename_i j zj
    by_cases hf:c.fz=false
    ·rw[if_pos hf] at e
     cases (Option.some.inj e)
     obtain⟨a,xs,rfl,ha,sq,q,f⟩:=rs.items rx zc
     have hH:=f hf
     obtain⟨af,rs'⟩:=rs.setL ha zc hf hH (q.set j rz)
     exact⟨a,xs,i,j,rfl,ry,hH,by rw[q.len]; exact zj,k _ af rs'⟩
    ·rw[if_neg hf] at e; cases e
   ·cases e
  ·cases e
 ·cases e
theorem Gip{ob ix e:Expr}{f fo fi:Ev D}{pos p2:Pos}(he:JE X XQ e f)(hob:JE X XQ ob fo)(hix:JE X XQ ix fi)
  (hs:swapsWithSole [.Subscript ob ix p2] e pos.line X.env=pure false:=by rfl) (hw:swappedStores [.Subscript ob ix p2] e X.env=pure none:=by rfl)
  (h1:(assignEach [.Subscript ob ix p2] X.env).map (·.2)=[assign (.Subscript ob ix p2) X.env]:=by rfl) (ha:∀ v,assign (.Subscript ob ix p2) X.env v=(do
   let ov <- holding [v] (eval ob X.env)
   let iv <- holding [v,ov] (eval ix X.env)
   standAt p2
   holding [v,ov,iv] (setItem ov iv v)
   release [v,ov,iv] []):=by intro _; rfl):JS X XQ (.Assign [.Subscript ob ix p2] e pos) (ss f fo fi Ut):=Gqs Gia Gra he hob hix hs hw h1 ha
end
section
variable{X:Cx}{XQ:XW}
def BlD(K:PySem.W.Frag)(r:List V->Hp->VK->Prop)(o:List D->Sto->Out D):Prop:=
 ∀ (XQ:XW) (σ:L2.St) (ρ:Lc) (mp:List Addr) (H:Hp) (S:Sto) (xs:List D) (vs:List V) (Q:VK),RS K mp H S->RepL K mp H xs vs->Post K XQ σ ρ mp H (o xs S) Q->r vs H Q
def b1(o:List D->Sto->Out D)(f:Ev (List D)):Ev D:=fun ρ S=>(f ρ S).bind o
theorem cbR{r:List V->Hp->VK->Prop}{o:List D->Sto->Out D}{f:Ev (List D)}(hd:BlD X.K r o)(σ:L2.St)(H:Hp)(Q:VK)(h:rdE X.K XQ (b1 o f) σ H Q):tCB r (rdA X.K XQ f) σ H Q:=by
 obtain⟨mp,ρ,S,G,p⟩:=h
 exact bindP G p fun mp1 H1 xs S1 vs a1 G1 r1 p1=>hd XQ σ ρ mp1 H1 S1 xs vs Q G1.rs r1 p1
theorem Ga3{id:String}{x:Str}{p pos:Pos}{e:Expr}{es:List Expr}{r:List V->Hp->VK->Prop}{o:List D->Sto->Out D}{f:Ev (List D)}(hc:Qq X (.builtin id) r)(hd:BlD X.K r o)(hg:Gl X x)(hm:X.mg x=none)(hv:bootBuiltins x=some (.builtin id))(ha:JA X XQ (e::es) f)(hn:x≠"__name__":=by decide)(hdb:(x==("__debug__":Str))=false:=by decide)
  (he:starEach (e::es) X.env=(false,eval e X.env)::starEach es X.env:=by rfl) (hpl:(backTo pos (starEach es X.env)).any (·.1)=false:=by rfl):JE X XQ (.Call (.Name x p) (e::es) [] pos) (b1 o f):=
 PE.mono (Wt hc hg hm hv ha hn hdb he hpl) (cbR hd)
theorem Gd3{T:String}{x:Str}{p pos:Pos}{e:Expr}{es:List Expr}{r:List V->Hp->VK->Prop}{o:List D->Sto->Out D}{f:Ev (List D)}(hc:Qq X (.type T) r)(hd:BlD X.K r o)(hg:Gl X x)(hm:X.mg x=none)(hv:bootBuiltins x=some (.type T))(ha:JA X XQ (e::es) f)(hn:x≠"__name__":=by decide)(hdb:(x==("__debug__":Str))=false:=by decide)
  (he:starEach (e::es) X.env=(false,eval e X.env)::starEach es X.env:=by rfl) (hpl:(backTo pos (starEach es X.env)).any (·.1)=false:=by rfl):JE X XQ (.Call (.Name x p) (e::es) [] pos) (b1 o f):=
 PE.mono (Ggv hc hg hm hv ha hn hdb he hpl) (cbR hd)
def lenD(xs:List D)(S:Sto):Out D:=match xs with
 | [.str z]=>if z.length<=1000000 then .ok (.int z.length) S else .bad
 | [.tup l]=>.ok (.int l.length) S
 | [.lst i]=>match S[i]? with
  | some c=>.ok (.int c.xs.length) S
  | none=>.bad
 | _=>.bad
theorem Grb{K:PySem.W.Frag}:BlD K (fun xs H Q=>∃ x n,xs=[x]/\Guf K x H n/\Q (.int n) H) lenD:=by
 intro XQ σ ρ mp H S xs vs Q rs r p
 unfold lenD at p
 split at p
 ·rename_i z
  obtain⟨v,rfl,h⟩:=RepL.one r
  cases (show v=.str z from h)
  by_cases hz:z.length<=1000000
  ·rw[if_pos hz] at p
   exact⟨_,_,rfl,⟨line_le hz,rfl⟩,Gn.ok (R:=Rep K) p rs rfl⟩
  ·rw[if_neg hz] at p; exact p.elim
 ·rename_i l
  obtain⟨v,rfl,h⟩:=RepL.one r
  obtain⟨a,xs,rfl,sq,q⟩:=Rep.tup h
  exact⟨_,xs.length,rfl,.inr ⟨xs,sq,rfl⟩,Gn.ok (R:=Rep K) p rs (by rw[q.len]; rfl)⟩
 ·rename_i i
  obtain⟨v,rfl,h⟩:=RepL.one r
  split at p
  ·rename_i c zc
   obtain⟨a,xs,rfl,_,sq,q,_⟩:=rs.items h zc
   exact⟨_,xs.length,rfl,.inl ⟨xs,sq,rfl⟩,Gn.ok (R:=Rep K) p rs (by rw[q.len]; rfl)⟩
  ·exact p.elim
 ·exact p.elim
theorem Grc{p pos:Pos}{e:Expr}{f:Ev (List D)}(hg:Gl X "len")(hm:X.mg "len"=none)(ha:JA X XQ [e] f)(he:starEach [e] X.env=(false,eval e X.env)::starEach [] X.env:=by rfl):JE X XQ (.Call (.Name "len" p) [e] [] pos) (b1 lenD f):=Ga3 Gh4 Grb hg hm PySem.boot_len ha (he:=he)
def Zv(xs:List D)(S:Sto):Out D:=match xs with
 | [.tup l]=>.ok (.lst S.length) (S++[⟨false,l⟩])
 | [.lst i]=>match S[i]? with
  | some c=>.ok (.lst S.length) (S++[⟨false,c.xs⟩])
  | none=>.bad
 | _=>.bad
theorem Gl2{K:PySem.W.Frag}:BlD K (fun xs H Q=>∃ p ys,xs=[.ref p]/\(SqL K H p ys\/SqT K H p ys)/\∀ l,H l=none->Q (.ref l) (upd H l (.lst ys))) Zv:=by
 intro XQ σ ρ mp H S xs vs Q rs r p
 unfold Zv at p
 split at p
 ·obtain⟨v,rfl,h⟩:=RepL.one r
  obtain⟨a,xs,rfl,sq,q⟩:=Rep.tup h
  exact⟨a,xs,rfl,.inr sq,fun l hl=>Vw p rs q hl⟩
 ·obtain⟨v,rfl,h⟩:=RepL.one r
  split at p
  ·rename_i c zc
   obtain⟨a,xs,rfl,_,sq,q,_⟩:=rs.items h zc
   exact⟨a,xs,rfl,.inl sq,fun l hl=>Vw p rs q hl⟩
  ·exact p.elim
 ·exact p.elim
def Qg(xs:List D)(S:Sto):Out D:=match xs with
 | [.tup l]=>.ok (.tup l) S
 | [.lst i]=>match S[i]? with
  | some c=>.ok (.tup c.xs) S
  | none=>.bad
 | _=>.bad
theorem Giq{K:PySem.W.Frag}:BlD K (fun xs H Q=>∃ p ys,xs=[.ref p]/\((SqL K H p ys/\∀ l,H l=none->Q (.ref l) (upd H l (.tup ys)))\/(SqT K H p ys/\Q (.ref p) H))) Qg:=by
 intro XQ σ ρ mp H S xs vs Q rs r p
 unfold Qg at p
 split at p
 ·obtain⟨v,rfl,h⟩:=RepL.one r
  obtain⟨a,xs,rfl,sq,q⟩:=Rep.tup h
  exact⟨a,xs,rfl,.inr ⟨sq,Gn.ok (R:=Rep K) p rs h⟩⟩
 ·obtain⟨v,rfl,h⟩:=RepL.one r
  split at p
  ·rename_i c zc
   obtain⟨a,xs,rfl,_,sq,q,_⟩:=rs.items h zc
   exact⟨a,xs,rfl,.inl ⟨sq,fun l hl=>Wv p rs q hl⟩⟩
  ·exact p.elim
 ·exact p.elim
theorem Gl3{p pos:Pos}{e:Expr}{f:Ev (List D)}(hg:Gl X "list")(hm:X.mg "list"=none)(ha:JA X XQ [e] f)(he:starEach [e] X.env=(false,eval e X.env)::starEach [] X.env:=by rfl):JE X XQ (.Call (.Name "list" p) [e] [] pos) (b1 Zv f):=Gd3 Gc0 Gl2 hg hm (by rfl) ha (he:=he)
theorem Gir{p pos:Pos}{e:Expr}{f:Ev (List D)}(hg:Gl X "tuple")(hm:X.mg "tuple"=none)(ha:JA X XQ [e] f)(he:starEach [e] X.env=(false,eval e X.env)::starEach [] X.env:=by rfl):JE X XQ (.Call (.Name "tuple" p) [e] [] pos) (b1 Qg f):=Gd3 Gbw Giq hg hm (by rfl) ha (he:=he)
def Ggz(xs:List D)(S:Sto):Out D:=match xs with
 | [.int i,.int j]=>.ok (.int (if j<i then j else i)) S
 | _=>.bad
theorem Grd{K:PySem.W.Frag}:BlD K (fun xs H Q=>∃ i j,xs=[.int i,.int j]/\Q (.int (if j<i then j else i)) H) Ggz:=by
 intro XQ σ ρ mp H S xs vs Q rs r p
 unfold Ggz at p
 split at p
 ·rename_i i j
  obtain⟨v,w,rfl,h1,h2⟩:=RepL.two r
  cases (show v=.int i from h1); cases (show w=.int j from h2)
  exact⟨i,j,rfl,Gn.ok (R:=Rep K) p rs rfl⟩
 ·exact p.elim
theorem Gre{p pos:Pos}{e e':Expr}{f:Ev (List D)}(hc:X.calm=true)(hg:Gl X "min")(hm:X.mg "min"=none)(ha:JA X XQ [e,e'] f)(he:starEach [e,e'] X.env=(false,eval e X.env)::starEach [e'] X.env:=by rfl)(hpl:(backTo pos (starEach [e'] X.env)).any (·.1)=false:=by rfl):JE X XQ (.Call (.Name "min" p) [e,e'] [] pos) (b1 Ggz f):=Ga3 (Ggs hc) Grd hg hm (by rfl) ha (he:=he) (hpl:=hpl)
def Gda(xs:List D)(S:Sto):Out D:=match xs with
 | [.int i]=>.ok (.int i) S
 | [.bl b]=>.ok (.int (if b then 1 else 0)) S
 | _=>.bad
theorem Grf{K:PySem.W.Frag}:BlD K (fun xs H Q=>(∃ i,xs=[.int i]/\Q (.int i) H)\/∃ k,xs=[.bl k]/\Q (.int (if k then 1 else 0)) H) Gda:=by
 intro XQ σ ρ mp H S xs vs Q rs r p
 unfold Gda at p
 split at p
 ·rename_i i
  obtain⟨v,rfl,h⟩:=RepL.one r
  cases (show v=.int i from h)
  exact .inl ⟨i,rfl,Gn.ok (R:=Rep K) p rs rfl⟩
 ·rename_i b
  obtain⟨v,rfl,h⟩:=RepL.one r
  cases (show v=.bl b from h)
  exact .inr ⟨b,rfl,Gn.ok (R:=Rep K) p rs rfl⟩
 ·exact p.elim
theorem Gl4{p pos:Pos}{e:Expr}{f:Ev (List D)}(hg:Gl X "int")(hm:X.mg "int"=none)(ha:JA X XQ [e] f)(he:starEach [e] X.env=(false,eval e X.env)::starEach [] X.env:=by rfl):JE X XQ (.Call (.Name "int" p) [e] [] pos) (b1 Gda f):=Gd3 Ggt Grf hg hm (by rfl) ha (he:=he)
def Vx(x y:D)(S:Sto):Out D:=match x,y with
 | .non,.non=>.ok (.bl true) S
 | .bl _,.non=>.ok (.bl false) S
 | .int _,.non=>.ok (.bl false) S
 | .str _,.non=>.ok (.bl false) S
 | .tup _,.non=>.ok (.bl false) S
 | .lst _,.non=>.ok (.bl false) S
 | .exn _ _,.non=>.ok (.bl false) S
 | _,_=>.bad
theorem Gis{K:PySem.W.Frag}:OpD K (fun x y H Q=>y=.non/\Q (.bl (decide (x=.non))) H) Vx:=by
 intro XQ σ ρ mp H S x y v u Q rs rx ry p
 cases y with
 | non=>
  refine⟨ry,?_⟩
  cases x with
  | non=>cases (show v=.non from rx); exact Gn.ok (R:=Rep K) p rs (by rfl)
  | bl b=>cases (show v=.bl b from rx); exact Gn.ok (R:=Rep K) p rs (by rfl)
  | int b=>cases (show v=.int b from rx); exact Gn.ok (R:=Rep K) p rs (by rfl)
  | str b=>cases (show v=.str b from rx); exact Gn.ok (R:=Rep K) p rs (by rfl)
  | tup l=>obtain⟨a,xs,rfl,_⟩:=Rep.tup rx; exact Gn.ok (R:=Rep K) p rs (by rfl)
  | lst i=>obtain⟨a,rfl,_⟩:=(show ∃ a,v=.ref a/\mp[i]?=some a from rx); exact Gn.ok (R:=Rep K) p rs (by rfl)
  | exn c n=>obtain⟨a,dx,_,rfl,_⟩:=(show ∃ a dx p,v=.ref a/\(CN K c p/\XCl K p/\H a=some (XO a p dx))/\∀ i,n=some i->∃ d,dx=some d/\H d=some (XA d i) from rx); exact Gn.ok (R:=Rep K) p rs (by rfl)
  | fv c=>exact(show False from p).elim
 | _=>cases x<;>exact(show False from p).elim
section
variable{a b:Expr}{fa fb:Ev D}{pos:Pos}
theorem Grg(ha:JE X XQ a fa)(hb:JE X XQ b fb):JE X XQ (.Compare a [.Is] [b] pos) (o2 Vx fa fb):=Gc3 Gh0 Gis ha hb (nomark _)
theorem Grh(ha:JE X XQ a fa)(hb:JE X XQ b fb):JT X XQ (.Compare a [.Is] [b] pos) (tb (o2 Vx fa fb)):=Ga1 Gh0 Gis ha hb (nomark _)
end
def Zj(xs:List D)(lo hi:Option Int):List D:=(xs.drop (HT.sIx xs.length 0 lo)).take (HT.sIx xs.length xs.length hi-HT.sIx xs.length 0 lo)
theorem RepL.cut{K:PySem.W.Frag}{mp:List Addr}{H:Hp}{l:List D}{vs:List V}(h:RepL K mp H l vs)(lo hi:Option Int):RepL K mp H (Zj l lo hi) (Gd0 vs lo hi):=by
 unfold Zj Gd0
 rw[h.len]
 exact(h.drop _).take _
def slD(x:D)(lo hi:Option Int)(S:Sto):Out D:=match x with
 | .tup l=>if HT.sIx l.length 0 lo=0/\HT.sIx l.length l.length hi=l.length then .bad else .ok (.tup (Zj l lo hi)) S
 | .lst i=>match S[i]? with
  | some c=>.ok (.lst S.length) (S++[⟨false,Zj c.xs lo hi⟩])
  | none=>.bad
 | _=>.bad
def sl(fe:Ev D)(fl fh:Ev (Option Int)):Ev D:=fun ρ S=>(fe ρ S).bind fun x S1=>(fl ρ S1).bind fun l S2=>(fh ρ S2).bind fun u S3=>slD x l u S3
def onone:Ev (Option Int):=fun _ S=>.ok none S
def osome(f:Ev D):Ev (Option Int):=fun ρ S=>(f ρ S).bind fun x S1=>match x with
 | .int i=>.ok (some i) S1
 | _=>.bad
theorem Gl5:JO X XQ none onone:=PO.mono Gle fun σ H Q ⟨mp,ρ,S,G,p⟩=>Gn.ok (R:=kO) (show Gn X.K kO XQ σ ρ mp H (.ok none S) Q from p) G.rs rfl
theorem Gl6{e:Expr}{f:Ev D}(h:JE X XQ e f):JO X XQ (some e) (osome f):=PO.mono (Glf h) fun σ H Q ⟨mp,ρ,S,G,p⟩=>bindP G p fun mp1 H1 x S1 v a1 G1 r1 p1=>by
 cases x with
 | int i=>exact⟨i,r1,Gn.ok (R:=kO) p1 G1.rs rfl⟩
 | _=>exact(show False from p1).elim
def MeD(K:PySem.W.Frag)(r:V->List V->Hp->VK->Prop)(o:D->List D->Sto->Out D):Prop:=
 ∀ (XQ:XW) (σ:L2.St) (ρ:Lc) (mp:List Addr) (H:Hp) (S:Sto) (x:D) (xs:List D) (v:V) (vs:List V) (Q:VK),RS K mp H S->Rep K mp H x v->RepL K mp H xs vs->Post K XQ σ ρ mp H (o x xs S) Q->r v vs H Q
def isLst(x:D)(S:Sto):Bool:=match x with
 | .lst i=>match S[i]? with
  | some _=>true
  | none=>false
 | _=>false
def mt(o:D->List D->Sto->Out D)(fo:Ev D)(f:Ev (List D)):Ev D:=fun ρ S=>(fo ρ S).bind fun x S1=>if isLst x S1=true then(f ρ S1).bind fun xs S2=>o x xs S2 else .bad
theorem Gdb{id:String}{name:Str}{o e:Expr}{es:List Expr}{apos cpos:Pos}{r:V->List V->Hp->VK->Prop}{od:D->List D->Sto->Out D}{fo:Ev D}{f:Ev (List D)}(slot:Slot "list" name id)(hty:typeOf (.builtin id)=pure (.type "method_descriptor"))(hm:MtM X id r)(hd:MeD X.K r od)(ho:JE X XQ o fo)(ha:JA X XQ (e::es) f)
  (hbase:attributeBase o name X.env (eval o X.env)=eval o X.env:=by rfl)
  (hfew:((backTo cpos (starEach (e::es) X.env)).all (fun x=>!x.1)&&(backToKw cpos (keywordEach [] X.env)).all (fun x=>x.1.isSome)
   && decide ((e::es).length+([]:List Keyword).length+(if([]:List Keyword).isEmpty then 0 else 1)<30))=true:=by rfl)
  (hline:(apos.endLine==cpos.line)=true:=by rfl) (hs:starEach (e::es) X.env=(false,eval e X.env)::starEach es X.env:=by rfl) (hplain:(backTo cpos (starEach es X.env)).any (·.1)=false:=by rfl):
  JE X XQ (.Call (.Attribute o name apos) (e::es) [] cpos) (mt od fo f):=by
 refine PE.mono (Gib PySem.F.plainAttrs_list slot hty hm ho ha hbase hfew hline hs hplain) fun σ H Q ⟨mp,ρ,S,G,p⟩=>?_
 refine bindP G p fun mp1 H1 x S1 v a1 G1 r1 p1=>?_
 by_cases hl:isLst x S1=true
 ·rw[if_pos hl] at p1
  have ty:tyV X.K "list" v H1:=by
   cases x with
   | lst i=>
    cases zc:S1[i]? with
    | none=>simp[isLst,zc] at hl
    | some c=>
     obtain⟨a,xs,rfl,_,sq,_⟩:=G1.rs.items r1 zc
     exact .inl ⟨rfl,xs,sq⟩
   | _=>simp[isLst] at hl
  exact⟨ty,bindP G1 p1 fun mp2 H2 xs S2 vs a2 G2 r2 p2=>hd XQ σ ρ mp2 H2 S2 x xs v vs Q G2.rs (Rep.aft a2 _ _ r1) r2 p2⟩
 ·rw[if_neg hl] at p1; exact p1.elim
def Xr(x:D)(xs:List D)(S:Sto):Out D:=match x,xs with
 | .lst i,[d]=>match S[i]? with
  | some c=>if c.fz=false/\c.xs.length<1000000 then .ok .non (S.set i ⟨false,c.xs++[d]⟩) else .bad
  | none=>.bad
 | _,_=>.bad
theorem Gri{K:PySem.W.Frag}:MeD K Gfw Xr:=by
 intro XQ σ ρ mp H S x xs v vs Q rs rx r p
 unfold Xr at p
 split at p
 ·rename_i i d
  split at p
  ·rename_i c zc
   by_cases hc:c.fz=false/\c.xs.length<1000000
   ·rw[if_pos hc] at p
    obtain⟨w,rfl,hw⟩:=RepL.one r
    obtain⟨a,ys,rfl,ha,sq,q,f⟩:=rs.items rx zc
    have hH:=f hc.1
    obtain⟨af,rs'⟩:=rs.setL ha zc hc.1 hH (RepL.append q (RepL.cons hw RepL.nil))
    exact⟨a,ys,w,rfl,rfl,hH,by rw[q.len]; exact Nat.lt_of_lt_of_le hc.2 (by decide),p mp _ _ af rs' rfl⟩
   ·rw[if_neg hc] at p; exact p.elim
  ·exact p.elim
 ·exact p.elim
theorem Gg0{o e:Expr}{apos cpos:Pos}{fo:Ev D}{f:Ev (List D)}(ho:JE X XQ o fo)(ha:JA X XQ [e] f)(hbase:attributeBase o "append" X.env (eval o X.env)=eval o X.env:=by rfl)
  (hfew:((backTo cpos (starEach [e] X.env)).all (fun x=>!x.1)&&(backToKw cpos (keywordEach [] X.env)).all (fun x=>x.1.isSome)
   && decide ([e].length+([]:List Keyword).length+(if([]:List Keyword).isEmpty then 0 else 1)<30))=true:=by rfl)
  (hline:(apos.endLine==cpos.line)=true:=by rfl) (hs:starEach [e] X.env=(false,eval e X.env)::starEach [] X.env:=by rfl):
  JE X XQ (.Call (.Attribute o "append" apos) [e] [] cpos) (mt Xr fo f):=Gdb PySem.F.slot_list_append PySem.F.type_list_append Gcg Gri ho ha hbase hfew hline hs rfl
end
section
variable{X:Cx}{XQ:XW}
theorem Grj{K:PySem.W.Frag}:UnD K (rU fun i=>.int (-i)) Gfc:=by
 intro XQ σ ρ mp H S x v Q rs rx p
 cases x with
 | int i=>exact⟨i,rx,Gn.ok (R:=Rep K) (show Post K XQ σ ρ mp H (.ok (.int (-i)) S) Q from p) rs rfl⟩
 | _=>exact(show False from p).elim
theorem Grk{a:Expr}{fa:Ev D}{pos:Pos}(ha:JE X XQ a fa):JE X XQ (.UnaryOp .USub a pos) (o1 Gfc fa):=Gur Gpy Grj ha
def ch(o o':D->D->Sto->Out D)(fa fb fc:Ev D):Ev D:=fun ρ S=>(fa ρ S).bind fun x S1=>(fb ρ S1).bind fun y S2=>(o x y S2).bind fun z S3=>match z with
 | .bl k=>if k=true then(fc ρ S3).bind fun w S4=>o' y w S4 else .ok (.bl false) S3
 | _=>.bad
theorem Grl{K:PySem.W.Frag}{r r':R2}{o o':D->D->Sto->Out D}{fa fb fc:Ev D}(hd:OpD K r o)(hd':OpD K r' o')(σ:L2.St)(H:Hp)(Q:VK)(h:rdE K XQ (ch o o' fa fb fc) σ H Q):Gh1 r r' (rdE K XQ fa) (rdE K XQ fb) (rdE K XQ fc) σ H Q:=by
 obtain⟨mp,ρ,S,G,p⟩:=h
 refine bindP G p fun mp1 H1 x S1 v a1 G1 r1 p1=>?_
 refine bindP G1 p1 fun mp2 H2 y S2 u a2 G2 r2 p2=>?_
 refine hd XQ σ ρ mp2 H2 S2 x y v u _ G2.rs (Rep.aft a2 _ _ r1) r2 ?_
 cases z:o x y S2 with
 | bad=>rw[z] at p2; exact p2
 | exc e S3=>rw[z] at p2; exact p2
 | ok d S3=>
  rw[z] at p2
  intro mp3 H3 zv a3 rs3 r3
  have p3:=Gn.aft p2 a3
  have G3:=G2.aft a3 rs3
  cases d with
  | bl k=>
   refine⟨k,r3,?_⟩
   cases k with
   | true=>exact(if_pos rfl).mpr (bindP (f:=fc) G3 (by simpa[Out.bind] using p3) fun mp4 H4 w S4 wv a4 G4 r4 p4=>hd' XQ σ ρ mp4 H4 S4 y w u wv Q G4.rs (Rep.aft (a3.trans a4) _ _ r2) r4 p4)
   | false=>exact(if_neg Bool.false_ne_true).mpr (Gn.ok (R:=Rep K) (d:=.bl false) (S:=S3) (by simpa[Out.bind] using p3) G3.rs rfl)
  | _=>exact(show False from p3).elim
theorem Git{a b c:Expr}{op op':CmpOp}{r r':R2}{o o':D->D->Sto->Out D}{fa fb fc:Ev D}{pos:Pos}(ho:OpR X (compareOp op) r)(hd:OpD X.K r o)(ho':OpR X (compareOp op') r')(hd':OpD X.K r' o')(ha:JE X XQ a fa)(hb:JE X XQ b fb)(hc:JE X XQ c fc)
  (hm:lastMarks [op,op'] [b,c]=false:=by with_unfolding_all rfl):JT X XQ (.Compare a [op,op'] [b,c] pos) (tb (ch o o' fa fb fc)):=PT.mono (Gh2 ho ho' ha hb hc hm) fun σ H Q h=>Grl hd hd' σ H _ (Gii h)
theorem Gfz{K:PySem.W.Frag}:OpD K (rI0 fun i j=>.bl (decide (i<=j))) leD:=od_int0 fun _ _ _ _=>rfl
end
def XAt(a c:Addr)(h:Heap):Prop:=∃ oe,h.get? a=some oe/\oe.cls=.ref c/\∃ vs,oe.data=.fields vs
section
variable{prog:Program}{w:World}{A:Around}{E:Value->Shared->Prop}{h:Heap}{g:Array GenState}{d:Drawn}{t:Nat}{os:OsState}{a c:Addr}{o:Obj}{K:PySem.W.Frag}
theorem Grm{M:Model}(x:XAt a c h):PySem.W.Looks M h (typeOf (.ref a)) (.ref c):=by
 obtain⟨oe,h1,h2,_⟩:=x
 exact h2▸(PySem.W.Looks.ld h1).andThen .now
theorem Grn{tp:Value}{R:Result->Shared->Prop}(X:K.In h)(k:XCl K c)(x:XAt a c h)(hq:R (.ok (.ret (.ref c))) ⟨h,g,d,t,os⟩):
  codeAny (model prog w) A (.call (.builtin "getset_descriptor.__get__") ⟨[.builtin "object.__class__",.ref a,tp],[]⟩) R ⟨h,g,d,t,os⟩:=by
 obtain⟨oe,hx,hc,_⟩:=x
 have hT5:(⟨h,g,d,t,os⟩:Shared).TypeIs (.builtin "object.__class__") "getset_descriptor":=F.typeOf_object_class
 refine codeAny_call_builtin F.slot_gs_get.plain F.entry_gs_get (F.slot_gs_get.check _ _ _ _ _ _ _ _ hT5 (F.args_gs_get _ _ _) ?_)
 have L1:=fun(M:Model)=>PySem.W.looks_mroIn (M:=M) X k.ob
 have ow:=F.owner_object_class
 repeat (any_goals (first | assumption | (with_reducible refine wpAny_loadPart_at hx ?_; rw[hc]) | (rw[ow]; with_reducible refine(L1 _).here ?_) | wp_step))
 refine⟨Code.quiet_builtin _ (by decide +kernel),codeAny_builtin F.entry_object_class ?_⟩
 repeat (any_goals (first | assumption | (with_reducible refine wpAny_loadPart_at hx ?_; rw[hc]) | wp_step))
theorem Gd4{M:Model}{nameV:Value}{Q:Unit->Shared->Prop}(X:K.In h)(k:XCl K c)(x:XAt a c h)(hq:Q () ⟨h,g,d,t,os⟩):wpAny M A (checkBuiltinCall "BaseException.__getattribute__" ⟨[.ref a,nameV],[]⟩) Q E ⟨h,g,d,t,os⟩:=by
 obtain⟨oe,hx,hc,_⟩:=x
 have bk:builtinKind "BaseException.__getattribute__"=some .slot:=by decide +kernel
 have bs:splitId "BaseException.__getattribute__"=some ("BaseException","__getattribute__"):=by decide +kernel
 have ha:=F.args_bexc_ga (.ref a) nameV
 have L1:PySem.W.Looks M h (isSubtype (.ref c) (.type "BaseException")) true:=PySem.W.looks_subIn X k.be
 simp only[checkBuiltinCall,bk,bs]
 refine wpAny_bind ?_
 ·unfold isInstance
  repeat (first | (with_reducible refine wpAny_loadPart_at hx ?_; rw[hc]) | (with_reducible refine L1.here ?_) | wp_step)
  exact hq
theorem Giu{tk:Tok}{Q:Fin->Shared->Prop}(X:K.In h)(k:XCl K c)(x:XAt a c h)(hq:Q (.done (.ret (.ref c))) ⟨h,g,d,t,os⟩):
  wpAny (model prog w) A (Builtin.«object.__getattribute__» ⟨[.ref a,.str "__class__" tk],[]⟩) Q E ⟨h,g,d,t,os⟩:=by
 obtain⟨oe,hx,hc,hv⟩:=id x
 have hT5:(⟨h,g,d,t,os⟩:Shared).TypeIs (.builtin "object.__class__") "getset_descriptor":=F.typeOf_object_class
 have f5:=F.typeOf_object_class
 have f6:=F.slot_gs_get.lookup
 have f7:=F.slot_gs_set.lookup
 have L1:=fun(M:Model)=>PySem.W.looks_findIn (M:=M) X k.cl
 repeat (any_goals (first | assumption | (with_reducible refine wpAny_loadPart_at hx ?_; rw[hc]) | with_reducible refine(L1 _).here ?_ | wp_step))
 refine Grn X k x ?_
 repeat (any_goals (first | assumption | wp_step))
theorem Gu5{tk:Tok}{fill expr:Bool}{Q:Value->Shared->Prop}(X:K.In h)(k:XCl K c)(x:XAt a c h)(hq:Q (.ref c) ⟨h,g,d,t,os⟩):
  wpAny (model prog w) A (getAttrBy (.ref a) (.str "__class__" tk) fill expr) Q E ⟨h,g,d,t,os⟩:=by
 obtain⟨oe,hx,hc,hv⟩:=id x
 have f3:=PySem.F.excAttr_ValueError.ga.bind (.ref a)
 have n0:(expr&&onTheHeap (Value.builtin "BaseException.__getattribute__"))=false:=by cases expr<;>rfl
 have n2:(Value.builtin "BaseException.__getattribute__"==Value.builtin "object.__getattribute__")=false:=by decide +kernel
 have n1:(onTheHeap (Value.ref c)&&Value.builtin "BaseException.__getattribute__"==Value.builtin "object.__getattribute__")=false:=by rw[n2]; rfl
 have L1:=fun(M:Model)=>PySem.W.looks_findIn (M:=M) X k.ga
 have L2:=fun(M:Model)=>PySem.W.looks_findIn (M:=M) X k.gt
 repeat (any_goals (first | assumption | (with_reducible refine wpAny_loadPart_at hx ?_; rw[hc]) | with_reducible refine(L1 _).here ?_ | with_reducible refine(L2 _).here ?_ | wp_step))
 refine codeAny_call_builtin PySem.F.excAttr_ValueError.ga.plain F.entry_bexc_ga (Gd4 X k x (Giu X k x ?_))
 repeat (any_goals (first | assumption | wp_step))
theorem Gl7{Q:Option Value->Shared->Prop}(X:K.In h)(k:XCl K c)(x:XAt a c h)(hq:Q (some (.ref c)) ⟨h,g,d,t+1,os⟩):wpAny (model prog w) A (getAttr? (.ref a) "__class__") Q E ⟨h,g,d,t,os⟩:=by
 unfold getAttr? getAttrBy?
 repeat (any_goals (first | assumption | with_reducible apply Gu5 X k x | wp_step))
end
theorem Ga4{K:PySem.W.Frag}{a c:Addr}(k:XCl K c):PySem.W.KitX K (.ref a) (.ref c) (XAt a c) where
 ty:=fun _ _ _ x=>Grm x
 it:=fun _ _ X _=>by
  obtain⟨cd,hc⟩:=Option.isSome_iff_exists.mp k.cd
  unfold PySem.W.clsIn at hc
  split at hc
  ·rename_i c' d' cd' sl' ho
   intro A Q E s kp q
   unfold isType loadHead
   exact wpAny_bind (wpAny_loadPart (kp _ _ (X _ _ ho)) (wpAny_pure q))
  ·cases hc
 ne:=fun h tp dd its n sl X htp=>by
  obtain⟨cd,hc⟩:=Option.isSome_iff_exists.mp k.cd
  refine Bool.eq_false_iff.mpr fun q=>?_
  have e:c=tp:=Value.ref.inj (beq_iff_eq.mp q)
  subst e
  unfold PySem.W.clsIn at hc
  split at hc
  ·rename_i c' d' cd' sl' ho
   cases (X _ _ ho).symm.trans htp
  ·cases hc
 ca:=fun{prog w A E Q s} X x q=>by
  obtain⟨hh,g,d,t,os⟩:=s
  exact Gl7 X k x q
def tyN:D->String
 | .non=>"NoneType"
 | .bl _=>"bool"
 | .int _=>"int"
 | .str _=>"str"
 | .tup _=>"tuple"
 | .lst _=>"list"
 | .exn _ _=>"exn"
 | .fv _=>"fv"
def isT(T t:String):Bool:=t==T||(T=="int"&&t=="bool")
def isD(T:String)(x:D)(S:Sto):Out D:=match x with
 | .fv _=>.bad
 | _=>.ok (.bl (isT T (tyN x))) S
def Kit(K:PySem.W.Frag)(T:String):Prop:=T∈["bool","int","str","tuple","list"]/\∀ t∈["NoneType","bool","int","str","tuple","list"],PySem.W.kitOne K (.type t) (.type T)=some (isT T t)
theorem Gl8{K:PySem.W.Frag}:Kit K "int":=by refine⟨by decide,?_⟩; intro t h; simp only[List.mem_cons,List.mem_nil_iff,or_false] at h; rcases h with rfl | rfl | rfl | rfl | rfl | rfl<;>first | rfl | decide +kernel | (with_unfolding_all rfl)
theorem Giv{K:PySem.W.Frag}:Kit K "bool":=by refine⟨by decide,?_⟩; intro t h; simp only[List.mem_cons,List.mem_nil_iff,or_false] at h; rcases h with rfl | rfl | rfl | rfl | rfl | rfl<;>first | rfl | decide +kernel | (with_unfolding_all rfl)
theorem Hk{K:PySem.W.Frag}:Kit K "tuple":=by refine⟨by decide,?_⟩; intro t h; simp only[List.mem_cons,List.mem_nil_iff,or_false] at h; rcases h with rfl | rfl | rfl | rfl | rfl | rfl<;>first | rfl | decide +kernel | (with_unfolding_all rfl)
theorem Qm{K:PySem.W.Frag}:Kit K "str":=by refine⟨by decide,?_⟩; intro t h; simp only[List.mem_cons,List.mem_nil_iff,or_false] at h; rcases h with rfl | rfl | rfl | rfl | rfl | rfl<;>first | rfl | decide +kernel | (with_unfolding_all rfl)
theorem Hy{K:PySem.W.Frag}:Kit K "list":=by refine⟨by decide,?_⟩; intro t h; simp only[List.mem_cons,List.mem_nil_iff,or_false] at h; rcases h with rfl | rfl | rfl | rfl | rfl | rfl<;>first | rfl | decide +kernel | (with_unfolding_all rfl)
section
variable{X:Cx}{XQ:XW}
def Gwr(K:PySem.W.Frag)(T:String):List V->Hp->VK->Prop:=fun vs H Q=>∃ x t,vs=[x,.ty T]/\(match x with
 | .non=>t="NoneType" | .bl _=>t="bool" | .int _=>t="int" | .str _=>t="str"
 | .ref a=>(t="tuple"/\∃ xs,SqT K H a xs)\/(t="list"/\∃ xs,SqL K H a xs)\/(t="exn"/\∃ c dx,XCl K c/\H a=some (XO a c dx))
 | _=>False)/\Q (.bl (isT T t)) H
theorem Giw{pins:List (Addr×Obj)}{σ:L2.St}{H:Hp}{s:Shared}{a c:Addr}{dx:Option Addr}(I:Inv X pins σ H s)(h:H a=some (XO a c dx)):XAt a c s.heap:=by
 obtain⟨⟨oe,h1,h2,_,h3⟩,_,_⟩:=(show Jt X.prog X.w H s.heap a (XO a c dx) from I.hok a _ h)
 exact⟨oe,h1,h2,h3⟩
theorem Gl9{T:String}(h:T∈["bool","int","str","tuple","list"]):isT T "exn"=false:=by
 simp only[List.mem_cons,List.mem_nil_iff,or_false] at h
 rcases h with rfl | rfl | rfl | rfl | rfl<;>rfl
theorem Gix{T:String}(k:Kit X.K T):Qq X (.builtin "isinstance") (Gwr X.K T):=by
 intro pins s σ H xs us Q I r ⟨x,t,e,h,q⟩
 subst e
 obtain⟨u,w,rfl,ru,rw'⟩:=Vals.two r
 cases (show w=Value.type T from rw')
 have fin:∀ tk,EP X pins σ Q (.bool (isT T t)) { s with toks:=tk }:=fun tk=>⟨.bl _,H,I.tok tk,rfl,q⟩
 cases x with
 | non=>cases (show u=Value.none from ru); cases (show t="NoneType" from h); exact PySem.W.kia_one PySem.W.kitx_none I.kIn True.intro (k.2 _ (by decide)) (fun z=>nomatch z) fin
 | bl y=>cases (show u=Value.bool y from ru); cases (show t="bool" from h); exact PySem.W.kia_one PySem.W.kitx_bool I.kIn True.intro (k.2 _ (by decide)) (fun z=>nomatch z) fin
 | int i=>obtain⟨tk,e⟩:=(show ∃ t,u=Value.int i t from ru); cases e; cases (show t="int" from h); exact PySem.W.kia_one PySem.W.kitx_int I.kIn True.intro (k.2 _ (by decide)) (fun z=>nomatch z) fin
 | str y=>obtain⟨tk,e⟩:=(show ∃ t,u=Value.str y t from ru); cases e; cases (show t="str" from h); exact PySem.W.kia_one PySem.W.kitx_str I.kIn True.intro (k.2 _ (by decide)) (fun z=>nomatch z) fin
 | ref a=>
  cases (show u=Value.ref a from ru)
  rcases h with⟨rfl,xs,sq⟩ | ⟨rfl,xs,sq⟩ | ⟨rfl,c,dx,xc,hH⟩
  ·obtain⟨its,_,⟨o,h1,h2,_⟩,_⟩:=I.tuple sq
   exact PySem.W.kia_one PySem.W.kitx_tuple I.kIn ⟨o,h1,h2⟩ (k.2 _ (by decide)) (fun z=>nomatch z) fin
  ·obtain⟨its,_,⟨o,n,h1,h2,_⟩,_⟩:=I.list sq
   exact PySem.W.kia_one PySem.W.kitx_list I.kIn ⟨o,h1,h2⟩ (k.2 _ (by decide)) (fun z=>nomatch z) fin
  ·have xa:=Giw I hH
   have e:isT T "exn"=false:=Gl9 k.1
   rw[e] at fin
   exact PySem.W.kia_one (Ga4 xc) I.kIn xa (xc.bt T k.1) (fun z=>nomatch z) fin
 | _=>exact h.elim
theorem Gro{T:String}{x:Str}{e:Expr}{f:Ev D}{p p2 pos:Pos}(k:Kit X.K T)(hv:bootBuiltins x=some (.type T))(hnx:x≠"__name__")(hdx:(x==("__debug__":Str))=false)(hg:Gl X "isinstance")(hm:X.mg "isinstance"=none)(hgt:Gl X x)(hmt:X.mg x=none)(he:JE X XQ e f)
  (hs:starEach [e,.Name x p2] X.env=(false,eval e X.env)::starEach [.Name x p2] X.env) (hpl:(backTo pos (starEach [.Name x p2] X.env)).any (·.1)=false) (hs2:starEach [.Name x p2] X.env=(false,eval (.Name x p2) X.env)::starEach [] X.env):
  JE X XQ (.Call (.Name "isinstance" p) [e,.Name x p2] [] pos) (o1 (isD T) f):=by
 refine PE.mono (Wt (Gix k) hg hm (by rfl) (Ju he (Ju (Gft hgt hmt hv (v:=.ty T) rfl hnx hdx) pa_nil hs2) hs) (by decide) (by decide) hs hpl) fun σ H Q ⟨mp,ρ,S,G,q⟩=>?_
 refine bindP G q fun mp1 H1 d S1 v a1 G1 r1 p1=>?_
 have p2:(∃ c,d=.fv c)\/Post X.K XQ σ ρ mp1 H1 (.ok (.bl (isT T (tyN d))) S1) Q:=by cases d<;>first | exact .inr p1 | exact .inl ⟨_,rfl⟩
 rcases p2 with⟨c,rfl⟩ | p2
 ·exact(show False from p1).elim
 refine⟨v,tyN d,rfl,?_,Gn.ok (R:=Rep X.K) p2 G1.rs rfl⟩
 cases d with
 | non=>cases (show v=.non from r1); exact rfl
 | bl b=>cases (show v=.bl b from r1); exact rfl
 | int b=>cases (show v=.int b from r1); exact rfl
 | str b=>cases (show v=.str b from r1); exact rfl
 | tup l=>obtain⟨a,xs,rfl,sq,_⟩:=Rep.tup r1; exact .inl ⟨rfl,xs,sq⟩
 | lst i=>
  obtain⟨a,rfl,ha⟩:=(show ∃ a,v=.ref a/\mp1[i]?=some a from r1)
  have hl:i<S1.length:=by rw[<- G1.rs.len]; exact(List.getElem?_eq_some_iff.mp ha).1
  obtain⟨a2,xs,e2,_,sq,_⟩:=G1.rs.items r1 (List.getElem?_eq_getElem hl)
  cases e2
  exact .inr (.inl ⟨rfl,xs,sq⟩)
 | exn c n=>
  obtain⟨a,dx,q,rfl,⟨_,xc,hH⟩,_⟩:=(show ∃ a dx p,v=.ref a/\(CN X.K c p/\XCl X.K p/\H1 a=some (XO a p dx))/\∀ i,n=some i->∃ d,dx=some d/\H1 d=some (XA d i) from r1)
  exact .inr (.inr ⟨rfl,q,dx,xc,hH⟩)
 | fv c=>exact(show False from p1).elim
end
section
variable{X:Cx}{XQ:XW}
def Zw:List D->Option (List Bool)
 | []=>some []
 | .bl b::l=>match Zw l with
  | some r=>some (b::r)
  | none=>none
 | _::_=>none
def allD(xs:List D)(S:Sto):Out D:=match xs with
 | [.lst i]=>match S[i]? with
  | some c=>match Zw c.xs with
   | some bs=>.ok (.bl (bs.all id)) S
   | none=>.bad
  | none=>.bad
 | _=>.bad
theorem Gf0{K:PySem.W.Frag}{mp:List Addr}{H:Hp}:∀ {l:List D} {vs:List V} {bs:List Bool},RepL K mp H l vs->Zw l=some bs->vs=bs.map V.bl
 | [],vs,bs,h,e=>by cases (show vs=[] from h); cases (Option.some.inj e); rfl
 | .bl b::l,vs,bs,h,e=>by
  obtain⟨v,r,rfl,h1,h2⟩:=(show ∃ v r,vs=v::r/\Rep K mp H (.bl b) v/\RepL K mp H l r from h)
  cases (show v=.bl b from h1)
  cases z:Zw l with
  | none=>simp[Zw,z] at e
  | some q=>
   simp only[Zw,z] at e
   cases (Option.some.inj e)
   rw[Gf0 h2 z]
   rfl
 | .non::l,vs,bs,h,e=>by cases e
 | .int _::l,vs,bs,h,e=>by cases e
 | .str _::l,vs,bs,h,e=>by cases e
 | .tup _::l,vs,bs,h,e=>by cases e
 | .lst _::l,vs,bs,h,e=>by cases e
theorem Gd5:∀ {bs:List Bool} {us:List Value},Vals (bs.map V.bl) us->us=bs.map Value.bool
 | [],us,h=>by cases h; rfl
 | b::r,us,h=>by
  cases h with
  | cons h1 h2=>
   cases (show _=Value.bool b from h1)
   rw[Gd5 h2]
   rfl
theorem Gg1(bs:List Bool):((List.range bs.length).all fun i=>bs.getD i true)=bs.all id:=by
 rw[Bool.eq_iff_iff,List.all_eq_true,List.all_eq_true]
 constructor
 ·intro h b hb
  obtain⟨i,hi,e⟩:=List.getElem_of_mem hb
  have:=h i (List.mem_range.mpr hi)
  rw[List.getD_eq_getElem?_getD,List.getElem?_eq_getElem hi] at this
  simpa[e] using this
 ·intro h i hi
  have hi:=List.mem_range.mp hi
  rw[List.getD_eq_getElem?_getD,List.getElem?_eq_getElem hi]
  exact h _ (List.getElem_mem hi)
theorem Gdc(hc:X.calm=true):Qq X (.builtin "all") (fun xs H Q=>∃ (p:Addr) (bs:List Bool),xs=[.ref p]/\SqL X.K H p (bs.map V.bl)/\Q (.bl (bs.all id)) H):=by
 intro pins s σ H xs us Q I r ⟨p,bs,e,sq,q⟩
 subst e
 obtain⟨u,rfl,ru⟩:=r.one
 cases (show u=Value.ref p from ru)
 obtain⟨its,rv,pl,hz⟩:=I.list sq
 have ei:=Gd5 rv
 subst ei
 have hl:=pl.isList
 refine call_all_walk (wpAny_pyIter_list hl ?_)
 have hne:p≠s.heap.objs.size:=by
  obtain⟨o,n,ho,_⟩:=pl
  exact Nat.ne_of_lt (Heap.lt_size ho)
 refine⟨s.heap.objs.size,[s.heap.objs.size,p],[s.heap.objs.size],_,_,_,fun i=>bs.getD i true,rfl,Walks.list (by exact I.ok.hd hc) s.heap.objs.size p hne (bs.map Value.bool).toArray,⟨⟨_,Heap.get?_push_size _ rfl,rfl,rfl⟩,hl.push _⟩,fun i v s' Q' E' hP hQ'=>?_,fun h' tk hk=>?_⟩
 ·have hP:(bs.map Value.bool)[i]?=some v:=by simpa using hP
  rw[List.getElem?_map] at hP
  cases z:bs[i]? with
  | none=>rw[z] at hP; cases hP
  | some b=>
   rw[z] at hP
   cases (Option.some.inj hP)
   refine wpAny_truthy_bool ?_
   have e:bs.getD i true=b:=by rw[List.getD_eq_getElem?_getD,z]; rfl
   have hQ2:Q' (bs.getD i true) s':=hQ'
   rw[e] at hQ2
   exact hQ2
 ·have hs:((List.range (bs.map Value.bool).toArray.size).all fun i=>bs.getD i true)=bs.all id:=by simpa using Gg1 bs
  rw[hs]
  refine⟨.bl _,H,I.kept (h':=h') (t':=tk) fun b o e=>hk b o (fun z=>absurd (Heap.lt_size e) (by rw[show b=s.heap.objs.size from List.mem_singleton.mp z]; exact Nat.lt_irrefl _)) (Heap.get?_push_of_some _ e),rfl,q⟩
theorem Grp{K:PySem.W.Frag}:BlD K (fun xs H Q=>∃ (p:Addr) (bs:List Bool),xs=[.ref p]/\SqL K H p (bs.map V.bl)/\Q (.bl (bs.all id)) H) allD:=by
 intro XQ σ ρ mp H S xs vs Q rs r p
 unfold allD at p
 split at p
 ·obtain⟨v,rfl,h⟩:=RepL.one r
  split at p
  ·rename_i c zc
   split at p
   ·rename_i bs zb
    obtain⟨a,xs,rfl,_,sq,q,_⟩:=rs.items h zc
    rw[Gf0 q zb] at sq
    exact⟨a,bs,rfl,sq,Gn.ok (R:=Rep K) p rs rfl⟩
   ·exact p.elim
  ·exact p.elim
 ·exact p.elim
theorem Grq{p pos:Pos}{e:Expr}{f:Ev (List D)}(hc:X.calm=true)(hg:Gl X "all")(hm:X.mg "all"=none)(ha:JA X XQ [e] f)(he:starEach [e] X.env=(false,eval e X.env)::starEach [] X.env:=by rfl):JE X XQ (.Call (.Name "all" p) [e] [] pos) (b1 allD f):=Ga3 (Gdc hc) Grp hg hm (by rfl) ha (he:=he)
end
section
variable{X:Cx}{XQ:XW}
def Gd6(x:D)(xs:List D)(S:Sto):Out D:=match x,xs with
 | .lst k,[.int i]=>match S[k]? with
  | some c=>if c.fz=false/\0<=i/\i<=1000000 then(match c.xs[i.toNat]? with
   | some d=>.ok d (S.set k ⟨false,c.xs.eraseIdx i.toNat⟩)
   | none=>.bad) else .bad
  | none=>.bad
 | _,_=>.bad
theorem RepL.erase{K:PySem.W.Frag}{mp:List Addr}{H:Hp}:∀ {l:List D} {vs:List V} (n:Nat),RepL K mp H l vs->RepL K mp H (l.eraseIdx n) (vs.eraseIdx n)
 | [],vs,n,h=>by cases (show vs=[] from h); exact RepL.nil
 | d::l,vs,0,h=>by
  obtain⟨v,r,q,h1,h2⟩:=h
  subst q
  exact h2
 | d::l,vs,n+1,h=>by
  obtain⟨v,r,q,h1,h2⟩:=h
  subst q
  exact RepL.cons h1 (RepL.erase n h2)
theorem Grr{K:PySem.W.Frag}:MeD K Gid Gd6:=by
 intro XQ σ ρ mp H S x xs v vs Q rs rx r p
 unfold Gd6 at p
 split at p
 ·rename_i k i
  split at p
  ·rename_i c zc
   by_cases hc:c.fz=false/\0<=i/\i<=1000000
   ·rw[if_pos hc] at p
    split at p
    ·rename_i d zd
     obtain⟨w,rfl,hw⟩:=RepL.one r
     cases (show w=.int i from hw)
     obtain⟨a,ys,rfl,ha,sq,q,f⟩:=rs.items rx zc
     have hH:=f hc.1
     obtain⟨y,hy,ry⟩:=q.get zd
     obtain⟨af,rs'⟩:=rs.setL ha zc hc.1 hH (q.erase i.toNat)
     have hl:i.toNat<ys.length:=(List.getElem?_eq_some_iff.mp hy).1
     exact⟨a,ys,i,i.toNat,y,rfl,rfl,hH,by omega,by omega,seqIndex_of hc.2.1 (by omega),hy,p mp _ _ af rs' (Rep.aft af _ _ ry)⟩
    ·exact p.elim
   ·rw[if_neg hc] at p; exact p.elim
  ·exact p.elim
 ·exact p.elim
def Gu6:V->List V->Hp->VK->Prop:=fun x vs H Q=>∃ l xs i y,x=.ref l/\vs=[.int i,y]/\H l=some (.lst xs)/\0<=i/\i<2^63/\xs.length<sizeLine/\Q .non (upd H l (.lst (xs.take (min i.toNat xs.length)++y::xs.drop (min i.toNat xs.length))))
theorem Grs:MtM X "list.insert" Gu6:=by
 intro pins s σ H x vs v us Q I rx rv h
 obtain⟨l,xs,i,y,rfl,rfl,hH,h1,h2,hz,q⟩:=h
 cases rx
 obtain⟨ui,uy,rfl,ri,ry⟩:=rv.two
 obtain⟨t,rfl⟩:=ri
 obtain⟨z,its,n,r,hl,e⟩:=I.lstM hH
 have hlt:¬ i<0:=by omega
 refine call_meets F.slot_list_insert ⟨_,e,rfl⟩ F.entry_list_insert (F.args_list_insert_3 _ _ _)
  (PySem.AutoListH.list_insert_list_int_val_1 l its.toArray n i t uy (by rw[fitsIndex_of h1 h2]; decide) (by rw[List.size_toArray]; omega)) ⟨e,?_⟩
 refine⟨.non,_,I.lset (its':=its.take (min i.toNat xs.length)++uy::its.drop (min i.toNat xs.length)) hH e ?_ ((r.take _).append (.cons ry (r.drop _))) ?_,rfl,q⟩
 ·simp only[hlt,if_false,List.size_toArray,<- hl]
  apply Array.ext'
  simp[hl]
  exact List.take_of_length_le (by simp)
 ·rw[List.length_append,List.length_cons,List.length_take,List.length_drop]
  omega
def Gfd(x:D)(xs:List D)(S:Sto):Out D:=match x,xs with
 | .lst k,[.int i,d]=>match S[k]? with
  | some c=>if c.fz=false/\(0<=i/\i<=1000000)/\c.xs.length<1000000 then .ok .non (S.set k ⟨false,c.xs.take (min i.toNat c.xs.length)++d::c.xs.drop (min i.toNat c.xs.length)⟩) else .bad
  | none=>.bad
 | _,_=>.bad
theorem Grt{K:PySem.W.Frag}:MeD K Gu6 Gfd:=by
 intro XQ σ ρ mp H S x xs v vs Q rs rx r p
 unfold Gfd at p
 split at p
 ·rename_i k i d
  split at p
  ·rename_i c zc
   by_cases hc:c.fz=false/\(0<=i/\i<=1000000)/\c.xs.length<1000000
   ·rw[if_pos hc] at p
    obtain⟨w,w2,rfl,hw,hw2⟩:=RepL.two r
    cases (show w=.int i from hw)
    obtain⟨a,ys,rfl,ha,sq,q,f⟩:=rs.items rx zc
    have hH:=f hc.1
    have l1:=q.len
    rw[<- l1] at p
    obtain⟨af,rs'⟩:=rs.setL ha zc hc.1 hH (RepL.append (q.take (min i.toNat ys.length)) (RepL.cons hw2 (q.drop (min i.toNat ys.length))))
    exact⟨a,ys,i,w2,rfl,rfl,hH,hc.2.1.1,by omega,by rw[l1]; exact Nat.lt_of_lt_of_le hc.2.2 (by decide),p mp _ _ af rs' rfl⟩
   ·rw[if_neg hc] at p; exact p.elim
  ·exact p.elim
 ·exact p.elim
theorem Gru{o e:Expr}{apos cpos:Pos}{fo:Ev D}{f:Ev (List D)}(ho:JE X XQ o fo)(ha:JA X XQ [e] f)(hbase:attributeBase o "pop" X.env (eval o X.env)=eval o X.env:=by rfl)
  (hfew:((backTo cpos (starEach [e] X.env)).all (fun x=>!x.1)&&(backToKw cpos (keywordEach [] X.env)).all (fun x=>x.1.isSome)
   && decide ([e].length+([]:List Keyword).length+(if([]:List Keyword).isEmpty then 0 else 1)<30))=true:=by rfl)
  (hline:(apos.endLine==cpos.line)=true:=by rfl) (hs:starEach [e] X.env=(false,eval e X.env)::starEach [] X.env:=by rfl):
  JE X XQ (.Call (.Attribute o "pop" apos) [e] [] cpos) (mt Gd6 fo f):=Gdb PySem.F.slot_list_pop PySem.F.type_list_pop Gie Grr ho ha hbase hfew hline hs rfl
theorem Gg2{o e e':Expr}{apos cpos:Pos}{fo:Ev D}{f:Ev (List D)}(ho:JE X XQ o fo)(ha:JA X XQ [e,e'] f)(hbase:attributeBase o "insert" X.env (eval o X.env)=eval o X.env:=by rfl)
  (hfew:((backTo cpos (starEach [e,e'] X.env)).all (fun x=>!x.1)&&(backToKw cpos (keywordEach [] X.env)).all (fun x=>x.1.isSome)
   && decide ([e,e'].length+([]:List Keyword).length+(if([]:List Keyword).isEmpty then 0 else 1)<30))=true:=by rfl)
  (hline:(apos.endLine==cpos.line)=true:=by rfl) (hs:starEach [e,e'] X.env=(false,eval e X.env)::starEach [e'] X.env:=by rfl) (hpl:(backTo cpos (starEach [e'] X.env)).any (·.1)=false:=by rfl):
  JE X XQ (.Call (.Attribute o "insert" apos) [e,e'] [] cpos) (mt Gfd fo f):=Gdb PySem.F.slot_list_insert PySem.F.type_list_insert Grs Grt ho ha hbase hfew hline hs hpl
end
end DL
namespace DL
open PySem
variable{es:List Expr}{env:PySem.Env}
theorem Gc{c j p}:starEach (.Constant c j p::es) env=(false,eval (.Constant c j p) env)::starEach es env:=rfl
theorem Ge{x p}:starEach (.Name x p::es) env=(false,eval (.Name x p) env)::starEach es env:=rfl
theorem Ym{a b p}:starEach (.Tuple a b p::es) env=(false,eval (.Tuple a b p) env)::starEach es env:=rfl
theorem Gdd{a p}:starEach (.List a p::es) env=(false,eval (.List a p) env)::starEach es env:=rfl
theorem Hn{f a k p}:starEach (.Call f a k p::es) env=(false,eval (.Call f a k p) env)::starEach es env:=rfl
theorem Gk{a b p}:starEach (.Subscript a b p::es) env=(false,eval (.Subscript a b p) env)::starEach es env:=rfl
theorem Jl{a o b p}:starEach (.BinOp a o b p::es) env=(false,eval (.BinOp a o b p) env)::starEach es env:=rfl
theorem Ga5{a o b p}:starEach (.Compare a o b p::es) env=(false,eval (.Compare a o b p) env)::starEach es env:=rfl
theorem Gd7{a b c p}:starEach (.IfExp a b c p::es) env=(false,eval (.IfExp a b c p) env)::starEach es env:=rfl
theorem Hw{a b c p}:starEach (.ListComp a b c p::es) env=(false,eval (.ListComp a b c p) env)::starEach es env:=rfl
end DL
namespace DL
open PySem PySem.Spec PyProof.Rows L2
variable{h:Heap}{x y qual:Str}{st:Stmt}{ps N N' sub:List Str}{f t:Ev (List D)}{osl:Array (Option Value)}{doc pm cdv ct v:Value}{fn:Fn}{j k n:Nat}{p pos pos' py spos p2 apos cpos np hpos:Pos}{es ifs:List Expr}{P:Program}{s2:Shared}{H2 H H1:Hp}{C ti to':Addr}{scope:Scope}{c:List (Str×Addr)}{fp mp:List Addr}{elt tg iter a b l o:Expr}{pk:List (Option Nat)}{fa fb fo:Ev D}{K:PySem.W.Frag}{S:Sto}{w:World}{A:Around}{E Q:Value->Shared->Prop}{X:Cx}{pins:List (Addr×Obj)}{σ:L2.St}{tk:Tok}{vs xs zs:Array Value}{m mg:Str->Option Value}{T:String}{bm:List Value}{dx:Option Addr}{oI oe:Obj}{φ:Heap->Prop}{XQ:XW}{fd:FuncData}{sp:Sp}{ρ:Lc}{body:List Stmt}
structure Cal(P:Program)(w:World)(K:PySem.W.Frag)(mg:Str->Option Value)(base:Heap)(x:Str)(ps:List Str)(fn:Fn)(j:Nat):Prop where
 ex:∃ f fd,FnOk P w K mg base CX0 j f fd ps (spD K ps.length fn)/\mg x=some (.ref f)/\PySem.W.keepIn K (.ref f)=true/\Binds K fd ps []
structure Dn(K:PySem.W.Frag)(mg:Str->Option Value)(x:Str)(st:Stmt)(ps:List Str):Prop where
 ex:∃ f fd,Fun K x x st f fd/\mg x=some (.ref f)/\Binds K fd ps []
section
variable{P:Program}{w:World}{K:PySem.W.Frag}{mg:Str->Option Value}{base:Heap}
theorem Gu7{f:Addr}{oc:Value}{od an:Option Addr}{kV:Value}(X:K.In h)(G:h.Ns mainGlobals mg)(a:PySem.W.nsIn K mainGlobals x=some (some (.ref f)))(l:K.lookup f=some ⟨oc,od,.func (PySem.W.fnOf x x (Jd st) (Gw st) (Gf st) .none kV doc pm an cdv ct),osl⟩)(c:PySem.W.codeIn K cdv x=true)(k:PySem.W.keepIn K (.ref f)=true)(hb:∀ (kV doc pm:Value) (an:Option Addr) (cdv ct:Value) (us:List Value),us.length=ps.length->bindArgs (PySem.W.fnOf x x (Jd st) (Gw st) (Gf st) .none kV doc pm an cdv ct) ⟨us,[]⟩=pure (ps.zip us)):Dn K mg x st ps:=
 ⟨f,_,Ga0 l c k,PySem.W.mg_of X G a,(Ga0 (st:=st) l c k).binds hb⟩
theorem Grv(N:List Str)(k:Nat)(b:Sv)(hfn:fn=fnB N.length b)(d:Dn K mg x st ps)(Sc:FnScope N ps (Gf st))(hb:∀ (f:Addr) (cdv:Value) (A:Around) (outer:List PySem.Env) (s:Shared) (H:Hp) (E:XK),Room k (A.deeper (envOfC x (Gf st) s.heap.objs.size f cdv))→
   JSs (Qi CX0 P w K mg base N x (Gf st) f cdv A outer s H E).nox XN (Gw st) b):Cal P w K mg base x ps fn (k+1):=by
 subst hfn
 obtain⟨f,fd,F,hm,hbi⟩:=d.ex
 exact⟨f,fd,God F Sc (hb f),hm,F.kp,hbi⟩
end
section
variable{X:Cx}{XQ:XW}
theorem Grw{e:Expr}(C:Cal X.prog X.w X.K X.mg X.base x ps fn j)(hr:Room k X.A)(ha:JA X XQ (e::es) t)(hn:ps.length=n)(hj:j<=k:=by decide)(hg:Gl X x:=by rfl)(hdb:(x==("__debug__":Str))=false:=by decide)(he:starEach (e::es) X.env=(false,eval e X.env)::starEach es X.env:=by rfl)(hpl:(backTo pos (starEach es X.env)).any (·.1)=false:=by rfl):
  JE X XQ (.Call (.Name x p) (e::es) [] pos) (cl n (Gp fn) t):=by
 subst hn
 obtain⟨f,fd,F,hm,hk,hb⟩:=C.ex
 exact Glu F hr hj hg hm hk hb ha hdb he hpl
theorem Ga6{v:V}{u:Value}{d:D}(hm:X.mg x=some u)(r:Ha v u)(rep:∀ mp H,Rep X.K mp H d v)(hg:Gl X x)(hd:(x==("__debug__":Str))=false):JE X XQ (.Name x pos) (cn d):=Wu (Gct hg hm r hd) rep
def Gz(x:Str):Bool:=!(x==("__debug__":Str))&&!(x==("__classdict__":Str))
def okV(sc:Scope)(x:Str):Bool:=(match sc.names.lookup x with
 | some .local=>true
 | some .cell=>true
 | some .free=>true
 | _=>false)&&Gz x
def okL(sc:Scope)(x:Str):Bool:=match sc.names.lookup x with
 | some .local=>true
 | some .cell=>true
 | _=>false
def okG(sc:Scope)(x:Str):Bool:=(match sc.names.lookup x with
 | some .globalImplicit=>true
 | _=>false)&&Gz x
theorem Gz.of(h:Gz x=true):(x==("__debug__":Str))=false/\(x==("__classdict__":Str))=false:=by
 unfold Gz at h
 rw[Bool.and_eq_true] at h
 exact⟨by simpa using h.1,by simpa using h.2⟩
theorem okV.vis{sc:Scope}(h:okV sc x=true):Vis sc x/\Gz x=true:=by
 unfold okV at h
 rw[Bool.and_eq_true] at h
 refine⟨?_,h.2⟩
 have h:=h.1
 split at h
 ·rename_i e; exact .inl e
 ·rename_i e; exact .inr (.inl e)
 ·rename_i e; exact .inr (.inr e)
 ·cases h
theorem okL.loc{sc:Scope}(h:okL sc x=true):Loc sc x:=by
 unfold okL at h
 split at h
 ·rename_i e; exact .inl e
 ·rename_i e; exact .inr e
 ·cases h
theorem okG.gl{sc:Scope}(h:okG sc x=true):sc.names.lookup x=some .globalImplicit/\Gz x=true:=by
 unfold okG at h
 rw[Bool.and_eq_true] at h
 refine⟨?_,h.2⟩
 have h:=h.1
 split at h
 ·rename_i e; exact e
 ·cases h
structure OkV(sc:Scope)(x:Str):Prop where
 h:okV sc x=true
structure OkL(sc:Scope)(x:Str):Prop where
 h:okL sc x=true
structure OkC(sc:Scope)(x:Str):Prop where
 h:sc.names.lookup x=some .local
structure OkG(sc:Scope)(x:Str):Prop where
 h:okG sc x=true
theorem kdV{s:Scope}(h:okV s x=true:=by decide +kernel):OkV s x:=⟨h⟩
theorem kdL{s:Scope}(h:okL s x=true:=by decide +kernel):OkL s x:=⟨h⟩
theorem kdG{s:Scope}(h:okG s x=true:=by decide +kernel):OkG s x:=⟨h⟩
theorem kdS{P:List Str}{s:Scope}(a:s.kind=.function:=by rfl)(b:s.isCoroutine=false:=by rfl)(c:s.isGenerator=false:=by rfl)(d:N.Nodup:=by decide +kernel)(e:N.take P.length=P:=by rfl)(f:∀ x∈P,s.names.lookup x=some .local\/s.names.lookup x=some .cell:=by decide +kernel)(g:∀ y∈s.names,y.2≠.free:=by decide +kernel):FnScope N P s:=⟨a,b,c,d,e,f,g⟩
theorem jv(i:Nat)(h:OkV X.env.scope x)(hN:X.N[i]?=some x:=by rfl):JE X XQ (.Name x pos) (vr i):=Gih i hN (okV.vis h.h).1 (Gz.of (okV.vis h.h).2).1 (Gz.of (okV.vis h.h).2).2
theorem gl(h:OkG X.env.scope x):Gl X x:=(okG.gl h.h).1
theorem jgn(i:Nat)(hN:X.N.Nodup)(h:OkL X.env.scope x)(hi:X.N[i]?=some x:=by rfl)(hf:X.fn x=true:=by rfl):JG X (.Name x pos) (gn i):=Gc4 i hN hi (okL.loc h.h) (.inl hf)
theorem jset(i:Nat){e:Expr}{f:Ev D}(hN:X.N.Nodup)(h:OkL X.env.scope x)(he:JE X XQ e f)(hi:X.N[i]?=some x:=by rfl)(hs:swapsWith e (some (.Name x pos')) pos.line X.env=pure false:=by rfl)(hf:X.fn x=true:=by rfl):
  JS X XQ (.Assign [.Name x pos'] e pos) (sa f (gn i)):=Gqr i hN he hi (okL.loc h.h) hs (.inl hf)
theorem jown{e:Expr}(C:Cal X.prog X.w X.K X.mg X.base x ps fn j)(hr:Room k X.A)(hg:Gl X x)(hp:Gz x=true)(ha:JA X XQ (e::es) t)(hn:ps.length=n:=by rfl)(hj:j<=k:=by decide)(he:starEach (e::es) X.env=(false,eval e X.env)::starEach es X.env:=by rfl)(hpl:(backTo pos (starEach es X.env)).any (·.1)=false:=by rfl):
  JE X XQ (.Call (.Name x p) (e::es) [] pos) (cl n (Gp fn) t):=Grw C hr ha hn hj hg (Gz.of hp).1 he hpl
def Giy(sc:Scope)(x:Str):Bool:=(match sc.names.lookup x with
 | some .local=>true
 | some .cell=>true
 | some .free=>true
 | _=>false)&&Gz x
theorem Ho{scope:Scope}{env:PySem.Env}{x:Str}{k:NameKind}(hk:k≠.free):∀ (names:List (Str×NameKind)),names.lookup x=some k->(names.map fun(n,k)=>if(k==NameKind.free&&env.scope.kind==.function&&env.kindOf n==some .cell)=true then(n,NameKind.cell) else(n,k)).lookup x=some k
 | [],h=>by simp at h
 | (n,k')::r,h=>by
  rw[List.map_cons]
  by_cases hx:(x==n)=true
  ·rw[List.lookup_cons,hx] at h
   have:k'=k:=by simpa using h
   subst this
   have hb:(k'==NameKind.free)=false:=by simpa using hk
   simp only[hb,Bool.false_and,Bool.false_eq_true,if_false,List.lookup_cons,hx]
  ·have hx:(x==n)=false:=by simpa using hx
   rw[List.lookup_cons,hx] at h
   have:=Ho (scope:=scope) (env:=env) hk r h
   by_cases hq:(k'==NameKind.free&&env.scope.kind==.function&&env.kindOf n==some .cell)=true
   ·simpa only[hq,if_true,List.lookup_cons,hx] using this
   ·simpa only[hq,Bool.false_eq_true,if_false,List.lookup_cons,hx] using this
theorem Gde(h:Giy scope x=true):Vis (blk X s2 H2 C scope c N' fp).env.scope x/\Gz x=true:=by
 unfold Giy at h
 rw[Bool.and_eq_true] at h
 refine⟨?_,h.2⟩
 have h:=h.1
 split at h
 ·rename_i e; exact .inl (lookup_relabel_local e)
 ·rename_i e; exact .inr (.inl (Ho (scope:=scope) (env:=X.env) (by decide) scope.names e))
 ·rename_i e; exact .inr (Jk (scope:=scope) (env:=X.env) scope.names e)
 ·cases h
theorem jvB(i:Nat)(h:Giy scope x=true)(hN:N'[i]?=some x:=by rfl):JE (blk X s2 H2 C scope c N' fp) XQ (.Name x pos) (vr i):=
 Gih i hN (Gde h).1 (Gz.of (Gde (X:=X) (s2:=s2) (H2:=H2) (C:=C) (c:=c) (N':=N') (fp:=fp) h).2).1 (Gz.of (Gde (X:=X) (s2:=s2) (H2:=H2) (C:=C) (c:=c) (N':=N') (fp:=fp) h).2).2
theorem glB(h:okG scope x=true):Gl (blk X s2 H2 C scope c N' fp) x:=
 Ho (scope:=scope) (env:=X.env) (by decide) scope.names (okG.gl h).1
def Gma(sc:Scope)(x:Str):Bool:=match sc.names.lookup x with
 | some .local=>true
 | some .cell=>true
 | _=>false
theorem Gws(i:Nat)(hN:N'.Nodup)(h:Gma scope x=true)(hi:N'[i]?=some x:=by rfl):JG (blk X s2 H2 C scope c N' fp) (.Name x pos) (gn i):=by
 unfold Gma at h
 split at h
 ·rename_i e
  exact Gc4 i hN hi (.inl (lookup_relabel_local e)) (.inr (lookup_relabel_local e))
 ·rename_i e
  exact Gc4 i hN hi (.inr (Ho (scope:=scope) (env:=X.env) (by decide) scope.names e)) (.inl (by show(scope.names.lookup x==some NameKind.cell)=true; rw[e]; rfl))
 ·cases h
theorem jcomp{sc:Scope}{f:Ev Src}{g:Tg}{t:Ev Bool}{e:Ev D}(hsc:X.env.scope=sc)(hNN:X.N=N)(ct:CompTab sc scope N N' pk)(hcm:X.calm=true)(hi:JI X XQ tg iter f)(hg:∀ cl s2 H2 C fp,JG (blk X s2 H2 C scope cl N' fp) tg g)(ht:∀ cl s2 H2 C fp,JTs (blk X s2 H2 C scope cl N' fp) XN ifs t)(he:∀ cl s2 H2 C fp,JE (blk X s2 H2 C scope cl N' fp) XN elt e)(hs:∀ x,foldedSetIterable iter X.env x=pure x:=by intro _; rfl):JE X XQ (.ListComp elt [⟨tg,iter,ifs,0⟩] scope pos) (cmp f pk g t e):=by
 subst hsc hNN
 exact Gfy ct hcm hi hg ht he hs
theorem CompTab.up{sc scope:Scope}{N N':List Str}{pk:List (Option Nat)}(env:PySem.Env)(t:CompTab sc scope N N' pk):CompTab (relabel sc env) scope N N' pk:=by
 have up:∀ x,sc.names.lookup x=some .cell\/sc.names.lookup x=some .free->(relabel sc env).names.lookup x=some .cell\/(relabel sc env).names.lookup x=some .free:=fun x h=>by
  rcases h with h | h
  ·exact .inl (Ho (scope:=sc) (env:=env) (by decide) sc.names h)
  ·exact Jk (scope:=sc) (env:=env) sc.names h
 refine⟨t.kind,t.cell,t.names,fun y hy hf=>up _ (t.free y hy hf),t.len,?_⟩
 have q:=t.take
 rw[List.all_eq_true] at q ⊢
 intro i hi
 have q:=q i hi
 cases hp:pk[i]? with
 | none=>rfl
 | some o=>
  cases o with
  | none=>rfl
  | some j=>
   simp only[hp] at q ⊢
   cases h1:N[j]? with
   | none=>simp only[h1] at q; cases q
   | some x=>
    cases h2:N'[i]? with
    | none=>simp only[h1,h2] at q; cases q
    | some y=>
     simp only[h1,h2,Bool.and_eq_true,Bool.or_eq_true,beq_iff_eq] at q ⊢
     exact⟨⟨q.1.1,up y q.1.2⟩,q.2⟩
theorem Grx{sc:Scope}{f:Ev Src}{g:Tg}{t:Ev Bool}{e:Ev D}(ct:CompTab sc scope N N' pk)(hcm:X.calm=true)(hi:JI (blk X s2 H2 C sc c N fp) XQ tg iter f)(hg:∀ cl s2' H2' C' fp',JG (blk (blk X s2 H2 C sc c N fp) s2' H2' C' scope cl N' fp') tg g)(ht:∀ cl s2' H2' C' fp',JTs (blk (blk X s2 H2 C sc c N fp) s2' H2' C' scope cl N' fp') XN ifs t)(he:∀ cl s2' H2' C' fp',JE (blk (blk X s2 H2 C sc c N fp) s2' H2' C' scope cl N' fp') XN elt e)(hs:∀ x,foldedSetIterable iter (blk X s2 H2 C sc c N fp).env x=pure x:=by intro _; rfl):JE (blk X s2 H2 C sc c N fp) XQ (.ListComp elt [⟨tg,iter,ifs,0⟩] scope pos) (cmp f pk g t e):=
 Gfy (X:=blk X s2 H2 C sc c N fp) (CompTab.up X.env ct) hcm hi hg ht he hs
theorem Giz(i:Nat){sc:Scope}{f:Ev Src}{g:Tg}{t:Ev Bool}{e:Ev D}(hsc:X.env.scope=sc)(hNN:X.N=N)(ct:CompTab sc scope N N' pk)(hcm:X.calm=true)(hi:JI X XQ tg iter f)(hg:∀ cl s2 H2 C fp,JG (blk X s2 H2 C scope cl N' fp) tg g)(ht:∀ cl s2 H2 C fp,JTs (blk X s2 H2 C scope cl N' fp) XN ifs t)(he:∀ cl s2 H2 C fp,JE (blk X s2 H2 C scope cl N' fp) XN elt e)(hN:X.N.Nodup)(hl:OkL X.env.scope y)(hsw:swapsWith (.ListComp elt [⟨tg,iter,ifs,0⟩] scope pos) (some (.Name y py)) spos.line X.env=pure true)(hy:X.N[i]?=some y:=by rfl)(hs:∀ x,foldedSetIterable iter X.env x=pure x:=by intro _; rfl)(hf:X.fn y=true:=by rfl):
  JS X XQ (.Assign [.Name y py] (.ListComp elt [⟨tg,iter,ifs,0⟩] scope pos) spos) (sa (cmp f pk g t e) (gn i)):=by
 subst hsc hNN
 exact Gfa i ct hcm hi hg ht he hN hy (okL.loc hl.h) hsw hs (.inl hf)
end
section
variable{X:Cx}{XQ:XW}
theorem Gry{j:Int}(h1:0<j)(h2:j<2^200):j.natAbs.log2<9000:=by
 have h3:j.natAbs<2^200:=by omega
 exact Nat.lt_of_lt_of_le ((Nat.log2_lt (by omega)).mpr h3) (by decide)
theorem Gi0:OpR X (binaryOp .FloorDiv) (rI (fun _ j=>0<j/\j<2^200) fun i j=>.int (i / j)):=opI fun i j _ _ _ _ _ hc q=>by
 have h1:(0:Int)<j:=hc.1
 have h2:j<2^200:=hc.2
 exact floordiv_int (by omega) (by rw[Int.fdiv_eq_ediv_of_nonneg i (by omega)]; exact q) (.inl (PyProof.noPylong_of_log2 (Gry h1 h2)))
abbrev Yn:=i2 (fun _ j=>decide (0<j/\j<2^200)) fun i j=>.int (i / j)
theorem Gmb(ha:JE X XQ a fa)(hb:JE X XQ b fb):JE X XQ (.BinOp a .FloorDiv b pos) (o2 Yn fa fb):=Gci Gi0 (Gc9 (fun _ j h=>(of_decide_eq_true h:0<j/\j<2^200)) fun _ _ _ _=>rfl) ha hb
def Qj:List D->Option (List Int)
 | []=>some []
 | .int i::r=>(Qj r).map (i::·)
 | _::_=>none
theorem RepL.ints:∀ {l:List D} {vs:List V} {ns:List Int},RepL K mp H l vs->Qj l=some ns->vs=ns.map V.int
 | [],vs,ns,h,e=>by
  cases (show vs=[] from h)
  cases (Option.some.inj (show some []=some ns from e))
  rfl
 | d::l,vs,ns,h,e=>by
  obtain⟨v,r,rfl,h1,h2⟩:=h
  cases d with
  | int i=>
   have e:(Qj l).map (i::·)=some ns:=e
   cases z:Qj l with
   | none=>rw[z] at e; cases e
   | some ms=>
    rw[z] at e
    cases (Option.some.inj e)
    cases (show v=.int i from h1)
    rw[RepL.ints h2 z]
    rfl
  | _=>cases (show(none:Option (List Int))=some ns from e)
theorem Ga7{ns:List Int}(its:List Value)(r':Vals (ns.map V.int) its):∃ xs:Array (Int×Tok),its.toArray=intItems xs/\preSum (numAt xs) xs.size=ns.sum/\ns=xs.toList.map (·.1):=by
 have hi:=Ge6 r'
 obtain⟨xs,hx⟩:=hi.allInts.items
 have hn:numsOf its.toArray.toList=ns:=by rw[show its.toArray.toList=its from rfl,hi.numsOf]
 rw[hx,nums_intItems] at hn
 refine⟨xs,hx,?_,hn.symm⟩
 rw[preSum_eq,List.take_of_length_le (by simp),hn]
theorem Gi1(hc:X.calm=true):Qq X (.builtin "sum") (fun xs H Q=>∃ (p:Addr) (ns:List Int),xs=[.ref p]/\(SqL X.K H p (ns.map V.int)\/SqT X.K H p (ns.map V.int))/\Q (.int ns.sum) H):=by
 intro pins s σ H xs us Q I r h
 obtain⟨p,ns,rfl,hq,q⟩:=h
 obtain⟨u,rfl,rx⟩:=Ws r
 cases rx
 rcases hq with hq | hq
 ·obtain⟨its,r',pl,hz⟩:=I.list hq
  obtain⟨xs,hx,e,_⟩:=Ga7 its r'
  have hl:=pl.isList
  rw[hx] at hl
  exact sum_intListG (I.ok.hd hc) hl fun h' tk t' hk=>⟨.int ns.sum,H,I.kept hk,⟨t',by rw[e]⟩,q⟩
 ·obtain⟨its,r',pl,hz⟩:=I.tuple hq
  obtain⟨xs,hx,e,_⟩:=Ga7 its r'
  have hl:s.heap.IsTuple p its.toArray:=pl
  rw[hx] at hl
  exact PySem.W.ktm_sumG (I.ok.hd hc) hl fun h' tk t' hk=>⟨.int ns.sum,H,I.kept hk,⟨t',by rw[e]⟩,q⟩
def Gon(x:D)(S:Sto):Option (List D):=match x with
 | .tup l=>some l
 | .lst i=>(S[i]?).map (·.xs)
 | _=>none
theorem Grz{x:D}{v:V}{l:List D}(rs:RS K mp H S)(h:Rep K mp H x v)(e:Gon x S=some l):∃ a xs,v=.ref a/\(SqL K H a xs\/SqT K H a xs)/\RepL K mp H l xs:=by
 cases x with
 | tup ds=>
  cases (Option.some.inj (show some ds=some l from e))
  obtain⟨a,xs,rfl,s,q⟩:=Rep.tup h
  exact⟨a,xs,rfl,.inr s,q⟩
 | lst i=>
  have e:(S[i]?).map (·.xs)=some l:=e
  cases z:S[i]? with
  | none=>rw[z] at e; cases e
  | some c=>
   rw[z] at e
   cases (Option.some.inj e)
   obtain⟨a,xs,rfl,_,s,q,_⟩:=rs.items h z
   exact⟨a,xs,rfl,.inl s,q⟩
 | _=>cases (show(none:Option (List D))=some l from e)
def Gbx(xs:List D)(S:Sto):Out D:=match xs with
 | [x]=>match (Gon x S).bind Qj with
  | some ns=>.ok (.int ns.sum) S
  | none=>.bad
 | _=>.bad
theorem Gr0:BlD K (fun xs H Q=>∃ (p:Addr) (ns:List Int),xs=[.ref p]/\(SqL K H p (ns.map V.int)\/SqT K H p (ns.map V.int))/\Q (.int ns.sum) H) Gbx:=by
 intro XQ σ ρ mp H S xs vs Q rs r p
 unfold Gbx at p
 split at p
 ·rename_i x
  obtain⟨v,rfl,h⟩:=RepL.one r
  split at p
  ·rename_i ns z
   obtain⟨l,e1,e2⟩:=Option.bind_eq_some_iff.mp z
   obtain⟨a,ys,rfl,sq,q⟩:=Grz rs h e1
   cases q.ints e2
   exact⟨a,ns,rfl,sq,Gn.ok (R:=Rep K) p rs rfl⟩
  ·exact p.elim
 ·exact p.elim
theorem Gr1{e:Expr}(hc:X.calm=true)(hg:Gl X "sum")(hm:X.mg "sum"=none)(ha:JA X XQ [e] f)(he:starEach [e] X.env=(false,eval e X.env)::starEach [] X.env:=by rfl):JE X XQ (.Call (.Name "sum" p) [e] [] pos) (b1 Gbx f):=Ga3 (Gi1 hc) Gr0 hg hm (by rfl) ha (he:=he)
def Gwt(xs:List D)(S:Sto):Out D:=match xs with
 | [.int i,.int j]=>.ok (.int (if j>i then j else i)) S
 | _=>.bad
theorem Gg3(hc:X.calm=true):Qq X (.builtin "min") (fun xs H Q=>∃ (p:Addr) (ns:List Int),xs=[.ref p]/\SqL X.K H p (ns.map V.int)/\ns≠[]/\∀ M,M∈ns->(∀ a,a∈ns->M<=a)->Q (.int M) H):=by
 intro pins s σ H xs us Q I r h
 obtain⟨p,ns,rfl,hq,hne,q⟩:=h
 obtain⟨u,rfl,rx⟩:=Ws r
 cases rx
 obtain⟨its,r',pl,hz⟩:=I.list hq
 obtain⟨xs,hx,_,hns⟩:=Ga7 its r'
 have hl:=pl.isList
 rw[hx] at hl
 have hsz:0<xs.size:=by
  have:0<ns.length:=List.length_pos_iff.mpr hne
  rw[hns,List.length_map,Array.length_toList] at this
  exact this
 refine min_intList (I.ok.hd hc) hl hsz fun v h' tk hv hk=>?_
 obtain⟨t,rfl⟩:=intItems_at hv
 obtain⟨h1,h2⟩:=argBest_lt (numAt xs) (xs.size-1)
 refine⟨.int _,H,I.kept hk,⟨t,rfl⟩,q _ ?_ fun a ha=>?_⟩
 ·rw[hns,numAt_eq]; exact getD_mem (by rw[List.length_map,Array.length_toList]; omega)
 ·rw[hns] at ha
  obtain⟨j,hj,rfl⟩:=mem_getD ha
  rw[List.length_map,Array.length_toList] at hj
  rw[<- numAt_eq]; exact h2 j (by omega)
def lmin:List Int->Int
 | []=>0
 | [a]=>a
 | a::b::r=>min a (lmin (b::r))
theorem Gd8:∀ {l:List Int},l≠[]->lmin l∈l
 | [],h=>absurd rfl h
 | [a],_=>List.mem_cons_self
 | a::b::r,_=>by
  show min a (lmin (b::r))∈_
  by_cases h:a<=lmin (b::r)
  ·rw[Int.min_def,if_pos h]; exact List.mem_cons_self
  ·rw[Int.min_def,if_neg h]; exact List.mem_cons_of_mem _ (Gd8 (by simp))
theorem Gf1:∀ {l:List Int} {x:Int},x∈l->lmin l<=x
 | [],x,h=>by cases h
 | [a],x,h=>by simp at h; subst h; exact Int.le_refl _
 | a::b::r,x,h=>by
  show min a (lmin (b::r))<=x
  rcases List.mem_cons.mp h with rfl | h
  ·exact Int.min_le_left _ _
  ·exact Int.le_trans (Int.min_le_right _ _) (Gf1 h)
def Ga8(xs:List D)(S:Sto):Out D:=match xs with
 | [.lst i]=>match (S[i]?).bind fun c=>Qj c.xs with
  | some (n::ns)=>.ok (.int (lmin (n::ns))) S
  | _=>.bad
 | _=>.bad
theorem Gmc:BlD K (fun xs H Q=>∃ (p:Addr) (ns:List Int),xs=[.ref p]/\SqL K H p (ns.map V.int)/\ns≠[]/\∀ M,M∈ns->(∀ a,a∈ns->M<=a)->Q (.int M) H) Ga8:=by
 intro XQ σ ρ mp H S xs vs Q rs r p
 unfold Ga8 at p
 split at p
 ·rename_i i
  obtain⟨v,rfl,h⟩:=RepL.one r
  split at p
  ·rename_i n ns z
   obtain⟨c,e1,e2⟩:=Option.bind_eq_some_iff.mp z
   obtain⟨a,ys,rfl,_,sq,q,_⟩:=rs.items h e1
   cases q.ints e2
   refine⟨a,n::ns,rfl,sq,by simp,fun M h1 h2=>?_⟩
   have e:M=lmin (n::ns):=Int.le_antisymm (h2 _ (Gd8 (by simp))) (Gf1 h1)
   rw[e]
   exact Gn.ok (R:=Rep K) p rs rfl
  ·exact p.elim
 ·exact p.elim
theorem Gmd{e:Expr}(hc:X.calm=true)(hg:Gl X "min")(hm:X.mg "min"=none)(ha:JA X XQ [e] f)(he:starEach [e] X.env=(false,eval e X.env)::starEach [] X.env:=by rfl):JE X XQ (.Call (.Name "min" p) [e] [] pos) (b1 Ga8 f):=Ga3 (Gg3 hc) Gmc hg hm (by rfl) ha (he:=he)
def sag(i:Nat)(g:Int->Int->Int)(f:Ev D):Sv:=fun ρ S=>match ρ[i]? with
 | some (some (.int a))=>bindS (f ρ S) ρ fun d S1=>match d with
  | .int b=>.nx (ρ.set i (some (.int (g a b)))) S1
  | _=>.bad
 | _=>.bad
theorem Gwu{i:Nat}{g:Int->Int->Int}{f:Ev D}(E:Ends)(σ:L2.St)(H:Hp)(h:rdS K XQ (sag i g f) E σ H):Gt9 i (rdE K XQ f) (ipI g) E σ H:=by
 obtain⟨mp,ρ,S,G,p⟩:=h
 unfold sag at p
 split at p
 ·rename_i a z
  obtain⟨v,e1,r⟩:=G.loc i _ z
  cases (show v=.int a from r)
  refine⟨_,e1,bindSP G p fun mp1 H1 d S1 v a1 G1 r1 p1=>?_⟩
  cases d with
  | int b=>
   cases (show v=.int b from r1)
   exact⟨a,b,rfl,rfl,PostS.nx p1 (G1.set i rfl)⟩
  | _=>exact(show False from p1).elim
 ·exact p.elim
theorem Gr2(i:Nat){e:Expr}{f:Ev D}(hN:X.N.Nodup)(h:OkL X.env.scope x)(he:JE X XQ e f)(hi:X.N[i]?=some x:=by rfl)(hf:X.fn x=true:=by rfl):JS X XQ (.AugAssign (.Name x pos') .Sub e pos) (sag i (fun a b=>a-b) f):=
 PS.mono (Gpp hN hi (okL.loc h.h) he Gpq (.inl hf)) Gwu
end
theorem Yo{prog:Program}{s:Shared}{t sl:Addr}{items:Array Value}{vl vu:Value}{lo hi:Option Int}(ht:IsTup s.heap t items)(hs:s.heap.IsSliceOf sl vl vu .none)(pl:IsPart vl lo)(pu:IsPart vu hi)(hw:HT.sIx items.size 0 lo=0/\HT.sIx items.size items.size hi=items.size)(h:Q (.ref t) s):wpAny (model prog w) A (getItem (.ref t) (.ref sl)) Q E s:=by
 obtain⟨os,hos,hcs,hds⟩:=id hs
 have hTs:s.TypeIs (.ref sl) "slice":=⟨os,hos,hcs⟩
 unfold getItem
 try with_reducible refine wpAny_holding ?_
 first | refine wpAny_bind (wpAny_pure ?_) | skip
 refine wpAny_bind (wpAny_sequenceKey ht.typeIs (by decide) ?_)
 refine wpAny_bind (wpAny_callSpecial?_slot (name:=Str.ofString "__getitem__") ht.typeIs PyProof.Rows.slot_tuple_getitem
  (wpAny_call_entry PyProof.Rows.slot_tuple_getitem ht.typeIs entry_tuple_getitem ?_ (args_tuple_getitem _ _)))
 show wpAny _ _ (Builtin.Tuple.tupleItemsOf (.ref t) >>= _) _ _ s
 refine wpAny_bind (tupleItemsOf_ ht ?_)
 refine wpAny_bind (wpAny_typeOf hTs ?_)
 rw[if_pos (by decide)]
 refine wpAny_bind (HT.Vv hs pl pu ?_)
 show wpAny _ _ (if(((HT.sIx items.size 0 lo:Nat):Int)==0&&(1:Int)==1&&(HT.sIx items.size items.size hi-HT.sIx items.size 0 lo)==items.size)=true then _ else _) _ _ s
 rw[if_pos (by rw[hw.1,hw.2]; simp)]
 unfold Builtin.Tuple.tupleIsExact
 refine wpAny_bind (wpAny_bind (wpAny_typeOf ht.typeIs (wpAny_pure ?_)))
 rw[if_pos (by decide)]
 exact wpAny_bind (wpAny_rule (wpAny_pure ⟨_,rfl,wpAny_pure h⟩))
section
variable{X:Cx}{XQ:XW}
def Gwv(K:PySem.W.Frag):V->Option Int->Option Int->Hp->VK->Prop:=fun x lo hi H Q=>∃ a xs,x=.ref a/\SqT K H a xs/\(HT.sIx xs.length 0 lo=0/\HT.sIx xs.length xs.length hi=xs.length)/\Q (.ref a) H
theorem Gr3:SlR X (Gwv X.K):=by
 intro pins s σ H x v vl vu lo hi sl Q I rx hs pl pu h
 obtain⟨a,xs,rfl,hx,hw,q⟩:=h
 cases rx
 obtain⟨its,r,ht,hz⟩:=I.tuple hx
 have hlen:its.toArray.size=xs.length:=by rw[List.size_toArray]; exact r.length.symm
 refine⟨"tuple",_,PyProof.Rows.slot_tuple_getitem.lookup,ht.typeIs,?_⟩
 exact Yo ht hs pl pu (by rw[hlen]; exact hw) ⟨.ref a,H,I,rfl,q⟩
def Gg4(x:D)(lo hi:Option Int)(S:Sto):Out D:=match x with
 | .tup l=>if HT.sIx l.length 0 lo=0/\HT.sIx l.length l.length hi=l.length then .ok (.tup l) S else .ok (.tup (Zj l lo hi)) S
 | .lst i=>match S[i]? with
  | some c=>.ok (.lst S.length) (S++[⟨false,Zj c.xs lo hi⟩])
  | none=>.bad
 | _=>.bad
def sl2(fe:Ev D)(fl fh:Ev (Option Int)):Ev D:=fun ρ S=>(fe ρ S).bind fun x S1=>(fl ρ S1).bind fun l S2=>(fh ρ S2).bind fun u S3=>Gg4 x l u S3
theorem Gg5{e:Expr}{lo hi:Option Expr}{fe:Ev D}{fl fh:Ev (Option Int)}(he:JE X XQ e fe)(hl:JO X XQ lo fl)(hh:JO X XQ hi fh):JE X XQ (.Subscript e (.Slice lo hi none p2) pos) (sl2 fe fl fh):=by
 refine PE.mono (Gh9 ((Gli.or Gp4).or Gr3) he hl hh) fun σ H Q ⟨mp,ρ,S,G,p⟩=>?_
 refine bindP G p fun mp1 H1 x S1 v a1 G1 r1 p1=>?_
 refine bindP G1 p1 fun mp2 H2 l S2 l' a2 G2 r2 p2=>?_
 refine bindP G2 p2 fun mp3 H3 u S3 u' a3 G3 r3 p3=>?_
 cases (show l'=l from r2)
 cases (show u'=u from r3)
 have r1:=Rep.aft (a2.trans a3) _ _ r1
 cases x with
 | tup ds=>
  have p3:Post X.K XQ σ ρ mp3 H3 (if HT.sIx ds.length 0 l=0/\HT.sIx ds.length ds.length u=ds.length then .ok (.tup ds) S3 else .ok (.tup (Zj ds l u)) S3) Q:=p3
  obtain⟨a,xs,rfl,sq,q⟩:=Rep.tup r1
  by_cases hw:HT.sIx ds.length 0 l=0/\HT.sIx ds.length ds.length u=ds.length
  ·rw[if_pos hw] at p3
   exact .inr ⟨a,xs,rfl,sq,by rw[q.len]; exact hw,Gn.ok (R:=Rep X.K) p3 G3.rs r1⟩
  ·rw[if_neg hw] at p3
   exact .inl (.inr ⟨a,xs,rfl,sq,by rw[q.len]; exact hw,fun t ht=>Wv p3 G3.rs (q.cut l u) ht⟩)
 | lst i=>
  have p3:Post X.K XQ σ ρ mp3 H3 (match S3[i]? with | some c=>.ok (.lst S3.length) (S3++[⟨false,Zj c.xs l u⟩]) | none=>.bad) Q:=p3
  cases zc:S3[i]? with
  | none=>rw[zc] at p3; exact p3.elim
  | some c=>
   rw[zc] at p3
   obtain⟨a,xs,rfl,_,sq,q,_⟩:=G3.rs.items r1 zc
   exact .inl (.inl ⟨a,xs,rfl,sq,fun t ht=>Vw p3 G3.rs (q.cut l u) ht⟩)
 | _=>exact(show False from p3).elim
end
section
variable{X:Cx}{XQ:XW}
def Ga9(xs:List D)(S:Sto):Out D:=match xs with
 | [.int i]=>if i.natAbs.log2<1920 then .ok (.str (toString i)) S else .bad
 | _=>.bad
theorem Gr4:BlD K (fun xs H Q=>∃ i:Int,xs=[.int i]/\i.natAbs.log2<1920/\Q (.str (toString i)) H) Ga9:=by
 intro XQ σ ρ mp H S xs vs Q rs r p
 unfold Ga9 at p
 split at p
 ·rename_i i
  obtain⟨v,rfl,h⟩:=RepL.one r
  cases (show v=.int i from h)
  by_cases hb:i.natAbs.log2<1920
  ·rw[if_pos hb] at p
   exact⟨i,rfl,hb,Gn.ok (R:=Rep K) p rs rfl⟩
  ·rw[if_neg hb] at p; exact p.elim
 ·exact p.elim
theorem Gme{e:Expr}(hg:Gl X "str")(hm:X.mg "str"=none)(ha:JA X XQ [e] f)(he:starEach [e] X.env=(false,eval e X.env)::starEach [] X.env:=by rfl):JE X XQ (.Call (.Name "str" p) [e] [] pos) (b1 Ga9 f):=Gd3 Gcw Gr4 hg hm (by rfl) ha (he:=he)
end
theorem turnedL{s:Shared}{g:Heap}{tk:Nat}{ch:List Addr}(I:Inv X pins σ H s)(k:∀ b o,b∉ch->s.heap.get? b=some o->g.get? b=some o)(hf:∀ b∈ch,Gaw X pins H b):Inv X pins σ H { s with heap:=g,toks:=tk }:=by
 have nit:∀ b u,H b=some u->b∉ch:=fun b u e z=>by have:=(hf b z).1; rw[this] at e; cases e
 refine I.step (g':=s.gens) (d':=s.drawn) (ch:=ch) (fun b hb=>?_) (fun b o _ _ hc e _=>k b o hc e) (fun b o _ _ hc e _=>⟨o.slots,k b o hc e⟩) (fun _ _ _ _ n=>n)
  (fun b o hc e=>⟨o,k b o hc e⟩) (fun _ _ e=>e) (fun _ _ _ e=>e) (fun b ps e=>⟨#[],by rw[e]; simp⟩) (fun m hm=>?_) (fun b u e=>?_) I.bare
 ·obtain⟨f0,f1,f2,f3,f4,f5⟩:=hf b hb
  exact⟨f3,f1,f4,f5⟩
 ·obtain⟨o,es,ep,ho,r⟩:=hm
  exact⟨o,es,ep,k _ o (fun z=>(hf _ z).2.1 rfl) ho,r⟩
 ·refine(I.hok b u e).stay (fun c v hc q=>k c v ?_ q) (fun _ q=>q) fun _ _ q=>q
  rcases hc with z | z
  ·rw[z]; exact nit b u e
  ·exact nit c _ z
section
variable{prog:Program}{w:World}{A:Around}{E:Value->Shared->Prop}{s:Shared}
theorem Uv{j t:Addr}{y:Value}(pit:s.heap.IsTupleIter j t k)(pt:s.heap.IsTuple t vs)(py:vs[k]?=some y)(fin:∀ g,g.IsTupleIter j t (k+1)->Heap.SameBut j s.heap g->Q y { s with heap:=g }):wpAny (model prog w) A (Builtin.SmallTypes.nextOf (.ref j)) Q E s:=by
 obtain⟨u,pu,pc,pd⟩:=id pit
 obtain⟨v,pv,_,m,pe⟩:=pt
 unfold Builtin.SmallTypes.nextOf
 refine wpAny_bind (wpAny_callSpecial?_slot (name:=Str.ofString "__next__") pit.typeIs F.slot_tuple_iterator_next (wpAny_call_entry F.slot_tuple_iterator_next pit.typeIs F.entry_tuple_iterator_next ?_ (F.args_tuple_iterator_next_1 _)))
 show wpAny _ _ (field (.ref j) 0 >>= _) _ _ s
 refine wpAny_bind (wpAny_field pu pd (x:=.ref t) rfl ?_)
 show wpAny _ _ (if(Value.ref t==Value.none)=true then _ else _) _ _ _
 rw[if_neg (by exact Bool.false_ne_true)]
 show wpAny _ _ (field (.ref j) 1 >>= _) _ _ s
 refine wpAny_bind (wpAny_field pu pd (x:=.int k 0) rfl ?_)
 show wpAny _ _ (seqItems? (.ref t) >>= _) _ _ _
 refine wpAny_bind (wpAny_seqItems pv pe ?_)
 simp only[Int.toNat_natCast,py]
 refine wpAny_bind (wpAny_setField pu pd (by simp) (wpAny_pure ⟨y,rfl,wpAny_pure (fin _ ?_ (Heap.SameBut.update ..))⟩))
 exact⟨_,Heap.get?_update_self _ pu (Obj.isFreed_of_fields (Obj.data_mapFields pd _)),(Obj.cls_mapFields ..).trans pc,by rw[Obj.data_mapFields pd]; simp[rawInt]⟩
theorem Gba{j t:Addr}(no:A.handled=none)(pit:s.heap.IsTupleIter j t k)(pt:s.heap.IsTuple t vs)(py:vs[k]?=none)(fin:∀ g e,Heap.ExtBut j s.heap g->(∃ o,g.get? e=some o/\o.cls=.type "StopIteration")->E (.ref e) { s with heap:=g }):wpAny (model prog w) A (Builtin.SmallTypes.nextOf (.ref j)) Q E s:=by
 obtain⟨u,pu,pc,pd⟩:=id pit
 obtain⟨v,pv,_,m,pe⟩:=pt
 unfold Builtin.SmallTypes.nextOf
 refine wpAny_bind (wpAny_callSpecial?_slot (name:=Str.ofString "__next__") pit.typeIs F.slot_tuple_iterator_next (wpAny_call_entry F.slot_tuple_iterator_next pit.typeIs F.entry_tuple_iterator_next ?_ (F.args_tuple_iterator_next_1 _)))
 show wpAny _ _ (field (.ref j) 0 >>= _) _ _ s
 refine wpAny_bind (wpAny_field pu pd (x:=.ref t) rfl ?_)
 show wpAny _ _ (if(Value.ref t==Value.none)=true then _ else _) _ _ _
 rw[if_neg (by exact Bool.false_ne_true)]
 show wpAny _ _ (field (.ref j) 1 >>= _) _ _ s
 refine wpAny_bind (wpAny_field pu pd (x:=.int k 0) rfl ?_)
 show wpAny _ _ (seqItems? (.ref t) >>= _) _ _ _
 refine wpAny_bind (wpAny_seqItems pv pe ?_)
 simp only[Int.toNat_natCast,py]
 refine wpAny_bind (wpAny_rule (wpAny_bind (wpAny_setField pu pd (by simp) ?_)))
 show wpAny _ _ (newExc (.type "StopIteration") [] >>= _) _ _ (_:Shared)
 refine wpAny_bind ?_
 simp only[newExc,newTuple]
 refine wpAny_bind (wpAny_newObj_type ?_ (by size_fits))
 refine wpAny_bind (m:=firstArgMember _ _) (wpAny_of_eq (a:=Value.none) (by(first | rfl | (simp only[firstArgMember]; rfl))) ?_)
 refine wpAny_newObj_type ?_ (by size_fits)
 simp only[raiseNew]
 refine wpAny_bind (wpAny_handled ?_)
 first
  | rw[show A.in1.handled=none from no]
  | rw[no]
 refine wpAny_bind (wpAny_pure (wpAny_throw ?_))
 exact fin _ _ (((Heap.SameBut.update ..).extBut.push _).push _) ⟨_,Heap.get?_push_size _ rfl,rfl⟩
end
theorem Uw{s:Shared}{g:Heap}{tk:Nat}{ch:List Addr}{vs:List V}{us:List Value}(I:Inv X pins σ H s)(hn:H s.heap.objs.size=none)(hz:vs.length<=sizeLine)(rv:Vals vs us)(tt:g.get? s.heap.objs.size=some { cls:=.type "tuple",data:=.seq us.toArray })(k:∀ b o,b∉ch->s.heap.get? b=some o->g.get? b=some o)(hf:∀ b∈ch,Gaw X pins H b)(ltf:∀ b∈ch,b≠s.heap.objs.size):
  Inv X pins σ (upd H s.heap.objs.size (.tup vs)) { s with heap:=g,toks:=tk }:=by
 have I1:Inv X pins σ (upd H s.heap.objs.size (.tup vs)) { s with heap:=s.heap.push { cls:=.type "tuple",data:=.seq us.toArray } }:=
  I.laid (t':=s.toks) (fun b o e=>Heap.get?_push_of_some _ e) (Nat.le_refl _) (show Jt X.prog X.w _ _ _ (.tup vs) from⟨hz,us,rv,IsTup.new _ _⟩)
 refine turnedL (ch:=ch) (s:={ s with heap:=s.heap.push { cls:=.type "tuple",data:=.seq us.toArray } }) I1 (fun b o hb e=>?_) fun b hb=>?_
 ·by_cases hs:b=s.heap.objs.size
  ·subst hs
   rw[Heap.get?_push_size _ rfl] at e
   cases e
   exact tt
  ·have:s.heap.get? b=some o:=by
    rcases Heap.get?_push_cases e with⟨z,_⟩ | z
    ·exact absurd z hs
    ·exact z
   exact k b o hb this
 ·obtain⟨f0,f⟩:=hf b hb
  exact⟨by rw[Gq (ltf b hb)]; exact f0,f⟩
structure Za(z ti to' i j a b:Addr):Prop where
 q1:ti≠z
 q2:to'≠z
 q3:i≠z
 q4:j≠z
 q5:ti≠to'
 q6:ti≠i
 q7:ti≠j
 q8:to'≠i
 q9:to'≠j
 q10:i≠j
 q11:a≠z
 q12:a≠to'
 q13:a≠i
 q14:a≠j
 q15:b≠z
 q16:b≠to'
 q17:b≠i
 q18:b≠j
section
variable{prog:Program}{w:World}{A:Around}{E:Value->Shared->Prop}{s:Shared}
theorem Gmf{z i j a b:Addr}{ys:Array Value}{x y c d:Value}{Q:Option Value->Shared->Prop}(D:Za z ti to' i j a b)(pz:IsZip s.heap z ti to' .none)(pti:IsPair s.heap ti (.ref i) (.ref j))(pto:IsPair s.heap to' c d)(pi':s.heap.IsTupleIter i a k)(pj:s.heap.IsTupleIter j b k)(pa:s.heap.IsTuple a xs)(pb:s.heap.IsTuple b ys)(px:xs[k]?=some x)(py:ys[k]?=some y)(fin:∀ g,IsZip g z ti to' (rawInt s.heap.objs.size)->IsPair g to' x y->g.IsTupleIter i a (k+1)->g.IsTupleIter j b (k+1)->IsPair g s.heap.objs.size x y→
   (∀ b o,b≠z->b≠to'->b≠i->b≠j->s.heap.get? b=some o->g.get? b=some o)->Q (some (.ref s.heap.objs.size)) { s with heap:=g }):wpAny (model prog w) A (pyNext (.ref z)) Q E s:=by
 have ty:s.TypeIs (.ref z) "zip":=⟨_,pz,rfl⟩
 unfold pyNext
 refine wpAny_bind (wpAny_attempt (wpAny_callSpecial?_slot (name:=Str.ofString "__next__") ty F.slot_zip_next (wpAny_call_entry F.slot_zip_next ty F.entry_zip_next ?_ (F.args_zip_next_1 _))))
 show wpAny _ _ (field (.ref z) 2 >>= _) _ _ (_:Shared)
 refine wpAny_bind (wpAny_field pz rfl (x:=.bool false) rfl ?_)
 show wpAny _ _ (field (.ref z) 3 >>= _) _ _ (_:Shared)
 refine wpAny_bind (wpAny_field pz rfl (x:=.ref ti) rfl ?_)
 refine wpAny_bind (wpAny_seqItems pti rfl ?_)
 show wpAny _ _ (Builtin.SmallTypes.ownedTupleIsFree (.ref z) >>= _) _ _ (_:Shared)
 refine wpAny_bind ?_
 unfold Builtin.SmallTypes.ownedTupleIsFree
 refine wpAny_bind (wpAny_field pz rfl (x:=.none) rfl (wpAny_pure ?_))
 simp only[if_true]
 refine wpAny_bind (wpAny_rule ?_)
 refine wpAny_bind (wpAny_field pz rfl (x:=.ref to') rfl ?_)
 refine wpAny_bind (wpAny_setField_rec pz (by simp) fun g1 z1 b1=>?_)
 replace z1:IsZip g1 z ti to' .ellipsis:=z1
 refine wpAny_bind ?_
 simp only[List.zipIdx_cons,List.zipIdx_nil,List.forIn_cons,List.forIn_nil]
 refine wpAny_bind (wpAny_bind (wpAny_onRaise ?_))
 show wpAny _ _ (Builtin.SmallTypes.nextOf (.ref i) >>= _) _ _ (_:Shared)
 refine wpAny_bind (Uv (pi'.extBut b1.extBut D.q3) (pa.extBut b1.extBut D.q11) px fun g2 i2 b2=>wpAny_pure ?_)
 have o2:IsPair g2 to' c d:=b2.extBut _ _ D.q8 (b1.extBut _ _ D.q2 pto)
 refine wpAny_bind (wpAny_seqItems o2 rfl ?_)
 refine wpAny_bind (wpAny_updateSeq_pair o2 fun g3 o3 b3=>?_)
 replace o3:IsPair g3 to' x d:=o3
 refine wpAny_bind (wpAny_letGo (wpAny_pure ?_))
 refine wpAny_bind (wpAny_bind (wpAny_onRaise ?_))
 show wpAny _ _ (Builtin.SmallTypes.nextOf (.ref j) >>= _) _ _ (_:Shared)
 refine wpAny_bind (Uv (((pj.extBut b1.extBut D.q4).extBut b2.extBut D.q10.symm).extBut b3.extBut D.q9.symm) (((pb.extBut b1.extBut D.q15).extBut b2.extBut D.q17).extBut b3.extBut D.q16) py fun g4 j4 b4=>wpAny_pure ?_)
 have o4:IsPair g4 to' x d:=b4.extBut _ _ D.q9 o3
 refine wpAny_bind (wpAny_seqItems o4 rfl ?_)
 refine wpAny_bind (wpAny_updateSeq_pair o4 fun g5 o5 b5=>?_)
 replace o5:IsPair g5 to' x y:=o5
 refine wpAny_bind (wpAny_letGo (wpAny_pure (wpAny_pure ?_)))
 refine wpAny_bind (wpAny_seqItems o5 rfl ?_)
 refine wpAny_bind (wpAny_newTuple ?_)
 have sz:g5.objs.size=s.heap.objs.size:=by rw[b5.1,b4.1,b3.1,b2.1,b1.1]
 have z5:IsZip g5 z ti to' .ellipsis:=b5.extBut _ _ D.q2.symm (b4.extBut _ _ D.q4.symm (b3.extBut _ _ D.q2.symm (b2.extBut _ _ D.q3.symm z1)))
 have k5:∀ b o,b≠z->b≠to'->b≠i->b≠j->s.heap.get? b=some o->g5.get? b=some o:=fun b o c1 c2 c3 c4 e=>
  b5.extBut _ _ c2 (b4.extBut _ _ c4 (b3.extBut _ _ c2 (b2.extBut _ _ c3 (b1.extBut _ _ c1 e))))
 have i5:g5.IsTupleIter i a (k+1):=((i2.extBut b3.extBut D.q8.symm).extBut b4.extBut D.q10).extBut b5.extBut D.q8.symm
 have j5:g5.IsTupleIter j b (k+1):=j4.extBut b5.extBut D.q9.symm
 have zl:z<g5.objs.size:=Heap.lt_size z5
 show wpAny _ _ (Builtin.SmallTypes.ownedTupleHandOut (.ref z) (.ref g5.objs.size) >>= _) _ _ (_:Shared)
 refine wpAny_bind ?_
 unfold Builtin.SmallTypes.ownedTupleHandOut
 have z6:IsZip (g5.push { cls:=.type "tuple",data:=.seq #[x,y] }) z ti to' .ellipsis:=Heap.get?_push_of_some _ z5
 refine wpAny_bind (wpAny_setField_rec z6 (by simp) fun g7 z7 b7=>?_)
 replace z7:IsZip g7 z ti to' (rawInt g5.objs.size):=z7
 refine wpAny_setField_rec z7 (by simp) fun g8 z8 b8=>?_
 replace z8:IsZip g8 z ti to' (rawInt g5.objs.size):=z8
 have up:∀ b o,b≠z->g5.get? b=some o->g8.get? b=some o:=fun b o c1 e=>b8.extBut _ _ c1 (b7.extBut _ _ c1 (Heap.get?_push_of_some _ e))
 have t8:IsPair g8 g5.objs.size x y:=b8.extBut _ _ (Nat.ne_of_gt zl) (b7.extBut _ _ (Nat.ne_of_gt zl) (Heap.get?_push_size _ rfl))
 rw[sz] at z8 t8
 refine wpAny_pure ⟨_,rfl,wpAny_pure ?_⟩
 show Q (some (.ref g5.objs.size)) _
 rw[sz]
 exact fin g8 z8 (up _ _ D.q2 o5) (i5.at fun o e=>up _ o D.q3 e) (j5.at fun o e=>up _ o D.q4 e) t8 fun b o c1 c2 c3 c4 e=>up b o c1 (k5 b o c1 c2 c3 c4 e)
theorem Gr5{z i j a b:Addr}{ys:Array Value}{c d:Value}{Q:Option Value->Shared->Prop}(no:A.handled=none)(D:Za z ti to' i j a b)(pz:IsZip s.heap z ti to' .none)(pti:IsPair s.heap ti (.ref i) (.ref j))(pto:IsPair s.heap to' c d)(pi':s.heap.IsTupleIter i a k)(pj:s.heap.IsTupleIter j b k)(pa:s.heap.IsTuple a xs)(pb:s.heap.IsTuple b ys)(pe:xs[k]?=none\/ys[k]?=none)(fin:∀ g,(∀ b o,b≠z->b≠to'->b≠i->b≠j->s.heap.get? b=some o->g.get? b=some o)->Q none { s with heap:=g }):wpAny (model prog w) A (pyNext (.ref z)) Q E s:=by
 have ty:s.TypeIs (.ref z) "zip":=⟨_,pz,rfl⟩
 have stop:∀ (g:Heap) (e:Addr),(∀ b o,b≠z->b≠to'->b≠i->b≠j->s.heap.get? b=some o->g.get? b=some o)->(∃ o,g.get? e=some o/\o.cls=.type "StopIteration")→
   wpAny (model prog w) A (do if <- isInstance (.ref e) (.type "StopIteration") then pure none else throw (.ref e)) Q E { s with heap:=g }:=fun g e h1 ⟨o,ho,hc⟩=>by
  refine wpAny_bind (wpAny_isInstance (T:="StopIteration") (b:=true) ⟨o,ho,hc⟩ isSubtype_stop ?_)
  exact wpAny_pure (fin _ h1)
 unfold pyNext
 refine wpAny_bind (wpAny_attempt (wpAny_callSpecial?_slot (name:=Str.ofString "__next__") ty F.slot_zip_next (wpAny_call_entry F.slot_zip_next ty F.entry_zip_next ?_ (F.args_zip_next_1 _))))
 show wpAny _ _ (field (.ref z) 2 >>= _) _ _ (_:Shared)
 refine wpAny_bind (wpAny_field pz rfl (x:=.bool false) rfl ?_)
 show wpAny _ _ (field (.ref z) 3 >>= _) _ _ (_:Shared)
 refine wpAny_bind (wpAny_field pz rfl (x:=.ref ti) rfl ?_)
 refine wpAny_bind (wpAny_seqItems pti rfl ?_)
 show wpAny _ _ (Builtin.SmallTypes.ownedTupleIsFree (.ref z) >>= _) _ _ (_:Shared)
 refine wpAny_bind ?_
 unfold Builtin.SmallTypes.ownedTupleIsFree
 refine wpAny_bind (wpAny_field pz rfl (x:=.none) rfl (wpAny_pure ?_))
 simp only[if_true]
 refine wpAny_bind (wpAny_rule ?_)
 refine wpAny_bind (wpAny_field pz rfl (x:=.ref to') rfl ?_)
 refine wpAny_bind (wpAny_setField_rec pz (by simp) fun g1 z1 b1=>?_)
 replace z1:IsZip g1 z ti to' .ellipsis:=z1
 refine wpAny_bind ?_
 simp only[List.zipIdx_cons,List.zipIdx_nil,List.forIn_cons,List.forIn_nil]
 refine wpAny_bind (wpAny_bind (wpAny_onRaise ?_))
 show wpAny _ _ (Builtin.SmallTypes.nextOf (.ref i) >>= _) _ _ (_:Shared)
 cases hx:xs[k]? with
 | none=>
  refine wpAny_bind (Gba no (pi'.extBut b1.extBut D.q3) (pa.extBut b1.extBut D.q11) hx fun g2 e b2 he=>?_)
  obtain⟨oe,hoe,hce⟩:=he
  have z2:IsZip g2 z ti to' .ellipsis:=b2 _ _ D.q3.symm z1
  have ez:e≠z:=fun x=>by subst x; rw[z2] at hoe; cases hoe; simp at hce
  refine wpAny_setField_rec z2 (by simp) fun g3 _ b3=>?_
  exact stop g3 e (fun b o c1 _ c3 _ x=>b3.extBut _ _ c1 (b2 _ _ c3 (b1.extBut _ _ c1 x))) ⟨oe,b3.extBut _ _ ez hoe,hce⟩
 | some x=>
  have hy:ys[k]?=none:=by
   rcases pe with h | h
   ·rw[hx] at h; cases h
   ·exact h
  refine wpAny_bind (Uv (pi'.extBut b1.extBut D.q3) (pa.extBut b1.extBut D.q11) hx fun g2 i2 b2=>wpAny_pure ?_)
  have o2:IsPair g2 to' c d:=b2.extBut _ _ D.q8 (b1.extBut _ _ D.q2 pto)
  refine wpAny_bind (wpAny_seqItems o2 rfl ?_)
  refine wpAny_bind (wpAny_updateSeq_pair o2 fun g3 o3 b3=>?_)
  refine wpAny_bind (wpAny_letGo (wpAny_pure ?_))
  refine wpAny_bind (wpAny_bind (wpAny_onRaise ?_))
  show wpAny _ _ (Builtin.SmallTypes.nextOf (.ref j) >>= _) _ _ (_:Shared)
  refine wpAny_bind (Gba no (((pj.extBut b1.extBut D.q4).extBut b2.extBut D.q10.symm).extBut b3.extBut D.q9.symm) (((pb.extBut b1.extBut D.q15).extBut b2.extBut D.q17).extBut b3.extBut D.q16) hy fun g4 e b4 he=>?_)
  obtain⟨oe,hoe,hce⟩:=he
  have z4:IsZip g4 z ti to' .ellipsis:=b4 _ _ D.q4.symm (b3.extBut _ _ D.q2.symm (b2.extBut _ _ D.q3.symm z1))
  have ez:e≠z:=fun x=>by subst x; rw[z4] at hoe; cases hoe; simp at hce
  refine wpAny_setField_rec z4 (by simp) fun g5 _ b5=>?_
  exact stop g5 e (fun b o c1 c2 c3 c4 x=>b5.extBut _ _ c1 (b4 _ _ c4 (b3.extBut _ _ c2 (b2.extBut _ _ c3 (b1.extBut _ _ c1 x))))) ⟨oe,b5.extBut _ _ ez hoe,hce⟩
abbrev zg1(g:Heap)(a:Addr):Heap:=g.push { cls:=.type "tuple_iterator",data:=.fields #[.ref a,.int 0 0] }
abbrev zg2(g:Heap)(a b:Addr):Heap:=(zg1 g a).push { cls:=.type "tuple_iterator",data:=.fields #[.ref b,.int 0 0] }
abbrev zg3(g:Heap)(a b:Addr):Heap:=(zg2 g a b).push { cls:=.type "tuple",data:=.seq #[.ref g.objs.size,.ref (zg1 g a).objs.size] }
abbrev zg4(g:Heap)(a b:Addr):Heap:=(zg3 g a b).push { cls:=.type "tuple",data:=.seq #[.none,.none] }
abbrev zg5(g:Heap)(a b:Addr):Heap:=(zg4 g a b).push { cls:=.type "zip",data:=.fields #[.none,.bool false,.bool false,.ref (zg2 g a b).objs.size,.ref (zg3 g a b).objs.size] }
theorem Gi2(a b:Addr)(xs ys:Array Value):
  Meets (Builtin.«zip.__new__» ⟨[.type "zip",.ref a,.ref b],[]⟩) (fun _ R s=>s.heap.IsTuple a xs/\s.heap.IsTuple b ys/\R (.ok (.ret (.ref (zg4 s.heap a b).objs.size))) { s with heap:=zg5 s.heap a b }):=
 .of_wp fun prog w A R s h=>by
  obtain⟨hp,g,d,tk,os⟩:=s; obtain⟨ha,hb,h⟩:=h
  have hsub:=sub_zip
  have h1:Heap.IsTuple (Shared.heap ⟨hp,g,d,tk,os⟩) a xs:=ha
  have h2:Heap.IsTuple (Shared.heap ⟨zg1 hp a,g,d,tk,os⟩) b ys:=Heap.IsTuple.push hb _
  wp_walk using wpAny_pyIter_tuple h1,wpAny_pyIter_tuple h2
  exact⟨_,rfl,h⟩
theorem Gmg{a b:Addr}{ys:Array Value}(pa:s.heap.IsTuple a xs)(pb:s.heap.IsTuple b ys)(fin:∀ g,IsZip g (s.heap.objs.size+4) (s.heap.objs.size+2) (s.heap.objs.size+3) .none->IsPair g (s.heap.objs.size+2) (.ref s.heap.objs.size) (.ref (s.heap.objs.size+1))->IsPair g (s.heap.objs.size+3) .none .none→
   g.IsTupleIter s.heap.objs.size a 0->g.IsTupleIter (s.heap.objs.size+1) b 0->(∀ c o,s.heap.get? c=some o->g.get? c=some o)->Q (.ref (s.heap.objs.size+4)) { s with heap:=g }):
  wpAny (model prog w) A (call (.type "zip") [.ref a,.ref b]) Q E s:=by
 refine callType_new F.called_zip (by decide) (F.typeCall_zip_2 _ _) (F.newCall_zip_2 _ _) (fun obj=>F.args_object_init_3 obj _ _) F.entry_zip_new (Gi2 a b xs ys) ⟨pa,pb,?_⟩
 have n1:(zg1 s.heap a).objs.size=s.heap.objs.size+1:=Heap.size_push ..
 have n2:(zg2 s.heap a b).objs.size=s.heap.objs.size+2:=by rw[Heap.size_push,n1]
 have n3:(zg3 s.heap a b).objs.size=s.heap.objs.size+3:=by rw[Heap.size_push,n2]
 have n4:(zg4 s.heap a b).objs.size=s.heap.objs.size+4:=by rw[Heap.size_push,n3]
 have g5:(zg5 s.heap a b).get? (zg4 s.heap a b).objs.size=some _:=Heap.get?_push_size _ rfl
 have g4:(zg5 s.heap a b).get? (zg3 s.heap a b).objs.size=some _:=Heap.get?_push_of_some _ (Heap.get?_push_size _ rfl)
 have g3:(zg5 s.heap a b).get? (zg2 s.heap a b).objs.size=some _:=Heap.get?_push_of_some _ (Heap.get?_push_of_some _ (Heap.get?_push_size _ rfl))
 have g2:(zg5 s.heap a b).get? (zg1 s.heap a).objs.size=some _:=Heap.get?_push_of_some _ (Heap.get?_push_of_some _ (Heap.get?_push_of_some _ (Heap.get?_push_size _ rfl)))
 have g1:(zg5 s.heap a b).get? s.heap.objs.size=some _:=Heap.get?_push_of_some _ (Heap.get?_push_of_some _ (Heap.get?_push_of_some _ (Heap.get?_push_of_some _ (Heap.get?_push_size _ rfl))))
 show _/\_
 rw[n2,n3,n4] at g5
 rw[n1,n2] at g3
 rw[n3] at g4
 rw[n1] at g2
 rw[n4]
 exact⟨⟨_,g5,rfl⟩,fin _ g5 g3 g4 ⟨_,g1,rfl,rfl⟩ ⟨_,g2,rfl,rfl⟩ fun c o x=>Heap.get?_push_of_some _ (Heap.get?_push_of_some _ (Heap.get?_push_of_some _ (Heap.get?_push_of_some _ (Heap.get?_push_of_some _ x))))⟩
end
def Itz(K:PySem.W.Frag)(a b:Addr):It:=
 ⟨fun k H=>∃ xs ys x y,SqT K H a xs/\SqT K H b ys/\xs[k]?=some x/\ys[k]?=some y,
  fun k H v H'=>∃ x y p,(∀ xs,SqT K H a xs->xs[k]?=some x)/\(∀ ys,SqT K H b ys->ys[k]?=some y)/\H p=none/\v=.ref p/\H'=upd H p (.tup [x,y]),
  fun k H=>∃ xs ys,SqT K H a xs/\SqT K H b ys/\(xs.length<=k\/ys.length<=k)⟩
def tnZ(z ti to' i j a b:Addr)(k:Nat)(h:Heap):Prop:=IsZip h z ti to' .none/\IsPair h ti (.ref i) (.ref j)/\(∃ c d,IsPair h to' c d)/\h.IsTupleIter i a k/\h.IsTupleIter j b k
theorem Gi3{x1}(z ti to' i j a b:Addr)(D:Za z ti to' i j a b):
  Turn P w K (.Tuple es x1 pos) (Itz K a b) [z,ti,to',i,j] z (tnZ z ti to' i j a b) where
 mem:=by simp
 obj:=fun k h ⟨s1,s2,⟨c,d,s3⟩,⟨o4,e4,c4,d4⟩,o5,e5,c5,d5⟩ q hq=>by
  simp only[List.mem_cons,List.mem_nil_iff,or_false] at hq
  rcases hq with rfl | rfl | rfl | rfl | rfl
  ·exact⟨_,s1,fun v y=>nomatch (show Data.fields _=Data.cell v from y)⟩
  ·exact⟨_,s2,fun v y=>nomatch (show Data.seq _ _=Data.cell v from y)⟩
  ·exact⟨_,s3,fun v y=>nomatch (show Data.seq _ _=Data.cell v from y)⟩
  ·exact⟨o4,e4,fun v y=>by rw[d4] at y; cases y⟩
  ·exact⟨o5,e5,fun v y=>by rw[d5] at y; cases y⟩
 keep:=fun k h h' ⟨s1,s2,⟨c,d,s3⟩,s4,s5⟩ kk=>⟨kk z (by simp) _ s1,kk ti (by simp) _ s2,⟨c,d,kk to' (by simp) _ s3⟩,s4.at fun o e=>kk i (by simp) o e,s5.at fun o e=>kk j (by simp) o e⟩
 item:=by
  intro X hP hw hK hc k pins s σ H E I hf ⟨s1,s2,⟨c,d,s3⟩,s4,s5⟩ hg
  subst hP hw hK
  obtain⟨xs,ys,x,y,hqa,hqb,hx,hy⟩:=hg
  obtain⟨ita,rva,pa,_⟩:=I.tuple hqa
  obtain⟨itb,rvb,pb,_⟩:=I.tuple hqb
  obtain⟨u,hu,ru⟩:=rva.get hx
  obtain⟨v,hv,rv⟩:=rvb.get hy
  have hn:H s.heap.objs.size=none:=I.hok.fresh (Nat.le_refl _)
  refine Gmf D s1 s2 s3 s4 s5 (show s.heap.IsTuple a ita.toArray from pa) (show s.heap.IsTuple b itb.toArray from pb) (x:=u) (y:=v) (by simpa using hu) (by simpa using hv) fun g t1 t2 t3 t4 t5 kk=>?_
  refine⟨_,rfl,wpAny_letOwnedTupleGo_zip t1 fun g2 e2 b2=>?_⟩
  have kk2:∀ q o,q∉[z,ti,to',i,j]->s.heap.get? q=some o->g2.get? q=some o:=fun q o hq h1=>
   b2.extBut q o (fun y=>hq (by simp[y])) (kk q o (fun y=>hq (by simp[y])) (fun y=>hq (by simp[y])) (fun y=>hq (by simp[y])) (fun y=>hq (by simp[y])) h1)
  have zl:s.heap.objs.size≠z:=Nat.ne_of_gt (Heap.lt_size s1)
  have tt2:g2.get? s.heap.objs.size=some { cls:=.type "tuple",data:=.seq [u,v].toArray }:=b2.extBut _ _ zl t5
  have ltf:∀ q∈[z,ti,to',i,j],q≠s.heap.objs.size:=fun q hq=>by
   simp only[List.mem_cons,List.mem_nil_iff,or_false] at hq
   rcases hq with rfl | rfl | rfl | rfl | rfl
   ·exact Ne.symm zl
   ·exact Nat.ne_of_lt (Heap.lt_size s2)
   ·exact Nat.ne_of_lt (Heap.lt_size s3)
   ·obtain⟨o,e1,_⟩:=s4; exact Nat.ne_of_lt (Heap.lt_size e1)
   ·obtain⟨o,e1,_⟩:=s5; exact Nat.ne_of_lt (Heap.lt_size e1)
  have I2:Inv X pins σ (upd H s.heap.objs.size (.tup [x,y])) { s with heap:=g2 }:=
   Uw (tk:=s.toks) I hn (by rw[sizeLine_eq]; simp only[List.length_cons,List.length_nil]; decide) (.cons ru (.cons rv .nil)) tt2 kk2 hf ltf
  have p2:IsPair g2 ti (.ref i) (.ref j):=b2.extBut _ _ D.q1 (kk ti _ D.q1 D.q5 D.q6 D.q7 s2)
  exact⟨.ref s.heap.objs.size,_,I2,rfl,⟨x,y,_,fun zs hz=>by rw[I.tuple_inj hz hqa]; exact hx,fun zs hz=>by rw[I.tuple_inj hz hqb]; exact hy,hn,rfl,rfl⟩,
   ⟨e2,p2,⟨_,_,b2.extBut _ _ D.q2 t2⟩,t3.extBut b2.extBut D.q3,t4.extBut b2.extBut D.q4⟩,fun q hq=>by
    rw[Gq (ltf q hq)]
    exact(hf q hq).1⟩
 done:=by
  intro X hP hw hK hc k pins s σ H E I hf ⟨s1,s2,⟨c,d,s3⟩,s4,s5⟩ hg
  subst hP hw hK
  obtain⟨xs,ys,hqa,hqb,hx⟩:=hg
  obtain⟨ita,rva,pa,_⟩:=I.tuple hqa
  obtain⟨itb,rvb,pb,_⟩:=I.tuple hqb
  have la:=rva.length
  have lb:=rvb.length
  refine Gr5 (I.ok.hd hc) D s1 s2 s3 s4 s5 (show s.heap.IsTuple a ita.toArray from pa) (show s.heap.IsTuple b itb.toArray from pb) ?_ fun g kk=>⟨rfl,turnedL I (fun q o hq e1=>kk q o (fun y=>hq (by simp[y])) (fun y=>hq (by simp[y])) (fun y=>hq (by simp[y])) (fun y=>hq (by simp[y])) e1) hf⟩
  rcases hx with h | h
  ·exact .inl (by simp; omega)
  ·exact .inr (by simp; omega)
 self:=fun _ _ _ _ _ ⟨st,_⟩ h=>wpAny_pyIter_zip st h
section
variable{X:Cx}{XQ:XW}
def zipAt(l m:List D)(k:Nat):Option D:=match l[k]?,m[k]? with
 | some x,some y=>some (.tup [x,y])
 | _,_=>none
theorem Gr6{a b:Addr}{xs ys:List V}{l m:List D}(s:SqT K H a xs)(r:RepL K mp H l xs)(s2:SqT K H b ys)(r2:RepL K mp H m ys):Gc5 K mp H (Itz K a b) (fun k _=>zipAt l m k):=by
 intro mp' H' S' af rs k
 have s':=af.tup _ _ s
 have r':=RepL.aft af _ _ r
 have s2':=af.tup _ _ s2
 have r2':=RepL.aft af _ _ r2
 show match zipAt l m k with
  | some d=>(Itz K a b).go k H'/\∀ x H2,(Itz K a b).yld k H' x H2->Aft K mp' H' mp' H2/\RS K mp' H2 S'/\Rep K mp' H2 d x
  | none=>(Itz K a b).stop k H'
 unfold zipAt
 cases z:l[k]? with
 | none=>
  refine⟨xs,ys,s',s2',.inl ?_⟩
  rw[r.len]
  exact List.getElem?_eq_none_iff.mp z
 | some d=>
  cases z2:m[k]? with
  | none=>
   refine⟨xs,ys,s',s2',.inr ?_⟩
   rw[r2.len]
   exact List.getElem?_eq_none_iff.mp z2
  | some d2=>
   obtain⟨v,e,q⟩:=r'.get z
   obtain⟨v2,e2,q2⟩:=r2'.get z2
   refine⟨⟨xs,ys,v,v2,s',s2',e,e2⟩,fun x H2 ⟨y,y2,p,h1,h2,h3,h4,h5⟩=>?_⟩
   have h1:=h1 xs s'
   have h2:=h2 ys s2'
   rw[e] at h1
   rw[e2] at h2
   cases h1
   cases h2
   subst h4 h5
   have af2:Aft K mp' H' mp' (upd H' p (.tup [v,v2])):=Km h3
   exact⟨af2,rs.new h3,p,_,rfl,SqT.of Hj,RepL.cons (Rep.aft af2 _ _ q) (RepL.cons (Rep.aft af2 _ _ q2) RepL.nil)⟩
end
section
variable{X:Cx}{XQ:XW}
def rvD(x:D)(st:Option Int)(S:Sto):Out D:=match x,st with
 | .tup l,some (-1)=>.ok (.tup l.reverse) S
 | _,_=>.bad
def rv(fe:Ev D)(fs:Ev (Option Int)):Ev D:=fun ρ S=>(fe ρ S).bind fun x S1=>(fs ρ S1).bind fun o S2=>rvD x o S2
end
section
variable{X:Cx}{XQ:XW}
def Xy:List D->Option (List Str)
 | []=>some []
 | .str z::r=>(Xy r).map (z::·)
 | _::_=>none
theorem RepL.strs:∀ {l:List D} {vs:List V} {ns:List Str},RepL K mp H l vs->Xy l=some ns->vs=ns.map V.str
 | [],vs,ns,h,e=>by
  cases (show vs=[] from h)
  cases (Option.some.inj (show some []=some ns from e))
  rfl
 | d::l,vs,ns,h,e=>by
  obtain⟨v,r,rfl,h1,h2⟩:=h
  cases d with
  | str i=>
   have e:(Xy l).map (i::·)=some ns:=e
   cases z:Xy l with
   | none=>rw[z] at e; cases e
   | some ms=>
    rw[z] at e
    cases (Option.some.inj e)
    cases (show v=.str i from h1)
    rw[RepL.strs h2 z]
    rfl
  | _=>cases (show(none:Option (List Str))=some ns from e)
theorem Gck:∀ {ys:List Str} {its:List Value},Vals (ys.map V.str) its->StrsAre its ys
 | [],_,.nil=>.nil
 | y::ys,_,.cons r t=>by
  obtain⟨tk,rfl⟩:=r
  exact .cons y tk (Gck t)
def Goo(K:PySem.W.Frag):V->List V->Hp->VK->Prop:=fun x vs H Q=>∃ z a ys,x=.str z/\vs=[.ref a]/\SqL K H a (ys.map V.str)/\(ys.map (·.length)).sum+ys.length*z.length<=1000000/\Q (.str (Txt.join z ys)) H
theorem Gmh:MtM X "str.join" (Goo X.K):=by
 intro pins s σ H x vs v us Q I rx rv h
 obtain⟨z,a,ys,rfl,rfl,hs,hb,q⟩:=h
 obtain⟨t,rfl⟩:=rx
 obtain⟨u,rfl,ru⟩:=rv.one
 cases ru
 obtain⟨its,r,pl,_⟩:=I.list hs
 exact join_list pl.isList (by simpa using Gck r) (Nat.le_trans hb (by decide)) fun t' k=>⟨.str _,H,I.tok k,⟨t',rfl⟩,q⟩
def Qr(x:D)(xs:List D)(S:Sto):Out D:=match x,xs with
 | .str z,[.lst i]=>match S[i]? with
  | some c=>match Xy c.xs with
   | some ys=>if(ys.map (·.length)).sum+ys.length*z.length<=1000000 then .ok (.str (Txt.join z ys)) S else .bad
   | none=>.bad
  | none=>.bad
 | _,_=>.bad
theorem Gmi:MeD K (Goo K) Qr:=by
 intro XQ σ ρ mp H S x xs v vs Q rs rx r p
 unfold Qr at p
 split at p
 ·rename_i z i
  split at p
  ·rename_i c zc
   split at p
   ·rename_i ys zs
    by_cases hb:(ys.map (·.length)).sum+ys.length*z.length<=1000000
    ·rw[if_pos hb] at p
     obtain⟨w,rfl,hw⟩:=RepL.one r
     cases (show v=.str z from rx)
     obtain⟨a,us,rfl,ha,sq,q,f⟩:=rs.items hw zc
     rw[RepL.strs q zs] at sq
     exact⟨z,a,ys,rfl,rfl,sq,hb,Gn.ok (R:=Rep K) p rs rfl⟩
    ·rw[if_neg hb] at p; exact p.elim
   ·exact p.elim
  ·exact p.elim
 ·exact p.elim
def isStr:D->Bool
 | .str _=>true
 | _=>false
def mts(o:D->List D->Sto->Out D)(fo:Ev D)(f:Ev (List D)):Ev D:=fun ρ S=>(fo ρ S).bind fun x S1=>if isStr x=true then(f ρ S1).bind fun xs S2=>o x xs S2 else .bad
theorem Gmj{e:Expr}(ho:JE X XQ o fo)(ha:JA X XQ [e] f)(hbase:attributeBase o "join" X.env (eval o X.env)=eval o X.env:=by rfl)(hfew:((backTo cpos (starEach [e] X.env)).all (fun x=>!x.1)&&(backToKw cpos (keywordEach [] X.env)).all (fun x=>x.1.isSome)
   && decide ([e].length+([]:List Keyword).length+(if([]:List Keyword).isEmpty then 0 else 1)<30))=true:=by rfl)(hline:(apos.endLine==cpos.line)=true:=by rfl)(hs:starEach [e] X.env=(false,eval e X.env)::starEach [] X.env:=by rfl)(hplain:(backTo cpos (starEach [] X.env)).any (·.1)=false:=by rfl):
  JE X XQ (.Call (.Attribute o "join" apos) [e] [] cpos) (mts Qr fo f):=by
 refine PE.mono (Gib PySem.F.plainAttrs_str PySem.F.slot_str_join PySem.F.type_str_join Gmh ho ha hbase hfew hline hs hplain) fun σ H Q ⟨mp,ρ,S,G,p⟩=>?_
 refine bindP G p fun mp1 H1 x S1 v a1 G1 r1 p1=>?_
 by_cases hl:isStr x=true
 ·rw[if_pos hl] at p1
  have ty:tyV X.K "str" v H1:=by
   cases x with
   | str z=>cases (show v=.str z from r1); exact rfl
   | _=>cases hl
  exact⟨ty,bindP G1 p1 fun mp2 H2 xs S2 vs a2 G2 r2 p2=>Gmi XQ σ ρ mp2 H2 S2 x xs v vs Q G2.rs (Rep.aft a2 _ _ r1) r2 p2⟩
 ·rw[if_neg hl] at p1; exact p1.elim
inductive JFs(X:Cx)(XQ:XW):List Expr->List (Ev D)->Prop
 | nil:JFs X XQ [] []
 | cons {e:Expr} {f:Ev D} {es:List Expr} {fs:List (Ev D)}:JE X XQ e f->JFs X XQ es fs->JFs X XQ (e::es) (f::fs)
end
theorem Gmk{base:Heap}(d:Dn K mg x st ps):Cal P w K mg base x ps (fun _ _=>.bad) j:=by
 obtain⟨f,fd,F,hm,hb⟩:=d.ex
 exact⟨f,fd,⟨fun vs H Q E ⟨mp,ds,S,_,_,_,p⟩=>(show False from p).elim,fun A outer s H args us vs Q E _ _ _ _ ⟨mp,ds,S,_,_,_,p⟩=>(show False from p).elim⟩,hm,F.kp,hb⟩
theorem Gbb(a b c:Value):checkTypeCall "zip" ⟨[a,b,c],[]⟩=pure ():=by kernel_rfl
theorem Gby(a b c:Value):checkBuiltinCall "zip.__new__" ⟨[.type "zip",a,b,c],[]⟩=pure ():=by kernel_rfl
theorem Xz(a b c d:Value):argsOk "object.__init__" ⟨[a,b,c,d],[]⟩:=by
 unfold argsOk; rw[signature?_of (id:="object.__init__") (n:=['_','_','t','i','n','i','_','_']) (o:=['t','c','e','j','b','o']) (by kernel_rfl) F.owner_object]; kernel_rfl
abbrev Ke(h:Heap)(T:Addr)(a b c:Value):Prop:=h.get? T=some { cls:=.type "tuple",data:=.seq #[a,b,c] }
structure Zb(z ti to' i j l a b c:Addr):Prop where
 tz:ti≠z
 oz:to'≠z
 iz:i≠z
 jz:j≠z
 lz:l≠z
 t_o:ti≠to'
 t_i:ti≠i
 t_j:ti≠j
 t_l:ti≠l
 oi:to'≠i
 oj:to'≠j
 ol:to'≠l
 ij:i≠j
 il:i≠l
 jl:j≠l
 az:a≠z
 ao:a≠to'
 ai:a≠i
 aj:a≠j
 al:a≠l
 bz:b≠z
 bo:b≠to'
 bi:b≠i
 bj:b≠j
 bl:b≠l
 cz:c≠z
 co:c≠to'
 ci:c≠i
 cj:c≠j
 cl:c≠l
section
variable{prog:Program}{w:World}{A:Around}{E:Value->Shared->Prop}{s:Shared}
theorem Kh{T:Addr}{a b c x:Value}{Q:Unit->Shared->Prop}(hT:Ke s.heap T a b c)(h:∀ h',h'.get? T=some { cls:=.type "tuple",data:=.seq ((#[a,b,c]:Array Value).setIfInBounds k x) }->Heap.SameBut T s.heap h'->Q () { s with heap:=h' }):
  wpAny (model prog w) A (updateSeq T (·.setIfInBounds k x)) Q E s:=by
 refine wpAny_updateSeq hT rfl (h _ ?_ (Heap.SameBut.update ..))
 rw[Heap.get?_update_self _ hT rfl]
 simp[Obj.mapSeq]
theorem Gml{z i j l a b c:Addr}{ys:Array Value}{x y c1 c2 c3:Value}{Q:Option Value->Shared->Prop}(D:Zb z ti to' i j l a b c)(pz:IsZip s.heap z ti to' .none)(pti:Ke s.heap ti (.ref i) (.ref j) (.ref l))(pto:Ke s.heap to' c1 c2 c3)(pi':s.heap.IsTupleIter i a k)(pj:s.heap.IsTupleIter j b k)(pl:s.heap.IsTupleIter l c k)(pa:s.heap.IsTuple a xs)(pb:s.heap.IsTuple b ys)(pc:s.heap.IsTuple c zs)(px:xs[k]?=some x)(py:ys[k]?=some y)(pv:zs[k]?=some v)(fin:∀ g,IsZip g z ti to' (rawInt s.heap.objs.size)->Ke g to' x y v->g.IsTupleIter i a (k+1)->g.IsTupleIter j b (k+1)->g.IsTupleIter l c (k+1)->Ke g s.heap.objs.size x y v→
   (∀ b o,b≠z->b≠to'->b≠i->b≠j->b≠l->s.heap.get? b=some o->g.get? b=some o)->Q (some (.ref s.heap.objs.size)) { s with heap:=g }):wpAny (model prog w) A (pyNext (.ref z)) Q E s:=by
 have ty:s.TypeIs (.ref z) "zip":=⟨_,pz,rfl⟩
 unfold pyNext
 refine wpAny_bind (wpAny_attempt (wpAny_callSpecial?_slot (name:=Str.ofString "__next__") ty F.slot_zip_next (wpAny_call_entry F.slot_zip_next ty F.entry_zip_next ?_ (F.args_zip_next_1 _))))
 show wpAny _ _ (field (.ref z) 2 >>= _) _ _ (_:Shared)
 refine wpAny_bind (wpAny_field pz rfl (x:=.bool false) rfl ?_)
 show wpAny _ _ (field (.ref z) 3 >>= _) _ _ (_:Shared)
 refine wpAny_bind (wpAny_field pz rfl (x:=.ref ti) rfl ?_)
 refine wpAny_bind (wpAny_seqItems pti rfl ?_)
 show wpAny _ _ (Builtin.SmallTypes.ownedTupleIsFree (.ref z) >>= _) _ _ (_:Shared)
 refine wpAny_bind ?_
 unfold Builtin.SmallTypes.ownedTupleIsFree
 refine wpAny_bind (wpAny_field pz rfl (x:=.none) rfl (wpAny_pure ?_))
 simp only[if_true]
 refine wpAny_bind (wpAny_rule ?_)
 refine wpAny_bind (wpAny_field pz rfl (x:=.ref to') rfl ?_)
 refine wpAny_bind (wpAny_setField_rec pz (by simp) fun g1 z1 b1=>?_)
 replace z1:IsZip g1 z ti to' .ellipsis:=z1
 refine wpAny_bind ?_
 simp only[List.zipIdx_cons,List.zipIdx_nil,List.forIn_cons,List.forIn_nil]
 refine wpAny_bind (wpAny_bind (wpAny_onRaise ?_))
 show wpAny _ _ (Builtin.SmallTypes.nextOf (.ref i) >>= _) _ _ (_:Shared)
 refine wpAny_bind (Uv (pi'.extBut b1.extBut D.iz) (pa.extBut b1.extBut D.az) px fun g2 i2 b2=>wpAny_pure ?_)
 have o2:Ke g2 to' c1 c2 c3:=b2.extBut _ _ D.oi (b1.extBut _ _ D.oz pto)
 refine wpAny_bind (wpAny_seqItems o2 rfl ?_)
 refine wpAny_bind (Kh o2 fun g3 o3 b3=>?_)
 replace o3:Ke g3 to' x c2 c3:=o3
 refine wpAny_bind (wpAny_letGo (wpAny_pure ?_))
 refine wpAny_bind (wpAny_bind (wpAny_onRaise ?_))
 show wpAny _ _ (Builtin.SmallTypes.nextOf (.ref j) >>= _) _ _ (_:Shared)
 refine wpAny_bind (Uv (((pj.extBut b1.extBut D.jz).extBut b2.extBut D.ij.symm).extBut b3.extBut D.oj.symm) (((pb.extBut b1.extBut D.bz).extBut b2.extBut D.bi).extBut b3.extBut D.bo) py fun g4 j4 b4=>wpAny_pure ?_)
 have o4:Ke g4 to' x c2 c3:=b4.extBut _ _ D.oj o3
 refine wpAny_bind (wpAny_seqItems o4 rfl ?_)
 refine wpAny_bind (Kh o4 fun g5 o5 b5=>?_)
 replace o5:Ke g5 to' x y c3:=o5
 refine wpAny_bind (wpAny_letGo (wpAny_pure ?_))
 refine wpAny_bind (wpAny_bind (wpAny_onRaise ?_))
 show wpAny _ _ (Builtin.SmallTypes.nextOf (.ref l) >>= _) _ _ (_:Shared)
 refine wpAny_bind (Uv (((((pl.extBut b1.extBut D.lz).extBut b2.extBut D.il.symm).extBut b3.extBut D.ol.symm).extBut b4.extBut D.jl.symm).extBut b5.extBut D.ol.symm) (((((pc.extBut b1.extBut D.cz).extBut b2.extBut D.ci).extBut b3.extBut D.co).extBut b4.extBut D.cj).extBut b5.extBut D.co) pv fun g6 l6 b6=>wpAny_pure ?_)
 have o6:Ke g6 to' x y c3:=b6.extBut _ _ D.ol o5
 refine wpAny_bind (wpAny_seqItems o6 rfl ?_)
 refine wpAny_bind (Kh o6 fun g7 o7 b7=>?_)
 replace o7:Ke g7 to' x y v:=o7
 refine wpAny_bind (wpAny_letGo (wpAny_pure (wpAny_pure ?_)))
 refine wpAny_bind (wpAny_seqItems o7 rfl ?_)
 refine wpAny_bind (wpAny_newTuple ?_)
 have sz:g7.objs.size=s.heap.objs.size:=by rw[b7.1,b6.1,b5.1,b4.1,b3.1,b2.1,b1.1]
 have z7:IsZip g7 z ti to' .ellipsis:=b7.extBut _ _ D.oz.symm (b6.extBut _ _ D.lz.symm (b5.extBut _ _ D.oz.symm (b4.extBut _ _ D.jz.symm (b3.extBut _ _ D.oz.symm (b2.extBut _ _ D.iz.symm z1)))))
 have k7:∀ b o,b≠z->b≠to'->b≠i->b≠j->b≠l->s.heap.get? b=some o->g7.get? b=some o:=fun b o c1 c2 c3 c4 c5 e=>
  b7.extBut _ _ c2 (b6.extBut _ _ c5 (b5.extBut _ _ c2 (b4.extBut _ _ c4 (b3.extBut _ _ c2 (b2.extBut _ _ c3 (b1.extBut _ _ c1 e))))))
 have i7:g7.IsTupleIter i a (k+1):=((((i2.extBut b3.extBut D.oi.symm).extBut b4.extBut D.ij).extBut b5.extBut D.oi.symm).extBut b6.extBut D.il).extBut b7.extBut D.oi.symm
 have j7:g7.IsTupleIter j b (k+1):=((j4.extBut b5.extBut D.oj.symm).extBut b6.extBut D.jl).extBut b7.extBut D.oj.symm
 have l7:g7.IsTupleIter l c (k+1):=l6.extBut b7.extBut D.ol.symm
 have zl:z<g7.objs.size:=Heap.lt_size z7
 show wpAny _ _ (Builtin.SmallTypes.ownedTupleHandOut (.ref z) (.ref g7.objs.size) >>= _) _ _ (_:Shared)
 refine wpAny_bind ?_
 unfold Builtin.SmallTypes.ownedTupleHandOut
 have z8:IsZip (g7.push { cls:=.type "tuple",data:=.seq #[x,y,v] }) z ti to' .ellipsis:=Heap.get?_push_of_some _ z7
 refine wpAny_bind (wpAny_setField_rec z8 (by simp) fun g9 z9 b9=>?_)
 replace z9:IsZip g9 z ti to' (rawInt g7.objs.size):=z9
 refine wpAny_setField_rec z9 (by simp) fun g10 z10 b10=>?_
 replace z10:IsZip g10 z ti to' (rawInt g7.objs.size):=z10
 have up:∀ b o,b≠z->g7.get? b=some o->g10.get? b=some o:=fun b o c1 e=>b10.extBut _ _ c1 (b9.extBut _ _ c1 (Heap.get?_push_of_some _ e))
 have t10:Ke g10 g7.objs.size x y v:=b10.extBut _ _ (Nat.ne_of_gt zl) (b9.extBut _ _ (Nat.ne_of_gt zl) (Heap.get?_push_size _ rfl))
 rw[sz] at z10 t10
 refine wpAny_pure ⟨_,rfl,wpAny_pure ?_⟩
 show Q (some (.ref g7.objs.size)) _
 rw[sz]
 exact fin g10 z10 (up _ _ D.oz o7) (i7.at fun o e=>up _ o D.iz e) (j7.at fun o e=>up _ o D.jz e) (l7.at fun o e=>up _ o D.lz e) t10 fun b o c1 c2 c3 c4 c5 e=>up b o c1 (k7 b o c1 c2 c3 c4 c5 e)
theorem Gr7{z i j l a b c:Addr}{ys:Array Value}{c1 c2 c3:Value}{Q:Option Value->Shared->Prop}(no:A.handled=none)(D:Zb z ti to' i j l a b c)(pz:IsZip s.heap z ti to' .none)(pti:Ke s.heap ti (.ref i) (.ref j) (.ref l))(pto:Ke s.heap to' c1 c2 c3)(pi':s.heap.IsTupleIter i a k)(pj:s.heap.IsTupleIter j b k)(pl:s.heap.IsTupleIter l c k)(pa:s.heap.IsTuple a xs)(pb:s.heap.IsTuple b ys)(pc:s.heap.IsTuple c zs)(pe:xs[k]?=none\/ys[k]?=none\/zs[k]?=none)(fin:∀ g,(∀ b o,b≠z->b≠to'->b≠i->b≠j->b≠l->s.heap.get? b=some o->g.get? b=some o)->Q none { s with heap:=g }):wpAny (model prog w) A (pyNext (.ref z)) Q E s:=by
 have ty:s.TypeIs (.ref z) "zip":=⟨_,pz,rfl⟩
 have stop:∀ (g:Heap) (e:Addr),(∀ b o,b≠z->b≠to'->b≠i->b≠j->b≠l->s.heap.get? b=some o->g.get? b=some o)->(∃ o,g.get? e=some o/\o.cls=.type "StopIteration")→
   wpAny (model prog w) A (do if <- isInstance (.ref e) (.type "StopIteration") then pure none else throw (.ref e)) Q E { s with heap:=g }:=fun g e h1 ⟨o,ho,hc⟩=>by
  refine wpAny_bind (wpAny_isInstance (T:="StopIteration") (b:=true) ⟨o,ho,hc⟩ isSubtype_stop ?_)
  exact wpAny_pure (fin _ h1)
 unfold pyNext
 refine wpAny_bind (wpAny_attempt (wpAny_callSpecial?_slot (name:=Str.ofString "__next__") ty F.slot_zip_next (wpAny_call_entry F.slot_zip_next ty F.entry_zip_next ?_ (F.args_zip_next_1 _))))
 show wpAny _ _ (field (.ref z) 2 >>= _) _ _ (_:Shared)
 refine wpAny_bind (wpAny_field pz rfl (x:=.bool false) rfl ?_)
 show wpAny _ _ (field (.ref z) 3 >>= _) _ _ (_:Shared)
 refine wpAny_bind (wpAny_field pz rfl (x:=.ref ti) rfl ?_)
 refine wpAny_bind (wpAny_seqItems pti rfl ?_)
 show wpAny _ _ (Builtin.SmallTypes.ownedTupleIsFree (.ref z) >>= _) _ _ (_:Shared)
 refine wpAny_bind ?_
 unfold Builtin.SmallTypes.ownedTupleIsFree
 refine wpAny_bind (wpAny_field pz rfl (x:=.none) rfl (wpAny_pure ?_))
 simp only[if_true]
 refine wpAny_bind (wpAny_rule ?_)
 refine wpAny_bind (wpAny_field pz rfl (x:=.ref to') rfl ?_)
 refine wpAny_bind (wpAny_setField_rec pz (by simp) fun g1 z1 b1=>?_)
 replace z1:IsZip g1 z ti to' .ellipsis:=z1
 refine wpAny_bind ?_
 simp only[List.zipIdx_cons,List.zipIdx_nil,List.forIn_cons,List.forIn_nil]
 refine wpAny_bind (wpAny_bind (wpAny_onRaise ?_))
 show wpAny _ _ (Builtin.SmallTypes.nextOf (.ref i) >>= _) _ _ (_:Shared)
 cases hx:xs[k]? with
 | none=>
  refine wpAny_bind (Gba no (pi'.extBut b1.extBut D.iz) (pa.extBut b1.extBut D.az) hx fun g2 e b2 he=>?_)
  obtain⟨oe,hoe,hce⟩:=he
  have z2:IsZip g2 z ti to' .ellipsis:=b2 _ _ D.iz.symm z1
  have ez:e≠z:=fun x=>by subst x; rw[z2] at hoe; cases hoe; simp at hce
  refine wpAny_setField_rec z2 (by simp) fun g3 _ b3=>?_
  exact stop g3 e (fun b o c1 _ c3 _ _ x=>b3.extBut _ _ c1 (b2 _ _ c3 (b1.extBut _ _ c1 x))) ⟨oe,b3.extBut _ _ ez hoe,hce⟩
 | some x=>
  refine wpAny_bind (Uv (pi'.extBut b1.extBut D.iz) (pa.extBut b1.extBut D.az) hx fun g2 i2 b2=>wpAny_pure ?_)
  have o2:Ke g2 to' c1 c2 c3:=b2.extBut _ _ D.oi (b1.extBut _ _ D.oz pto)
  refine wpAny_bind (wpAny_seqItems o2 rfl ?_)
  refine wpAny_bind (Kh o2 fun g3 o3 b3=>?_)
  replace o3:Ke g3 to' x c2 c3:=o3
  refine wpAny_bind (wpAny_letGo (wpAny_pure ?_))
  refine wpAny_bind (wpAny_bind (wpAny_onRaise ?_))
  show wpAny _ _ (Builtin.SmallTypes.nextOf (.ref j) >>= _) _ _ (_:Shared)
  cases hy:ys[k]? with
  | none=>
   refine wpAny_bind (Gba no (((pj.extBut b1.extBut D.jz).extBut b2.extBut D.ij.symm).extBut b3.extBut D.oj.symm) (((pb.extBut b1.extBut D.bz).extBut b2.extBut D.bi).extBut b3.extBut D.bo) hy fun g4 e b4 he=>?_)
   obtain⟨oe,hoe,hce⟩:=he
   have z4:IsZip g4 z ti to' .ellipsis:=b4 _ _ D.jz.symm (b3.extBut _ _ D.oz.symm (b2.extBut _ _ D.iz.symm z1))
   have ez:e≠z:=fun x=>by subst x; rw[z4] at hoe; cases hoe; simp at hce
   refine wpAny_setField_rec z4 (by simp) fun g5 _ b5=>?_
   exact stop g5 e (fun b o c1 c2 c3 c4 _ x=>b5.extBut _ _ c1 (b4 _ _ c4 (b3.extBut _ _ c2 (b2.extBut _ _ c3 (b1.extBut _ _ c1 x))))) ⟨oe,b5.extBut _ _ ez hoe,hce⟩
  | some y=>
   have hz:zs[k]?=none:=by
    rcases pe with h | h | h
    ·rw[hx] at h; cases h
    ·rw[hy] at h; cases h
    ·exact h
   refine wpAny_bind (Uv (((pj.extBut b1.extBut D.jz).extBut b2.extBut D.ij.symm).extBut b3.extBut D.oj.symm) (((pb.extBut b1.extBut D.bz).extBut b2.extBut D.bi).extBut b3.extBut D.bo) hy fun g4 j4 b4=>wpAny_pure ?_)
   have o4:Ke g4 to' x c2 c3:=b4.extBut _ _ D.oj o3
   refine wpAny_bind (wpAny_seqItems o4 rfl ?_)
   refine wpAny_bind (Kh o4 fun g5 o5 b5=>?_)
   refine wpAny_bind (wpAny_letGo (wpAny_pure ?_))
   refine wpAny_bind (wpAny_bind (wpAny_onRaise ?_))
   show wpAny _ _ (Builtin.SmallTypes.nextOf (.ref l) >>= _) _ _ (_:Shared)
   refine wpAny_bind (Gba no (((((pl.extBut b1.extBut D.lz).extBut b2.extBut D.il.symm).extBut b3.extBut D.ol.symm).extBut b4.extBut D.jl.symm).extBut b5.extBut D.ol.symm) (((((pc.extBut b1.extBut D.cz).extBut b2.extBut D.ci).extBut b3.extBut D.co).extBut b4.extBut D.cj).extBut b5.extBut D.co) hz fun g6 e b6 he=>?_)
   obtain⟨oe,hoe,hce⟩:=he
   have z6:IsZip g6 z ti to' .ellipsis:=b6 _ _ D.lz.symm (b5.extBut _ _ D.oz.symm (b4.extBut _ _ D.jz.symm (b3.extBut _ _ D.oz.symm (b2.extBut _ _ D.iz.symm z1))))
   have ez:e≠z:=fun x=>by subst x; rw[z6] at hoe; cases hoe; simp at hce
   refine wpAny_setField_rec z6 (by simp) fun g7 _ b7=>?_
   exact stop g7 e (fun b o c1 c2 c3 c4 c5 x=>b7.extBut _ _ c1 (b6 _ _ c5 (b5.extBut _ _ c2 (b4.extBut _ _ c4 (b3.extBut _ _ c2 (b2.extBut _ _ c3 (b1.extBut _ _ c1 x))))))) ⟨oe,b7.extBut _ _ ez hoe,hce⟩
abbrev ya1(g:Heap)(a:Addr):Heap:=g.push { cls:=.type "tuple_iterator",data:=.fields #[.ref a,.int 0 0] }
abbrev ya2(g:Heap)(a b:Addr):Heap:=(ya1 g a).push { cls:=.type "tuple_iterator",data:=.fields #[.ref b,.int 0 0] }
abbrev ya3(g:Heap)(a b c:Addr):Heap:=(ya2 g a b).push { cls:=.type "tuple_iterator",data:=.fields #[.ref c,.int 0 0] }
abbrev ya4(g:Heap)(a b c:Addr):Heap:=(ya3 g a b c).push { cls:=.type "tuple",data:=.seq #[.ref g.objs.size,.ref (ya1 g a).objs.size,.ref (ya2 g a b).objs.size] }
abbrev ya5(g:Heap)(a b c:Addr):Heap:=(ya4 g a b c).push { cls:=.type "tuple",data:=.seq #[.none,.none,.none] }
abbrev ya6(g:Heap)(a b c:Addr):Heap:=(ya5 g a b c).push { cls:=.type "zip",data:=.fields #[.none,.bool false,.bool false,.ref (ya3 g a b c).objs.size,.ref (ya4 g a b c).objs.size] }
theorem Gi4(a b c:Addr)(xs ys zs:Array Value):
  Meets (Builtin.«zip.__new__» ⟨[.type "zip",.ref a,.ref b,.ref c],[]⟩) (fun _ R s=>s.heap.IsTuple a xs/\s.heap.IsTuple b ys/\s.heap.IsTuple c zs/\R (.ok (.ret (.ref (ya5 s.heap a b c).objs.size))) { s with heap:=ya6 s.heap a b c }):=
 .of_wp fun prog w A R s h=>by
  obtain⟨hp,g,d,tk,os⟩:=s; obtain⟨ha,hb,hc,h⟩:=h
  have hsub:=sub_zip
  have h1:Heap.IsTuple (Shared.heap ⟨hp,g,d,tk,os⟩) a xs:=ha
  have h2:Heap.IsTuple (Shared.heap ⟨ya1 hp a,g,d,tk,os⟩) b ys:=Heap.IsTuple.push hb _
  have h3:Heap.IsTuple (Shared.heap ⟨ya2 hp a b,g,d,tk,os⟩) c zs:=Heap.IsTuple.push (Heap.IsTuple.push hc _) _
  wp_walk using wpAny_pyIter_tuple h1,wpAny_pyIter_tuple h2,wpAny_pyIter_tuple h3
  exact⟨_,rfl,h⟩
theorem Gmm{a b c:Addr}{ys:Array Value}(pa:s.heap.IsTuple a xs)(pb:s.heap.IsTuple b ys)(pc:s.heap.IsTuple c zs)(fin:∀ g,IsZip g (s.heap.objs.size+5) (s.heap.objs.size+3) (s.heap.objs.size+4) .none->Ke g (s.heap.objs.size+3) (.ref s.heap.objs.size) (.ref (s.heap.objs.size+1)) (.ref (s.heap.objs.size+2))->Ke g (s.heap.objs.size+4) .none .none .none→
   g.IsTupleIter s.heap.objs.size a 0->g.IsTupleIter (s.heap.objs.size+1) b 0->g.IsTupleIter (s.heap.objs.size+2) c 0->(∀ c o,s.heap.get? c=some o->g.get? c=some o)->Q (.ref (s.heap.objs.size+5)) { s with heap:=g }):
  wpAny (model prog w) A (call (.type "zip") [.ref a,.ref b,.ref c]) Q E s:=by
 refine callType_new F.called_zip (by decide) (Gbb _ _ _) (Gby _ _ _) (fun obj=>Xz obj _ _ _) F.entry_zip_new (Gi4 a b c xs ys zs) ⟨pa,pb,pc,?_⟩
 have n1:(ya1 s.heap a).objs.size=s.heap.objs.size+1:=Heap.size_push ..
 have n2:(ya2 s.heap a b).objs.size=s.heap.objs.size+2:=by rw[Heap.size_push,n1]
 have n3:(ya3 s.heap a b c).objs.size=s.heap.objs.size+3:=by rw[Heap.size_push,n2]
 have n4:(ya4 s.heap a b c).objs.size=s.heap.objs.size+4:=by rw[Heap.size_push,n3]
 have n5:(ya5 s.heap a b c).objs.size=s.heap.objs.size+5:=by rw[Heap.size_push,n4]
 have p1:∀ {g:Heap} {o:Obj} {q:Addr} {u:Obj},g.get? q=some u->(g.push o).get? q=some u:=fun e=>Heap.get?_push_of_some _ e
 have g6:(ya6 s.heap a b c).get? (ya5 s.heap a b c).objs.size=some _:=Heap.get?_push_size _ rfl
 have g5:(ya6 s.heap a b c).get? (ya4 s.heap a b c).objs.size=some _:=p1 (Heap.get?_push_size _ rfl)
 have g4:(ya6 s.heap a b c).get? (ya3 s.heap a b c).objs.size=some _:=p1 (p1 (Heap.get?_push_size _ rfl))
 have g3:(ya6 s.heap a b c).get? (ya2 s.heap a b).objs.size=some _:=p1 (p1 (p1 (Heap.get?_push_size _ rfl)))
 have g2:(ya6 s.heap a b c).get? (ya1 s.heap a).objs.size=some _:=p1 (p1 (p1 (p1 (Heap.get?_push_size _ rfl))))
 have g1:(ya6 s.heap a b c).get? s.heap.objs.size=some _:=p1 (p1 (p1 (p1 (p1 (Heap.get?_push_size _ rfl)))))
 show _/\_
 rw[n3,n4,n5] at g6
 rw[n4] at g5
 rw[n1,n2,n3] at g4
 rw[n2] at g3
 rw[n1] at g2
 rw[n5]
 exact⟨⟨_,g6,rfl⟩,fin _ g6 g4 g5 ⟨_,g1,rfl,rfl⟩ ⟨_,g2,rfl,rfl⟩ ⟨_,g3,rfl,rfl⟩ fun c o x=>p1 (p1 (p1 (p1 (p1 (p1 x)))))⟩
end
def Gg6(K:PySem.W.Frag)(a b c:Addr):It:=
 ⟨fun k H=>∃ xs ys zs x y v,SqT K H a xs/\SqT K H b ys/\SqT K H c zs/\xs[k]?=some x/\ys[k]?=some y/\zs[k]?=some v,
  fun k H u H'=>∃ x y v p,(∀ xs,SqT K H a xs->xs[k]?=some x)/\(∀ ys,SqT K H b ys->ys[k]?=some y)/\(∀ zs,SqT K H c zs->zs[k]?=some v)/\H p=none/\u=.ref p/\H'=upd H p (.tup [x,y,v]),
  fun k H=>∃ xs ys zs,SqT K H a xs/\SqT K H b ys/\SqT K H c zs/\(xs.length<=k\/ys.length<=k\/zs.length<=k)⟩
def Gww(z ti to' i j l a b c:Addr)(k:Nat)(h:Heap):Prop:=IsZip h z ti to' .none/\Ke h ti (.ref i) (.ref j) (.ref l)/\(∃ c1 c2 c3,Ke h to' c1 c2 c3)/\h.IsTupleIter i a k/\h.IsTupleIter j b k/\h.IsTupleIter l c k
theorem Gg7{x1}(z ti to' i j l a b c:Addr)(D:Zb z ti to' i j l a b c):
  Turn P w K (.Tuple es x1 pos) (Gg6 K a b c) [z,ti,to',i,j,l] z (Gww z ti to' i j l a b c) where
 mem:=by simp
 obj:=fun k h ⟨s1,s2,⟨c1,c2,c3,s3⟩,⟨o4,e4,c4,d4⟩,⟨o5,e5,c5,d5⟩,o6,e6,c6,d6⟩ q hq=>by
  simp only[List.mem_cons,List.mem_nil_iff,or_false] at hq
  rcases hq with rfl | rfl | rfl | rfl | rfl | rfl
  ·exact⟨_,s1,fun v y=>nomatch (show Data.fields _=Data.cell v from y)⟩
  ·exact⟨_,s2,fun v y=>nomatch (show Data.seq _ _=Data.cell v from y)⟩
  ·exact⟨_,s3,fun v y=>nomatch (show Data.seq _ _=Data.cell v from y)⟩
  ·exact⟨o4,e4,fun v y=>by rw[d4] at y; cases y⟩
  ·exact⟨o5,e5,fun v y=>by rw[d5] at y; cases y⟩
  ·exact⟨o6,e6,fun v y=>by rw[d6] at y; cases y⟩
 keep:=fun k h h' ⟨s1,s2,⟨c1,c2,c3,s3⟩,s4,s5,s6⟩ kk=>⟨kk z (by simp) _ s1,kk ti (by simp) _ s2,⟨c1,c2,c3,kk to' (by simp) _ s3⟩,s4.at fun o e=>kk i (by simp) o e,s5.at fun o e=>kk j (by simp) o e,s6.at fun o e=>kk l (by simp) o e⟩
 item:=by
  intro X hP hw hK hc k pins s σ H E I hf ⟨s1,s2,⟨c1,c2,c3,s3⟩,s4,s5,s6⟩ hg
  subst hP hw hK
  obtain⟨xs,ys,zs,x,y,v,hqa,hqb,hqc,hx,hy,hv⟩:=hg
  obtain⟨ita,rva,pa,_⟩:=I.tuple hqa
  obtain⟨itb,rvb,pb,_⟩:=I.tuple hqb
  obtain⟨itc,rvc,pc,_⟩:=I.tuple hqc
  obtain⟨u,hu,ru⟩:=rva.get hx
  obtain⟨u2,hu2,ru2⟩:=rvb.get hy
  obtain⟨u3,hu3,ru3⟩:=rvc.get hv
  have hn:H s.heap.objs.size=none:=I.hok.fresh (Nat.le_refl _)
  refine Gml D s1 s2 s3 s4 s5 s6 (show s.heap.IsTuple a ita.toArray from pa) (show s.heap.IsTuple b itb.toArray from pb) (show s.heap.IsTuple c itc.toArray from pc) (x:=u) (y:=u2) (v:=u3) (by simpa using hu) (by simpa using hu2) (by simpa using hu3) fun g t1 t2 t3 t4 t6 t5 kk=>?_
  refine⟨_,rfl,wpAny_letOwnedTupleGo_zip t1 fun g2 e2 b2=>?_⟩
  have kk2:∀ q o,q∉[z,ti,to',i,j,l]->s.heap.get? q=some o->g2.get? q=some o:=fun q o hq h1=>
   b2.extBut q o (fun y=>hq (by simp[y])) (kk q o (fun y=>hq (by simp[y])) (fun y=>hq (by simp[y])) (fun y=>hq (by simp[y])) (fun y=>hq (by simp[y])) (fun y=>hq (by simp[y])) h1)
  have zl:s.heap.objs.size≠z:=Nat.ne_of_gt (Heap.lt_size s1)
  have tt2:g2.get? s.heap.objs.size=some { cls:=.type "tuple",data:=.seq [u,u2,u3].toArray }:=b2.extBut _ _ zl t5
  have ltf:∀ q∈[z,ti,to',i,j,l],q≠s.heap.objs.size:=fun q hq=>by
   simp only[List.mem_cons,List.mem_nil_iff,or_false] at hq
   rcases hq with rfl | rfl | rfl | rfl | rfl | rfl
   ·exact Ne.symm zl
   ·exact Nat.ne_of_lt (Heap.lt_size s2)
   ·exact Nat.ne_of_lt (Heap.lt_size s3)
   ·obtain⟨o,e1,_⟩:=s4; exact Nat.ne_of_lt (Heap.lt_size e1)
   ·obtain⟨o,e1,_⟩:=s5; exact Nat.ne_of_lt (Heap.lt_size e1)
   ·obtain⟨o,e1,_⟩:=s6; exact Nat.ne_of_lt (Heap.lt_size e1)
  have I2:Inv X pins σ (upd H s.heap.objs.size (.tup [x,y,v])) { s with heap:=g2 }:=
   Uw (tk:=s.toks) I hn (by rw[sizeLine_eq]; simp only[List.length_cons,List.length_nil]; decide) (.cons ru (.cons ru2 (.cons ru3 .nil))) tt2 kk2 hf ltf
  have p2:Ke g2 ti (.ref i) (.ref j) (.ref l):=b2.extBut _ _ D.tz (kk ti _ D.tz D.t_o D.t_i D.t_j D.t_l s2)
  exact⟨.ref s.heap.objs.size,_,I2,rfl,⟨x,y,v,_,fun zs hz=>by rw[I.tuple_inj hz hqa]; exact hx,fun zs hz=>by rw[I.tuple_inj hz hqb]; exact hy,fun zs hz=>by rw[I.tuple_inj hz hqc]; exact hv,hn,rfl,rfl⟩,
   ⟨e2,p2,⟨_,_,_,b2.extBut _ _ D.oz t2⟩,t3.extBut b2.extBut D.iz,t4.extBut b2.extBut D.jz,t6.extBut b2.extBut D.lz⟩,fun q hq=>by
    rw[Gq (ltf q hq)]
    exact(hf q hq).1⟩
 done:=by
  intro X hP hw hK hc k pins s σ H E I hf ⟨s1,s2,⟨c1,c2,c3,s3⟩,s4,s5,s6⟩ hg
  subst hP hw hK
  obtain⟨xs,ys,zs,hqa,hqb,hqc,hx⟩:=hg
  obtain⟨ita,rva,pa,_⟩:=I.tuple hqa
  obtain⟨itb,rvb,pb,_⟩:=I.tuple hqb
  obtain⟨itc,rvc,pc,_⟩:=I.tuple hqc
  have la:=rva.length
  have lb:=rvb.length
  have lc:=rvc.length
  refine Gr7 (I.ok.hd hc) D s1 s2 s3 s4 s5 s6 (show s.heap.IsTuple a ita.toArray from pa) (show s.heap.IsTuple b itb.toArray from pb) (show s.heap.IsTuple c itc.toArray from pc) ?_ fun g kk=>⟨rfl,turnedL I (fun q o hq e1=>kk q o (fun y=>hq (by simp[y])) (fun y=>hq (by simp[y])) (fun y=>hq (by simp[y])) (fun y=>hq (by simp[y])) (fun y=>hq (by simp[y])) e1) hf⟩
  rcases hx with h | h | h
  ·exact .inl (by simp; omega)
  ·exact .inr (.inl (by simp; omega))
  ·exact .inr (.inr (by simp; omega))
 self:=fun _ _ _ _ _ ⟨st,_⟩ h=>wpAny_pyIter_zip st h
section
variable{X:Cx}{XQ:XW}
def Gu8(K:PySem.W.Frag)(ta:TA):TI:=fun σ H R=>ta σ H fun xs H1=>∃ a b c,xs=[.ref a,.ref b,.ref c]/\(∃ ys,SqT K H1 a ys)/\(∃ ys,SqT K H1 b ys)/\(∃ ys,SqT K H1 c ys)/\R (Gg6 K a b c) H1
theorem Vals.three:∀ {x y z:V} {us:List Value},Vals [x,y,z] us->∃ u v w,us=[u,v,w]/\Ha x u/\Ha y v/\Ha z w
 | _,_,_,_,.cons r (.cons q (.cons p .nil))=>⟨_,_,_,rfl,r,q,p⟩
theorem Gmn{x1}{tp:Pos}{c:Expr}{ta:TA}(hg:Gl X "zip")(hm:X.mg "zip"=none)(ha:PA X [a,b,c] ta)(hs:starEach [a,b,c] X.env=(false,eval a X.env)::starEach [b,c] X.env:=by rfl)(hpl:(backTo pos (starEach [b,c] X.env)).any (·.1)=false:=by rfl):
  PI X (.Tuple es x1 tp) (.Call (.Name "zip" p) [a,b,c] [] pos) (Gu8 X.K ta):=by
 intro pins s σ H R I h
 refine wpAny_Call_Name_kw (Wr I hg hm (by rfl) ?_ (by decide) (by decide))
 refine PyProof.Rows.callWith_type1 (thn (ha pos pins s σ H _ I h) fun us s1 ⟨vs,H1,I1,r1,q1⟩=>?_) hs hpl
 obtain⟨c,d,f,e,⟨ys,hqa⟩,⟨zs,hqb⟩,⟨ws,hqc⟩,q⟩:=q1
 subst e
 obtain⟨u,u',u'',rfl,rx,ry,rz⟩:=Vals.three r1
 cases rx
 cases ry
 cases rz
 obtain⟨ita,_,pa,_⟩:=I1.tuple hqa
 obtain⟨itb,_,pb,_⟩:=I1.tuple hqb
 obtain⟨itc,_,pc,_⟩:=I1.tuple hqc
 have ca:c<s1.heap.objs.size:=by obtain⟨o,e1,_⟩:=(show s1.heap.IsTuple c ita.toArray from pa); exact Heap.lt_size e1
 have cb:d<s1.heap.objs.size:=by obtain⟨o,e1,_⟩:=(show s1.heap.IsTuple d itb.toArray from pb); exact Heap.lt_size e1
 have cc:f<s1.heap.objs.size:=by obtain⟨o,e1,_⟩:=(show s1.heap.IsTuple f itc.toArray from pc); exact Heap.lt_size e1
 refine Gmm (show s1.heap.IsTuple c ita.toArray from pa) (show s1.heap.IsTuple d itb.toArray from pb) (show s1.heap.IsTuple f itc.toArray from pc) fun g t1 t2 t3 t4 t5 t6 kk=>?_
 refine wpAny_pyIter_zip t1 ?_
 have I2:Inv X pins σ H1 { s1 with heap:=g }:=I1.kept (t':=s1.toks) kk
 have far:∀ m n:Nat,m≠n->s1.heap.objs.size+m≠s1.heap.objs.size+n:=fun m n h z=>h (Nat.add_left_cancel z)
 have up:∀ (e:Addr) (n:Nat),e<s1.heap.objs.size->e≠s1.heap.objs.size+n:=fun e n h=>Nat.ne_of_lt (Nat.lt_of_lt_of_le h (Nat.le_add_right _ _))
 have D:Zb (s1.heap.objs.size+5) (s1.heap.objs.size+3) (s1.heap.objs.size+4) s1.heap.objs.size (s1.heap.objs.size+1) (s1.heap.objs.size+2) c d f:=
  ⟨far 3 5 (by decide),far 4 5 (by decide),far 0 5 (by decide),far 1 5 (by decide),far 2 5 (by decide),far 3 4 (by decide),far 3 0 (by decide),far 3 1 (by decide),far 3 2 (by decide),far 4 0 (by decide),far 4 1 (by decide),far 4 2 (by decide),far 0 1 (by decide),far 0 2 (by decide),far 1 2 (by decide),
   up c 5 ca,up c 4 ca,up c 0 ca,up c 1 ca,up c 2 ca,up d 5 cb,up d 4 cb,up d 0 cb,up d 1 cb,up d 2 cb,up f 5 cc,up f 4 cc,up f 0 cc,up f 1 cc,up f 2 cc⟩
 refine⟨s1.heap.objs.size+5,[s1.heap.objs.size+5,s1.heap.objs.size+3,s1.heap.objs.size+4,s1.heap.objs.size,s1.heap.objs.size+1,s1.heap.objs.size+2],_,_,H1,rfl,I2,Gg7 _ _ _ _ _ _ c d f D,⟨t1,t2,⟨_,_,_,t3⟩,t4,t5,t6⟩,fun q hq=>?_,q⟩
 have hb':s1.heap.objs.size<=q:=by
  simp only[List.mem_cons,List.mem_nil_iff,or_false] at hq
  rcases hq with rfl | rfl | rfl | rfl | rfl | rfl
  ·exact Nat.le_add_right _ _
  ·exact Nat.le_add_right _ _
  ·exact Nat.le_add_right _ _
  ·exact Nat.le_refl _
  ·exact Nat.le_add_right _ _
  ·exact Nat.le_add_right _ _
 exact I1.fpOk hb' (I1.hok.fresh hb')
def Xa(l m n:List D)(k:Nat):Option D:=match l[k]?,m[k]?,n[k]? with
 | some x,some y,some z=>some (.tup [x,y,z])
 | _,_,_=>none
def Gi5(f:Ev (List D)):Ev Src:=fun ρ S=>(f ρ S).bind fun ds S1=>match ds with
 | [.tup l,.tup m,.tup n]=>.ok ⟨fun k _=>Xa l m n k,l.length+1⟩ S1
 | _=>.bad
theorem Gmo{a b c:Addr}{xs ys zs:List V}{l m n:List D}(s:SqT K H a xs)(r:RepL K mp H l xs)(s2:SqT K H b ys)(r2:RepL K mp H m ys)(s3:SqT K H c zs)(r3:RepL K mp H n zs):Gc5 K mp H (Gg6 K a b c) (fun k _=>Xa l m n k):=by
 intro mp' H' S' af rs k
 have s':=af.tup _ _ s
 have r':=RepL.aft af _ _ r
 have s2':=af.tup _ _ s2
 have r2':=RepL.aft af _ _ r2
 have s3':=af.tup _ _ s3
 have r3':=RepL.aft af _ _ r3
 show match Xa l m n k with
  | some d=>(Gg6 K a b c).go k H'/\∀ x H2,(Gg6 K a b c).yld k H' x H2->Aft K mp' H' mp' H2/\RS K mp' H2 S'/\Rep K mp' H2 d x
  | none=>(Gg6 K a b c).stop k H'
 unfold Xa
 cases z:l[k]? with
 | none=>
  refine⟨xs,ys,zs,s',s2',s3',.inl ?_⟩
  rw[r.len]
  exact List.getElem?_eq_none_iff.mp z
 | some d=>
  cases z2:m[k]? with
  | none=>
   refine⟨xs,ys,zs,s',s2',s3',.inr (.inl ?_)⟩
   rw[r2.len]
   exact List.getElem?_eq_none_iff.mp z2
  | some d2=>
   cases z3:n[k]? with
   | none=>
    refine⟨xs,ys,zs,s',s2',s3',.inr (.inr ?_)⟩
    rw[r3.len]
    exact List.getElem?_eq_none_iff.mp z3
   | some d3=>
    obtain⟨v,e,q⟩:=r'.get z
    obtain⟨v2,e2,q2⟩:=r2'.get z2
    obtain⟨v3,e3,q3⟩:=r3'.get z3
    refine⟨⟨xs,ys,zs,v,v2,v3,s',s2',s3',e,e2,e3⟩,fun x H2 ⟨y,y2,y3,p,h1,h2,h6,h3,h4,h5⟩=>?_⟩
    have h1:=h1 xs s'
    have h2:=h2 ys s2'
    have h6:=h6 zs s3'
    rw[e] at h1
    rw[e2] at h2
    rw[e3] at h6
    cases h1
    cases h2
    cases h6
    subst h4 h5
    have af2:Aft K mp' H' mp' (upd H' p (.tup [v,v2,v3])):=Km h3
    exact⟨af2,rs.new h3,p,_,rfl,SqT.of Hj,RepL.cons (Rep.aft af2 _ _ q) (RepL.cons (Rep.aft af2 _ _ q2) (RepL.cons (Rep.aft af2 _ _ q3) RepL.nil))⟩
theorem RepL.three{a b c:D}{vs:List V}(h:RepL K mp H [a,b,c] vs):∃ u v w,vs=[u,v,w]/\Rep K mp H a u/\Rep K mp H b v/\Rep K mp H c w:=by
 obtain⟨u,r,rfl,h1,h2⟩:=h
 obtain⟨v,w,rfl,h3,h4⟩:=RepL.two h2
 exact⟨u,v,w,rfl,h1,h3,h4⟩
theorem Gmp{x1}{tp:Pos}{c:Expr}(hg:Gl X "zip")(hm:X.mg "zip"=none)(ha:JA X XQ [a,b,c] f)(hs:starEach [a,b,c] X.env=(false,eval a X.env)::starEach [b,c] X.env:=by rfl)(hpl:(backTo pos (starEach [b,c] X.env)).any (·.1)=false:=by rfl):
  JI X XQ (.Tuple es x1 tp) (.Call (.Name "zip" p) [a,b,c] [] pos) (Gi5 f):=by
 refine PI.mono (Gmn hg hm ha hs hpl) fun σ H R ⟨mp,ρ,S,G,p⟩=>?_
 refine bindP G p fun mp1 H1 ds S1 vs a1 G1 r1 p1=>?_
 split at p1
 ·rename_i l m n
  obtain⟨v,v2,v3,rfl,h1,h2,h3⟩:=RepL.three r1
  obtain⟨c,xs,rfl,s,q⟩:=Rep.tup h1
  obtain⟨d,ys,rfl,s2,q2⟩:=Rep.tup h2
  obtain⟨e,zs,rfl,s3,q3⟩:=Rep.tup h3
  exact⟨c,d,e,rfl,⟨xs,s⟩,⟨ys,s2⟩,⟨zs,s3⟩,Gn.ok (R:=kI X.K) (d:=⟨fun k _=>Xa l m n k,l.length+1⟩) (S:=S1) p1 G1.rs (Gmo s q s2 q2 s3 q3)⟩
 ·exact p1.elim
end
section
open Builtin Builtin.Str
variable{prog:Program}{w:World}{A:Around}{E:Value->Shared->Prop}{s:Shared}
theorem Gg8{t u:Tok}(hy:(y.length==0)=false)(hq:∀ (l:List (Str×Tok)) (k:Nat),l.map (·.1)=Txt.split x y->Q (.ref s.heap.objs.size) { s with toks:=k,heap:=s.heap.push { cls:=.type "list",data:=.seq (strValues l).toArray } })(hsz:x.length<=sizeLine)(hsz2:(partsBetween x (occurrences x y 0 x.length (x.length+1)) y.length).length<=sizeLine):
  wpAny (model prog w) A (call (.builtin "str.split") [.str x t,.str y u]) Q E s:=by
 cases h1:(decide (x.length<y.length)||decide (strKind x<strKind y))
 ·cases hf:(occurrences x y 0 x.length (x.length+1)).isEmpty
  ·refine call_meets F.slot_str_split (typeIs_str _ _ _) F.entry_str_split (F.args_str_split_2 _ _) (meets_str_split_sep x y t u h1 hy hf hsz hsz2) ?_
   show wants Q E _ { s with toks:=_,heap:=s.heap.push { cls:=.type "list",data:=.seq (strsFrom s.toks (partsBetween x (occurrences x y 0 x.length (x.length+1)) y.length)).toArray } }
   rw[strsFrom_eq]
   exact hq (numbered s.toks _) _ ((numbered_texts _ _).trans ((if_neg (ne_true_of_eq_false h1)).trans (if_neg (ne_true_of_eq_false hf))).symm)
  ·exact call_meets F.slot_str_split (typeIs_str _ _ _) F.entry_str_split (F.args_str_split_2 _ _) (meets_str_split_not_found x y t u h1 hy hf)
    (hq [(x,t)] s.toks ((if_neg (ne_true_of_eq_false h1)).trans (if_pos hf)).symm)
 ·exact call_meets F.slot_str_split (typeIs_str _ _ _) F.entry_str_split (F.args_str_split_2 _ _) (meets_str_split_cannot_occur x y t u h1)
   (hq [(x,t)] s.toks (if_pos h1).symm)
theorem Gcl:∀ l:List (Str×Tok),Vals ((l.map (·.1)).map V.str) (strValues l)
 | []=>.nil
 | (x,t)::r=>.cons ⟨t,rfl⟩ (Gcl r)
def Gfe(x y:Str):Nat:=(partsBetween x (occurrences x y 0 x.length (x.length+1)) y.length).length
end
section
variable{X:Cx}{XQ:XW}
def Ux(z y:Str):Bool:=(!(y.length==0))&&(decide (z.length<=1000000)&&(decide (Gfe z y<=1000000)&&decide ((Txt.split z y).length<=1000000)))
def Gi6:V->List V->Hp->VK->Prop:=fun x vs H Q=>∃ z y,x=.str z/\vs=[.str y]/\Ux z y=true/\∀ a,H a=none->Q (.ref a) (upd H a (.lst ((Txt.split z y).map V.str)))
theorem Gi7:MtM X "str.split" Gi6:=by
 intro pins s σ H x vs v us Q I rx rv h
 obtain⟨z,y,rfl,rfl,hb,q⟩:=h
 obtain⟨t,rfl⟩:=rx
 obtain⟨u,rfl,ru⟩:=rv.one
 obtain⟨t2,rfl⟩:=ru
 unfold Ux at hb
 simp only[Bool.and_eq_true,decide_eq_true_eq,Bool.not_eq_true'] at hb
 obtain⟨b1,b2,b3,b4⟩:=hb
 have hf:H s.heap.objs.size=none:=I.hok.fresh (Nat.le_refl _)
 refine Gg8 b1 (fun l k hl=>?_) (line_le b2) (line_le b3)
 refine⟨.ref s.heap.objs.size,upd H s.heap.objs.size (.lst ((Txt.split z y).map V.str)),I.laid (t':=k) (fun b u e=>Heap.get?_push_of_some _ e) (Nat.le_refl _) ?_,rfl,q _ hf⟩
 exact⟨by rw[List.length_map]; exact line_le b4,strValues l,0,by rw[<- hl]; exact Gcl l,Heap.get?_push_size _ rfl⟩
def Ht(x:D)(xs:List D)(S:Sto):Out D:=match x,xs with
 | .str z,[.str y]=>if Ux z y=true then .ok (.lst S.length) (S++[⟨false,(Txt.split z y).map D.str⟩]) else .bad
 | _,_=>.bad
theorem Gd9{K:PySem.W.Frag}{mp:List Addr}{H:Hp}:∀ l:List Str,RepL K mp H (l.map D.str) (l.map V.str)
 | []=>RepL.nil
 | _::r=>RepL.cons rfl (Gd9 r)
theorem Gi8:MeD K Gi6 Ht:=by
 intro XQ σ ρ mp H S x xs v vs Q rs rx r p
 unfold Ht at p
 split at p
 ·rename_i z y
  by_cases hb:Ux z y=true
  ·rw[if_pos hb] at p
   obtain⟨w,rfl,hw⟩:=RepL.one r
   cases (show v=.str z from rx)
   cases (show w=.str y from hw)
   refine⟨z,y,rfl,rfl,hb,fun a ha=>?_⟩
   obtain⟨af,rs',la⟩:=rs.newL ha (Gd9 (Txt.split z y))
   exact Gn.ok (R:=Rep K) (Gn.aft p af) rs' ⟨a,rfl,la⟩
  ·rw[if_neg hb] at p; exact p.elim
 ·exact p.elim
theorem Gi9{e:Expr}(ho:JE X XQ o fo)(ha:JA X XQ [e] f)(hbase:attributeBase o "split" X.env (eval o X.env)=eval o X.env:=by rfl)(hfew:((backTo cpos (starEach [e] X.env)).all (fun x=>!x.1)&&(backToKw cpos (keywordEach [] X.env)).all (fun x=>x.1.isSome)
   && decide ([e].length+([]:List Keyword).length+(if([]:List Keyword).isEmpty then 0 else 1)<30))=true:=by rfl)(hline:(apos.endLine==cpos.line)=true:=by rfl)(hs:starEach [e] X.env=(false,eval e X.env)::starEach [] X.env:=by rfl)(hplain:(backTo cpos (starEach [] X.env)).any (·.1)=false:=by rfl):
  JE X XQ (.Call (.Attribute o "split" apos) [e] [] cpos) (mts Ht fo f):=by
 refine PE.mono (Gib PySem.F.plainAttrs_str PySem.F.slot_str_split PySem.F.type_str_split Gi7 ho ha hbase hfew hline hs hplain) fun σ H Q ⟨mp,ρ,S,G,p⟩=>?_
 refine bindP G p fun mp1 H1 x S1 v a1 G1 r1 p1=>?_
 by_cases hl:isStr x=true
 ·rw[if_pos hl] at p1
  have ty:tyV X.K "str" v H1:=by
   cases x with
   | str z=>cases (show v=.str z from r1); exact rfl
   | _=>cases hl
  exact⟨ty,bindP G1 p1 fun mp2 H2 xs S2 vs a2 G2 r2 p2=>Gi8 XQ σ ρ mp2 H2 S2 x xs v vs Q G2.rs (Rep.aft a2 _ _ r1) r2 p2⟩
 ·rw[if_neg hl] at p1; exact p1.elim
def istD(x y:D)(S:Sto):Out D:=match x,y with
 | .str i,.str j=>.ok (.bl (!(Builtin.Str.occurrences j i 0 j.length 1).isEmpty)) S
 | _,_=>.bad
theorem Gr8:OpD K (fun x y H Q=>∃ i j,x=.str i/\y=.str j/\Q (.bl (!(Builtin.Str.occurrences j i 0 j.length 1).isEmpty)) H) istD:=by
 intro XQ σ ρ mp H S x y v u Q rs rx ry p
 unfold istD at p
 split at p
 ·rename_i i j
  cases (show v=.str i from rx)
  cases (show u=.str j from ry)
  exact⟨i,j,rfl,rfl,Gn.ok (R:=Rep K) p rs rfl⟩
 ·exact p.elim
variable{a b:Expr}{fa fb:Ev D}{pos:Pos}
theorem Gr9(ha:JE X XQ a fa)(hb:JE X XQ b fb)(hm:behindInMarks .In b=false:=by rfl):JE X XQ (.Compare a [.In] [b] pos) (o2 istD fa fb):=Gc3 Ggr Gr8 ha hb hm
theorem Gg9:Qq X (.type "int") (fun xs H Q=>∃ z n,xs=[.str z]/\PySem.intText? z=some n/\z.length<=640/\Q (.int n) H):=by
 intro pins s σ H xs us Q I r h
 obtain⟨z,n,rfl,hn,hl,q⟩:=h
 obtain⟨u,rfl,t,rfl⟩:=Ws r
 exact PySem.W.KIN.call_text hn hl ⟨.int n,H,I.tok _,⟨_,rfl⟩,q⟩
def Qs(xs:List D)(S:Sto):Out D:=match xs with
 | [.str z]=>match PySem.intText? z with
  | some n=>if z.length<=640 then .ok (.int n) S else .bad
  | none=>.bad
 | _=>.bad
theorem Gmq:BlD K (fun xs H Q=>∃ z n,xs=[.str z]/\PySem.intText? z=some n/\z.length<=640/\Q (.int n) H) Qs:=by
 intro XQ σ ρ mp H S xs vs Q rs r p
 unfold Qs at p
 split at p
 ·rename_i z
  split at p
  ·rename_i n hn
   by_cases hb:z.length<=640
   ·rw[if_pos hb] at p
    obtain⟨v,rfl,h⟩:=RepL.one r
    cases (show v=.str z from h)
    exact⟨z,n,rfl,hn,hb,Gn.ok (R:=Rep K) p rs rfl⟩
   ·rw[if_neg hb] at p; exact p.elim
  ·exact p.elim
 ·exact p.elim
theorem Gmr{pos:Pos}{e:Expr}(hg:Gl X "int")(hm:X.mg "int"=none)(ha:JA X XQ [e] f)(he:starEach [e] X.env=(false,eval e X.env)::starEach [] X.env:=by rfl):JE X XQ (.Call (.Name "int" p) [e] [] pos) (b1 Qs f):=Gd3 Gg9 Gmq hg hm (by rfl) ha (he:=he)
end
def Its(z:Str):It:=⟨fun i _=>i<z.cps.size,fun i H x H'=>H'=H/\∃ c,z.cps[i]?=some c/\x=.str ⟨#[c]⟩,fun i _=>z.cps.size<=i⟩
theorem Gff(z:Str)(t:Tok)(it:Addr):Turn P w K tg (Its z) [it] it (fun i h=>h.IsStrIter it "str_ascii_iterator" z t i) where
 mem:=by simp
 obj:=fun i h st b hb=>by
  have e:b=it:=by simpa using hb
  subst e
  obtain⟨o,e,c,d⟩:=st
  exact⟨o,e,fun v z=>by rw[d] at z; cases z⟩
 keep:=fun i h h' ⟨o,e,r⟩ k=>⟨o,k it (by simp) o e,r⟩
 item:=by
  intro X hP hw hK hc i pins s σ H E I hf st hg
  subst hP hw hK
  have hg:i<z.cps.size:=hg
  obtain⟨f0,f1,f2,f3,f4,f5⟩:=hf it (by simp)
  refine wpAny_pyNext_ascii_item st (c:=z.cps[i]) (by simp[hg]) fun h' st' sb=>?_
  have I1:Inv X pins σ H { s with heap:=h',toks:=s.toks+1 }:=I.turned (t':=s.toks+1) (fun b o hb e=>(sb.2 b hb).trans e) f0 f1 f3 f4 f5
  obtain⟨o,e,c,d⟩:=id st'
  exact⟨_,rfl,Gdw (s:={ s with heap:=h',toks:=s.toks+1 }) e c d (by decide) ⟨.str ⟨#[z.cps[i]]⟩,H,I1,⟨_,rfl⟩,⟨rfl,z.cps[i],by simp[hg],rfl⟩,st',fun b hb=>(hf b hb).1⟩⟩
 done:=by
  intro X hP hw hK hc i pins s σ H E I hf st hg
  subst hP hw hK
  have hg:z.cps.size<=i:=hg
  obtain⟨f0,f1,f2,f3,f4,f5⟩:=hf it (by simp)
  exact wpAny_pyNext_ascii_end (I.ok.hd hc) st (by simp[hg]) fun h' eb=>⟨rfl,I.turned (t':=s.toks) (fun b o hb e=>eb b o hb e) f0 f1 f3 f4 f5⟩
 self:=fun _ _ _ _ _ st h=>wpAny_pyIter_striter_ascii st h
theorem Gha(z:Str)(t:Tok)(it:Addr):Turn P w K tg (Its z) [it] it (fun i h=>h.IsStrIter it "str_iterator" z t i) where
 mem:=by simp
 obj:=fun i h st b hb=>by
  have e:b=it:=by simpa using hb
  subst e
  obtain⟨o,e,c,d⟩:=st
  exact⟨o,e,fun v z=>by rw[d] at z; cases z⟩
 keep:=fun i h h' ⟨o,e,r⟩ k=>⟨o,k it (by simp) o e,r⟩
 item:=by
  intro X hP hw hK hc i pins s σ H E I hf st hg
  subst hP hw hK
  have hg:i<z.cps.size:=hg
  obtain⟨f0,f1,f2,f3,f4,f5⟩:=hf it (by simp)
  refine wpAny_pyNext_wide_item st (c:=z.cps[i]) (by simp[hg]) fun h' st' sb=>?_
  have I1:Inv X pins σ H { s with heap:=h',toks:=s.toks+1 }:=I.turned (t':=s.toks+1) (fun b o hb e=>(sb.2 b hb).trans e) f0 f1 f3 f4 f5
  obtain⟨o,e,c,d⟩:=id st'
  exact⟨_,rfl,Gdw (s:={ s with heap:=h',toks:=s.toks+1 }) e c d (by decide) ⟨.str ⟨#[z.cps[i]]⟩,H,I1,⟨_,rfl⟩,⟨rfl,z.cps[i],by simp[hg],rfl⟩,st',fun b hb=>(hf b hb).1⟩⟩
 done:=by
  intro X hP hw hK hc i pins s σ H E I hf st hg
  subst hP hw hK
  have hg:z.cps.size<=i:=hg
  obtain⟨f0,f1,f2,f3,f4,f5⟩:=hf it (by simp)
  exact wpAny_pyNext_wide_end (I.ok.hd hc) st (by simp[hg]) fun h' eb=>⟨rfl,I.turned (t':=s.toks) (fun b o hb e=>eb b o hb e) f0 f1 f3 f4 f5⟩
 self:=fun _ _ _ _ _ st h=>wpAny_pyIter_striter_wide st h
section
variable{X:Cx}{XQ:XW}
def Gwx(tl:TE):TI:=fun σ H R=>tl σ H fun v H1=>∃ z,v=.str z/\R (Its z) H1
theorem Gsa{tl:TE}(hl:PE X l tl):PI X tg l (Gwx tl):=by
 intro pins s σ H R I h
 refine thn (hl pins s σ H _ I h) fun v s1 ⟨x,H1,I1,r1,q1⟩=>?_
 obtain⟨z,e,q⟩:=q1
 subst e
 obtain⟨t,rfl⟩:=r1
 have fp:∀ b∈[s1.heap.objs.size],Gaw X pins H1 b:=fun b hb=>by
  have e:b=s1.heap.objs.size:=by simpa using hb
  subst e
  exact I1.fpOk (Nat.le_refl _) (I1.hok.fresh (Nat.le_refl _))
 cases ha:z.cps.all (·<128)
 ·exact wpAny_pyIter_wide ha ⟨s1.heap.objs.size,[s1.heap.objs.size],_,_,H1,rfl,I1.kept (t':=s1.toks) fun b o e=>Heap.get?_push_of_some _ e,Gha z t _,⟨_,Heap.get?_push_size _ rfl,rfl,rfl⟩,fp,q⟩
 ·exact wpAny_pyIter_ascii ha ⟨s1.heap.objs.size,[s1.heap.objs.size],_,_,H1,rfl,I1.kept (t':=s1.toks) fun b o e=>Heap.get?_push_of_some _ e,Gff z t _,⟨_,Heap.get?_push_size _ rfl,rfl,rfl⟩,fp,q⟩
def Ghb(z:Str):Src:=⟨fun k _=>(z.cps[k]?).map fun c=>.str ⟨#[c]⟩,z.cps.size+1⟩
def isrcS(f:Ev D):Ev Src:=fun ρ S=>(f ρ S).bind fun d S1=>match d with
 | .str z=>.ok (Ghb z) S1
 | _=>.bad
theorem Gsb{z:Str}:Gc5 K mp H (Its z) (fun k _=>(z.cps[k]?).map fun c=>.str ⟨#[c]⟩):=by
 intro mp' H' S' af rs k
 show match (z.cps[k]?).map (fun c=>D.str ⟨#[c]⟩) with
  | some d=>(Its z).go k H'/\∀ x H2,(Its z).yld k H' x H2->Aft K mp' H' mp' H2/\RS K mp' H2 S'/\Rep K mp' H2 d x
  | none=>(Its z).stop k H'
 cases e:z.cps[k]? with
 | none=>exact Array.getElem?_eq_none_iff.mp e
 | some c=>
  refine⟨(Array.getElem?_eq_some_iff.mp e).1,fun x H2 ⟨h1,c',h2,h3⟩=>?_⟩
  rw[e] at h2
  cases h2
  subst h1 h3
  exact⟨.refl,rs,rfl⟩
theorem Gsc{f:Ev D}(hl:JE X XQ l f):JI X XQ tg l (isrcS f):=by
 refine PI.mono (Gsa hl) fun σ H R ⟨mp,ρ,S,G,p⟩=>?_
 refine bindP G p fun mp1 H1 d S1 v a1 G1 r1 p1=>?_
 split at p1
 ·rename_i z
  exact⟨z,r1,Gn.ok (R:=kI X.K) (d:=Ghb z) (S:=S1) p1 G1.rs Gsb⟩
 ·exact p1.elim
end
def Iel(K:PySem.W.Frag)(a:Addr):It:=
 ⟨fun i H=>∃ xs x,SqL K H a xs/\xs[i]?=some x,fun i H x H'=>∃ y p,(∀ xs,SqL K H a xs->xs[i]?=some y)/\H p=none/\x=.ref p/\H'=upd H p (.tup [.int i,y]),fun i H=>∃ xs,SqL K H a xs/\xs.length<=i⟩
theorem Gfg{x1}(a it e:Addr)(ne:e≠it):
  Turn P w K (.Tuple es x1 pos) (Iel K a) [e,it] e (fun i h=>(∃ old,IsEnum h e it i old)/\h.IsListIter it a i) where
 mem:=by simp
 obj:=fun i h ⟨⟨old,st⟩,o,e1,c,d⟩ b hb=>by
  rcases List.mem_cons.mp hb with rfl | hb
  ·exact⟨_,st,fun v z=>by
    have z':Data.fields _=Data.cell v:=z
    cases z'⟩
  ·have eb:b=it:=by simpa using hb
   subst eb
   exact⟨o,e1,fun v z=>by rw[d] at z; cases z⟩
 keep:=fun i h h' ⟨⟨old,st⟩,ti⟩ k=>⟨⟨old,k e (by simp) _ st⟩,ti.at fun o e1=>k it (by simp) o e1⟩
 item:=by
  intro X hP hw hK hc i pins s σ H E I hf ⟨⟨old,st⟩,ti⟩ hg
  subst hP hw hK
  obtain⟨xs,x,hq,hx⟩:=hg
  obtain⟨its,rv,p,hz⟩:=I.list hq
  obtain⟨u,hu,ru⟩:=rv.get hx
  have hn:H s.heap.objs.size=none:=I.hok.fresh (Nat.le_refl _)
  refine wpAny_pyNext_enum_item st ti p.isList (x:=u) (by simpa using hu) ne fun g oe ti' tt _ kk=>?_
  refine⟨_,rfl,wpAny_letOwnedTupleGo_enum oe fun g2 e2 b2=>?_⟩
  have kk2:∀ b o,b∉[e,it]->s.heap.get? b=some o->g2.get? b=some o:=fun b o hb h1=>
   b2.extBut b o (fun z=>hb (by simp[z])) (kk b o (fun z=>hb (by simp[z])) (fun z=>hb (by simp[z])) h1)
  have el:s.heap.objs.size≠e:=Nat.ne_of_gt (Heap.lt_size st)
  have tt2:g2.get? s.heap.objs.size=some { cls:=.type "tuple",data:=.seq #[.int i s.toks,u] }:=b2.extBut _ _ el tt
  have ltf:∀ b∈[e,it],b≠s.heap.objs.size:=fun b hb=>by
   rcases List.mem_cons.mp hb with rfl | hb
   ·exact Ne.symm el
   ·have eb:b=it:=by simpa using hb
    subst eb
    obtain⟨o,e1,_⟩:=ti
    exact Nat.ne_of_lt (Heap.lt_size e1)
  have I2:Inv X pins σ (upd H s.heap.objs.size (.tup [.int i,x])) { s with heap:=g2,toks:=s.toks+1 }:=
   Uw I hn (by rw[sizeLine_eq]; simp only[List.length_cons,List.length_nil]; decide) (.cons ⟨s.toks,rfl⟩ (.cons ru .nil)) tt2 kk2 hf ltf
  exact⟨.ref s.heap.objs.size,_,I2,rfl,⟨x,_,fun ys hy=>by rw[I.list_inj hy hq]; exact hx,hn,rfl,rfl⟩,⟨⟨u,e2⟩,ti'.extBut b2.extBut (Ne.symm ne)⟩,fun b hb=>by
   rw[Gq (ltf b hb)]
   exact(hf b hb).1⟩
 done:=by
  intro X hP hw hK hc i pins s σ H E I hf ⟨⟨old,st⟩,ti⟩ hg
  subst hP hw hK
  obtain⟨xs,hq,hx⟩:=hg
  obtain⟨its,rv,p,hz⟩:=I.list hq
  have hl:=rv.length
  exact wpAny_pyNext_enum_end (I.ok.hd hc) st ti p.isList (by simp; omega) fun g eb=>⟨rfl,turnedL I (fun b o hb e1=>eb b o (fun z=>hb (by simp[z])) e1) hf⟩
 self:=fun _ _ _ _ _ ⟨⟨_,st⟩,_⟩ h=>wpAny_pyIter_enum st h
section
variable{X:Cx}{XQ:XW}
def Gwy(K:PySem.W.Frag)(ta:TA):TI:=fun σ H R=>ta σ H fun xs H1=>∃ a,xs=[.ref a]/\(∃ ys,SqL K H1 a ys)/\R (Iel K a) H1
theorem Gja{x1}{tp:Pos}{ta:TA}(hg:Gl X "enumerate")(hm:X.mg "enumerate"=none)(ha:PA X [a] ta)(hs:starEach [a] X.env=[(false,eval a X.env)]:=by rfl):
  PI X (.Tuple es x1 tp) (.Call (.Name "enumerate" p) [a] [] pos) (Gwy X.K ta):=by
 intro pins s σ H R I h
 refine wpAny_Call_Name_kw (Wr I hg hm (by rfl) ?_ (by decide) (by decide))
 refine PyProof.Rows.callWith_type1 (thn (ha pos pins s σ H _ I h) fun us s1 ⟨vs,H1,I1,r1,q1⟩=>?_) hs rfl
 obtain⟨c,e,⟨ys,hq⟩,q⟩:=q1
 subst e
 obtain⟨u,rfl,rx⟩:=Ws r1
 cases rx
 obtain⟨its,rv,pt,hz⟩:=I1.list hq
 refine call_enumerate_list pt.isList fun g e1 i1 _ kk=>?_
 refine wpAny_pyIter_enum e1 ?_
 have I2:Inv X pins σ H1 { s1 with heap:=g }:=I1.kept (t':=s1.toks) kk
 refine⟨s1.heap.objs.size+1,[s1.heap.objs.size+1,s1.heap.objs.size],_,_,H1,rfl,I2,Gfg c s1.heap.objs.size (s1.heap.objs.size+1) (Nat.succ_ne_self _),⟨⟨.none,e1⟩,i1⟩,fun b hb=>?_,q⟩
 have hb':s1.heap.objs.size<=b:=by
  rcases List.mem_cons.mp hb with rfl | hb
  ·exact Nat.le_succ _
  ·have eb:b=s1.heap.objs.size:=by simpa using hb
   exact Nat.le_of_eq eb.symm
 exact I1.fpOk hb' (I1.hok.fresh hb')
def Gbc(f:Ev (List D)):Ev Src:=fun ρ S=>(f ρ S).bind fun ds S1=>match ds with
 | [.lst i]=>match S1[i]? with
  | some c=>.ok ⟨fun k S=>(S[i]?).bind fun c=>(c.xs[k]?).map fun d=>.tup [.int k,d],c.xs.length+1⟩ S1
  | none=>.bad
 | _=>.bad
theorem Gsd{a:Addr}{i:Nat}(hi:mp[i]?=some a):Gc5 K mp H (Iel K a) (fun k S=>(S[i]?).bind fun c=>(c.xs[k]?).map fun d=>.tup [.int k,d]):=by
 intro mp' H' S' af rs k
 have hi':=af.pre i a hi
 have hl:i<S'.length:=by rw[<- rs.len]; exact(List.getElem?_eq_some_iff.mp hi').1
 have hc:S'[i]?=some S'[i]:=List.getElem?_eq_getElem hl
 obtain⟨a2,xs,e1,e2,sq,r,_⟩:=rs.items (v:=.ref a) ⟨a,rfl,hi'⟩ hc
 cases e1
 simp only[hc,Option.bind_some]
 cases z:(S'[i]).xs[k]? with
 | none=>
  refine⟨xs,sq,?_⟩
  rw[r.len]
  exact List.getElem?_eq_none_iff.mp z
 | some d=>
  obtain⟨v,e,q⟩:=r.get z
  refine⟨⟨xs,v,sq,e⟩,fun x H2 ⟨y,p,h2,h3,h4,h5⟩=>?_⟩
  have h2:=h2 xs sq
  rw[e] at h2
  cases h2
  subst h4 h5
  have af2:Aft K mp' H' mp' (upd H' p (.tup [.int k,v])):=Km h3
  exact⟨af2,rs.new h3,p,_,rfl,SqT.of Hj,RepL.cons rfl (RepL.cons (Rep.aft af2 _ _ q) RepL.nil)⟩
theorem Gjb{x1}{tp:Pos}(hg:Gl X "enumerate")(hm:X.mg "enumerate"=none)(ha:JA X XQ [a] f)(hs:starEach [a] X.env=[(false,eval a X.env)]:=by rfl):
  JI X XQ (.Tuple es x1 tp) (.Call (.Name "enumerate" p) [a] [] pos) (Gbc f):=by
 refine PI.mono (Gja hg hm ha hs) fun σ H R ⟨mp,ρ,S,G,p⟩=>?_
 refine bindP G p fun mp1 H1 ds S1 vs a1 G1 r1 p1=>?_
 split at p1
 ·rename_i i
  split at p1
  ·rename_i c zc
   obtain⟨v,rfl,h1⟩:=RepL.one r1
   obtain⟨a2,xs,rfl,e2,sq,q,_⟩:=G1.rs.items h1 zc
   exact⟨a2,rfl,⟨xs,sq⟩,Gn.ok (R:=kI X.K) (d:=⟨fun k S=>(S[i]?).bind fun c=>(c.xs[k]?).map fun d=>.tup [.int k,d],c.xs.length+1⟩) (S:=S1) p1 G1.rs (Gsd e2)⟩
  ·exact p1.elim
 ·exact p1.elim
end
structure XB(bm:List Value):Prop where
 v:bm.contains (.type "ValueError")=true
 a:bm.contains (.type "AttributeError")=false
 n:bm.contains (.type "NameError")=false
 b:bm.contains (.type "BaseException")=true
theorem XB.has(x:XB bm)(C:Addr):(Value.ref C::bm).contains (.type "ValueError")=true:=by rw[List.contains_cons,x.v,Bool.or_true]
theorem XB.noA(x:XB bm)(C:Addr):(Value.ref C::bm).contains (.type "AttributeError")=false:=by rw[List.contains_cons,x.a]; rfl
theorem XB.noN(x:XB bm)(C:Addr):(Value.ref C::bm).contains (.type "NameError")=false:=by rw[List.contains_cons,x.n]; rfl
abbrev FV:=PySem.F.excBase_ValueError
theorem Gms(K:PySem.W.Frag):PySem.W.findCls K (.type "ValueError") (.type "type") "__init__"=some (.val (.builtin "ValueError.__init__")):=by
 first
  | rfl
  | kernel_rfl
theorem Gmt{prog:Program}{s:Shared}{Q:Value×List Value->Shared->Prop}{pl:Sem Bool}(X:K.In s.heap)(h:Q (.builtin "ValueError.__init__",[]) { s with toks:=s.toks+1 }):
  wpAny (model prog w) A (getMethod (.type "ValueError") (Str.ofString "__init__") pl) Q E s:=by
 have st:opaqueClassAbove (.type "ValueError")=pure none:=by unfold opaqueClassAbove; dsimp only; rw[show Manifest.isStub "ValueError"=false by decide +kernel]; rfl
 have ty:PySem.W.Looks (model prog w) s.heap (typeOf (.type "ValueError")) (.type "type"):=PySem.W.Looks.of_pure (by first | rfl | kernel_rfl)
 have ga:PySem.W.findIn K (.type "type") "__getattribute__"=some (some (.builtin "type.__getattribute__")):=PySem.W.type_tga
 unfold getMethod specialOf
 refine wpAny_bind (wpAny_bind (ty.here ((PySem.W.looks_findIn X ga).here ?_)))
 dsimp only
 rw[if_pos PySem.W.canon_tga]
 refine wpAny_bind (wpAny_mono (Q:=fun v=>Q (v,[])) (E:=E) ?_ (fun _ _ z=>wpAny_pure z) fun _ _ z=>z)
 refine PySem.W.cls_open X (PySem.W.Looks.of_pure st) ty ga (PySem.W.looks_hook X (r:=none) (by rfl)) (by show PySem.W.subIn K _ _=_; rfl) (Gms K) ?_
 refine wpAny_pure ?_
 show wpAny _ _ (handedOut _) _ _ _
 rw[PySem.W.handedOut_of (by rfl)]
 exact wpAny_pure h
section
variable{prog:Program}{w:World}{A:Around}{E:Value->Shared->Prop}{h:Heap}{g:Array GenState}{d:Drawn}{t:Nat}{os:OsState}
variable{nm q:Str}{C N:Addr}{bs bm:List Value}{hdct:Bool}{sn:List Str}{sub:List Value}{ab:Bool}{col:Option Bool}{dd:Option Addr}{k0 k1 k2 k3 k5:Option Value}
theorem Gmu{e:Addr}{t0:Addr}(x:XB bm)(hC:h.get? C=some (excClassObj nm q C N bs bm hdct sn sub ab col dd k0 k1 k2 k3 k5 "ValueError.__new__"))(he:h.get? e=some { cls:=.ref C,dict:=dx,data:=.fields #[.ref t0,.none,.none,.none,.bool false,.none] })(hq:∀ h',h'.get? e=some { cls:=.ref C,dict:=dx,data:=.fields #[.ref h.objs.size,.none,.none,.none,.bool false,.none] }->(∀ b o,b≠e->h.get? b=some o->h'.get? b=some o)->h'.get? h.objs.size=some { cls:=.type "tuple",data:=.seq #[v] }->Q .none ⟨h',g,d,t,os⟩):
  wpAny (model prog w) A (call (.builtin "ValueError.__init__") [.ref e,v]) Q E ⟨h,g,d,t,os⟩:=by
 have hB:=x.has C
 refine wpAny_call (codeAny_call_builtin FV.init.plain FV.initEntry ?_)
 have chk:∀ {M:Model} {A:Around} {E:Value->Shared->Prop} {Q:Unit->Shared->Prop},Q () ⟨h,g,d,t,os⟩->wpAny M A (checkBuiltinCall "ValueError.__init__" ⟨[.ref e,v],[]⟩) Q E ⟨h,g,d,t,os⟩:=fun hQ=>by
  have ns:=FV.noStar
  simp only[checkBuiltinCall,FV.initKind,FV.initSplit,FV.initRow]
  repeat (first | with_reducible refine wpAny_loadPart_at he ?_ | with_reducible refine wpAny_loadPart_at hC ?_ | (with_reducible refine wpAny_isSubtype_exc hC ?_; rw[hB]) | wp_step)
  exact hQ
 refine chk ?_
 wp_walk
 have le:e≠h.objs.size:=Nat.ne_of_lt (Heap.lt_size he)
 refine hq _ ?_ (fun b o hb ho=>?_) ?_
 ·rw[Heap.get?_update_self _ (Heap.get?_push_of_some _ he) rfl]
  rfl
 ·rw[Heap.get?_update_other _ _ (Ne.symm hb)]
  exact Heap.get?_push_of_some _ ho
 ·rw[Heap.get?_update_other _ _ le]
  exact Heap.get?_push_size _ rfl
theorem Gea{M:Model}{Q:Unit->Shared->Prop}(x:XB bm)(hC:h.get? C=some (excClassObj nm q C N bs bm hdct sn sub ab col dd k0 k1 k2 k3 k5 "ValueError.__new__"))(hq:Q () ⟨h,g,d,t,os⟩):
  wpAny M A (checkBuiltinCall "ValueError.__new__" ⟨[.ref C,v],[]⟩) Q E ⟨h,g,d,t,os⟩:=by
 have hB:=x.has C
 have ns:=FV.noStar
 simp only[checkBuiltinCall,FV.newKind,FV.newSplit,FV.newRow]
 repeat (first | refine wpAny_loadPart_at hC ?_ | (refine wpAny_isSubtype_exc hC ?_; rw[hB]) | refine wpAny_staticBase_exc hC ?_ | refine wpAny_madeBy_exc hC ?_ | simp only[bne_self_eq_false,Bool.false_eq_true,if_false] | wp_step)
 exact hq
theorem Gu9{R:Result->Shared->Prop}(x:XB bm)(hC:h.get? C=some (excClassObj nm q C N bs bm hdct sn sub ab col dd k0 k1 k2 k3 k5 "ValueError.__new__"))(hq:R (.ok (.ret (.ref (h.objs.size+1)))) ⟨(h.push { cls:=.type "tuple",data:=.seq #[v] }).push { cls:=.ref C,data:=.fields #[.ref h.objs.size,.none,.none,.none,.bool false,.none] },g,d,t,os⟩):
  codeAny (model prog w) A (.builtin "ValueError.__new__" ⟨[.ref C,v],[]⟩) R ⟨h,g,d,t,os⟩:=by
 have he:=FV.ends
 have hB:=x.has C
 have hA:=x.noA C
 have hN:=x.noN C
 refine codeAny_builtinAt FV.entry ?_
 unfold Builtin.«BaseException.__new__»
 refine PySem.wpAt_bind ?_
 show PySem.wpAt _ _ _ (PySem.stack >>= _) _ _ _
 refine PySem.wpAt_bind (PySem.wpAt_stack fun p below=>PySem.wpAt_of_wpAny ?_)
 wp_walk
 refine PySem.wpAt_of_wpAny ?_
 rw[FV.owner]
 repeat (first | with_reducible refine wpAny_madeHere_exc FV.canon hC ?_ | with_reducible refine wpAny_loadPart_at hC ?_ | (with_reducible refine wpAny_isSubtype_exc hC ?_; first | rw[hB] | rw[hA] | rw[hN]) | wp_step)
 show R _ _
 rw[Heap.size_push]
 exact hq
theorem Gse{fI:Addr}(x:XB bm)(X:K.In h)(hC:h.get? C=some (excClassObj nm q C N bs bm hdct sn sub ab col dd k0 k1 k2 k3 k5 "ValueError.__new__"))(hi:PySem.W.findIn K (.ref C) "__init__"=some (some (.ref fI)))(hfI:h.get? fI=some oI)(hfc:oI.cls=.type "function")(hq:∀ h' e,h.objs.size<=e->Heap.MadeExcOf h h' e (.ref C) [v]->wpAny (model prog w) (A.under (.builtin "type.__call__" ⟨[.ref C,v],[]⟩)) (call (.ref fI) [.ref e,v]) (fun r s'=>r=.none/\Q (.ref e) s') E ⟨h',g,d,t,os⟩):
  wpAny (model prog w) A (call (.ref C) [v]) Q E ⟨h,g,d,t,os⟩:=by
 have hB:=x.has C
 have hA:=x.noA C
 have hN:=x.noN C
 have f1:=tc_lookup
 have f2:=tc_bind (.ref C)
 have hT:(⟨h,g,d,t,os⟩:Shared).TypeIs (.ref C) "type":=⟨_,hC,rfl⟩
 refine wpAny_call (codeAny_of_tree ?_)
 show wpAny _ _ (callAny (.ref C) _) _ _ _
 repeat (any_goals (first | assumption | with_reducible refine wpAny_loadPart_at hC ?_ | wp_step))
 refine⟨rfl,?_⟩
 refine codeAny_call_builtin_at (Code.quiet_builtin _ (by decide +kernel)) entry_typeCall (wpAny_check_type_call_sub hC ?_)
 repeat (first | with_reducible refine wpAny_loadPart_at hC ?_ | with_reducible refine wpAny_madeBy_exc hC ?_ | wp_step)
 refine codeAny_call_builtin_code (Code.quiet_builtin _ FV.quiet) (Gea x hC (Gu9 x hC ?_))
 show wpAny _ _ _ _ _ _
 have kp:∀ b o,h.get? b=some o->((h.push { cls:=.type "tuple",data:=.seq #[v] }).push { cls:=.ref C,data:=.fields #[.ref h.objs.size,.none,.none,.none,.bool false,.none] }).get? b=some o:=fun b o e=>Heap.get?_push_of_some _ (Heap.get?_push_of_some _ e)
 have he:((h.push { cls:=.type "tuple",data:=.seq #[v] }).push { cls:=.ref C,data:=.fields #[.ref h.objs.size,.none,.none,.none,.bool false,.none] }).get? (h.objs.size+1)=some { cls:=.ref C,data:=.fields #[.ref h.objs.size,.none,.none,.none,.bool false,.none] }:=by heap_get
 have ht:((h.push { cls:=.type "tuple",data:=.seq #[v] }).push { cls:=.ref C,data:=.fields #[.ref h.objs.size,.none,.none,.none,.bool false,.none] }).get? h.objs.size=some { cls:=.type "tuple",data:=.seq #[v] }:=Heap.get?_push_of_some _ (Heap.get?_push_size _ rfl)
 have hC1:=kp _ _ hC
 have hf1:=kp _ _ hfI
 have X1:=X.keeps kp
 have hcC:(Value.ref C::bm).contains (.ref C)=true:=by simp
 have done:=hq _ (h.objs.size+1) (Nat.le_succ _) ⟨kp,Heap.get?_none_of_le (Nat.le_succ _),h.objs.size,he,Heap.get?_none_of_le (Nat.le_refl _),ht⟩
 generalize (h.push { cls:=.type "tuple",data:=.seq #[v] }).push { cls:=.ref C,data:=.fields #[.ref h.objs.size,.none,.none,.none,.bool false,.none] }=h1 at *
 unfold isInstance
 repeat (first | with_reducible refine wpAny_loadPart_at he ?_ | (with_reducible refine wpAny_isSubtype_exc hC1 ?_; rw[hcC]) | wp_step)
 show wpAny _ _ (typeLookup (.ref C) _) _ _ _
 refine(PySem.W.looks_findIn X1 hi).here ?_
 refine wpAny_holding (wpAny_bind ?_)
 unfold bindSpecial
 refine wpAny_bind (wpAny_typeOf (T:="function") ⟨_,hf1,hfc⟩ ?_)
 rw[if_pos (by decide)]
 refine wpAny_pure (wpAny_bind (wpAny_mono done (fun r s' hr=>?_) fun _ _ x=>x))
 obtain⟨rfl,hQ⟩:=hr
 wp_walk
 exact hQ
end
section
variable{M:Model}{A:Around}{E:Value->Shared->Prop}{env:PySem.Env}
variable{nm q:Str}{C N:Addr}{bs bm:List Value}{hdct:Bool}{sn:List Str}{sub:List Value}{ab:Bool}{col:Option Bool}{dd:Option Addr}{k0 k1 k2 k3 k5:Option Value}{newId:String}
def Xb(h:Heap)(e C:Addr)(dx:Option Addr):Prop:=∃ t:Addr,h.get? e=some { cls:=.ref C,dict:=dx,data:=.fields #[.ref t,.none,.none,.none,.bool false,.none] }
theorem Zx{s:Shared}{x:Sem Value}{Q:Flow->Shared->Prop}(hb:XB bm)(hh:A.handled=none)
  (h:wpAny M A x (fun v s₁=>∃ e dx,v=.ref e/\s₁.heap.get? C=some (excClassObj nm q C N bs bm hdct sn sub ab col dd k0 k1 k2 k3 k5 newId)/\Xb s₁.heap e C dx/\E (.ref e) s₁) E s):
  wpAny M A (raiseStmt env (some x) none) Q E s:=by
 have hB:(Value.ref C::bm).contains (.type "BaseException")=true:=by rw[List.contains_cons,hb.b,Bool.or_true]
 unfold raiseStmt
 refine wpAny_bind (wpAny_mono h (fun v s₁ h₁=>?_) fun _ _ x=>x)
 obtain⟨e,dx,rfl,hC,⟨t,he⟩,hE⟩:=h₁
 obtain⟨hp,g,d,tk,os⟩:=s₁
 repeat (first | with_reducible refine wpAny_loadPart_at he ?_ | with_reducible refine wpAny_loadPart_at hC ?_ | (with_reducible refine wpAny_isSubtype_exc hC ?_; rw[hB]) | wp_step)
 exact wpAny_raiseNew_none hh hE
theorem Gmv{s:Shared}{e1:Expr}{Q:Flow->Shared->Prop}(hb:XB bm)(hh:A.handled=none)(h:wpAny M A (eval (.Name x np) env) (fun f s₁=>f=.ref C/\wpAny M A (spliced (backTo cpos (starEach (e1::es) env))) (fun vs s₂=>
   s₂.heap.get? C=some (excClassObj nm q C N bs bm hdct sn sub ab col dd k0 k1 k2 k3 k5 newId)/\wpAny M A (call (.ref C) vs) (fun v s₃=>∃ e dx,v=.ref e∧
    s₃.heap.get? C=some (excClassObj nm q C N bs bm hdct sn sub ab col dd k0 k1 k2 k3 k5 newId)/\Xb s₃.heap e C dx/\E (.ref e) s₃) E s₂) E s₁) E s)(he:starEach (e1::es) env=(false,eval e1 env)::starEach es env:=by rfl)(hpl:(backTo cpos (starEach es env)).any (·.1)=false:=by rfl):
  wpAny M A (exec (.Raise (some (.Call (.Name x np) (e1::es) [] cpos)) none pos) env) Q E s:=by
 have plain:(backTo cpos (starEach (e1::es) env)).any (·.1)=false:=by
  rw[he]
  show(false||(backTo cpos (starEach es env)).any (·.1))=false
  rw[hpl]; rfl
 rw[arm_exec_Raise]
 have key:wpAny M A (eval (.Call (.Name x np) (e1::es) [] cpos) env) (fun v s₁=>∃ e dx,v=.ref e/\s₁.heap.get? C=some (excClassObj nm q C N bs bm hdct sn sub ab col dd k0 k1 k2 k3 k5 newId)/\Xb s₁.heap e C dx/\E (.ref e) s₁) E s:=by
  refine wpAny_Call_ofName (wpAny_mono h (fun f s₁ h₁=>?_) fun _ _ x=>x)
  obtain⟨rfl,h₁⟩:=h₁
  unfold callWith
  have ev:wpAny M A (evalArgs (.ref C) true (backTo cpos (starEach (e1::es) env)) []) (fun a s₂=>a.kw=[]/\s₂.heap.get? C=some (excClassObj nm q C N bs bm hdct sn sub ab col dd k0 k1 k2 k3 k5 newId)/\wpAny M A (call (.ref C) a.pos) (fun v s₃=>∃ e dx,v=.ref e∧
    s₃.heap.get? C=some (excClassObj nm q C N bs bm hdct sn sub ab col dd k0 k1 k2 k3 k5 newId)/\Xb s₃.heap e C dx/\E (.ref e) s₃) E s₂) E s₁:=by
   rw[he] at h₁ ⊢
   exact PySem.Calls.evalArgs_plain (wpAny_mono h₁ (fun vs s₂ z=>⟨rfl,z⟩) fun _ _ x=>x)
  refine wpAny_bind (wpAny_holding (wpAny_mono ev (fun a s₂ h₂=>wpAny_bind (wpAny_standAt ?_)) fun _ _ x=>x))
  obtain⟨ap,ak⟩:=a
  obtain⟨hk,hC,h₂⟩:=h₂
  obtain rfl:ak=[]:=hk
  obtain⟨hp,g,d,tk,os⟩:=s₂
  simp only[plain]
  refine wpAny_bind (wpAny_keeperOf_exc hC ?_)
  exact wpAny_bind (wpAny_mono h₂ (fun r s₃ hr=>wpAny_bind (wpAny_holding (wpAny_point (wpAny_pure hr)))) fun _ _ x=>x)
 first
  | exact wpAny_bind (wpAny_standAt (Zx hb hh (wpAny_bind (wpAny_mono key (fun v s₃ h₃=>wpAny_bind (wpAny_standAt (wpAny_pure h₃))) fun _ _ x=>x))))
  | (simp only[evalOpt,Option.map]; exact wpAny_bind (wpAny_standAt (Zx hb hh (wpAny_bind (wpAny_mono key (fun v s₃ h₃=>wpAny_bind (wpAny_standAt (wpAny_pure h₃))) fun _ _ x=>x)))))
end
def FX(e C:Addr)(dx:Option Addr):HO:=.ext fun h=>Xb h e C dx
theorem Gjc{e:Addr}(f:Xb h e C dx):Jt P w H h e (FX e C dx):=
 ⟨f,(let ⟨_,q⟩:=f; ⟨_,q⟩),fun _ _ ⟨t,q⟩ k=>⟨t,k _ q⟩⟩
theorem Gjd{a:Addr}{o:HO}(h:H a=some o):upd H a o=H:=by
 funext b
 by_cases c:b=a
 ·subst c; rw[Hj,h]
 ·rw[Gq c]
structure KX(K:PySem.W.Frag)(C:Addr):Prop where
 ex:∃ nm q N bs bm hdct sn sub ab col dd k0 k1 k2 k3 k5,K.lookup C=some (excClassObj nm q C N bs bm hdct sn sub ab col dd k0 k1 k2 k3 k5 "ValueError.__new__")/\XB bm
section
variable{X:Cx}
def tVI(K:PySem.W.Frag)(t:TA):TE:=fun σ H Q=>t σ H fun vs H1=>∃ e v C dx,vs=[.ref e,v]/\H1 e=some (FX e C dx)/\KX K C/\Q .non H1
theorem Gje{t:TA}{pl:Sem Bool}(hg:Gl X "ValueError")(hm:X.mg "ValueError"=none)(ha:PA X [a,b] t)(ht:eval (.Call (.Attribute (.Name "ValueError" p) "__init__" apos) [a,b] [] pos) X.env=(do
   let ov <- eval (.Name "ValueError" p) X.env
   standAt apos.atName
   let (f,first) <- holding [ov] (getMethod ov "__init__" pl)
   callWith pos f first (backTo pos (starEach [a,b] X.env)) (backToKw pos (keywordEach [] X.env))))(hs:starEach [a,b] X.env=(false,eval a X.env)::starEach [b] X.env:=by rfl)(hpl:(backTo pos (starEach [b] X.env)).any (·.1)=false:=by rfl):
  PE X (.Call (.Attribute (.Name "ValueError" p) "__init__" apos) [a,b] [] pos) (tVI X.K t):=by
 intro pins s σ H Q I h
 refine PySem.W.methodCall_KW (pl:=pl) (Wr I hg hm (by rfl) ?_ (by decide) (by decide)) ht
 refine Gmt I.kIn ?_
 have hA:=ha pos pins { s with toks:=s.toks+1 } σ H _ (I.tok _) h
 show wpAny _ _ (callWith pos (.builtin "ValueError.__init__") [] (backTo pos (starEach [a,b] X.env)) _) _ _ _
 rw[hs] at hA ⊢
 refine Calls.callWith_builtin (by show(false||(backTo pos (starEach [b] X.env)).any (·.1))=false; rw[hpl]<;>rfl) (Calls.evalArgs_plain ?_)
 refine thn hA fun us s2 ⟨vs,H2,I2,r2,e,v,C,dx,ev,hH,kx,q⟩=>?_
 subst ev
 cases r2 with
 | cons ra rb=>
  cases rb with
  | cons rv rn=>
   cases rn
   cases ra
   obtain⟨nm,qn,N,bs,bm,hdct,sn,sub,ab,col,dd,k0,k1,k2,k3,k5,lk,xb⟩:=kx.ex
   have hC:=I2.kIn _ _ lk
   obtain⟨⟨t0,he⟩,_,_⟩:=(show Jt X.prog X.w H2 s2.heap e (FX e C dx) from I2.hok e _ hH)
   obtain⟨hp,g,d,tk,os⟩:=s2
   refine Gmu xb hC he fun h' e1 k1' _=>?_
   have I3:=I2.write (h':=h') (x:=e) (e:=e) (o:=FX e C dx) (t':=tk) (by rw[hH]; exact trivial) (.inl rfl) (fun b u hb hu=>k1' b u hb hu) ⟨_,e1⟩ (Gjc ⟨_,e1⟩)
   rw[Gjd hH] at I3
   exact⟨.non,H2,I3,rfl,q⟩
end
def spI(K:PySem.W.Frag):Sp:=fun vs H Q _=>∃ e v C dx,vs=[.ref e,v]/\H e=some (FX e C dx)/\KX K C/\Q .non H
def Zk(h:Heap)(e C:Addr)(dx:Option Addr):Prop:=∃ t c k u:Value,h.get? e=some { cls:=.ref C,dict:=dx,data:=.fields #[t,.none,c,k,u,.none] }/\(dx=none->c=.none)
theorem Xb.g{e:Addr}(f:Xb h e C dx):Zk h e C dx:=by
 obtain⟨t,q⟩:=f
 exact⟨_,_,_,_,q,fun _=>rfl⟩
def Gsf(fl:Value)(h:Heap)(a T C:Addr)(dx:Option Addr):Prop:=∃ oe vs oT ts a0,h.get? a=some oe/\(oe.cls=.ref C/\oe.dict=dx/\vs[0]?=some a0/\(dx=none->vs[2]?=some .none))/\oe.data=.fields vs/\vs[1]?=some (.ref T)/\T≠a/\h.get? T=some oT/\oT.data=.fields ts/\ts[3]?=some fl
abbrev Fly:=Gsf .none
section
variable{M:Model}{A:Around}{E:Value->Shared->Prop}{s:Shared}{Q:Unit->Shared->Prop}{env:PySem.Env}{outer:List PySem.Env}{L:Addr}{base:Heap}
theorem Geb{l:List PySem.Env}{a:Addr}{o:Obj}(hl:h.FunFrames base l)(e:h.get? a=some o)(d:o.data=.fields vs):a∉frs l:=fun hm=>by
 obtain⟨_,o',e',nf⟩:=hl.mem hm
 rw[e] at e'
 cases e'
 exact nf vs d
structure Left(fs:List Addr)(no:List Addr)(h h':Heap):Prop where
 keep:∀ b o,b∉fs->b∉no->h.get? b=some o->h'.get? b=some o
 slot:∀ b o,b∈fs->h.get? b=some o->∃ sl,h'.get? b=some { o with slots:=sl }
theorem Gmw(f:Array Value->Array Value)(o:Obj):(Obj.mapFields f o).dict=o.dict:=by
 obtain⟨c,d,dt,sl⟩:=o
 cases dt<;>rfl
theorem Gva{e:Addr}{head a0:Value}{hn:Bool}(hfr:A.frames=some (env::outer))(hl:s.heap.FunFrames base (env::outer))(hf:env.frame=some L)(he:s.heap.get? e=some oe)(hc:oe.cls=.ref C/\oe.dict=dx)(hd:oe.data=.fields vs)(hz:1<vs.size)(h0:vs[0]?=some a0/\(dx=none->vs[2]?=some .none))(hq:∀ h' T,Gsf (rawInt L) h' e T C dx->s.heap.get? T=none->Left (frs (env::outer)) [e] s.heap h'->Q () { s with heap:=h' }):
  wpAny M A (frameOf env >>= fun a=>entryPlaceOf L hn >>= fun pl=>EntryCells.newEntry head a .none (rawInt L) .none pl >>= fun b=>setField (.ref e) 1 b) Q E s:=by
 have nf:=Geb hl he hd
 refine wpAny_bind (wpAny_frameOf_fun hfr hl hf fun h1 so=>wpAny_bind (wpAny_entryPlaceOf fun pl ip=>?_))
 obtain⟨sz,so1,so2⟩:=so
 have g1:h1.get? e=some oe:=(so1 e nf).trans he
 unfold EntryCells.newEntry newFields
 refine wpAny_bind (wpAny_newObj_type ?_ (ip.sizeOk5 _ _ _ _ _))
 generalize hT:({ cls:=.type "traceback",dict:=none,data:=.fields ([head,.ref L,.none,rawInt L,.none]++(if pl.isEmpty then List.replicate 6 Value.none else pl)).toArray }:Obj)=oT
 have g2:=Heap.get?_push_of_some (h:=h1) oT g1
 have nT:h1.objs.size≠e:=Nat.ne_of_gt (Heap.lt_size g1)
 refine wpAny_setField g2 hd hz ?_
 have d3:=Obj.data_mapFields hd (·.setIfInBounds 1 (Value.ref h1.objs.size))
 have g3:=Heap.get?_update_self (Obj.mapFields (·.setIfInBounds 1 (Value.ref h1.objs.size))) g2 (Obj.isFreed_of_fields d3)
 have t3:((h1.push oT).update e (Obj.mapFields (·.setIfInBounds 1 (Value.ref h1.objs.size)))).get? h1.objs.size=some oT:=(Heap.get?_update_other _ _ (Ne.symm nT)).trans (Heap.get?_push_size h1 (by rw[<- hT]; rfl))
 have kp:∀ b o,b≠e->h1.get? b=some o->((h1.push oT).update e (Obj.mapFields (·.setIfInBounds 1 (Value.ref h1.objs.size)))).get? b=some o:=fun b o hb q=>by
  rw[Heap.get?_update_other _ _ (Ne.symm hb)]
  exact Heap.get?_push_of_some _ q
 refine hq _ h1.objs.size ⟨_,_,oT,_,a0,g3,⟨(Obj.cls_mapFields _ _).trans hc.1,?_,?_⟩,d3,by simp[hz],nT,t3,by rw[<- hT],?_⟩ ?_ ⟨fun b o hb hn q=>kp b o (by simpa using hn) ((so1 b hb).trans q),fun b o hb q=>?_⟩
 ·rw[<- hc.2]
  exact Gmw _ _
 ·rw[Array.getElem?_setIfInBounds_ne (by decide),Array.getElem?_setIfInBounds_ne (by decide)]; exact h0
 ·first | (simp; done) | (rcases ip with rfl | ⟨_,_,_,_,_,_,_,rfl⟩<;>simp)
 ·exact Heap.get?_none_of_le (by rw[sz]; exact Nat.le_refl _)
 ·obtain⟨sl,q'⟩:=so2 b o q
  exact⟨sl,kp b _ (fun z=>nf (by rw[<- z]; exact hb)) q'⟩
theorem fltD{e T:Addr}{fl:Value}(f:Gsf fl s.heap e T C dx)(hq:∀ h',Fly h' e T C dx->(∀ b o,b≠T->s.heap.get? b=some o->h'.get? b=some o)->Q () { s with heap:=h' }):wpAny M A (setFlight (.ref e) none) Q E s:=by
 obtain⟨oe,vs,oT,ts,a0,e1,e2,e3,e4,e5,e6,e7,e8⟩:=f
 have h3:3<ts.size:=(Array.getElem?_eq_some_iff.mp e8).1
 refine wpAny_setFlight_none e1 e3 e4 e6 e7 h3 (hq _ ⟨oe,vs,_,_,a0,by rw[Heap.get?_update_other _ _ e5]; exact e1,e2,e3,e4,e5,Heap.get?_update_self _ e6 (Obj.isFreed_of_fields (Obj.data_mapFields e7 _)),Obj.data_mapFields e7 _,by simp[h3]⟩ fun b o hb q=>by rw[Heap.get?_update_other _ _ (Ne.symm hb)]; exact q)
theorem Gop{e:Addr}(hfr:A.frames=some (env::outer))(hl:s.heap.FunFrames base (env::outer))(hf:env.frame=some L)(fx:Zk s.heap e C dx)(hq:∀ h' T,Fly h' e T C dx->s.heap.get? T=none->Left (frs (env::outer)) [e] s.heap h'->Q () { s with heap:=h' }):wpAny M A (noteFrame (.ref e) env) (fun _ s₂=>wpAny M A (setFlight (.ref e) none) Q E s₂) E s:=by
 obtain⟨t,c,k,u,he,hc⟩:=fx
 unfold noteFrame
 simp only[hf]
 refine wpAny_bind (wpAny_field he rfl rfl ?_)
 show wpAny M A (if(Value.none != Value.none)=true then _ else _) _ _ _
 rw[if_neg (show¬ ((Value.none != Value.none)=true) from by decide)]
 refine Gva hfr hl hf he ⟨rfl,rfl⟩ rfl (by simp) ⟨rfl,fun z=>by rw[hc z]; rfl⟩ fun h1 T f1 hT lf=>fltD (s:={ s with heap:=h1 }) f1 fun h' f2 kp=>hq h' T f2 hT ⟨fun b o hb hn q=>kp b o (fun z=>by rw[z,hT] at q; cases q) (lf.keep b o hb hn q),fun b o hb q=>?_⟩
 obtain⟨sl,q'⟩:=lf.slot b o hb q
 exact⟨sl,kp b _ (fun z=>by rw[z,hT] at q; cases q) q'⟩
theorem Goq{a T:Addr}(hfr:A.frames=some (env::outer))(hl:s.heap.FunFrames base (env::outer))(hf:env.frame=some L)(fl:Fly s.heap a T C dx)(hq:∀ h' T',Fly h' a T' C dx->(s.heap.get? T'=none\/T'=T)->Left (frs (env::outer)) [a,T] s.heap h'->Q () { s with heap:=h' }):wpAny M A (noteFrame (.ref a) env) (fun _ s₂=>wpAny M A (setFlight (.ref a) none) Q E s₂) E s:=by
 obtain⟨oe,vs,oT,ts,a0,e1,⟨c1,c2,c3⟩,e3,e4,e5,e6,e7,e8⟩:=fl
 have h3:3<ts.size:=(Array.getElem?_eq_some_iff.mp e8).1
 have nfT:=Geb hl e6 e7
 unfold noteFrame
 simp only[hf]
 refine wpAny_bind (wpAny_field e1 e3 e4 ?_)
 rw[if_pos (show(Value.ref T != Value.none)=true from by simp)]
 refine wpAny_bind (wpAny_field e6 e7 e8 ?_)
 rw[if_neg (show¬ ((Value.none==rawInt L)=true) from by simp[rawInt])]
 refine wpAny_bind (wpAny_setField e6 e7 h3 ?_)
 have ot:∀ b,b≠T->(s.heap.update T (Obj.mapFields (·.setIfInBounds 3 Value.none))).get? b=s.heap.get? b:=fun b hb=>Heap.get?_update_other _ _ (Ne.symm hb)
 have tt:=Heap.get?_update_self (Obj.mapFields (·.setIfInBounds 3 Value.none)) e6 (Obj.isFreed_of_fields (Obj.data_mapFields e7 _))
 have hl2:(s.heap.update T (Obj.mapFields (·.setIfInBounds 3 Value.none))).FunFrames base (env::outer):=hl.of_keeps fun b o q nf=>⟨o,(ot b fun z=>by rw[z,e6] at q; cases q; exact nf ts e7).trans q,rfl⟩
 refine Gva (s:={ s with heap:=s.heap.update T (Obj.mapFields (·.setIfInBounds 3 Value.none)) }) hfr hl2 hf ((ot a (Ne.symm e5)).trans e1) ⟨c1,c2⟩ e3 (Array.getElem?_eq_some_iff.mp e4).1 c3 fun h1 T1 f1 hT lf=>fltD (s:={ s with heap:=h1 }) f1 fun h' f2 kp=>hq h' T1 f2 (.inl ?_) ⟨fun b o hb hn q=>?_,fun b o hb q=>?_⟩
 ·cases z:s.heap.get? T1 with
  | none=>rfl
  | some o=>
   by_cases c:T1=T
   ·rw[c] at hT
    rw[show(s.heap.update T (Obj.mapFields (·.setIfInBounds 3 Value.none))).get? T=_ from tt] at hT
    cases hT
   ·rw[show(s.heap.update T (Obj.mapFields (·.setIfInBounds 3 Value.none))).get? T1=_ from ot T1 c,z] at hT
    cases hT
 ·simp only[List.mem_cons,List.not_mem_nil,or_false,not_or] at hn
  have q1:(s.heap.update T (Obj.mapFields (·.setIfInBounds 3 Value.none))).get? b=some o:=(ot b hn.2).trans q
  exact kp b o (fun z=>by rw[z] at q1; rw[show _=none from hT] at q1; cases q1) (lf.keep b o hb (by simpa using hn.1) q1)
 ·have nb:b≠T:=fun z=>nfT (by rw[<- z]; exact hb)
  have q1:(s.heap.update T (Obj.mapFields (·.setIfInBounds 3 Value.none))).get? b=some o:=(ot b nb).trans q
  obtain⟨sl,q'⟩:=lf.slot b o hb q1
  exact⟨sl,kp b _ (fun z=>by rw[z] at q1; rw[show _=none from hT] at q1; cases q1) q'⟩
theorem Gsg{e:Addr}(hfr:A.frames=some (env::outer))(hl:s.heap.FunFrames base (env::outer))(hf:env.frame=some L)(fx:Zk s.heap e C dx)(hq:∀ h' T,Fly h' e T C dx->s.heap.get? T=none->Left (frs (env::outer)) [e] s.heap h'->Q () { s with heap:=h' }):wpAny M A (leaving env (.ref e)) Q E s:=by
 unfold leaving
 exact wpAny_bind (Gop hfr hl hf fx hq)
theorem Gsh{a T:Addr}(hfr:A.frames=some (env::outer))(hl:s.heap.FunFrames base (env::outer))(hf:env.frame=some L)(fl:Fly s.heap a T C dx)(hq:∀ h' T',Fly h' a T' C dx->(s.heap.get? T'=none\/T'=T)->Left (frs (env::outer)) [a,T] s.heap h'->Q () { s with heap:=h' }):wpAny M A (leaving env (.ref a)) Q E s:=by
 unfold leaving
 exact wpAny_bind (Goq hfr hl hf fl hq)
end
def del(H:Hp)(a:Addr):Hp:=fun b=>if b=a then none else H b
theorem Qt{a:Addr}:del H a a=none:=if_pos rfl
theorem Qk{a b:Addr}(h:b≠a):del H a b=H b:=if_neg h
theorem Ghc{a:Addr}{o:HO}(x:Jt P w H h a o):∃ u,h.get? a=some u:=by
 cases o with
 | lst xs=>obtain⟨_,_,_,_,e⟩:=x; exact⟨_,e⟩
 | tup xs=>obtain⟨_,_,_,ob,e,_⟩:=x; exact⟨_,e⟩
 | dK kvs=>obtain⟨_,_,_,_,o,_,_,e,_⟩:=x; exact⟨_,e⟩
 | dT kvs=>obtain⟨_,_,_,_,o,_,_,e,_⟩:=x; exact⟨_,e⟩
 | set S n=>obtain⟨o,_,_,_,e,_⟩:=x; exact⟨_,e⟩
 | ins C dx fs=>obtain⟨_,_,_,e,_⟩:=x; exact⟨_,e⟩
 | own y=>obtain⟨_,e⟩:=x; exact⟨_,e⟩
 | xd fs=>obtain⟨_,⟨_,_,_,e,_⟩,_⟩:=x; exact⟨_,e⟩
 | rng lo hi=>obtain⟨_,_,_,e⟩:=x; exact⟨_,e⟩
 | frz ob u=>obtain⟨e,_⟩:=x; exact⟨_,e⟩
 | tbl ps=>exact⟨_,(show h.get? a=some _ from x)⟩
 | met f y=>exact⟨_,(show h.get? a=some _ from x)⟩
 | ext φ=>obtain⟨_,⟨_,e⟩,_⟩:=x; exact⟨_,e⟩
theorem Yp{a:Addr}(k:HOk P w H h)(e:h.get? a=none):H a=none:=by
 cases z:H a with
 | none=>rfl
 | some o=>
  obtain⟨u,q⟩:=Ghc (k a o z)
  rw[e] at q
  cases q
def CXe(P:Program)(w:World):CXT:=fun outer H s E e s'=>∃ a T C dx H',e=.ref a/\s'.os=s.os/\AllBare s'.gens/\Un (frs outer) [] H H' s.heap s'.heap/\HOk P w H' s'.heap/\Fly s'.heap a T C dx/\(H' a=none/\H' T=none)/\(s.heap.get? a=none/\s.heap.get? T=none)/\E (.ref C) dx H'
theorem hok_left{h':Heap}{fs no:List Addr}(k:HOk P w H h)(l:Left fs no h h')(hf:∀ b∈fs,H b=none)(hn:∀ b∈no,H b=none):HOk P w H h':=fun b o e=>by
 refine(k b o e).stay (fun c u hc q=>l.keep c u (fun z=>?_) (fun z=>?_) q) (fun _ q=>q) fun _ _ q=>q
 ·have:=hf c z
  rcases hc with rfl | hc
  ·rw[e] at this; cases this
  ·rw[hc] at this; cases this
 ·have:=hn c z
  rcases hc with rfl | hc
  ·rw[e] at this; cases this
  ·rw[hc] at this; cases this
theorem Gf2{a:Addr}(k:HOk P w H h)(ha:H a=some (.ext φ)):HOk P w (del H a) h:=fun b o e=>by
 have nb:b≠a:=fun z=>by rw[z,Qt] at e; cases e
 rw[Qk nb] at e
 refine(k b o e).stay (fun c u _ q=>q) (fun c q=>?_) fun c xs q=>?_
 ·rw[Qk (fun z=>by rw[z,ha] at q; cases q)]; exact q
 ·rw[Qk (fun z=>by rw[z,ha] at q; cases q)]; exact q
theorem Gf3{fs no:List Addr}{L:Addr}{H':Hp}{h1 h2:Heap}(u:Un fs [] H H1 h h1)(l:Left (L::fs) no h1 h2)(hL:h.get? L=none)(hno:∀ b∈no,h.get? b=none)(fr:∀ b,H1 b=none->H' b=none)(tp:∀ b xs,H1 b=some (.tup xs)->H' b=some (.tup xs))(fz:∀ b o v,H1 b=some (.frz o v)->H' b=some (.frz o v))(tb:∀ b ps,H1 b=some (.tbl ps)->H' b=some (.tbl ps)):Un fs [] H H' h h2:=by
 have nL:∀ b o,h.get? b=some o->b≠L:=fun b o e z=>by rw[z,hL] at e; cases e
 have nN:∀ b o,h.get? b=some o->b∉no:=fun b o e z=>by rw[hno b z] at e; cases e
 refine⟨fun b o e n hb hx=>?_,fun b o e n hb hx=>?_,fun b o e n hx=>fr b (u.free b o e n hx),fun b o e hx=>?_,fun b xs e=>tp b xs (u.tups b xs e),fun b o v e=>fz b o v (u.frzs b o v e),fun b ps e=>?_⟩
 ·refine l.keep b o (fun z=>?_) (nN b o e) (u.keep b o e n hb hx)
  rcases List.mem_cons.mp z with z | z
  ·exact nL b o e z
  ·exact hb z
 ·obtain⟨sl,q⟩:=u.slot b o e n hb hx
  obtain⟨sl',q'⟩:=l.slot b _ (List.mem_cons_of_mem _ hb) q
  exact⟨sl',q'⟩
 ·obtain⟨o',q⟩:=u.there b o e hx
  by_cases c:b∈L::fs
  ·obtain⟨sl,q'⟩:=l.slot b o' c q
   exact⟨_,q'⟩
  ·exact⟨o',l.keep b o' c (nN b o e) q⟩
 ·obtain⟨more,q⟩:=u.tbls b ps e
  exact⟨more,tb b _ q⟩
section
variable{P:Program}{w:World}{K:PySem.W.Frag}{mg:Str->Option Value}{base:Heap}{N:List Str}{qual:Str}{scope:Scope}{f:Addr}{cd:Value}{A:Around}{outer:List PySem.Env}{s:Shared}{H:Hp}{E:XK}
theorem Xc{fs:List Addr}{H0:Hp}{h0 h1:Heap}{b:Addr}(u:Un fs [] H0 H1 h0 h1)(e:h1.get? b=none):h0.get? b=none:=by
 cases z:h0.get? b with
 | none=>rfl
 | some o=>
  obtain⟨o',q⟩:=u.there b o z (by simp)
  rw[e] at q
  cases q
theorem Gjf{s1:Shared}{e:Addr}(I:Inv (Qi (CXe P w) P w K mg base N qual scope f cd A outer s H E) pins σ H1 s1)(hH:H1 e=some (.ext φ))(fr:Zk s1.heap e C dx)(le:s.heap.get? e=none)(hE:E (.ref C) dx (del H1 e)):
  (Qi (CXe P w) P w K mg base N qual scope f cd A outer s H E).xe (.ref e) s1:=by
 show wpAny (model P w) _ (leaving (envOfC qual scope s.heap.objs.size f cd) (.ref e)) _ _ s1
 have hL:s.heap.get? s.heap.objs.size=none:=Heap.get?_none_of_le (Nat.le_refl _)
 refine Gsg (base:=base) I.ok.frames I.stack rfl fr fun h' T fl hT lf=>?_
 have hT1:H1 T=none:=Yp I.hok hT
 have dn:∀ b,H1 b=none->del H1 e b=none:=fun b q=>by
  by_cases c:b=e
  ·rw[c,Qt]
  ·rw[Qk c]; exact q
 have ne_of_kind:∀ {b:Addr} {o:HO},H1 b=some o->o≠.ext φ->b≠e:=fun q n z=>n (by rw[z,hH] at q; exact(Option.some.inj q).symm)
 refine⟨e,T,C,dx,del H1 e,rfl,I.os,I.bare,Gf3 (L:=s.heap.objs.size) I.base lf hL (fun b hb=>?_) dn (fun b xs q=>?_) (fun b o v q=>?_) (fun b ps q=>?_),hok_left (Gf2 I.hok hH) lf (fun b hb=>dn b (I.stkFree b hb)) (fun b hb=>?_),fl,⟨Qt,dn T hT1⟩,⟨le,Xc I.base hT⟩,hE⟩
 ·have:b=e:=by simpa using hb
  rw[this]; exact le
 ·rw[Qk (ne_of_kind q (by intro z; cases z))]; exact q
 ·rw[Qk (ne_of_kind q (by intro z; cases z))]; exact q
 ·rw[Qk (ne_of_kind q (by intro z; cases z))]; exact q
 ·have:b=e:=by simpa using hb
  rw[this]; exact Qt
theorem xe_on{s3:Shared}{e:Value}{E2:XK}(I:Inv (Qi (CXe P w) P w K mg base N qual scope f cd A outer s H E) pins σ H2 s2)(hx:CXe P w (Qi (CXe P w) P w K mg base N qual scope f cd A outer s H E).stack H2 s2 E2 e s3)(hE:∀ C dx H',E2 (.ref C) dx H'->E (.ref C) dx H'):
  (Qi (CXe P w) P w K mg base N qual scope f cd A outer s H E).xe e s3:=by
 obtain⟨a,T,C,dx,H',rfl,os,bare,un,hok,fly,⟨na,nT⟩,⟨oa,oT⟩,hE2⟩:=hx
 obtain⟨h3,g3,d3,t3,o3⟩:=s3
 obtain rfl:o3=s2.os:=os
 have I3:Inv (Qi (CXe P w) P w K mg base N qual scope f cd A outer s H E) pins σ H' { s2 with heap:=h3,gens:=g3,drawn:=d3,toks:=t3 }:=I.call (h':=h3) (g':=g3) (d':=d3) (t':=t3) (ch:=[]) un hok bare (fun b z=>absurd z (by simp))
 show wpAny (model P w) _ (leaving (envOfC qual scope s.heap.objs.size f cd) (.ref a)) _ _ _
 have hL:s.heap.get? s.heap.objs.size=none:=Heap.get?_none_of_le (Nat.le_refl _)
 have a0:s.heap.get? a=none:=Xc I.base oa
 have T0:s.heap.get? T=none:=Xc I.base oT
 refine Gsh (base:=base) I3.ok.frames I3.stack rfl fly fun h' T' fl hT lf=>?_
 have nT':H' T'=none:=by
  rcases hT with hT | rfl
  ·exact Yp hok hT
  ·exact nT
 have oT':s.heap.get? T'=none:=by
  rcases hT with hT | rfl
  ·exact Xc I3.base hT
  ·exact T0
 refine⟨a,T',C,dx,H',rfl,I3.os,bare,Gf3 (L:=s.heap.objs.size) I3.base lf hL (fun b hb=>?_) (fun b q=>q) (fun b xs q=>q) (fun b o v q=>q) (fun b ps q=>q),hok_left hok lf (fun b hb=>I3.stkFree b hb) (fun b hb=>?_),fl,⟨na,nT'⟩,⟨a0,oT'⟩,hE _ _ _ hE2⟩
 ·simp only[List.mem_cons,List.not_mem_nil,or_false] at hb
  rcases hb with rfl | rfl
  ·exact a0
  ·exact T0
 ·simp only[List.mem_cons,List.not_mem_nil,or_false] at hb
  rcases hb with rfl | rfl
  ·exact na
  ·exact nT
end
def XF(H:Hp)(dx:Option Addr)(fl:Option Int):Prop:=(∀ i,fl=some i->∃ d,dx=some d/\H d=some (XA d i))/\(fl=none->dx=none)
def WX(K:PySem.W.Frag)(XQ:XW)(σ:L2.St)(C:Addr)(dx:Option Addr)(H:Hp):Prop:=∃ x mp ρ S,XF H dx x.fld/\CN K x.cls C/\XQ x mp H σ ρ S
structure XL(X:Cx)(XQ:XW):Prop where
 own:∀ (pins:List (Addr×Obj)) (σ:L2.St) (H:Hp) (s:Shared) (e C:Addr) (dx:Option Addr) (φ:Heap->Prop),Inv X pins σ H s->H e=some (.ext φ)->Zk s.heap e C dx->X.s₀.heap.get? e=none->WX X.K XQ σ C dx (del H e)->X.xe (.ref e) s
 cal:∀ (pins:List (Addr×Obj)) (σ:L2.St) (H:Hp) (s:Shared) (e:Value) (s':Shared) (E2:XK),Inv X pins σ H s->CXe X.prog X.w X.stack H s E2 e s'->(∀ C dx H',E2 (.ref C) dx H'->WX X.K XQ σ C dx H')->X.xe e s'
 pas:PassesOwn (model X.prog X.w) X.A X.env X.xe
 pat:∀ hd,PassesOwnAt (model X.prog X.w) (X.A.mark hd) X.A X.env X.xe
theorem XL.own1(L:XL X XQ)(pins:List (Addr×Obj))(σ:L2.St)(H:Hp)(s:Shared)(e C:Addr)(dx:Option Addr)(I:Inv X pins σ H s)(hH:H e=some (FX e C dx))(h0:X.s₀.heap.get? e=none)(w:WX X.K XQ σ C dx (del H e)):X.xe (.ref e) s:=by
 obtain⟨fr,_,_⟩:=(show Jt X.prog X.w H s.heap e (FX e C dx) from I.hok e _ hH)
 exact L.own pins σ H s e C dx _ I hH fr.g h0 w
def Gvb(K:PySem.W.Frag)(mp:List Addr)(H:Hp)(o:Out D)(Q:VK)(E:XK):Prop:=
 match o with
 | .ok d S=>∀ mp' H' v,Aft K mp H mp' H'->RS K mp' H' S->Rep K mp' H' d v->Q v H'
 | .exc x S=>∃ C,CN K x.cls C/\∀ mp' H' dx,Aft K mp H mp' H'->RS K mp' H' S->XF H' dx x.fld->E (.ref C) dx H'
 | .bad=>False
def spX(K:PySem.W.Frag)(n:Nat)(fn:Fn):Sp:=fun vs H Q E=>∃ mp ds S,RS K mp H S/\RepL K mp H ds vs/\ds.length=n/\Gvb K mp H (fn ds S) Q E
def XQd(K:PySem.W.Frag)(E:XK):XW:=fun x _ H _ _ _=>∃ C,CN K x.cls C/\∀ dx,XF H dx x.fld->E (.ref C) dx H
section
variable{P:Program}{w:World}{K:PySem.W.Frag}{mg:Str->Option Value}{base:Heap}
theorem Gsi{f:Addr}{cd:Value}{outer:List PySem.Env}{s:Shared}{E:XK}:XL (Qi (CXe P w) P w K mg base N qual scope f cd A outer s H E) (XQd K E) where
 own:=fun pins σ H1 s1 e C dx φ I hH fr le ⟨x,mp,ρ,S,xf,hc,C',hc',hE⟩=>by
  cases CN.one hc hc'
  exact Gjf I hH fr le (hE dx xf)
 cal:=fun pins σ H2 s2 e s3 E2 I hx hE=>xe_on I hx fun C dx H' q=>by
  obtain⟨x,mp,ρ,S,xf,hc,C',hc',hE⟩:=hE C dx H' q
  cases CN.one hc hc'
  exact hE dx xf
 pas:=PassesOwn.leaving
 pat:=fun _=>PassesOwnAt.leaving
theorem Fun.okX{CX:CXT}{f:Addr}(F:Fun K x qual st f fd)(S:FnScope N ps (Gf st))(len:∀ vs H Q E,sp vs H Q E->vs.length=ps.length)(hbody:∀ (cdv:Value) (A:Around) (outer:List PySem.Env) (s:Shared) (H:Hp) (vs:List V) (Q:VK) (E:XK),Room k (A.deeper (envOfC qual (Gf st) s.heap.objs.size f cdv))->sp vs H Q E→
   ∃ t,PSs (Qi CX P w K mg base N qual (Gf st) f cdv A outer s H E) (Gw st) t/\t { nx:=fun _ H'=>Q .non H',rt:=Q } (start N vs) H):FnOk P w K mg base CX (k+1) f fd ps sp:=by
 obtain⟨oc,od,kV,doc,pm,an,cdv,ct,osl,rfl,lk,hcd⟩:=F.ex
 exact Gn9 lk hcd S len fun A outer s H vs Q E hr hsp=>hbody cdv A outer s H vs Q E hr hsp
theorem Gsj{f:Addr}{b:Sv}(F:Fun K x qual st f fd)(Sc:FnScope N ps (Gf st))(hb:∀ (cdv:Value) (A:Around) (outer:List PySem.Env) (s:Shared) (H:Hp) (E:XK) (XQ:XW),Room k (A.deeper (envOfC qual (Gf st) s.heap.objs.size f cdv))->XL (Qi (CXe P w) P w K mg base N qual (Gf st) f cdv A outer s H E) XQ→
   JSs (Qi (CXe P w) P w K mg base N qual (Gf st) f cdv A outer s H E) XQ (Gw st) b):FnOk P w K mg base (CXe P w) (k+1) f fd ps (spX K ps.length (fnB N.length b)):=by
 refine Fun.okX F Sc (fun vs H Q E ⟨mp,ds,S,rs,r,hl,_⟩=>by rw[r.len]; exact hl) fun cdv A outer s H vs Q E hr ⟨mp,ds,S,rs,r,hl,p⟩=>?_
 refine⟨_,hb cdv A outer s H E (XQd K E) hr Gsi,mp,_,S,Gd1 rs r,?_⟩
 unfold fnB at p
 show PostS K _ mp H (b (ds.map some++List.replicate (N.length-ds.length) none) S) _
 cases z:b (ds.map some++List.replicate (N.length-ds.length) none) S with
 | rt d S'=>rw[z] at p; exact p
 | nx ρ' S'=>rw[z] at p; exact fun m h v af G=>p m h .non af G.rs rfl
 | bk ρ' S'=>rw[z] at p; exact p.elim
 | ct ρ' S'=>rw[z] at p; exact p.elim
 | exc x ρ' S'=>
  rw[z] at p
  obtain⟨C,hc,q⟩:=p
  exact fun m h v af G=>⟨C,hc,fun dx xf=>q m h dx af G.rs xf⟩
 | bad=>rw[z] at p; exact p.elim
structure CalX(P:Program)(w:World)(K:PySem.W.Frag)(mg:Str->Option Value)(base:Heap)(x:Str)(ps:List Str)(fn:Fn)(j:Nat):Prop where
 ex:∃ f fd,FnOk P w K mg base (CXe P w) j f fd ps (spX K ps.length fn)/\mg x=some (.ref f)/\PySem.W.keepIn K (.ref f)=true/\Binds K fd ps []
theorem Gmx(N:List Str)(k:Nat)(b:Sv)(hfn:fn=fnB N.length b)(d:Dn K mg x st ps)(Sc:FnScope N ps (Gf st))(hb:∀ (f:Addr) (cdv:Value) (A:Around) (outer:List PySem.Env) (s:Shared) (H:Hp) (E:XK) (XQ:XW),Room k (A.deeper (envOfC x (Gf st) s.heap.objs.size f cdv))->XL (Qi (CXe P w) P w K mg base N x (Gf st) f cdv A outer s H E) XQ→
   JSs (Qi (CXe P w) P w K mg base N x (Gf st) f cdv A outer s H E) XQ (Gw st) b):CalX P w K mg base x ps fn (k+1):=by
 subst hfn
 obtain⟨f,fd,F,hm,hbi⟩:=d.ex
 exact⟨f,fd,Gsj F Sc (hb f),hm,F.kp,hbi⟩
end
section
variable{X:Cx}{XQ:XW}{k:Nat}{f:Addr}{fd:FuncData}{ps:List Str}{fn:Fn}{x:Str}{p pos:Pos}{e:Expr}{es:List Expr}
def Gsk(sp:Sp)(Wx:L2.St->Addr->Option Addr->Hp->Prop)(t:TA):TE:=fun σ H Q=>t σ H fun vs H1=>sp vs H1 Q fun c dx H'=>∃ C,c=.ref C/\Wx σ C dx H'
theorem Gmy{Wx:L2.St->Addr->Option Addr->Hp->Prop}{s:Shared}{Q:VK}{us:List Value}{vs:List V}(F:FnOk X.prog X.w X.K X.mg X.base (CXe X.prog X.w) k f fd ps sp)(hr:Room k X.A)(hb:Binds X.K fd ps [])(hx:∀ (pins:List (Addr×Obj)) (σ:L2.St) (H:Hp) (s:Shared) (e:Value) (s':Shared) (E2:XK),Inv X pins σ H s->CXe X.prog X.w X.stack H s E2 e s'->(∀ C dx H',E2 (.ref C) dx H'->Wx σ C dx H')->X.xe e s')(I:Inv X pins σ H s)(r:Vals vs us)(h:sp vs H Q fun c dx H'=>∃ C,c=.ref C/\Wx σ C dx H'):wpAny (model X.prog X.w) X.A (call (.ref f) us) (EP X pins σ Q) X.xe s:=by
 have hl:us.length=ps.length:=by rw[<- r.length]; exact F.len _ _ _ _ h
 refine wpAny_call (codeAny_mono (F.run X.A X.stack s H ⟨us,[]⟩ us vs Q _ hr I.env0 (by have:=hb s us I.kIn (by simpa using hl); simpa using this) r h) fun r s' hq=>?_)
 cases r with
 | error e=>exact hx pins σ H s e s' (fun c dx H'=>∃ C,c=.ref C/\Wx σ C dx H') I hq fun C dx H' ⟨C',e1,q⟩=>by cases e1; exact q
 | ok fl=>
  cases fl with
  | ret u=>exact I.after hq
  | next=>exact False.elim hq
  | brk=>exact False.elim hq
  | cont=>exact False.elim hq
theorem Gjg{Wx:L2.St->Addr->Option Addr->Hp->Prop}{t:TA}(F:FnOk X.prog X.w X.K X.mg X.base (CXe X.prog X.w) k f fd ps sp)(hr:Room k X.A)(hg:Gl X x)(hm:X.mg x=some (.ref f))(hk:PySem.W.keepIn X.K (.ref f)=true)(hb:Binds X.K fd ps [])(hx:∀ (pins:List (Addr×Obj)) (σ:L2.St) (H:Hp) (s:Shared) (e:Value) (s':Shared) (E2:XK),Inv X pins σ H s->CXe X.prog X.w X.stack H s E2 e s'->(∀ C dx H',E2 (.ref C) dx H'->Wx σ C dx H')->X.xe e s')(ha:PA X (e::es) t)(hdb:(x==("__debug__":Str))=false:=by decide)(he:starEach (e::es) X.env=(false,eval e X.env)::starEach es X.env:=by rfl)(hpl:(backTo pos (starEach es X.env)).any (·.1)=false:=by rfl):
  PE X (.Call (.Name x p) (e::es) [] pos) (Gsk sp Wx t):=by
 intro pins s σ H Q I h
 refine wpAny_Call_Name_kw (Xl I hg hm ?_ hdb)
 refine PySem.W.callWith_K (h₀:=X.base) I.ok.mod.kin hk (thn (ha pos pins s σ H _ I h) fun us s1 ⟨vs,H1,I1,r,q⟩=>⟨I1.kIn,?_⟩) he hpl
 exact Gmy F hr hb hx I1 r q
def gX(ys:List Str)(fn:Fn):Fn:=fun ds S=>match fn ds S with
 | .ok d S'=>.ok d S'
 | .exc x S'=>if x.cls∈ys then .exc x S' else .bad
 | .bad=>.bad
def XNs(K:PySem.W.Frag)(ys:List Str):Prop:=∀ y∈ys,∃ C,CN K y C/\XCl K C
theorem Gjh{ys:List Str}(xs:XNs X.K ys)(L:XL X XQ)(F:FnOk X.prog X.w X.K X.mg X.base (CXe X.prog X.w) j f fd ps (spX X.K ps.length fn))(hr:Room k X.A)(hj:j<=k)(hg:Gl X x)(hm:X.mg x=some (.ref f))(hk:PySem.W.keepIn X.K (.ref f)=true)(hb:Binds X.K fd ps [])(ha:JA X XQ (e::es) t)(hdb:(x==("__debug__":Str))=false:=by decide)(he:starEach (e::es) X.env=(false,eval e X.env)::starEach es X.env:=by rfl)(hpl:(backTo pos (starEach es X.env)).any (·.1)=false:=by rfl):
  JE X XQ (.Call (.Name x p) (e::es) [] pos) (cl ps.length (gX ys fn) t):=by
 refine PE.mono (Gjg (Wx:=WX X.K XQ) (F.mono hj) hr hg hm hk hb L.cal ha hdb he hpl) fun σ H Q ⟨mp,ρ,S,G,p⟩=>?_
 refine bindP G p fun mp1 H1 ds S1 vs a1 G1 r1 p1=>?_
 by_cases hl:ds.length=ps.length
 ·rw[if_pos hl] at p1
  refine⟨mp1,ds,S1,G1.rs,r1,hl,?_⟩
  unfold gX at p1
  cases z:fn ds S1 with
  | ok d S'=>rw[z] at p1; exact p1
  | exc xx S'=>
   rw[z] at p1
   by_cases hi:xx.cls∈ys
   ·have p1:Gn X.K (Rep X.K) XQ σ ρ mp1 H1 (.exc xx S') Q:=by simpa only[if_pos hi] using p1
    obtain⟨C,hC,_⟩:=xs _ hi
    refine⟨C,hC,fun mp' H' dx af rs xf=>⟨C,rfl,xx,mp',ρ,S',xf,hC,p1 mp' H' af (G1.aft af rs)⟩⟩
   ·have p1:Gn X.K (Rep X.K) XQ σ ρ mp1 H1 .bad Q:=by simpa only[if_neg hi] using p1
    exact p1.elim
  | bad=>rw[z] at p1; exact p1.elim
 ·rw[if_neg hl] at p1; exact p1.elim
theorem Gvc{ys:List Str}(xs:XNs X.K ys)(L:XL X XQ)(C:CalX X.prog X.w X.K X.mg X.base x ps fn j)(hr:Room k X.A)(hg:Gl X x)(hp:Gz x=true)(ha:JA X XQ (e::es) t)(hn:ps.length=n:=by rfl)(hj:j<=k:=by decide)(he:starEach (e::es) X.env=(false,eval e X.env)::starEach es X.env:=by rfl)(hpl:(backTo pos (starEach es X.env)).any (·.1)=false:=by rfl):
  JE X XQ (.Call (.Name x p) (e::es) [] pos) (cl n (gX ys fn) t):=by
 subst hn
 obtain⟨f,fd,F,hm,hk,hb⟩:=C.ex
 exact Gjh xs L F hr hj hg hm hk hb ha (Gz.of hp).1 he hpl
structure ClX(P:Program)(w:World)(K:PySem.W.Frag)(mg:Str->Option Value)(base:Heap)(x:Str)(j:Nat):Prop where
 ex:∃ C f fd ps oI,mg x=some (.ref C)/\CN K x C/\KX K C/\PySem.W.findIn K (.ref C) "__init__"=some (some (.ref f))/\K.lookup f=some oI/\oI.cls=.type "function"/\FnOk P w K mg base CX0 j f fd ps (spI K)/\ps.length=2/\Binds K fd ps []
end
structure Plain(X:Cx):Prop where
 stk:X.stack=X.env::X.outer
 fr:X.env.frame=some X.env.locals
 ex:X.ex=[]
structure Landed(X:Cx)(pins:List (Addr×Obj))(σ:L2.St)(H:Hp)(a C:Addr)(dx:Option Addr)(s:Shared):Prop where
 ex:∃ T,Inv X pins σ H s/\Fly s.heap a T C dx/\(H a=none/\H T=none)/\(X.s₀.heap.get? a=none/\X.s₀.heap.get? T=none)/\∀ p∈X.pn++pins,p.1≠a/\p.1≠T
section
variable{X:Cx}{pins:List (Addr×Obj)}{σ:L2.St}{H:Hp}{s:Shared}{A:Around}{E:Value->Shared->Prop}{Q:Unit->Shared->Prop}{M:Model}
theorem Plain.old{b:Addr}(pl:Plain X)(I:Inv X pins σ H s)(e:s.heap.get? b=none):X.s₀.heap.get? b=none:=by
 have u:=I.base
 rw[pl.ex] at u
 exact Xc u e
theorem own_land{e:Addr}(pl:Plain X)(I:Inv X pins σ H s)(hH:H e=some (.ext φ))(fr:Zk s.heap e C dx)(le:X.s₀.heap.get? e=none)(hq:∀ s',Landed X pins σ (del H e) e C dx s'->Q () s'):
  wpAny M X.A (noteFrame (.ref e) X.env) (fun _ s₂=>wpAny M X.A (setFlight (.ref e) none) Q E s₂) E s:=by
 have hfr:X.A.frames=some (X.env::X.outer):=by rw[I.ok.frames,pl.stk]
 have hl:s.heap.FunFrames X.base (X.env::X.outer):=by rw[<- pl.stk]; exact I.stack
 refine Gop hfr hl pl.fr fr fun h' T fl hT lf=>hq _ ?_
 have dn:∀ b,H b=none->del H e b=none:=fun b q=>by
  by_cases c:b=e
  ·rw[c,Qt]
  ·rw[Qk c]; exact q
 have nk:∀ {b:Addr} {o:HO},H b=some o->o≠.ext φ->b≠e:=fun q n z=>n (by rw[z,hH] at q; exact(Option.some.inj q).symm)
 have ne0:∀ b,H b=none->b≠e:=fun b q z=>by rw[z,hH] at q; cases q
 rw[<- pl.stk] at lf
 have un:Un (frs X.stack) [] H (del H e) s.heap h':=⟨fun b o q n hb _=>lf.keep b o hb (fun z=>ne0 b n (by simpa using z)) q,fun b o q n hb _=>lf.slot b o hb q,fun b o q n _=>dn b n,fun b o q _=>by
   by_cases c:b∈frs X.stack
   ·obtain⟨sl,q'⟩:=lf.slot b o c q
    exact⟨_,q'⟩
   ·by_cases c2:b=e
    ·subst c2
     obtain⟨oe,_,_,_,_,z,_⟩:=fl
     exact⟨_,z⟩
    ·exact⟨o,lf.keep b o c (by simpa using c2) q⟩,
  fun b xs q=>by rw[Qk (nk q (by intro z; cases z))]; exact q,fun b o v q=>by rw[Qk (nk q (by intro z; cases z))]; exact q,fun b ps q=>⟨#[],by rw[Qk (nk q (by intro z; cases z)),q]; simp⟩⟩
 have hk:HOk X.prog X.w (del H e) h':=hok_left (Gf2 I.hok hH) lf (fun b hb=>dn b (I.stkFree b hb)) (fun b hb=>by
  have:b=e:=by simpa using hb
  rw[this]; exact Qt)
 refine⟨T,?_,fl,⟨Qt,dn T (Yp I.hok hT)⟩,⟨le,pl.old I hT⟩,fun p hp=>?_⟩
 ·have J:=I.call (h':=h') (g':=s.gens) (d':=s.drawn) (t':=s.toks) (ch:=[]) un hk I.bare (fun b z=>absurd z (by simp))
  exact J
 ·obtain⟨q1,q2,_⟩:=I.pin p hp
  refine⟨ne0 _ q2,fun z=>?_⟩
  rw[z,hT] at q1
  cases q1
theorem call_land{E2:XK}{e:Value}{s':Shared}(pl:Plain X)(I:Inv X pins σ H s)(hx:CXe X.prog X.w X.stack H s E2 e s')(hq:∀ a C dx H' s'',e=.ref a->E2 (.ref C) dx H'->Landed X pins σ H' a C dx s''->Q () s''):
  wpAny M X.A (noteFrame e X.env) (fun _ s₂=>wpAny M X.A (setFlight e none) Q E s₂) E s':=by
 obtain⟨a,T,C,dx,H',rfl,os,bare,un,hok,fly,⟨na,nT⟩,⟨oa,oT⟩,hE2⟩:=hx
 obtain⟨h3,g3,d3,t3,o3⟩:=s'
 obtain rfl:o3=s.os:=os
 have I3:Inv X pins σ H' { s with heap:=h3,gens:=g3,drawn:=d3,toks:=t3 }:=I.call (h':=h3) (g':=g3) (d':=d3) (t':=t3) (ch:=[]) un hok bare (fun b z=>absurd z (by simp))
 have hfr:X.A.frames=some (X.env::X.outer):=by rw[I.ok.frames,pl.stk]
 have hl:h3.FunFrames X.base (X.env::X.outer):=by rw[<- pl.stk]; exact I3.stack
 refine Goq (s:={ s with heap:=h3,gens:=g3,drawn:=d3,toks:=t3 }) hfr hl pl.fr fly fun h' T' fl hT lf=>hq a C dx H' _ rfl hE2 ?_
 rw[<- pl.stk] at lf
 have nn:∀ b o,s.heap.get? b=some o->b∉[a,T]:=fun b o q z=>by
  simp only[List.mem_cons,List.not_mem_nil,or_false] at z
  rcases z with rfl | rfl
  ·rw[oa] at q; cases q
  ·rw[oT] at q; cases q
 have un2:Un (frs X.stack) [] H H' s.heap h':=⟨fun b o q n hb hx=>lf.keep b o hb (nn b o q) (un.keep b o q n hb hx),fun b o q n hb hx=>by
   obtain⟨sl,q1⟩:=un.slot b o q n hb hx
   obtain⟨sl',q2⟩:=lf.slot b _ hb q1
   exact⟨sl',q2⟩,un.free,fun b o q hx=>by
   obtain⟨o',q1⟩:=un.there b o q hx
   by_cases c:b∈frs X.stack
   ·obtain⟨sl,q2⟩:=lf.slot b o' c q1
    exact⟨_,q2⟩
   ·exact⟨o',lf.keep b o' c (nn b o q) q1⟩,un.tups,un.frzs,un.tbls⟩
 have nT':H' T'=none:=by
  rcases hT with hT | rfl
  ·exact Yp hok hT
  ·exact nT
 have oT':X.s₀.heap.get? T'=none:=by
  rcases hT with hT | rfl
  ·exact pl.old I3 hT
  ·exact pl.old I oT
 have hk:HOk X.prog X.w H' h':=hok_left hok lf (fun b hb=>I3.stkFree b hb) (fun b hb=>by
  simp only[List.mem_cons,List.not_mem_nil,or_false] at hb
  rcases hb with rfl | rfl
  ·exact na
  ·exact nT)
 refine⟨T',?_,fl,⟨na,nT'⟩,⟨pl.old I oa,oT'⟩,fun p hp=>?_⟩
 ·have J:=I.call (h':=h') (g':=g3) (d':=d3) (t':=t3) (ch:=[]) un2 hk bare (fun b z=>absurd z (by simp))
  exact J
 ·obtain⟨q1,q2,_⟩:=I.pin p hp
  obtain⟨q3,_,_⟩:=I3.pin p hp
  refine And.intro (fun z=>?_) (fun z=>?_)
  ·rw[z,oa] at q1; cases q1
  rcases hT with hT | rfl
  ·rw[z] at q3
   rw[show h3.get? T'=none from hT] at q3
   cases q3
  ·rw[z,oT] at q1; cases q1
end
section
variable{X:Cx}{pins:List (Addr×Obj)}{σ:L2.St}{H:Hp}{s:Shared}{A:Around}{E:Value->Shared->Prop}{Q:Unit->Shared->Prop}{M:Model}
theorem Gmz{it:Addr}{h':Heap}(I:Inv X pins σ H s)(k:∀ b o,b≠it->s.heap.get? b=some o->h'.get? b=some o)(there:∃ o,h'.get? it=some o)(hn:H it=none)(hL:it≠X.env.locals)(h0:X.s₀.heap.get? it=none)(h2:∀ x c,X.env.cells.lookup x=some c->c≠it)(h3:∀ p∈X.pn++pins,p.1≠it):Inv X pins σ H { s with heap:=h' }:=by
 have n0:∀ b o,X.s₀.heap.get? b=some o->b≠it:=fun b o e z=>by rw[z,h0] at e; cases e
 have nit:∀ b u,H b=some u->b≠it:=fun b u e z=>by rw[z,hn] at e; cases e
 have ce:∀ x c,X.env.cells.lookup x=some c->∀ v,s.heap.IsCell c v->h'.IsCell c v:=fun x c e v ⟨o,ho,hd⟩=>⟨o,k c o (h2 x c e) ho,hd⟩
 refine⟨I.ok,I.os,I.bare,⟨fun b o e n hb hx=>k b o (n0 b o e) (I.base.keep b o e n hb hx),fun b o e n hb hx=>?_,I.base.free,fun b o e hx=>?_,I.base.tups,I.base.frzs,I.base.tbls⟩,?_,fun x c e=>?_,I.free,I.freeC,fun p hp=>?_,fun b u e=>?_,I.len⟩
 ·obtain⟨sl,q⟩:=I.base.slot b o e n hb hx
  exact⟨sl,k b _ (n0 b o e) q⟩
 ·obtain⟨o',q⟩:=I.base.there b o e hx
  exact⟨o',k b o' (n0 b o e) q⟩
 ·obtain⟨m,⟨o,es,ep,ho,r⟩,hl⟩:=I.loc
  refine⟨m,⟨o,es,ep,k _ o (Ne.symm hL) ho,r⟩,fun i x v e1 e2 e3=>?_⟩
  obtain⟨u,r,l⟩:=hl i x v e1 e2 e3
  refine⟨u,r,?_⟩
  rcases l with l | ⟨kk,c,e,z⟩
  ·exact .inl l
  ·exact .inr ⟨kk,c,e,ce x c e _ z⟩
 ·obtain⟨v,z⟩:=I.cell x c e
  exact⟨v,ce x c e v z⟩
 ·obtain⟨q1,q2,q3,q4,q5⟩:=I.pin p hp
  exact⟨k _ _ (h3 p hp) q1,q2,q3,q4,q5⟩
 ·refine(I.hok b u e).stay (fun c v hc q=>k c v ?_ q) (fun _ q=>q) fun _ _ q=>q
  rcases hc with z | z
  ·rw[z]; exact nit b u e
  ·exact nit c _ z
theorem Gji{b:Addr}{o:Obj}(I:Inv X pins σ H s)(e:s.heap.get? b=some o)(d:o.data=.fields vs):b≠X.env.locals/\∀ x c,X.env.cells.lookup x=some c->c≠b:=by
 refine⟨fun z=>?_,fun x c hc z=>?_⟩
 ·obtain⟨m,⟨o',es,ep,ho,hd,_⟩,_⟩:=I.loc
  rw[<- z,e] at ho
  cases ho
  rw[d] at hd
  cases hd
 ·obtain⟨v,o',ho,hd⟩:=I.cell x c hc
  rw[z,e] at ho
  cases ho
  rw[d] at hd
  cases hd
theorem Landed.flight{a:Addr}(l:Landed X pins σ H a C dx s)(hq:∀ s',Landed X pins σ H a C dx s'->Q () s'):wpAny M A (setFlight (.ref a) none) Q E s:=by
 obtain⟨T,I,⟨oe,vs,oT,ts,a0,e1,e2,e3,e4,e5,e6,e7,e8⟩,⟨na,nT⟩,⟨oa,ot⟩,pn⟩:=l.ex
 have h3:3<ts.size:=(Array.getElem?_eq_some_iff.mp e8).1
 refine wpAny_setFlight_none e1 e3 e4 e6 e7 h3 (hq _ ⟨T,?_,?_,⟨na,nT⟩,⟨oa,ot⟩,pn⟩)
 ·have rn:=Gji I e6 e7
  exact Gmz (it:=T) I (fun b o hb q=>by rw[Heap.get?_update_other _ _ (Ne.symm hb)]; exact q) ⟨_,Heap.get?_update_self _ e6 (Obj.isFreed_of_fields (Obj.data_mapFields e7 _))⟩ nT rn.1 ot rn.2 fun p hp=>(pn p hp).2
 ·exact⟨oe,vs,_,_,a0,by rw[Heap.get?_update_other _ _ e5]; exact e1,e2,e3,e4,e5,Heap.get?_update_self _ e6 (Obj.isFreed_of_fields (Obj.data_mapFields e7 _)),Obj.data_mapFields e7 _,by simp[h3]⟩
theorem Gec{a:Addr}(I:Inv X pins σ H s)(hn:H a=none)(h0:X.s₀.heap.get? a=none)(hL:a≠X.env.locals)(h2:∀ x c,X.env.cells.lookup x=some c->c≠a)(h3:∀ p∈X.pn++pins,p.1≠a)(ok:φ s.heap)(th:∃ o,s.heap.get? a=some o)(st:∀ h1 h2:Heap,φ h1->(∀ o,h1.get? a=some o->h2.get? a=some o)->φ h2):Inv X pins σ (upd H a (.ext φ)) s:=by
 have n0:∀ b o,X.s₀.heap.get? b=some o->b≠a:=fun b o e z=>by rw[z,h0] at e; cases e
 have nk:∀ {b:Addr} {o:HO},H b=some o->b≠a:=fun e z=>by rw[z,hn] at e; cases e
 refine⟨I.ok,I.os,I.bare,⟨I.base.keep,I.base.slot,fun b o e n hx=>?_,I.base.there,fun b xs e=>?_,fun b o v e=>?_,fun b ps e=>?_⟩,I.loc,I.cell,?_,fun x c e=>?_,fun p hp=>?_,fun b o e=>?_,I.len⟩
 ·rw[Gq (n0 b o e)]; exact I.base.free b o e n hx
 ·have q:=I.base.tups b xs e
  rw[Gq (nk q)]; exact q
 ·have q:=I.base.frzs b o v e
  rw[Gq (nk q)]; exact q
 ·obtain⟨more,q⟩:=I.base.tbls b ps e
  exact⟨more,by rw[Gq (nk q)]; exact q⟩
 ·rw[Gq (Ne.symm hL)]; exact I.free
 ·rw[Gq (h2 x c e)]; exact I.freeC x c e
 ·obtain⟨q1,q2,q3,q4,q5⟩:=I.pin p hp
  exact⟨q1,by rw[Gq (h3 p hp)]; exact q2,q3,q4,q5⟩
 ·by_cases c:b=a
  ·subst c
   rw[Hj] at e
   cases e
   exact⟨ok,th,st⟩
  ·rw[Gq c] at e
   refine(I.hok b o e).stay (fun c u _ q=>q) (fun c q=>?_) fun c xs q=>?_
   ·rw[Gq (nk q)]; exact q
   ·rw[Gq (nk q)]; exact q
theorem Landed.know{a:Addr}(l:Landed X pins σ H a C dx s):H a=none/\Inv X pins σ (upd H a (XO a C dx)) s:=by
 obtain⟨T,I,⟨oe,vs,oT,ts,a0,e1,e2,e3,e4,e5,e6,e7,e8⟩,⟨na,nT⟩,⟨oa,ot⟩,pn⟩:=l.ex
 have rn:=Gji I e1 e3
 exact⟨na,Gec I na oa rn.1 rn.2 (fun p hp=>(pn p hp).1) ⟨oe,e1,e2.1,e2.2.1,vs,e3⟩ ⟨oe,e1⟩ fun h1 h2 ⟨o,q1,q2⟩ k=>⟨o,k _ q1,q2⟩⟩
abbrev hnd(X:Cx)(a:Addr):Cx:={ X with A:=X.A.mark (some (.ref a)),calm:=false,xe:=fun _ _=>False }
theorem _root_.L2.Inv.hnd(I:Inv X pins σ H s)(a:Addr):Inv (DL.hnd X a) pins σ H s:=
 ⟨⟨I.ok.mod,I.ok.kind,I.ok.glob,I.ok.blt,I.ok.above,I.ok.inj,I.ok.has,I.ok.cab,(fun z=>nomatch z),I.ok.frames,I.ok.stk,I.ok.exf,I.ok.bs,I.ok.bsz,I.ok.noex,I.ok.exfs,I.ok.funs,I.ok.frf⟩,I.os,I.bare,I.base,I.loc,I.cell,I.free,I.freeC,I.pin,I.hok,I.len⟩
theorem _root_.L2.Inv.unhnd{a:Addr}(ok:X.Ok)(I:Inv (DL.hnd X a) pins σ H s):Inv X pins σ H s:=⟨ok,I.os,I.bare,I.base,I.loc,I.cell,I.free,I.freeC,I.pin,I.hok,I.len⟩
theorem Xm{i:Nat}{n:Str}(I:Inv X pins σ H s)(hN:X.N.Nodup)(hi:X.N[i]?=some n)(hk:X.env.scope.names.lookup n=some .local)(hq:∀ s',Inv X pins (σ.set i none) H s'->Q () s'):
  wpAny M A (do bindName X.env n .none; unbindBehindTheSuite X.env n pos) Q E s:=by
 obtain⟨m,hn,hl⟩:=id I.loc
 have hcls:(X.env.scope.kind==.class||(X.env.scope.kind==.module&&X.env.locals != X.env.globals))=false:=by rw[I.ok.kind]; rfl
 refine wpAny_nameGoes_keeps hk hn hcls fun h' v hn' hs=>hq _ ?_
 obtain⟨oL,_,_,hoL,_⟩:=id hn
 have below:∀ b o,X.s₀.heap.get? b=some o->b≠X.env.locals:=fun b o e=>Nat.ne_of_lt (Nat.lt_of_lt_of_le (Heap.lt_size e) I.ok.above)
 refine⟨I.ok,I.os,I.bare,⟨fun b o e n hb hx=>(hs.2 b (below b o e)).trans (I.base.keep b o e n hb hx),fun b o e n hb hx=>?_,I.base.free,fun b o e hx=>?_,I.base.tups,I.base.frzs,I.base.tbls⟩,⟨_,hn',fun j y w e1 e2 e3=>?_⟩,fun y c e=>?_,I.free,I.freeC,fun p hp=>?_,fun b ob e=>?_,by simpa using I.len⟩
 ·obtain⟨sl,e1⟩:=I.base.slot b o e n hb hx
  exact⟨sl,(hs.2 b (below b o e)).trans e1⟩
 ·obtain⟨o',e1⟩:=I.base.there b o e hx
  exact⟨o',(hs.2 b (below b o e)).trans e1⟩
 ·by_cases hj:j=i
  ·subst hj
   rw[List.getElem?_set] at e2
   simp only[if_true] at e2
   split at e2<;>cases e2
  ·rw[List.getElem?_set_ne (Ne.symm hj)] at e2
   obtain⟨u',r',q⟩:=hl j y w e1 e2 e3
   refine⟨u',r',?_⟩
   rcases q with⟨k,e⟩ | ⟨k,c,e,z⟩
   ·refine .inl ⟨k,?_⟩
    have:y≠n:=fun e=>hj (Gav hN e1 (e▸hi))
    simp[this,e]
   ·exact .inr ⟨k,c,e,z.sameBut hs (I.cne y c e)⟩
 ·obtain⟨w,z⟩:=I.cell y c e
  exact⟨w,z.sameBut hs (I.cne y c e)⟩
 ·obtain⟨e,n,ne,nf,d⟩:=I.pin p hp
  exact⟨(hs.2 p.1 ne).trans e,n,ne,nf,d⟩
 ·refine(I.hok b ob e).stay (fun c w hc q=>(hs.2 c ?_).trans q) (fun _ q=>q) fun _ _ q=>q
  rintro rfl
  rcases hc with rfl | hc
  ·rw[I.free] at e; cases e
  ·rw[I.free] at hc; cases hc
end
abbrev trb(X:Cx)(pn:List (Addr×Obj))(xe:Value->Shared->Prop):Cx:={ X with pn:=pn,xe:=xe }
section
variable{X:Cx}{XQ:XW}{pins:List (Addr×Obj)}{σ:L2.St}{H:Hp}{s:Shared}{pn:List (Addr×Obj)}{xe:Value->Shared->Prop}
theorem _root_.L2.Inv.trb(I:Inv X pins σ H s):Inv (DL.trb X (X.pn++pins) xe) [] σ H s:=
 ⟨⟨I.ok.mod,I.ok.kind,I.ok.glob,I.ok.blt,I.ok.above,I.ok.inj,I.ok.has,I.ok.cab,I.ok.hd,I.ok.frames,I.ok.stk,I.ok.exf,I.ok.bs,I.ok.bsz,I.ok.noex,I.ok.exfs,I.ok.funs,I.ok.frf⟩,I.os,I.bare,I.base,I.loc,I.cell,I.free,I.freeC,fun p hp=>I.pin p (by simpa using hp),I.hok,I.len⟩
theorem _root_.L2.Inv.untrb{pins':List (Addr×Obj)}(ok:X.Ok)(I:Inv (DL.trb X (X.pn++pins) xe) pins' σ H s):Inv X pins σ H s:=
 ⟨ok,I.os,I.bare,I.base,I.loc,I.cell,I.free,I.freeC,fun p hp=>I.pin p (List.mem_append_left _ hp),I.hok,I.len⟩
theorem Landed.untrb{pins':List (Addr×Obj)}{a:Addr}(ok:X.Ok)(l:Landed (DL.trb X (X.pn++pins) xe) pins' σ H a C dx s):Landed X pins σ H a C dx s:=by
 obtain⟨T,I,f,n,o,p⟩:=l.ex
 exact⟨T,I.untrb ok,f,n,o,fun q hq=>p q (List.mem_append_left _ hq)⟩
theorem Plain.trb(pl:Plain X):Plain (trb X pn xe):=⟨pl.stk,pl.fr,pl.ex⟩
theorem Gd.unset(G:Gd K mp H σ ρ S)(i:Nat):Gd K mp H (σ.set i none) (ρ.set i none) S:=by
 refine⟨G.rs,by simp[G.len],fun j e h=>?_⟩
 by_cases hj:j=i
 ·subst hj
  rw[List.getElem?_set] at h
  simp only[if_true] at h
  split at h<;>cases h
 ·rw[List.getElem?_set_ne (Ne.symm hj)] at h ⊢
  exact G.loc j e h
def Yq(ys:List Str)(hh:XD->Sv)(fb:Sv):Sv:=fun ρ S=>match fb ρ S with
 | .nx ρ' S'=>.nx ρ' S'
 | .rt d S'=>.rt d S'
 | .bk ρ' S'=>.bk ρ' S'
 | .ct ρ' S'=>.ct ρ' S'
 | .exc x ρ' S'=>if x.cls∈ys then hh x ρ' S' else .bad
 | .bad=>.bad
theorem Gm0{hd:ExceptHandler}{ys:List Str}{hh:XD->Sv}{fb:Sv}(pl:Plain X)(hH:∀ (pins:List (Addr×Obj)) (σ:L2.St) (H:Hp) (s:Shared) (a C:Addr) (dx:Option Addr) (x:XD) (mp:List Addr) (ρ:Lc) (S:Sto) (D:Ends),x.cls∈ys->CN X.K x.cls C->XF H dx x.fld->Landed X pins σ H a C dx s->Gd X.K mp H σ ρ S->PostS X.K XQ mp H (hh x ρ S) D->wpAny (model X.prog X.w) X.A (handleBy (.ref a) X.env [hd]) (SP X pins D) X.xe s)(hb:∀ (pn:List (Addr×Obj)) (xe:Value->Shared->Prop) (XQ':XW),XL (trb X pn xe) XQ'->JSs (trb X pn xe) XQ' body fb):JS X XQ (.Try body [hd] [] [] pos) (Yq ys hh fb):=by
 intro pins s σ H D I ⟨mp,ρ,S,G,p⟩
 refine wpAny_Try_except ?_
 have ok:=I.ok
 let Eh:Value->Shared->Prop:=fun e s₁=>wpAny (model X.prog X.w) X.A (noteFrame e X.env) (fun _ s₂=>wpAny (model X.prog X.w) X.A (setFlight e none) (fun _ s₃=>wpAny (model X.prog X.w) X.A (handleBy e X.env [hd]) (SP X pins D) X.xe s₃) X.xe s₂) X.xe s₁
 let XQ':XW:=fun x mp H σ ρ S=>x.cls∈ys/\Gd X.K mp H σ ρ S/\PostS X.K XQ mp H (hh x ρ S) D
 have fin:∀ (pins':List (Addr×Obj)) (σ:L2.St) (H:Hp) (s:Shared) (a C:Addr) (dx:Option Addr),WX X.K XQ' σ C dx H->Landed (DL.trb X (X.pn++pins) Eh) pins' σ H a C dx s->wpAny (model X.prog X.w) X.A (handleBy (.ref a) X.env [hd]) (SP X pins D) X.xe s:=
  fun pins' σ H s a C dx ⟨x,mp,ρ,S,xf,hc,hm,G,p⟩ l=>hH pins σ H s a C dx x mp ρ S D hm hc xf (l.untrb ok) G p
 have L:XL (DL.trb X (X.pn++pins) Eh) XQ':=⟨fun pins' σ H s e C dx φ I hH fr le w=>own_land (X:=DL.trb X (X.pn++pins) Eh) pl.trb I hH fr le fun s' l=>fin pins' σ _ s' e C dx w l,
  fun pins' σ H s e s' E2 I hx hE=>call_land (X:=DL.trb X (X.pn++pins) Eh) pl.trb I hx fun a C dx H' s'' ea q l=>by
   subst ea
   exact fin pins' σ H' s'' a C dx (hE C dx H' q) l,
  PassesOwn.looking,fun _=>PassesOwnAt.looking⟩
 have post:PostS X.K XQ' mp H (fb ρ S) D:=by
  unfold Yq at p
  cases z:fb ρ S with
  | nx ρ' S'=>rw[z] at p; exact p
  | rt d S'=>rw[z] at p; exact p
  | bk ρ' S'=>rw[z] at p; exact p
  | ct ρ' S'=>rw[z] at p; exact p
  | bad=>rw[z] at p; exact p
  | exc x ρ' S'=>
   rw[z] at p
   by_cases hm:x.cls∈ys
   ·have p:PostS X.K XQ mp H (hh x ρ' S') D:=by simpa only[if_pos hm] using p
    exact fun mp' H' σ' af G'=>⟨hm,G',PostS.aft p af⟩
   ·have p:PostS X.K XQ mp H .bad D:=by simpa only[if_neg hm] using p
    exact p.elim
 refine wpAny_mono (hb (X.pn++pins) Eh XQ' L [] s σ H D I.trb ⟨mp,ρ,S,G,post⟩) (fun f s1 q=>?_) fun e s1 q=>q
 cases f with
 | next=>
  obtain⟨σ',H',I',q⟩:=q
  exact wpAny_execs_nil ⟨σ',H',I'.untrb ok,q⟩
 | brk=>
  obtain⟨σ',H',I',q⟩:=q
  exact⟨σ',H',I'.untrb ok,q⟩
 | cont=>
  obtain⟨σ',H',I',q⟩:=q
  exact⟨σ',H',I'.untrb ok,q⟩
 | ret u=>
  obtain⟨v,σ',H',I',r,q⟩:=q
  exact⟨v,σ',H',I'.untrb ok,r,q⟩
structure Cat(K:PySem.W.Frag)(mg:Str->Option Value)(c:Str)(ys:List Str):Prop where
 ex:∃ cs,mg c=some (.ref cs)/\∀ y∈ys,∃ C,CN K y C/\XCl K C/\PySem.W.exmOne K (.ref C) (.ref cs)=some true
def hdl(i:Nat)(fh:Sv)(x:XD):Sv:=fun ρ S=>match fh (ρ.set i (some (.exn x.cls x.fld))) S with
 | .nx ρ' S'=>.nx (ρ'.set i none) S'
 | .rt d S'=>.rt d S'
 | .bk ρ' S'=>.bk (ρ'.set i none) S'
 | .ct ρ' S'=>.ct (ρ'.set i none) S'
 | _=>.bad
theorem Gsl{M:Model}{a T:Addr}(f:Fly h a T C dx):PySem.W.Looks M h (typeOf (.ref a)) (.ref C):=by
 obtain⟨oe,vs,_,_,_,h1,⟨h2,_⟩,_⟩:=f
 exact h2▸(PySem.W.Looks.ld h1).andThen .now
theorem Gsm{c:Str}{ys:List Str}{a:Addr}{R:Result->Shared->Prop}(ct:Cat X.K X.mg c ys)(hg:Gl X c)(hp:Gz c=true)(hy:y∈ys)(hc:CN X.K y C)(l:Landed X pins σ H a C dx s)(hq:R (.ok .brk) s):
  XCl X.K C/\codeAny (model X.prog X.w) (X.A.mark (some (.ref a))) (.handlers (.ref a) [.ExceptHandler (some (.Name c np)) none [] hpos] X.env) R s:=by
 obtain⟨T,I,f,_⟩:=l.ex
 obtain⟨cs,hm,hk⟩:=ct.ex
 obtain⟨C',hc',xc,he⟩:=hk y hy
 cases CN.one hc hc'
 refine⟨xc,codeAny_handlers_test ?_⟩
 refine Xl (X:=hnd X a) (I.hnd a) hg hm ?_ (Gz.of hp).1
 exact(PySem.W.exm_one I.kIn (Gsl f) he).here hq
theorem Gm1{c n:Str}{i:Nat}{b0:Stmt}{suite:List Stmt}{ys:List Str}{fb fh:Sv}(pl:Plain X)(ct:Cat X.K X.mg c ys)(hg:Gl X c)(hp:Gz c=true)(hN:X.N.Nodup)(hi:X.N[i]?=some n)(hn:X.env.scope.names.lookup n=some .local)(hb:∀ (pn:List (Addr×Obj)) (xe:Value->Shared->Prop) (XQ':XW),XL (trb X pn xe) XQ'->JSs (trb X pn xe) XQ' body fb)(hs:∀ a,JSs (hnd X a) (fun _ _ _ _ _ _=>False) (b0::suite) fh):
  JS X XQ (.Try body [.ExceptHandler (some (.Name c np)) (some n) (b0::suite) hpos] [] [] pos) (Yq ys (hdl i fh) fb):=by
 refine Gm0 pl (fun pins σ H s a C dx x mp ρ S D hy hc xf l G p=>?_) hb
 refine wpAny_handleBy_cons ?_ (by intro q; cases q)
 obtain⟨xc,hit⟩:=Gsm (np:=np) (hpos:=hpos) (R:=fun r s₁=>match r with
   | .ok .brk=>codeAny (model X.prog X.w) (X.A.mark (some (.ref a))) (.handlers (.ref a) [.ExceptHandler none (some n) (b0::suite) hpos] X.env) (fun r s₂=>match r with
     | .ok f=>wpAny (model X.prog X.w) X.A (do bindName X.env n .none; unbindBehindTheSuite X.env n hpos) (fun _ s₃=>SP X pins D f s₃) X.xe s₂
     | .error x=>cameBackBy (model X.prog X.w) X.A X.env X.xe x s₂) s₁
   | .ok _=>wpAny (model X.prog X.w) X.A (handleBy (.ref a) X.env []) (SP X pins D) X.xe s₁
   | .error x=>cameBackBy (model X.prog X.w) X.A X.env X.xe x s₁) ct hg hp hy hc l (by
  refine codeAny_handlers_suite_as (l.flight fun s1 l1=>?_)
  obtain⟨na,I1⟩:=l1.know
  have ok:=I1.ok
  have af:Aft X.K mp H mp (upd H a (XO a C dx)):=Km na
  have G1:Gd X.K mp (upd H a (XO a C dx)) σ ρ S:=G.aft af (G.rs.new na)
  have re:Rep X.K mp (upd H a (XO a C dx)) (.exn x.cls x.fld) (.ref a):=⟨a,dx,C,rfl,⟨hc,by
   obtain⟨cs,hm,hk⟩:=ct.ex
   obtain⟨C',hc',xc,he⟩:=hk x.cls hy
   cases CN.one hc hc'
   exact xc,Hj⟩,fun i z=>by
   obtain⟨d,e1,e2⟩:=xf.1 i z
   exact⟨d,e1,by rw[Gq (fun q=>by rw[q,na] at e2; cases e2)]; exact e2⟩⟩
  refine Yk (X:=hnd X a) (v:=.ref a) (I1.hnd a) hN hi (.inl hn) rfl (fun s2 I2=>?_) (.inr hn)
  refine wpAny_mono (hs a pins s2 _ _ { nx:=fun σ' H'=>D.nx (σ'.set i none) H',rt:=D.rt,bk:=fun σ' H'=>D.bk (σ'.set i none) H',ct:=fun σ' H'=>D.ct (σ'.set i none) H' } I2 ⟨mp,_,S,G1.set i re,?_⟩) (fun f s3 q=>?_) (fun e s3 q=>q.elim)
  ·have p:=PostS.aft p af
   unfold hdl at p
   cases z:fh (ρ.set i (some (.exn x.cls x.fld))) S with
   | nx ρ' S'=>rw[z] at p; exact fun mp' H' σ' a' G'=>p mp' H' _ a' (G'.unset i)
   | rt d S'=>rw[z] at p; exact p
   | bk ρ' S'=>rw[z] at p; exact fun mp' H' σ' a' G'=>p mp' H' _ a' (G'.unset i)
   | ct ρ' S'=>rw[z] at p; exact fun mp' H' σ' a' G'=>p mp' H' _ a' (G'.unset i)
   | exc x ρ' S'=>rw[z] at p; exact p.elim
   | bad=>rw[z] at p; exact p.elim
  ·cases f with
   | next=>
    obtain⟨σ',H',I',q⟩:=q
    exact Xm (I'.unhnd ok) hN hi hn fun s' J=>⟨_,H',J,q⟩
   | brk=>
    obtain⟨σ',H',I',q⟩:=q
    exact Xm (I'.unhnd ok) hN hi hn fun s' J=>⟨_,H',J,q⟩
   | cont=>
    obtain⟨σ',H',I',q⟩:=q
    exact Xm (I'.unhnd ok) hN hi hn fun s' J=>⟨_,H',J,q⟩
   | ret u=>
    obtain⟨v,σ',H',I',r,q⟩:=q
    exact Xm (I'.unhnd ok) hN hi hn fun s' J=>⟨v,_,H',J,r,q⟩)
 exact hit
end
def Uu(ys sub:List Str)(x:D)(S:Sto):Out D:=match x with
 | .exn y _=>if y∈ys then .ok (.bl (decide (y∈sub))) S else .bad
 | _=>.bad
structure Isx(K:PySem.W.Frag)(mg:Str->Option Value)(x:Str)(ys sub:List Str):Prop where
 ex:∃ cs,mg x=some (.ref cs)/\∀ y∈ys,∃ C,CN K y C/\PySem.W.kitOne K (.ref C) (.ref cs)=some (decide (y∈sub))
structure IsxB(K:PySem.W.Frag)(T:String)(ys sub:List Str):Prop where
 ex:∀ y∈ys,∃ C,CN K y C/\PySem.W.kitOne K (.ref C) (.type T)=some (decide (y∈sub))
section
variable{X:Cx}{XQ:XW}
def Gwz(K:PySem.W.Frag)(w:V)(c:Value):List V->Hp->VK->Prop:=fun vs H Q=>∃ a C dx b,vs=[.ref a,w]/\XCl K C/\H a=some (XO a C dx)/\PySem.W.kitOne K (.ref C) c=some b/\Q (.bl b) H
theorem Ged{w:V}{c:Value}(hw:∀ u,Ha w u->u=c):Qq X (.builtin "isinstance") (Gwz X.K w c):=by
 intro pins s σ H xs us Q I r ⟨a,C,dx,b,e,xc,hH,hk,q⟩
 subst e
 obtain⟨u,w',rfl,ru,rw'⟩:=Vals.two r
 cases (show u=Value.ref a from ru)
 cases hw _ rw'
 exact PySem.W.kia_one (Ga4 xc) I.kIn (Giw I hH) hk (fun z=>nomatch z) fun tk=>⟨.bl b,H,I.tok tk,rfl,q⟩
theorem Gsn{ys:List Str}{e:Expr}{f:Ev D}(k:Isx X.K X.mg x ys sub)(hg:Gl X "isinstance")(hm:X.mg "isinstance"=none)(hgt:Gl X x)(hp:Gz x=true)(he:JE X XQ e f)(hs:starEach [e,.Name x p2] X.env=(false,eval e X.env)::starEach [.Name x p2] X.env)(hpl:(backTo pos (starEach [.Name x p2] X.env)).any (·.1)=false)(hs2:starEach [.Name x p2] X.env=(false,eval (.Name x p2) X.env)::starEach [] X.env):
  JE X XQ (.Call (.Name "isinstance" p) [e,.Name x p2] [] pos) (o1 (Uu ys sub) f):=by
 obtain⟨cs,hmt,hk⟩:=k.ex
 refine PE.mono (Wt (Ged (w:=.ref cs) (c:=.ref cs) fun u h=>h) hg hm (by rfl) (Ju he (Ju (Gct hgt hmt (v:=.ref cs) rfl (Gz.of hp).1) pa_nil hs2) hs) (by decide) (by decide) hs hpl) fun σ H Q ⟨mp,ρ,S,G,q⟩=>?_
 refine bindP G q fun mp1 H1 d S1 v a1 G1 r1 p1=>?_
 cases d with
 | exn y n=>
  obtain⟨a,dx,C,rfl,⟨hc,xc,hH⟩,_⟩:=(show ∃ a dx p,v=.ref a/\(CN X.K y p/\XCl X.K p/\H1 a=some (XO a p dx))/\∀ i,n=some i->∃ d,dx=some d/\H1 d=some (XA d i) from r1)
  by_cases hy:y∈ys
  ·have p1:Post X.K XQ σ ρ mp1 H1 (.ok (.bl (decide (y∈sub))) S1) Q:=by simpa only[Uu,if_pos hy] using p1
   obtain⟨C',hc',ko⟩:=hk y hy
   cases CN.one hc hc'
   exact⟨a,C,dx,_,rfl,xc,hH,ko,Gn.ok (R:=Rep X.K) p1 G1.rs rfl⟩
  ·have p1:Post X.K XQ σ ρ mp1 H1 .bad Q:=by simpa only[Uu,if_neg hy] using p1
   exact p1.elim
 | _=>exact p1.elim
theorem Gm2{ys:List Str}{e:Expr}{f:Ev D}(k:IsxB X.K T ys sub)(hv:bootBuiltins x=some (.type T))(hnx:x≠"__name__")(hg:Gl X "isinstance")(hm:X.mg "isinstance"=none)(hgt:Gl X x)(hmt:X.mg x=none)(hp:Gz x=true)(he:JE X XQ e f)(hs:starEach [e,.Name x p2] X.env=(false,eval e X.env)::starEach [.Name x p2] X.env)(hpl:(backTo pos (starEach [.Name x p2] X.env)).any (·.1)=false)(hs2:starEach [.Name x p2] X.env=(false,eval (.Name x p2) X.env)::starEach [] X.env):
  JE X XQ (.Call (.Name "isinstance" p) [e,.Name x p2] [] pos) (o1 (Uu ys sub) f):=by
 have hk:=k.ex
 refine PE.mono (Wt (Ged (w:=.ty T) (c:=.type T) fun u h=>h) hg hm (by rfl) (Ju he (Ju (Gft hgt hmt hv (v:=.ty T) rfl hnx (Gz.of hp).1) pa_nil hs2) hs) (by decide) (by decide) hs hpl) fun σ H Q ⟨mp,ρ,S,G,q⟩=>?_
 refine bindP G q fun mp1 H1 d S1 v a1 G1 r1 p1=>?_
 cases d with
 | exn y n=>
  obtain⟨a,dx,C,rfl,⟨hc,xc,hH⟩,_⟩:=(show ∃ a dx p,v=.ref a/\(CN X.K y p/\XCl X.K p/\H1 a=some (XO a p dx))/\∀ i,n=some i->∃ d,dx=some d/\H1 d=some (XA d i) from r1)
  by_cases hy:y∈ys
  ·have p1:Post X.K XQ σ ρ mp1 H1 (.ok (.bl (decide (y∈sub))) S1) Q:=by simpa only[Uu,if_pos hy] using p1
   obtain⟨C',hc',ko⟩:=hk y hy
   cases CN.one hc hc'
   exact⟨a,C,dx,_,rfl,xc,hH,ko,Gn.ok (R:=Rep X.K) p1 G1.rs rfl⟩
  ·have p1:Post X.K XQ σ ρ mp1 H1 .bad Q:=by simpa only[Uu,if_neg hy] using p1
   exact p1.elim
 | _=>exact p1.elim
end
def Gm3(K:PySem.W.Frag)(c:Addr):Bool:=
 (PySem.W.findIn K (.ref c) "__getattribute__"==some (some (.builtin "BaseException.__getattribute__")))&&((PySem.W.findIn K (.ref c) "__getattr__"==some none)&&((PySem.W.findIn K (.ref c) "__class__"==some (some (.builtin "object.__class__")))
  && ((PySem.W.clsIn K c).isSome&&((PySem.W.mroIn K c (.type "object")==some true)&&((PySem.W.subIn K (.ref c) (.type "BaseException")==some true)&&["bool","int","str","tuple","list"].all fun T=>PySem.W.kitOne K (.ref c) (.type T)==some false)))))
theorem Gjj{c:Addr}(h:Gm3 K c=true):XCl K c:=by
 unfold Gm3 at h
 simp only[Bool.and_eq_true,beq_iff_eq,List.all_eq_true] at h
 obtain⟨h1,h2,h3,h4,h5,h6,h7⟩:=h
 exact⟨h1,h2,h3,h4,h5,h6,h7⟩
def xrowB(K:PySem.W.Frag)(cs:Addr)(l:List (Str×Addr))(p:Str×Addr):Bool:=
 (PySem.W.nsIn K mainGlobals p.1==some (some (.ref p.2)))&&(Gm3 K p.2&&((PySem.W.exmOne K (.ref p.2) (.ref cs)==some true)&&((PySem.W.kitOne K (.ref p.2) (.type "ValueError")==some true)&&l.all fun q=>PySem.W.kitOne K (.ref p.2) (.ref q.2)==some (decide (p.1∈[q.1])))))
def Gjk(K:PySem.W.Frag)(cs:Addr)(l m:List (Str×Addr)):Bool:=(l.all fun p=>xrowB K cs m p)&&m.all fun q=>PySem.W.nsIn K mainGlobals q.1==some (some (.ref q.2))
structure XT(K:PySem.W.Frag)(mg:Str->Option Value)(sup:Str)(ys ms:List Str):Prop where
 cat:Cat K mg sup ys
 isx:∀ x∈ms,Isx K mg x ys [x]
 val:IsxB K "ValueError" ys ys
 xns:XNs K ys
theorem Gvd{sup:Str}{cs:Addr}{l m:List (Str×Addr)}(X:K.In h)(G:h.Ns mainGlobals mg)(a:PySem.W.nsIn K mainGlobals sup=some (some (.ref cs)))(t:Gjk K cs l m=true):XT K mg sup (l.map (·.1)) (m.map (·.1)):=by
 unfold Gjk at t
 rw[Bool.and_eq_true] at t
 obtain⟨t,tm⟩:=t
 have qm:∀ r∈m,CN K r.1 r.2:=fun r hr=>beq_iff_eq.mp (List.all_eq_true.mp tm r hr)
 have q:∀ p∈l,CN K p.1 p.2/\XCl K p.2/\PySem.W.exmOne K (.ref p.2) (.ref cs)=some true/\PySem.W.kitOne K (.ref p.2) (.type "ValueError")=some true/\∀ r∈m,PySem.W.kitOne K (.ref p.2) (.ref r.2)=some (decide (p.1∈[r.1])):=fun p hp=>by
  have z:=List.all_eq_true.mp t p hp
  unfold xrowB at z
  simp only[Bool.and_eq_true,beq_iff_eq,List.all_eq_true] at z
  obtain⟨h1,h2,h3,h4,h5⟩:=z
  exact⟨h1,Gjj h2,h3,h4,h5⟩
 refine⟨⟨cs,PySem.W.mg_of X G a,fun y hy=>?_⟩,fun x hx=>?_,⟨fun y hy=>?_⟩,fun y hy=>?_⟩
 ·obtain⟨p,hp,rfl⟩:=List.mem_map.mp hy
  obtain⟨h1,h2,h3,h4,h5⟩:=q p hp
  exact⟨p.2,h1,h2,h3⟩
 ·obtain⟨r,hr,rfl⟩:=List.mem_map.mp hx
  refine⟨r.2,PySem.W.mg_of X G (qm r hr),fun y hy=>?_⟩
  obtain⟨p,hp,rfl⟩:=List.mem_map.mp hy
  obtain⟨h1,h2,h3,h4,h5⟩:=q p hp
  exact⟨p.2,h1,h5 r hr⟩
 ·obtain⟨p,hp,rfl⟩:=List.mem_map.mp hy
  obtain⟨h1,h2,h3,h4,h5⟩:=q p hp
  exact⟨p.2,h1,by rw[h4,decide_eq_true hy]⟩
 ·obtain⟨p,hp,rfl⟩:=List.mem_map.mp hy
  obtain⟨h1,h2,h3,h4,h5⟩:=q p hp
  exact⟨p.2,h1,h2⟩
def kxB(K:PySem.W.Frag)(C:Addr):Bool:=match K.lookup C with
 | some ⟨.type "type",_,.cls cd,sl⟩=>(match cd.mro,sl.toList with
  | .ref C'::bm,[_,_,_,_,some (.builtin n),_]=>C'==C&&(!cd.hasDel&&(n=="ValueError.__new__"&&(bm.contains (.type "ValueError")&&(!bm.contains (.type "AttributeError")&&(!bm.contains (.type "NameError")&&bm.contains (.type "BaseException"))))))
  | _,_=>false)
 | _=>false
theorem Gve(q:kxB K C=true):KX K C:=by
 unfold kxB at q
 split at q
 ·rename_i dd cd sl ho
  split at q
  ·rename_i C' bm k0 k1 k2 k3 n k5 hm hs
   simp only[Bool.and_eq_true,beq_iff_eq,Bool.not_eq_true'] at q
   obtain⟨rfl,hdel,hn,h1,h2,h3,h4⟩:=q
   subst hn
   obtain⟨nm,bs,mro,ns,qn,hd,sn,sub,ab,col,del⟩:=cd
   dsimp only at hm hdel
   subst hm hdel
   have hsl:sl=#[k0,k1,k2,k3,some (.builtin "ValueError.__new__"),k5]:=by
    obtain⟨l⟩:=sl
    simp only at hs
    rw[hs]
   subst hsl
   exact⟨nm,qn,ns,bs,bm,hd,sn,sub,ab,col,dd,k0,k1,k2,k3,k5,ho,⟨h1,h2,h3,h4⟩⟩
  ·cases q
 ·cases q
section
variable{P:Program}{w:World}{K:PySem.W.Frag}{mg:Str->Option Value}{base:Heap}
structure IniX(P:Program)(w:World)(K:PySem.W.Frag)(mg:Str->Option Value)(base:Heap)(f:Addr)(j:Nat):Prop where
 ex:∃ fd ps oI,K.lookup f=some oI/\oI.cls=.type "function"/\FnOk P w K mg base CX0 j f fd ps (spI K)/\ps.length=2/\Binds K fd ps []
abbrev Gor(K:PySem.W.Frag):TS:=Ghv (tVI K (Gdy (Ggo 0) (Gdy (Ggo 1) Gp1)))
theorem ini_mk{f:Addr}{od an:Option Addr}{kV:Value}(l:K.lookup f=some ⟨.type "function",od,.func (PySem.W.fnOf "__init__" "SummitError.__init__" (Jd st) (Gw st) (Gf st) .none kV doc pm an cdv ct),osl⟩)(c:PySem.W.codeIn K cdv "SummitError.__init__"=true)(k:PySem.W.keepIn K (.ref f)=true)(Sc:FnScope ["self","text"] ["self","text"] (Gf st))(hb:∀ (f:Addr) (cdv:Value) (A:Around) (outer:List PySem.Env) (s:Shared) (H:Hp) (E:XK),PSs (Qi CX0 P w K mg base ["self","text"] "SummitError.__init__" (Gf st) f cdv A outer s H E).nox (Gw st) (Gor K))(bi:∀ (kV doc pm:Value) (an:Option Addr) (cdv ct:Value) (us:List Value),us.length=2->bindArgs (PySem.W.fnOf "__init__" "SummitError.__init__" (Jd st) (Gw st) (Gf st) .none kV doc pm an cdv ct) ⟨us,[]⟩=pure ((["self","text"]:List Str).zip us)):IniX P w K mg base f 1:=by
 have F:=Ga0 (st:=st) l c k
 refine⟨_,["self","text"],_,l,rfl,?_,rfl,F.binds bi⟩
 refine Fun.ok F Sc (fun vs H Q E ⟨e,v,C,dx,ev,_⟩=>by rw[ev]; rfl) fun cdv A outer s H vs Q E hr ⟨e,v,C,dx,ev,hH,kx,q⟩=>?_
 refine⟨_,hb _ cdv A outer s H E,?_⟩
 subst ev
 exact⟨.ref e,rfl,v,rfl,e,v,C,dx,rfl,hH,kx,q⟩
end
section
variable{X:Cx}{XQ:XW}
def Gw0(i j:Int):Prop:=(-1000000000000<=i/\i<=1000000000000) /\ -1000000000000<=j/\j<=1000000000000
instance {i j:Int}:Decidable (Gw0 i j):=inferInstanceAs (Decidable ((-1000000000000<=i/\i<=1000000000000) /\ -1000000000000<=j/\j<=1000000000000))
end
structure FvT(K:PySem.W.Frag)(mg:Str->Option Value)(x:Str):Prop where
 ex:∃ f,CN K x f/\mg x=some (.ref f)
section
variable{prog:Program}{w:World}{A:Around}{E:Value->Shared->Prop}{K:PySem.W.Frag}{h:Heap}{g:Array GenState}{d:Drawn}{t:Nat}{os:OsState}{a c dx:Addr}
theorem Gjl{Q:Fin->Shared->Prop}(X:K.In h)(k:XCl K c)(na:PySem.W.findIn K (.ref c) "at"=some none)(hx:h.get? a=some oe)(hc:oe.cls=.ref c)(hd:oe.dict=some dx)(hf:oe.data=.fields vs)(hh:PySem.W.hasDictIn K c=true)(hn:h.Ns dx m)(hm:m "at"=some v)(hq:Q (.done (.ret v)) ⟨h,g,d,t,os⟩):
  wpAny (model prog w) A (Builtin.«object.__getattribute__» ⟨[.ref a,.str "at" tk],[]⟩) Q E ⟨h,g,d,t,os⟩:=by
 have L1:=fun(M:Model)=>PySem.W.looks_findIn (M:=M) X na
 repeat (any_goals (first | assumption | (with_reducible refine wpAny_loadPart_at hx ?_; rw[hc]) | with_reducible refine(L1 _).here ?_ | wp_step))
 rw[hf]
 obtain⟨cd,hcl,hcd⟩:=PySem.W.any_some hh
 show wpAny _ _ (instanceDict a false) _ _ _
 unfold instanceDict
 refine wpAny_bind (wpAny_loadPart_at hx ?_)
 rw[hc]
 refine wpAny_bind ((PySem.W.looks_clsIn X hcl).here ?_)
 rw[hcd,hd]
 refine wpAny_pure ?_
 show wpAny _ _ (nsGet dx "at") _ _ _
 refine wpAny_nsGet hn ?_
 rw[hm]
 repeat (any_goals (first | assumption | wp_step))
theorem Gvf{fill expr:Bool}{n:Int}{tv:Tok}(X:K.In h)(k:XCl K c)(na:PySem.W.findIn K (.ref c) "at"=some none)(hh:PySem.W.hasDictIn K c=true)(hx:h.get? a=some oe)(hc:oe.cls=.ref c)(hd:oe.dict=some dx)(hf:oe.data=.fields vs)(hn:h.Ns dx m)(hm:m "at"=some (.int n tv))(hq:Q (.int n tv) ⟨h,g,d,t,os⟩):wpAny (model prog w) A (getAttrBy (.ref a) (.str "at" tk) fill expr) Q E ⟨h,g,d,t,os⟩:=by
 have f3:=PySem.F.excAttr_ValueError.ga.bind (.ref a)
 have n0:(expr&&onTheHeap (Value.builtin "BaseException.__getattribute__"))=false:=by cases expr<;>rfl
 have n2:(Value.builtin "BaseException.__getattribute__"==Value.builtin "object.__getattribute__")=false:=by decide +kernel
 have n1:(onTheHeap (Value.ref c)&&Value.builtin "BaseException.__getattribute__"==Value.builtin "object.__getattribute__")=false:=by rw[n2]; rfl
 have L1:=fun(M:Model)=>PySem.W.looks_findIn (M:=M) X k.ga
 have L2:=fun(M:Model)=>PySem.W.looks_findIn (M:=M) X k.gt
 have x:XAt a c h:=⟨oe,hx,hc,vs,hf⟩
 repeat (any_goals (first | assumption | (with_reducible refine wpAny_loadPart_at hx ?_; rw[hc]) | with_reducible refine(L1 _).here ?_ | with_reducible refine(L2 _).here ?_ | wp_step))
 refine codeAny_call_builtin PySem.F.excAttr_ValueError.ga.plain F.entry_bexc_ga (Gd4 X k x (Gjl X k na hx hc hd hf hh hn hm ?_))
 repeat (any_goals (first | assumption | wp_step))
theorem Gso{expr:Bool}{n:Int}{tv:Tok}(X:K.In h)(k:XCl K c)(na:PySem.W.findIn K (.ref c) "at"=some none)(hh:PySem.W.hasDictIn K c=true)(hx:h.get? a=some oe)(hc:oe.cls=.ref c)(hd:oe.dict=some dx)(hf:oe.data=.fields vs)(hn:h.Ns dx m)(hm:m "at"=some (.int n tv))(hq:Q (.int n tv) ⟨h,g,d,t+1,os⟩):wpAny (model prog w) A (getAttr (.ref a) "at" expr) Q E ⟨h,g,d,t,os⟩:=by
 unfold getAttr
 repeat (any_goals (first | assumption | with_reducible apply Gvf X k na hh hx hc hd hf hn hm | wp_step))
end
def Ya:List Value->Bool
 | .ref _::r=>Ya r
 | l=>l==[.type "ValueError",.type "Exception",.type "BaseException",.type "object"]
abbrev VE4:List Value:=[.type "ValueError",.type "Exception",.type "BaseException",.type "object"]
theorem Gee{r:List Value}(h:∀ a,v≠.ref a)(q:Ya (v::r)=true):v::r=VE4:=by
 cases v<;>first | exact beq_iff_eq.mp q | exact absurd rfl (h _)
theorem Gcm(self:Value):∀ (l:List Value),Ya l=true->refuseLoop self "__setattr__" l=pure ()
 | [],q=>by cases q
 | v::r,q=>by
  by_cases c:∃ a,v=.ref a
  ·obtain⟨a,rfl⟩:=c
   rw[refuseLoop_ref]
   exact Gcm self r q
  ·rw[Gee (fun a z=>c ⟨a,z⟩) q]
   exact PySem.F.store_ValueError.passes self
theorem Gjm:∀ (l:List Value),Ya l=true->l.contains (.type "object")=true
 | [],q=>by cases q
 | v::r,q=>by
  by_cases c:∃ a,v=.ref a
  ·obtain⟨a,rfl⟩:=c
   rw[List.contains_cons,Gjm r q,Bool.or_true]
  ·rw[Gee (fun a z=>c ⟨a,z⟩) q]
   decide
section
variable{prog:Program}{w:World}{A:Around}{K:PySem.W.Frag}{s:Shared}{x C:Addr}{R:Result->Shared->Prop}
theorem Gm4{ox:Obj}{od:Option Obj}{nm:Str}(X:K.In s.heap)(J:PySem.W.InstAt s.heap x ox C od)(hp:(PySem.W.clsIn K C).any (fun cd=>Ya cd.mro)=true)(na:PySem.W.findIn K (.ref C) nm=some none)(hq:wpAny (model prog w) A.in1 (Builtin.ObjectAttr.storeInOwnDict (.ref x) (.ref C) (.str nm tk) nm v false)
   (fun fin s'=>match fin with | .done f=>R (.ok f) s' | .again c'=>c'.quiet=true/\codeAny (model prog w) A c' R s') (fun e s'=>R (.error e) s') s):
  codeAny (model prog w) A (.call (.builtin "object.__setattr__") ⟨[.ref x,.str nm tk,v],[]⟩) R s:=by
 obtain⟨cd,hcl,hve⟩:=PySem.W.any_some hp
 have hE:cd.mro.isEmpty=false:=by
  cases z:cd.mro with
  | nil=>rw[z] at hve; cases hve
  | cons _ _=>rfl
 have isO:PySem.W.Looks (model prog w) s.heap (isInstance (.ref x) (.type "object")) true:=J.type.andThen (PySem.W.looks_mroIn X (by unfold PySem.W.mroIn; rw[hcl,Option.bind_some,hE,if_neg Bool.false_ne_true,Gjm _ hve]))
 have so:=PySem.F.store_object
 refine codeAny_call_builtin so.slot.plain so.entry (@PySem.W.check_slot (model prog w) _ _ s "object.__setattr__" "object" "__setattr__" (.ref x) [.str nm tk,v] [] _ so.kind so.split isO (so.args (.ref x) (.str nm tk) v) ?_)
 rw[PySem.W.osa_eq,refuse_eq]
 refine wpAny_bind (wpAny_bind (J.type.here (wpAny_bind (PySem.W.Looks.here ((PySem.W.looks_clsIn X hcl).andThen .now) ?_))))
 rw[Gcm _ _ hve]
 exact wpAny_pure (wpAny_bind (J.type.here (wpAny_bind ((PySem.W.looks_findIn X na).here (wpAny_bind (wpAny_pure hq))))))
set_option maxHeartbeats 1000000 in
theorem Gm5{sl:Array (Option Value)}{nm:Str}{Q:Fin->Shared->Prop}(X:K.In s.heap)(hh:PySem.W.hasDictIn K C=true)(hx:s.heap.get? x=some ⟨.ref C,none,.fields vs,sl⟩)(hq:∀ h' tk',h'.get? x=some ⟨.ref C,some s.heap.objs.size,.fields vs,sl⟩->h'.Ns s.heap.objs.size (fun y=>if y=nm then some v else none)->(∀ b o,b≠x->s.heap.get? b=some o->h'.get? b=some o)->Q (.done (.ret .none)) { s with heap:=h',toks:=tk' }):
  wpAny (model prog w) A (Builtin.ObjectAttr.storeInOwnDict (.ref x) (.ref C) (.str nm tk) nm v false) Q E s:=by
 obtain⟨cd,hcl,hcd⟩:=PySem.W.any_some hh
 have nx:x≠s.heap.objs.size:=Nat.ne_of_lt (Heap.lt_size hx)
 have x1:(s.heap.push { cls:=.type "dict",data:=.dict #[] }).get? x=some ⟨.ref C,none,.fields vs,sl⟩:=Heap.get?_push_of_some _ hx
 have x2:=Heap.get?_update_self (fun o:Obj=>{ cls:=o.cls,dict:=some s.heap.objs.size,data:=o.data,slots:=o.slots }) x1 rfl
 have d2:((s.heap.push { cls:=.type "dict",data:=.dict #[] }).update x fun o=>{ cls:=o.cls,dict:=some s.heap.objs.size,data:=o.data,slots:=o.slots }).get? s.heap.objs.size=some { cls:=.type "dict",data:=.dict #[] }:=
  (Heap.get?_update_other _ _ nx).trans (Heap.get?_push_size s.heap rfl)
 have nd:((s.heap.push { cls:=.type "dict",data:=.dict #[] }).update x fun o=>{ cls:=o.cls,dict:=some s.heap.objs.size,data:=o.data,slots:=o.slots }).Ns s.heap.objs.size (fun _=>none):=⟨_,#[],_,d2,rfl,fun e he=>absurd he (by simp),fun _=>rfl⟩
 have kp:∀ b o,b≠x->s.heap.get? b=some o->((s.heap.push { cls:=.type "dict",data:=.dict #[] }).update x fun o=>{ cls:=o.cls,dict:=some s.heap.objs.size,data:=o.data,slots:=o.slots }).get? b=some o:=fun b o hb q=>(Heap.get?_update_other _ _ (Ne.symm hb)).trans (Heap.get?_push_of_some _ q)
 unfold Builtin.ObjectAttr.storeInOwnDict
 generalize hS:Builtin.ObjectAttr.storeInDict=F
 repeat (any_goals (first | with_reducible refine wpAny_loadPart_at hx ?_ | with_reducible refine(PySem.W.looks_clsIn X hcl).here ?_ | wp_step))
 subst hS
 show wpAny _ _ (Builtin.ObjectAttr.storeInDict s.heap.objs.size (.str nm tk) nm v) _ _ _
 unfold Builtin.ObjectAttr.storeInDict Builtin.ObjectAttr.newKeyGuard
 refine wpAny_bind (wpAny_pure (wpAny_bind (wpAny_nsSet1 (Heap.Ns1.of_empty nd) fun h' n' sb=>?_)))
 obtain⟨oD,eD,pD,hD,dD,cD⟩:=n'.count (PySem.Within.cons nm v PySem.Within.nil)
 refine wpAny_bind (wpAny_lookBehind hD (by rw[dD]; exact pastItsLine_dict (Nat.le_trans cD (by rw[List.length_cons,List.length_nil,sizeLine_eq]; omega))) ?_)
 refine wpAny_pure (hq h' _ ((sb.2 x nx).trans x2) ?_ fun b o hb q=>(sb.2 b (Nat.ne_of_lt (Heap.lt_size q))).trans (kp b o hb q))
 exact n'.ns
end
structure KA(K:PySem.W.Frag)(C:Addr):Prop where
 sa:PySem.W.findIn K (.ref C) "__setattr__"=some (some (.builtin "object.__setattr__"))
 ve:(PySem.W.clsIn K C).any (fun cd=>Ya cd.mro)=true
 na:PySem.W.findIn K (.ref C) "at"=some none
 hd:PySem.W.hasDictIn K C=true
section
variable{X:Cx}{pins:List (Addr×Obj)}{σ:L2.St}{H:Hp}{s:Shared}{C e:Addr}
theorem Gm6{d:Addr}{n:Int}(h1 h2:Heap)(q:∃ t,h1.Ns d fun y=>if y="at" then some (.int n t) else none)(k:∀ o,h1.get? d=some o->h2.get? d=some o):∃ t,h2.Ns d fun y=>if y="at" then some (.int n t) else none:=by
 obtain⟨t,o,es,ep,ho,r⟩:=q
 exact⟨t,o,es,ep,k _ ho,r⟩
theorem Gsp{n:Int}{t:Tok}{Q:Unit->Shared->Prop}(I:Inv X pins σ H s)(ka:KA X.K C)(hH:H e=some (FX e C none))(h:∀ s' d,H d=none->d≠e->Inv X pins σ (upd (upd H e (FX e C (some d))) d (XA d n)) s'->Q () s'):
  wpAny (model X.prog X.w) A (setAttr (.ref e) "at" (.int n t)) Q E s:=by
 obtain⟨⟨t0,he⟩,_,_⟩:=(show Jt X.prog X.w H s.heap e (FX e C none) from I.hok e _ hH)
 have J:PySem.W.InstAt s.heap e ⟨.ref C,none,.fields #[.ref t0,.none,.none,.none,.bool false,.none],#[]⟩ C none:=⟨he,rfl,rfl,trivial⟩
 refine PySem.W.set_plain I.kIn J ka.sa (Gm4 (s:={ s with toks:=s.toks+1 }) I.kIn J ka.ve ka.na (Gm5 (s:={ s with toks:=s.toks+1 }) I.kIn ka.hd he fun h' tk' g1 n1 kp=>?_))
 have hn:H s.heap.objs.size=none:=I.hok.fresh (Nat.le_refl _)
 have hdn:s.heap.get? s.heap.objs.size=none:=Heap.get?_none_of_le (Nat.le_refl _)
 have hne:s.heap.objs.size≠e:=Nat.ne_of_gt (Heap.lt_size he)
 have I1:=I.write (h':=h') (x:=e) (e:=e) (o:=FX e C (some s.heap.objs.size)) (t':=tk') (by rw[hH]; exact trivial) (.inl rfl) (fun b u hb hu=>kp b u hb hu) ⟨_,g1⟩ (Gjc ⟨_,g1⟩)
 refine h _ s.heap.objs.size hn hne (Gec (φ:=fun h=>∃ t,h.Ns s.heap.objs.size fun y=>if y="at" then some (.int n t) else none) I1 (by rw[Gq hne]; exact hn) (Heap.get?_none_of_le I.sz) (fun z=>?_) (fun x c hc z=>?_) (fun p hp z=>?_) ⟨t,n1⟩ (let ⟨o,_,_,q,_⟩:=n1; ⟨o,q⟩) Gm6)
 ·obtain⟨m,⟨o,es,ep,ho,_⟩,_⟩:=I.loc
  rw[<- z,hdn] at ho
  cases ho
 ·obtain⟨v,o,ho,_⟩:=I.cell x c hc
  rw[z,hdn] at ho
  cases ho
 ·obtain⟨q1,_⟩:=I.pin p hp
  rw[z,hdn] at q1
  cases q1
def sAt(K:PySem.W.Frag)(ta tv:TE):TS:=fun D σ H=>tv σ H fun y H1=>ta σ H1 fun x H2=>∃ e C n,x=.ref e/\y=.int n/\H2 e=some (FX e C none)/\KA K C/\∀ d,H2 d=none->d≠e->D.nx σ (upd (upd H2 e (FX e C (some d))) d (XA d n))
theorem Gvg{value:Expr}{ta tv:TE}(ha:PE X o ta)(hv:PE X value tv)(hs:swapsWith value (some (.Attribute o "at" pos')) pos.line X.env=pure false:=by rfl):PS X (.Assign [.Attribute o "at" pos'] value pos) (sAt X.K ta tv):=by
 intro pins s σ H D I h
 refine plainObj_wpAny_Assign_Attribute (thn (hv pins s σ H _ I h) fun u s1 ⟨y,H1,I1,ry,q⟩=>thn (ha pins s1 σ H1 _ I1 q) fun ov s2 ⟨x,H2,I2,rx,e,C,n,ex,ey,hH,ka,q2⟩=>?_) hs
 subst ex ey
 obtain rfl:ov=Value.ref e:=rx
 obtain⟨t,rfl⟩:=(show ∃ t,u=Value.int n t from ry)
 exact Gsp I2 ka hH fun s3 d hd hne I3=>⟨σ,_,I3,q2 d hd hne⟩
structure BaseI(K:PySem.W.Frag)(mg:Str->Option Value)(x:Str)(f:Addr):Prop where
 ex:∃ cs mc,mg x=some (.ref cs)/\PySem.W.readsIn K cs mc=true/\PySem.W.findCls K (.ref cs) mc "__init__"=some (.val (.ref f))/\PySem.W.specialIn K (.ref cs) "__getattribute__"=some (some (.builtin "type.__getattribute__"))/\PySem.W.keepIn K (.ref f)=true
theorem Gjn{f:Addr}{t:TA}{pl:Sem Bool}(hg:Gl X x)(hdb:(x==("__debug__":Str))=false)(bi:BaseI X.K X.mg x f)(F:FnOk X.prog X.w X.K X.mg X.base CX0 j f fd ps (spI X.K))(hl:ps.length=2)(hr:Room k X.A)(hj:j<=k)(hb:Binds X.K fd ps [])(ha:PA X [a,b] t)(ht:eval (.Call (.Attribute (.Name x p) "__init__" apos) [a,b] [] pos) X.env=(do
   let ov <- eval (.Name x p) X.env
   standAt apos.atName
   let (f,first) <- holding [ov] (getMethod ov "__init__" pl)
   callWith pos f first (backTo pos (starEach [a,b] X.env)) (backToKw pos (keywordEach [] X.env))))(hs:starEach [a,b] X.env=(false,eval a X.env)::starEach [b] X.env:=by rfl)(hpl:(backTo pos (starEach [b] X.env)).any (·.1)=false:=by rfl):
  PE X (.Call (.Attribute (.Name x p) "__init__" apos) [a,b] [] pos) (tVI X.K t):=by
 intro pins s σ H Q I h
 obtain⟨cs,mc,hm,rd,fc,sg,kp⟩:=bi.ex
 refine PySem.W.methodCall_KW (pl:=pl) (Xl I hg hm ?_ hdb) ht
 refine PySem.W.method_cls I.kIn sg (PySem.W.cls_value I.kIn rd fc rfl ?_)
 have I0:Inv X pins σ H { s with toks:=s.toks+1 }:=I.tok _
 refine PySem.W.callWith_K (h₀:=X.base) I0.ok.mod.kin kp (thn (ha pos pins _ σ H _ I0 h) fun us s1 ⟨vs,H1,I1,r,e,v,C,dx,ev,hH,kx,q⟩=>⟨I1.kIn,?_⟩) hs hpl
 exact Gh6 (dvs:=[]) (ds:=[]) (E:=E0) (F.mono hj) hr hb .nil (fun _ _ _ _ _ _ _ z=>z.elim) I1 r (by rw[List.append_nil]; exact⟨e,v,C,dx,ev,hH,kx,q⟩)
end
def spJ(K:PySem.W.Frag):Sp:=fun vs H Q _=>∃ e n C,vs=[.ref e,.int n]/\H e=some (FX e C none)/\(KX K C/\KA K C)/\∀ d,H d=none->d≠e->Q .non (upd (upd H e (FX e C (some d))) d (XA d n))
abbrev Gjo(K:PySem.W.Frag)(x:Str):TS:=Gt6 (Ghv (tVI K (Gdy (Ggo 0) (Gdy (tC (.str x)) Gp1)))) (sAt K (Ggo 0) (Ggo 1))
section
variable{P:Program}{w:World}{K:PySem.W.Frag}{mg:Str->Option Value}{base:Heap}
structure IniJ(P:Program)(w:World)(K:PySem.W.Frag)(mg:Str->Option Value)(base:Heap)(f:Addr)(j:Nat):Prop where
 ex:∃ fd ps oI,K.lookup f=some oI/\oI.cls=.type "function"/\FnOk P w K mg base CX0 j f fd ps (spJ K)/\ps.length=2/\Binds K fd ps []
theorem inj_mk{q:Str}{f:Addr}{od an:Option Addr}{kV:Value}(k:Nat)(l:K.lookup f=some ⟨.type "function",od,.func (PySem.W.fnOf "__init__" q (Jd st) (Gw st) (Gf st) .none kV doc pm an cdv ct),osl⟩)(c:PySem.W.codeIn K cdv q=true)(kp:PySem.W.keepIn K (.ref f)=true)(Sc:FnScope ["self","at"] ["self","at"] (Gf st))(hb:∀ (f:Addr) (cdv:Value) (A:Around) (outer:List PySem.Env) (s:Shared) (H:Hp) (E:XK),Room k (A.deeper (envOfC q (Gf st) s.heap.objs.size f cdv))->PSs (Qi CX0 P w K mg base ["self","at"] q (Gf st) f cdv A outer s H E).nox (Gw st) (Gjo K x))(bi:∀ (kV doc pm:Value) (an:Option Addr) (cdv ct:Value) (us:List Value),us.length=2->bindArgs (PySem.W.fnOf "__init__" q (Jd st) (Gw st) (Gf st) .none kV doc pm an cdv ct) ⟨us,[]⟩=pure ((["self","at"]:List Str).zip us)):IniJ P w K mg base f (k+1):=by
 have F:=Ga0 (st:=st) l c kp
 refine⟨_,["self","at"],_,l,rfl,?_,rfl,F.binds bi⟩
 refine Fun.ok F Sc (fun vs H Q E ⟨e,n,C,ev,_⟩=>by rw[ev]; rfl) fun cdv A outer s H vs Q E hr ⟨e,n,C,ev,hH,⟨kx,ka⟩,q⟩=>?_
 refine⟨_,hb _ cdv A outer s H E hr,?_⟩
 subst ev
 exact⟨.ref e,rfl,e,.str x,C,none,rfl,hH,kx,.int n,rfl,.ref e,rfl,e,C,n,rfl,rfl,hH,ka,fun d hd hne=>q d hd hne⟩
end
section
variable{X:Cx}{pins:List (Addr×Obj)}{σ:L2.St}{H:Hp}{s:Shared}{C f:Addr}{fd:FuncData}{ps:List Str}{k:Nat}
theorem Gsq{n:Int}{u:Value}(kx:KX X.K C)(ka:KA X.K C)(hi:PySem.W.findIn X.K (.ref C) "__init__"=some (some (.ref f)))(lf:X.K.lookup f=some oI)(hfc:oI.cls=.type "function")(F:FnOk X.prog X.w X.K X.mg X.base CX0 k f fd ps (spJ X.K))(hl:ps.length=2)(hr:Room (k+1) X.A)(hb:Binds X.K fd ps [])(I:Inv X pins σ H s)(rv:Ha (.int n) u):
  wpAny (model X.prog X.w) X.A (call (.ref C) [u]) (fun r s'=>∃ e d,r=.ref e/\(H e=none/\H d=none/\d≠e/\X.s₀.heap.get? e=none)/\Inv X pins σ (upd (upd (upd H e (FX e C none)) e (FX e C (some d))) d (XA d n)) s') X.xe s:=by
 obtain⟨nm,qn,N,bs,bm,hdct,sn,sub,ab,col,dd,k0,k1,k2,k3,k5,lk,xb⟩:=kx.ex
 obtain⟨hp,g,d,tk,os⟩:=s
 refine Gse xb I.kIn (I.kIn _ _ lk) hi (I.kIn _ _ lf) hfc fun h' e le hm=>?_
 have hn:H e=none:=I.hok.fresh le
 have h0:X.s₀.heap.get? e=none:=Heap.get?_none_of_le (Nat.le_trans I.sz le)
 obtain⟨t,ht,_,_⟩:=hm.there
 have I1:Inv X pins σ (upd H e (FX e C none)) ⟨h',g,d,tk,os⟩:=I.laid (t':=tk) hm.keeps le (Gjc ⟨t,ht⟩)
 refine wpAny_call (codeAny_mono (F.run (X.A.under (.builtin "type.__call__" ⟨[.ref C,u],[]⟩)) X.stack ⟨h',g,d,tk,os⟩ (upd H e (FX e C none)) ⟨[.ref e,u],[]⟩ [.ref e,u] [.ref e,.int n] (fun v' H'=>v'=.non/\∃ d,upd H e (FX e C none) d=none/\d≠e/\H'=upd (upd (upd H e (FX e C none)) e (FX e C (some d))) d (XA d n)) E0
  (hr.make C [u] []) (I1.env0.make C [u] []) (by have:=hb ⟨h',g,d,tk,os⟩ [.ref e,u] I1.kIn (by simpa using hl.symm); simpa using this) (.cons rfl (.cons rv .nil)) ⟨e,n,C,rfl,Hj,⟨kx,ka⟩,fun d hd hne=>⟨rfl,d,hd,hne,rfl⟩⟩) fun r s' hq=>?_)
 cases r with
 | error x=>exact hq.elim
 | ok fl=>
  cases fl with
  | ret u'=>
   obtain⟨v',H',I',r',e1,d,hd,hne,e2⟩:=I1.after hq
   subst e1 e2
   exact⟨r',e,d,rfl,⟨hn,by rw[Gq hne] at hd; exact hd,hne,h0⟩,I'⟩
  | next=>exact hq.elim
  | brk=>exact hq.elim
  | cont=>exact hq.elim
def tRj(C:Addr)(W:L2.St->Hp->Addr->Option Addr->Prop)(t:TA):TS:=fun _ σ H=>t σ H fun vs H1=>∃ n,vs=[.int n]/\∀ e d,H1 e=none->H1 d=none->d≠e->W σ (upd (upd (upd H1 e (FX e C none)) e (FX e C (some d))) d (XA d n)) e (some d)
theorem Ghd{W:L2.St->Hp->Addr->Option Addr->Prop}{t:TA}(hW:∀ (pins:List (Addr×Obj)) (σ:L2.St) (H:Hp) (e:Addr) (dx:Option Addr) (s':Shared),Inv X pins σ H s'->H e=some (FX e C dx)->X.s₀.heap.get? e=none->W σ H e dx->X.xe (.ref e) s')(hcm:X.calm=true)(hg:Gl X x)(hm:X.mg x=some (.ref C))(kx:KX X.K C)(ka:KA X.K C)(hi:PySem.W.findIn X.K (.ref C) "__init__"=some (some (.ref f)))(lf:X.K.lookup f=some oI)(hfc:oI.cls=.type "function")(F:FnOk X.prog X.w X.K X.mg X.base CX0 k f fd ps (spJ X.K))(hl:ps.length=2)(hr:Room (k+1) X.A)(hb:Binds X.K fd ps [])(ha:PA X [a] t)(hdb:(x==("__debug__":Str))=false:=by decide)(he:starEach [a] X.env=(false,eval a X.env)::starEach [] X.env:=by rfl)(hpl:(backTo cpos (starEach [] X.env)).any (·.1)=false:=by rfl):
  PS X (.Raise (some (.Call (.Name x np) [a] [] cpos)) none pos) (tRj C W t):=by
 intro pins s σ H D I h
 obtain⟨nm,qn,N,bs,bm,hdct,sn,sub,ab,col,dd,k0,k1,k2,k3,k5,lk,xb⟩:=id kx.ex
 refine Gmv (C:=C) (nm:=nm) (q:=qn) (N:=N) (bs:=bs) (bm:=bm) (hdct:=hdct) (sn:=sn) (sub:=sub) (ab:=ab) (col:=col) (dd:=dd) (k0:=k0) (k1:=k1) (k2:=k2) (k3:=k3) (k5:=k5) (newId:="ValueError.__new__") xb (I.ok.hd hcm) (Xl I hg hm ⟨rfl,?_⟩ hdb) he hpl
 refine thn (ha cpos pins s σ H _ I h) fun us s1 ⟨vs,H1,I1,r1,n,ev,q⟩=>⟨I1.kIn _ _ lk,?_⟩
 subst ev
 obtain⟨u,rfl,rv⟩:=Ws r1
 refine thn (Gsq kx ka hi lf hfc F hl hr hb I1 rv) fun r s2 ⟨e,d,er,⟨hn,hd,hne,h0⟩,I2⟩=>?_
 subst er
 have hH:upd (upd (upd H1 e (FX e C none)) e (FX e C (some d))) d (XA d n) e=some (FX e C (some d)):=by rw[Gq (Ne.symm hne),Hj]
 obtain⟨fr,_,_⟩:=(show Jt X.prog X.w _ s2.heap e (FX e C (some d)) from I2.hok e _ hH)
 exact⟨e,some d,rfl,I2.kIn _ _ lk,fr,hW pins σ _ e (some d) s2 I2 hH h0 (q e d hn hd hne)⟩
def srj(y:Str)(f:Ev (List D)):Sv:=fun ρ S=>bindS (f ρ S) ρ fun ds S1=>match ds with
 | [.int n]=>.exc ⟨y,some n⟩ ρ S1
 | _=>.bad
structure ClJ(P:Program)(w:World)(K:PySem.W.Frag)(mg:Str->Option Value)(base:Heap)(x:Str)(j:Nat):Prop where
 ex:∃ C f fd ps oI,mg x=some (.ref C)/\CN K x C/\(KX K C/\KA K C)/\PySem.W.findIn K (.ref C) "__init__"=some (some (.ref f))/\K.lookup f=some oI/\oI.cls=.type "function"/\FnOk P w K mg base CX0 j f fd ps (spJ K)/\ps.length=2/\Binds K fd ps []
theorem Ghe(L:XL X XQ)(hcm:X.calm=true)(C:ClJ X.prog X.w X.K X.mg X.base x j)(hr:Room k X.A)(hg:Gl X x)(hp:Gz x=true)(ha:JA X XQ [a] t)(hj:j+1<=k:=by decide)(he:starEach [a] X.env=(false,eval a X.env)::starEach [] X.env:=by rfl)(hpl:(backTo cpos (starEach [] X.env)).any (·.1)=false:=by rfl):
  JS X XQ (.Raise (some (.Call (.Name x np) [a] [] cpos)) none pos) (srj x t):=by
 obtain⟨C,f,fd,ps,oI,hm,hc,⟨kx,ka⟩,hi,lf,hfc,F,hl,hb⟩:=C.ex
 refine PS.mono (Ghd (W:=fun σ H e dx=>WX X.K XQ σ C dx (del H e)) (fun pins σ H e dx s' I hH h0 w=>L.own1 pins σ H s' e C dx I hH h0 w) hcm hg hm kx ka hi lf hfc F hl (hr.mono hj) hb ha (Gz.of hp).1 he hpl) fun E σ H ⟨mp,ρ,S,G,p⟩=>?_
 refine bindSP G p fun mp1 H1 ds S1 vs a1 G1 r1 p1=>?_
 split at p1
 ·rename_i n
  obtain⟨v,rfl,hv⟩:=RepL.one r1
  cases (show v=.int n from hv)
  refine⟨n,rfl,fun e d he hd hne=>⟨⟨x,some n⟩,mp1,ρ,S1,⟨fun i z=>⟨d,rfl,?_⟩,fun z=>nomatch z⟩,hc,?_⟩⟩
  ·cases z
   rw[Qk hne,Hj]
  ·have e1:del (upd (upd (upd H1 e (FX e C none)) e (FX e C (some d))) d (XA d n)) e=upd H1 d (XA d n):=by
    funext b
    by_cases c:b=e
    ·rw[c,Qt,Gq (Ne.symm hne),he]
    ·rw[Qk c]
     by_cases c2:b=d
     ·rw[c2,Hj,Hj]
     ·rw[Gq c2,Gq c2,Gq c,Gq c]
   rw[e1]
   exact p1 mp1 _ σ (Km hd) (G1.aft (Km hd) (G1.rs.new hd))
 ·exact p1.elim
def tAt(K:PySem.W.Frag)(ta:TE):TE:=fun σ H Q=>ta σ H fun x H1=>∃ a C d n,x=.ref a/\XCl K C/\H1 a=some (XO a C (some d))/\H1 d=some (XA d n)/\PySem.W.findIn K (.ref C) "at"=some none/\PySem.W.hasDictIn K C=true/\Q (.int n) H1
theorem Gvh{e:Expr}{ta:TE}(he:PE X e ta)(hb:attributeBase e "at" X.env (eval e X.env)=eval e X.env):PE X (.Attribute e "at" pos) (tAt X.K ta):=by
 intro pins s σ H Q I h
 refine Gk9 hb (thn (he pins s σ H _ I h) fun u s1 ⟨x,H1,I1,rx,a,C,d,n,ex,xc,ha,hd,na,hh,q⟩=>?_)
 subst ex
 obtain rfl:u=Value.ref a:=rx
 obtain⟨⟨oe,g1,g2,g3,vs,g4⟩,_,_⟩:=(show Jt X.prog X.w H1 s1.heap a (XO a C (some d)) from I1.hok a _ ha)
 obtain⟨⟨t,hn⟩,_,_⟩:=(show Jt X.prog X.w H1 s1.heap d (XA d n) from I1.hok d _ hd)
 obtain⟨hp,g,dr,tk,os⟩:=s1
 exact Gso I1.kIn xc na hh g1 g2 g3 g4 hn (if_pos rfl) ⟨.int n,H1,I1.tok _,⟨_,rfl⟩,q⟩
def atD(ms:List Str)(x:D)(S:Sto):Out D:=match x with
 | .exn y (some n)=>if y∈ms then .ok (.int n) S else .bad
 | _=>.bad
def AtC(K:PySem.W.Frag)(ms:List Str):Prop:=∀ y∈ms,∃ C,CN K y C/\PySem.W.findIn K (.ref C) "at"=some none/\PySem.W.hasDictIn K C=true
theorem Gvi{e:Expr}{f:Ev D}{ms:List Str}(ac:AtC X.K ms)(he:JE X XQ e f)(hb:attributeBase e "at" X.env (eval e X.env)=eval e X.env:=by rfl):JE X XQ (.Attribute e "at" pos) (o1 (atD ms) f):=by
 refine PE.mono (Gvh he hb) fun σ H Q ⟨mp,ρ,S,G,p⟩=>?_
 refine bindP G p fun mp1 H1 d S1 v a1 G1 r1 p1=>?_
 cases d with
 | exn y fl=>
  cases fl with
  | none=>exact p1.elim
  | some n=>
   by_cases hy:y∈ms
   ·have p1:Post X.K XQ σ ρ mp1 H1 (.ok (.int n) S1) Q:=by simpa only[atD,if_pos hy] using p1
    obtain⟨a,dx,C,rfl,⟨hc,xc,hH⟩,hfl⟩:=(show ∃ a dx p,v=.ref a/\(CN X.K y p/\XCl X.K p/\H1 a=some (XO a p dx))/\∀ i,some n=some i->∃ d,dx=some d/\H1 d=some (XA d i) from r1)
    obtain⟨d,rfl,hd⟩:=hfl n rfl
    obtain⟨C',hc',na,hh⟩:=ac y hy
    cases CN.one hc hc'
    exact⟨a,C,d,n,rfl,xc,hH,hd,na,hh,Gn.ok (R:=Rep X.K) p1 G1.rs rfl⟩
   ·have p1:Post X.K XQ σ ρ mp1 H1 .bad Q:=by simpa only[atD,if_neg hy] using p1
    exact p1.elim
 | _=>exact p1.elim
end
def atB(K:PySem.W.Frag)(l:List (Str×Addr)):Bool:=l.all fun p=>(PySem.W.nsIn K mainGlobals p.1==some (some (.ref p.2)))&&((PySem.W.findIn K (.ref p.2) "at"==some none)&&PySem.W.hasDictIn K p.2)
theorem Gvj{l:List (Str×Addr)}(t:atB K l=true):AtC K (l.map (·.1)):=fun y hy=>by
 obtain⟨p,hp,rfl⟩:=List.mem_map.mp hy
 have z:=List.all_eq_true.mp t p hp
 simp only[Bool.and_eq_true,beq_iff_eq] at z
 exact⟨p.2,z.1,z.2.1,z.2.2⟩
def Gsr(K:PySem.W.Frag)(C f:Addr):Bool:=kxB K C&&((PySem.W.findIn K (.ref C) "__init__"==some (some (.ref f)))&&((PySem.W.findIn K (.ref C) "__setattr__"==some (some (.builtin "object.__setattr__")))&&(((PySem.W.clsIn K C).any fun cd=>Ya cd.mro)&&((PySem.W.findIn K (.ref C) "at"==some none)&&PySem.W.hasDictIn K C))))
theorem Gss{base:Heap}{f:Addr}(X:K.In h)(G:h.Ns mainGlobals mg)(i:IniJ P w K mg base f j)(a:PySem.W.nsIn K mainGlobals x=some (some (.ref C)))(t:Gsr K C f=true):ClJ P w K mg base x j:=by
 obtain⟨fd,ps,oI,l,c,F,n,b⟩:=i.ex
 unfold Gsr at t
 simp only[Bool.and_eq_true,beq_iff_eq] at t
 exact⟨C,f,fd,ps,oI,PySem.W.mg_of X G a,a,⟨Gve t.1,⟨t.2.2.1,t.2.2.2.1,t.2.2.2.2.1,t.2.2.2.2.2⟩⟩,t.2.1,l,c,F,n,b⟩
section
variable{P:Program}{w:World}{A:Around}{E:Value->Shared->Prop}{env:PySem.Env}{s:Shared}
variable{nm q:Str}{C N:Addr}{bs bm:List Value}{hdct:Bool}{sn:List Str}{sub:List Value}{ab:Bool}{col:Option Bool}{dd:Option Addr}{k0 k1 k2 k3 k5:Option Value}{newId:String}
end
structure RoomQ(k:Nat)(A:Around):Prop where
 dp:A.depth+3*k+5<recursionLimit
 un:A.units+16*k+200<cLine
 gd:A.guards=some []
structure FnQ(P:Program)(w:World)(K:PySem.W.Frag)(mg:Str->Option Value)(base:Heap)(k:Nat)(f:Addr)(fd:FuncData)(ps:List Str)(sp:Sp):Prop where
 len:∀ vs H Q E,sp vs H Q E->vs.length=ps.length
 run:∀ (A:Around) (outer:List PySem.Env) (s:Shared) (H:Hp) (args:Args) (us:List Value) (vs:List V) (Q:VK) (E:XK),RoomQ k A->Env0 P w K mg base A outer s H->BindsTo s fd args (ps.zip us)->Vals vs us->sp vs H Q E→
  codeAny (model P w) A (.call (.ref f) args) (CR CX0 outer P w H s Q E) s
section
variable{P:Program}{w:World}{K:PySem.W.Frag}{mg:Str->Option Value}{base:Heap}
structure IniXQ(P:Program)(w:World)(K:PySem.W.Frag)(mg:Str->Option Value)(base:Heap)(f:Addr)(j:Nat):Prop where
 ex:∃ fd ps oI,K.lookup f=some oI/\oI.cls=.type "function"/\FnQ P w K mg base j f fd ps (spI K)/\ps.length=2/\Binds K fd ps []
structure IniJQ(P:Program)(w:World)(K:PySem.W.Frag)(mg:Str->Option Value)(base:Heap)(f:Addr)(j:Nat):Prop where
 ex:∃ fd ps oI,K.lookup f=some oI/\oI.cls=.type "function"/\FnQ P w K mg base j f fd ps (spJ K)/\ps.length=2/\Binds K fd ps []
end
section
variable{X:Cx}{pins:List (Addr×Obj)}{σ:L2.St}{H:Hp}{s:Shared}{C f:Addr}{fd:FuncData}{ps:List Str}{k:Nat}
structure ClJQ(P:Program)(w:World)(K:PySem.W.Frag)(mg:Str->Option Value)(base:Heap)(x:Str)(j:Nat):Prop where
 ex:∃ C f fd ps oI,mg x=some (.ref C)/\CN K x C/\(KX K C/\KA K C)/\PySem.W.findIn K (.ref C) "__init__"=some (some (.ref f))/\K.lookup f=some oI/\oI.cls=.type "function"/\FnQ P w K mg base j f fd ps (spJ K)/\ps.length=2/\Binds K fd ps []
end
abbrev hx(X:Cx)(a:Addr):Cx:={ X with A:=X.A.mark (some (.ref a)),calm:=false }
structure GE(X:Cx)(XQ:XW)(e:Expr)(f:Ev D):Prop where
 h:JE X XQ e f
structure GA(X:Cx)(XQ:XW)(es:List Expr)(f:Ev (List D)):Prop where
 h:JA X XQ es f
structure GT(X:Cx)(XQ:XW)(e:Expr)(f:Ev Bool):Prop where
 h:JT X XQ e f
structure GW(X:Cx)(XQ:XW)(e:Expr)(f:Ev Bool):Prop where
 h:JW X XQ e f
structure GO(X:Cx)(XQ:XW)(e:Option Expr)(f:Ev (Option Int)):Prop where
 h:JO X XQ e f
structure GS(X:Cx)(XQ:XW)(st:Stmt)(f:Sv):Prop where
 h:JS X XQ st f
structure GSs(X:Cx)(XQ:XW)(st:List Stmt)(f:Sv):Prop where
 h:JSs X XQ st f
structure GI(X:Cx)(XQ:XW)(tg it:Expr)(f:Ev Src):Prop where
 h:JI X XQ tg it f
structure GG(X:Cx)(tg:Expr)(g:Tg):Prop where
 h:JG X tg g
structure GGs(X:Cx)(ts:List Expr)(g:Tgs):Prop where
 h:JGs X ts g
structure GTs(Y:Cx)(XQ:XW)(ifs:List Expr)(t:Ev Bool):Prop where
 h:JTs Y XQ ifs t
theorem Gvk{e:Expr}{f:Ev D}{ms:List Str}(ac:AtC X.K ms)(he:GE X XQ e f)(hb:attributeBase e "at" X.env (eval e X.env)=eval e X.env:=by rfl):GE X XQ (.Attribute e "at" pos) (o1 (atD ms) f):=⟨Gvi ac he.h hb⟩
theorem Gst{ys:List Str}{e:Expr}{f:Ev D}(k:Isx X.K X.mg x ys sub)(hg:Gl X "isinstance")(hm:X.mg "isinstance"=none)(hgt:Gl X x)(hp:Gz x=true)(he:GE X XQ e f)(hs:starEach [e,.Name x p2] X.env=(false,eval e X.env)::starEach [.Name x p2] X.env)(hpl:(backTo pos (starEach [.Name x p2] X.env)).any (·.1)=false)(hs2:starEach [.Name x p2] X.env=(false,eval (.Name x p2) X.env)::starEach [] X.env):GE X XQ (.Call (.Name "isinstance" p) [e,.Name x p2] [] pos) (o1 (Uu ys sub) f):=⟨Gsn k hg hm hgt hp he.h hs hpl hs2⟩
theorem Gm7{ys:List Str}{e:Expr}{f:Ev D}(k:IsxB X.K T ys sub)(hv:bootBuiltins x=some (.type T))(hnx:x≠"__name__")(hg:Gl X "isinstance")(hm:X.mg "isinstance"=none)(hgt:Gl X x)(hmt:X.mg x=none)(hp:Gz x=true)(he:GE X XQ e f)(hs:starEach [e,.Name x p2] X.env=(false,eval e X.env)::starEach [.Name x p2] X.env)(hpl:(backTo pos (starEach [.Name x p2] X.env)).any (·.1)=false)(hs2:starEach [.Name x p2] X.env=(false,eval (.Name x p2) X.env)::starEach [] X.env):GE X XQ (.Call (.Name "isinstance" p) [e,.Name x p2] [] pos) (o1 (Uu ys sub) f):=⟨Gm2 k hv hnx hg hm hgt hmt hp he.h hs hpl hs2⟩
theorem Vy{e:Expr}(ho:GE X XQ o fo)(ha:GA X XQ [e] f)(hbase:attributeBase o "split" X.env (eval o X.env)=eval o X.env:=by rfl)(hfew:((backTo cpos (starEach [e] X.env)).all (fun x=>!x.1)&&(backToKw cpos (keywordEach [] X.env)).all (fun x=>x.1.isSome)
   && decide ([e].length+([]:List Keyword).length+(if([]:List Keyword).isEmpty then 0 else 1)<30))=true:=by rfl)(hline:(apos.endLine==cpos.line)=true:=by rfl)(hs:starEach [e] X.env=(false,eval e X.env)::starEach [] X.env:=by rfl)(hplain:(backTo cpos (starEach [] X.env)).any (·.1)=false:=by rfl):GE X XQ (.Call (.Attribute o "split" apos) [e] [] cpos) (mts Ht fo f):=⟨Gi9 ho.h ha.h hbase hfew hline hs hplain⟩
theorem Gsu(ha:GE X XQ a fa)(hb:GE X XQ b fb)(hm:behindInMarks .In b=false:=by rfl):GE X XQ (.Compare a [.In] [b] pos) (o2 istD fa fb):=⟨Gr9 ha.h hb.h hm⟩
theorem Gap{e:Expr}(hg:Gl X "int")(hm:X.mg "int"=none)(ha:GA X XQ [e] f)(he:starEach [e] X.env=(false,eval e X.env)::starEach [] X.env:=by rfl):GE X XQ (.Call (.Name "int" p) [e] [] pos) (b1 Qs f):=⟨Gmr hg hm ha.h he⟩
theorem Gjp{f:Ev D}(hl:GE X XQ l f):GI X XQ tg l (isrcS f):=⟨Gsc hl.h⟩
theorem Gjq{x1}{tp:Pos}(hg:Gl X "enumerate")(hm:X.mg "enumerate"=none)(ha:GA X XQ [a] f)(hs:starEach [a] X.env=[(false,eval a X.env)]:=by rfl):GI X XQ (.Tuple es x1 tp) (.Call (.Name "enumerate" p) [a] [] pos) (Gbc f):=⟨Gjb hg hm ha.h hs⟩
theorem Gaq{e:Expr}(ho:GE X XQ o fo)(ha:GA X XQ [e] f)(hbase:attributeBase o "join" X.env (eval o X.env)=eval o X.env:=by rfl)(hfew:((backTo cpos (starEach [e] X.env)).all (fun x=>!x.1)&&(backToKw cpos (keywordEach [] X.env)).all (fun x=>x.1.isSome)
   && decide ([e].length+([]:List Keyword).length+(if([]:List Keyword).isEmpty then 0 else 1)<30))=true:=by rfl)(hline:(apos.endLine==cpos.line)=true:=by rfl)(hs:starEach [e] X.env=(false,eval e X.env)::starEach [] X.env:=by rfl)(hplain:(backTo cpos (starEach [] X.env)).any (·.1)=false:=by rfl):GE X XQ (.Call (.Attribute o "join" apos) [e] [] cpos) (mts Qr fo f):=⟨Gmj ho.h ha.h hbase hfew hline hs hplain⟩
theorem Hr{j pos}:GE X XQ (.Constant .none j pos) (cn .non):=⟨Gqc ⟩
theorem Vz{b:Bool}{j pos}:GE X XQ (.Constant (.bool b) j pos) (cn (.bl b)):=⟨Gup ⟩
theorem ge_int{i:Int}{j pos}:GE X XQ (.Constant (.int i) j pos) (cn (.int i)):=⟨Gqb ⟩
theorem ge_str{j pos}:GE X XQ (.Constant (.str x) j pos) (cn (.str x)):=⟨Gqd ⟩
theorem Hb(ha:GE X XQ a fa)(hb:GE X XQ b fb):GE X XQ (.BinOp a .Add b pos) (o2 Jj fa fb):=⟨Gq5 ha.h hb.h⟩
theorem Xd(ha:GE X XQ a fa)(hb:GE X XQ b fb):GE X XQ (.BinOp a .Sub b pos) (o2 Zi fa fb):=⟨Gq1 ha.h hb.h⟩
theorem Yb(ha:GE X XQ a fa)(hb:GE X XQ b fb):GE X XQ (.BinOp a .Mult b pos) (o2 Xx fa fb):=⟨Gq7 ha.h hb.h⟩
theorem Wd(ha:GE X XQ a fa)(hb:GE X XQ b fb):GE X XQ (.BinOp a .Mod b pos) (o2 Xq fa fb):=⟨Gq2 ha.h hb.h⟩
theorem Gar(ha:GE X XQ a fa)(hb:GE X XQ b fb):GE X XQ (.BinOp a .FloorDiv b pos) (o2 Yn fa fb):=⟨Gmb ha.h hb.h⟩
theorem Gsv(ha:GE X XQ a fa)(hb:GE X XQ b fb):GE X XQ (.BinOp a .Pow b pos) (o2 Gd2 fa fb):=⟨Gq3 ha.h hb.h⟩
theorem Gjr(ha:GE X XQ a fa)(hb:GE X XQ b fb):GE X XQ (.Compare a [.Lt] [b] pos) (o2 ltD fa fb):=⟨Gu0 ha.h hb.h⟩
theorem Gjs(ha:GE X XQ a fa)(hb:GE X XQ b fb):GE X XQ (.Compare a [.LtE] [b] pos) (o2 leD fa fb):=⟨Gu1 ha.h hb.h⟩
theorem Uc(hu:X.A.units+64<cLine)(ha:GE X XQ a fa)(hb:GE X XQ b fb):GE X XQ (.Compare a [.Eq] [b] pos) (o2 eqD fa fb):=⟨Guw hu ha.h hb.h⟩
theorem Gvl(hu:X.A.units+64<cLine)(ha:GE X XQ a fa)(hb:GE X XQ b fb):GE X XQ (.Compare a [.NotEq] [b] pos) (o2 neD fa fb):=⟨Guy hu ha.h hb.h⟩
theorem Zl(ha:GE X XQ a fa)(hb:GE X XQ b fb):GE X XQ (.Compare a [.Is] [b] pos) (o2 Vx fa fb):=⟨Grg ha.h hb.h⟩
theorem Jn{rest:List Expr}{f g:Ev D}(ha:GE X XQ a f)(hb:GE X XQ (.BoolOp .And (b::rest) pos) g):GE X XQ (.BoolOp .And (a::b::rest) pos) (va f g):=⟨Gqm ha.h hb.h⟩
theorem Gvm{rest:List Expr}{f g:Ev D}(ha:GE X XQ a f)(hb:GE X XQ (.BoolOp .Or (b::rest) pos) g):GE X XQ (.BoolOp .Or (a::b::rest) pos) (vo f g):=⟨Gut ha.h hb.h⟩
theorem Jo{op}{f:Ev D}(h:GE X XQ a f):GE X XQ (.BoolOp op [a] pos) f:=⟨Gql h.h⟩
theorem Gfh{f:Ev D}(ha:GE X XQ a f):GE X XQ (.UnaryOp .Not a pos) (vn f):=⟨Gqn ha.h⟩
theorem Gjt(ha:GE X XQ a fa):GE X XQ (.UnaryOp .USub a pos) (o1 Gfc fa):=⟨Grk ha.h⟩
theorem Yc{c:Expr}{fc:Ev Bool}(hc:GT X XQ c fc)(ha:GE X XQ a fa)(hb:GE X XQ b fb):GE X XQ (.IfExp c a b pos) (ie fc fa fb):=⟨Gqo hc.h ha.h hb.h⟩
theorem Gj(ha:GE X XQ a fa)(hb:GE X XQ b fb)(hs:Gao b:=by intro _ _; rfl):GE X XQ (.Subscript a b pos) (o2 getD fa fb):=⟨Gq9 ha.h hb.h hs⟩
theorem Zm{e:Expr}{lo hi:Option Expr}{fe:Ev D}{fl fh:Ev (Option Int)}(he:GE X XQ e fe)(hl:GO X XQ lo fl)(hh:GO X XQ hi fh):GE X XQ (.Subscript e (.Slice lo hi none p2) pos) (sl2 fe fl fh):=⟨Gg5 he.h hl.h hh.h⟩
theorem Jp(h:GA X XQ es f):GE X XQ (.List es pos) (ls f):=⟨Gqg h.h⟩
theorem Xe{x1}(h:GA X XQ es f):GE X XQ (.Tuple es x1 pos) (tp f):=⟨Gqf h.h⟩
theorem Gsw{e:Expr}{f:Ev D}(k:Kit X.K T)(hv:bootBuiltins x=some (.type T))(hnx:x≠"__name__")(hdx:(x==("__debug__":Str))=false)(hg:Gl X "isinstance")(hm:X.mg "isinstance"=none)(hgt:Gl X x)(hmt:X.mg x=none)(he:GE X XQ e f)(hs:starEach [e,.Name x p2] X.env=(false,eval e X.env)::starEach [.Name x p2] X.env)(hpl:(backTo pos (starEach [.Name x p2] X.env)).any (·.1)=false)(hs2:starEach [.Name x p2] X.env=(false,eval (.Name x p2) X.env)::starEach [] X.env):GE X XQ (.Call (.Name "isinstance" p) [e,.Name x p2] [] pos) (o1 (isD T) f):=⟨Gro k hv hnx hdx hg hm hgt hmt he.h hs hpl hs2⟩
theorem He{e:Expr}(hg:Gl X "len")(hm:X.mg "len"=none)(ha:GA X XQ [e] f)(he:starEach [e] X.env=(false,eval e X.env)::starEach [] X.env:=by rfl):GE X XQ (.Call (.Name "len" p) [e] [] pos) (b1 lenD f):=⟨Grc hg hm ha.h he⟩
theorem Gm8{e:Expr}(hg:Gl X "list")(hm:X.mg "list"=none)(ha:GA X XQ [e] f)(he:starEach [e] X.env=(false,eval e X.env)::starEach [] X.env:=by rfl):GE X XQ (.Call (.Name "list" p) [e] [] pos) (b1 Zv f):=⟨Gl3 hg hm ha.h he⟩
theorem Kv{e:Expr}(hg:Gl X "tuple")(hm:X.mg "tuple"=none)(ha:GA X XQ [e] f)(he:starEach [e] X.env=(false,eval e X.env)::starEach [] X.env:=by rfl):GE X XQ (.Call (.Name "tuple" p) [e] [] pos) (b1 Qg f):=⟨Gir hg hm ha.h he⟩
theorem Gsx{e e':Expr}(hc:X.calm=true)(hg:Gl X "min")(hm:X.mg "min"=none)(ha:GA X XQ [e,e'] f)(he:starEach [e,e'] X.env=(false,eval e X.env)::starEach [e'] X.env:=by rfl)(hpl:(backTo pos (starEach [e'] X.env)).any (·.1)=false:=by rfl):GE X XQ (.Call (.Name "min" p) [e,e'] [] pos) (b1 Ggz f):=⟨Gre hc hg hm ha.h he hpl⟩
theorem Gm9{e:Expr}(hc:X.calm=true)(hg:Gl X "min")(hm:X.mg "min"=none)(ha:GA X XQ [e] f)(he:starEach [e] X.env=(false,eval e X.env)::starEach [] X.env:=by rfl):GE X XQ (.Call (.Name "min" p) [e] [] pos) (b1 Ga8 f):=⟨Gmd hc hg hm ha.h he⟩
theorem Gf4{e:Expr}(hg:Gl X "int")(hm:X.mg "int"=none)(ha:GA X XQ [e] f)(he:starEach [e] X.env=(false,eval e X.env)::starEach [] X.env:=by rfl):GE X XQ (.Call (.Name "int" p) [e] [] pos) (b1 Gda f):=⟨Gl4 hg hm ha.h he⟩
theorem Zn{e:Expr}(hc:X.calm=true)(hg:Gl X "all")(hm:X.mg "all"=none)(ha:GA X XQ [e] f)(he:starEach [e] X.env=(false,eval e X.env)::starEach [] X.env:=by rfl):GE X XQ (.Call (.Name "all" p) [e] [] pos) (b1 allD f):=⟨Grq hc hg hm ha.h he⟩
theorem Gju{e:Expr}(hc:X.calm=true)(hg:Gl X "sum")(hm:X.mg "sum"=none)(ha:GA X XQ [e] f)(he:starEach [e] X.env=(false,eval e X.env)::starEach [] X.env:=by rfl):GE X XQ (.Call (.Name "sum" p) [e] [] pos) (b1 Gbx f):=⟨Gr1 hc hg hm ha.h he⟩
theorem Gas{e:Expr}(hg:Gl X "str")(hm:X.mg "str"=none)(ha:GA X XQ [e] f)(he:starEach [e] X.env=(false,eval e X.env)::starEach [] X.env:=by rfl):GE X XQ (.Call (.Name "str" p) [e] [] pos) (b1 Ga9 f):=⟨Gme hg hm ha.h he⟩
theorem Kt{e:Expr}(ho:GE X XQ o fo)(ha:GA X XQ [e] f)(hbase:attributeBase o "append" X.env (eval o X.env)=eval o X.env:=by rfl)(hfew:((backTo cpos (starEach [e] X.env)).all (fun x=>!x.1)&&(backToKw cpos (keywordEach [] X.env)).all (fun x=>x.1.isSome)
   && decide ([e].length+([]:List Keyword).length+(if([]:List Keyword).isEmpty then 0 else 1)<30))=true:=by rfl)(hline:(apos.endLine==cpos.line)=true:=by rfl)(hs:starEach [e] X.env=(false,eval e X.env)::starEach [] X.env:=by rfl):GE X XQ (.Call (.Attribute o "append" apos) [e] [] cpos) (mt Xr fo f):=⟨Gg0 ho.h ha.h hbase hfew hline hs⟩
theorem Ghf{e e':Expr}(ho:GE X XQ o fo)(ha:GA X XQ [e,e'] f)(hbase:attributeBase o "insert" X.env (eval o X.env)=eval o X.env:=by rfl)(hfew:((backTo cpos (starEach [e,e'] X.env)).all (fun x=>!x.1)&&(backToKw cpos (keywordEach [] X.env)).all (fun x=>x.1.isSome)
   && decide ([e,e'].length+([]:List Keyword).length+(if([]:List Keyword).isEmpty then 0 else 1)<30))=true:=by rfl)(hline:(apos.endLine==cpos.line)=true:=by rfl)(hs:starEach [e,e'] X.env=(false,eval e X.env)::starEach [e'] X.env:=by rfl)(hpl:(backTo cpos (starEach [e'] X.env)).any (·.1)=false:=by rfl):GE X XQ (.Call (.Attribute o "insert" apos) [e,e'] [] cpos) (mt Gfd fo f):=⟨Gg2 ho.h ha.h hbase hfew hline hs hpl⟩
theorem Gsy{e:Expr}(ho:GE X XQ o fo)(ha:GA X XQ [e] f)(hbase:attributeBase o "pop" X.env (eval o X.env)=eval o X.env:=by rfl)(hfew:((backTo cpos (starEach [e] X.env)).all (fun x=>!x.1)&&(backToKw cpos (keywordEach [] X.env)).all (fun x=>x.1.isSome)
   && decide ([e].length+([]:List Keyword).length+(if([]:List Keyword).isEmpty then 0 else 1)<30))=true:=by rfl)(hline:(apos.endLine==cpos.line)=true:=by rfl)(hs:starEach [e] X.env=(false,eval e X.env)::starEach [] X.env:=by rfl):GE X XQ (.Call (.Attribute o "pop" apos) [e] [] cpos) (mt Gd6 fo f):=⟨Gru ho.h ha.h hbase hfew hline hs⟩
theorem Yr(ha:GE X XQ a fa)(hb:GE X XQ b fb):GT X XQ (.Compare a [.Lt] [b] pos) (tb (o2 ltD fa fb)):=⟨Gu2 ha.h hb.h⟩
theorem Gcn(ha:GE X XQ a fa)(hb:GE X XQ b fb):GT X XQ (.Compare a [.Gt] [b] pos) (tb (o2 gtD fa fb)):=⟨Gu3 ha.h hb.h⟩
theorem Gvn(ha:GE X XQ a fa)(hb:GE X XQ b fb):GT X XQ (.Compare a [.GtE] [b] pos) (tb (o2 geD fa fb)):=⟨Gu4 ha.h hb.h⟩
theorem Ud(hu:X.A.units+64<cLine)(ha:GE X XQ a fa)(hb:GE X XQ b fb):GT X XQ (.Compare a [.Eq] [b] pos) (tb (o2 eqD fa fb)):=⟨Gux hu ha.h hb.h⟩
theorem Qu(hu:X.A.units+64<cLine)(ha:GE X XQ a fa)(hb:GE X XQ b fb):GT X XQ (.Compare a [.NotEq] [b] pos) (tb (o2 neD fa fb)):=⟨Guz hu ha.h hb.h⟩
theorem Ve(ha:GE X XQ a fa)(hb:GE X XQ b fb):GT X XQ (.Compare a [.Is] [b] pos) (tb (o2 Vx fa fb)):=⟨Grh ha.h hb.h⟩
theorem Gef{c:Expr}{op op':CmpOp}{r r':R2}{o o':D->D->Sto->Out D}{fc:Ev D}(ho:OpR X (compareOp op) r)(hd:OpD X.K r o)(ho':OpR X (compareOp op') r')(hd':OpD X.K r' o')(ha:GE X XQ a fa)(hb:GE X XQ b fb)(hc:GE X XQ c fc)(hm:lastMarks [op,op'] [b,c]=false:=by with_unfolding_all rfl):GT X XQ (.Compare a [op,op'] [b,c] pos) (tb (ch o o' fa fb fc)):=⟨Git ho hd ho' hd' ha.h hb.h hc.h hm⟩
theorem Zo{f:Ev Bool}(h:GT X XQ a f):GT X XQ (.UnaryOp .Not a pos) (tn f):=⟨Gqi h.h⟩
theorem Jm{e:Expr}{f:Ev D}(h:GE X XQ e f)(he:∀ whole,isTrue e X.env whole=(do let v <- whole; standAt e.pos; holding [v] (truthy v)):=by intro _; rfl):GT X XQ e (tt f):=⟨Gqh h.h he⟩
theorem Gdf{f:Ev Bool}(h:GT X XQ a f):GW X XQ (.BoolOp .And [a] pos) f:=⟨Glo h.h⟩
theorem Kg{f:Ev Bool}(h:GT X XQ a f):GW X XQ (.BoolOp .Or [a] pos) f:=⟨Gqj h.h⟩
theorem Gdg{rest:List Expr}{f g:Ev Bool}(h:GT X XQ a f)(hb:GW X XQ (.BoolOp .And (b::rest) pos) g):GW X XQ (.BoolOp .And (a::b::rest) pos) (ta f g):=⟨Gqk h.h hb.h⟩
theorem Kw{rest:List Expr}{f g:Ev Bool}(h:GT X XQ a f)(hb:GW X XQ (.BoolOp .Or (b::rest) pos) g):GW X XQ (.BoolOp .Or (a::b::rest) pos) (to f g):=⟨Gus h.h hb.h⟩
theorem ga_nil :GA X XQ [] an:=⟨Gqe ⟩
theorem Ga{e:Expr}{f:Ev D}{g:Ev (List D)}(ha:GE X XQ e f)(hr:GA X XQ es g)(hs:starEach (e::es) X.env=(false,eval e X.env)::starEach es X.env:=by rfl):GA X XQ (e::es) (ac f g):=⟨Glk ha.h hr.h hs⟩
theorem Gdh :GO X XQ none onone:=⟨Gl5 ⟩
theorem Gdi{e:Expr}{f:Ev D}(h:GE X XQ e f):GO X XQ (some e) (osome f):=⟨Gl6 h.h⟩
theorem Ku(hg:Gl X "range")(hm:X.mg "range"=none)(ha:GA X XQ [a] f)(hs:starEach [a] X.env=[(false,eval a X.env)]:=by rfl):GI X XQ tg (.Call (.Name "range" p) [a] [] pos) (ir1 f):=⟨Ggx hg hm ha.h hs⟩
theorem Yd{f:Ev D}(hl:GE X XQ l f):GI X XQ tg l (isrc f):=⟨Gqx hl.h⟩
theorem Gna{x1}{tp:Pos}{c:Expr}(hg:Gl X "zip")(hm:X.mg "zip"=none)(ha:GA X XQ [a,b,c] f)(hs:starEach [a,b,c] X.env=(false,eval a X.env)::starEach [b,c] X.env:=by rfl)(hpl:(backTo pos (starEach [b,c] X.env)).any (·.1)=false:=by rfl):GI X XQ (.Tuple es x1 tp) (.Call (.Name "zip" p) [a,b,c] [] pos) (Gi5 f):=⟨Gmp hg hm ha.h hs hpl⟩
theorem ggn(i:Nat)(hN:X.N.Nodup)(h:OkL X.env.scope x)(hi:X.N[i]?=some x:=by rfl)(hf:X.fn x=true:=by rfl):GG X (.Name x pos) (gn i):=⟨jgn i hN h hi hf⟩
theorem Gw1(i:Nat)(hN:N'.Nodup)(h:Gma scope x=true)(hi:N'[i]?=some x:=by rfl):GG (blk X s2 H2 C scope c N' fp) (.Name x pos) (gn i):=⟨Gws i hN h hi⟩
theorem Ye{m:Nat}{k:Tgs}(hc:X.calm=true)(h:GGs X es k)(hn:(assignEach es X.env).length=n:=by rfl)(hst:(assignEach es X.env).findIdx? (·.1)=none:=by rfl):GG X (.Tuple es m pos) (gt k n):=⟨Gqq hc h.h hn hst⟩
theorem We :GGs X [] gnil:=⟨Glt ⟩
theorem Hz{e:Expr}{g:Tg}{k:Tgs}(h1:GG X e g)(h2:GGs X es k)(hs:(assignEach (e::es) X.env).map (·.2)=assign e X.env::(assignEach es X.env).map (·.2):=by rfl):GGs X (e::es) (gcons g k):=⟨Gik h1.h h2.h hs⟩
theorem Go :GSs X XQ [] skip:=⟨Glp ⟩
theorem Gb{rest:List Stmt}{f g:Sv}(h1:GS X XQ st f)(h2:GSs X XQ rest g):GSs X XQ (st::rest) (sq f g):=⟨Gij h1.h h2.h⟩
theorem Gg{f:Sv}(h1:GS X XQ st f):GSs X XQ [st] f:=⟨Glq h1.h⟩
theorem Gm{e:Expr}{f:Ev D}(he:GE X XQ e f):GS X XQ (.Return (some e) pos) (sret f):=⟨Gqp he.h⟩
theorem Gv{c:Expr}{a b:List Stmt}{fc:Ev Bool}{f g:Sv}(hc:GT X XQ c fc)(ha:GSs X XQ a f)(hb:GSs X XQ b g):GS X XQ (.If c a b pos) (sif fc f g):=⟨Guu hc.h ha.h hb.h⟩
theorem gset(i:Nat){e:Expr}{f:Ev D}(hN:X.N.Nodup)(h:OkL X.env.scope x)(he:GE X XQ e f)(hi:X.N[i]?=some x:=by rfl)(hs:swapsWith e (some (.Name x pos')) pos.line X.env=pure false:=by rfl)(hf:X.fn x=true:=by rfl):GS X XQ (.Assign [.Name x pos'] e pos) (sa f (gn i)):=⟨jset i hN h he.h hi hs hf⟩
theorem Gjv(i:Nat){sc:Scope}{f:Ev Src}{g:Tg}{t:Ev Bool}{e:Ev D}(hsc:X.env.scope=sc)(hNN:X.N=N)(ct:CompTab sc scope N N' pk)(hcm:X.calm=true)(hi:GI X XQ tg iter f)(hg:∀ cl s2 H2 C fp,GG (blk X s2 H2 C scope cl N' fp) tg g)(ht:∀ cl s2 H2 C fp,GTs (blk X s2 H2 C scope cl N' fp) XN ifs t)(he:∀ cl s2 H2 C fp,GE (blk X s2 H2 C scope cl N' fp) XN elt e)(hN:X.N.Nodup)(hl:OkL X.env.scope y)(hsw:swapsWith (.ListComp elt [⟨tg,iter,ifs,0⟩] scope pos) (some (.Name y py)) spos.line X.env=pure true)(hy:X.N[i]?=some y:=by rfl)(hs:∀ x,foldedSetIterable iter X.env x=pure x:=by intro _; rfl)(hf:X.fn y=true:=by rfl):GS X XQ (.Assign [.Name y py] (.ListComp elt [⟨tg,iter,ifs,0⟩] scope pos) spos) (sa (cmp f pk g t e) (gn i)):=⟨Giz i hsc hNN ct hcm hi.h (fun z0 z1 z2 z3 z4=>(hg z0 z1 z2 z3 z4).h) (fun z0 z1 z2 z3 z4=>(ht z0 z1 z2 z3 z4).h) (fun z0 z1 z2 z3 z4=>(he z0 z1 z2 z3 z4).h) hN hl hsw hy hs hf⟩
theorem Uj{ob ix e:Expr}{f fi:Ev D}(he:GE X XQ e f)(hob:GE X XQ ob fo)(hix:GE X XQ ix fi)(hs:swapsWithSole [.Subscript ob ix p2] e pos.line X.env=pure false:=by rfl)(hw:swappedStores [.Subscript ob ix p2] e X.env=pure none:=by rfl)(h1:(assignEach [.Subscript ob ix p2] X.env).map (·.2)=[assign (.Subscript ob ix p2) X.env]:=by rfl)(ha:∀ v,assign (.Subscript ob ix p2) X.env v=(do
   let ov <- holding [v] (eval ob X.env)
   let iv <- holding [v,ov] (eval ix X.env)
   standAt p2
   holding [v,ov,iv] (setItem ov iv v)
   release [v,ov,iv] []):=by intro _; rfl):GS X XQ (.Assign [.Subscript ob ix p2] e pos) (ss f fo fi Ut):=⟨Gip he.h hob.h hix.h hs hw h1 ha⟩
theorem Uf{e:Expr}{f:Ev D}(he:GE X XQ e f)(hs:swapsWith e none pos.line X.env=pure false:=by rfl):GS X XQ (.Expr e pos) (sx f):=⟨Glr he.h hs⟩
theorem Vf{f:Ev Src}{g:Tg}{b:Sv}(hp:PassesOwn (model X.prog X.w) X.A X.env X.xe)(hc:X.calm=true)(hi:GI X XQ tg iter f)(hg:GG X tg g)(hb:GSs X XQ body b)(hs:∀ x,foldedSetIterable iter X.env x=pure x:=by intro _; rfl):GS X XQ (.For tg iter body [] pos) (sfor f g b):=⟨Gqt hp hc hi.h hg.h hb.h hs⟩
theorem Gsz(i:Nat){e:Expr}{f:Ev D}(hN:X.N.Nodup)(h:OkL X.env.scope x)(he:GE X XQ e f)(hi:X.N[i]?=some x:=by rfl)(hf:X.fn x=true:=by rfl):GS X XQ (.AugAssign (.Name x pos') .Sub e pos) (sag i (fun a b=>a-b) f):=⟨Gr2 i hN h he.h hi hf⟩
theorem gv(i:Nat)(h:OkV X.env.scope x)(hN:X.N[i]?=some x:=by rfl):GE X XQ (.Name x pos) (vr i):=⟨jv i h hN⟩
theorem gvB(i:Nat)(h:Giy scope x=true)(hN:N'[i]?=some x:=by rfl):GE (blk X s2 H2 C scope c N' fp) XQ (.Name x pos) (vr i):=⟨jvB i h hN⟩
theorem gown{e:Expr}(C:Cal X.prog X.w X.K X.mg X.base x ps fn j)(hr:Room k X.A)(hg:Gl X x)(hp:Gz x=true)(ha:GA X XQ (e::es) t)(hn:ps.length=n:=by rfl)(hj:j<=k:=by decide)(he:starEach (e::es) X.env=(false,eval e X.env)::starEach es X.env:=by rfl)(hpl:(backTo pos (starEach es X.env)).any (·.1)=false:=by rfl):GE X XQ (.Call (.Name x p) (e::es) [] pos) (cl n (Gp fn) t):=⟨jown C hr hg hp ha.h hn hj he hpl⟩
theorem gcomp{sc:Scope}{f:Ev Src}{g:Tg}{t:Ev Bool}{e:Ev D}(hsc:X.env.scope=sc)(hNN:X.N=N)(ct:CompTab sc scope N N' pk)(hcm:X.calm=true)(hi:GI X XQ tg iter f)(hg:∀ cl s2 H2 C fp,GG (blk X s2 H2 C scope cl N' fp) tg g)(ht:∀ cl s2 H2 C fp,GTs (blk X s2 H2 C scope cl N' fp) XN ifs t)(he:∀ cl s2 H2 C fp,GE (blk X s2 H2 C scope cl N' fp) XN elt e)(hs:∀ x,foldedSetIterable iter X.env x=pure x:=by intro _; rfl):GE X XQ (.ListComp elt [⟨tg,iter,ifs,0⟩] scope pos) (cmp f pk g t e):=⟨jcomp hsc hNN ct hcm hi.h (fun z0 z1 z2 z3 z4=>(hg z0 z1 z2 z3 z4).h) (fun z0 z1 z2 z3 z4=>(ht z0 z1 z2 z3 z4).h) (fun z0 z1 z2 z3 z4=>(he z0 z1 z2 z3 z4).h) hs⟩
theorem Gfi{sc:Scope}{f:Ev Src}{g:Tg}{t:Ev Bool}{e:Ev D}(ct:CompTab sc scope N N' pk)(hcm:X.calm=true)(hi:GI (blk X s2 H2 C sc c N fp) XQ tg iter f)(hg:∀ cl s2' H2' C' fp',GG (blk (blk X s2 H2 C sc c N fp) s2' H2' C' scope cl N' fp') tg g)(ht:∀ cl s2' H2' C' fp',GTs (blk (blk X s2 H2 C sc c N fp) s2' H2' C' scope cl N' fp') XN ifs t)(he:∀ cl s2' H2' C' fp',GE (blk (blk X s2 H2 C sc c N fp) s2' H2' C' scope cl N' fp') XN elt e)(hs:∀ x,foldedSetIterable iter (blk X s2 H2 C sc c N fp).env x=pure x:=by intro _; rfl):GE (blk X s2 H2 C sc c N fp) XQ (.ListComp elt [⟨tg,iter,ifs,0⟩] scope pos) (cmp f pk g t e):=⟨Grx ct hcm hi.h (fun z0 z1 z2 z3 z4=>(hg z0 z1 z2 z3 z4).h) (fun z0 z1 z2 z3 z4=>(ht z0 z1 z2 z3 z4).h) (fun z0 z1 z2 z3 z4=>(he z0 z1 z2 z3 z4).h) hs⟩
theorem Jv{Y:Cx}:GTs Y XQ [] ttrue:=⟨Glx ⟩
theorem GW.jt{e:Expr}{f:Ev Bool}(h:GW X XQ e f):GT X XQ e f:=⟨JW.jt h.h⟩
def Gf5:Stmt->List Stmt
 | .ClassDef _ _ _ b _ _ _ _ _ _ _=>b
 | _=>[]
section
variable{X:Cx}{XQ:XW}{k:Nat}{x:Str}{p pos:Pos}{e:Expr}{es:List Expr}
theorem Gvo{ys:List Str}(xs:XNs X.K ys)(L:XL X XQ)(C:CalX X.prog X.w X.K X.mg X.base x ps fn j)(hr:Room k X.A)(hg:Gl X x)(hp:Gz x=true)(ha:GA X XQ (e::es) t)(hn:ps.length=n:=by rfl)(hj:j<=k:=by decide)(he:starEach (e::es) X.env=(false,eval e X.env)::starEach es X.env:=by rfl)(hpl:(backTo pos (starEach es X.env)).any (·.1)=false:=by rfl):
  GE X XQ (.Call (.Name x p) (e::es) [] pos) (cl n (gX ys fn) t):=⟨Gvc xs L C hr hg hp ha.h hn hj he hpl⟩
theorem Ghg{pos:Pos}(L:XL X XQ)(hcm:X.calm=true)(C:ClJ X.prog X.w X.K X.mg X.base x j)(hr:Room k X.A)(hg:Gl X x)(hp:Gz x=true)(ha:GA X XQ [a] t)(hj:j+1<=k:=by decide)(he:starEach [a] X.env=(false,eval a X.env)::starEach [] X.env:=by rfl)(hpl:(backTo cpos (starEach [] X.env)).any (·.1)=false:=by rfl):
  GS X XQ (.Raise (some (.Call (.Name x np) [a] [] cpos)) none pos) (srj x t):=⟨Ghe L hcm C hr hg hp ha.h hj he hpl⟩
theorem Gnb(i:Nat){c n:Str}{pos:Pos}{b0:Stmt}{suite:List Stmt}{ys:List Str}{fb fh:Sv}(pl:Plain X)(ct:Cat X.K X.mg c ys)(hg:Gl X c)(hp:Gz c=true)(hN:X.N.Nodup)(hn:OkC X.env.scope n)(hb:∀ (pn:List (Addr×Obj)) (xe:Value->Shared->Prop) (XQ':XW),XL (trb X pn xe) XQ'->GSs (trb X pn xe) XQ' body fb)(hs:∀ a,GSs (hnd X a) XN (b0::suite) fh)(hi:X.N[i]?=some n:=by rfl):
  GS X XQ (.Try body [.ExceptHandler (some (.Name c np)) (some n) (b0::suite) hpos] [] [] pos) (Yq ys (hdl i fh) fb):=⟨Gm1 pl ct hg hp hN hi hn.h (fun a b c d=>(hb a b c d).h) fun a=>(hs a).h⟩
end
structure FH(K:PySem.W.Frag)(x:Str)(st:Stmt):Prop where
 ex:∃ (f:Addr) (oc:Value) (od an:Option Addr) (osl:Array (Option Value)) (kV doc pm cdv ct:Value),PySem.W.nsIn K mainGlobals x=some (some (.ref f))/\K.lookup f=some ⟨oc,od,.func (PySem.W.fnOf x x (Jd st) (Gw st) (Gf st) .none kV doc pm an cdv ct),osl⟩/\PySem.W.codeIn K cdv x=true/\PySem.W.keepIn K (.ref f)=true
section
variable{K:PySem.W.Frag}{mg:Str->Option Value}
theorem Gvp{f:Addr}{oc:Value}{od an:Option Addr}{kV:Value}(a:PySem.W.nsIn K mainGlobals x=some (some (.ref f)))(l:K.lookup f=some ⟨oc,od,.func (PySem.W.fnOf x x (Jd st) (Gw st) (Gf st) .none kV doc pm an cdv ct),osl⟩)(c:PySem.W.codeIn K cdv x=true)(k:PySem.W.keepIn K (.ref f)=true):FH K x st:=⟨f,oc,od,an,osl,kV,doc,pm,cdv,ct,a,l,c,k⟩
theorem FH.dn(F:FH K x st)(X:K.In h)(G:h.Ns mainGlobals mg)(hb:∀ (kV doc pm:Value) (an:Option Addr) (cdv ct:Value) (us:List Value),us.length=ps.length->bindArgs (PySem.W.fnOf x x (Jd st) (Gw st) (Gf st) .none kV doc pm an cdv ct) ⟨us,[]⟩=pure (ps.zip us)):Dn K mg x st ps:=by
 obtain⟨f,oc,od,an,osl,kV,doc,pm,cdv,ct,a,l,c,k⟩:=F.ex
 exact Gu7 X G a l c k hb
end
section
variable{K:PySem.W.Frag}{h:Heap}{mg:Str->Option Value}{x:Str}
theorem Gf6{i:Int}{t:Tok}(X:K.In h)(G:h.Ns mainGlobals mg)(a:PySem.W.nsIn K mainGlobals x=some (some (.int i t))):∃ u v,mg x=some u/\Ha v u/\∀ mp H,Rep K mp H (.int i) v:=
 ⟨_,.int i,PySem.W.mg_of X G a,⟨t,rfl⟩,fun _ _=>rfl⟩
theorem Gnc{t:Tok}(X:K.In h)(G:h.Ns mainGlobals mg)(a:PySem.W.nsIn K mainGlobals x=some (some (.str y t))):∃ u v,mg x=some u/\Ha v u/\∀ mp H,Rep K mp H (.str y) v:=
 ⟨_,.str y,PySem.W.mg_of X G a,⟨t,rfl⟩,fun _ _=>rfl⟩
theorem Gjw{p:Addr}{t:Tok}{sl:Array (Option Value)}(X:K.In h)(G:h.Ns mainGlobals mg)(a:PySem.W.nsIn K mainGlobals x=some (some (.ref p)))(l:K.lookup p=some { cls:=.type "tuple",dict:=none,data:=.seq #[.str y t] n,slots:=sl }):
  ∃ u v,mg x=some u/\Ha v u/\∀ mp H,Rep K mp H (.tup [.str y]) v:=
 ⟨_,.ref p,PySem.W.mg_of X G a,rfl,fun _ _=>⟨p,[.str y],rfl,.inr ⟨_,_,n,l,rfl,rfl,by rw[sizeLine_eq]; simp,.cons ⟨t,rfl⟩ .nil⟩,RepL.cons rfl RepL.nil⟩⟩
end
structure FnS(N P:List Str)(sc:Scope):Prop where
 s:FnScope N P sc
 v:N.all (okV sc)=true
 l:N.all (okL sc)=true
theorem kdF{P:List Str}{s:Scope}(a:s.kind=.function:=by rfl)(b:s.isCoroutine=false:=by rfl)(c:s.isGenerator=false:=by rfl)(d:N.Nodup:=by decide +kernel)(e:N.take P.length=P:=by rfl)(f:∀ x∈P,s.names.lookup x=some .local\/s.names.lookup x=some .cell:=by decide +kernel)(g:∀ y∈s.names,y.2≠.free:=by decide +kernel)(v:N.all (okV s)=true:=by decide +kernel)(l:N.all (okL s)=true:=by decide +kernel):FnS N P s:=⟨⟨a,b,c,d,e,f,g⟩,v,l⟩
theorem FnS.nd{P:List Str}{sc:Scope}(S:FnS N P sc):N.Nodup:=S.s.nd
theorem Gjx{i:Nat}(h:N[i]?=some x):x∈N:=List.mem_of_getElem? h
theorem FnS.ov{P:List Str}{sc:Scope}{i:Nat}(S:FnS N P sc)(h:N[i]?=some x):OkV sc x:=⟨List.all_eq_true.mp S.v x (Gjx h)⟩
theorem FnS.ol{P:List Str}{sc:Scope}{i:Nat}(S:FnS N P sc)(h:N[i]?=some x):OkL sc x:=⟨List.all_eq_true.mp S.l x (Gjx h)⟩
theorem kdC{sc:Scope}(a:scope.kind=.function:=by rfl)(b:∀ y∈scope.names,y.2=.cell->scope.names.lookup y.1=some .cell:=by decide +kernel)(c:∀ y∈scope.names,y.2=.local->scope.names.lookup y.1=some .local:=by decide +kernel)(d:∀ y∈scope.names,y.2=.free->sc.names.lookup y.1=some .cell\/sc.names.lookup y.1=some .free:=by decide +kernel)(e:pk.length=N'.length:=by rfl)(f:((List.range N'.length).all fun i=>match pk[i]? with
  | some (some j)=>match N[j]?,N'[i]? with
   | some x,some y=>(x==y)&&((sc.names.lookup y==some NameKind.cell)||(sc.names.lookup y==some NameKind.free))&&(scope.names.lookup y==some NameKind.free)
   | _,_=>false
  | _=>true)=true:=by decide +kernel):CompTab sc scope N N' pk:=⟨a,b,c,d,e,f⟩
section
variable{X:Cx}{XQ:XW}{k:Nat}{x:Str}{p pos:Pos}{e:Expr}{es:List Expr}{P:List Str}{f:Ev D}
theorem gw(i:Nat)(S:FnS X.N P X.env.scope)(hN:X.N[i]?=some x:=by rfl):GE X XQ (.Name x pos) (vr i):=gv i (S.ov hN) hN
theorem gG(s:Scope)(h:okG s x=true:=by decide +kernel)(hs:X.env.scope=s:=by rfl):Gl X x:=gl ⟨hs▸h⟩
theorem ggw(i:Nat)(S:FnS X.N P X.env.scope)(hi:X.N[i]?=some x:=by rfl)(hf:X.fn x=true:=by rfl):GG X (.Name x pos) (gn i):=ggn i S.nd (S.ol hi) hi hf
theorem gsew(i:Nat)(S:FnS X.N P X.env.scope)(he:GE X XQ e f)(hi:X.N[i]?=some x:=by rfl)(hs:swapsWith e (some (.Name x pos')) pos.line X.env=pure false:=by rfl)(hf:X.fn x=true:=by rfl):
  GS X XQ (.Assign [.Name x pos'] e pos) (sa f (gn i)):=gset i S.nd (S.ol hi) he hi hs hf
theorem gsdw(i:Nat)(S:FnS X.N P X.env.scope)(he:GE X XQ e f)(hi:X.N[i]?=some x:=by rfl)(hf:X.fn x=true:=by rfl):GS X XQ (.AugAssign (.Name x pos') .Sub e pos) (sag i (fun a b=>a-b) f):=Gsz i S.nd (S.ol hi) he hi hf
theorem gow(s:Scope)(C:Cal X.prog X.w X.K X.mg X.base x ps fn j)(hr:Room k X.A)(ha:GA X XQ (e::es) t)(hg:okG s x=true:=by decide +kernel)(hn:ps.length=n:=by rfl)(hj:j<=k:=by decide)(hs:X.env.scope=s:=by rfl)(he:starEach (e::es) X.env=(false,eval e X.env)::starEach es X.env:=by rfl)(hpl:(backTo pos (starEach es X.env)).any (·.1)=false:=by rfl):
  GE X XQ (.Call (.Name x p) (e::es) [] pos) (cl n (Gp fn) t):=gown C hr (gG s hg hs) (okG.gl hg).2 ha hn hj he hpl
theorem Gw2{ys:List Str}(s:Scope)(xs:XNs X.K ys)(L:XL X XQ)(C:CalX X.prog X.w X.K X.mg X.base x ps fn j)(hr:Room k X.A)(ha:GA X XQ (e::es) t)(hg:okG s x=true:=by decide +kernel)(hn:ps.length=n:=by rfl)(hj:j<=k:=by decide)(hs:X.env.scope=s:=by rfl)(he:starEach (e::es) X.env=(false,eval e X.env)::starEach es X.env:=by rfl)(hpl:(backTo pos (starEach es X.env)).any (·.1)=false:=by rfl):
  GE X XQ (.Call (.Name x p) (e::es) [] pos) (cl n (gX ys fn) t):=Gvo xs L C hr (gG s hg hs) (okG.gl hg).2 ha hn hj he hpl
theorem Gos(s:Scope)(L:XL X XQ)(C:ClJ X.prog X.w X.K X.mg X.base x j)(hr:Room k X.A)(ha:GA X XQ [a] t)(hg:okG s x=true:=by decide +kernel)(hcm:X.calm=true:=by rfl)(hj:j+1<=k:=by decide)(hs:X.env.scope=s:=by rfl)(he:starEach [a] X.env=(false,eval a X.env)::starEach [] X.env:=by rfl)(hpl:(backTo cpos (starEach [] X.env)).any (·.1)=false:=by rfl):
  GS X XQ (.Raise (some (.Call (.Name x np) [a] [] cpos)) none pos) (srj x t):=Ghg L hcm C hr (gG s hg hs) (okG.gl hg).2 ha hj he hpl
theorem Gs0{ys:List Str}(s:Scope)(k:Isx X.K X.mg x ys sub)(hm:X.mg "isinstance"=none)(he:GE X XQ e f)(hg:okG s "isinstance"=true:=by decide +kernel)(hg2:okG s x=true:=by decide +kernel)(h0:X.env.scope=s:=by rfl)(hs:starEach [e,.Name x p2] X.env=(false,eval e X.env)::starEach [.Name x p2] X.env:=by rfl)(hpl:(backTo pos (starEach [.Name x p2] X.env)).any (·.1)=false:=by rfl)(hs2:starEach [.Name x p2] X.env=(false,eval (.Name x p2) X.env)::starEach [] X.env:=by rfl):GE X XQ (.Call (.Name "isinstance" p) [e,.Name x p2] [] pos) (o1 (Uu ys sub) f):=Gst k (gG s hg h0) hm (gG s hg2 h0) (okG.gl hg2).2 he hs hpl hs2
theorem Gs1{ys:List Str}(s:Scope)(k:IsxB X.K T ys sub)(hm:X.mg "isinstance"=none)(hmt:X.mg x=none)(he:GE X XQ e f)(hv:bootBuiltins x=some (.type T):=by rfl)(hnx:x≠"__name__":=by decide +kernel)(hg:okG s "isinstance"=true:=by decide +kernel)(hg2:okG s x=true:=by decide +kernel)(h0:X.env.scope=s:=by rfl)(hs:starEach [e,.Name x p2] X.env=(false,eval e X.env)::starEach [.Name x p2] X.env:=by rfl)(hpl:(backTo pos (starEach [.Name x p2] X.env)).any (·.1)=false:=by rfl)(hs2:starEach [.Name x p2] X.env=(false,eval (.Name x p2) X.env)::starEach [] X.env:=by rfl):GE X XQ (.Call (.Name "isinstance" p) [e,.Name x p2] [] pos) (o1 (Uu ys sub) f):=Gm7 k hv hnx (gG s hg h0) hm (gG s hg2 h0) hmt (okG.gl hg2).2 he hs hpl hs2
theorem Gs(g1:Gl X "isinstance")(g2:Gl X x)(k:Kit X.K T)(hm:X.mg "isinstance"=none)(hmt:X.mg x=none)(he:GE X XQ e f)(hv:bootBuiltins x=some (.type T):=by rfl)(hnx:x≠"__name__":=by decide +kernel)(hdx:(x==("__debug__":Str))=false:=by decide +kernel)(hs:starEach [e,.Name x p2] X.env=(false,eval e X.env)::starEach [.Name x p2] X.env:=by rfl)(hpl:(backTo pos (starEach [.Name x p2] X.env)).any (·.1)=false:=by rfl)(hs2:starEach [.Name x p2] X.env=(false,eval (.Name x p2) X.env)::starEach [] X.env:=by rfl):GE X XQ (.Call (.Name "isinstance" p) [e,.Name x p2] [] pos) (o1 (isD T) f):=Gsw k hv hnx hdx g1 hm g2 hmt he hs hpl hs2
theorem Ys{sc:Scope}{f:Ev Src}{g:Tg}{t:Ev Bool}{e:Ev D}(S:FnS N P sc)(hi:GI X XQ tg iter f)(hg:∀ cl s2 H2 C fp,GG (blk X s2 H2 C scope cl N' fp) tg g)(ht:∀ cl s2 H2 C fp,GTs (blk X s2 H2 C scope cl N' fp) XN ifs t)(he:∀ cl s2 H2 C fp,GE (blk X s2 H2 C scope cl N' fp) XN elt e)(ct:CompTab sc scope N N' pk:=by exact kdC)(hsc:X.env.scope=sc:=by rfl)(hNN:X.N=N:=by rfl)(hcm:X.calm=true:=by rfl)(hs:∀ x,foldedSetIterable iter X.env x=pure x:=by intro _; rfl):GE X XQ (.ListComp elt [⟨tg,iter,ifs,0⟩] scope pos) (cmp f pk g t e):=gcomp hsc hNN ct hcm hi hg ht he hs
theorem Got(i:Nat){sc:Scope}{f:Ev Src}{g:Tg}{t:Ev Bool}{e:Ev D}(S:FnS N P sc)(hi:GI X XQ tg iter f)(hg:∀ cl s2 H2 C fp,GG (blk X s2 H2 C scope cl N' fp) tg g)(ht:∀ cl s2 H2 C fp,GTs (blk X s2 H2 C scope cl N' fp) XN ifs t)(he:∀ cl s2 H2 C fp,GE (blk X s2 H2 C scope cl N' fp) XN elt e)(ct:CompTab sc scope N N' pk:=by exact kdC)(hsc:X.env.scope=sc:=by rfl)(hNN:X.N=N:=by rfl)(hcm:X.calm=true:=by rfl)(hsw:swapsWith (.ListComp elt [⟨tg,iter,ifs,0⟩] scope pos) (some (.Name y py)) spos.line X.env=pure true:=by rfl)(hy:N[i]?=some y:=by rfl)(hs:∀ x,foldedSetIterable iter X.env x=pure x:=by intro _; rfl)(hf:X.fn y=true:=by rfl):GS X XQ (.Assign [.Name y py] (.ListComp elt [⟨tg,iter,ifs,0⟩] scope pos) spos) (sa (cmp f pk g t e) (gn i)):=
 Gjv i hsc hNN ct hcm hi hg ht he (hNN▸S.nd) (hsc▸S.ol hy) hsw (hNN▸hy) hs hf
section
variable{s2:Shared}{H2:Hp}{C:Addr}{scope:Scope}{c:List (Str×Addr)}{N':List Str}{fp:List Addr}
theorem Kf(i:Nat)(h:Giy scope x=true:=by decide +kernel)(hN:N'[i]?=some x:=by rfl):GE (blk X s2 H2 C scope c N' fp) XQ (.Name x pos) (vr i):=gvB i h hN
theorem glB_w(h:okG scope x=true:=by decide +kernel):Gl (blk X s2 H2 C scope c N' fp) x:=glB h
theorem Kx(i:Nat)(h:Gma scope x=true:=by decide +kernel)(hN:N'.Nodup:=by decide +kernel)(hi:N'[i]?=some x:=by rfl):GG (blk X s2 H2 C scope c N' fp) (.Name x pos) (gn i):=Gw1 i hN h hi
theorem Gfj(Q:Cal X.prog X.w X.K X.mg X.base x ps fn j)(hr:Room k X.A)(ha:GA (blk X s2 H2 C scope c N' fp) XQ (e::es) t)(hg:okG scope x=true:=by decide +kernel)(hn:ps.length=n:=by rfl)(hj:j<=k:=by decide)(he:starEach (e::es) (blk X s2 H2 C scope c N' fp).env=(false,eval e (blk X s2 H2 C scope c N' fp).env)::starEach es (blk X s2 H2 C scope c N' fp).env:=by rfl)(hpl:(backTo pos (starEach es (blk X s2 H2 C scope c N' fp).env)).any (·.1)=false:=by rfl):
  GE (blk X s2 H2 C scope c N' fp) XQ (.Call (.Name x p) (e::es) [] pos) (cl n (Gp fn) t):=gown (X:=blk X s2 H2 C scope c N' fp) Q hr (glB hg) (okG.gl hg).2 ha hn hj he hpl
end
end
section
variable{P:Program}{w:World}{K:PySem.W.Frag}{mg:Str->Option Value}{base:Heap}{x:Str}{st:Stmt}{ps N:List Str}{fn:Fn}
abbrev GH(K:PySem.W.Frag)(mg:Str->Option Value):Prop:=∃ h:Heap,K.In h/\h.Ns mainGlobals mg
theorem calw{b:Sv}(k:Nat)(F:FH K x st)(g:GH K mg)(S:FnS N ps (Gf st))(hfn:fn=fnB N.length b)
  (hb:∀ (f:Addr) (cdv:Value) (A:Around) (outer:List PySem.Env) (s:Shared) (H:Hp) (E:XK),Room k (A.deeper (envOfC x (Gf st) s.heap.objs.size f cdv))→
   JSs (Qi CX0 P w K mg base N x (Gf st) f cdv A outer s H E).nox XN (Gw st) b)
  (ha:∀ (kV doc pm:Value) (an:Option Addr) (cdv ct:Value) (us:List Value),us.length=ps.length->bindArgs (PySem.W.fnOf x x (Jd st) (Gw st) (Gf st) .none kV doc pm an cdv ct) ⟨us,[]⟩=pure (ps.zip us):=by first | exact(fun _ _ _ _ _ _ us hl=>match us,hl with | [_],_=>rfl) | exact(fun _ _ _ _ _ _ us hl=>match us,hl with | [_,_],_=>rfl) | exact(fun _ _ _ _ _ _ us hl=>match us,hl with | [_,_,_],_=>rfl) | exact(fun _ _ _ _ _ _ us hl=>match us,hl with | [_,_,_,_],_=>rfl) | exact(fun _ _ _ _ _ _ us hl=>match us,hl with | [_,_,_,_,_],_=>rfl) | exact(fun _ _ _ _ _ _ us hl=>match us,hl with | [_,_,_,_,_,_],_=>rfl)):Cal P w K mg base x ps fn (k+1):=
 let ⟨_,X,G⟩:=g; Grv N k b hfn (F.dn X G ha) S.s hb
theorem calxw{b:Sv}(k:Nat)(F:FH K x st)(g:GH K mg)(S:FnS N ps (Gf st))(hfn:fn=fnB N.length b)
  (hb:∀ (f:Addr) (cdv:Value) (A:Around) (outer:List PySem.Env) (s:Shared) (H:Hp) (E:XK) (XQ:XW),Room k (A.deeper (envOfC x (Gf st) s.heap.objs.size f cdv))->XL (Qi (CXe P w) P w K mg base N x (Gf st) f cdv A outer s H E) XQ→
   JSs (Qi (CXe P w) P w K mg base N x (Gf st) f cdv A outer s H E) XQ (Gw st) b)
  (ha:∀ (kV doc pm:Value) (an:Option Addr) (cdv ct:Value) (us:List Value),us.length=ps.length->bindArgs (PySem.W.fnOf x x (Jd st) (Gw st) (Gf st) .none kV doc pm an cdv ct) ⟨us,[]⟩=pure (ps.zip us):=by first | exact(fun _ _ _ _ _ _ us hl=>match us,hl with | [_],_=>rfl) | exact(fun _ _ _ _ _ _ us hl=>match us,hl with | [_,_],_=>rfl) | exact(fun _ _ _ _ _ _ us hl=>match us,hl with | [_,_,_],_=>rfl) | exact(fun _ _ _ _ _ _ us hl=>match us,hl with | [_,_,_,_],_=>rfl) | exact(fun _ _ _ _ _ _ us hl=>match us,hl with | [_,_,_,_,_],_=>rfl) | exact(fun _ _ _ _ _ _ us hl=>match us,hl with | [_,_,_,_,_,_],_=>rfl)):CalX P w K mg base x ps fn (k+1):=
 let ⟨_,X,G⟩:=g; Gmx N k b hfn (F.dn X G ha) S.s hb
theorem FH.fnx{f:Addr}(F:FH K x st)(X:K.In h)(G:h.Ns mainGlobals mg)(hm:mg x=some (.ref f)):∃ od an osl kV doc pm cdv ct,∃ oc:Value,PySem.W.keepIn K (.ref f)=true/\PySem.W.codeIn K cdv x=true/\K.lookup f=some ⟨oc,od,.func (PySem.W.fnOf x x (Jd st) (Gw st) (Gf st) .none kV doc pm an cdv ct),osl⟩:=by
 obtain⟨f',oc,od,an,osl,kV,doc,pm,cdv,ct,a,l,c,k⟩:=F.ex
 have e:=hm.symm.trans (PySem.W.mg_of X G a)
 cases e
 exact⟨od,an,osl,kV,doc,pm,cdv,ct,oc,k,c,l⟩
end
def Izl(K:PySem.W.Frag)(a b:Addr):It:=
 ⟨fun k H=>∃ xs ys x y,SqL K H a xs/\SqL K H b ys/\xs[k]?=some x/\ys[k]?=some y,
  fun k H v H'=>∃ x y p,(∀ xs,SqL K H a xs->xs[k]?=some x)/\(∀ ys,SqL K H b ys->ys[k]?=some y)/\H p=none/\v=.ref p/\H'=upd H p (.tup [x,y]),
  fun k H=>∃ xs ys,SqL K H a xs/\SqL K H b ys/\(xs.length<=k\/ys.length<=k)⟩
def tnL(z ti to' i j a b:Addr)(k:Nat)(h:Heap):Prop:=IsZip h z ti to' .none/\IsPair h ti (.ref i) (.ref j)/\(∃ c d,IsPair h to' c d)/\h.IsListIter i a k/\h.IsListIter j b k
theorem Ghh{x1}(z ti to' i j a b:Addr)(D:ZipApart z ti to' i j a b):
  Turn P w K (.Tuple es x1 pos) (Izl K a b) [z,ti,to',i,j] z (tnL z ti to' i j a b) where
 mem:=by simp
 obj:=fun k h ⟨s1,s2,⟨c,d,s3⟩,⟨o4,e4,c4,d4⟩,o5,e5,c5,d5⟩ q hq=>by
  simp only[List.mem_cons,List.mem_nil_iff,or_false] at hq
  rcases hq with rfl | rfl | rfl | rfl | rfl
  ·exact⟨_,s1,fun v y=>nomatch (show Data.fields _=Data.cell v from y)⟩
  ·exact⟨_,s2,fun v y=>nomatch (show Data.seq _ _=Data.cell v from y)⟩
  ·exact⟨_,s3,fun v y=>nomatch (show Data.seq _ _=Data.cell v from y)⟩
  ·exact⟨o4,e4,fun v y=>by rw[d4] at y; cases y⟩
  ·exact⟨o5,e5,fun v y=>by rw[d5] at y; cases y⟩
 keep:=fun k h h' ⟨s1,s2,⟨c,d,s3⟩,s4,s5⟩ kk=>⟨kk z (by simp) _ s1,kk ti (by simp) _ s2,⟨c,d,kk to' (by simp) _ s3⟩,s4.at fun o e=>kk i (by simp) o e,s5.at fun o e=>kk j (by simp) o e⟩
 item:=by
  intro X hP hw hK hc k pins s σ H E I hf ⟨s1,s2,⟨c,d,s3⟩,s4,s5⟩ hg
  subst hP hw hK
  obtain⟨xs,ys,x,y,hqa,hqb,hx,hy⟩:=hg
  obtain⟨ita,rva,pa,_⟩:=I.list hqa
  obtain⟨itb,rvb,pb,_⟩:=I.list hqb
  obtain⟨u,hu,ru⟩:=rva.get hx
  obtain⟨v,hv,rv⟩:=rvb.get hy
  have hn:H s.heap.objs.size=none:=I.hok.fresh (Nat.le_refl _)
  refine wpAny_pyNext_zip_item D s1 s2 s3 s4 s5 pa.isList pb.isList (x:=u) (y:=v) (by simpa using hu) (by simpa using hv) fun g t1 t2 t3 t4 t5 _ kk=>?_
  refine⟨_,rfl,wpAny_letOwnedTupleGo_zip t1 fun g2 e2 b2=>?_⟩
  have kk2:∀ q o,q∉[z,ti,to',i,j]->s.heap.get? q=some o->g2.get? q=some o:=fun q o hq h1=>
   b2.extBut q o (fun y=>hq (by simp[y])) (kk q o (fun y=>hq (by simp[y])) (fun y=>hq (by simp[y])) (fun y=>hq (by simp[y])) (fun y=>hq (by simp[y])) h1)
  have zl:s.heap.objs.size≠z:=Nat.ne_of_gt (Heap.lt_size s1)
  have tt2:g2.get? s.heap.objs.size=some { cls:=.type "tuple",data:=.seq [u,v].toArray }:=b2.extBut _ _ zl t5
  have ltf:∀ q∈[z,ti,to',i,j],q≠s.heap.objs.size:=fun q hq=>by
   simp only[List.mem_cons,List.mem_nil_iff,or_false] at hq
   rcases hq with rfl | rfl | rfl | rfl | rfl
   ·exact Ne.symm zl
   ·exact Nat.ne_of_lt (Heap.lt_size s2)
   ·exact Nat.ne_of_lt (Heap.lt_size s3)
   ·obtain⟨o,e1,_⟩:=s4; exact Nat.ne_of_lt (Heap.lt_size e1)
   ·obtain⟨o,e1,_⟩:=s5; exact Nat.ne_of_lt (Heap.lt_size e1)
  have I2:Inv X pins σ (upd H s.heap.objs.size (.tup [x,y])) { s with heap:=g2 }:=
   Uw (tk:=s.toks) I hn (by rw[sizeLine_eq]; simp only[List.length_cons,List.length_nil]; decide) (.cons ru (.cons rv .nil)) tt2 kk2 hf ltf
  have p2:IsPair g2 ti (.ref i) (.ref j):=b2.extBut _ _ D.TIz (kk ti _ D.TIz D.TITO D.TIi1 D.TIi2 s2)
  exact⟨.ref s.heap.objs.size,_,I2,rfl,⟨x,y,_,fun zs hz=>by rw[I.list_inj hz hqa]; exact hx,fun zs hz=>by rw[I.list_inj hz hqb]; exact hy,hn,rfl,rfl⟩,
   ⟨e2,p2,⟨_,_,b2.extBut _ _ D.TOz t2⟩,t3.extBut b2.extBut D.i1z,t4.extBut b2.extBut D.i2z⟩,fun q hq=>by
    rw[Gq (ltf q hq)]
    exact(hf q hq).1⟩
 done:=by
  intro X hP hw hK hc k pins s σ H E I hf ⟨s1,s2,⟨c,d,s3⟩,s4,s5⟩ hg
  subst hP hw hK
  obtain⟨xs,ys,hqa,hqb,hx⟩:=hg
  obtain⟨ita,rva,pa,_⟩:=I.list hqa
  obtain⟨itb,rvb,pb,_⟩:=I.list hqb
  have la:=rva.length
  have lb:=rvb.length
  refine wpAny_pyNext_zip_end (I.ok.hd hc) D s1 s2 s3 s4 s5 pa.isList pb.isList ?_ fun g kk=>⟨rfl,turnedL I (fun q o hq e1=>kk q o (fun y=>hq (by simp[y])) (fun y=>hq (by simp[y])) (fun y=>hq (by simp[y])) (fun y=>hq (by simp[y])) e1) hf⟩
  rcases hx with h | h
  ·exact .inl (by simp; omega)
  ·exact .inr (by simp; omega)
 self:=fun _ _ _ _ _ ⟨st,_⟩ h=>wpAny_pyIter_zip st h
section
variable{X:Cx}{XQ:XW}
def zlS(i j:Nat)(k:Nat)(S:Sto):Option D:=match (S[i]?).bind fun c=>c.xs[k]?,(S[j]?).bind fun c=>c.xs[k]? with
 | some x,some y=>some (.tup [x,y])
 | _,_=>none
theorem Gs2{a b:Addr}{i:Nat}(hi:mp[i]?=some a)(hj:mp[j]?=some b):Gc5 K mp H (Izl K a b) (zlS i j):=by
 intro mp' H' S' af rs k
 have hi':=af.pre i a hi
 have hj':=af.pre j b hj
 have li:i<S'.length:=by rw[<- rs.len]; exact(List.getElem?_eq_some_iff.mp hi').1
 have lj:j<S'.length:=by rw[<- rs.len]; exact(List.getElem?_eq_some_iff.mp hj').1
 have hc:S'[i]?=some S'[i]:=List.getElem?_eq_getElem li
 have hd:S'[j]?=some S'[j]:=List.getElem?_eq_getElem lj
 obtain⟨a2,xs,e1,e2,sq,r,_⟩:=rs.items (v:=.ref a) ⟨a,rfl,hi'⟩ hc
 obtain⟨b2,ys,f1,f2,sq2,r2,_⟩:=rs.items (v:=.ref b) ⟨b,rfl,hj'⟩ hd
 cases e1
 cases f1
 show match zlS i j k S' with
  | some d=>(Izl K a b).go k H'/\∀ x H2,(Izl K a b).yld k H' x H2->Aft K mp' H' mp' H2/\RS K mp' H2 S'/\Rep K mp' H2 d x
  | none=>(Izl K a b).stop k H'
 unfold zlS
 simp only[hc,hd,Option.bind_some]
 cases z:(S'[i]).xs[k]? with
 | none=>
  refine⟨xs,ys,sq,sq2,.inl ?_⟩
  rw[r.len]
  exact List.getElem?_eq_none_iff.mp z
 | some d=>
  cases z2:(S'[j]).xs[k]? with
  | none=>
   refine⟨xs,ys,sq,sq2,.inr ?_⟩
   rw[r2.len]
   exact List.getElem?_eq_none_iff.mp z2
  | some d2=>
   obtain⟨v,e,q⟩:=r.get z
   obtain⟨v2,e2,q2⟩:=r2.get z2
   refine⟨⟨xs,ys,v,v2,sq,sq2,e,e2⟩,fun x H2 ⟨y,y2,p,h1,h2,h3,h4,h5⟩=>?_⟩
   have h1:=h1 xs sq
   have h2:=h2 ys sq2
   rw[e] at h1
   rw[e2] at h2
   cases h1
   cases h2
   subst h4 h5
   have af2:Aft K mp' H' mp' (upd H' p (.tup [v,v2])):=Km h3
   exact⟨af2,rs.new h3,p,_,rfl,SqT.of Hj,RepL.cons (Rep.aft af2 _ _ q) (RepL.cons (Rep.aft af2 _ _ q2) RepL.nil)⟩
end
section
variable{X:Cx}{XQ:XW}
def mt0(o:D->List D->Sto->Out D)(fo:Ev D):Ev D:=fun ρ S=>(fo ρ S).bind fun x S1=>if isLst x S1=true then o x [] S1 else .bad
@[simp] theorem Gw3{o:D->List D->Sto->Out D}:mt0 o fo ρ S=(fo ρ S).bind fun x S1=>if isLst x S1=true then o x [] S1 else .bad:=id rfl
def iZg(K:PySem.W.Frag)(ta:TA):TI:=fun σ H R=>ta σ H fun xs H1=>∃ a b,xs=[.ref a,.ref b]/\(((∃ ys,SqT K H1 a ys)/\(∃ ys,SqT K H1 b ys)/\R (Itz K a b) H1)\/((∃ ys,SqL K H1 a ys)/\(∃ ys,SqL K H1 b ys)/\R (Izl K a b) H1))
theorem Gnd{x1}{tp:Pos}{ta:TA}(hg:Gl X "zip")(hm:X.mg "zip"=none)(ha:PA X [a,b] ta)(hs:starEach [a,b] X.env=(false,eval a X.env)::starEach [b] X.env:=by rfl)(hpl:(backTo pos (starEach [b] X.env)).any (·.1)=false:=by rfl):
  PI X (.Tuple es x1 tp) (.Call (.Name "zip" p) [a,b] [] pos) (iZg X.K ta):=by
 intro pins s σ H R I h
 refine wpAny_Call_Name_kw (Wr I hg hm (by rfl) ?_ (by decide) (by decide))
 refine PyProof.Rows.callWith_type1 (thn (ha pos pins s σ H _ I h) fun us s1 ⟨vs,H1,I1,r1,q1⟩=>?_) hs hpl
 obtain⟨c,d,e,q⟩:=q1
 subst e
 obtain⟨u,u',rfl,rx,ry⟩:=Gn8 r1
 cases rx
 cases ry
 have fp:∀ q,q∈[s1.heap.objs.size+4,s1.heap.objs.size+2,s1.heap.objs.size+3,s1.heap.objs.size,s1.heap.objs.size+1]->s1.heap.objs.size<=q:=fun q hq=>by
  simp only[List.mem_cons,List.mem_nil_iff,or_false] at hq
  rcases hq with rfl | rfl | rfl | rfl | rfl
  ·exact Nat.le_add_right _ _
  ·exact Nat.le_add_right _ _
  ·exact Nat.le_add_right _ _
  ·exact Nat.le_refl _
  ·exact Nat.le_add_right _ _
 rcases q with⟨⟨ys,hqa⟩,⟨zs,hqb⟩,q⟩ | ⟨⟨ys,hqa⟩,⟨zs,hqb⟩,q⟩
 ·obtain⟨ita,_,pa,_⟩:=I1.tuple hqa
  obtain⟨itb,_,pb,_⟩:=I1.tuple hqb
  have ca:c<s1.heap.objs.size:=by obtain⟨o,e1,_⟩:=(show s1.heap.IsTuple c ita.toArray from pa); exact Heap.lt_size e1
  have cb:d<s1.heap.objs.size:=by obtain⟨o,e1,_⟩:=(show s1.heap.IsTuple d itb.toArray from pb); exact Heap.lt_size e1
  refine Gmg (show s1.heap.IsTuple c ita.toArray from pa) (show s1.heap.IsTuple d itb.toArray from pb) fun g t1 t2 t3 t4 t5 kk=>?_
  refine wpAny_pyIter_zip t1 ?_
  have I2:Inv X pins σ H1 { s1 with heap:=g }:=I1.kept (t':=s1.toks) kk
  have Z:=zipApart_new ca cb
  have D:Za (s1.heap.objs.size+4) (s1.heap.objs.size+2) (s1.heap.objs.size+3) s1.heap.objs.size (s1.heap.objs.size+1) c d:=
   ⟨Z.TIz,Z.TOz,Z.i1z,Z.i2z,Z.TITO,Z.TIi1,Z.TIi2,Z.TOi1,Z.TOi2,Z.i12,Z.l1z,Z.l1TO,Z.l1i1,Z.l1i2,Z.l2z,Z.l2TO,Z.l2i1,Z.l2i2⟩
  exact⟨s1.heap.objs.size+4,[s1.heap.objs.size+4,s1.heap.objs.size+2,s1.heap.objs.size+3,s1.heap.objs.size,s1.heap.objs.size+1],_,_,H1,rfl,I2,Gi3 _ _ _ _ _ c d D,⟨t1,t2,⟨_,_,t3⟩,t4,t5⟩,fun q hq=>I1.fpOk (fp q hq) (I1.hok.fresh (fp q hq)),q⟩
 ·obtain⟨ita,_,pa,_⟩:=I1.list hqa
  obtain⟨itb,_,pb,_⟩:=I1.list hqb
  have ca:c<s1.heap.objs.size:=by obtain⟨o,e1,_⟩:=pa.isList; exact Heap.lt_size e1
  have cb:d<s1.heap.objs.size:=by obtain⟨o,e1,_⟩:=pb.isList; exact Heap.lt_size e1
  refine call_zip_2 pa.isList pb.isList fun g t1 t2 t3 t4 t5 _ kk=>?_
  refine wpAny_pyIter_zip t1 ?_
  have I2:Inv X pins σ H1 { s1 with heap:=g }:=I1.kept (t':=s1.toks) kk
  exact⟨s1.heap.objs.size+4,[s1.heap.objs.size+4,s1.heap.objs.size+2,s1.heap.objs.size+3,s1.heap.objs.size,s1.heap.objs.size+1],_,_,H1,rfl,I2,Ghh _ _ _ _ _ c d (zipApart_new ca cb),⟨t1,t2,⟨_,_,t3⟩,t4,t5⟩,fun q hq=>I1.fpOk (fp q hq) (I1.hok.fresh (fp q hq)),q⟩
def Gf7(f:Ev (List D)):Ev Src:=fun ρ S=>(f ρ S).bind fun ds S1=>match ds with
 | [.tup l,.tup m]=>.ok ⟨fun k _=>zipAt l m k,l.length+1⟩ S1
 | [.lst i,.lst j]=>match S1[i]?,S1[j]? with
  | some c,some _=>.ok ⟨zlS i j,c.xs.length+1⟩ S1
  | _,_=>.bad
 | _=>.bad
theorem Yt{x1}{tp:Pos}(hg:Gl X "zip")(hm:X.mg "zip"=none)(ha:GA X XQ [a,b] f)(hs:starEach [a,b] X.env=(false,eval a X.env)::starEach [b] X.env:=by rfl)(hpl:(backTo pos (starEach [b] X.env)).any (·.1)=false:=by rfl):
  GI X XQ (.Tuple es x1 tp) (.Call (.Name "zip" p) [a,b] [] pos) (Gf7 f):=⟨by
 refine PI.mono (Gnd hg hm ha.h hs hpl) fun σ H R ⟨mp,ρ,S,G,p⟩=>?_
 refine bindP G p fun mp1 H1 ds S1 vs a1 G1 r1 p1=>?_
 split at p1
 ·rename_i l m
  obtain⟨v,v2,rfl,h1,h2⟩:=RepL.two r1
  obtain⟨c,xs,rfl,s,q⟩:=Rep.tup h1
  obtain⟨d,ys,rfl,s2,q2⟩:=Rep.tup h2
  exact⟨c,d,rfl,.inl ⟨⟨xs,s⟩,⟨ys,s2⟩,Gn.ok (R:=kI X.K) (d:=⟨fun k _=>zipAt l m k,l.length+1⟩) (S:=S1) p1 G1.rs (Gr6 s q s2 q2)⟩⟩
 ·rename_i i j
  split at p1
  ·rename_i c c2 zc zd
   obtain⟨v,v2,rfl,h1,h2⟩:=RepL.two r1
   obtain⟨a2,xs,rfl,e2,sq,q,_⟩:=G1.rs.items h1 zc
   obtain⟨b2,ys,rfl,f2,sq2,q2,_⟩:=G1.rs.items h2 zd
   exact⟨a2,b2,rfl,.inr ⟨⟨xs,sq⟩,⟨ys,sq2⟩,Gn.ok (R:=kI X.K) (d:=⟨zlS i j,c.xs.length+1⟩) (S:=S1) p1 G1.rs (Gs2 e2 f2)⟩⟩
  ·exact p1.elim
 ·exact p1.elim⟩
end
inductive DP:List (Option Expr)->List Expr->List (Str×D)->Prop
 | nil:DP [] [] []
 | i {k:Str} {i:Int} {j j' p p'} {ks vs l}:DP ks vs l->DP (some (.Constant (.str k) j p)::ks) (.Constant (.int i) j' p'::vs) ((k,.int i)::l)
 | s {k x:Str} {j j' p p'} {ks vs l}:DP ks vs l->DP (some (.Constant (.str k) j p)::ks) (.Constant (.str x) j' p'::vs) ((k,.str x)::l)
def dsub(l:List (Str×D))(fb:Ev D):Ev D:=fun ρ S=>(fb ρ S).bind fun y S1=>match y with
 | .str k=>match l.lookup k with
  | some (.int i)=>.ok (.int i) S1
  | some (.str x)=>.ok (.str x) S1
  | _=>.bad
 | _=>.bad
@[simp] theorem Gv7{l:List (Str×D)}:dsub l fb ρ S=(fb ρ S).bind fun y S1=>match y with
 | .str k=>match l.lookup k with
  | some (.int i)=>.ok (.int i) S1
  | some (.str x)=>.ok (.str x) S1
  | _=>.bad
 | _=>.bad:=id rfl
theorem Gne{t c:Value}(h:PySem.W.exmOne K t c=some true):PySem.W.kitOne K t c=some true:=by
 unfold PySem.W.exmOne at h
 unfold PySem.W.kitOne
 split at h
 ·split
  ·rfl
  ·exact h
 ·cases h
theorem Cat.isx{c:Str}{ys:List Str}(h:Cat K mg c ys):Isx K mg c ys ys:=by
 obtain⟨cs,hm,hk⟩:=h.ex
 refine⟨cs,hm,fun y hy=>?_⟩
 obtain⟨C,h1,_,h3⟩:=hk y hy
 exact⟨C,h1,by rw[Gne h3,decide_eq_true hy]⟩
def Gs3(K:PySem.W.Frag)(C:Addr):Bool:=Gm3 K C&&(PySem.W.exmOne K (.ref C) (.ref C)==some true)
theorem Gs4(X:K.In h)(G:h.Ns mainGlobals mg)(a:PySem.W.nsIn K mainGlobals x=some (some (.ref C)))(t:Gs3 K C=true):Cat K mg x [x]:=by
 unfold Gs3 at t
 rw[Bool.and_eq_true,beq_iff_eq] at t
 refine⟨C,PySem.W.mg_of X G a,fun y hy=>?_⟩
 cases List.mem_singleton.mp hy
 exact⟨C,a,Gjj t.1,t.2⟩
inductive Nms(mg:Str->Option Value):List Str->List Addr->Prop
 | nil:Nms mg [] []
 | cons {x:Str} {c:Addr} {xs:List Str} {cs:List Addr} (h:mg x=some (.ref c)) (t:Nms mg xs cs):Nms mg (x::xs) (c::cs)
structure IsT(K:PySem.W.Frag)(mg:Str->Option Value)(xs ys:List Str):Prop where
 ex:∃ cs,Nms mg xs cs/\∀ y∈ys,∃ C,CN K y C/\PySem.W.kitAny K (.ref C) (cs.map Value.ref)=some (decide (y∈xs))
theorem Gfk{K:PySem.W.Frag}{mg:Str->Option Value}{ys:List Str}(n:XNs K ys):∀ {xs:List Str},(∀ x∈xs,Isx K mg x ys [x])->IsT K mg xs ys
 | [],_=>⟨[],.nil,fun y hy=>by
   obtain⟨C,h1,_⟩:=n y hy
   exact⟨C,h1,rfl⟩⟩
 | x::xs,h=>by
  obtain⟨c,hm,hk⟩:=(h x List.mem_cons_self).ex
  obtain⟨cs,hn,ht⟩:=(Gfk n (xs:=xs) fun z hz=>h z (List.mem_cons_of_mem _ hz)).ex
  refine⟨c::cs,.cons hm hn,fun y hy=>?_⟩
  obtain⟨C,h1,h2⟩:=hk y hy
  obtain⟨C',h1',h2'⟩:=ht y hy
  cases CN.one h1 h1'
  refine⟨C,h1,?_⟩
  show(match PySem.W.kitOne K (.ref C) (.ref c) with
   | some true=>some true
   | some false=>PySem.W.kitAny K (.ref C) (cs.map Value.ref)
   | none=>none)=_
  rw[h2,h2']
  by_cases e:y=x
  ·subst e; simp
  ·have:decide (y∈[x])=false:=by simp[e]
   rw[this]
   simp[e]
inductive GNs(X:Cx)(s:Scope):List Expr->List Str->Prop
 | nil:GNs X s [] []
 | cons {x:Str} {p:Pos} {es:List Expr} {xs:List Str} (t:GNs X s es xs) (hg:okG s x=true:=by decide +kernel) (hs:starEach (.Name x p::es) X.env=(false,eval (.Name x p) X.env)::starEach es X.env:=by rfl):GNs X s (.Name x p::es) (x::xs)
section
variable{X:Cx}{XQ:XW}
theorem Gs5{s:Scope}{xs:List Str}(h0:X.env.scope=s)(g:GNs X s es xs):∀ {cs:List Addr},Nms X.mg xs cs->PA X es (fun _ H Q=>Q (cs.map V.ref) H):=by
 induction g with
 | nil=>intro cs h; cases h; exact pa_nil
 | cons t hg hs ih=>
  intro cs h
  cases h with
  | cons hm ht=>exact PA.mono (Ju (Gct (gG s hg h0) hm (v:=.ref _) rfl (Gz.of (okG.gl hg).2).1) (ih ht) hs) fun σ H Q q=>q
theorem Gco:∀ {cs:List Addr} {its:List Value},Vals (cs.map V.ref) its->its=cs.map Value.ref
 | [],_,.nil=>rfl
 | c::cs,_,.cons r t=>by
  cases r
  rw[Gco t]; rfl
def Gvq(K:PySem.W.Frag)(cs:List Addr):List V->Hp->VK->Prop:=fun vs H Q=>∃ a C dx b tp,vs=[.ref a,.ref tp]/\XCl K C/\H a=some (XO a C dx)/\SqT K H tp (cs.map V.ref)/\PySem.W.kitAny K (.ref C) (cs.map Value.ref)=some b/\Q (.bl b) H
theorem Ghi{cs:List Addr}:Qq X (.builtin "isinstance") (Gvq X.K cs):=by
 intro pins s σ H xs us Q I r ⟨a,C,dx,b,tp,e,xc,hH,hs,hk,q⟩
 subst e
 obtain⟨u,w',rfl,ru,rw'⟩:=Vals.two r
 cases (show u=Value.ref a from ru)
 cases (show w'=Value.ref tp from rw')
 obtain⟨its,rv,it,_⟩:=I.tuple hs
 cases Gco rv
 obtain⟨⟨oc,od,oda,osl⟩,ho,hc,n,hd⟩:=it
 dsimp only at hc hd
 subst hc hd
 exact PySem.W.kia_tup (Ga4 xc) I.kIn (Giw I hH) ho hk (fun z=>nomatch z) fun tk=>⟨.bl b,H,I.tok tk,rfl,q⟩
theorem Gnf{sc:Scope}{xs ys:List Str}{e:Expr}{f:Ev D}{x1}(k:IsT X.K X.mg xs ys)(hl:xs.length<=100)(hg:Gl X "isinstance")(hm:X.mg "isinstance"=none)(h0:X.env.scope=sc)(g:GNs X sc es xs)(he:JE X XQ e f)(hs:starEach [e,.Tuple es x1 p2] X.env=(false,eval e X.env)::starEach [.Tuple es x1 p2] X.env)(hpl:(backTo pos (starEach [.Tuple es x1 p2] X.env)).any (·.1)=false)(hs2:starEach [.Tuple es x1 p2] X.env=(false,eval (.Tuple es x1 p2) X.env)::starEach [] X.env):
  JE X XQ (.Call (.Name "isinstance" p) [e,.Tuple es x1 p2] [] pos) (o1 (Uu ys xs) f):=by
 obtain⟨cs,hn,hk⟩:=k.ex
 have lc:∀ {xs:List Str} {cs:List Addr},Nms X.mg xs cs->cs.length=xs.length:=by
  intro xs cs h
  induction h with
  | nil=>rfl
  | cons _ _ ih=>simp[ih]
 have lcs:=lc hn
 refine PE.mono (Wt (Ghi (cs:=cs)) hg hm (by rfl) (Ju he (Ju (Gh5 (Gs5 h0 g hn)) pa_nil hs2) hs) (by decide) (by decide) hs hpl) fun σ H Q ⟨mp,ρ,S,G,q⟩=>?_
 refine bindP G q fun mp1 H1 d S1 v a1 G1 r1 p1=>?_
 cases d with
 | exn y n=>
  obtain⟨a,dx,C,rfl,⟨hc,xc,hH⟩,_⟩:=(show ∃ a dx p,v=.ref a/\(CN X.K y p/\XCl X.K p/\H1 a=some (XO a p dx))/\∀ i,n=some i->∃ d,dx=some d/\H1 d=some (XA d i) from r1)
  by_cases hy:y∈ys
  ·have p1:Post X.K XQ σ ρ mp1 H1 (.ok (.bl (decide (y∈xs))) S1) Q:=by simpa only[Uu,if_pos hy] using p1
   obtain⟨C',hc',ko⟩:=hk y hy
   cases CN.one hc hc'
   refine⟨by rw[List.length_map]; exact line_le (by omega),fun tp htp=>?_⟩
   have af:Aft X.K mp1 H1 mp1 (upd H1 tp (.tup (cs.map V.ref))):=Km htp
   exact⟨a,C,dx,_,tp,rfl,xc,by rw[Gq (fun z=>by rw[z,htp] at hH; cases hH)]; exact hH,SqT.of Hj,ko,Gn.ok (R:=Rep X.K) (Gn.aft p1 af) (G1.rs.new htp) rfl⟩
  ·have p1:Post X.K XQ σ ρ mp1 H1 .bad Q:=by simpa only[Uu,if_neg hy] using p1
   exact p1.elim
 | _=>exact p1.elim
theorem Gjy{xs ys:List Str}{e:Expr}{f:Ev D}{x1}(s:Scope)(k:IsT X.K X.mg xs ys)(hm:X.mg "isinstance"=none)(g:GNs X s es xs)(he:GE X XQ e f)(hl:xs.length<=100:=by decide)(hg:okG s "isinstance"=true:=by decide +kernel)(h0:X.env.scope=s:=by rfl)(hs:starEach [e,.Tuple es x1 p2] X.env=(false,eval e X.env)::starEach [.Tuple es x1 p2] X.env:=by rfl)(hpl:(backTo pos (starEach [.Tuple es x1 p2] X.env)).any (·.1)=false:=by rfl)(hs2:starEach [.Tuple es x1 p2] X.env=(false,eval (.Tuple es x1 p2) X.env)::starEach [] X.env:=by rfl):GE X XQ (.Call (.Name "isinstance" p) [e,.Tuple es x1 p2] [] pos) (o1 (Uu ys xs) f):=
 ⟨Gnf k hl (gG s hg h0) hm h0 g he.h hs hpl hs2⟩
def Geg(x y:D)(S:Sto):Out D:=match x,y with
 | .str i,.str j=>.ok (.bl (!(!(Builtin.Str.occurrences j i 0 j.length 1).isEmpty))) S
 | _,_=>.bad
theorem Gng:OpD K (fun x y H Q=>∃ i j,x=.str i/\y=.str j/\Q (.bl (!(!(Builtin.Str.occurrences j i 0 j.length 1).isEmpty))) H) Geg:=by
 intro XQ σ ρ mp H S x y v u Q rs rx ry p
 unfold Geg at p
 split at p
 ·rename_i i j
  cases (show v=.str i from rx)
  cases (show u=.str j from ry)
  exact⟨i,j,rfl,rfl,Gn.ok (R:=Rep K) p rs rfl⟩
 ·exact p.elim
variable{a b:Expr}{fa fb:Ev D}{pos:Pos}
theorem Gnh(ha:GE X XQ a fa)(hb:GE X XQ b fb)(hm:behindInMarks .NotIn b=false:=by rfl):GT X XQ (.Compare a [.NotIn] [b] pos) (tb (o2 Geg fa fb)):=⟨Ga1 Gcz Gng ha.h hb.h hm⟩
end
end DL
namespace Law
open PySem PySem.Spec PyProof.Rows L2 DL
variable{X:Cx}{XQ:XW}{pos:Pos}{w:World}{K:PySem.W.Frag}{mg:Str->Option Value}
def top(i:Nat):Stmt:=PySem.Challenge.pw_summitwater_k82_stands_texts_refused.main.body.getD i (.Pass ⟨0,0,0,0⟩)
abbrev Vg:Stmt:=top 17
abbrev Gbd:Stmt:=top 18
abbrev Vh:Stmt:=top 24
abbrev Wf:Stmt:=top 23
abbrev Vi:Stmt:=top 27
abbrev Vj:Stmt:=top 26
abbrev Vk:Stmt:=top 29
abbrev Wg:Stmt:=top 30
abbrev Wh:Stmt:=top 31
abbrev Uk:Stmt:=top 32
abbrev Vl:Stmt:=top 33
abbrev Vm:Stmt:=top 34
abbrev Kq:Stmt:=top 35
abbrev Ul:Stmt:=top 36
abbrev Wi:Stmt:=top 37
abbrev Zy:Stmt:=top 38
abbrev Js:Stmt:=top 39
abbrev Qz:Stmt:=top 40
abbrev Yu:Stmt:=top 41
abbrev Vn:Stmt:=top 42
abbrev Ua:Stmt:=top 43
abbrev Gbe:Stmt:=top 44
def c_CHAMBER:D:=(.tup [(.str "chamber")])
def c_END:D:=(.tup [(.str "end")])
def c_FIGURES:D:=(.str "0123456789")
def c_MOST_BARGES:D:=(.int 60)
def c_MOST_FIGURES:D:=(.int 16)
def ys:List Str:=["NoGate","Dry","Full","NoSpring","NoBarge","NoRoom","Uneven","Shallow","Falls","NoText","TooMany","NoLine"]
def ms:List Str:=["NoGate","Dry","Full","NoSpring","NoBarge","NoRoom","Uneven","Shallow","Falls","NoText","TooMany","NoLine"]
def ats:List Str:=["Falls","NoText"]
structure Hs(K:PySem.W.Frag):Prop where
 h_most_water:FH K "most_water" Vg
 h_holds:FH K "holds" Gbd
 h_is_written:FH K "is_written" Vh
 h_number_of:FH K "number_of" Wf
 h_place_part:FH K "place_part" Vi
 h_read_stand:FH K "read_stand" Vj
 h__law_mixed:FH K "_law_mixed" Vk
 h__law_tape:FH K "_law_tape" Wg
 h__law_take:FH K "_law_take" Wh
 h__law_places:FH K "_law_places" Uk
 h__law_canal:FH K "_law_canal" Vl
 h__law_stand:FH K "_law_stand" Vm
 h__law_stand_text:FH K "_law_stand_text" Kq
 h__law_number:FH K "_law_number" Ul
 h__law_same:FH K "_law_same" Wi
 h__law_odd:FH K "_law_odd" Zy
 h__law_put_otherwise:FH K "_law_put_otherwise" Js
 h__law_figures:FH K "_law_figures" Qz
 h__law_fits:FH K "_law_fits" Yu
 h__law_wrong:FH K "_law_wrong" Vn
 h__law_written:FH K "_law_written" Ua
 h_law:FH K "law" Gbe
 z_ValueError:PySem.W.nsIn K mainGlobals "ValueError"=some none
 z_all:PySem.W.nsIn K mainGlobals "all"=some none
 z_bool:PySem.W.nsIn K mainGlobals "bool"=some none
 z_enumerate:PySem.W.nsIn K mainGlobals "enumerate"=some none
 z_int:PySem.W.nsIn K mainGlobals "int"=some none
 z_isinstance:PySem.W.nsIn K mainGlobals "isinstance"=some none
 z_len:PySem.W.nsIn K mainGlobals "len"=some none
 z_list:PySem.W.nsIn K mainGlobals "list"=some none
 z_min:PySem.W.nsIn K mainGlobals "min"=some none
 z_range:PySem.W.nsIn K mainGlobals "range"=some none
 z_str:PySem.W.nsIn K mainGlobals "str"=some none
 z_sum:PySem.W.nsIn K mainGlobals "sum"=some none
 z_tuple:PySem.W.nsIn K mainGlobals "tuple"=some none
 z_zip:PySem.W.nsIn K mainGlobals "zip"=some none
structure Txt(K:PySem.W.Frag)(mg:Str->Option Value):Prop where
 b_ValueError:mg "ValueError"=none
 b_all:mg "all"=none
 b_bool:mg "bool"=none
 b_enumerate:mg "enumerate"=none
 b_int:mg "int"=none
 b_isinstance:mg "isinstance"=none
 b_len:mg "len"=none
 b_list:mg "list"=none
 b_min:mg "min"=none
 b_range:mg "range"=none
 b_str:mg "str"=none
 b_sum:mg "sum"=none
 b_tuple:mg "tuple"=none
 b_zip:mg "zip"=none
 k_CHAMBER:∃ u v,mg "CHAMBER"=some u/\Ha v u/\∀ mp H,Rep K mp H c_CHAMBER v
 k_END:∃ u v,mg "END"=some u/\Ha v u/\∀ mp H,Rep K mp H c_END v
 k_FIGURES:∃ u v,mg "FIGURES"=some u/\Ha v u/\∀ mp H,Rep K mp H c_FIGURES v
 k_MOST_BARGES:∃ u v,mg "MOST_BARGES"=some u/\Ha v u/\∀ mp H,Rep K mp H c_MOST_BARGES v
 k_MOST_FIGURES:∃ u v,mg "MOST_FIGURES"=some u/\Ha v u/\∀ mp H,Rep K mp H c_MOST_FIGURES v
 xt:XT K mg "SummitError" ys ms
 atc:AtC K ats
 cat_NoText:Cat K mg "NoText" ["NoText"]
theorem Txt.c_CHAMBER(T:Txt X.K X.mg)(hg:Gl X "CHAMBER"):GE X XQ (.Name "CHAMBER" pos) (cn c_CHAMBER):=let ⟨u,v,h1,h2,h3⟩:=T.k_CHAMBER; ⟨Ga6 h1 h2 h3 hg (by decide +kernel)⟩
theorem Txt.c_END(T:Txt X.K X.mg)(hg:Gl X "END"):GE X XQ (.Name "END" pos) (cn c_END):=let ⟨u,v,h1,h2,h3⟩:=T.k_END; ⟨Ga6 h1 h2 h3 hg (by decide +kernel)⟩
theorem Txt.c_FIGURES(T:Txt X.K X.mg)(hg:Gl X "FIGURES"):GE X XQ (.Name "FIGURES" pos) (cn c_FIGURES):=let ⟨u,v,h1,h2,h3⟩:=T.k_FIGURES; ⟨Ga6 h1 h2 h3 hg (by decide +kernel)⟩
theorem Txt.c_MOST_BARGES(T:Txt X.K X.mg)(hg:Gl X "MOST_BARGES"):GE X XQ (.Name "MOST_BARGES" pos) (cn c_MOST_BARGES):=let ⟨u,v,h1,h2,h3⟩:=T.k_MOST_BARGES; ⟨Ga6 h1 h2 h3 hg (by decide +kernel)⟩
theorem Txt.c_MOST_FIGURES(T:Txt X.K X.mg)(hg:Gl X "MOST_FIGURES"):GE X XQ (.Name "MOST_FIGURES" pos) (cn c_MOST_FIGURES):=let ⟨u,v,h1,h2,h3⟩:=T.k_MOST_FIGURES; ⟨Ga6 h1 h2 h3 hg (by decide +kernel)⟩
abbrev Qn:Stmt:=(Gf5 (top 1)).getD 0 (.Pass ⟨0,0,0,0⟩)
theorem sc_init:FnScope ["self","text"] ["self","text"] (Gf Qn):=kdS
theorem Gvr:OkG (Gf Qn) "ValueError":=⟨by decide +kernel⟩
theorem Gni:OkV (Gf Qn) "self":=⟨by decide +kernel⟩
theorem Gnj:OkV (Gf Qn) "text":=⟨by decide +kernel⟩
theorem Ghj{P:Program}{base:Heap}(hm:mg "ValueError"=none)(f:Addr)(cdv:Value)(A:Around)(outer:List PySem.Env)(s:Shared)(H:Hp)(E:XK):PSs (Qi CX0 P w K mg base ["self","text"] "SummitError.__init__" (Gf Qn) f cdv A outer s H E).nox (Gw Qn) (Gor K):=by
 conv=>arg 2; whnf
 exact Gcu (Gcv (Gje (gl Gvr) hm (Ju (Zf (i:=0) rfl (okV.vis Gni.h).1) (Ju (Zf (i:=1) rfl (okV.vis Gnj.h).1) pa_nil)) rfl))
abbrev Gx:Stmt:=(Gf5 (top 2)).getD 0 (.Pass ⟨0,0,0,0⟩)
theorem sc_init_NoText:FnScope ["self","at"] ["self","at"] (Gf Gx):=kdS
theorem Ghk:OkG (Gf Gx) "SummitError":=⟨by decide +kernel⟩
theorem Xf:OkV (Gf Gx) "self":=⟨by decide +kernel⟩
theorem Gdj:OkV (Gf Gx) "at":=⟨by decide +kernel⟩
theorem Zp{P:Program}{base:Heap}{fi:Addr}(bI:BaseI K mg "SummitError" fi)(ini:IniX P w K mg base fi 1)(f:Addr)(cdv:Value)(A:Around)(outer:List PySem.Env)(s:Shared)(H:Hp)(E:XK)(hr:Room 2 (A.deeper (envOfC "NoText.__init__" (Gf Gx) s.heap.objs.size f cdv))):PSs (Qi CX0 P w K mg base ["self","at"] "NoText.__init__" (Gf Gx) f cdv A outer s H E).nox (Gw Gx) (Gjo K "the text writes nothing of the kind"):=by
 obtain⟨fd,ps,oI,l,c,F,n,b⟩:=ini.ex
 conv=>arg 2; whnf
 exact Gdv (Gcv (Gjn (gl Ghk) (by decide) bI F n hr (by decide) b (Ju (Zf (i:=0) rfl (okV.vis Xf.h).1) (Ju Ght pa_nil)) rfl)) (Gcu (Gvg (Zf (i:=0) rfl (okV.vis Xf.h).1) (Zf (i:=1) rfl (okV.vis Gdj.h).1)))
structure All(P:Program)(w:World)(K:PySem.W.Frag)(mg:Str->Option Value)(base:Heap):Prop where
 h:Hs K
 g:GH K mg
 t:Txt K mg
 J_NoText:ClJ P w K mg base "NoText" 3
section
variable{P:Program}{w:World}{K:PySem.W.Frag}{mg:Str->Option Value}{base:Heap}
def Ky:Sv:=(sq (sif (tb (o2 eqD (vr 0) (cn c_END)))
  (sret (cn (.int 0)))
  skip)
  (sret (ie (tb (o2 eqD (vr 0) (cn c_CHAMBER))) (cn (.int 1)) (o2 getD (vr 0) (cn (.int 1))))))
def Ka:Fn:=fnB 1 Ky
theorem Gbz:FnS ["place"] ["place"] (Gf Vg):=kdF
abbrev z0:=Gf Vg
theorem Gbf(Al:All P w K mg base):Cal P w K mg base "most_water" ["place"] Ka 1:=by
 have Sc:=Gbz
 have T:=Al.t
 refine calw (b:=Ky) 0 Al.h.h_most_water Al.g Sc rfl fun _ _ _ _ _ _ _ hr=>?_
 conv=>arg 3; whnf
 refine GSs.h ?_
 exact(Gb (Gv (Ud hr.units (gw 0 Sc) (T.c_END (gG z0)))
  (Gg (Gm ge_int))
  Go)
  (Gg (Gm (Yc (Ud hr.units (gw 0 Sc) (T.c_CHAMBER (gG z0))) ge_int (Gj (gw 0 Sc) ge_int)))))
def Yv:Sv:=(sq (sif (tb (o2 eqD (vr 0) (cn c_END)))
  (sret (cn (.bl true)))
  skip)
  (sret (o2 leD (vr 1) (ie (tb (o2 eqD (vr 0) (cn c_CHAMBER))) (cn (.int 1)) (o2 getD (vr 0) (cn (.int 3)))))))
def Xn:Fn:=fnB 2 Yv
theorem Gjz:FnS ["place","barges"] ["place","barges"] (Gf Gbd):=kdF
abbrev z1:=Gf Gbd
theorem Ghl(Al:All P w K mg base):Cal P w K mg base "holds" ["place","barges"] Xn 1:=by
 have Sc:=Gjz
 have T:=Al.t
 refine calw (b:=Yv) 0 Al.h.h_holds Al.g Sc rfl fun _ _ _ _ _ _ _ hr=>?_
 conv=>arg 3; whnf
 refine GSs.h ?_
 exact(Gb (Gv (Ud hr.units (gw 0 Sc) (T.c_END (gG z1)))
  (Gg (Gm Vz))
  Go)
  (Gg (Gm (Gjs (gw 1 Sc) (Yc (Ud hr.units (gw 0 Sc) (T.c_CHAMBER (gG z1))) ge_int (Gj (gw 0 Sc) ge_int))))))
def Jg:Sv:=(sq (sif (to (tn (tb (ch leD leD (cn (.int 1)) (b1 lenD (ac (vr 0) an)) (cn c_MOST_FIGURES)))) (tn (tt (b1 allD (ac (cmp (isrcS (vr 0)) [none] (gn 0) ttrue (o2 istD (vr 0) (cn c_FIGURES))) an)))))
  (sret (cn (.bl false)))
  skip)
  (sret (vo (o2 eqD (vr 0) (cn (.str "0"))) (o2 neD (o2 getD (vr 0) (cn (.int 0))) (cn (.str "0"))))))
def Wj:Fn:=fnB 1 Jg
theorem Gb0:FnS ["word"] ["word"] (Gf Vh):=kdF
abbrev z2:=Gf Vh
theorem Gbg(Al:All P w K mg base):Cal P w K mg base "is_written" ["word"] Wj 1:=by
 have Sc:=Gb0
 have T:=Al.t
 refine calw (b:=Jg) 0 Al.h.h_is_written Al.g Sc rfl fun _ _ _ _ _ _ _ hr=>?_
 conv=>arg 3; whnf
 refine GSs.h ?_
 exact(Gb (Gv (GW.jt (Kw (Zo (Gef Gdx Gfz Gdx Gfz ge_int (He (gG z2) T.b_len (Ga (gw 0 Sc) ga_nil Ge)) (T.c_MOST_FIGURES (gG z2)))) (Kg (Zo (Jm (Zn rfl (gG z2) T.b_all (Ga (Ys (N':=["sign"]) (pk:=[none]) Sc (Gjp (gw 0 Sc)) (fun cl s2 H2 C fp=>(Kx 0)) (fun cl s2 H2 C fp=>Jv) (fun cl s2 H2 C fp=>(Gsu (Kf 0) (T.c_FIGURES glB_w)))) ga_nil Hw)))))))
  (Gg (Gm Vz))
  Go)
  (Gg (Gm (Gvm (Uc hr.units (gw 0 Sc) ge_str) (Jo (Gvl hr.units (Gj (gw 0 Sc) ge_int) ge_str))))))
def Qv:Sv:=(sq (sif (to (tn (tt (cl 1 (Gp Wj) (ac (vr 0) an)))) (tn (tb (ch leD leD (vr 1) (b1 Qs (ac (vr 0) an)) (vr 2)))))
  (sret (cn .non))
  skip)
  (sret (b1 Qs (ac (vr 0) an))))
def Qw:Fn:=fnB 3 Qv
theorem Gdk:FnS ["word","least","most"] ["word","least","most"] (Gf Wf):=kdF
abbrev z3:=Gf Wf
theorem Vo(Al:All P w K mg base):Cal P w K mg base "number_of" ["word","least","most"] Qw 2:=by
 have Sc:=Gdk
 have T:=Al.t
 refine calw (b:=Qv) 1 Al.h.h_number_of Al.g Sc rfl fun _ _ _ _ _ _ _ hr=>?_
 conv=>arg 3; whnf
 refine GSs.h ?_
 exact(Gb (Gv (GW.jt (Kw (Zo (Jm (gow z3 (Gbg Al) hr (Ga (gw 0 Sc) ga_nil Ge)))) (Kg (Zo (Gef Gdx Gfz Gdx Gfz (gw 1 Sc) (Gap (gG z3) T.b_int (Ga (gw 0 Sc) ga_nil Ge)) (gw 2 Sc))))))
  (Gg (Gm Hr))
  Go)
  (Gg (Gm (Gap (gG z3) T.b_int (Ga (gw 0 Sc) ga_nil Ge)))))
def Ug:Sv:=(sq (sa (mts Ht (vr 1) (ac (cn (.str ":")) an)) (gn 3))
  (sq (sif (tb (o2 neD (b1 lenD (ac (vr 3) an)) (cn (.int 3))))
  (sret (cn .non))
  skip)
  (sq (sa (cl 3 (Gp Qw) (ac (o2 getD (vr 3) (cn (.int 0))) (ac (cn (.int 0)) (ac (cl 1 (Gp Ka) (ac (vr 0) an)) an)))) (gn 4))
  (sq (sa (cl 3 (Gp Qw) (ac (o2 getD (vr 3) (cn (.int 1))) (ac (cn (.int 0)) (ac (vr 2) an)))) (gn 5))
  (sq (sa (cl 3 (Gp Qw) (ac (o2 getD (vr 3) (cn (.int 2))) (ac (cn (.int 0)) (ac (vr 2) an)))) (gn 6))
  (sq (sif (to (tb (o2 Vx (vr 4) (cn .non))) (to (tb (o2 Vx (vr 5) (cn .non))) (tb (o2 Vx (vr 6) (cn .non)))))
  (sret (cn .non))
  skip)
  (sq (sif (to (tb (o2 gtD (o2 Jj (vr 5) (vr 6)) (vr 2))) (tn (tt (cl 2 (Gp Xn) (ac (vr 0) (ac (o2 Jj (vr 5) (vr 6)) an))))))
  (sret (cn .non))
  skip)
  (sret (tp (ac (vr 4) (ac (vr 5) (ac (vr 6) an))))))))))))
def Kb:Fn:=fnB 7 Ug
theorem Gb1:FnS ["place","word","space","words","level","right","left"] ["place","word","space"] (Gf Vi):=kdF
abbrev z4:=Gf Vi
theorem Gbh(Al:All P w K mg base):Cal P w K mg base "place_part" ["place","word","space"] Kb 3:=by
 have Sc:=Gb1
 have T:=Al.t
 refine calw (b:=Ug) 2 Al.h.h_place_part Al.g Sc rfl fun _ _ _ _ _ _ _ hr=>?_
 conv=>arg 3; whnf
 refine GSs.h ?_
 exact(Gb (gsew 3 Sc (Vy (gw 1 Sc) (Ga ge_str ga_nil Gc)))
  (Gb (Gv (Qu hr.units (He (gG z4) T.b_len (Ga (gw 3 Sc) ga_nil Ge)) ge_int)
  (Gg (Gm Hr))
  Go)
  (Gb (gsew 4 Sc (gow z4 (Vo Al) hr (Ga (Gj (gw 3 Sc) ge_int) (Ga ge_int (Ga (gow z4 (Gbf Al) hr (Ga (gw 0 Sc) ga_nil Ge)) ga_nil Hn) Gc) Gk)))
  (Gb (gsew 5 Sc (gow z4 (Vo Al) hr (Ga (Gj (gw 3 Sc) ge_int) (Ga ge_int (Ga (gw 2 Sc) ga_nil Ge) Gc) Gk)))
  (Gb (gsew 6 Sc (gow z4 (Vo Al) hr (Ga (Gj (gw 3 Sc) ge_int) (Ga ge_int (Ga (gw 2 Sc) ga_nil Ge) Gc) Gk)))
  (Gb (Gv (GW.jt (Kw (Ve (gw 4 Sc) Hr) (Kw (Ve (gw 5 Sc) Hr) (Kg (Ve (gw 6 Sc) Hr)))))
  (Gg (Gm Hr))
  Go)
  (Gb (Gv (GW.jt (Kw (Gcn (Hb (gw 5 Sc) (gw 6 Sc)) (gw 2 Sc)) (Kg (Zo (Jm (gow z4 (Ghl Al) hr (Ga (gw 0 Sc) (Ga (Hb (gw 5 Sc) (gw 6 Sc)) ga_nil Jl) Ge)))))))
  (Gg (Gm Hr))
  Go)
  (Gg (Gm (Xe (Ga (gw 4 Sc) (Ga (gw 5 Sc) (Ga (gw 6 Sc) ga_nil Ge) Ge) Ge)))))))))))
def Gu:Sv:=(sq (sa (ie (tb (o2 ltD (vr 5) (b1 lenD (ac (vr 2) an)))) (cl 3 (Gp Kb) (ac (o2 getD (vr 2) (vr 5)) (ac (vr 6) (ac (vr 4) an)))) (cn .non)) (gn 7))
  (sq (sif (tb (o2 Vx (vr 7) (cn .non)))
  (srj "NoText" (ac (vr 5) an))
  skip)
  (sq (sx (mt Xr (vr 3) (ac (vr 7) an)))
  (sag 4 (fun a b=>a-b) (o2 Jj (o2 getD (vr 7) (cn (.int 1))) (o2 getD (vr 7) (cn (.int 2))))))))
def Kz:Sv:=(sq (sa (o2 getD (vr 0) (cn (.int 0))) (gn 2))
  (sq (sa (ls an) (gn 3))
  (sq (sa (cn c_MOST_BARGES) (gn 4))
  (sq (sfor (Gbc (ac (mts Ht (vr 1) (ac (cn (.str " ")) an)) an)) (gt (gcons (gn 5) (gcons (gn 6) gnil)) 2) Gu)
  (sq (sif (tb (o2 ltD (b1 lenD (ac (vr 3) an)) (b1 lenD (ac (vr 2) an))))
  (srj "NoText" (ac (b1 lenD (ac (vr 3) an)) an))
  skip)
  (sret (b1 Qg (ac (cmp (ir1 (ac (cn (.int 3)) an)) [none,some 3] (gn 0) ttrue (b1 Qg (ac (cmp (isrc (vr 1)) [none,some 0] (gn 0) ttrue (o2 getD (vr 0) (vr 1))) an))) an))))))))
def Hf:Fn:=fnB 8 Kz
theorem Gb2:FnS ["canal","text","places","parts","space","at","word","part"] ["canal","text"] (Gf Vj):=kdF
abbrev z5:=Gf Vj
theorem Gbi(Al:All P w K mg base):CalX P w K mg base "read_stand" ["canal","text"] Hf 5:=by
 have Sc:=Gb2
 have T:=Al.t
 refine calxw (b:=Kz) 4 Al.h.h_read_stand Al.g Sc rfl fun _ _ _ _ _ _ _ _ hr L=>?_
 conv=>arg 3; whnf
 refine GSs.h ?_
 exact(Gb (gsew 2 Sc (Gj (gw 0 Sc) ge_int))
  (Gb (gsew 3 Sc (Jp ga_nil))
  (Gb (gsew 4 Sc (T.c_MOST_BARGES (gG z5)))
  (Gb (Vf L.pas rfl (Gjq (gG z5) T.b_enumerate (Ga (Vy (gw 1 Sc) (Ga ge_str ga_nil Gc)) ga_nil Hn)) (Ye rfl (Hz (ggw 5 Sc) (Hz (ggw 6 Sc) We)))
  (Gb (gsew 7 Sc (Yc (Yr (gw 5 Sc) (He (gG z5) T.b_len (Ga (gw 2 Sc) ga_nil Ge))) (gow z5 (Gbh Al) hr (Ga (Gj (gw 2 Sc) (gw 5 Sc)) (Ga (gw 6 Sc) (Ga (gw 4 Sc) ga_nil Ge) Ge) Gk)) Hr))
  (Gb (Gv (Ve (gw 7 Sc) Hr)
  (Gg (Gos z5 L Al.J_NoText hr (Ga (gw 5 Sc) ga_nil Ge)))
  Go)
  (Gb (Uf (Kt (gw 3 Sc) (Ga (gw 7 Sc) ga_nil Ge)))
  (Gg (gsdw 4 Sc (Hb (Gj (gw 7 Sc) ge_int) (Gj (gw 7 Sc) ge_int))))))))
  (Gb (Gv (Yr (He (gG z5) T.b_len (Ga (gw 3 Sc) ga_nil Ge)) (He (gG z5) T.b_len (Ga (gw 2 Sc) ga_nil Ge)))
  (Gg (Gos z5 L Al.J_NoText hr (Ga (He (gG z5) T.b_len (Ga (gw 3 Sc) ga_nil Ge)) ga_nil Hn)))
  Go)
  (Gg (Gm (Kv (gG z5) T.b_tuple (Ga (Ys (N':=["row","parts"]) (pk:=[none,some 3]) Sc (Ku (gG z5) T.b_range (Ga ge_int ga_nil Gc)) (fun cl s2 H2 C fp=>(Kx 0)) (fun cl s2 H2 C fp=>Jv) (fun cl s2 H2 C fp=>(Kv glB_w T.b_tuple (Ga (Gfi (N':=["part","row"]) (pk:=[none,some 0]) kdC rfl (Yd (Kf 1)) (fun cl s2 H2 C fp=>(Kx 0)) (fun cl s2 H2 C fp=>Jv) (fun cl s2 H2 C fp=>(Gj (Kf 0) (Kf 1)))) ga_nil Hw)))) ga_nil Hw)))))))))
def Wk:Sv:=(sq (sa (o2 Xq (o2 Xx (o2 Jj (o2 Jj (o2 Xq (vr 0) (cn (.int 1000000007))) (o2 Xx (cn (.int 40692)) (vr 1))) (cn (.int 1))) (cn (.int 48271))) (cn (.int 2147483647))) (gn 2))
  (sq (sa (o2 Xq (o2 Xx (vr 2) (vr 2)) (cn (.int 998244353))) (gn 2))
  (sret (o2 Yn (o2 Xq (o2 Jj (o2 Xx (vr 2) (cn (.int 69621))) (o2 Xx (cn (.int 7919)) (vr 1))) (cn (.int 1000000007))) (cn (.int 7))))))
def Jq:Fn:=fnB 3 Wk
theorem Gb3:FnS ["cell","turn","stir"] ["cell","turn"] (Gf Vk):=kdF
abbrev z6:=Gf Vk
theorem Xg(Al:All P w K mg base):Cal P w K mg base "_law_mixed" ["cell","turn"] Jq 1:=by
 have Sc:=Gb3
 refine calw (b:=Wk) 0 Al.h.h__law_mixed Al.g Sc rfl fun _ _ _ _ _ _ _ hr=>?_
 conv=>arg 3; whnf
 refine GSs.h ?_
 exact(Gb (gsew 2 Sc (Wd (Yb (Hb (Hb (Wd (gw 0 Sc) ge_int) (Yb ge_int (gw 1 Sc))) ge_int) ge_int) ge_int))
  (Gb (gsew 2 Sc (Wd (Yb (gw 2 Sc) (gw 2 Sc)) ge_int))
  (Gg (Gm (Gar (Wd (Hb (Yb (gw 2 Sc) ge_int) (Yb ge_int (gw 1 Sc))) ge_int) ge_int)))))
def Um:Sv:=(sa (o2 Xq (o2 Jj (o2 Xx (vr 1) (cn (.int 69621))) (vr 2)) (cn (.int 2147483647))) (gn 1))
def Qx:Sv:=(sq (sa (cn (.int 0)) (gn 1))
  (sq (sfor (isrc (sl2 (vr 0) onone (osome (cn (.int 63))))) (gn 2) Um)
  (sret (ls (ac (b1 Zv (ac (sl2 (vr 0) onone (osome (cn (.int 63)))) an)) (ac (cn (.int 0)) (ac (vr 1) (ac (cn (.int 0)) an))))))))
def Uy:Fn:=fnB 3 Qx
theorem Gdl:FnS ["script","seed","cell"] ["script"] (Gf Wg):=kdF
abbrev z7:=Gf Wg
theorem Gb4(Al:All P w K mg base):Cal P w K mg base "_law_tape" ["script"] Uy 1:=by
 have Sc:=Gdl
 have T:=Al.t
 refine calw (b:=Qx) 0 Al.h.h__law_tape Al.g Sc rfl fun _ _ _ _ _ _ _ hr=>?_
 conv=>arg 3; whnf
 refine GSs.h ?_
 exact(Gb (gsew 1 Sc ge_int)
  (Gb (Vf PassesOwn.never rfl (Yd (Zm (gw 0 Sc) Gdh (Gdi ge_int))) (ggw 2 Sc)
  (Gg (gsew 1 Sc (Wd (Hb (Yb (gw 1 Sc) ge_int) (gw 2 Sc)) ge_int))))
  (Gg (Gm (Jp (Ga (Gm8 (gG z7) T.b_list (Ga (Zm (gw 0 Sc) Gdh (Gdi ge_int)) ga_nil Gk)) (Ga ge_int (Ga (gw 1 Sc) (Ga ge_int ga_nil Gc) Ge) Gc) Hn))))))
def Zz:Sv:=(sq (ss (o2 Jj (o2 getD (vr 0) (cn (.int 3))) (cn (.int 1))) (vr 0) (cn (.int 3)) Ut)
  (sq (sif (ta (tb (o2 eqD (o2 getD (vr 0) (cn (.int 1))) (cn (.int 0)))) (tb (o2 gtD (b1 lenD (ac (o2 getD (vr 0) (cn (.int 0))) an)) (cn (.int 0)))))
  (sq (sa (mt Gd6 (o2 getD (vr 0) (cn (.int 0))) (ac (cn (.int 0)) an)) (gn 2))
  (sq (sif (tb (o2 ltD (vr 2) (o2 Gd2 (cn (.int 10)) (cn (.int 18)))))
  (sret (o2 Xq (cl 2 (Gp Jq) (ac (vr 2) (ac (o2 getD (vr 0) (cn (.int 3))) an))) (vr 1)))
  skip)
  (ss (vr 2) (vr 0) (cn (.int 1)) Ut)))
  skip)
  (sq (sif (tb (o2 gtD (o2 getD (vr 0) (cn (.int 1))) (cn (.int 0))))
  (sq (sa (o2 Xq (o2 getD (vr 0) (cn (.int 1))) (vr 1)) (gn 3))
  (sq (ss (o2 Yn (o2 getD (vr 0) (cn (.int 1))) (vr 1)) (vr 0) (cn (.int 1)) Ut)
  (sret (vr 3))))
  skip)
  (sret (o2 Xq (cl 2 (Gp Jq) (ac (o2 getD (vr 0) (cn (.int 2))) (ac (o2 getD (vr 0) (cn (.int 3))) an))) (vr 1))))))
def Gh:Fn:=fnB 4 Zz
theorem Gdm:FnS ["tape","many","cell","found"] ["tape","many"] (Gf Wh):=kdF
abbrev z8:=Gf Wh
theorem Gi(Al:All P w K mg base):Cal P w K mg base "_law_take" ["tape","many"] Gh 2:=by
 have Sc:=Gdm
 have T:=Al.t
 refine calw (b:=Zz) 1 Al.h.h__law_take Al.g Sc rfl fun _ _ _ _ _ _ _ hr=>?_
 conv=>arg 3; whnf
 refine GSs.h ?_
 exact(Gb (Uj (Hb (Gj (gw 0 Sc) ge_int) ge_int) (gw 0 Sc) ge_int)
  (Gb (Gv (GW.jt (Gdg (Ud hr.units (Gj (gw 0 Sc) ge_int) ge_int) (Gdf (Gcn (He (gG z8) T.b_len (Ga (Gj (gw 0 Sc) ge_int) ga_nil Gk)) ge_int))))
  (Gb (gsew 2 Sc (Gsy (Gj (gw 0 Sc) ge_int) (Ga ge_int ga_nil Gc)))
  (Gb (Gv (Yr (gw 2 Sc) (Gsv ge_int ge_int))
  (Gg (Gm (Wd (gow z8 (Xg Al) hr (Ga (gw 2 Sc) (Ga (Gj (gw 0 Sc) ge_int) ga_nil Gk) Ge)) (gw 1 Sc))))
  Go)
  (Gg (Uj (gw 2 Sc) (gw 0 Sc) ge_int))))
  Go)
  (Gb (Gv (Gcn (Gj (gw 0 Sc) ge_int) ge_int)
  (Gb (gsew 3 Sc (Wd (Gj (gw 0 Sc) ge_int) (gw 1 Sc)))
  (Gb (Uj (Gar (Gj (gw 0 Sc) ge_int) (gw 1 Sc)) (gw 0 Sc) ge_int)
  (Gg (Gm (gw 3 Sc)))))
  Go)
  (Gg (Gm (Wd (gow z8 (Xg Al) hr (Ga (Gj (gw 0 Sc) ge_int) (Ga (Gj (gw 0 Sc) ge_int) ga_nil Gk) Gk)) (gw 1 Sc)))))))
def Kc:Sv:=(sif (ta (tb (o2 eqD (o2 getD (vr 2) (o1 Gfc (cn (.int 1)))) (tp (ac (cn (.str "chamber")) an)))) (ta (tb (o2 ltD (vr 3) (o2 Zi (vr 1) (cn (.int 1))))) (tb (o2 gtD (cl 2 (Gp Gh) (ac (vr 0) (ac (cn (.int 3)) an))) (cn (.int 0))))))
  (sq (sa (o2 Jj (cn (.int 1)) (cl 2 (Gp Gh) (ac (vr 0) (ac (cn (.int 9)) an)))) (gn 4))
  (sq (sa (cl 2 (Gp Gh) (ac (vr 0) (ac (o2 Jj (vr 4) (cn (.int 1))) an))) (gn 5))
  (sq (sa (o2 Jj (cn (.int 1)) (cl 2 (Gp Gh) (ac (vr 0) (ac (cn (.int 4)) an)))) (gn 6))
  (sq (sa (cl 2 (Gp Gh) (ac (vr 0) (ac (cn (.int 134)) an))) (gn 7))
  (sx (mt Xr (vr 2) (ac (tp (ac (cn (.str "pound")) (ac (vr 4) (ac (vr 5) (ac (vr 6) (ac (ie (tb (o2 ltD (vr 7) (cn (.int 100)))) (vr 7) (cn .non)) an)))))) an)))))))
  (sx (mt Xr (vr 2) (ac (tp (ac (cn (.str "chamber")) an)) an))))
def Ki:Sv:=(sq (sa (ls (ac (tp (ac (cn (.str "end")) an)) an)) (gn 2))
  (sq (sfor (ir1 (ac (vr 1) an)) (gn 3) Kc)
  (sret (b1 Qg (ac (o2 Jj (vr 2) (ls (ac (tp (ac (cn (.str "end")) an)) an))) an)))))
def Vp:Fn:=fnB 8 Ki
theorem Gbj:FnS ["tape","many","places","at","brim","deep","room","price"] ["tape","many"] (Gf Uk):=kdF
abbrev z9:=Gf Uk
theorem Gaf(Al:All P w K mg base):Cal P w K mg base "_law_places" ["tape","many"] Vp 3:=by
 have Sc:=Gbj
 have T:=Al.t
 refine calw (b:=Ki) 2 Al.h.h__law_places Al.g Sc rfl fun _ _ _ _ _ _ _ hr=>?_
 conv=>arg 3; whnf
 refine GSs.h ?_
 exact(Gb (gsew 2 Sc (Jp (Ga (Xe (Ga ge_str ga_nil Gc)) ga_nil Ym)))
  (Gb (Vf PassesOwn.never rfl (Ku (gG z9) T.b_range (Ga (gw 1 Sc) ga_nil Ge)) (ggw 3 Sc)
  (Gg (Gv (GW.jt (Gdg (Ud hr.units (Gj (gw 2 Sc) (Gjt ge_int)) (Xe (Ga ge_str ga_nil Gc))) (Gdg (Yr (gw 3 Sc) (Xd (gw 1 Sc) ge_int)) (Gdf (Gcn (gow z9 (Gi Al) hr (Ga (gw 0 Sc) (Ga ge_int ga_nil Gc) Ge)) ge_int)))))
  (Gb (gsew 4 Sc (Hb ge_int (gow z9 (Gi Al) hr (Ga (gw 0 Sc) (Ga ge_int ga_nil Gc) Ge))))
  (Gb (gsew 5 Sc (gow z9 (Gi Al) hr (Ga (gw 0 Sc) (Ga (Hb (gw 4 Sc) ge_int) ga_nil Jl) Ge)))
  (Gb (gsew 6 Sc (Hb ge_int (gow z9 (Gi Al) hr (Ga (gw 0 Sc) (Ga ge_int ga_nil Gc) Ge))))
  (Gb (gsew 7 Sc (gow z9 (Gi Al) hr (Ga (gw 0 Sc) (Ga ge_int ga_nil Gc) Ge)))
  (Gg (Uf (Kt (gw 2 Sc) (Ga (Xe (Ga ge_str (Ga (gw 4 Sc) (Ga (gw 5 Sc) (Ga (gw 6 Sc) (Ga (Yc (Yr (gw 7 Sc) ge_int) (gw 7 Sc) Hr) ga_nil Gd7) Ge) Ge) Ge) Gc)) ga_nil Ym))))))))
  (Gg (Uf (Kt (gw 2 Sc) (Ga (Xe (Ga ge_str ga_nil Gc)) ga_nil Ym)))))))
  (Gg (Gm (Kv (gG z9) T.b_tuple (Ga (Hb (gw 2 Sc) (Jp (Ga (Xe (Ga ge_str ga_nil Gc)) ga_nil Ym))) ga_nil Jl))))))
def Ub:Sv:=(sq (sa (o2 ltD (vr 6) (vr 3)) (gn 7))
  (sq (sif (tb (o2 eqD (vr 4) (cn (.int 0))))
  (sa (o2 eqD (cl 2 (Gp Gh) (ac (vr 0) (ac (cn (.int 2)) an))) (cn (.int 1))) (gn 7))
  skip)
  (sx (mt Xr (vr 5) (ac (ie (tt (vr 7)) (cn (.str "up")) (cn (.str "down"))) an)))))
def Qa:Sv:=(sq (sa (o2 Jj (cn (.int 1)) (cl 2 (Gp Gh) (ac (vr 0) (ac (o2 getD (ls (ac (cn (.int 1)) (ac (cn (.int 4)) (ac (cn (.int 11)) an)))) (cl 2 (Gp Gh) (ac (vr 0) (ac (cn (.int 3)) an)))) an)))) (gn 1))
  (sq (sa (cl 2 (Gp Vp) (ac (vr 0) (ac (vr 1) an))) (gn 2))
  (sq (sa (cl 2 (Gp Gh) (ac (vr 0) (ac (o2 Jj (vr 1) (cn (.int 2))) an))) (gn 3))
  (sq (sa (cl 2 (Gp Gh) (ac (vr 0) (ac (cn (.int 2)) an))) (gn 4))
  (sq (sa (ls an) (gn 5))
  (sq (sfor (ir1 (ac (o2 Jj (vr 1) (cn (.int 1))) an)) (gn 6) Ub)
  (sret (tp (ac (vr 2) (ac (b1 Qg (ac (vr 5) an)) an))))))))))
def Qb:Fn:=fnB 8 Qa
theorem Gb5:FnS ["tape","many","places","top","hill","gates","gate","up"] ["tape"] (Gf Vl):=kdF
abbrev z10:=Gf Vl
theorem Gbk(Al:All P w K mg base):Cal P w K mg base "_law_canal" ["tape"] Qb 4:=by
 have Sc:=Gb5
 have T:=Al.t
 refine calw (b:=Qa) 3 Al.h.h__law_canal Al.g Sc rfl fun _ _ _ _ _ _ _ hr=>?_
 conv=>arg 3; whnf
 refine GSs.h ?_
 exact(Gb (gsew 1 Sc (Hb ge_int (gow z10 (Gi Al) hr (Ga (gw 0 Sc) (Ga (Gj (Jp (Ga ge_int (Ga ge_int (Ga ge_int ga_nil Gc) Gc) Gc)) (gow z10 (Gi Al) hr (Ga (gw 0 Sc) (Ga ge_int ga_nil Gc) Ge))) ga_nil Gk) Ge))))
  (Gb (gsew 2 Sc (gow z10 (Gaf Al) hr (Ga (gw 0 Sc) (Ga (gw 1 Sc) ga_nil Ge) Ge)))
  (Gb (gsew 3 Sc (gow z10 (Gi Al) hr (Ga (gw 0 Sc) (Ga (Hb (gw 1 Sc) ge_int) ga_nil Jl) Ge)))
  (Gb (gsew 4 Sc (gow z10 (Gi Al) hr (Ga (gw 0 Sc) (Ga ge_int ga_nil Gc) Ge)))
  (Gb (gsew 5 Sc (Jp ga_nil))
  (Gb (Vf PassesOwn.never rfl (Ku (gG z10) T.b_range (Ga (Hb (gw 1 Sc) ge_int) ga_nil Jl)) (ggw 6 Sc)
  (Gb (gsew 7 Sc (Gjr (gw 6 Sc) (gw 3 Sc)))
  (Gb (Gv (Ud hr.units (gw 4 Sc) ge_int)
  (Gg (gsew 7 Sc (Uc hr.units (gow z10 (Gi Al) hr (Ga (gw 0 Sc) (Ga ge_int ga_nil Gc) Ge)) ge_int)))
  Go)
  (Gg (Uf (Kt (gw 5 Sc) (Ga (Yc (Jm (gw 7 Sc)) ge_str ge_str) ga_nil Gd7)))))))
  (Gg (Gm (Xe (Ga (gw 2 Sc) (Ga (Kv (gG z10) T.b_tuple (Ga (gw 5 Sc) ga_nil Ge)) ga_nil Hn) Ge))))))))))
def Kn:Sv:=(sq (sa (b1 Gda (ac (o2 eqD (o2 getD (vr 4) (cn (.int 0))) (cn (.str "chamber"))) an)) (gn 5))
  (sq (sa (b1 Gda (ac (o2 eqD (o2 getD (vr 4) (cn (.int 0))) (cn (.str "chamber"))) an)) (gn 6))
  (sq (sif (tb (o2 eqD (o2 getD (vr 4) (cn (.int 0))) (cn (.str "pound"))))
  (sq (sa (o2 getD (vr 4) (cn (.int 1))) (gn 5))
  (sa (o2 getD (vr 4) (cn (.int 3))) (gn 6)))
  skip)
  (sq (sx (mt Xr (vr 2) (ac (cl 2 (Gp Gh) (ac (vr 0) (ac (o2 Jj (vr 5) (cn (.int 1))) an))) an)))
  (sq (sa (cl 2 (Gp Gh) (ac (vr 0) (ac (o2 Jj (vr 6) (cn (.int 1))) an))) (gn 7))
  (sq (sx (mt Xr (o2 getD (vr 3) (cn (.int 0))) (ac (cl 2 (Gp Gh) (ac (vr 0) (ac (o2 Jj (vr 7) (cn (.int 1))) an))) an)))
  (sx (mt Xr (o2 getD (vr 3) (cn (.int 1))) (ac (o2 Zi (vr 7) (o2 getD (o2 getD (vr 3) (cn (.int 0))) (o1 Gfc (cn (.int 1))))) an)))))))))
def Ko:Sv:=(sq (sa (o2 Xx (o2 Xq (vr 9) (cn (.int 2))) (o2 Zi (b1 lenD (ac (vr 2) an)) (cn (.int 1)))) (gn 10))
  (sq (ss (cl 2 (Gp Gh) (ac (vr 0) (ac (o2 Jj (b1 Ggz (ac (vr 8) (ac (o2 getD (ls (ac (cn (.int 2)) (ac (cn (.int 60)) an))) (cl 2 (Gp Gh) (ac (vr 0) (ac (cn (.int 2)) an)))) an))) (cn (.int 1))) an))) (o2 getD (vr 3) (o2 Yn (vr 9) (cn (.int 2)))) (vr 10) Ut)
  (sa (o2 Zi (vr 8) (o2 getD (o2 getD (vr 3) (o2 Yn (vr 9) (cn (.int 2)))) (vr 10))) (gn 8))))
def Qc:Sv:=(sq (sa (ls an) (gn 2))
  (sq (sa (ls (ac (ls an) (ac (ls an) an))) (gn 3))
  (sq (sfor (isrc (o2 getD (vr 1) (cn (.int 0)))) (gn 4) Kn)
  (sq (sa (o2 Zi (o2 Zi (cn (.int 60)) (b1 Gbx (ac (o2 getD (vr 3) (cn (.int 0))) an))) (b1 Gbx (ac (o2 getD (vr 3) (cn (.int 1))) an))) (gn 8))
  (sq (sfor (ir1 (ac (cn (.int 4)) an)) (gn 9) Ko)
  (sret (tp (ac (b1 Qg (ac (vr 2) an)) (ac (b1 Qg (ac (o2 getD (vr 3) (cn (.int 0))) an)) (ac (b1 Qg (ac (o2 getD (vr 3) (cn (.int 1))) an)) an))))))))))
def Qd:Fn:=fnB 11 Qc
theorem Gb6:FnS ["tape","canal","levels","rows","place","top","room","many","rest","k","at"] ["tape","canal"] (Gf Vm):=kdF
abbrev z11:=Gf Vm
theorem Gbl(Al:All P w K mg base):Cal P w K mg base "_law_stand" ["tape","canal"] Qd 3:=by
 have Sc:=Gb6
 have T:=Al.t
 refine calw (b:=Qc) 2 Al.h.h__law_stand Al.g Sc rfl fun _ _ _ _ _ _ _ hr=>?_
 conv=>arg 3; whnf
 refine GSs.h ?_
 exact(Gb (gsew 2 Sc (Jp ga_nil))
  (Gb (gsew 3 Sc (Jp (Ga (Jp ga_nil) (Ga (Jp ga_nil) ga_nil Gdd) Gdd)))
  (Gb (Vf PassesOwn.never rfl (Yd (Gj (gw 1 Sc) ge_int)) (ggw 4 Sc)
  (Gb (gsew 5 Sc (Gf4 (gG z11) T.b_int (Ga (Uc hr.units (Gj (gw 4 Sc) ge_int) ge_str) ga_nil Ga5)))
  (Gb (gsew 6 Sc (Gf4 (gG z11) T.b_int (Ga (Uc hr.units (Gj (gw 4 Sc) ge_int) ge_str) ga_nil Ga5)))
  (Gb (Gv (Ud hr.units (Gj (gw 4 Sc) ge_int) ge_str)
  (Gb (gsew 5 Sc (Gj (gw 4 Sc) ge_int))
  (Gg (gsew 6 Sc (Gj (gw 4 Sc) ge_int))))
  Go)
  (Gb (Uf (Kt (gw 2 Sc) (Ga (gow z11 (Gi Al) hr (Ga (gw 0 Sc) (Ga (Hb (gw 5 Sc) ge_int) ga_nil Jl) Ge)) ga_nil Hn)))
  (Gb (gsew 7 Sc (gow z11 (Gi Al) hr (Ga (gw 0 Sc) (Ga (Hb (gw 6 Sc) ge_int) ga_nil Jl) Ge)))
  (Gb (Uf (Kt (Gj (gw 3 Sc) ge_int) (Ga (gow z11 (Gi Al) hr (Ga (gw 0 Sc) (Ga (Hb (gw 7 Sc) ge_int) ga_nil Jl) Ge)) ga_nil Hn)))
  (Gg (Uf (Kt (Gj (gw 3 Sc) ge_int) (Ga (Xd (gw 7 Sc) (Gj (Gj (gw 3 Sc) ge_int) (Gjt ge_int))) ga_nil Jl)))))))))))
  (Gb (gsew 8 Sc (Xd (Xd ge_int (Gju rfl (gG z11) T.b_sum (Ga (Gj (gw 3 Sc) ge_int) ga_nil Gk))) (Gju rfl (gG z11) T.b_sum (Ga (Gj (gw 3 Sc) ge_int) ga_nil Gk))))
  (Gb (Vf PassesOwn.never rfl (Ku (gG z11) T.b_range (Ga ge_int ga_nil Gc)) (ggw 9 Sc)
  (Gb (gsew 10 Sc (Yb (Wd (gw 9 Sc) ge_int) (Xd (He (gG z11) T.b_len (Ga (gw 2 Sc) ga_nil Ge)) ge_int)))
  (Gb (Uj (gow z11 (Gi Al) hr (Ga (gw 0 Sc) (Ga (Hb (Gsx rfl (gG z11) T.b_min (Ga (gw 8 Sc) (Ga (Gj (Jp (Ga ge_int (Ga ge_int ga_nil Gc) Gc)) (gow z11 (Gi Al) hr (Ga (gw 0 Sc) (Ga ge_int ga_nil Gc) Ge))) ga_nil Gk) Ge)) ge_int) ga_nil Jl) Ge)) (Gj (gw 3 Sc) (Gar (gw 9 Sc) ge_int)) (gw 10 Sc))
  (Gg (gsew 8 Sc (Xd (gw 8 Sc) (Gj (Gj (gw 3 Sc) (Gar (gw 9 Sc) ge_int)) (gw 10 Sc))))))))
  (Gg (Gm (Xe (Ga (Kv (gG z11) T.b_tuple (Ga (gw 2 Sc) ga_nil Ge)) (Ga (Kv (gG z11) T.b_tuple (Ga (Gj (gw 3 Sc) ge_int) ga_nil Gk)) (Ga (Kv (gG z11) T.b_tuple (Ga (Gj (gw 3 Sc) ge_int) ga_nil Gk)) ga_nil Hn) Hn) Hn)))))))))
def Jy:Sv:=(sx (mt Xr (vr 1) (ac (o2 Jj (o2 Jj (o2 Jj (o2 Jj (b1 Ga9 (ac (vr 2) an)) (cn (.str ":"))) (b1 Ga9 (ac (vr 3) an))) (cn (.str ":"))) (b1 Ga9 (ac (vr 4) an))) an)))
def Jh:Sv:=(sq (sa (ls an) (gn 1))
  (sq (sfor (Gi5 (ac (o2 getD (vr 0) (cn (.int 0))) (ac (o2 getD (vr 0) (cn (.int 1))) (ac (o2 getD (vr 0) (cn (.int 2))) an)))) (gt (gcons (gn 2) (gcons (gn 3) (gcons (gn 4) gnil))) 3) Jy)
  (sret (mts Qr (cn (.str " ")) (ac (vr 1) an)))))
def Ji:Fn:=fnB 5 Jh
theorem Yf:FnS ["stand","parts","level","right","left"] ["stand"] (Gf Kq):=kdF
abbrev z12:=Gf Kq
theorem Xs(Al:All P w K mg base):Cal P w K mg base "_law_stand_text" ["stand"] Ji 1:=by
 have Sc:=Yf
 have T:=Al.t
 refine calw (b:=Jh) 0 Al.h.h__law_stand_text Al.g Sc rfl fun _ _ _ _ _ _ _ hr=>?_
 conv=>arg 3; whnf
 refine GSs.h ?_
 exact(Gb (gsew 1 Sc (Jp ga_nil))
  (Gb (Vf PassesOwn.never rfl (Gna (gG z12) T.b_zip (Ga (Gj (gw 0 Sc) ge_int) (Ga (Gj (gw 0 Sc) ge_int) (Ga (Gj (gw 0 Sc) ge_int) ga_nil Gk) Gk) Gk)) (Ye rfl (Hz (ggw 2 Sc) (Hz (ggw 3 Sc) (Hz (ggw 4 Sc) We))))
  (Gg (Uf (Kt (gw 1 Sc) (Ga (Hb (Hb (Hb (Hb (Gas (gG z12) T.b_str (Ga (gw 2 Sc) ga_nil Ge)) ge_str) (Gas (gG z12) T.b_str (Ga (gw 3 Sc) ga_nil Ge))) ge_str) (Gas (gG z12) T.b_str (Ga (gw 4 Sc) ga_nil Ge))) ga_nil Jl)))))
  (Gg (Gm (Gaq ge_str (Ga (gw 1 Sc) ga_nil Ge))))))
def Vq:Sv:=(sret (va (o1 (isD "int") (vr 0)) (vn (o1 (isD "bool") (vr 0)))))
def Kj:Fn:=fnB 1 Vq
theorem Gbm:FnS ["found"] ["found"] (Gf Ul):=kdF
abbrev z13:=Gf Ul
theorem Je(Al:All P w K mg base):Cal P w K mg base "_law_number" ["found"] Kj 1:=by
 have Sc:=Gbm
 have T:=Al.t
 refine calw (b:=Vq) 0 Al.h.h__law_number Al.g Sc rfl fun _ _ _ _ _ _ _ hr=>?_
 conv=>arg 3; whnf
 refine GSs.h ?_
 exact(Gg (Gm (Jn (Gs (gG z13) (gG z13) Gl8 T.b_isinstance T.b_int (gw 0 Sc)) (Jo (Gfh (Gs (gG z13) (gG z13) Giv T.b_isinstance T.b_bool (gw 0 Sc)))))))
def Gy(fr:Fn):Sv:=(sq (sif (to (tt (o1 (isD "tuple") (vr 1))) (tt (o1 (isD "list") (vr 1))))
  (sq (sif (to (tb (o2 neD (o1 (isD "tuple") (vr 0)) (o1 (isD "tuple") (vr 1)))) (tb (o2 neD (o1 (isD "list") (vr 0)) (o1 (isD "list") (vr 1)))))
  (sret (cn (.bl false)))
  skip)
  (sq (sif (tb (o2 neD (b1 lenD (ac (vr 0) an)) (b1 lenD (ac (vr 1) an))))
  (sret (cn (.bl false)))
  skip)
  (sret (b1 allD (ac (cmp (Gf7 (ac (vr 0) (ac (vr 1) an))) [none,none] (gt (gcons (gn 0) (gcons (gn 1) gnil)) 2) ttrue (cl 2 (Gp fr) (ac (vr 0) (ac (vr 1) an)))) an)))))
  skip)
  (sq (sif (tb (o2 Vx (vr 1) (cn .non)))
  (sret (o2 Vx (vr 0) (cn .non)))
  skip)
  (sq (sif (tt (o1 (isD "str") (vr 1)))
  (sret (va (o1 (isD "str") (vr 0)) (o2 eqD (vr 0) (vr 1))))
  skip)
  (sret (va (cl 1 (Gp Kj) (ac (vr 0) an)) (o2 eqD (vr 0) (vr 1)))))))
def Qo:Fn:=fun _ _=>.bad
def Vr:Fn:=fnB 2 (Gy Qo)
def Vs:Fn:=fnB 2 (Gy Vr)
def Vt:Fn:=fnB 2 (Gy Vs)
def Vu:Fn:=fnB 2 (Gy Vt)
def Xt:Fn:=fnB 2 (Gy Vu)
def Xh:Fn:=Xt
theorem Qe:FnS ["found","due"] ["found","due"] (Gf Wi):=kdF
abbrev z14:=Gf Wi
theorem Gag(Al:All P w K mg base):Cal P w K mg base "_law_same" ["found","due"] Qo 2:=let ⟨_,X,G⟩:=Al.g; Gmk (Al.h.h__law_same.dn X G fun _ _ _ _ _ _ us hl=>match us,hl with | [_,_],_=>rfl)
theorem Gah(Al:All P w K mg base):Cal P w K mg base "_law_same" ["found","due"] Vr 3:=by
 have Sc:=Qe
 have T:=Al.t
 have C_REC:=Gag Al
 refine calw (b:=Gy Qo) 2 Al.h.h__law_same Al.g Sc rfl fun _ _ _ _ _ _ _ hr=>?_
 conv=>arg 3; whnf
 refine GSs.h ?_
 exact(Gb (Gv (GW.jt (Kw (Jm (Gs (gG z14) (gG z14) Hk T.b_isinstance T.b_tuple (gw 1 Sc))) (Kg (Jm (Gs (gG z14) (gG z14) Hy T.b_isinstance T.b_list (gw 1 Sc))))))
  (Gb (Gv (GW.jt (Kw (Qu hr.units (Gs (gG z14) (gG z14) Hk T.b_isinstance T.b_tuple (gw 0 Sc)) (Gs (gG z14) (gG z14) Hk T.b_isinstance T.b_tuple (gw 1 Sc))) (Kg (Qu hr.units (Gs (gG z14) (gG z14) Hy T.b_isinstance T.b_list (gw 0 Sc)) (Gs (gG z14) (gG z14) Hy T.b_isinstance T.b_list (gw 1 Sc))))))
  (Gg (Gm Vz))
  Go)
  (Gb (Gv (Qu hr.units (He (gG z14) T.b_len (Ga (gw 0 Sc) ga_nil Ge)) (He (gG z14) T.b_len (Ga (gw 1 Sc) ga_nil Ge)))
  (Gg (Gm Vz))
  Go)
  (Gg (Gm (Zn rfl (gG z14) T.b_all (Ga (Ys (N':=["one","other"]) (pk:=[none,none]) Sc (Yt (gG z14) T.b_zip (Ga (gw 0 Sc) (Ga (gw 1 Sc) ga_nil Ge) Ge)) (fun cl s2 H2 C fp=>(Ye rfl (Hz (Kx 0) (Hz (Kx 1) We)))) (fun cl s2 H2 C fp=>Jv) (fun cl s2 H2 C fp=>(Gfj C_REC hr (Ga (Kf 0) (Ga (Kf 1) ga_nil Ge) Ge)))) ga_nil Hw))))))
  Go)
  (Gb (Gv (Ve (gw 1 Sc) Hr)
  (Gg (Gm (Zl (gw 0 Sc) Hr)))
  Go)
  (Gb (Gv (Jm (Gs (gG z14) (gG z14) Qm T.b_isinstance T.b_str (gw 1 Sc)))
  (Gg (Gm (Jn (Gs (gG z14) (gG z14) Qm T.b_isinstance T.b_str (gw 0 Sc)) (Jo (Uc hr.units (gw 0 Sc) (gw 1 Sc))))))
  Go)
  (Gg (Gm (Jn (gow z14 (Je Al) hr (Ga (gw 0 Sc) ga_nil Ge)) (Jo (Uc hr.units (gw 0 Sc) (gw 1 Sc)))))))))
theorem Gai(Al:All P w K mg base):Cal P w K mg base "_law_same" ["found","due"] Vs 4:=by
 have Sc:=Qe
 have T:=Al.t
 have C_REC:=Gah Al
 refine calw (b:=Gy Vr) 3 Al.h.h__law_same Al.g Sc rfl fun _ _ _ _ _ _ _ hr=>?_
 conv=>arg 3; whnf
 refine GSs.h ?_
 exact(Gb (Gv (GW.jt (Kw (Jm (Gs (gG z14) (gG z14) Hk T.b_isinstance T.b_tuple (gw 1 Sc))) (Kg (Jm (Gs (gG z14) (gG z14) Hy T.b_isinstance T.b_list (gw 1 Sc))))))
  (Gb (Gv (GW.jt (Kw (Qu hr.units (Gs (gG z14) (gG z14) Hk T.b_isinstance T.b_tuple (gw 0 Sc)) (Gs (gG z14) (gG z14) Hk T.b_isinstance T.b_tuple (gw 1 Sc))) (Kg (Qu hr.units (Gs (gG z14) (gG z14) Hy T.b_isinstance T.b_list (gw 0 Sc)) (Gs (gG z14) (gG z14) Hy T.b_isinstance T.b_list (gw 1 Sc))))))
  (Gg (Gm Vz))
  Go)
  (Gb (Gv (Qu hr.units (He (gG z14) T.b_len (Ga (gw 0 Sc) ga_nil Ge)) (He (gG z14) T.b_len (Ga (gw 1 Sc) ga_nil Ge)))
  (Gg (Gm Vz))
  Go)
  (Gg (Gm (Zn rfl (gG z14) T.b_all (Ga (Ys (N':=["one","other"]) (pk:=[none,none]) Sc (Yt (gG z14) T.b_zip (Ga (gw 0 Sc) (Ga (gw 1 Sc) ga_nil Ge) Ge)) (fun cl s2 H2 C fp=>(Ye rfl (Hz (Kx 0) (Hz (Kx 1) We)))) (fun cl s2 H2 C fp=>Jv) (fun cl s2 H2 C fp=>(Gfj C_REC hr (Ga (Kf 0) (Ga (Kf 1) ga_nil Ge) Ge)))) ga_nil Hw))))))
  Go)
  (Gb (Gv (Ve (gw 1 Sc) Hr)
  (Gg (Gm (Zl (gw 0 Sc) Hr)))
  Go)
  (Gb (Gv (Jm (Gs (gG z14) (gG z14) Qm T.b_isinstance T.b_str (gw 1 Sc)))
  (Gg (Gm (Jn (Gs (gG z14) (gG z14) Qm T.b_isinstance T.b_str (gw 0 Sc)) (Jo (Uc hr.units (gw 0 Sc) (gw 1 Sc))))))
  Go)
  (Gg (Gm (Jn (gow z14 (Je Al) hr (Ga (gw 0 Sc) ga_nil Ge)) (Jo (Uc hr.units (gw 0 Sc) (gw 1 Sc)))))))))
theorem Gaj(Al:All P w K mg base):Cal P w K mg base "_law_same" ["found","due"] Vt 5:=by
 have Sc:=Qe
 have T:=Al.t
 have C_REC:=Gai Al
 refine calw (b:=Gy Vs) 4 Al.h.h__law_same Al.g Sc rfl fun _ _ _ _ _ _ _ hr=>?_
 conv=>arg 3; whnf
 refine GSs.h ?_
 exact(Gb (Gv (GW.jt (Kw (Jm (Gs (gG z14) (gG z14) Hk T.b_isinstance T.b_tuple (gw 1 Sc))) (Kg (Jm (Gs (gG z14) (gG z14) Hy T.b_isinstance T.b_list (gw 1 Sc))))))
  (Gb (Gv (GW.jt (Kw (Qu hr.units (Gs (gG z14) (gG z14) Hk T.b_isinstance T.b_tuple (gw 0 Sc)) (Gs (gG z14) (gG z14) Hk T.b_isinstance T.b_tuple (gw 1 Sc))) (Kg (Qu hr.units (Gs (gG z14) (gG z14) Hy T.b_isinstance T.b_list (gw 0 Sc)) (Gs (gG z14) (gG z14) Hy T.b_isinstance T.b_list (gw 1 Sc))))))
  (Gg (Gm Vz))
  Go)
  (Gb (Gv (Qu hr.units (He (gG z14) T.b_len (Ga (gw 0 Sc) ga_nil Ge)) (He (gG z14) T.b_len (Ga (gw 1 Sc) ga_nil Ge)))
  (Gg (Gm Vz))
  Go)
  (Gg (Gm (Zn rfl (gG z14) T.b_all (Ga (Ys (N':=["one","other"]) (pk:=[none,none]) Sc (Yt (gG z14) T.b_zip (Ga (gw 0 Sc) (Ga (gw 1 Sc) ga_nil Ge) Ge)) (fun cl s2 H2 C fp=>(Ye rfl (Hz (Kx 0) (Hz (Kx 1) We)))) (fun cl s2 H2 C fp=>Jv) (fun cl s2 H2 C fp=>(Gfj C_REC hr (Ga (Kf 0) (Ga (Kf 1) ga_nil Ge) Ge)))) ga_nil Hw))))))
  Go)
  (Gb (Gv (Ve (gw 1 Sc) Hr)
  (Gg (Gm (Zl (gw 0 Sc) Hr)))
  Go)
  (Gb (Gv (Jm (Gs (gG z14) (gG z14) Qm T.b_isinstance T.b_str (gw 1 Sc)))
  (Gg (Gm (Jn (Gs (gG z14) (gG z14) Qm T.b_isinstance T.b_str (gw 0 Sc)) (Jo (Uc hr.units (gw 0 Sc) (gw 1 Sc))))))
  Go)
  (Gg (Gm (Jn (gow z14 (Je Al) hr (Ga (gw 0 Sc) ga_nil Ge)) (Jo (Uc hr.units (gw 0 Sc) (gw 1 Sc)))))))))
theorem Gak(Al:All P w K mg base):Cal P w K mg base "_law_same" ["found","due"] Vu 6:=by
 have Sc:=Qe
 have T:=Al.t
 have C_REC:=Gaj Al
 refine calw (b:=Gy Vt) 5 Al.h.h__law_same Al.g Sc rfl fun _ _ _ _ _ _ _ hr=>?_
 conv=>arg 3; whnf
 refine GSs.h ?_
 exact(Gb (Gv (GW.jt (Kw (Jm (Gs (gG z14) (gG z14) Hk T.b_isinstance T.b_tuple (gw 1 Sc))) (Kg (Jm (Gs (gG z14) (gG z14) Hy T.b_isinstance T.b_list (gw 1 Sc))))))
  (Gb (Gv (GW.jt (Kw (Qu hr.units (Gs (gG z14) (gG z14) Hk T.b_isinstance T.b_tuple (gw 0 Sc)) (Gs (gG z14) (gG z14) Hk T.b_isinstance T.b_tuple (gw 1 Sc))) (Kg (Qu hr.units (Gs (gG z14) (gG z14) Hy T.b_isinstance T.b_list (gw 0 Sc)) (Gs (gG z14) (gG z14) Hy T.b_isinstance T.b_list (gw 1 Sc))))))
  (Gg (Gm Vz))
  Go)
  (Gb (Gv (Qu hr.units (He (gG z14) T.b_len (Ga (gw 0 Sc) ga_nil Ge)) (He (gG z14) T.b_len (Ga (gw 1 Sc) ga_nil Ge)))
  (Gg (Gm Vz))
  Go)
  (Gg (Gm (Zn rfl (gG z14) T.b_all (Ga (Ys (N':=["one","other"]) (pk:=[none,none]) Sc (Yt (gG z14) T.b_zip (Ga (gw 0 Sc) (Ga (gw 1 Sc) ga_nil Ge) Ge)) (fun cl s2 H2 C fp=>(Ye rfl (Hz (Kx 0) (Hz (Kx 1) We)))) (fun cl s2 H2 C fp=>Jv) (fun cl s2 H2 C fp=>(Gfj C_REC hr (Ga (Kf 0) (Ga (Kf 1) ga_nil Ge) Ge)))) ga_nil Hw))))))
  Go)
  (Gb (Gv (Ve (gw 1 Sc) Hr)
  (Gg (Gm (Zl (gw 0 Sc) Hr)))
  Go)
  (Gb (Gv (Jm (Gs (gG z14) (gG z14) Qm T.b_isinstance T.b_str (gw 1 Sc)))
  (Gg (Gm (Jn (Gs (gG z14) (gG z14) Qm T.b_isinstance T.b_str (gw 0 Sc)) (Jo (Uc hr.units (gw 0 Sc) (gw 1 Sc))))))
  Go)
  (Gg (Gm (Jn (gow z14 (Je Al) hr (Ga (gw 0 Sc) ga_nil Ge)) (Jo (Uc hr.units (gw 0 Sc) (gw 1 Sc)))))))))
theorem Gal(Al:All P w K mg base):Cal P w K mg base "_law_same" ["found","due"] Xt 7:=by
 have Sc:=Qe
 have T:=Al.t
 have C_REC:=Gak Al
 refine calw (b:=Gy Vu) 6 Al.h.h__law_same Al.g Sc rfl fun _ _ _ _ _ _ _ hr=>?_
 conv=>arg 3; whnf
 refine GSs.h ?_
 exact(Gb (Gv (GW.jt (Kw (Jm (Gs (gG z14) (gG z14) Hk T.b_isinstance T.b_tuple (gw 1 Sc))) (Kg (Jm (Gs (gG z14) (gG z14) Hy T.b_isinstance T.b_list (gw 1 Sc))))))
  (Gb (Gv (GW.jt (Kw (Qu hr.units (Gs (gG z14) (gG z14) Hk T.b_isinstance T.b_tuple (gw 0 Sc)) (Gs (gG z14) (gG z14) Hk T.b_isinstance T.b_tuple (gw 1 Sc))) (Kg (Qu hr.units (Gs (gG z14) (gG z14) Hy T.b_isinstance T.b_list (gw 0 Sc)) (Gs (gG z14) (gG z14) Hy T.b_isinstance T.b_list (gw 1 Sc))))))
  (Gg (Gm Vz))
  Go)
  (Gb (Gv (Qu hr.units (He (gG z14) T.b_len (Ga (gw 0 Sc) ga_nil Ge)) (He (gG z14) T.b_len (Ga (gw 1 Sc) ga_nil Ge)))
  (Gg (Gm Vz))
  Go)
  (Gg (Gm (Zn rfl (gG z14) T.b_all (Ga (Ys (N':=["one","other"]) (pk:=[none,none]) Sc (Yt (gG z14) T.b_zip (Ga (gw 0 Sc) (Ga (gw 1 Sc) ga_nil Ge) Ge)) (fun cl s2 H2 C fp=>(Ye rfl (Hz (Kx 0) (Hz (Kx 1) We)))) (fun cl s2 H2 C fp=>Jv) (fun cl s2 H2 C fp=>(Gfj C_REC hr (Ga (Kf 0) (Ga (Kf 1) ga_nil Ge) Ge)))) ga_nil Hw))))))
  Go)
  (Gb (Gv (Ve (gw 1 Sc) Hr)
  (Gg (Gm (Zl (gw 0 Sc) Hr)))
  Go)
  (Gb (Gv (Jm (Gs (gG z14) (gG z14) Qm T.b_isinstance T.b_str (gw 1 Sc)))
  (Gg (Gm (Jn (Gs (gG z14) (gG z14) Qm T.b_isinstance T.b_str (gw 0 Sc)) (Jo (Uc hr.units (gw 0 Sc) (gw 1 Sc))))))
  Go)
  (Gg (Gm (Jn (gow z14 (Je Al) hr (Ga (gw 0 Sc) ga_nil Ge)) (Jo (Uc hr.units (gw 0 Sc) (gw 1 Sc)))))))))
theorem Gb7(Al:All P w K mg base):Cal P w K mg base "_law_same" ["found","due"] Xh 7:=Gal Al
def Yg:Sv:=(sq (sa (ls (ac (cn (.str "")) (ac (cn (.str ":")) (ac (cn (.str "::")) (ac (cn (.str "0:0")) (ac (cn (.str "0:0:0:0")) (ac (cn (.str "00:0:0")) (ac (cn (.str "0:00:0")) (ac (cn (.str "0:0:00")) (ac (cn (.str "-1:0:0")) (ac (cn (.str "0:-1:0")) (ac (cn (.str "+1:0:0")) (ac (cn (.str "0:0:x")) an))))))))))))) (gn 1))
  (sq (sa (o2 Jj (vr 1) (ls (ac (cn (.str "a:0:0")) (ac (cn (.str "1_0:0:0")) (ac (cn (.str "0:0:0\n")) (ac (cn (.str "\t0:0:0")) (ac (cn (.str "1:0:0")) (ac (cn (.str "2:0:0")) (ac (cn (.str "9:0:0")) (ac (cn (.str "10:0:0")) (ac (cn (.str "0:1:0")) (ac (cn (.str "0:1:1")) an)))))))))))) (gn 1))
  (sq (sa (o2 Jj (vr 1) (ls (ac (cn (.str "0:5:0")) (ac (cn (.str "0:60:0")) (ac (cn (.str "0:0:61")) (ac (cn (.str "0:99:0")) (ac (cn (.str "0:100:0")) (ac (cn (.str "0:0:")) (ac (cn (.str "0;0;0")) (ac (cn (.str "0:0:0:")) an)))))))))) (gn 1))
  (sret (o2 getD (vr 1) (vr 0))))))
def Kr:Fn:=fnB 2 Yg
theorem Geh:FnS ["at","some"] ["at"] (Gf Zy):=kdF
theorem Yw(Al:All P w K mg base):Cal P w K mg base "_law_odd" ["at"] Kr 1:=by
 have Sc:=Geh
 refine calw (b:=Yg) 0 Al.h.h__law_odd Al.g Sc rfl fun _ _ _ _ _ _ _ hr=>?_
 conv=>arg 3; whnf
 refine GSs.h ?_
 exact(Gb (gsew 1 Sc (Jp (Ga ge_str (Ga ge_str (Ga ge_str (Ga ge_str (Ga ge_str (Ga ge_str (Ga ge_str (Ga ge_str (Ga ge_str (Ga ge_str (Ga ge_str (Ga ge_str ga_nil Gc) Gc) Gc) Gc) Gc) Gc) Gc) Gc) Gc) Gc) Gc) Gc)))
  (Gb (gsew 1 Sc (Hb (gw 1 Sc) (Jp (Ga ge_str (Ga ge_str (Ga ge_str (Ga ge_str (Ga ge_str (Ga ge_str (Ga ge_str (Ga ge_str (Ga ge_str (Ga ge_str ga_nil Gc) Gc) Gc) Gc) Gc) Gc) Gc) Gc) Gc) Gc))))
  (Gb (gsew 1 Sc (Hb (gw 1 Sc) (Jp (Ga ge_str (Ga ge_str (Ga ge_str (Ga ge_str (Ga ge_str (Ga ge_str (Ga ge_str (Ga ge_str ga_nil Gc) Gc) Gc) Gc) Gc) Gc) Gc) Gc))))
  (Gg (Gm (Gj (gw 1 Sc) (gw 0 Sc)))))))
def Hd:Sv:=(sx (mt Gfd (vr 1) (ac (cl 2 (Gp Gh) (ac (vr 0) (ac (o2 Jj (b1 lenD (ac (vr 1) an)) (cn (.int 1))) an))) (ac (o2 getD (ls (ac (cn (.str "0:0:0")) (ac (cn (.str "")) (ac (cn (.str "x")) (ac (o2 getD (vr 1) (vr 3)) an))))) (cl 2 (Gp Gh) (ac (vr 0) (ac (cn (.int 4)) an)))) an))))
def Jz:Sv:=(sq (sa (cl 2 (Gp Gh) (ac (vr 0) (ac (cn (.int 6)) an))) (gn 2))
  (sq (sa (cl 2 (Gp Gh) (ac (vr 0) (ac (b1 lenD (ac (vr 1) an)) an))) (gn 3))
  (sq (sif (tb (o2 ltD (vr 2) (cn (.int 2))))
  (ss (cl 1 (Gp Kr) (ac (cl 2 (Gp Gh) (ac (vr 0) (ac (cn (.int 30)) an))) an)) (vr 1) (vr 3) Ut)
  skip)
  (sq (sif (tb (o2 eqD (vr 2) (cn (.int 1))))
  (ss (cl 1 (Gp Kr) (ac (cl 2 (Gp Gh) (ac (vr 0) (ac (cn (.int 30)) an))) an)) (vr 1) (cl 2 (Gp Gh) (ac (vr 0) (ac (b1 lenD (ac (vr 1) an)) an))) Ut)
  skip)
  (sq (sif (tb (o2 eqD (vr 2) (cn (.int 2))))
  (sa (sl2 (vr 1) onone (osome (vr 3))) (gn 1))
  skip)
  (sq (sif (tb (o2 eqD (vr 2) (cn (.int 3))))
  (sfor (ir1 (ac (o2 Jj (cn (.int 1)) (cl 2 (Gp Gh) (ac (vr 0) (ac (cn (.int 3)) an)))) an)) (gn 4) Hd)
  skip)
  (sq (sif (tb (o2 eqD (vr 2) (cn (.int 4))))
  (sq (sa (o2 getD (ls (ac (cn (.int 11)) (ac (cn (.int 62)) an))) (cl 2 (Gp Gh) (ac (vr 0) (ac (cn (.int 2)) an)))) (gn 5))
  (sq (sa (cmp (ir1 (ac (cn (.int 3)) an)) [none,some 0,some 5] (gn 0) ttrue (b1 Ga9 (ac (cl 2 (Gp Gh) (ac (vr 1) (ac (vr 2) an))) an))) (gn 6))
  (ss (mts Qr (cn (.str ":")) (ac (ls (ac (o2 getD (ls (ac (cn (.str "0")) (ac (o2 getD (vr 6) (cn (.int 0))) an))) (cl 2 (Gp Gh) (ac (vr 0) (ac (cn (.int 2)) an)))) (ac (o2 getD (vr 6) (cn (.int 1))) (ac (o2 getD (vr 6) (cn (.int 2))) an)))) an)) (vr 1) (vr 3) Ut)))
  skip)
  (sret (vr 1)))))))))
def Hq:Fn:=fnB 7 Jz
theorem Wp:FnS ["tape","parts","way","at","k","most","numbers"] ["tape","parts"] (Gf Js):=kdF
abbrev z16:=Gf Js
theorem Wl(Al:All P w K mg base):Cal P w K mg base "_law_put_otherwise" ["tape","parts"] Hq 3:=by
 have Sc:=Wp
 have T:=Al.t
 refine calw (b:=Jz) 2 Al.h.h__law_put_otherwise Al.g Sc rfl fun _ _ _ _ _ _ _ hr=>?_
 conv=>arg 3; whnf
 refine GSs.h ?_
 exact(Gb (gsew 2 Sc (gow z16 (Gi Al) hr (Ga (gw 0 Sc) (Ga ge_int ga_nil Gc) Ge)))
  (Gb (gsew 3 Sc (gow z16 (Gi Al) hr (Ga (gw 0 Sc) (Ga (He (gG z16) T.b_len (Ga (gw 1 Sc) ga_nil Ge)) ga_nil Hn) Ge)))
  (Gb (Gv (Yr (gw 2 Sc) ge_int)
  (Gg (Uj (gow z16 (Yw Al) hr (Ga (gow z16 (Gi Al) hr (Ga (gw 0 Sc) (Ga ge_int ga_nil Gc) Ge)) ga_nil Hn)) (gw 1 Sc) (gw 3 Sc)))
  Go)
  (Gb (Gv (Ud hr.units (gw 2 Sc) ge_int)
  (Gg (Uj (gow z16 (Yw Al) hr (Ga (gow z16 (Gi Al) hr (Ga (gw 0 Sc) (Ga ge_int ga_nil Gc) Ge)) ga_nil Hn)) (gw 1 Sc) (gow z16 (Gi Al) hr (Ga (gw 0 Sc) (Ga (He (gG z16) T.b_len (Ga (gw 1 Sc) ga_nil Ge)) ga_nil Hn) Ge))))
  Go)
  (Gb (Gv (Ud hr.units (gw 2 Sc) ge_int)
  (Gg (gsew 1 Sc (Zm (gw 1 Sc) Gdh (Gdi (gw 3 Sc)))))
  Go)
  (Gb (Gv (Ud hr.units (gw 2 Sc) ge_int)
  (Gg (Vf PassesOwn.never rfl (Ku (gG z16) T.b_range (Ga (Hb ge_int (gow z16 (Gi Al) hr (Ga (gw 0 Sc) (Ga ge_int ga_nil Gc) Ge))) ga_nil Jl)) (ggw 4 Sc)
  (Gg (Uf (Ghf (gw 1 Sc) (Ga (gow z16 (Gi Al) hr (Ga (gw 0 Sc) (Ga (Hb (He (gG z16) T.b_len (Ga (gw 1 Sc) ga_nil Ge)) ge_int) ga_nil Jl) Ge)) (Ga (Gj (Jp (Ga ge_str (Ga ge_str (Ga ge_str (Ga (Gj (gw 1 Sc) (gw 3 Sc)) ga_nil Gk) Gc) Gc) Gc)) (gow z16 (Gi Al) hr (Ga (gw 0 Sc) (Ga ge_int ga_nil Gc) Ge))) ga_nil Gk) Hn))))))
  Go)
  (Gb (Gv (Ud hr.units (gw 2 Sc) ge_int)
  (Gb (gsew 5 Sc (Gj (Jp (Ga ge_int (Ga ge_int ga_nil Gc) Gc)) (gow z16 (Gi Al) hr (Ga (gw 0 Sc) (Ga ge_int ga_nil Gc) Ge))))
  (Gb (Got 6 (N':=["k","tape","most"]) (pk:=[none,some 0,some 5]) Sc (Ku (gG z16) T.b_range (Ga ge_int ga_nil Gc)) (fun cl s2 H2 C fp=>(Kx 0)) (fun cl s2 H2 C fp=>Jv) (fun cl s2 H2 C fp=>(Gas glB_w T.b_str (Ga (Gfj (Gi Al) hr (Ga (Kf 1) (Ga (Kf 2) ga_nil Ge) Ge)) ga_nil Hn))))
  (Gg (Uj (Gaq ge_str (Ga (Jp (Ga (Gj (Jp (Ga ge_str (Ga (Gj (gw 6 Sc) ge_int) ga_nil Gk) Gc)) (gow z16 (Gi Al) hr (Ga (gw 0 Sc) (Ga ge_int ga_nil Gc) Ge))) (Ga (Gj (gw 6 Sc) ge_int) (Ga (Gj (gw 6 Sc) ge_int) ga_nil Gk) Gk) Gk)) ga_nil Gdd)) (gw 1 Sc) (gw 3 Sc)))))
  Go)
  (Gg (Gm (gw 1 Sc))))))))))
def Jw:Sv:=(sif (tb (o2 Geg (vr 1) (cn (.str "0123456789"))))
  (sret (o2 Zi (cn (.int 0)) (cn (.int 1))))
  skip)
def Uo:Sv:=(sq (sif (to (tb (o2 eqD (vr 0) (cn (.str "")))) (ta (tb (o2 eqD (o2 getD (vr 0) (cn (.int 0))) (cn (.str "0")))) (tb (o2 gtD (b1 lenD (ac (vr 0) an)) (cn (.int 1))))))
  (sret (o2 Zi (cn (.int 0)) (cn (.int 1))))
  skip)
  (sq (sfor (isrcS (vr 0)) (gn 1) Jw)
  (sret (ie (tb (o2 ltD (b1 lenD (ac (vr 0) an)) (cn (.int 5)))) (b1 Qs (ac (vr 0) an)) (cn (.int 10000))))))
def Ja:Fn:=fnB 2 Uo
theorem Gam:FnS ["word","sign"] ["word"] (Gf Qz):=kdF
abbrev z17:=Gf Qz
theorem Zq(Al:All P w K mg base):Cal P w K mg base "_law_figures" ["word"] Ja 1:=by
 have Sc:=Gam
 have T:=Al.t
 refine calw (b:=Uo) 0 Al.h.h__law_figures Al.g Sc rfl fun _ _ _ _ _ _ _ hr=>?_
 conv=>arg 3; whnf
 refine GSs.h ?_
 exact(Gb (Gv (GW.jt (Kw (Ud hr.units (gw 0 Sc) ge_str) (Kg (GW.jt (Gdg (Ud hr.units (Gj (gw 0 Sc) ge_int) ge_str) (Gdf (Gcn (He (gG z17) T.b_len (Ga (gw 0 Sc) ga_nil Ge)) ge_int)))))))
  (Gg (Gm (Xd ge_int ge_int)))
  Go)
  (Gb (Vf PassesOwn.never rfl (Gjp (gw 0 Sc)) (ggw 1 Sc)
  (Gg (Gv (Gnh (gw 1 Sc) ge_str)
  (Gg (Gm (Xd ge_int ge_int)))
  Go)))
  (Gg (Gm (Yc (Yr (He (gG z17) T.b_len (Ga (gw 0 Sc) ga_nil Ge)) ge_int) (Gap (gG z17) T.b_int (Ga (gw 0 Sc) ga_nil Ge)) ge_int)))))
def Qy:Sv:=(sq (sif (tb (o2 eqD (o2 getD (vr 0) (cn (.int 0))) (cn (.str "end"))))
  (sret (o2 eqD (o2 getD (vr 1) (cn (.int 0))) (cn (.int 0))))
  skip)
  (sq (sif (tb (o2 eqD (o2 getD (vr 0) (cn (.int 0))) (cn (.str "chamber"))))
  (sret (va (o2 ltD (o2 getD (vr 1) (cn (.int 0))) (cn (.int 2))) (o2 ltD (o2 Jj (o2 getD (vr 1) (cn (.int 1))) (o2 getD (vr 1) (cn (.int 2)))) (cn (.int 2)))))
  skip)
  (sret (va (o2 leD (o2 getD (vr 1) (cn (.int 0))) (o2 getD (vr 0) (cn (.int 1)))) (o2 leD (o2 Jj (o2 getD (vr 1) (cn (.int 1))) (o2 getD (vr 1) (cn (.int 2)))) (o2 getD (vr 0) (cn (.int 3))))))))
def Uz:Fn:=fnB 2 Qy
theorem Gdn:FnS ["place","numbers"] ["place","numbers"] (Gf Yu):=kdF
theorem Gb8(Al:All P w K mg base):Cal P w K mg base "_law_fits" ["place","numbers"] Uz 1:=by
 have Sc:=Gdn
 refine calw (b:=Qy) 0 Al.h.h__law_fits Al.g Sc rfl fun _ _ _ _ _ _ _ hr=>?_
 conv=>arg 3; whnf
 refine GSs.h ?_
 exact(Gb (Gv (Ud hr.units (Gj (gw 0 Sc) ge_int) ge_str)
  (Gg (Gm (Uc hr.units (Gj (gw 1 Sc) ge_int) ge_int)))
  Go)
  (Gb (Gv (Ud hr.units (Gj (gw 0 Sc) ge_int) ge_str)
  (Gg (Gm (Jn (Gjr (Gj (gw 1 Sc) ge_int) ge_int) (Jo (Gjr (Hb (Gj (gw 1 Sc) ge_int) (Gj (gw 1 Sc) ge_int)) ge_int)))))
  Go)
  (Gg (Gm (Jn (Gjs (Gj (gw 1 Sc) ge_int) (Gj (gw 0 Sc) ge_int)) (Jo (Gjs (Hb (Gj (gw 1 Sc) ge_int) (Gj (gw 1 Sc) ge_int)) (Gj (gw 0 Sc) ge_int))))))))
def Hi:Sv:=(sq (sa (cmp (isrc (mts Ht (o2 getD (vr 1) (vr 3)) (ac (cn (.str ":")) an))) [none] (gn 0) ttrue (cl 1 (Gp Ja) (ac (vr 0) an))) (gn 4))
  (sq (sif (to (tb (o2 geD (vr 3) (b1 lenD (ac (o2 getD (vr 0) (cn (.int 0))) an)))) (to (tb (o2 neD (b1 lenD (ac (vr 4) an)) (cn (.int 3)))) (to (tb (o2 ltD (b1 Ga8 (ac (vr 4) an)) (cn (.int 0)))) (tn (tt (cl 2 (Gp Uz) (ac (o2 getD (o2 getD (vr 0) (cn (.int 0))) (vr 3)) (ac (vr 4) an))))))))
  (sret (vr 3))
  skip)
  (sq (sa (o2 Jj (o2 Jj (vr 2) (o2 getD (vr 4) (cn (.int 1)))) (o2 getD (vr 4) (cn (.int 2)))) (gn 2))
  (sif (tb (o2 gtD (vr 2) (cn (.int 60))))
  (sret (vr 3))
  skip))))
def Uh:Sv:=(sq (sa (cn (.int 0)) (gn 2))
  (sq (sfor (ir1 (ac (b1 lenD (ac (vr 1) an)) an)) (gn 3) Hi)
  (sret (ie (tb (o2 ltD (b1 lenD (ac (vr 1) an)) (b1 lenD (ac (o2 getD (vr 0) (cn (.int 0))) an)))) (b1 lenD (ac (vr 1) an)) (cn .non)))))
def Hu:Fn:=fnB 5 Uh
theorem Gb9:FnS ["canal","parts","total","at","numbers"] ["canal","parts"] (Gf Vn):=kdF
abbrev z19:=Gf Vn
theorem Gbn(Al:All P w K mg base):Cal P w K mg base "_law_wrong" ["canal","parts"] Hu 2:=by
 have Sc:=Gb9
 have T:=Al.t
 refine calw (b:=Uh) 1 Al.h.h__law_wrong Al.g Sc rfl fun _ _ _ _ _ _ _ hr=>?_
 conv=>arg 3; whnf
 refine GSs.h ?_
 exact(Gb (gsew 2 Sc ge_int)
  (Gb (Vf PassesOwn.never rfl (Ku (gG z19) T.b_range (Ga (He (gG z19) T.b_len (Ga (gw 1 Sc) ga_nil Ge)) ga_nil Hn)) (ggw 3 Sc)
  (Gb (Got 4 (N':=["one"]) (pk:=[none]) Sc (Yd (Vy (Gj (gw 1 Sc) (gw 3 Sc)) (Ga ge_str ga_nil Gc))) (fun cl s2 H2 C fp=>(Kx 0)) (fun cl s2 H2 C fp=>Jv) (fun cl s2 H2 C fp=>(Gfj (Zq Al) hr (Ga (Kf 0) ga_nil Ge))))
  (Gb (Gv (GW.jt (Kw (Gvn (gw 3 Sc) (He (gG z19) T.b_len (Ga (Gj (gw 0 Sc) ge_int) ga_nil Gk))) (Kw (Qu hr.units (He (gG z19) T.b_len (Ga (gw 4 Sc) ga_nil Ge)) ge_int) (Kw (Yr (Gm9 rfl (gG z19) T.b_min (Ga (gw 4 Sc) ga_nil Ge)) ge_int) (Kg (Zo (Jm (gow z19 (Gb8 Al) hr (Ga (Gj (Gj (gw 0 Sc) ge_int) (gw 3 Sc)) (Ga (gw 4 Sc) ga_nil Ge) Gk)))))))))
  (Gg (Gm (gw 3 Sc)))
  Go)
  (Gb (gsew 2 Sc (Hb (Hb (gw 2 Sc) (Gj (gw 4 Sc) ge_int)) (Gj (gw 4 Sc) ge_int)))
  (Gg (Gv (Gcn (gw 2 Sc) ge_int)
  (Gg (Gm (gw 3 Sc)))
  Go))))))
  (Gg (Gm (Yc (Yr (He (gG z19) T.b_len (Ga (gw 1 Sc) ga_nil Ge)) (He (gG z19) T.b_len (Ga (Gj (gw 0 Sc) ge_int) ga_nil Gk))) (He (gG z19) T.b_len (Ga (gw 1 Sc) ga_nil Ge)) Hr)))))
def Up:Sv:=(sq (sa (cmp (isrc (vr 0)) [none] (gn 0) ttrue (cmp (isrc (mts Ht (vr 0) (ac (cn (.str ":")) an))) [none] (gn 0) ttrue (b1 Qs (ac (vr 0) an)))) (gn 1))
  (sret (b1 Qg (ac (cmp (ir1 (ac (cn (.int 3)) an)) [none,some 1] (gn 0) ttrue (b1 Qg (ac (cmp (isrc (vr 1)) [none,some 0] (gn 0) ttrue (o2 getD (vr 0) (vr 1))) an))) an))))
def Qf:Fn:=fnB 2 Up
theorem Gan:FnS ["parts","rows"] ["parts"] (Gf Ua):=kdF
abbrev z20:=Gf Ua
theorem Zr(Al:All P w K mg base):Cal P w K mg base "_law_written" ["parts"] Qf 1:=by
 have Sc:=Gan
 have T:=Al.t
 refine calw (b:=Up) 0 Al.h.h__law_written Al.g Sc rfl fun _ _ _ _ _ _ _ hr=>?_
 conv=>arg 3; whnf
 refine GSs.h ?_
 exact(Gb (gsew 1 Sc (Ys (N':=["part"]) (pk:=[none]) Sc (Yd (gw 0 Sc)) (fun cl s2 H2 C fp=>(Kx 0)) (fun cl s2 H2 C fp=>Jv) (fun cl s2 H2 C fp=>(Gfi (N':=["one"]) (pk:=[none]) kdC rfl (Yd (Vy (Kf 0) (Ga ge_str ga_nil Gc))) (fun cl s2 H2 C fp=>(Kx 0)) (fun cl s2 H2 C fp=>Jv) (fun cl s2 H2 C fp=>(Gap glB_w T.b_int (Ga (Kf 0) ga_nil Ge)))))))
  (Gg (Gm (Kv (gG z20) T.b_tuple (Ga (Ys (N':=["k","rows"]) (pk:=[none,some 1]) Sc (Ku (gG z20) T.b_range (Ga ge_int ga_nil Gc)) (fun cl s2 H2 C fp=>(Kx 0)) (fun cl s2 H2 C fp=>Jv) (fun cl s2 H2 C fp=>(Kv glB_w T.b_tuple (Ga (Gfi (N':=["row","k"]) (pk:=[none,some 0]) kdC rfl (Yd (Kf 1)) (fun cl s2 H2 C fp=>(Kx 0)) (fun cl s2 H2 C fp=>Jv) (fun cl s2 H2 C fp=>(Gj (Kf 0) (Kf 1)))) ga_nil Hw)))) ga_nil Hw)))))
def Uq:Sv:=(sa (cl 2 (gX ys Hf) (ac (vr 2) (ac (mts Qr (cn (.str " ")) (ac (vr 3) an)) an))) (gn 5))
def Xi:Sv:=(sq (sa (o1 (atD ats) (vr 8)) (gn 6))
  (sq (sa (va (o1 (Uu ys ys) (vr 8)) (o1 (Uu ys ys) (vr 8))) (gn 7))
  (sq (sa (va (vr 7) (vn (o1 (Uu ys ["Dry","Falls","Full","NoBarge","NoGate","NoLine"]) (vr 8)))) (gn 7))
  (sa (va (vr 7) (vn (o1 (Uu ys ["NoRoom","NoSpring","Shallow","TooMany","Uneven"]) (vr 8)))) (gn 7)))))
def Gaa:Sv:=(sq (sa (cl 1 (Gp Uy) (ac (vr 0) an)) (gn 1))
  (sq (sa (cl 1 (Gp Qb) (ac (vr 1) an)) (gn 2))
  (sq (sa (mts Ht (cl 1 (Gp Ji) (ac (cl 2 (Gp Qd) (ac (vr 1) (ac (vr 2) an))) an)) (ac (cn (.str " ")) an)) (gn 3))
  (sq (sa (mts Ht (mts Qr (cn (.str " ")) (ac (cl 2 (Gp Hq) (ac (vr 1) (ac (vr 3) an))) an)) (ac (cn (.str " ")) an)) (gn 3))
  (sq (sa (cl 2 (Gp Hu) (ac (vr 2) (ac (vr 3) an))) (gn 4))
  (sq (sa (cn .non) (gn 5))
  (sq (sa (cn .non) (gn 6))
  (sq (sa (cn (.bl false)) (gn 7))
  (sq (Yq ["NoText"] (hdl 8 Xi) Uq)
  (sq (sif (tb (o2 Vx (vr 4) (cn .non)))
  (sret (va (o2 Vx (vr 6) (cn .non)) (cl 2 (Gp Xh) (ac (vr 5) (ac (cl 1 (Gp Qf) (ac (vr 3) an)) an)))))
  skip)
  (sret (va (vr 7) (va (cl 1 (Gp Kj) (ac (vr 6) an)) (o2 eqD (vr 6) (vr 4)))))))))))))))
def Gbo:Fn:=fnB 9 Gaa
theorem Gs6:FnS ["script","tape","canal","parts","due","found","at","alone","e"] ["script"] (Gf Gbe):=kdF
abbrev z21:=Gf Gbe
theorem Gvs:OkC z21 "e":=⟨by decide +kernel⟩
theorem Gj0:Gz "NoText"=true:=by decide +kernel
theorem Gnk(Al:All P w K mg base){f:Addr}{fd:FuncData}(F:Fun K "law" "law" Gbe f fd):FnOk P w K mg base CX0 8 f fd ["script"] (spD K 1 Gbo):=by
 have Sc:=Gs6
 have T:=Al.t
 refine God (b:=Gaa) F Sc.s fun cdv A outer s H E hr=>?_
 conv=>arg 3; whnf
 refine GSs.h ?_
 exact(Gb (gsew 1 Sc (gow z21 (Gb4 Al) hr (Ga (gw 0 Sc) ga_nil Ge)))
  (Gb (gsew 2 Sc (gow z21 (Gbk Al) hr (Ga (gw 1 Sc) ga_nil Ge)))
  (Gb (gsew 3 Sc (Vy (gow z21 (Xs Al) hr (Ga (gow z21 (Gbl Al) hr (Ga (gw 1 Sc) (Ga (gw 2 Sc) ga_nil Ge) Ge)) ga_nil Hn)) (Ga ge_str ga_nil Gc)))
  (Gb (gsew 3 Sc (Vy (Gaq ge_str (Ga (gow z21 (Wl Al) hr (Ga (gw 1 Sc) (Ga (gw 3 Sc) ga_nil Ge) Ge)) ga_nil Hn)) (Ga ge_str ga_nil Gc)))
  (Gb (gsew 4 Sc (gow z21 (Gbn Al) hr (Ga (gw 2 Sc) (Ga (gw 3 Sc) ga_nil Ge) Ge)))
  (Gb (gsew 5 Sc Hr)
  (Gb (gsew 6 Sc Hr)
  (Gb (gsew 7 Sc Vz)
  (Gb (Gnb 8 ⟨rfl,rfl,rfl⟩ T.cat_NoText (gG z21) Gj0 Sc.nd Gvs (fun pn xe XQ L=>(Gg (gsew 5 Sc (Gw2 z21 T.xt.xns L (Gbi Al) hr (Ga (gw 2 Sc) (Ga (Gaq ge_str (Ga (gw 3 Sc) ga_nil Ge)) ga_nil Hn) Ge)))))
  (fun a=>(Gb (gsew 6 Sc (Gvk T.atc (gw 8 Sc)))
  (Gb (gsew 7 Sc (Jn (Gs0 z21 T.xt.cat.isx T.b_isinstance (gw 8 Sc)) (Jo (Gs1 z21 T.xt.val T.b_isinstance T.b_ValueError (gw 8 Sc)))))
  (Gb (gsew 7 Sc (Jn (gw 7 Sc) (Jo (Gfh (Gjy z21 (Gfk T.xt.xns fun x hx=>T.xt.isx x ((by decide +kernel:∀ x∈(["Dry","Falls","Full","NoBarge","NoGate","NoLine"]:List Str),x∈ms) x hx)) T.b_isinstance (GNs.cons (GNs.cons (GNs.cons (GNs.cons (GNs.cons (GNs.cons GNs.nil)))))) (gw 8 Sc))))))
  (Gg (gsew 7 Sc (Jn (gw 7 Sc) (Jo (Gfh (Gjy z21 (Gfk T.xt.xns fun x hx=>T.xt.isx x ((by decide +kernel:∀ x∈(["NoRoom","NoSpring","Shallow","TooMany","Uneven"]:List Str),x∈ms) x hx)) T.b_isinstance (GNs.cons (GNs.cons (GNs.cons (GNs.cons (GNs.cons GNs.nil))))) (gw 8 Sc))))))))))))
  (Gb (Gv (Ve (gw 4 Sc) Hr)
  (Gg (Gm (Jn (Zl (gw 6 Sc) Hr) (Jo (gow z21 (Gb7 Al) hr (Ga (gw 5 Sc) (Ga (gow z21 (Zr Al) hr (Ga (gw 3 Sc) ga_nil Ge)) ga_nil Hn) Ge))))))
  Go)
  (Gg (Gm (Jn (gw 7 Sc) (Jn (gow z21 (Je Al) hr (Ga (gw 6 Sc) ga_nil Ge)) (Jo (Uc hr.units (gw 6 Sc) (gw 4 Sc)))))))))))))))))
end
theorem Gs7{l:PySem.W.OpenLaw}{h:Heap}{fa:Addr}(X:K.In h)(G:h.Ns mainGlobals mg)(hfa:mg "law"=some (.ref fa))(HS:Hs K){kp_CHAMBER:Addr}{kt_CHAMBER:Tok}{kn_CHAMBER:Nat}{ks_CHAMBER:Array (Option Value)}(ka_CHAMBER:PySem.W.nsIn K mainGlobals "CHAMBER"=some (some (.ref kp_CHAMBER)))(kl_CHAMBER:K.lookup kp_CHAMBER=some { cls:=.type "tuple",dict:=none,data:=.seq #[.str "chamber" kt_CHAMBER] kn_CHAMBER,slots:=ks_CHAMBER }){kp_END:Addr}{kt_END:Tok}{kn_END:Nat}{ks_END:Array (Option Value)}(ka_END:PySem.W.nsIn K mainGlobals "END"=some (some (.ref kp_END)))(kl_END:K.lookup kp_END=some { cls:=.type "tuple",dict:=none,data:=.seq #[.str "end" kt_END] kn_END,slots:=ks_END }){kt_FIGURES:Tok}(ka_FIGURES:PySem.W.nsIn K mainGlobals "FIGURES"=some (some (.str "0123456789" kt_FIGURES))){kt_MOST_BARGES:Tok}(ka_MOST_BARGES:PySem.W.nsIn K mainGlobals "MOST_BARGES"=some (some (.int 60 kt_MOST_BARGES))){kt_MOST_FIGURES:Tok}(ka_MOST_FIGURES:PySem.W.nsIn K mainGlobals "MOST_FIGURES"=some (some (.int 16 kt_MOST_FIGURES))){cc_SummitError:Addr}(ca_SummitError:PySem.W.nsIn K mainGlobals "SummitError"=some (some (.ref cc_SummitError))){cc_NoGate:Addr}(ca_NoGate:PySem.W.nsIn K mainGlobals "NoGate"=some (some (.ref cc_NoGate))){cc_Dry:Addr}(ca_Dry:PySem.W.nsIn K mainGlobals "Dry"=some (some (.ref cc_Dry))){cc_Full:Addr}(ca_Full:PySem.W.nsIn K mainGlobals "Full"=some (some (.ref cc_Full))){cc_NoSpring:Addr}(ca_NoSpring:PySem.W.nsIn K mainGlobals "NoSpring"=some (some (.ref cc_NoSpring))){cc_NoBarge:Addr}(ca_NoBarge:PySem.W.nsIn K mainGlobals "NoBarge"=some (some (.ref cc_NoBarge))){cc_NoRoom:Addr}(ca_NoRoom:PySem.W.nsIn K mainGlobals "NoRoom"=some (some (.ref cc_NoRoom))){cc_Uneven:Addr}(ca_Uneven:PySem.W.nsIn K mainGlobals "Uneven"=some (some (.ref cc_Uneven))){cc_Shallow:Addr}(ca_Shallow:PySem.W.nsIn K mainGlobals "Shallow"=some (some (.ref cc_Shallow))){cc_Falls:Addr}(ca_Falls:PySem.W.nsIn K mainGlobals "Falls"=some (some (.ref cc_Falls))){cc_NoText:Addr}(ca_NoText:PySem.W.nsIn K mainGlobals "NoText"=some (some (.ref cc_NoText))){cc_TooMany:Addr}(ca_TooMany:PySem.W.nsIn K mainGlobals "TooMany"=some (some (.ref cc_TooMany))){cc_NoLine:Addr}(ca_NoLine:PySem.W.nsIn K mainGlobals "NoLine"=some (some (.ref cc_NoLine)))(xtb:Gjk K cc_SummitError [("NoGate",cc_NoGate),("Dry",cc_Dry),("Full",cc_Full),("NoSpring",cc_NoSpring),("NoBarge",cc_NoBarge),("NoRoom",cc_NoRoom),("Uneven",cc_Uneven),("Shallow",cc_Shallow),("Falls",cc_Falls),("NoText",cc_NoText),("TooMany",cc_TooMany),("NoLine",cc_NoLine)] [("NoGate",cc_NoGate),("Dry",cc_Dry),("Full",cc_Full),("NoSpring",cc_NoSpring),("NoBarge",cc_NoBarge),("NoRoom",cc_NoRoom),("Uneven",cc_Uneven),("Shallow",cc_Shallow),("Falls",cc_Falls),("NoText",cc_NoText),("TooMany",cc_TooMany),("NoLine",cc_NoLine)]=true)(atb:atB K [("Falls",cc_Falls),("NoText",cc_NoText)]=true)(catb_NoText:Gs3 K cc_NoText=true){fi:Addr}{odI anI:Option Addr}{slI:Array (Option Value)}{kVI dcI pmI cdI ctI:Value}(iI:PySem.W.findIn K (.ref cc_SummitError) "__init__"=some (some (.ref fi)))(lI:K.lookup fi=some ⟨.type "function",odI,.func (PySem.W.fnOf "__init__" "SummitError.__init__" (Jd Qn) (Gw Qn) (Gf Qn) .none kVI dcI pmI anI cdI ctI),slI⟩)(cI:PySem.W.codeIn K cdI "SummitError.__init__"=true)(kI:PySem.W.keepIn K (.ref fi)=true)(rdI:PySem.W.readsIn K cc_SummitError (.type "type")=true)(fcI:PySem.W.findCls K (.ref cc_SummitError) (.type "type") "__init__"=some (.val (.ref fi)))(sgI:PySem.W.specialIn K (.ref cc_SummitError) "__getattribute__"=some (some (.builtin "type.__getattribute__"))){fj_NoText:Addr}{odJ_NoText anJ_NoText:Option Addr}{slJ_NoText:Array (Option Value)}{kVJ_NoText dcJ_NoText pmJ_NoText cdJ_NoText ctJ_NoText:Value}(iJ_NoText:PySem.W.findIn K (.ref cc_NoText) "__init__"=some (some (.ref fj_NoText)))(lJ_NoText:K.lookup fj_NoText=some ⟨.type "function",odJ_NoText,.func (PySem.W.fnOf "__init__" "NoText.__init__" (Jd Gx) (Gw Gx) (Gf Gx) .none kVJ_NoText dcJ_NoText pmJ_NoText anJ_NoText cdJ_NoText ctJ_NoText),slJ_NoText⟩)(cJ_NoText:PySem.W.codeIn K cdJ_NoText "NoText.__init__"=true)(kJ_NoText:PySem.W.keepIn K (.ref fj_NoText)=true)(cj_NoText:Gsr K cc_NoText fj_NoText=true)
  : ∃ fd:FuncData,(∀ (s:Shared) (v:Value),BindsTo s fd ⟨[v],[]⟩ [("script",v)])/\∀ base:Heap,K.In base->base.Ns mainGlobals mg->FnOk l.prog w K mg base CX0 8 fa fd ["script"] (spD K 1 Gbo):=by
 obtain⟨_,_,_,_,_,_,_,_,_,k_law,c_law,l_law⟩:=HS.h_law.fnx X G hfa
 have F:=Ga0 (st:=Gbe) l_law c_law k_law
 have T:Txt K mg:=⟨PySem.W.mg_none_of X G HS.z_ValueError,PySem.W.mg_none_of X G HS.z_all,PySem.W.mg_none_of X G HS.z_bool,PySem.W.mg_none_of X G HS.z_enumerate,PySem.W.mg_none_of X G HS.z_int,PySem.W.mg_none_of X G HS.z_isinstance,PySem.W.mg_none_of X G HS.z_len,PySem.W.mg_none_of X G HS.z_list,PySem.W.mg_none_of X G HS.z_min,PySem.W.mg_none_of X G HS.z_range,PySem.W.mg_none_of X G HS.z_str,PySem.W.mg_none_of X G HS.z_sum,PySem.W.mg_none_of X G HS.z_tuple,PySem.W.mg_none_of X G HS.z_zip,Gjw X G ka_CHAMBER kl_CHAMBER,Gjw X G ka_END kl_END,Gnc X G ka_FIGURES,Gf6 X G ka_MOST_BARGES,Gf6 X G ka_MOST_FIGURES,Gvd X G ca_SummitError xtb,Gvj atb,Gs4 X G ca_NoText catb_NoText⟩
 have hVE:mg "ValueError"=none:=PySem.W.mg_none_of X G HS.z_ValueError
 have ini:∀ base:Heap,IniX l.prog w K mg base fi 1:=fun base=>ini_mk (st:=Qn) lI cI kI sc_init (Ghj hVE) (fun _ _ _ _ _ _ us hl=>match us,hl with | [_,_],_=>rfl)
 have bI:BaseI K mg "SummitError" fi:=⟨cc_SummitError,.type "type",PySem.W.mg_of X G ca_SummitError,rdI,fcI,sgI,kI⟩
 have jni_NoText:∀ base:Heap,IniJ l.prog w K mg base fj_NoText 3:=fun base=>inj_mk (st:=Gx) 2 lJ_NoText cJ_NoText kJ_NoText sc_init_NoText (Zp bI (ini base)) (fun _ _ _ _ _ _ us hl=>match us,hl with | [_,_],_=>rfl)
 exact⟨_,fun s v=>.of_eq rfl,fun base _ _=>Gnk ⟨HS,⟨h,X,G⟩,T,Gss X G (jni_NoText base) ca_NoText cj_NoText⟩ F⟩
end Law
namespace WM
def stp(b l d:Int):Int:=min b (l+d)
def F(b:Int)(ds:List Int)(x:Int):Int:=ds.foldl (stp b) x
def AP(ds:List Int)(x:Int):Prop:=∀ j,1<=j->j<=ds.length->0<=x+(ds.take j).sum
inductive R where
 | dry (k:Nat) | lev (l:Int)
def R.bind(o:R)(g:Int->R):R:=match o with
 | .dry k=>.dry k
 | .lev l=>g l
def wl(b:Int):List Int->Nat->Int->R
 | [],_,x=>.lev x
 | d::r,k,x=>if stp b x d<0 then .dry k else wl b r (k+1) (stp b x d)
def most(b:Int)(ds:List Int):Int:=F b ds.tail b
def start(ds:List Int)(mn:Int):Int:=max 0 (-mn)
structure IsMin(ds:List Int)(mn:Int):Prop where
 le:∀ j,1<=j->j<=ds.length->mn<=(ds.take j).sum
 at':∃ j,1<=j/\j<=ds.length/\mn=(ds.take j).sum
end WM
namespace DL
open PySem PySem.Spec PyProof.Rows L2
variable{d:D}{f fa:Ev D}{k:Nat}
section
variable{ρ:Lc}{S:Sto}{α β:Type}
@[simp] theorem Hg{a:α}{g:α->Sto->Out β}:(Out.ok a S).bind g=g a S:=id rfl
@[simp] theorem Gvt{g:α->Sto->Out β}:(Out.bad:Out α).bind g=.bad:=id rfl
@[simp] theorem Kk{a:α}{g:α->Sto->OS}:bindS (Out.ok a S) ρ g=g a S:=id rfl
@[simp] theorem Gtx{g:α->Sto->OS}:bindS (Out.bad:Out α) ρ g=.bad:=id rfl
@[simp] theorem Xj{i:Nat}:vr i ρ S=match ρ[i]? with
 | some (some d)=>.ok d S
 | _=>.bad:=id rfl
@[simp] theorem Gei:cn d ρ S=.ok d S:=id rfl
@[simp] theorem Yx:an ρ S=.ok [] S:=id rfl
@[simp] theorem Xu{g:Ev (List D)}:ac f g ρ S=(f ρ S).bind fun x S1=>(g ρ S1).bind fun xs S2=>.ok (x::xs) S2:=id rfl
@[simp] theorem Gej{o:D->D->Sto->Out D}{fb:Ev D}:o2 o fa fb ρ S=(fa ρ S).bind fun x S1=>(fb ρ S1).bind fun y S2=>o x y S2:=id rfl
@[simp] theorem Gxh{o:D->Sto->Out D}:o1 o fa ρ S=(fa ρ S).bind fun x S1=>o x S1:=id rfl
@[simp] theorem Gek{o:List D->Sto->Out D}{f:Ev (List D)}:b1 o f ρ S=(f ρ S).bind o:=id rfl
@[simp] theorem Gvu{n:Nat}{fn:Fn}{t:Ev (List D)}:cl n fn t ρ S=(t ρ S).bind fun ds S1=>if ds.length=n then fn ds S1 else .bad:=id rfl
@[simp] theorem Gj1{fn:Fn}{ds:List D}:Gp fn ds S=match fn ds S with
 | .ok d S'=>.ok d S'
 | _=>.bad:=id rfl
@[simp] theorem Gou:tb f ρ S=(f ρ S).bind fun x S1=>match x with
 | .bl b=>.ok b S1
 | _=>.bad:=id rfl
@[simp] theorem Gvv:tt f ρ S=(f ρ S).bind fun x S1=>match Wo x S1 with
 | some b=>.ok b S1
 | none=>.bad:=id rfl
@[simp] theorem Gj2{f:Ev Bool}:tn f ρ S=(f ρ S).bind fun b S1=>.ok (!b) S1:=id rfl
@[simp] theorem Gxi{f g:Ev Bool}:ta f g ρ S=(f ρ S).bind fun b S1=>if b=true then g ρ S1 else .ok false S1:=id rfl
@[simp] theorem Gov{f g:Ev Bool}:to f g ρ S=(f ρ S).bind fun b S1=>if b=true then .ok true S1 else g ρ S1:=id rfl
@[simp] theorem Gxj{g:Ev D}:va f g ρ S=(f ρ S).bind fun x S1=>match x with
 | .bl b=>if b=true then g ρ S1 else .ok (.bl false) S1
 | _=>.bad:=id rfl
@[simp] theorem Gxk{g:Ev D}:vo f g ρ S=(f ρ S).bind fun x S1=>match x with
 | .bl b=>if b=true then .ok (.bl true) S1 else g ρ S1
 | _=>.bad:=id rfl
@[simp] theorem Gxl:vn f ρ S=(f ρ S).bind fun x S1=>match x with
 | .bl b=>.ok (.bl (!b)) S1
 | _=>.bad:=id rfl
@[simp] theorem Gxm{c:Ev Bool}{g:Ev D}:ie c f g ρ S=(c ρ S).bind fun b S1=>if b=true then f ρ S1 else g ρ S1:=id rfl
@[simp] theorem Gow{f:Ev (List D)}:tp f ρ S=(f ρ S).bind fun xs S1=>if xs.length<=1000000 then .ok (.tup xs) S1 else .bad:=id rfl
@[simp] theorem Gvw{f:Ev (List D)}:ls f ρ S=(f ρ S).bind fun xs S1=>if xs.length<=1000000 then .ok (.lst S1.length) (S1++[⟨false,xs⟩]) else .bad:=id rfl
@[simp] theorem Gw4{fe:Ev D}{fl fh:Ev (Option Int)}:sl2 fe fl fh ρ S=(fe ρ S).bind fun x S1=>(fl ρ S1).bind fun l S2=>(fh ρ S2).bind fun u S3=>Gg4 x l u S3:=id rfl
@[simp] theorem Gvx:onone ρ S=.ok none S:=id rfl
@[simp] theorem Gvy:osome f ρ S=(f ρ S).bind fun x S1=>match x with
 | .int i=>.ok (some i) S1
 | _=>.bad:=id rfl
@[simp] theorem Gox{o:D->List D->Sto->Out D}{fo:Ev D}{f:Ev (List D)}:mt o fo f ρ S=(fo ρ S).bind fun x S1=>if isLst x S1=true then(f ρ S1).bind fun xs S2=>o x xs S2 else .bad:=id rfl
@[simp] theorem Gvz{o o':D->D->Sto->Out D}{fb fc:Ev D}:ch o o' fa fb fc ρ S=(fa ρ S).bind fun x S1=>(fb ρ S1).bind fun y S2=>(o x y S2).bind fun z S3=>match z with
 | .bl b=>if b=true then(fc ρ S3).bind fun w S4=>o' y w S4 else .ok (.bl false) S3
 | _=>.bad:=id rfl
@[simp] theorem Ue{f g:Sv}:sq f g ρ S=match f ρ S with
 | .nx ρ' S'=>g ρ' S'
 | .rt d S'=>.rt d S'
 | .bk ρ' S'=>.bk ρ' S'
 | .ct ρ' S'=>.ct ρ' S'
 | .exc x ρ' S'=>.exc x ρ' S'
 | .bad=>.bad:=id rfl
@[simp] theorem Gab{g:Tg}:sa f g ρ S=bindS (f ρ S) ρ fun d S1=>match g d ρ with
 | some ρ'=>.nx ρ' S1
 | none=>.bad:=id rfl
@[simp] theorem Gxn{i:Nat}:gn i d ρ=some (ρ.set i (some d)):=id rfl
@[simp] theorem Yy:sret f ρ S=bindS (f ρ S) ρ fun d S1=>.rt d S1:=id rfl
@[simp] theorem Gj3{c:Ev Bool}{f g:Sv}:sif c f g ρ S=bindS (c ρ S) ρ fun b S1=>if b=true then f ρ S1 else g ρ S1:=id rfl
@[simp] theorem Goy:sx f ρ S=bindS (f ρ S) ρ fun _ S1=>.nx ρ S1:=id rfl
@[simp] theorem Gf8:skip ρ S=.nx ρ S:=id rfl
@[simp] theorem Gxo{fo fi:Ev D}{o:D->D->D->Sto->Option Sto}:ss f fo fi o ρ S=bindS (f ρ S) ρ fun d S1=>bindS (fo ρ S1) ρ fun x S2=>bindS (fi ρ S2) ρ fun y S3=>match o x y d S3 with
 | some S4=>.nx ρ S4
 | none=>.bad:=id rfl
@[simp] theorem Gw5{i:Nat}{g:Int->Int->Int}:sag i g f ρ S=match ρ[i]? with
 | some (some (.int a))=>bindS (f ρ S) ρ fun d S1=>match d with
  | .int b=>.nx (ρ.set i (some (.int (g a b)))) S1
  | _=>.bad
 | _=>.bad:=id rfl
@[simp] theorem Gf9:isrc f ρ S=(f ρ S).bind Gcj:=id rfl
@[simp] theorem Qp{f:Ev Src}{g:Tg}{b:Sv}:sfor f g b ρ S=bindS (f ρ S) ρ fun s S1=>forN s.nxt g b s.fuel 0 ρ S1:=id rfl
section
variable{i j:Int}
@[simp] theorem Gw6:Jj (.int i) (.int j) S=.ok (.int (i+j)) S:=id rfl
@[simp] theorem Gw7:Zi (.int i) (.int j) S=.ok (.int (i-j)) S:=id rfl
@[simp] theorem Gxp:Gfc (.int i) S=.ok (.int (-i)) S:=id rfl
theorem Gj4(h1 : -(2^64)<j)(h2:j<2^64):Xx (.int i) (.int j) S=.ok (.int (i*j)) S:=by
 show(if(-(2^64)<i/\i<2^64)\/(-(2^64)<j/\j<2^64) then Out.ok (D.int (i*j)) S else .bad)=_
 rw[if_pos (.inr ⟨h1,h2⟩)]
theorem Goz(h1 : -(2^64)<i)(h2:i<2^64):Xx (.int i) (.int j) S=.ok (.int (i*j)) S:=by
 show(if(-(2^64)<i/\i<2^64)\/(-(2^64)<j/\j<2^64) then Out.ok (D.int (i*j)) S else .bad)=_
 rw[if_pos (.inl ⟨h1,h2⟩)]
theorem Zs(h:0<j):Xq (.int i) (.int j) S=.ok (.int (i%j)) S:=by
 show(if decide (0<j)=true then Out.ok (D.int (i%j)) S else .bad)=_
 rw[if_pos (by simpa using h)]
theorem Gfl(h:0<j)(h2:j<2^200):Yn (.int i) (.int j) S=.ok (.int (i / j)) S:=by
 show(if decide (0<j/\j<2^200)=true then Out.ok (D.int (i / j)) S else .bad)=_
 rw[if_pos (decide_eq_true ⟨h,h2⟩)]
theorem Gfm{n:Nat}(h:(n:Int)<=1000000)(h2:i.natAbs<2^64):Gd2 (.int i) (.int n) S=.ok (.int (i^n)) S:=by
 show(if decide (0<=(n:Int)/\(n:Int)<=1000000/\i.natAbs<2^64)=true then Out.ok (D.int (i^(n:Int).toNat)) S else .bad)=_
 rw[if_pos (decide_eq_true ⟨by omega,h,h2⟩)]
 rfl
@[simp] theorem Gxq:Gd2 (.int 10) (.int 6) S=.ok (.int 1000000) S:=Gfm (n:=6) (by decide) (by decide)
@[simp] theorem Gw8:Gd2 (.int 10) (.int 15) S=.ok (.int 1000000000000000) S:=Gfm (n:=15) (by decide) (by decide)
@[simp] theorem Gw9:Gd2 (.int 10) (.int 18) S=.ok (.int 1000000000000000000) S:=Gfm (n:=18) (by decide) (by decide)
@[simp] theorem Gxr:ltD (.int i) (.int j) S=.ok (.bl (decide (i<j))) S:=id rfl
@[simp] theorem Gv0:leD (.int i) (.int j) S=.ok (.bl (decide (i<=j))) S:=id rfl
@[simp] theorem Gxs:gtD (.int i) (.int j) S=.ok (.bl (decide (j<i))) S:=id rfl
@[simp] theorem Gxt:geD (.int i) (.int j) S=.ok (.bl (decide (j<=i))) S:=id rfl
@[simp] theorem Gxa:Ggz [.int i,.int j] S=.ok (.int (min i j)) S:=by
 show Out.ok (D.int (if j<i then j else i)) S=_
 congr 2
 omega
@[simp] theorem Gxb:Gwt [.int i,.int j] S=.ok (.int (max i j)) S:=by
 show Out.ok (D.int (if j>i then j else i)) S=_
 congr 2
 omega
@[simp] theorem Gxu:eqD (.int i) (.int j) S=.ok (.bl (decide (i=j))) S:=by
 simp only[eqD,toP]
 simp[SeqAt.shaped,PyData.eqv]
 rfl
@[simp] theorem Gxv:neD (.int i) (.int j) S=.ok (.bl (!decide (i=j))) S:=by
 simp only[neD,toP]
 simp[SeqAt.shaped,PyData.eqv]
 rfl
theorem Wn{x y:Str}(hx:PyData.strOk x=true)(hy:PyData.strOk y=true):eqD (.str x) (.str y) S=.ok (.bl (x==y)) S:=by
 simp only[eqD,toP]
 simp[SeqAt.shaped,PyData.eqv,PyData.canLay0,PyData.depth,hx,hy]
end
@[simp] theorem Gxw{l:List D}:lenD [.tup l] S=.ok (.int l.length) S:=id rfl
theorem Go0{c:Cell}(h:S[k]?=some c):lenD [.lst k] S=.ok (.int c.xs.length) S:=by
 show(match S[k]? with | some c=>Out.ok (D.int c.xs.length) S | none=>.bad)=_
 rw[h]
theorem Jb{c:Cell}{i:Int}(h:S[k]?=some c)(e:atI c.xs i=some d):getD (.lst k) (.int i) S=.ok d S:=by
 show(match S[k]? with | some c=>(match atI c.xs i with | some d=>Out.ok d S | none=>.bad) | none=>.bad)=_
 rw[h]
 show(match atI c.xs i with | some d=>Out.ok d S | none=>.bad)=_
 rw[e]
theorem Xv{l:List D}{i:Int}(e:atI l i=some d):getD (.tup l) (.int i) S=.ok d S:=by
 show(match atI l i with | some d=>Out.ok d S | none=>.bad)=_
 rw[e]
theorem Hc{α:Type}{l:List α}{i:Int}{d:α}(h0:0<=i)(e:l[i.toNat]?=some d):atI l i=some d:=by
 unfold atI ixN
 have:i.toNat<l.length:=(List.getElem?_eq_some_iff.mp e).1
 rw[if_pos h0,if_pos (by omega)]
 exact e
theorem Gbp{xs:List D}{i:Int}(h:S[k]?=some ⟨false,xs⟩)(h0:0<=i)(h1:i<xs.length):Ut (.lst k) (.int i) d S=some (S.set k ⟨false,xs.set i.toNat d⟩):=by
 show(match S[k]? with | some c=>(match ixN c.xs.length i with | some j=>if c.fz=false then some (S.set k ⟨false,c.xs.set j d⟩) else none | none=>none) | none=>none)=_
 rw[h]
 show(match ixN xs.length i with | some j=>if false=false then some (S.set k ⟨false,xs.set j d⟩) else none | none=>none)=_
 unfold ixN
 rw[if_pos h0,if_pos h1]
 rfl
@[simp] theorem Gxx{l:List Int}:Gbx [.tup (l.map D.int)] S=.ok (.int l.sum) S:=by
 have:∀ l:List Int,Qj (l.map D.int)=some l:=fun l=>by
  induction l with
  | nil=>rfl
  | cons a r ih=>show(Qj (r.map D.int)).map (a::·)=_; rw[ih]; rfl
 show(match (some (l.map D.int)).bind Qj with | some ns=>Out.ok (D.int ns.sum) S | none=>.bad)=_
 rw[Option.bind_some,this]
theorem Gel:∀ l:List Int,Qj (l.map D.int)=some l
 | []=>rfl
 | a::r=>by show(Qj (r.map D.int)).map (a::·)=_; rw[Gel r]; rfl
end
end DL
namespace SP
open PySem PySem.Spec PyProof.Rows L2 DL
open Builtin Builtin.Str StrLaws
theorem Gj5{c:Nat}:∀ {a b X Y:List Nat},c∉a->c∉b->a++c::X=b++c::Y->a=b/\X=Y
 | [],[],_,_,_,_,h=>by simpa using h
 | [],y::b,_,_,_,hb,h=>by
  have:c=y:=by simpa using(List.cons.inj h).1
  exact absurd (this▸List.mem_cons_self) hb
 | x::a,[],_,_,ha,_,h=>by
  have:x=c:=by simpa using(List.cons.inj h).1
  exact absurd (this▸List.mem_cons_self) ha
 | x::a,y::b,X,Y,ha,hb,h=>by
  obtain⟨h1,h2⟩:=List.cons.inj h
  obtain⟨e1,e2⟩:=Gj5 (c:=c) (a:=a) (b:=b) (fun z=>ha (List.mem_cons_of_mem _ z)) (fun z=>hb (List.mem_cons_of_mem _ z)) h2
  exact⟨by rw[h1,e1],e2⟩
theorem tl_app(a b:Str):(a++b).cps.toList=a.cps.toList++b.cps.toList:=by
 show(a.cps++b.cps).toList=_
 simp
theorem str_ext{a b:Str}(h:a.cps.toList=b.cps.toList):a=b:=by
 cases a; cases b
 congr 1
 exact Array.ext' h
theorem join_two{c:Nat}{x y:Str}{r:List Str}:(Str.join ⟨#[c]⟩ (x::y::r)).cps.toList=x.cps.toList++c::(Str.join ⟨#[c]⟩ (y::r)).cps.toList:=by
 show((x++(⟨#[c]⟩:Str))++Str.join ⟨#[c]⟩ (y::r)).cps.toList=_
 rw[tl_app,tl_app]
 simp
theorem Gem{c:Nat}:∀ (ps qs:List Str),ps≠[]->qs≠[]->(∀ p∈ps,c∉p.cps.toList)->(∀ p∈qs,c∉p.cps.toList)->Str.join ⟨#[c]⟩ ps=Str.join ⟨#[c]⟩ qs->ps=qs
 | [],_,h,_,_,_,_=>absurd rfl h
 | _::_,[],_,h,_,_,_=>absurd rfl h
 | [x],[y],_,_,_,_,h=>by rw[show x=y from h]
 | [x],y::z::r,_,_,hp,_,h=>by
  have e:x.cps.toList=y.cps.toList++c::(Str.join ⟨#[c]⟩ (z::r)).cps.toList:=by rw[<- join_two,<- h]; rfl
  exact absurd (by rw[e]; simp) (hp x List.mem_cons_self)
 | x::z::r,[y],_,_,_,hq,h=>by
  have e:y.cps.toList=x.cps.toList++c::(Str.join ⟨#[c]⟩ (z::r)).cps.toList:=by rw[<- join_two,h]; rfl
  exact absurd (by rw[e]; simp) (hq y List.mem_cons_self)
 | x::x2::r,y::y2::q,_,_,hp,hq,h=>by
  have e:x.cps.toList++c::(Str.join ⟨#[c]⟩ (x2::r)).cps.toList=y.cps.toList++c::(Str.join ⟨#[c]⟩ (y2::q)).cps.toList:=by rw[<- join_two,<- join_two,h]
  obtain⟨e1,e2⟩:=Gj5 (hp x List.mem_cons_self) (hq y List.mem_cons_self) e
  have e3:=Gem (x2::r) (y2::q) (by simp) (by simp) (fun p hm=>hp p (List.mem_cons_of_mem _ hm)) (fun p hm=>hq p (List.mem_cons_of_mem _ hm)) (str_ext e2)
  rw[str_ext e1,e3]
theorem split_ne(x y:Str):Txt.split x y≠[]:=by
 unfold Txt.split
 split
 ·simp
 ·split
  ·simp
  ·rw[partsBetween_eq]
   obtain⟨p,r,e⟩:=partsFrom_ne x y.length 0 (occurrences x y 0 x.length (x.length+1))
   rw[e]
   simp
theorem split_join{c:Nat}{ps:List Str}(h:ps≠[])(hp:∀ p∈ps,c∉p.cps.toList):Txt.split (Str.join ⟨#[c]⟩ ps) ⟨#[c]⟩=ps:=
 Gem _ _ (split_ne _ _) h (split_free _ c) hp (join_split _ _)
theorem Ghm(x y:Str):Gfe x y<=x.length+2:=by
 unfold Gfe
 rw[partsBetween_eq]
 have h:∀ (cuts:List Nat) (a:Nat),(partsFrom x y.length a cuts).length=cuts.length+1:=by
  intro cuts
  induction cuts with
  | nil=>intro a; rfl
  | cons k r ih=>intro a; show(_::partsFrom x y.length _ r).length=_; rw[List.length_cons,ih]; rfl
 rw[h]
 have:=occ_length_le_len x y 0 x.length (x.length+1)
 omega
theorem okSplit_of{x y:Str}(h1:(y.length==0)=false)(h2:x.length<=100000)(h3:(Txt.split x y).length<=100000):Ux x y=true:=by
 unfold Ux
 have:=Ghm x y
 simp only[Bool.and_eq_true,decide_eq_true_eq,Bool.not_eq_true']
 exact⟨h1,by omega,by omega,by omega⟩
end SP
namespace Law
open PySem PySem.Spec PyProof.Rows L2 DL
variable{c:Cell}{t k j q n a:Nat}{S S1 S2 S' S0:Sto}{m:Int}{d:D}{f:Sv}{ρ ρ':Lc}{xs l:List D}{fz:Bool}{x5 x6 x7:Option D}{L X:List Int}{M:Nat->List Int}
theorem Gen{c t:Int}:∃ r,Jq [.int c,.int t] S=.ok (.int r) S:=by
 have sqr:∀ x:Int,Xx (.int (x%2147483647)) (.int (x%2147483647)) S=.ok (.int (x%2147483647*(x%2147483647))) S:=fun x=>Gj4 (by omega) (by omega)
 simp[Jq,fnB,Wk,Zs,Gj4,Goz,Gfl,sqr]
def Gdo:Sv:=sif (ta (tb (o2 eqD (o2 DL.getD (vr 0) (cn (.int 1))) (cn (.int 0)))) (tb (o2 gtD (b1 lenD (ac (o2 DL.getD (vr 0) (cn (.int 0))) an)) (cn (.int 0)))))
  (sq (sa (mt Gd6 (o2 DL.getD (vr 0) (cn (.int 0))) (ac (cn (.int 0)) an)) (gn 2))
  (sq (sif (tb (o2 ltD (vr 2) (o2 Gd2 (cn (.int 10)) (cn (.int 18)))))
  (sret (o2 Xq (cl 2 (Gp Jq) (ac (vr 2) (ac (o2 DL.getD (vr 0) (cn (.int 3))) an))) (vr 1)))
  DL.skip)
  (ss (vr 2) (vr 0) (cn (.int 1)) Ut)))
  DL.skip
def Ghn:Sv:=(sq (sif (tb (o2 gtD (o2 DL.getD (vr 0) (cn (.int 1))) (cn (.int 0))))
  (sq (sa (o2 Xq (o2 DL.getD (vr 0) (cn (.int 1))) (vr 1)) (gn 3))
  (sq (ss (o2 Yn (o2 DL.getD (vr 0) (cn (.int 1))) (vr 1)) (vr 0) (cn (.int 1)) Ut)
  (sret (vr 3))))
  DL.skip)
  (sret (o2 Xq (cl 2 (Gp Jq) (ac (o2 DL.getD (vr 0) (cn (.int 2))) (ac (o2 DL.getD (vr 0) (cn (.int 3))) an))) (vr 1))))
def fin(o:OS):Out D:=match o with
 | .rt d S'=>.ok d S'
 | .nx _ S'=>.ok .non S'
 | .exc x _ S'=>.exc x S'
 | _=>.bad
theorem Jc{m:Nat}{b:Sv}{ds:List D}:fnB m b ds S=fin (b (ds.map some++List.replicate (m-ds.length) none) S):=rfl
@[simp] theorem Gs8:fin (.rt d S)=.ok d S:=rfl
structure Tp(S:Sto)(t k:Nat):Prop where
 ex:∃ (a sd n:Int) (xs:List Int),S[t]?=some ⟨false,[.lst k,.int a,.int sd,.int n]⟩/\S[k]?=some ⟨false,xs.map D.int⟩
 ne:t≠k
structure Sm(S S':Sto)(t k:Nat):Prop where
 len:S'.length=S.length
 get:∀ i,i≠t->i≠k->S'[i]?=S[i]?
theorem Sm.trans(a:Sm S S1 t k)(b:Sm S1 S2 t k):Sm S S2 t k:=⟨b.len.trans a.len,fun i h1 h2=>(b.get i h1 h2).trans (a.get i h1 h2)⟩
theorem Sm.set(h:j=t\/j=k):Sm S (S.set j c) t k:=⟨by simp,fun i h1 h2=>by
 rw[List.getElem?_set_ne]
 rcases h with h | h
 ·rw[h]; exact Ne.symm h1
 ·rw[h]; exact Ne.symm h2⟩
theorem Gnl(h:Tp S t k)(hm:0<m)(hm2:m<2^200):∃ r S',Gh [.lst t,.int m] S=.ok (.int r) S'/\0<=r/\r<m/\Tp S' t k/\Sm S S' t k:=by
 obtain⟨⟨a,sd,n,xs,e1,e2⟩,ne⟩:=h
 have lt:t<S.length:=(List.getElem?_eq_some_iff.mp e1).1
 have lk:k<S.length:=(List.getElem?_eq_some_iff.mp e2).1
 have g3:getD (.lst t) (.int 3) S=.ok (.int n) S:=Jb e1 rfl
 have s3:Ut (.lst t) (.int 3) (.int (n+1)) S=some (S.set t ⟨false,[.lst k,.int a,.int sd,.int (n+1)]⟩):=Gbp e1 (by decide) (by simp)
 have e1':(S.set t ⟨false,[.lst k,.int a,.int sd,.int (n+1)]⟩)[t]?=some ⟨false,[.lst k,.int a,.int sd,.int (n+1)]⟩:=List.getElem?_set_self lt
 have e2':(S.set t ⟨false,[.lst k,.int a,.int sd,.int (n+1)]⟩)[k]?=some ⟨false,xs.map D.int⟩:=by rw[List.getElem?_set_ne ne]; exact e2
 have sm1:Sm S (S.set t ⟨false,[.lst k,.int a,.int sd,.int (n+1)]⟩) t k:=Sm.set (.inl rfl)
 generalize hS1:S.set t ⟨false,[.lst k,.int a,.int sd,.int (n+1)]⟩=S1 at *
 have lt':t<S1.length:=(List.getElem?_eq_some_iff.mp e1').1
 have lk':k<S1.length:=(List.getElem?_eq_some_iff.mp e2').1
 have g0:getD (.lst t) (.int 0) S1=.ok (.lst k) S1:=Jb e1' rfl
 have g1:getD (.lst t) (.int 1) S1=.ok (.int a) S1:=Jb e1' rfl
 have g2:getD (.lst t) (.int 2) S1=.ok (.int sd) S1:=Jb e1' rfl
 have g3':getD (.lst t) (.int 3) S1=.ok (.int (n+1)) S1:=Jb e1' rfl
 have ln:lenD [.lst k] S1=.ok (.int xs.length) S1:=by rw[Go0 e2']; simp
 have rest:∀ (S2:Sto) (a2:Int) (q:Option D),S2[t]?=some ⟨false,[.lst k,.int a2,.int sd,.int (n+1)]⟩->(∃ ys:List Int,S2[k]?=some ⟨false,ys.map D.int⟩)->Sm S S2 t k->∃ r S',fin (Ghn [some (.lst t),some (.int m),q,none] S2)=.ok (.int r) S'/\0<=r/\r<m/\Tp S' t k/\Sm S S' t k:=by
  intro S2 a2 q h1 h2 sm
  have h0:DL.getD (.lst t) (.int 1) S2=.ok (.int a2) S2:=Jb h1 rfl
  have h02:DL.getD (.lst t) (.int 2) S2=.ok (.int sd) S2:=Jb h1 rfl
  have h03:DL.getD (.lst t) (.int 3) S2=.ok (.int (n+1)) S2:=Jb h1 rfl
  have hs:∀ d,Ut (.lst t) (.int 1) d S2=some (S2.set t ⟨false,[.lst k,d,.int sd,.int (n+1)]⟩):=fun d=>Gbp h1 (by decide) (by simp)
  have lt2:t<S2.length:=(List.getElem?_eq_some_iff.mp h1).1
  by_cases c:0<a2
  ·refine⟨a2%m,S2.set t ⟨false,[.lst k,.int (a2 / m),.int sd,.int (n+1)]⟩,?_,Int.emod_nonneg _ (by omega),Int.emod_lt_of_pos _ hm,⟨?_,ne⟩,sm.trans (Sm.set (.inl rfl))⟩
   ·simp[Ghn,h0,c,Zs hm,Gfl hm hm2,hs]
   ·obtain⟨ys,h2⟩:=h2
    exact⟨_,_,_,ys,List.getElem?_set_self lt2,by rw[List.getElem?_set_ne ne]; exact h2⟩
  ·obtain⟨r,hr⟩:=Gen (c:=sd) (t:=n+1) (S:=S2)
   refine⟨r%m,S2,?_,Int.emod_nonneg _ (by omega),Int.emod_lt_of_pos _ hm,⟨?_,ne⟩,sm⟩
   ·simp[Ghn,h0,h02,h03,c,hr,Zs hm]
   ·obtain⟨ys,h2⟩:=h2
    exact⟨_,_,_,ys,h1,h2⟩
 show ∃ r S',fnB 4 (sq (ss (o2 Jj (o2 DL.getD (vr 0) (cn (.int 3))) (cn (.int 1))) (vr 0) (cn (.int 3)) Ut) (sq Gdo Ghn)) [.lst t,.int m] S=.ok (.int r) S'/\_
 rw[Jc,Ue]
 have st1:ss (o2 Jj (o2 DL.getD (vr 0) (cn (.int 3))) (cn (.int 1))) (vr 0) (cn (.int 3)) Ut ([D.lst t,D.int m].map some++List.replicate (4-[D.lst t,D.int m].length) none) S=.nx [some (.lst t),some (.int m),none,none] S1:=by
  simp[g3,s3]
 rw[st1]
 by_cases c:a=0/\0<xs.length
 ·obtain⟨c1,c2⟩:=c
  cases xs with
  | nil=>simp at c2
  | cons x ys=>
   have pp:Gd6 (.lst k) [.int 0] S1=.ok (.int x) (S1.set k ⟨false,ys.map D.int⟩):=by
    simp only[Gd6,e2']
    simp
   have il:isLst (.lst k) S1=true:=by simp only[isLst,e2']
   have q1:(S1.set k ⟨false,ys.map D.int⟩)[t]?=some ⟨false,[.lst k,.int a,.int sd,.int (n+1)]⟩:=by rw[List.getElem?_set_ne (Ne.symm ne)]; exact e1'
   have q2:(S1.set k ⟨false,ys.map D.int⟩)[k]?=some ⟨false,ys.map D.int⟩:=List.getElem?_set_self lk'
   have sm2:Sm S (S1.set k ⟨false,ys.map D.int⟩) t k:=sm1.trans (Sm.set (.inr rfl))
   generalize hS2:S1.set k ⟨false,ys.map D.int⟩=S2 at *
   have g3'':DL.getD (.lst t) (.int 3) S2=.ok (.int (n+1)) S2:=Jb q1 rfl
   by_cases c3:x<1000000000000000000
   ·obtain⟨r,hr⟩:=Gen (c:=x) (t:=n+1) (S:=S2)
    refine⟨r%m,S2,?_,Int.emod_nonneg _ (by omega),Int.emod_lt_of_pos _ hm,⟨⟨_,_,_,ys,q1,q2⟩,ne⟩,sm2⟩
    simp[Gdo,g0,g1,c1,ln,il,pp,c3,g3'',hr,Zs hm]
   ·have lt2:t<S2.length:=(List.getElem?_eq_some_iff.mp q1).1
    have hs:Ut (.lst t) (.int 1) (.int x) S2=some (S2.set t ⟨false,[.lst k,.int x,.int sd,.int (n+1)]⟩):=Gbp q1 (by decide) (by simp)
    obtain⟨r,S',h1,h2,h3,h4,h5⟩:=rest (S2.set t ⟨false,[.lst k,.int x,.int sd,.int (n+1)]⟩) x (some (.int x)) (List.getElem?_set_self lt2) ⟨ys,by rw[List.getElem?_set_ne ne]; exact q2⟩ (sm2.trans (Sm.set (.inl rfl)))
    refine⟨r,S',?_,h2,h3,h4,h5⟩
    rw[<- h1]
    have st2:Gdo [some (.lst t),some (.int m),none,none] S1=.nx [some (.lst t),some (.int m),some (.int x),none] (S2.set t ⟨false,[.lst k,.int x,.int sd,.int (n+1)]⟩):=by
     simp[Gdo,g0,g1,c1,ln,il,pp,c3,hs]
    show fin (sq Gdo Ghn [some (.lst t),some (.int m),none,none] S1)=_
    rw[Ue,st2]
 ·obtain⟨r,S',h1,h2,h3,h4,h5⟩:=rest S1 a none e1' ⟨xs,e2'⟩ sm1
  refine⟨r,S',?_,h2,h3,h4,h5⟩
  rw[<- h1]
  have st2:Gdo [some (.lst t),some (.int m),none,none] S1=.nx [some (.lst t),some (.int m),none,none] S1:=by
   by_cases ca:a=0
   ·have:¬ 0<xs.length:=fun z=>c ⟨ca,z⟩
    simp[Gdo,g0,g1,ca,ln,this]
   ·simp[Gdo,g1,ca]
  show fin (sq Gdo Ghn [some (.lst t),some (.int m),none,none] S1)=_
  rw[Ue,st2]
theorem Tp.app(h:Tp S t k):Tp (S++[c]) t k:=by
 obtain⟨⟨a,sd,n,xs,e1,e2⟩,ne⟩:=h
 have lt:t<S.length:=(List.getElem?_eq_some_iff.mp e1).1
 have lk:k<S.length:=(List.getElem?_eq_some_iff.mp e2).1
 exact⟨⟨a,sd,n,xs,by rw[List.getElem?_append_left lt]; exact e1,by rw[List.getElem?_append_left lk]; exact e2⟩,ne⟩
theorem Tp.lt(h:Tp S t k):t<S.length/\k<S.length:=by
 obtain⟨⟨a,sd,n,xs,e1,e2⟩,ne⟩:=h
 exact⟨(List.getElem?_eq_some_iff.mp e1).1,(List.getElem?_eq_some_iff.mp e2).1⟩
theorem Tp.set(h:Tp S t k)(h1:q≠t)(h2:q≠k):Tp (S.set q c) t k:=by
 obtain⟨⟨a,sd,n,xs,e1,e2⟩,ne⟩:=h
 exact⟨⟨a,sd,n,xs,by rw[List.getElem?_set_ne h1]; exact e1,by rw[List.getElem?_set_ne h2]; exact e2⟩,ne⟩
structure Kp(S S':Sto)(t k:Nat):Prop where
 len:S.length<=S'.length
 get:∀ i,i<S.length->i≠t->i≠k->S'[i]?=S[i]?
theorem Kp.refl:Kp S S t k:=⟨Nat.le_refl _,fun _ _ _ _=>rfl⟩
theorem Kp.trans(a:Kp S S1 t k)(b:Kp S1 S2 t k):Kp S S2 t k:=⟨Nat.le_trans a.len b.len,fun i h h1 h2=>(b.get i (Nat.lt_of_lt_of_le h a.len) h1 h2).trans (a.get i h h1 h2)⟩
theorem Kp.app:Kp S (S++[c]) t k:=⟨by simp,fun i h _ _=>by rw[List.getElem?_append_left h]⟩
theorem Kp.at(a:Kp S S' t k)(e:S[q]?=some c)(h1:q≠t)(h2:q≠k):S'[q]?=some c:=(a.get q (List.getElem?_eq_some_iff.mp e).1 h1 h2).trans e
theorem Hl:(S++[c])[S.length]?=some c:=by rw[List.getElem?_append_right (Nat.le_refl _)]; simp
theorem Gat{d:Cell}(e:S[q]?=some d):(S++[c])[q]?=some d:=by
 rw[List.getElem?_append_left (List.getElem?_eq_some_iff.mp e).1]; exact e
theorem Gr{g:Sv}(h:f ρ S=.nx ρ' S'):fin (sq f g ρ S)=fin (g ρ' S'):=by rw[Ue,h]
theorem Xo{g:Sv}(h:f ρ S=.rt d S'):fin (sq f g ρ S)=.ok d S':=by rw[Ue,h]; rfl
theorem Sm.kp(s:Sm S S' t k):Kp S S' t k:=⟨Nat.le_of_eq s.len.symm,fun i _ h1 h2=>s.get i h1 h2⟩
theorem draw(h:Tp S t k)(hm:0<m)(hm2:m<2^200):∃ r S',Gh [.lst t,.int m] S=.ok (.int r) S'/\0<=r/\r<m/\Tp S' t k/\Kp S S' t k:=by
 obtain⟨r,S',e,a,b,c,d⟩:=Gnl h hm hm2
 exact⟨r,S',e,a,b,c,d.kp⟩
theorem pick{r:Int}{x:D}(s:Kp (S++[⟨false,xs⟩]) S1 t k)(h:t<S.length/\k<S.length)(e:atI xs r=some x):DL.getD (.lst S.length) (.int r) S1=.ok x S1:=
 Jb (c:=⟨false,xs⟩) (s.at Hl (by omega) (by omega)) e
theorem Yz(h:Tp S t k)(hm:m=xs.length)(h0:0<xs.length)(h1:xs.length<1000):∃ r x S1,Gh [.lst t,.int m] (S++[⟨false,xs⟩])=.ok (.int r) S1/\DL.getD (.lst S.length) (.int r) S1=.ok x S1/\x∈xs/\Tp S1 t k/\Kp S S1 t k:=by
 obtain⟨r,S1,e1,r0,r1,d1,k1⟩:=draw (m:=m) (h.app (c:=⟨false,xs⟩)) (by omega) (by omega)
 have hlt:r.toNat<xs.length:=by omega
 have ea:atI xs r=some xs[r.toNat]:=Hc r0 (by simp[hlt])
 exact⟨r,_,S1,e1,pick k1 h.lt ea,List.getElem_mem hlt,d1,Kp.app.trans k1⟩
inductive Pl where
 | e | c | p (br de ro:Int) (pr:D)
variable{p:Pl}
def Pl.toD:Pl->D
 | .e=>.tup [.str "end"]
 | .c=>.tup [.str "chamber"]
 | .p br de ro pr=>.tup [.str "pound",.int br,.int de,.int ro,pr]
def Pl.ok:Pl->Prop
 | .p br de ro pr=>1<=br/\br<=9/\0<=de/\de<=br/\1<=ro/\ro<=4/\(pr=.non\/∃ i,pr=.int i/\0<=i/\i<=99)
 | _=>True
theorem Gac(e:S[q]?=some ⟨false,xs⟩)(h:xs.length<1000000):Xr (.lst q) [d] S=.ok .non (S.set q ⟨false,xs++[d]⟩):=by
 simp only[Xr,e]
 simp[h]
theorem isL(e:S[q]?=some c):isLst (.lst q) S=true:=by simp only[isLst,e]
theorem Jr{nxt:Nat->Sto->Option D}{g:Tg}{b:Sv}{l:List D}(I:Nat->Lc->Sto->Prop)(hn:∀ k ρ S,I k ρ S->nxt k S=l[k]?)(hs:∀ k d ρ S,l[k]?=some d->I k ρ S->∃ ρ1 ρ2 S2,g d ρ=some ρ1/\b ρ1 S=.nx ρ2 S2/\I (k+1) ρ2 S2):
  ∀ (n k:Nat) (ρ:Lc) (S:Sto),k<=l.length->I k ρ S->l.length<n+k->∃ ρ' S',forN nxt g b n k ρ S=.nx ρ' S'/\I l.length ρ' S'
 | 0,k,ρ,S,h1,_,h2=>by omega
 | n+1,k,ρ,S,h1,hI,h2=>by
  unfold forN
  rw[hn k ρ S hI]
  cases z:l[k]? with
  | none=>
   have:k=l.length:=by have:=List.getElem?_eq_none_iff.mp z; omega
   subst this
   exact⟨ρ,S,rfl,hI⟩
  | some d=>
   obtain⟨ρ1,ρ2,S2,h3,h4,h5⟩:=hs k d ρ S z hI
   have hk:k<l.length:=(List.getElem?_eq_some_iff.mp z).1
   obtain⟨ρ',S',h6,h7⟩:=Jr I hn hs n (k+1) ρ2 S2 hk h5 (by omega)
   refine⟨ρ',S',?_,h7⟩
   simp only[h3,h4]
   exact h6
def Gnm(l:List D):Src:=⟨fun k _=>l[k]?,l.length+1⟩
def Yh(i n:Nat):Src:=⟨fun k S=>(S[i]?).bind fun c=>c.xs[k]?,n+1⟩
theorem Gv1:Gcj (.tup l) S=.ok (Gnm l) S:=id rfl
theorem Geo{i:Nat}(e:S[i]?=some c):Gcj (.lst i) S=.ok (Yh i c.xs.length) S:=by
 simp only[Gcj,e]
 rfl
theorem Gv2:l.length<(Gnm l).fuel+0:=Nat.lt_succ_self _
theorem Va:(rsrc 0 n).nxt k S=((List.range n).map fun k:Nat=>D.int (k:Int))[k]?:=by
 show(if k<n then some (D.int (0+k)) else none)=_
 rw[List.getElem?_map]
 by_cases c:k<n
 ·rw[if_pos c,List.getElem?_range c]; simp
 ·rw[if_neg c,List.getElem?_eq_none (by simp; omega)]; rfl
theorem Yi(h:((List.range n).map fun k:Nat=>D.int (k:Int))[k]?=some d):k<n/\d=.int k:=by
 have hk:k<n:=by have:=(List.getElem?_eq_some_iff.mp h).1; simpa using this
 rw[List.getElem?_map,List.getElem?_range hk] at h
 exact⟨hk,(Option.some.inj h).symm⟩
theorem Yj{f:Ev (List D)}(h:f ρ S=.ok [.int n] S')(hn:n<=1000000):ir1 f ρ S=.ok (rsrc 0 n) S':=by
 unfold ir1
 rw[h]
 show(if -1000000000000<=(n:Int)/\(n:Int)<=1000000000000 then Out.ok (rsrc 0 (n:Int).toNat) S' else .bad)=_
 rw[if_pos (by omega)]; rfl
theorem Kp.setq(a:Kp S0 S t k)(h:S0.length<=q):Kp S0 (S.set q c) t k:=⟨by simp; exact a.len,fun i hi h1 h2=>by
 rw[List.getElem?_set_ne (by omega)]; exact a.get i hi h1 h2⟩
theorem Gj6{i:Nat}{a b:List D}(h1:S[i]?=some ⟨false,a⟩)(h2:S[j]?=some ⟨false,b⟩)(h:a.length+b.length<=1000000):Jj (.lst i) (.lst j) S=.ok (.lst S.length) (S++[⟨false,a++b⟩]):=by
 simp only[Jj,h1,h2]
 simp[h]
theorem Gcp(e:S[q]?=some c):Qg [.lst q] S=.ok (.tup c.xs) S:=by
 simp only[Qg,e]
def Pl.isC:Pl->Bool
 | .c=>true
 | _=>false
def Pl.isE:Pl->Bool
 | .e=>true
 | _=>false
theorem stok(s:String):PyData.strOk (Str.ofString s)=true:=by
 unfold PyData.strOk
 have hc:∀ c:Char,c.toNat<1114112:=fun c=>by
  rcases c.valid with h | ⟨_,h⟩
  ·exact Nat.lt_of_lt_of_le h (by decide)
  ·exact h
 rw[Str.ofString_eq_toList]
 simp[hc]
theorem Gdp(h:p.ok):eqD p.toD (.tup [.str "chamber"]) S=.ok (.bl p.isC) S:=by
 have n1:(Str.ofString "end"==Str.ofString "chamber")=false:=by decide +kernel
 have n2:(Str.ofString "pound"==Str.ofString "chamber")=false:=by decide +kernel
 cases p with
 | e=>simp[Pl.toD,eqD,toP,Vd,SeqAt.shaped,PyData.canLay0,PyData.canLayAll0,PyData.depth,PyData.depthAll,stok,PyData.eqv,PyData.eqvAll,n1,Pl.isC]
 | c=>simp[Pl.toD,eqD,toP,Vd,SeqAt.shaped,PyData.canLay0,PyData.canLayAll0,PyData.depth,PyData.depthAll,stok,PyData.eqv,PyData.eqvAll,Pl.isC]
 | p br de ro pr=>
  obtain⟨_,_,_,_,_,_,h⟩:=h
  rcases h with rfl | ⟨i,rfl,_⟩
  ·simp[Pl.toD,eqD,toP,Vd,SeqAt.shaped,PyData.canLay0,PyData.canLayAll0,PyData.depth,PyData.depthAll,stok,PyData.eqv,PyData.eqvAll,n2,Pl.isC]
  ·simp[Pl.toD,eqD,toP,Vd,SeqAt.shaped,PyData.canLay0,PyData.canLayAll0,PyData.depth,PyData.depthAll,stok,PyData.eqv,PyData.eqvAll,n2,Pl.isC]
theorem Gj7(h:p.ok):eqD p.toD (.tup [.str "end"]) S=.ok (.bl p.isE) S:=by
 have n1:(Str.ofString "chamber"==Str.ofString "end")=false:=by decide +kernel
 have n2:(Str.ofString "pound"==Str.ofString "end")=false:=by decide +kernel
 cases p with
 | e=>simp[Pl.toD,eqD,toP,Vd,SeqAt.shaped,PyData.canLay0,PyData.canLayAll0,PyData.depth,PyData.depthAll,stok,PyData.eqv,PyData.eqvAll,Pl.isE]
 | c=>simp[Pl.toD,eqD,toP,Vd,SeqAt.shaped,PyData.canLay0,PyData.canLayAll0,PyData.depth,PyData.depthAll,stok,PyData.eqv,PyData.eqvAll,n1,Pl.isE]
 | p br de ro pr=>
  obtain⟨_,_,_,_,_,_,h⟩:=h
  rcases h with rfl | ⟨i,rfl,_⟩
  ·simp[Pl.toD,eqD,toP,Vd,SeqAt.shaped,PyData.canLay0,PyData.canLayAll0,PyData.depth,PyData.depthAll,stok,PyData.eqv,PyData.eqvAll,n2,Pl.isE]
  ·simp[Pl.toD,eqD,toP,Vd,SeqAt.shaped,PyData.canLay0,PyData.canLayAll0,PyData.depth,PyData.depthAll,stok,PyData.eqv,PyData.eqvAll,n2,Pl.isE]
theorem Gs9{l:List Int}(h:(l.map D.int)[k]?=some d):∃ i,d=.int i/\l[k]?=some i:=by
 rw[List.getElem?_map] at h
 cases z:l[k]? with
 | none=>rw[z] at h; cases h
 | some i=>rw[z] at h; cases h; exact⟨i,rfl,rfl⟩
theorem Gta{lo hi:Option Int}(e:S[q]?=some c):Gg4 (.lst q) lo hi S=.ok (.lst S.length) (S++[⟨false,DL.Zj c.xs lo hi⟩]):=by
 simp only[Gg4,e]
theorem Gtb(e:S[q]?=some c):Zv [.lst q] S=.ok (.lst S.length) (S++[⟨false,c.xs⟩]):=by
 simp only[Zv,e]
theorem Gnn{ns:List Int}{lo hi:Option Int}:∃ ys:List Int,DL.Zj (ns.map D.int) lo hi=ys.map D.int:=
 ⟨(ns.drop (HT.sIx (ns.map D.int).length 0 lo)).take (HT.sIx (ns.map D.int).length (ns.map D.int).length hi-HT.sIx (ns.map D.int).length 0 lo),by unfold DL.Zj; rw[List.map_take,List.map_drop]⟩
theorem Gno{ns:List Int}(e:S[q]?=some ⟨fz,ns.map D.int⟩):∃ (t k:Nat) (S':Sto),Uy [.lst q] S=.ok (.lst t) S'/\Tp S' t k:=by
 obtain⟨ys,hy⟩:=Gnn (ns:=ns) (lo:=none) (hi:=some 63)
 have s1:Gg4 (.lst q) none (some 63) S=.ok (.lst S.length) (S++[⟨false,ys.map D.int⟩]):=by rw[Gta e,hy]
 have q1:(S++[⟨false,ys.map D.int⟩])[S.length]?=some (⟨false,ys.map D.int⟩:Cell):=Hl
 have e1:=Gat (c:=⟨false,ys.map D.int⟩) e
 generalize hS1:S++[⟨false,ys.map D.int⟩]=S1 at *
 have hsrc:Gcj (.lst S.length) S1=.ok (Yh S.length (ys.map D.int).length) S1:=Geo q1
 obtain⟨ρ',S',ef,sd,g,e2,e3⟩:=Jr (nxt:=(Yh S.length (ys.map D.int).length).nxt) (g:=gn 2) (b:=Um) (l:=ys.map D.int) (fun k ρ S'=>∃ sd g,ρ=[some (.lst q),some (.int sd),g]/\S'=S1)
  (fun k ρ S2 ⟨_,_,_,h⟩=>by
   subst h
   show(S2[S.length]?).bind (fun c=>c.xs[k]?)=_
   rw[q1]; rfl) (fun k d ρ S2 hd ⟨sd,g,h1,h2⟩=>by
   obtain⟨i,rfl,_⟩:=Gs9 hd
   subst h1 h2
   exact⟨_,[some (.lst q),some (.int ((sd*69621+i)%2147483647)),some (.int i)],_,rfl,by simp[Um,Gj4,Zs],_,_,rfl,rfl⟩) (Yh S.length (ys.map D.int).length).fuel 0 [some (.lst q),some (.int 0),none] S1 (Nat.zero_le _) ⟨0,none,rfl,rfl⟩ (Nat.lt_succ_self _)
 subst e2 e3
 have s2:Gg4 (.lst q) none (some 63) S'=.ok (.lst S'.length) (S'++[⟨false,ys.map D.int⟩]):=by rw[Gta e1,hy]
 have q2:(S'++[⟨false,ys.map D.int⟩])[S'.length]?=some (⟨false,ys.map D.int⟩:Cell):=Hl
 generalize hS2:S'++[⟨false,ys.map D.int⟩]=S2 at *
 have s3:=Gtb q2
 have q3:(S2++[⟨false,ys.map D.int⟩])[S2.length]?=some (⟨false,ys.map D.int⟩:Cell):=Hl
 have l3:(S2++[(⟨false,ys.map D.int⟩:Cell)]).length=S2.length+1:=by simp
 have s3:Zv [.lst S'.length] S2=.ok (.lst S2.length) (S2++[⟨false,ys.map D.int⟩]):=s3
 generalize hS3:S2++[⟨false,ys.map D.int⟩]=S3 at *
 refine⟨S3.length,S2.length,S3++[⟨false,[.lst S2.length,.int 0,.int sd,.int 0]⟩],?_,⟨⟨0,sd,0,ys,Hl,Gat q3⟩,by omega⟩⟩
 refine(Jc (m:=3) (b:=Qx)).trans ?_
 show fin (Qx [some (.lst q),none,none] S)=_
 unfold Qx
 refine(Gr (ρ':=[some (.lst q),some (.int 0),none]) (S':=S) (by simp)).trans ?_
 refine(Gr (ρ':=[some (.lst q),some (.int sd),g]) (S':=S') ?_).trans ?_
 ·simp[s1,hsrc,-List.length_map]
  exact ef
 ·simp[s2,s3]
theorem Xk{c:Ev Bool}{g:Sv}(h:c ρ S=.ok true S1):sif c f g ρ S=f ρ S1:=by
 rw[Gj3,h,Kk,if_pos rfl]
theorem Gj8{c:Ev Bool}{g:Sv}(h:c ρ S=.ok false S1):sif c f g ρ S=g ρ S1:=by
 rw[Gj3,h,Kk,if_neg (by decide)]
theorem Wa{g:Sv}(h:f ρ S=.nx ρ' S1):sq f g ρ S=g ρ' S1:=by rw[Ue,h]
theorem Gep{many:Int}{ps:List Pl}{i:Nat}{x4:Option D}(hd:Tp S t k)(hk:Kp S0 S t k)(hq:S0.length<=q)(hqt:q≠t)(hqk:q≠k)(eq':S[q]?=some ⟨false,ps.map Pl.toD⟩)(hp:∀ p∈ps,p.ok)(hne:ps≠[])(hl:ps.length<1000):
  ∃ p S' y4 y5 y6 y7,Kc [some (.lst t),some (.int many),some (.lst q),some (.int i),x4,x5,x6,x7] S=.nx [some (.lst t),some (.int many),some (.lst q),some (.int i),y4,y5,y6,y7] S'/\Pl.ok p/\p.isE=false/\S'[q]?=some ⟨false,(ps++[p]).map Pl.toD⟩/\Tp S' t k/\Kp S0 S' t k:=by
 have hlast:DL.getD (.lst q) (.int (-1)) S=.ok (Pl.toD (ps.getLast hne)) S:=by
  refine Jb eq' ?_
  have:0<ps.length:=List.length_pos_iff.mpr hne
  show(ixN (ps.map Pl.toD).length (-1)).bind (fun j=>(ps.map Pl.toD)[j]?)=_
  unfold ixN
  rw[if_neg (by decide),if_pos (by simp; omega),Option.bind_some]
  have:((-1:Int)+((ps.map Pl.toD).length:Nat)).toNat=ps.length-1:=by simp; omega
  rw[this,List.getElem?_map,List.getElem?_eq_getElem (by omega),List.getLast_eq_getElem]
  rfl
 have ec:=Gdp (S:=S) (hp _ (List.getLast_mem hne))
 obtain⟨b,S1,et,d1,k1⟩:∃ (b:Bool) (S1:Sto),ta (tb (o2 eqD (o2 DL.getD (vr 2) (o1 Gfc (cn (.int 1)))) (tp (ac (cn (.str "chamber")) an)))) (ta (tb (o2 ltD (vr 3) (o2 Zi (vr 1) (cn (.int 1))))) (tb (o2 gtD (cl 2 (Gp Gh) (ac (vr 0) (ac (cn (.int 3)) an))) (cn (.int 0))))) [some (.lst t),some (.int many),some (.lst q),some (.int i),x4,x5,x6,x7] S=.ok b S1/\Tp S1 t k/\Kp S S1 t k:=by
  cases c1:(ps.getLast hne).isC with
  | false=>rw[c1] at ec; exact⟨false,S,by simp[hlast,ec],hd,.refl⟩
  | true=>
   rw[c1] at ec
   by_cases c2:(i:Int)<many-1
   ·obtain⟨r,S1,e1,r0,r1,d1,k1⟩:=draw (m:=3) hd (by decide) (by decide)
    exact⟨decide (0<r),S1,by simp[hlast,ec,c2,e1],d1,k1⟩
   ·exact⟨false,S,by simp[hlast,ec,c2],hd,.refl⟩
 have q1:=k1.at eq' hqt hqk
 unfold Kc
 cases b with
 | false=>
  rw[Gj8 et]
  have ap:=Gac (d:=.tup [.str "chamber"]) q1 (by simp; omega)
  have lq:q<S1.length:=(List.getElem?_eq_some_iff.mp q1).1
  refine⟨.c,S1.set q ⟨false,ps.map Pl.toD++[.tup [.str "chamber"]]⟩,x4,x5,x6,x7,by simp[isL q1,ap],trivial,rfl,?_,d1.set hqt hqk,(hk.trans k1).setq hq⟩
  rw[List.getElem?_set_self lq,List.map_append]; rfl
 | true=>
  rw[Xk et]
  obtain⟨a,S2,e2,a0,a1,d2,k2⟩:=draw (m:=9) d1 (by decide) (by decide)
  obtain⟨b,S3,e3,b0,b1,d3,k3⟩:=draw (m:=1+a+1) d2 (by omega) (by omega)
  obtain⟨c,S4,e4,c0,c1,d4,k4⟩:=draw (m:=4) d3 (by decide) (by decide)
  obtain⟨e,S5,e5,p0,p1,d5,k5⟩:=draw (m:=134) d4 (by decide) (by decide)
  have q5:=(((k2.trans k3).trans k4).trans k5).at q1 hqt hqk
  have lq:q<S5.length:=(List.getElem?_eq_some_iff.mp q5).1
  obtain⟨pr,epr,hpr⟩:∃ pr:D,ie (tb (o2 ltD (vr 7) (cn (.int 100)))) (vr 7) (cn .non) [some (.lst t),some (.int many),some (.lst q),some (.int i),some (.int (1+a)),some (.int b),some (.int (1+c)),some (.int e)] S5=.ok pr S5/\(pr=.non\/∃ i:Int,pr=.int i/\0<=i/\i<=99):=by
   by_cases h:e<100
   ·exact⟨.int e,by simp[h],.inr ⟨e,rfl,p0,by omega⟩⟩
   ·exact⟨.non,by simp[h],.inl rfl⟩
  have ap:=Gac (d:=Pl.toD (.p (1+a) b (1+c) pr)) q5 (by simp; omega)
  refine⟨.p (1+a) b (1+c) pr,S5.set q ⟨false,ps.map Pl.toD++[Pl.toD (.p (1+a) b (1+c) pr)]⟩,some (.int (1+a)),some (.int b),some (.int (1+c)),some (.int e),?_,⟨by omega,by omega,b0,by omega,by omega,by omega,hpr⟩,rfl,?_,d5.set hqt hqk,((((( hk.trans k1).trans k2).trans k3).trans k4).trans k5).setq hq⟩
  ·rw[Wa (ρ':=[some (.lst t),some (.int many),some (.lst q),some (.int i),some (.int (1+a)),x5,x6,x7]) (S1:=S2) (by simp[e2])]
   rw[Wa (ρ':=[some (.lst t),some (.int many),some (.lst q),some (.int i),some (.int (1+a)),some (.int b),x6,x7]) (S1:=S3) (by simp[e3])]
   rw[Wa (ρ':=[some (.lst t),some (.int many),some (.lst q),some (.int i),some (.int (1+a)),some (.int b),some (.int (1+c)),x7]) (S1:=S4) (by simp[e4])]
   rw[Wa (ρ':=[some (.lst t),some (.int many),some (.lst q),some (.int i),some (.int (1+a)),some (.int b),some (.int (1+c)),some (.int e)]) (S1:=S5) (by simp[e5])]
   rw[Goy,Gox,Xj]
   simp only[List.getElem?_cons_zero,List.getElem?_cons_succ,Hg,isL q5,if_true,Xu,Gow,Gei,Xj,epr,Yx,List.length_cons,List.length_nil]
   rw[if_pos (by decide),Hg,Hg]
   have ap':Xr (.lst q) [.tup [.str "pound",.int (1+a),.int b,.int (1+c),pr]] S5=.ok .non (S5.set q ⟨false,ps.map Pl.toD++[Pl.toD (.p (1+a) b (1+c) pr)]⟩):=ap
   rw[ap',Kk]
  ·rw[List.getElem?_set_self lq,List.map_append]; rfl
theorem Gho{mn:Nat}(h:Tp S t k)(hm:mn<=11):∃ (mid:List Pl) (S':Sto),Vp [.lst t,.int mn] S=.ok (.tup ((.e::(mid++[.e])).map Pl.toD)) S'/\(∀ p∈mid,p.ok/\p.isE=false)/\mid.length=mn/\Tp S' t k/\Kp S S' t k:=by
 have lt:=h.lt
 have q2:(S++[(⟨false,[.tup [.str "end"]]⟩:Cell)])[S.length]?=some ⟨false,[.tup [.str "end"]]⟩:=Hl
 have h2:=h.app (c:=⟨false,[.tup [.str "end"]]⟩)
 have k2:Kp S (S++[(⟨false,[.tup [.str "end"]]⟩:Cell)]) t k:=Kp.app
 generalize hS2:S++[(⟨false,[.tup [.str "end"]]⟩:Cell)]=S2 at *
 obtain⟨ρ3,S3,ef,mid,x3,x4,x5,x6,x7,eρ,q3,l3,ok3,d3,k3⟩:=Jr (nxt:=(rsrc 0 mn).nxt) (g:=gn 3) (b:=Kc) (l:=(List.range mn).map fun k:Nat=>D.int (k:Int))
  (fun i ρ S'=>∃ mid x3 x4 x5 x6 x7,ρ=[some (.lst t),some (.int mn),some (.lst S.length),x3,x4,x5,x6,x7]/\S'[S.length]?=some ⟨false,(Pl.e::mid).map Pl.toD⟩/\mid.length=i/\(∀ p∈mid,p.ok/\p.isE=false)/\Tp S' t k/\Kp S S' t k)
  (fun i _ S _=>Va) (fun i d ρ S' hd ⟨mid,x3,x4,x5,x6,x7,h1,h2,h3,h4,h5,h6⟩=>by
   obtain⟨hi,rfl⟩:=Yi hd
   subst h1
   obtain⟨p,S'',y4,y5,y6,y7,c1,c2,c3,c4,c5,c6⟩:=Gep (S0:=S) (q:=S.length) (many:=mn) (i:=i) (x4:=x4) (x5:=x5) (x6:=x6) (x7:=x7) (ps:=.e::mid) h5 h6 (Nat.le_refl _) (by omega) (by omega) h2 (fun p hp=>by
    rcases List.mem_cons.mp hp with rfl | hp
    ·trivial
    ·exact(h4 p hp).1) (by simp) (by simp; omega)
   refine⟨_,_,S'',rfl,c1,mid++[p],some (.int i),y4,y5,y6,y7,rfl,c4,by simp[h3],fun p' hp'=>?_,c5,c6⟩
   rcases List.mem_append.mp hp' with hp' | hp'
   ·exact h4 p' hp'
   ·have:p'=p:=by simpa using hp'
    subst this
    exact⟨c2,c3⟩) (mn+1) 0 [some (.lst t),some (.int mn),some (.lst S.length),none,none,none,none,none] S2 (Nat.zero_le _) ⟨[],none,none,none,none,none,rfl,q2,rfl,(fun p hp=>by cases hp),h2,k2⟩ (by simp)
 have hlen:((List.range mn).map fun k:Nat=>D.int (k:Int)).length=mn:=by simp
 rw[hlen] at l3
 subst eρ
 have lsE:ls (ac (tp (ac (cn (.str "end")) an)) an) [some (.lst t),some (.int mn),some (.lst S.length),x3,x4,x5,x6,x7] S3=.ok (.lst S3.length) (S3++[⟨false,[.tup [.str "end"]]⟩]):=by simp
 have ad:=Gj6 (Gat (c:=⟨false,[.tup [.str "end"]]⟩) q3) (Hl (S:=S3) (c:=⟨false,[.tup [.str "end"]]⟩)) (by simp; omega)
 have tp1:=Gcp (Hl (S:=S3++[⟨false,[D.tup [.str "end"]]⟩]) (c:=⟨false,(Pl.e::mid).map Pl.toD++[.tup [.str "end"]]⟩))
 refine⟨mid,(S3++[⟨false,[.tup [.str "end"]]⟩])++[⟨false,(Pl.e::mid).map Pl.toD++[.tup [.str "end"]]⟩],?_,ok3,l3,(d3.app).app,(k3.trans Kp.app).trans Kp.app⟩
 refine(Jc (m:=8) (b:=Ki)).trans ?_
 show fin (Ki [some (.lst t),some (.int mn),none,none,none,none,none,none] S)=_
 unfold Ki
 refine(Gr (ρ':=[some (.lst t),some (.int mn),some (.lst S.length),none,none,none,none,none]) (S':=S2) (by rw[<- hS2]; simp)).trans ?_
 refine(Gr (ρ':=[some (.lst t),some (.int mn),some (.lst S.length),x3,x4,x5,x6,x7]) (S':=S3) ?_).trans ?_
 ·rw[Qp,Yj (n:=mn) (S':=S2) (by simp) (by omega)]
  exact ef
 rw[Yy,Gek,Xu,Gej]
 simp only[Xj,List.getElem?_cons_zero,List.getElem?_cons_succ,Hg,lsE,ad,Yx,tp1,Kk,Gs8]
 simp[Pl.toD]
theorem Gj9(h:Tp S t k):∃ (mid:List Pl) (gd:D) (S':Sto),Qb [.lst t] S=.ok (.tup [.tup ((.e::(mid++[.e])).map Pl.toD),gd]) S'/\(∀ p∈mid,p.ok/\p.isE=false)/\1<=mid.length/\mid.length<=11/\Tp S' t k:=by
 obtain⟨r1,x1,S1,e1,p1,m1,d1,k1⟩:=Yz (xs:=[.int 1,.int 4,.int 11]) (m:=3) h rfl (by simp) (by simp)
 obtain⟨m,hm,hm0,hm1⟩:∃ i:Int,x1=.int i/\1<=i/\i<=11:=by
  simp only[List.mem_cons,List.not_mem_nil,or_false] at m1
  rcases m1 with rfl | rfl | rfl
  ·exact⟨_,rfl,by decide,by decide⟩
  ·exact⟨_,rfl,by decide,by decide⟩
  ·exact⟨_,rfl,by decide,by decide⟩
 subst hm
 obtain⟨r2,S2,e2,r20,r21,d2,k2⟩:=draw (m:=m) d1 (by omega) (by omega)
 obtain⟨mn,hmn⟩:∃ m:Nat,1+r2=m:=⟨(1+r2).toNat,by omega⟩
 obtain⟨mid,S3,e3,ok3,l3,d3,k3⟩:=Gho (mn:=mn) d2 (by omega)
 obtain⟨r4,S4,e4,r40,r41,d4,k4⟩:=draw (m:=(mn:Int)+2) d3 (by omega) (by omega)
 obtain⟨r5,S5,e5,r50,r51,d5,k5⟩:=draw (m:=2) d4 (by decide) (by decide)
 have lt5:=d5.lt
 have h6:=d5.app (c:=⟨false,[]⟩)
 have q6:(S5++[(⟨false,[]⟩:Cell)])[S5.length]?=some ⟨false,[]⟩:=Hl
 generalize hS6:S5++[(⟨false,[]⟩:Cell)]=S6 at *
 obtain⟨ρ7,S7,ef,gl,x6,x7,eρ,q7,l7,d7⟩:=Jr (nxt:=(rsrc 0 (mn+1)).nxt) (g:=gn 6) (b:=Ub) (l:=(List.range (mn+1)).map fun k:Nat=>D.int (k:Int))
  (fun i ρ S'=>∃ gl x6 x7,ρ=[some (.lst t),some (.int mn),some (.tup ((.e::(mid++[.e])).map Pl.toD)),some (.int r4),some (.int r5),some (.lst S5.length),x6,x7]/\S'[S5.length]?=some ⟨false,gl⟩/\gl.length=i/\Tp S' t k)
  (fun i _ S _=>Va) (fun i d ρ S' hd ⟨gl,x6,x7,h1,h2,h3,h4⟩=>by
   obtain⟨hi,rfl⟩:=Yi hd
   subst h1
   obtain⟨b,S'',eb,d'',q''⟩:∃ (b:Bool) (S'':Sto),sq (sa (o2 ltD (vr 6) (vr 3)) (gn 7)) (sif (tb (o2 eqD (vr 4) (cn (.int 0)))) (sa (o2 eqD (cl 2 (Gp Gh) (ac (vr 0) (ac (cn (.int 2)) an))) (cn (.int 1))) (gn 7)) DL.skip) [some (.lst t),some (.int mn),some (.tup ((.e::(mid++[.e])).map Pl.toD)),some (.int r4),some (.int r5),some (.lst S5.length),some (.int i),x7] S'=.nx [some (.lst t),some (.int mn),some (.tup ((.e::(mid++[.e])).map Pl.toD)),some (.int r4),some (.int r5),some (.lst S5.length),some (.int i),some (.bl b)] S''/\Tp S'' t k/\S''[S5.length]?=some ⟨false,gl⟩:=by
    by_cases c:r5=0
    ·obtain⟨r,S'',er,_,_,d'',k''⟩:=draw (m:=2) h4 (by decide) (by decide)
     exact⟨decide (r=1),S'',by simp[c,er],d'',k''.at h2 (by omega) (by omega)⟩
    ·exact⟨decide ((i:Int)<r4),S',by simp[c],h4,h2⟩
   have lq:S5.length<S''.length:=(List.getElem?_eq_some_iff.mp q'').1
   have ap:=fun x=>Gac (d:=.str x) q'' (by omega)
   refine⟨_,[some (.lst t),some (.int mn),some (.tup ((.e::(mid++[.e])).map Pl.toD)),some (.int r4),some (.int r5),some (.lst S5.length),some (.int i),some (.bl b)],S''.set S5.length ⟨false,gl++[.str (if b then "up" else "down")]⟩,rfl,?_,gl++[.str (if b then "up" else "down")],some (.int i),some (.bl b),rfl,List.getElem?_set_self lq,by simp[h3],d''.set (by omega) (by omega)⟩
   have as:∀ (f g h:Sv) (ρ:Lc) (S:Sto),sq f (sq g h) ρ S=sq (sq f g) h ρ S:=fun f g h ρ S=>by
    simp only[Ue]
    cases f ρ S<;>rfl
   unfold Ub
   rw[as]
   refine(Wa (ρ':=[some (.lst t),some (.int mn),some (.tup ((.e::(mid++[.e])).map Pl.toD)),some (.int r4),some (.int r5),some (.lst S5.length),some (.int i),some (.bl b)]) (S1:=S'') eb).trans ?_
   cases b<;>simp[isL q'',Wo,ap]) (mn+1+1) 0 [some (.lst t),some (.int mn),some (.tup ((.e::(mid++[.e])).map Pl.toD)),some (.int r4),some (.int r5),some (.lst S5.length),none,none] S6 (Nat.zero_le _) ⟨[],none,none,rfl,q6,rfl,h6⟩ (by simp)
 subst eρ
 have tp1:=Gcp q7
 refine⟨mid,.tup gl,S7,?_,ok3,by omega,by omega,d7⟩
 refine(Jc (m:=8) (b:=Qa)).trans ?_
 show fin (Qa [some (.lst t),none,none,none,none,none,none,none] S)=_
 unfold Qa
 refine(Gr (ρ':=[some (.lst t),some (.int mn),none,none,none,none,none,none]) (S':=S2) (by rw[<- hmn]; simp[e1,p1,e2])).trans ?_
 refine(Gr (ρ':=[some (.lst t),some (.int mn),some (.tup ((.e::(mid++[.e])).map Pl.toD)),none,none,none,none,none]) (S':=S3) (by simp only[Gab,Gvu,Xu,Xj,Yx,List.getElem?_cons_zero,List.getElem?_cons_succ,Hg,List.length_cons,List.length_nil,Nat.reduceAdd,if_true,Gj1,e3,Kk]; rfl)).trans ?_
 refine(Gr (ρ':=[some (.lst t),some (.int mn),some (.tup ((.e::(mid++[.e])).map Pl.toD)),some (.int r4),none,none,none,none]) (S':=S4) (by simp[e4])).trans ?_
 refine(Gr (ρ':=[some (.lst t),some (.int mn),some (.tup ((.e::(mid++[.e])).map Pl.toD)),some (.int r4),some (.int r5),none,none,none]) (S':=S5) (by simp[e5])).trans ?_
 refine(Gr (ρ':=[some (.lst t),some (.int mn),some (.tup ((.e::(mid++[.e])).map Pl.toD)),some (.int r4),some (.int r5),some (.lst S5.length),none,none]) (S':=S6) (by rw[<- hS6]; simp)).trans ?_
 refine(Gr (ρ':=[some (.lst t),some (.int mn),some (.tup ((.e::(mid++[.e])).map Pl.toD)),some (.int r4),some (.int r5),some (.lst S5.length),x6,x7]) (S':=S7) ?_).trans ?_
 ·rw[Qp,Yj (n:=mn+1) (S':=S6) (by simp) (by omega)]
  exact ef
 rw[Yy,Gow,Xu]
 simp[tp1]
structure R2(S:Sto)(a:Nat)(L:List Int)(M:Nat->List Int):Prop where
 h0:S[a]?=some ⟨false,L.map D.int⟩
 hj:∀ j,j<2->S[a+1+j]?=some ⟨false,(M j).map D.int⟩
 h3:S[a+3]?=some ⟨false,[.lst (a+1),.lst (a+2)]⟩
theorem R2.kp{S S':Sto}{a t k:Nat}{L:List Int}{M:Nat->List Int}(h:R2 S a L M)(kp:Kp S S' t k)(ht:t<a)(hk:k<a):R2 S' a L M:=
 ⟨kp.at h.h0 (by omega) (by omega),fun j hj=>kp.at (h.hj j hj) (by omega) (by omega),kp.at h.h3 (by omega) (by omega)⟩
theorem R2.row(h:R2 S a L M)(hj:j<2):DL.getD (.lst (a+3)) (.int j) S=.ok (.lst (a+1+j)) S:=by
 refine Jb h.h3 ?_
 rcases(by omega:j=0\/j=1) with rfl | rfl
 ·rfl
 ·rfl
theorem R2.set(h:R2 S a L M)(hj:j<2):R2 (S.set (a+1+j) ⟨false,X.map D.int⟩) a L (fun i=>if i=j then X else M i):=by
 have lt:a+1+j<S.length:=(List.getElem?_eq_some_iff.mp (h.hj j hj)).1
 refine⟨(List.getElem?_set_ne (by omega)).trans h.h0,fun i hi=>?_,(List.getElem?_set_ne (by omega)).trans h.h3⟩
 by_cases c:i=j
 ·subst c
  rw[List.getElem?_set_self lt]; simp
 ·rw[List.getElem?_set_ne (by omega),h.hj i hi]; simp[c]
theorem R2.lev(h:R2 S a L M):R2 (S.set a ⟨false,X.map D.int⟩) a X M:=by
 have lt:a<S.length:=(List.getElem?_eq_some_iff.mp h.h0).1
 exact⟨List.getElem?_set_self lt,fun i hi=>(List.getElem?_set_ne (by omega)).trans (h.hj i hi),(List.getElem?_set_ne (by omega)).trans h.h3⟩
def tops:Pl->Int
 | .p br _ _ _=>br
 | .c=>1
 | .e=>0
def rooms:Pl->Int
 | .p _ _ ro _=>ro
 | .c=>1
 | .e=>0
theorem q1:eqD (.str "end") (.str "chamber") S=.ok (.bl false) S:=by rw[Wn (stok _) (stok _)]; rfl
theorem q2:eqD (.str "end") (.str "pound") S=.ok (.bl false) S:=by rw[Wn (stok _) (stok _)]; rfl
theorem q3:eqD (.str "chamber") (.str "chamber") S=.ok (.bl true) S:=by rw[Wn (stok _) (stok _)]; rfl
theorem q4:eqD (.str "chamber") (.str "pound") S=.ok (.bl false) S:=by rw[Wn (stok _) (stok _)]; rfl
theorem q5:eqD (.str "pound") (.str "chamber") S=.ok (.bl false) S:=by rw[Wn (stok _) (stok _)]; rfl
theorem q6:eqD (.str "pound") (.str "pound") S=.ok (.bl true) S:=by rw[Wn (stok _) (stok _)]; rfl
theorem g0:DL.getD (.tup (d::l)) (.int 0) S=.ok d S:=Xv (Hc (by decide) rfl)
theorem g1{e:D}:DL.getD (.tup (e::d::l)) (.int 1) S=.ok d S:=Xv (Hc (by decide) rfl)
theorem g2{a b c:D}:DL.getD (.tup (a::b::c::l)) (.int 2) S=.ok c S:=Xv (Hc (by decide) rfl)
theorem g3{a b c:D}:DL.getD (.tup (a::b::c::d::l)) (.int 3) S=.ok d S:=Xv (Hc (by decide) rfl)
theorem Gka{b:Bool}:Gda [.bl b] S=.ok (.int (if b then 1 else 0)) S:=id rfl
theorem Gkb{x:Int}(h:S[q]?=some ⟨false,(X++[x]).map D.int⟩):DL.getD (.lst q) (.int (-1)) S=.ok (.int x) S:=by
 refine Jb h ?_
 show(ixN ((X++[x]).map D.int).length (-1)).bind (fun j=>((X++[x]).map D.int)[j]?)=_
 unfold ixN
 rw[if_neg (by decide),if_pos (by simp; omega),Option.bind_some]
 have:((-1:Int)+(((X++[x]).map D.int).length:Nat)).toNat=X.length:=by simp; omega
 rw[this,List.map_append,List.getElem?_append_right (by simp)]
 simp
theorem Gfn{cn':D}{R F:List Int}{x8 x9 x10:Option D}(hp:p.ok)(h:R2 S a L fun j=>if j=0 then R else F)(d:Tp S t k)(ht:t<a)(hk:k<a)(hL:L.length<1000)(hR:R.length<1000)(hF:F.length<1000):
  ∃ (l r f:Int) (S':Sto) (y5 y6 y7:Option D),Kn [some (.lst t),some cn',some (.lst a),some (.lst (a+3)),some p.toD,x5,x6,x7,x8,x9,x10] S=.nx [some (.lst t),some cn',some (.lst a),some (.lst (a+3)),some p.toD,y5,y6,y7,x8,x9,x10] S'/\0<=l/\l<=9/\0<=r/\0<=f/\r+f<=4/\(l<=tops p/\r+f<=rooms p)/\R2 S' a (L++[l]) (fun j=>if j=0 then R++[r] else F++[f])/\Tp S' t k:=by
 have tb':0<=tops p/\tops p<=9/\0<=rooms p/\rooms p<=4:=by
  cases p with
  | e=>exact⟨by decide,by decide,by decide,by decide⟩
  | c=>exact⟨by decide,by decide,by decide,by decide⟩
  | p br de ro pr=>obtain⟨a1,a2,a3,a4,a5,a6,_⟩:=hp; exact⟨by show 0<=br; omega,a2,by show 0<=ro; omega,a6⟩
 obtain⟨t0,t9,r0,r4⟩:=tb'
 have pre:∀ f:Sv,sq (sa (b1 Gda (ac (o2 eqD (o2 DL.getD (vr 4) (cn (.int 0))) (cn (.str "chamber"))) an)) (gn 5)) (sq (sa (b1 Gda (ac (o2 eqD (o2 DL.getD (vr 4) (cn (.int 0))) (cn (.str "chamber"))) an)) (gn 6)) (sq (sif (tb (o2 eqD (o2 DL.getD (vr 4) (cn (.int 0))) (cn (.str "pound")))) (sq (sa (o2 DL.getD (vr 4) (cn (.int 1))) (gn 5)) (sa (o2 DL.getD (vr 4) (cn (.int 3))) (gn 6))) DL.skip) f)) [some (.lst t),some cn',some (.lst a),some (.lst (a+3)),some p.toD,x5,x6,x7,x8,x9,x10] S=f [some (.lst t),some cn',some (.lst a),some (.lst (a+3)),some p.toD,some (.int (tops p)),some (.int (rooms p)),x7,x8,x9,x10] S:=fun f=>by
  cases p with
  | e=>simp[Pl.toD,g0,q1,q2,Gka,tops,rooms]
  | c=>simp[Pl.toD,g0,q3,q4,Gka,tops,rooms]
  | p br de ro pr=>simp[Pl.toD,g0,g1,g3,q5,q6,Gka,tops,rooms]
 unfold Kn
 rw[pre]
 obtain⟨l,S1,e1,l0,l1,d1,k1⟩:=draw (m:=tops p+1) d (by omega) (by omega)
 have h1:=h.kp k1 ht hk
 have a1:=Gac (d:=.int l) h1.h0 (by simp; omega)
 have i1:=isL h.h0
 have h2:R2 (S1.set a ⟨false,L.map D.int++[.int l]⟩) a (L++[l]) fun j=>if j=0 then R else F:=by
  have:=h1.lev (X:=L++[l])
  rw[List.map_append] at this
  exact this
 have d2:=d1.set (q:=a) (c:=⟨false,L.map D.int++[.int l]⟩) (by omega) (by omega)
 rw[Wa (ρ':=[some (.lst t),some cn',some (.lst a),some (.lst (a+3)),some p.toD,some (.int (tops p)),some (.int (rooms p)),x7,x8,x9,x10]) (S1:=S1.set a ⟨false,L.map D.int++[.int l]⟩) (by simp[i1,e1,a1])]
 generalize S1.set a ⟨false,L.map D.int++[.int l]⟩=S2 at *
 obtain⟨m,S3,e3,m0,m1,d3,k3⟩:=draw (m:=rooms p+1) d2 (by omega) (by omega)
 have h3:=h2.kp k3 ht hk
 rw[Wa (ρ':=[some (.lst t),some cn',some (.lst a),some (.lst (a+3)),some p.toD,some (.int (tops p)),some (.int (rooms p)),some (.int m),x8,x9,x10]) (S1:=S3) (by simp[e3])]
 obtain⟨r,S4,e4,r0',r1,d4,k4⟩:=draw (m:=m+1) d3 (by omega) (by omega)
 have h4:=h3.kp k4 ht hk
 have gr:DL.getD (.lst (a+3)) (.int 0) S3=.ok (.lst (a+1)) S3:=h3.row (j:=0) (by decide)
 have c0:S3[a+1]?=some ⟨false,R.map D.int⟩:=h3.hj 0 (by decide)
 have c0':S4[a+1]?=some ⟨false,R.map D.int⟩:=h4.hj 0 (by decide)
 have a4:=Gac (d:=.int r) c0' (by simp; omega)
 have i3:=isL c0
 have h5:R2 (S4.set (a+1) ⟨false,R.map D.int++[.int r]⟩) a (L++[l]) fun j=>if j=0 then R++[r] else F:=by
  have:=h4.set (j:=0) (X:=R++[r]) (by decide)
  rw[List.map_append] at this
  refine⟨this.h0,fun j hj=>?_,this.h3⟩
  rw[show((if j=0 then R++[r] else F):List Int)=(if j=0 then R++[r] else if j=0 then R else F) by by_cases c:j=0<;>simp[c]]
  exact this.hj j hj
 have d5:=d4.set (q:=a+1) (c:=⟨false,R.map D.int++[.int r]⟩) (by omega) (by omega)
 rw[Wa (ρ':=[some (.lst t),some cn',some (.lst a),some (.lst (a+3)),some p.toD,some (.int (tops p)),some (.int (rooms p)),some (.int m),x8,x9,x10]) (S1:=S4.set (a+1) ⟨false,R.map D.int++[.int r]⟩) (by simp[gr,i3,e4,a4])]
 generalize S4.set (a+1) ⟨false,R.map D.int++[.int r]⟩=S5 at *
 have gr0:DL.getD (.lst (a+3)) (.int 0) S5=.ok (.lst (a+1)) S5:=h5.row (j:=0) (by decide)
 have gr1:DL.getD (.lst (a+3)) (.int 1) S5=.ok (.lst (a+2)) S5:=h5.row (j:=1) (by decide)
 have c1:S5[a+2]?=some ⟨false,F.map D.int⟩:=h5.hj 1 (by decide)
 have cr:S5[a+1]?=some ⟨false,(R++[r]).map D.int⟩:=h5.hj 0 (by decide)
 have gl:=Gkb cr
 have a5:=Gac (d:=.int (m-r)) c1 (by simp; omega)
 have i5:=isL c1
 refine⟨l,r,m-r,S5.set (a+2) ⟨false,F.map D.int++[.int (m-r)]⟩,some (.int (tops p)),some (.int (rooms p)),some (.int m),by simp[gr1,i5,gr0,gl,a5],l0,by omega,r0',by omega,by omega,⟨by omega,by omega⟩,?_,d5.set (by omega) (by omega)⟩
 have:=h5.set (j:=1) (X:=F++[m-r]) (by decide)
 rw[List.map_append] at this
 refine⟨this.h0,fun j hj=>?_,this.h3⟩
 rcases(by omega:j=0\/j=1) with rfl | rfl
 ·exact this.hj 0 (by decide)
 ·exact this.hj 1 (by decide)
theorem Go1{i:Nat}(e:S[i]?=some ⟨fz,L.map D.int⟩):Gbx [.lst i] S=.ok (.int L.sum) S:=by
 show(match ((S[i]?).map (·.xs)).bind Qj with | some ns=>Out.ok (D.int ns.sum) S | none=>.bad)=_
 rw[e]
 show(match Qj (L.map D.int) with | some ns=>Out.ok (D.int ns.sum) S | none=>.bad)=_
 rw[DL.Gel]
theorem Gga:∀ (X:List Int) (i:Nat) (v:Int),(∀ x∈X,0<=x)->i<X.length->(X.set i v).sum<=X.sum+v
 | [],i,v,_,h=>by simp at h
 | x::X,0,v,h,_=>by
  have:=h x List.mem_cons_self
  rw[List.set_cons_zero,List.sum_cons,List.sum_cons]
  omega
 | x::X,i+1,v,h,hi=>by
  have:=Gga X i v (fun y hy=>h y (List.mem_cons_of_mem _ hy)) (by simpa using hi)
  rw[List.set_cons_succ,List.sum_cons,List.sum_cons]
  omega
theorem Ghp{cn':D}{rest:Int}{i:Nat}{x4 x10:Option D}(hi:i<4)(h:R2 S a L M)(d:Tp S t k)(ht:t<a)(hk:k<a)(hL:L.length=n)(hn:0<n)(hM:∀ j,(M j).length=n)(hb:∀ j,∀ x∈M j,0<=x/\x<=60)(hr:0<=rest)(hr2:rest<=60):
  ∃ (M':Nat->List Int) (rest':Int) (S':Sto) (y10:Option D),Ko [some (.lst t),some cn',some (.lst a),some (.lst (a+3)),x4,x5,x6,x7,some (.int rest),some (.int i),x10] S=.nx [some (.lst t),some cn',some (.lst a),some (.lst (a+3)),x4,x5,x6,x7,some (.int rest'),some (.int i),y10] S'/\R2 S' a L M'/\Tp S' t k/\(∀ j,(M' j).length=n)/\(∀ j,∀ x∈M' j,0<=x/\x<=60)/\0<=rest'/\rest'<=60/\(M' 0).sum+(M' 1).sum+rest'<=(M 0).sum+(M 1).sum+rest/\∀ j x,0<x->x+1<n->(M' j)[x]?=(M j)[x]?:=by
 obtain⟨at',hat,lat,lor⟩:∃ at':Nat,((i:Int)%2)*((n:Int)-1)=at'/\at'<n/\(at'=0\/at'=n-1):=by
  rcases(by omega:(i:Int)%2=0\/(i:Int)%2=1) with z | z
  ·exact⟨0,by rw[z]; simp,hn,.inl rfl⟩
  ·exact⟨n-1,by rw[z]; omega,by omega,.inr rfl⟩
 obtain⟨j,hj,lj⟩:∃ j:Nat,(i:Int) / 2=j/\j<2:=⟨i / 2,by omega,by omega⟩
 have ln:lenD [.lst a] S=.ok (.int n) S:=by rw[Go0 h.h0]; simp[hL]
 have md:Xq (.int i) (.int 2) S=.ok (.int ((i:Int)%2)) S:=Zs (by decide)
 have mu:Xx (.int ((i:Int)%2)) (.int ((n:Int)-1)) S=.ok (.int at') S:=by rw[Goz (by omega) (by omega),hat]
 unfold Ko
 rw[Wa (ρ':=[some (.lst t),some cn',some (.lst a),some (.lst (a+3)),x4,x5,x6,x7,some (.int rest),some (.int i),some (.int at')]) (S1:=S) (by simp[md,ln,mu])]
 obtain⟨r1,x1,S1,e1,p1,m1,d1,k1⟩:=Yz (xs:=[.int 2,.int 60]) (m:=2) d rfl (by simp) (by simp)
 obtain⟨w,hw,w0,w1⟩:∃ w:Int,x1=.int w/\2<=w/\w<=60:=by
  simp only[List.mem_cons,List.not_mem_nil,or_false] at m1
  rcases m1 with rfl | rfl
  ·exact⟨_,rfl,by decide,by decide⟩
  ·exact⟨_,rfl,by decide,by decide⟩
 subst hw
 have h1:=h.kp k1 ht hk
 obtain⟨v,S2,e2,v0,v1,d2,k2⟩:=draw (m:=min rest w+1) d1 (by omega) (by omega)
 have h2:=h1.kp k2 ht hk
 have dv:∀ S,Yn (.int i) (.int 2) S=.ok (.int j) S:=fun S=>by rw[Gfl (by decide) (by decide),hj]
 have gr:=h2.row lj
 have hjl:(M j).length=n:=hM j
 have st:=Gbp (d:=.int v) (h2.hj j lj) (i:=at') (by omega) (by simp; omega)
 have h3:R2 (S2.set (a+1+j) ⟨false,((M j).map D.int).set ((at':Int)).toNat (.int v)⟩) a L (fun i=>if i=j then(M j).set at' v else M i):=by
  have:=h2.set (j:=j) (X:=(M j).set at' v) lj
  rw[List.map_set] at this
  simpa using this
 have d3:=d2.set (q:=a+1+j) (c:=⟨false,((M j).map D.int).set ((at':Int)).toNat (.int v)⟩) (by omega) (by omega)
 rw[Wa (ρ':=[some (.lst t),some cn',some (.lst a),some (.lst (a+3)),x4,x5,x6,x7,some (.int rest),some (.int i),some (.int at')]) (S1:=S2.set (a+1+j) ⟨false,((M j).map D.int).set ((at':Int)).toNat (.int v)⟩) (by simp[e1,p1,e2,dv,gr,st])]
 generalize S2.set (a+1+j) ⟨false,((M j).map D.int).set ((at':Int)).toNat (.int v)⟩=S3 at *
 have gr3:=h3.row lj
 have hc:S3[a+1+j]?=some ⟨false,((M j).set at' v).map D.int⟩:=by have:=h3.hj j lj; simpa using this
 have gv:DL.getD (.lst (a+1+j)) (.int at') S3=.ok (.int v) S3:=Jb hc (Hc (by omega) (by rw[Int.toNat_natCast,List.getElem?_map,List.getElem?_set_self (by omega)]; rfl))
 refine⟨_,rest-v,S3,some (.int at'),by simp[dv,gr3,gv],h3,d3,fun j'=>?_,fun j' x hx=>?_,by omega,by omega,?_,fun j' x x0 x1=>?_⟩
 ·by_cases c:j'=j
  ·simp[c,hjl]
  ·simp[c,hM j']
 ·by_cases c:j'=j
  ·simp only[c,if_true] at hx
   rcases List.mem_or_eq_of_mem_set hx with z | rfl
   ·exact hb j x z
   ·exact⟨v0,by omega⟩
  ·simp only[c,if_false] at hx
   exact hb j' x hx
 ·have ss:=Gga (M j) at' v (fun x hx=>(hb j x hx).1) (by omega)
  rcases(by omega:j=0\/j=1) with rfl | rfl
  ·show((if(0:Nat)=0 then(M 0).set at' v else M 0):List Int).sum+((if(1:Nat)=0 then(M 0).set at' v else M 1):List Int).sum+(rest-v)<=_
   rw[if_pos rfl,if_neg (by decide)]
   omega
  ·show((if(0:Nat)=1 then(M 1).set at' v else M 0):List Int).sum+((if(1:Nat)=1 then(M 1).set at' v else M 1):List Int).sum+(rest-v)<=_
   rw[if_neg (by decide),if_pos rfl]
   omega
 ·by_cases c:j'=j
  ·simp only[c,if_true]
   exact List.getElem?_set_ne (by omega)
  ·simp only[c,if_false]
theorem Gkc:∀ {X:List Int} {m:Int},(∀ i∈X,0<=i/\i<=m)->0<=X.sum
 | [],_,_=>by simp
 | a::X,m,h=>by
  have:=Gkc (X:=X) fun i hi=>h i (List.mem_cons_of_mem _ hi)
  have:=h a List.mem_cons_self
  rw[List.sum_cons]
  omega
theorem Gkd{ps:List Pl}{gd:D}(d:Tp S t k)(hp:∀ p∈ps,p.ok)(h1:1<=ps.length)(h2:ps.length<=13):∃ (L R F:List Int) (S':Sto),Qd [.lst t,.tup [.tup (ps.map Pl.toD),gd]] S=.ok (.tup [.tup (L.map D.int),.tup (R.map D.int),.tup (F.map D.int)]) S'/\L.length=ps.length/\R.length=ps.length/\F.length=ps.length/\(∀ x∈L,0<=x/\x<=60)/\(∀ x∈R,0<=x/\x<=60)/\(∀ x∈F,0<=x/\x<=60)/\Tp S' t k/\R.sum+F.sum<=60/\∀ (i:Nat) (p:Pl),ps[i]?=some p->∃ l r f,L[i]?=some l/\R[i]?=some r/\F[i]?=some f/\l<=tops p/\(0<i->i+1<ps.length->r+f<=rooms p):=by
 have lt:=d.lt
 have hS1:ls an [some (.lst t),some (.tup [.tup (ps.map Pl.toD),gd]),none,none,none,none,none,none,none,none,none] S=.ok (.lst S.length) (S++[⟨false,[]⟩]):=by simp
 have hr:R2 ((((S++[(⟨false,[]⟩:Cell)])++[(⟨false,[]⟩:Cell)])++[(⟨false,[]⟩:Cell)])++[(⟨false,[.lst (S.length+1),.lst (S.length+2)]⟩:Cell)]) S.length [] (fun j=>if j=0 then[] else[]):=by
  have at4:∀ (j:Nat) (c:Cell),[(⟨false,[]⟩:Cell),⟨false,[]⟩,⟨false,[]⟩,⟨false,[.lst (S.length+1),.lst (S.length+2)]⟩][j]?=some c->((((S++[(⟨false,[]⟩:Cell)])++[(⟨false,[]⟩:Cell)])++[(⟨false,[]⟩:Cell)])++[(⟨false,[.lst (S.length+1),.lst (S.length+2)]⟩:Cell)])[S.length+j]?=some c:=fun j c hc=>by
   have:(S++[(⟨false,[]⟩:Cell),⟨false,[]⟩,⟨false,[]⟩,⟨false,[.lst (S.length+1),.lst (S.length+2)]⟩])[S.length+j]?=some c:=by
    rw[List.getElem?_append_right (by omega)]
    exact(congrArg (fun i=>[(⟨false,[]⟩:Cell),⟨false,[]⟩,⟨false,[]⟩,⟨false,[.lst (S.length+1),.lst (S.length+2)]⟩][i]?) (by omega)).trans hc
   simpa using this
  refine⟨at4 0 _ rfl,fun j hj=>?_,at4 3 _ rfl⟩
  rcases(by omega:j=0\/j=1) with rfl | rfl
  ·exact at4 1 _ rfl
  ·exact at4 2 _ rfl
 have dr:=(((d.app (c:=(⟨false,[]⟩:Cell))).app (c:=(⟨false,[]⟩:Cell))).app (c:=(⟨false,[]⟩:Cell))).app (c:=(⟨false,[.lst (S.length+1),.lst (S.length+2)]⟩:Cell))
 have hS2:ls (ac (ls an) (ac (ls an) an)) [some (.lst t),some (.tup [.tup (ps.map Pl.toD),gd]),some (.lst S.length),none,none,none,none,none,none,none,none] (S++[⟨false,[]⟩])=.ok (.lst (S.length+3)) ((((S++[(⟨false,[]⟩:Cell)])++[(⟨false,[]⟩:Cell)])++[(⟨false,[]⟩:Cell)])++[(⟨false,[.lst (S.length+1),.lst (S.length+2)]⟩:Cell)]):=by simp
 generalize hS4:(((S++[(⟨false,[]⟩:Cell)])++[(⟨false,[]⟩:Cell)])++[(⟨false,[]⟩:Cell)])++[(⟨false,[.lst (S.length+1),.lst (S.length+2)]⟩:Cell)]=S4 at *
 obtain⟨ρ5,S5,ef,L,R,F,x4,x5,x6,x7,eρ,r5,lL,lR,lF,bL,bR,bF,bs,d5,hat⟩:=Jr (nxt:=(Gnm (ps.map Pl.toD)).nxt) (g:=gn 4) (b:=Kn) (l:=ps.map Pl.toD)
  (fun i ρ S'=>∃ L R F x4 x5 x6 x7,ρ=[some (.lst t),some (.tup [.tup (ps.map Pl.toD),gd]),some (.lst S.length),some (.lst (S.length+3)),x4,x5,x6,x7,none,none,none]/\R2 S' S.length L (fun j=>if j=0 then R else F)/\L.length=i/\R.length=i/\F.length=i/\(∀ x∈L,0<=x/\x<=60)/\(∀ x∈R,0<=x/\x<=60)/\(∀ x∈F,0<=x/\x<=60)/\R.sum+F.sum<=4*i/\Tp S' t k/\∀ (j:Nat) (p:Pl),j<i->ps[j]?=some p->∃ l r f,L[j]?=some l/\R[j]?=some r/\F[j]?=some f/\l<=tops p/\r+f<=rooms p)
  (fun _ _ _ _=>rfl) (fun i dd ρ S' hd ⟨L,R,F,x4,x5,x6,x7,e1,e2,e3,e4,e5,e6,e7,e8,e9,e10,e11⟩=>by
   have hi:i<ps.length:=by have:=(List.getElem?_eq_some_iff.mp hd).1; simpa using this
   rw[List.getElem?_map] at hd
   obtain⟨p,hp1,rfl⟩:∃ p,ps[i]?=some p/\dd=p.toD:=by
    cases z:ps[i]? with
    | none=>rw[z] at hd; cases hd
    | some p=>rw[z] at hd; exact⟨p,rfl,(Option.some.inj hd).symm⟩
   subst e1
   obtain⟨l,r,f,S'',y5,y6,y7,c1,c2,c3,c4,c5,c6,c67,c7,c8⟩:=Gfn (cn':=.tup [.tup (ps.map Pl.toD),gd]) (x5:=x5) (x6:=x6) (x7:=x7) (x8:=none) (x9:=none) (x10:=none) (hp p (List.mem_of_getElem? hp1)) e2 e10 lt.1 lt.2 (by omega) (by omega) (by omega)
   have mem:∀ {X:List Int} {v:Int},(∀ x∈X,0<=x/\x<=60)->0<=v->v<=60->∀ x∈X++[v],0<=x/\x<=60:=fun{X v} hX h0 h1 x hx=>by
    rcases List.mem_append.mp hx with z | z
    ·exact hX x z
    ·have:x=v:=by simpa using z
     subst this
     exact⟨h0,h1⟩
   refine⟨_,_,S'',rfl,c1,L++[l],R++[r],F++[f],some p.toD,y5,y6,y7,rfl,c7,by simp[e3],by simp[e4],by simp[e5],mem e6 c2 (by omega),mem e7 c4 (by omega),mem e8 c5 (by omega),?_,c8,fun j p' hj hp'=>?_⟩
   ·simp only[List.sum_append,List.sum_cons,List.sum_nil]
    omega
   ·by_cases hji:j<i
    ·obtain⟨l',r',f',a1,a2,a3,a4⟩:=e11 j p' hji hp'
     exact⟨l',r',f',by rw[List.getElem?_append_left (by omega)]; exact a1,by rw[List.getElem?_append_left (by omega)]; exact a2,by rw[List.getElem?_append_left (by omega)]; exact a3,a4⟩
    ·have:j=i:=by omega
     subst this
     rw[hp1] at hp'
     cases hp'
     exact⟨l,r,f,by rw[List.getElem?_append_right (by omega)]; simp[e3],by rw[List.getElem?_append_right (by omega)]; simp[e4],by rw[List.getElem?_append_right (by omega)]; simp[e5],c67⟩) (Gnm (ps.map Pl.toD)).fuel 0 [some (.lst t),some (.tup [.tup (ps.map Pl.toD),gd]),some (.lst S.length),some (.lst (S.length+3)),none,none,none,none,none,none,none] S4 (Nat.zero_le _) ⟨[],[],[],none,none,none,none,rfl,hr,rfl,rfl,rfl,(fun x hx=>by cases hx),(fun x hx=>by cases hx),(fun x hx=>by cases hx),by decide,dr,(fun j p hj=>by omega)⟩ Gv2
 rw[List.length_map] at lL lR lF bs hat
 subst eρ
 have sR:=Go1 (r5.hj 0 (by decide))
 have sF:=Go1 (r5.hj 1 (by decide))
 have sR:Gbx [.lst (S.length+1)] S5=.ok (.int R.sum) S5:=sR
 have sF:Gbx [.lst (S.length+2)] S5=.ok (.int F.sum) S5:=sF
 have gr0:DL.getD (.lst (S.length+3)) (.int 0) S5=.ok (.lst (S.length+1)) S5:=r5.row (j:=0) (by decide)
 have gr1:DL.getD (.lst (S.length+3)) (.int 1) S5=.ok (.lst (S.length+2)) S5:=r5.row (j:=1) (by decide)
 have nR:=Gkc bR
 have nF:=Gkc bF
 obtain⟨ρ6,S6,ef6,M,rest,x9,x10,eρ6,r6,lM,bM,rn,_,d6,sM,iM⟩:=Jr (nxt:=(rsrc 0 4).nxt) (g:=gn 9) (b:=Ko) (l:=(List.range 4).map fun k:Nat=>D.int (k:Int))
  (fun i ρ S'=>∃ (M:Nat->List Int) (rest:Int) (x9 x10:Option D),ρ=[some (.lst t),some (.tup [.tup (ps.map Pl.toD),gd]),some (.lst S.length),some (.lst (S.length+3)),x4,x5,x6,x7,some (.int rest),x9,x10]/\R2 S' S.length L M/\(∀ j,(M j).length=ps.length)/\(∀ j,∀ x∈M j,0<=x/\x<=60)/\0<=rest/\rest<=60/\Tp S' t k/\(M 0).sum+(M 1).sum+rest<=60/\∀ j x,0<x->x+1<ps.length->(M j)[x]?=((if j=0 then R else F):List Int)[x]?)
  (fun i _ S _=>Va) (fun i dd ρ S' hd ⟨M,rest,x9,x10,e1,e2,e3,e4,e5,e6,e7,e8,e9⟩=>by
   obtain⟨hi,rfl⟩:=Yi hd
   subst e1
   obtain⟨M',rest',S'',y10,c1,c2,c3,c4,c5,c6,c7,c8,c9⟩:=Ghp (cn':=.tup [.tup (ps.map Pl.toD),gd]) (i:=i) (x4:=x4) (x5:=x5) (x6:=x6) (x7:=x7) (x10:=x10) hi e2 e7 lt.1 lt.2 lL (by omega) e3 e4 e5 e6
   exact⟨_,_,S'',rfl,c1,M',rest',some (.int i),y10,rfl,c2,c4,c5,c6,c7,c3,by omega,fun j x x0 x1=>(c9 j x x0 x1).trans (e9 j x x0 x1)⟩) (4+1) 0 [some (.lst t),some (.tup [.tup (ps.map Pl.toD),gd]),some (.lst S.length),some (.lst (S.length+3)),x4,x5,x6,x7,some (.int (60-R.sum-F.sum)),none,none] S5 (Nat.zero_le _) ⟨_,60-R.sum-F.sum,none,none,rfl,r5,(fun j=>by by_cases c:j=0<;>simp[c,lR,lF]),(fun j x hx=>by by_cases c:j=0<;>simp[c] at hx; exact bR x hx; exact bF x hx),by omega,by omega,d5,(by simp only[if_true,if_neg (show¬ (1:Nat)=0 by decide)]; omega),(fun _ _ _ _=>rfl)⟩ (by simp)
 subst eρ6
 have t0:=Gcp r6.h0
 have t1:Qg [.lst (S.length+1)] S6=.ok (.tup ((M 0).map D.int)) S6:=Gcp (r6.hj 0 (by decide))
 have t2:Qg [.lst (S.length+2)] S6=.ok (.tup ((M 1).map D.int)) S6:=Gcp (r6.hj 1 (by decide))
 have g60:DL.getD (.lst (S.length+3)) (.int 0) S6=.ok (.lst (S.length+1)) S6:=r6.row (j:=0) (by decide)
 have g61:DL.getD (.lst (S.length+3)) (.int 1) S6=.ok (.lst (S.length+2)) S6:=r6.row (j:=1) (by decide)
 refine⟨L,M 0,M 1,S6,?_,lL,lM 0,lM 1,bL,bM 0,bM 1,d6,by omega,fun i p hp'=>?_⟩
 rotate_left
 ·have hi:i<ps.length:=(List.getElem?_eq_some_iff.mp hp').1
  obtain⟨l,r,f,a1,a2,a3,a4,a5⟩:=hat i p hi hp'
  by_cases hin:0<i/\i+1<ps.length
  ·have u1:=iM 0 i hin.1 hin.2
   have u2:=iM 1 i hin.1 hin.2
   rw[if_pos rfl] at u1
   rw[if_neg (by decide)] at u2
   exact⟨l,r,f,a1,u1.trans a2,u2.trans a3,a4,fun _ _=>a5⟩
  ·have l0:=lM 0
   have l1:=lM 1
   obtain⟨r',h1'⟩:∃ r',(M 0)[i]?=some r':=⟨_,List.getElem?_eq_getElem (by omega)⟩
   obtain⟨f',h2'⟩:∃ f',(M 1)[i]?=some f':=⟨_,List.getElem?_eq_getElem (by omega)⟩
   exact⟨l,r',f',a1,h1',h2',a4,fun p1 p2=>absurd ⟨p1,p2⟩ hin⟩
 refine(Jc (m:=11) (b:=Qc)).trans ?_
 show fin (Qc [some (.lst t),some (.tup [.tup (ps.map Pl.toD),gd]),none,none,none,none,none,none,none,none,none] S)=_
 unfold Qc
 refine(Gr (ρ':=[some (.lst t),some (.tup [.tup (ps.map Pl.toD),gd]),some (.lst S.length),none,none,none,none,none,none,none,none]) (S':=S++[⟨false,[]⟩]) (by rw[Gab,hS1]; rfl)).trans ?_
 refine(Gr (ρ':=[some (.lst t),some (.tup [.tup (ps.map Pl.toD),gd]),some (.lst S.length),some (.lst (S.length+3)),none,none,none,none,none,none,none]) (S':=S4) (by rw[Gab,hS2]; rfl)).trans ?_
 refine(Gr (ρ':=[some (.lst t),some (.tup [.tup (ps.map Pl.toD),gd]),some (.lst S.length),some (.lst (S.length+3)),x4,x5,x6,x7,none,none,none]) (S':=S5) ?_).trans ?_
 ·rw[Qp,Gf9,Gej]
  simp only[Xj,Gei,List.getElem?_cons_zero,List.getElem?_cons_succ,Hg,g0,Gv1,Kk]
  exact ef
 refine(Gr (ρ':=[some (.lst t),some (.tup [.tup (ps.map Pl.toD),gd]),some (.lst S.length),some (.lst (S.length+3)),x4,x5,x6,x7,some (.int (60-R.sum-F.sum)),none,none]) (S':=S5) (by simp[gr0,gr1,sR,sF])).trans ?_
 refine(Gr (ρ':=[some (.lst t),some (.tup [.tup (ps.map Pl.toD),gd]),some (.lst S.length),some (.lst (S.length+3)),x4,x5,x6,x7,some (.int rest),x9,x10]) (S':=S6) ?_).trans ?_
 ·rw[Qp,Yj (n:=4) (S':=S5) (by simp) (by omega)]
  exact ef6
 simp[t0,t1,t2,g60,g61]
structure Ex(S S':Sto):Prop where
 len:S.length<=S'.length
 get:∀ i,i<S.length->S'[i]?=S[i]?
theorem Ex.refl:Ex S S:=⟨Nat.le_refl _,fun _ _=>rfl⟩
theorem Ex.trans(a:Ex S S1)(b:Ex S1 S2):Ex S S2:=⟨Nat.le_trans a.len b.len,fun i h=>(b.get i (Nat.lt_of_lt_of_le h a.len)).trans (a.get i h)⟩
theorem Ex.app:Ex S (S++[c]):=⟨by simp,fun i h=>by rw[List.getElem?_append_left h]⟩
theorem Ex.setq(a:Ex S0 S)(h:S0.length<=q):Ex S0 (S.set q c):=⟨by simp; exact a.len,fun i hi=>by rw[List.getElem?_set_ne (by omega)]; exact a.get i hi⟩
theorem Ex.at(a:Ex S S')(e:S[q]?=some c):S'[q]?=some c:=(a.get q (List.getElem?_eq_some_iff.mp e).1).trans e
theorem Tp.ext(h:Tp S t k)(x:Ex S S'):Tp S' t k:=by
 obtain⟨⟨a,b,c,xs,e1,e2⟩,ne⟩:=h
 exact⟨⟨a,b,c,xs,x.at e1,x.at e2⟩,ne⟩
theorem cbody_ok{e:Ev D}(h:e ρ S=.ok d S2)(q:S2[a]?=some ⟨false,xs⟩)(hl:xs.length<1000000):cbody a ttrue e ρ S=.nx ρ (S2.set a ⟨false,xs++[d]⟩):=by
 show bindS (ttrue ρ S) ρ _=_
 show bindS (e ρ S) ρ _=_
 rw[h]
 simp only[Kk,q]
 rw[if_pos (by simp[hl])]
theorem Gbq{f:Ev Src}{pk:List (Option Nat)}{g:Tg}{c:Ev Bool}{e:Ev D}{s:Src}(h:f ρ S=.ok s S1)(l:forN s.nxt g (cbody S1.length c e) s.fuel 0 (pkS pk ρ) (S1++[⟨false,[]⟩])=.nx ρ' S'):cmp f pk g c e ρ S=.ok (.lst S1.length) S':=by
 unfold cmp
 rw[h]
 simp only[Hg,l]
def zp3{α:Type}(g:Int->Int->Int->α):List Int->List Int->List Int->List α
 | l::L,r::R,f::F=>g l r f::zp3 g L R F
 | _,_,_=>[]
theorem Zc{α:Type}{g:Int->Int->Int->α}:∀ (L R F:List Int) (k:Nat),(zp3 g L R F)[k]?=(match L[k]?,R[k]?,F[k]? with
  | some l,some r,some f=>some (g l r f)
  | _,_,_=>none)
 | [],R,F,k=>by simp[zp3]
 | l::L,[],F,k=>by cases (l::L)[k]?<;>simp[zp3]
 | l::L,r::R,[],k=>by cases (l::L)[k]?<;>cases (r::R)[k]?<;>simp[zp3]
 | l::L,r::R,f::F,0=>rfl
 | l::L,r::R,f::F,k+1=>by
  simp only[zp3,List.getElem?_cons_succ]
  exact Zc L R F k
theorem Gdq{α:Type}{g:Int->Int->Int->α}:∀ (L R F:List Int),(zp3 g L R F).length<=L.length
 | [],R,F=>by simp[zp3]
 | l::L,[],F=>by simp[zp3]
 | l::L,r::R,[]=>by simp[zp3]
 | l::L,r::R,f::F=>by simp[zp3]; exact Gdq L R F
theorem Geq{α β:Type}{g:Int->Int->Int->α}{g':Int->Int->Int->β}:∀ (L R F:List Int),(zp3 g L R F).length=(zp3 g' L R F).length
 | [],R,F=>by simp[zp3]
 | l::L,[],F=>by simp[zp3]
 | l::L,r::R,[]=>by simp[zp3]
 | l::L,r::R,f::F=>by simp[zp3]; exact Geq L R F
theorem zp3_mem{α:Type}{g:Int->Int->Int->α}{P:α->Prop}{R F:List Int}(h:∀ l∈L,∀ r∈R,∀ f∈F,P (g l r f)){x:α}(hx:x∈zp3 g L R F):P x:=by
 obtain⟨k,hk⟩:=List.getElem?_of_mem hx
 rw[Zc] at hk
 cases z1:L[k]? with
 | none=>rw[z1] at hk; cases hk
 | some l=>
  cases z2:R[k]? with
  | none=>rw[z1,z2] at hk; cases hk
  | some r=>
   cases z3:F[k]? with
   | none=>rw[z1,z2,z3] at hk; cases hk
   | some f=>
    rw[z1,z2,z3] at hk
    cases (Option.some.inj hk)
    exact h l (List.mem_of_getElem? z1) r (List.mem_of_getElem? z2) f (List.mem_of_getElem? z3)
def tri(l r f:Int):D:=.tup [.int l,.int r,.int f]
theorem Gke{R F:List Int}:Xa (L.map D.int) (R.map D.int) (F.map D.int) k=(zp3 tri L R F)[k]?:=by
 rw[Zc]
 unfold Xa
 rw[List.getElem?_map,List.getElem?_map,List.getElem?_map]
 cases L[k]?<;>cases R[k]?<;>cases F[k]?<;>rfl
theorem Gtc{R F:List Int}(h:(zp3 tri L R F)[k]?=some d):∃ l r f,d=tri l r f/\L[k]?=some l/\R[k]?=some r/\F[k]?=some f:=by
 rw[Zc] at h
 cases z1:L[k]? with
 | none=>rw[z1] at h; cases h
 | some l=>
  cases z2:R[k]? with
  | none=>rw[z1,z2] at h; cases h
  | some r=>
   cases z3:F[k]? with
   | none=>rw[z1,z2,z3] at h; cases h
   | some f=>
    rw[z1,z2,z3] at h
    exact⟨l,r,f,(Option.some.inj h).symm,rfl,rfl,rfl⟩
def ts(i:Int):Str:=Str.ofString (toString i)
def part(l r f:Int):Str:=(((ts l++Str.ofString ":")++ts r)++Str.ofString ":")++ts f
theorem Ghq:∀ n:Nat,n<1001->(Str.ofString (toString (n:Int))).length<=5:=by decide +kernel
theorem Ur{i:Int}(h0:0<=i)(h1:i<=1000):(ts i).length<=5:=by
 obtain⟨n,rfl⟩:∃ n:Nat,i=n:=⟨i.toNat,by omega⟩
 exact Ghq n (by omega)
theorem lg{i:Int}(h:i.natAbs<2^200):i.natAbs.log2<1920:=by
 by_cases c:i.natAbs=0
 ·rw[c]; decide
 ·exact Nat.lt_of_lt_of_le ((Nat.log2_lt c).mpr h) (by decide)
theorem colon:(Str.ofString ":").length=1:=rfl
theorem Gkf{l r f:Int}(hl:(ts l).length<=5)(hr:(ts r).length<=5)(hf:(ts f).length<=5):(part l r f).length<=17:=by
 unfold part
 simp only[Str.length_append,colon]
 omega
theorem Ggb{i:Int}(h:i.natAbs<2^200):Ga9 [.int i] S=.ok (.str (ts i)) S:=by
 show(if i.natAbs.log2<1920 then Out.ok (D.str (toString i)) S else .bad)=_
 rw[if_pos (lg h)]; rfl
theorem Gkg:(1001:Nat)<2^200:=by decide
theorem Gdr{a b:Str}(h:a.length+b.length<=1000000):Jj (.str a) (.str b) S=.ok (.str (a++b)) S:=by
 show(if a.length+b.length<=1000000 then Out.ok (D.str (a++b)) S else .bad)=_
 rw[if_pos h]
theorem Gbr:∀ ps:List Str,Xy (ps.map D.str)=some ps
 | []=>rfl
 | p::r=>by show(Xy (r.map D.str)).map (p::·)=_; rw[Gbr r]; rfl
theorem Gfo{n:Nat}:∀ {ps:List Str},(∀ p∈ps,p.length<=n)->(ps.map (·.length)).sum<=n*ps.length
 | [],_=>by simp
 | p::r,h=>by
  have:=Gfo (ps:=r) fun q hq=>h q (List.mem_cons_of_mem _ hq)
  have:=h p List.mem_cons_self
  simp only[List.map_cons,List.sum_cons,List.length_cons,Nat.mul_add,Nat.mul_one]
  omega
theorem Gtd{ps:List Str}(e:S[q]?=some ⟨fz,ps.map D.str⟩)(h:∀ p∈ps,p.length<=17)(hl:ps.length<=13):Qr (.str " ") [.lst q] S=.ok (.str (Txt.join " " ps)) S:=by
 simp only[Qr,e,Gbr]
 have:=Gfo h
 have e1:(" ":Str).length=1:=rfl
 rw[if_pos (by rw[e1]; omega)]
def Wm(L R F:List Int):List Str:=zp3 part L R F
theorem Gnp{R F:List Int}(bL:∀ x∈L,0<=x/\x<=60)(bR:∀ x∈R,0<=x/\x<=60)(bF:∀ x∈F,0<=x/\x<=60):∀ p∈Wm L R F,p.length<=17:=fun p hp=>
 zp3_mem (P:=fun p:Str=>p.length<=17) (fun l hl r hr f hf=>Gkf (Ur (bL l hl).1 (by have:=(bL l hl).2; omega)) (Ur (bR r hr).1 (by have:=(bR r hr).2; omega)) (Ur (bF f hf).1 (by have:=(bF f hf).2; omega))) hp
theorem Gkh{R F:List Int}(hl:L.length<=13)(bL:∀ x∈L,0<=x/\x<=60)(bR:∀ x∈R,0<=x/\x<=60)(bF:∀ x∈F,0<=x/\x<=60):∃ S',Ji [.tup [.tup (L.map D.int),.tup (R.map D.int),.tup (F.map D.int)]] S=.ok (.str (Txt.join " " (Wm L R F))) S'/\Ex S S':=by
 have sm:(zp3 tri L R F).length=(Wm L R F).length:=Geq L R F
 have zl:(Wm L R F).length<=L.length:=Gdq (g:=part) L R F
 have x0:Ex S (S++[⟨false,[]⟩]):=Ex.app
 obtain⟨ρ',S',el,y2,y3,y4,hρ,hq,hx⟩:=Jr (nxt:=fun k _=>Xa (L.map D.int) (R.map D.int) (F.map D.int) k) (g:=gt (gcons (gn 2) (gcons (gn 3) (gcons (gn 4) gnil))) 3) (b:=Jy) (l:=zp3 tri L R F)
  (fun i ρ S'=>∃ x2 x3 x4,ρ=[some (.tup [.tup (L.map D.int),.tup (R.map D.int),.tup (F.map D.int)]),some (.lst S.length),x2,x3,x4]/\S'[S.length]?=some ⟨false,((Wm L R F).take i).map D.str⟩/\Ex S S')
  (fun _ _ _ _=>Gke) (fun i d ρ S' hd ⟨x2,x3,x4,h1,h2,h3⟩=>by
   subst h1
   have hi:=(List.getElem?_eq_some_iff.mp hd).1
   obtain⟨l,r,f,rfl,z1,z2,z3⟩:=Gtc hd
   have hv:(Wm L R F)[i]?=some (part l r f):=by unfold Wm; rw[Zc,z1,z2,z3]
   have lq:S.length<S'.length:=(List.getElem?_eq_some_iff.mp h2).1
   have bl:=bL l (List.mem_of_getElem? z1)
   have br:=bR r (List.mem_of_getElem? z2)
   have bf:=bF f (List.mem_of_getElem? z3)
   have b:=Gkg
   have e1:=Ggb (i:=l) (S:=S') (by omega)
   have e2:=Ggb (i:=r) (S:=S') (by omega)
   have e3:=Ggb (i:=f) (S:=S') (by omega)
   have l1:=Ur bl.1 (by omega)
   have l2:=Ur br.1 (by omega)
   have l3:=Ur bf.1 (by omega)
   have a1:=Gdr (S:=S') (a:=ts l) (b:=Str.ofString ":") (by rw[colon]; omega)
   have a2:=Gdr (S:=S') (a:=ts l++Str.ofString ":") (b:=ts r) (by simp only[Str.length_append,colon]; omega)
   have a3:=Gdr (S:=S') (a:=(ts l++Str.ofString ":")++ts r) (b:=Str.ofString ":") (by simp only[Str.length_append,colon]; omega)
   have a4:=Gdr (S:=S') (a:=((ts l++Str.ofString ":")++ts r)++Str.ofString ":") (b:=ts f) (by simp only[Str.length_append,colon]; omega)
   have ap:=Gac (d:=.str (part l r f)) h2 (by simp; omega)
   refine⟨[some (.tup [.tup (L.map D.int),.tup (R.map D.int),.tup (F.map D.int)]),some (.lst S.length),some (.int l),some (.int r),some (.int f)],[some (.tup [.tup (L.map D.int),.tup (R.map D.int),.tup (F.map D.int)]),some (.lst S.length),some (.int l),some (.int r),some (.int f)],S'.set S.length ⟨false,((Wm L R F).take i).map D.str++[.str (part l r f)]⟩,rfl,?_,some (.int l),some (.int r),some (.int f),rfl,?_,h3.setq (Nat.le_refl _)⟩
   ·unfold Jy
    rw[Goy,Gox]
    simp only[Xj,List.getElem?_cons_zero,List.getElem?_cons_succ,Hg,isL h2,if_true,Xu,Gej,Gek,Yx,Gei,e1,e2,e3,a1,a2,a3,a4]
    rw[show Xr (.lst S.length) [.str (((ts l++Str.ofString ":")++ts r)++Str.ofString ":"++ts f)] S'=_ from ap]
    rfl
   ·rw[List.getElem?_set_self lq]
    have:(Wm L R F).take (i+1)=(Wm L R F).take i++[part l r f]:=by rw[List.take_add_one,hv]; rfl
    rw[this]
    simp) ((L.map D.int).length+1) 0 [some (.tup [.tup (L.map D.int),.tup (R.map D.int),.tup (F.map D.int)]),some (.lst S.length),none,none,none] (S++[⟨false,[]⟩]) (Nat.zero_le _) ⟨none,none,none,rfl,by simp[Hl],Ex.app⟩ (by rw[List.length_map]; have:=Gdq (g:=tri) L R F; omega)
 rw[sm,List.take_length] at hq
 subst hρ
 have jn:=Gtd hq (Gnp bL bR bF) (by omega)
 refine⟨S',?_,hx⟩
 refine(Jc (m:=5) (b:=Jh)).trans ?_
 show fin (Jh [some (.tup [.tup (L.map D.int),.tup (R.map D.int),.tup (F.map D.int)]),none,none,none,none] S)=_
 unfold Jh
 refine(Gr (ρ':=[some (.tup [.tup (L.map D.int),.tup (R.map D.int),.tup (F.map D.int)]),some (.lst S.length),none,none,none]) (S':=S++[⟨false,[]⟩]) (by simp)).trans ?_
 refine(Gr (ρ':=[some (.tup [.tup (L.map D.int),.tup (R.map D.int),.tup (F.map D.int)]),some (.lst S.length),y2,y3,y4]) (S':=S') ?_).trans ?_
 ·rw[Qp]
  show bindS ((((ac (o2 DL.getD (vr 0) (cn (.int 0))) (ac (o2 DL.getD (vr 0) (cn (.int 1))) (ac (o2 DL.getD (vr 0) (cn (.int 2))) an))) _ _).bind _)) _ _=_
  simp only[Xu,Gej,Xj,Gei,Yx,List.getElem?_cons_zero,List.getElem?_cons_succ,Hg,g0,g1,g2,Kk]
  exact el
 rw[Yy]
 show fin (bindS ((Out.ok (D.str " ") S').bind _) _ _)=_
 rw[Hg,if_pos (show isStr (D.str " ")=true from rfl)]
 rw[Xu,Xj]
 simp only[List.getElem?_cons_zero,List.getElem?_cons_succ,Hg,Yx,jn]
 rfl
end Law
namespace Law
open PySem PySem.NumText PySem.Spec PyProof.Rows L2 DL
variable{S S1 S':Sto}{l xs ds:List D}{d:D}{a c q n qp N:Nat}{b r f sp w:Int}{p:Pl}{pk:List (Option Nat)}{ρ:Lc}{α:Type}{T:Str}{x4 x5 x6:Option D}
theorem p0e:DL.getD (.tup (d::l)) (.int 0) S=.ok d S:=Xv (Hc (by decide) rfl)
theorem p1e{e:D}:DL.getD (.tup (e::d::l)) (.int 1) S=.ok d S:=Xv (Hc (by decide) rfl)
theorem p3e{a b c:D}:DL.getD (.tup (a::b::c::d::l)) (.int 3) S=.ok d S:=Xv (Hc (by decide) rfl)
def wat:Pl->Int
 | .e=>0
 | .c=>1
 | .p br _ _ _=>br
theorem Gki(h:p.ok):Ka [p.toD] S=.ok (.int (wat p)) S:=by
 have e1:=fun S=>Gj7 (S:=S) h
 have e2:=fun S=>Gdp (S:=S) h
 cases p with
 | e=>simp[Ka,fnB,Ky,c_END,c_CHAMBER,e1,Pl.isE,wat]
 | c=>simp[Ka,fnB,Ky,c_END,c_CHAMBER,e1,e2,Pl.isE,Pl.isC,wat]
 | p br de ro pr=>
  have g:∀ S,DL.getD (Pl.toD (.p br de ro pr)) (.int 1) S=.ok (.int br) S:=fun S=>p1e
  simp[Ka,fnB,Ky,c_END,c_CHAMBER,e1,e2,Pl.isE,Pl.isC,wat,g]
def hol:Pl->Int->Bool
 | .e,_=>true
 | .c,b=>decide (b<=1)
 | .p _ _ ro _,b=>decide (b<=ro)
theorem Gkj(h:p.ok):Xn [p.toD,.int b] S=.ok (.bl (hol p b)) S:=by
 have e1:=fun S=>Gj7 (S:=S) h
 have e2:=fun S=>Gdp (S:=S) h
 cases p with
 | e=>simp[Xn,fnB,Yv,c_END,c_CHAMBER,e1,Pl.isE,hol]
 | c=>simp[Xn,fnB,Yv,c_END,c_CHAMBER,e1,e2,Pl.isE,Pl.isC,hol]
 | p br de ro pr=>
  have g:∀ S,DL.getD (Pl.toD (.p br de ro pr)) (.int 3) S=.ok (.int ro) S:=fun S=>p3e
  simp[Xn,fnB,Yv,c_END,c_CHAMBER,e1,e2,Pl.isE,Pl.isC,hol,g]
def stD(L R F:List Int):D:=.tup [.tup (L.map D.int),.tup (R.map D.int),.tup (F.map D.int)]
theorem Ggc:∀ bs:List Bool,Zw (bs.map D.bl)=some bs
 | []=>rfl
 | b::r=>by
  show(match Zw (r.map D.bl) with | some r=>some (b::r) | none=>none)=_
  rw[Ggc r]
theorem Go2{i:Nat}{bs:List Bool}(e:S[i]?=some ⟨false,bs.map D.bl⟩):allD [.lst i] S=.ok (.bl (bs.all id)) S:=by
 simp only[allD,e,Ggc]
theorem Ger{s:Src}{fs:Ev Src}{e:Ev D}(rest:Lc)(v:D->D)(hf:fs ρ S=.ok s S)(hn:∀ k (S':Sto),Ex S S'->s.nxt k S'=l[k]?)(hfu:l.length<s.fuel)(hp:pkS pk ρ=none::rest)(hl:l.length<1000)(he:∀ d∈l,∀ S':Sto,Ex S S'->∃ S'',e (some d::rest) S'=.ok (v d) S''/\Ex S' S''):
  ∃ S',cmp fs pk (gn 0) ttrue e ρ S=.ok (.lst S.length) S'/\S'[S.length]?=some ⟨false,l.map v⟩/\Ex S S':=by
 obtain⟨ρ',S',el,g,hρ,hq,hx⟩:=Jr (nxt:=s.nxt) (g:=gn 0) (b:=cbody S.length ttrue e) (l:=l)
  (fun i ρ S'=>∃ g,ρ=g::rest/\S'[S.length]?=some ⟨false,(l.take i).map v⟩/\Ex S S')
  (fun k ρ S' ⟨_,_,_,h3⟩=>hn k S' h3) (fun i d ρ S' hd ⟨g,h1,h2,h3⟩=>by
   subst h1
   have hi:i<l.length:=(List.getElem?_eq_some_iff.mp hd).1
   obtain⟨S'',e1,e2⟩:=he d (List.mem_of_getElem? hd) S' h3
   have q'':=e2.at h2
   have lq:S.length<S''.length:=(List.getElem?_eq_some_iff.mp q'').1
   refine⟨_,_,_,rfl,cbody_ok e1 q'' (by simp; omega),some d,rfl,?_,(h3.trans e2).setq (Nat.le_refl _)⟩
   rw[List.getElem?_set_self lq]
   have:l.take (i+1)=l.take i++[d]:=by rw[List.take_add_one,hd]; rfl
   rw[this]
   simp) s.fuel 0 (none::rest) (S++[⟨false,[]⟩]) (Nat.zero_le _) ⟨none,rfl,by simp[Hl],Ex.app⟩ (by omega)
 rw[List.take_length] at hq
 exact⟨S',Gbq (pk:=pk) (ρ:=ρ) (S:=S) (f:=fs) (s:=s) (S1:=S) (g:=gn 0) (c:=ttrue) (e:=e) hf (by rw[hp]; exact el),hq,hx⟩
theorem Ges{s:Src}{fs:Ev Src}{e:Ev D}(rest:Lc)(v:D->D)(hf:fs ρ S=.ok s S)(hn:∀ k (S':Sto),Ex S S'->s.nxt k S'=l[k]?)(hfu:l.length<s.fuel)(hp:pkS pk ρ=none::rest)(hl:l.length<1000)(he:∀ d∈l,∀ S':Sto,Ex S S'->∃ S'',e (some d::rest) S'=.ok (v d) S''/\Ex S' S''):
  ∃ S',b1 Qg (ac (cmp fs pk (gn 0) ttrue e) an) ρ S=.ok (.tup (l.map v)) S'/\Ex S S':=by
 obtain⟨S',e1,q1,x1⟩:=Ger rest v hf hn hfu hp hl he
 refine⟨S',?_,x1⟩
 rw[Gek,Xu,e1,Hg,Yx,Hg,Hg,Gcp q1]
def wOk(z:Str)(n:Nat):Bool:=z.cps.toList.all (fun c=>decide (48<=c/\c<=57))&&(decide (1<=z.length/\z.length<=16)&&(PyData.strOk z&&((z=="0")==decide (n=0))&&(match z.cps.toList with
 | c::_=>decide (n=0)||!((⟨#[c]⟩:Str)=="0")
 | []=>false)))
theorem Gxc:∀ n:Nat,n<100->wOk (ts (n:Int)) n=true:=by decide +kernel
theorem Get(a b:Str):(a++b).length=a.length+b.length:=by
 show(a.cps++b.cps).size=a.cps.size+b.cps.size
 simp
theorem Zd{c:Nat}:∀ ps:List Str,(∀ p∈ps,p.length<=17)->(Str.join ⟨#[c]⟩ ps).length<=18*ps.length
 | [],_=>by show 0<=_; omega
 | [x],h=>by show x.length<=_; have:=h x List.mem_cons_self; simp; omega
 | x::y::r,h=>by
  show((x++(⟨#[c]⟩:Str))++Str.join ⟨#[c]⟩ (y::r)).length<=_
  rw[Get,Get]
  have:=Zd (c:=c) (y::r) fun p hp=>h p (List.mem_cons_of_mem _ hp)
  have:=h x List.mem_cons_self
  have:(⟨#[c]⟩:Str).length=1:=rfl
  rw[List.length_cons]
  omega
theorem Gkk{ps:List Str}:Txt.join (" ":Str) ps=Str.join ⟨#[32]⟩ ps:=by
 have:((" ":String):Str)=(⟨#[32]⟩:Str):=by decide +kernel
 rw[this]
 exact StrLaws.glued_eq_join _ _
theorem Gnq{i:Int}(k:Nat)(hk:k≠45/\(k<48\/57<k)):k∉(ts i).cps.toList:=int_text_free' k hk i
theorem Gcq{l:Int}:part l r f=Str.join ⟨#[58]⟩ [ts l,ts r,ts f]:=by
 apply SP.str_ext
 unfold part
 rw[SP.tl_app,SP.tl_app,SP.tl_app,SP.tl_app,SP.join_two,SP.join_two]
 show _=(ts l).cps.toList++58::((ts r).cps.toList++58::(ts f).cps.toList)
 have:(Str.ofString ":").cps.toList=[58]:=by decide +kernel
 rw[this]
 simp
theorem Ghr{l:Int}:32∉(part l r f).cps.toList:=by
 rw[Gcq,SP.join_two,SP.join_two]
 show 32∉(ts l).cps.toList++58::((ts r).cps.toList++58::(ts f).cps.toList)
 have a:=fun i=>Gnq (i:=i) 32 ⟨by decide,by decide⟩
 simp[a l,a r,a f]
theorem Ks{l:List α}{i:Nat}{a:α}(h:l[i]?=some a):a∈l:=List.mem_iff_getElem?.mpr ⟨i,h⟩
theorem Qh{l:List α}{i:Nat}(h:i<l.length):∃ a,l[i]?=some a:=⟨l[i],List.getElem?_eq_getElem h⟩
def Wz(z:Str):Prop:=z.length<=20000/\∀ c∈z.cps.toList,c<128
theorem Wz.ok{z:Str}(h:Wz z):PyData.strOk z=true:=by
 show z.cps.all _=true
 rw[<- Array.all_toList,List.all_eq_true]
 intro c hc
 have:=h.2 c hc
 simp
 omega
theorem Gte{i:Int}(h0:0<=i)(h1:i<=99):∀ c∈(ts i).cps.toList,48<=c/\c<=57:=by
 obtain⟨n,rfl⟩:∃ n:Nat,i=n:=⟨i.toNat,by omega⟩
 have w:=Gxc n (by omega)
 unfold wOk at w
 simp only[Bool.and_eq_true,List.all_eq_true,decide_eq_true_eq] at w
 exact w.1
def isW(z:Str):Bool:=decide (1<=z.length/\z.length<=16)&&(z.cps.toList.all (fun c=>decide (48<=c/\c<=57))&&((z=="0")||(match z.cps.toList with
 | c::_=>!((⟨#[c]⟩:Str)=="0")
 | []=>false)))
theorem Ggd:decide (c∈(Str.ofString "0123456789").cps.toList)=decide (48<=c/\c<=57):=by
 have h:(Str.ofString "0123456789").cps.toList=[48,49,50,51,52,53,54,55,56,57]:=by decide +kernel
 rw[h]
 refine decide_eq_decide.mpr ?_
 simp only[List.mem_cons,List.mem_nil_iff,or_false]
 omega
theorem Gnr{z:Str}(hz:Wz z):∃ S',Wj [.str z] S=.ok (.bl (isW z)) S'/\Ex S S':=by
 have k1:c_MOST_FIGURES=.int 16:=rfl
 have k2:c_FIGURES=.str "0123456789":=rfl
 have len:lenD [.str z] S=.ok (.int z.length) S:=if_pos (by have:=hz.1; omega)
 have a1:ch leD leD (cn (.int 1)) (b1 lenD (ac (vr 0) an)) (cn c_MOST_FIGURES) [some (.str z)] S=.ok (.bl (decide (1<=z.length/\z.length<=16))) S:=by
  rw[k1]
  simp only[Gvz,Gei,Gek,Xu,Yx,Xj,List.getElem?_cons_zero,Hg,len,Gv0]
  by_cases d1:(1:Int)<=(z.length:Int)
  ·have d1':1<=z.length:=by omega
   by_cases d2:z.length<=16
   ·have d2':(z.length:Int)<=16:=by omega
    simp[d1,d2,d2',d1']
   ·have d2':¬ (z.length:Int)<=16:=by omega
    simp[d1,d2,d2',d1']
  ·have d1':¬ 1<=z.length:=by omega
   simp[d1,d1']
 by_cases c:1<=z.length/\z.length<=16
 ·rw[decide_eq_true c] at a1
  obtain⟨S1,e1,q1,x1⟩:=Ger (s:=Ghb z) (l:=z.cps.toList.map fun c=>D.str ⟨#[c]⟩) (fs:=isrcS (vr 0)) (pk:=[none]) (e:=o2 istD (vr 0) (cn c_FIGURES)) (ρ:=[some (.str z)]) (S:=S) [] (fun d=>match d with | .str y=>.bl (y.cps.toList.all fun c=>decide (48<=c/\c<=57)) | _=>.non)
   (by show(vr 0 [some (.str z)] S).bind _=_; simp) (fun k S' _=>by show(z.cps[k]?).map _=_; simp) (by show _<z.cps.size+1; simp) rfl (by have:z.cps.size=z.length:=rfl; simp; omega) fun d hd S' _=>⟨S',by
    obtain⟨c,hc,rfl⟩:=List.mem_map.mp hd
    have:=StrLaws.found_one (Str.ofString "0123456789") c
    rw[Ggd] at this
    have e:istD (.str ⟨#[c]⟩) (.str "0123456789") S'=.ok (.bl (decide (48<=c/\c<=57))) S':=by
     show Out.ok (D.bl (!(Builtin.Str.occurrences (Str.ofString "0123456789") ⟨#[c]⟩ 0 (Str.ofString "0123456789").length 1).isEmpty)) S'=_
     rw[this]
    rw[k2]
    simp[e],.refl⟩
  have all:allD [.lst S.length] S1=.ok (.bl (z.cps.toList.all fun c=>decide (48<=c/\c<=57))) S1:=by
   have:(z.cps.toList.map fun c=>D.str ⟨#[c]⟩).map (fun d=>match d with | .str y=>D.bl (y.cps.toList.all fun c=>decide (48<=c/\c<=57)) | _=>.non)=((z.cps.toList.map fun c=>decide (48<=c/\c<=57))).map D.bl:=by simp
   rw[this] at q1
   rw[Go2 q1]
   simp
  have a2:b1 allD (ac (cmp (isrcS (vr 0)) [none] (gn 0) ttrue (o2 istD (vr 0) (cn c_FIGURES))) an) [some (.str z)] S=.ok (.bl (z.cps.toList.all fun c=>decide (48<=c/\c<=57))) S1:=by
   rw[Gek,Xu,e1,Hg,Yx,Hg,Hg,all]
  refine⟨S1,?_,x1⟩
  refine(Jc (m:=1) (b:=Jg)).trans ?_
  show fin (Jg [some (.str z)] S)=_
  unfold Jg
  have tst:∀ b:Bool,z.cps.toList.all (fun c=>decide (48<=c/\c<=57))=b->to (tn (tb (ch leD leD (cn (.int 1)) (b1 lenD (ac (vr 0) an)) (cn c_MOST_FIGURES)))) (tn (tt (b1 allD (ac (cmp (isrcS (vr 0)) [none] (gn 0) ttrue (o2 istD (vr 0) (cn c_FIGURES))) an)))) [some (.str z)] S=.ok (!b) S1:=fun b hb=>by
   rw[Gov,Gj2,Gou,a1]
   simp only[Hg,Bool.not_true,Bool.false_eq_true,if_false]
   rw[Gj2,Gvv,a2,hb]
   simp[Wo]
  cases ha:z.cps.toList.all (fun c=>decide (48<=c/\c<=57)) with
  | false=>
   refine Xo ((Xk (S1:=S1) (tst false ha)).trans ?_)
   unfold isW
   rw[ha,decide_eq_true c]
   rfl
  | true=>
   refine(Gr (ρ':=[some (.str z)]) (S':=S1) ((Gj8 (S1:=S1) (tst true ha)).trans Gf8)).trans ?_
   have so:PyData.strOk (Str.ofString "0")=true:=stok "0"
   have eq0:eqD (.str z) (.str "0") S1=.ok (.bl (z=="0")) S1:=Wn hz.ok so
   cases hl:z.cps.toList with
   | nil=>
    have:z.cps.toList.length=z.length:=rfl
    rw[hl] at this
    simp at this
    omega
   | cons c0 r=>
    have gt:DL.getD (.str z) (.int 0) S1=.ok (.str ⟨#[c0]⟩) S1:=by
     show(if z.length<=1000000 then(match atI z.cps.toList 0 with | some c=>Out.ok (D.str ⟨#[c]⟩) S1 | none=>.bad) else .bad)=_
     rw[if_pos (by omega),hl,show atI (c0::r) 0=some c0 from Hc (by decide) rfl]
    have oc:PyData.strOk (⟨#[c0]⟩:Str)=true:=by
     have:=hz.2 c0 (by rw[hl]; exact List.mem_cons_self)
     show(#[c0]:Array Nat).all _=true
     simp
     omega
    have ne0:neD (.str ⟨#[c0]⟩) (.str "0") S1=.ok (.bl (!((⟨#[c0]⟩:Str)=="0"))) S1:=by
     simp only[neD,toP]
     simp[SeqAt.shaped,PyData.eqv,PyData.canLay0,PyData.depth,oc,so]
    have iw:isW z=((z=="0")||!((⟨#[c0]⟩:Str)=="0")):=by
     unfold isW
     rw[ha,decide_eq_true c,hl]
     rfl
    rw[iw]
    cases e:z=="0"<;>rw[e] at eq0<;>simp[eq0,gt,ne0,fin,Wo]
 ·rw[decide_eq_false c] at a1
  refine⟨S,?_,.refl⟩
  refine(Jc (m:=1) (b:=Jg)).trans ?_
  show fin (Jg [some (.str z)] S)=_
  unfold Jg
  refine Xo ((Xk (S1:=S) (by rw[Gov,Gj2,Gou,a1]; rfl)).trans ?_)
  unfold isW
  rw[decide_eq_false c]
  rfl
def nv(z:Str):Int:=((digitsVal z.cps.toList:Nat):Int)
def nm(z:Str)(lo hi:Int):Option Int:=if isW z=true/\lo<=nv z/\nv z<=hi then some (nv z) else none
def od:Option Int->D
 | none=>.non
 | some v=>.int v
theorem Gau{z:Str}(h:isW z=true):AllDigits z.cps.toList/\(1<=z.length/\z.length<=16)/\(z="0"\/∃ c r,z.cps.toList=c::r/\49<=c):=by
 unfold isW at h
 simp only[Bool.and_eq_true,List.all_eq_true,decide_eq_true_eq,Bool.or_eq_true,beq_iff_eq] at h
 obtain⟨h1,h2,h3⟩:=h
 refine⟨h2,h1,?_⟩
 rcases h3 with h3 | h3
 ·exact .inl h3
 ·cases hl:z.cps.toList with
  | nil=>rw[hl] at h3; cases h3
  | cons c r=>
   rw[hl] at h3
   refine .inr ⟨c,r,rfl,?_⟩
   have h4:=h2 c (by rw[hl]; exact List.mem_cons_self)
   by_cases e:c=48
   ·subst e
    have:((⟨#[48]⟩:Str)==Str.ofString "0")=true:=by decide +kernel
    have h3:(!((⟨#[48]⟩:Str)==Str.ofString "0"))=true:=h3
    rw[this] at h3
    cases h3
   ·omega
theorem Gds{z:Str}(h:isW z=true):PySem.intText? z=some (nv z):=by
 obtain⟨h1,h2,_⟩:=Gau h
 refine intText_digits h1 (fun e=>?_) (by omega)
 have:z.cps.toList.length=z.length:=rfl
 rw[e] at this
 simp at this
 omega
theorem Gns{z:Str}(h:isW z=true):z=ts (nv z):=by
 obtain⟨h1,h2,h3⟩:=Gau h
 have hl:z.cps.toList.length=z.length:=rfl
 refine SP.str_ext ?_
 show _=(Str.ofString (toString ((digitsVal z.cps.toList:Nat):Int))).cps.toList
 rw[PySem.W.KIN.signs_num]
 have:=toDigits_digitsVal (z.length-1) z.cps.toList (by omega) h1 (by
  rcases h3 with rfl | h3
  ·exact .inl (by decide +kernel)
  ·exact .inr h3)
 rw[this,List.map_map]
 have id':∀ l:List Nat,AllDigits l->l=l.map (Char.toNat∘Char.ofNat):=fun l=>by
  induction l with
  | nil=>intro _; rfl
  | cons c r ih=>
   intro h
   have hc:=h.head
   rw[List.map_cons,<- ih h.tail]
   congr 1
   have:∀ c:Nat,c<58->48<=c->c=(Char.toNat∘Char.ofNat) c:=by decide +kernel
   exact this c (by omega) hc.1
 exact id' _ h1
theorem Gdt{c:Nat}:∀ (ps:List Str) (p:Str),p∈ps->(∀ x∈p.cps.toList,x∈(Str.join ⟨#[c]⟩ ps).cps.toList)/\p.length<=(Str.join ⟨#[c]⟩ ps).length
 | [],p,h=>by cases h
 | [x],p,h=>by
  rw[List.mem_singleton.mp h]
  exact⟨fun _ h=>h,Nat.le_refl _⟩
 | x::y::r,p,h=>by
  have e:=SP.join_two (c:=c) (x:=x) (y:=y) (r:=r)
  have el:(Str.join ⟨#[c]⟩ (x::y::r)).length=x.length+1+(Str.join ⟨#[c]⟩ (y::r)).length:=by
   show(Str.join ⟨#[c]⟩ (x::y::r)).cps.toList.length=x.cps.toList.length+1+(Str.join ⟨#[c]⟩ (y::r)).cps.toList.length
   rw[e]
   simp
   omega
  rcases List.mem_cons.mp h with rfl | h
  ·exact⟨fun z hz=>by rw[e]; exact List.mem_append_left _ hz,by omega⟩
  ·obtain⟨a,b⟩:=Gdt (y::r) p h
   exact⟨fun z hz=>by rw[e]; exact List.mem_append_right _ (List.mem_cons_of_mem _ (a z hz)),by omega⟩
theorem Gfp{c:Nat}:∀ ps:List Str,ps.length<=(Str.join ⟨#[c]⟩ ps).length+1
 | []=>by simp
 | [x]=>by simp
 | x::y::r=>by
  have e:=SP.join_two (c:=c) (x:=x) (y:=y) (r:=r)
  have el:(Str.join ⟨#[c]⟩ (x::y::r)).length=x.length+1+(Str.join ⟨#[c]⟩ (y::r)).length:=by
   show(Str.join ⟨#[c]⟩ (x::y::r)).cps.toList.length=x.cps.toList.length+1+(Str.join ⟨#[c]⟩ (y::r)).cps.toList.length
   rw[e]
   simp
   omega
  have:=Gfp (c:=c) (y::r)
  rw[List.length_cons]
  omega
theorem numof{z:Str}{lo hi:Int}(hz:Wz z):∃ S',Qw [.str z,.int lo,.int hi] S=.ok (od (nm z lo hi)) S'/\Ex S S':=by
 obtain⟨S1,e1,x1⟩:=Gnr (S:=S) hz
 refine⟨S1,?_,x1⟩
 refine(Jc (m:=3) (b:=Qv)).trans ?_
 show fin (Qv [some (.str z),some (.int lo),some (.int hi)] S)=_
 unfold Qv nm
 cases h:isW z with
 | false=>
  rw[h] at e1
  rw[if_neg (by simp)]
  refine Xo ((Xk (S1:=S1) (by simp[e1,Wo])).trans ?_)
  rfl
 | true=>
  rw[h] at e1
  have rd:∀ S,Qs [.str z] S=.ok (.int (nv z)) S:=fun S=>by
   simp only[Qs]
   rw[Gds h]
   exact if_pos (by have:=(Gau h).2.1; omega)
  by_cases c1:lo<=nv z
  ·by_cases c2:nv z<=hi
   ·rw[if_pos ⟨rfl,c1,c2⟩]
    refine(Gr (ρ':=[some (.str z),some (.int lo),some (.int hi)]) (S':=S1) ((Gj8 (S1:=S1) ?_).trans Gf8)).trans ?_
    ·simp[e1,Wo,rd,c1,c2]
    ·simp[rd,fin,od]
   ·rw[if_neg (fun q=>c2 q.2.2)]
    refine Xo ((Xk (S1:=S1) (by simp[e1,Wo,rd,c1,c2])).trans ?_)
    rfl
  ·rw[if_neg (fun q=>c1 q.2.1)]
   refine Xo ((Xk (S1:=S1) (by simp[e1,Wo,rd,c1])).trans ?_)
   rfl
theorem Gge{nxt:Nat->Sto->Option D}{g:Tg}{b:Sv}{l:List D}{k0:Nat}{d0:D}{x:XD}{P:Sto->Prop}(I:Nat->Lc->Sto->Prop)(h0:l[k0]?=some d0)(hn:∀ k ρ S,I k ρ S->nxt k S=l[k]?)(hs:∀ k d ρ S,k<k0->l[k]?=some d->I k ρ S->∃ ρ1 ρ2 S2,g d ρ=some ρ1/\b ρ1 S=.nx ρ2 S2/\I (k+1) ρ2 S2)
  (hx:∀ ρ S,I k0 ρ S->∃ ρ1 ρ2 S2,g d0 ρ=some ρ1/\b ρ1 S=.exc x ρ2 S2/\P S2):∀ (n k:Nat) (ρ:Lc) (S:Sto),k<=k0->I k ρ S->k0<n+k->∃ ρ' S',forN nxt g b n k ρ S=.exc x ρ' S'/\P S'
 | 0,k,ρ,S,h1,_,h2=>by omega
 | n+1,k,ρ,S,h1,hI,h2=>by
  unfold forN
  rw[hn k ρ S hI]
  by_cases c:k=k0
  ·subst c
   obtain⟨ρ1,ρ2,S2,h3,h4,h5⟩:=hx ρ S hI
   rw[h0]
   simp only[h3,h4]
   exact⟨_,_,rfl,h5⟩
  ·have lt:k0<l.length:=(List.getElem?_eq_some_iff.mp h0).1
   have e:=List.getElem?_eq_getElem (l:=l) (i:=k) (by omega)
   generalize l[k]'(by omega)=d at e
   obtain⟨ρ1,ρ2,S2,h3,h4,h5⟩:=hs k d ρ S (by omega) e hI
   obtain⟨ρ',S',h6,h7⟩:=Gge I h0 hn hs hx n (k+1) ρ2 S2 (by omega) h5 (by omega)
   refine⟨ρ',S',?_,h7⟩
   rw[e]
   simp only[h3,h4]
   exact h6
theorem Gkl{nxt:Nat->Sto->Option D}{g:Tg}{b:Sv}{l:List D}{k0:Nat}{d0 r:D}{P:Sto->Prop}(I:Nat->Lc->Sto->Prop)(h0:l[k0]?=some d0)(hn:∀ k ρ S,I k ρ S->nxt k S=l[k]?)(hs:∀ k d ρ S,k<k0->l[k]?=some d->I k ρ S->∃ ρ1 ρ2 S2,g d ρ=some ρ1/\b ρ1 S=.nx ρ2 S2/\I (k+1) ρ2 S2)
  (hx:∀ ρ S,I k0 ρ S->∃ ρ1 S2,g d0 ρ=some ρ1/\b ρ1 S=.rt r S2/\P S2):∀ (n k:Nat) (ρ:Lc) (S:Sto),k<=k0->I k ρ S->k0<n+k->∃ S',forN nxt g b n k ρ S=.rt r S'/\P S'
 | 0,k,ρ,S,h1,_,h2=>by omega
 | n+1,k,ρ,S,h1,hI,h2=>by
  unfold forN
  rw[hn k ρ S hI]
  by_cases c:k=k0
  ·subst c
   obtain⟨ρ1,S2,h3,h4,h5⟩:=hx ρ S hI
   rw[h0]
   simp only[h3,h4]
   exact⟨_,rfl,h5⟩
  ·have lt:k0<l.length:=(List.getElem?_eq_some_iff.mp h0).1
   have e:=List.getElem?_eq_getElem (l:=l) (i:=k) (by omega)
   generalize l[k]'(by omega)=d at e
   obtain⟨ρ1,ρ2,S2,h3,h4,h5⟩:=hs k d ρ S (by omega) e hI
   obtain⟨S',h6,h7⟩:=Gkl I h0 hn hs hx n (k+1) ρ2 S2 (by omega) h5 (by omega)
   refine⟨S',?_,h7⟩
   rw[e]
   simp only[h3,h4]
   exact h6
theorem Ggf{r:D}{nxt:Nat->Sto->Option D}{g:Tg}{b:Sv}{l:List D}(gd:D->Bool)(I:Lc->Sto->Prop)(J:Sto->Prop)(hn:∀ k ρ S,I ρ S->nxt k S=l[k]?)
  (hs:∀ (k:Nat) (d:D) (ρ:Lc) (S:Sto),l[k]?=some d->I ρ S->∃ ρ1,g d ρ=some ρ1/\((gd d=true/\∃ ρ2 S2,b ρ1 S=.nx ρ2 S2/\I ρ2 S2)\/(gd d=false/\∃ S2,b ρ1 S=.rt r S2/\J S2))):
  ∀ (n k:Nat) (ρ:Lc) (S:Sto),k<=l.length->I ρ S->l.length<n+k→
   ((l.drop k).all gd=true/\∃ ρ' S',forN nxt g b n k ρ S=.nx ρ' S'/\I ρ' S')\/((l.drop k).all gd=false/\∃ S',forN nxt g b n k ρ S=.rt r S'/\J S')
 | 0,k,ρ,S,h1,_,h2=>by omega
 | n+1,k,ρ,S,h1,hI,h2=>by
  unfold forN
  rw[hn k ρ S hI]
  cases z:l[k]? with
  | none=>
   have:k=l.length:=by have:=List.getElem?_eq_none_iff.mp z; omega
   subst this
   exact .inl ⟨by simp,ρ,S,rfl,hI⟩
  | some d=>
   have hk:k<l.length:=(List.getElem?_eq_some_iff.mp z).1
   have dr:l.drop k=d::l.drop (k+1):=by
    rw[List.drop_eq_getElem_cons hk]
    have:=(List.getElem?_eq_some_iff.mp z).2
    rw[this]
   rw[dr,List.all_cons]
   obtain⟨ρ1,e1,h⟩:=hs k d ρ S z hI
   rcases h with⟨hg,ρ2,S2,e2,hI2⟩ | ⟨hg,S2,e2,hJ⟩
   ·simp only[e1,e2,hg,Bool.true_and]
    exact Ggf gd I J hn hs n (k+1) ρ2 S2 hk hI2 (by omega)
   ·simp only[e1,e2,hg,Bool.false_and]
    exact .inr ⟨trivial,S2,rfl,hJ⟩
def Wy(z:Str):Prop:=z.length<=1000/\∀ c∈z.cps.toList,c<128
def Wq(z:Str):Prop:=z.length<=17/\∀ c∈z.cps.toList,c<128
theorem Wy.z{z:Str}(h:Wy z):Wz z:=⟨by have:=h.1; omega,h.2⟩
theorem Gkm(s:String)(h:(decide ((Str.ofString s).length<=17)&&(Str.ofString s).cps.toList.all fun c=>decide (c<128))=true):Wq (Str.ofString s):=by
 simp only[Bool.and_eq_true,List.all_eq_true,decide_eq_true_eq] at h
 exact h
theorem splc{sp:String}(ec:Str.ofString sp=(⟨#[c]⟩:Str))(h:Wy T):Txt.split T ⟨#[c]⟩≠[]/\(∀ z∈Txt.split T ⟨#[c]⟩,Wy z)/\(Txt.split T ⟨#[c]⟩).length<=1001/\Str.join ⟨#[c]⟩ (Txt.split T ⟨#[c]⟩)=T/\∀ S,Ht (.str T) [.str sp] S=.ok (.lst S.length) (S++[⟨false,(Txt.split T ⟨#[c]⟩).map D.str⟩]):=by
 have j:=PySem.StrLaws.join_split T ⟨#[c]⟩
 have l:=Gfp (c:=c) (Txt.split T ⟨#[c]⟩)
 rw[j] at l
 have h1:=h.1
 refine⟨SP.split_ne _ _,fun z hz=>?_,by omega,j,fun S=>?_⟩
 ·obtain⟨a,b⟩:=Gdt (c:=c) _ z hz
  rw[j] at a b
  exact⟨Nat.le_trans b h.1,fun c hc=>h.2 c (a c hc)⟩
 ·show(if Ux T (Str.ofString sp)=true then _ else _)=_
  rw[ec,if_pos (SP.okSplit_of (by rfl) (by omega) (by omega))]
theorem Gkn{sp:String}(ec:Str.ofString sp=(⟨#[c]⟩:Str)){fz:Bool}{ps:List Str}(e:S[q]?=some ⟨fz,ps.map D.str⟩)(h:∀ p∈ps,p.length<=n)(hl:n*ps.length+ps.length<=900000):Qr (.str sp) [.lst q] S=.ok (.str (Str.join ⟨#[c]⟩ ps)) S:=by
 simp only[Qr,e,Gbr]
 have:=Gfo h
 have e1:(Str.ofString sp).length=1:=by rw[ec]; rfl
 rw[if_pos (by rw[e1]; omega),ec]
 exact congrArg (fun z=>Out.ok (D.str z) S) (StrLaws.glued_eq_join _ _)
theorem join_ch{c:Nat}(hc:c<128):∀ ps:List Str,(∀ p∈ps,∀ x∈p.cps.toList,x<128)->∀ x∈(Str.join ⟨#[c]⟩ ps).cps.toList,x<128
 | [],_,x,hx=>by cases hx
 | [p],h,x,hx=>h p List.mem_cons_self x hx
 | p::q::r,h,x,hx=>by
  rw[SP.join_two] at hx
  rcases List.mem_append.mp hx with hx | hx
  ·exact h p List.mem_cons_self x hx
  ·rcases List.mem_cons.mp hx with rfl | hx
   ·exact hc
   ·exact join_ch hc (q::r) (fun z hz=>h z (List.mem_cons_of_mem _ hz)) x hx
theorem e32:Str.ofString " "=(⟨#[32]⟩:Str):=by decide +kernel
theorem e58:Str.ofString ":"=(⟨#[58]⟩:Str):=by decide +kernel
def dig(z:Str):Bool:=z.cps.toList.all (fun c=>decide (48<=c/\c<=57))
def Gbs(z:Str):Bool:=match z.cps.toList with
 | []=>true
 | c::r=>decide (c=48)&&!r.isEmpty
def fg(z:Str):Int:=if Gbs z=true then -1 else if dig z=true then(if z.length<5 then nv z else 10000) else -1
theorem Go3:((⟨#[c]⟩:Str)==Str.ofString "0")=decide (c=48):=by
 have e:Str.ofString "0"=(⟨#[48]⟩:Str):=by decide +kernel
 rw[e]
 by_cases h:c=48
 ·subst h; decide +kernel
 ·rw[decide_eq_false h]
  refine beq_eq_false_iff_ne.mpr fun q=>h ?_
  injection q with q
  injection q with q
  exact(List.cons.inj q).1
theorem Gko{z:Str}:z.cps.toList.length=z.length:=rfl
theorem Gnt{z:Str}:(z==Str.ofString "")=z.cps.toList.isEmpty:=by
 have e:Str.ofString ""=(⟨#[]⟩:Str):=by decide +kernel
 rw[e]
 cases h:z.cps.toList with
 | nil=>
  have:z=⟨#[]⟩:=SP.str_ext (by rw[h])
  subst this; decide +kernel
 | cons c r=>
  refine beq_eq_false_iff_ne.mpr fun q=>?_
  subst q
  cases h
theorem Gfq{z:Str}(hb:Gbs z=false)(hd:dig z=true)(hl:z.length<=16):isW z=true:=by
 unfold isW
 have hd':z.cps.toList.all (fun c=>decide (48<=c/\c<=57))=true:=hd
 rw[hd']
 unfold Gbs at hb
 have lt:=Gko (z:=z)
 cases h:z.cps.toList with
 | nil=>rw[h] at hb; cases hb
 | cons c r=>
  rw[h] at hb lt
  simp only[List.length_cons] at lt
  rw[decide_eq_true ⟨by omega,hl⟩,Bool.true_and,Bool.true_and]
  simp only[Go3]
  by_cases c8:c=48
  ·simp only[c8,decide_true,Bool.true_and] at hb
   have hr:r=[]:=by cases r with | nil=>rfl | cons _ _=>cases hb
   subst hr c8
   have:z=Str.ofString "0":=SP.str_ext (by rw[h]; decide +kernel)
   simp[this]
  ·simp[c8]
theorem Gxd{z:Str}(h:isW z=true):Gbs z=false/\dig z=true:=by
 obtain⟨h1,h2,h3⟩:=Gau h
 have hd:dig z=true:=by
  unfold dig
  rw[List.all_eq_true]
  intro c hc
  exact decide_eq_true (h1 c hc)
 refine⟨?_,hd⟩
 unfold Gbs
 rcases h3 with rfl | ⟨c,r,e,h9⟩
 ·decide +kernel
 ·rw[e]
  simp
  intro z
  omega
theorem Gtf:∀ n:Nat,n<100->(ts (n:Int)).length<=2:=by decide +kernel
theorem Go4{z:Str}{hi:Int}(h:hi<=60):nm z 0 hi=if 0<=fg z/\fg z<=hi then some (fg z) else none:=by
 unfold nm
 by_cases w:isW z=true
 ·obtain⟨b,d⟩:=Gxd w
  unfold fg
  rw[b,d]
  simp only[Bool.false_eq_true,if_false,if_true,w,true_and]
  have nn:0<=nv z:=by unfold nv; omega
  by_cases l:z.length<5
  ·rw[if_pos l]
  ·rw[if_neg l]
   rw[if_neg (fun q=>?_),if_neg (fun q=>by omega)]
   have e:=Gns w
   obtain⟨n,hn⟩:∃ n:Nat,nv z=n:=⟨(nv z).toNat,by omega⟩
   have:=Gtf n (by omega)
   rw[<- hn,<- e] at this
   omega
 ·rw[if_neg (fun q=>w q.1)]
  unfold fg
  cases b:Gbs z
  ·cases d:dig z
   ·simp
   ·by_cases l:z.length<5
    ·exact absurd (Gfq b d (by omega)) w
    ·simp only[Bool.false_eq_true,if_false,if_true,if_neg l]
     rw[if_neg (fun q=>by omega)]
  ·simp
theorem Gtg{z:Str}(h0:0<=fg z)(h1:fg z<=60):Qs [.str z] S=.ok (.int (fg z)) S:=by
 unfold fg at h0 h1 ⊢
 cases b:Gbs z
 ·cases d:dig z
  ·rw[b,d] at h0; simp at h0
  ·rw[b,d] at h1
   simp only[Bool.false_eq_true,if_false,if_true] at h1 ⊢
   by_cases l:z.length<5
   ·rw[if_pos l]
    have w:=Gfq b d (by omega)
    simp only[Qs]
    rw[Gds w]
    exact if_pos (by omega)
   ·rw[if_neg l] at h1; omega
 ·rw[b] at h0; simp at h0
theorem Gth:Geg (.str ⟨#[c]⟩) (.str "0123456789") S=.ok (.bl (!decide (48<=c/\c<=57))) S:=by
 have:=StrLaws.found_one (Str.ofString "0123456789") c
 rw[Ggd] at this
 show Out.ok (D.bl (!(!(Builtin.Str.occurrences (Str.ofString "0123456789") ⟨#[c]⟩ 0 (Str.ofString "0123456789").length 1).isEmpty))) S=_
 rw[this]
theorem Gnu{z:Str}(hz:Wy z):Ja [.str z] S=.ok (.int (fg z)) S:=by
 have so:PyData.strOk (Str.ofString "0")=true:=stok "0"
 have eq0:eqD (.str z) (.str "") S=.ok (.bl (z==Str.ofString "")) S:=Wn hz.z.ok (stok _)
 rw[Gnt] at eq0
 have len:lenD [.str z] S=.ok (.int z.length) S:=if_pos (by have:=hz.1; omega)
 have lt:=Gko (z:=z)
 unfold Ja
 rw[Jc]
 simp only[Uo]
 cases hl:z.cps.toList with
 | nil=>
  rw[hl] at eq0
  have:fg z = -1:=by unfold fg Gbs; rw[hl]; rfl
  rw[this]
  simp[eq0,fin]
 | cons c r=>
  rw[hl] at eq0 lt
  simp only[List.length_cons] at lt
  have gt:DL.getD (.str z) (.int 0) S=.ok (.str ⟨#[c]⟩) S:=by
   show(if z.length<=1000000 then(match atI z.cps.toList 0 with | some c=>Out.ok (D.str ⟨#[c]⟩) S | none=>.bad) else .bad)=_
   rw[if_pos (by have:=hz.1; omega),hl,show atI (c::r) 0=some c from Hc (by decide) rfl]
  have oc:PyData.strOk (⟨#[c]⟩:Str)=true:=by
   have:=hz.2 c (by rw[hl]; exact List.mem_cons_self)
   show(#[c]:Array Nat).all _=true
   simp
   omega
  have eqc:eqD (.str ⟨#[c]⟩) (.str "0") S=.ok (.bl (decide (c=48))) S:=by rw[Wn oc so,Go3]
  by_cases b:Gbs z=true
  ·have hb:=b
   unfold Gbs at hb
   rw[hl] at hb
   rw[Bool.and_eq_true] at hb
   obtain⟨b1,b2⟩:=hb
   have l1:(1:Int)<z.length:=by
    cases r with
    | nil=>cases b2
    | cons _ _=>simp at lt; omega
   have c8:c=48:=by simpa using b1
   have:fg z = -1:=by unfold fg; rw[if_pos b]
   rw[this]
   subst c8
   simp[eq0,gt,eqc,len,l1,fin]
  ·have nb:¬ (c=48/\(1:Int)<z.length):=fun⟨q1,q2⟩=>b (by
    unfold Gbs
    rw[hl]
    cases r with
    | nil=>simp at lt; omega
    | cons _ _=>simp[q1])
   have f1:sif (to (tb (o2 eqD (vr 0) (cn (.str "")))) (ta (tb (o2 eqD (o2 DL.getD (vr 0) (cn (.int 0))) (cn (.str "0")))) (tb (o2 gtD (b1 lenD (ac (vr 0) an)) (cn (.int 1)))))) (sret (o2 Zi (cn (.int 0)) (cn (.int 1)))) DL.skip [some (.str z),none] S=.nx [some (.str z),none] S:=by
    by_cases c8:c=48
    ·have l1:¬ (1:Int)<z.length:=fun q=>nb ⟨c8,q⟩
     subst c8
     simp[eq0,gt,eqc,len,l1]
    ·simp[eq0,gt,eqc,c8]
   refine(Gr f1).trans ?_
   have key:=Ggf (nxt:=(Ghb z).nxt) (g:=gn 1) (b:=Jw) (l:=z.cps.toList.map fun c=>D.str ⟨#[c]⟩) (fun d=>match d with | .str y=>y.cps.toList.all fun c=>decide (48<=c/\c<=57) | _=>false) (r:=.int (-1)) (fun ρ S'=>(∃ x1,ρ=[some (.str z),x1])/\S'=S) (fun S'=>S'=S) (fun k ρ S' _=>by show(z.cps[k]?).map _=_; simp) (fun k d ρ S1 hd ⟨⟨x1,hρ⟩,x⟩=>by
    subst hρ x
    obtain⟨c,hc,rfl⟩:=List.mem_map.mp (Ks hd)
    refine⟨[some (.str z),some (.str ⟨#[c]⟩)],rfl,?_⟩
    have nn:=Gth (c:=c) (S:=S1)
    by_cases q:48<=c/\c<=57
    ·rw[decide_eq_true q] at nn
     exact .inl ⟨by simp[q],[some (.str z),some (.str ⟨#[c]⟩)],S1,by simp[Jw,nn],⟨_,rfl⟩,rfl⟩
    ·rw[decide_eq_false q] at nn
     exact .inr ⟨by simpa using q,S1,by simp[Jw,nn],rfl⟩) (Ghb z).fuel 0 [some (.str z),none] S (Nat.zero_le _) ⟨⟨_,rfl⟩,rfl⟩ (by show _<z.cps.size+1+0; simp)
   have al:((z.cps.toList.map fun c=>D.str ⟨#[c]⟩).drop 0).all (fun d=>match d with | .str y=>y.cps.toList.all fun c=>decide (48<=c/\c<=57) | _=>false)=dig z:=by
    rw[List.drop_zero,List.all_map]
    unfold dig
    congr 1
    funext c
    simp
   rw[al] at key
   have src:isrcS (vr 0) [some (.str z),none] S=.ok (Ghb z) S:=by show(vr 0 [some (.str z),none] S).bind _=_; simp
   rcases key with⟨v,ρ',S',ef,⟨x1,rfl⟩,rfl⟩ | ⟨v,S',ef,rfl⟩
   ·refine(Gr (ρ':=[some (.str z),x1]) (S':=S') (by rw[Qp,src]; exact ef)).trans ?_
    unfold fg
    rw[if_neg b,if_pos v]
    by_cases l:z.length<5
    ·have l':(z.length:Int)<5:=by omega
     have w:=Gfq (by simpa using b) v (by omega)
     have rd:Qs [.str z] S'=.ok (.int (nv z)) S':=by
      simp only[Qs]
      rw[Gds w]
      exact if_pos (by omega)
     rw[if_pos l]
     simp[len,l',rd,fin]
    ·have l':¬ (z.length:Int)<5:=by omega
     rw[if_neg l]
     simp[len,l',fin]
   ·have:fg z = -1:=by unfold fg; rw[if_neg b,if_neg (by rw[v]; simp)]
    rw[this]
    refine(Xo (S':=S') ?_)
    rw[Qp,src]; exact ef
def spl(z:Str):List Str:=Txt.split z ⟨#[58]⟩
def pv(p:Pl)(a b c sp:Int):Bool:=decide ((0<=a/\a<=wat p)/\0<=b/\0<=c/\b+c<=sp)&&hol p (b+c)
def Wb(x:Int×Int×Int):D:=.tup [.int x.1,.int x.2.1,.int x.2.2]
def acc(p:Option Pl)(z:Str)(sp:Int):Option (Int×Int×Int):=match p,spl z with
 | some p,[x,y,w]=>if pv p (fg x) (fg y) (fg w) sp=true then some (fg x,fg y,fg w) else none
 | _,_=>none
def od3:Option (Int×Int×Int)->D
 | none=>.non
 | some x=>Wb x
theorem Gkp{z:Str}(h:Wy z):(∀ w∈spl z,Wy w)/\(spl z).length<=1001/\∀ S,Ht (.str z) [.str ":"] S=.ok (.lst S.length) (S++[⟨false,(spl z).map D.str⟩]):=by
 obtain⟨_,h2,h3,_,h5⟩:=splc e58 h
 exact⟨h2,h3,h5⟩
theorem Gkq{p:Option Pl}{z:Str}(h:(spl z).length≠3):acc p z sp=none:=by
 unfold acc
 cases p with
 | none=>rfl
 | some p=>
  match e:spl z,h with
  | [x,y,w],h=>simp at h
  | [],_=>rfl
  | [_],_=>rfl
  | [_,_],_=>rfl
  | _::_::_::_::_,_=>rfl
theorem three{l:List α}(h:l.length=3):∃ x y w,l=[x,y,w]:=by
 match l,h with
 | [x,y,w],_=>exact⟨x,y,w,rfl⟩
theorem Gkr(h:p.ok):wat p<=9:=by
 cases p with
 | e=>decide
 | c=>decide
 | p br de ro pr=>exact h.2.1
theorem Vb{f:D->List D->Sto->Out D}{g:Ev D}{h:Ev (List D)}:mts f g h ρ S=(g ρ S).bind fun x S1=>if isStr x=true then(h ρ S1).bind fun xs S2=>f x xs S2 else .bad:=id rfl
theorem Jx{z:Str}:isStr (.str z)=true:=id rfl
section
variable{p:Pl}{z:Str}{sp:Int}{S:Sto}
theorem Geu(hp:p.ok)(hz:Wy z)(s1:sp<=60):∃ S',Kb [p.toD,.str z,.int sp] S=.ok (od3 (acc (some p) z sp)) S'/\Ex S S':=by
 obtain⟨hw,hl,hs⟩:=Gkp hz
 have h0:=hs S
 obtain⟨S1,hS1⟩:∃ S1,S1=S++[(⟨false,(spl z).map D.str⟩:Cell)]:=⟨_,rfl⟩
 have x1:Ex S S1:=by rw[hS1]; exact Ex.app
 have q1:S1[S.length]?=some ⟨false,(spl z).map D.str⟩:=by rw[hS1]; exact Hl
 rw[<- hS1] at h0
 have ln:lenD [.lst S.length] S1=.ok (.int (spl z).length) S1:=by simp[lenD,q1]
 unfold Kb
 simp only[Jc]
 by_cases c3:(spl z).length=3
 ·obtain⟨x,y,w,e⟩:=three c3
  rw[e] at q1 hw ln
  have hx:=hw x (by simp)
  have hy:=hw y (by simp)
  have hw':=hw w (by simp)
  have wt:=fun S=>Gki (S:=S) hp
  obtain⟨S2,n1,x2⟩:=numof (S:=S1) (lo:=0) (hi:=wat p) hx.z
  obtain⟨S3,n2,x3⟩:=numof (S:=S2) (lo:=0) (hi:=sp) hy.z
  obtain⟨S4,n3,x4⟩:=numof (S:=S3) (lo:=0) (hi:=sp) hw'.z
  rw[Go4 (by have:=Gkr hp; omega)] at n1
  rw[Go4 s1] at n2 n3
  have g0':DL.getD (.lst S.length) (.int 0) S1=.ok (.str x) S1:=Jb q1 (Hc (by decide) rfl)
  have g1':DL.getD (.lst S.length) (.int 1) S2=.ok (.str y) S2:=Jb (x2.at q1) (Hc (by decide) rfl)
  have g2':DL.getD (.lst S.length) (.int 2) S3=.ok (.str w) S3:=Jb (x3.at (x2.at q1)) (Hc (by decide) rfl)
  have hh:=fun S b=>Gkj (S:=S) (b:=b) hp
  have ne3:neD (.int 3) (.int 3) S1=.ok (.bl false) S1:=rfl
  have ea:acc (some p) z sp=if pv p (fg x) (fg y) (fg w) sp=true then some (fg x,fg y,fg w) else none:=by unfold acc; rw[e]
  have is1:∀ (i:Int) S,Vx (.int i) .non S=.ok (.bl false) S:=fun _ _=>rfl
  have is2:∀ S,Vx .non .non S=.ok (.bl true) S:=fun _=>rfl
  refine⟨S4,?_,x1.trans (x2.trans (x3.trans x4))⟩
  rw[ea]
  simp only[Ug]
  generalize p.toD=pd at *
  generalize fg x=a at *
  generalize fg y=b at *
  generalize fg w=c at *
  simp only[List.length_cons,List.length_nil] at ln
  by_cases A1:0<=a/\a<=wat p
  ·rw[if_pos A1] at n1
   by_cases A2:0<=b/\b<=sp
   ·rw[if_pos A2] at n2
    by_cases A3:0<=c/\c<=sp
    ·rw[if_pos A3] at n3
     by_cases A4:sp<b+c
     ·have:pv p a b c sp=false:=by unfold pv; rw[decide_eq_false (by omega)]; rfl
      rw[this]
      simp[Vb,Jx,h0,ln,ne3,g0',g1',g2',wt,n1,n2,n3,od,is1,A4,fin,od3]
     ·have:pv p a b c sp=hol p (b+c):=by unfold pv; rw[decide_eq_true (by omega)]; rfl
      rw[this]
      have hb:=hh S4 (b+c)
      cases hv:hol p (b+c)<;>rw[hv] at hb<;>simp[Vb,Jx,h0,ln,ne3,g0',g1',g2',wt,n1,n2,n3,od,is1,A4,hb,Wo,fin,od3,Wb]
    ·rw[if_neg A3] at n3
     have:pv p a b c sp=false:=by unfold pv; rw[decide_eq_false (by omega)]; rfl
     rw[this]
     simp[Vb,Jx,h0,ln,ne3,g0',g1',g2',wt,n1,n2,n3,od,is1,is2,fin,od3]
   ·rw[if_neg A2] at n2
    have:pv p a b c sp=false:=by unfold pv; rw[decide_eq_false (by omega)]; rfl
    rw[this]
    simp[Vb,Jx,h0,ln,ne3,g0',g1',g2',wt,n1,n2,n3,od,is1,is2,fin,od3]
  ·rw[if_neg A1] at n1
   have:pv p a b c sp=false:=by unfold pv; rw[decide_eq_false (by omega)]; rfl
   rw[this]
   simp[Vb,Jx,h0,ln,ne3,g0',g1',g2',wt,n1,n2,n3,od,is2,fin,od3]
 ·refine⟨S1,?_,x1⟩
  rw[Gkq c3]
  have c3':¬ ((spl z).length:Int)=3:=by omega
  simp[Ug,Vb,Jx,h0,ln,c3',fin,od3]
theorem Gnv{a c:Int}(h:S[q]?=some ⟨false,[.int a,.int b,.int c]⟩)(ha:0<=a):Uz [p.toD,.lst q] S=.ok (.bl (decide (a<=wat p)&&hol p (b+c))) S:=by
 have g0':DL.getD (.lst q) (.int 0) S=.ok (.int a) S:=Jb h (Hc (by decide) rfl)
 have g1':DL.getD (.lst q) (.int 1) S=.ok (.int b) S:=Jb h (Hc (by decide) rfl)
 have g2':DL.getD (.lst q) (.int 2) S=.ok (.int c) S:=Jb h (Hc (by decide) rfl)
 unfold Uz
 rw[Jc]
 cases p with
 | e=>
  have:(a<=wat .e)↔a=0:=by show a<=0↔a=0; omega
  have hh:hol .e (b+c)=true:=rfl
  have es:∀ S,eqD (.str "end") (.str "end") S=.ok (.bl true) S:=fun S=>by rw[Wn (stok _) (stok _)]; rfl
  simp[Qy,Pl.toD,p0e,es,g0',this,hh,fin]
 | c=>
  have:(a<=wat .c)↔a<2:=by show a<=1↔a<2; omega
  have hh:hol .c (b+c)=decide (b+c<2):=by
   show decide (b+c<=1)=_
   congr 1
   exact propext (by omega)
  have es:∀ S,eqD (.str "chamber") (.str "end") S=.ok (.bl false) S:=fun S=>by rw[Wn (stok _) (stok _)]; rfl
  by_cases z:a<2<;>simp[Qy,Pl.toD,p0e,es,q3,g0',g1',g2',this,hh,z,fin]
 | p br de ro pr=>
  have es:∀ S,eqD (.str "pound") (.str "end") S=.ok (.bl false) S:=fun S=>by rw[Wn (stok _) (stok _)]; rfl
  have hh:hol (.p br de ro pr) (b+c)=decide (b+c<=ro):=rfl
  have hw:wat (.p br de ro pr)=br:=rfl
  by_cases z:a<=br<;>simp[Qy,Pl.toD,p0e,p1e,p3e,es,q5,g0',g1',g2',hh,hw,z,fin]
theorem Gks{a c:Int}:lmin [a,b,c]<0↔¬ (0<=a/\0<=b/\0<=c):=by
 simp only[lmin]
 omega
theorem Gxe{a c:Int}(h:S[q]?=some ⟨false,[.int a,.int b,.int c]⟩):Ga8 [.lst q] S=.ok (.int (lmin [a,b,c])) S:=by
 simp only[Ga8,h,Option.bind_some]
 rfl
end
theorem Ggg{f:Ev Src}{s:Src}{e:Ev D}(rest:Lc)(v:D->D)(hf:f ρ S=.ok s S1)(hn:∀ k S',Ex S1 S'->s.nxt k S'=xs[k]?)(hu:xs.length<s.fuel)(hp:pkS pk ρ=none::rest)(hl:xs.length<100000)(he:∀ d∈xs,∀ S':Sto,Ex S1 S'->∃ S'',e (some d::rest) S'=.ok (v d) S''/\Ex S' S''):
  ∃ S',cmp f pk (gn 0) ttrue e ρ S=.ok (.lst S1.length) S'/\S'[S1.length]?=some ⟨false,xs.map v⟩/\Ex S1 S':=by
 obtain⟨ρ',S',el,g,hρ,hq,hx⟩:=Jr (nxt:=s.nxt) (g:=gn 0) (b:=cbody S1.length ttrue e) (l:=xs)
  (fun i ρ S'=>∃ g,ρ=g::rest/\S'[S1.length]?=some ⟨false,(xs.take i).map v⟩/\Ex S1 S')
  (fun k _ S' ⟨_,_,_,hx⟩=>hn k S' hx) (fun i d ρ S' hd ⟨g,h1,h2,h3⟩=>by
   subst h1
   have hi:i<xs.length:=(List.getElem?_eq_some_iff.mp hd).1
   obtain⟨S'',e1,e2⟩:=he d (List.mem_of_getElem? hd) S' h3
   have q'':=e2.at h2
   have lq:S1.length<S''.length:=(List.getElem?_eq_some_iff.mp q'').1
   refine⟨_,_,_,rfl,cbody_ok e1 q'' (by simp; omega),some d,rfl,?_,(h3.trans e2).setq (Nat.le_refl _)⟩
   rw[List.getElem?_set_self lq]
   have:xs.take (i+1)=xs.take i++[d]:=by rw[List.take_add_one,hd]; rfl
   rw[this]
   simp) s.fuel 0 (none::rest) (S1++[⟨false,[]⟩]) (Nat.zero_le _) ⟨none,rfl,by simp[Hl],Ex.app⟩ (by omega)
 rw[List.take_length] at hq
 exact⟨S',Gbq hf (by rw[hp]; exact el),hq,hx⟩
@[simp] theorem Gxy{g:Tgs}:gt g n (.tup ds) ρ=if ds.length=n then g ds ρ else none:=id rfl
@[simp] theorem Gxz{g:Tg}{c:Tgs}:gcons g c (d::ds) ρ=(g d ρ).bind fun ρ'=>c ds ρ':=id rfl
@[simp] theorem Gx0:gnil [] ρ=some ρ:=id rfl
@[simp] theorem Gv3{β:Type}{x:XD}{g:α->Sto->Out β}:(Out.exc x S:Out α).bind g=.exc x S:=id rfl
@[simp] theorem Gty{x:XD}{g:α->Sto->OS}:bindS (Out.exc x S:Out α) ρ g=.exc x ρ S:=id rfl
abbrev T3:=Int×Int×Int
variable{x:T3}
def spn(ts:List T3):Int:=60-(ts.map fun x=>x.2.1+x.2.2).sum
theorem Ze{ts:List T3}:spn (ts++[x])=spn ts-(x.2.1+x.2.2):=by
 unfold spn
 simp
 omega
theorem Gbt{p:Option Pl}{z:Str}(h:acc p z sp=some x):∃ p0 u v w,p=some p0/\spl z=[u,v,w]/\x=(fg u,fg v,fg w)/\(0<=x.1/\x.1<=wat p0)/\0<=x.2.1/\0<=x.2.2/\x.2.1+x.2.2<=sp/\hol p0 (x.2.1+x.2.2)=true:=by
 unfold acc at h
 split at h
 ·rename_i p0 u v w e
  split at h
  ·rename_i hp
   cases (Option.some.inj h)
   unfold pv at hp
   rw[Bool.and_eq_true,decide_eq_true_eq] at hp
   exact⟨p0,u,v,w,rfl,e,rfl,hp.1.1,hp.1.2.1,hp.1.2.2.1,hp.1.2.2.2,hp.2⟩
  ·cases h
 ·cases h
structure Good(ps:List Pl)(W:List Str)(ts:List T3):Prop where
 len:ts.length<=W.length
 at':∀ (i:Nat) (z:Str) (x:T3),ts[i]?=some x->W[i]?=some z->acc ps[i]? z (spn (ts.take i))=some x
 sp:∀ i,0<=spn (ts.take i)/\spn (ts.take i)<=60
theorem Ggh{ps:List Pl}{W:List Str}:∀ k,k<=W.length->(∃ ts,Good ps W ts/\ts.length=k)\/∃ ts,Good ps W ts/\∃ z,W[ts.length]?=some z/\acc ps[ts.length]? z (spn ts)=none
 | 0,_=>.inl ⟨[],⟨Nat.zero_le _,fun i z x h=>by simp at h,fun i=>by simp[spn]⟩,rfl⟩
 | k+1,hk=>by
  rcases Ggh (ps:=ps) (W:=W) k (by omega) with⟨ts,g,hl⟩ | h
  ·obtain⟨z,hz⟩:=Qh (show k<W.length by omega)
   cases e:acc ps[k]? z (spn ts) with
   | none=>exact .inr ⟨ts,g,z,by rw[hl]; exact hz,by rw[hl]; exact e⟩
   | some x=>
    refine .inl ⟨ts++[x],⟨by simp; omega,fun i z' x' h1 h2=>?_,fun i=>?_⟩,by simp[hl]⟩
    ·by_cases c:i<ts.length
     ·rw[List.getElem?_append_left c] at h1
      have tk:(ts++[x]).take i=ts.take i:=List.take_append_of_le_length (by omega)
      rw[tk]
      exact g.at' i z' x' h1 h2
     ·have hi:i=k:=by have:=(List.getElem?_eq_some_iff.mp h1).1; simp at this; omega
      subst hi
      rw[List.getElem?_append_right (show ts.length<=i by omega)] at h1
      simp[hl] at h1
      subst h1
      rw[hz] at h2; cases h2
      have tk:(ts++[x]).take i=ts:=(List.take_append_of_le_length (by omega)).trans (List.take_of_length_le (by omega))
      rw[tk]
      exact e
    ·by_cases c:i<=ts.length
     ·have tk:(ts++[x]).take i=ts.take i:=List.take_append_of_le_length c
      rw[tk]; exact g.sp i
     ·rw[List.take_of_length_le (by simp; omega),Ze]
      have:=g.sp ts.length
      rw[List.take_length] at this
      obtain⟨_,_,_,_,_,_,_,_,b0,c0,s,_⟩:=Gbt e
      omega
  ·exact .inr h
theorem Good.pl{ps:List Pl}{W:List Str}{ts:List T3}(g:Good ps W ts):ts.length<=ps.length:=by
 by_cases c:ts.length<=ps.length
 ·exact c
 ·obtain⟨x,hx⟩:=Qh (show ps.length<ts.length by omega)
  obtain⟨z,hz⟩:=Qh (show ps.length<W.length by have:=g.len; omega)
  obtain⟨p,_,_,_,e,_⟩:=Gbt (g.at' _ z x hx hz)
  rw[List.getElem?_eq_none (Nat.le_refl _)] at e
  cases e
theorem Xp{ts:List T3}{i:Nat}(h:ts[i]?=some x):ts.take (i+1)=ts.take i++[x]:=by rw[List.take_add_one,h]; rfl
def CD(ps:List Pl)(gd:D):D:=.tup [.tup (ps.map Pl.toD),gd]
section
variable{ps:List Pl}{W:List Str}{ts:List T3}{S:Sto}{gd:D}{T:Str}
theorem Gkt{i:Nat}(h:ps[i]?=some p)(S:Sto):DL.getD (.tup (ps.map Pl.toD)) (.int i) S=.ok p.toD S:=Xv (Hc (by omega) (by rw[Int.toNat_natCast,List.getElem?_map,h]; rfl))
theorem Gti(S:Sto):lenD [.tup (ps.map Pl.toD)] S=.ok (.int ps.length) S:=by simp[lenD]
def enW(W:List Str):List D:=W.mapIdx fun k z=>.tup [.int k,.str z]
theorem Gku{i:Nat}(h:(enW W)[i]?=some d):∃ z,W[i]?=some z/\d=.tup [.int i,.str z]:=by
 unfold enW at h
 rw[List.getElem?_mapIdx] at h
 cases e:W[i]? with
 | none=>rw[e] at h; cases h
 | some z=>rw[e] at h; exact⟨z,rfl,(Option.some.inj h).symm⟩
theorem Gtj{i:Nat}{z:Str}(h:W[i]?=some z):(enW W)[i]?=some (.tup [.int i,.str z]):=by
 unfold enW; rw[List.getElem?_mapIdx,h]; rfl
def Kl(ps:List Pl)(gd:D)(T:Str)(qp:Nat)(sp:Int)(x5 x6 x7:Option D):Lc:=[some (CD ps gd),some (.str T),some (.tup (ps.map Pl.toD)),some (.lst qp),some (.int sp),x5,x6,x7]
theorem Go5(hp:∀ p∈ps,p.ok){i:Nat}{z:Str}{x7:Option D}(hpi:ps[i]?=some p)(hz:Wy z)(hs:sp<=60)(ha:acc (some p) z sp=some x)(hq:S[qp]?=some ⟨false,xs⟩)(hl:xs.length<1000):
  ∃ S1,Gu (Kl ps gd T qp sp (some (.int i)) (some (.str z)) x7) S=.nx (Kl ps gd T qp (sp-(x.2.1+x.2.2)) (some (.int i)) (some (.str z)) (some (Wb x))) (S1.set qp ⟨false,xs++[Wb x]⟩)/\Ex S S1:=by
 obtain⟨S1,e1,x1⟩:=Geu (S:=S) (hp p (Ks hpi)) hz hs
 rw[ha] at e1
 have lt:(i:Int)<ps.length:=by have:=(List.getElem?_eq_some_iff.mp hpi).1; omega
 have lt':i<(ps.map Pl.toD).length:=by simp; omega
 have ga:=Gkt hpi S
 have is1:Vx (Wb x) .non S1=.ok (.bl false) S1:=rfl
 have q1:=x1.at hq
 have ap:=Gac (d:=Wb x) q1 (by omega)
 have il:=isL q1
 have t1:∀ S,DL.getD (Wb x) (.int 1) S=.ok (.int x.2.1) S:=fun S=>p1e
 have t2:∀ S,DL.getD (Wb x) (.int 2) S=.ok (.int x.2.2) S:=fun S=>Xv (Hc (by decide) rfl)
 refine⟨S1,?_,x1⟩
 have e1:Kb [p.toD,.str z,.int sp] S=.ok (Wb x) S1:=e1
 simp only[Gu,Kl]
 generalize Wb x=td at *
 generalize p.toD=pd at *
 generalize CD ps gd=cd at *
 generalize ps.map Pl.toD=pm at *
 simp[lt',ga,e1,is1,ap,il,t1,t2]
theorem Gv4(hp:∀ p∈ps,p.ok){i:Nat}{z:Str}{x7:Option D}(hz:Wy z)(hs:sp<=60)(ha:acc ps[i]? z sp=none):
  ∃ ρ' S1,Gu (Kl ps gd T qp sp (some (.int i)) (some (.str z)) x7) S=.exc ⟨"NoText",some (i:Int)⟩ ρ' S1/\Ex S S1:=by
 have ln:=Gti (ps:=ps) S
 have is1:∀ S,Vx .non .non S=.ok (.bl true) S:=fun _=>rfl
 cases hpi:ps[i]? with
 | none=>
  have lt:¬ (i:Int)<ps.length:=by have:=List.getElem?_eq_none_iff.mp hpi; omega
  have lt':¬ i<(ps.map Pl.toD).length:=by simp; omega
  refine⟨Kl ps gd T qp sp (some (.int i)) (some (.str z)) (some .non),S,?_,.refl⟩
  simp only[Gu,Kl]
  generalize CD ps gd=cd at *
  generalize ps.map Pl.toD=pm at *
  simp[lt',is1,srj]
 | some p=>
  rw[hpi] at ha
  obtain⟨S1,e1,x1⟩:=Geu (S:=S) (hp p (Ks hpi)) hz hs
  rw[ha] at e1
  have e1:Kb [p.toD,.str z,.int sp] S=.ok .non S1:=e1
  have lt:(i:Int)<ps.length:=by have:=(List.getElem?_eq_some_iff.mp hpi).1; omega
  have ga:=Gkt hpi S
  have lt':i<(ps.map Pl.toD).length:=by simp; omega
  refine⟨Kl ps gd T qp sp (some (.int i)) (some (.str z)) (some .non),S1,?_,x1⟩
  simp only[Gu,Kl]
  generalize p.toD=pd at *
  generalize CD ps gd=cd at *
  generalize ps.map Pl.toD=pm at *
  simp[lt',ga,e1,is1,srj]
theorem cols(v:Nat->D->D){j:Nat}(hv:∀ k:Nat,k<3->∀ d∈xs,∀ S',Ex S S'->DL.getD d (.int (k:Int)) S'=.ok (v k d) S')(hq:S[q]?=some ⟨false,xs⟩)(hl:xs.length<=100)(hj:pkS [none,some j] ρ=[none,some (.lst q)]):
  ∃ S',b1 Qg (ac (cmp (ir1 (ac (cn (.int 3)) an)) [none,some j] (gn 0) ttrue (b1 Qg (ac (cmp (isrc (vr 1)) [none,some 0] (gn 0) ttrue (o2 DL.getD (vr 0) (vr 1))) an))) an) ρ S=.ok (.tup [.tup (xs.map (v 0)),.tup (xs.map (v 1)),.tup (xs.map (v 2))]) S'/\Ex S S':=by
 have inner:∀ (k:Nat) (S':Sto),k<3->Ex S S'->∃ S'',b1 Qg (ac (cmp (isrc (vr 1)) [none,some 0] (gn 0) ttrue (o2 DL.getD (vr 0) (vr 1))) an) [some (.int k),some (.lst q)] S'=.ok (.tup (xs.map (v k))) S''/\Ex S' S'':=fun k S' hk x=>by
  have hq':=x.at hq
  refine Ges (s:=Yh q xs.length) (l:=xs) (fs:=isrc (vr 1)) (pk:=[none,some 0]) (e:=o2 DL.getD (vr 0) (vr 1)) (ρ:=[some (.int k),some (.lst q)]) (S:=S') [some (.int k)] (v k) ?_ (fun j S'' x'=>?_) (Nat.lt_succ_self _) rfl (by omega) fun d hd S'' x'=>⟨S'',?_,.refl⟩
  ·rw[Gf9]
   simp only[Xj,List.getElem?_cons_zero,List.getElem?_cons_succ,Hg]
   exact Geo hq'
  ·show((S''[q]?).bind fun c=>c.xs[j]?)=_
   rw[x'.at hq']; rfl
  ·simp[hv k hk d hd S'' (x.trans x')]
 have h:=Ges (s:=rsrc 0 (3:Nat)) (l:=(List.range 3).map fun k:Nat=>D.int (k:Int)) (fs:=ir1 (ac (cn (.int 3)) an)) (pk:=[none,some j]) (e:=b1 Qg (ac (cmp (isrc (vr 1)) [none,some 0] (gn 0) ttrue (o2 DL.getD (vr 0) (vr 1))) an))
  (ρ:=ρ) (S:=S) [some (.lst q)] (fun d=>match d with | .int k=>.tup (xs.map (v k.toNat)) | d=>d)
  (Yj (n:=3) (by simp) (by omega)) (fun k S' _=>Va) (by simp[rsrc]) hj (by simp) (fun d hd S' x=>by
   obtain⟨k,hk,rfl⟩:=List.mem_map.mp hd
   exact inner k S' (List.mem_range.mp hk) x)
 obtain⟨S',e,x⟩:=h
 exact⟨S',e,x⟩
def stT(ts:List T3):D:=.tup [.tup (ts.map fun x=>.int x.1),.tup (ts.map fun x=>.int x.2.1),.tup (ts.map fun x=>.int x.2.2)]
def vT(k:Nat)(d:D):D:=match d with
 | .tup l=>l.getD k .non
 | d=>d
theorem Ggi(hp:∀ p∈ps,p.ok)(hl:ps.length<=13)(hW:∀ z∈W,Wy z)(g:Good ps W ts){qw:Nat}{S0:Sto}(h0:S0.length<=qp)(hne:qp≠qw)(hx:Ex S0 S)(hq:S[qp]?=some ⟨false,[]⟩)(hw:S[qw]?=some ⟨false,W.map D.str⟩)(e7:ts.length=W.length):
  ∃ x5 x6 x7 S',forN (fun k S=>(S[qw]?).bind fun c=>(c.xs[k]?).map fun d=>.tup [.int k,d]) (gt (gcons (gn 5) (gcons (gn 6) gnil)) 2) Gu (W.length+1) 0 (Kl ps gd T qp 60 none none none) S=.nx (Kl ps gd T qp (spn ts) x5 x6 x7) S'/\Ex S0 S'/\S'[qp]?=some ⟨false,ts.map Wb⟩:=by
 have gp:=g.pl
 obtain⟨ρ',S',ef,x5,x6,x7,rfl,h1,h2,h3⟩:=Jr (nxt:=fun k S=>(S[qw]?).bind fun c=>(c.xs[k]?).map fun d=>.tup [.int k,d]) (g:=gt (gcons (gn 5) (gcons (gn 6) gnil)) 2) (b:=Gu) (l:=enW W)
  (fun i ρ S'=>∃ x5 x6 x7,ρ=Kl ps gd T qp (spn (ts.take i)) x5 x6 x7/\Ex S0 S'/\S'[qp]?=some ⟨false,(ts.take i).map Wb⟩/\S'[qw]?=some ⟨false,W.map D.str⟩)
  (fun i ρ S' ⟨_,_,_,_,_,_,h⟩=>by
   show(S'[qw]?).bind _=_
   rw[h]
   unfold enW
   rw[List.getElem?_mapIdx]
   simp only[Option.bind_some,List.getElem?_map]
   cases W[i]?<;>rfl)
  (fun i d ρ S1 hd ⟨x5,x6,x7,e,h1,h2,h3⟩=>by
   subst e
   obtain⟨z,hz,rfl⟩:=Gku hd
   have hi:=(List.getElem?_eq_some_iff.mp hz).1
   obtain⟨x,hx⟩:=Qh (show i<ts.length by omega)
   obtain⟨p,hpi⟩:=Qh (show i<ps.length by omega)
   have ac:=g.at' i z x hx hz
   rw[hpi] at ac
   obtain⟨S2,f,x2⟩:=Go5 (gd:=gd) (T:=T) (x7:=x7) hp hpi (hW z (Ks hz)) (g.sp i).2 ac h2 (by simp; omega)
   have q2:=x2.at h2
   have l2:=(List.getElem?_eq_some_iff.mp q2).1
   refine⟨Kl ps gd T qp (spn (ts.take i)) (some (.int i)) (some (.str z)) x7,_,_,by simp[Kl],f,some (.int i),some (.str z),some (Wb x),?_,(h1.trans x2).setq h0,?_,?_⟩
   ·rw[Xp hx,Ze]
   ·rw[List.getElem?_set_self l2,Xp hx]; simp
   ·rw[List.getElem?_set_ne hne]; exact x2.at h3)
  (W.length+1) 0 (Kl ps gd T qp 60 none none none) S (Nat.zero_le _) ⟨none,none,none,by simp[spn],hx,by simp[hq],hw⟩ (by simp[enW])
 have:(enW W).length=ts.length:=by simp[enW,e7]
 rw[this,List.take_length] at ef h2
 exact⟨x5,x6,x7,S',ef,h1,h2⟩
theorem Gtk(hp:∀ p∈ps,p.ok)(hl:ps.length<=13)(hW:∀ z∈W,Wy z)(g:Good ps W ts){qw:Nat}{S0:Sto}(h0:S0.length<=qp)(hne:qp≠qw)(hx:Ex S0 S)(hq:S[qp]?=some ⟨false,[]⟩)(hw:S[qw]?=some ⟨false,W.map D.str⟩){z0:Str}(hz0:W[ts.length]?=some z0)(hn:acc ps[ts.length]? z0 (spn ts)=none):
  ∃ ρ' S',forN (fun k S=>(S[qw]?).bind fun c=>(c.xs[k]?).map fun d=>.tup [.int k,d]) (gt (gcons (gn 5) (gcons (gn 6) gnil)) 2) Gu (W.length+1) 0 (Kl ps gd T qp 60 none none none) S=.exc ⟨"NoText",some (ts.length:Int)⟩ ρ' S'/\Ex S0 S':=by
 have gp:=g.pl
 have hlt:=(List.getElem?_eq_some_iff.mp hz0).1
 exact Gge (nxt:=fun k S=>(S[qw]?).bind fun c=>(c.xs[k]?).map fun d=>.tup [.int k,d]) (g:=gt (gcons (gn 5) (gcons (gn 6) gnil)) 2) (b:=Gu) (l:=enW W) (k0:=ts.length) (P:=fun S'=>Ex S0 S')
  (fun i ρ S'=>∃ x5 x6 x7,ρ=Kl ps gd T qp (spn (ts.take i)) x5 x6 x7/\Ex S0 S'/\S'[qp]?=some ⟨false,(ts.take i).map Wb⟩/\S'[qw]?=some ⟨false,W.map D.str⟩)
  (Gtj hz0)
  (fun i ρ S' ⟨_,_,_,_,_,_,h⟩=>by
   show(S'[qw]?).bind _=_
   rw[h]
   unfold enW
   rw[List.getElem?_mapIdx]
   simp only[Option.bind_some,List.getElem?_map]
   cases W[i]?<;>rfl)
  (fun i d ρ S1 hi hd ⟨x5,x6,x7,e,h1,h2,h3⟩=>by
   subst e
   obtain⟨z,hz,rfl⟩:=Gku hd
   obtain⟨x,hx⟩:=Qh (show i<ts.length by omega)
   obtain⟨p,hpi⟩:=Qh (show i<ps.length by omega)
   have ac:=g.at' i z x hx hz
   rw[hpi] at ac
   obtain⟨S2,f,x2⟩:=Go5 (gd:=gd) (T:=T) (x7:=x7) hp hpi (hW z (Ks hz)) (g.sp i).2 ac h2 (by simp; omega)
   have q2:=x2.at h2
   have l2:=(List.getElem?_eq_some_iff.mp q2).1
   refine⟨Kl ps gd T qp (spn (ts.take i)) (some (.int i)) (some (.str z)) x7,_,_,by simp[Kl],f,some (.int i),some (.str z),some (Wb x),?_,(h1.trans x2).setq h0,?_,?_⟩
   ·rw[Xp hx,Ze]
   ·rw[List.getElem?_set_self l2,Xp hx]; simp
   ·rw[List.getElem?_set_ne hne]; exact x2.at h3)
  (fun ρ S1 ⟨x5,x6,x7,e,h1,h2,h3⟩=>by
   subst e
   rw[List.take_length] at *
   obtain⟨ρ',S2,f,x2⟩:=Gv4 (S:=S1) (gd:=gd) (T:=T) (qp:=qp) (x7:=x7) hp (hW z0 (Ks hz0)) (by have:=g.sp ts.length; rw[List.take_length] at this; exact this.2) hn
   exact⟨Kl ps gd T qp (spn ts) (some (.int ts.length)) (some (.str z0)) x7,ρ',S2,by simp[Kl],f,h1.trans x2⟩)
  (W.length+1) 0 (Kl ps gd T qp 60 none none none) S (Nat.zero_le _) ⟨none,none,none,by simp[spn],hx,by simp[hq],hw⟩ (by omega)
end
section
variable{ps:List Pl}{W:List Str}{ts:List T3}{S:Sto}{gd:D}{T:Str}
theorem Gtl(S:Sto):DL.getD (CD ps gd) (.int 0) S=.ok (.tup (ps.map Pl.toD)) S:=p0e
theorem Gbu(hT:Wy T)(hW:Txt.split T ⟨#[32]⟩=W)(g:Sv)(S:Sto):∃ S1,Ex S S1/\S1[S.length]?=some ⟨false,[]⟩/\S1[S.length+1]?=some ⟨false,W.map D.str⟩/\fin (sq (sa (o2 DL.getD (vr 0) (cn (.int 0))) (gn 2)) (sq (sa (ls an) (gn 3)) (sq (sa (cn c_MOST_BARGES) (gn 4)) (sq (sfor (Gbc (ac (mts Ht (vr 1) (ac (cn (.str " ")) an)) an)) (gt (gcons (gn 5) (gcons (gn 6) gnil)) 2) Gu) g))) [some (CD ps gd),some (.str T),none,none,none,none,none,none] S)
  = fin (sq (fun ρ _=>forN (fun k S'=>(S'[S.length+1]?).bind fun c=>(c.xs[k]?).map fun d=>.tup [.int k,d]) (gt (gcons (gn 5) (gcons (gn 6) gnil)) 2) Gu (W.length+1) 0 ρ S1) g (Kl ps gd T S.length 60 none none none) S):=by
 obtain⟨_,_,_,_,sp⟩:=splc e32 hT
 rw[hW] at sp
 have k1:c_MOST_BARGES=.int 60:=rfl
 have s1:=sp (S++[⟨false,[]⟩])
 have l1:(S++[(⟨false,[]⟩:Cell)]).length=S.length+1:=by simp
 rw[l1] at s1
 have q1:((S++[(⟨false,[]⟩:Cell)])++[⟨false,W.map D.str⟩])[S.length+1]?=some ⟨false,W.map D.str⟩:=by
  have:=Hl (S:=S++[(⟨false,[]⟩:Cell)]) (c:=⟨false,W.map D.str⟩)
  rw[l1] at this
  exact this
 have q0:((S++[(⟨false,[]⟩:Cell)])++[⟨false,W.map D.str⟩])[S.length]?=some ⟨false,[]⟩:=Ex.app.at Hl
 have xx:Ex S ((S++[(⟨false,[]⟩:Cell)])++[⟨false,W.map D.str⟩]):=Ex.app.trans Ex.app
 generalize (S++[(⟨false,[]⟩:Cell)])++[(⟨false,W.map D.str⟩:Cell)]=S1 at *
 refine⟨S1,xx,q0,q1,?_⟩
 refine(Gr (ρ':=[some (CD ps gd),some (.str T),some (.tup (ps.map Pl.toD)),none,none,none,none,none]) (S':=S) (by simp[Gtl])).trans ?_
 refine(Gr (ρ':=[some (CD ps gd),some (.str T),some (.tup (ps.map Pl.toD)),some (.lst S.length),none,none,none,none]) (S':=S++[⟨false,[]⟩]) (by simp)).trans ?_
 refine(Gr (ρ':=Kl ps gd T S.length 60 none none none) (S':=S++[⟨false,[]⟩]) (by simp[Kl,k1])).trans ?_
 rw[Ue,Qp]
 have src:Gbc (ac (mts Ht (vr 1) (ac (cn (.str " ")) an)) an) (Kl ps gd T S.length 60 none none none) (S++[⟨false,[]⟩])=.ok ⟨fun k S'=>(S'[S.length+1]?).bind fun c=>(c.xs[k]?).map fun d=>.tup [.int k,d],W.length+1⟩ S1:=by
  show((ac (mts Ht (vr 1) (ac (cn (.str " ")) an)) an) (Kl ps gd T S.length 60 none none none) (S++[⟨false,[]⟩])).bind _=_
  simp[Kl,Vb,Jx,s1,q1]
 rw[src,Ue]
 simp only[Kk]
theorem Gnw(hp:∀ p∈ps,p.ok)(hl:ps.length<=13)(hT:Wy T)(hs:Txt.split T ⟨#[32]⟩=W)(hW:∀ z∈W,Wy z)(g:Good ps W ts){z0:Str}(hz0:W[ts.length]?=some z0)(hn:acc ps[ts.length]? z0 (spn ts)=none):∃ S',Hf [CD ps gd,.str T] S=.exc ⟨"NoText",some (ts.length:Int)⟩ S'/\Ex S S':=by
 obtain⟨S1,x1,q0,q1,e⟩:=Gbu (ps:=ps) (gd:=gd) hT hs (sq (sif (tb (o2 ltD (b1 lenD (ac (vr 3) an)) (b1 lenD (ac (vr 2) an)))) (srj "NoText" (ac (b1 lenD (ac (vr 3) an)) an)) DL.skip) (sret (b1 Qg (ac (cmp (ir1 (ac (cn (.int 3)) an)) [none,some 3] (gn 0) ttrue (b1 Qg (ac (cmp (isrc (vr 1)) [none,some 0] (gn 0) ttrue (o2 DL.getD (vr 0) (vr 1))) an))) an)))) S
 obtain⟨ρ',S',ef,x'⟩:=Gtk (gd:=gd) (T:=T) hp hl hW g (Nat.le_refl _) (by omega) x1 q0 q1 hz0 hn
 refine⟨S',?_,x'⟩
 unfold Hf
 rw[Jc]
 simp only[Kz]
 refine e.trans ?_
 rw[Ue]
 simp only[ef]
 rfl
theorem Ggj(S:Sto)(h:S[q]?=some ⟨false,ts.map Wb⟩):lenD [.lst q] S=.ok (.int ts.length) S:=by simp[lenD,h]
theorem Gfr(hp:∀ p∈ps,p.ok)(hl:ps.length<=13)(hT:Wy T)(hs:Txt.split T ⟨#[32]⟩=W)(hW:∀ z∈W,Wy z)(g:Good ps W ts)(he:ts.length=W.length)(hn:W.length<ps.length):∃ S',Hf [CD ps gd,.str T] S=.exc ⟨"NoText",some (W.length:Int)⟩ S'/\Ex S S':=by
 obtain⟨S1,x1,q0,q1,e⟩:=Gbu (ps:=ps) (gd:=gd) hT hs (sq (sif (tb (o2 ltD (b1 lenD (ac (vr 3) an)) (b1 lenD (ac (vr 2) an)))) (srj "NoText" (ac (b1 lenD (ac (vr 3) an)) an)) DL.skip) (sret (b1 Qg (ac (cmp (ir1 (ac (cn (.int 3)) an)) [none,some 3] (gn 0) ttrue (b1 Qg (ac (cmp (isrc (vr 1)) [none,some 0] (gn 0) ttrue (o2 DL.getD (vr 0) (vr 1))) an))) an)))) S
 obtain⟨x5,x6,x7,S',ef,x',q'⟩:=Ggi (gd:=gd) (T:=T) hp hl hW g (Nat.le_refl _) (by omega) x1 q0 q1 he
 have ln:=Ggj S' q'
 rw[he] at ln
 have lt':W.length<(ps.map Pl.toD).length:=by simp; exact hn
 refine⟨S',?_,x'⟩
 unfold Hf
 rw[Jc]
 simp only[Kz]
 refine e.trans ?_
 rw[Ue]
 simp only[ef]
 simp only[Kl]
 generalize CD ps gd=cd at *
 generalize ps.map Pl.toD=pm at *
 generalize ts.map Wb=tm at *
 simp[ln,lt',srj,fin]
theorem Gkv(hp:∀ p∈ps,p.ok)(hl:ps.length<=13)(hT:Wy T)(hs:Txt.split T ⟨#[32]⟩=W)(hW:∀ z∈W,Wy z)(g:Good ps W ts)(he:ts.length=W.length)(hn:¬ W.length<ps.length):∃ S',Hf [CD ps gd,.str T] S=.ok (stT ts) S'/\Ex S S':=by
 have gp:=g.pl
 obtain⟨S1,x1,q0,q1,e⟩:=Gbu (ps:=ps) (gd:=gd) hT hs (sq (sif (tb (o2 ltD (b1 lenD (ac (vr 3) an)) (b1 lenD (ac (vr 2) an)))) (srj "NoText" (ac (b1 lenD (ac (vr 3) an)) an)) DL.skip) (sret (b1 Qg (ac (cmp (ir1 (ac (cn (.int 3)) an)) [none,some 3] (gn 0) ttrue (b1 Qg (ac (cmp (isrc (vr 1)) [none,some 0] (gn 0) ttrue (o2 DL.getD (vr 0) (vr 1))) an))) an)))) S
 obtain⟨x5,x6,x7,S',ef,x',q'⟩:=Ggi (gd:=gd) (T:=T) hp hl hW g (Nat.le_refl _) (by omega) x1 q0 q1 he
 have ln:=Ggj S' q'
 rw[he] at ln
 have lt':¬ W.length<(ps.map Pl.toD).length:=by simp; omega
 obtain⟨S2,c2,x2⟩:=cols (S:=S') (q:=S.length) (j:=3) (ρ:=Kl ps gd T S.length (spn ts) x5 x6 x7) vT (fun k hk d hd S'' _=>by
  obtain⟨x,_,rfl⟩:=List.mem_map.mp hd
  rcases(by omega:k=0\/k=1\/k=2) with rfl | rfl | rfl
  ·exact p0e
  ·exact p1e
  ·exact Xv (Hc (by decide) rfl)) q' (by simp; omega) rfl
 refine⟨S2,?_,x'.trans x2⟩
 unfold Hf
 rw[Jc]
 simp only[Kz]
 refine e.trans ?_
 rw[Ue]
 simp only[ef]
 have fst:sif (tb (o2 ltD (b1 lenD (ac (vr 3) an)) (b1 lenD (ac (vr 2) an)))) (srj "NoText" (ac (b1 lenD (ac (vr 3) an)) an)) DL.skip (Kl ps gd T S.length (spn ts) x5 x6 x7) S'=.nx (Kl ps gd T S.length (spn ts) x5 x6 x7) S':=by
  simp only[Kl]
  generalize CD ps gd=cd at *
  generalize ps.map Pl.toD=pm at *
  simp[ln,lt']
 refine(Gr fst).trans ?_
 rw[Yy,c2]
 have:D.tup [.tup ((ts.map Wb).map (vT 0)),.tup ((ts.map Wb).map (vT 1)),.tup ((ts.map Wb).map (vT 2))]=stT ts:=by
  unfold stT
  simp only[List.map_map]
  rfl
 rw[this]
 rfl
def Us(ps:List Pl)(gd:D)(q:Nat)(tot:Int)(x3 x4:Option D):Lc:=[some (CD ps gd),some (.lst q),some (.int tot),x3,x4]
theorem Gtm{i:Nat}{z:Str}{tot:Int}(hq:S[q]?=some ⟨false,W.map D.str⟩)(hz:W[i]?=some z)(hy:Wy z):∃ S1,cmp (isrc (mts Ht (o2 DL.getD (vr 1) (vr 3)) (ac (cn (.str ":")) an))) [none] (gn 0) ttrue (cl 1 (Gp Ja) (ac (vr 0) an)) (Us ps gd q tot (some (.int i)) x4) S=.ok (.lst (S.length+1)) S1/\S1[S.length+1]?=some ⟨false,(spl z).map fun u=>.int (fg u)⟩/\Ex S S1:=by
 obtain⟨hw,hl,hs⟩:=Gkp hy
 have h0:=hs S
 have gz:DL.getD (.lst q) (.int i) S=.ok (.str z) S:=Jb hq (Hc (by omega) (by rw[Int.toNat_natCast,List.getElem?_map,hz]; rfl))
 have qa:=Hl (S:=S) (c:=⟨false,(spl z).map D.str⟩)
 have la:(S++[(⟨false,(spl z).map D.str⟩:Cell)]).length=S.length+1:=by simp
 obtain⟨S1,e1,q1,x1⟩:=Ggg (f:=isrc (mts Ht (o2 DL.getD (vr 1) (vr 3)) (ac (cn (.str ":")) an))) (s:=Yh S.length (spl z).length) (xs:=(spl z).map D.str) (pk:=[none]) (e:=cl 1 (Gp Ja) (ac (vr 0) an)) (ρ:=Us ps gd q tot (some (.int i)) x4) (S:=S) (S1:=S++[⟨false,(spl z).map D.str⟩]) [] (fun d=>match d with | .str u=>.int (fg u) | d=>d)
  (by have:=Geo qa; simp only[List.length_map] at this; simp[Us,gz,Vb,Jx,h0,this]) (fun k S' hx=>by simp[Yh,hx.at qa]) (by simp[Yh]) rfl (by simp; omega) (fun d hd S' _=>by
   obtain⟨u,hu,rfl⟩:=List.mem_map.mp hd
   exact⟨S',by simp[Gnu (S:=S') (hw u hu)],Ex.refl⟩)
 rw[la] at e1 q1
 refine⟨S1,e1,?_,Ex.app.trans x1⟩
 rw[q1,List.map_map]
 rfl
theorem Gdu(hp:∀ p∈ps,p.ok){i:Nat}{z:Str}{tot:Int}(hq:S[q]?=some ⟨false,W.map D.str⟩)(hz:W[i]?=some z)(hy:Wy z):∃ S1,Ex S S1/\((acc ps[i]? z (60-tot)=none/\Hi (Us ps gd q tot (some (.int i)) x4) S=.rt (.int i) S1)\/∃ x y4,acc ps[i]? z (60-tot)=some x/\Hi (Us ps gd q tot (some (.int i)) x4) S=.nx (Us ps gd q (60-(60-tot-(x.2.1+x.2.2))) (some (.int i)) y4) S1):=by
 obtain⟨S1,e1,q1,x1⟩:=Gtm (ps:=ps) (gd:=gd) (tot:=tot) (x4:=x4) hq hz hy
 refine⟨S1,x1,?_⟩
 have c0:=Gtl (ps:=ps) (gd:=gd)
 have f1:sa (cmp (isrc (mts Ht (o2 DL.getD (vr 1) (vr 3)) (ac (cn (.str ":")) an))) [none] (gn 0) ttrue (cl 1 (Gp Ja) (ac (vr 0) an))) (gn 4) (Us ps gd q tot (some (.int i)) x4) S=.nx (Us ps gd q tot (some (.int i)) (some (.lst (S.length+1)))) S1:=by rw[Gab,e1]; rfl
 unfold Hi
 rw[Wa f1]
 generalize S.length+1=qn at *
 have ln3:lenD [.lst qn] S1=.ok (.int (spl z).length) S1:=by simp[lenD,q1]
 cases hpi:ps[i]? with
 | none=>
  have lt':¬ i<(ps.map Pl.toD).length:=by have:=List.getElem?_eq_none_iff.mp hpi; simp; omega
  have lt'':(ps.map Pl.toD).length<=i:=by omega
  refine .inl ⟨rfl,?_⟩
  simp only[Us]
  generalize CD ps gd=cd at *
  generalize ps.map Pl.toD=pm at *
  simp[c0,lt'']
 | some p=>
  have lt':i<(ps.map Pl.toD).length:=by have:=(List.getElem?_eq_some_iff.mp hpi).1; simp; exact this
  have lt'':¬ (ps.map Pl.toD).length<=i:=by omega
  have ga:=Gkt hpi S1
  by_cases c3:(spl z).length=3
  ·obtain⟨u,v,w,e⟩:=three c3
   rw[e] at q1 ln3
   have q1:S1[qn]?=some ⟨false,[.int (fg u),.int (fg v),.int (fg w)]⟩:=q1
   have ea:acc (some p) z (60-tot)=if pv p (fg u) (fg v) (fg w) (60-tot)=true then some (fg u,fg v,fg w) else none:=by unfold acc; rw[e]
   have ne3:neD (.int 3) (.int 3) S1=.ok (.bl false) S1:=rfl
   have mn:=Gxe q1
   have lm:=Gks (a:=fg u) (b:=fg v) (c:=fg w)
   have g1':DL.getD (.lst qn) (.int 1) S1=.ok (.int (fg v)) S1:=Jb q1 (Hc (by decide) rfl)
   have g2':DL.getD (.lst qn) (.int 2) S1=.ok (.int (fg w)) S1:=Jb q1 (Hc (by decide) rfl)
   have ft:=Gnv (p:=p) q1
   rw[ea]
   simp only[List.length_cons,List.length_nil] at ln3
   generalize fg u=a at *
   generalize fg v=b at *
   generalize fg w=c at *
   generalize lmin [a,b,c]=mm at *
   simp only[Us]
   generalize p.toD=pd at *
   generalize CD ps gd=cd at *
   generalize ps.map Pl.toD=pm at *
   by_cases A1:0<=a/\0<=b/\0<=c
   ·have m1:¬ mm<0:=fun z=>lm.mp z A1
    have ft:=ft A1.1
    by_cases A2:a<=wat p
    ·cases hv:hol p (b+c)
     ·rw[hv,Bool.and_false] at ft
      have:pv p a b c (60-tot)=false:=by unfold pv; rw[hv,Bool.and_false]
      rw[this]
      exact .inl ⟨by simp,by simp[c0,lt'',ln3,ne3,mn,m1,ga,ft,Wo]⟩
     ·rw[hv,decide_eq_true A2,Bool.and_true] at ft
      by_cases A3:b+c<=60-tot
      ·have:pv p a b c (60-tot)=true:=by unfold pv; rw[hv,decide_eq_true ⟨⟨A1.1,A2⟩,A1.2.1,A1.2.2,A3⟩]; rfl
       rw[this]
       have t60:¬ 60<tot+b+c:=by omega
       have te:60-(60-tot-(b+c))=tot+b+c:=by omega
       exact .inr ⟨(a,b,c),some (.lst qn),by simp,by simp[c0,lt'',ln3,ne3,mn,m1,ga,ft,Wo,g1',g2',t60,te]⟩
      ·have:pv p a b c (60-tot)=false:=by unfold pv; rw[decide_eq_false (fun q=>A3 q.2.2.2)]; rfl
       rw[this]
       have t60:60<tot+b+c:=by omega
       exact .inl ⟨by simp,by simp[c0,lt'',ln3,ne3,mn,m1,ga,ft,Wo,g1',g2',t60]⟩
    ·rw[decide_eq_false A2,Bool.false_and] at ft
     have:pv p a b c (60-tot)=false:=by unfold pv; rw[decide_eq_false (fun q=>A2 q.1.2)]; rfl
     rw[this]
     exact .inl ⟨by simp,by simp[c0,lt'',ln3,ne3,mn,m1,ga,ft,Wo]⟩
   ·have m1:mm<0:=lm.mpr A1
    have:pv p a b c (60-tot)=false:=by unfold pv; rw[decide_eq_false (fun q=>A1 ⟨q.1.1,q.2.1,q.2.2.1⟩)]; rfl
    rw[this]
    exact .inl ⟨by simp,by simp[c0,lt'',ln3,ne3,mn,m1]⟩
  ·have c3':¬ ((spl z).length:Int)=3:=by omega
   refine .inl ⟨Gkq c3,?_⟩
   simp only[Us]
   generalize CD ps gd=cd at *
   generalize ps.map Pl.toD=pm at *
   simp[c0,lt'',ln3,c3']
end
theorem Gv5{j:Nat}{ys:List D}{A:Ev (List D)}(hc:S1[c]?=some ⟨false,xs⟩)(hA:A ρ S=.ok ys S1)(hv:ρ[j]?=some (some (.lst c)))(hl:xs.length+ys.length<=1000):
  ∃ S',o2 Jj (vr j) (ls A) ρ S=.ok (.lst (S1.length+1)) S'/\Ex S1 S'/\S'[S1.length+1]?=some ⟨false,xs++ys⟩:=by
 have lE:ls A ρ S=.ok (.lst S1.length) (S1++[(⟨false,ys⟩:Cell)]):=by rw[Gvw,hA,Hg,if_pos (by omega)]
 have ad:=Gj6 (S:=S1++[(⟨false,ys⟩:Cell)]) (i:=c) (j:=S1.length) (a:=xs) (b:=ys) (Gat hc) Hl (by omega)
 have ln:(S1++[(⟨false,ys⟩:Cell)]).length=S1.length+1:=by simp
 rw[ln] at ad
 refine⟨(S1++[(⟨false,ys⟩:Cell)])++[(⟨false,xs++ys⟩:Cell)],?_,Ex.app.trans Ex.app,?_⟩
 ·rw[Gej,Xj,hv]
  simp only[Hg]
  rw[lE,Hg,ad]
 ·have:=Hl (S:=S1++[(⟨false,ys⟩:Cell)]) (c:=⟨false,xs++ys⟩)
  rw[ln] at this
  exact this
section
variable{ps:List Pl}{W:List Str}{ts:List T3}{S:Sto}{gd:D}
theorem Ggk(hq:S[q]?=some ⟨false,W.map D.str⟩)(hl:W.length<=1001)(g:Sv):fin (sq (sa (cn (.int 0)) (gn 2)) (sq (sfor (ir1 (ac (b1 lenD (ac (vr 1) an)) an)) (gn 3) Hi) g) [some (CD ps gd),some (.lst q),none,none,none] S)=fin (sq (fun ρ S=>forN (rsrc 0 W.length).nxt (gn 3) Hi (rsrc 0 W.length).fuel 0 ρ S) g (Us ps gd q 0 none none) S):=by
 refine(Gr (ρ':=Us ps gd q 0 none none) (S':=S) (by simp[Us])).trans ?_
 have ln:lenD [.lst q] S=.ok (.int W.length) S:=by simp[lenD,hq]
 rw[Ue,Qp,Yj (n:=W.length) (S':=S) (by simp[Us,ln]) (by omega),Ue]
 simp only[Kk]
theorem Gtn(hp:∀ p∈ps,p.ok)(hW:∀ z∈W,Wy z)(hl:W.length<=1001)(g:Good ps W ts)(hq:S[q]?=some ⟨false,W.map D.str⟩){z0:Str}(hz0:W[ts.length]?=some z0)(hn:acc ps[ts.length]? z0 (spn ts)=none):∃ S',Hu [CD ps gd,.lst q] S=.ok (.int ts.length) S'/\Ex S S':=by
 have hlt:=(List.getElem?_eq_some_iff.mp hz0).1
 obtain⟨S',ef,x'⟩:=Gkl (nxt:=(rsrc 0 W.length).nxt) (g:=gn 3) (b:=Hi) (l:=(List.range W.length).map fun k:Nat=>D.int (k:Int)) (k0:=ts.length) (d0:=.int (ts.length:Int)) (r:=.int ts.length) (P:=fun S'=>Ex S S')
  (fun i ρ S'=>∃ x3 x4,ρ=Us ps gd q (60-spn (ts.take i)) x3 x4/\Ex S S')
  (by rw[List.getElem?_map,List.getElem?_range hlt]; rfl) (fun i _ S _=>Va)
  (fun i d ρ S1 hi hd ⟨x3,x4,e,x1⟩=>by
   subst e
   obtain⟨hi',rfl⟩:=Yi hd
   obtain⟨z,hz⟩:=Qh hi'
   obtain⟨x,hx⟩:=Qh hi
   have ac:=g.at' i z x hx hz
   obtain⟨S2,x2,h | ⟨x',y4,h1,h2⟩⟩:=Gdu (gd:=gd) (tot:=60-spn (ts.take i)) (x4:=x4) hp (x1.at hq) hz (hW z (Ks hz))
   ·have e:60-(60-spn (ts.take i))=spn (ts.take i):=by omega
    rw[e,ac] at h
    cases h.1
   ·have e:60-(60-spn (ts.take i))=spn (ts.take i):=by omega
    rw[e] at h1 h2
    rw[ac] at h1
    cases h1
    refine⟨Us ps gd q (60-spn (ts.take i)) (some (.int i)) x4,_,S2,rfl,h2,some (.int i),y4,?_,x1.trans x2⟩
    rw[Xp hx,Ze])
  (fun ρ S1 ⟨x3,x4,e,x1⟩=>by
   subst e
   rw[List.take_length]
   have e:60-(60-spn ts)=spn ts:=by omega
   obtain⟨S2,x2,h | ⟨x',y4,h1,h2⟩⟩:=Gdu (gd:=gd) (tot:=60-spn ts) (x4:=x4) hp (x1.at hq) hz0 (hW z0 (Ks hz0))
   ·exact⟨Us ps gd q (60-spn ts) (some (.int ts.length)) x4,S2,rfl,h.2,x1.trans x2⟩
   ·rw[e,hn] at h1; cases h1)
  (rsrc 0 W.length).fuel 0 (Us ps gd q 0 none none) S (Nat.zero_le _) ⟨none,none,by simp[spn],.refl⟩ (by simp[rsrc]; omega)
 refine⟨S',?_,x'⟩
 unfold Hu
 rw[Jc]
 simp only[Uh]
 refine(Ggk hq hl _).trans ?_
 rw[Ue]
 simp only[ef]
 rfl
theorem Gnx(hp:∀ p∈ps,p.ok)(hW:∀ z∈W,Wy z)(hl:W.length<=1001)(g:Good ps W ts)(hq:S[q]?=some ⟨false,W.map D.str⟩)(he:ts.length=W.length):∃ S',Hu [CD ps gd,.lst q] S=.ok (if W.length<ps.length then .int W.length else .non) S'/\Ex S S':=by
 obtain⟨ρ',S',ef,x3,x4,rfl,x'⟩:=Jr (nxt:=(rsrc 0 W.length).nxt) (g:=gn 3) (b:=Hi) (l:=(List.range W.length).map fun k:Nat=>D.int (k:Int))
  (fun i ρ S'=>∃ x3 x4,ρ=Us ps gd q (60-spn (ts.take i)) x3 x4/\Ex S S')
  (fun i _ S _=>Va)
  (fun i d ρ S1 hd ⟨x3,x4,e,x1⟩=>by
   subst e
   obtain⟨hi',rfl⟩:=Yi hd
   obtain⟨z,hz⟩:=Qh hi'
   obtain⟨x,hx⟩:=Qh (show i<ts.length by omega)
   have ac:=g.at' i z x hx hz
   obtain⟨S2,x2,h | ⟨x',y4,h1,h2⟩⟩:=Gdu (gd:=gd) (tot:=60-spn (ts.take i)) (x4:=x4) hp (x1.at hq) hz (hW z (Ks hz))
   ·have e:60-(60-spn (ts.take i))=spn (ts.take i):=by omega
    rw[e,ac] at h
    cases h.1
   ·have e:60-(60-spn (ts.take i))=spn (ts.take i):=by omega
    rw[e] at h1 h2
    rw[ac] at h1
    cases h1
    refine⟨Us ps gd q (60-spn (ts.take i)) (some (.int i)) x4,_,S2,rfl,h2,some (.int i),y4,?_,x1.trans x2⟩
    rw[Xp hx,Ze])
  (rsrc 0 W.length).fuel 0 (Us ps gd q 0 none none) S (Nat.zero_le _) ⟨none,none,by simp[spn],.refl⟩ (by simp[rsrc])
 refine⟨S',?_,x'⟩
 have c0:=Gtl (ps:=ps) (gd:=gd)
 have ln:lenD [.lst q] S'=.ok (.int W.length) S':=by simp[lenD,x'.at hq]
 have lp:(ps.map Pl.toD).length=ps.length:=by simp
 unfold Hu
 rw[Jc]
 simp only[Uh]
 refine(Ggk hq hl _).trans ?_
 rw[Ue]
 simp only[ef]
 simp only[Us]
 by_cases c:W.length<ps.length
 ·rw[if_pos c]
  rw[<- lp] at c
  generalize CD ps gd=cd at *
  generalize ps.map Pl.toD=pm at *
  simp[ln,c0,c,fin]
 ·rw[if_neg c]
  rw[<- lp] at c
  generalize CD ps gd=cd at *
  generalize ps.map Pl.toD=pm at *
  simp[ln,c0,c,fin]
def Gkw(x:T3):List D:=[.int x.1,.int x.2.1,.int x.2.2]
theorem Gto{z:Str}{p:Option Pl}(hz:Wy z)(h:acc p z sp=some x)(hs:sp<=60)(hp:∀ q,p=some q->q.ok):∃ S1,cmp (isrc (mts Ht (vr 0) (ac (cn (.str ":")) an))) [none] (gn 0) ttrue (b1 Qs (ac (vr 0) an)) [some (.str z)] S=.ok (.lst (S.length+1)) S1/\S1[S.length+1]?=some ⟨false,Gkw x⟩/\Ex S S1:=by
 obtain⟨hw,hl,hsp⟩:=Gkp hz
 obtain⟨p0,u,v,w,ep,e,ex,⟨a0,a1⟩,b0,c0,s0,_⟩:=Gbt h
 have h0:=hsp S
 have qa:=Hl (S:=S) (c:=⟨false,(spl z).map D.str⟩)
 have la:(S++[(⟨false,(spl z).map D.str⟩:Cell)]).length=S.length+1:=by simp
 have wl:=Gkr (hp p0 ep)
 subst ex
 simp only at a0 a1 b0 c0 s0
 obtain⟨S1,e1,q1,x1⟩:=Ggg (f:=isrc (mts Ht (vr 0) (ac (cn (.str ":")) an))) (s:=Yh S.length (spl z).length) (xs:=(spl z).map D.str) (pk:=[none]) (e:=b1 Qs (ac (vr 0) an)) (ρ:=[some (.str z)]) (S:=S) (S1:=S++[⟨false,(spl z).map D.str⟩]) [] (fun d=>match d with | .str u=>.int (fg u) | d=>d)
  (by have:=Geo qa; simp only[List.length_map] at this; simp[Vb,Jx,h0,this]) (fun k S' hx=>by simp[Yh,hx.at qa]) (by simp[Yh]) rfl (by simp; omega) (fun d hd S' _=>by
   obtain⟨y,hy,rfl⟩:=List.mem_map.mp hd
   rw[e] at hy
   have:0<=fg y/\fg y<=60:=by
    simp only[List.mem_cons,List.not_mem_nil,or_false] at hy
    rcases hy with rfl | rfl | rfl<;>omega
   exact⟨S',by simp[Gtg (S:=S') this.1 this.2],Ex.refl⟩)
 rw[la] at e1 q1
 refine⟨S1,e1,?_,Ex.app.trans x1⟩
 rw[q1,e]
 rfl
theorem Gev(hp:∀ p∈ps,p.ok)(hW:∀ z∈W,Wy z)(hl:W.length<=13)(g:Good ps W ts)(hq:S[q]?=some ⟨false,W.map D.str⟩)(he:ts.length=W.length):∃ S',Qf [.lst q] S=.ok (stT ts) S'/\Ex S S':=by
 have lq:q<S.length:=(List.getElem?_eq_some_iff.mp hq).1
 obtain⟨ρ',S1,el,g0,ids,rfl,q1,x1,l1,h1⟩:=Jr (nxt:=(Yh q W.length).nxt) (g:=gn 0) (b:=cbody S.length ttrue (cmp (isrc (mts Ht (vr 0) (ac (cn (.str ":")) an))) [none] (gn 0) ttrue (b1 Qs (ac (vr 0) an)))) (l:=W.map D.str)
  (fun i ρ S'=>∃ (g0:Option D) (ids:List Nat),ρ=[g0]/\S'[S.length]?=some ⟨false,ids.map D.lst⟩/\Ex S S'/\ids.length=i/\∀ (j id:Nat) (x:T3),ts[j]?=some x->ids[j]?=some id->S'[id]?=some ⟨false,Gkw x⟩/\id≠S.length)
  (fun i ρ S' ⟨_,_,_,_,hx,_⟩=>by
   show(S'[q]?).bind (fun c=>c.xs[i]?)=_
   rw[hx.at hq]; rfl)
  (fun i d ρ S1 hd ⟨g0,ids,e,q1,x1,l1,h1⟩=>by
   subst e
   rw[List.getElem?_map] at hd
   cases hz:W[i]? with
   | none=>rw[hz] at hd; cases hd
   | some z=>
    rw[hz] at hd; cases hd
    have hi:=(List.getElem?_eq_some_iff.mp hz).1
    obtain⟨x,hx⟩:=Qh (show i<ts.length by omega)
    have ac:=g.at' i z x hx hz
    obtain⟨S2,e2,q2,x2⟩:=Gto (S:=S1) (hW z (Ks hz)) ac (g.sp i).2 (fun p e=>hp p (Ks e))
    have qS:=x2.at q1
    have lS:S.length<S2.length:=(List.getElem?_eq_some_iff.mp qS).1
    have lS1:S.length<S1.length:=(List.getElem?_eq_some_iff.mp q1).1
    refine⟨[some (.str z)],[some (.str z)],S2.set S.length ⟨false,ids.map D.lst++[.lst (S1.length+1)]⟩,rfl,cbody_ok e2 qS (by simp; omega),some (.str z),ids++[S1.length+1],rfl,by rw[List.getElem?_set_self lS]; simp,(x1.trans x2).setq (Nat.le_refl _),by simp[l1],fun j id y hy hid=>?_⟩
    by_cases c:j<ids.length
    ·rw[List.getElem?_append_left c] at hid
     obtain⟨r1,r2⟩:=h1 j id y hy hid
     exact⟨by rw[List.getElem?_set_ne (Ne.symm r2)]; exact x2.at r1,r2⟩
    ·have hj:j=i:=by have:=(List.getElem?_eq_some_iff.mp hid).1; simp at this; omega
     subst hj
     rw[List.getElem?_append_right (show ids.length<=j by omega)] at hid
     simp[l1] at hid
     subst hid
     rw[hx] at hy; cases hy
     exact⟨by rw[List.getElem?_set_ne (by omega)]; exact q2,by omega⟩)
  (Yh q W.length).fuel 0 [none] (S++[⟨false,[]⟩]) (Nat.zero_le _) ⟨none,[],rfl,by simp[Hl],Ex.app,rfl,fun j id x _ h=>by simp at h⟩ (by simp[Yh])
 rw[List.length_map] at l1
 have cm:=Gbq (pk:=[none]) (ρ:=[some (.lst q),none]) (S:=S) (f:=isrc (vr 0)) (s:=Yh q W.length) (S1:=S) (by have:=Geo hq; simp only[List.length_map] at this; simp[this]) el
 obtain⟨S2,c2,x2⟩:=cols (S:=S1) (q:=S.length) (j:=1) (ρ:=[some (.lst q),some (.lst S.length)]) (fun k d=>match d with | .lst id=>((S1[id]?).map fun c=>c.xs.getD k .non).getD .non | d=>d) (fun k hk d hd S'' x''=>by
  obtain⟨id,hid,rfl⟩:=List.mem_map.mp hd
  obtain⟨j,hj⟩:=List.mem_iff_getElem?.mp hid
  obtain⟨x,hx⟩:=Qh (show j<ts.length by have:=(List.getElem?_eq_some_iff.mp hj).1; omega)
  have r:=(h1 j id x hx hj).1
  simp only[r,Option.map_some,Option.getD_some]
  rcases(by omega:k=0\/k=1\/k=2) with rfl | rfl | rfl
  ·exact Jb (x''.at r) (Hc (by decide) rfl)
  ·exact Jb (x''.at r) (Hc (by decide) rfl)
  ·exact Jb (x''.at r) (Hc (by decide) rfl)) q1 (by simp; omega) rfl
 have mp:∀ (k:Nat) (f:T3->D),(∀ x,(Gkw x).getD k .non=f x)->(ids.map D.lst).map (fun d=>match d with | .lst id=>((S1[id]?).map fun c=>c.xs.getD k .non).getD .non | d=>d)=ts.map f:=fun k f hf=>by
  apply List.ext_getElem?
  intro j
  rw[List.map_map,List.getElem?_map,List.getElem?_map]
  by_cases hj:j<ts.length
  ·obtain⟨x,hx⟩:=Qh hj
   obtain⟨id,hid⟩:=Qh (show j<ids.length by omega)
   rw[hx,hid]
   have r:=(h1 j id x hx hid).1
   show some (((S1[id]?).map fun c=>c.xs.getD k .non).getD .non)=some (f x)
   rw[r]
   exact congrArg some (hf x)
  ·rw[List.getElem?_eq_none (by omega),List.getElem?_eq_none (by omega)]; rfl
 rw[mp 0 (fun x=>.int x.1) (fun _=>rfl),mp 1 (fun x=>.int x.2.1) (fun _=>rfl),mp 2 (fun x=>.int x.2.2) (fun _=>rfl)] at c2
 refine⟨S2,?_,x1.trans x2⟩
 unfold Qf
 rw[Jc]
 simp only[Up]
 refine(Gr (ρ':=[some (.lst q),some (.lst S.length)]) (S':=S1) (by rw[Gab]; show bindS (cmp _ _ _ _ _ [some (.lst q),none] S) _ _=_; rw[cm]; rfl)).trans ?_
 rw[Yy,c2]
 rfl
end
def O1:List String:=["",":","::","0:0","0:0:0:0","00:0:0","0:00:0","0:0:00","-1:0:0","0:-1:0","+1:0:0","0:0:x"]
def O2:List String:=["a:0:0","1_0:0:0","0:0:0\n","\t0:0:0","1:0:0","2:0:0","9:0:0","10:0:0","0:1:0","0:1:1"]
def O3:List String:=["0:5:0","0:60:0","0:0:61","0:99:0","0:100:0","0:0:","0;0;0","0:0:0:"]
theorem Gtp:∀ s∈(O1++O2)++O3,Wq (Str.ofString s):=fun s hs=>Gkm s (by
 have:((O1++O2)++O3).all (fun s=>decide ((Str.ofString s).length<=17)&&(Str.ofString s).cps.toList.all fun c=>decide (c<128))=true:=by decide +kernel
 exact List.all_eq_true.mp this s hs)
section
variable{S:Sto}{t k q:Nat}{P:List Str}
theorem Gkx(r0:0<=r)(r1:r<30):∃ z S',Kr [.int r] S=.ok (.str z) S'/\Wq z/\Ex S S':=by
 have c1:=Hl (S:=S) (c:=⟨false,O1.map fun s=>D.str (Str.ofString s)⟩)
 obtain⟨S2,f2,x2,q2⟩:=Gv5 (S:=S++[⟨false,O1.map fun s=>D.str (Str.ofString s)⟩]) (j:=1) (ρ:=[some (.int r),some (.lst S.length)]) (A:=ac (cn (.str "a:0:0")) (ac (cn (.str "1_0:0:0")) (ac (cn (.str "0:0:0\n")) (ac (cn (.str "\t0:0:0")) (ac (cn (.str "1:0:0")) (ac (cn (.str "2:0:0")) (ac (cn (.str "9:0:0")) (ac (cn (.str "10:0:0")) (ac (cn (.str "0:1:0")) (ac (cn (.str "0:1:1")) an)))))))))) (ys:=O2.map fun s=>D.str (Str.ofString s)) c1 (by simp[O2]) rfl (by simp[O1,O2])
 obtain⟨S3,f3,x3,q3⟩:=Gv5 (S:=S2) (j:=1) (ρ:=[some (.int r),some (.lst ((S++[(⟨false,O1.map fun s=>D.str (Str.ofString s)⟩:Cell)]).length+1))]) (A:=ac (cn (.str "0:5:0")) (ac (cn (.str "0:60:0")) (ac (cn (.str "0:0:61")) (ac (cn (.str "0:99:0")) (ac (cn (.str "0:100:0")) (ac (cn (.str "0:0:")) (ac (cn (.str "0;0;0")) (ac (cn (.str "0:0:0:")) an)))))))) (ys:=O3.map fun s=>D.str (Str.ofString s)) q2 (by simp[O3]) rfl (by simp[O1,O2,O3])
 rw[<- List.map_append,<- List.map_append] at q3
 obtain⟨s,hs⟩:=Qh (l:=(O1++O2)++O3) (i:=r.toNat) (by simp[O1,O2,O3]; omega)
 have gv:DL.getD (.lst (S2.length+1)) (.int r) S3=.ok (.str (Str.ofString s)) S3:=Jb q3 (Hc r0 (by rw[List.getElem?_map,hs]; rfl))
 refine⟨Str.ofString s,S3,?_,Gtp s (Ks hs),(Ex.app.trans x2).trans x3⟩
 unfold Kr
 rw[Jc]
 simp only[Yg]
 refine(Gr (ρ':=[some (.int r),some (.lst S.length)]) (S':=S++[⟨false,O1.map fun s=>D.str (Str.ofString s)⟩]) (by simp[O1])).trans ?_
 refine(Gr (ρ':=[some (.int r),some (.lst ((S++[(⟨false,O1.map fun s=>D.str (Str.ofString s)⟩:Cell)]).length+1))]) (S':=S2) (by rw[Gab,f2]; rfl)).trans ?_
 refine(Gr (ρ':=[some (.int r),some (.lst (S2.length+1))]) (S':=S3) (by rw[Gab,f3]; rfl)).trans ?_
 simp[gv,fin]
structure Pw(S:Sto)(t k q N:Nat)(P:List Str):Prop where
 d:Tp S t k
 hq:S[q]?=some ⟨false,P.map D.str⟩
 ok:∀ p∈P,Wq p
 len:P.length<=N
 nt:q≠t
 nk:q≠k
theorem Pw.kp(h:Pw S t k q N P)(d1:Tp S1 t k)(k1:Kp S S1 t k):Pw S1 t k q N P:=⟨d1,k1.at h.hq h.nt h.nk,h.ok,h.len,h.nt,h.nk⟩
theorem Pw.ex(h:Pw S t k q N P)(x:Ex S S1):Pw S1 t k q N P:=⟨h.d.ext x,x.at h.hq,h.ok,h.len,h.nt,h.nk⟩
theorem Pw.set{i:Nat}{z:Str}(h:Pw S t k q N P)(hz:Wq z):Pw (S.set q ⟨false,(P.map D.str).set i (.str z)⟩) t k q N (P.set i z):=by
 have lq:=(List.getElem?_eq_some_iff.mp h.hq).1
 refine⟨h.d.set h.nt h.nk,by rw[List.getElem?_set_self lq,List.map_set],fun p hp=>?_,by simp; exact h.len,h.nt,h.nk⟩
 rcases List.mem_or_eq_of_mem_set hp with hp | rfl
 ·exact h.ok p hp
 ·exact hz
def Hm(t q:Nat)(w a:Int)(x4 x5 x6:Option D):Lc:=[some (.lst t),some (.lst q),some (.int w),some (.int a),x4,x5,x6]
theorem Ggl(h:Pw S t k q N P)(ha:a<P.length):∃ S' P',ss (cl 1 (Gp Kr) (ac (cl 2 (Gp Gh) (ac (vr 0) (ac (cn (.int 30)) an))) an)) (vr 1) (vr 3) Ut (Hm t q w a x4 x5 x6) S=.nx (Hm t q w a x4 x5 x6) S'/\Pw S' t k q N P'/\P'.length=P.length:=by
 obtain⟨r,S1,e1,r0,r1,d1,k1⟩:=draw (m:=30) h.d (by decide) (by decide)
 obtain⟨z,S2,e2,hz,x2⟩:=Gkx (S:=S1) r0 r1
 have h2:=(h.kp d1 k1).ex x2
 have st:=Gbp (d:=.str z) h2.hq (i:=(a:Int)) (by omega) (by simp; omega)
 rw[Int.toNat_natCast] at st
 exact⟨_,P.set a z,by simp[Hm,e1,e2,st],h2.set hz,by simp⟩
theorem Gky(h:Pw S t k q N P)(h0:0<P.length)(hN:N<=100):∃ S' P',ss (cl 1 (Gp Kr) (ac (cl 2 (Gp Gh) (ac (vr 0) (ac (cn (.int 30)) an))) an)) (vr 1) (cl 2 (Gp Gh) (ac (vr 0) (ac (b1 lenD (ac (vr 1) an)) an))) Ut (Hm t q w a x4 x5 x6) S=.nx (Hm t q w a x4 x5 x6) S'/\Pw S' t k q N P':=by
 have hl:=h.len
 obtain⟨r,S1,e1,r0,r1,d1,k1⟩:=draw (m:=30) h.d (by decide) (by decide)
 obtain⟨z,S2,e2,hz,x2⟩:=Gkx (S:=S1) r0 r1
 have h2:=(h.kp d1 k1).ex x2
 have ln:lenD [.lst q] S2=.ok (.int P.length) S2:=by simp[lenD,h2.hq]
 obtain⟨b,S3,e3,b0,b1,d3,k3⟩:=draw (m:=(P.length:Int)) h2.d (by omega) (by omega)
 have h3:=h2.kp d3 k3
 have st:=Gbp (d:=.str z) h3.hq (i:=b) (by omega) (by simp; omega)
 exact⟨_,P.set b.toNat z,by simp[Hm,e1,e2,ln,e3,st],h3.set hz⟩
theorem Gny(h:Pw S t k q N P)(ha:a<P.length)(hN:N<=100):∃ S' P',Hd (Hm t q w a x4 x5 x6) S=.nx (Hm t q w a x4 x5 x6) S'/\Pw S' t k q (N+1) P'/\P'.length=P.length+1:=by
 have hl:=h.len
 have ln:lenD [.lst q] S=.ok (.int P.length) S:=by simp[lenD,h.hq]
 obtain⟨b,S1,e1,b0,b1,d1,k1⟩:=draw (m:=(P.length:Int)+1) h.d (by omega) (by omega)
 have h1:=h.kp d1 k1
 obtain⟨y,hy⟩:=Qh ha
 have gy:DL.getD (.lst q) (.int a) S1=.ok (.str y) S1:=Jb h1.hq (Hc (by omega) (by rw[Int.toNat_natCast,List.getElem?_map,hy]; rfl))
 obtain⟨r2,x,S2,e2,p2,m2,d2,k2⟩:=Yz (xs:=[.str "0:0:0",.str "",.str "x",.str y]) (m:=4) d1 rfl (by simp) (by simp)
 have h2:=h1.kp d2 k2
 obtain⟨z,rfl,hz⟩:∃ z,x=.str z/\Wq z:=by
  simp only[List.mem_cons,List.not_mem_nil,or_false] at m2
  rcases m2 with rfl | rfl | rfl | rfl
  ·exact⟨_,rfl,Gkm _ (by decide +kernel)⟩
  ·exact⟨_,rfl,Gkm _ (by decide +kernel)⟩
  ·exact⟨_,rfl,Gkm _ (by decide +kernel)⟩
  ·exact⟨_,rfl,h.ok y (Ks hy)⟩
 have il:=isL h.hq
 have lq:=(List.getElem?_eq_some_iff.mp h2.hq).1
 have ins:Gfd (.lst q) [.int b,.str z] S2=.ok .non (S2.set q ⟨false,(P.take (min b.toNat P.length)++z::P.drop (min b.toNat P.length)).map D.str⟩):=by
  simp only[Gfd,h2.hq]
  rw[if_pos ⟨trivial,⟨b0,by omega⟩,by simp; omega⟩]
  simp[List.map_take,List.map_drop]
 refine⟨_,P.take (min b.toNat P.length)++z::P.drop (min b.toNat P.length),by simp[Hd,Hm,il,ln,e1,gy,e2,p2,ins],⟨d2.set h.nt h.nk,List.getElem?_set_self lq,fun p hp=>?_,by simp; omega,h.nt,h.nk⟩,by simp; omega⟩
 rcases List.mem_append.mp hp with hp | hp
 ·exact h.ok p (List.mem_of_mem_take hp)
 ·rcases List.mem_cons.mp hp with rfl | hp
  ·exact hz
  ·exact h.ok p (List.mem_of_mem_drop hp)
theorem Ggm{i:Int}(h0:0<=i)(h1:i<=99):Wq (ts i):=⟨by have:=Ur h0 (by omega:i<=1000); omega,fun c hc=>by have:=Gte h0 h1 c hc; omega⟩
end
section
variable{S:Sto}{t k q:Nat}{P:List Str}
theorem Gew{x y z:Str}(hx:x.length<=5/\∀ c∈x.cps.toList,c<128)(hy:y.length<=5/\∀ c∈y.cps.toList,c<128)(hz:z.length<=5/\∀ c∈z.cps.toList,c<128):Wq (Str.join ⟨#[58]⟩ [x,y,z]):=by
 refine⟨?_,join_ch (by decide) _ fun p hp=>?_⟩
 ·show(Str.join ⟨#[58]⟩ [x,y,z]).cps.toList.length<=17
  rw[SP.join_two]
  have e2:(Str.join ⟨#[58]⟩ [y,z]).cps.toList=y.cps.toList++58::z.cps.toList:=SP.join_two
  rw[e2]
  have a1:x.cps.toList.length<=5:=hx.1
  have a2:y.cps.toList.length<=5:=hy.1
  have a3:z.cps.toList.length<=5:=hz.1
  simp only[List.length_append,List.length_cons]
  omega
 ·simp only[List.mem_cons,List.not_mem_nil,or_false] at hp
  rcases hp with rfl | rfl | rfl
  ·exact hx.2
  ·exact hy.2
  ·exact hz.2
theorem Gnz(h:Pw S t k q N P)(ha:a<P.length):∃ S' P' y5 y6,sq (sa (o2 DL.getD (ls (ac (cn (.int 11)) (ac (cn (.int 62)) an))) (cl 2 (Gp Gh) (ac (vr 0) (ac (cn (.int 2)) an)))) (gn 5)) (sq (sa (cmp (ir1 (ac (cn (.int 3)) an)) [none,some 0,some 5] (gn 0) ttrue (b1 Ga9 (ac (cl 2 (Gp Gh) (ac (vr 1) (ac (vr 2) an))) an))) (gn 6)) (ss (mts Qr (cn (.str ":")) (ac (ls (ac (o2 DL.getD (ls (ac (cn (.str "0")) (ac (o2 DL.getD (vr 6) (cn (.int 0))) an))) (cl 2 (Gp Gh) (ac (vr 0) (ac (cn (.int 2)) an)))) (ac (o2 DL.getD (vr 6) (cn (.int 1))) (ac (o2 DL.getD (vr 6) (cn (.int 2))) an)))) an)) (vr 1) (vr 3) Ut)) (Hm t q w a x4 x5 x6) S=.nx (Hm t q w a x4 y5 y6) S'/\Pw S' t k q N P':=by
 have lt:=h.d.lt
 have lq:=(List.getElem?_eq_some_iff.mp h.hq).1
 obtain⟨r1,x1,S1,e1,p1,m1,d1,k1⟩:=Yz (xs:=[.int 11,.int 62]) (m:=2) h.d rfl (by simp) (by simp)
 have h1:=h.kp d1 k1
 have l1:=k1.len
 obtain⟨mo,rfl,mo0,mo1⟩:∃ mo:Int,x1=.int mo/\0<mo/\mo<=62:=by
  simp only[List.mem_cons,List.not_mem_nil,or_false] at m1
  rcases m1 with rfl | rfl
  ·exact⟨_,rfl,by decide,by decide⟩
  ·exact⟨_,rfl,by decide,by decide⟩
 obtain⟨ρ',S2,ef,g0,is,rfl,q2,l2,b2,d2,k2⟩:=Jr (nxt:=(rsrc 0 3).nxt) (g:=gn 0) (b:=cbody S1.length ttrue (b1 Ga9 (ac (cl 2 (Gp Gh) (ac (vr 1) (ac (vr 2) an))) an))) (l:=(List.range 3).map fun k:Nat=>D.int (k:Int))
  (fun i ρ S'=>∃ (g0:Option D) (is:List Int),ρ=[g0,some (.lst t),some (.int mo)]/\S'[S1.length]?=some ⟨false,is.map fun i=>D.str (ts i)⟩/\is.length=i/\(∀ i∈is,0<=i/\i<=61)/\Tp S' t k/\Kp S1 S' t k)
  (fun i _ S _=>Va) (fun i dt ρ S' hd ⟨g0,is,e,q',l',b',d',k'⟩=>by
   obtain⟨hi,rfl⟩:=Yi hd
   subst e
   obtain⟨r,S2,e2,r0,r1,d2,k2⟩:=draw (m:=mo) d' mo0 (by omega)
   have st:=Ggb (i:=r) (S:=S2) (Nat.lt_trans (m:=1001) (by omega) Gkg)
   have q2:=k2.at q' (by omega) (by omega)
   have lq2:S1.length<S2.length:=(List.getElem?_eq_some_iff.mp q2).1
   refine⟨[some (.int i),some (.lst t),some (.int mo)],[some (.int i),some (.lst t),some (.int mo)],S2.set S1.length ⟨false,(is.map fun i=>D.str (ts i))++[.str (ts r)]⟩,rfl,cbody_ok (by simp[e2,st]) q2 (by simp; omega),some (.int i),is++[r],rfl,by rw[List.getElem?_set_self lq2]; simp,by simp[l'],fun j hj=>?_,d2.set (by omega) (by omega),(k'.trans k2).setq (Nat.le_refl _)⟩
   rcases List.mem_append.mp hj with hj | hj
   ·exact b' j hj
   ·rw[List.mem_singleton.mp hj]; omega)
  (rsrc 0 3).fuel 0 [none,some (.lst t),some (.int mo)] (S1++[⟨false,[]⟩]) (Nat.zero_le _) ⟨none,[],rfl,by simp[Hl],rfl,by simp,d1.app,Kp.app⟩ (by simp[rsrc])
 have l2:is.length=3:=by simpa using l2
 obtain⟨i0,i1,i2,rfl⟩:=three l2
 have cm:=Gbq (pk:=[none,some 0,some 5]) (ρ:=Hm t q w a x4 (some (.int mo)) x6) (S:=S1) (Yj (f:=ac (cn (.int 3)) an) (n:=3) (S':=S1) (by simp) (by decide)) ef
 have h2:=h1.kp d2 k2
 have bw:∀ i∈[i0,i1,i2],(ts i).length<=5/\∀ c∈(ts i).cps.toList,c<128:=fun i hi=>by
  have:=b2 i hi
  exact⟨Ur this.1 (by omega),(Ggm this.1 (by omega)).2⟩
 have lt2:=d2.lt
 have lS2:S1.length<S2.length:=(List.getElem?_eq_some_iff.mp q2).1
 have g0':DL.getD (.lst S1.length) (.int 0) S2=.ok (.str (ts i0)) S2:=Jb q2 (Hc (by decide) rfl)
 obtain⟨r3,x3,S3,e3,p3,m3,d3,k3⟩:=Yz (xs:=[.str "0",.str (ts i0)]) (m:=2) d2 rfl (by simp) (by simp)
 have h3:=h2.kp d3 k3
 have q3:=k3.at q2 (by omega) (by omega)
 obtain⟨z0,rfl,hz0⟩:∃ z,x3=.str z/\z.length<=5/\∀ c∈z.cps.toList,c<128:=by
  simp only[List.mem_cons,List.not_mem_nil,or_false] at m3
  rcases m3 with rfl | rfl
  ·exact⟨_,rfl,by decide +kernel,(Gkm "0" (by decide +kernel)).2⟩
  ·exact⟨_,rfl,bw i0 (by simp)⟩
 have g1':DL.getD (.lst S1.length) (.int 1) S3=.ok (.str (ts i1)) S3:=Jb q3 (Hc (by decide) rfl)
 have g2':DL.getD (.lst S1.length) (.int 2) S3=.ok (.str (ts i2)) S3:=Jb q3 (Hc (by decide) rfl)
 have qj:=Hl (S:=S3) (c:=⟨false,[.str z0,.str (ts i1),.str (ts i2)]⟩)
 have jn:=Gkn (n:=5) e58 (ps:=[z0,ts i1,ts i2]) qj (fun p hp=>by
  simp only[List.mem_cons,List.not_mem_nil,or_false] at hp
  rcases hp with rfl | rfl | rfl
  ·exact hz0.1
  ·exact(bw i1 (by simp)).1
  ·exact(bw i2 (by simp)).1) (by simp)
 have h4:=h3.ex (Ex.app (c:=⟨false,[.str z0,.str (ts i1),.str (ts i2)]⟩))
 have st:=Gbp (d:=.str (Str.join ⟨#[58]⟩ [z0,ts i1,ts i2])) h4.hq (i:=(a:Int)) (by omega) (by simp; omega)
 rw[Int.toNat_natCast] at st
 refine⟨_,_,some (.int mo),some (.lst S1.length),?_,h4.set (i:=a) (Gew hz0 (bw i1 (by simp)) (bw i2 (by simp)))⟩
 rw[Wa (ρ':=Hm t q w a x4 (some (.int mo)) x6) (S1:=S1) (by simp[Hm,e1,p1])]
 rw[Wa (ρ':=Hm t q w a x4 (some (.int mo)) (some (.lst S1.length))) (S1:=S2) (by rw[Gab,cm]; rfl)]
 generalize Str.join ⟨#[58]⟩ [z0,ts i1,ts i2]=jz at *
 simp[Hm,Vb,Jx,g0',e3,p3,g1',g2',jn,st]
theorem Gkz(h:Pw S t k q N P)(ha:a<P.length)(hN:N+n<=100):∃ y4 S' P',forN (rsrc 0 n).nxt (gn 4) Hd (rsrc 0 n).fuel 0 (Hm t q w a x4 x5 x6) S=.nx (Hm t q w a y4 x5 x6) S'/\Pw S' t k q (N+n) P':=by
 obtain⟨ρ',S',ef,y4,P',rfl,h',_⟩:=Jr (nxt:=(rsrc 0 n).nxt) (g:=gn 4) (b:=Hd) (l:=(List.range n).map fun k:Nat=>D.int (k:Int))
  (fun i ρ S'=>∃ y4 P',ρ=Hm t q w a y4 x5 x6/\Pw S' t k q (N+i) P'/\a<P'.length)
  (fun i _ S _=>Va) (fun i dt ρ S1 hd ⟨y4,P',e,h1,h2⟩=>by
   obtain⟨hi,rfl⟩:=Yi hd
   subst e
   obtain⟨S2,P2,f,h3,l3⟩:=Gny (w:=w) (x4:=some (.int i)) (x5:=x5) (x6:=x6) h1 h2 (by omega)
   exact⟨Hm t q w a (some (.int i)) x5 x6,_,S2,rfl,f,some (.int i),P2,rfl,h3,by omega⟩)
  (rsrc 0 n).fuel 0 (Hm t q w a x4 x5 x6) S (Nat.zero_le _) ⟨x4,P,rfl,h,ha⟩ (by simp[rsrc])
 simp only[List.length_map,List.length_range] at h'
 exact⟨y4,S',P',ef,h'⟩
theorem Gtq(h:Pw S t k q 13 P)(h0:0<P.length):∃ q' S' P',Hq [.lst t,.lst q] S=.ok (.lst q') S'/\Pw S' t k q' 20 P':=by
 have hl:=h.len
 obtain⟨w,S1,e1,w0,w1,d1,k1⟩:=draw (m:=6) h.d (by decide) (by decide)
 have h1:=h.kp d1 k1
 have ln:lenD [.lst q] S1=.ok (.int P.length) S1:=by simp[lenD,h1.hq]
 obtain⟨a1,S2,e2,a0,a2,d2,k2⟩:=draw (m:=(P.length:Int)) h1.d (by omega) (by omega)
 have h2:=h1.kp d2 k2
 obtain⟨a,rfl⟩:∃ n:Nat,a1=n:=⟨a1.toNat,by omega⟩
 have ha:a<P.length:=by omega
 have up:∀ {S:Sto} {q:Nat} {P:List Str} {N:Nat},Pw S t k q N P->N<=20->Pw S t k q 20 P:=fun h hn=>⟨h.d,h.hq,h.ok,Nat.le_trans h.len hn,h.nt,h.nk⟩
 unfold Hq
 simp only[Jc]
 have pre:∀ g:Sv,fin (sq (sa (cl 2 (Gp Gh) (ac (vr 0) (ac (cn (.int 6)) an))) (gn 2)) (sq (sa (cl 2 (Gp Gh) (ac (vr 0) (ac (b1 lenD (ac (vr 1) an)) an))) (gn 3)) g) [some (.lst t),some (.lst q),none,none,none,none,none] S)=fin (g (Hm t q w a none none none) S2):=fun g=>by
  refine(Gr (ρ':=[some (.lst t),some (.lst q),some (.int w),none,none,none,none]) (S':=S1) (by simp[e1])).trans ?_
  exact Gr (ρ':=Hm t q w a none none none) (S':=S2) (by simp[Hm,ln,e2])
 simp only[Jz]
 rcases(by omega:w=0\/w=1\/w=2\/w=3\/w=4\/w=5) with rfl | rfl | rfl | rfl | rfl | rfl
 ·obtain⟨S3,P3,f3,h3,_⟩:=Ggl (w:=0) (x4:=none) (x5:=none) (x6:=none) h2 ha
  refine⟨q,S3,P3,(pre _).trans ?_,up h3 (by decide)⟩
  refine(Gr (ρ':=Hm t q 0 a none none none) (S':=S3) ((Xk (S1:=S2) (by simp[Hm])).trans f3)).trans ?_
  simp[Hm,fin]
 ·obtain⟨S3,P3,f3,h3,l3⟩:=Ggl (w:=1) (x4:=none) (x5:=none) (x6:=none) h2 ha
  obtain⟨S4,P4,f4,h4⟩:=Gky (w:=1) (a:=a) (x4:=none) (x5:=none) (x6:=none) h3 (by omega) (by decide)
  refine⟨q,S4,P4,(pre _).trans ?_,up h4 (by decide)⟩
  refine(Gr (ρ':=Hm t q 1 a none none none) (S':=S3) ((Xk (S1:=S2) (by simp[Hm])).trans f3)).trans ?_
  refine(Gr (ρ':=Hm t q 1 a none none none) (S':=S4) ((Xk (S1:=S3) (by simp[Hm])).trans f4)).trans ?_
  simp[Hm,fin]
 ·have sl:=Gta (lo:=none) (hi:=some (a:Int)) h2.hq
  simp only at sl
  have lt2:=d2.lt
  refine⟨S2.length,S2++[⟨false,DL.Zj (P.map D.str) none (some (a:Int))⟩],P.take a,(pre _).trans ?_,⟨d2.app,?_,fun p hp=>h.ok p (List.mem_of_mem_take hp),by simp; omega,by omega,by omega⟩⟩
  ·simp[Hm,sl,fin]
  ·rw[Hl]
   congr 2
   unfold DL.Zj
   rw[HT.Glc,HT.Gh7]
   have:min a (P.map D.str).length=a:=by simp; omega
   simp[this]
 ·obtain⟨b,S3,e3,b0,b1',d3,k3⟩:=draw (m:=3) h2.d (by decide) (by decide)
  have h3:=h2.kp d3 k3
  obtain⟨n,rfl⟩:∃ n:Nat,b=n:=⟨b.toNat,by omega⟩
  obtain⟨y4,S4,P4,f4,h4⟩:=Gkz (n:=1+n) (w:=3) (x4:=none) (x5:=none) (x6:=none) h3 ha (by omega)
  refine⟨q,S4,P4,(pre _).trans ?_,up h4 (by omega)⟩
  refine(Gr (ρ':=Hm t q 3 a none none none) (S':=S2) (by simp[Hm])).trans ?_
  refine(Gr (ρ':=Hm t q 3 a none none none) (S':=S2) (by simp[Hm])).trans ?_
  refine(Gr (ρ':=Hm t q 3 a none none none) (S':=S2) (by simp[Hm])).trans ?_
  refine(Gr (ρ':=Hm t q 3 a y4 none none) (S':=S4) ((Xk (S1:=S2) (by simp[Hm])).trans ?_)).trans ?_
  ·rw[Qp,Yj (n:=1+n) (S':=S3) (by simp[Hm,e3]) (by omega)]
   exact f4
  simp[Hm,fin]
 ·obtain⟨S4,P4,y5,y6,f4,h4⟩:=Gnz (w:=4) (x4:=none) (x5:=none) (x6:=none) h2 ha
  refine⟨q,S4,P4,(pre _).trans ?_,up h4 (by decide)⟩
  refine(Gr (ρ':=Hm t q 4 a none none none) (S':=S2) (by simp[Hm])).trans ?_
  refine(Gr (ρ':=Hm t q 4 a none none none) (S':=S2) (by simp[Hm])).trans ?_
  refine(Gr (ρ':=Hm t q 4 a none none none) (S':=S2) (by simp[Hm])).trans ?_
  refine(Gr (ρ':=Hm t q 4 a none none none) (S':=S2) (by simp[Hm])).trans ?_
  refine(Gr (ρ':=Hm t q 4 a none y5 y6) (S':=S4) ((Xk (S1:=S2) (by simp[Hm])).trans f4)).trans ?_
  simp[Hm,fin]
 ·refine⟨q,S2,P,(pre _).trans ?_,up h2 (by decide)⟩
  simp[Hm,fin]
end
def lev:Nat->Fn
 | 0=>Qo
 | n+1=>fnB 2 (Gy (lev n))
theorem Gk0{i:Int}:Kj [.int i] S=.ok (.bl true) S:=by
 simp[Kj,fnB,Vq,isD,isT,tyN]
theorem Gxf{b:Bool}:neD (.bl b) (.bl b) S=.ok (.bl false) S:=by cases b<;>rfl
def SmE(n:Nat)(S:Sto)(x y:D):Prop:=∀ S',Ex S S'->∃ S'',lev n [x,y] S'=.ok (.bl true) S''/\Ex S' S''
section
variable{S:Sto}{n:Nat}
theorem Gtr{i:Int}:SmE (n+1) S (.int i) (.int i):=fun S' _=>by
 refine⟨S',?_,Ex.refl⟩
 have h1:Vx (.int i) .non S'=.ok (.bl false) S':=rfl
 show fnB 2 (Gy (lev n)) _ S'=_
 rw[Jc]
 simp[Gy,isD,isT,tyN,Wo,h1,Gk0,fin]
theorem Gn0{f:Ev Src}{s:Src}{zs:List (D×D)}{e:Ev D}(hf:f ρ S=.ok s S)(hn:∀ k S',Ex S S'->s.nxt k S'=(zs.map fun p=>D.tup [p.1,p.2])[k]?)(hu:zs.length<s.fuel)(hp:pkS [none,none] ρ=[none,none])(hl:zs.length<100000)(he:∀ p∈zs,∀ S':Sto,Ex S S'->∃ S'',e [some p.1,some p.2] S'=.ok (.bl true) S''/\Ex S' S''):
  ∃ S',cmp f [none,none] (gt (gcons (gn 0) (gcons (gn 1) gnil)) 2) ttrue e ρ S=.ok (.lst S.length) S'/\allD [.lst S.length] S'=.ok (.bl true) S'/\Ex S S':=by
 obtain⟨ρ',S',el,g,g',hρ,hq,hx⟩:=Jr (nxt:=s.nxt) (g:=gt (gcons (gn 0) (gcons (gn 1) gnil)) 2) (b:=cbody S.length ttrue e) (l:=zs.map fun p=>D.tup [p.1,p.2])
  (fun i ρ S'=>∃ g g',ρ=[g,g']/\S'[S.length]?=some ⟨false,((List.replicate i true)).map D.bl⟩/\Ex S S')
  (fun k _ S' ⟨_,_,_,_,hx⟩=>hn k S' hx) (fun i d ρ S' hd ⟨g,g',h1,h2,h3⟩=>by
   subst h1
   rw[List.getElem?_map] at hd
   cases z:zs[i]? with
   | none=>rw[z] at hd; cases hd
   | some p=>
    rw[z] at hd; cases hd
    have hi:i<zs.length:=(List.getElem?_eq_some_iff.mp z).1
    obtain⟨S'',e1,e2⟩:=he p (Ks z) S' h3
    have q'':=e2.at h2
    have lq:S.length<S''.length:=(List.getElem?_eq_some_iff.mp q'').1
    refine⟨[some p.1,some p.2],[some p.1,some p.2],_,by simp,cbody_ok e1 q'' (by simp; omega),some p.1,some p.2,rfl,?_,(h3.trans e2).setq (Nat.le_refl _)⟩
    rw[List.getElem?_set_self lq,List.replicate_succ']
    simp) s.fuel 0 [none,none] (S++[⟨false,[]⟩]) (Nat.zero_le _) ⟨none,none,rfl,by simp[Hl],Ex.app⟩ (by simp; omega)
 refine⟨S',Gbq hf (by rw[hp]; exact el),?_,hx⟩
 rw[Go2 hq]; simp
theorem Gts{l':List D}(hl:l.length=l'.length)(h1:l.length<100000)(h:∀ (k:Nat) (d d':D),l[k]?=some d->l'[k]?=some d'->SmE n S d d'):SmE (n+1) S (.tup l) (.tup l'):=fun S' hx=>by
 obtain⟨S'',e1,e2,ex⟩:=Gn0 (f:=Gf7 (ac (vr 0) (ac (vr 1) an))) (S:=S') (s:=⟨fun k _=>zipAt l l' k,l.length+1⟩) (zs:=l.zip l') (e:=cl 2 (Gp (lev n)) (ac (vr 0) (ac (vr 1) an))) (ρ:=[some (.tup l),some (.tup l')]) (by simp[Gf7]) (fun k S1 _=>by
   rw[List.getElem?_map]
   simp only[zipAt,List.getElem?_zip_eq_some]
   cases z:l[k]? with
   | none=>
    have:(l.zip l')[k]?=none:=List.getElem?_eq_none (by have:=List.getElem?_eq_none_iff.mp z; simp; omega)
    rw[this]; rfl
   | some d=>
    have hk:=(List.getElem?_eq_some_iff.mp z).1
    obtain⟨d',z'⟩:=Qh (show k<l'.length by omega)
    have:(l.zip l')[k]?=some (d,d'):=List.getElem?_zip_eq_some.mpr ⟨z,z'⟩
    rw[z',this]; rfl) (by simp; omega) rfl (by simp; omega) (fun p hp S1 hx1=>by
   obtain⟨k,hk⟩:=List.mem_iff_getElem?.mp hp
   obtain⟨z1,z2⟩:=List.getElem?_zip_eq_some.mp hk
   obtain⟨S2,e,x⟩:=h k p.1 p.2 z1 z2 S1 (hx.trans hx1)
   exact⟨S2,by simp[e],x⟩)
 refine⟨S'',?_,ex⟩
 have ln:∀ S,lenD [.tup l] S=.ok (.int l.length) S:=fun S=>by simp[lenD]
 have ln':∀ S,lenD [.tup l'] S=.ok (.int l.length) S:=fun S=>by simp[lenD,hl]
 show fnB 2 (Gy (lev n)) _ S'=_
 rw[Jc]
 simp[Gy,isD,isT,tyN,Wo,Gxf,ln,ln',e1,e2,fin]
theorem sm_all(h1:l.length<100000)(h:∀ d∈l,SmE n S d d):SmE (n+1) S (.tup l) (.tup l):=Gts rfl h1 fun k d d' h1 h2=>by
 rw[h1] at h2; cases h2
 exact h d (Ks h1)
end
theorem Gn1{ws:List Str}(h0:ws≠[])(h1:ws.length<=13)(h2:∀ p∈ws,p.length<=17)(h3:∀ p∈ws,32∉p.cps.toList):Ht (.str (Txt.join " " ws)) [.str " "] S=.ok (.lst S.length) (S++[⟨false,ws.map D.str⟩]):=by
 have sp:Txt.split (Txt.join " " ws) (Str.ofString " ")=ws:=by
  rw[Gkk,e32]
  exact SP.split_join h0 h3
 have jl:(Txt.join (" ":Str) ws).length<=18*ws.length:=by
  rw[Gkk]
  exact Zd ws h2
 show(if Ux (Txt.join " " ws) (Str.ofString " ")=true then _ else _)=_
 rw[if_pos (SP.okSplit_of (by decide +kernel) (by omega) (by rw[sp]; omega)),sp]
def plc(mid:List Pl):List Pl:=.e::(mid++[.e])
theorem Gn2{mid:List Pl}:(plc mid).length=mid.length+2:=by simp[plc]
theorem Gtt{mid:List Pl}(h:∀ p∈mid,p.ok/\p.isE=false):∀ p∈plc mid,p.ok:=fun p hp=>by
 rcases List.mem_cons.mp hp with rfl | hp
 ·trivial
 ·rcases List.mem_append.mp hp with hp | hp
  ·exact(h p hp).1
  ·have:p=.e:=by simpa using hp
   subst this
   trivial
theorem Gn3{l:Int}(hl:0<=l/\l<=60)(hr:0<=r/\r<=60)(hf:0<=f/\f<=60):Wq (part l r f):=by
 rw[Gcq]
 exact Gew ⟨Ur hl.1 (by omega),(Ggm hl.1 (by omega)).2⟩ ⟨Ur hr.1 (by omega),(Ggm hr.1 (by omega)).2⟩ ⟨Ur hf.1 (by omega),(Ggm hf.1 (by omega)).2⟩
theorem Gex{α:Type}{g:Int->Int->Int->α}:∀ (L R F:List Int),R.length=L.length->F.length=L.length->(zp3 g L R F).length=L.length
 | [],_,_,_,_=>by cases ‹List Int›<;>rfl
 | _::L,r::R,f::F,h1,h2=>by
  have:=Gex (g:=g) L R F (by simpa using h1) (by simpa using h2)
  simp[zp3,this]
theorem Gtu{ts:List T3}(h:ts.length<1000):∃ S',Xh [stT ts,stT ts] S=.ok (.bl true) S'/\Ex S S':=by
 have row:∀ f:T3->Int,SmE 4 S (.tup (ts.map fun x=>.int (f x))) (.tup (ts.map fun x=>.int (f x))):=fun f=>sm_all (by simp; omega) fun d hd=>by
  obtain⟨x,_,rfl⟩:=List.mem_map.mp hd
  exact Gtr
 have:SmE 5 S (stT ts) (stT ts):=sm_all (by simp) fun d hd=>by
  simp only[List.mem_cons,List.not_mem_nil,or_false] at hd
  rcases hd with rfl | rfl | rfl
  ·exact row _
  ·exact row _
  ·exact row _
 exact this S Ex.refl
theorem Gey:("NoText":Str)∈ys:=by decide +kernel
theorem Gv6{f:Fn}{j:Int}(h:f ds S=.exc ⟨"NoText",some j⟩ S'):gX ys f ds S=.exc ⟨"NoText",some j⟩ S':=by simp only[gX,h,if_pos Gey]
theorem Gxg{f:Fn}(h:f ds S=.ok d S'):gX ys f ds S=.ok d S':=by simp only[gX,h]
theorem Gk1{y:Str}{fl:Option Int}{sub:List Str}(hy:y∈ys):Uu ys sub (.exn y fl) S=.ok (.bl (decide (y∈sub))) S:=if_pos hy
def Kd(q t:Nat)(cd:D)(x3 x4 x5 x6 x7 x8:Option D):Lc:=[some (.lst q),some (.lst t),some cd,x3,x4,x5,x6,x7,x8]
theorem Gtv{t qW:Nat}{cd dv:D}{j:Int}(hj:Qr (.str " ") [.lst qW] S=.ok (.str T) S)(hr:Hf [cd,.str T] S=.exc ⟨"NoText",some j⟩ S'):Yq ["NoText"] (hdl 8 Xi) Uq (Kd q t cd (some (.lst qW)) (some dv) (some .non) (some .non) (some (.bl false)) none) S=.nx (Kd q t cd (some (.lst qW)) (some dv) (some .non) (some (.int j)) (some (.bl true)) none) S':=by
 have hr:=Gv6 hr
 have at1:∀ S,atD ats (.exn "NoText" (some j)) S=.ok (.int j) S:=fun S=>by
  have m:("NoText":Str)∈ats:=by decide +kernel
  simp only[atD,if_pos m]
 have i1:∀ S,Uu ys ys (.exn "NoText" (some j)) S=.ok (.bl true) S:=fun S=>by rw[Gk1 Gey,decide_eq_true Gey]
 have i2:∀ S,Uu ys ["Dry","Falls","Full","NoBarge","NoGate","NoLine"] (.exn "NoText" (some j)) S=.ok (.bl false) S:=fun S=>by rw[Gk1 Gey,decide_eq_false (by decide +kernel)]
 have i3:∀ S,Uu ys ["NoRoom","NoSpring","Shallow","TooMany","Uneven"] (.exn "NoText" (some j)) S=.ok (.bl false) S:=fun S=>by rw[Gk1 Gey,decide_eq_false (by decide +kernel)]
 have body:Uq (Kd q t cd (some (.lst qW)) (some dv) (some .non) (some .non) (some (.bl false)) none) S=.exc ⟨"NoText",some j⟩ (Kd q t cd (some (.lst qW)) (some dv) (some .non) (some .non) (some (.bl false)) none) S':=by
  simp[Uq,Kd,Vb,Jx,hj,hr]
 have hand:Xi (Kd q t cd (some (.lst qW)) (some dv) (some .non) (some .non) (some (.bl false)) (some (.exn "NoText" (some j)))) S'=.nx (Kd q t cd (some (.lst qW)) (some dv) (some .non) (some (.int j)) (some (.bl true)) (some (.exn "NoText" (some j)))) S':=by
  simp only[Xi,Kd]
  generalize ys=yy at *
  generalize ats=aa at *
  simp[at1,i1,i2,i3]
 unfold Yq
 rw[body]
 simp only[List.mem_singleton,if_true]
 unfold hdl
 have e:(Kd q t cd (some (.lst qW)) (some dv) (some .non) (some .non) (some (.bl false)) none).set 8 (some (.exn "NoText" (some j)))=Kd q t cd (some (.lst qW)) (some dv) (some .non) (some .non) (some (.bl false)) (some (.exn "NoText" (some j))):=rfl
 simp only[e,hand]
 rfl
theorem Gn4{t qW:Nat}{cd dv:D}(hj:Qr (.str " ") [.lst qW] S=.ok (.str T) S)(hr:Hf [cd,.str T] S=.ok d S'):Yq ["NoText"] (hdl 8 Xi) Uq (Kd q t cd (some (.lst qW)) (some dv) (some .non) (some .non) (some (.bl false)) none) S=.nx (Kd q t cd (some (.lst qW)) (some dv) (some d) (some .non) (some (.bl false)) none) S':=by
 have hr:=Gxg hr
 have body:Uq (Kd q t cd (some (.lst qW)) (some dv) (some .non) (some .non) (some (.bl false)) none) S=.nx (Kd q t cd (some (.lst qW)) (some dv) (some d) (some .non) (some (.bl false)) none) S':=by
  simp[Uq,Kd,Vb,Jx,hj,hr]
 unfold Yq
 rw[body]
theorem Gtw{fz:Bool}{ns:List Int}(e:S[q]?=some ⟨fz,ns.map D.int⟩):∃ S',Gbo [.lst q] S=.ok (.bl true) S':=by
 obtain⟨t,k,S1,f1,d1⟩:=Gno e
 obtain⟨mid,gd,S2,f2,hm,h1,h2,d2⟩:=Gj9 d1
 have pl:=Gn2 (mid:=mid)
 have pok:=Gtt hm
 have f2:Qb [.lst t] S1=.ok (CD (plc mid) gd) S2:=f2
 generalize plc mid=ps at *
 obtain⟨L,R,F,S3,f3,lL,lR,lF,bL,bR,bF,d3,_,_⟩:=Gkd (ps:=ps) (gd:=gd) d2 pok (by omega) (by omega)
 have f3:Qd [.lst t,CD ps gd] S2=.ok (stD L R F) S3:=f3
 obtain⟨S4,f4,x4⟩:=Gkh (S:=S3) (L:=L) (R:=R) (F:=F) (by omega) bL bR bF
 have f4:Ji [stD L R F] S3=.ok (.str (Txt.join " " (Wm L R F))) S4:=f4
 have rl:(Wm L R F).length=L.length:=Gex L R F (by omega) (by omega)
 have rw':∀ p∈Wm L R F,Wq p:=fun p hp=>zp3_mem (fun l hl r hr f hf=>Gn3 (bL l hl) (bR r hr) (bF f hf)) hp
 have rf:∀ p∈Wm L R F,32∉p.cps.toList:=fun p hp=>zp3_mem (P:=fun p=>32∉p.cps.toList) (fun l hl r hr f hf=>Ghr) hp
 have f5:=Gn1 (S:=S4) (ws:=Wm L R F) (fun z=>by rw[z] at rl; simp at rl; omega) (by omega) (fun p hp=>(rw' p hp).1) rf
 have d4:=d3.ext x4
 have lt4:=d4.lt
 have P0:Pw (S4++[⟨false,(Wm L R F).map D.str⟩]) t k S4.length 13 (Wm L R F):=⟨d4.app,Hl,rw',by omega,by omega,by omega⟩
 generalize S4++[(⟨false,(Wm L R F).map D.str⟩:Cell)]=S5 at *
 obtain⟨q6,S6,P,f6,P6⟩:=Gtq P0 (by omega)
 have pn:=P6.len
 have f7:=Gkn (n:=17) e32 P6.hq (fun p hp=>(P6.ok p hp).1) (by omega)
 have hT:Wy (Str.join ⟨#[32]⟩ P):=⟨by have:=Zd (c:=32) P (fun p hp=>(P6.ok p hp).1); omega,join_ch (by decide) P fun p hp=>(P6.ok p hp).2⟩
 have tl:(Str.join ⟨#[32]⟩ P).length<=360:=by have:=Zd (c:=32) P (fun p hp=>(P6.ok p hp).1); omega
 generalize Str.join ⟨#[32]⟩ P=T at *
 obtain⟨_,hW,_,jT,sp⟩:=splc e32 hT
 have f8:=sp S6
 have wl:=Gfp (c:=32) (Txt.split T ⟨#[32]⟩)
 have wp:∀ z∈Txt.split T ⟨#[32]⟩,z.length<=360:=fun z hz=>by
  have:=(Gdt (c:=32) _ z hz).2
  rw[jT] at this
  omega
 rw[jT] at wl
 obtain⟨W,hWd⟩:∃ W,Txt.split T ⟨#[32]⟩=W:=⟨_,rfl⟩
 rw[hWd] at hW jT f8 wl wp
 have qW:(S6++[(⟨false,W.map D.str⟩:Cell)])[S6.length]?=some ⟨false,W.map D.str⟩:=Hl
 generalize S6++[(⟨false,W.map D.str⟩:Cell)]=S7 at *
 have jn:∀ S',Ex S7 S'->Qr (.str " ") [.lst S6.length] S'=.ok (.str T) S':=fun S' x=>by
  have:=Gkn (n:=360) e32 (x.at qW) wp (by
   have h1:360*W.length<=360*361:=Nat.mul_le_mul_left _ (by omega)
   omega)
  rw[jT] at this
  exact this
 have pre:∀ g:Sv,fin (sq (sa (cl 1 (Gp Uy) (ac (vr 0) an)) (gn 1)) (sq (sa (cl 1 (Gp Qb) (ac (vr 1) an)) (gn 2)) (sq (sa (mts Ht (cl 1 (Gp Ji) (ac (cl 2 (Gp Qd) (ac (vr 1) (ac (vr 2) an))) an)) (ac (cn (.str " ")) an)) (gn 3)) (sq (sa (mts Ht (mts Qr (cn (.str " ")) (ac (cl 2 (Gp Hq) (ac (vr 1) (ac (vr 3) an))) an)) (ac (cn (.str " ")) an)) (gn 3)) g))) [some (.lst q),none,none,none,none,none,none,none,none] S)=fin (g (Kd q t (CD ps gd) (some (.lst S6.length)) none none none none none) S7):=fun g=>by
  refine(Gr (ρ':=[some (.lst q),some (.lst t),none,none,none,none,none,none,none]) (S':=S1) (by simp[f1])).trans ?_
  refine(Gr (ρ':=Kd q t (CD ps gd) none none none none none none) (S':=S2) (by simp[Kd,f2])).trans ?_
  refine(Gr (ρ':=Kd q t (CD ps gd) (some (.lst S4.length)) none none none none none) (S':=S5) (by
   generalize stD L R F=sd at *
   generalize Txt.join (Str.ofString " ") (Wm L R F)=T0 at *
   simp[Kd,Vb,Jx,f3,f4,f5])).trans ?_
  exact Gr (ρ':=Kd q t (CD ps gd) (some (.lst S6.length)) none none none none none) (S':=S7) (by simp[Kd,Vb,Jx,f6,f7,f8])
 have mid':∀ (dv:D) (S8:Sto) (g:Sv),Hu [CD ps gd,.lst S6.length] S7=.ok dv S8->fin (sq (sa (cl 2 (Gp Hu) (ac (vr 2) (ac (vr 3) an))) (gn 4)) (sq (sa (cn .non) (gn 5)) (sq (sa (cn .non) (gn 6)) (sq (sa (cn (.bl false)) (gn 7)) g))) (Kd q t (CD ps gd) (some (.lst S6.length)) none none none none none) S7)=fin (g (Kd q t (CD ps gd) (some (.lst S6.length)) (some dv) (some .non) (some .non) (some (.bl false)) none) S8):=fun dv S8 g fw=>by
  refine(Gr (ρ':=Kd q t (CD ps gd) (some (.lst S6.length)) (some dv) none none none none) (S':=S8) (by simp[Kd,fw])).trans ?_
  refine(Gr (ρ':=Kd q t (CD ps gd) (some (.lst S6.length)) (some dv) (some .non) none none none) (S':=S8) (by simp[Kd])).trans ?_
  refine(Gr (ρ':=Kd q t (CD ps gd) (some (.lst S6.length)) (some dv) (some .non) (some .non) none none) (S':=S8) (by simp[Kd])).trans ?_
  exact Gr (ρ':=Kd q t (CD ps gd) (some (.lst S6.length)) (some dv) (some .non) (some .non) (some (.bl false)) none) (S':=S8) (by simp[Kd])
 have is1:∀ (i:Int) S,Vx (.int i) .non S=.ok (.bl false) S:=fun _ _=>rfl
 have is2:∀ S,Vx .non .non S=.ok (.bl true) S:=fun _=>rfl
 unfold Gbo
 simp only[Jc,Gaa]
 have no:∀ (j:Nat) (S8 S9:Sto),Hu [CD ps gd,.lst S6.length] S7=.ok (.int (j:Int)) S8->Ex S7 S8->Hf [CD ps gd,.str T] S8=.exc ⟨"NoText",some (j:Int)⟩ S9->∃ S',fin (Gaa ([D.lst q].map some++List.replicate (9-[D.lst q].length) none) S)=.ok (.bl true) S':=fun j S8 S9 fw x8 fr=>by
  refine⟨S9,?_⟩
  show fin (Gaa [some (.lst q),none,none,none,none,none,none,none,none] S)=_
  simp only[Gaa]
  refine(pre _).trans ((mid' _ S8 _ fw).trans ?_)
  refine(Gr (Gtv (jn S8 x8) fr)).trans ?_
  have nk:=Gk0 (i:=(j:Int)) (S:=S9)
  simp[Kd,is1,nk,fin]
 rcases Ggh (ps:=ps) (W:=W) W.length (Nat.le_refl _) with⟨ts,g,hl⟩ | ⟨ts,g,z,hz,hn⟩
 ·obtain⟨S8,fw,x8⟩:=Gnx (gd:=gd) pok hW (by omega) g qW hl
  by_cases c:W.length<ps.length
  ·rw[if_pos c] at fw
   obtain⟨S9,fr,x9⟩:=Gfr (gd:=gd) (S:=S8) pok (by omega) hT hWd hW g hl c
   have:=no W.length S8 S9 fw x8 fr
   simpa only[Gaa] using this
  ·rw[if_neg c] at fw
   have gp:=g.pl
   obtain⟨S9,fr,x9⟩:=Gkv (gd:=gd) (S:=S8) pok (by omega) hT hWd hW g hl c
   obtain⟨S10,fx,x10⟩:=Gev (S:=S9) pok hW (by omega) g (x9.at (x8.at qW)) hl
   obtain⟨S11,fs,x11⟩:=Gtu (ts:=ts) (S:=S10) (by omega)
   refine⟨S11,?_⟩
   refine(pre _).trans ((mid' _ S8 _ fw).trans ?_)
   refine(Gr (Gn4 (jn S8 x8) fr)).trans ?_
   generalize stT ts=sd at *
   simp[Kd,is2,fx,fs,fin]
 ·obtain⟨S8,fw,x8⟩:=Gtn (gd:=gd) pok hW (by omega) g qW hz hn
  obtain⟨S9,fr,x9⟩:=Gnw (gd:=gd) (S:=S8) pok (by omega) hT hWd hW g hz hn
  have:=no ts.length S8 S9 fw x8 fr
  simpa only[Gaa] using this
theorem Gez{K:PySem.W.Frag}{mp:List Addr}{H:Hp}:∀ ns:List Int,RepL K mp H (ns.map D.int) (ns.map V.int)
 | []=>RepL.nil
 | a::r=>RepL.cons rfl (Gez r)
theorem hsp(K:PySem.W.Frag)(H:Hp)(a:Addr)(ns:List Int)(hl:ns.length<=63)(hO:Only H)(hS:SqL K H a (ns.map V.int)):spD K 1 Gbo [.ref a] H (fun v _=>v=.bl true) fun _ _ _=>False:=by
 have hF:SqF K H a (ns.map V.int):=by
  rcases hS with(h | h) | h
  ·rcases hO a with z | ⟨o,xs,z⟩
   ·rw[z] at h; cases h
   ·rw[z] at h; cases h
  ·exact .inl h
  ·exact .inr h
 obtain⟨S',e⟩:=Gtw (S:=[⟨true,ns.map D.int⟩]) (q:=0) (fz:=true) (ns:=ns) rfl
 refine⟨[a],[.lst 0],[⟨true,ns.map D.int⟩],⟨rfl,fun i b c h1 h2=>?_,fun i j b ci cj h1 h2 h3 h4 h5 h6=>?_⟩,RepL.cons ⟨a,rfl,rfl⟩ RepL.nil,rfl,?_⟩
 ·cases i with
  | zero=>
   cases (Option.some.inj h1)
   cases (Option.some.inj h2)
   exact⟨ns.map V.int,Gez ns,(if_pos rfl).mpr hF⟩
  | succ i=>simp at h1
 ·cases i with
  | zero=>cases (Option.some.inj h3); cases h5
  | succ i=>simp at h1
 ·show Goc K [a] H (Gbo [.lst 0] [⟨true,ns.map D.int⟩]) _
  rw[e]
  exact fun mp' H' v _ _ h=>h
end Law
def PySem.W.Fast.tw4466015741080520417:Nat:=0
def PySem.W.Fast.tw1540438670573561248:Nat:=0
def PySem.W.Fast.tw957309966007366069:Nat:=0
def PySem.W.Fast.tw17452304718187424638:Nat:=0
def PySem.W.Fast.tw13413441702930953905:Nat:=0
def PySem.W.Fast.tw81369082790585260:Nat:=0
def PySem.W.Fast.tw8794767353596511921:Nat:=0
def PySem.W.Fast.tw795283389751188825:Nat:=0
def PySem.W.Fast.tw1959653900656615474:Nat:=0
def PySem.W.Fast.tw1384306813659707510:Nat:=0
def PySem.W.Fast.tw7792214192839900311:Nat:=0
def PySem.W.Fast.tw6785937474793064126:Nat:=0
def PySem.W.Fast.tw2536162590906445446:Nat:=0
def PySem.W.Fast.tw7838648893156696927:Nat:=0
def PySem.W.Fast.tw3241791608712336965:Nat:=0
def PySem.W.Fast.tw4031570550430424933:Nat:=0
def PySem.W.Fast.tw12689002233827263154:Nat:=0
def PySem.W.Fast.tw10183534704804310520:Nat:=0
def PySem.W.Fast.tw12573731227842957447:Nat:=0
def PySem.W.Fast.tw6301709351418420906:Nat:=0
def PySem.W.Fast.tw7222904752720552421:Nat:=0
def PySem.W.Fast.tw12418441355231000691:Nat:=0
def PySem.W.Fast.tw17367293105797205597:Nat:=0
def PySem.W.Fast.tw5384404140272093231:Nat:=0
def PySem.W.Fast.tw18443717140604410729:Nat:=0
def PySem.W.Fast.tw14659052671868921190:Nat:=0
def PySem.W.Fast.tw17931970583427862698:Nat:=0
def PySem.W.Fast.tw9391623335037545303:Nat:=0
def PySem.W.Fast.tw10573780078007615149:Nat:=0
def PySem.W.Fast.tw2858131503867881110:Nat:=0
def PySem.W.Fast.tw16287486856157750195:Nat:=0
def PySem.W.Fast.tw9714141573173929678:Nat:=0
def PySem.W.Fast.tw7794276386049548215:Nat:=0
def PySem.W.Fast.tw17953765308018785633:Nat:=0
def PySem.W.Fast.tw11083661756952669749:Nat:=0
def PySem.W.Fast.tw5138318442233581693:Nat:=0
def PySem.W.Fast.tw11365700227049296318:Nat:=0
def PySem.W.Fast.tw16923349706518481990:Nat:=0
def PySem.W.Fast.tw2448222695141749668:Nat:=0
def PySem.W.Fast.tw988963101617361258:Nat:=0
def PySem.W.Fast.tw15276016112592204063:Nat:=0
def PySem.W.Fast.tw5887934604807138748:Nat:=0
def PySem.W.Fast.tw10568551211702368535:Nat:=0
def PySem.W.Fast.tw4930248138410936077:Nat:=0
def PySem.W.Fast.tw2744917295785955992:Nat:=0
def PySem.W.Fast.tw10573690154935720725:Nat:=0
def PySem.W.Fast.tw3616607665745582518:Nat:=0
def PySem.W.Fast.tw3388376564914109448:Nat:=0
def PySem.W.Fast.tw12870484453047672098:Nat:=0
def PySem.W.Fast.tw10590285291312073499:Nat:=0
def PySem.W.Fast.tw13477238130735594424:Nat:=0
def PySem.W.Fast.tw14447459799711663952:Nat:=0
def PySem.W.Fast.tw14608256036871906849:Nat:=0
def PySem.W.Fast.tw3372013642896699678:Nat:=0
def PySem.W.Fast.tw13889826436748676706:Nat:=0
def PySem.W.Fast.tw13116024961062627899:Nat:=0
def PySem.W.Fast.tw15694599686902201286:Nat:=0
def PySem.W.Fast.tw11738985204359854269:Nat:=0
def PySem.W.Fast.tw5303955707730998348:Nat:=0
def PySem.W.Fast.tw14925258809485642664:Nat:=0
def PySem.W.Fast.tw15335092989414097268:Nat:=0
def PySem.W.Fast.tw13384431086344927853:Nat:=0
def PySem.W.Fast.tw2352004821449780309:Nat:=0
def PySem.W.Fast.tw11375227103203652810:Nat:=0
def PySem.W.Fast.tw16401569043693541809:Nat:=0
def PySem.W.Fast.tw7653349973154281296:Nat:=0
def PySem.W.Fast.tw12432912444541822456:Nat:=0
def PySem.W.Fast.tw5617976485939581184:Nat:=0
def PySem.W.Fast.tw15116417134346603443:Nat:=0
def PySem.W.Fast.tw17015097502827302072:Nat:=0
def PySem.W.Fast.tw14675500141215225090:Nat:=0
def PySem.W.Fast.tw10745050873501185546:Nat:=0
def PySem.W.Fast.tw17058200226100992825:Nat:=0
def PySem.W.Fast.tw2338428842691701991:Nat:=0
def PySem.W.Fast.tw11434268126725485690:Nat:=0
def PySem.W.Fast.tw3891109152623539572:Nat:=0
def PySem.W.Fast.tw1432223146019913283:Nat:=0
def PySem.W.Fast.tw17968268980031806552:Nat:=0
def PySem.W.Fast.tw8760526563434998236:Nat:=0
def PySem.W.Fast.tw5828470748452764635:Nat:=0
def PySem.W.Fast.tw14052034288810194014:Nat:=0
def PySem.W.Fast.tw10700029859350936095:Nat:=0
def PySem.W.Fast.tw6475747602881647149:Nat:=0
def PySem.W.Fast.tw4510236378088845891:Nat:=0
def PySem.W.Fast.tw2301365309956118428:Nat:=0
open PySem PySem.W PyProof.Rows
set_option maxHeartbeats 0 in
theorem PySem.Challenge.cw_summitwater_k82_stands_texts_refused_holds : PySem.Challenge.rw_summitwater_k82_stands_texts_refused.Holds := by
 w_on; o_law; k_head; (case hw=>w_witness2)
 k_fill
 refine L2.Gig (l:=PySem.Challenge.rw_summitwater_k82_stands_texts_refused) (n:=63) (k:=8) (x:="script") (CX:=L2.CX0) (sp:=fun K=>DL.spD K 1 Law.Gbo) rfl (by decide) rfl ⟨rfl,by decide,by decide,rfl⟩ (fun w h Y=>PySem.W.kIn_of Y) ?F Law.hsp (fun _ _ _ _ z=>z)
 case F=>
  intro w mg fa h KX G hmg
  refine' Law.Gs7 KX G hmg ?HS ?x0 ?x1 ?x2 ?x3 ?x4 ?x5 ?x6 ?x7 ?x8 ?x9 ?x10 ?x11 ?x12 ?x13 ?x14 ?x15 ?x16 ?x17 ?x18 ?x19 ?x20 ?x21 ?x22 ?x23 ?x24 ?x25 ?x26 ?x27 ?x28 ?x29 ?x30 ?x31 ?x32 ?x33 ?x34
  (case HS=>constructor<;>first | (refine' DL.Gvp ?a ?l ?c ?k; (case a=>k_is); (case l=>k_is); (case c=>k_is); (case k=>k_is)) | k_is)
  (case x0=>k_is)
  (case x1=>k_is)
  (case x2=>k_is)
  (case x3=>k_is)
  (case x4=>k_is)
  (case x5=>k_is)
  (case x6=>k_is)
  (case x7=>k_is)
  (case x8=>k_is)
  (case x9=>k_is)
  (case x10=>k_is)
  (case x11=>k_is)
  (case x12=>k_is)
  (case x13=>k_is)
  (case x14=>k_is)
  (case x15=>k_is)
  (case x16=>k_is)
  (case x17=>k_is)
  (case x18=>k_is)
  (case x19=>k_is)
  (case x20=>kernel_rfl!)
  (case x21=>kernel_rfl!)
  (case x22=>kernel_rfl!)
  (case x23=>k_is)
  (case x24=>k_is)
  (case x25=>k_is)
  (case x26=>k_is)
  (case x27=>kernel_rfl!)
  (case x28=>k_is)
  (case x29=>k_is)
  (case x30=>k_is)
  (case x31=>k_is)
  (case x32=>k_is)
  (case x33=>k_is)
  (case x34=>kernel_rfl!)
