import PyProof.Rows.All
import Wide.All
import OpenK.AllK
import Wide.FinOn
import Lean
import PyProof.EqAt
import PyProof.EqKinds
import PyProof.TupleCall
import PyProof.FactsAll.tuple_2
import PyProof.ListMulRoad
import PyProof.ExcArgsOwn
import PyProof.ZipIter
import PyProof.EnumFor
import PyProof.Rows.StrJoin2
import PyProof.FString
import PyProof.StrBlockH
import PyProof.StrWalks
import PyProof.EnumMake
import KE.KIntText
import PyProof.CallStr
import PyProof.ExcInit
import PyProof.ExcClass3
import PyProof.ExcBaseAll.ValueError
import PyProof.NsDelKeeps
import KE.KTryMore
import PyProof.Rows.CountFlat
import PyProof.Rows.KernelRfl
import PyProof.ListRange
import PyProof.InstStoreFacts
import PySem.Challenge.RW_summitwater_k32_open_rows
set_option maxHeartbeats 4000000
set_option Elab.async false
set_option linter.all false
set_option maxRecDepth 100000
namespace L2
open PySem PySem.Spec PyProof.Rows
variable{us:List Value}{x:Str}{u:Value}{a b:Addr}{P:Program}{w:World}{h base:Heap}{t' i j k:Nat}{N ps:List Str}{M:Model}{A:Around}{Q:Value->Shared->Prop}{s:Shared}{pos:Pos}{pins:List (Addr×Obj)}{K:PySem.W.Frag}{f:Value->Value->Sem Value}{tg:Expr}{op:CmpOp}{fp:List Addr}{mg:Str->Option Value}
abbrev Key:=Sum Int Str
def Grr:Key->Value->Bool
 | .inl k,v=>Value.isInt k v
 | .inr x,v=>Value.isStrOf x v
def Hab(w:World):Key->Int
 | .inl k=>hashInt k
 | .inr x=>hashStr w x
theorem Jq:∀ {k:Key} {v:Value},Grr k v=true->(∃ i t,k=Sum.inl i/\v=Value.int i t)\/(∃ x t,k=Sum.inr x/\v=Value.str x t)
 | .inl i,v,h=>by
  obtain⟨t,e⟩:=Value.isInt_shape (k:=i) (v:=v) h
  exact .inl ⟨i,t,rfl,e⟩
 | .inr x,v,h=>by
  obtain⟨t,e⟩:=Value.isStrOf_shape (x:=x) (v:=v) h
  exact .inr ⟨x,t,rfl,e⟩
theorem Gsu(a b:Int):decide ((Sum.inl a:Key)=Sum.inl b)=(a==b):=by
 by_cases e:a=b
 ·subst e; simp
 ·have h:¬ (Sum.inl a:Key)=Sum.inl b:=fun q=>e (Sum.inl.inj q)
  rw[decide_eq_false h]
  exact(beq_eq_false_iff_ne.mpr e).symm
theorem Gsv(a b:Str):decide ((Sum.inr a:Key)=Sum.inr b)=decide (a=b):=by
 by_cases e:a=b
 ·subst e; simp
 ·have h:¬ (Sum.inr a:Key)=Sum.inr b:=fun q=>e (Sum.inr.inj q)
  rw[decide_eq_false h,decide_eq_false e]
theorem Gsw(a:Int)(b:Str):decide ((Sum.inl a:Key)=Sum.inr b)=false:=decide_eq_false (fun q=>nomatch q)
theorem Gsx(a:Str)(b:Int):decide ((Sum.inr a:Key)=Sum.inl b)=false:=decide_eq_false (fun q=>nomatch q)
def Gfi(prog:Program)(w:World):PySem.KeyKind prog w Key where
 is:=Grr
 hash:=Hab w
 inj:=fun v a b ha hb=>by
  rcases Jq ha with⟨i,t,rfl,rfl⟩ | ⟨x,t,rfl,rfl⟩
  ·rcases Jq hb with⟨j,u,rfl,e⟩ | ⟨y,u,rfl,e⟩
   ·injection e with e1 _; rw[e1]
   ·exact nomatch e
  ·rcases Jq hb with⟨j,u,rfl,e⟩ | ⟨y,u,rfl,e⟩
   ·exact nomatch e
   ·injection e with e1 _; rw[e1]
 byValue:=fun k v h=>by
  rcases Jq h with⟨i,t,rfl,rfl⟩ | ⟨x,t,rfl,rfl⟩<;>rfl
 pyHash:=fun hv h=>by
  rcases Jq hv with⟨i,t,rfl,rfl⟩ | ⟨x,t,rfl,rfl⟩
  ·exact wpAny_pyHash_int h
  ·exact wpAny_pyHash_str h
 eqBool:=fun hu hv h=>by
  rcases Jq hu with⟨i,t,rfl,rfl⟩ | ⟨x,t,rfl,rfl⟩
  ·rcases Jq hv with⟨j,u,rfl,rfl⟩ | ⟨y,u,rfl,rfl⟩
   ·rw[Gsu] at h; exact wpAny_eqBool_int h
   ·rw[Gsw] at h; exact SeqAt.EqAt.int_str i t y u _ _ _ _ h
  ·rcases Jq hv with⟨j,u,rfl,rfl⟩ | ⟨y,u,rfl,rfl⟩
   ·rw[Gsx] at h; exact SeqAt.EqAt.str_int x t j u _ _ _ _ h
   ·rw[Gsv] at h; exact wpAny_eqBool_str h
 «strs»:=fun k x t v h=>by
  rcases Jq h with⟨i,u,rfl,e⟩ | ⟨y,u,rfl,e⟩
  ·exact nomatch e
  ·injection e with e1 _
   subst e1
   cases v<;>rfl
inductive V where
 | non | bl (b:Bool) | int (i:Int) | str (x:Str) | byt (b:Array UInt8) | flt (b:UInt64) | ref (a:Addr) | ty (n:String)
 deriving DecidableEq
variable{v:V}
def Hq:V->Value->Prop
 | .non,u=>u=Value.none
 | .bl b,u=>u=Value.bool b
 | .int i,u=>∃ t,u=Value.int i t
 | .str x,u=>∃ t,u=Value.str x t
 | .byt b,u=>∃ t,u=Value.bytes b t
 | .flt b,u=>∃ t,u=Value.float b t
 | .ref a,u=>u=Value.ref a
 | .ty n,u=>u=Value.type n
abbrev Vals:List V->List Value->Prop:=Paired Hq
theorem Vals.length{xs:List V}(r:Vals xs us):xs.length=us.length:=Paired.length r
theorem Vals.get:∀ {xs:List V} {us:List Value} {i:Nat} {x:V},Vals xs us->xs[i]?=some x->∃ u,us[i]?=some u/\Hq x u
 | _,_,_,_,.nil,e=>by simp at e
 | _,_,0,_,.cons r _,e=>by simp at e; subst e; exact⟨_,rfl,r⟩
 | _,_,i+1,x,.cons _ t,e=>by
  obtain⟨u,h1,h2⟩:=Vals.get (i:=i) (x:=x) t (by simpa using e)
  exact⟨u,by simpa using h1,h2⟩
theorem Vals.set{x:V}(r:Hq x u):∀ {xs:List V} {us:List Value} (i:Nat),Vals xs us->Vals (xs.set i x) (us.set i u)
 | _,_,_,.nil=>.nil
 | _,_,0,.cons _ t=>.cons r t
 | _,_,i+1,.cons q t=>.cons q (Vals.set r i t)
theorem Vals.append:∀ {xs ys:List V} {us ws:List Value},Vals xs us->Vals ys ws->Vals (xs++ys) (us++ws)
 | _,_,_,_,.nil,s=>s
 | _,_,_,_,.cons r t,s=>.cons r (Vals.append t s)
theorem Vals.take:∀ {xs:List V} {us:List Value} (n:Nat),Vals xs us->Vals (xs.take n) (us.take n)
 | _,_,0,_=>.nil
 | _,_,_+1,.nil=>.nil
 | _,_,n+1,.cons r t=>.cons r (Vals.take n t)
theorem Vals.drop:∀ {xs:List V} {us:List Value} (n:Nat),Vals xs us->Vals (xs.drop n) (us.drop n)
 | _,_,0,r=>r
 | _,_,_+1,.nil=>.nil
 | _,_,n+1,.cons _ t=>Vals.drop n t
def Gxe:Option V->Option Value->Prop
 | some v,some u=>Hq v u
 | none,none=>True
 | _,_=>False
def KV{κ:Type}:List (κ×V)->List (κ×Value)->Prop:=Paired fun(p:κ×V) (q:κ×Value)=>p.1=q.1/\Hq p.2 q.2
def kV:Key->V
 | .inl i=>.int i
 | .inr x=>.str x
inductive HO where
 | lst (xs:List V)
 | tup (xs:List V)
 | dK (kvs:List (Key×V)) | dT (kvs:List (List Key×V))
 | set (S:Int->Bool) (n:Nat)
 | ins (C dx:Addr) (fs:List (Str×V))
 | own (x:Addr)
 | xd (fs:List (Str×V))
 | met (f x:Addr)
 | rng (lo hi:Int)
 | frz (o:Obj) (u:HO)
 | tbl (ps:Array Value)
 | ext (φ:Heap->Prop)
variable{o:HO}
abbrev Hp:=Addr->Option HO
variable{H:Hp}
def upd(H:Hp)(a:Addr)(o:HO):Hp:=fun b=>if b=a then some o else H b
theorem upd_same:upd H a o a=some o:=by unfold upd; rw[if_pos rfl]
theorem Hb(h:b≠a):upd H a o b=H b:=by unfold upd; rw[if_neg h]
theorem Giv{u:HO}(h:H a=some o)(h':H b=some u)(d:o≠u):a≠b:=by
 intro e; subst e; rw[h] at h'; exact d (Option.some.inj h')
theorem Jk(h:H a=some o)(h':H b=none):a≠b:=by
 intro e; subst e; rw[h] at h'; cases h'
section
variable(P:Program)(w:World)
def Jz(H:Hp)(h:Heap)(a:Addr):HO->Prop
 | .lst xs=>xs.length<=sizeLine/\∃ (its:List Value) (n:Nat),Vals xs its/\h.get? a=some { cls:=.type "list",data:=.seq its.toArray n }
 | .tup xs=>xs.length<=sizeLine/\∃ its:List Value,Vals xs its/\IsTup h a its.toArray
 | .dK kvs=>kvs.length<=sizeLine/\(a==sysModules)=false/\∃ vs,KV kvs vs/\h.DictOf (Gfi P w) a vs
 | .dT kvs=>kvs.length<=sizeLine/\(a==sysModules)=false/\∃ xs:List (List Key×Addr×Value),
   Paired (fun(p:List Key×V) (q:List Key×Addr×Value)=>p.1=q.1/\H q.2.1=some (.tup (p.1.map kV))/\Hq p.2 q.2.2) kvs xs∧
   ∃ o es ep,h.get? a=some o/\o.ExactDict/\o.data=.dict es ep/\es.toList=xs.map (entryOfKey (tupleKind (Gfi P w)))/\(xs.map (·.1)).Nodup
 | .set S n=>h.SetOf (intKind P w) a S n
 | .ins C dx fs=>H dx=some (.own a)/\fs.length<=1000/\dx≠a/\h.get? a=some (PySem.W.instObj C dx)∧
   ∃ mA,h.Ns1 dx mA/\(∀ f,Gxe (fs.lookup f) (mA f))/\PySem.Within mA (fs.map (·.1))
 | .own _=>∃ o,h.get? a=some o
 | .xd fs=>∃ mA,h.Ns1 a mA/\∀ f,Gxe (fs.lookup f) (mA f)
 | .rng lo hi=>∃ t u v,h.get? a=some { cls:=.type "range",data:=.fields #[.int lo t,.int hi u,.int 1 v] }
 | .frz o u=>h.get? a=some o/\Jz H h a u
 | .tbl ps=>h.get? a=some { cls:=.none,data:=.fields ps }
 | .met f x=>h.get? a=some (PySem.W.methodObj (.ref f) (.ref x))
 | .ext φ=>φ h/\(∃ o,h.get? a=some o)/\∀ h1 h2:Heap,φ h1->(∀ o,h1.get? a=some o->h2.get? a=some o)->φ h2
def HOk(H:Hp)(h:Heap):Prop:=∀ a o,H a=some o->Jz P w H h a o
end
section
variable{P:Program}{w:World}{H H':Hp}{h h':Heap}{a:Addr}{o:HO}
theorem Jz.lt(x:Jz P w H h a o):a<h.objs.size:=by
 cases o with
 | lst xs=>obtain⟨_,_,_,_,e⟩:=x; exact Heap.lt_size e
 | tup xs=>obtain⟨_,_,_,p⟩:=x; exact p.lt
 | dK kvs=>obtain⟨_,_,_,_,o,_,_,e,_⟩:=x; exact Heap.lt_size e
 | dT kvs=>obtain⟨_,_,_,_,o,_,_,e,_⟩:=x; exact Heap.lt_size e
 | set S n=>obtain⟨o,_,_,_,e,_⟩:=x; exact Heap.lt_size e
 | ins C dx fs=>obtain⟨_,_,_,e,_⟩:=x; exact Heap.lt_size e
 | own y=>obtain⟨_,e⟩:=x; exact Heap.lt_size e
 | xd fs=>obtain⟨_,⟨_,_,_,e,_⟩,_⟩:=x; exact Heap.lt_size e
 | rng lo hi=>obtain⟨_,_,_,e⟩:=x; exact Heap.lt_size e
 | frz ob u=>obtain⟨e,_⟩:=x; exact Heap.lt_size e
 | tbl ps=>exact Heap.lt_size (show h.get? a=some _ from x)
 | met f y=>exact Heap.lt_size (show h.get? a=some _ from x)
 | ext φ=>obtain⟨_,⟨_,e⟩,_⟩:=x; exact Heap.lt_size e
theorem Paired.mapP{α β:Type}{F G:α->β->Prop}:∀ {l₁:List α} {l₂:List β},Paired F l₁ l₂->(∀ a b,F a b->G a b)->Paired G l₁ l₂
 | _,_,.nil,_=>.nil
 | _,_,.cons r t,f=>.cons (f _ _ r) (Paired.mapP t f)
theorem Jz.stay(x:Jz P w H h a o)(k:∀ b u,(b=a\/H b=some (.own a))->h.get? b=some u->h'.get? b=some u)
  (ho:∀ b,H b=some (.own a)->H' b=some (.own a)) (ht:∀ b xs,H b=some (.tup xs)->H' b=some (.tup xs)):Jz P w H' h' a o:=by
 induction o with
 | lst xs=>obtain⟨z,its,n,r,e⟩:=x; exact⟨z,its,n,r,k _ _ (.inl rfl) e⟩
 | tup xs=>obtain⟨z,its,r,ob,e,c⟩:=x; exact⟨z,its,r,ob,k _ _ (.inl rfl) e,c⟩
 | dK kvs=>obtain⟨z,y,vs,r,ob,es,ep,e,c⟩:=x; exact⟨z,y,vs,r,ob,es,ep,k _ _ (.inl rfl) e,c⟩
 | dT kvs=>
  obtain⟨z,y,xs,r,ob,es,ep,e,c⟩:=x
  exact⟨z,y,xs,Paired.mapP r fun p q z=>⟨z.1,ht _ _ z.2.1,z.2.2⟩,ob,es,ep,k _ _ (.inl rfl) e,c⟩
 | set S n=>obtain⟨ob,es,ep,t,e,c⟩:=x; exact⟨ob,es,ep,t,k _ _ (.inl rfl) e,c⟩
 | ins C dx fs=>
  obtain⟨d,z,ne,e,mA,⟨od,es,ep,e2,c⟩,r⟩:=x
  exact⟨ho _ d,z,ne,k _ _ (.inl rfl) e,mA,⟨od,es,ep,k _ _ (.inr d) e2,c⟩,r⟩
 | own y=>obtain⟨ob,e⟩:=x; exact⟨ob,k _ _ (.inl rfl) e⟩
 | xd fs=>obtain⟨mA,⟨od,es,ep,e,c⟩,r⟩:=x; exact⟨mA,⟨od,es,ep,k _ _ (.inl rfl) e,c⟩,r⟩
 | rng lo hi=>obtain⟨t,u,v,e⟩:=x; exact⟨t,u,v,k _ _ (.inl rfl) e⟩
 | frz ob u ih=>obtain⟨e,q⟩:=x; exact⟨k _ _ (.inl rfl) e,ih q⟩
 | tbl ps=>
  have e:h.get? a=some { cls:=.none,data:=.fields ps }:=x
  show h'.get? a=some { cls:=.none,data:=.fields ps }
  exact k a _ (.inl rfl) e
 | met f y=>
  have e:h.get? a=some (PySem.W.methodObj (.ref f) (.ref y)):=x
  show h'.get? a=some (PySem.W.methodObj (.ref f) (.ref y))
  exact k a _ (.inl rfl) e
 | ext φ=>obtain⟨p,⟨o,e⟩,st⟩:=x; exact⟨st _ _ p fun o q=>k _ _ (.inl rfl) q,⟨o,k _ _ (.inl rfl) e⟩,st⟩
theorem HOk.lt(x:HOk P w H h)(e:H a=some o):a<h.objs.size:=(x a o e).lt
theorem HOk.fresh(x:HOk P w H h)(e:h.objs.size<=a):H a=none:=by
 cases q:H a with
 | none=>rfl
 | some u=>exact absurd (Nat.lt_of_lt_of_le (x.lt q) e) (Nat.lt_irrefl _)
theorem HOk.kept(x:HOk P w H h)(k:∀ b u,h.get? b=some u->h'.get? b=some u):HOk P w H h':=fun a o e=>
 (x a o e).stay (fun b u _ q=>k b u q) (fun _ q=>q) fun _ _ q=>q
theorem HOk.laid(x:HOk P w H h)(k:∀ b u,h.get? b=some u->h'.get? b=some u)(hp:h.objs.size<=a)(new:Jz P w (upd H a o) h' a o):HOk P w (upd H a o) h':=fun b u e=>by
 have hn:=x.fresh hp
 by_cases hb:b=a
 ·subst hb; rw[upd_same] at e; cases e; exact new
 ·rw[Hb hb] at e
  exact(x b u e).stay (fun c v _ q=>k c v q) (fun c q=>by rw[Hb (Jk q hn)]; exact q) fun c xs q=>by rw[Hb (Jk q hn)]; exact q
end
def Rd(H:Hp)(a:Addr)(u:HO):Prop:=H a=some u\/∃ o,H a=some (.frz o u)
theorem Rd.ok{u:HO}(r:Rd H a u)(x:HOk P w H h):Jz P w H h a u:=by
 rcases r with r | ⟨o,r⟩
 ·exact x a u r
 ·obtain⟨_,q⟩:=x a _ r
  exact q
def Mut:Option HO->Prop
 | some (.lst _)=>True
 | some (.dK _)=>True
 | some (.dT _)=>True
 | some (.set _ _)=>True
 | some (.ins _ _ _)=>True
 | some (.ext _)=>True
 | _=>False
theorem HOk.write{h':Heap}{x e:Addr}{o':HO}(ok:HOk P w H h)(mu:Mut (H x))(he:e=x\/H e=some (.own x))(k:∀ b u,b≠e->h.get? b=some u->h'.get? b=some u)(heo:∃ u,h'.get? e=some u)(new:Jz P w (upd H x o') h' x o'):HOk P w (upd H x o') h':=fun b u q=>by
 have nown:∀ c y,H c=some (.own y)->c≠x:=fun c y r z=>by subst z; rw[r] at mu; exact mu
 have ntup:∀ c xs,H c=some (.tup xs)->c≠x:=fun c xs r z=>by subst z; rw[r] at mu; exact mu
 by_cases hb:b=x
 ·subst hb; rw[upd_same] at q; cases q; exact new
 ·rw[Hb hb] at q
  by_cases hbe:b=e
  ·have q':H b=some (.own x):=by
    rcases he with z | z
    ·exact absurd (hbe.trans z) hb
    ·rw[hbe]; exact z
   rw[q] at q'; cases q'
   obtain⟨v,hv⟩:=heo
   exact⟨v,by rw[hbe]; exact hv⟩
  ·refine(ok b u q).stay (fun c v hc r=>k c v ?_ r) (fun c r=>by rw[Hb (nown c b r)]; exact r) fun c xs r=>by rw[Hb (ntup c xs r)]; exact r
   rcases hc with rfl | hc
   ·exact hbe
   ·rintro rfl
    rcases he with z | z
    ·exact nown c b hc z
    ·rw[hc] at z; cases z; exact hb rfl
structure Un(fs ex:List Addr)(H H':Hp)(h h':Heap):Prop where
 keep:∀ b o,h.get? b=some o->H b=none->b∉fs->b∉ex->h'.get? b=some o
 slot:∀ b o,h.get? b=some o->H b=none->b∈fs->b∉ex->∃ sl,h'.get? b=some { o with slots:=sl }
 free:∀ b o,h.get? b=some o->H b=none->b∉ex->H' b=none
 there:∀ b o,h.get? b=some o->b∉ex->∃ o',h'.get? b=some o'
 tups:∀ b xs,H b=some (.tup xs)->H' b=some (.tup xs)
 frzs:∀ b o u,H b=some (.frz o u)->H' b=some (.frz o u)
 tbls:∀ b ps,H b=some (.tbl ps)->∃ more,H' b=some (.tbl (ps++more))
section
variable{fs fs' ex ex':List Addr}{H H1 H2:Hp}{h h1 h2 h':Heap}{a x e:Addr}{o:HO}
theorem Un.any(u:Un fs ex H H1 h h1){ob:Obj}(q:h.get? b=some ob)(n:H b=none)(hx:b∉ex):∃ sl,h1.get? b=some { ob with slots:=sl }:=by
 by_cases hb:b∈fs
 ·exact u.slot b ob q n hb hx
 ·exact⟨ob.slots,u.keep b ob q n hb hx⟩
theorem Un.kept(k:∀ b u,h.get? b=some u->h'.get? b=some u):Un fs ex H H h h':=
 ⟨fun b ob q _ _ _=>k b ob q,fun b ob q _ _ _=>⟨ob.slots,k b ob q⟩,fun _ _ _ n _=>n,fun b ob q _=>⟨ob,k b ob q⟩,fun _ _ q=>q,fun _ _ _ q=>q,fun _ ps q=>⟨#[],by rw[q]; simp⟩⟩
theorem Un.refl:Un fs ex H H h h:=Un.kept fun _ _ q=>q
theorem Un.laid(k:∀ b u,h.get? b=some u->h'.get? b=some u)(hp:h.objs.size<=a)(hn:H a=none):Un fs ex H (upd H a o) h h' where
 keep:=fun b u q _ _ _=>k b u q
 slot:=fun b u q _ _ _=>⟨u.slots,k b u q⟩
 free:=fun b u q n _=>by rw[Hb (Nat.ne_of_lt (Nat.lt_of_lt_of_le (Heap.lt_size q) hp))]; exact n
 there:=fun b u q _=>⟨u,k b u q⟩
 tups:=fun b xs q=>by rw[Hb (Jk q hn)]; exact q
 frzs:=fun b u xs q=>by rw[Hb (Jk q hn)]; exact q
 tbls:=fun b ps q=>⟨#[],by rw[Hb (Jk q hn),q]; simp⟩
theorem Un.write(mu:Mut (H x))(he:e=x\/H e=some (.own x))(k:∀ b u,b≠e->h.get? b=some u->h'.get? b=some u)(heo:∃ u,h'.get? e=some u):Un fs ex H (upd H x o) h h':=by
 have hx:∀ b,H b=none->b≠x:=fun b n z=>by subst z; rw[n] at mu; exact mu
 have hb:∀ b,H b=none->b≠e:=fun b n z=>by
  subst z
  rcases he with r | r
  ·exact hx b n r
  ·rw[n] at r; cases r
 have hm:∀ b u,H b=some u->¬ Mut (some u)->b≠x:=fun b u q nm z=>by subst z; rw[q] at mu; exact nm mu
 refine⟨fun b u q n _ _=>k b u (hb b n) q,fun b u q n _ _=>⟨u.slots,k b u (hb b n) q⟩,fun b u q n _=>by rw[Hb (hx b n)]; exact n,fun b u q _=>?_,
  fun b xs q=>by rw[Hb (hm b _ q fun z=>z)]; exact q,fun b u xs q=>by rw[Hb (hm b _ q fun z=>z)]; exact q,fun b ps q=>⟨#[],by rw[Hb (hm b _ q fun z=>z),q]; simp⟩⟩
 by_cases hbe:b=e
 ·subst hbe; exact heo
 ·exact⟨u,k b u hbe q⟩
end
def trk(h:Heap)(H:Hp):List Addr:=(List.range h.objs.size).filter fun a=>(H a).isSome
def Gfj(h:Heap)(H:Hp):Heap:=PySem.W.hideAll h (trk h H)
theorem Gj6(h:Heap)(H:Hp):(Gfj h H).objs.size=h.objs.size:=PySem.W.hideAll_size _ _
theorem Gk1{o:Obj}(e:h.get? b=some o)(n:H b=none):(Gfj h H).get? b=some o:=
 PySem.W.hideAll_get _ e fun hm=>by
  have q:(H b).isSome=true:=(List.mem_filter.mp hm).2
  rw[n] at q; simp at q
theorem of_hidT{o:Obj}(e:(Gfj h H).get? b=some o):h.get? b=some o/\H b=none:=by
 have e':h.get? b=some o:=PySem.W.of_hideAll (trk h H) e
 refine⟨e',?_⟩
 cases q:H b with
 | none=>rfl
 | some x=>
  have hm:b∈trk h H:=List.mem_filter.mpr ⟨List.mem_range.mpr (Heap.lt_size e'),by simp[q]⟩
  have z:(Gfj h H).get? b=none:=PySem.W.hideAll_none (trk h H) hm
  rw[z] at e; cases e
def Goo(g h:Heap)(L:Addr):List (Addr×Obj):=(List.range h.objs.size).filterMap fun a=>if a=L\/(g.get? a).isSome=true then none else(h.get? a).map fun o=>(a,o)
def rest(g h:Heap)(L d:Addr):List (Addr×Obj):=(Goo g h L).filter fun p=>decide (p.1≠d)
structure Mod(K:PySem.W.Frag)(mg:Str->Option Value)(base:Heap):Prop where
 kin:K.In base
 glob:base.Ns mainGlobals mg
 blt:∃ mb,base.Ns builtinsNs mb/\∀ x:Str,x≠"__name__"->mb x=bootBuiltins x
 nolimit:base.NoLimit
structure Cx where
 prog:Program
 w:World
 K:PySem.W.Frag
 mg:Str->Option Value
 base:Heap
 A:Around
 N:List Str
 s₀:Shared
 H₀:Hp
 env:Env
 outer:List Env
 stack:List Env
 ex:List Addr
 fn:Str->Bool
 calm:Bool
 pn:List (Addr×Obj)
 xe:Value->Shared->Prop
variable{X:Cx}
def frs(l:List Env):List Addr:=l.filterMap (·.frame)
abbrev Cx.fs(X:Cx):List Addr:=frs X.outer
def Vis(sc:Scope)(x:Str):Prop:=sc.names.lookup x=some .local\/sc.names.lookup x=some .cell\/sc.names.lookup x=some .free
def Loc(sc:Scope)(x:Str):Prop:=sc.names.lookup x=some .local\/sc.names.lookup x=some .cell
def Look(env:Env)(h:Heap)(m:Str->Option Value)(x:Str)(u:Value):Prop:=
 (env.kindOf x=some .local/\m x=some u)\/((env.kindOf x=some .cell\/env.kindOf x=some .free)/\∃ c,env.cells.lookup x=some c/\h.IsCell c (some u))
structure Cx.Ok(X:Cx):Prop where
 mod:Mod X.K X.mg X.base
 kind:X.env.scope.kind=.function
 glob:X.env.globals=mainGlobals
 blt:X.env.builtins=builtinsNs
 above:X.s₀.heap.objs.size<=X.env.locals
 inj:∀ x y c,X.env.cells.lookup x=some c->X.env.cells.lookup y=some c->x=y
 has:∀ x,(X.env.kindOf x=some .cell\/X.env.kindOf x=some .free)->∃ c,X.env.cells.lookup x=some c
 cab:∀ x c,X.fn x=true->X.env.cells.lookup x=some c->X.s₀.heap.objs.size<=c
 hd:X.calm=true->X.A.handled=none
 frames:X.A.frames=some X.stack
 stk:X.stack=X.outer\/(X.stack=X.env::X.outer/\X.env.frame=some X.env.locals)
 exf:∀ b∈X.ex,b≠X.env.locals/\∀ x c,X.env.cells.lookup x=some c->c≠b
 bs:∀ b o,X.base.get? b=some o->X.s₀.heap.get? b=some o/\X.H₀ b=none
 bsz:X.base.objs.size<=X.s₀.heap.objs.size
 noex:∀ b o,X.base.get? b=some o->b∉X.ex
 exfs:∀ b∈X.ex,b∉X.fs
 funs:X.s₀.heap.FunFrames X.base X.outer
 frf:∀ b∈X.fs,X.H₀ b=none
structure Inv(X:Cx)(pins:List (Addr×Obj))(σ:List (Option V))(H:Hp)(s:Shared):Prop where
 ok:X.Ok
 os:s.os=X.s₀.os
 bare:AllBare s.gens
 base:Un X.fs X.ex X.H₀ H X.s₀.heap s.heap
 loc:∃ m,s.heap.Ns X.env.locals m/\∀ (i:Nat) (x:Str) (v:V),X.N[i]?=some x->σ[i]?=some (some v)->Vis X.env.scope x->∃ u,Hq v u/\Look X.env s.heap m x u
 cell:∀ x c,X.env.cells.lookup x=some c->∃ v,s.heap.IsCell c v
 free:H X.env.locals=none
 freeC:∀ x c,X.env.cells.lookup x=some c->H c=none
 pin:∀ p∈X.pn++pins,s.heap.get? p.1=some p.2/\H p.1=none/\p.1≠X.env.locals/\p.1∉X.fs/\∀ v,p.2.data≠.cell v
 hok:HOk X.prog X.w H s.heap
 len:σ.length=X.N.length
section
variable{X:Cx}{pins:List (Addr×Obj)}{σ:List (Option V)}{H H':Hp}{s:Shared}{h':Heap}
theorem Cx.Ok.nofr(ok:X.Ok){o:Obj}(e:X.base.get? b=some o):b∉X.fs:=fun hb=>by
 have:=(ok.funs.mem hb).1
 rw[e] at this; cases this
theorem Inv.bs(I:Inv X pins σ H s):∀ b o,X.base.get? b=some o->s.heap.get? b=some o/\H b=none:=fun b o e=>
 ⟨I.base.keep b o (I.ok.bs b o e).1 (I.ok.bs b o e).2 (I.ok.nofr e) (I.ok.noex b o e),I.base.free b o (I.ok.bs b o e).1 (I.ok.bs b o e).2 (I.ok.noex b o e)⟩
theorem Inv.bk(I:Inv X pins σ H s):∀ b o,X.base.get? b=some o->s.heap.get? b=some o:=fun b o e=>(I.bs b o e).1
theorem Inv.mod(I:Inv X pins σ H s):Mod X.K X.mg X.base:=I.ok.mod
theorem Inv.kIn(I:Inv X pins σ H s):X.K.In s.heap:=I.ok.mod.kin.keeps I.bk
theorem Inv.lt(I:Inv X pins σ H s):X.env.locals<s.heap.objs.size:=let ⟨_,hn,_⟩:=I.loc; hn.lt
theorem Inv.sz(I:Inv X pins σ H s):X.s₀.heap.objs.size<=s.heap.objs.size:=Nat.le_trans I.ok.above (Nat.le_of_lt I.lt)
theorem Inv.nofs(I:Inv X pins σ H s)(h:s.heap.objs.size<=a):a∉X.fs:=fun hb=>by
 obtain⟨_,o,ho,_⟩:=I.ok.funs.mem hb
 exact absurd (Nat.lt_of_lt_of_le (Heap.lt_size ho) (Nat.le_trans I.sz h)) (Nat.lt_irrefl _)
theorem Inv.cne(I:Inv X pins σ H s):∀ x c,X.env.cells.lookup x=some c->c≠X.env.locals:=fun x c e z=>by
 obtain⟨v,o,ho,hd⟩:=I.cell x c e
 obtain⟨m,⟨o',es,ep,ho',hd',_⟩,_⟩:=I.loc
 rw[z,ho'] at ho; cases ho; rw[hd'] at hd; cases hd
theorem Inv.funs(I:Inv X pins σ H s):s.heap.FunFrames X.base X.outer:=by
 have all:∀ (l:List Env),(∀ b∈frs l,b∈X.fs)->X.s₀.heap.FunFrames X.base l->s.heap.FunFrames X.base l:=by
  intro l
  induction l with
  | nil=>intro _ _; trivial
  | cons env r ih=>
   intro hs hl
   obtain⟨hk,⟨L,o,hf,hn,ho,hd⟩,hr⟩:=hl
   have hL:L∈X.fs:=hs L (by unfold frs; rw[List.filterMap_cons,hf]; exact List.mem_cons_self)
   obtain⟨sl,e⟩:=I.base.slot L o ho (I.ok.frf L hL) hL fun z=>I.ok.exfs L z hL
   exact⟨hk,⟨L,_,hf,hn,e,hd⟩,ih (fun b hb=>hs b (by unfold frs; rw[List.filterMap_cons,hf]; exact List.mem_cons_of_mem _ hb)) hr⟩
 exact all X.outer (fun _ hb=>hb) I.ok.funs
theorem Inv.stack(I:Inv X pins σ H s):s.heap.FunFrames X.base X.stack:=by
 rcases I.ok.stk with e | ⟨e,hf⟩
 ·rw[e]; exact I.funs
 ·rw[e]
  obtain⟨m,hn,_⟩:=I.loc
  refine .cons (by rw[I.ok.kind]; decide) hf hn ?_ I.funs
  exact Heap.get?_none_of_le (Nat.le_trans I.ok.bsz I.ok.above)
theorem Inv.stkSub(I:Inv X pins σ H s):∀ b∈frs X.stack,b∈X.env.locals::X.fs:=fun b hb=>by
 rcases I.ok.stk with e | ⟨e,hf⟩
 ·rw[e] at hb; exact List.mem_cons_of_mem _ hb
 ·rw[e] at hb
  unfold frs at hb
  rw[List.filterMap_cons,hf] at hb
  exact hb
theorem Inv.stkFree(I:Inv X pins σ H s):∀ b∈frs X.stack,H b=none:=fun b hb=>by
 rcases List.mem_cons.mp (I.stkSub b hb) with e | hb
 ·rw[e]; exact I.free
 ·obtain⟨_,o,ho,_⟩:=I.ok.funs.mem hb
  exact I.base.free b o ho (I.ok.frf b hb) fun z=>I.ok.exfs b z hb
theorem Inv.step{g':Array GenState}{d':Drawn}{ch:List Addr}(I:Inv X pins σ H s)(hch:∀ b∈ch,(b∈X.ex\/X.s₀.heap.objs.size<=b)/\b≠X.env.locals/\(∀ x c,X.env.cells.lookup x=some c->c≠b)/\∀ p∈X.pn++pins,p.1≠b)(keep:∀ b o,b≠X.env.locals->b∉X.fs->b∉ch->s.heap.get? b=some o->H b=none->h'.get? b=some o)(slot:∀ b o,b≠X.env.locals->b∈X.fs->b∉ch->s.heap.get? b=some o->H b=none->∃ sl,h'.get? b=some { o with slots:=sl })(free:∀ b o,b∉ch->s.heap.get? b=some o->H b=none->H' b=none)(there:∀ b o,b∉ch->s.heap.get? b=some o->∃ o',h'.get? b=some o')(tups:∀ b xs,H b=some (.tup xs)->H' b=some (.tup xs))(frzs:∀ b o u,H b=some (.frz o u)->H' b=some (.frz o u))(tbls:∀ b ps,H b=some (.tbl ps)->∃ more,H' b=some (.tbl (ps++more)))(ns:∀ m,s.heap.Ns X.env.locals m->h'.Ns X.env.locals m)(hok:HOk X.prog X.w H' h')(hg:AllBare g'):
  Inv X pins σ H' { s with heap:=h',gens:=g',drawn:=d',toks:=t' }:=by
 have neL:∀ b o,X.s₀.heap.get? b=some o->b≠X.env.locals:=fun b o e=>Nat.ne_of_lt (Nat.lt_of_lt_of_le (Heap.lt_size e) I.ok.above)
 have neC:∀ b o,X.s₀.heap.get? b=some o->b∉X.ex->b∉ch:=fun b o e hx hb=>by
  rcases(hch b hb).1 with z | z
  ·exact hx z
  ·exact absurd (Nat.lt_of_lt_of_le (Heap.lt_size e) z) (Nat.lt_irrefl _)
 have cellK:∀ x c,X.env.cells.lookup x=some c->∀ v,s.heap.IsCell c v->h'.IsCell c v:=fun x c e v ⟨o,ho,hd⟩=>by
  have nch:c∉ch:=fun z=>(hch c z).2.2.1 x c e rfl
  by_cases hc:c∈X.fs
  ·obtain⟨sl,q⟩:=slot c o (I.cne x c e) hc nch ho (I.freeC x c e)
   exact⟨_,q,hd⟩
  ·exact⟨o,keep c o (I.cne x c e) hc nch ho (I.freeC x c e),hd⟩
 refine⟨I.ok,I.os,hg,⟨fun b o e n hb hx=>?_,fun b o e n hb hx=>?_,fun b o e n hx=>?_,fun b o e hx=>?_,fun b xs e=>tups b xs (I.base.tups b xs e),fun b o xs e=>frzs b o xs (I.base.frzs b o xs e),fun b ps e=>?_⟩,?_,fun x c e=>?_,?_,fun x c e=>?_,fun p hp=>?_,hok,I.len⟩
 ·exact keep b o (neL b o e) hb (neC b o e hx) (I.base.keep b o e n hb hx) (I.base.free b o e n hx)
 ·obtain⟨sl,e1⟩:=I.base.slot b o e n hb hx
  obtain⟨sl',e2⟩:=slot b _ (neL b o e) hb (neC b o e hx) e1 (I.base.free b o e n hx)
  exact⟨sl',e2⟩
 ·obtain⟨o',e1⟩:=I.base.there b o e hx
  exact free b o' (neC b o e hx) e1 (I.base.free b o e n hx)
 ·obtain⟨o',e1⟩:=I.base.there b o e hx
  exact there b o' (neC b o e hx) e1
 ·obtain⟨m1,e1⟩:=I.base.tbls b ps e
  obtain⟨m2,e2⟩:=tbls b _ e1
  exact⟨m1++m2,by rw[e2,Array.append_assoc]⟩
 ·obtain⟨m,hn,hl⟩:=I.loc
  refine⟨m,ns m hn,fun i x v e1 e2 e3=>?_⟩
  obtain⟨u,r,l⟩:=hl i x v e1 e2 e3
  refine⟨u,r,?_⟩
  rcases l with l | ⟨k,c,e,z⟩
  ·exact .inl l
  ·exact .inr ⟨k,c,e,cellK x c e _ z⟩
 ·obtain⟨v,z⟩:=I.cell x c e
  exact⟨v,cellK x c e v z⟩
 ·obtain⟨m,⟨o,_,_,ho,_⟩,_⟩:=I.loc
  exact free _ o (fun z=>(hch _ z).2.1 rfl) ho I.free
 ·obtain⟨v,o,ho,hd⟩:=I.cell x c e
  exact free c o (fun z=>(hch c z).2.2.1 x c e rfl) ho (I.freeC x c e)
 ·obtain⟨e,n,ne,nf,d⟩:=I.pin p hp
  have nch:p.1∉ch:=fun z=>(hch p.1 z).2.2.2 p hp rfl
  exact⟨keep p.1 p.2 ne nf nch e n,free p.1 p.2 nch e n,ne,nf,d⟩
theorem Inv.un(I:Inv X pins σ H s)(u:Un X.fs [] H H' s.heap h')(hok:HOk X.prog X.w H' h'):Inv X pins σ H' { s with heap:=h',toks:=t' }:=by
 obtain⟨m,⟨o,es,ep,ho,r⟩,_⟩:=id I.loc
 obtain⟨sl,hL⟩:=u.any ho I.free (by simp)
 exact I.step (g':=s.gens) (d':=s.drawn) (ch:=[]) (fun _ z=>nomatch z) (fun b o _ hb _ e n=>u.keep b o e n hb (by simp)) (fun b o _ hb _ e n=>u.slot b o e n hb (by simp)) (fun b o _ e n=>u.free b o e n (by simp)) (fun b o _ e=>u.there b o e (by simp)) u.tups u.frzs u.tbls (fun m' hm=>by
  obtain⟨o',es',ep',ho',r'⟩:=hm
  rw[ho] at ho'; cases ho'
  exact⟨_,es',ep',hL,r'⟩) hok I.bare
theorem Inv.call{g':Array GenState}{d':Drawn}{ch:List Addr}(I:Inv X pins σ H s)(u:Un (frs X.stack) ch H H' s.heap h')(hok:HOk X.prog X.w H' h')(hg:AllBare g')(hch:∀ b∈ch,(b∈X.ex\/X.s₀.heap.objs.size<=b)/\b≠X.env.locals/\(∀ x c,X.env.cells.lookup x=some c->c≠b)/\∀ p∈X.pn++pins,p.1≠b):
  Inv X pins σ H' { s with heap:=h',gens:=g',drawn:=d',toks:=t' }:=by
 obtain⟨m,⟨o,es,ep,ho,r⟩,_⟩:=id I.loc
 obtain⟨sl,hL⟩:=u.any ho I.free fun z=>(hch _ z).2.1 rfl
 exact I.step (ch:=ch) hch (fun b o hL hb hc e n=>u.keep b o e n (fun z=>(List.mem_cons.mp (I.stkSub b z)).elim hL hb) hc) (fun b o _ _ hc e n=>u.any e n hc) (fun b o hc e n=>u.free b o e n hc) (fun b o hc e=>u.there b o e hc) u.tups u.frzs u.tbls (fun m' hm=>by
  obtain⟨o',es',ep',ho',r'⟩:=hm
  rw[ho] at ho'; cases ho'
  exact⟨_,es',ep',hL,r'⟩) hok hg
theorem Inv.turned{it:Addr}(I:Inv X pins σ H s)(k:∀ b o,b≠it->s.heap.get? b=some o->h'.get? b=some o)(hn:H it=none)(hL:it≠X.env.locals)(h1:it∈X.ex\/X.s₀.heap.objs.size<=it)(h2:∀ x c,X.env.cells.lookup x=some c->c≠it)(h3:∀ p∈X.pn++pins,p.1≠it):Inv X pins σ H { s with heap:=h',toks:=t' }:=by
 have nit:∀ b u,H b=some u->b≠it:=fun b u e z=>by rw[z,hn] at e; cases e
 refine I.step (g':=s.gens) (d':=s.drawn) (ch:=[it]) (fun b hb=>?_) (fun b o _ _ hc e _=>k b o (fun z=>hc (by simp[z])) e) (fun b o _ _ hc e _=>⟨o.slots,k b o (fun z=>hc (by simp[z])) e⟩) (fun _ _ _ _ n=>n)
  (fun b o hc e=>⟨o,k b o (fun z=>hc (by simp[z])) e⟩) (fun _ _ e=>e) (fun _ _ _ e=>e) (fun b ps e=>⟨#[],by rw[e]; simp⟩) (fun m hm=>?_) (fun b u e=>?_) I.bare
 ·have e:b=it:=by simpa using hb
  subst e
  exact⟨h1,hL,h2,h3⟩
 ·obtain⟨o,es,ep,ho,r⟩:=hm
  exact⟨o,es,ep,k _ o (Ne.symm hL) ho,r⟩
 ·refine(I.hok b u e).stay (fun c v hc q=>k c v ?_ q) (fun _ q=>q) fun _ _ q=>q
  rcases hc with z | z
  ·rw[z]; exact nit b u e
  ·exact nit c _ z
theorem Inv.tok(I:Inv X pins σ H s)(t:Nat):Inv X pins σ H { s with toks:=t }:=I.un (h':=s.heap) (t':=t) Un.refl I.hok
theorem Inv.kept(I:Inv X pins σ H s)(k:∀ b u,s.heap.get? b=some u->h'.get? b=some u):Inv X pins σ H { s with heap:=h',toks:=t' }:=I.un (Un.kept k) (I.hok.kept k)
theorem Inv.laid(I:Inv X pins σ H s)(k:∀ b u,s.heap.get? b=some u->h'.get? b=some u)(hp:s.heap.objs.size<=a)(new:Jz X.prog X.w (upd H a o) h' a o):
  Inv X pins σ (upd H a o) { s with heap:=h',toks:=t' }:=I.un (Un.laid k hp (I.hok.fresh hp)) (I.hok.laid k hp new)
theorem Inv.write{x e:Addr}(I:Inv X pins σ H s)(mu:Mut (H x))(he:e=x\/H e=some (.own x))(k:∀ b u,b≠e->s.heap.get? b=some u->h'.get? b=some u)(heo:∃ u,h'.get? e=some u)(new:Jz X.prog X.w (upd H x o) h' x o):Inv X pins σ (upd H x o) { s with heap:=h',toks:=t' }:=I.un (Un.write mu he k heo) (I.hok.write mu he k heo new)
theorem Inv.pins_of{pins':List (Addr×Obj)}(I:Inv X pins σ H s)(h:∀ p∈pins',s.heap.get? p.1=some p.2/\H p.1=none/\p.1≠X.env.locals/\p.1∉X.fs/\∀ v,p.2.data≠.cell v):Inv X pins' σ H s:=
 ⟨I.ok,I.os,I.bare,I.base,I.loc,I.cell,I.free,I.freeC,fun p hp=>(List.mem_append.mp hp).elim (fun z=>I.pin p (List.mem_append_left _ z)) (h p),I.hok,I.len⟩
theorem Gc8(hN:N.Nodup)(a:N[i]?=some x)(b:N[j]?=some x):i=j:=by
 obtain⟨h1,e1⟩:=List.getElem?_eq_some_iff.mp a
 obtain⟨h2,e2⟩:=List.getElem?_eq_some_iff.mp b
 exact(List.getElem_inj hN).mp (e1.trans e2.symm)
theorem Ge1{E:Value->Shared->Prop}{Q:Unit->Shared->Prop}(I:Inv X pins σ H s)(hN:X.N.Nodup)(hi:X.N[i]?=some x)(hx:Loc X.env.scope x)(r:Hq v u)(h:∀ s',Inv X pins (σ.set i (some v)) H s'->(∃ a,Heap.SameBut a s.heap s'.heap/\(a=X.env.locals\/X.env.cells.lookup x=some a))->Q () s')(hf:X.fn x=true\/X.env.scope.names.lookup x=some .local:=by first | exact .inl rfl | exact .inr rfl | assumption):wpAny M A (storeName X.env x u) Q E s:=by
 obtain⟨m,hn,hl⟩:=id I.loc
 have hcls:(X.env.scope.kind==.class||(X.env.scope.kind==.module&&X.env.locals != X.env.globals))=false:=by rw[I.ok.kind]; rfl
 have hiσ:i<σ.length:=by rw[I.len]; exact(List.getElem?_eq_some_iff.mp hi).1
 have cne:=I.cne
 have tracked:∀ {a:Addr} {h':Heap},(∃ o,s.heap.get? a=some o/\H a=none)->Heap.SameBut a s.heap h'->HOk X.prog X.w H h':=fun{a h'} ha hs b ob e=>by
  obtain⟨_,_,hfree⟩:=ha
  refine(I.hok b ob e).stay (fun c w' hc q=>(hs.2 c ?_).trans q) (fun _ q=>q) fun _ _ q=>q
  rintro rfl
  rcases hc with rfl | hc
  ·rw[hfree] at e; cases e
  ·rw[hfree] at hc; cases hc
 rcases hx with hk | hk
 ·refine wpAny_storeName_local hk hn (fun h' hn' hs=>?_) hcls
  obtain⟨oL,_,_,hoL,_⟩:=id hn
  refine h _ ⟨I.ok,I.os,I.bare,⟨fun b o e n hb hx=>?_,fun b o e n hb hx=>?_,I.base.free,fun b o e hx=>?_,I.base.tups,I.base.frzs,I.base.tbls⟩,⟨_,hn',fun j y v' e1 e2 e3=>?_⟩,fun y c e=>?_,I.free,I.freeC,fun p hp=>?_,tracked ⟨oL,hoL,I.free⟩ hs,by simpa using I.len⟩ ⟨_,hs,.inl rfl⟩
  ·exact(hs.2 b (Nat.ne_of_lt (Nat.lt_of_lt_of_le (Heap.lt_size e) I.ok.above))).trans (I.base.keep b o e n hb hx)
  ·obtain⟨sl,e1⟩:=I.base.slot b o e n hb hx
   exact⟨sl,(hs.2 b (Nat.ne_of_lt (Nat.lt_of_lt_of_le (Heap.lt_size e) I.ok.above))).trans e1⟩
  ·obtain⟨o',e1⟩:=I.base.there b o e hx
   exact⟨o',(hs.2 b (Nat.ne_of_lt (Nat.lt_of_lt_of_le (Heap.lt_size e) I.ok.above))).trans e1⟩
  ·by_cases hj:j=i
   ·subst hj
    rw[hi] at e1; cases e1
    rw[List.getElem?_set_self hiσ] at e2
    cases e2
    exact⟨u,r,.inl ⟨hk,by simp⟩⟩
   ·rw[List.getElem?_set_ne (Ne.symm hj)] at e2
    obtain⟨u',r',q⟩:=hl j y v' e1 e2 e3
    refine⟨u',r',?_⟩
    rcases q with⟨k,e⟩ | ⟨k,c,e,z⟩
    ·refine .inl ⟨k,?_⟩
     have:y≠x:=fun e=>hj (Gc8 hN e1 (e▸hi))
     simp[this,e]
    ·exact .inr ⟨k,c,e,z.sameBut hs (cne y c e)⟩
  ·obtain⟨w',z⟩:=I.cell y c e
   exact⟨w',z.sameBut hs (cne y c e)⟩
  ·obtain⟨e,n,ne,nf,d⟩:=I.pin p hp
   exact⟨(hs.2 p.1 ne).trans e,n,ne,nf,d⟩
 ·have hfn:X.fn x=true:=by
   rcases hf with z | z
   ·exact z
   ·rw[z] at hk; cases hk
  obtain⟨c,hc⟩:=I.ok.has x (.inl hk)
  obtain⟨w',z⟩:=I.cell x c hc
  refine wpAny_storeName_cell I.ok.kind hk hc z (fun h' hc' hs=>?_)
  obtain⟨oc,hoc,hocd⟩:=id z
  refine h { s with heap:=h' } ⟨I.ok,I.os,I.bare,⟨fun b o e n hb hx=>?_,fun b o e n hb hx=>?_,I.base.free,fun b o e hx=>?_,I.base.tups,I.base.frzs,I.base.tbls⟩,⟨m,hn.sameBut hs (Ne.symm (cne x c hc)),fun j y v' e1 e2 e3=>?_⟩,fun y c' e=>?_,I.free,I.freeC,fun p hp=>?_,tracked ⟨oc,hoc,I.freeC x c hc⟩ hs,by simpa using I.len⟩ ⟨c,hs,.inr hc⟩
  ·exact(hs.2 b (Nat.ne_of_lt (Nat.lt_of_lt_of_le (Heap.lt_size e) (I.ok.cab x c hfn hc)))).trans (I.base.keep b o e n hb hx)
  ·obtain⟨sl,e1⟩:=I.base.slot b o e n hb hx
   exact⟨sl,(hs.2 b (Nat.ne_of_lt (Nat.lt_of_lt_of_le (Heap.lt_size e) (I.ok.cab x c hfn hc)))).trans e1⟩
  ·obtain⟨o',e1⟩:=I.base.there b o e hx
   exact⟨o',(hs.2 b (Nat.ne_of_lt (Nat.lt_of_lt_of_le (Heap.lt_size e) (I.ok.cab x c hfn hc)))).trans e1⟩
  ·by_cases hj:j=i
   ·subst hj
    rw[hi] at e1; cases e1
    rw[List.getElem?_set_self hiσ] at e2
    cases e2
    exact⟨u,r,.inr ⟨.inl hk,c,hc,hc'⟩⟩
   ·rw[List.getElem?_set_ne (Ne.symm hj)] at e2
    obtain⟨u',r',q⟩:=hl j y v' e1 e2 e3
    refine⟨u',r',?_⟩
    rcases q with q | ⟨k,c',e,z'⟩
    ·exact .inl q
    ·refine .inr ⟨k,c',e,z'.sameBut hs ?_⟩
     rintro rfl
     exact hj (Gc8 hN e1 (I.ok.inj _ _ _ e hc▸hi))
  ·by_cases hcc:c'=c
   ·subst hcc; exact⟨_,hc'⟩
   ·obtain⟨w2,z2⟩:=I.cell y c' e
    exact⟨w2,z2.sameBut hs hcc⟩
  ·obtain⟨e,n,ne,nf,d⟩:=I.pin p hp
   refine⟨(hs.2 p.1 ?_).trans e,n,ne,nf,d⟩
   intro q
   rw[q,hoc] at e
   have q':oc=p.2:=Option.some.inj e
   exact d w' (by rw[<- q']; exact hocd)
theorem Xx{E:Value->Shared->Prop}{Q:Unit->Shared->Prop}(I:Inv X pins σ H s)(hN:X.N.Nodup)(hi:X.N[i]?=some x)(hx:Loc X.env.scope x)(r:Hq v u)(h:∀ s',Inv X pins (σ.set i (some v)) H s'->Q () s')(hf:X.fn x=true\/X.env.scope.names.lookup x=some .local:=by first | exact .inl rfl | exact .inr rfl | assumption):wpAny M A (storeName X.env x u) Q E s:=
 Ge1 I hN hi hx r (fun s' I' _=>h s' I') hf
theorem Inv.call'{s':Shared}{ch:List Addr}(I:Inv X pins σ H s)(ho:s'.os=s.os)(u:Un (frs X.stack) ch H H' s.heap s'.heap)(hok:HOk X.prog X.w H' s'.heap)(hg:AllBare s'.gens)
  (hch:∀ b∈ch,(b∈X.ex\/X.s₀.heap.objs.size<=b)/\b≠X.env.locals/\(∀ x c,X.env.cells.lookup x=some c->c≠b)/\∀ p∈X.pn++pins,p.1≠b):Inv X pins σ H' s':=by
 obtain⟨h',g',d',t',o'⟩:=s'
 have e:o'=s.os:=ho
 subst e
 exact I.call (g':=g') (t':=t') (d':=d') u hok hg hch
end
abbrev XK:=Value->Option Addr->Hp->Prop
abbrev St:=List (Option V)
variable{σ:St}
abbrev VK:=V->Hp->Prop
abbrev TE:=St->Hp->VK->Prop
variable{te:TE}
abbrev TT:=St->Hp->(Bool->Hp->Prop)->Prop
abbrev TA:=St->Hp->(List V->Hp->Prop)->Prop
structure Ends where
 nx:St->Hp->Prop
 rt:VK
 bk:St->Hp->Prop:=fun _ _=>False
 ct:St->Hp->Prop:=fun _ _=>False
abbrev TS:=Ends->St->Hp->Prop
def EP(X:Cx)(pins:List (Addr×Obj))(σ:St)(Q:VK)(u:Value)(s':Shared):Prop:=∃ v H',Inv X pins σ H' s'/\Hq v u/\Q v H'
def TP(X:Cx)(pins:List (Addr×Obj))(σ:St)(Q:Bool->Hp->Prop)(b:Bool)(s':Shared):Prop:=∃ H',Inv X pins σ H' s'/\Q b H'
def AP(X:Cx)(pins:List (Addr×Obj))(σ:St)(Q:List V->Hp->Prop)(us:List Value)(s':Shared):Prop:=∃ vs H',Inv X pins σ H' s'/\Vals vs us/\Q vs H'
def SP(X:Cx)(pins:List (Addr×Obj))(D:Ends)(f:Flow)(s':Shared):Prop:=
 match f with
 | .next=>∃ σ' H',Inv X pins σ' H' s'/\D.nx σ' H'
 | .brk=>∃ σ' H',Inv X pins σ' H' s'/\D.bk σ' H'
 | .cont=>∃ σ' H',Inv X pins σ' H' s'/\D.ct σ' H'
 | .ret u=>∃ v σ' H',Inv X pins σ' H' s'/\Hq v u/\D.rt v H'
def PE(X:Cx)(e:Expr)(t:TE):Prop:=
 ∀ (pins:List (Addr×Obj)) (s:Shared) (σ:St) (H:Hp) (Q:VK),Inv X pins σ H s->t σ H Q->wpAny (model X.prog X.w) X.A (eval e X.env) (EP X pins σ Q) X.xe s
def PT(X:Cx)(e:Expr)(t:TT):Prop:=
 ∀ (pins:List (Addr×Obj)) (s:Shared) (σ:St) (H:Hp) (Q:Bool->Hp->Prop),Inv X pins σ H s->t σ H Q->wpAny (model X.prog X.w) X.A (isTrue e X.env (eval e X.env)) (TP X pins σ Q) X.xe s
def PW(X:Cx)(e:Expr)(t:TT):Prop:=
 ∀ (whole:Sem Value) (pins:List (Addr×Obj)) (s:Shared) (σ:St) (H:Hp) (Q:Bool->Hp->Prop),Inv X pins σ H s->t σ H Q->wpAny (model X.prog X.w) X.A (isTrue e X.env whole) (TP X pins σ Q) X.xe s
theorem PW.pt{e:Expr}{t:TT}(h:PW X e t):PT X e t:=h _
def PA(X:Cx)(es:List Expr)(t:TA):Prop:=
 ∀ (pos:Pos) (pins:List (Addr×Obj)) (s:Shared) (σ:St) (H:Hp) (Q:List V->Hp->Prop),Inv X pins σ H s->t σ H Q->wpAny (model X.prog X.w) X.A (spliced (backTo pos (starEach es X.env))) (AP X pins σ Q) X.xe s
def PS(X:Cx)(st:Stmt)(t:TS):Prop:=
 ∀ (pins:List (Addr×Obj)) (s:Shared) (σ:St) (H:Hp) (D:Ends),Inv X pins σ H s->t D σ H->wpAny (model X.prog X.w) X.A (exec st X.env) (SP X pins D) X.xe s
def PSs(X:Cx)(st:List Stmt)(t:TS):Prop:=
 ∀ (pins:List (Addr×Obj)) (s:Shared) (σ:St) (H:Hp) (D:Ends),Inv X pins σ H s->t D σ H->wpAny (model X.prog X.w) X.A (execs st X.env) (SP X pins D) X.xe s
theorem thn{α:Type}{t:Sem α}{Q Q':α->Shared->Prop}{E:Value->Shared->Prop}(h:wpAny M A t Q E s)(hQ:∀ a s,Q a s->Q' a s):wpAny M A t Q' E s:=wpAny_mono h hQ fun _ _ x=>x
section
variable{X:Cx}
def Gj7(i:Nat):TE:=fun σ H Q=>∃ v,σ[i]?=some (some v)/\Q v H
def tC(v:V):TE:=fun _ H Q=>Q v H
theorem Yg(hN:X.N[i]?=some x)(hv:Vis X.env.scope x)(hd:(x==("__debug__":Str))=false:=by decide)(hcd:(x==("__classdict__":Str))=false:=by decide):PE X (.Name x pos) (Gj7 i):=by
 intro pins s σ H Q I h
 obtain⟨v,e,h⟩:=h
 obtain⟨m,hn,hl⟩:=I.loc
 obtain⟨u,r,l⟩:=hl i x v hN e hv
 have fin:EP X pins σ Q u s:=⟨v,H,I,r,h⟩
 rcases l with⟨hk,hm⟩ | ⟨hk,c,hc,hcell⟩
 ·exact wpAny_Name (wpAny_loadName_local I.ok.kind hk hn hm fin) hd
 ·rcases hk with hk | hk
  ·exact wpAny_Name (wpAny_loadName_cell I.ok.kind hk hc hcell fin) hd
  ·exact wpAny_Name (wpAny_loadName_free I.ok.kind hk hc hcell fin hcd) hd
theorem Gsy{i j pos}:PE X (.Constant (.int i) j pos) (tC (.int i)):=fun _ _ _ H _ I h=>wpAny_Constant_int ⟨.int i,H,I.tok _,⟨_,rfl⟩,h⟩
theorem Gxf{b j pos}:PE X (.Constant (.bool b) j pos) (tC (.bl b)):=fun _ _ _ H _ I h=>Constant_bool ⟨.bl b,H,I,rfl,h⟩
theorem Gsz{j pos}:PE X (.Constant .none j pos) (tC .non):=fun _ _ _ H _ I h=>Constant_none ⟨.non,H,I,rfl,h⟩
theorem Gk2{x j pos}:PE X (.Constant (.str x) j pos) (tC (.str x)):=fun _ _ _ H _ I h=>Calls.Constant_str ⟨.str x,H,I.tok _,⟨_,rfl⟩,h⟩
def Gl(X:Cx)(x:Str):Prop:=X.env.kindOf x=some .globalImplicit
theorem Yh{E:Value->Shared->Prop}(I:Inv X pins σ H s)(hg:Gl X x)(hm:X.mg x=some u)(h:Q u s)(hd:(x==("__debug__":Str))=false:=by decide):wpAny (model X.prog X.w) X.A (eval (.Name x pos) X.env) Q E s:=
 Calls.Name_function_global I.ok.kind hg (Calls.loadGlobal_global (by rw[I.ok.glob]; exact I.mod.glob.keeps I.bk) hm h) hd
theorem Ga0{E:Value->Shared->Prop}(I:Inv X pins σ H s)(hg:Gl X x)(hm:X.mg x=none)(hv:bootBuiltins x=some u)(h:Q u s)(hn:x≠"__name__":=by decide)(hd:(x==("__debug__":Str))=false:=by decide):wpAny (model X.prog X.w) X.A (eval (.Name x pos) X.env) Q E s:=by
 obtain⟨mb,h1,h2⟩:=I.mod.blt
 exact Calls.Name_function_global I.ok.kind hg (Calls.loadGlobal_builtin (by rw[I.ok.glob]; exact I.mod.glob.keeps I.bk) hm (by rw[I.ok.blt]; exact h1.keeps I.bk) ((h2 x hn).trans hv) h) hd
theorem Gfk(hg:Gl X x)(hm:X.mg x=some u)(r:Hq v u)(hd:(x==("__debug__":Str))=false:=by decide):PE X (.Name x pos) (tC v):=
 fun _ _ _ H _ I h=>Yh I hg hm ⟨v,H,I,r,h⟩ hd
theorem Giw(hg:Gl X x)(hm:X.mg x=none)(hv:bootBuiltins x=some u)(r:Hq v u)(hn:x≠"__name__":=by decide)(hd:(x==("__debug__":Str))=false:=by decide):PE X (.Name x pos) (tC v):=
 fun _ _ _ H _ I h=>Ga0 I hg hm hv ⟨v,H,I,r,h⟩ hn hd
variable{a b:Expr}{ta tb:TE}{pos:Pos}
variable{tA tB':TT}{rest:List Expr}
def Hac(t u:TT):TT:=fun σ H Q=>t σ H fun c H1=>if c=true then u σ H1 Q else Q false H1
def tOr(t u:TT):TT:=fun σ H Q=>t σ H fun c H1=>if c=true then Q true H1 else u σ H1 Q
def Had(t:TT):TT:=fun σ H Q=>t σ H fun c H1=>Q (!c) H1
theorem Gop(ha:PT X a tA):PW X (.BoolOp .And [a] pos) tA:=by
 intro wh pins s σ H Q I h
 refine isTrue_and (thn (ha pins s σ H Q I h) fun c s1 e=>?_)
 cases c with
 | true=>exact isTrue_and_nil e
 | false=>exact e
theorem Gs0(ha:PT X a tA):PW X (.BoolOp .Or [a] pos) tA:=by
 intro wh pins s σ H Q I h
 refine isTrue_or (thn (ha pins s σ H Q I h) fun c s1 e=>?_)
 cases c with
 | false=>exact isTrue_or_nil e
 | true=>exact e
theorem Gs1(ha:PT X a tA)(hb:PW X (.BoolOp .And (b::rest) pos) tB'):PW X (.BoolOp .And (a::b::rest) pos) (Hac tA tB'):=by
 intro wh pins s σ H Q I h
 refine isTrue_and (thn (ha pins s σ H _ I h) fun c s1 ⟨H1,I1,q1⟩=>?_)
 cases c with
 | true=>exact hb wh pins s1 σ H1 Q I1 q1
 | false=>exact⟨H1,I1,q1⟩
theorem Gxg(ha:PT X a tA)(hb:PW X (.BoolOp .Or (b::rest) pos) tB'):PW X (.BoolOp .Or (a::b::rest) pos) (tOr tA tB'):=by
 intro wh pins s σ H Q I h
 refine isTrue_or (thn (ha pins s σ H _ I h) fun c s1 ⟨H1,I1,q1⟩=>?_)
 cases c with
 | true=>exact⟨H1,I1,q1⟩
 | false=>exact hb wh pins s1 σ H1 Q I1 q1
theorem Gs2(ha:PT X a tA):PT X (.UnaryOp .Not a pos) (Had tA):=by
 intro pins s σ H Q I h
 exact isTrue_not (ha pins s σ H (fun c H1=>Q (!c) H1) I h)
def Gxh(ta tb:TE):TE:=fun σ H Q=>ta σ H fun x H1=>∃ c,x=.bl c/\if c=true then tb σ H1 Q else Q (.bl false) H1
def Gxi(ta:TE):TE:=fun σ H Q=>ta σ H fun x H1=>∃ c,x=.bl c/\Q (.bl (!c)) H1
theorem Gs3{op}{t:TE}(h:PE X a t):PE X (.BoolOp op [a] pos) t:=fun pins s σ H Q I hw=>BoolOp_one (h pins s σ H Q I hw)
theorem Gs4(ha:PE X a ta)(hb:PE X (.BoolOp .And (b::rest) pos) tb):PE X (.BoolOp .And (a::b::rest) pos) (Gxh ta tb):=by
 intro pins s σ H Q I h
 refine BoolOp_and (thn (ha pins s σ H _ I h) fun v s1 ⟨x,H1,I1,r1,q1⟩=>?_)
 obtain⟨c,rfl,q1⟩:=q1
 cases r1
 refine wpAny_truthy_bool ?_
 cases c with
 | true=>exact hb pins s1 σ H1 Q I1 q1
 | false=>exact⟨.bl false,H1,I1,rfl,q1⟩
theorem Gs5(ha:PE X a ta):PE X (.UnaryOp .Not a pos) (Gxi ta):=by
 intro pins s σ H Q I h
 refine UnaryOp_ (thn (ha pins s σ H _ I h) fun v s1 ⟨x,H1,I1,r1,q1⟩=>?_)
 obtain⟨c,rfl,q1⟩:=q1
 cases r1
 exact not_of (wpAny_truthy_bool ⟨.bl (!c),H1,I1,rfl,q1⟩)
def tIf(t:TT)(ta tb:TE):TE:=fun σ H Q=>t σ H fun c H1=>if c=true then ta σ H1 Q else tb σ H1 Q
theorem Gk3{c:Expr}(hc:PT X c tA)(ha:PE X a ta)(hb:PE X b tb):PE X (.IfExp c a b pos) (tIf tA ta tb):=by
 intro pins s σ H Q I h
 refine wpAny_IfExp (thn (hc pins s σ H _ I h) fun d s1 ⟨H1,I1,q1⟩=>?_)
 cases d with
 | true=>exact ha pins s1 σ H1 Q I1 q1
 | false=>exact hb pins s1 σ H1 Q I1 q1
end
def SqL(K:PySem.W.Frag)(H:Hp)(a:Addr)(xs:List V):Prop:=
 Rd H a (.lst xs)∨
  ∃ (o:Obj) (its:Array Value) (n:Nat),K.lookup a=some o/\o.cls=.type "list"/\o.dict=none/\o.data=.seq its n/\its.size<=sizeLine/\Vals xs its.toList
def SqT(K:PySem.W.Frag)(H:Hp)(a:Addr)(xs:List V):Prop:=
 Rd H a (.tup xs)∨
  ∃ (o:Obj) (its:Array Value) (n:Nat),K.lookup a=some o/\o.cls=.type "tuple"/\o.data=.seq its n/\its.size<=sizeLine/\Vals xs its.toList
def Hae:Value->Option V
 | .none=>some .non
 | .bool b=>some (.bl b)
 | .int i _=>some (.int i)
 | .str x _=>some (.str x)
 | .bytes b _=>some (.byt b)
 | .float b _=>some (.flt b)
 | .ref a=>some (.ref a)
 | .type n=>some (.ty n)
 | _=>none
theorem Hq.abs{x:V}(r:Hq x u):Hae u=some x:=by
 cases x with
 | non=>cases r; rfl
 | bl _=>cases r; rfl
 | int _=>obtain⟨t,rfl⟩:=r; rfl
 | str _=>obtain⟨t,rfl⟩:=r; rfl
 | byt _=>obtain⟨t,rfl⟩:=r; rfl
 | flt _=>obtain⟨t,rfl⟩:=r; rfl
 | ref _=>cases r; rfl
 | ty _=>cases r; rfl
theorem Hq.inj{x y:V}(r:Hq x u)(q:Hq y u):x=y:=Option.some.inj (r.abs.symm.trans q.abs)
theorem Vals.inj:∀ {xs ys:List V} {us:List Value},Vals xs us->Vals ys us->xs=ys
 | _,_,_,.nil,.nil=>rfl
 | _,_,_,.cons r t,.cons r' t'=>by rw[r.inj r',Vals.inj t t']
section
variable{X:Cx}{pins:List (Addr×Obj)}{σ:St}{H:Hp}{s:Shared}{a:Addr}{xs ys:List V}
theorem SqL.of(h:H a=some (.lst xs)):SqL K H a xs:=.inl (.inl h)
theorem SqT.of(h:H a=some (.tup xs)):SqT K H a xs:=.inl (.inl h)
theorem Inv.list(I:Inv X pins σ H s)(h:SqL X.K H a xs):∃ its:List Value,Vals xs its/\PlainL s.heap a its.toArray/\xs.length<=sizeLine:=by
 rcases h with h | ⟨o,its,n,hk,hc,hd,hs,hz,r⟩
 ·obtain⟨z,its,n,r,e⟩:=h.ok I.hok
  exact⟨its,r,⟨_,n,e,rfl,rfl,rfl⟩,z⟩
 ·refine⟨its.toList,r,⟨o,n,I.kIn a o hk,hc,hd,by simpa using hs⟩,?_⟩
  have e:=r.length
  simp only[Array.length_toList] at e
  omega
theorem Inv.tuple(I:Inv X pins σ H s)(h:SqT X.K H a xs):∃ its:List Value,Vals xs its/\IsTup s.heap a its.toArray/\xs.length<=sizeLine:=by
 rcases h with h | ⟨o,its,n,hk,hc,hs,hz,r⟩
 ·obtain⟨z,its,r,p⟩:=h.ok I.hok
  exact⟨its,r,p,z⟩
 ·refine⟨its.toList,r,⟨o,I.kIn a o hk,hc,n,by simpa using hs⟩,?_⟩
  have e:=r.length
  simp only[Array.length_toList] at e
  omega
theorem Inv.list_inj(I:Inv X pins σ H s)(h:SqL X.K H a xs)(h':SqL X.K H a ys):xs=ys:=by
 obtain⟨its,r,⟨o,n,e,_,_,d⟩,_⟩:=I.list h
 obtain⟨its',r',⟨o',n',e',_,_,d'⟩,_⟩:=I.list h'
 rw[e] at e'; cases e'
 rw[d] at d'
 injection d' with d1 _
 have:its=its':=by simpa using congrArg Array.toList d1
 subst this
 exact r.inj r'
theorem Inv.tuple_inj(I:Inv X pins σ H s)(h:SqT X.K H a xs)(h':SqT X.K H a ys):xs=ys:=by
 obtain⟨its,r,⟨o,e,_,n,d⟩,_⟩:=I.tuple h
 obtain⟨its',r',⟨o',e',_,n',d'⟩,_⟩:=I.tuple h'
 rw[e] at e'; cases e'
 rw[d] at d'
 injection d' with d1 _
 have:its=its':=by simpa using congrArg Array.toList d1
 subst this
 exact r.inj r'
end
abbrev Cx.wish(X:Cx)(E:Value->Shared->Prop):Cx:={ X with xe:=E }
abbrev Cx.nox(X:Cx):Cx:=X.wish fun _ _=>False
theorem Cx.Ok.wish(ok:X.Ok)(E:Value->Shared->Prop):(X.wish E).Ok:=
 ⟨ok.mod,ok.kind,ok.glob,ok.blt,ok.above,ok.inj,ok.has,ok.cab,ok.hd,ok.frames,ok.stk,ok.exf,ok.bs,ok.bsz,ok.noex,ok.exfs,ok.funs,ok.frf⟩
theorem Cx.Ok.unwish{E:Value->Shared->Prop}(ok:(X.wish E).Ok):X.Ok:=
 ⟨ok.mod,ok.kind,ok.glob,ok.blt,ok.above,ok.inj,ok.has,ok.cab,ok.hd,ok.frames,ok.stk,ok.exf,ok.bs,ok.bsz,ok.noex,ok.exfs,ok.funs,ok.frf⟩
section
variable{X:Cx}{pins:List (Addr×Obj)}{σ:St}{H:Hp}{s:Shared}{E:Value->Shared->Prop}
theorem Inv.wish(I:Inv X pins σ H s)(E:Value->Shared->Prop):Inv (X.wish E) pins σ H s:=⟨I.ok.wish E,I.os,I.bare,I.base,I.loc,I.cell,I.free,I.freeC,I.pin,I.hok,I.len⟩
theorem Inv.unwish(I:Inv (X.wish E) pins σ H s):Inv X pins σ H s:=⟨I.ok.unwish,I.os,I.bare,I.base,I.loc,I.cell,I.free,I.freeC,I.pin,I.hok,I.len⟩
theorem SP.unwish{D:Ends}{f:Flow}{s':Shared}(h:SP (X.wish E) pins D f s'):SP X pins D f s':=by
 cases f with
 | next=>obtain⟨σ',H',I,q⟩:=h; exact⟨σ',H',I.unwish,q⟩
 | brk=>obtain⟨σ',H',I,q⟩:=h; exact⟨σ',H',I.unwish,q⟩
 | cont=>obtain⟨σ',H',I,q⟩:=h; exact⟨σ',H',I.unwish,q⟩
 | ret u=>obtain⟨v,σ',H',I,r,q⟩:=h; exact⟨v,σ',H',I.unwish,r,q⟩
theorem PSs.nox{st:List Stmt}{t:TS}(h:PSs X.nox st t):PSs X st t:=fun pins s σ H D I hw=>
 wpAny_mono (h pins s σ H D (I.wish _) hw) (fun _ _ q=>q.unwish) fun _ _ z=>False.elim z
end
section
variable{X:Cx}{st:Stmt}{rest:List Stmt}{t u:TS}{e:Expr}{te:TE}{pos:Pos}
def Gxj:TS:=fun D σ H=>D.nx σ H
def Gxk(t u:TS):TS:=fun D σ H=>t { D with nx:=u D } σ H
theorem Goq:PSs X [] Gxj:=fun _ _ σ H _ I h=>wpAny_execs_nil ⟨σ,H,I,h⟩
theorem Ggx(h1:PS X st t)(h2:PSs X rest u):PSs X (st::rest) (Gxk t u):=by
 intro pins s σ H D I h
 refine wpAny_execs_cons (thn (h1 pins s σ H { D with nx:=u D } I h) fun f s1 q=>?_)
 cases f with
 | next=>
  obtain⟨σ',H',I',q⟩:=q
  exact h2 pins s1 σ' H' D I' q
 | ret v=>exact q
 | brk=>exact q
 | cont=>exact q
theorem Gcv(h1:PS X st t):PSs X [st] t:=by
 intro pins s σ H D I h
 refine wpAny_execs_cons (thn (h1 pins s σ H D I h) fun f s1 q=>?_)
 cases f with
 | next=>exact wpAny_execs_nil q
 | ret v=>exact q
 | brk=>exact q
 | cont=>exact q
theorem Inv.quiet(I:Inv X pins σ H s):interactive X.env=false:=by simp[interactive,I.ok.kind]
def Gk4(te:TE):TS:=fun D σ H=>te σ H fun _ H1=>D.nx σ H1
theorem Gcw(he:PE X e te)(hs:swapsWith e none pos.line X.env=pure false:=by rfl):PS X (.Expr e pos) (Gk4 te):=by
 intro pins s σ H D I h
 exact wpAny_Expr_any (thn (he pins s σ H _ I h) fun v s1 ⟨x,H1,I1,r1,q1⟩=>⟨σ,H1,I1,q1⟩) I.quiet hs
def Haf(te:TE):TS:=fun D σ H=>te σ H D.rt
theorem Gs6(he:PE X e te):PS X (.Return (some e) pos) (Haf te):=by
 intro pins s σ H D I h
 exact wpAny_Return_some (thn (he pins s σ H _ I h) fun v s1 ⟨x,H1,I1,r1,q1⟩=>⟨x,σ,H1,I1,r1,q1⟩)
def Hag(c:TT)(t u:TS):TS:=fun D σ H=>c σ H fun b H1=>if b=true then t D σ H1 else u D σ H1
theorem Gxl{c:Expr}{a b:List Stmt}{tc:TT}(hc:PT X c tc)(ha:PSs X a t)(hb:PSs X b u):PS X (.If c a b pos) (Hag tc t u):=by
 intro pins s σ H D I h
 refine wpAny_If (thn (hc pins s σ H _ I h) fun d s1 ⟨H1,I1,q1⟩=>?_)
 cases d with
 | true=>exact ha pins s1 σ H1 D I1 q1
 | false=>exact hb pins s1 σ H1 D I1 q1
end
abbrev TG:=V->St->Hp->(St->Hp->Prop)->Prop
abbrev TGs:=List V->St->Hp->(St->Hp->Prop)->Prop
def PG(X:Cx)(target:Expr)(t:TG):Prop:=
 ∀ (pins:List (Addr×Obj)) (s:Shared) (σ:St) (H:Hp) (v:V) (u:Value) (Q:St->Hp->Prop),Inv X pins σ H s->Hq v u->t v σ H Q→
  wpAny (model X.prog X.w) X.A (assign target X.env u) (fun _ s'=>∃ σ' H',Inv X pins σ' H' s'/\Q σ' H') X.xe s
def PGs(X:Cx)(ts:List Expr)(t:TGs):Prop:=
 ∀ (pins:List (Addr×Obj)) (s:Shared) (σ:St) (H:Hp) (vs:List V) (us:List Value) (Q:St->Hp->Prop),Inv X pins σ H s->Vals vs us->t vs σ H Q→
  wpAny (model X.prog X.w) X.A (assignInOrder ((assignEach ts X.env).map (·.2)) us) (fun _ s'=>∃ σ' H',Inv X pins σ' H' s'/\Q σ' H') X.xe s
abbrev Gk5:=V->V->V->Hp->(Hp->Prop)->Prop
def Gs7(X:Cx)(t:Gk5):Prop:=
 ∀ (pins:List (Addr×Obj)) (s:Shared) (σ:St) (H:Hp) (o i v:V) (ov iv u:Value) (Q:Hp->Prop),Inv X pins σ H s->Hq o ov->Hq i iv->Hq v u->t o i v H Q→
  wpAny (model X.prog X.w) X.A (setItem ov iv u) (fun _ s'=>∃ H',Inv X pins σ H' s'/\Q H') X.xe s
abbrev TIp:=V->V->Hp->VK->Prop
def PIp(X:Cx)(op:Operator)(t:TIp):Prop:=
 ∀ (pins:List (Addr×Obj)) (s:Shared) (σ:St) (H:Hp) (x y:V) (v u:Value) (Q:VK),Inv X pins σ H s->Hq x v->Hq y u->t x y H Q→
  wpAny (model X.prog X.w) X.A (inplaceOp op v u) (EP X pins σ Q) X.xe s
section
variable{X:Cx}{pos:Pos}
def gName(i:Nat):TG:=fun v σ H Q=>Q (σ.set i (some v)) H
theorem Gor(hN:X.N.Nodup)(hi:X.N[i]?=some x)(hx:Loc X.env.scope x)(hf:X.fn x=true\/X.env.scope.names.lookup x=some .local:=by first | exact .inl rfl | exact .inr rfl | assumption):PG X (.Name x pos) (gName i):=by
 intro pins s σ H v u Q I r h
 exact wpAny_assign_Name (Xx I hN hi hx r (fun s' I'=>⟨_,H,I',h⟩) hf)
def Hah:TGs:=fun vs σ H Q=>vs=[]/\Q σ H
def Gxm(t:TG)(u:TGs):TGs:=fun vs σ H Q=>∃ v r,vs=v::r/\t v σ H fun σ' H'=>u r σ' H' Q
theorem Gos:PGs X [] Hah:=by
 intro pins s σ H vs us Q I r h
 obtain⟨e,h⟩:=h
 subst e
 cases r
 exact assignInOrder_nil ⟨σ,H,I,h⟩
theorem Gk6{e:Expr}{es:List Expr}{t:TG}{u:TGs}(h1:PG X e t)(h2:PGs X es u)
  (hs:(assignEach (e::es) X.env).map (·.2)=assign e X.env::(assignEach es X.env).map (·.2):=by rfl):PGs X (e::es) (Gxm t u):=by
 intro pins s σ H vs us Q I r h
 obtain⟨v,vr,e1,h⟩:=h
 subst e1
 cases r with
 | cons r rr=>
  rw[hs]
  refine assignInOrder_cons (thn (h1 pins s σ H _ _ _ I r h) fun _ s1 ⟨σ1,H1,I1,q1⟩=>?_)
  exact h2 pins s1 σ1 H1 _ _ Q I1 rr q1
def Hai(K:PySem.W.Frag)(n:Nat)(t:TGs):TG:=fun v σ H Q=>∃ a xs,v=.ref a/\SqT K H a xs/\xs.length=n/\t xs σ H Q
theorem Gs8{es:List Expr}{t:TGs}{n:Nat}(hc:X.calm=true)(h:PGs X es t)(hn:(assignEach es X.env).length=n:=by rfl)(hst:(assignEach es X.env).findIdx? (·.1)=none:=by rfl):PG X (.Tuple es k pos) (Hai X.K n t):=by
 intro pins s σ H v u Q I r hw
 obtain⟨a,xs,e1,hq,hl,hw⟩:=hw
 subst e1
 cases r
 obtain⟨its,rv,ht,hz⟩:=I.tuple hq
 refine assign_Tuple_tuple (I.ok.hd hc) ht (by simp[hn,<- hl,rv.length]) hst fun h' hx=>?_
 have I1:Inv X pins σ H { s with heap:=h' }:=I.kept (t':=s.toks) fun b o e=>hx b o (Nat.ne_of_lt (Heap.lt_size e)) e
 exact h pins _ σ H xs _ Q I1 (by simpa using rv) hw
def Haj(to ti:TE)(t:Gk5):TG:=fun v σ H Q=>to σ H fun o H1=>ti σ H1 fun i H2=>t o i v H2 fun H3=>Q σ H3
theorem Gs9{o i:Expr}{to ti:TE}{t:Gk5}(ho:PE X o to)(hi:PE X i ti)(hs:Gs7 X t)
  (ha:∀ v,assign (.Subscript o i pos) X.env v=(do
   let ov <- holding [v] (eval o X.env)
   let iv <- holding [v,ov] (eval i X.env)
   standAt pos
   holding [v,ov,iv] (setItem ov iv v)
   release [v,ov,iv] []):=by intro _; rfl):PG X (.Subscript o i pos) (Haj to ti t):=by
 intro pins s σ H v u Q I r h
 rw[ha]
 refine wpAny_bind (wpAny_holding (thn (ho pins s σ H _ I h) fun ov s1 ⟨x,H1,I1,r1,q1⟩=>?_))
 refine wpAny_bind (wpAny_holding (thn (hi pins s1 σ H1 _ I1 q1) fun iv s2 ⟨y,H2,I2,r2,q2⟩=>?_))
 refine wpAny_bind (wpAny_standAt (wpAny_bind (wpAny_holding (thn (hs pins s2 σ H2 x y v ov iv u _ I2 r1 r2 r q2) fun _ s3 ⟨H3,I3,q3⟩=>?_))))
 exact wpAny_release ⟨σ,H3,I3,q3⟩
def Got(te:TE)(g:TG):TS:=fun D σ H=>te σ H fun x H1=>g x σ H1 D.nx
theorem Gk7{e:Expr}{g:TG}(he:PE X e te)(hg:PG X tg g)(hs:swapsWithSole [tg] e pos.line X.env=pure false:=by rfl)(hw:swappedStores [tg] e X.env=pure none:=by rfl)(h1:(assignEach [tg] X.env).map (·.2)=[assign tg X.env]:=by rfl):PS X (.Assign [tg] e pos) (Got te g):=by
 intro pins s σ H D I h
 refine wpAny_Assign_stores (thn (he pins s σ H _ I h) fun v s1 ⟨x,H1,I1,r1,q1⟩=>?_) hs hw
 rw[h1]
 exact thn (hg pins s1 σ H1 x v _ I1 r1 q1) fun _ s2 q=>q
theorem Gta{e:Expr}{pos':Pos}(hN:X.N.Nodup)(hi:X.N[i]?=some x)(hx:Loc X.env.scope x)(he:PE X e te)(hs:swapsWith e (some (.Name x pos')) pos.line X.env=pure false:=by rfl)(hf:X.fn x=true\/X.env.scope.names.lookup x=some .local:=by first | exact .inl rfl | exact .inr rfl | assumption):
  PS X (.Assign [.Name x pos'] e pos) (Got te (gName i)):=by
 intro pins s σ H D I h
 refine wpAny_Assign_Name (thn (he pins s σ H _ I h) fun v s1 ⟨y,H1,I1,r1,q1⟩=>?_) hs
 exact Xx I1 hN hi hx r1 (fun s2 I2=>⟨_,H1,I2,q1⟩) hf
def Hak(i j:Nat)(ta:TA):TS:=fun D σ H=>ta σ H fun vs H1=>∃ v w,vs=[v,w]/\D.nx ((σ.set i (some v)).set j (some w)) H1
theorem Gtb{y:Str}{a b:Expr}{ta:TA}{px py pt:Pos}{kt k2 pt2}(hc:X.calm=true)(hN:X.N.Nodup)(hi:X.N[i]?=some x)(hj:X.N[j]?=some y)(hij:i≠j)(hx:X.env.scope.names.lookup x=some .local)(hy:X.env.scope.names.lookup y=some .local)(ha:PA X [a,b] ta)(hw:swappedStores [.Tuple [.Name x px,.Name y py] kt pt] (.Tuple [a,b] k2 pt2) X.env=pure (some [x,y]))(hs:swapsWithSole [.Tuple [.Name x px,.Name y py] kt pt] (.Tuple [a,b] k2 pt2) pos.line X.env=pure false:=by rfl):
  PS X (.Assign [.Tuple [.Name x px,.Name y py] kt pt] (.Tuple [a,b] k2 pt2) pos) (Hak i j ta):=by
 intro pins s σ H D I h
 rw[exec_Assign_arm]
 refine wpAny_bind (wpAny_standAt ?_)
 rw[hs]
 refine wpAny_bind (wpAny_pure ?_)
 rw[if_neg (by decide)]
 refine wpAny_bind (Tuple_ (thn (ha _ pins s σ H _ I h) fun us s1 ⟨vs,H1,I1,r1,q1⟩=>?_))
 obtain⟨v,w,e1,q1⟩:=q1
 subst e1
 obtain⟨u1,u2,rfl,rv,rw'⟩:∃ u1 u2,us=[u1,u2]/\Hq v u1/\Hq w u2:=by
  cases r1 with
  | cons p q=>
   cases q with
   | cons p' q'=>
    cases q'
    exact⟨_,_,rfl,p,p'⟩
 refine wpAny_newObj_type ?_ (by show 2<=sizeLine; decide)
 have I2:Inv X pins σ H1 { s1 with heap:=s1.heap.push { cls:=.type "tuple",data:=.seq [u1,u2].toArray } }:=I1.kept (t':=s1.toks) fun b o e=>Heap.get?_push_of_some _ e
 rw[hw]
 refine wpAny_bind (wpAny_pure ?_)
 show wpAny (model X.prog X.w) X.A (do rule "assign.swapped-stores"; let items <- unpackItems (.ref s1.heap.objs.size) 2 none; assignInOrder [fun v=>bindName X.env y v,fun v=>bindName X.env x v] items.reverse; pure Flow.next) _ _ _
 refine wpAny_bind (wpAny_rule (wpAny_bind (unpackItems_tuple (items:=#[u1,u2]) (I.ok.hd hc) (IsTup.new s1.heap _) fun h' hx'=>?_)))
 have I3:=I2.kept (h':=h') (t':=s1.toks) fun b o e=>hx' b o (Nat.ne_of_lt (Heap.lt_size e)) e
 show wpAny _ _ (assignInOrder [fun v=>bindName X.env y v,fun v=>bindName X.env x v] [u2,u1] >>= fun _=>pure Flow.next) _ _ _
 refine wpAny_bind (assignInOrder_cons (wpAny_bindName (Xx I3 hN hj (.inl hy) rw' (fun s2 I4=>?_) (.inr hy))))
 refine assignInOrder_cons (wpAny_bindName (Xx I4 hN hi (.inl hx) rv (fun s3 I5=>assignInOrder_nil (wpAny_pure ?_)) (.inr hx)))
 rw[List.set_comm _ _ (Ne.symm hij)] at I5
 exact⟨_,H1,I5,q1⟩
def Gxn(i:Nat)(te:TE)(ti:TIp):TS:=fun D σ H=>∃ x,σ[i]?=some (some x)/\te σ H fun y H1=>ti x y H1 fun z H2=>D.nx (σ.set i (some z)) H2
theorem Gtc{e:Expr}{op:Operator}{ti:TIp}{pos':Pos}(hN:X.N.Nodup)(hi:X.N[i]?=some x)(hx:Loc X.env.scope x)(he:PE X e te)(ho:PIp X op ti)(hf:X.fn x=true\/X.env.scope.names.lookup x=some .local:=by first | exact .inl rfl | exact .inr rfl | assumption):
  PS X (.AugAssign (.Name x pos') op e pos) (Gxn i te ti):=by
 intro pins s σ H D I h
 obtain⟨v,e1,h⟩:=h
 obtain⟨m,hn,hl⟩:=I.loc
 have vis:Vis X.env.scope x:=by rcases hx with k | k; exact .inl k; exact .inr (.inl k)
 obtain⟨u,r,l⟩:=hl i x v hi e1 vis
 refine wpAny_AugAssign_Name ?_
 have go:wpAny (model X.prog X.w) X.A (eval e X.env) (fun w s₂=>wpAny (model X.prog X.w) X.A (inplaceOp op u w) (fun r s₃=>wpAny (model X.prog X.w) X.A (storeName X.env x r) (fun _=>SP X pins D .next) X.xe s₃) X.xe s₂) X.xe s:=by
  refine thn (he pins s σ H _ I h) fun w s1 ⟨y,H1,I1,r1,q1⟩=>?_
  refine thn (ho pins s1 σ H1 v y u w _ I1 r r1 q1) fun z s2 ⟨zv,H2,I2,r2,q2⟩=>?_
  exact Xx I2 hN hi hx r2 (fun s3 I3=>⟨_,H2,I3,q2⟩) hf
 rcases l with⟨hk,hm⟩ | ⟨hk,c,hc,hcell⟩
 ·exact wpAny_loadName_local I.ok.kind hk hn hm go
 ·rcases hk with hk | hk
  ·exact wpAny_loadName_cell I.ok.kind hk hc hcell go
  ·rcases hx with k | k
   ·have:X.env.scope.names.lookup x=some .free:=hk
    rw[k] at this; cases this
   ·have:X.env.scope.names.lookup x=some .free:=hk
    rw[k] at this; cases this
def ipI(f:Int->Int->Int):TIp:=fun x y H Q=>∃ i j,x=.int i/\y=.int j/\Q (.int (f i j)) H
theorem Gtd:PIp X .Add (ipI fun i j=>i+j):=by
 intro pins s σ H x y v u Q I r1 r2 h
 obtain⟨i,j,e1,e2,q⟩:=h
 subst e1; subst e2
 obtain⟨t,rfl⟩:=r1
 obtain⟨t',rfl⟩:=r2
 exact iadd_int ⟨.int _,H,I.tok _,⟨_,rfl⟩,q⟩
end
structure It where
 go:Nat->Hp->Prop
 yld:Nat->Hp->V->Hp->Prop
 stop:Nat->Hp->Prop
def Ged(X:Cx)(pins:List (Addr×Obj))(H:Hp)(b:Addr):Prop:=
 H b=none/\b≠X.env.locals/\b∉X.fs/\(b∈X.ex\/X.s₀.heap.objs.size<=b)/\(∀ x c,X.env.cells.lookup x=some c->c≠b)/\∀ p∈X.pn++pins,p.1≠b
theorem Inv.fpOk{H':Hp}(I:Inv X pins σ H s)(hb:s.heap.objs.size<=b)(hn:H' b=none):Ged X pins H' b:=by
 refine⟨hn,Nat.ne_of_gt (Nat.lt_of_lt_of_le I.lt hb),I.nofs hb,.inr (Nat.le_trans I.sz hb),fun x c e z=>?_,fun p hp z=>?_⟩
 ·obtain⟨v,q⟩:=I.cell x c e
  exact absurd (Nat.lt_of_lt_of_le q.lt (by rw[z]; exact hb)) (Nat.lt_irrefl _)
 ·exact absurd (Nat.lt_of_lt_of_le (Heap.lt_size (I.pin p hp).1) (by rw[z]; exact hb)) (Nat.lt_irrefl _)
structure Turn(P:Program)(w:World)(K:PySem.W.Frag)(tg:Expr)(J:It)(fp:List Addr)(it:Addr)(tn:Nat->Heap->Prop):Prop where
 mem:it∈fp
 obj:∀ i h,tn i h->∀ b∈fp,∃ o,h.get? b=some o/\∀ v,o.data≠.cell v
 keep:∀ i h h',tn i h->(∀ b∈fp,∀ o,h.get? b=some o->h'.get? b=some o)->tn i h'
 item:∀ (X:Cx),X.prog=P->X.w=w->X.K=K->X.calm=true->∀ (i:Nat) (pins:List (Addr×Obj)) (s:Shared) (σ:St) (H:Hp) (E:Value->Shared->Prop),Inv X pins σ H s->(∀ b∈fp,Ged X pins H b)->tn i s.heap->J.go i H→
  wpAny (model P w) X.A (pyNext (.ref it)) (fun r s1=>∃ u,r=some u∧
   wpAny (model P w) X.A (letOwnedTupleGo tg (.ref it) u) (fun _ s2=>∃ x H',Inv X pins σ H' s2/\Hq x u/\J.yld i H x H'/\tn (i+1) s2.heap/\∀ b∈fp,H' b=none) E s1) E s
 done:∀ (X:Cx),X.prog=P->X.w=w->X.K=K->X.calm=true->∀ (i:Nat) (pins:List (Addr×Obj)) (s:Shared) (σ:St) (H:Hp) (E:Value->Shared->Prop),Inv X pins σ H s->(∀ b∈fp,Ged X pins H b)->tn i s.heap->J.stop i H→
  wpAny (model P w) X.A (pyNext (.ref it)) (fun r s1=>r=none/\Inv X pins σ H s1) E s
 self:∀ (A:Around) (i:Nat) (s:Shared) (Q:Value->Shared->Prop) (E:Value->Shared->Prop),tn i s.heap->Q (.ref it) s->wpAny (model P w) A (pyIter (.ref it)) Q E s
abbrev TI:=St->Hp->(It->Hp->Prop)->Prop
def PIE(X:Cx)(pins:List (Addr×Obj))(σ:St)(tg:Expr)(R:It->Hp->Prop)(itv:Value)(s2:Shared):Prop:=
 ∃ (it:Addr) (fp:List Addr) (tn:Nat->Heap->Prop) (J:It) (H':Hp),itv=.ref it/\Inv X pins σ H' s2/\Turn X.prog X.w X.K tg J fp it tn/\tn 0 s2.heap/\(∀ b∈fp,Ged X pins H' b)/\R J H'
def PI(X:Cx)(tg iter:Expr)(wi:TI):Prop:=
 ∀ (pins:List (Addr×Obj)) (s:Shared) (σ:St) (H:Hp) (R:It->Hp->Prop),Inv X pins σ H s->wi σ H R→
  wpAny (model X.prog X.w) X.A (eval iter X.env) (fun v s1=>wpAny (model X.prog X.w) X.A (pyIter v) (PIE X pins σ tg R) X.xe s1) X.xe s
theorem Gk8{E:Value->Shared->Prop}{it:Addr}{o:Obj}{n:String}{vs:Array Value}{Q:Unit->Shared->Prop}(ho:s.heap.get? it=some o)(hc:o.cls=.type n)(hd:o.data=.fields vs)(hn:["enumerate","zip","dict_itemiterator","dict_reverseitemiterator","odict_iterator","itertools.zip_longest","itertools.pairwise"].contains n=false)(hQ:Q () s):wpAny M A (letOwnedTupleGo tg (.ref it) u) Q E s:=by
 unfold letOwnedTupleGo
 cases tg<;>first
  | exact wpAny_pure hQ
  | (cases u<;>first
    | exact wpAny_pure hQ
    | (refine wpAny_bind (wpAny_load ho ?_)
       rw[hc,hd]
       show wpAny M A (if(["enumerate","zip","dict_itemiterator","dict_reverseitemiterator","odict_iterator","itertools.zip_longest","itertools.pairwise"].contains n&&vs[0]?==some (rawInt _))=true then _ else _) Q E s
       rw[if_neg (by intro h; rw[hn,Bool.false_and] at h; cases h)]
       exact wpAny_pure hQ))
def Itl(K:PySem.W.Frag)(a:Addr):It:=
 ⟨fun i H=>∃ xs x,SqL K H a xs/\xs[i]?=some x,fun i H x H'=>H'=H/\∀ xs,SqL K H a xs->xs[i]?=some x,fun i H=>∃ xs,SqL K H a xs/\xs.length<=i⟩
def Itt(K:PySem.W.Frag)(a:Addr):It:=
 ⟨fun i H=>∃ xs x,SqT K H a xs/\xs[i]?=some x,fun i H x H'=>H'=H/\∀ xs,SqT K H a xs->xs[i]?=some x,fun i H=>∃ xs,SqT K H a xs/\xs.length<=i⟩
def Itr(lo:Int)(n:Nat):It:=⟨fun i _=>i<n,fun i H x H'=>H'=H/\x=.int (lo+i),fun i _=>n<=i⟩
theorem turn_list(a it:Addr):Turn P w K tg (Itl K a) [it] it (fun i h=>h.IsListIter it a i) where
 mem:=by simp
 obj:=fun i h st b hb=>by
  have e:b=it:=by simpa using hb
  subst e
  obtain⟨o,e,c,d⟩:=st
  exact⟨o,e,fun v z=>by rw[d] at z; cases z⟩
 keep:=fun i h h' st k=>st.at fun o e=>k it (by simp) o e
 item:=by
  intro X hP hw hK hc i pins s σ H E I hf st hg
  subst hP hw hK
  obtain⟨xs,x,hq,hx⟩:=hg
  obtain⟨its,rv,p,hz⟩:=I.list hq
  obtain⟨u,hu,ru⟩:=rv.get hx
  obtain⟨f0,f1,f2,f3,f4,f5⟩:=hf it (by simp)
  refine wpAny_pyNext_list_item st p.isList (x:=u) (by simpa using hu) fun h' st' sb=>?_
  have I1:Inv X pins σ H { s with heap:=h' }:=I.turned (t':=s.toks) (fun b o hb e=>(sb.2 b hb).trans e) f0 f1 f3 f4 f5
  obtain⟨o,e,c,d⟩:=id st'
  exact⟨u,rfl,Gk8 (s:={ s with heap:=h' }) e c d (by decide) ⟨x,H,I1,ru,⟨rfl,fun ys hy=>by rw[I.list_inj hy hq]; exact hx⟩,st',fun b hb=>(hf b hb).1⟩⟩
 done:=by
  intro X hP hw hK hc i pins s σ H E I hf st hg
  subst hP hw hK
  obtain⟨xs,hq,hx⟩:=hg
  obtain⟨its,rv,p,hz⟩:=I.list hq
  obtain⟨f0,f1,f2,f3,f4,f5⟩:=hf it (by simp)
  have hl:=rv.length
  exact wpAny_pyNext_list_end (I.ok.hd hc) st p.isList (by simp; omega) fun h' eb=>⟨rfl,I.turned (t':=s.toks) (fun b o hb e=>eb b o hb e) f0 f1 f3 f4 f5⟩
 self:=fun _ _ _ _ _ st h=>wpAny_pyIter_listiter st h
theorem turn_tuple(a it:Addr):Turn P w K tg (Itt K a) [it] it (fun i h=>h.IsTupleIter it a i) where
 mem:=by simp
 obj:=fun i h st b hb=>by
  have e:b=it:=by simpa using hb
  subst e
  obtain⟨o,e,c,d⟩:=st
  exact⟨o,e,fun v z=>by rw[d] at z; cases z⟩
 keep:=fun i h h' st k=>st.at fun o e=>k it (by simp) o e
 item:=by
  intro X hP hw hK hc i pins s σ H E I hf st hg
  subst hP hw hK
  obtain⟨xs,x,hq,hx⟩:=hg
  obtain⟨its,rv,p,hz⟩:=I.tuple hq
  obtain⟨u,hu,ru⟩:=rv.get hx
  obtain⟨f0,f1,f2,f3,f4,f5⟩:=hf it (by simp)
  refine wpAny_pyNext_tuple_item st (show s.heap.IsTuple a its.toArray from p) (x:=u) (by simpa using hu) fun h' st' sb=>?_
  have I1:Inv X pins σ H { s with heap:=h' }:=I.turned (t':=s.toks) (fun b o hb e=>(sb.2 b hb).trans e) f0 f1 f3 f4 f5
  obtain⟨o,e,c,d⟩:=id st'
  exact⟨u,rfl,Gk8 (s:={ s with heap:=h' }) e c d (by decide) ⟨x,H,I1,ru,⟨rfl,fun ys hy=>by rw[I.tuple_inj hy hq]; exact hx⟩,st',fun b hb=>(hf b hb).1⟩⟩
 done:=by
  intro X hP hw hK hc i pins s σ H E I hf st hg
  subst hP hw hK
  obtain⟨xs,hq,hx⟩:=hg
  obtain⟨its,rv,p,hz⟩:=I.tuple hq
  obtain⟨f0,f1,f2,f3,f4,f5⟩:=hf it (by simp)
  have hl:=rv.length
  exact wpAny_pyNext_tuple_end (I.ok.hd hc) st (show s.heap.IsTuple a its.toArray from p) (by simp; omega) fun h' eb=>⟨rfl,I.turned (t':=s.toks) (fun b o hb e=>eb b o hb e) f0 f1 f3 f4 f5⟩
 self:=fun _ _ _ _ _ st h=>wpAny_pyIter_tupleiter st h
theorem turn_range(it:Addr)(lo:Int)(n:Nat):Turn P w K tg (Itr lo n) [it] it (fun i h=>IsRangeIter h it (lo+(i:Nat)*1) ((n:Int)-(i:Nat)) 1) where
 mem:=by simp
 obj:=fun i h st b hb=>by
  have e:b=it:=by simpa using hb
  subst e
  exact⟨_,st,fun v z=>by
   have z':Data.fields _=Data.cell v:=z
   cases z'⟩
 keep:=fun i h h' st k=>k it (by simp) _ st
 item:=by
  intro X hP hw hK hc i pins s σ H E I hf st hg
  subst hP hw hK
  obtain⟨f0,f1,f2,f3,f4,f5⟩:=hf it (by simp)
  have W:=Walks.range (prog:=X.prog) (w:=X.w) (I.ok.hd hc) it lo 1 n
  refine W.item i s _ _ hg st fun v h' tk hv st' kk=>?_
  obtain⟨t,rfl⟩:=hv
  have I1:Inv X pins σ H { s with heap:=h',toks:=tk }:=I.turned (fun b o hb e=>kk b o (by simpa using hb) e) f0 f1 f3 f4 f5
  refine⟨_,rfl,Gk8 (s:={ s with heap:=h',toks:=tk }) (n:="range_iterator") st' rfl rfl (by decide) ⟨.int (lo+i),H,I1,⟨t,?_⟩,⟨rfl,rfl⟩,st',fun b hb=>(hf b hb).1⟩⟩
  rw[Int.mul_one]
 done:=by
  intro X hP hw hK hc i pins s σ H E I hf st hg
  subst hP hw hK
  obtain⟨f0,f1,f2,f3,f4,f5⟩:=hf it (by simp)
  exact wpAny_pyNext_range_end (I.ok.hd hc) st (by have:n<=i:=hg; omega) fun h' eb=>⟨rfl,I.turned (t':=s.toks) (fun b o hb e=>eb b o hb e) f0 f1 f3 f4 f5⟩
 self:=fun _ _ _ _ _ st h=>wpAny_pyIter_rangeiter st h
section
variable{X:Cx}{tg:Expr}
theorem Gk9{R:It->Hp->Prop}{E:Value->Shared->Prop}{lo hi:Int}{t u v:Tok}{tk:Nat}(I:Inv X pins σ H s)(h1 : -(2^62)<=lo)(h2:lo<2^62)(h3 : -(2^62)<=hi)(h4:hi<2^62)(q:R (Itr lo (hi-lo).toNat) H):wpAny (model X.prog X.w) X.A (pyIter (.ref s.heap.objs.size)) (PIE X pins σ tg R) E { s with heap:=s.heap.push { cls:=.type "range",data:=.fields #[.int lo t,.int hi u,.int 1 v] },toks:=tk }:=by
 refine wpAny_pyIter_range (IsRange.new ..) (small_one h1 h2 h3 h4) ?_
 have I1:Inv X pins σ H { s with heap:=s.heap.push { cls:=.type "range",data:=.fields #[.int lo t,.int hi u,.int 1 v] },toks:=tk }:=I.kept fun b o e=>Heap.get?_push_of_some _ e
 refine⟨(s.heap.push { cls:=.type "range",data:=.fields #[.int lo t,.int hi u,.int 1 v] }).objs.size,[(s.heap.push { cls:=.type "range",data:=.fields #[.int lo t,.int hi u,.int 1 v] }).objs.size],_,_,H,rfl,
  I1.kept (t':=tk) fun b o e=>Heap.get?_push_of_some _ e,turn_range _ lo (hi-lo).toNat,?_,fun b hb=>?_,q⟩
 ·have e1:lo+((0:Nat):Int)*1=lo:=by simp
  have e2:(((hi-lo).toNat:Nat):Int)-((0:Nat):Int)=Builtin.Range.rangeSize lo hi 1:=by rw[rangeSize_one]; split<;>omega
  show IsRangeIter _ _ (lo+((0:Nat):Int)*1) ((((hi-lo).toNat:Nat):Int)-((0:Nat):Int)) 1
  rw[e1,e2]
  exact Heap.get?_push_size _ rfl
 ·have e:b=(s.heap.push { cls:=.type "range",data:=.fields #[.int lo t,.int hi u,.int 1 v] }).objs.size:=by simpa using hb
  subst e
  exact I1.fpOk (Nat.le_refl _) (I1.hok.fresh (Nat.le_refl _))
def Gxo(ta:TA):TI:=fun σ H R=>ta σ H fun vs H1=>∃ j:Int,vs=[.int j] /\ -(2^62)<=j/\j<2^62/\R (Itr 0 j.toNat) H1
theorem Gj8{a:Expr}{ta:TA}{p:Pos}(hg:Gl X "range")(hm:X.mg "range"=none)(ha:PA X [a] ta)(hs:starEach [a] X.env=[(false,eval a X.env)]:=by rfl):PI X tg (.Call (.Name "range" p) [a] [] pos) (Gxo ta):=by
 intro pins s σ H R I h
 refine Call_ (Ga0 I hg hm boot_range (PyProof.Rows.callWith_type1 (thn (ha pos pins s σ H _ I h) fun us s1 ⟨vs,H1,I1,r1,q1⟩=>?_) hs rfl))
 obtain⟨j,e,q1,q2,q⟩:=q1
 subst e
 cases r1 with
 | cons r rr=>
  cases rr
  obtain⟨t,rfl⟩:=r
  exact call_range_1 (Gk9 I1 (by omega) (by omega) q1 q2 (by simpa using q))
def Hal(wi:TI)(g:TG)(tb:TS):TS:=fun D σ H=>wi σ H fun J H1=>∃ W:Nat->Nat->St->Hp->Prop,(∃ m,W 0 m σ H1)/\∀ i m σ H,W i m σ H→
 (J.stop i H/\D.nx σ H)\/(J.go i H/\∃ N:St->Hp->Prop,(∀ σ' H',N σ' H'->∃ m',m'<m/\W (i+1) m' σ' H')/\∀ x H',J.yld i H x H'->g x σ H' fun σ2 H2=>tb { D with nx:=N,ct:=N,bk:=D.nx } σ2 H2)
def Gc9(fp:List Addr)(h:Heap):List (Addr×Obj):=fp.filterMap fun b=>(h.get? b).map fun o=>(b,o)
theorem Yi{o:Obj}(hb:b∈fp)(e:h.get? b=some o):(b,o)∈Gc9 fp h:=List.mem_filterMap.mpr ⟨b,hb,by rw[e]; rfl⟩
theorem Gj9{p:Addr×Obj}(hp:p∈Gc9 fp h):p.1∈fp/\h.get? p.1=some p.2:=by
 obtain⟨b,hb,e⟩:=List.mem_filterMap.mp hp
 cases q:h.get? b with
 | none=>rw[q] at e; cases e
 | some o=>
  rw[q] at e
  have e':(b,o)=p:=Option.some.inj e
  subst e'
  exact⟨hb,q⟩
theorem Inv.pinned(I:Inv X pins σ H s)(hf:∀ b∈fp,Ged X pins H b)(ho:∀ b∈fp,∃ o,s.heap.get? b=some o/\∀ v,o.data≠.cell v):Inv X (pins++Gc9 fp s.heap) σ H s:=
 I.pins_of fun p hp=>(List.mem_append.mp hp).elim (fun z=>I.pin p (List.mem_append_right _ z)) fun z=>by
  obtain⟨hb,e⟩:=Gj9 z
  obtain⟨f0,f1,f2,_⟩:=hf p.1 hb
  obtain⟨o,e',d⟩:=ho p.1 hb
  rw[e] at e'; cases e'
  exact⟨e,f0,f1,f2,d⟩
theorem Inv.unpinned{pl:List (Addr×Obj)}(I:Inv X (pins++pl) σ H s):Inv X pins σ H s:=I.pins_of fun p hp=>I.pin p (List.mem_append_right _ (List.mem_append_left _ hp))
theorem Gte{iter:Expr}{body:List Stmt}{wi:TI}{g:TG}{tb:TS}(hp:PassesOwn (model X.prog X.w) X.A X.env X.xe)(hc:X.calm=true)(hi:PI X tg iter wi)(hg:PG X tg g)(hb:PSs X body tb)(hs:∀ x,foldedSetIterable iter X.env x=pure x:=by intro _; rfl):PS X (.For tg iter body [] pos) (Hal wi g tb):=by
 intro pins s σ H D I h
 refine wpAny_For (thn (hi pins s σ H _ I h) fun v s1 h1=>thn h1 fun itv s2 h2=>?_) hs
 obtain⟨it,fp,tn,J,H2,e,I2,T,st2,f2,W,⟨m0,w0⟩,turn⟩:=h2
 subst e
 have stat:∀ {H':Hp},(∀ b∈fp,H' b=none)->∀ b∈fp,Ged X pins H' b:=fun hn b hb=>⟨hn b hb,(f2 b hb).2⟩
 refine codeAny_forLoop_any (fun n s'=>∃ i σ' H',Inv X pins σ' H' s'/\tn i s'.heap/\(∀ b∈fp,H' b=none)/\W i n σ' H') ?_ m0 ⟨0,σ,H2,I2,st2,fun b hb=>(f2 b hb).1,w0⟩
 rintro n s3 ⟨i,σ3,H3,I3,st3,fr3,w3⟩
 rcases turn i n σ3 H3 w3 with⟨stop,qn⟩ | ⟨go,N,hN,step⟩
 ·refine wpAny_passesOwn hp (thn (T.done X rfl rfl rfl hc i pins s3 σ3 H3 X.xe I3 (stat fr3) st3 stop) fun r s4 ⟨hr,I4⟩=>?_)
  subst hr
  exact wpAny_execs_nil ⟨σ3,H3,I4,qn⟩
 ·refine wpAny_passesOwn hp (thn (T.item X rfl rfl rfl hc i pins s3 σ3 H3 X.xe I3 (stat fr3) st3 go) fun r s4 ⟨u,hr,h4⟩=>?_)
  subst hr
  refine wpAny_passesOwn hp (thn h4 fun _ s5 ⟨x,H5,I5,r5,y5,st5,fr5⟩=>?_)
  have I5':=I5.pinned (stat fr5) (T.obj _ _ st5)
  refine wpAny_passesOwn hp (thn (hg _ s5 σ3 H5 x u _ I5' r5 (step x H5 y5)) fun _ s6 ⟨σ6,H6,I6,q6⟩=>?_)
  refine wpAny_passesOwn hp (thn (hb _ s6 σ6 H6 _ I6 q6) fun f s7 q7=>?_)
  have again:∀ {σ7:St} {H7:Hp},Inv X (pins++Gc9 fp s5.heap) σ7 H7 s7->N σ7 H7->∃ m,m<n/\∃ i σ' H',Inv X pins σ' H' s7/\tn i s7.heap/\(∀ b∈fp,H' b=none)/\W i m σ' H':=fun{σ7 H7} I7 n7=>by
   obtain⟨m',hm,w7⟩:=hN σ7 H7 n7
   refine⟨m',hm,i+1,σ7,H7,I7.unpinned,T.keep _ _ _ st5 fun b hb o e=>(I7.pin (b,o) (List.mem_append_right _ (List.mem_append_right _ (Yi hb e)))).1,fun b hb=>?_,w7⟩
   obtain⟨o,e,d⟩:=T.obj _ _ st5 b hb
   exact(I7.pin (b,o) (List.mem_append_right _ (List.mem_append_right _ (Yi hb e)))).2.1
  cases f with
  | next=>obtain⟨σ7,H7,I7,n7⟩:=q7; exact again I7 n7
  | cont=>obtain⟨σ7,H7,I7,n7⟩:=q7; exact again I7 n7
  | brk=>obtain⟨σ7,H7,I7,q7⟩:=q7; exact⟨σ7,H7,I7.unpinned,q7⟩
  | ret v=>obtain⟨x7,σ7,H7,I7,r7,q7⟩:=q7; exact⟨x7,σ7,H7,I7.unpinned,r7,q7⟩
end
abbrev R2:=V->V->Hp->VK->Prop
variable{r:R2}
def OpR(X:Cx)(f:Value->Value->Sem Value)(r:R2):Prop:=
 ∀ (pins:List (Addr×Obj)) (s:Shared) (σ:St) (H:Hp) (x y:V) (v u:Value) (Q:VK),Inv X pins σ H s->Hq x v->Hq y u->r x y H Q→
  wpAny (model X.prog X.w) X.A (f v u) (EP X pins σ Q) X.xe s
def UnR(X:Cx)(f:Value->Sem Value)(r:V->Hp->VK->Prop):Prop:=
 ∀ (pins:List (Addr×Obj)) (s:Shared) (σ:St) (H:Hp) (x:V) (v:Value) (Q:VK),Inv X pins σ H s->Hq x v->r x H Q→
  wpAny (model X.prog X.w) X.A (f v) (EP X pins σ Q) X.xe s
def Zl(X:Cx)(f:Value)(r:List V->Hp->VK->Prop):Prop:=
 ∀ (pins:List (Addr×Obj)) (s:Shared) (σ:St) (H:Hp) (xs:List V) (us:List Value) (Q:VK),Inv X pins σ H s->Vals xs us->r xs H Q→
  wpAny (model X.prog X.w) X.A (call f us) (EP X pins σ Q) X.xe s
def Ham(X:Cx)(r:V->Hp->(Bool->Hp->Prop)->Prop):Prop:=
 ∀ (pins:List (Addr×Obj)) (s:Shared) (σ:St) (H:Hp) (x:V) (v:Value) (Q:Bool->Hp->Prop),Inv X pins σ H s->Hq x v->r x H Q→
  wpAny (model X.prog X.w) X.A (truthy v) (TP X pins σ Q) X.xe s
def tOp(r:R2)(ta tb:TE):TE:=fun σ H Q=>ta σ H fun x H1=>tb σ H1 fun y H2=>r x y H2 Q
def tUn(r:V->Hp->VK->Prop)(ta:TE):TE:=fun σ H Q=>ta σ H fun x H1=>r x H1 Q
def rI(C:Int->Int->Prop)(g:Int->Int->V):R2:=fun x y H Q=>∃ i j,x=.int i/\y=.int j/\C i j/\Q (g i j) H
def rI0(g:Int->Int->V):R2:=fun x y H Q=>∃ i j,x=.int i/\y=.int j/\Q (g i j) H
def rU(g:Int->V):V->Hp->VK->Prop:=fun x H Q=>∃ i,x=.int i/\Q (g i) H
section
variable{X:Cx}{a b c:Expr}{ta tb tc:TE}{pos:Pos}
theorem Gtf(ha:PE X a ta)(hb:PE X b tb){R:V->V->Hp->Prop}(I:Inv X pins σ H s)(h:ta σ H fun x H1=>tb σ H1 fun y H2=>R x y H2)(hf:∀ v u s2 x y H2,Inv X pins σ H2 s2->Hq x v->Hq y u->R x y H2->wpAny (model X.prog X.w) X.A (f v u) Q X.xe s2):
  wpAny (model X.prog X.w) X.A (eval a X.env) (fun v s₁=>wpAny (model X.prog X.w) X.A (eval b X.env) (fun u s₂=>wpAny (model X.prog X.w) X.A (f v u) Q X.xe s₂) X.xe s₁) X.xe s:=by
 refine thn (ha pins s σ H _ I h) fun v s1 ⟨x,H1,I1,r1,q1⟩=>?_
 refine thn (hb pins s1 σ H1 _ I1 q1) fun u s2 ⟨y,H2,I2,r2,q2⟩=>?_
 exact hf v u s2 x y H2 I2 r1 r2 q2
theorem Gxp{op:Operator}(ho:OpR X (binaryOp op) r)(ha:PE X a ta)(hb:PE X b tb):PE X (.BinOp a op b pos) (tOp r ta tb):=by
 intro pins s σ H Q I h
 exact wpAny_BinOp (Gtf ha hb I h fun v u s2 x y H2 I2 rx ry q=>ho pins s2 σ H2 x y v u Q I2 rx ry q)
theorem Gxq{op:UnaryOp}{r:V->Hp->VK->Prop}(ho:UnR X (unaryOp op) r)(ha:PE X a ta):PE X (.UnaryOp op a pos) (tUn r ta):=by
 intro pins s σ H Q I h
 exact UnaryOp_ (thn (ha pins s σ H _ I h) fun v s1 ⟨x,H1,I1,r1,q1⟩=>ho pins s1 σ H1 x v Q I1 r1 q1)
theorem opI{C:Int->Int->Prop}{g:Int->Int->Int}(rule:∀ (i j:Int) (t u:Tok) (s:Shared) (Q:Value->Shared->Prop) (E:Value->Shared->Prop),C i j->Q (.int (g i j) s.toks) { s with toks:=s.toks+1 }->wpAny (model X.prog X.w) X.A (f (.int i t) (.int j u)) Q E s):
  OpR X f (rI C fun i j=>.int (g i j)):=by
 intro pins s σ H x y v u Q I rx ry h
 obtain⟨i,j,rfl,rfl,hc,q⟩:=h
 obtain⟨t,rfl⟩:=rx
 obtain⟨t',rfl⟩:=ry
 exact rule i j t t' s _ _ hc ⟨.int (g i j),H,I.tok _,⟨_,rfl⟩,q⟩
theorem opI0{g:Int->Int->Int}(rule:∀ (i j:Int) (t u:Tok) (s:Shared) (Q:Value->Shared->Prop) (E:Value->Shared->Prop),Q (.int (g i j) s.toks) { s with toks:=s.toks+1 }->wpAny (model X.prog X.w) X.A (f (.int i t) (.int j u)) Q E s):
  OpR X f (rI0 fun i j=>.int (g i j)):=by
 intro pins s σ H x y v u Q I rx ry h
 obtain⟨i,j,rfl,rfl,q⟩:=h
 obtain⟨t,rfl⟩:=rx
 obtain⟨t',rfl⟩:=ry
 exact rule i j t t' s _ _ ⟨.int (g i j),H,I.tok _,⟨_,rfl⟩,q⟩
theorem opB0{g:Int->Int->Bool}(rule:∀ (i j:Int) (t u:Tok) (s:Shared) (Q:Value->Shared->Prop) (E:Value->Shared->Prop),Q (.bool (g i j)) s->wpAny (model X.prog X.w) X.A (f (.int i t) (.int j u)) Q E s):
  OpR X f (rI0 fun i j=>.bl (g i j)):=by
 intro pins s σ H x y v u Q I rx ry h
 obtain⟨i,j,rfl,rfl,q⟩:=h
 obtain⟨t,rfl⟩:=rx
 obtain⟨t',rfl⟩:=ry
 exact rule i j t t' s _ _ ⟨.bl (g i j),H,I,rfl,q⟩
def Han(i j:Int):Prop:=0<=j/\j<=1000000/\i.natAbs<2^64
def CMul(i j:Int):Prop:=(-(2^64)<i/\i<2^64)\/(-(2^64)<j/\j<2^64)
theorem CMul.ok{i j:Int}(h:CMul i j):IntMulOk i j:=by
 rcases h with⟨h1,h2⟩ | ⟨h1,h2⟩
 ·exact .of_left (intBits_le_64 h1 h2)
 ·exact .of_right (intBits_le_64 h1 h2)
theorem Gtg:OpR X (binaryOp .Add) (rI0 fun i j=>.int (i+j)):=opI0 fun _ _ _ _ _ _ _ q=>add_int q
theorem Gth:OpR X (binaryOp .Sub) (rI0 fun i j=>.int (i-j)):=opI0 fun _ _ _ _ _ _ _ q=>sub_int q
theorem Gti:OpR X (binaryOp .Mult) (rI CMul fun i j=>.int (i*j)):=opI fun _ _ _ _ _ _ _ hc q=>mul_int q hc.ok
theorem Gtj:OpR X (binaryOp .Mod) (rI (fun _ j=>0<j) fun i j=>.int (i%j)):=opI fun i j _ _ _ _ _ hc q=>by
 have h1:(0:Int)<j:=hc
 exact mod_int' (by omega) (by rw[Int.fmod_eq_emod_of_nonneg i (by omega)]; exact q)
theorem Gtk:OpR X (binaryOp .Pow) (rI Han fun i j=>.int (i^j.toNat)):=opI fun _ _ _ _ _ _ _ hc q=>pow_int_small hc.1 hc.2.1 hc.2.2 q
theorem unI{f:Value->Sem Value}{g:Int->Int}
  (rule:∀ (i:Int) (t:Tok) (s:Shared) (Q:Value->Shared->Prop) (E:Value->Shared->Prop),Q (.int (g i) s.toks) { s with toks:=s.toks+1 }->wpAny (model X.prog X.w) X.A (f (.int i t)) Q E s):
  UnR X f (rU fun i=>.int (g i)):=by
 intro pins s σ H x v Q I rx h
 obtain⟨i,rfl,q⟩:=h
 obtain⟨t,rfl⟩:=rx
 exact rule i t s _ _ ⟨.int (g i),H,I.tok _,⟨_,rfl⟩,q⟩
theorem Gtl:UnR X (unaryOp .USub) (rU fun i=>.int (-i)):=unI fun _ _ _ _ _ q=>neg_int q
end
section
variable{X:Cx}{a b c:Expr}{ta tb tc:TE}{pos:Pos}
theorem Gla{Q:VK}{k k':Bool}(I:Inv X pins σ H s)(q:Q (.bl k) H)(e:k=k'):EP X pins σ Q (.bool k') s:=by
 subst e
 exact⟨.bl k,H,I,rfl,q⟩
theorem Gix:OpR X (compareOp .Lt) (rI0 fun i j=>.bl (decide (i<j))):=opB0 fun _ _ _ _ _ _ _ q=>lt_int q
theorem Glb:OpR X (compareOp .LtE) (rI0 fun i j=>.bl (decide (i<=j))):=opB0 fun _ _ _ _ _ _ _ q=>le_int q
theorem Gxr:OpR X (compareOp .Gt) (rI0 fun i j=>.bl (decide (j<i))):=opB0 fun _ _ _ _ _ _ _ q=>gt_int q
theorem Grs:OpR X (compareOp .GtE) (rI0 fun i j=>.bl (decide (j<=i))):=opB0 fun _ _ _ _ _ _ _ q=>ge_int q
theorem Gtm:OpR X (compareOp .Is) (fun x y H Q=>y=.non/\Q (.bl (decide (x=.non))) H):=by
 intro pins s σ H x y v u Q I rx ry h
 obtain⟨rfl,q⟩:=h
 cases ry
 refine is_none_gen (Gla I q ?_)
 cases x<;>first
  | (cases rx; rfl)
  | (obtain⟨t,rfl⟩:=rx; rfl)
theorem Gou:OpR X (compareOp .IsNot) (fun x y H Q=>y=.non/\Q (.bl (!decide (x=.non))) H):=by
 intro pins s σ H x y v u Q I rx ry h
 obtain⟨rfl,q⟩:=h
 cases ry
 refine isnot_none_gen (Gla I q ?_)
 cases x<;>first
  | (cases rx; rfl)
  | (obtain⟨t,rfl⟩:=rx; rfl)
theorem OpR.or{r':R2}(h:OpR X f r)(h':OpR X f r'):OpR X f (fun x y H Q=>r x y H Q\/r' x y H Q):=by
 intro pins s σ H x y v u Q I rx ry q
 rcases q with q | q
 ·exact h pins s σ H x y v u Q I rx ry q
 ·exact h' pins s σ H x y v u Q I rx ry q
theorem nomark(b:Expr)(h:op≠.In:=by decide)(h2:op≠.NotIn:=by decide):behindInMarks op b=false:=by
 have e1:(op==CmpOp.In)=false:=by cases op<;>first | rfl | exact absurd rfl h
 have e2:(op==CmpOp.NotIn)=false:=by cases op<;>first | rfl | exact absurd rfl h2
 cases b<;>simp[behindInMarks,e1,e2]
theorem Gov(ho:OpR X (compareOp op) r)(ha:PE X a ta)(hb:PE X b tb)(hm:behindInMarks op b=false):PE X (.Compare a [op] [b] pos) (tOp r ta tb):=by
 intro pins s σ H Q I h
 exact wpAny_Compare1 (Gtf ha hb I h fun v u s2 x y H2 I2 rx ry q=>ho pins s2 σ H2 x y v u Q I2 rx ry q) hm
def Grt(t:TE):TT:=fun σ H Q=>t σ H fun x H'=>∃ k,x=.bl k/\Q k H'
theorem Gow(ho:OpR X (compareOp op) r)(ha:PE X a ta)(hb:PE X b tb)(hm:behindInMarks op b=false):PT X (.Compare a [op] [b] pos) (Grt (tOp r ta tb)):=by
 intro pins s σ H Q I h
 refine wpAny_isTrue_Compare1 (thn (ha pins s σ H _ I h) fun v s1 ⟨x,H1,I1,r1,q1⟩=>thn (hb pins s1 σ H1 _ I1 q1) fun u s2 ⟨y,H2,I2,r2,q2⟩=>
  thn (ho pins s2 σ H2 x y v u _ I2 r1 r2 q2) fun c s3 ⟨z,H3,I3,r3,k,e,q3⟩=>?_) hm
 subst e
 cases r3
 exact wpAny_truthy_bool ⟨H3,I3,q3⟩
def Glc(r r':R2)(ta tb tc:TE):TE:=fun σ H Q=>ta σ H fun x H1=>tb σ H1 fun y H2=>r x y H2 fun z H3=>∃ k,z=.bl k∧
 (if k=true then tc σ H3 fun w' H4=>r' y w' H4 Q else Q (.bl false) H3)
theorem Gld{op':CmpOp}{r':R2}(ho:OpR X (compareOp op) r)(ho':OpR X (compareOp op') r')(ha:PE X a ta)(hb:PE X b tb)(hc:PE X c tc)(hm:lastMarks [op,op'] [b,c]=false:=by with_unfolding_all rfl):PT X (.Compare a [op,op'] [b,c] pos) (Grt (Glc r r' ta tb tc)):=by
 intro pins s σ H Q I h
 refine isTrue_chain (thn (ha pins s σ H _ I h) fun v s1 ⟨x,H1,I1,r1,q1⟩=>test_link (thn (hb pins s1 σ H1 _ I1 q1) fun u s2 ⟨y,H2,I2,r2,q2⟩=>
  thn (ho pins s2 σ H2 x y v u _ I2 r1 r2 q2) fun d s3 ⟨z,H3,I3,r3,k,e,q3⟩=>?_)) hm
 subst e
 cases r3
 refine wpAny_truthy_bool ?_
 cases k with
 | false=>
  obtain⟨k',e',q'⟩:=q3
  cases e'
  exact ite_ff ⟨H3,I3,q'⟩
 | true=>
  refine ite_tt (test_last (thn (hc pins s3 σ H3 _ I3 q3) fun w' s4 ⟨z',H4,I4,r4,q4⟩=>thn (ho' pins s4 σ H4 y z' u w' _ I4 r2 r4 q4) fun d' s5 ⟨z2,H5,I5,r5,k2,e2,q5⟩=>?_))
  subst e2
  cases r5
  exact wpAny_truthy_bool ⟨H5,I5,q5⟩
def Gtn(K:PySem.W.Frag)(x:V)(H:Hp)(k:Bool):Prop:=
 match x with
 | .non=>k=false
 | .bl b=>k=b
 | .int i=>k=(i != 0)
 | .str y=>y.length<=sizeLine/\k=((y.length:Int) != 0)
 | .byt y=>y.size<=sizeLine/\k=((y.size:Int) != 0)
 | .ref p=>(∃ xs,SqL K H p xs/\k=!xs.isEmpty)\/(∃ xs,SqT K H p xs/\k=!xs.isEmpty)\/∃ kvs,H p=some (.dK kvs)/\k=!kvs.isEmpty
 | _=>False
theorem Ghw{κ:Type}{kvs:List (κ×V)}{vs:List (κ×Value)}(r:KV kvs vs):(!vs.isEmpty)=!kvs.isEmpty:=by
 cases r<;>rfl
theorem Gda{xs:List V}{its:List Value}(r:Vals xs its):(!its.toArray.isEmpty)=!xs.isEmpty:=by
 cases r<;>simp
theorem Gbv:(sizeLine:Nat)<2^63:=by rw[sizeLine_eq]; decide
theorem Gto:Ham X (fun x H Q=>∃ k,Gtn X.K x H k/\Q k H):=by
 intro pins s σ H x v Q I rx h
 obtain⟨k,e,q⟩:=h
 have hl:=Gbv
 have hs:sizeLine=16777216:=sizeLine_eq
 cases x with
 | non=>
  cases rx
  have e':k=false:=e
  subst e'
  exact truthy_none ⟨H,I,q⟩
 | bl b=>
  cases rx
  have e':k=b:=e
  subst e'
  exact wpAny_truthy_bool ⟨H,I,q⟩
 | int i=>
  obtain⟨t,rfl⟩:=rx
  have e':k=(i != 0):=e
  subst e'
  exact PySem.P.truthy_int ⟨H,I,q⟩
 | str y=>
  obtain⟨t,rfl⟩:=rx
  obtain⟨hy,e'⟩:y.length<=sizeLine/\k=((y.length:Int) != 0):=e
  subst e'
  exact PySem.P.truthy_str (by omega) ⟨H,I.tok _,q⟩
 | byt y=>
  obtain⟨t,rfl⟩:=rx
  obtain⟨hy,e'⟩:y.size<=sizeLine/\k=((y.size:Int) != 0):=e
  subst e'
  exact PySem.W.truthy_bytes (by omega) ⟨H,I.tok _,q⟩
 | ref p=>
  cases rx
  have e':(∃ xs,SqL X.K H p xs/\k=!xs.isEmpty)\/(∃ xs,SqT X.K H p xs/\k=!xs.isEmpty)\/∃ kvs,H p=some (.dK kvs)/\k=!kvs.isEmpty:=e
  rcases e' with⟨xs,hx,e'⟩ | ⟨xs,hx,e'⟩ | ⟨kvs,hx,e'⟩
  ·subst e'
   obtain⟨its,r,pl,hz⟩:=I.list hx
   have hlen:=r.length
   exact wpAny_truthy_list pl.isList (by simp only[List.size_toArray]; omega) ⟨H,I.tok _,by rw[Gda r]; exact q⟩
  ·subst e'
   obtain⟨its,r,pl,hz⟩:=I.tuple hx
   have hlen:=r.length
   exact truthy_tuple pl (by simp only[List.size_toArray]; omega) ⟨H,I.tok _,by rw[Gda r]; exact q⟩
  ·subst e'
   obtain⟨hz,hS,vs,r,m⟩:kvs.length<=sizeLine/\(p==sysModules)=false/\∃ vs,KV kvs vs/\s.heap.DictOf (Gfi X.prog X.w) p vs:=I.hok p _ hx
   have hlen:kvs.length=vs.length:=Paired.length r
   exact wpAny_truthy_dict hS m (by omega) ⟨H,I.tok _,by rw[Ghw r]; exact q⟩
 | _=>exact(show False from e).elim
theorem Gle(ha:PE X a ta)(he:∀ whole,isTrue a X.env whole=(do let v <- whole; standAt a.pos; holding [v] (truthy v))):
  PT X a (fun σ H Q=>ta σ H fun x H'=>∃ k,Gtn X.K x H' k/\Q k H'):=by
 intro pins s σ H Q I h
 exact isTrue_plain (thn (ha pins s σ H _ I h) fun v s1 ⟨x,H1,I1,r1,q1⟩=>Gto pins s1 σ H1 x v Q I1 r1 q1) (he _)
theorem Ghx:OpR X (binaryOp .Add) (fun x y H Q=>∃ i j,x=.str i/\y=.str j/\i.length+j.length<=sizeLine/\Q (.str (i++j)) H):=by
 intro pins s σ H x y v u Q I rx ry h
 obtain⟨i,j,rfl,rfl,hz,q⟩:=h
 obtain⟨t,rfl⟩:=rx
 obtain⟨t',rfl⟩:=ry
 exact add_str (fun t' tk=>⟨.str (i++j),H,I.tok _,⟨_,rfl⟩,q⟩) hz
theorem Gce{x:V}(r:Vals [x] us):∃ u,us=[u]/\Hq x u:=by
 cases r with
 | cons r1 r2=>cases r2; exact⟨_,rfl,r1⟩
theorem Gxs{x y:V}(r:Vals [x,y] us):∃ u w',us=[u,w']/\Hq x u/\Hq y w':=by
 cases r with
 | cons r1 r2=>
  cases r2 with
  | cons r3 r4=>cases r4; exact⟨_,_,rfl,r1,r3⟩
theorem Gka(hc:X.calm=true):Zl X (.builtin "min") (fun xs H Q=>∃ i j,xs=[.int i,.int j]/\Q (.int (if j<i then j else i)) H):=by
 intro pins s σ H xs us Q I r h
 obtain⟨i,j,rfl,q⟩:=h
 obtain⟨u,w',rfl,⟨t,rfl⟩,⟨t',rfl⟩⟩:=Gxs r
 refine min_two_ints (I.ok.hd hc) fun h' tk k=>⟨_,H,I.kept k,?_,q⟩
 by_cases hj:j<i
 ·rw[if_pos hj,if_pos hj]; exact⟨_,rfl⟩
 ·rw[if_neg hj,if_neg hj]; exact⟨_,rfl⟩
theorem Gkb:Zl X (.type "int") (fun xs H Q=>(∃ i,xs=[.int i]/\Q (.int i) H)\/∃ k,xs=[.bl k]/\Q (.int (if k then 1 else 0)) H):=by
 intro pins s σ H xs us Q I r h
 rcases h with⟨i,rfl,q⟩ | ⟨k,rfl,q⟩
 ·obtain⟨u,rfl,t,rfl⟩:=Gce r
  exact call_int_int ⟨.int i,H,I,⟨_,rfl⟩,q⟩
 ·obtain⟨u,rfl,r1⟩:=Gce r
  cases r1
  exact call_int_bool ⟨.int (if k then 1 else 0),H,I.tok _,⟨_,rfl⟩,q⟩
def Gxt(K:PySem.W.Frag)(x:V)(H:Hp)(n:Nat):Prop:=
 match x with
 | .str y=>y.length<=sizeLine/\n=y.length
 | .byt y=>y.size<=sizeLine/\n=y.size
 | .ref p=>(∃ xs,SqL K H p xs/\n=xs.length)\/∃ xs,SqT K H p xs/\n=xs.length
 | _=>False
theorem Glf:Zl X (.builtin "len") (fun xs H Q=>∃ x n,xs=[x]/\Gxt X.K x H n/\Q (.int n) H):=by
 intro pins s σ H xs us Q I r h
 obtain⟨x,n,rfl,e,q⟩:=h
 obtain⟨u,rfl,rx⟩:=Gce r
 have hl:=Gbv
 have hs:sizeLine=16777216:=sizeLine_eq
 cases x with
 | str y=>
  obtain⟨t,rfl⟩:=rx
  obtain⟨hy,e'⟩:y.length<=sizeLine/\n=y.length:=e
  subst e'
  exact len_str (by omega) ⟨.int _,H,I.tok _,⟨_,rfl⟩,q⟩
 | byt y=>
  obtain⟨t,rfl⟩:=rx
  obtain⟨hy,e'⟩:y.size<=sizeLine/\n=y.size:=e
  subst e'
  exact PySem.W.len_bytes (by omega) ⟨.int _,H,I.tok _,⟨_,rfl⟩,q⟩
 | ref p=>
  cases rx
  have e':(∃ xs,SqL X.K H p xs/\n=xs.length)\/∃ xs,SqT X.K H p xs/\n=xs.length:=e
  rcases e' with⟨xs,hx,e'⟩ | ⟨xs,hx,e'⟩
  ·subst e'
   obtain⟨its,r',pl,hz⟩:=I.list hx
   have hlen:=r'.length
   exact Calls.call_len_list pl.isList (by simp only[List.size_toArray]; omega) ⟨.int xs.length,H,I.tok _,⟨_,by simp only[List.size_toArray]; rw[hlen]⟩,q⟩
  ·subst e'
   obtain⟨its,r',pl,hz⟩:=I.tuple hx
   have hlen:=r'.length
   exact len_tuple pl (by simp only[List.size_toArray]; omega) ⟨.int xs.length,H,I.tok _,⟨_,by simp only[List.size_toArray]; rw[hlen]⟩,q⟩
 | _=>exact(show False from e).elim
end
structure ObjM(h:Heap)(x dx C:Addr)(mA:Str->Option Value):Prop where
 obj:h.get? x=some (PySem.W.instObj C dx)
 ns:h.Ns1 dx mA
 ne:dx≠x
structure Cls(K:PySem.W.Frag)(C:Addr):Prop where
 pg:PySem.W.plainGet K C Str.empty=true
 hd:PySem.W.hasDictIn K C=true
 po:PySem.W.plainOver K C=true
 sa:PySem.W.findIn K (.ref C) "__setattr__"=some (some (.builtin "object.__setattr__"))
structure Con(K:PySem.W.Frag)(C:Addr)(f:Str)(v:V)(u:Value):Prop where
 at_:PySem.W.findIn K (.ref C) f=some (some u)
 rel:Hq v u
 get:PySem.W.specialIn K u "__get__"=some none
 cp:PySem.W.copiedNames.contains f=false
structure Meth(K:PySem.W.Frag)(C:Addr)(m:Str)(f:Addr):Prop where
 at_:PySem.W.findIn K (.ref C) m=some (some (.ref f))
 fn:PySem.W.isFn K (.ref f)=true
 kp:PySem.W.keepIn K (.ref f)=true
theorem Gox{E:Value->Shared->Prop}{prog:Program}{env:Env}{e:Expr}{f:Str}(hb:attributeBase e f env (eval e env)=eval e env)(h:wpAny (model prog w) A (eval e env) (fun o s₁=>wpAny (model prog w) A (getAttr o f true) Q E s₁) E s):wpAny (model prog w) A (eval (.Attribute e f pos) env) Q E s:=
 Attribute_any_ h (by rw[arm_eval_Attribute,hb])
section
variable{X:Cx}{pins:List (Addr×Obj)}{σ:St}{H:Hp}{s:Shared}{A:Around}{E:Value->Shared->Prop}{Q:Value->Shared->Prop}{c:Value}{b:Bool}
inductive TyOf(K:PySem.W.Frag)(H:Hp):V->Value->Prop where
 | non:TyOf K H .non (.type "NoneType")
 | bl (x:Bool):TyOf K H (.bl x) (.type "bool")
 | int (i:Int):TyOf K H (.int i) (.type "int")
 | str (x:Str):TyOf K H (.str x) (.type "str")
 | flt (x:UInt64):TyOf K H (.flt x) (.type "float")
 | lst {a:Addr} {xs:List V} (e:H a=some (.lst xs)):TyOf K H (.ref a) (.type "list")
 | frz {a:Addr} {o:Obj} {xs:List V} (e:H a=some (.frz o (.lst xs))):TyOf K H (.ref a) (.type "list")
 | tup {a:Addr} {xs:List V} (e:H a=some (.tup xs)):TyOf K H (.ref a) (.type "tuple")
 | dK {a:Addr} {kvs:List (Key×V)} (e:H a=some (.dK kvs)):TyOf K H (.ref a) (.type "dict")
 | dT {a:Addr} {kvs:List (List Key×V)} (e:H a=some (.dT kvs)):TyOf K H (.ref a) (.type "dict")
 | ins {a C dx:Addr} {fs:List (Str×V)} (e:H a=some (.ins C dx fs)) (cl:Cls K C) (ha:PySem.W.findIn K (.ref C) "__class__"=some (some (.builtin "object.__class__")))
   (hn:PySem.W.specialIn K (.builtin "object.__class__") "__get__"=some (some (.builtin "getset_descriptor.__get__"))) (htk:PySem.W.takesIn K (.builtin "object.__class__")=some true)
   (hm:PySem.W.mroIn K C (.type "object")=some true):TyOf K H (.ref a) (.ref C)
end
structure Room(k:Nat)(A:Around):Prop where
 hd:A.handled=none
 dp:A.depth+3*k+5<recursionLimit
 un:A.units+16*k+200<cLine
 gd:A.guards=some []
theorem Room.mono(r:Room k A)(h:j<=k):Room j A:=⟨r.hd,by have:=r.dp; omega,by have:=r.un; omega,r.gd⟩
theorem Room.deeper(r:Room (k+1) A)(env:Env):Room k (A.deeper env):=
 ⟨r.hd,by have:=r.dp; show A.depth+1+3*k+5<_; omega,by have:=r.un; show A.units+3+16*k+200<_; omega,by first | exact r.gd | (simpa[Around.deeper] using r.gd)⟩
theorem Gdb{C:Addr}{kw:List (Str×Value)}:(A.under (.builtin "type.__call__" ⟨.ref C::us,kw⟩)).depth=A.depth+1:=by
 first | rfl | simp[Around.under,Code.weight,Code.isCreation,Code.isGuard,Code.isCaller,Code.frames,Code.isFrame,guardIds]
theorem Gdc{C:Addr}{kw:List (Str×Value)}:(A.under (.builtin "type.__call__" ⟨.ref C::us,kw⟩)).units=A.units+1:=by
 first | rfl | simp[Around.under,Code.cUnits,Code.frames,Code.isFrame]
theorem Room.make(r:Room (k+1) A)(C:Addr)(us:List Value)(kw:List (Str×Value)):Room k (A.under (.builtin "type.__call__" ⟨.ref C::us,kw⟩)):=
 ⟨r.hd,by have:=r.dp; rw[Gdb]; omega,by have:=r.un; rw[Gdc]; omega,by first | exact r.gd | (simpa[Around.under,pushGuards,Code.guards,Code.isGuard,guardIds] using r.gd)⟩
theorem Room.depth(r:Room k A):A.depth<recursionLimit:=by have:=r.dp; omega
theorem Room.units(r:Room k A):A.units+64<cLine:=by have:=r.un; omega
def Gtp:TA:=fun _ H Q=>Q [] H
def Ggy(ta:TE)(tr:TA):TA:=fun σ H Q=>ta σ H fun x H1=>tr σ H1 fun xs H2=>Q (x::xs) H2
section
variable{X:Cx}{e:Expr}{es:List Expr}{te:TE}{t:TA}{pos:Pos}
theorem pa_nil:PA X [] Gtp:=fun _ _ _ _ H Q I h=>Calls.spliced_nil ⟨[],H,I,.nil,h⟩
theorem Qa(ha:PE X e te)(hr:PA X es t)(hs:starEach (e::es) X.env=(false,eval e X.env)::starEach es X.env:=by rfl):PA X (e::es) (Ggy te t):=by
 intro pos pins s σ H Q I h
 rw[hs]
 show wpAny _ _ (spliced ((false,eval e X.env)::backTo pos (starEach es X.env))) _ _ s
 refine Calls.spliced_cons (thn (ha pins s σ H _ I h) fun u s1 ⟨x,H1,I1,r1,q1⟩=>?_)
 exact thn (hr pos pins s1 σ H1 _ I1 q1) fun us s2 ⟨xs,H2,I2,r2,q2⟩=>⟨x::xs,H2,I2,.cons r1 r2,q2⟩
def Hao(t:TA):TE:=fun σ H Q=>t σ H fun xs H1=>xs.length<=sizeLine/\∀ p,H1 p=none->Q (.ref p) (upd H1 p (.tup xs))
def Hap(t:TA):TE:=fun σ H Q=>t σ H fun xs H1=>xs.length<=sizeLine/\∀ p,H1 p=none->Q (.ref p) (upd H1 p (.lst xs))
theorem Gtq{x1}(h:PA X es t):PE X (.Tuple es x1 pos) (Hao t):=by
 intro pins s σ H Q I hq
 refine wpAny_Tuple_spliced (thn (h pos pins s σ H _ I hq) fun us s1 ⟨xs,H1,I1,r,z,q⟩=>⟨by rw[<- r.length]; exact z,?_⟩)
 have hf:H1 s1.heap.objs.size=none:=I1.hok.fresh (Nat.le_refl _)
 refine⟨.ref s1.heap.objs.size,upd H1 s1.heap.objs.size (.tup xs),I1.laid (t':=s1.toks) (fun b u e=>Heap.get?_push_of_some _ e) (Nat.le_refl _) ?_,rfl,q _ hf⟩
 exact⟨z,us,r,⟨_,Heap.get?_push_size _ rfl,rfl,_,rfl⟩⟩
theorem Gtr(h:PA X es t):PE X (.List es pos) (Hap t):=by
 intro pins s σ H Q I hq
 refine wpAny_List_spliced (thn (h pos pins s σ H _ I hq) fun us s1 ⟨xs,H1,I1,r,z,q⟩=>⟨by rw[<- r.length]; exact z,?_⟩)
 have hf:H1 s1.heap.objs.size=none:=I1.hok.fresh (Nat.le_refl _)
 refine⟨.ref s1.heap.objs.size,upd H1 s1.heap.objs.size (.lst xs),I1.laid (t':=s1.toks) (fun b u e=>Heap.get?_push_of_some _ e) (Nat.le_refl _) ?_,rfl,q _ hf⟩
 exact⟨z,us,0,r,Heap.get?_push_size _ rfl⟩
end
abbrev Sp:=List V->Hp->VK->XK->Prop
abbrev CXT:=List Env->Hp->Shared->XK->Value->Shared->Prop
variable{CX:CXT}
structure Env0(P:Program)(w:World)(K:PySem.W.Frag)(mg:Str->Option Value)(base:Heap)(A:Around)(outer:List Env)(s:Shared)(H:Hp):Prop where
 frames:A.frames=some outer
 mod:Mod K mg base
 bs:∀ b o,base.get? b=some o->s.heap.get? b=some o/\H b=none
 bsz:base.objs.size<=s.heap.objs.size
 funs:s.heap.FunFrames base outer
 frf:∀ b∈frs outer,H b=none
 hok:HOk P w H s.heap
 bare:AllBare s.gens
def CE(outer:List Env)(P:Program)(w:World)(H:Hp)(s:Shared)(Q:VK)(u:Value)(s':Shared):Prop:=
 ∃ v H',s'.os=s.os/\AllBare s'.gens/\Un (frs outer) [] H H' s.heap s'.heap/\HOk P w H' s'.heap/\Hq v u/\Q v H'
def CR(CX:CXT)(outer:List Env)(P:Program)(w:World)(H:Hp)(s:Shared)(Q:VK)(E:XK)(r:Result)(s':Shared):Prop:=
 match r with
 | .ok (.ret u)=>CE outer P w H s Q u s'
 | .ok _=>False
 | .error e=>CX outer H s E e s'
structure FnOk(P:Program)(w:World)(K:PySem.W.Frag)(mg:Str->Option Value)(base:Heap)(CX:CXT)(k:Nat)(f:Addr)(fd:FuncData)(ps:List Str)(sp:Sp):Prop where
 len:∀ vs H Q E,sp vs H Q E->vs.length=ps.length
 run:∀ (A:Around) (outer:List Env) (s:Shared) (H:Hp) (args:Args) (us:List Value) (vs:List V) (Q:VK) (E:XK),Room k A->Env0 P w K mg base A outer s H->BindsTo s fd args (ps.zip us)->Vals vs us->sp vs H Q E→
  codeAny (model P w) A (.call (.ref f) args) (CR CX outer P w H s Q E) s
theorem FnOk.mono{f:Addr}{fd:FuncData}{sp:Sp}(F:FnOk P w K mg base CX j f fd ps sp)(h:j<=k):
  FnOk P w K mg base CX k f fd ps sp:=⟨F.len,fun A outer s H args us vs Q E hr=>F.run A outer s H args us vs Q E (hr.mono h)⟩
theorem Env0.make{outer:List Env}(e:Env0 P w K mg base A outer s H)(C:Addr)(us:List Value)(kw:List (Str×Value)):
  Env0 P w K mg base (A.under (.builtin "type.__call__" ⟨.ref C::us,kw⟩)) outer s H:=⟨by first | exact e.frames | (simpa[Around.under,Code.envs,Code.isFrame,pushEnvs] using e.frames),e.mod,e.bs,e.bsz,e.funs,e.frf,e.hok,e.bare⟩
section
variable{X:Cx}{pins:List (Addr×Obj)}{σ:St}{H:Hp}{s s':Shared}
theorem Inv.env0(I:Inv X pins σ H s):Env0 X.prog X.w X.K X.mg X.base X.A X.stack s H:=
 ⟨I.ok.frames,I.ok.mod,I.bs,Nat.le_trans I.ok.bsz I.sz,I.stack,I.stkFree,I.hok,I.bare⟩
theorem Inv.after{Q:VK}(I:Inv X pins σ H s)(h:CE X.stack X.prog X.w H s Q u s'):EP X pins σ Q u s':=by
 obtain⟨v,H',os,bare,un,hok,r,q⟩:=h
 obtain⟨hh,g,d,t,os'⟩:=s'
 obtain rfl:os'=s.os:=os
 exact⟨v,H',I.call (h':=hh) (g':=g) (d':=d) (t':=t) (ch:=[]) un hok bare (fun b z=>absurd z (by simp)),r,q⟩
end
def Gxu(sp:Sp)(dvs:List V)(E:XK)(t:TA):TE:=fun σ H Q=>t σ H fun vs H1=>sp (vs++dvs) H1 Q E
def Binds(K:PySem.W.Frag)(fd:FuncData)(ps:List Str)(ds:List Value):Prop:=
 ∀ (s:Shared) (us:List Value),K.In s.heap->(us++ds).length=ps.length->BindsTo s fd ⟨us,[]⟩ (ps.zip (us++ds))
theorem Binds.all{fd:FuncData}(h:∀ us:List Value,us.length=ps.length->bindArgs fd ⟨us,[]⟩=pure (ps.zip us)):Binds K fd ps []:=fun s us _ hl=>by
 rw[List.append_nil] at hl ⊢
 exact .of_eq (h us hl)
def Passes(CX:CXT)(X:Cx)(E:XK):Prop:=∀ (pins:List (Addr×Obj)) (σ:St) (H:Hp) (s:Shared) (e:Value) (s':Shared),Inv X pins σ H s->CX X.stack H s E e s'->X.xe e s'
section
variable{X:Cx}{CX:CXT}{k:Nat}{f C:Addr}{fd:FuncData}{ps:List Str}{sp:Sp}{dvs:List V}{ds:List Value}{E:XK}{x m:Str}{p pos apos:Pos}{e o:Expr}{es:List Expr}{ta:TE}{t:TA}
theorem Gts{Q:VK}{vs:List V}(F:FnOk X.prog X.w X.K X.mg X.base CX k f fd ps sp)(hr:Room k X.A)(hb:Binds X.K fd ps ds)(hd:Vals dvs ds)(hx:Passes CX X E)(I:Inv X pins σ H s)(r:Vals vs us)(h:sp (vs++dvs) H Q E):wpAny (model X.prog X.w) X.A (call (.ref f) us) (EP X pins σ Q) X.xe s:=by
 have r2:Vals (vs++dvs) (us++ds):=r.append hd
 have hl:(us++ds).length=ps.length:=by rw[<- r2.length]; exact F.len _ _ _ _ h
 refine wpAny_call (codeAny_mono (F.run X.A X.stack s H ⟨us,[]⟩ (us++ds) (vs++dvs) Q E hr I.env0 (hb s us I.kIn hl) r2 h) fun r s' hq=>?_)
 cases r with
 | error e=>exact hx pins σ H s e s' I hq
 | ok fl=>
  cases fl with
  | ret u=>exact I.after hq
  | next=>exact False.elim hq
  | brk=>exact False.elim hq
  | cont=>exact False.elim hq
theorem Goy(F:FnOk X.prog X.w X.K X.mg X.base CX k f fd ps sp)(hr:Room k X.A)(hg:Gl X x)(hm:X.mg x=some (.ref f))(hk:PySem.W.keepIn X.K (.ref f)=true)(hb:Binds X.K fd ps ds)(hd:Vals dvs ds)(hx:Passes CX X E)
  (ha:PA X (e::es) t) (hdb:(x==("__debug__":Str))=false:=by decide) (he:starEach (e::es) X.env=(false,eval e X.env)::starEach es X.env:=by rfl) (hpl:(backTo pos (starEach es X.env)).any (·.1)=false:=by rfl):
  PE X (.Call (.Name x p) (e::es) [] pos) (Gxu sp dvs E t):=by
 intro pins s σ H Q I h
 refine wpAny_Call_Name_kw (Yh I hg hm ?_ hdb)
 refine PySem.W.callWith_K (h₀:=X.base) I.ok.mod.kin hk (thn (ha pos pins s σ H _ I h) fun us s1 ⟨vs,H1,I1,r,q⟩=>⟨I1.kIn,?_⟩) he hpl
 exact Gts F hr hb hd hx I1 r q
structure Mk(K:PySem.W.Frag)(C f:Addr):Prop where
 makes:PySem.W.makesIn K C=true
 init:PySem.W.findIn K (.ref C) "__init__"=some (some (.ref f))
 fn:PySem.W.isFn K (.ref f)=true
 kp:PySem.W.keepIn K (.ref C)=true
end
section
variable{X:Cx}{CX:CXT}{k:Nat}{f C:Addr}{fd:FuncData}{ps ks:List Str}{sp:Sp}{E:XK}{x m:Str}{p pos apos kpos:Pos}{e o:Expr}{es:List Expr}{kws:List Keyword}{te ta:TE}{t tk:TA}{nm:Option Str}
structure KBinds(K:PySem.W.Frag)(fd:FuncData)(ps ks:List Str)(g:List Value->List Value->List Value)(gV:List V->List V->List V):Prop where
 to:∀ (s:Shared) (us ws:List Value),K.In s.heap->(g us ws).length=ps.length->BindsTo s fd ⟨us,ks.zip ws⟩ (ps.zip (g us ws))
 rel:∀ {vs:List V} {us:List Value} {zs:List V} {ws:List Value},Vals vs us->Vals zs ws->Vals (gV vs zs) (g us ws)
variable{g:List Value->List Value->List Value}{gV:List V->List V->List V}
end
structure FnScope(N P:List Str)(sc:Scope):Prop where
 kind:sc.kind=.function
 co:sc.isCoroutine=false
 gen:sc.isGenerator=false
 nd:N.Nodup
 pre:N.take P.length=P
 par:∀ x∈P,sc.names.lookup x=some .local\/sc.names.lookup x=some .cell
 nofree:∀ y∈sc.names,y.2≠.free
theorem Ge2{kindOf:Str->Option NameKind}{x:Str}:∀ {binds:List (Str×Value)} {m:Str->Option Value},(∀ v,(x,v)∉binds)->bindL kindOf binds m x=m x
 | [],_,_=>rfl
 | (n,v)::r,m,h=>by
  unfold bindL
  rw[Ge2 fun w hw=>h w (List.mem_cons_of_mem _ hw)]
  split
  ·have:x≠n:=by rintro rfl; exact h v List.mem_cons_self
   simp[this]
  ·rfl
theorem Ge3{kindOf:Str->Option NameKind}{x:Str}:∀ {binds:List (Str×Value)} {m:Str->Option Value},(∀ v,(x,v)∉binds)->bindC kindOf binds m x=m x
 | [],_,_=>rfl
 | (n,v)::r,m,h=>by
  unfold bindC
  rw[Ge3 fun w hw=>h w (List.mem_cons_of_mem _ hw)]
  split
  ·rfl
  ·have:x≠n:=by rintro rfl; exact h v List.mem_cons_self
   simp[this]
theorem Ge4{kindOf:Str->Option NameKind}{x:Str}{v:Value}:∀ {P:List Str} {vs:List Value} {i:Nat} {m:Str->Option Value},P.Nodup->P[i]?=some x->vs[i]?=some v->kindOf x=some .local→
  bindL kindOf (P.zip vs) m x=some v
 | [],_,_,_,_,h,_,_=>by simp at h
 | _::_,[],_,_,_,_,h,_=>by simp at h
 | p::P,w::vs,0,m,nd,h1,h2,hk=>by
  simp at h1 h2; subst h1; subst h2
  show bindL kindOf ((p,w)::P.zip vs) m p=_
  unfold bindL
  rw[Ge2 fun v hv=>(List.nodup_cons.mp nd).1 (List.of_mem_zip hv).1,if_pos hk]
  simp
 | p::P,w::vs,i+1,m,nd,h1,h2,hk=>by
  show bindL kindOf ((p,w)::P.zip vs) m x=_
  unfold bindL
  exact Ge4 (i:=i) (List.nodup_cons.mp nd).2 (by simpa using h1) (by simpa using h2) hk
theorem Ge5{kindOf:Str->Option NameKind}{x:Str}{v:Value}:∀ {P:List Str} {vs:List Value} {i:Nat} {m:Str->Option Value},P.Nodup->P[i]?=some x->vs[i]?=some v->kindOf x≠some .local→
  bindC kindOf (P.zip vs) m x=some v
 | [],_,_,_,_,h,_,_=>by simp at h
 | _::_,[],_,_,_,_,h,_=>by simp at h
 | p::P,w::vs,0,m,nd,h1,h2,hk=>by
  simp at h1 h2; subst h1; subst h2
  show bindC kindOf ((p,w)::P.zip vs) m p=_
  unfold bindC
  rw[Ge3 fun v hv=>(List.nodup_cons.mp nd).1 (List.of_mem_zip hv).1,if_neg hk]
  simp
 | p::P,w::vs,i+1,m,nd,h1,h2,hk=>by
  show bindC kindOf ((p,w)::P.zip vs) m x=_
  unfold bindC
  exact Ge5 (i:=i) (List.nodup_cons.mp nd).2 (by simpa using h1) (by simpa using h2) hk
def start(N:List Str)(vs:List V):St:=vs.map some++List.replicate (N.length-vs.length) none
def Vd(CX:CXT)(P:Program)(w:World)(K:PySem.W.Frag)(mg:Str->Option Value)(base:Heap)(N:List Str)(qual:Str)(scope:Scope)(f:Addr)(cd:Value)(A:Around)(outer:List Env)(s:Shared)(H:Hp)(E:XK):Cx where
 prog:=P
 w:=w
 K:=K
 mg:=mg
 base:=base
 A:=A.deeper (envOfC qual scope s.heap.objs.size f cd)
 N:=N
 s₀:=s
 H₀:=H
 env:=envOfC qual scope s.heap.objs.size f cd
 outer:=outer
 stack:=envOfC qual scope s.heap.objs.size f cd::outer
 ex:=[]
 calm:=true
 fn:=fun _=>true
 pn:=[]
 xe:=fun e s'=>wpAny (model P w) (A.deeper (envOfC qual scope s.heap.objs.size f cd)) (leaving (envOfC qual scope s.heap.objs.size f cd) e) (fun _ s''=>CX outer H s E e s'') (fun e' s''=>CX outer H s E e' s'') s'
theorem Ggz{sc:Scope}{n:Nat}(h:sc.names.lookup x=some .cell):∃ c,(cellsFrom n sc.names []).lookup x=some c:=by
 have q:=PySem.W.cellsFrom_some sc.names n [] (.inl h)
 exact Option.isSome_iff_exists.mp q
theorem Ge6{qual:Str}{scope:Scope}{f:Addr}{cd:Value}{outer:List Env}{s1:Shared}{E:XK}{vs:List V}(S:FnScope N ps scope)(hd:A.handled=none)(e0:Env0 P w K mg base A outer s H)(hl:vs.length=ps.length)(r:Vals vs us)(x:InCallC s s.heap.objs.size (bindL (envOfC qual scope s.heap.objs.size f cd).kindOf (ps.zip us) fun _=>none) (cellsFrom (s.heap.objs.size+1) scope.names []) (bindC (envOfC qual scope s.heap.objs.size f cd).kindOf (ps.zip us) fun _=>none) s1):
  Inv (Vd CX P w K mg base N qual scope f cd A outer s H E) [] (start N vs) H s1:=by
 have hpl:ps.length<=N.length:=by have:=congrArg List.length S.pre; rw[List.length_take] at this; omega
 obtain⟨h1,tk,rfl,hk⟩:=x.done
 have noA:∀ b:Addr,b∉(Vd CX P w K mg base N qual scope f cd A outer s H E).ex:=fun b z=>absurd (show b∈([]:List Addr) from z) (by simp)
 refine⟨⟨e0.mod,S.kind,rfl,rfl,Nat.le_refl _,fun y z c h1 h2=>?_,fun y hy=>?_,fun y c _ h=>?_,fun _=>hd,Around.frames_deeper e0.frames,.inr ⟨rfl,rfl⟩,fun b z=>absurd z (noA b),e0.bs,e0.bsz,fun b _ _=>noA b,fun b z=>absurd z (noA b),e0.funs,e0.frf⟩,
  rfl,e0.bare,Un.kept hk,⟨_,x.toInCall.ns,fun i y v h1 h2 h3=>?_⟩,fun y c h=>⟨_,x.cell y c h⟩,e0.hok.fresh (Nat.le_refl _),fun y c h=>?_,fun p hp=>absurd (show p∈([]:List (Addr×Obj)) from hp) (by simp),e0.hok.kept hk,?_⟩
 ·exact name_of_addr x.apart (PySem.mem_of_lookup h1) (PySem.mem_of_lookup h2)
 ·have hy:scope.names.lookup y=some .cell\/scope.names.lookup y=some .free:=hy
  rcases hy with hy | hy
  ·exact Ggz hy
  ·exact absurd rfl (S.nofree _ (PySem.mem_of_lookup hy))
 ·exact Nat.le_of_lt (x.above y c (PySem.mem_of_lookup h))
 ·have hi:i<vs.length:=by
   unfold start at h2
   by_cases hi:i<vs.length
   ·exact hi
   ·rw[List.getElem?_append_right (by simpa using hi)] at h2
    rw[List.getElem?_replicate] at h2
    split at h2<;>cases h2
  have ha:vs[i]?=some v:=by
   unfold start at h2
   rw[List.getElem?_append_left (by simpa using hi),List.getElem?_map] at h2
   cases e:vs[i]? with
   | none=>rw[e] at h2; cases h2
   | some a=>rw[e] at h2; cases h2; rfl
  obtain⟨u,hu,rv⟩:=r.get ha
  have hp:ps[i]?=some y:=by
   rw[<- S.pre,List.getElem?_take_of_lt (by omega)]; exact h1
  have ndP:ps.Nodup:=by rw[<- S.pre]; exact S.nd.sublist (List.take_sublist _ _)
  refine⟨u,rv,?_⟩
  rcases S.par y (List.mem_of_getElem? hp) with k | k
  ·exact .inl ⟨k,Ge4 ndP hp hu k⟩
  ·obtain⟨c,e⟩:=Ggz (n:=s.heap.objs.size+1) k
   refine .inr ⟨.inl k,c,e,?_⟩
   have q:=x.cell y c e
   rw[Ge5 ndP hp hu (by show scope.names.lookup y≠_; rw[k]; decide)] at q
   exact q
 ·exact e0.hok.fresh (Nat.le_of_lt (x.above y c (PySem.mem_of_lookup h)))
 ·unfold start
  show _=N.length
  rw[List.length_append,List.length_map,List.length_replicate]
  omega
theorem Gru{f:Addr}{name qual:Str}{params:Arguments}{body:List Stmt}{scope:Scope}{dV kV doc pm cdv ct oc:Value}{an od:Option Addr}{osl:Array (Option Value)}{sp:Sp}(lk:K.lookup f=some ⟨oc,od,.func (PySem.W.fnOf name qual params body scope dV kV doc pm an cdv ct),osl⟩)(hcd:PySem.W.codeIn K cdv qual=true)(S:FnScope N ps scope)(len:∀ vs H Q E,sp vs H Q E->vs.length=ps.length)(hbody:∀ (A:Around) (outer:List Env) (s:Shared) (H:Hp) (vs:List V) (Q:VK) (E:XK),Room k (A.deeper (envOfC qual scope s.heap.objs.size f cdv))->sp vs H Q E→
   ∃ t,PSs (Vd CX P w K mg base N qual scope f cdv A outer s H E) body t/\t { nx:=fun _ H'=>Q .non H',rt:=Q } (start N vs) H):
  FnOk P w K mg base CX (k+1) f (PySem.W.fnOf name qual params body scope dV kV doc pm an cdv ct) ps sp:=by
 refine⟨len,fun A outer s H args us vs Q E hr e0 hb r hsp=>?_⟩
 have hl:=len _ _ _ _ hsp
 have KX:K.In s.heap:=e0.mod.kin.keeps fun b o e=>(e0.bs b o e).1
 have lim:s.heap.NoLimit:=e0.mod.nolimit.keeps fun b o e=>(e0.bs b o e).1
 have hkind:∀ y∈ps.zip us,scope.names.lookup y.1=some .local\/(scope.names.lookup y.1=some .cell/\((cellsFrom (s.heap.objs.size+1) scope.names []).lookup y.1).isSome=true):=fun⟨n,v⟩ hy=>by
  rcases S.par n (List.of_mem_zip hy).1 with q | q
  ·exact .inl q
  ·exact .inr ⟨q,PySem.W.cellsFrom_some _ _ _ (.inl q)⟩
 refine codeAny_call_function hr.depth (KX _ _ lk) rfl S.co S.gen rfl (PySem.W.codeRec_of KX hcd) (hb _ _ _ _ ?_)
 refine wpAny_newFunctionEnv_cells S.kind hkind fun env he s1 x=>?_
 subst he
 refine⟨lim.keeps x.toInCall.keep,codeAny_func ?_⟩
 obtain⟨t,ht,hq⟩:=hbody A outer s H vs Q E (hr.deeper _) hsp
 have I:Inv (Vd CX P w K mg base N qual scope f cdv A outer s H E) [] (start N vs) H s1:=Ge6 S hr.hd e0 hl r x
 refine wpAny_mono (ht [] s1 (start N vs) H _ I hq) (fun fl s' hs=>?_) fun e s' hs=>hs
 have fin:∀ {σ':St} {H':Hp} {v:V} {u:Value},Inv (Vd CX P w K mg base N qual scope f cdv A outer s H E) [] σ' H' s'->Hq v u->Q v H'->CE outer P w H s Q u s':=
  fun{σ' H' v u} J rv q=>⟨v,H',J.os,J.bare,J.base,J.hok,rv,q⟩
 cases fl with
 | ret u=>
  obtain⟨v,σ',H',J,rv,q⟩:=hs
  exact fin J rv q
 | next=>
  obtain⟨σ',H',J,q⟩:=hs
  exact fin (v:=V.non) (u:=Value.none) J rfl q
 | brk=>
  obtain⟨_,_,_,q⟩:=hs
  exact False.elim q
 | cont=>
  obtain⟨_,_,_,q⟩:=hs
  exact False.elim q
section
variable{X:Cx}{x:Str}{p pos:Pos}{e:Expr}{es:List Expr}{t:TA}{id T:String}{r:List V->Hp->VK->Prop}
def tCB(r:List V->Hp->VK->Prop)(t:TA):TE:=fun σ H Q=>t σ H fun vs H1=>r vs H1 Q
theorem Gbb(hc:Zl X (.builtin id) r)(hg:Gl X x)(hm:X.mg x=none)(hv:bootBuiltins x=some (.builtin id))(ha:PA X (e::es) t)(hn:x≠"__name__":=by decide)(hdb:(x==("__debug__":Str))=false:=by decide)
  (he:starEach (e::es) X.env=(false,eval e X.env)::starEach es X.env:=by rfl) (hpl:(backTo pos (starEach es X.env)).any (·.1)=false:=by rfl):PE X (.Call (.Name x p) (e::es) [] pos) (tCB r t):=by
 intro pins s σ H Q I h
 refine wpAny_Call_Name_kw (Ga0 I hg hm hv ?_ hn hdb)
 exact PyProof.Rows.callWith_builtin1 (thn (ha pos pins s σ H _ I h) fun us s1 ⟨vs,H1,I1,r1,q1⟩=>hc pins s1 σ H1 vs us Q I1 r1 q1) he hpl
theorem Gkc(hc:Zl X (.type T) r)(hg:Gl X x)(hm:X.mg x=none)(hv:bootBuiltins x=some (.type T))(ha:PA X (e::es) t)(hn:x≠"__name__":=by decide)(hdb:(x==("__debug__":Str))=false:=by decide)
  (he:starEach (e::es) X.env=(false,eval e X.env)::starEach es X.env:=by rfl) (hpl:(backTo pos (starEach es X.env)).any (·.1)=false:=by rfl):PE X (.Call (.Name x p) (e::es) [] pos) (tCB r t):=by
 intro pins s σ H Q I h
 refine wpAny_Call_Name_kw (Ga0 I hg hm hv ?_ hn hdb)
 exact PyProof.Rows.callWith_type1 (thn (ha pos pins s σ H _ I h) fun us s1 ⟨vs,H1,I1,r1,q1⟩=>hc pins s1 σ H1 vs us Q I1 r1 q1) he hpl
end
end L2
namespace HT
open PySem PyProof.Rows
section
open PySem.SeqAt
open PySem.AutoSeq1 (wpAny_loadPart')
open PySem.MeetsSeq PySem.MeetsSeq2 PySem.MeetsSeq3
end
section
variable{prog:Program}{w:World}{A:Around}{E:Value->Shared->Prop}{s:Shared}
theorem Goz{t b:Addr}{vs ws:List Value}{Q:Value->Shared->Prop}(ht:IsTup s.heap t vs.toArray)(hb:IsTup s.heap b ws.toArray)(hv:vs≠[])
  (h1:ws=[]->Q (.ref t) s) (h2:ws≠[]->Q (.ref s.heap.objs.size) { s with heap:=s.heap.push { cls:=.type "tuple",data:=.seq (vs++ws).toArray } })
  (hsz:vs.length+ws.length<=sizeLine):wpAny (model prog w) A (binaryOp .Add (.ref t) (.ref b)) Q E s:=by
 obtain⟨⟨cls,dd,data,sl⟩,ho,hc,n,hd⟩:=id ht
 obtain⟨⟨cls2,dd2,data2,sl2⟩,ho2,hc2,n2,hd2⟩:=id hb
 simp only at hc hd hc2 hd2
 subst hc hd hc2 hd2
 have e:vs.toArray++ws.toArray=(vs++ws).toArray:=by simp
 by_cases hw:ws=[]
 ·exact concat_meets ⟨_,ho,rfl⟩ ⟨_,ho2,rfl⟩ noFill_tuple_add seq_tuple_add PySem.F.slot_tuple_add PySem.F.entry_tuple_add (PySem.F.args_tuple_add_2 _ _)
   (tuple_addW1 t b vs.toArray ws.toArray n n2 dd dd2 sl sl2 (by simpa using hv) (by simp[hw])) ⟨ho,ho2,h1 hw⟩
 ·refine concat_meets ⟨_,ho,rfl⟩ ⟨_,ho2,rfl⟩ noFill_tuple_add seq_tuple_add PySem.F.slot_tuple_add PySem.F.entry_tuple_add (PySem.F.args_tuple_add_2 _ _)
   (tuple_addW2 t b vs.toArray ws.toArray n n2 dd dd2 sl sl2 (by simpa using hv) (by simpa using hw) (by rw[List.size_toArray,List.size_toArray]; exact hsz)) ⟨ho,ho2,?_⟩
  rw[e]
  exact h2 hw
def sIx(n d:Nat):Option Int->Nat
 | none=>d
 | some v=>if v<0 then(v+(n:Int)).toNat else min v.toNat n
theorem Wb(n d:Nat):sIx n d none=d:=rfl
theorem Gam(n d k:Nat):sIx n d (some (k:Int))=min k n:=by
 show(if(k:Int)<0 then((k:Int)+(n:Int)).toNat else min (k:Int).toNat n)=min k n
 rw[if_neg (by omega),Int.toNat_natCast]
theorem Gtt(n d:Nat)(hd:d<=n)(o:Option Int):sIx n d o<=n:=by
 cases o with
 | none=>exact hd
 | some v=>
  show(if v<0 then(v+(n:Int)).toNat else min v.toNat n)<=n
  by_cases hv:v<0
  ·rw[if_pos hv]; omega
  ·rw[if_neg hv]; exact Nat.min_le_right _ _
theorem Giy(v:Int)(n d:Nat):(if v<0 then max (v+(n:Int)) 0 else min v (n:Int))=((sIx n d (some v):Nat):Int):=by
 show(if v<0 then max (v+(n:Int)) 0 else min v (n:Int))=(((if v<0 then(v+(n:Int)).toNat else min v.toNat n):Nat):Int)
 by_cases hv:v<0
 ·simp only[if_pos hv]; omega
 ·simp only[if_neg hv]; omega
theorem Ghy(lo hi:Option Int)(n:Nat):Builtin.Slice.sliceAdjust lo hi 1 (n:Int)=(((sIx n 0 lo:Nat):Int),((sIx n n hi:Nat):Int)):=by
 have h1:¬ ((1:Int)<0):=by omega
 unfold Builtin.Slice.sliceAdjust
 simp only[h1,if_false]
 refine Prod.ext ?_ ?_
 ·cases lo with
  | none=>rfl
  | some v=>exact Giy v n 0
 ·cases hi with
  | none=>rfl
  | some v=>exact Giy v n n
theorem Ghz(i j:Nat):Builtin.Slice.slicePlaces (i:Int) (j:Int) 1=j-i:=by
 unfold Builtin.Slice.slicePlaces
 have h1:(1:Int)>0:=by omega
 simp only[h1,if_true,Int.ediv_one]
 split<;>omega
theorem Gdd{v:Value}{o:Option Int}{Q:Option Int->Shared->Prop}(p:IsPart v o)(h:Q o s):wpAny (model prog w) A (Builtin.Slice.slicePartIndex v) Q E s:=by
 cases p with
 | none=>exact slicePart_none h
 | int i t=>exact slicePart_int h
theorem Xy{sl:Addr}{vl vu:Value}{lo hi:Option Int}{n:Nat}{Q:Int×Int×Nat->Shared->Prop}(hs:s.heap.IsSliceOf sl vl vu .none)(pl:IsPart vl lo)(pu:IsPart vu hi)
  (h:Q (((sIx n 0 lo:Nat):Int),1,sIx n n hi-sIx n 0 lo) s):wpAny (model prog w) A (Builtin.Slice.sliceApplied (.ref sl) (pure (n:Int))) Q E s:=by
 obtain⟨os,hos,hcs,hds⟩:=id hs
 unfold Builtin.Slice.sliceApplied Builtin.Slice.sliceFields
 refine wpAny_bind (wpAny_bind (wpAny_field hos hds (x:=vl) rfl (wpAny_bind (wpAny_field hos hds (x:=vu) rfl (wpAny_bind (wpAny_field hos hds (x:=.none) rfl (wpAny_pure ?_)))))))
 refine wpAny_bind (slicePart_none ?_)
 show wpAny _ _ (if((1:Int)==0)=true then _ else _) _ _ s
 rw[if_neg (by decide)]
 refine wpAny_bind (Gdd pl (wpAny_bind (Gdd pu (wpAny_bind (wpAny_pure ?_)))))
 show wpAny _ _ (match Builtin.Slice.sliceAdjust lo hi 1 (n:Int) with | (lo,hi)=>pure (lo,(1:Int),Builtin.Slice.slicePlaces lo hi 1)) _ _ s
 rw[Ghy lo hi n]
 show wpAny _ _ (pure (((sIx n 0 lo:Nat):Int),(1:Int),Builtin.Slice.slicePlaces ((sIx n 0 lo:Nat):Int) ((sIx n n hi:Nat):Int) 1)) _ _ s
 rw[Ghz]
 exact wpAny_pure h
theorem Glg(xs:Array Value)(i k:Nat):((List.range k).filterMap fun(m:Nat)=>xs[((i:Int)+(m:Int)*1).toNat]?).toArray=((xs.toList.drop i).take k).toArray:=by
 have e:(fun(m:Nat)=>xs[((i:Int)+(m:Int)*1).toNat]?)=fun m=>xs[i+m]?:=by
  funext m
  have:((i:Int)+(m:Int)*1).toNat=i+m:=by omega
  rw[this]
 rw[e]
 have:=pick_run xs i k
 rw[List.filterMap_map] at this
 have e2:((fun x=>xs[x]?)∘fun x=>i+x)=fun m=>xs[i+m]?:=rfl
 rw[e2] at this
 rw[this]
theorem Gbc{t sl:Addr}{items:Array Value}{vl vu:Value}{lo hi:Option Int}{Q:Value->Shared->Prop}(ht:IsTup s.heap t items)(hs:s.heap.IsSliceOf sl vl vu .none)(pl:IsPart vl lo)(pu:IsPart vu hi)
  (hw:¬ (sIx items.size 0 lo=0/\sIx items.size items.size hi=items.size))
  (h:Q (.ref s.heap.objs.size) { s with heap:=s.heap.push { cls:=.type "tuple",data:=.seq ((items.toList.drop (sIx items.size 0 lo)).take (sIx items.size items.size hi-sIx items.size 0 lo)).toArray } })
  (hsz:items.size<=sizeLine):wpAny (model prog w) A (getItem (.ref t) (.ref sl)) Q E s:=by
 have htake:sizeOk (.seq ((items.toList.drop (sIx items.size 0 lo)).take (sIx items.size items.size hi-sIx items.size 0 lo)).toArray):=by
  show((items.toList.drop (sIx items.size 0 lo)).take (sIx items.size items.size hi-sIx items.size 0 lo)).toArray.size<=sizeLine
  rw[List.size_toArray,List.length_take,List.length_drop,Array.length_toList]
  omega
 have hj:sIx items.size items.size hi<=items.size:=Gtt _ _ (Nat.le_refl _) hi
 obtain⟨os,hos,hcs,hds⟩:=id hs
 have hTs:s.TypeIs (.ref sl) "slice":=⟨os,hos,hcs⟩
 unfold getItem
 try with_reducible refine wpAny_holding ?_
 first | refine wpAny_bind (wpAny_pure ?_) | skip
 refine wpAny_bind (wpAny_sequenceKey ht.typeIs (by decide) ?_)
 refine wpAny_bind (wpAny_callSpecial?_slot (name:=Str.ofString "__getitem__") ht.typeIs PyProof.Rows.slot_tuple_getitem
  (wpAny_call_entry PyProof.Rows.slot_tuple_getitem ht.typeIs entry_tuple_getitem ?_ (args_tuple_getitem _ _)))
 show wpAny _ _ (Builtin.Tuple.tupleItemsOf (.ref t) >>= _) _ _ s
 refine wpAny_bind (tupleItemsOf_ ht ?_)
 refine wpAny_bind (wpAny_typeOf hTs ?_)
 rw[if_pos (by decide)]
 refine wpAny_bind (Xy hs pl pu ?_)
 have hno:¬ ((((sIx items.size 0 lo:Nat):Int)==0&&(1:Int)==1&&(sIx items.size items.size hi-sIx items.size 0 lo)==items.size)=true):=by
  intro q
  rw[Bool.and_eq_true,Bool.and_eq_true] at q
  have q1:((sIx items.size 0 lo:Nat):Int)=0:=eq_of_beq q.1.1
  have q2:sIx items.size items.size hi-sIx items.size 0 lo=items.size:=eq_of_beq q.2
  exact hw ⟨by omega,by omega⟩
 show wpAny _ _ (if(((sIx items.size 0 lo:Nat):Int)==0&&(1:Int)==1&&(sIx items.size items.size hi-sIx items.size 0 lo)==items.size)=true then _ else _) _ _ s
 rw[if_neg hno,Glg]
 first
  | exact wpAny_bind (m:=Builtin.Tuple.tupleExact _) (wpAny_newObj_type (wpAny_pure ⟨_,rfl,wpAny_pure h⟩) htake)
  | exact wpAny_bind (m:=Builtin.Tuple.tupleExact _) (wpAny_newObj_type (wpAny_bind (wpAny_pure (wpAny_pure ⟨_,rfl,wpAny_pure h⟩))) htake)
  | exact wpAny_bind (wpAny_bind (m:=Builtin.Tuple.tupleExact _) (wpAny_newObj_type (wpAny_pure (wpAny_pure ⟨_,rfl,wpAny_pure h⟩)) htake))
  | exact wpAny_bind (wpAny_bind (m:=Builtin.Tuple.tupleExact _) (wpAny_newObj_type (wpAny_pure ⟨_,rfl,wpAny_pure h⟩) htake))
end
end HT
namespace L2
open PySem PySem.Spec PyProof.Rows
variable{xs:List V}{n:Nat}{pins:List (Addr×Obj)}{σ:St}{H:Hp}{s:Shared}{its:List Value}{x:V}
abbrev TO:=St->Hp->(Option Int->Hp->Prop)->Prop
def PO(X:Cx)(e:Option Expr)(t:TO):Prop:=
 ∀ (pins:List (Addr×Obj)) (s:Shared) (σ:St) (H:Hp) (Q:Option Int->Hp->Prop),Inv X pins σ H s->t σ H Q→
  wpAny (model X.prog X.w) X.A (evalPart e X.env) (fun u s'=>∃ o H',Inv X pins σ H' s'/\IsPart u o/\Q o H') X.xe s
def Go0:TO:=fun _ H Q=>Q none H
def Gxv(t:TE):TO:=fun σ H Q=>t σ H fun x H1=>∃ i,x=.int i/\Q (some i) H1
section
variable{X:Cx}{e:Expr}{te:TE}{lo hi:Option Expr}{tl th:TO}{pos p2:Pos}
theorem Go1:PO X none Go0:=by
 intro pins s σ H Q I h
 rw[evalPart_none]
 exact wpAny_pure ⟨none,H,I,.none,h⟩
theorem Go2(h:PE X e te):PO X (some e) (Gxv te):=by
 intro pins s σ H Q I hw
 rw[evalPart_some]
 refine thn (h pins s σ H _ I hw) fun u s1 ⟨x,H1,I1,r1,q1⟩=>?_
 obtain⟨i,rfl,q⟩:=q1
 obtain⟨t,rfl⟩:=r1
 exact⟨some i,H1,I1,.int i t,q⟩
def SlR(X:Cx)(r:V->Option Int->Option Int->Hp->VK->Prop):Prop:=
 ∀ (pins:List (Addr×Obj)) (s:Shared) (σ:St) (H:Hp) (x:V) (v vl vu:Value) (lo hi:Option Int) (sl:Addr) (Q:VK),Inv X pins σ H s->Hq x v->s.heap.IsSliceOf sl vl vu .none->IsPart vl lo->IsPart vu hi->r x lo hi H Q→
  ∃ T id,typeLookup (.type T) "__getitem__"=pure (some (.builtin id))/\s.TypeIs v T/\wpAny (model X.prog X.w) X.A (getItem v (.ref sl)) (EP X pins σ Q) X.xe s
theorem SlR.or{r r':V->Option Int->Option Int->Hp->VK->Prop}(h:SlR X r)(h':SlR X r'):SlR X (fun x lo hi H Q=>r x lo hi H Q\/r' x lo hi H Q):=by
 intro pins s σ H x v vl vu lo hi sl Q I rx hs pl pu q
 rcases q with q | q
 ·exact h pins s σ H x v vl vu lo hi sl Q I rx hs pl pu q
 ·exact h' pins s σ H x v vl vu lo hi sl Q I rx hs pl pu q
def tSl(r:V->Option Int->Option Int->Hp->VK->Prop)(te:TE)(tl th:TO):TE:=fun σ H Q=>te σ H fun x H1=>tl σ H1 fun l H2=>th σ H2 fun u H3=>r x l u H3 Q
theorem Glh{r:V->Option Int->Option Int->Hp->VK->Prop}(hr:SlR X r)(he:PE X e te)(hl:PO X lo tl)(hu:PO X hi th):PE X (.Subscript e (.Slice lo hi none p2) pos) (tSl r te tl th):=by
 intro pins s σ H Q I h
 refine Subscript_ (thn (he pins s σ H _ I h) fun v s1 ⟨x,H1,I1,r1,q1⟩=>?_)
 refine wpAny_Slice (thn (hl pins s1 σ H1 _ I1 q1) fun vl s2 ⟨l,H2,I2,pl,q2⟩=>thn (hu pins s2 σ H2 _ I2 q2) fun vu s3 ⟨u,H3,I3,pu,q3⟩=>?_)
 rw[evalPart_none]
 refine wpAny_pure ?_
 have I4:Inv X pins σ H3 { s3 with heap:=s3.heap.push { cls:=.type "slice",data:=.fields #[vl,vu,.none] } }:=I3.kept (t':=s3.toks) fun b ob q=>Heap.get?_push_of_some _ q
 obtain⟨T,id,hT,ht,hg⟩:=hr pins { s3 with heap:=s3.heap.push { cls:=.type "slice",data:=.fields #[vl,vu,.none] } } σ H3 x v vl vu l u s3.heap.objs.size Q I4 r1 (Heap.IsSliceOf.new ..) pl pu q3
 show wpAny (model X.prog X.w) X.A (subscriptTail e (.Slice lo hi none p2) v (.ref s3.heap.objs.size)) (EP X pins σ Q) X.xe { s3 with heap:=s3.heap.push { cls:=.type "slice",data:=.fields #[vl,vu,.none] } }
 exact tail_any (ops:=[.ref s3.heap.objs.size,v]) ht hT hg (by with_unfolding_all rfl)
def Gg0(xs:List V)(lo hi:Option Int):List V:=(xs.drop (HT.sIx xs.length 0 lo)).take (HT.sIx xs.length xs.length hi-HT.sIx xs.length 0 lo)
theorem Gcf(xs:List V)(lo hi:Option Int):(Gg0 xs lo hi).length<=xs.length:=by
 unfold Gg0
 rw[List.length_take,List.length_drop]
 omega
def Haq(K:PySem.W.Frag):V->Option Int->Option Int->Hp->VK->Prop:=fun x lo hi H Q=>∃ a xs,x=.ref a/\SqT K H a xs∧
 ¬ (HT.sIx xs.length 0 lo=0/\HT.sIx xs.length xs.length hi=xs.length)/\∀ p,H p=none->Q (.ref p) (upd H p (.tup (Gg0 xs lo hi)))
theorem Gtu:SlR X (Haq X.K):=by
 intro pins s σ H x v vl vu lo hi sl Q I rx hs pl pu h
 obtain⟨a,xs,rfl,hx,hw,q⟩:=h
 cases rx
 obtain⟨its,r,ht,hz⟩:=I.tuple hx
 have hlen:its.toArray.size=xs.length:=by rw[List.size_toArray]; exact r.length.symm
 refine⟨"tuple",_,PyProof.Rows.slot_tuple_getitem.lookup,ht.typeIs,?_⟩
 refine HT.Gbc ht hs pl pu (by rw[hlen]; exact hw) ?_ (by rw[hlen]; exact hz)
 rw[hlen]
 refine⟨.ref s.heap.objs.size,_,I.laid (t':=s.toks) (o:=.tup (Gg0 xs lo hi)) (fun b ob q=>Heap.get?_push_of_some _ q) (Nat.le_refl _) ?_,rfl,q _ (I.hok.fresh (Nat.le_refl _))⟩
 exact⟨Nat.le_trans (Gcf xs lo hi) hz,_,(r.drop (HT.sIx xs.length 0 lo)).take (HT.sIx xs.length xs.length hi-HT.sIx xs.length 0 lo),IsTup.new _ _⟩
def Grv(K:PySem.W.Frag):R2:=fun x y H Q=>∃ a b xs ys,x=.ref a/\y=.ref b/\SqT K H a xs/\SqT K H b ys/\xs≠[]/\xs.length+ys.length<=sizeLine∧
 (ys=[]->Q (.ref a) H)/\(ys≠[]->∀ p,H p=none->Q (.ref p) (upd H p (.tup (xs++ys))))
theorem Vals.nil_iff{us:List Value}(r:Vals xs us):us=[]↔xs=[]:=by
 cases r with
 | nil=>simp
 | cons _ _=>simp
theorem Go3:OpR X (binaryOp .Add) (Grv X.K):=by
 intro pins s σ H x y v u Q I rx ry h
 obtain⟨a,b,xs,ys,rfl,rfl,ha,hb,hx,hz,q1,q2⟩:=h
 cases rx
 cases ry
 obtain⟨its,r1,p1,_⟩:=I.tuple ha
 obtain⟨its2,r2,p2,_⟩:=I.tuple hb
 refine HT.Goz p1 p2 (fun z=>hx (r1.nil_iff.mp z)) (fun z=>⟨.ref a,H,I,rfl,q1 (r2.nil_iff.mp z)⟩) (fun z=>?_) (by rw[<- r1.length,<- r2.length]; exact hz)
 refine⟨.ref s.heap.objs.size,_,I.laid (t':=s.toks) (o:=.tup (xs++ys)) (fun b ob q=>Heap.get?_push_of_some _ q) (Nat.le_refl _) ?_,rfl,q2 (fun w=>z (r2.nil_iff.mpr w)) _ (I.hok.fresh (Nat.le_refl _))⟩
 exact⟨by rw[List.length_append]; exact hz,_,r1.append r2,IsTup.new _ _⟩
end
def ixN(n:Nat)(i:Int):Option Nat:=if 0<=i then(if i<n then some i.toNat else none) else if -(n:Int)<=i then some (i+n).toNat else none
def atI{α:Type}(xs:List α)(i:Int):Option α:=(ixN xs.length i).bind fun j=>xs[j]?
theorem Giz{i:Int}{j:Nat}(h:ixN n i=some j):seqIndex? i n=some j/\j<n /\ -(n:Int)<=i/\i<n:=by
 unfold ixN at h
 by_cases h0:0<=i
 ·rw[if_pos h0] at h
  by_cases h1:i<n
  ·rw[if_pos h1] at h
   have e:i.toNat=j:=Option.some.inj h
   exact⟨by rw[seqIndex_of h0 h1,e],by omega,by omega,h1⟩
  ·rw[if_neg h1] at h; cases h
 ·rw[if_neg h0] at h
  by_cases h1 : -(n:Int)<=i
  ·rw[if_pos h1] at h
   have e:(i+n).toNat=j:=Option.some.inj h
   exact⟨by rw[seqIndex_neg (by omega) h1,e],by omega,h1,by omega⟩
  ·rw[if_neg h1] at h; cases h
theorem Gfl{α:Type}{xs:List α}{i:Int}{v:α}(h:atI xs i=some v):∃ j,seqIndex? i xs.length=some j/\xs[j]?=some v/\j<xs.length /\ -(xs.length:Int)<=i/\i<xs.length:=by
 unfold atI at h
 cases e:ixN xs.length i with
 | none=>rw[e] at h; cases h
 | some j=>
  rw[e] at h
  obtain⟨h1,h2,h3,h4⟩:=Giz e
  exact⟨j,h1,h,h2,h3,h4⟩
def Gcx(b:Expr):Prop:=∀ o i,subscripted b false o i=operate [o,i] (getItem o i)
def IxR(X:Cx)(r:R2):Prop:=
 ∀ (value slice:Expr) (pins:List (Addr×Obj)) (s:Shared) (σ:St) (H:Hp) (x y:V) (v u:Value) (Q:VK),Inv X pins σ H s->Hq x v->Hq y u->r x y H Q→
  subscripted slice false v u=operate [v,u] (getItem v u)->wpAny (model X.prog X.w) X.A (subscriptTail value slice v u) (EP X pins σ Q) X.xe s
def MtR(X:Cx)(id:String)(r:V->List V->Hp->VK->Prop):Prop:=
 ∀ (pins:List (Addr×Obj)) (s:Shared) (σ:St) (H:Hp) (x:V) (xs:List V) (v:Value) (us:List Value) (Q:VK),Inv X pins σ H s->Hq x v->Vals xs us->r x xs H Q→
  wpAny (model X.prog X.w) X.A (call (.builtin id) (v::us)) (EP X pins σ Q) X.xe s
section
variable{X:Cx}{a b:Expr}{ta tb:TE}{pos:Pos}
theorem IxR.or{r r':R2}(h:IxR X r)(h':IxR X r'):IxR X (fun x y H Q=>r x y H Q\/r' x y H Q):=by
 intro value slice pins s σ H x y v u Q I rx ry q hs
 rcases q with q | q
 ·exact h value slice pins s σ H x y v u Q I rx ry q hs
 ·exact h' value slice pins s σ H x y v u Q I rx ry q hs
theorem Gxw{r:R2}(hr:IxR X r)(ha:PE X a ta)(hb:PE X b tb)(hs:Gcx b):PE X (.Subscript a b pos) (tOp r ta tb):=by
 intro pins s σ H Q I h
 exact Subscript_ (Gtf ha hb I h fun v u s2 x y H2 I2 rx ry q=>hr a b pins s2 σ H2 x y v u Q I2 rx ry q (hs _ _))
def Gxx(K:PySem.W.Frag):R2:=fun x y H Q=>∃ p xs i v,x=.ref p/\y=.int i/\SqL K H p xs/\atI xs i=some v/\Q v H
def Gxy(K:PySem.W.Frag):R2:=fun x y H Q=>∃ p xs i v,x=.ref p/\y=.int i/\SqT K H p xs/\atI xs i=some v/\Q v H
def Gxz:R2:=fun x y H Q=>∃ z i c,x=.str z/\y=.int i/\z.length<=sizeLine/\atI z.cps.toList i=some c/\Q (.str ⟨#[c]⟩) H
theorem Go4:IxR X (Gxx X.K):=by
 intro value slice pins s σ H x y v u Q I rx ry h hs
 obtain⟨p,xs,i,z,rfl,rfl,hq,he,q⟩:=h
 cases rx
 obtain⟨t,rfl⟩:=ry
 obtain⟨its,r,pl,hz⟩:=I.list hq
 obtain⟨j,h1,h2,h3,h4,h5⟩:=Gfl he
 obtain⟨w,ew,rw'⟩:=r.get h2
 have hl:=r.length
 have hn:=Gbv
 have fin:EP X pins σ Q w s:=⟨z,H,I,rw',q⟩
 by_cases h0:0<=i
 ·have hj:i.toNat=j:=by
   rw[seqIndex_of h0 h5] at h1
   exact Option.some.inj h1
  exact item_listR pl.isList h0 (by omega) (by rw[hj]; simpa using ew) fin hs
 ·have hj:(i+(its.toArray.size:Int)).toNat=j:=by
   rw[seqIndex_neg (by omega) h4] at h1
   rw[List.size_toArray,<- hl]
   exact Option.some.inj h1
  exact subscriptTail_builtinR (x:=w) pl.isList.typeIs slot_list_getitem.lookup
   (wpAny_getItem_list_neg (Q:=fun r s'=>r=w/\EP X pins σ Q r s') pl.isList (by omega) (by rw[List.size_toArray]<;>omega) (by omega) (by rw[hj]; simpa using ew) ⟨rfl,fin⟩) hs
theorem Gtv:IxR X (Gxy X.K):=by
 intro value slice pins s σ H x y v u Q I rx ry h hs
 obtain⟨p,xs,i,z,rfl,rfl,hq,he,q⟩:=h
 cases rx
 obtain⟨t,rfl⟩:=ry
 obtain⟨its,r,pl,hz⟩:=I.tuple hq
 obtain⟨j,h1,h2,h3,h4,h5⟩:=Gfl he
 obtain⟨w,ew,rw'⟩:=r.get h2
 have hl:=r.length
 have hn:=Gbv
 have fin:EP X pins σ Q w s:=⟨z,H,I,rw',q⟩
 exact subscriptTail_builtinR (x:=w) pl.typeIs slot_tuple_getitem.lookup
  (getItem_tuple (j:=j) (Q:=fun r s'=>r=w/\EP X pins σ Q r s') pl (by omega) (by omega) (by rw[List.size_toArray,<- hl]; exact h1) (by simpa using ew) ⟨rfl,fin⟩) hs
theorem Gtw:IxR X Gxz:=by
 intro value slice pins s σ H x y v u Q I rx ry h hs
 obtain⟨z,i,c,rfl,rfl,hz,he,q⟩:=h
 obtain⟨t,rfl⟩:=rx
 obtain⟨t',rfl⟩:=ry
 obtain⟨j,h1,h2,h3,h4,h5⟩:=Gfl he
 have hl:z.cps.toList.length=z.length:=by simp[Str.length]
 rw[hl] at h1 h4 h5
 have hn:=Gbv
 exact tail_any (typeIs_str s z t) slot_str_getitem.lookup (getItem_str (c:=c) (by
  have e1:decide (i < -(2^63:Int))=false:=decide_eq_false (by omega)
  have e2:decide (i≥2^63)=false:=decide_eq_false (by omega)
  rw[e1,e2,Bool.or_false]) (by rw[h1]; simpa using h2) ⟨.str ⟨#[c]⟩,H,I.tok _,⟨_,rfl⟩,q⟩) hs
def rIx(K:PySem.W.Frag):R2:=fun x y H Q=>Gxx K x y H Q\/Gxy K x y H Q\/Gxz x y H Q
theorem Gtx:IxR X (rIx X.K):=Go4.or (Gtv.or Gtw)
theorem Gh0(its:List Value)(n j:Nat)(u:Value):Obj.mapSeq (·.setIfInBounds j u) { cls:=.type "list",data:=.seq its.toArray n }={ cls:=.type "list",data:=.seq (its.set j u).toArray n }:=by
 simp[Obj.mapSeq]
theorem Inv.lst{p:Addr}(I:Inv X pins σ H s)(h:H p=some (.lst xs)):
  ∃ (its:List Value) (n:Nat),Vals xs its/\s.heap.get? p=some { cls:=.type "list",data:=.seq its.toArray n }/\xs.length<=sizeLine:=by
 obtain⟨z,its,n,r,e⟩:=I.hok p _ h
 exact⟨its,n,r,e,z⟩
theorem Inv.lstUpd{p:Addr}{ys:List V}{its':List Value}{n':Nat}{f:Obj->Obj}(I:Inv X pins σ H s)(h:H p=some (.lst xs))(ho:s.heap.get? p=some { cls:=.type "list",data:=.seq its.toArray n })(hf:f { cls:=.type "list",data:=.seq its.toArray n }={ cls:=.type "list",data:=.seq its'.toArray n' })(r:Vals ys its')(hz:ys.length<=sizeLine)(t:Nat):
  Inv X pins σ (upd H p (.lst ys)) { s with heap:=s.heap.update p f,toks:=t }:=by
 have e:(s.heap.update p f).get? p=some { cls:=.type "list",data:=.seq its'.toArray n' }:=by
  rw[Heap.get?_update_self f ho (by rw[hf]<;>rfl),hf]
 refine I.write (x:=p) (e:=p) (by rw[h]; trivial) (.inl rfl) (fun b u hb q=>(Heap.get?_update_other _ _ (Ne.symm hb)).trans q) ⟨_,e⟩ ?_
 exact⟨hz,its',n',r,e⟩
def Grw:V->V->V->Hp->(Hp->Prop)->Prop:=fun o i v H Q=>∃ p xs k j,o=.ref p/\i=.int k/\H p=some (.lst xs)/\ixN xs.length k=some j/\Q (upd H p (.lst (xs.set j v)))
theorem Gli:Gs7 X Grw:=by
 intro pins s σ H o i v ov iv u Q I ro ri rv h
 obtain⟨p,xs,k,j,rfl,rfl,hp,hj,q⟩:=h
 cases ro
 obtain⟨t,rfl⟩:=ri
 obtain⟨its,n,r,ho,hz⟩:=I.lst hp
 obtain⟨h1,h2,h3,h4⟩:=Giz hj
 have hl:=r.length
 have hn:=Gbv
 have I':Inv X pins σ (upd H p (.lst (xs.set j v))) { s with heap:=s.heap.update p (Obj.mapSeq (·.setIfInBounds j u)) }:=
  I.lstUpd hp ho (Gh0 its n j u) (r.set rv j) (by rw[List.length_set]; exact hz) s.toks
 by_cases h0:0<=k
 ·have hk:k.toNat=j:=by
   rw[seqIndex_of h0 h4] at h1
   exact Option.some.inj h1
  exact PySem.W.ki_setAt ho h0 (by omega) (by rw[List.size_toArray,<- hl]; exact h4) (by rw[hk]; exact⟨_,I',q⟩)
 ·have hk:(k+(its.toArray.size:Int)).toNat=j:=by
   rw[seqIndex_neg (by omega) h3] at h1
   rw[List.size_toArray,<- hl]
   exact Option.some.inj h1
  exact PySem.W.ki_setBack ho (by omega) (by rw[List.size_toArray,<- hl]; exact h3) (by omega) (by rw[hk]; exact⟨_,I',q⟩)
theorem Gfm(lo hi:Option Int)(n:Nat):(sliceBounds lo hi none n).1=((HT.sIx n 0 lo:Nat):Int)/\(sliceBounds lo hi none n).2.1=((HT.sIx n n hi:Nat):Int)/\(sliceBounds lo hi none n).2.2=1:=by
 refine⟨?_,?_,rfl⟩
 ·cases lo with
  | none=>simp[sliceBounds,HT.sIx]
  | some i=>
   simp only[sliceBounds,HT.sIx,Option.getD_none,show(1:Int)>0 by decide,if_true]
   by_cases h:i<0
   ·simp only[h,if_true]<;>omega
   ·simp only[h,if_false]<;>omega
 ·cases hi with
  | none=>simp[sliceBounds,HT.sIx]
  | some i=>
   simp only[sliceBounds,HT.sIx,Option.getD_none,show(1:Int)>0 by decide,if_true]
   by_cases h:i<0
   ·simp only[h,if_true]<;>omega
   ·simp only[h,if_false]<;>omega
theorem Gee(its:List Value)(lo hi:Option Int):slicePick its.toArray lo hi none=((its.drop (HT.sIx its.length 0 lo)).take (HT.sIx its.length its.length hi-HT.sIx its.length 0 lo)).toArray:=by
 obtain⟨h1,h2,h3⟩:=Gfm lo hi its.toArray.size
 unfold slicePick
 rw[h1,h2,h3]
 simp only[sliceRange_one,pick_run,List.size_toArray]<;>rfl
def Har(K:PySem.W.Frag):V->Option Int->Option Int->Hp->VK->Prop:=fun x lo hi H Q=>∃ a xs,x=.ref a/\SqL K H a xs/\∀ p,H p=none->Q (.ref p) (upd H p (.lst (Gg0 xs lo hi)))
theorem Go5:SlR X (Har X.K):=by
 intro pins s σ H x v vl vu lo hi sl Q I rx hs pl pu h
 obtain⟨a,xs,rfl,hx,q⟩:=h
 cases rx
 obtain⟨its,r,ht,hz⟩:=I.list hx
 have hlen:=r.length
 refine⟨"list",_,slot_list_getitem.lookup,ht.isList.typeIs,?_⟩
 refine wpAny_getItem_list_slice ht.isList hs pl pu .none (by simp) ?_ (by rw[List.size_toArray]<;>omega)
 rw[Gee,<- hlen]
 refine⟨.ref s.heap.objs.size,_,I.laid (t':=s.toks) (o:=.lst (Gg0 xs lo hi)) (fun b ob q=>Heap.get?_push_of_some _ q) (Nat.le_refl _) ?_,rfl,q _ (I.hok.fresh (Nat.le_refl _))⟩
 exact⟨Nat.le_trans (Gcf xs lo hi) hz,_,0,(r.drop (HT.sIx xs.length 0 lo)).take (HT.sIx xs.length xs.length hi-HT.sIx xs.length 0 lo),Heap.get?_push_size _ rfl⟩
def Zm:V->Bool
 | .non=>true
 | .bl _=>true
 | .int _=>true
 | .str _=>true
 | _=>false
def eqV:V->V->Bool
 | .non,.non=>true
 | .bl a,.bl b=>a==b
 | .bl a,.int b=>(if a then 1 else 0)==b
 | .int a,.bl b=>a==(if b then 1 else 0)
 | .int a,.int b=>a==b
 | .str a,.str b=>a==b
 | _,_=>false
theorem Gty{A:Around}{y:V}{u v:Value}(ry:Hq y u)(rx:Hq x v)(fy:Zm y=true)(fx:Zm x=true):SeqAt.EqAt A s u v (eqV y x):=by
 cases y with
 | non=>
  cases ry
  cases x with
  | non=>cases rx; exact SeqAt.EqAt.same _
  | bl b=>cases rx; exact SeqAt.EqAt.none_bool b
  | int b=>obtain⟨t,rfl⟩:=rx; exact SeqAt.EqAt.none_int b t
  | str b=>obtain⟨t,rfl⟩:=rx; exact SeqAt.EqAt.none_str b t
  | _=>exact absurd (show false=true from fx) Bool.false_ne_true
 | bl a=>
  cases ry
  cases x with
  | non=>cases rx; exact SeqAt.EqAt.bool_none a
  | bl b=>cases rx; exact SeqAt.EqAt.bool_bool a b
  | int b=>obtain⟨t,rfl⟩:=rx; exact SeqAt.EqAt.bool_int a b t
  | str b=>obtain⟨t,rfl⟩:=rx; exact SeqAt.EqAt.bool_str a b t
  | _=>exact absurd (show false=true from fx) Bool.false_ne_true
 | int a=>
  obtain⟨t',rfl⟩:=ry
  cases x with
  | non=>cases rx; exact SeqAt.EqAt.int_none a t'
  | bl b=>cases rx; exact SeqAt.EqAt.int_bool a t' b
  | int b=>obtain⟨t,rfl⟩:=rx; exact SeqAt.EqAt.int_int a t' b t
  | str b=>obtain⟨t,rfl⟩:=rx; exact SeqAt.EqAt.int_str a t' b t
  | _=>exact absurd (show false=true from fx) Bool.false_ne_true
 | str a=>
  obtain⟨t',rfl⟩:=ry
  cases x with
  | non=>cases rx; exact SeqAt.EqAt.str_none a t'
  | bl b=>cases rx; exact SeqAt.EqAt.str_bool a t' b
  | int b=>obtain⟨t,rfl⟩:=rx; exact SeqAt.EqAt.str_int a t' b t
  | str b=>obtain⟨t,rfl⟩:=rx; exact SeqAt.EqAt.str_str a t' b t
  | _=>exact absurd (show false=true from fx) Bool.false_ne_true
 | _=>exact absurd (show false=true from fy) Bool.false_ne_true
def eqU(x:V)(u:Value):Bool:=match u with
 | .none=>eqV .non x
 | .bool b=>eqV (.bl b) x
 | .int i _=>eqV (.int i) x
 | .str z _=>eqV (.str z) x
 | _=>false
theorem Glj{y:V}{u:Value}(r:Hq y u)(f:Zm y=true):eqU x u=eqV y x:=by
 cases y with
 | non=>cases r; rfl
 | bl b=>cases r; rfl
 | int i=>obtain⟨t,rfl⟩:=r; rfl
 | str z=>obtain⟨t,rfl⟩:=r; rfl
 | _=>exact absurd (show false=true from f) Bool.false_ne_true
theorem Gfn{x:V}:∀ {xs:List V} {us:List Value},Vals xs us->xs.all Zm=true->us.any (eqU x)=xs.any fun y=>eqV y x
 | _,_,.nil,_=>rfl
 | y::xs,u::us,.cons r t,f=>by
  rw[List.all_cons,Bool.and_eq_true] at f
  rw[List.any_cons,List.any_cons,Glj r f.1,Gfn t f.2]
theorem Gde{A:Around}{s:Shared}{x:V}{v:Value}(rx:Hq x v)(fx:Zm x=true):∀ {xs:List V} {us:List Value},Vals xs us->xs.all Zm=true->∀ u∈us,SeqAt.EqAt A s u v (eqU x u)
 | _,_,.nil,_=>fun u hu=>by cases hu
 | y::xs,u::us,.cons r t,f=>fun u' hu=>by
  rw[List.all_cons,Bool.and_eq_true] at f
  rcases List.mem_cons.mp hu with rfl | hu
  ·rw[Glj r f.1]; exact Gty r rx f.1 fx
  ·exact Gde rx fx t f.2 u' hu
def inV(x:V)(xs:List V):Bool:=xs.any fun y=>eqV y x
def rIn(K:PySem.W.Frag)(neg:Bool):R2:=fun x y H Q=>∃ p xs,y=.ref p/\(SqL K H p xs\/SqT K H p xs)/\Zm x=true/\xs.all Zm=true/\Q (.bl (if neg then !inV x xs else inV x xs)) H
theorem Gkd:OpR X (compareOp .In) (rIn X.K false):=by
 intro pins s σ H x y v u Q I rx ry h
 obtain⟨p,xs,rfl,hq,fx,fs,q⟩:=h
 cases ry
 rcases hq with hq | hq
 ·obtain⟨its,r,pl,hz⟩:=I.list hq
  refine SeqAt.in_listAt (eqU x) pl.isList (fun w hw=>Gde rx fx r fs w (by simpa using hw)) ⟨.bl _,H,I,rfl,?_⟩
  rw[show its.toArray.any (eqU x)=its.any (eqU x) by simp,Gfn r fs]
  exact q
 ·obtain⟨its,r,pl,hz⟩:=I.tuple hq
  refine SeqAt.in_tupleAt (eqU x) pl (fun w hw=>Gde rx fx r fs w (by simpa using hw)) ⟨.bl _,H,I,rfl,?_⟩
  rw[show its.toArray.any (eqU x)=its.any (eqU x) by simp,Gfn r fs]
  exact q
theorem Gfo:Zl X (.type "list") (fun xs H Q=>∃ p ys,xs=[.ref p]/\(SqL X.K H p ys\/SqT X.K H p ys)/\∀ l,H l=none->Q (.ref l) (upd H l (.lst ys))):=by
 intro pins s σ H xs us Q I r h
 obtain⟨p,ys,rfl,hq,q⟩:=h
 obtain⟨u,rfl,rx⟩:=Gce r
 cases rx
 have fin:∀ (its:List Value),Vals ys its->ys.length<=sizeLine->∀ (h':Heap) (c':Nat),(∀ b o',s.heap.get? b=some o'->h'.get? b=some o')→
   h'.get? s.heap.objs.size=some { cls:=.type "list",dict:=none,data:=.seq its.toArray c',slots:=#[] }->EP X pins σ Q (.ref s.heap.objs.size) { s with heap:=h' }:=fun its r' hz h' c' kp e=>
  ⟨.ref s.heap.objs.size,_,I.laid (t':=s.toks) kp (Nat.le_refl _) (show Jz X.prog X.w _ h' _ (.lst ys) from⟨hz,its,c',r',e⟩),rfl,q _ (I.hok.fresh (Nat.le_refl _))⟩
 rcases hq with hq | hq
 ·obtain⟨its,r',pl,hz⟩:=I.list hq
  have hlen:=r'.length
  obtain⟨o,ho,hc,n,hd⟩:=pl.isList
  exact call_list_seq p (.inl rfl) ho hc hd (fun h' c' kp e=>fin its r' hz h' c' kp e) (by simp only[List.size_toArray]<;>omega)
 ·obtain⟨its,r',pl,hz⟩:=I.tuple hq
  have hlen:=r'.length
  obtain⟨o,ho,hc,n,hd⟩:=pl
  exact call_list_seq p (.inr rfl) ho hc hd (fun h' c' kp e=>fin its r' hz h' c' kp e) (by simp only[List.size_toArray]<;>omega)
theorem Gef:Zl X (.type "tuple") (fun xs H Q=>∃ p ys,xs=[.ref p]/\((SqL X.K H p ys/\∀ l,H l=none->Q (.ref l) (upd H l (.tup ys)))\/(SqT X.K H p ys/\Q (.ref p) H))):=by
 intro pins s σ H xs us Q I r h
 obtain⟨p,ys,rfl,h⟩:=h
 obtain⟨u,rfl,rx⟩:=Gce r
 cases rx
 rcases h with⟨hq,q⟩ | ⟨hq,q⟩
 ·obtain⟨its,r',pl,hz⟩:=I.list hq
  have hlen:=r'.length
  refine call_tuple_list pl.isList (fun h' kp=>?_) (by simp only[List.size_toArray]<;>omega)
  have I1:Inv X pins σ H { s with heap:=h' }:=I.kept (t':=s.toks) kp
  have I2:Inv X pins σ (upd H h'.objs.size (.tup ys)) { s with heap:=h'.push { cls:=.type "tuple",data:=.seq its.toArray } }:=
   I1.laid (t':=s.toks) (fun b o e=>Heap.get?_push_of_some _ e) (Nat.le_refl _) (show Jz X.prog X.w _ _ _ (.tup ys) from⟨hz,its,r',IsTup.new _ _⟩)
  exact⟨.ref h'.objs.size,_,I2,rfl,q _ (I1.hok.fresh (Nat.le_refl _))⟩
 ·obtain⟨its,r',pl,hz⟩:=I.tuple hq
  exact call_tuple_same pl ⟨.ref p,H,I,rfl,q⟩
def tyV(K:PySem.W.Frag)(T:String)(x:V)(H:Hp):Prop:=match x with
 | .str _=>T="str"
 | .int _=>T="int"
 | .ref p=>(T="list"/\∃ xs,SqL K H p xs)\/(T="tuple"/\∃ o,K.lookup p=some o/\o.cls=.type "tuple"/\o.dict=none)∨
   (T="dict"/\((∃ kvs,H p=some (.dK kvs))\/∃ kvs,H p=some (.dT kvs)))\/(T="set"/\∃ S n,H p=some (.set S n))
 | _=>False
theorem Gtz{T:String}{v:Value}(I:Inv X pins σ H s)(r:Hq x v)(ty:tyV X.K T x H):
  s.TypeIs v T/\∀ a,v=.ref a->∃ ob,s.heap.get? a=some ob/\ob.dict=none:=by
 cases x with
 | str z=>
  obtain⟨t,rfl⟩:=r
  cases (show T="str" from ty)
  exact⟨typeIs_str s z t,fun _ e=>nomatch e⟩
 | int i=>
  obtain⟨t,rfl⟩:=r
  cases (show T="int" from ty)
  exact⟨typeIs_int s i t,fun _ e=>nomatch e⟩
 | ref p=>
  cases r
  rcases ty with⟨rfl,xs,hq⟩ | ⟨rfl,o,hk,hc,hd⟩ | ⟨rfl,hk⟩ | ⟨rfl,S,n,hk⟩
  ·obtain⟨its,_,pl,_⟩:=I.list hq
   refine⟨pl.isList.typeIs,fun a e=>?_⟩
   cases e
   obtain⟨o,n,e,c,hd,_⟩:=pl
   exact⟨o,e,hd⟩
  ·refine⟨⟨o,I.kIn p o hk,hc⟩,fun a e=>?_⟩
   cases e
   exact⟨o,I.kIn _ o hk,hd⟩
  ·have z:∃ o,s.heap.get? p=some o/\o.ExactDict:=by
    rcases hk with⟨kvs,hk⟩ | ⟨kvs,hk⟩
    ·obtain⟨_,_,_,_,o,_,_,e,ex,_⟩:=I.hok p _ hk
     exact⟨o,e,ex⟩
    ·obtain⟨_,_,_,_,o,_,_,e,ex,_⟩:=I.hok p _ hk
     exact⟨o,e,ex⟩
   obtain⟨o,e,ex⟩:=z
   refine⟨⟨o,e,ex.1⟩,fun a e2=>?_⟩
   cases e2
   exact⟨o,e,ex.2.1⟩
  ·obtain⟨o,_,_,_,e,ex,_⟩:=I.hok p _ hk
   refine⟨⟨o,e,ex.1⟩,fun a e2=>?_⟩
   cases e2
   exact⟨o,e,ex.2.1⟩
 | _=>exact False.elim ty
def tBM(K:PySem.W.Frag)(T:String)(r:V->List V->Hp->VK->Prop)(to:TE)(t:TA):TE:=fun σ H Q=>to σ H fun x H1=>tyV K T x H1/\t σ H1 fun xs H2=>r x xs H2 Q
variable{o e:Expr}{es:List Expr}{to:TE}{t:TA}{name:Str}{apos cpos:Pos}{T id:String}{r:V->List V->Hp->VK->Prop}
theorem Gx0(pa:PlainAttrs T)(slot:Slot T name id)(hty:typeOf (.builtin id)=pure (.type "method_descriptor"))(hm:MtR X id r)(ho:PE X o to)(ha:PA X (e::es) t)
  (hbase:attributeBase o name X.env (eval o X.env)=eval o X.env:=by rfl)
  (hfew:((backTo cpos (starEach (e::es) X.env)).all (fun x=>!x.1)&&(backToKw cpos (keywordEach [] X.env)).all (fun x=>x.1.isSome)
   && decide ((e::es).length+([]:List Keyword).length+(if([]:List Keyword).isEmpty then 0 else 1)<30))=true:=by rfl)
  (hline:(apos.endLine==cpos.line)=true:=by rfl) (hs:starEach (e::es) X.env=(false,eval e X.env)::starEach es X.env:=by rfl) (hplain:(backTo cpos (starEach es X.env)).any (·.1)=false:=by rfl):
  PE X (.Call (.Attribute o name apos) (e::es) [] cpos) (tBM X.K T r to t):=by
 intro pins s σ H Q I h
 refine wpAny_Call_method_late hbase hfew hline rfl (thn (ho pins s σ H _ I h) fun v s1 ⟨x,H1,I1,r1,ty,q1⟩=>?_)
 obtain⟨h1,h2⟩:=Gtz I1 r1 ty
 refine⟨T,id,pa,slot,hty,h1,h2,?_⟩
 have hA:=ha cpos pins s1 σ H1 _ I1 q1
 rw[hs] at hA ⊢
 refine Calls.callWith_builtin (by show(false||(backTo cpos (starEach es X.env)).any (·.1))=false; rw[hplain]<;>rfl) (Calls.evalArgs_plain ?_)
 exact thn hA fun us s2 ⟨vs,H2,I2,r2,q2⟩=>hm pins s2 σ H2 x vs v us Q I2 r1 r2 q2
end
def MtM(X:Cx)(id:String)(r:V->List V->Hp->VK->Prop):Prop:=
 ∀ (pins:List (Addr×Obj)) (s:Shared) (σ:St) (H:Hp) (x:V) (xs:List V) (v:Value) (us:List Value) (Q:VK),Inv X pins σ H s->Hq x v->Vals xs us->r x xs H Q→
  wpAny (model X.prog X.w) X.A (call (.builtin id) (v::us)) (EP X pins σ Q) X.xe s
theorem Vals.one:∀ {x:V} {us:List Value},Vals [x] us->∃ u,us=[u]/\Hq x u
 | _,_,.cons r .nil=>⟨_,rfl,r⟩
theorem Vals.two:∀ {x y:V} {us:List Value},Vals [x,y] us->∃ u v,us=[u,v]/\Hq x u/\Hq y v
 | _,_,_,.cons r (.cons q .nil)=>⟨_,_,rfl,r,q⟩
theorem Vals.rep{us:List Value}(h:Vals xs us):∀ k:Nat,Vals (List.replicate k xs).flatten (List.replicate k us).flatten
 | 0=>.nil
 | k+1=>by
  rw[List.replicate_succ,List.replicate_succ,List.flatten_cons,List.flatten_cons]
  exact Vals.append h (Vals.rep h k)
theorem Gbw(its:List Value):∀ (k:Nat) (acc:List Value),
  List.foldl (fun x1 x2=>x1++x2) acc.toArray (List.replicate k its.toArray)=(acc++(List.replicate k its).flatten).toArray
 | 0,acc=>by simp
 | k+1,acc=>by
  have e:acc.toArray++its.toArray=(acc++its).toArray:=by simp
  have e2:(acc++its)++(List.replicate k its).flatten=acc++(List.replicate (k+1) its).flatten:=by
   rw[List.replicate_succ,List.flatten_cons,List.append_assoc]
  rw[<- e2,<- Gbw its k (acc++its),<- e,List.replicate_succ,List.foldl_cons]
section
variable{X:Cx}{pins:List (Addr×Obj)}{σ:St}{H:Hp}{s:Shared}{l b:Addr}{xs ys zs:List V}
theorem Inv.lset{its':List Value}{f:Array Value->Array Value}{t':Nat}(I:Inv X pins σ H s)(hH:H l=some (.lst xs))(e:s.heap.get? l=some { cls:=.type "list",data:=.seq its.toArray n })(hf:f its.toArray=its'.toArray)(hv:Vals ys its')(hz:ys.length<=sizeLine):
  Inv X pins σ (upd H l (.lst ys)) { s with heap:=s.heap.update l (Obj.mapSeq f),toks:=t' }:=by
 have q:=PySem.IsL.update e f
 rw[hf] at q
 refine I.write (x:=l) (e:=l) (by rw[hH]; exact trivial) (.inl rfl) (fun b' u hb hu=>(Heap.get?_update_other s.heap (Obj.mapSeq f) (Ne.symm hb)).trans hu) ⟨_,q⟩ ?_
 exact⟨hz,its',_,hv,q⟩
theorem Inv.lnew{t':Nat}(I:Inv X pins σ H s)(hv:Vals ys its)(hz:ys.length<=sizeLine):
  Inv X pins σ (upd H s.heap.objs.size (.lst ys)) { s with heap:=s.heap.push { cls:=.type "list",data:=.seq its.toArray },toks:=t' }:=
 I.laid (fun _ _ q=>Heap.get?_push_of_some _ q) (Nat.le_refl _) ⟨hz,its,0,hv,Heap.get?_push_size _ rfl⟩
theorem Inv.fresh(I:Inv X pins σ H s):H s.heap.objs.size=none:=I.hok.fresh (Nat.le_refl _)
theorem Inv.lstM(I:Inv X pins σ H s)(hH:H l=some (.lst xs)):xs.length<=sizeLine/\∃ (its:List Value) (n:Nat),Vals xs its/\xs.length=its.length/\s.heap.get? l=some { cls:=.type "list",data:=.seq its.toArray n }:=by
 obtain⟨z,its,n,r,e⟩:=I.hok l _ hH
 exact⟨z,its,n,r,r.length,e⟩
theorem Glk(h:n<=sizeLine):Builtin.List.listTooLong n=false:=by
 unfold Builtin.List.listTooLong
 exact decide_eq_false (by omega)
end
section
variable{X:Cx}
def Gi0:V->List V->Hp->VK->Prop:=fun x vs H Q=>∃ l xs y,x=.ref l/\vs=[y]/\H l=some (.lst xs)/\xs.length<sizeLine/\Q .non (upd H l (.lst (xs++[y])))
theorem Ge7:MtM X "list.append" Gi0:=by
 intro pins s σ H x vs v us Q I rx rv h
 obtain⟨l,xs,y,rfl,rfl,hH,hz,q⟩:=h
 cases rx
 obtain⟨u,rfl,ru⟩:=rv.one
 obtain⟨z,its,n,r,hl,e⟩:=I.lstM hH
 refine call_meets F.slot_list_append ⟨_,e,rfl⟩ F.entry_list_append (F.args_list_append_2 _ _) (PySem.list_append l its.toArray n u (by rw[List.size_toArray]; omega)) ⟨e,?_⟩
 refine⟨.non,_,I.lset (its':=its++[u]) hH e (by simp) (r.append (.cons ru .nil)) ?_,rfl,q⟩
 rw[List.length_append,List.length_singleton]
 omega
def Gx1:R2:=fun x y H Q=>∃ l b xs zs,x=.ref l/\y=.ref b/\H l=some (.lst xs)/\H b=some (.lst zs)/\xs.length+zs.length<=sizeLine/\∀ p,H p=none->Q (.ref p) (upd H p (.lst (xs++zs)))
theorem Gt0:OpR X (binaryOp .Add) Gx1:=by
 intro pins s σ H x y v u Q I rx ry h
 obtain⟨l,b,xs,zs,rfl,rfl,hH,hB,hz,q⟩:=h
 cases rx
 cases ry
 obtain⟨z,its,n,r,hl,e⟩:=I.lstM hH
 obtain⟨z2,its2,n2,r2,hl2,e2⟩:=I.lstM hB
 refine PySem.P.add_list e e2 ?_ (by rw[List.size_toArray,List.size_toArray]; omega)
 have ea:its.toArray++its2.toArray=(its++its2).toArray:=by simp
 rw[ea]
 exact⟨.ref _,_,I.lnew (t':=s.toks) (r.append r2) (by rw[List.length_append]; omega),rfl,q _ I.fresh⟩
def Gx2:R2:=fun x y H Q=>∃ l k xs,x=.ref l/\y=.int k/\H l=some (.lst xs) /\ -(2^63)<=k/\k<2^63/\xs.length*k.toNat<=sizeLine∧
 ∀ p,H p=none->Q (.ref p) (upd H p (.lst (List.replicate k.toNat xs).flatten))
theorem Gfp{α:Type}(xs:List α)(k:Nat):(List.replicate k xs).flatten.length=k*xs.length:=by
 induction k with
 | zero=>simp
 | succ k ih=>rw[List.replicate_succ,List.flatten_cons,List.length_append,ih,Nat.succ_mul,Nat.add_comm]
theorem Gt1:OpR X (binaryOp .Mult) Gx2:=by
 intro pins s σ H x y v u Q I rx ry h
 obtain⟨l,k,xs,rfl,rfl,hH,h1,h2,hz,q⟩:=h
 cases rx
 obtain⟨t,rfl⟩:=ry
 obtain⟨z,its,n,r,hl,e⟩:=I.lstM hH
 have hlen:its.toArray.size*k.toNat<=sizeLine:=by rw[List.size_toArray,<- hl]; exact hz
 have hcap:¬ its.toArray.size*k.toNat>(2^63-1) / 8:=by
  have:(sizeLine:Nat)<=(2^63-1) / 8:=by decide
  omega
 have hfit:¬ (!Builtin.List.listFitsIndex k)=true:=by
  rw[fitsIndex_both h1 h2]
  exact Bool.false_ne_true
 have hlong:¬ Builtin.List.listTooLong (its.toArray.size*k.toNat)=true:=by
  rw[Glk hlen]
  exact Bool.false_ne_true
 have hnew:List.foldl (fun x1 x2=>x1++x2) #[] (List.replicate (if its.toArray.isEmpty=true then 0 else k.toNat) its.toArray)=(List.replicate k.toNat its).flatten.toArray:=by
  have f0:∀ m:Nat,List.foldl (fun x1 x2=>x1++x2) #[] (List.replicate m its.toArray)=(List.replicate m its).flatten.toArray:=fun m=>by
   have:=Gbw its m []
   rw[List.nil_append] at this
   exact this
  rw[f0]
  cases its with
  | nil=>simp
  | cons a r'=>rw[if_neg (by simp)]
 refine wpAny_binaryOp_repeat_ref (T:="list") (U:="int") (by decide) ⟨_,e,rfl⟩ (fun s'=>typeIs_int s' k t) noFill_list_mul F.fills_int_mul F.slot_int_rmul repeat_list F.slot_int_index.lookup
  (call_meets F.slot_int_rmul (typeIs_int s k t) F.entry_int_rmul (F.args_int_rmul_2 _ _) (int___rmul___int_list k t l its.toArray n)
   ⟨e,rfl,⟨_,e,rfl⟩,call_meets F.slot_list_mul ⟨_,e,rfl⟩ F.entry_list_mul (F.args_list_mul_2 _ _) (AutoListH.list___mul___list_int_3 l its.toArray n k t hfit hcap hlong) ⟨e,?_⟩⟩)
 rw[hnew]
 exact⟨.ref _,_,I.lnew (t':=s.toks) (r.rep k.toNat) (by rw[Gfp,Nat.mul_comm]; exact hz),rfl,q _ I.fresh⟩
end
end L2
namespace Att
open PySem PySem.W PySem.Calls PyProof.Rows
theorem Gcm{P:Params}{h:Heap}:∀ (ns:List Int) (vs:List Value),WellAll P h vs (ns.map WData.int)->IntsAre vs ns:=by
 intro ns
 induction ns with
 | nil=>
  intro vs w
  rw[List.map_nil] at w
  cases w
  exact .nil
 | cons n ns ih=>
  intro vs w
  rw[List.map_cons] at w
  cases w with
  | cons a b=>
   cases a
   exact .cons _ _ (ih _ b)
theorem Gke{l:OpenLaw}{n:Nat}(hn:l.most=some n){P:Params}{h:Heap}{args:List WData}{vals:List Value}
  (hpre:l.row.toRowW.claim.pre args=true) (hwl:WellAll P h vals args):
  ∃ a vs ns,vals=[Value.ref a]/\args=[WData.list (ns.map WData.int)]/\h.get? a=some { cls:=.type "list",data:=.seq vs.toArray }/\IntsAre vs ns/\ns.length<=n:=by
 have hsh:WShape.hasAll [] args [.list .int]=true:=(pre_splitW hpre).1
 have hc:l.pre.holds [] { args:=args }=true:=(pre_splitW hpre).2
 obtain⟨d,r,rfl,h1,h2⟩:=hasAllW_cons hsh
 obtain rfl:=hasAllW_nil h2
 obtain⟨xs,rfl,h3⟩:=hasW_list h1
 obtain⟨ns,rfl⟩:=items_int h3
 have hlen:ns.length<=n:=by
  unfold OpenLaw.pre at hc
  have h4:(WTm.not (.lt (.lit (.int (n:Int))) (.len (.arg 0)))).holds [] { args:=[.list (ns.map .int)] }=true:=by
   have h4:=(holds_andW hc).1
   rw[hn] at h4
   exact h4
  have h5:=condW_of h4 (w_not (w_lt w_lit (w_len_list (w_arg rfl))))
  rw[List.length_map] at h5
  refine Nat.le_of_not_lt fun q=>?_
  have q':(n:Int)<((ns.length:Nat):Int):=by omega
  first
   | (rw[decide_eq_true q'] at h5; exact absurd h5 (by decide))
   | (simp at h5; omega)
 cases hwl with
 | cons w1 w2=>
  cases w2
  cases w1 with
  | list ho hall=>exact⟨_,_,ns,rfl,rfl,ho,Gcm ns _ hall,hlen⟩
theorem post_true(l:OpenLaw)(args:List WData):l.row.toRowW.claim.post args (.bool true) args=true:=
 postW_of (r:=l.row.toRowW) (X:=(true==true))
  (show WShape.has [] (.bool true) .bool=true by first | rfl | decide | simp[WShape.has,WShape.arms,WShape.armsAll])
  (show(WTm.eq .res (.lit (.bool true))).value [] { args:=args,res:=some (.bool true),after:=args }=some (.bool (true==true)) from w_eq_bool (w_res rfl) w_lit) rfl
theorem attach_call{l:OpenLaw}{n:Nat}{q:Program}{loose:List Str}{XP:(Str->Option Value)->Heap->Prop}{YP:World->Heap->Prop}{d:DefRec}
  (hn:l.most=some n) (hdf:d.params.defaults=[])
  (call:∀ (w:World) (s₀ s₁:Shared) (mg mb:Str->Option Value) (fa:Addr) (o:Obj) (pm cd doc:Value) (a:Addr) (vs:List Value) (ns:List Int),
   Ground q loose [] XP w s₀ mg mb s₁.heap->YP w s₁.heap→
   s₁.heap.get? fa=some o->o.data=.func (docDef d.name d.params d.body d.scope pm cd doc)->s₁.heap.CodeRec cd d.name->mg d.name=some (.ref fa)→
   s₁.heap.get? a=some { cls:=.type "list",data:=.seq vs.toArray }->IntsAre vs ns->ns.length<=n->s₁.gens=#[]→
   codeAny (model l.prog w) callerA (.call (.ref fa) ⟨[.ref a],[]⟩) (fun r s'=>r=.ok (.ret (.bool true))/\OldK s₁.heap s'.heap/\s'.os=s₁.os/\AllBare s'.gens) s₁):
  WalkO q loose XP YP l.row.toRowW d [] (fun f vs=>PySem.call f vs):=by
 intro w s₀ s₁ mg mb G Y fa o pm cd doc dV kV ho hd hcd hD hmg hg args vals as hpre hlay hrd hwl hlo
 obtain rfl:dV=.none:=Dflts.none hD hdf
 obtain rfl:kV=.none:=Dflts.noKw hD
 obtain⟨a,vs,ns,rfl,rfl,hobj,hints,hlen⟩:=Gke hn hpre hwl
 refine enter_call (codeAny_mono (call w s₀ s₁ mg mb fa o pm cd doc a vs ns G Y ho (fd_plain hd) hcd hmg hobj hints hlen hg) fun r s' hq=>?_)
 obtain⟨rfl,h2,h3,h4⟩:=hq
 exact⟨.inl ⟨.bool true,.bool true,[],rfl,fun _=>rfl,.bool true,post_true l _,fun _=>⟨List.Pairwise.nil,fun _ hm=>(nomatch hm)⟩⟩,h2,h3,h4⟩
end Att
namespace L2
open PySem PySem.Spec PyProof.Rows
variable{k:Nat}{fd:FuncData}{x qual:Str}{f:Addr}
theorem Ge8:∀ {vs:List Value} {ns:List Int},IntsAre vs ns->Vals (ns.map V.int) vs
 | _,_,.nil=>.nil
 | _,_,.cons n t h=>.cons ⟨t,rfl⟩ (Ge8 h)
def Only(H:Hp):Prop:=∀ b,H b=none\/∃ o xs,H b=some (.frz o (.lst xs))
theorem Gll{P:Program}{w:World}{K:PySem.W.Frag}{mg mb:Str->Option Value}{CX:CXT}{fa a:Addr}{sp:Sp}{s₁:Shared}{vs:List Value}{ns:List Int}(KX:K.In s₁.heap)(hns:s₁.heap.Ns mainGlobals mg)(hb:s₁.heap.Ns builtinsNs mb)(hbb:∀ x:Str,x≠"__name__"->mb x=bootBuiltins x)(hlim:s₁.heap.NoLimit)(hg:s₁.gens=#[])(ha:s₁.heap.get? a=some { cls:=.type "list",data:=.seq vs.toArray })(hi:IntsAre vs ns)(hl:ns.length<=sizeLine)(hr:Room k callerA)(F:∀ base:Heap,K.In base->base.Ns mainGlobals mg->FnOk P w K mg base CX k fa fd [x] sp)(hbind:∀ (s:Shared) (u:Value),BindsTo s fd ⟨[u],[]⟩ [(x,u)])(hsp:∀ H:Hp,Only H->SqL K H a (ns.map V.int)->sp [.ref a] H (fun v _=>v=.bl true) fun _ _ _=>False)(hCX:∀ H e s',CX [] H s₁ (fun _ _ _=>False) e s'->False):
  codeAny (model P w) callerA (.call (.ref fa) ⟨[.ref a],[]⟩) (fun r s'=>r=.ok (.ret (.bool true))/\OldK s₁.heap s'.heap/\s'.os=s₁.os/\AllBare s'.gens) s₁:=by
 have rv:=Ge8 hi
 have lenV:=hi.length
 have core:∀ H:Hp,Only H->SqL K H a (ns.map V.int)->HOk P w H s₁.heap->(∀ b,H b≠none->b=a)->(H a≠none->K.lookup a=none)→
   codeAny (model P w) callerA (.call (.ref fa) ⟨[.ref a],[]⟩) (fun r s'=>r=.ok (.ret (.bool true))/\OldK s₁.heap s'.heap/\s'.os=s₁.os/\AllBare s'.gens) s₁:=by
  intro H hO hS hok hA hK
  have base_of:∀ {b:Addr} {o:Obj},s₁.heap.get? b=some o->H b=none->(Gfj s₁.heap H).get? b=some o:=fun e n=>Gk1 e n
  have noA:∀ {b:Addr} {o:Obj} {es:Array DictEntry} {ep:Nat},s₁.heap.get? b=some o->o.data=.dict es ep->H b=none:=fun{b o es ep} e d=>by
   cases q:H b with
   | none=>rfl
   | some u=>
    have e':b=a:=hA b (by rw[q]; simp)
    subst e'
    rw[ha] at e; cases e
    have d':Data.seq vs.toArray _=Data.dict es ep:=d
    cases d'
  have nsK:∀ {b:Addr} {m:Str->Option Value},s₁.heap.Ns b m->(Gfj s₁.heap H).Ns b m:=fun{b m} ⟨o,es,ep,e,d,r⟩=>⟨o,es,ep,base_of e (noA e d),d,r⟩
  have hKb:K.In (Gfj s₁.heap H):=fun b o e=>base_of (KX b o e) (by
   cases q:H b with
   | none=>rfl
   | some u=>
    have e':b=a:=hA b (by rw[q]; simp)
    subst e'
    rw[hK (by rw[q]; simp)] at e; cases e)
  have hM:Mod K mg (Gfj s₁.heap H):=⟨hKb,nsK hns,⟨mb,nsK hb,hbb⟩,let ⟨mc,h1,h2⟩:=hlim; ⟨mc,nsK h1,h2⟩⟩
  have e0:Env0 P w K mg (Gfj s₁.heap H) callerA [] s₁ H:=⟨rfl,hM,fun b o e=>of_hidT e,Nat.le_of_eq (Gj6 _ _),trivial,fun b hb=>absurd (show b∈([]:List Addr) from hb) (by simp),hok,.of_eq hg⟩
  refine codeAny_mono ((F _ hKb (nsK hns)).run callerA [] s₁ H ⟨[.ref a],[]⟩ [.ref a] [.ref a] _ _ hr e0 (hbind s₁ (.ref a)) (.cons rfl .nil) (hsp H hO hS)) fun r s' h=>?_
  cases r with
  | error e=>exact(hCX H e s' h).elim
  | ok fl=>
   cases fl with
   | next=>exact False.elim h
   | brk=>exact False.elim h
   | cont=>exact False.elim h
   | ret u=>
    obtain⟨v,H',os,bare,un,hok',r',q⟩:=h
    have q':v=.bl true:=q
    subst q'
    obtain rfl:u=Value.bool true:=r'
    refine⟨rfl,OldK.of_keep fun b o e=>?_,os,bare⟩
    cases q:H b with
    | none=>exact un.keep b o e q (by intro z; exact absurd (show b∈([]:List Addr) from z) (by simp)) (by simp)
    | some u=>
     rcases hO b with z | ⟨ob,xs,z⟩
     ·rw[q] at z; cases z
     ·have z2:=un.frzs b ob _ z
      obtain⟨e1,_⟩:=hok b _ z
      obtain⟨e2,_⟩:=hok' b _ z2
      rw[e] at e1; cases e1
      exact e2
 cases hk:K.lookup a with
 | some o=>
  have e:=KX a o hk
  rw[ha] at e
  cases e
  refine core (fun _=>none) (fun _=>.inl rfl) (.inr ⟨_,vs.toArray,_,hk,rfl,rfl,rfl,by rw[List.size_toArray,lenV]; exact hl,by simpa using rv⟩) (fun b u z=>by have z':(none:Option HO)=some u:=z; cases z') (fun b z=>absurd rfl z) fun z=>absurd rfl z
 | none=>
  refine core (fun b=>if b=a then some (.frz { cls:=.type "list",data:=.seq vs.toArray } (.lst (ns.map V.int))) else none) (fun b=>?_) (.inl (.inr ⟨{ cls:=.type "list",data:=.seq vs.toArray },if_pos rfl⟩)) (fun b u z=>?_) (fun b z=>?_) fun _=>hk
  ·by_cases hb:b=a
   ·exact .inr ⟨_,_,if_pos hb⟩
   ·exact .inl (if_neg hb)
  ·by_cases hb:b=a
   ·have z':=(if_pos hb).symm.trans z
    cases z'
    subst hb
    exact⟨ha,by rw[List.length_map]; exact hl,vs,_,rv,ha⟩
   ·have z':=(if_neg hb).symm.trans z
    cases z'
  ·by_cases hb:b=a
   ·exact hb
   ·exact absurd (if_neg hb) z
theorem Go6{l:PySem.W.OpenLaw}{n:Nat}{q:Program}{loose:List Str}{XP:(Str->Option Value)->Heap->Prop}{YP:World->Heap->Prop}{d:DefRec}{K:Params->PySem.W.Frag}{CX:World->CXT}{sp:World->Sp}(hn:l.most=some n)(hn2:n<=sizeLine)(hdf:d.params.defaults=[])(hr:Room k callerA)(hY:∀ (w:World) (h:Heap),YP w h->(K w.params).In h)(F:∀ (w:World) (mg:Str->Option Value) (fa:Addr) (h:Heap),(K w.params).In h->h.Ns mainGlobals mg->mg d.name=some (.ref fa)→
   ∃ fd:FuncData,(∀ (s:Shared) (u:Value),BindsTo s fd ⟨[u],[]⟩ [(x,u)])∧
    ∀ base:Heap,(K w.params).In base->base.Ns mainGlobals mg->FnOk l.prog w (K w.params) mg base (CX w) k fa fd [x] (sp w))(hsp:∀ (w:World) (H:Hp) (a:Addr) (ns:List Int),ns.length<=n->Only H->SqL (K w.params) H a (ns.map V.int)->sp w [.ref a] H (fun v _=>v=.bl true) fun _ _ _=>False)(hCX:∀ (w:World) (H:Hp) (s:Shared) (e:Value) (s':Shared),CX w [] H s (fun _ _ _=>False) e s'->False):
  PySem.W.WalkO q loose XP YP l.row.toRowW d [] (fun f vs=>PySem.call f vs):=by
 refine Att.attach_call hn hdf fun w s₀ s₁ mg mb fa o pm cd doc a vs ns G Y ho hd hcd hmg hobj hints hlen hg=>?_
 have KX:=hY w _ Y
 obtain⟨fd,hb,hF⟩:=F w mg fa _ KX G.T.g hmg
 exact Gll KX G.T.g G.T.b G.T.builtins G.T.nolimit hg hobj hints (Nat.le_trans hlen hn2) hr hF hb (fun H hO hS=>hsp w H a ns hlen hO hS) fun H e s'=>hCX w H s₁ e s'
theorem Glm{l:PySem.W.OpenLaw}{n:Nat}{q:Program}{loose:List Str}{XP:(Str->Option Value)->Heap->Prop}{YP:World->Heap->Prop}{d:DefRec}{K:Params->PySem.W.Frag}{CX:CXT}{sp:PySem.W.Frag->Sp}(hn:l.most=some n)(hn2:n<=sizeLine)(hdf:d.params.defaults=[])(hr:Room k callerA)(hY:∀ (w:World) (h:Heap),YP w h->(K w.params).In h)(F:∀ (w:World) (mg:Str->Option Value) (fa:Addr) (h:Heap),(K w.params).In h->h.Ns mainGlobals mg->mg d.name=some (.ref fa)→
   ∃ fd:FuncData,(∀ (s:Shared) (u:Value),BindsTo s fd ⟨[u],[]⟩ [(x,u)])∧
    ∀ base:Heap,(K w.params).In base->base.Ns mainGlobals mg->FnOk l.prog w (K w.params) mg base CX k fa fd [x] (sp (K w.params)))(hsp:∀ (K:PySem.W.Frag) (H:Hp) (a:Addr) (ns:List Int),ns.length<=n->Only H->SqL K H a (ns.map V.int)->sp K [.ref a] H (fun v _=>v=.bl true) fun _ _ _=>False)(hCX:∀ (H:Hp) (s:Shared) (e:Value) (s':Shared),CX [] H s (fun _ _ _=>False) e s'->False):
  PySem.W.WalkO q loose XP YP l.row.toRowW d [] (fun f vs=>PySem.call f vs):=
 Go6 (K:=K) (CX:=fun _=>CX) (sp:=fun w=>sp (K w.params)) hn hn2 hdf hr hY F (fun w H a ns h1 h2 h3=>hsp (K w.params) H a ns h1 h2 h3) fun _ H s e s'=>hCX H s e s'
def Jg(s:Stmt):Arguments:=match s with
 | .FunctionDef _ a _ _ _ _ _ _ _ _=>a
 | _=>{ posonlyargs:=[],args:=[],vararg:=none,kwonlyargs:=[],kw_defaults:=[],kwarg:=none,defaults:=[] }
def Hi(s:Stmt):List Stmt:=match s with
 | .FunctionDef _ _ b _ _ _ _ _ _ _=>b
 | _=>[]
def Gf(s:Stmt):Scope:=match s with
 | .FunctionDef _ _ _ _ _ _ sc _ _ _=>sc
 | _=>{ kind:=.function,names:=[],isGenerator:=false,isCoroutine:=false }
abbrev CX0:CXT:=fun _ _ _ _ _ _=>False
abbrev E0:XK:=fun _ _ _=>False
theorem Gx3{X:Cx}:Passes CX0 X E0:=fun _ _ _ _ _ _ _ h=>h.elim
structure Fun(K:PySem.W.Frag)(x qual:Str)(st:Stmt)(f:Addr)(fd:FuncData):Prop where
 ex:∃ (oc:Value) (od:Option Addr) (kV doc pm:Value) (an:Option Addr) (cdv ct:Value) (osl:Array (Option Value)),
  fd=PySem.W.fnOf x qual (Jg st) (Hi st) (Gf st) .none kV doc pm an cdv ct/\K.lookup f=some ⟨oc,od,.func fd,osl⟩/\PySem.W.codeIn K cdv qual=true
 kp:PySem.W.keepIn K (.ref f)=true
section
variable{P:Program}{w:World}{K:PySem.W.Frag}{mg:Str->Option Value}{base:Heap}
theorem Fun.ok{st:Stmt}{N ps:List Str}{sp:Sp}(F:Fun K x qual st f fd)(S:FnScope N ps (Gf st))(len:∀ vs H Q E,sp vs H Q E->vs.length=ps.length)(hbody:∀ (cdv:Value) (A:Around) (outer:List Env) (s:Shared) (H:Hp) (vs:List V) (Q:VK) (E:XK),Room k (A.deeper (envOfC qual (Gf st) s.heap.objs.size f cdv))->sp vs H Q E→
   ∃ t,PSs (Vd CX0 P w K mg base N qual (Gf st) f cdv A outer s H E).nox (Hi st) t/\t { nx:=fun _ H'=>Q .non H',rt:=Q } (start N vs) H):FnOk P w K mg base CX0 (k+1) f fd ps sp:=by
 obtain⟨oc,od,kV,doc,pm,an,cdv,ct,osl,rfl,lk,hcd⟩:=F.ex
 refine Gru lk hcd S len fun A outer s H vs Q E hr hsp=>?_
 obtain⟨t,h,q⟩:=hbody cdv A outer s H vs Q E hr hsp
 exact⟨t,h.nox,q⟩
theorem Fun.binds{st:Stmt}{ps:List Str}(F:Fun K x qual st f fd)(h:∀ (kV doc pm:Value) (an:Option Addr) (cdv ct:Value) (us:List Value),us.length=ps.length->bindArgs (PySem.W.fnOf x qual (Jg st) (Hi st) (Gf st) .none kV doc pm an cdv ct) ⟨us,[]⟩=pure (ps.zip us)):Binds K fd ps []:=by
 obtain⟨oc,od,kV,doc,pm,an,cdv,ct,osl,rfl,lk,hcd⟩:=F.ex
 exact .all (h kV doc pm an cdv ct)
theorem Gbx{st:Stmt}{oc:Value}{od an:Option Addr}{osl:Array (Option Value)}{kV doc pm cdv ct:Value}(l:K.lookup f=some ⟨oc,od,.func (PySem.W.fnOf x qual (Jg st) (Hi st) (Gf st) .none kV doc pm an cdv ct),osl⟩)(c:PySem.W.codeIn K cdv qual=true)(k:PySem.W.keepIn K (.ref f)=true):Fun K x qual st f (PySem.W.fnOf x qual (Jg st) (Hi st) (Gf st) .none kV doc pm an cdv ct):=⟨⟨oc,od,kV,doc,pm,an,cdv,ct,osl,rfl,l,c⟩,k⟩
end
end L2
namespace DL
open PySem PySem.Spec PyProof.Rows L2
inductive D where
 | non | bl (b:Bool) | int (i:Int) | str (x:Str) | tup (l:List D) | lst (i:Nat) | exn (c:Str) (n:Option Int) | fv (x:Str)
structure Cell where
 fz:Bool
 xs:List D
abbrev Sto:=List Cell
abbrev Lc:=List (Option D)
structure XD where
 cls:Str
 fld:Option Int
inductive Out(α:Type) where
 | ok (a:α) (S:Sto)
 | exc (x:XD) (S:Sto)
 | bad
def Out.bind{α β:Type}(o:Out α)(g:α->Sto->Out β):Out β:=
 match o with
 | .ok a S=>g a S
 | .exc x S=>.exc x S
 | .bad=>.bad
structure XCl(K:PySem.W.Frag)(c:Addr):Prop where
 ga:PySem.W.findIn K (.ref c) "__getattribute__"=some (some (.builtin "BaseException.__getattribute__"))
 gt:PySem.W.findIn K (.ref c) "__getattr__"=some none
 cl:PySem.W.findIn K (.ref c) "__class__"=some (some (.builtin "object.__class__"))
 cd:(PySem.W.clsIn K c).isSome=true
 ob:PySem.W.mroIn K c (.type "object")=some true
 be:PySem.W.subIn K (.ref c) (.type "BaseException")=some true
 bt:∀ T∈["bool","int","str","tuple","list"],PySem.W.kitOne K (.ref c) (.type T)=some false
def CN(K:PySem.W.Frag)(y:Str)(c:Addr):Prop:=PySem.W.nsIn K mainGlobals y=some (some (.ref c))
theorem CN.one{K:PySem.W.Frag}{y:Str}{c d:Addr}(h:CN K y c)(g:CN K y d):c=d:=Value.ref.inj (Option.some.inj (Option.some.inj (h.symm.trans g)))
def XO(a c:Addr)(dx:Option Addr):HO:=.ext fun h=>∃ oe,h.get? a=some oe/\oe.cls=.ref c/\oe.dict=dx/\∃ vs,oe.data=.fields vs
def XA(d:Addr)(n:Int):HO:=.ext fun h=>∃ t,h.Ns d fun y=>if y="at" then some (.int n t) else none
mutual
def Rep(K:PySem.W.Frag)(mp:List Addr)(H:Hp):D->V->Prop
 | .non,v=>v=.non
 | .bl b,v=>v=.bl b
 | .int i,v=>v=.int i
 | .str x,v=>v=.str x
 | .tup l,v=>∃ a xs,v=.ref a/\SqT K H a xs/\RepL K mp H l xs
 | .lst i,v=>∃ a,v=.ref a/\mp[i]?=some a
 | .exn c n,v=>∃ a dx p,v=.ref a/\(CN K c p/\XCl K p/\H a=some (XO a p dx))/\∀ i,n=some i->∃ d,dx=some d/\H d=some (XA d i)
 | .fv x,v=>∃ a,v=.ref a/\CN K x a
def RepL(K:PySem.W.Frag)(mp:List Addr)(H:Hp):List D->List V->Prop
 | [],vs=>vs=[]
 | d::l,vs=>∃ v r,vs=v::r/\Rep K mp H d v/\RepL K mp H l r
end
structure Aft(K:PySem.W.Frag)(mp:List Addr)(H:Hp)(mp':List Addr)(H':Hp):Prop where
 pre:∀ (i:Nat) (a:Addr),mp[i]?=some a->mp'[i]?=some a
 tup:∀ a xs,SqT K H a xs->SqT K H' a xs
 ext:∀ a φ,H a=some (.ext φ)->H' a=some (.ext φ)
theorem Aft.refl{K:PySem.W.Frag}{mp:List Addr}{H:Hp}:Aft K mp H mp H:=⟨fun _ _ h=>h,fun _ _ h=>h,fun _ _ h=>h⟩
theorem Aft.trans{K:PySem.W.Frag}{mp mp1 mp2:List Addr}{H H1 H2:Hp}(a:Aft K mp H mp1 H1)(b:Aft K mp1 H1 mp2 H2):Aft K mp H mp2 H2:=
 ⟨fun i x h=>b.pre i x (a.pre i x h),fun x xs h=>b.tup x xs (a.tup x xs h),fun x f h=>b.ext x f (a.ext x f h)⟩
mutual
theorem Rep.aft{K:PySem.W.Frag}{mp mp':List Addr}{H H':Hp}(a:Aft K mp H mp' H'):∀ (d:D) (v:V),Rep K mp H d v->Rep K mp' H' d v
 | .non,v,h=>h
 | .bl _,v,h=>h
 | .int _,v,h=>h
 | .str _,v,h=>h
 | .tup l,v,h=>by
  obtain⟨p,xs,e,s,r⟩:=(show ∃ a xs,v=.ref a/\SqT K H a xs/\RepL K mp H l xs from h)
  exact⟨p,xs,e,a.tup _ _ s,RepL.aft a l xs r⟩
 | .lst i,v,h=>by
  obtain⟨p,e,s⟩:=(show ∃ a,v=.ref a/\mp[i]?=some a from h)
  exact⟨p,e,a.pre _ _ s⟩
 | .exn c n,v,h=>by
  obtain⟨p,dx,q,e,⟨s0,s1,s⟩,r⟩:=(show ∃ a dx p,v=.ref a/\(CN K c p/\XCl K p/\H a=some (XO a p dx))/\∀ i,n=some i->∃ d,dx=some d/\H d=some (XA d i) from h)
  exact⟨p,dx,q,e,⟨s0,s1,a.ext _ _ s⟩,fun i z=>let ⟨d,z1,z2⟩:=r i z; ⟨d,z1,a.ext _ _ z2⟩⟩
 | .fv x,v,h=>h
theorem RepL.aft{K:PySem.W.Frag}{mp mp':List Addr}{H H':Hp}(a:Aft K mp H mp' H'):∀ (l:List D) (vs:List V),RepL K mp H l vs->RepL K mp' H' l vs
 | [],vs,h=>h
 | d::l,vs,h=>by
  obtain⟨v,r,e,h1,h2⟩:=(show ∃ v r,vs=v::r/\Rep K mp H d v/\RepL K mp H l r from h)
  exact⟨v,r,e,Rep.aft a d v h1,RepL.aft a l r h2⟩
end
section
variable{K:PySem.W.Frag}{mp:List Addr}{H:Hp}
theorem RepL.nil:RepL K mp H [] []:=rfl
theorem RepL.cons{d:D}{v:V}{l:List D}{r:List V}(h:Rep K mp H d v)(t:RepL K mp H l r):RepL K mp H (d::l) (v::r):=⟨v,r,rfl,h,t⟩
theorem RepL.len:∀ {l:List D} {vs:List V},RepL K mp H l vs->vs.length=l.length
 | [],vs,h=>by cases (show vs=[] from h); rfl
 | d::l,vs,h=>by
  obtain⟨v,r,e,h1,h2⟩:=h
  subst e
  simp[RepL.len h2]
theorem RepL.get:∀ {l:List D} {vs:List V} {i:Nat} {d:D},RepL K mp H l vs->l[i]?=some d->∃ v,vs[i]?=some v/\Rep K mp H d v
 | [],_,_,_,_,e=>by simp at e
 | d::l,vs,0,_,h,e=>by
  obtain⟨v,r,q,h1,h2⟩:=h
  subst q
  simp at e
  subst e
  exact⟨v,rfl,h1⟩
 | d::l,vs,i+1,x,h,e=>by
  obtain⟨v,r,q,h1,h2⟩:=h
  subst q
  obtain⟨v',a,b⟩:=RepL.get (i:=i) (d:=x) h2 (by simpa using e)
  exact⟨v',by simpa using a,b⟩
theorem RepL.append:∀ {l m:List D} {vs ws:List V},RepL K mp H l vs->RepL K mp H m ws->RepL K mp H (l++m) (vs++ws)
 | [],m,vs,ws,h,g=>by cases (show vs=[] from h); exact g
 | d::l,m,vs,ws,h,g=>by
  obtain⟨v,r,q,h1,h2⟩:=h
  subst q
  exact⟨v,r++ws,rfl,h1,RepL.append h2 g⟩
theorem RepL.take:∀ {l:List D} {vs:List V} (n:Nat),RepL K mp H l vs->RepL K mp H (l.take n) (vs.take n)
 | [],vs,n,h=>by cases (show vs=[] from h); simp; exact RepL.nil
 | d::l,vs,0,h=>by simp; exact RepL.nil
 | d::l,vs,n+1,h=>by
  obtain⟨v,r,q,h1,h2⟩:=h
  subst q
  simpa using RepL.cons h1 (RepL.take n h2)
theorem RepL.drop:∀ {l:List D} {vs:List V} (n:Nat),RepL K mp H l vs->RepL K mp H (l.drop n) (vs.drop n)
 | [],vs,n,h=>by cases (show vs=[] from h); simp; exact RepL.nil
 | d::l,vs,0,h=>by simpa using h
 | d::l,vs,n+1,h=>by
  obtain⟨v,r,q,h1,h2⟩:=h
  subst q
  simpa using RepL.drop n h2
theorem RepL.set:∀ {l:List D} {vs:List V} {d:D} {v:V} (n:Nat),RepL K mp H l vs->Rep K mp H d v->RepL K mp H (l.set n d) (vs.set n v)
 | [],vs,d,v,n,h,g=>by cases (show vs=[] from h); simp; exact RepL.nil
 | x::l,vs,d,v,0,h,g=>by
  obtain⟨v',r,q,h1,h2⟩:=h
  subst q
  simpa using RepL.cons g h2
 | x::l,vs,d,v,n+1,h,g=>by
  obtain⟨v',r,q,h1,h2⟩:=h
  subst q
  simpa using RepL.cons h1 (RepL.set n h2 g)
end
def SqF(K:PySem.W.Frag)(H:Hp)(a:Addr)(xs:List V):Prop:=
 (∃ o,H a=some (.frz o (.lst xs)))∨
  ∃ (o:Obj) (its:Array Value) (n:Nat),K.lookup a=some o/\o.cls=.type "list"/\o.dict=none/\o.data=.seq its n/\its.size<=sizeLine/\Vals xs its.toList
theorem SqF.sq{K:PySem.W.Frag}{H:Hp}{a:Addr}{xs:List V}(h:SqF K H a xs):SqL K H a xs:=by
 rcases h with h | h
 ·exact .inl (.inr h)
 ·exact .inr h
def Gfq(K:PySem.W.Frag)(mp:List Addr)(H:Hp)(a:Addr)(c:Cell):Prop:=
 ∃ xs,RepL K mp H c.xs xs/\(if c.fz=true then SqF K H a xs else H a=some (.lst xs))
structure RS(K:PySem.W.Frag)(mp:List Addr)(H:Hp)(S:Sto):Prop where
 len:mp.length=S.length
 cell:∀ (i:Nat) (a:Addr) (c:Cell),mp[i]?=some a->S[i]?=some c->Gfq K mp H a c
 inj:∀ (i j:Nat) (a:Addr) (ci cj:Cell),mp[i]?=some a->mp[j]?=some a->S[i]?=some ci->S[j]?=some cj->ci.fz=false->cj.fz=false->i=j
structure Gd(K:PySem.W.Frag)(mp:List Addr)(H:Hp)(σ:L2.St)(ρ:Lc)(S:Sto):Prop where
 rs:RS K mp H S
 len:σ.length=ρ.length
 loc:∀ (i:Nat) (d:D),ρ[i]?=some (some d)->∃ v,σ[i]?=some (some v)/\Rep K mp H d v
theorem Gd.aft{K:PySem.W.Frag}{mp mp':List Addr}{H H':Hp}{σ:L2.St}{ρ:Lc}{S S':Sto}(g:Gd K mp H σ ρ S)(a:Aft K mp H mp' H')(r:RS K mp' H' S'):Gd K mp' H' σ ρ S':=
 ⟨r,g.len,fun i d h=>let ⟨v,e,q⟩:=g.loc i d h; ⟨v,e,q.aft a⟩⟩
abbrev XW:=XD->List Addr->Hp->L2.St->Lc->Sto->Prop
abbrev RL(α β:Type):=List Addr->Hp->α->β->Prop
def Gs{α β:Type}(K:PySem.W.Frag)(R:RL α β)(XQ:XW)(σ:L2.St)(ρ:Lc)(mp:List Addr)(H:Hp)(o:Out α)(Q:β->Hp->Prop):Prop:=
 match o with
 | .ok d S=>∀ mp' H' v,Aft K mp H mp' H'->RS K mp' H' S->R mp' H' d v->Q v H'
 | .exc x S=>∀ mp' H',Aft K mp H mp' H'->Gd K mp' H' σ ρ S->XQ x mp' H' σ ρ S
 | .bad=>False
theorem Gs.aft{α β:Type}{K:PySem.W.Frag}{R:RL α β}{XQ:XW}{σ:L2.St}{ρ:Lc}{mp mp':List Addr}{H H':Hp}{o:Out α}{Q:β->Hp->Prop}(p:Gs K R XQ σ ρ mp H o Q)(a:Aft K mp H mp' H'):Gs K R XQ σ ρ mp' H' o Q:=by
 cases o with
 | ok d S=>exact fun m h v b=>p m h v (a.trans b)
 | exc x S=>exact fun m h b=>p m h (a.trans b)
 | bad=>exact p
theorem Gs.ok{α β:Type}{K:PySem.W.Frag}{R:RL α β}{XQ:XW}{σ:L2.St}{ρ:Lc}{mp:List Addr}{H:Hp}{d:α}{S:Sto}{v:β}{Q:β->Hp->Prop}(p:Gs K R XQ σ ρ mp H (.ok d S) Q)(r:RS K mp H S)(h:R mp H d v):Q v H:=p mp H v .refl r h
abbrev Post(K:PySem.W.Frag)(XQ:XW):=Gs (β:=V) K (Rep K) XQ
abbrev Ev(α:Type):=Lc->Sto->Out α
def rdG{α β:Type}(K:PySem.W.Frag)(R:RL α β)(XQ:XW)(f:Ev α):L2.St->Hp->(β->Hp->Prop)->Prop:=fun σ H Q=>∃ mp ρ S,Gd K mp H σ ρ S/\Gs K R XQ σ ρ mp H (f ρ S) Q
def kB:RL Bool Bool:=fun _ _ a b=>b=a
def kO:RL (Option Int) (Option Int):=fun _ _ a b=>b=a
abbrev rdE(K:PySem.W.Frag)(XQ:XW)(f:Ev D):TE:=rdG K (Rep K) XQ f
abbrev rdA(K:PySem.W.Frag)(XQ:XW)(f:Ev (List D)):TA:=rdG K (RepL K) XQ f
abbrev rdT(K:PySem.W.Frag)(XQ:XW)(f:Ev Bool):TT:=rdG K kB XQ f
abbrev rdO(K:PySem.W.Frag)(XQ:XW)(f:Ev (Option Int)):TO:=rdG K kO XQ f
def JE(X:Cx)(XQ:XW)(e:Expr)(f:Ev D):Prop:=PE X e (rdE X.K XQ f)
def JA(X:Cx)(XQ:XW)(es:List Expr)(f:Ev (List D)):Prop:=PA X es (rdA X.K XQ f)
def JT(X:Cx)(XQ:XW)(e:Expr)(f:Ev Bool):Prop:=PT X e (rdT X.K XQ f)
def JW(X:Cx)(XQ:XW)(e:Expr)(f:Ev Bool):Prop:=PW X e (rdT X.K XQ f)
def JO(X:Cx)(XQ:XW)(e:Option Expr)(f:Ev (Option Int)):Prop:=PO X e (rdO X.K XQ f)
theorem PE.mono{X:Cx}{e:Expr}{t t':TE}(h:PE X e t)(m:∀ σ H Q,t' σ H Q->t σ H Q):PE X e t':=fun pins s σ H Q I q=>h pins s σ H Q I (m σ H Q q)
theorem PT.mono{X:Cx}{e:Expr}{t t':TT}(h:PT X e t)(m:∀ σ H Q,t' σ H Q->t σ H Q):PT X e t':=fun pins s σ H Q I q=>h pins s σ H Q I (m σ H Q q)
theorem PW.mono{X:Cx}{e:Expr}{t t':TT}(h:PW X e t)(m:∀ σ H Q,t' σ H Q->t σ H Q):PW X e t':=fun wh pins s σ H Q I q=>h wh pins s σ H Q I (m σ H Q q)
theorem PO.mono{X:Cx}{e:Option Expr}{t t':TO}(h:PO X e t)(m:∀ σ H Q,t' σ H Q->t σ H Q):PO X e t':=fun pins s σ H Q I q=>h pins s σ H Q I (m σ H Q q)
theorem PA.mono{X:Cx}{e:List Expr}{t t':TA}(h:PA X e t)(m:∀ σ H Q,t' σ H Q->t σ H Q):PA X e t':=fun pos pins s σ H Q I q=>h pos pins s σ H Q I (m σ H Q q)
theorem PS.mono{X:Cx}{e:Stmt}{t t':TS}(h:PS X e t)(m:∀ D σ H,t' D σ H->t D σ H):PS X e t':=fun pins s σ H D I q=>h pins s σ H D I (m D σ H q)
theorem PSs.mono{X:Cx}{e:List Stmt}{t t':TS}(h:PSs X e t)(m:∀ D σ H,t' D σ H->t D σ H):PSs X e t':=fun pins s σ H D I q=>h pins s σ H D I (m D σ H q)
theorem bindP{α β γ δ:Type}{K:PySem.W.Frag}{R:RL α β}{R':RL γ δ}{XQ:XW}{mp:List Addr}{H:Hp}{σ:L2.St}{ρ:Lc}{S:Sto}{f:Ev α}{g:α->Sto->Out γ}{Q:δ->Hp->Prop}{Q1:β->Hp->Prop}(G:Gd K mp H σ ρ S)(p:Gs K R' XQ σ ρ mp H ((f ρ S).bind g) Q)
  (k:∀ mp1 H1 d S1 v,Aft K mp H mp1 H1->Gd K mp1 H1 σ ρ S1->R mp1 H1 d v->Gs K R' XQ σ ρ mp1 H1 (g d S1) Q->Q1 v H1):rdG K R XQ f σ H Q1:=by
 refine⟨mp,ρ,S,G,?_⟩
 cases e:f ρ S with
 | ok d S1=>
  rw[e] at p
  exact fun mp1 H1 v a rs r=>k mp1 H1 d S1 v a (G.aft a rs) r (Gs.aft p a)
 | exc x S1=>rw[e] at p; exact p
 | bad=>rw[e] at p; exact p
def vr(i:Nat):Ev D:=fun ρ S=>match ρ[i]? with
 | some (some d)=>.ok d S
 | _=>.bad
def cn(d:D):Ev D:=fun _ S=>.ok d S
section
variable{X:Cx}{XQ:XW}
theorem Gln(i:Nat){x:Str}{pos:Pos}(hN:X.N[i]?=some x:=by rfl)(hv:Vis X.env.scope x:=by first | exact Or.inl rfl | exact Or.inr (Or.inl rfl) | exact Or.inr (Or.inr rfl))(hd:(x==("__debug__":Str))=false:=by decide)
  (hcd:(x==("__classdict__":Str))=false:=by decide):JE X XQ (.Name x pos) (vr i):=by
 refine PE.mono (Yg hN hv hd hcd) fun σ H Q ⟨mp,ρ,S,G,p⟩=>?_
 unfold vr at p
 cases e:ρ[i]? with
 | none=>rw[e] at p; exact p.elim
 | some o=>
  rw[e] at p
  cases o with
  | none=>exact p.elim
  | some d=>
   obtain⟨v,h1,h2⟩:=G.loc i d e
   exact⟨v,h1,Gs.ok p G.rs h2⟩
theorem Xz{e:Expr}{d:D}{v:V}(h:PE X e (tC v))(r:∀ mp H,Rep X.K mp H d v):JE X XQ e (cn d):=
 PE.mono h fun σ H Q ⟨mp,ρ,S,G,p⟩=>Gs.ok p G.rs (r mp H)
theorem Gt2{i:Int}{j pos}:JE X XQ (.Constant (.int i) j pos) (cn (.int i)):=Xz Gsy fun _ _=>rfl
theorem Gx4{b:Bool}{j pos}:JE X XQ (.Constant (.bool b) j pos) (cn (.bl b)):=Xz Gxf fun _ _=>rfl
theorem Gt3{j pos}:JE X XQ (.Constant .none j pos) (cn .non):=Xz Gsz fun _ _=>rfl
theorem Gt4{x:Str}{j pos}:JE X XQ (.Constant (.str x) j pos) (cn (.str x)):=Xz Gk2 fun _ _=>rfl
def an:Ev (List D):=fun _ S=>.ok [] S
def ac(f:Ev D)(g:Ev (List D)):Ev (List D):=fun ρ S=>(f ρ S).bind fun x S1=>(g ρ S1).bind fun xs S2=>.ok (x::xs) S2
theorem Gt5:JA X XQ [] an:=PA.mono pa_nil fun σ H Q ⟨mp,ρ,S,G,p⟩=>Gs.ok p G.rs RepL.nil
theorem Go7{e:Expr}{es:List Expr}{f:Ev D}{g:Ev (List D)}(ha:JE X XQ e f)(hr:JA X XQ es g)(hs:starEach (e::es) X.env=(false,eval e X.env)::starEach es X.env:=by rfl):JA X XQ (e::es) (ac f g):=by
 refine PA.mono (Qa ha hr hs) fun σ H Q ⟨mp,ρ,S,G,p⟩=>?_
 refine bindP G p fun mp1 H1 x S1 v a1 G1 r1 p1=>?_
 refine bindP G1 p1 fun mp2 H2 xs S2 vs a2 G2 r2 p2=>?_
 exact Gs.ok p2 G2.rs (RepL.cons (Rep.aft a2 _ _ r1) r2)
theorem Vt{K:PySem.W.Frag}{mp:List Addr}{H:Hp}{p:Addr}{o:HO}(h:H p=none):Aft K mp H mp (upd H p o):=by
 refine⟨fun _ _ e=>e,fun a xs s=>?_,fun a φ s=>by rw[Hb (Jk s h)]; exact s⟩
 rcases s with(s | ⟨ob,s⟩) | s
 ·exact .inl (.inl (by rw[Hb (Jk s h)]; exact s))
 ·exact .inl (.inr ⟨ob,by rw[Hb (Jk s h)]; exact s⟩)
 ·exact .inr s
theorem Go8{K:PySem.W.Frag}{H:Hp}{p a:Addr}{o:HO}{xs:List V}(h:H p=none)(s:SqF K H a xs):SqF K (upd H p o) a xs:=by
 rcases s with⟨ob,s⟩ | s
 ·exact .inl ⟨ob,by rw[Hb (Jk s h)]; exact s⟩
 ·exact .inr s
theorem Gfq.new{K:PySem.W.Frag}{mp mp':List Addr}{H:Hp}{p a:Addr}{o:HO}{c:Cell}(h:H p=none)(af:Aft K mp H mp' (upd H p o))(q:Gfq K mp H a c):Gfq K mp' (upd H p o) a c:=by
 obtain⟨xs,r,e⟩:=q
 refine⟨xs,RepL.aft af _ _ r,?_⟩
 cases z:c.fz with
 | true=>rw[z] at e; exact(if_pos rfl).mpr (Go8 h ((if_pos rfl).mp e))
 | false=>
  rw[z,if_neg Bool.false_ne_true] at e
  rw[if_neg Bool.false_ne_true,Hb (Jk e h)]
  exact e
theorem RS.new{K:PySem.W.Frag}{mp:List Addr}{H:Hp}{S:Sto}{p:Addr}{o:HO}(r:RS K mp H S)(h:H p=none):RS K mp (upd H p o) S:=
 ⟨r.len,fun i a c e1 e2=>(r.cell i a c e1 e2).new h (Vt h),r.inj⟩
theorem RS.newL{K:PySem.W.Frag}{mp:List Addr}{H:Hp}{S:Sto}{p:Addr}{ds:List D}{vs:List V}(r:RS K mp H S)(h:H p=none)(q:RepL K mp H ds vs):
  Aft K mp H (mp++[p]) (upd H p (.lst vs))/\RS K (mp++[p]) (upd H p (.lst vs)) (S++[⟨false,ds⟩])/\(mp++[p])[S.length]?=some p:=by
 have af:Aft K mp H (mp++[p]) (upd H p (.lst vs)):=⟨fun i a e=>by rw[List.getElem?_append_left (List.getElem?_eq_some_iff.mp e).1]; exact e,(Vt (mp:=mp) h).tup,(Vt (K:=K) (mp:=mp) h).ext⟩
 have hl:=r.len
 have lastp:(mp++[p])[S.length]?=some p:=by rw[<- hl]; simp
 refine⟨af,⟨by simp[hl],fun i a c e1 e2=>?_,fun i j a ci cj e1 e2 e3 e4 f1 f2=>?_⟩,lastp⟩
 ·by_cases hi:i<S.length
  ·rw[List.getElem?_append_left (by omega)] at e1
   rw[List.getElem?_append_left hi] at e2
   exact(r.cell i a c e1 e2).new h af
  ·have hi':i=S.length:=by
    have:=(List.getElem?_eq_some_iff.mp e2).1
    simp at this
    omega
   subst hi'
   rw[lastp] at e1
   cases e1
   simp at e2
   subst e2
   exact⟨vs,RepL.aft af _ _ q,by simp[upd_same]⟩
 ·have old:∀ (i:Nat) (a:Addr) (c:Cell),i<S.length->(mp++[p])[i]?=some a->(S++[⟨false,ds⟩])[i]?=some c->c.fz=false->mp[i]?=some a/\S[i]?=some c/\a≠p:=fun i a c hi e1 e2 f=>by
   rw[List.getElem?_append_left (by omega)] at e1
   rw[List.getElem?_append_left hi] at e2
   refine⟨e1,e2,?_⟩
   obtain⟨xs,_,e⟩:=r.cell i a c e1 e2
   rw[f,if_neg Bool.false_ne_true] at e
   exact Jk e h
  have hi:=(List.getElem?_eq_some_iff.mp e3).1
  have hj:=(List.getElem?_eq_some_iff.mp e4).1
  simp at hi hj
  by_cases hi':i<S.length
  ·obtain⟨o1,o2,o3⟩:=old i a ci hi' e1 e3 f1
   by_cases hj':j<S.length
   ·obtain⟨u1,u2,u3⟩:=old j a cj hj' e2 e4 f2
    exact r.inj i j a ci cj o1 u1 o2 u2 f1 f2
   ·have:j=S.length:=by omega
    subst this
    rw[lastp] at e2
    cases e2
    exact absurd rfl o3
  ·have:i=S.length:=by omega
   subst this
   rw[lastp] at e1
   cases e1
   by_cases hj':j<S.length
   ·obtain⟨u1,u2,u3⟩:=old j _ cj hj' e2 e4 f2
    exact absurd rfl u3
   ·omega
theorem RS.setL{K:PySem.W.Frag}{mp:List Addr}{H:Hp}{S:Sto}{i:Nat}{a:Addr}{c:Cell}{xs vs:List V}{ds:List D}(r:RS K mp H S)(hi:mp[i]?=some a)(hc:S[i]?=some c)(hf:c.fz=false)(ha:H a=some (.lst xs))(q:RepL K mp H ds vs):
  Aft K mp H mp (upd H a (.lst vs))/\RS K mp (upd H a (.lst vs)) (S.set i ⟨false,ds⟩):=by
 have af:Aft K mp H mp (upd H a (.lst vs)):=by
  refine⟨fun _ _ e=>e,fun b ys s=>?_,fun b φ s=>by rw[Hb (Giv s ha (by intro z; cases z))]; exact s⟩
  rcases s with(s | ⟨ob,s⟩) | s
  ·exact .inl (.inl (by rw[Hb (Giv s ha (by intro z; cases z))]; exact s))
  ·exact .inl (.inr ⟨ob,by rw[Hb (Giv s ha (by intro z; cases z))]; exact s⟩)
  ·exact .inr s
 refine⟨af,⟨by simp[r.len],fun j b cj e1 e2=>?_,fun j k b cj ck e1 e2 e3 e4 f1 f2=>?_⟩⟩
 ·by_cases hj:j=i
  ·subst hj
   rw[hi] at e1
   cases e1
   rw[List.getElem?_set_self (List.getElem?_eq_some_iff.mp hc).1] at e2
   cases e2
   exact⟨vs,RepL.aft af _ _ q,by simp[upd_same]⟩
  ·rw[List.getElem?_set_ne (Ne.symm hj)] at e2
   obtain⟨ys,h1,h2⟩:=r.cell j b cj e1 e2
   refine⟨ys,RepL.aft af _ _ h1,?_⟩
   cases z:cj.fz with
   | true=>
    rw[z] at h2
    have h2:SqF K H b ys:=(if_pos rfl).mp h2
    refine(if_pos rfl).mpr ?_
    rcases h2 with⟨ob,s⟩ | s
    ·exact .inl ⟨ob,by rw[Hb (Giv s ha (by intro z; cases z))]; exact s⟩
    ·exact .inr s
   | false=>
    rw[z,if_neg Bool.false_ne_true] at h2
    rw[if_neg Bool.false_ne_true]
    have hb:b≠a:=fun hb=>by
     subst hb
     exact hj (r.inj j i b cj c e1 hi e2 hc z hf)
    rw[Hb hb]
    exact h2
 ·have fz:∀ (j:Nat) (cj:Cell),(S.set i ⟨false,ds⟩)[j]?=some cj->cj.fz=false->∃ c',S[j]?=some c'/\c'.fz=false:=fun j cj e f=>by
   by_cases hj:j=i
   ·subst hj
    exact⟨c,hc,hf⟩
   ·rw[List.getElem?_set_ne (Ne.symm hj)] at e
    exact⟨cj,e,f⟩
  obtain⟨c1,g1,g2⟩:=fz j cj e3 f1
  obtain⟨c2,g3,g4⟩:=fz k ck e4 f2
  exact r.inj j k b c1 c2 e1 e2 g1 g3 g2 g4
theorem RS.items{K:PySem.W.Frag}{mp:List Addr}{H:Hp}{S:Sto}{i:Nat}{c:Cell}{v:V}(r:RS K mp H S)(h:Rep K mp H (.lst i) v)(e:S[i]?=some c):∃ a xs,v=.ref a/\mp[i]?=some a/\SqL K H a xs/\RepL K mp H c.xs xs/\(c.fz=false->H a=some (.lst xs)):=by
 obtain⟨a,ev,ea⟩:=(show ∃ a,v=.ref a/\mp[i]?=some a from h)
 obtain⟨xs,q,z⟩:=r.cell i a c ea e
 cases f:c.fz with
 | true=>rw[f] at z; exact⟨a,xs,ev,ea,((if_pos rfl).mp z:SqF K H a xs).sq,q,fun w=>nomatch w⟩
 | false=>rw[f,if_neg Bool.false_ne_true] at z; exact⟨a,xs,ev,ea,SqL.of z,q,fun _=>z⟩
theorem Rep.tup{K:PySem.W.Frag}{mp:List Addr}{H:Hp}{l:List D}{v:V}(h:Rep K mp H (.tup l) v):∃ a xs,v=.ref a/\SqT K H a xs/\RepL K mp H l xs:=h
def OpD(K:PySem.W.Frag)(r:R2)(o:D->D->Sto->Out D):Prop:=
 ∀ (XQ:XW) (σ:L2.St) (ρ:Lc) (mp:List Addr) (H:Hp) (S:Sto) (x y:D) (v u:V) (Q:VK),RS K mp H S->Rep K mp H x v->Rep K mp H y u->Post K XQ σ ρ mp H (o x y S) Q->r v u H Q
def o2(o:D->D->Sto->Out D)(fa fb:Ev D):Ev D:=fun ρ S=>(fa ρ S).bind fun x S1=>(fb ρ S1).bind fun y S2=>o x y S2
theorem Go9{r:R2}{o:D->D->Sto->Out D}{fa fb:Ev D}(hd:OpD X.K r o):∀ σ H Q,rdE X.K XQ (o2 o fa fb) σ H Q->tOp r (rdE X.K XQ fa) (rdE X.K XQ fb) σ H Q:=by
 intro σ H Q ⟨mp,ρ,S,G,p⟩
 refine bindP G p fun mp1 H1 x S1 v a1 G1 r1 p1=>?_
 refine bindP G1 p1 fun mp2 H2 y S2 u a2 G2 r2 p2=>?_
 exact hd XQ σ ρ mp2 H2 S2 x y v u Q G2.rs (Rep.aft a2 _ _ r1) r2 p2
theorem Ge9{a b:Expr}{fa fb:Ev D}{op:Operator}{r:R2}{o:D->D->Sto->Out D}{pos:Pos}(ho:OpR X (binaryOp op) r)(hd:OpD X.K r o)(ha:JE X XQ a fa)(hb:JE X XQ b fb):JE X XQ (.BinOp a op b pos) (o2 o fa fb):=
 PE.mono (Gxp ho ha hb) (Go9 hd)
theorem Gfr{a b:Expr}{fa fb:Ev D}{op:CmpOp}{r:R2}{o:D->D->Sto->Out D}{pos:Pos}(ho:OpR X (compareOp op) r)(hd:OpD X.K r o)(ha:JE X XQ a fa)(hb:JE X XQ b fb)(hm:behindInMarks op b=false):JE X XQ (.Compare a [op] [b] pos) (o2 o fa fb):=
 PE.mono (Gov ho ha hb hm) (Go9 hd)
theorem Gx5{a b:Expr}{fa fb:Ev D}{r:R2}{o:D->D->Sto->Out D}{pos:Pos}(hr:IxR X r)(hd:OpD X.K r o)(ha:JE X XQ a fa)(hb:JE X XQ b fb)(hs:Gcx b):JE X XQ (.Subscript a b pos) (o2 o fa fb):=
 PE.mono (Gxw hr ha hb hs) (Go9 hd)
def UnD(K:PySem.W.Frag)(r:V->Hp->VK->Prop)(o:D->Sto->Out D):Prop:=
 ∀ (XQ:XW) (σ:L2.St) (ρ:Lc) (mp:List Addr) (H:Hp) (S:Sto) (x:D) (v:V) (Q:VK),RS K mp H S->Rep K mp H x v->Post K XQ σ ρ mp H (o x S) Q->r v H Q
def o1(o:D->Sto->Out D)(fa:Ev D):Ev D:=fun ρ S=>(fa ρ S).bind fun x S1=>o x S1
theorem Gx6{a:Expr}{fa:Ev D}{op:UnaryOp}{r:V->Hp->VK->Prop}{o:D->Sto->Out D}{pos:Pos}(ho:UnR X (unaryOp op) r)(hd:UnD X.K r o)(ha:JE X XQ a fa):JE X XQ (.UnaryOp op a pos) (o1 o fa):=by
 refine PE.mono (Gxq ho ha) fun σ H Q ⟨mp,ρ,S,G,p⟩=>?_
 exact bindP G p fun mp1 H1 x S1 v a1 G1 r1 p1=>hd XQ σ ρ mp1 H1 S1 x v Q G1.rs r1 p1
def tp(f:Ev (List D)):Ev D:=fun ρ S=>(f ρ S).bind fun xs S1=>if xs.length<=1000000 then .ok (.tup xs) S1 else .bad
def ls(f:Ev (List D)):Ev D:=fun ρ S=>(f ρ S).bind fun xs S1=>if xs.length<=1000000 then .ok (.lst S1.length) (S1++[⟨false,xs⟩]) else .bad
theorem line_le{n:Nat}(h:n<=1000000):n<=sizeLine:=Nat.le_trans h (by decide)
theorem Zn{K:PySem.W.Frag}{σ:L2.St}{ρ:Lc}{mp:List Addr}{H:Hp}{S:Sto}{ds:List D}{vs:List V}{Q:VK}{p:Addr}(po:Post K XQ σ ρ mp H (.ok (.tup ds) S) Q)(r:RS K mp H S)(q:RepL K mp H ds vs)(h:H p=none):Q (.ref p) (upd H p (.tup vs)):=by
 have af:Aft K mp H mp (upd H p (.tup vs)):=Vt h
 exact po mp _ _ af (r.new h) ⟨p,vs,rfl,SqT.of upd_same,RepL.aft af _ _ q⟩
theorem Ya{K:PySem.W.Frag}{σ:L2.St}{ρ:Lc}{mp:List Addr}{H:Hp}{S:Sto}{ds:List D}{vs:List V}{Q:VK}{p:Addr}(po:Post K XQ σ ρ mp H (.ok (.lst S.length) (S++[⟨false,ds⟩])) Q)(r:RS K mp H S)(q:RepL K mp H ds vs)(h:H p=none):Q (.ref p) (upd H p (.lst vs)):=by
 obtain⟨af,rs,e⟩:=r.newL h q
 exact po _ _ _ af rs ⟨p,rfl,e⟩
theorem Gt6{es:List Expr}{f:Ev (List D)}{x1}{pos:Pos}(h:JA X XQ es f):JE X XQ (.Tuple es x1 pos) (tp f):=by
 refine PE.mono (Gtq h) fun σ H Q ⟨mp,ρ,S,G,p⟩=>?_
 refine bindP G p fun mp1 H1 xs S1 vs a1 G1 r1 p1=>?_
 by_cases hl:xs.length<=1000000
 ·rw[if_pos hl] at p1
  exact⟨by rw[r1.len]; exact line_le hl,fun q hq=>Zn p1 G1.rs r1 hq⟩
 ·rw[if_neg hl] at p1; exact p1.elim
theorem Gt7{es:List Expr}{f:Ev (List D)}{pos:Pos}(h:JA X XQ es f):JE X XQ (.List es pos) (ls f):=by
 refine PE.mono (Gtr h) fun σ H Q ⟨mp,ρ,S,G,p⟩=>?_
 refine bindP G p fun mp1 H1 xs S1 vs a1 G1 r1 p1=>?_
 by_cases hl:xs.length<=1000000
 ·rw[if_pos hl] at p1
  exact⟨by rw[r1.len]; exact line_le hl,fun q hq=>Ya p1 G1.rs r1 hq⟩
 ·rw[if_neg hl] at p1; exact p1.elim
def Uc:D->Sto->Option Bool
 | .non,_=>some false
 | .bl b,_=>some b
 | .int i,_=>some (i != 0)
 | .str y,_=>if y.length<=1000000 then some ((y.length:Int) != 0) else none
 | .tup l,_=>some (!l.isEmpty)
 | .lst i,S=>match S[i]? with
  | some c=>some (!c.xs.isEmpty)
  | none=>none
 | .exn _ _,_=>none
 | .fv _,_=>none
def tt(f:Ev D):Ev Bool:=fun ρ S=>(f ρ S).bind fun x S1=>match Uc x S1 with
 | some b=>.ok b S1
 | none=>.bad
theorem RepL.empty{K:PySem.W.Frag}{mp:List Addr}{H:Hp}{l:List D}{vs:List V}(h:RepL K mp H l vs):(!l.isEmpty)=!vs.isEmpty:=by
 have e:=h.len
 cases l<;>cases vs<;>simp_all
theorem Gpa{K:PySem.W.Frag}{mp:List Addr}{H:Hp}{S:Sto}{x:D}{v:V}{b:Bool}(r:RS K mp H S)(h:Rep K mp H x v)(e:Uc x S=some b):Gtn K v H b:=by
 cases x with
 | non=>cases (show v=.non from h); exact(Option.some.inj e).symm
 | bl c=>cases (show v=.bl c from h); exact(Option.some.inj e).symm
 | int i=>cases (show v=.int i from h); exact(Option.some.inj e).symm
 | str y=>
  cases (show v=.str y from h)
  have e:(if y.length<=1000000 then some ((y.length:Int) != 0) else none)=some b:=e
  by_cases hl:y.length<=1000000
  ·rw[if_pos hl] at e; exact⟨line_le hl,(Option.some.inj e).symm⟩
  ·rw[if_neg hl] at e; cases e
 | tup l=>
  obtain⟨a,xs,rfl,s,q⟩:=Rep.tup h
  exact .inr (.inl ⟨xs,s,by rw[<- q.empty]; exact(Option.some.inj e).symm⟩)
 | lst i=>
  have e:(match S[i]? with | some c=>some (!c.xs.isEmpty) | none=>none)=some b:=e
  cases z:S[i]? with
  | none=>rw[z] at e; cases e
  | some c=>
   rw[z] at e
   obtain⟨a,xs,rfl,_,s,q,_⟩:=r.items h z
   exact .inl ⟨xs,s,by rw[<- q.empty]; exact(Option.some.inj e).symm⟩
 | exn c n=>cases (show(none:Option Bool)=some b from e)
 | fv c=>cases (show(none:Option Bool)=some b from e)
theorem Gt8{e:Expr}{f:Ev D}(h:JE X XQ e f)(he:∀ whole,isTrue e X.env whole=(do let v <- whole; standAt e.pos; holding [v] (truthy v)):=by intro _; rfl):JT X XQ e (tt f):=by
 refine PT.mono (Gle h he) fun σ H Q ⟨mp,ρ,S,G,p⟩=>?_
 refine bindP G p fun mp1 H1 x S1 v a1 G1 r1 p1=>?_
 cases z:Uc x S1 with
 | none=>rw[z] at p1; exact p1.elim
 | some b=>
  rw[z] at p1
  exact⟨b,Gpa G1.rs r1 z,Gs.ok p1 G1.rs rfl⟩
def tb(f:Ev D):Ev Bool:=fun ρ S=>(f ρ S).bind fun x S1=>match x with
 | .bl b=>.ok b S1
 | _=>.bad
theorem Glo{K:PySem.W.Frag}{f:Ev D}{σ:L2.St}{H:Hp}{Q:Bool->Hp->Prop}(h:rdT K XQ (tb f) σ H Q):rdE K XQ f σ H fun x H1=>∃ k,x=.bl k/\Q k H1:=by
 obtain⟨mp,ρ,S,G,p⟩:=h
 refine bindP G p fun mp1 H1 x S1 v a1 G1 r1 p1=>?_
 cases x with
 | bl b=>exact⟨b,r1,Gs.ok p1 G1.rs rfl⟩
 | _=>exact p1.elim
theorem Gdf{a b:Expr}{fa fb:Ev D}{op:CmpOp}{r:R2}{o:D->D->Sto->Out D}{pos:Pos}(ho:OpR X (compareOp op) r)(hd:OpD X.K r o)(ha:JE X XQ a fa)(hb:JE X XQ b fb)(hm:behindInMarks op b=false):JT X XQ (.Compare a [op] [b] pos) (tb (o2 o fa fb)):=
 PT.mono (Gow ho ha hb hm) fun σ H Q h=>Go9 hd σ H _ (Glo h)
def tn(f:Ev Bool):Ev Bool:=fun ρ S=>(f ρ S).bind fun b S1=>.ok (!b) S1
def ta(f g:Ev Bool):Ev Bool:=fun ρ S=>(f ρ S).bind fun b S1=>if b=true then g ρ S1 else .ok false S1
def to(f g:Ev Bool):Ev Bool:=fun ρ S=>(f ρ S).bind fun b S1=>if b=true then .ok true S1 else g ρ S1
theorem Gt9{a:Expr}{f:Ev Bool}{pos:Pos}(h:JT X XQ a f):JT X XQ (.UnaryOp .Not a pos) (tn f):=
 PT.mono (Gs2 h) fun σ H Q ⟨mp,ρ,S,G,p⟩=>bindP G p fun mp1 H1 b S1 c a1 G1 r1 p1=>by
  cases (show c=b from r1)
  exact Gs.ok p1 G1.rs rfl
theorem Gpb{a:Expr}{f:Ev Bool}{pos:Pos}(h:JT X XQ a f):JW X XQ (.BoolOp .And [a] pos) f:=Gop h
theorem Gua{a:Expr}{f:Ev Bool}{pos:Pos}(h:JT X XQ a f):JW X XQ (.BoolOp .Or [a] pos) f:=Gs0 h
theorem Gub{a b:Expr}{rest:List Expr}{f g:Ev Bool}{pos:Pos}(h:JT X XQ a f)(hb:JW X XQ (.BoolOp .And (b::rest) pos) g):JW X XQ (.BoolOp .And (a::b::rest) pos) (ta f g):=
 PW.mono (Gs1 h hb) fun σ H Q ⟨mp,ρ,S,G,p⟩=>bindP G p fun mp1 H1 b S1 c a1 G1 r1 p1=>by
  cases (show c=b from r1)
  cases b with
  | true=>exact(if_pos rfl).mpr ⟨mp1,ρ,S1,G1,by simpa using p1⟩
  | false=>exact(if_neg Bool.false_ne_true).mpr (Gs.ok (R:=kB) (d:=false) (S:=S1) (by simpa using p1) G1.rs rfl)
theorem Gx7{a b:Expr}{rest:List Expr}{f g:Ev Bool}{pos:Pos}(h:JT X XQ a f)(hb:JW X XQ (.BoolOp .Or (b::rest) pos) g):JW X XQ (.BoolOp .Or (a::b::rest) pos) (to f g):=
 PW.mono (Gxg h hb) fun σ H Q ⟨mp,ρ,S,G,p⟩=>bindP G p fun mp1 H1 b S1 c a1 G1 r1 p1=>by
  cases (show c=b from r1)
  cases b with
  | false=>exact(if_neg Bool.false_ne_true).mpr ⟨mp1,ρ,S1,G1,by simpa using p1⟩
  | true=>exact(if_pos rfl).mpr (Gs.ok (R:=kB) (d:=true) (S:=S1) (by simpa using p1) G1.rs rfl)
theorem JW.jt{e:Expr}{f:Ev Bool}(h:JW X XQ e f):JT X XQ e f:=PW.pt h
def va(f g:Ev D):Ev D:=fun ρ S=>(f ρ S).bind fun x S1=>match x with
 | .bl b=>if b=true then g ρ S1 else .ok (.bl false) S1
 | _=>.bad
def vo(f g:Ev D):Ev D:=fun ρ S=>(f ρ S).bind fun x S1=>match x with
 | .bl b=>if b=true then .ok (.bl true) S1 else g ρ S1
 | _=>.bad
def vn(f:Ev D):Ev D:=fun ρ S=>(f ρ S).bind fun x S1=>match x with
 | .bl b=>.ok (.bl (!b)) S1
 | _=>.bad
theorem Guc{a:Expr}{op}{f:Ev D}{pos:Pos}(h:JE X XQ a f):JE X XQ (.BoolOp op [a] pos) f:=Gs3 h
theorem Gud{a b:Expr}{rest:List Expr}{f g:Ev D}{pos:Pos}(ha:JE X XQ a f)(hb:JE X XQ (.BoolOp .And (b::rest) pos) g):JE X XQ (.BoolOp .And (a::b::rest) pos) (va f g):=
 PE.mono (Gs4 ha hb) fun σ H Q ⟨mp,ρ,S,G,p⟩=>bindP G p fun mp1 H1 x S1 v a1 G1 r1 p1=>by
  cases x with
  | bl b=>
   refine⟨b,r1,?_⟩
   cases b with
   | true=>exact(if_pos rfl).mpr ⟨mp1,ρ,S1,G1,by simpa using p1⟩
   | false=>exact(if_neg Bool.false_ne_true).mpr (Gs.ok (R:=Rep X.K) (d:=.bl false) (S:=S1) (by simpa using p1) G1.rs rfl)
  | _=>exact p1.elim
theorem Gue{a:Expr}{f:Ev D}{pos:Pos}(ha:JE X XQ a f):JE X XQ (.UnaryOp .Not a pos) (vn f):=
 PE.mono (Gs5 ha) fun σ H Q ⟨mp,ρ,S,G,p⟩=>bindP G p fun mp1 H1 x S1 v a1 G1 r1 p1=>by
  cases x with
  | bl b=>exact⟨b,r1,Gs.ok p1 G1.rs rfl⟩
  | _=>exact p1.elim
def ie(c:Ev Bool)(f g:Ev D):Ev D:=fun ρ S=>(c ρ S).bind fun b S1=>if b=true then f ρ S1 else g ρ S1
theorem Guf{a b c:Expr}{fc:Ev Bool}{fa fb:Ev D}{pos:Pos}(hc:JT X XQ c fc)(ha:JE X XQ a fa)(hb:JE X XQ b fb):JE X XQ (.IfExp c a b pos) (ie fc fa fb):=
 PE.mono (Gk3 hc ha hb) fun σ H Q ⟨mp,ρ,S,G,p⟩=>bindP G p fun mp1 H1 b S1 c a1 G1 r1 p1=>by
  cases (show c=b from r1)
  cases b with
  | true=>exact(if_pos rfl).mpr ⟨mp1,ρ,S1,G1,by simpa using p1⟩
  | false=>exact(if_neg Bool.false_ne_true).mpr ⟨mp1,ρ,S1,G1,by simpa using p1⟩
end
inductive OS where
 | nx (ρ:Lc) (S:Sto) | rt (d:D) (S:Sto) | bk (ρ:Lc) (S:Sto) | ct (ρ:Lc) (S:Sto) | exc (x:XD) (ρ:Lc) (S:Sto) | bad
abbrev Sv:=Lc->Sto->OS
def PostS(K:PySem.W.Frag)(XQ:XW)(mp:List Addr)(H:Hp)(o:OS)(E:Ends):Prop:=
 match o with
 | .nx ρ S=>∀ mp' H' σ',Aft K mp H mp' H'->Gd K mp' H' σ' ρ S->E.nx σ' H'
 | .rt d S=>∀ mp' H' v,Aft K mp H mp' H'->RS K mp' H' S->Rep K mp' H' d v->E.rt v H'
 | .bk ρ S=>∀ mp' H' σ',Aft K mp H mp' H'->Gd K mp' H' σ' ρ S->E.bk σ' H'
 | .ct ρ S=>∀ mp' H' σ',Aft K mp H mp' H'->Gd K mp' H' σ' ρ S->E.ct σ' H'
 | .exc x ρ S=>∀ mp' H' σ',Aft K mp H mp' H'->Gd K mp' H' σ' ρ S->XQ x mp' H' σ' ρ S
 | .bad=>False
theorem PostS.aft{K:PySem.W.Frag}{XQ:XW}{mp mp':List Addr}{H H':Hp}{o:OS}{E:Ends}(p:PostS K XQ mp H o E)(a:Aft K mp H mp' H'):PostS K XQ mp' H' o E:=by
 cases o with
 | nx ρ S=>exact fun m h v b=>p m h v (a.trans b)
 | rt d S=>exact fun m h v b=>p m h v (a.trans b)
 | bk ρ S=>exact fun m h v b=>p m h v (a.trans b)
 | ct ρ S=>exact fun m h v b=>p m h v (a.trans b)
 | exc x ρ S=>exact fun m h v b=>p m h v (a.trans b)
 | bad=>exact p
def rdS(K:PySem.W.Frag)(XQ:XW)(f:Sv):TS:=fun E σ H=>∃ mp ρ S,Gd K mp H σ ρ S/\PostS K XQ mp H (f ρ S) E
def JS(X:Cx)(XQ:XW)(st:Stmt)(f:Sv):Prop:=PS X st (rdS X.K XQ f)
def JSs(X:Cx)(XQ:XW)(st:List Stmt)(f:Sv):Prop:=PSs X st (rdS X.K XQ f)
def bindS{α:Type}(o:Out α)(ρ:Lc)(k:α->Sto->OS):OS:=
 match o with
 | .ok a S=>k a S
 | .exc x S=>.exc x ρ S
 | .bad=>.bad
theorem bindSP{α β:Type}{K:PySem.W.Frag}{R:RL α β}{XQ:XW}{mp:List Addr}{H:Hp}{σ:L2.St}{ρ:Lc}{S:Sto}{f:Ev α}{g:α->Sto->OS}{E:Ends}{Q1:β->Hp->Prop}(G:Gd K mp H σ ρ S)(p:PostS K XQ mp H (bindS (f ρ S) ρ g) E)
  (k:∀ mp1 H1 d S1 v,Aft K mp H mp1 H1->Gd K mp1 H1 σ ρ S1->R mp1 H1 d v->PostS K XQ mp1 H1 (g d S1) E->Q1 v H1):rdG K R XQ f σ H Q1:=by
 refine⟨mp,ρ,S,G,?_⟩
 cases e:f ρ S with
 | ok d S1=>
  rw[e] at p
  exact fun mp1 H1 v a rs r=>k mp1 H1 d S1 v a (G.aft a rs) r (PostS.aft p a)
 | exc x S1=>rw[e] at p; exact fun m h b c=>p m h σ b c
 | bad=>rw[e] at p; exact p
def skip:Sv:=fun ρ S=>.nx ρ S
def sq(f g:Sv):Sv:=fun ρ S=>match f ρ S with
 | .nx ρ' S'=>g ρ' S'
 | .rt d S'=>.rt d S'
 | .bk ρ' S'=>.bk ρ' S'
 | .ct ρ' S'=>.ct ρ' S'
 | .exc x ρ' S'=>.exc x ρ' S'
 | .bad=>.bad
section
variable{X:Cx}{XQ:XW}
theorem PostS.nx{K:PySem.W.Frag}{mp:List Addr}{H:Hp}{σ:L2.St}{ρ:Lc}{S:Sto}{E:Ends}(p:PostS K XQ mp H (.nx ρ S) E)(G:Gd K mp H σ ρ S):E.nx σ H:=p mp H σ .refl G
theorem PostS.rt{K:PySem.W.Frag}{mp:List Addr}{H:Hp}{d:D}{v:V}{S:Sto}{E:Ends}(p:PostS K XQ mp H (.rt d S) E)(r:RS K mp H S)(h:Rep K mp H d v):E.rt v H:=p mp H v .refl r h
theorem Gpc:JSs X XQ [] skip:=PSs.mono Goq fun E σ H ⟨mp,ρ,S,G,p⟩=>PostS.nx p G
theorem Glp{st:Stmt}{rest:List Stmt}{f g:Sv}(h1:JS X XQ st f)(h2:JSs X XQ rest g):JSs X XQ (st::rest) (sq f g):=by
 refine PSs.mono (Ggx h1 h2) fun E σ H ⟨mp,ρ,S,G,p⟩=>⟨mp,ρ,S,G,?_⟩
 unfold sq at p
 cases e:f ρ S with
 | nx ρ' S'=>rw[e] at p; exact fun m h v a G'=>⟨m,ρ',S',G',PostS.aft p a⟩
 | rt d S'=>rw[e] at p; exact p
 | bk ρ' S'=>rw[e] at p; exact p
 | ct ρ' S'=>rw[e] at p; exact p
 | exc x ρ' S'=>rw[e] at p; exact p
 | bad=>rw[e] at p; exact p
theorem Gpd{st:Stmt}{f:Sv}(h1:JS X XQ st f):JSs X XQ [st] f:=Gcv h1
def sx(f:Ev D):Sv:=fun ρ S=>bindS (f ρ S) ρ fun _ S1=>.nx ρ S1
theorem Gpe{e:Expr}{f:Ev D}{pos:Pos}(he:JE X XQ e f)(hs:swapsWith e none pos.line X.env=pure false:=by rfl):JS X XQ (.Expr e pos) (sx f):=
 PS.mono (Gcw he hs) fun E σ H ⟨mp,ρ,S,G,p⟩=>bindSP G p fun mp1 H1 d S1 v a1 G1 r1 p1=>PostS.nx p1 G1
def sret(f:Ev D):Sv:=fun ρ S=>bindS (f ρ S) ρ fun d S1=>.rt d S1
theorem Gug{e:Expr}{f:Ev D}{pos:Pos}(he:JE X XQ e f):JS X XQ (.Return (some e) pos) (sret f):=
 PS.mono (Gs6 he) fun E σ H ⟨mp,ρ,S,G,p⟩=>bindSP G p fun mp1 H1 d S1 v a1 G1 r1 p1=>PostS.rt p1 G1.rs r1
def sif(c:Ev Bool)(f g:Sv):Sv:=fun ρ S=>bindS (c ρ S) ρ fun b S1=>if b=true then f ρ S1 else g ρ S1
theorem Gx8{c:Expr}{a b:List Stmt}{fc:Ev Bool}{f g:Sv}{pos:Pos}(hc:JT X XQ c fc)(ha:JSs X XQ a f)(hb:JSs X XQ b g):JS X XQ (.If c a b pos) (sif fc f g):=
 PS.mono (Gxl hc ha hb) fun E σ H ⟨mp,ρ,S,G,p⟩=>bindSP G p fun mp1 H1 b S1 c a1 G1 r1 p1=>by
  cases (show c=b from r1)
  cases b with
  | true=>exact(if_pos rfl).mpr ⟨mp1,ρ,S1,G1,by simpa using p1⟩
  | false=>exact(if_neg Bool.false_ne_true).mpr ⟨mp1,ρ,S1,G1,by simpa using p1⟩
theorem Gd.set{K:PySem.W.Frag}{mp:List Addr}{H:Hp}{σ:L2.St}{ρ:Lc}{S:Sto}{d:D}{v:V}(G:Gd K mp H σ ρ S)(i:Nat)(r:Rep K mp H d v):Gd K mp H (σ.set i (some v)) (ρ.set i (some d)) S:=by
 refine⟨G.rs,by simp[G.len],fun j e h=>?_⟩
 by_cases hj:j=i
 ·subst hj
  have hl:j<ρ.length:=by
   have:=(List.getElem?_eq_some_iff.mp h).1
   simpa using this
  rw[List.getElem?_set_self hl] at h
  cases h
  exact⟨v,by rw[List.getElem?_set_self (by rw[G.len]; exact hl)],r⟩
 ·rw[List.getElem?_set_ne (Ne.symm hj)] at h ⊢
  exact G.loc j e h
abbrev Tg:=D->Lc->Option Lc
def Gpf(K:PySem.W.Frag)(g:Tg):TG:=fun v σ H Q=>∃ mp ρ S d ρ',Gd K mp H σ ρ S/\Rep K mp H d v/\g d ρ=some ρ'/\∀ σ',Gd K mp H σ' ρ' S->Q σ' H
def JG(X:Cx)(tg:Expr)(g:Tg):Prop:=PG X tg (Gpf X.K g)
theorem PG.mono{X:Cx}{e:Expr}{t t':TG}(h:PG X e t)(m:∀ v σ H Q,t' v σ H Q->t v σ H Q):PG X e t':=fun pins s σ H v u Q I r q=>h pins s σ H v u Q I r (m v σ H Q q)
def gn(i:Nat):Tg:=fun d ρ=>some (ρ.set i (some d))
theorem Gfs(i:Nat){x:Str}{pos:Pos}(hN:X.N.Nodup)(hi:X.N[i]?=some x:=by rfl)(hx:Loc X.env.scope x:=by first | exact Or.inl rfl | exact Or.inr rfl)(hf:X.fn x=true\/X.env.scope.names.lookup x=some .local:=by first | exact .inl rfl | exact .inr rfl | assumption):JG X (.Name x pos) (gn i):=
 PG.mono (Gor hN hi hx hf) fun v σ H Q ⟨mp,ρ,S,d,ρ',G,r,e,k⟩=>by
  cases (Option.some.inj e)
  exact k _ (G.set i r)
abbrev Tgs:=List D->Lc->Option Lc
def Has(K:PySem.W.Frag)(g:Tgs):TGs:=fun vs σ H Q=>∃ mp ρ S ds ρ',Gd K mp H σ ρ S/\RepL K mp H ds vs/\g ds ρ=some ρ'/\∀ σ',Gd K mp H σ' ρ' S->Q σ' H
def JGs(X:Cx)(ts:List Expr)(g:Tgs):Prop:=PGs X ts (Has X.K g)
theorem PGs.mono{X:Cx}{e:List Expr}{t t':TGs}(h:PGs X e t)(m:∀ v σ H Q,t' v σ H Q->t v σ H Q):PGs X e t':=fun pins s σ H v u Q I r q=>h pins s σ H v u Q I r (m v σ H Q q)
def gnil:Tgs:=fun ds ρ=>match ds with
 | []=>some ρ
 | _::_=>none
def gcons(g:Tg)(k:Tgs):Tgs:=fun ds ρ=>match ds with
 | []=>none
 | d::r=>(g d ρ).bind fun ρ'=>k r ρ'
theorem Gpg:JGs X [] gnil:=PGs.mono Gos fun vs σ H Q ⟨mp,ρ,S,ds,ρ',G,r,e,k⟩=>by
 cases ds with
 | nil=>
  cases (show some ρ=some ρ' from e)
  exact⟨r,k _ G⟩
 | cons _ _=>cases (show(none:Option Lc)=some ρ' from e)
theorem Glq{e:Expr}{es:List Expr}{g:Tg}{k:Tgs}(h1:JG X e g)(h2:JGs X es k)
  (hs:(assignEach (e::es) X.env).map (·.2)=assign e X.env::(assignEach es X.env).map (·.2):=by rfl):JGs X (e::es) (gcons g k):=
 PGs.mono (Gk6 h1 h2 hs) fun vs σ H Q ⟨mp,ρ,S,ds,ρ',G,r,e,q⟩=>by
  cases ds with
  | nil=>cases (show(none:Option Lc)=some ρ' from e)
  | cons d ds=>
   have e:(g d ρ).bind (fun ρ'=>k ds ρ')=some ρ':=e
   obtain⟨v,vr,ev,h3,h4⟩:=(show ∃ v r,vs=v::r/\Rep X.K mp H d v/\RepL X.K mp H ds r from r)
   cases z:g d ρ with
   | none=>rw[z] at e; cases e
   | some ρ1=>
    rw[z] at e
    exact⟨v,vr,ev,mp,ρ,S,d,ρ1,G,h3,z,fun σ1 G1=>⟨mp,ρ1,S,ds,ρ',G1,h4,e,q⟩⟩
def gt(k:Tgs)(n:Nat):Tg:=fun d ρ=>match d with
 | .tup ds=>if ds.length=n then k ds ρ else none
 | _=>none
theorem Guh{es:List Expr}{m:Nat}{k:Tgs}{n:Nat}{pos:Pos}(hc:X.calm=true)(h:JGs X es k)
  (hn:(assignEach es X.env).length=n:=by rfl) (hst:(assignEach es X.env).findIdx? (·.1)=none:=by rfl):JG X (.Tuple es m pos) (gt k n):=
 PG.mono (Gs8 hc h hn hst) fun v σ H Q ⟨mp,ρ,S,d,ρ',G,r,e,q⟩=>by
  cases d with
  | tup ds=>
   have e:(if ds.length=n then k ds ρ else none)=some ρ':=e
   obtain⟨a,xs,ev,sq,rl⟩:=Rep.tup r
   by_cases hl:ds.length=n
   ·rw[if_pos hl] at e
    exact⟨a,xs,ev,sq,by rw[rl.len]; exact hl,mp,ρ,S,ds,ρ',G,rl,e,q⟩
   ·rw[if_neg hl] at e; cases e
  | _=>cases (show(none:Option Lc)=some ρ' from e)
def sa(f:Ev D)(g:Tg):Sv:=fun ρ S=>bindS (f ρ S) ρ fun d S1=>match g d ρ with
 | some ρ'=>.nx ρ' S1
 | none=>.bad
theorem Hat{K:PySem.W.Frag}{f:Ev D}{g:Tg}(E:Ends)(σ:L2.St)(H:Hp)(h:rdS K XQ (sa f g) E σ H):Got (rdE K XQ f) (Gpf K g) E σ H:=by
 obtain⟨mp,ρ,S,G,p⟩:=h
 refine bindSP G p fun mp1 H1 d S1 v a1 G1 r1 p1=>?_
 cases z:g d ρ with
 | none=>rw[z] at p1; exact p1.elim
 | some ρ'=>
  rw[z] at p1
  exact⟨mp1,ρ,S1,d,ρ',G1,r1,z,fun σ' G'=>PostS.nx p1 G'⟩
theorem Gui{tg e:Expr}{f:Ev D}{g:Tg}{pos:Pos}(he:JE X XQ e f)(hg:JG X tg g)(hs:swapsWithSole [tg] e pos.line X.env=pure false:=by rfl)(hw:swappedStores [tg] e X.env=pure none:=by rfl)
  (h1:(assignEach [tg] X.env).map (·.2)=[assign tg X.env]:=by rfl):JS X XQ (.Assign [tg] e pos) (sa f g):=
 PS.mono (Gk7 he hg hs hw h1) Hat
theorem Guj(i:Nat){x:Str}{e:Expr}{f:Ev D}{pos pos':Pos}(hN:X.N.Nodup)(he:JE X XQ e f)(hi:X.N[i]?=some x:=by rfl)(hx:Loc X.env.scope x:=by first | exact Or.inl rfl | exact Or.inr rfl)(hs:swapsWith e (some (.Name x pos')) pos.line X.env=pure false:=by rfl)
  (hf:X.fn x=true\/X.env.scope.names.lookup x=some .local:=by first | exact .inl rfl | exact .inr rfl | assumption):JS X XQ (.Assign [.Name x pos'] e pos) (sa f (gn i)):=
 PS.mono (Gta hN hi hx he hs hf) fun E σ H ⟨mp,ρ,S,G,p⟩=>bindSP G p fun mp1 H1 d S1 v a1 G1 r1 p1=>PostS.nx p1 (G1.set i r1)
def Gx9(t:Gk5)(K:PySem.W.Frag)(o:D->D->D->Sto->Option Sto):Prop:=
 ∀ (mp:List Addr) (H:Hp) (S S':Sto) (x y z:D) (v u w:V) (Q:Hp->Prop),RS K mp H S->Rep K mp H x v->Rep K mp H y u->Rep K mp H z w->o x y z S=some S'->(∀ H',Aft K mp H mp H'->RS K mp H' S'->Q H')->t v u w H Q
def ss(f fo fi:Ev D)(o:D->D->D->Sto->Option Sto):Sv:=fun ρ S=>bindS (f ρ S) ρ fun d S1=>bindS (fo ρ S1) ρ fun x S2=>bindS (fi ρ S2) ρ fun y S3=>match o x y d S3 with
 | some S4=>.nx ρ S4
 | none=>.bad
theorem Guk{ob ix e:Expr}{f fo fi:Ev D}{t:Gk5}{o:D->D->D->Sto->Option Sto}{pos p2:Pos}(hset:Gs7 X t)(ho:Gx9 t X.K o)(he:JE X XQ e f)(hob:JE X XQ ob fo)(hix:JE X XQ ix fi)
  (hs:swapsWithSole [.Subscript ob ix p2] e pos.line X.env=pure false:=by rfl) (hw:swappedStores [.Subscript ob ix p2] e X.env=pure none:=by rfl)
  (h1:(assignEach [.Subscript ob ix p2] X.env).map (·.2)=[assign (.Subscript ob ix p2) X.env]:=by rfl) (ha:∀ v,assign (.Subscript ob ix p2) X.env v=(do
   let ov <- holding [v] (eval ob X.env)
   let iv <- holding [v,ov] (eval ix X.env)
   standAt p2
   holding [v,ov,iv] (setItem ov iv v)
   release [v,ov,iv] []):=by intro _; rfl):JS X XQ (.Assign [.Subscript ob ix p2] e pos) (ss f fo fi o):=by
 refine PS.mono (Gk7 he (Gs9 hob hix hset ha) hs hw h1) fun E σ H ⟨mp,ρ,S,G,p⟩=>?_
 refine bindSP G p fun mp1 H1 d S1 v a1 G1 r1 p1=>?_
 refine bindSP G1 p1 fun mp2 H2 x S2 vx a2 G2 r2 p2=>?_
 refine bindSP G2 p2 fun mp3 H3 y S3 vy a3 G3 r3 p3=>?_
 cases z:o x y d S3 with
 | none=>rw[z] at p3; exact p3.elim
 | some S4=>
  rw[z] at p3
  exact ho mp3 H3 S3 S4 x y d vx vy v _ G3.rs (Rep.aft a3 _ _ r2) r3 (Rep.aft (a2.trans a3) _ _ r1) z fun H' af rs=>p3 mp3 H' σ af (G3.aft af rs)
structure Src where
 nxt:Nat->Sto->Option D
 fuel:Nat
def Glr(K:PySem.W.Frag)(mp0:List Addr)(H0:Hp)(J:It)(nxt:Nat->Sto->Option D):Prop:=
 ∀ (mp:List Addr) (H:Hp) (S:Sto),Aft K mp0 H0 mp H->RS K mp H S->∀ k,match nxt k S with
  | some d=>J.go k H/\∀ x H',J.yld k H x H'->Aft K mp H mp H'/\RS K mp H' S/\Rep K mp H' d x
  | none=>J.stop k H
def kI(K:PySem.W.Frag):RL Src It:=fun mp H s J=>Glr K mp H J s.nxt
abbrev rdI(K:PySem.W.Frag)(XQ:XW)(f:Ev Src):TI:=rdG K (kI K) XQ f
def JI(X:Cx)(XQ:XW)(tg iter:Expr)(f:Ev Src):Prop:=PI X tg iter (rdI X.K XQ f)
theorem PI.mono{X:Cx}{tg e:Expr}{t t':TI}(h:PI X tg e t)(m:∀ σ H Q,t' σ H Q->t σ H Q):PI X tg e t':=fun pins s σ H Q I q=>h pins s σ H Q I (m σ H Q q)
def Ua(nxt:Nat->Sto->Option D)(g:Tg)(b:Sv):Nat->Nat->Sv
 | 0,_,_,_=>.bad
 | n+1,k,ρ,S=>match nxt k S with
  | none=>.nx ρ S
  | some d=>match g d ρ with
   | none=>.bad
   | some ρ1=>match b ρ1 S with
    | .nx ρ2 S2=>Ua nxt g b n (k+1) ρ2 S2
    | .ct ρ2 S2=>Ua nxt g b n (k+1) ρ2 S2
    | .bk ρ2 S2=>.nx ρ2 S2
    | .rt d S2=>.rt d S2
    | .exc x ρ2 S2=>.exc x ρ2 S2
    | .bad=>.bad
def sfor(f:Ev Src)(g:Tg)(b:Sv):Sv:=fun ρ S=>bindS (f ρ S) ρ fun s S1=>Ua s.nxt g b s.fuel 0 ρ S1
theorem Gul{tg iter:Expr}{body:List Stmt}{f:Ev Src}{g:Tg}{b:Sv}{pos:Pos}(hp:PassesOwn (model X.prog X.w) X.A X.env X.xe)(hc:X.calm=true)(hi:JI X XQ tg iter f)(hg:JG X tg g)(hb:JSs X XQ body b)
  (hs:∀ x,foldedSetIterable iter X.env x=pure x:=by intro _; rfl):JS X XQ (.For tg iter body [] pos) (sfor f g b):=by
 refine PS.mono (Gte hp hc hi hg hb hs) fun E σ H ⟨mp,ρ,S,G,p⟩=>?_
 refine bindSP G p fun mp1 H1 s S1 J a1 G1 j1 p1=>?_
 refine⟨fun i m σ' H'=>∃ mp' ρ' S',Aft X.K mp1 H1 mp' H'/\Gd X.K mp' H' σ' ρ' S'/\PostS X.K XQ mp' H' (Ua s.nxt g b m i ρ' S') E,⟨s.fuel,mp1,ρ,S1,.refl,G1,p1⟩,?_⟩
 rintro i m σ' H' ⟨mp',ρ',S',a',G',p'⟩
 cases m with
 | zero=>exact(show False from p').elim
 | succ n=>
  have j:=j1 mp' H' S' a' G'.rs i
  unfold Ua at p'
  cases z:s.nxt i S' with
  | none=>
   rw[z] at j p'
   exact .inl ⟨j,PostS.nx p' G'⟩
  | some d=>
   rw[z] at j p'
   obtain⟨j1,j2⟩:=j
   refine .inr ⟨j1,fun σ2 H2=>∃ mp2 ρ2 S2,Aft X.K mp1 H1 mp2 H2/\Gd X.K mp2 H2 σ2 ρ2 S2/\PostS X.K XQ mp2 H2 (Ua s.nxt g b n (i+1) ρ2 S2) E,fun σ2 H2 q=>⟨n,Nat.lt_succ_self n,q⟩,fun x H2 y=>?_⟩
   obtain⟨a2,r2,x2⟩:=j2 x H2 y
   have G2:=G'.aft a2 r2
   cases zg:g d ρ' with
   | none=>simp only[zg] at p'; exact p'.elim
   | some ρ1=>
    simp only[zg] at p'
    refine⟨mp',ρ',S',d,ρ1,G2,x2,zg,fun σ3 G3=>⟨mp',ρ1,S',G3,?_⟩⟩
    have p2:=PostS.aft p' a2
    cases zb:b ρ1 S' with
    | nx ρ2 S2=>simp only[zb] at p2; exact fun m h v af G4=>⟨m,ρ2,S2,(a'.trans a2).trans af,G4,PostS.aft p2 af⟩
    | ct ρ2 S2=>simp only[zb] at p2; exact fun m h v af G4=>⟨m,ρ2,S2,(a'.trans a2).trans af,G4,PostS.aft p2 af⟩
    | bk ρ2 S2=>simp only[zb] at p2; exact p2
    | rt d S2=>simp only[zb] at p2; exact p2
    | exc x ρ2 S2=>simp only[zb] at p2; exact p2
    | bad=>simp only[zb] at p2; exact p2
def Gg1:D->Sto->Out Src
 | .tup l,S=>.ok ⟨fun k _=>l[k]?,l.length+1⟩ S
 | .lst i,S=>match S[i]? with
  | some c=>.ok ⟨fun k S=>(S[i]?).bind fun c=>c.xs[k]?,c.xs.length+1⟩ S
  | none=>.bad
 | _,_=>.bad
end
section
variable{X:Cx}{XQ:XW}
def Hau(K:PySem.W.Frag)(tl:TE):TI:=fun σ H R=>tl σ H fun x H1=>∃ a,x=.ref a/\(((∃ xs,SqL K H1 a xs)/\R (Itl K a) H1)\/((∃ xs,SqT K H1 a xs)/\R (Itt K a) H1))
theorem Gum{tg l:Expr}{tl:TE}(hl:PE X l tl):PI X tg l (Hau X.K tl):=by
 intro pins s σ H R I h
 refine thn (hl pins s σ H _ I h) fun v s1 ⟨x,H1,I1,r1,q1⟩=>?_
 obtain⟨a,e,q⟩:=q1
 subst e
 cases r1
 rcases q with⟨⟨xs,hq⟩,q⟩ | ⟨⟨xs,hq⟩,q⟩
 ·obtain⟨its,rv,p,hz⟩:=I1.list hq
  refine wpAny_pyIter_list p.isList ?_
  refine⟨s1.heap.objs.size,[s1.heap.objs.size],_,_,H1,rfl,I1.kept (t':=s1.toks) fun b o e=>Heap.get?_push_of_some _ e,turn_list a _,⟨_,Heap.get?_push_size _ rfl,rfl,rfl⟩,fun b hb=>?_,q⟩
  have e:b=s1.heap.objs.size:=by simpa using hb
  subst e
  exact I1.fpOk (Nat.le_refl _) (I1.hok.fresh (Nat.le_refl _))
 ·obtain⟨its,rv,p,hz⟩:=I1.tuple hq
  refine wpAny_pyIter_tuple (show s1.heap.IsTuple a its.toArray from p) ?_
  refine⟨s1.heap.objs.size,[s1.heap.objs.size],_,_,H1,rfl,I1.kept (t':=s1.toks) fun b o e=>Heap.get?_push_of_some _ e,turn_tuple a _,⟨_,Heap.get?_push_size _ rfl,rfl,rfl⟩,fun b hb=>?_,q⟩
  have e:b=s1.heap.objs.size:=by simpa using hb
  subst e
  exact I1.fpOk (Nat.le_refl _) (I1.hok.fresh (Nat.le_refl _))
def isrc(f:Ev D):Ev Src:=fun ρ S=>(f ρ S).bind Gg1
theorem Gun{K:PySem.W.Frag}{mp:List Addr}{H:Hp}{a:Addr}{xs:List V}{l:List D}(s:SqT K H a xs)(r:RepL K mp H l xs):Glr K mp H (Itt K a) (fun k _=>l[k]?):=by
 intro mp' H' S' af rs k
 show match l[k]? with
  | some d=>(Itt K a).go k H'/\∀ x H2,(Itt K a).yld k H' x H2->Aft K mp' H' mp' H2/\RS K mp' H2 S'/\Rep K mp' H2 d x
  | none=>(Itt K a).stop k H'
 cases z:l[k]? with
 | none=>
  refine⟨xs,af.tup _ _ s,?_⟩
  rw[r.len]
  exact List.getElem?_eq_none_iff.mp z
 | some d=>
  have r':=RepL.aft af _ _ r
  obtain⟨v,e,q⟩:=r'.get z
  refine⟨⟨xs,v,af.tup _ _ s,e⟩,fun x H2 ⟨h1,h2⟩=>?_⟩
  subst h1
  have e2:=h2 xs (af.tup _ _ s)
  rw[e] at e2
  cases e2
  exact⟨.refl,rs,q⟩
theorem Guo{K:PySem.W.Frag}{mp:List Addr}{H:Hp}{a:Addr}{i:Nat}(hi:mp[i]?=some a):Glr K mp H (Itl K a) (fun k S=>(S[i]?).bind fun c=>c.xs[k]?):=by
 intro mp' H' S' af rs k
 have hi':=af.pre i a hi
 have hl:i<S'.length:=by rw[<- rs.len]; exact(List.getElem?_eq_some_iff.mp hi').1
 have hc:S'[i]?=some S'[i]:=List.getElem?_eq_getElem hl
 obtain⟨a2,xs,e1,e2,sq,r,_⟩:=rs.items (v:=.ref a) ⟨a,rfl,hi'⟩ hc
 cases e1
 simp only[hc,Option.bind_some]
 cases z:(S'[i]).xs[k]? with
 | none=>
  refine⟨xs,sq,?_⟩
  rw[r.len]
  exact List.getElem?_eq_none_iff.mp z
 | some d=>
  obtain⟨v,e,q⟩:=r.get z
  refine⟨⟨xs,v,sq,e⟩,fun x H2 ⟨h1,h2⟩=>?_⟩
  subst h1
  have e2:=h2 xs sq
  rw[e] at e2
  cases e2
  exact⟨.refl,rs,q⟩
theorem Gup{tg l:Expr}{f:Ev D}(hl:JE X XQ l f):JI X XQ tg l (isrc f):=by
 refine PI.mono (Gum hl) fun σ H R ⟨mp,ρ,S,G,p⟩=>?_
 refine bindP G p fun mp1 H1 d S1 v a1 G1 r1 p1=>?_
 cases d with
 | tup ds=>
  obtain⟨a,xs,rfl,s,q⟩:=Rep.tup r1
  exact⟨a,rfl,.inr ⟨⟨xs,s⟩,Gs.ok (R:=kI X.K) (d:=⟨fun k _=>ds[k]?,ds.length+1⟩) (S:=S1) p1 G1.rs (Gun s q)⟩⟩
 | lst i=>
  have p1:Gs X.K (kI X.K) XQ σ ρ mp1 H1 (match S1[i]? with | some c=>.ok ⟨fun k S=>(S[i]?).bind fun c=>c.xs[k]?,c.xs.length+1⟩ S1 | none=>.bad) R:=p1
  cases z:S1[i]? with
  | none=>rw[z] at p1; exact p1.elim
  | some c=>
   rw[z] at p1
   obtain⟨a,xs,rfl,ha,s,q,_⟩:=G1.rs.items r1 z
   exact⟨a,rfl,.inl ⟨⟨xs,s⟩,Gs.ok (R:=kI X.K) (d:=⟨fun k S=>(S[i]?).bind fun c=>c.xs[k]?,c.xs.length+1⟩) (S:=S1) p1 G1.rs (Guo ha)⟩⟩
 | _=>exact(show False from p1).elim
def rsrc(lo:Int)(n:Nat):Src:=⟨fun k _=>if k<n then some (.int (lo+k)) else none,n+1⟩
theorem Guq{K:PySem.W.Frag}{mp:List Addr}{H:Hp}{lo:Int}{n:Nat}:Glr K mp H (Itr lo n) (rsrc lo n).nxt:=by
 intro mp' H' S' af rs k
 show match (if k<n then some (D.int (lo+k)) else none) with
  | some d=>(Itr lo n).go k H'/\∀ x H2,(Itr lo n).yld k H' x H2->Aft K mp' H' mp' H2/\RS K mp' H2 S'/\Rep K mp' H2 d x
  | none=>(Itr lo n).stop k H'
 by_cases h:k<n
 ·rw[if_pos h]
  refine⟨h,fun x H2 ⟨h1,h2⟩=>?_⟩
  subst h1 h2
  exact⟨.refl,rs,rfl⟩
 ·rw[if_neg h]
  exact Nat.not_lt.mp h
def ir1(f:Ev (List D)):Ev Src:=fun ρ S=>(f ρ S).bind fun ds S1=>match ds with
 | [.int j]=>if -1000000000000<=j/\j<=1000000000000 then .ok (rsrc 0 j.toNat) S1 else .bad
 | _=>.bad
theorem RepL.one{K:PySem.W.Frag}{mp:List Addr}{H:Hp}{d:D}{vs:List V}(h:RepL K mp H [d] vs):∃ v,vs=[v]/\Rep K mp H d v:=by
 obtain⟨v,r,rfl,h1,h2⟩:=h
 cases (show r=[] from h2)
 exact⟨v,rfl,h1⟩
theorem RepL.two{K:PySem.W.Frag}{mp:List Addr}{H:Hp}{d e:D}{vs:List V}(h:RepL K mp H [d,e] vs):∃ v w,vs=[v,w]/\Rep K mp H d v/\Rep K mp H e w:=by
 obtain⟨v,r,rfl,h1,h2⟩:=h
 obtain⟨w,rfl,h3⟩:=RepL.one h2
 exact⟨v,w,rfl,h1,h3⟩
theorem Gkf{tg a:Expr}{f:Ev (List D)}{p pos:Pos}(hg:Gl X "range")(hm:X.mg "range"=none)(ha:JA X XQ [a] f)(hs:starEach [a] X.env=[(false,eval a X.env)]:=by rfl):JI X XQ tg (.Call (.Name "range" p) [a] [] pos) (ir1 f):=by
 refine PI.mono (Gj8 hg hm ha hs) fun σ H R ⟨mp,ρ,S,G,p⟩=>?_
 refine bindP G p fun mp1 H1 ds S1 vs a1 G1 r1 p1=>?_
 split at p1
 ·rename_i j
  by_cases hb : -1000000000000<=j/\j<=1000000000000
  ·rw[if_pos hb] at p1
   obtain⟨v,rfl,h1⟩:=RepL.one r1
   cases (show v=.int j from h1)
   refine⟨j,rfl,by omega,by omega,Gs.ok (R:=kI X.K) (d:=rsrc 0 j.toNat) (S:=S1) p1 G1.rs Guq⟩
  ·rw[if_neg hb] at p1; exact p1.elim
 ·exact p1.elim
end
abbrev Fn:=List D->Sto->Out D
def Grx(K:PySem.W.Frag)(mp:List Addr)(H:Hp)(o:Out D)(Q:VK):Prop:=
 match o with
 | .ok d S=>∀ mp' H' v,Aft K mp H mp' H'->RS K mp' H' S->Rep K mp' H' d v->Q v H'
 | _=>False
def spD(K:PySem.W.Frag)(n:Nat)(fn:Fn):Sp:=fun vs H Q _=>∃ mp ds S,RS K mp H S/\RepL K mp H ds vs/\ds.length=n/\Grx K mp H (fn ds S) Q
def fnB(m:Nat)(b:Sv):Fn:=fun ds S=>match b (ds.map some++List.replicate (m-ds.length) none) S with
 | .rt d S'=>.ok d S'
 | .nx _ S'=>.ok .non S'
 | .exc x _ S'=>.exc x S'
 | _=>.bad
theorem Gg2{K:PySem.W.Frag}{mp:List Addr}{H:Hp}{S:Sto}{N:List Str}{ds:List D}{vs:List V}(r:RS K mp H S)(h:RepL K mp H ds vs):Gd K mp H (start N vs) (ds.map some++List.replicate (N.length-ds.length) none) S:=by
 have hl:=h.len
 refine⟨r,by simp[L2.start,hl],fun i d e=>?_⟩
 by_cases hi:i<ds.length
 ·rw[List.getElem?_append_left (by simpa using hi),List.getElem?_map] at e
  cases z:ds[i]? with
  | none=>rw[z] at e; cases e
  | some d'=>
   rw[z] at e
   cases e
   obtain⟨v,e1,q⟩:=h.get z
   refine⟨v,?_,q⟩
   unfold L2.start
   rw[List.getElem?_append_left (by simp[hl]; exact hi),List.getElem?_map,e1]
   rfl
 ·rw[List.getElem?_append_right (by simpa using hi),List.getElem?_replicate] at e
  split at e
  ·cases e
  ·cases e
theorem Gry{P:Program}{w:World}{K:PySem.W.Frag}{mg:Str->Option Value}{base:Heap}{x qual:Str}{st:Stmt}{f:Addr}{fd:FuncData}{N ps:List Str}{k:Nat}{b:Sv}(F:Fun K x qual st f fd)(Sc:FnScope N ps (Gf st))(hb:∀ (cdv:Value) (A:Around) (outer:List PySem.Env) (s:Shared) (H:Hp) (E:XK),Room k (A.deeper (envOfC qual (Gf st) s.heap.objs.size f cdv))→
   JSs (Vd CX0 P w K mg base N qual (Gf st) f cdv A outer s H E).nox (fun _ _ _ _ _ _=>False) (Hi st) b):FnOk P w K mg base CX0 (k+1) f fd ps (spD K ps.length (fnB N.length b)):=by
 refine F.ok Sc (fun vs H Q E ⟨mp,ds,S,rs,r,hl,_⟩=>by rw[r.len]; exact hl) fun cdv A outer s H vs Q E hr ⟨mp,ds,S,rs,r,hl,p⟩=>?_
 refine⟨_,hb cdv A outer s H E hr,mp,_,S,Gg2 rs r,?_⟩
 unfold fnB at p
 show PostS K _ mp H (b (ds.map some++List.replicate (N.length-ds.length) none) S) _
 cases z:b (ds.map some++List.replicate (N.length-ds.length) none) S with
 | rt d S'=>rw[z] at p; exact p
 | nx ρ' S'=>rw[z] at p; exact fun m h v af G=>p m h .non af G.rs rfl
 | bk ρ' S'=>rw[z] at p; exact p.elim
 | ct ρ' S'=>rw[z] at p; exact p.elim
 | exc x ρ' S'=>rw[z] at p; exact p.elim
 | bad=>rw[z] at p; exact p.elim
section
variable{X:Cx}{XQ:XW}{k:Nat}{f:Addr}{fd:FuncData}{ps:List Str}{fn:Fn}{x:Str}{p pos:Pos}{e:Expr}{es:List Expr}{t:Ev (List D)}
def cl(n:Nat)(fn:Fn)(t:Ev (List D)):Ev D:=fun ρ S=>(t ρ S).bind fun ds S1=>if ds.length=n then fn ds S1 else .bad
def Gm(fn:Fn):Fn:=fun ds S=>match fn ds S with
 | .ok d S'=>.ok d S'
 | _=>.bad
theorem Gph{j:Nat}(F:FnOk X.prog X.w X.K X.mg X.base CX0 j f fd ps (spD X.K ps.length fn))(hr:Room k X.A)(hj:j<=k)(hg:Gl X x)(hm:X.mg x=some (.ref f))(hk:PySem.W.keepIn X.K (.ref f)=true)(hb:Binds X.K fd ps [])
  (ha:JA X XQ (e::es) t) (hdb:(x==("__debug__":Str))=false:=by decide) (he:starEach (e::es) X.env=(false,eval e X.env)::starEach es X.env:=by rfl) (hpl:(backTo pos (starEach es X.env)).any (·.1)=false:=by rfl):
  JE X XQ (.Call (.Name x p) (e::es) [] pos) (cl ps.length (Gm fn) t):=by
 refine PE.mono (Goy (F.mono hj) hr hg hm hk hb .nil (Gx3) ha hdb he hpl) fun σ H Q ⟨mp,ρ,S,G,p⟩=>?_
 refine bindP G p fun mp1 H1 ds S1 vs a1 G1 r1 p1=>?_
 by_cases hl:ds.length=ps.length
 ·rw[if_pos hl] at p1
  refine⟨mp1,ds,S1,G1.rs,by rw[List.append_nil]; exact r1,hl,?_⟩
  unfold Gm at p1
  cases z:fn ds S1 with
  | ok d S'=>rw[z] at p1; exact p1
  | exc x S'=>rw[z] at p1; exact p1.elim
  | bad=>rw[z] at p1; exact p1.elim
 ·rw[if_neg hl] at p1; exact p1.elim
end
theorem Gft{prog:Program}{w:World}{A:Around}{R:Result->Shared->Prop}{s:Shared}{elt target iter:Expr}{ifs:List Expr}{scope:Scope}{pos:Pos}{it acc:Value}{env:PySem.Env}(I:Nat->Shared->Prop)(turn:∀ n s,I n s->wpAny (model prog w) A (pyNext it) (fun r s₁=>match r with
   | none=>R (.ok .next) s₁
   | some v=>wpAny (model prog w) A (letOwnedTupleGo target it v) (fun _ s₁=>wpAny (model prog w) A (assign target env v) (fun _ s₂=>
     wpAny (model prog w) A (forIn ifs true fun c r=>if r=true then do let ok <- isTrue c env (eval c env); pure (ForInStep.yield ok) else pure (ForInStep.yield r)) (fun ok s₃=>
      if ok=true then wpAny (model prog w) A (eval elt env) (fun x s₄=>
       wpAny (model prog w) A (call (.builtin "list.append") [acc,x]) (fun _ s₅=>∃ m,m<n/\I m s₅) (fun _ _=>False) s₄) (fun _ _=>False) s₃
      else ∃ m,m<n/\I m s₃) (fun _ _=>False) s₂) (fun _ _=>False) s₁) (fun _ _=>False) s₁) (fun _ _=>False) s)(n:Nat)(h:I n s):
  codeAny (model prog w) A (.compLoop (.ListComp elt [⟨target,iter,ifs,0⟩] scope pos) 0 it acc env) R s:=by
 have noE:∀ {α:Type} {m:Sem α} {Q:α->Shared->Prop} {E':Value->Shared->Prop} {s:Shared},wpAny (model prog w) A m Q (fun _ _=>False) s->wpAny (model prog w) A m Q E' s:=fun h=>wpAny_mono h (fun _ _ q=>q) fun _ _ z=>z.elim
 refine codeAny_loop rfl I (fun n s hI=>?_) n h
 show wpAny _ A ((compTurn (.ListComp elt [⟨target,iter,ifs,0⟩] scope pos) 0 it acc env).onRaise (fun x=>do noteFrame x env; theTreesLotGoes x)) _ _ s
 refine wpAny_noted ?_
 rw[compTurn_list]
 refine wpAny_bind (wpAny_standAt (wpAny_bind (noE (wpAny_mono (turn n s hI) (fun r s₁ h₁=>?_) fun _ _ z=>z))))
 cases r with
 | none=>exact wpAny_pure h₁
 | some v=>
  refine wpAny_bind (noE (wpAny_mono h₁ (fun _ s₁ h₁=>?_) fun _ _ z=>z))
  refine wpAny_bind (noE (wpAny_mono h₁ (fun _ s₂ h₂=>wpAny_bind (noE (wpAny_mono h₂ (fun ok s₃ h₃=>?_) fun _ _ z=>z))) fun _ _ z=>z))
  cases ok with
  | false=>exact wpAny_pure ⟨rfl,h₃⟩
  | true=>
   exact wpAny_bind (wpAny_bind (noE (wpAny_mono h₃ (fun x s₄ h₄=>wpAny_bind (noE (wpAny_mono h₄ (fun _ s₅ h₅=>wpAny_pure (wpAny_pure ⟨rfl,h₅⟩)) fun _ _ z=>z))) fun _ _ z=>z)))
def blk(X:Cx)(s2:Shared)(H2:Hp)(C:Addr)(scope:Scope)(cl:List (Str×Addr))(N':List Str)(fp:List Addr):Cx:=
 { X with N:=N',s₀:=s2,H₀:=H2,env:=compEnvC scope cl C X.env,outer:=X.stack,ex:=fp,fn:=fun x=>scope.names.lookup x==some NameKind.cell,pn:=[],xe:=fun _ _=>False }
structure CompSc(X:Cx)(scope:Scope)(cl:List (Str×Addr))(N':List Str)(pk:List (Option Nat)):Prop where
 kind:scope.kind=.function
 cell:∀ y∈scope.names,y.2=.cell->scope.names.lookup y.1=some .cell
 names:∀ y∈scope.names,y.2=.local->scope.names.lookup y.1=some .local
 clos:closureFor scope X.env=pure cl
 sub:∀ x c,cl.lookup x=some c->X.env.cells.lookup x=some c
 has:∀ x,((relabel scope X.env).names.lookup x=some .cell\/(relabel scope X.env).names.lookup x=some .free)->(x,NameKind.cell)∈scope.names\/∃ c,cl.lookup x=some c
 len:pk.length=N'.length
 take:∀ (i j:Nat) (x:Str),pk[i]?=some (some j)->N'[i]?=some x->X.N[j]?=some x/\(X.env.kindOf x=some .cell\/X.env.kindOf x=some .free)/\((relabel scope X.env).names.lookup x=some .cell\/(relabel scope X.env).names.lookup x=some .free)/\scope.names.lookup x=some .free
def pkS{α:Type}(pk:List (Option Nat))(σ:List (Option α)):List (Option α):=pk.map fun o=>o.bind fun j=>(σ[j]?).bind id
def PTs(Y:Cx)(ifs:List Expr)(t:TT):Prop:=
 ∀ (pins:List (Addr×Obj)) (s:Shared) (σ:L2.St) (H:Hp) (Q:Bool->Hp->Prop),Inv Y pins σ H s->t σ H Q→
  wpAny (model Y.prog Y.w) Y.A (forIn ifs true fun c r=>if r=true then do let ok <- isTrue c Y.env (eval c Y.env); pure (ForInStep.yield ok) else pure (ForInStep.yield r)) (TP Y pins σ Q) Y.xe s
theorem Gpi{Y:Cx}:PTs Y [] (fun _ H Q=>Q true H):=fun _ _ _ H _ I h=>wpAny_tests_nil ⟨H,I,h⟩
theorem Gpj{Y:Cx}{c:Expr}{t:TT}(h:PT Y c t):PTs Y [c] t:=fun pins s σ H Q I q=>wpAny_tests_one (h pins s σ H Q I q)
def Grz(wi:TI)(pk:List (Option Nat))(g:TG)(tt:TT)(te:TE):TE:=fun σ H Q=>wi σ H fun J H1=>∀ a,H1 a=none->∃ W:Nat->Nat->L2.St->Hp->Prop,(∃ m,W 0 m (pkS pk σ) (upd H1 a (.lst [])))/\∀ i m σ' H',W i m σ' H'→
 (J.stop i H'/\Q (.ref a) H')\/(J.go i H'/\∀ x H2,J.yld i H' x H2->g x σ' H2 fun σ3 H3=>tt σ3 H3 fun b H4=>if b=true then te σ3 H4 fun v H5=>∃ xs,H5 a=some (.lst xs)/\xs.length<sizeLine/\∃ m',m'<m/\W (i+1) m' σ3 (upd H5 a (.lst (xs++[v])))
  else ∃ m',m'<m/\W (i+1) m' σ3 H4)
theorem Gls{P:Program}{w:World}{H:Hp}{h h':Heap}{C:Addr}(k:HOk P w H h)(hn:H C=none)(hs:Heap.SameBut C h h'):HOk P w H h':=fun b ob e=>by
 refine(k b ob e).stay (fun c w' hc q=>(hs.2 c ?_).trans q) (fun _ q=>q) fun _ _ q=>q
 rintro rfl
 rcases hc with rfl | hc
 ·rw[hn] at e; cases e
 ·rw[hn] at hc; cases hc
theorem Jj:∀ (names:List (Str×NameKind)) (n:Nat) (acc:List (Str×Addr)),cellsFrom n names acc=cellsFrom n names []++acc
 | [],_,_=>rfl
 | (x,k)::r,n,acc=>by
  unfold cellsFrom
  by_cases hk:(k==NameKind.cell)=true
  ·rw[if_pos hk,if_pos hk,Jj r (n+1) ((x,n)::acc),Jj r (n+1) [(x,n)],List.append_assoc]
   rfl
  ·rw[if_neg hk,if_neg hk,Jj r n acc]
theorem Xb:∀ (names:List (Str×NameKind)) (n:Nat) (x:Str) (c:Addr),(x,c)∈cellsFrom n names []->(x,NameKind.cell)∈names
 | [],_,_,_,h=>by simp[cellsFrom] at h
 | (y,k)::r,n,x,c,h=>by
  unfold cellsFrom at h
  by_cases hk:(k==NameKind.cell)=true
  ·rw[if_pos hk,Jj] at h
   rcases List.mem_append.mp h with h | h
   ·exact List.mem_cons_of_mem _ (Xb r (n+1) x c h)
   ·have:x=y:=by simpa using(List.mem_singleton.mp h▸rfl:(x,c).1=(y,n).1)
    have hk:k=.cell:=by simpa using hk
    subst this hk
    exact List.mem_cons_self
  ·rw[if_neg hk] at h
   exact List.mem_cons_of_mem _ (Xb r n x c h)
theorem Wc{x:Str}:∀ (a b:List (Str×Addr)),(a++b).lookup x=match a.lookup x with
  | some c=>some c
  | none=>b.lookup x
 | [],_=>rfl
 | (y,c)::r,b=>by
  rw[List.cons_append,List.lookup_cons,List.lookup_cons]
  cases h:x==y with
  | true=>rfl
  | false=>exact Wc r b
theorem Uy:∀ (names:List (Str×NameKind)) (n:Nat) (x:Str),(x,NameKind.cell)∈names->∃ c,(cellsFrom n names []).lookup x=some c
 | [],_,_,h=>by simp at h
 | (y,k)::r,n,x,h=>by
  unfold cellsFrom
  by_cases hx:(x,NameKind.cell)∈r
  ·by_cases hk:(k==NameKind.cell)=true
   ·rw[if_pos hk,Jj,Wc]
    obtain⟨c,hc⟩:=Uy r (n+1) x hx
    rw[hc]; exact⟨c,rfl⟩
   ·rw[if_neg hk]
    exact Uy r n x hx
  ·rcases List.mem_cons.mp h with h | h
   ·cases h
    rw[if_pos (by rfl),Jj,Wc]
    cases e:(cellsFrom (n+1) r []).lookup y with
    | some c=>exact⟨c,rfl⟩
    | none=>exact⟨n,by simp[List.lookup_cons]⟩
   ·exact absurd h hx
theorem Gcn{M:Model}{A:Around}{E:Value->Shared->Prop}{s:Shared}{scope:Scope}{globals:Addr}{cl:List (Str×Addr)}{qual:Str}{env:PySem.Env}{Q:PySem.Env->Shared->Prop}
  (hQ:∀ h',h'=pushCells (s.heap.push { cls:=.type "dict",data:=.dict #[] }) scope.names→
   Q { scope:=scope,locals:=s.heap.objs.size,globals:=globals,cells:=cellsFrom (s.heap.objs.size+1) scope.names cl,qual:=qual,func:=none,code:=env.code,frame:=env.frame,builtins:=env.builtins } { s with heap:=h' }):
  wpAny M A (newFunctionEnv scope globals cl [] qual none .none (some env)) Q E s:=by
 simp only[newFunctionEnv,Option.isSome_some,if_true]
 refine wpAny_bind (wpAny_alloc ?_)
 refine wpAny_bind (wpAny_layCells _ (fun name kind cells=>by cases hkc:kind==NameKind.cell<;>simp[hkc]) _ _ _ _ ?_)
 rw[show({ s with heap:=s.heap.push { cls:=.type "dict",data:=.dict #[] } }:Shared).heap.objs.size=s.heap.objs.size+1 from Heap.size_push ..]
 rw[List.forIn_nil]
 exact wpAny_bind (wpAny_pure (wpAny_pure (hQ _ rfl)))
section
variable{X:Cx}
theorem Gh1{elt tg iter:Expr}{ifs:List Expr}{scope:Scope}{pos:Pos}{cl:List (Str×Addr)}{N':List Str}{pk:List (Option Nat)}{g:TG}{tt:TT}{te:TE}(cs:CompSc X scope cl N' pk)(hcm:X.calm=true)
  (hg:∀ cl s2 H2 C fp,PG (blk X s2 H2 C scope cl N' fp) tg g) (ht:∀ cl s2 H2 C fp,PTs (blk X s2 H2 C scope cl N' fp) ifs tt) (he:∀ cl s2 H2 C fp,PE (blk X s2 H2 C scope cl N' fp) elt te)
  {pins:List (Addr×Obj)} {σ:L2.St} {H2:Hp} {s2:Shared} {it:Addr} {fp:List Addr} {tn:Nat->Heap->Prop} {J:It} (I2:Inv X pins σ H2 s2) (T:Turn X.prog X.w X.K tg J fp it tn) (st2:tn 0 s2.heap) (f2:∀ b∈fp,Ged X pins H2 b)
  {Q:VK} (hQ:∀ a,H2 a=none->∃ W:Nat->Nat->L2.St->Hp->Prop,(∃ m,W 0 m (pkS pk σ) (upd H2 a (.lst [])))/\∀ i m σ' H',W i m σ' H'→
   (J.stop i H'/\Q (.ref a) H')\/(J.go i H'/\∀ x H3,J.yld i H' x H3->g x σ' H3 fun σ3 H3=>tt σ3 H3 fun b H4=>if b=true then te σ3 H4 fun v H5=>∃ xs,H5 a=some (.lst xs)/\xs.length<sizeLine/\∃ m',m'<m/\W (i+1) m' σ3 (upd H5 a (.lst (xs++[v])))
    else ∃ m',m'<m/\W (i+1) m' σ3 H4)) {E:Value->Shared->Prop} {RR:Value->Addr->Result->Shared->Prop}
  (hRR:∀ D C s' (H':Hp),Q (.ref D) H'->(∃ m,s'.heap.Ns C m)->Inv X pins σ H' s'->H' C=none->s2.heap.objs.size<=C->RR (.ref D) C (.ok .next) s'):
  wpAny (model X.prog X.w) X.A (newList []) (fun acc s₃=>wpAny (model X.prog X.w) X.A (newFunctionEnv scope X.env.globals cl [] X.env.qual none .none (some X.env)) (fun cenv s₄=>
   codeAny (model X.prog X.w) X.A (.compStart (.ListComp elt [⟨tg,iter,ifs,0⟩] scope pos) 0 (.ref it) acc { cenv with scope:=relabel scope X.env }) (RR acc cenv.locals) s₄) E s₃) E s2:=by
 have hD:H2 s2.heap.objs.size=none:=I2.hok.fresh (Nat.le_refl _)
 obtain⟨W,⟨m0,w0⟩,turn⟩:=hQ s2.heap.objs.size hD
 refine wpAny_newObj_type (Gcn (fun h₁ hh₁=>?_))
 dsimp only at hh₁ ⊢
 generalize hHh:s2.heap.push { cls:=.type "list",dict:=none,data:=.seq ([]:List Value).toArray }=Hh at hh₁ ⊢
 have hC:Hh.objs.size=s2.heap.objs.size+1:=by rw[<- hHh,Heap.size_push]
 have hDC:s2.heap.objs.size≠Hh.objs.size:=by rw[hC]; exact Nat.ne_of_lt (Nat.lt_succ_self _)
 have hCle:s2.heap.objs.size<=Hh.objs.size:=by rw[hC]; exact Nat.le_succ _
 have below:∀ b,b<s2.heap.objs.size->b≠Hh.objs.size/\b≠s2.heap.objs.size:=fun b hb=>⟨by rw[hC]; exact Nat.ne_of_lt (Nat.lt_succ_of_lt hb),Nat.ne_of_lt hb⟩
 have hns₁:h₁.Ns Hh.objs.size (fun _=>none):=by rw[hh₁]; exact(Heap.Ns.new Hh (.type "dict")).keeps (pushCells_keeps _ _)
 have old0:∀ b o,Hh.get? b=some o->h₁.get? b=some o:=fun b o e=>by rw[hh₁]; exact pushCells_keeps _ _ b o (Heap.get?_push_of_some _ e)
 have old:∀ b o,s2.heap.get? b=some o->h₁.get? b=some o:=fun b o e=>old0 b o (by rw[<- hHh]; exact Heap.get?_push_of_some _ e)
 have hacc:h₁.get? s2.heap.objs.size=some { cls:=.type "list",dict:=none,data:=.seq ([]:List Value).toArray }:=old0 _ _ (by rw[<- hHh]; exact Heap.get?_push_size _ rfl)
 have own:=cellsFrom_ok scope.names (Hh.push { cls:=.type "dict",data:=.dict #[] }) (Hh.objs.size+1) [] ⟨fun _ _ hm=>(nomatch hm),List.Pairwise.nil⟩ (by rw[Heap.size_push]; exact Nat.le_refl _)
 rw[Heap.size_push,<- hh₁] at own
 generalize hcs:cellsFrom (Hh.objs.size+1) scope.names cl=cs' at *
 have csl:∀ x c,cs'.lookup x=some c->((x,c)∈cellsFrom (Hh.objs.size+1) scope.names []/\h₁.IsCell c none/\Hh.objs.size+1<=c/\scope.names.lookup x=some .cell)\/((x,NameKind.cell)∉scope.names/\X.env.cells.lookup x=some c):=fun x c h=>by
  rw[<- hcs,Jj,Wc] at h
  cases e:(cellsFrom (Hh.objs.size+1) scope.names []).lookup x with
  | some c'=>
   rw[e] at h
   cases h
   have m:=mem_of_lookup e
   exact .inl ⟨m,(own.empty x c m).1,(own.empty x c m).2,cs.cell (x,.cell) (Xb _ _ _ _ m) rfl⟩
  | none=>
   rw[e] at h
   refine .inr ⟨fun hm=>?_,cs.sub x c h⟩
   obtain⟨c',q⟩:=Uy scope.names (Hh.objs.size+1) x hm
   rw[e] at q; cases q
 have cshas:∀ x,((relabel scope X.env).names.lookup x=some .cell\/(relabel scope X.env).names.lookup x=some .free)->∃ c,cs'.lookup x=some c:=fun x h=>by
  rw[<- hcs,Jj,Wc]
  cases e:(cellsFrom (Hh.objs.size+1) scope.names []).lookup x with
  | some c=>exact⟨c,rfl⟩
  | none=>
   rcases cs.has x h with hm | hm
   ·obtain⟨c',q⟩:=Uy scope.names (Hh.objs.size+1) x hm
    rw[e] at q; cases q
   ·exact hm
 have lts:∀ x c,X.env.cells.lookup x=some c->c<s2.heap.objs.size:=fun x c h=>by
  obtain⟨v,o,ho,hd⟩:=I2.cell x c h
  exact Heap.lt_size ho
 let Y:=blk X s2 H2 Hh.objs.size scope cs' N' fp
 have fpLt:∀ b∈fp,b<s2.heap.objs.size:=fun b hb=>by
  obtain⟨o,e,_⟩:=T.obj _ _ st2 b hb
  exact Heap.lt_size e
 have okY:Y.Ok:=by
  refine⟨I2.ok.mod,(by show(relabel scope X.env).kind=.function; exact cs.kind),I2.ok.glob,I2.ok.blt,hCle,fun x y c h1 h2=>?_,cshas,(fun x c z h=>by
   rcases csl x c h with⟨_,_,q,_⟩ | ⟨q,_⟩
   ·show s2.heap.objs.size<=c
    rw[hC] at q; omega
   ·have z:scope.names.lookup x=some .cell:=by simpa[Y,blk] using z
    exact absurd (mem_of_lookup z) q),I2.ok.hd,I2.ok.frames,.inl rfl,fun b hb=>⟨Nat.ne_of_lt (by rw[show Y.env.locals=Hh.objs.size from rfl,hC]; exact Nat.lt_succ_of_lt (fpLt b hb)),fun x c h=>by
   rcases csl x c h with⟨_,_,q,_⟩ | ⟨_,q⟩
   ·exact fun z=>absurd (Nat.lt_of_lt_of_le (fpLt b hb) (Nat.le_trans (by rw[hC]; omega) (z▸q))) (Nat.lt_irrefl _)
   ·exact(f2 b hb).2.2.2.2.1 x c q⟩,I2.bs,Nat.le_trans I2.ok.bsz I2.sz,fun b o e hb=>?_,fun b hb hs=>?_,I2.stack,I2.stkFree⟩
  ·rcases csl x c h1 with⟨m1,_,q1,_⟩ | ⟨_,q1⟩<;>rcases csl y c h2 with⟨m2,_,q2,_⟩ | ⟨_,q2⟩
   ·exact name_of_addr own.apart m1 m2
   ·exact absurd (Nat.lt_of_lt_of_le (lts y c q2) (Nat.le_trans (by rw[hC]; omega) q1)) (Nat.lt_irrefl _)
   ·exact absurd (Nat.lt_of_lt_of_le (lts x c q1) (Nat.le_trans (by rw[hC]; omega) q2)) (Nat.lt_irrefl _)
   ·exact I2.ok.inj x y c q1 q2
  ·rcases(f2 b hb).2.2.2.1 with z | z
   ·exact I2.ok.noex b o e z
   ·exact absurd (Nat.lt_of_lt_of_le (Heap.lt_size e) (Nat.le_trans I2.ok.bsz z)) (Nat.lt_irrefl _)
  ·rcases List.mem_cons.mp (I2.stkSub b hs) with z | z
   ·exact(f2 b hb).2.1 z
   ·exact(f2 b hb).2.2.1 z
 have hokY:HOk X.prog X.w (upd H2 s2.heap.objs.size (.lst [])) h₁:=I2.hok.laid old (Nat.le_refl _) ⟨by decide,[],0,.nil,hacc⟩
 have IY:∀ tk,Inv Y [] (pkS pk σ) (upd H2 s2.heap.objs.size (.lst [])) { s2 with heap:=h₁,toks:=tk }:=fun tk=>by
  refine⟨okY,rfl,I2.bare,?_,⟨_,hns₁,fun i x v h1 h2 h3=>?_⟩,fun x c h=>?_,?_,fun x c h=>?_,fun p hp=>absurd (show p∈([]:List (Addr×Obj)) from hp) (by simp),hokY,by show(pkS pk σ).length=N'.length; rw[<- cs.len]; simp[pkS]⟩
  ·exact Un.laid old (Nat.le_refl _) hD
  ·unfold pkS at h2
   rw[List.getElem?_map] at h2
   cases e:pk[i]? with
   | none=>rw[e] at h2; cases h2
   | some o=>
    rw[e] at h2
    cases o with
    | none=>cases h2
    | some j=>
     have h2:(σ[j]?).bind id=some v:=Option.some.inj h2
     have h2:σ[j]?=some (some v):=by
      cases z:σ[j]? with
      | none=>rw[z] at h2; cases h2
      | some q=>
       rw[z] at h2
       have h2:q=some v:=h2
       rw[h2]
     obtain⟨n1,n2,n3,n4⟩:=cs.take i j x e h1
     obtain⟨m,_,hl⟩:=I2.loc
     have vis:Vis X.env.scope x:=by
      rcases n2 with n2 | n2
      ·exact .inr (.inl n2)
      ·exact .inr (.inr n2)
     obtain⟨u,r,l⟩:=hl j x v n1 h2 vis
     refine⟨u,r,.inr ⟨n3,?_⟩⟩
     rcases l with⟨k,_⟩ | ⟨_,c,hc,⟨o,ho,hd⟩⟩
     ·rcases n2 with n2 | n2<;>rw[k] at n2<;>cases n2
     ·obtain⟨c',hc'⟩:=cshas x n3
      rcases csl x c' hc' with⟨_,_,_,q⟩ | ⟨_,e2⟩
      ·rw[n4] at q; cases q
      rw[hc] at e2
      cases e2
      exact⟨c,hc',o,old c o ho,hd⟩
  ·rcases csl x c h with⟨_,q,_,_⟩ | ⟨_,q⟩
   ·exact⟨none,q⟩
   obtain⟨v,o,ho,hd⟩:=I2.cell x c q
   exact⟨v,o,old c o ho,hd⟩
  ·show upd H2 s2.heap.objs.size (.lst []) Hh.objs.size=none
   rw[Hb (Ne.symm hDC)]
   exact I2.hok.fresh hCle
  ·rcases csl x c h with⟨_,_,z,_⟩ | ⟨_,z⟩
   ·show upd H2 s2.heap.objs.size (.lst []) c=none
    have z:s2.heap.objs.size+2<=c:=by rw[hC] at z; exact z
    rw[Hb (Nat.ne_of_gt (by omega:s2.heap.objs.size<c))]
    exact I2.hok.fresh (by omega)
   have q:=I2.freeC x c z
   obtain⟨v,o,ho,hd⟩:=I2.cell x c z
   show upd H2 s2.heap.objs.size (.lst []) c=none
   rw[Hb (below c (Heap.lt_size ho)).2]
   exact q
 have stat:∀ {H':Hp},(∀ b∈fp,H' b=none)->∀ b∈fp,Ged Y [] H' b:=fun hn b hb=>
  ⟨hn b hb,(okY.exf b hb).1,okY.exfs b hb,.inl hb,(okY.exf b hb).2,fun p hp=>absurd (show p∈([]:List (Addr×Obj)) from hp) (by simp)⟩
 have fin:∀ (H':Hp) (σ':L2.St) (s':Shared),Inv Y [] σ' H' s'->∀ h',Heap.SameBut Hh.objs.size s'.heap h'->Inv X pins σ H' { s' with heap:=h' }:=fun H' σ' s' I' h' hs=>by
  have sub:∀ b o,s2.heap.get? b=some o->b≠Hh.objs.size:=fun b o e=>(below b (Heap.lt_size e)).1
  have un:Un (frs X.stack) fp H2 H' s2.heap s'.heap:=I'.base
  refine I2.call' (ch:=fp) I'.os ⟨fun b o e n hb hx=>(hs.2 b (sub b o e)).trans (un.keep b o e n hb hx),fun b o e n hb hx=>?_,un.free,fun b o e hx=>?_,un.tups,un.frzs,un.tbls⟩ (Gls I'.hok I'.free hs) I'.bare fun b hb=>⟨(f2 b hb).2.2.2.1,(f2 b hb).2.1,(f2 b hb).2.2.2.2.1,(f2 b hb).2.2.2.2.2⟩
  ·obtain⟨sl,q⟩:=un.slot b o e n hb hx
   exact⟨sl,(hs.2 b (sub b o e)).trans q⟩
  ·obtain⟨o',q⟩:=un.there b o e hx
   exact⟨o',(hs.2 b (sub b o e)).trans q⟩
 have loop:∀ s3:Shared,(∃ tk,s3={ s2 with heap:=h₁,toks:=tk })→
   codeAny (model X.prog X.w) X.A (.compLoop (.ListComp elt [⟨tg,iter,ifs,0⟩] scope pos) 0 (.ref it) (.ref s2.heap.objs.size) (compEnvC scope cs' Hh.objs.size X.env)) (RR (.ref s2.heap.objs.size) Hh.objs.size) s3:=by
  rintro s3 ⟨tk,rfl⟩
  refine Gft (fun n s'=>∃ i σ' H',Inv Y [] σ' H' s'/\tn i s'.heap/\(∀ b∈fp,H' b=none)/\W i n σ' H') ?_ m0 ⟨0,_,_,IY tk,T.keep _ _ _ st2 (fun b _ o e=>old b o e),fun b hb=>by rw[Hb (below b (fpLt b hb)).2]; exact(f2 b hb).1,w0⟩
  rintro n s4 ⟨i,σ4,H4,I4,st4,fr4,w4⟩
  rcases turn i n σ4 H4 w4 with⟨stop,qn⟩ | ⟨go,step⟩
  ·refine wpAny_mono (T.done Y rfl rfl rfl hcm i [] s4 σ4 H4 (fun _ _=>False) I4 (stat fr4) st4 stop) (fun r s5 ⟨hr,I5⟩=>?_) fun _ _ z=>z
   subst hr
   obtain⟨m,hn,_⟩:=I5.loc
   exact hRR _ _ s5 H4 qn ⟨m,hn⟩ (fin H4 σ4 s5 I5 s5.heap (.refl ..)) I5.free hCle
  ·refine wpAny_mono (T.item Y rfl rfl rfl hcm i [] s4 σ4 H4 (fun _ _=>False) I4 (stat fr4) st4 go) (fun r s5 ⟨u,hr,h5⟩=>?_) fun _ _ z=>z
   subst hr
   refine wpAny_mono h5 (fun _ s6 ⟨x,H6,I6,r6,y6,st6,fr6⟩=>?_) fun _ _ z=>z
   have I6':=I6.pinned (stat fr6) (T.obj _ _ st6)
   refine wpAny_mono (hg cs' s2 H2 Hh.objs.size fp _ s6 σ4 H6 x u _ I6' r6 (step x H6 y6)) (fun _ s7 ⟨σ7,H7,I7,q7⟩=>?_) fun _ _ z=>z
   refine wpAny_mono (ht cs' s2 H2 Hh.objs.size fp _ s7 σ7 H7 _ I7 q7) (fun ok s8 ⟨H8,I8,q8⟩=>?_) fun _ _ z=>z
   have back:∀ {σ9:L2.St} {H9:Hp} {s9:Shared},Inv Y ([]++Gc9 fp s6.heap) σ9 H9 s9->Inv Y [] σ9 H9 s9/\tn (i+1) s9.heap/\∀ b∈fp,H9 b=none:=fun{σ9 H9 s9} I9=>
    ⟨I9.unpinned,T.keep _ _ _ st6 fun b hb o e=>(I9.pin (b,o) (List.mem_append_right _ (List.mem_append_right _ (Yi hb e)))).1,fun b hb=>by
     obtain⟨o,e,d⟩:=T.obj _ _ st6 b hb
     exact(I9.pin (b,o) (List.mem_append_right _ (List.mem_append_right _ (Yi hb e)))).2.1⟩
   cases ok with
   | false=>
    obtain⟨m',hm,w'⟩:=(if_neg Bool.false_ne_true).mp q8
    obtain⟨b1,b2,b3⟩:=back I8
    exact(if_neg Bool.false_ne_true).mpr ⟨m',hm,i+1,σ7,H8,b1,b2,b3,w'⟩
   | true=>
    refine(if_pos rfl).mpr ?_
    refine wpAny_mono (he cs' s2 H2 Hh.objs.size fp _ s8 σ7 H8 _ I8 ((if_pos rfl).mp q8)) (fun ux s9 ⟨v,H9,I9,r9,xs,ex,hx,m',hm,w'⟩=>?_) fun _ _ z=>z
    refine wpAny_mono (Ge7 (X:=Y) _ s9 σ7 H9 (.ref s2.heap.objs.size) [v] (.ref s2.heap.objs.size) [ux] (fun _ H'=>H'=upd H9 s2.heap.objs.size (.lst (xs++[v]))) I9 rfl (.cons r9 .nil) ⟨_,xs,v,rfl,rfl,ex,hx,rfl⟩) (fun _ s10 ⟨_,H10,I10,_,e10⟩=>?_) fun _ _ z=>z
    subst e10
    obtain⟨b1,b2,b3⟩:=back I10
    exact⟨m',hm,i+1,σ7,_,b1,b2,b3,w'⟩
 exact codeAny_compStart_list (loop _ ⟨_,rfl⟩) (T.self _ 0 _ _ _ (T.keep _ _ _ st2 fun b _ o e=>old b o e) (loop _ ⟨_,rfl⟩))
theorem Gpk{pins:List (Addr×Obj)}{σ σ2:L2.St}{H2 H':Hp}{s2 s':Shared}{C:Addr}{h':Heap}(I2:Inv X pins σ2 H2 s2)(I:Inv X pins σ H' s')(hn:H' C=none)(hC:s2.heap.objs.size<=C)(hs:Heap.SameBut C s'.heap h'):Inv X pins σ H' { s' with heap:=h' }:=by
 refine I.turned (t':=s'.toks) (it:=C) (fun b o hb e=>(hs.2 b hb).trans e) hn (fun z=>?_) (.inr (Nat.le_trans I2.sz hC)) (fun x c h z=>?_) fun p hp z=>?_
 ·exact absurd (Nat.lt_of_lt_of_le I2.lt (by rw[<- z]; exact hC)) (Nat.lt_irrefl _)
 ·obtain⟨v,q⟩:=I2.cell x c h
  exact absurd (Nat.lt_of_lt_of_le q.lt (by rw[z]; exact hC)) (Nat.lt_irrefl _)
 ·exact absurd (Nat.lt_of_lt_of_le (Heap.lt_size (I2.pin p hp).1) (by rw[z]; exact hC)) (Nat.lt_irrefl _)
theorem Ga1{env:PySem.Env}:∀ (names:List (Str×NameKind)) (acc:List (Str×Addr)),(∀ x∈names,x.2=.free->∃ c,env.cells.lookup x.1=some c)->(∀ x c,acc.lookup x=some c->env.cells.lookup x=some c)→
  ∃ cl,(forIn names acc fun x cs=>(if(x.2==NameKind.free)=true then do let c <- cellOf env x.1; pure (ForInStep.yield ((x.1,c)::cs)) else pure (ForInStep.yield cs):Sem _))=pure cl/\(∀ x c,cl.lookup x=some c->env.cells.lookup x=some c)∧
   (∀ x,(∃ c,acc.lookup x=some c)\/(x,NameKind.free)∈names->∃ c,cl.lookup x=some c)
 | [],acc,_,ha=>⟨acc,rfl,ha,fun x h=>by
   rcases h with h | h
   ·exact h
   ·simp at h⟩
 | (n,k)::r,acc,hn,ha=>by
  have hr:∀ x∈r,x.2=.free->∃ c,env.cells.lookup x.1=some c:=fun x hx=>hn x (List.mem_cons_of_mem _ hx)
  by_cases hk:k=.free
  ·subst hk
   obtain⟨c,hc⟩:=hn (n,.free) List.mem_cons_self rfl
   obtain⟨cl,e,h1,h2⟩:=Ga1 r ((n,c)::acc) hr (fun x c' h=>by
    rw[List.lookup_cons] at h
    by_cases hx:(x==n)=true
    ·rw[hx] at h
     cases h
     have:x=n:=by simpa using hx
     rw[this]; exact hc
    ·have hx:(x==n)=false:=by simpa using hx
     rw[hx] at h
     exact ha x c' h)
   refine⟨cl,?_,h1,fun x h=>h2 x ?_⟩
   ·rw[List.forIn_cons]
    simp only[beq_self_eq_true,if_true]
    have q:cellOf env n=pure c:=by unfold cellOf; rw[hc]
    rw[q]
    exact e
   ·rcases h with⟨c',h⟩ | h
    ·left
     rw[List.lookup_cons]
     by_cases hx:(x==n)=true
     ·rw[hx]; exact⟨c,rfl⟩
     ·have hx:(x==n)=false:=by simpa using hx
      rw[hx]; exact⟨c',h⟩
    ·rcases List.mem_cons.mp h with h | h
     ·left
      cases h
      exact⟨c,by rw[List.lookup_cons,beq_self_eq_true]⟩
     ·exact .inr h
  ·have hb:(k==NameKind.free)=false:=by simpa using hk
   obtain⟨cl,e,h1,h2⟩:=Ga1 r acc hr ha
   refine⟨cl,?_,h1,fun x h=>h2 x ?_⟩
   ·rw[List.forIn_cons]
    simp only[hb,Bool.false_eq_true,if_false]
    exact e
   ·rcases h with h | h
    ·exact .inl h
    ·rcases List.mem_cons.mp h with h | h
     ·cases h; exact absurd rfl hk
     ·exact .inr h
theorem Gh2{env:PySem.Env}{scope:Scope}(hn:∀ x∈scope.names,x.2=.free->∃ c,env.cells.lookup x.1=some c):∃ cl,closureFor scope env=pure cl/\(∀ x c,cl.lookup x=some c->env.cells.lookup x=some c)/\(∀ x,(x,NameKind.free)∈scope.names->∃ c,cl.lookup x=some c):=by
 obtain⟨cl,e,h1,h2⟩:=Ga1 (env:=env) scope.names [] hn (fun x c h=>by simp at h)
 refine⟨cl,?_,h1,fun x h=>h2 x (.inr h)⟩
 unfold closureFor
 have e2:(forIn scope.names ([]:List (Str×Addr)) fun x r=>(match x with
   | (name,kind)=>if(kind==NameKind.free)=true then do let c <- cellOf env name; pure (ForInStep.yield ((name,c)::r)) else pure (ForInStep.yield r):Sem _))=pure cl:=e
 first
  | exact congrArg (fun m=>m >>= fun cs=>pure cs) e2
  | (show(do let cs <- forIn scope.names ([]:List (Str×Addr)) fun x r=>_; pure cs)=_; rw[e2]; rfl)
structure CompTab(sc scope:Scope)(N N':List Str)(pk:List (Option Nat)):Prop where
 kind:scope.kind=.function
 cell:∀ y∈scope.names,y.2=.cell->scope.names.lookup y.1=some .cell
 names:∀ y∈scope.names,y.2=.local->scope.names.lookup y.1=some .local
 free:∀ y∈scope.names,y.2=.free->sc.names.lookup y.1=some .cell\/sc.names.lookup y.1=some .free
 len:pk.length=N'.length
 take:((List.range N'.length).all fun i=>match pk[i]? with
  | some (some j)=>match N[j]?,N'[i]? with
   | some x,some y=>(x==y)&&((sc.names.lookup y==some NameKind.cell)||(sc.names.lookup y==some NameKind.free))&&(scope.names.lookup y==some NameKind.free)
   | _,_=>false
  | _=>true)=true
theorem Zo{scope:Scope}{env:PySem.Env}{x:Str}:∀ (names:List (Str×NameKind)),((names.map fun(n,k)=>if(k==NameKind.free&&env.scope.kind==.function&&env.kindOf n==some .cell)=true then(n,NameKind.cell) else(n,k)).lookup x=some .cell∨
   (names.map fun(n,k)=>if(k==NameKind.free&&env.scope.kind==.function&&env.kindOf n==some .cell)=true then(n,NameKind.cell) else(n,k)).lookup x=some .free)->(x,NameKind.cell)∈names\/(x,NameKind.free)∈names
 | [],h=>by simp at h
 | (n,k)::r,h=>by
  rw[List.map_cons] at h
  by_cases hx:(x==n)=true
  ·have e:x=n:=by simpa using hx
   subst e
   by_cases hq:(k==NameKind.free&&env.scope.kind==.function&&env.kindOf x==some .cell)=true
   ·have:k=.free:=by
     rw[Bool.and_eq_true,Bool.and_eq_true] at hq
     simpa using hq.1.1
    subst this
    exact .inr List.mem_cons_self
   ·simp only[hq,Bool.false_eq_true,if_false,List.lookup_cons,beq_self_eq_true] at h
    rcases h with h | h
    ·have:k=.cell:=by simpa using h
     subst this
     exact .inl List.mem_cons_self
    ·have:k=.free:=by simpa using h
     subst this
     exact .inr List.mem_cons_self
  ·have hx:(x==n)=false:=by simpa using hx
   refine(Zo (scope:=scope) (env:=env) r ?_).imp (List.mem_cons_of_mem _) (List.mem_cons_of_mem _)
   by_cases hq:(k==NameKind.free&&env.scope.kind==.function&&env.kindOf n==some .cell)=true
   ·simpa only[hq,if_true,List.lookup_cons,hx] using h
   ·simpa only[hq,Bool.false_eq_true,if_false,List.lookup_cons,hx] using h
theorem Qj{scope:Scope}{env:PySem.Env}{x:Str}:∀ (names:List (Str×NameKind)),names.lookup x=some .free->((names.map fun(n,k)=>if(k==NameKind.free&&env.scope.kind==.function&&env.kindOf n==some .cell)=true then(n,NameKind.cell) else(n,k)).lookup x=some .cell∨
   (names.map fun(n,k)=>if(k==NameKind.free&&env.scope.kind==.function&&env.kindOf n==some .cell)=true then(n,NameKind.cell) else(n,k)).lookup x=some .free)
 | [],h=>by simp at h
 | (n,k)::r,h=>by
  rw[List.map_cons]
  by_cases hx:(x==n)=true
  ·rw[List.lookup_cons,hx] at h
   have:k=.free:=by simpa using h
   subst this
   by_cases hq:(NameKind.free==NameKind.free&&env.scope.kind==.function&&env.kindOf n==some .cell)=true
   ·left; simp only[hq,if_true,List.lookup_cons,hx]
   ·right; simp only[hq,Bool.false_eq_true,if_false,List.lookup_cons,hx]
  ·have hx:(x==n)=false:=by simpa using hx
   rw[List.lookup_cons,hx] at h
   have:=Qj (scope:=scope) (env:=env) r h
   by_cases hq:(k==NameKind.free&&env.scope.kind==.function&&env.kindOf n==some .cell)=true
   ·simpa only[hq,if_true,List.lookup_cons,hx] using this
   ·simpa only[hq,Bool.false_eq_true,if_false,List.lookup_cons,hx] using this
theorem CompTab.sc{scope:Scope}{N':List Str}{pk:List (Option Nat)}(t:CompTab X.env.scope scope X.N N' pk)(ok:X.Ok):∃ cl,CompSc X scope cl N' pk:=by
 obtain⟨cl,e,h1,h2⟩:=Gh2 (env:=X.env) (scope:=scope) fun x hx hf=>ok.has x.1 (t.free x hx hf)
 refine⟨cl,t.kind,t.cell,t.names,e,h1,fun x h=>(Zo (scope:=scope) (env:=X.env) scope.names h).imp id (h2 x),t.len,fun i j x hp hn=>?_⟩
 have hi:i<N'.length:=(List.getElem?_eq_some_iff.mp hn).1
 have q:=List.all_eq_true.mp t.take i (List.mem_range.mpr hi)
 simp only[hp,hn] at q
 cases hj:X.N[j]? with
 | none=>simp[hj] at q
 | some y=>
  simp only[hj,Bool.and_eq_true,Bool.or_eq_true,beq_iff_eq] at q
  obtain⟨⟨e1,e2⟩,e3⟩:=q
  subst e1
  exact⟨rfl,e2,Qj (scope:=scope) (env:=X.env) scope.names e3,e3⟩
theorem Gh3{i:Nat}{y:Str}{py spos:Pos}{elt tg iter:Expr}{ifs:List Expr}{scope:Scope}{pos:Pos}{N':List Str}{pk:List (Option Nat)}{wi:TI}{g:TG}{tt:TT}{te:TE}(ct:CompTab X.env.scope scope X.N N' pk)(hcm:X.calm=true)(hi:PI X tg iter wi)
  (hg:∀ cl s2 H2 C fp,PG (blk X s2 H2 C scope cl N' fp) tg g) (ht:∀ cl s2 H2 C fp,PTs (blk X s2 H2 C scope cl N' fp) ifs tt) (he:∀ cl s2 H2 C fp,PE (blk X s2 H2 C scope cl N' fp) elt te)
  (hN:X.N.Nodup) (hy:X.N[i]?=some y) (hx:Loc X.env.scope y) (hsw:swapsWith (.ListComp elt [⟨tg,iter,ifs,0⟩] scope pos) (some (.Name y py)) spos.line X.env=pure true)
  (hs:∀ x,foldedSetIterable iter X.env x=pure x:=by intro _; rfl) (hf:X.fn y=true\/X.env.scope.names.lookup y=some .local:=by first | exact .inl rfl | exact .inr rfl | assumption):
  PS X (.Assign [.Name y py] (.ListComp elt [⟨tg,iter,ifs,0⟩] scope pos) spos) (Got (Grz wi pk g tt te) (gName i)):=by
 intro pins s σ H E I h
 obtain⟨cl,cs⟩:=ct.sc I.ok
 rw[exec_Assign_Name_used _ _ _ _ hsw]
 refine wpAny_bind (wpAny_standAt (wpAny_bind ?_))
 show wpAny _ X.A (do let _ <- comprehension (.ListComp elt [⟨tg,iter,ifs,0⟩] scope pos) scope X.env _ (newList []) false (eval iter X.env) (some (assign (.Name y py) X.env))) _ _ s
 refine wpAny_bind (wpAny_mono (wpAny_comprehension_free (use:=some (assign (.Name y py) X.env)) (Q:=fun _ s'=>SP X pins E .next s') rfl hs cs.clos cs.kind cs.names
  (thn (hi pins s σ H _ I h) fun x s1 h1=>thn h1 fun itv s2 h2=>?_)) (fun _ s' hq=>wpAny_pure (wpAny_pure hq)) fun _ _ e=>e)
 obtain⟨it,fp,tn,J,H2,e,I2,T,st2,f2,hQ⟩:=h2
 subst e
 refine Gh1 cs hcm hg ht he I2 T st2 f2 (Q:=fun x H1=>gName i x σ H1 E.nx) hQ (RR:=fun acc C=>compPost (model X.prog X.w) X.A X.xe (some (assign (.Name y py) X.env)) (fun _ s'=>SP X pins E .next s') acc C) fun D C s' H' q hn inv hfr hC=>?_
 obtain⟨m,hn⟩:=hn
 show wpAny _ X.A (assign (.Name y py) X.env (.ref D)) _ _ _
 refine wpAny_assign_Name (Ge1 inv hN hy hx (v:=.ref D) rfl (fun s'' I'' hch=>?_) hf)
 obtain⟨a,hsb,ha⟩:=hch
 have hCa:C≠a:=by
  rcases ha with ha | ha
  ·rintro rfl
   exact absurd (Nat.lt_of_lt_of_le I2.lt (by rw[<- ha]; exact hC)) (Nat.lt_irrefl _)
  ·rintro rfl
   obtain⟨v,z⟩:=I2.cell y _ ha
   exact absurd (Nat.lt_of_lt_of_le z.lt hC) (Nat.lt_irrefl _)
 exact⟨m,hn.sameBut hsb hCa,fun h' hs'=>⟨_,H',Gpk I2 I'' hfr hC hs',q⟩⟩
abbrev XN:XW:=fun _ _ _ _ _ _=>False
def cbody(a:Nat)(t:Ev Bool)(e:Ev D):Sv:=fun ρ S=>bindS (t ρ S) ρ fun b S1=>if b=true then bindS (e ρ S1) ρ fun d S2=>(match S2[a]? with
  | some c=>if c.fz=false/\c.xs.length<1000000 then .nx ρ (S2.set a ⟨false,c.xs++[d]⟩) else .bad
  | none=>.bad) else .nx ρ S1
def cmp(f:Ev Src)(pk:List (Option Nat))(g:Tg)(t:Ev Bool)(e:Ev D):Ev D:=fun ρ S=>(f ρ S).bind fun src S1=>match Ua src.nxt g (cbody S1.length t e) src.fuel 0 (pkS pk ρ) (S1++[⟨false,[]⟩]) with
 | .nx _ S'=>.ok (.lst S1.length) S'
 | _=>.bad
def Gcg(K:PySem.W.Frag)(XQ:XW)(σ:L2.St)(ρ:Lc)(a:Nat)(mp:List Addr)(H:Hp)(o:OS)(Q:VK):Prop:=match o with
 | .nx _ S=>Post K XQ σ ρ mp H (.ok (.lst a) S) Q
 | _=>False
theorem Gcg.aft{K:PySem.W.Frag}{XQ:XW}{σ:L2.St}{ρ:Lc}{a:Nat}{mp mp':List Addr}{H H':Hp}{o:OS}{Q:VK}(p:Gcg K XQ σ ρ a mp H o Q)(af:Aft K mp H mp' H'):Gcg K XQ σ ρ a mp' H' o Q:=by
 cases o with
 | nx r S=>exact Gs.aft (show Post K XQ σ ρ mp H (.ok (.lst a) S) Q from p) af
 | _=>exact p
theorem Gd.pick{K:PySem.W.Frag}{mp:List Addr}{H:Hp}{σ:L2.St}{ρ:Lc}{S:Sto}(G:Gd K mp H σ ρ S)(pk:List (Option Nat)):Gd K mp H (pkS pk σ) (pkS pk ρ) S:=by
 refine⟨G.rs,by simp[pkS],fun i d h=>?_⟩
 unfold pkS at h ⊢
 rw[List.getElem?_map] at h ⊢
 cases e:pk[i]? with
 | none=>rw[e] at h; cases h
 | some o=>
  rw[e] at h
  cases o with
  | none=>cases h
  | some j=>
   have h:(ρ[j]?).bind id=some d:=Option.some.inj h
   have h:ρ[j]?=some (some d):=by
    cases z:ρ[j]? with
    | none=>rw[z] at h; cases h
    | some q=>
     rw[z] at h
     have h:q=some d:=h
     rw[h]
   obtain⟨v,e1,r⟩:=G.loc j d h
   refine⟨v,?_,r⟩
   show some ((σ[j]?).bind id)=some (some v)
   rw[e1]
   rfl
def JTs(Y:Cx)(XQ:XW)(ifs:List Expr)(t:Ev Bool):Prop:=PTs Y ifs (rdT Y.K XQ t)
def ttrue:Ev Bool:=fun _ S=>.ok true S
theorem Gpl{Y:Cx}{XQ:XW}:JTs Y XQ [] ttrue:=fun pins s σ H Q I ⟨mp,ρ,S,G,p⟩=>Gpi pins s σ H Q I (Gs.ok (show Gs Y.K kB XQ σ ρ mp H (.ok true S) Q from p) G.rs rfl)
theorem Gpm{Y:Cx}{XQ:XW}{c:Expr}{t:Ev Bool}(h:JT Y XQ c t):JTs Y XQ [c] t:=Gpj h
theorem Gya{K:PySem.W.Frag}{XQ:XW}{f:Ev Src}{pk:List (Option Nat)}{g:Tg}{t:Ev Bool}{e:Ev D}(σ:L2.St)(H:Hp)(Q:VK)(h:rdE K XQ (cmp f pk g t e) σ H Q):Grz (rdI K XQ f) pk (Gpf K g) (rdT K XN t) (rdE K XN e) σ H Q:=by
 obtain⟨mp,ρ,S,G,p⟩:=h
 refine bindP G p fun mp1 H1 src S1 J a1 G1 j1 p1=>?_
 intro a ha
 obtain⟨af,rs,la⟩:=G1.rs.newL ha (RepL.nil:RepL K mp1 H1 [] [])
 have p1:Gcg K XQ σ ρ S1.length (mp1++[a]) (upd H1 a (.lst [])) (Ua src.nxt g (cbody S1.length t e) src.fuel 0 (pkS pk ρ) (S1++[⟨false,[]⟩])) Q:=by
  cases z:Ua src.nxt g (cbody S1.length t e) src.fuel 0 (pkS pk ρ) (S1++[⟨false,[]⟩]) with
  | nx r S'=>rw[z] at p1; exact Gs.aft p1 af
  | rt d S'=>rw[z] at p1; exact p1
  | bk r S'=>rw[z] at p1; exact p1
  | ct r S'=>rw[z] at p1; exact p1
  | exc x r S'=>rw[z] at p1; exact p1
  | bad=>rw[z] at p1; exact p1
 refine⟨fun i m σ' H'=>∃ mp' ρ' S',Aft K mp1 H1 mp' H'/\Gd K mp' H' σ' ρ' S'/\mp'[S1.length]?=some a/\Gcg K XQ σ ρ S1.length mp' H' (Ua src.nxt g (cbody S1.length t e) m i ρ' S') Q,⟨src.fuel,_,_,_,af,(G1.pick pk).aft af rs,la,p1⟩,?_⟩
 rintro i m σ' H' ⟨mp',ρ',S',a',G',la',p'⟩
 cases m with
 | zero=>exact(show False from p').elim
 | succ n=>
  have j:=j1 mp' H' S' a' G'.rs i
  unfold Ua at p'
  cases z:src.nxt i S' with
  | none=>
   rw[z] at j p'
   exact .inl ⟨j,Gs.ok (show Post K XQ σ ρ mp' H' (.ok (.lst S1.length) S') Q from p') G'.rs ⟨a,rfl,la'⟩⟩
  | some d=>
   rw[z] at j p'
   obtain⟨j1,j2⟩:=j
   refine .inr ⟨j1,fun x H2 y=>?_⟩
   obtain⟨a2,r2,x2⟩:=j2 x H2 y
   have G2:=G'.aft a2 r2
   cases zg:g d ρ' with
   | none=>simp only[zg] at p'; exact p'.elim
   | some ρ1=>
    simp only[zg] at p'
    refine⟨mp',ρ',S',d,ρ1,G2,x2,zg,fun σ3 G3=>⟨mp',ρ1,S',G3,?_⟩⟩
    have p2:=Gcg.aft p' a2
    unfold cbody at p2
    cases zt:t ρ1 S' with
    | exc x S2=>simp only[zt,bindS] at p2; exact p2.elim
    | bad=>simp only[zt,bindS] at p2; exact p2.elim
    | ok b S2=>
     simp only[zt,bindS] at p2
     intro mp3 H3 b' a3 rs3 e3
     cases (show b'=b from e3)
     have G4:=G3.aft a3 rs3
     cases b with
     | false=>
      simp only[Bool.false_eq_true,if_false] at p2
      exact(if_neg Bool.false_ne_true).mpr ⟨n,Nat.lt_succ_self n,mp3,ρ1,S2,(a'.trans a2).trans a3,G4,a3.pre _ _ la',Gcg.aft p2 a3⟩
     | true=>
      simp only[if_true] at p2
      refine(if_pos rfl).mpr ⟨mp3,ρ1,S2,G4,?_⟩
      cases ze:e ρ1 S2 with
      | exc x S3=>simp only[ze] at p2; exact p2.elim
      | bad=>simp only[ze] at p2; exact p2.elim
      | ok d2 S3=>
       simp only[ze] at p2
       intro mp4 H4 v a4 rs4 r4
       have la4:=a4.pre _ _ (a3.pre _ _ la')
       have G5:=G4.aft a4 rs4
       cases zc:S3[S1.length]? with
       | none=>simp only[zc] at p2; exact p2.elim
       | some c=>
        simp only[zc] at p2
        by_cases hc:c.fz=false/\c.xs.length<1000000
        ·rw[if_pos hc] at p2
         obtain⟨a5,xs,e5,h5,s5,r5,f5⟩:=rs4.items (v:=.ref a) ⟨a,rfl,la4⟩ zc
         cases e5
         have h5:=f5 hc.1
         obtain⟨af6,rs6⟩:=rs4.setL la4 zc hc.1 h5 (RepL.append r5 (RepL.cons r4 RepL.nil))
         refine⟨xs,h5,?_,n,Nat.lt_succ_self n,mp4,ρ1,_,(((a'.trans a2).trans a3).trans a4).trans af6,G5.aft af6 rs6,la4,Gcg.aft p2 ((a3.trans a4).trans af6)⟩
         rw[r5.len]
         exact Nat.lt_of_lt_of_le hc.2 (by decide)
        ·rw[if_neg hc] at p2; exact p2.elim
variable{XQ:XW}
theorem Gh4(i:Nat){y:Str}{py spos:Pos}{elt tg iter:Expr}{ifs:List Expr}{scope:Scope}{pos:Pos}{N':List Str}{pk:List (Option Nat)}{f:Ev Src}{g:Tg}{t:Ev Bool}{e:Ev D}(ct:CompTab X.env.scope scope X.N N' pk)(hcm:X.calm=true)(hi:JI X XQ tg iter f)
  (hg:∀ cl s2 H2 C fp,JG (blk X s2 H2 C scope cl N' fp) tg g) (ht:∀ cl s2 H2 C fp,JTs (blk X s2 H2 C scope cl N' fp) XN ifs t) (he:∀ cl s2 H2 C fp,JE (blk X s2 H2 C scope cl N' fp) XN elt e)
  (hN:X.N.Nodup) (hy:X.N[i]?=some y:=by rfl) (hx:Loc X.env.scope y:=by first | exact Or.inl rfl | exact Or.inr rfl) (hsw:swapsWith (.ListComp elt [⟨tg,iter,ifs,0⟩] scope pos) (some (.Name y py)) spos.line X.env=pure true:=by rfl)
  (hs:∀ x,foldedSetIterable iter X.env x=pure x:=by intro _; rfl) (hf:X.fn y=true\/X.env.scope.names.lookup y=some .local:=by first | exact .inl rfl | exact .inr rfl | assumption):
  JS X XQ (.Assign [.Name y py] (.ListComp elt [⟨tg,iter,ifs,0⟩] scope pos) spos) (sa (cmp f pk g t e) (gn i)):=by
 refine PS.mono (Gh3 (g:=Gpf X.K g) (tt:=rdT X.K XN t) (te:=rdE X.K XN e) ct hcm hi hg ht he hN hy hx hsw hs hf) fun E σ H ⟨mp,ρ,S,G,p⟩=>Gya σ H _ ?_
 exact bindSP G p fun mp1 H1 d S1 v a1 G1 r1 p1=>PostS.nx p1 (G1.set i r1)
end
theorem Gkg:fillsNumberSlot (.type "tuple") "mul"=pure false:=
 PySem.fillsNumberSlot_seq (id:="tuple.__mul__") (r:=some (.builtin "tuple.__rmul__")) F.slot_tuple_mul.lookup (by decide +kernel) F.slot_tuple_rmul.lookup (by decide +kernel)
theorem Gh5:seqRepeat? (.type "tuple")=pure (some (.builtin "tuple.__mul__")):=by
 unfold seqRepeat?
 rw[PySem.seqSlot_of (T:="tuple") (name:="__mul__") (id:="tuple.__mul__") F.slot_tuple_mul.lookup (by decide +kernel),PySem.seqSlot_of (T:="tuple") (name:="__rmul__") (id:="tuple.__rmul__") F.slot_tuple_rmul.lookup (by decide +kernel)]
 rfl
theorem Gur(x:Int)(t:Tok)(l:Addr)(xs:Array Value)(n:Nat)(d:Option Addr)(sl:Array (Option Value)):
  Meets (Builtin.«int.__rmul__» ⟨[.int x t,.ref l],[]⟩) (fun _ R s=>s.heap.get? l=some { cls:=.type "tuple",dict:=d,data:=.seq xs n,slots:=sl }/\R (.ok (.ret Value.notImplemented)) s):=
 .of_wp fun prog w A R s h=>by obtain⟨hp,g,d,tk,os⟩:=s; obtain⟨hl,h⟩:=h; wp_walk; exact⟨_,rfl,h⟩
theorem Gus(x:Int)(t:Tok)(l:Addr)(xs:Array Value)(n:Nat)(d:Option Addr)(sl:Array (Option Value))(c0:¬ (decide (x < -2^63)||decide (x≥2^63))=true)(c1:¬ (xs.isEmpty||x==1)=true)(c2:¬ (decide (x<=0)||xs.isEmpty)=true)(c3:¬ (xs.size:Int)*x>(2^63-1) / 8)(c4:¬ Builtin.Tuple.tupleTooMany ((xs.size:Int)*x)=true)(c5:(List.foldl (fun x1 x2=>x1++x2) #[] (List.replicate x.toNat xs)).size<=sizeLine):
  Meets (Builtin.«tuple.__mul__» ⟨[.ref l,.int x t],[]⟩) (fun _ R s=>s.heap.get? l=some { cls:=.type "tuple",dict:=d,data:=.seq xs n,slots:=sl }/\R (.ok (.ret (Value.ref s.heap.objs.size))) { s with heap:=s.heap.push { cls:=Value.type "tuple",data:=Data.seq (List.foldl (fun x1 x2=>x1++x2) #[] (List.replicate x.toNat xs)) },toks:=s.toks }):=
 .of_wp fun prog w A R s h=>by
  obtain⟨hp,g,d,tk,os⟩:=s; obtain⟨hl,h⟩:=h
  wp_walk
  refine wpAny_ite_false (decide_eq_false c0) ?_
  wp_walk using wpAny_loadPart' hl
  refine wpAny_ite_false (decide_eq_false c3) ?_
  wp_walk
  exact⟨_,rfl,h⟩
section
variable{X:Cx}
def Gr0(K:PySem.W.Frag):R2:=fun x y H Q=>∃ a k xs,x=.ref a/\y=.int k/\SqT K H a xs/\xs≠[]/\2<=k/\k<=1000000/\xs.length*k.toNat<=sizeLine/\∀ p,H p=none->Q (.ref p) (upd H p (.tup (List.replicate k.toNat xs).flatten))
theorem Gpn:OpR X (binaryOp .Mult) (Gr0 X.K):=by
 intro pins s σ H x y v u Q I rx ry ⟨a,k,xs,e1,e2,ha,hne,k2,k3,hz,q⟩
 subst e1 e2
 cases rx
 obtain⟨t,rfl⟩:=ry
 obtain⟨its,r1,p1,_⟩:=I.tuple ha
 obtain⟨⟨cls,dd,data,sl⟩,ho,hc,n,hd⟩:=id p1
 simp only at hc hd
 subst hc hd
 have hl:xs.length=its.length:=r1.length
 have hne':its≠[]:=fun z=>hne (r1.nil_iff.mp z)
 have hie:its.toArray.isEmpty=false:=by
  cases its with
  | nil=>exact absurd rfl hne'
  | cons _ _=>rfl
 have hnew:List.foldl (fun x1 x2=>x1++x2) #[] (List.replicate k.toNat its.toArray)=(List.replicate k.toNat its).flatten.toArray:=by
  have:=Gbw its k.toNat []
  rw[List.nil_append] at this
  exact this
 have hsz:(its.toArray.size:Int)*k<=(sizeLine:Int):=by
  rw[List.size_toArray,<- hl]
  have h1:((xs.length*k.toNat:Nat):Int)<=(sizeLine:Int):=by exact_mod_cast hz
  rw[Int.natCast_mul,Int.toNat_of_nonneg (by omega)] at h1
  exact h1
 have hsl:(sizeLine:Int)<=(2^63-1) / 8:=by decide
 refine wpAny_binaryOp_repeat_ref (T:="tuple") (U:="int") (by decide) ⟨_,ho,rfl⟩ (fun s'=>typeIs_int s' k t) Gkg F.fills_int_mul F.slot_int_rmul Gh5 F.slot_int_index.lookup
  (call_meets F.slot_int_rmul (typeIs_int s k t) F.entry_int_rmul (F.args_int_rmul_2 _ _) (Gur k t a its.toArray n dd sl)
   ⟨ho,rfl,⟨_,ho,rfl⟩,call_meets F.slot_tuple_mul ⟨_,ho,rfl⟩ F.entry_tuple_mul (F.args_tuple_mul_2 _ _) (Gus k t a its.toArray n dd sl ?c0 ?c1 ?c2 ?c3 ?c4 ?c5) ⟨ho,?_⟩⟩)
 case c0=>simp; omega
 case c1=>rw[hie]; simp; omega
 case c2=>rw[hie]; simp; omega
 case c3=>omega
 case c4=>unfold Builtin.Tuple.tupleTooMany; simp; omega
 case c5=>rw[hnew,List.size_toArray,Gfp,<- hl,Nat.mul_comm]; exact hz
 rw[hnew]
 refine⟨.ref s.heap.objs.size,_,I.laid (t':=s.toks) (o:=.tup (List.replicate k.toNat xs).flatten) (fun b ob q=>Heap.get?_push_of_some _ q) (Nat.le_refl _) ?_,rfl,q _ (I.hok.fresh (Nat.le_refl _))⟩
 exact⟨by rw[Gfp,Nat.mul_comm]; exact hz,_,r1.rep k.toNat,IsTup.new _ _⟩
end
def Jy{α β:Type}(f:α->Option β):List α->Option (List β)
 | []=>some []
 | x::l=>match f x,Jy f l with
  | some y,some ys=>some (y::ys)
  | _,_=>none
def toP(S:Sto):Nat->D->Option PyData
 | 0,_=>none
 | n+1,d=>match d with
  | .non=>some .none
  | .bl b=>some (.bool b)
  | .int i=>some (.int i)
  | .str x=>some (.str x)
  | .tup l=>(Jy (toP S n) l).map .tuple
  | .lst i=>match S[i]? with
   | some c=>(Jy (toP S n) c.xs).map .list
   | none=>none
  | .exn _ _=>none
  | .fv _=>none
section
variable{X:Cx}{pins:List (Addr×Obj)}{σ:L2.St}{H:Hp}{s:Shared}{mp:List Addr}{S:Sto}
theorem Gfu{f:D->Option PyData}{K:PySem.W.Frag}(hf:∀ (d:D) (v:V) (u:Value) (p:PyData),Rep K mp H d v->Hq v u->f d=some p->∃ as,Reads s.heap u p as):∀ (l:List D) (vs:List V) (us:List Value) (ps:List PyData),RepL K mp H l vs->Vals vs us->Jy f l=some ps->∃ as,ReadsAll s.heap us ps as
 | [],vs,us,ps,h,r,e=>by
  cases (show vs=[] from h); cases r
  cases (Option.some.inj e)
  exact⟨_,.nil⟩
 | d::l,vs,us,ps,h,r,e=>by
  obtain⟨v,vr,rfl,h1,h2⟩:=(show ∃ v r,vs=v::r/\Rep K mp H d v/\RepL K mp H l r from h)
  cases r with
  | cons r1 r2=>
   cases z1:f d with
   | none=>simp only[Jy,z1] at e; cases e
   | some p=>
    cases z2:Jy f l with
    | none=>simp only[Jy,z1,z2] at e; cases e
    | some qs=>
     simp only[Jy,z1,z2] at e
     cases (Option.some.inj e)
     obtain⟨as,ra⟩:=hf d v _ p h1 r1 z1
     obtain⟨bs,rb⟩:=Gfu hf l vr _ qs h2 r2 z2
     exact⟨_,.cons ra rb⟩
theorem Gdg(I:Inv X pins σ H s)(rs:RS X.K mp H S):∀ (n:Nat) (d:D) (v:V) (u:Value) (p:PyData),Rep X.K mp H d v->Hq v u->toP S n d=some p->∃ as,Reads s.heap u p as:=by
 intro n
 induction n with
 | zero=>intro d v u p h r e; cases e
 | succ n ih=>
  intro d v u p h r e
  cases d with
  | non=>
   cases (show v=.non from h); cases (show u=Value.none from r)
   cases (Option.some.inj e)
   exact⟨_,.none⟩
  | bl b=>
   cases (show v=.bl b from h); cases (show u=Value.bool b from r)
   cases (Option.some.inj e)
   exact⟨_,.bool b⟩
  | int i=>
   cases (show v=.int i from h); obtain⟨t,rfl⟩:=(show ∃ t,u=Value.int i t from r)
   cases (Option.some.inj e)
   exact⟨_,.int i t⟩
  | str x=>
   cases (show v=.str x from h); obtain⟨t,rfl⟩:=(show ∃ t,u=Value.str x t from r)
   cases (Option.some.inj e)
   exact⟨_,.str x t⟩
  | tup l=>
   obtain⟨a,xs,rfl,sq,q⟩:=Rep.tup h
   cases (show u=Value.ref a from r)
   obtain⟨its,rv,⟨o,ho,hc,k,hd⟩,_⟩:=I.tuple sq
   have e:(Jy (toP S n) l).map PyData.tuple=some p:=e
   cases z:Jy (toP S n) l with
   | none=>rw[z] at e; cases e
   | some ps=>
    rw[z] at e
    cases (Option.some.inj e)
    obtain⟨as,ra⟩:=Gfu ih l xs its ps q rv z
    exact⟨as,.tuple ho hc hd (by simpa using ra)⟩
  | lst i=>
   have e:(match S[i]? with | some c=>(Jy (toP S n) c.xs).map PyData.list | none=>none)=some p:=e
   cases zc:S[i]? with
   | none=>rw[zc] at e; cases e
   | some c=>
    rw[zc] at e
    obtain⟨a,xs,rfl,_,sq,q,_⟩:=rs.items h zc
    cases (show u=Value.ref a from r)
    obtain⟨its,rv,⟨o,k,ho,hc,_,hd⟩,_⟩:=I.list sq
    have e:(Jy (toP S n) c.xs).map PyData.list=some p:=e
    cases z:Jy (toP S n) c.xs with
    | none=>rw[z] at e; cases e
    | some ps=>
     rw[z] at e
     cases (Option.some.inj e)
     obtain⟨as,ra⟩:=Gfu ih c.xs xs its ps q rv z
     exact⟨_,.list ho hc hd (by simpa using ra)⟩
  | exn c n=>cases (show(none:Option PyData)=some p from e)
  | fv c=>cases (show(none:Option PyData)=some p from e)
end
def eqD(x y:D)(S:Sto):Out D:=match toP S 40 x,toP S 40 y with
 | some p,some q=>if(SeqAt.shaped p&&SeqAt.shaped q)=true then .ok (.bl (PyData.eqv p q)) S else .bad
 | _,_=>.bad
def neD(x y:D)(S:Sto):Out D:=match toP S 40 x,toP S 40 y with
 | some p,some q=>if(SeqAt.shaped p&&SeqAt.shaped q)=true then .ok (.bl (!PyData.eqv p q)) S else .bad
 | _,_=>.bad
section
variable{X:Cx}{XQ:XW}
def OpX(X:Cx)(f:Value->Value->Sem Value)(o:D->D->Sto->Out D):Prop:=
 ∀ (pins:List (Addr×Obj)) (s:Shared) (σ:L2.St) (ρ:Lc) (XQ:XW) (mp:List Addr) (H:Hp) (S:Sto) (x y:D) (v u:V) (vv uv:Value) (Q:VK),Inv X pins σ H s->RS X.K mp H S->Rep X.K mp H x v->Rep X.K mp H y u->Hq v vv->Hq u uv->Post X.K XQ σ ρ mp H (o x y S) Q→
  (∀ (e:XD) (S':Sto),o x y S≠.exc e S')->wpAny (model X.prog X.w) X.A (f vv uv) (EP X pins σ Q) X.xe s
theorem Glt{a b:Expr}{op:CmpOp}{fa fb:Ev D}{o:D->D->Sto->Out D}{pos:Pos}(ho:OpX X (compareOp op) o)(hno:∀ x y S e S',o x y S≠.exc e S')(ha:JE X XQ a fa)(hb:JE X XQ b fb)(hm:behindInMarks op b=false):JE X XQ (.Compare a [op] [b] pos) (o2 o fa fb):=by
 intro pins s σ H Q I ⟨mp,ρ,S,G,p⟩
 refine wpAny_Compare1 (thn (ha pins s σ H _ I (bindP G p fun mp1 H1 x S1 v a1 G1 r1 p1=>(⟨mp1,ρ,S1,x,G1,r1,p1⟩:∃ mp1 ρ S1 x,Gd X.K mp1 H1 σ ρ S1/\Rep X.K mp1 H1 x v/\Post X.K XQ σ ρ mp1 H1 ((fb ρ S1).bind fun y S2=>o x y S2) Q))) fun vv s1 ⟨v,H1,I1,rv,mp1,ρ1,S1,x,G1,r1,p1⟩=>?_) hm
 refine thn (hb pins s1 σ H1 _ I1 (bindP G1 p1 fun mp2 H2 y S2 u a2 G2 r2 p2=>(⟨mp2,ρ1,S2,x,y,v,G2,Rep.aft a2 _ _ r1,r2,rfl,p2⟩:∃ mp2 ρ S2 x y v',Gd X.K mp2 H2 σ ρ S2/\Rep X.K mp2 H2 x v'/\Rep X.K mp2 H2 y u/\v'=v/\Post X.K XQ σ ρ mp2 H2 (o x y S2) Q))) fun uv s2 ⟨u,H2,I2,ru,mp2,ρ2,S2,x2,y,v',G2,rx,ry,ev,p2⟩=>?_
 subst ev
 exact ho pins s2 σ ρ2 XQ mp2 H2 S2 x2 y _ u vv uv Q I2 G2.rs rx ry rv ru p2 (hno _ _ _)
theorem Glu{a b:Expr}{op:CmpOp}{fa fb:Ev D}{o:D->D->Sto->Out D}{pos:Pos}(ho:OpX X (compareOp op) o)(hno:∀ x y S e S',o x y S≠.exc e S')(ha:JE X XQ a fa)(hb:JE X XQ b fb)(hm:behindInMarks op b=false):JT X XQ (.Compare a [op] [b] pos) (tb (o2 o fa fb)):=by
 intro pins s σ H Q I h
 obtain⟨mp,ρ,S,G,p⟩:=Glo h
 refine wpAny_isTrue_Compare1 (thn (ha pins s σ H _ I (bindP G p fun mp1 H1 x S1 v a1 G1 r1 p1=>(⟨mp1,ρ,S1,x,G1,r1,p1⟩:∃ mp1 ρ S1 x,Gd X.K mp1 H1 σ ρ S1/\Rep X.K mp1 H1 x v/\Post X.K XQ σ ρ mp1 H1 ((fb ρ S1).bind fun y S2=>o x y S2) (fun x H1=>∃ k,x=.bl k/\Q k H1)))) fun vv s1 ⟨v,H1,I1,rv,mp1,ρ1,S1,x,G1,r1,p1⟩=>?_) hm
 refine thn (hb pins s1 σ H1 _ I1 (bindP G1 p1 fun mp2 H2 y S2 u a2 G2 r2 p2=>(⟨mp2,ρ1,S2,x,y,v,G2,Rep.aft a2 _ _ r1,r2,rfl,p2⟩:∃ mp2 ρ S2 x y v',Gd X.K mp2 H2 σ ρ S2/\Rep X.K mp2 H2 x v'/\Rep X.K mp2 H2 y u/\v'=v/\Post X.K XQ σ ρ mp2 H2 (o x y S2) (fun x H1=>∃ k,x=.bl k/\Q k H1)))) fun uv s2 ⟨u,H2,I2,ru,mp2,ρ2,S2,x2,y,v',G2,rx,ry,ev,p2⟩=>?_
 subst ev
 refine thn (ho pins s2 σ ρ2 XQ mp2 H2 S2 x2 y _ u vv uv _ I2 G2.rs rx ry rv ru p2 (hno _ _ _)) fun c s3 ⟨z,H3,I3,r3,k,e,q3⟩=>?_
 subst e
 cases r3
 exact wpAny_truthy_bool ⟨H3,I3,q3⟩
theorem Gr1(hu:X.A.units+64<cLine):OpX X (compareOp .Eq) eqD:=by
 intro pins s σ ρ XQ mp H S x y v u vv uv Q I rs rx ry rv ru p _
 unfold eqD at p
 cases z1:toP S 40 x with
 | none=>simp only[z1] at p; exact p.elim
 | some a=>
  cases z2:toP S 40 y with
  | none=>simp only[z1,z2] at p; exact p.elim
  | some b=>
   simp only[z1,z2] at p
   by_cases hs:(SeqAt.shaped a&&SeqAt.shaped b)=true
   ·rw[if_pos hs] at p
    obtain⟨as,ra⟩:=Gdg I rs 40 x v vv a rx rv z1
    obtain⟨bs,rb⟩:=Gdg I rs 40 y u uv b ry ru z2
    rw[Bool.and_eq_true] at hs
    exact SeqAt.compareEq_shaped ra rb hs.1 hs.2 hu ⟨.bl _,H,I,rfl,Gs.ok (R:=Rep X.K) p rs rfl⟩
   ·rw[if_neg hs] at p; exact p.elim
theorem Gr2(hu:X.A.units+64<cLine):OpX X (compareOp .NotEq) neD:=by
 intro pins s σ ρ XQ mp H S x y v u vv uv Q I rs rx ry rv ru p _
 unfold neD at p
 cases z1:toP S 40 x with
 | none=>simp only[z1] at p; exact p.elim
 | some a=>
  cases z2:toP S 40 y with
  | none=>simp only[z1,z2] at p; exact p.elim
  | some b=>
   simp only[z1,z2] at p
   by_cases hs:(SeqAt.shaped a&&SeqAt.shaped b)=true
   ·rw[if_pos hs] at p
    obtain⟨as,ra⟩:=Gdg I rs 40 x v vv a rx rv z1
    obtain⟨bs,rb⟩:=Gdg I rs 40 y u uv b ry ru z2
    rw[Bool.and_eq_true] at hs
    exact SeqAt.compareNe_shaped ra rb hs.1 hs.2 hu ⟨.bl _,H,I,rfl,Gs.ok (R:=Rep X.K) p rs rfl⟩
   ·rw[if_neg hs] at p; exact p.elim
theorem Gr3(x y:D)(S:Sto)(e:XD)(S':Sto):eqD x y S≠.exc e S':=by
 unfold eqD
 split
 ·split<;>exact fun z=>nomatch z
 ·exact fun z=>nomatch z
theorem Gr4(x y:D)(S:Sto)(e:XD)(S':Sto):neD x y S≠.exc e S':=by
 unfold neD
 split
 ·split<;>exact fun z=>nomatch z
 ·exact fun z=>nomatch z
theorem Gyb{a b:Expr}{fa fb:Ev D}{pos:Pos}(hu:X.A.units+64<cLine)(ha:JE X XQ a fa)(hb:JE X XQ b fb):JE X XQ (.Compare a [.Eq] [b] pos) (o2 eqD fa fb):=Glt (Gr1 hu) Gr3 ha hb (nomark _)
theorem Gyc{a b:Expr}{fa fb:Ev D}{pos:Pos}(hu:X.A.units+64<cLine)(ha:JE X XQ a fa)(hb:JE X XQ b fb):JT X XQ (.Compare a [.Eq] [b] pos) (tb (o2 eqD fa fb)):=Glu (Gr1 hu) Gr3 ha hb (nomark _)
theorem Gyd{a b:Expr}{fa fb:Ev D}{pos:Pos}(hu:X.A.units+64<cLine)(ha:JE X XQ a fa)(hb:JE X XQ b fb):JE X XQ (.Compare a [.NotEq] [b] pos) (o2 neD fa fb):=Glt (Gr2 hu) Gr4 ha hb (nomark _)
theorem Gye{a b:Expr}{fa fb:Ev D}{pos:Pos}(hu:X.A.units+64<cLine)(ha:JE X XQ a fa)(hb:JE X XQ b fb):JT X XQ (.Compare a [.NotEq] [b] pos) (tb (o2 neD fa fb)):=Glu (Gr2 hu) Gr4 ha hb (nomark _)
def i2(C:Int->Int->Bool)(g:Int->Int->D):D->D->Sto->Out D:=fun x y S=>match x,y with
 | .int i,.int j=>if C i j=true then .ok (g i j) S else .bad
 | _,_=>.bad
theorem Gfv{K:PySem.W.Frag}{C:Int->Int->Prop}{c:Int->Int->Bool}{g:Int->Int->V}{gd:Int->Int->D}(hc:∀ i j,c i j=true->C i j)(hg:∀ mp H i j,Rep K mp H (gd i j) (g i j)):OpD K (rI C g) (i2 c gd):=by
 intro XQ σ ρ mp H S x y v u Q rs rx ry p
 cases x with
 | int i=>
  cases y with
  | int j=>
   have p:Post K XQ σ ρ mp H (if c i j=true then .ok (gd i j) S else .bad) Q:=p
   by_cases h:c i j=true
   ·rw[if_pos h] at p
    exact⟨i,j,rx,ry,hc i j h,Gs.ok (R:=Rep K) p rs (hg mp H i j)⟩
   ·rw[if_neg h] at p; exact p.elim
  | _=>exact(show False from p).elim
 | _=>exact(show False from p).elim
theorem od_int0{K:PySem.W.Frag}{g:Int->Int->V}{gd:Int->Int->D}(hg:∀ mp H i j,Rep K mp H (gd i j) (g i j)):OpD K (rI0 g) (i2 (fun _ _=>true) gd):=by
 intro XQ σ ρ mp H S x y v u Q rs rx ry p
 obtain⟨i,j,h1,h2,_,h3⟩:=Gfv (C:=fun _ _=>True) (c:=fun _ _=>true) (fun _ _ _=>trivial) hg XQ σ ρ mp H S x y v u Q rs rx ry p
 exact⟨i,j,h1,h2,h3⟩
abbrev Xc:=i2 (fun _ _=>true) fun i j=>.int (i-j)
abbrev Yj:=i2 (fun _ j=>decide (0<j)) fun i j=>.int (i%j)
abbrev Gfw:=i2 (fun i j=>decide (0<=j/\j<=1000000/\i.natAbs<2^64)) fun i j=>.int (i^j.toNat)
abbrev ltD:=i2 (fun _ _=>true) fun i j=>.bl (decide (i<j))
abbrev leD:=i2 (fun _ _=>true) fun i j=>.bl (decide (i<=j))
abbrev gtD:=i2 (fun _ _=>true) fun i j=>.bl (decide (j<i))
abbrev geD:=i2 (fun _ _=>true) fun i j=>.bl (decide (j<=i))
section
variable{a b:Expr}{fa fb:Ev D}{pos:Pos}
theorem Gut(ha:JE X XQ a fa)(hb:JE X XQ b fb):JE X XQ (.BinOp a .Sub b pos) (o2 Xc fa fb):=Ge9 Gth (od_int0 fun _ _ _ _=>rfl) ha hb
theorem Guu(ha:JE X XQ a fa)(hb:JE X XQ b fb):JE X XQ (.BinOp a .Mod b pos) (o2 Yj fa fb):=Ge9 Gtj (Gfv (fun _ _ h=>of_decide_eq_true h) fun _ _ _ _=>rfl) ha hb
theorem Guv(ha:JE X XQ a fa)(hb:JE X XQ b fb):JE X XQ (.BinOp a .Pow b pos) (o2 Gfw fa fb):=Ge9 Gtk (Gfv (fun i j h=>(of_decide_eq_true h:0<=j/\j<=1000000/\i.natAbs<2^64)) fun _ _ _ _=>rfl) ha hb
theorem Gyf(ha:JE X XQ a fa)(hb:JE X XQ b fb):JE X XQ (.Compare a [.Lt] [b] pos) (o2 ltD fa fb):=Gfr Gix (od_int0 fun _ _ _ _=>rfl) ha hb (nomark _)
theorem Gyg(ha:JE X XQ a fa)(hb:JE X XQ b fb):JE X XQ (.Compare a [.LtE] [b] pos) (o2 leD fa fb):=Gfr Glb (od_int0 fun _ _ _ _=>rfl) ha hb (nomark _)
theorem Gyh(ha:JE X XQ a fa)(hb:JE X XQ b fb):JE X XQ (.Compare a [.GtE] [b] pos) (o2 geD fa fb):=Gfr Grs (od_int0 fun _ _ _ _=>rfl) ha hb (nomark _)
theorem Gyi(ha:JE X XQ a fa)(hb:JE X XQ b fb):JT X XQ (.Compare a [.Lt] [b] pos) (tb (o2 ltD fa fb)):=Gdf Gix (od_int0 fun _ _ _ _=>rfl) ha hb (nomark _)
theorem Gyj(ha:JE X XQ a fa)(hb:JE X XQ b fb):JT X XQ (.Compare a [.Gt] [b] pos) (tb (o2 gtD fa fb)):=Gdf Gxr (od_int0 fun _ _ _ _=>rfl) ha hb (nomark _)
theorem Gyk(ha:JE X XQ a fa)(hb:JE X XQ b fb):JT X XQ (.Compare a [.GtE] [b] pos) (tb (o2 geD fa fb)):=Gdf Grs (od_int0 fun _ _ _ _=>rfl) ha hb (nomark _)
end
def Gw(x y:D)(S:Sto):Out D:=match x,y with
 | .int i,.int j=>.ok (.int (i+j)) S
 | .str a,.str b=>if a.length+b.length<=1000000 then .ok (.str (a++b)) S else .bad
 | .lst i,.lst j=>match S[i]?,S[j]? with
  | some c,some e=>if(c.fz=false/\e.fz=false)/\c.xs.length+e.xs.length<=1000000 then .ok (.lst S.length) (S++[⟨false,c.xs++e.xs⟩]) else .bad
  | _,_=>.bad
 | .tup a,.tup b=>if a.length+b.length<=1000000 then .ok (.tup (a++b)) S else .bad
 | _,_=>.bad
def Gr5(K:PySem.W.Frag):R2:=fun x y H Q=>∃ a b ys,x=.ref a/\y=.ref b/\SqT K H a []/\SqT K H b ys/\Q (.ref b) H
theorem Gpo:OpR X (binaryOp .Add) (Gr5 X.K):=by
 intro pins s σ H x y v u Q I rx ry ⟨a,b,ys,e1,e2,ha,hb,q⟩
 subst e1 e2
 cases rx; cases ry
 obtain⟨its,r1,p1,_⟩:=I.tuple ha
 obtain⟨its2,r2,p2,_⟩:=I.tuple hb
 have ei:=r1.nil_iff.mpr rfl
 subst ei
 obtain⟨⟨cls,dd,data,sl⟩,ho,hc,n,hd⟩:=id p1
 obtain⟨⟨cls2,dd2,data2,sl2⟩,ho2,hc2,n2,hd2⟩:=id p2
 simp only at hc hd hc2 hd2
 subst hc hd hc2 hd2
 exact concat_meets ⟨_,ho,rfl⟩ ⟨_,ho2,rfl⟩ noFill_tuple_add seq_tuple_add PySem.F.slot_tuple_add PySem.F.entry_tuple_add (PySem.F.args_tuple_add_2 _ _)
  (tuple_addW0 a b [].toArray its2.toArray n n2 dd dd2 sl sl2 (by rfl)) ⟨ho,ho2,⟨.ref b,H,I,rfl,q⟩⟩
def Gr6(K:PySem.W.Frag):R2:=fun x y H Q=>rI0 (fun i j=>.int (i+j)) x y H Q\/(∃ i j,x=.str i/\y=.str j/\i.length+j.length<=sizeLine/\Q (.str (i++j)) H)\/Gx1 x y H Q\/Grv K x y H Q\/Gr5 K x y H Q
theorem Gpp:OpR X (binaryOp .Add) (Gr6 X.K):=Gtg.or (Ghx.or (Gt0.or (Go3.or Gpo)))
theorem Guw{K:PySem.W.Frag}:OpD K (Gr6 K) Gw:=by
 intro XQ σ ρ mp H S x y v u Q rs rx ry p
 unfold Gw at p
 split at p
 ·exact .inl ⟨_,_,rx,ry,Gs.ok (R:=Rep K) p rs rfl⟩
 ·rename_i a b
  by_cases h:a.length+b.length<=1000000
  ·rw[if_pos h] at p
   exact .inr (.inl ⟨_,_,rx,ry,line_le h,Gs.ok (R:=Rep K) p rs rfl⟩)
  ·rw[if_neg h] at p; exact p.elim
 ·rename_i i j
  split at p
  ·rename_i c e zc ze
   by_cases h:(c.fz=false/\e.fz=false)/\c.xs.length+e.xs.length<=1000000
   ·rw[if_pos h] at p
    obtain⟨a1,xs,rfl,_,_,q1,f1⟩:=rs.items rx zc
    obtain⟨a2,ys,rfl,_,_,q2,f2⟩:=rs.items ry ze
    refine .inr (.inr (.inl ⟨a1,a2,xs,ys,rfl,rfl,f1 h.1.1,f2 h.1.2,by rw[q1.len,q2.len]; exact line_le h.2,fun q hq=>Ya p rs (q1.append q2) hq⟩))
   ·rw[if_neg h] at p; exact p.elim
  ·exact p.elim
 ·rename_i a b
  by_cases h:a.length+b.length<=1000000
  ·rw[if_pos h] at p
   obtain⟨a1,xs,rfl,s1,q1⟩:=Rep.tup rx
   obtain⟨a2,ys,rfl,s2,q2⟩:=Rep.tup ry
   have l1:=q1.len
   have l2:=q2.len
   by_cases he:xs=[]
   ·subst he
    have ea:a=[]:=by cases a with | nil=>rfl | cons _ _=>simp at l1
    subst ea
    exact .inr (.inr (.inr (.inr ⟨a1,a2,ys,rfl,rfl,s1,s2,Gs.ok (R:=Rep K) p rs ry⟩)))
   ·refine .inr (.inr (.inr (.inl ⟨a1,a2,xs,ys,rfl,rfl,s1,s2,he,by rw[l1,l2]; exact line_le h,fun z=>?_,fun _ q hq=>Zn p rs (q1.append q2) hq⟩)))
    subst z
    have eb:b=[]:=by cases b with | nil=>rfl | cons _ _=>simp at l2
    subst eb
    rw[List.append_nil] at p
    exact Gs.ok (R:=Rep K) p rs rx
  ·rw[if_neg h] at p; exact p.elim
 ·exact p.elim
theorem Gux{a b:Expr}{fa fb:Ev D}{pos:Pos}(ha:JE X XQ a fa)(hb:JE X XQ b fb):JE X XQ (.BinOp a .Add b pos) (o2 Gw fa fb):=Ge9 Gpp Guw ha hb
def Kj(x y:D)(S:Sto):Out D:=match x,y with
 | .int i,.int j=>if(-(2^64)<i/\i<2^64)\/(-(2^64)<j/\j<2^64) then .ok (.int (i*j)) S else .bad
 | .lst i,.int k=>match S[i]? with
  | some c=>if c.fz=false/\(-1000000<=k/\k<=1000000)/\c.xs.length*k.toNat<=1000000 then .ok (.lst S.length) (S++[⟨false,(List.replicate k.toNat c.xs).flatten⟩]) else .bad
  | none=>.bad
 | .tup l,.int k=>if 0<l.length/\(2<=k/\k<=1000000)/\l.length*k.toNat<=1000000 then .ok (.tup (List.replicate k.toNat l).flatten) S else .bad
 | _,_=>.bad
def Gr7(K:PySem.W.Frag):R2:=fun x y H Q=>rI CMul (fun i j=>.int (i*j)) x y H Q\/Gx2 x y H Q\/Gr0 K x y H Q
theorem Gpq:OpR X (binaryOp .Mult) (Gr7 X.K):=Gti.or (Gt1.or Gpn)
theorem RepL.flat{K:PySem.W.Frag}{mp:List Addr}{H:Hp}{l:List D}{vs:List V}(h:RepL K mp H l vs):∀ k:Nat,RepL K mp H (List.replicate k l).flatten (List.replicate k vs).flatten
 | 0=>RepL.nil
 | k+1=>by
  rw[List.replicate_succ,List.replicate_succ,List.flatten_cons,List.flatten_cons]
  exact RepL.append h (RepL.flat h k)
theorem Guy{K:PySem.W.Frag}:OpD K (Gr7 K) Kj:=by
 intro XQ σ ρ mp H S x y v u Q rs rx ry p
 unfold Kj at p
 split at p
 ·rename_i i j
  by_cases h:(-(2^64)<i/\i<2^64)\/(-(2^64)<j/\j<2^64)
  ·rw[if_pos h] at p
   exact .inl ⟨_,_,rx,ry,h,Gs.ok (R:=Rep K) p rs rfl⟩
  ·rw[if_neg h] at p; exact p.elim
 ·rename_i i k
  split at p
  ·rename_i c zc
   by_cases h:c.fz=false/\(-1000000<=k/\k<=1000000)/\c.xs.length*k.toNat<=1000000
   ·rw[if_pos h] at p
    obtain⟨a1,xs,rfl,_,_,q1,f1⟩:=rs.items rx zc
    exact .inr (.inl ⟨a1,k,xs,rfl,ry,f1 h.1,by omega,by omega,by rw[q1.len]; exact line_le h.2.2,fun q hq=>Ya p rs (q1.flat _) hq⟩)
   ·rw[if_neg h] at p; exact p.elim
  ·exact p.elim
 ·rename_i l k
  by_cases h:0<l.length/\(2<=k/\k<=1000000)/\l.length*k.toNat<=1000000
  ·rw[if_pos h] at p
   obtain⟨a1,xs,rfl,s1,q1⟩:=Rep.tup rx
   have hl:=q1.len
   exact .inr (.inr ⟨a1,k,xs,rfl,ry,s1,fun z=>by rw[z] at hl; simp at hl; omega,h.2.1.1,h.2.1.2,by rw[q1.len]; exact line_le h.2.2,fun q hq=>Zn p rs (q1.flat _) hq⟩)
  ·rw[if_neg h] at p; exact p.elim
 ·exact p.elim
theorem Guz{a b:Expr}{fa fb:Ev D}{pos:Pos}(ha:JE X XQ a fa)(hb:JE X XQ b fb):JE X XQ (.BinOp a .Mult b pos) (o2 Kj fa fb):=Ge9 Gpq Guy ha hb
def Ga2(x:D)(S:Sto):Out D:=match x with
 | .int i=>.ok (.int (-i)) S
 | _=>.bad
def getD(x y:D)(S:Sto):Out D:=match x,y with
 | .tup l,.int i=>match atI l i with
  | some d=>.ok d S
  | none=>.bad
 | .lst k,.int i=>match S[k]? with
  | some c=>match atI c.xs i with
   | some d=>.ok d S
   | none=>.bad
  | none=>.bad
 | .str z,.int i=>if z.length<=1000000 then(match atI z.cps.toList i with
  | some c=>.ok (.str ⟨#[c]⟩) S
  | none=>.bad) else .bad
 | _,_=>.bad
theorem RepL.atI{K:PySem.W.Frag}{mp:List Addr}{H:Hp}{l:List D}{vs:List V}{i:Int}{d:D}(h:RepL K mp H l vs)(e:L2.atI l i=some d):∃ v,L2.atI vs i=some v/\Rep K mp H d v:=by
 unfold L2.atI at e ⊢
 rw[h.len]
 cases z:ixN l.length i with
 | none=>rw[z] at e; cases e
 | some j=>
  rw[z] at e
  exact h.get e
theorem Gu0{K:PySem.W.Frag}:OpD K (rIx K) getD:=by
 intro XQ σ ρ mp H S x y v u Q rs rx ry p
 unfold getD at p
 split at p
 ·rename_i l i
  split at p
  ·rename_i d zd
   obtain⟨a,xs,rfl,sq,q⟩:=Rep.tup rx
   obtain⟨w,hw,rw'⟩:=q.atI zd
   exact .inr (.inl ⟨a,xs,i,w,rfl,ry,sq,hw,Gs.ok (R:=Rep K) p rs rw'⟩)
  ·exact p.elim
 ·rename_i k i
  split at p
  ·rename_i c zc
   split at p
   ·rename_i d zd
    obtain⟨a,xs,rfl,_,sq,q,_⟩:=rs.items rx zc
    obtain⟨w,hw,rw'⟩:=q.atI zd
    exact .inl ⟨a,xs,i,w,rfl,ry,sq,hw,Gs.ok (R:=Rep K) p rs rw'⟩
   ·exact p.elim
  ·exact p.elim
 ·rename_i z i
  by_cases h:z.length<=1000000
  ·rw[if_pos h] at p
   split at p
   ·rename_i c zc
    exact .inr (.inr ⟨z,i,c,rx,ry,line_le h,zc,Gs.ok (R:=Rep K) p rs rfl⟩)
   ·exact p.elim
  ·rw[if_neg h] at p; exact p.elim
 ·exact p.elim
theorem Gu1{a b:Expr}{fa fb:Ev D}{pos:Pos}(ha:JE X XQ a fa)(hb:JE X XQ b fb)(hs:Gcx b:=by intro _ _; rfl):JE X XQ (.Subscript a b pos) (o2 getD fa fb):=Gx5 Gtx Gu0 ha hb hs
def Ub(x y z:D)(S:Sto):Option Sto:=match x,y with
 | .lst k,.int i=>match S[k]? with
  | some c=>match ixN c.xs.length i with
   | some j=>if c.fz=false then some (S.set k ⟨false,c.xs.set j z⟩) else none
   | none=>none
  | none=>none
 | _,_=>none
theorem Gu2{K:PySem.W.Frag}:Gx9 Grw K Ub:=by
 intro mp H S S' x y z v u w Q rs rx ry rz e k
 unfold Ub at e
 split at e
 ·rename_i kk i
  split at e
  ·rename_i c zc
   split at e
   ·rename_i j zj
    by_cases hf:c.fz=false
    ·rw[if_pos hf] at e
     cases (Option.some.inj e)
     obtain⟨a,xs,rfl,ha,sq,q,f⟩:=rs.items rx zc
     have hH:=f hf
     obtain⟨af,rs'⟩:=rs.setL ha zc hf hH (q.set j rz)
     exact⟨a,xs,i,j,rfl,ry,hH,by rw[q.len]; exact zj,k _ af rs'⟩
    ·rw[if_neg hf] at e; cases e
   ·cases e
  ·cases e
 ·cases e
theorem Glv{ob ix e:Expr}{f fo fi:Ev D}{pos p2:Pos}(he:JE X XQ e f)(hob:JE X XQ ob fo)(hix:JE X XQ ix fi)
  (hs:swapsWithSole [.Subscript ob ix p2] e pos.line X.env=pure false:=by rfl) (hw:swappedStores [.Subscript ob ix p2] e X.env=pure none:=by rfl)
  (h1:(assignEach [.Subscript ob ix p2] X.env).map (·.2)=[assign (.Subscript ob ix p2) X.env]:=by rfl) (ha:∀ v,assign (.Subscript ob ix p2) X.env v=(do
   let ov <- holding [v] (eval ob X.env)
   let iv <- holding [v,ov] (eval ix X.env)
   standAt p2
   holding [v,ov,iv] (setItem ov iv v)
   release [v,ov,iv] []):=by intro _; rfl):JS X XQ (.Assign [.Subscript ob ix p2] e pos) (ss f fo fi Ub):=Guk Gli Gu2 he hob hix hs hw h1 ha
end
section
variable{X:Cx}{XQ:XW}
def BlD(K:PySem.W.Frag)(r:List V->Hp->VK->Prop)(o:List D->Sto->Out D):Prop:=
 ∀ (XQ:XW) (σ:L2.St) (ρ:Lc) (mp:List Addr) (H:Hp) (S:Sto) (xs:List D) (vs:List V) (Q:VK),RS K mp H S->RepL K mp H xs vs->Post K XQ σ ρ mp H (o xs S) Q->r vs H Q
def b1(o:List D->Sto->Out D)(f:Ev (List D)):Ev D:=fun ρ S=>(f ρ S).bind o
theorem cbR{r:List V->Hp->VK->Prop}{o:List D->Sto->Out D}{f:Ev (List D)}(hd:BlD X.K r o)(σ:L2.St)(H:Hp)(Q:VK)(h:rdE X.K XQ (b1 o f) σ H Q):tCB r (rdA X.K XQ f) σ H Q:=by
 obtain⟨mp,ρ,S,G,p⟩:=h
 exact bindP G p fun mp1 H1 xs S1 vs a1 G1 r1 p1=>hd XQ σ ρ mp1 H1 S1 xs vs Q G1.rs r1 p1
theorem Glw{id:String}{x:Str}{p pos:Pos}{e:Expr}{es:List Expr}{r:List V->Hp->VK->Prop}{o:List D->Sto->Out D}{f:Ev (List D)}(hc:Zl X (.builtin id) r)(hd:BlD X.K r o)(hg:Gl X x)(hm:X.mg x=none)(hv:bootBuiltins x=some (.builtin id))(ha:JA X XQ (e::es) f)(hn:x≠"__name__":=by decide)(hdb:(x==("__debug__":Str))=false:=by decide)
  (he:starEach (e::es) X.env=(false,eval e X.env)::starEach es X.env:=by rfl) (hpl:(backTo pos (starEach es X.env)).any (·.1)=false:=by rfl):JE X XQ (.Call (.Name x p) (e::es) [] pos) (b1 o f):=
 PE.mono (Gbb hc hg hm hv ha hn hdb he hpl) (cbR hd)
theorem Glx{T:String}{x:Str}{p pos:Pos}{e:Expr}{es:List Expr}{r:List V->Hp->VK->Prop}{o:List D->Sto->Out D}{f:Ev (List D)}(hc:Zl X (.type T) r)(hd:BlD X.K r o)(hg:Gl X x)(hm:X.mg x=none)(hv:bootBuiltins x=some (.type T))(ha:JA X XQ (e::es) f)(hn:x≠"__name__":=by decide)(hdb:(x==("__debug__":Str))=false:=by decide)
  (he:starEach (e::es) X.env=(false,eval e X.env)::starEach es X.env:=by rfl) (hpl:(backTo pos (starEach es X.env)).any (·.1)=false:=by rfl):JE X XQ (.Call (.Name x p) (e::es) [] pos) (b1 o f):=
 PE.mono (Gkc hc hg hm hv ha hn hdb he hpl) (cbR hd)
def Jl(xs:List D)(S:Sto):Out D:=match xs with
 | [.str z]=>if z.length<=1000000 then .ok (.int z.length) S else .bad
 | [.tup l]=>.ok (.int l.length) S
 | [.lst i]=>match S[i]? with
  | some c=>.ok (.int c.xs.length) S
  | none=>.bad
 | _=>.bad
theorem Gu3{K:PySem.W.Frag}:BlD K (fun xs H Q=>∃ x n,xs=[x]/\Gxt K x H n/\Q (.int n) H) Jl:=by
 intro XQ σ ρ mp H S xs vs Q rs r p
 unfold Jl at p
 split at p
 ·rename_i z
  obtain⟨v,rfl,h⟩:=RepL.one r
  cases (show v=.str z from h)
  by_cases hz:z.length<=1000000
  ·rw[if_pos hz] at p
   exact⟨_,_,rfl,⟨line_le hz,rfl⟩,Gs.ok (R:=Rep K) p rs rfl⟩
  ·rw[if_neg hz] at p; exact p.elim
 ·rename_i l
  obtain⟨v,rfl,h⟩:=RepL.one r
  obtain⟨a,xs,rfl,sq,q⟩:=Rep.tup h
  exact⟨_,xs.length,rfl,.inr ⟨xs,sq,rfl⟩,Gs.ok (R:=Rep K) p rs (by rw[q.len]; rfl)⟩
 ·rename_i i
  obtain⟨v,rfl,h⟩:=RepL.one r
  split at p
  ·rename_i c zc
   obtain⟨a,xs,rfl,_,sq,q,_⟩:=rs.items h zc
   exact⟨_,xs.length,rfl,.inl ⟨xs,sq,rfl⟩,Gs.ok (R:=Rep K) p rs (by rw[q.len]; rfl)⟩
  ·exact p.elim
 ·exact p.elim
theorem Gu4{p pos:Pos}{e:Expr}{f:Ev (List D)}(hg:Gl X "len")(hm:X.mg "len"=none)(ha:JA X XQ [e] f)(he:starEach [e] X.env=(false,eval e X.env)::starEach [] X.env:=by rfl):JE X XQ (.Call (.Name "len" p) [e] [] pos) (b1 Jl f):=Glw Glf Gu3 hg hm PySem.boot_len ha (he:=he)
def Qo(xs:List D)(S:Sto):Out D:=match xs with
 | [.tup l]=>.ok (.lst S.length) (S++[⟨false,l⟩])
 | [.lst i]=>match S[i]? with
  | some c=>.ok (.lst S.length) (S++[⟨false,c.xs⟩])
  | none=>.bad
 | _=>.bad
theorem Gpr{K:PySem.W.Frag}:BlD K (fun xs H Q=>∃ p ys,xs=[.ref p]/\(SqL K H p ys\/SqT K H p ys)/\∀ l,H l=none->Q (.ref l) (upd H l (.lst ys))) Qo:=by
 intro XQ σ ρ mp H S xs vs Q rs r p
 unfold Qo at p
 split at p
 ·obtain⟨v,rfl,h⟩:=RepL.one r
  obtain⟨a,xs,rfl,sq,q⟩:=Rep.tup h
  exact⟨a,xs,rfl,.inr sq,fun l hl=>Ya p rs q hl⟩
 ·obtain⟨v,rfl,h⟩:=RepL.one r
  split at p
  ·rename_i c zc
   obtain⟨a,xs,rfl,_,sq,q,_⟩:=rs.items h zc
   exact⟨a,xs,rfl,.inl sq,fun l hl=>Ya p rs q hl⟩
  ·exact p.elim
 ·exact p.elim
def Xd(xs:List D)(S:Sto):Out D:=match xs with
 | [.tup l]=>.ok (.tup l) S
 | [.lst i]=>match S[i]? with
  | some c=>.ok (.tup c.xs) S
  | none=>.bad
 | _=>.bad
theorem Gly{K:PySem.W.Frag}:BlD K (fun xs H Q=>∃ p ys,xs=[.ref p]/\((SqL K H p ys/\∀ l,H l=none->Q (.ref l) (upd H l (.tup ys)))\/(SqT K H p ys/\Q (.ref p) H))) Xd:=by
 intro XQ σ ρ mp H S xs vs Q rs r p
 unfold Xd at p
 split at p
 ·obtain⟨v,rfl,h⟩:=RepL.one r
  obtain⟨a,xs,rfl,sq,q⟩:=Rep.tup h
  exact⟨a,xs,rfl,.inr ⟨sq,Gs.ok (R:=Rep K) p rs h⟩⟩
 ·obtain⟨v,rfl,h⟩:=RepL.one r
  split at p
  ·rename_i c zc
   obtain⟨a,xs,rfl,_,sq,q,_⟩:=rs.items h zc
   exact⟨a,xs,rfl,.inl ⟨sq,fun l hl=>Zn p rs q hl⟩⟩
  ·exact p.elim
 ·exact p.elim
theorem Gps{p pos:Pos}{e:Expr}{f:Ev (List D)}(hg:Gl X "list")(hm:X.mg "list"=none)(ha:JA X XQ [e] f)(he:starEach [e] X.env=(false,eval e X.env)::starEach [] X.env:=by rfl):JE X XQ (.Call (.Name "list" p) [e] [] pos) (b1 Qo f):=Glx Gfo Gpr hg hm (by rfl) ha (he:=he)
theorem Glz{p pos:Pos}{e:Expr}{f:Ev (List D)}(hg:Gl X "tuple")(hm:X.mg "tuple"=none)(ha:JA X XQ [e] f)(he:starEach [e] X.env=(false,eval e X.env)::starEach [] X.env:=by rfl):JE X XQ (.Call (.Name "tuple" p) [e] [] pos) (b1 Xd f):=Glx Gef Gly hg hm (by rfl) ha (he:=he)
def Gkh(xs:List D)(S:Sto):Out D:=match xs with
 | [.int i,.int j]=>.ok (.int (if j<i then j else i)) S
 | _=>.bad
theorem Gu5{K:PySem.W.Frag}:BlD K (fun xs H Q=>∃ i j,xs=[.int i,.int j]/\Q (.int (if j<i then j else i)) H) Gkh:=by
 intro XQ σ ρ mp H S xs vs Q rs r p
 unfold Gkh at p
 split at p
 ·rename_i i j
  obtain⟨v,w,rfl,h1,h2⟩:=RepL.two r
  cases (show v=.int i from h1); cases (show w=.int j from h2)
  exact⟨i,j,rfl,Gs.ok (R:=Rep K) p rs rfl⟩
 ·exact p.elim
theorem Gu6{p pos:Pos}{e e':Expr}{f:Ev (List D)}(hc:X.calm=true)(hg:Gl X "min")(hm:X.mg "min"=none)(ha:JA X XQ [e,e'] f)(he:starEach [e,e'] X.env=(false,eval e X.env)::starEach [e'] X.env:=by rfl)(hpl:(backTo pos (starEach [e'] X.env)).any (·.1)=false:=by rfl):JE X XQ (.Call (.Name "min" p) [e,e'] [] pos) (b1 Gkh f):=Glw (Gka hc) Gu5 hg hm (by rfl) ha (he:=he) (hpl:=hpl)
def Gat(xs:List D)(S:Sto):Out D:=match xs with
 | [.int i]=>.ok (.int i) S
 | [.bl b]=>.ok (.int (if b then 1 else 0)) S
 | _=>.bad
theorem Gu7{K:PySem.W.Frag}:BlD K (fun xs H Q=>(∃ i,xs=[.int i]/\Q (.int i) H)\/∃ k,xs=[.bl k]/\Q (.int (if k then 1 else 0)) H) Gat:=by
 intro XQ σ ρ mp H S xs vs Q rs r p
 unfold Gat at p
 split at p
 ·rename_i i
  obtain⟨v,rfl,h⟩:=RepL.one r
  cases (show v=.int i from h)
  exact .inl ⟨i,rfl,Gs.ok (R:=Rep K) p rs rfl⟩
 ·rename_i b
  obtain⟨v,rfl,h⟩:=RepL.one r
  cases (show v=.bl b from h)
  exact .inr ⟨b,rfl,Gs.ok (R:=Rep K) p rs rfl⟩
 ·exact p.elim
theorem Gpt{p pos:Pos}{e:Expr}{f:Ev (List D)}(hg:Gl X "int")(hm:X.mg "int"=none)(ha:JA X XQ [e] f)(he:starEach [e] X.env=(false,eval e X.env)::starEach [] X.env:=by rfl):JE X XQ (.Call (.Name "int" p) [e] [] pos) (b1 Gat f):=Glx Gkb Gu7 hg hm (by rfl) ha (he:=he)
def Gg3(x y:D)(S:Sto):Out D:=match x,y with
 | .non,.non=>.ok (.bl true) S
 | .bl _,.non=>.ok (.bl false) S
 | .int _,.non=>.ok (.bl false) S
 | .str _,.non=>.ok (.bl false) S
 | .tup _,.non=>.ok (.bl false) S
 | .lst _,.non=>.ok (.bl false) S
 | .exn _ _,.non=>.ok (.bl false) S
 | _,_=>.bad
def Gfa(x y:D)(S:Sto):Out D:=match x,y with
 | .non,.non=>.ok (.bl false) S
 | .bl _,.non=>.ok (.bl true) S
 | .int _,.non=>.ok (.bl true) S
 | .str _,.non=>.ok (.bl true) S
 | .tup _,.non=>.ok (.bl true) S
 | .lst _,.non=>.ok (.bl true) S
 | .exn _ _,.non=>.ok (.bl true) S
 | _,_=>.bad
theorem Gu8{K:PySem.W.Frag}:OpD K (fun x y H Q=>y=.non/\Q (.bl (decide (x=.non))) H) Gg3:=by
 intro XQ σ ρ mp H S x y v u Q rs rx ry p
 cases y with
 | non=>
  refine⟨ry,?_⟩
  cases x with
  | non=>cases (show v=.non from rx); exact Gs.ok (R:=Rep K) p rs (by rfl)
  | bl b=>cases (show v=.bl b from rx); exact Gs.ok (R:=Rep K) p rs (by rfl)
  | int b=>cases (show v=.int b from rx); exact Gs.ok (R:=Rep K) p rs (by rfl)
  | str b=>cases (show v=.str b from rx); exact Gs.ok (R:=Rep K) p rs (by rfl)
  | tup l=>obtain⟨a,xs,rfl,_⟩:=Rep.tup rx; exact Gs.ok (R:=Rep K) p rs (by rfl)
  | lst i=>obtain⟨a,rfl,_⟩:=(show ∃ a,v=.ref a/\mp[i]?=some a from rx); exact Gs.ok (R:=Rep K) p rs (by rfl)
  | exn c n=>obtain⟨a,dx,_,rfl,_⟩:=(show ∃ a dx p,v=.ref a/\(CN K c p/\XCl K p/\H a=some (XO a p dx))/\∀ i,n=some i->∃ d,dx=some d/\H d=some (XA d i) from rx); exact Gs.ok (R:=Rep K) p rs (by rfl)
  | fv c=>exact(show False from p).elim
 | _=>cases x<;>exact(show False from p).elim
theorem Gpu{K:PySem.W.Frag}:OpD K (fun x y H Q=>y=.non/\Q (.bl (!decide (x=.non))) H) Gfa:=by
 intro XQ σ ρ mp H S x y v u Q rs rx ry p
 cases y with
 | non=>
  refine⟨ry,?_⟩
  cases x with
  | non=>cases (show v=.non from rx); exact Gs.ok (R:=Rep K) p rs (by rfl)
  | bl b=>cases (show v=.bl b from rx); exact Gs.ok (R:=Rep K) p rs (by rfl)
  | int b=>cases (show v=.int b from rx); exact Gs.ok (R:=Rep K) p rs (by rfl)
  | str b=>cases (show v=.str b from rx); exact Gs.ok (R:=Rep K) p rs (by rfl)
  | tup l=>obtain⟨a,xs,rfl,_⟩:=Rep.tup rx; exact Gs.ok (R:=Rep K) p rs (by rfl)
  | lst i=>obtain⟨a,rfl,_⟩:=(show ∃ a,v=.ref a/\mp[i]?=some a from rx); exact Gs.ok (R:=Rep K) p rs (by rfl)
  | exn c n=>obtain⟨a,dx,_,rfl,_⟩:=(show ∃ a dx p,v=.ref a/\(CN K c p/\XCl K p/\H a=some (XO a p dx))/\∀ i,n=some i->∃ d,dx=some d/\H d=some (XA d i) from rx); exact Gs.ok (R:=Rep K) p rs (by rfl)
  | fv c=>exact(show False from p).elim
 | _=>cases x<;>exact(show False from p).elim
section
variable{a b:Expr}{fa fb:Ev D}{pos:Pos}
theorem Gu9(ha:JE X XQ a fa)(hb:JE X XQ b fb):JT X XQ (.Compare a [.Is] [b] pos) (tb (o2 Gg3 fa fb)):=Gdf Gtm Gu8 ha hb (nomark _)
theorem Gpv(ha:JE X XQ a fa)(hb:JE X XQ b fb):JE X XQ (.Compare a [.IsNot] [b] pos) (o2 Gfa fa fb):=Gfr Gou Gpu ha hb (nomark _)
end
def Qk(xs:List D)(lo hi:Option Int):List D:=(xs.drop (HT.sIx xs.length 0 lo)).take (HT.sIx xs.length xs.length hi-HT.sIx xs.length 0 lo)
theorem RepL.cut{K:PySem.W.Frag}{mp:List Addr}{H:Hp}{l:List D}{vs:List V}(h:RepL K mp H l vs)(lo hi:Option Int):RepL K mp H (Qk l lo hi) (Gg0 vs lo hi):=by
 unfold Qk Gg0
 rw[h.len]
 exact(h.drop _).take _
def slD(x:D)(lo hi:Option Int)(S:Sto):Out D:=match x with
 | .tup l=>if HT.sIx l.length 0 lo=0/\HT.sIx l.length l.length hi=l.length then .bad else .ok (.tup (Qk l lo hi)) S
 | .lst i=>match S[i]? with
  | some c=>.ok (.lst S.length) (S++[⟨false,Qk c.xs lo hi⟩])
  | none=>.bad
 | _=>.bad
def sl(fe:Ev D)(fl fh:Ev (Option Int)):Ev D:=fun ρ S=>(fe ρ S).bind fun x S1=>(fl ρ S1).bind fun l S2=>(fh ρ S2).bind fun u S3=>slD x l u S3
def onone:Ev (Option Int):=fun _ S=>.ok none S
def osome(f:Ev D):Ev (Option Int):=fun ρ S=>(f ρ S).bind fun x S1=>match x with
 | .int i=>.ok (some i) S1
 | _=>.bad
theorem Gpw:JO X XQ none onone:=PO.mono Go1 fun σ H Q ⟨mp,ρ,S,G,p⟩=>Gs.ok (R:=kO) (show Gs X.K kO XQ σ ρ mp H (.ok none S) Q from p) G.rs rfl
theorem Gpx{e:Expr}{f:Ev D}(h:JE X XQ e f):JO X XQ (some e) (osome f):=PO.mono (Go2 h) fun σ H Q ⟨mp,ρ,S,G,p⟩=>bindP G p fun mp1 H1 x S1 v a1 G1 r1 p1=>by
 cases x with
 | int i=>exact⟨i,r1,Gs.ok (R:=kO) p1 G1.rs rfl⟩
 | _=>exact(show False from p1).elim
def MeD(K:PySem.W.Frag)(r:V->List V->Hp->VK->Prop)(o:D->List D->Sto->Out D):Prop:=
 ∀ (XQ:XW) (σ:L2.St) (ρ:Lc) (mp:List Addr) (H:Hp) (S:Sto) (x:D) (xs:List D) (v:V) (vs:List V) (Q:VK),RS K mp H S->Rep K mp H x v->RepL K mp H xs vs->Post K XQ σ ρ mp H (o x xs S) Q->r v vs H Q
def isLst(x:D)(S:Sto):Bool:=match x with
 | .lst i=>match S[i]? with
  | some _=>true
  | none=>false
 | _=>false
def mt(o:D->List D->Sto->Out D)(fo:Ev D)(f:Ev (List D)):Ev D:=fun ρ S=>(fo ρ S).bind fun x S1=>if isLst x S1=true then(f ρ S1).bind fun xs S2=>o x xs S2 else .bad
theorem Gfx{id:String}{name:Str}{o e:Expr}{es:List Expr}{apos cpos:Pos}{r:V->List V->Hp->VK->Prop}{od:D->List D->Sto->Out D}{fo:Ev D}{f:Ev (List D)}(slot:Slot "list" name id)(hty:typeOf (.builtin id)=pure (.type "method_descriptor"))(hm:MtM X id r)(hd:MeD X.K r od)(ho:JE X XQ o fo)(ha:JA X XQ (e::es) f)
  (hbase:attributeBase o name X.env (eval o X.env)=eval o X.env:=by rfl)
  (hfew:((backTo cpos (starEach (e::es) X.env)).all (fun x=>!x.1)&&(backToKw cpos (keywordEach [] X.env)).all (fun x=>x.1.isSome)
   && decide ((e::es).length+([]:List Keyword).length+(if([]:List Keyword).isEmpty then 0 else 1)<30))=true:=by rfl)
  (hline:(apos.endLine==cpos.line)=true:=by rfl) (hs:starEach (e::es) X.env=(false,eval e X.env)::starEach es X.env:=by rfl) (hplain:(backTo cpos (starEach es X.env)).any (·.1)=false:=by rfl):
  JE X XQ (.Call (.Attribute o name apos) (e::es) [] cpos) (mt od fo f):=by
 refine PE.mono (Gx0 PySem.F.plainAttrs_list slot hty hm ho ha hbase hfew hline hs hplain) fun σ H Q ⟨mp,ρ,S,G,p⟩=>?_
 refine bindP G p fun mp1 H1 x S1 v a1 G1 r1 p1=>?_
 by_cases hl:isLst x S1=true
 ·rw[if_pos hl] at p1
  have ty:tyV X.K "list" v H1:=by
   cases x with
   | lst i=>
    cases zc:S1[i]? with
    | none=>simp[isLst,zc] at hl
    | some c=>
     obtain⟨a,xs,rfl,_,sq,_⟩:=G1.rs.items r1 zc
     exact .inl ⟨rfl,xs,sq⟩
   | _=>simp[isLst] at hl
  exact⟨ty,bindP G1 p1 fun mp2 H2 xs S2 vs a2 G2 r2 p2=>hd XQ σ ρ mp2 H2 S2 x xs v vs Q G2.rs (Rep.aft a2 _ _ r1) r2 p2⟩
 ·rw[if_neg hl] at p1; exact p1.elim
def Yb(x:D)(xs:List D)(S:Sto):Out D:=match x,xs with
 | .lst i,[d]=>match S[i]? with
  | some c=>if c.fz=false/\c.xs.length<1000000 then .ok .non (S.set i ⟨false,c.xs++[d]⟩) else .bad
  | none=>.bad
 | _,_=>.bad
theorem Gva{K:PySem.W.Frag}:MeD K Gi0 Yb:=by
 intro XQ σ ρ mp H S x xs v vs Q rs rx r p
 unfold Yb at p
 split at p
 ·rename_i i d
  split at p
  ·rename_i c zc
   by_cases hc:c.fz=false/\c.xs.length<1000000
   ·rw[if_pos hc] at p
    obtain⟨w,rfl,hw⟩:=RepL.one r
    obtain⟨a,ys,rfl,ha,sq,q,f⟩:=rs.items rx zc
    have hH:=f hc.1
    obtain⟨af,rs'⟩:=rs.setL ha zc hc.1 hH (RepL.append q (RepL.cons hw RepL.nil))
    exact⟨a,ys,w,rfl,rfl,hH,by rw[q.len]; exact Nat.lt_of_lt_of_le hc.2 (by decide),p mp _ _ af rs' rfl⟩
   ·rw[if_neg hc] at p; exact p.elim
  ·exact p.elim
 ·exact p.elim
theorem Gki{o e:Expr}{apos cpos:Pos}{fo:Ev D}{f:Ev (List D)}(ho:JE X XQ o fo)(ha:JA X XQ [e] f)(hbase:attributeBase o "append" X.env (eval o X.env)=eval o X.env:=by rfl)
  (hfew:((backTo cpos (starEach [e] X.env)).all (fun x=>!x.1)&&(backToKw cpos (keywordEach [] X.env)).all (fun x=>x.1.isSome)
   && decide ([e].length+([]:List Keyword).length+(if([]:List Keyword).isEmpty then 0 else 1)<30))=true:=by rfl)
  (hline:(apos.endLine==cpos.line)=true:=by rfl) (hs:starEach [e] X.env=(false,eval e X.env)::starEach [] X.env:=by rfl):
  JE X XQ (.Call (.Attribute o "append" apos) [e] [] cpos) (mt Yb fo f):=Gfx PySem.F.slot_list_append PySem.F.type_list_append Ge7 Gva ho ha hbase hfew hline hs rfl
end
section
variable{X:Cx}{XQ:XW}
theorem Gvb{K:PySem.W.Frag}:UnD K (rU fun i=>.int (-i)) Ga2:=by
 intro XQ σ ρ mp H S x v Q rs rx p
 cases x with
 | int i=>exact⟨i,rx,Gs.ok (R:=Rep K) (show Post K XQ σ ρ mp H (.ok (.int (-i)) S) Q from p) rs rfl⟩
 | _=>exact(show False from p).elim
theorem Gvc{a:Expr}{fa:Ev D}{pos:Pos}(ha:JE X XQ a fa):JE X XQ (.UnaryOp .USub a pos) (o1 Ga2 fa):=Gx6 Gtl Gvb ha
def ch(o o':D->D->Sto->Out D)(fa fb fc:Ev D):Ev D:=fun ρ S=>(fa ρ S).bind fun x S1=>(fb ρ S1).bind fun y S2=>(o x y S2).bind fun z S3=>match z with
 | .bl k=>if k=true then(fc ρ S3).bind fun w S4=>o' y w S4 else .ok (.bl false) S3
 | _=>.bad
theorem Gvd{K:PySem.W.Frag}{r r':R2}{o o':D->D->Sto->Out D}{fa fb fc:Ev D}(hd:OpD K r o)(hd':OpD K r' o')(σ:L2.St)(H:Hp)(Q:VK)(h:rdE K XQ (ch o o' fa fb fc) σ H Q):Glc r r' (rdE K XQ fa) (rdE K XQ fb) (rdE K XQ fc) σ H Q:=by
 obtain⟨mp,ρ,S,G,p⟩:=h
 refine bindP G p fun mp1 H1 x S1 v a1 G1 r1 p1=>?_
 refine bindP G1 p1 fun mp2 H2 y S2 u a2 G2 r2 p2=>?_
 refine hd XQ σ ρ mp2 H2 S2 x y v u _ G2.rs (Rep.aft a2 _ _ r1) r2 ?_
 cases z:o x y S2 with
 | bad=>rw[z] at p2; exact p2
 | exc e S3=>rw[z] at p2; exact p2
 | ok d S3=>
  rw[z] at p2
  intro mp3 H3 zv a3 rs3 r3
  have p3:=Gs.aft p2 a3
  have G3:=G2.aft a3 rs3
  cases d with
  | bl k=>
   refine⟨k,r3,?_⟩
   cases k with
   | true=>exact(if_pos rfl).mpr (bindP (f:=fc) G3 (by simpa[Out.bind] using p3) fun mp4 H4 w S4 wv a4 G4 r4 p4=>hd' XQ σ ρ mp4 H4 S4 y w u wv Q G4.rs (Rep.aft (a3.trans a4) _ _ r2) r4 p4)
   | false=>exact(if_neg Bool.false_ne_true).mpr (Gs.ok (R:=Rep K) (d:=.bl false) (S:=S3) (by simpa[Out.bind] using p3) G3.rs rfl)
  | _=>exact(show False from p3).elim
theorem Gl0{a b c:Expr}{op op':CmpOp}{r r':R2}{o o':D->D->Sto->Out D}{fa fb fc:Ev D}{pos:Pos}(ho:OpR X (compareOp op) r)(hd:OpD X.K r o)(ho':OpR X (compareOp op') r')(hd':OpD X.K r' o')(ha:JE X XQ a fa)(hb:JE X XQ b fb)(hc:JE X XQ c fc)
  (hm:lastMarks [op,op'] [b,c]=false:=by with_unfolding_all rfl):JT X XQ (.Compare a [op,op'] [b,c] pos) (tb (ch o o' fa fb fc)):=PT.mono (Gld ho ho' ha hb hc hm) fun σ H Q h=>Gvd hd hd' σ H _ (Glo h)
theorem Gr8{K:PySem.W.Frag}:OpD K (rI0 fun i j=>.bl (decide (i<j))) ltD:=od_int0 fun _ _ _ _=>rfl
theorem Gr9{K:PySem.W.Frag}:OpD K (rI0 fun i j=>.bl (decide (i<=j))) leD:=od_int0 fun _ _ _ _=>rfl
end
def XAt(a c:Addr)(h:Heap):Prop:=∃ oe,h.get? a=some oe/\oe.cls=.ref c/\∃ vs,oe.data=.fields vs
section
variable{prog:Program}{w:World}{A:Around}{E:Value->Shared->Prop}{h:Heap}{g:Array GenState}{d:Drawn}{t:Nat}{os:OsState}{a c:Addr}{o:Obj}{K:PySem.W.Frag}
theorem Gve{M:Model}(x:XAt a c h):PySem.W.Looks M h (typeOf (.ref a)) (.ref c):=by
 obtain⟨oe,h1,h2,_⟩:=x
 exact h2▸(PySem.W.Looks.ld h1).andThen .now
theorem Gvf{tp:Value}{R:Result->Shared->Prop}(X:K.In h)(k:XCl K c)(x:XAt a c h)(hq:R (.ok (.ret (.ref c))) ⟨h,g,d,t,os⟩):
  codeAny (model prog w) A (.call (.builtin "getset_descriptor.__get__") ⟨[.builtin "object.__class__",.ref a,tp],[]⟩) R ⟨h,g,d,t,os⟩:=by
 obtain⟨oe,hx,hc,_⟩:=x
 have hT5:(⟨h,g,d,t,os⟩:Shared).TypeIs (.builtin "object.__class__") "getset_descriptor":=F.typeOf_object_class
 refine codeAny_call_builtin F.slot_gs_get.plain F.entry_gs_get (F.slot_gs_get.check _ _ _ _ _ _ _ _ hT5 (F.args_gs_get _ _ _) ?_)
 have L1:=fun(M:Model)=>PySem.W.looks_mroIn (M:=M) X k.ob
 have ow:=F.owner_object_class
 repeat (any_goals (first | assumption | (with_reducible refine wpAny_loadPart_at hx ?_; rw[hc]) | (rw[ow]; with_reducible refine(L1 _).here ?_) | wp_step))
 refine⟨Code.quiet_builtin _ (by decide +kernel),codeAny_builtin F.entry_object_class ?_⟩
 repeat (any_goals (first | assumption | (with_reducible refine wpAny_loadPart_at hx ?_; rw[hc]) | wp_step))
theorem Gg4{M:Model}{nameV:Value}{Q:Unit->Shared->Prop}(X:K.In h)(k:XCl K c)(x:XAt a c h)(hq:Q () ⟨h,g,d,t,os⟩):wpAny M A (checkBuiltinCall "BaseException.__getattribute__" ⟨[.ref a,nameV],[]⟩) Q E ⟨h,g,d,t,os⟩:=by
 obtain⟨oe,hx,hc,_⟩:=x
 have bk:builtinKind "BaseException.__getattribute__"=some .slot:=by decide +kernel
 have bs:splitId "BaseException.__getattribute__"=some ("BaseException","__getattribute__"):=by decide +kernel
 have ha:=F.args_bexc_ga (.ref a) nameV
 have L1:PySem.W.Looks M h (isSubtype (.ref c) (.type "BaseException")) true:=PySem.W.looks_subIn X k.be
 simp only[checkBuiltinCall,bk,bs]
 refine wpAny_bind ?_
 ·unfold isInstance
  repeat (first | (with_reducible refine wpAny_loadPart_at hx ?_; rw[hc]) | (with_reducible refine L1.here ?_) | wp_step)
  exact hq
theorem Gl1{tk:Tok}{Q:Fin->Shared->Prop}(X:K.In h)(k:XCl K c)(x:XAt a c h)(hq:Q (.done (.ret (.ref c))) ⟨h,g,d,t,os⟩):
  wpAny (model prog w) A (Builtin.«object.__getattribute__» ⟨[.ref a,.str "__class__" tk],[]⟩) Q E ⟨h,g,d,t,os⟩:=by
 obtain⟨oe,hx,hc,hv⟩:=id x
 have hT5:(⟨h,g,d,t,os⟩:Shared).TypeIs (.builtin "object.__class__") "getset_descriptor":=F.typeOf_object_class
 have f5:=F.typeOf_object_class
 have f6:=F.slot_gs_get.lookup
 have f7:=F.slot_gs_set.lookup
 have L1:=fun(M:Model)=>PySem.W.looks_findIn (M:=M) X k.cl
 repeat (any_goals (first | assumption | (with_reducible refine wpAny_loadPart_at hx ?_; rw[hc]) | with_reducible refine(L1 _).here ?_ | wp_step))
 refine Gvf X k x ?_
 repeat (any_goals (first | assumption | wp_step))
theorem Gyl{tk:Tok}{fill expr:Bool}{Q:Value->Shared->Prop}(X:K.In h)(k:XCl K c)(x:XAt a c h)(hq:Q (.ref c) ⟨h,g,d,t,os⟩):
  wpAny (model prog w) A (getAttrBy (.ref a) (.str "__class__" tk) fill expr) Q E ⟨h,g,d,t,os⟩:=by
 obtain⟨oe,hx,hc,hv⟩:=id x
 have f3:=PySem.F.excAttr_ValueError.ga.bind (.ref a)
 have n0:(expr&&onTheHeap (Value.builtin "BaseException.__getattribute__"))=false:=by cases expr<;>rfl
 have n2:(Value.builtin "BaseException.__getattribute__"==Value.builtin "object.__getattribute__")=false:=by decide +kernel
 have n1:(onTheHeap (Value.ref c)&&Value.builtin "BaseException.__getattribute__"==Value.builtin "object.__getattribute__")=false:=by rw[n2]; rfl
 have L1:=fun(M:Model)=>PySem.W.looks_findIn (M:=M) X k.ga
 have L2:=fun(M:Model)=>PySem.W.looks_findIn (M:=M) X k.gt
 repeat (any_goals (first | assumption | (with_reducible refine wpAny_loadPart_at hx ?_; rw[hc]) | with_reducible refine(L1 _).here ?_ | with_reducible refine(L2 _).here ?_ | wp_step))
 refine codeAny_call_builtin PySem.F.excAttr_ValueError.ga.plain F.entry_bexc_ga (Gg4 X k x (Gl1 X k x ?_))
 repeat (any_goals (first | assumption | wp_step))
theorem Gpy{Q:Option Value->Shared->Prop}(X:K.In h)(k:XCl K c)(x:XAt a c h)(hq:Q (some (.ref c)) ⟨h,g,d,t+1,os⟩):wpAny (model prog w) A (getAttr? (.ref a) "__class__") Q E ⟨h,g,d,t,os⟩:=by
 unfold getAttr? getAttrBy?
 repeat (any_goals (first | assumption | with_reducible apply Gyl X k x | wp_step))
end
theorem Gg5{K:PySem.W.Frag}{a c:Addr}(k:XCl K c):PySem.W.KitX K (.ref a) (.ref c) (XAt a c) where
 ty:=fun _ _ _ x=>Gve x
 it:=fun _ _ X _=>by
  obtain⟨cd,hc⟩:=Option.isSome_iff_exists.mp k.cd
  unfold PySem.W.clsIn at hc
  split at hc
  ·rename_i c' d' cd' sl' ho
   intro A Q E s kp q
   unfold isType loadHead
   exact wpAny_bind (wpAny_loadPart (kp _ _ (X _ _ ho)) (wpAny_pure q))
  ·cases hc
 ne:=fun h tp dd its n sl X htp=>by
  obtain⟨cd,hc⟩:=Option.isSome_iff_exists.mp k.cd
  refine Bool.eq_false_iff.mpr fun q=>?_
  have e:c=tp:=Value.ref.inj (beq_iff_eq.mp q)
  subst e
  unfold PySem.W.clsIn at hc
  split at hc
  ·rename_i c' d' cd' sl' ho
   cases (X _ _ ho).symm.trans htp
  ·cases hc
 ca:=fun{prog w A E Q s} X x q=>by
  obtain⟨hh,g,d,t,os⟩:=s
  exact Gpy X k x q
def tyN:D->String
 | .non=>"NoneType"
 | .bl _=>"bool"
 | .int _=>"int"
 | .str _=>"str"
 | .tup _=>"tuple"
 | .lst _=>"list"
 | .exn _ _=>"exn"
 | .fv _=>"fv"
def isT(T t:String):Bool:=t==T||(T=="int"&&t=="bool")
def isD(T:String)(x:D)(S:Sto):Out D:=match x with
 | .fv _=>.bad
 | _=>.ok (.bl (isT T (tyN x))) S
def Kit(K:PySem.W.Frag)(T:String):Prop:=T∈["bool","int","str","tuple","list"]/\∀ t∈["NoneType","bool","int","str","tuple","list"],PySem.W.kitOne K (.type t) (.type T)=some (isT T t)
theorem Gi1{K:PySem.W.Frag}:Kit K "int":=by refine⟨by decide,?_⟩; intro t h; simp only[List.mem_cons,List.mem_nil_iff,or_false] at h; rcases h with rfl | rfl | rfl | rfl | rfl | rfl<;>first | rfl | decide +kernel | (with_unfolding_all rfl)
theorem Gl2{K:PySem.W.Frag}:Kit K "bool":=by refine⟨by decide,?_⟩; intro t h; simp only[List.mem_cons,List.mem_nil_iff,or_false] at h; rcases h with rfl | rfl | rfl | rfl | rfl | rfl<;>first | rfl | decide +kernel | (with_unfolding_all rfl)
theorem Gfy{K:PySem.W.Frag}:Kit K "str":=by refine⟨by decide,?_⟩; intro t h; simp only[List.mem_cons,List.mem_nil_iff,or_false] at h; rcases h with rfl | rfl | rfl | rfl | rfl | rfl<;>first | rfl | decide +kernel | (with_unfolding_all rfl)
section
variable{X:Cx}{XQ:XW}
def Hav(K:PySem.W.Frag)(T:String):List V->Hp->VK->Prop:=fun vs H Q=>∃ x t,vs=[x,.ty T]/\(match x with
 | .non=>t="NoneType" | .bl _=>t="bool" | .int _=>t="int" | .str _=>t="str"
 | .ref a=>(t="tuple"/\∃ xs,SqT K H a xs)\/(t="list"/\∃ xs,SqL K H a xs)\/(t="exn"/\∃ c dx,XCl K c/\H a=some (XO a c dx))
 | _=>False)/\Q (.bl (isT T t)) H
theorem Gsa{pins:List (Addr×Obj)}{σ:L2.St}{H:Hp}{s:Shared}{a c:Addr}{dx:Option Addr}(I:Inv X pins σ H s)(h:H a=some (XO a c dx)):XAt a c s.heap:=by
 obtain⟨⟨oe,h1,h2,_,h3⟩,_,_⟩:=(show Jz X.prog X.w H s.heap a (XO a c dx) from I.hok a _ h)
 exact⟨oe,h1,h2,h3⟩
theorem Gpz{T:String}(h:T∈["bool","int","str","tuple","list"]):isT T "exn"=false:=by
 simp only[List.mem_cons,List.mem_nil_iff,or_false] at h
 rcases h with rfl | rfl | rfl | rfl | rfl<;>rfl
theorem Gl3{T:String}(k:Kit X.K T):Zl X (.builtin "isinstance") (Hav X.K T):=by
 intro pins s σ H xs us Q I r ⟨x,t,e,h,q⟩
 subst e
 obtain⟨u,w,rfl,ru,rw'⟩:=Vals.two r
 cases (show w=Value.type T from rw')
 have fin:∀ tk,EP X pins σ Q (.bool (isT T t)) { s with toks:=tk }:=fun tk=>⟨.bl _,H,I.tok tk,rfl,q⟩
 cases x with
 | non=>cases (show u=Value.none from ru); cases (show t="NoneType" from h); exact PySem.W.kia_one PySem.W.kitx_none I.kIn True.intro (k.2 _ (by decide)) (fun z=>nomatch z) fin
 | bl y=>cases (show u=Value.bool y from ru); cases (show t="bool" from h); exact PySem.W.kia_one PySem.W.kitx_bool I.kIn True.intro (k.2 _ (by decide)) (fun z=>nomatch z) fin
 | int i=>obtain⟨tk,e⟩:=(show ∃ t,u=Value.int i t from ru); cases e; cases (show t="int" from h); exact PySem.W.kia_one PySem.W.kitx_int I.kIn True.intro (k.2 _ (by decide)) (fun z=>nomatch z) fin
 | str y=>obtain⟨tk,e⟩:=(show ∃ t,u=Value.str y t from ru); cases e; cases (show t="str" from h); exact PySem.W.kia_one PySem.W.kitx_str I.kIn True.intro (k.2 _ (by decide)) (fun z=>nomatch z) fin
 | ref a=>
  cases (show u=Value.ref a from ru)
  rcases h with⟨rfl,xs,sq⟩ | ⟨rfl,xs,sq⟩ | ⟨rfl,c,dx,xc,hH⟩
  ·obtain⟨its,_,⟨o,h1,h2,_⟩,_⟩:=I.tuple sq
   exact PySem.W.kia_one PySem.W.kitx_tuple I.kIn ⟨o,h1,h2⟩ (k.2 _ (by decide)) (fun z=>nomatch z) fin
  ·obtain⟨its,_,⟨o,n,h1,h2,_⟩,_⟩:=I.list sq
   exact PySem.W.kia_one PySem.W.kitx_list I.kIn ⟨o,h1,h2⟩ (k.2 _ (by decide)) (fun z=>nomatch z) fin
  ·have xa:=Gsa I hH
   have e:isT T "exn"=false:=Gpz k.1
   rw[e] at fin
   exact PySem.W.kia_one (Gg5 xc) I.kIn xa (xc.bt T k.1) (fun z=>nomatch z) fin
 | _=>exact h.elim
theorem Gvg{T:String}{x:Str}{e:Expr}{f:Ev D}{p p2 pos:Pos}(k:Kit X.K T)(hv:bootBuiltins x=some (.type T))(hnx:x≠"__name__")(hdx:(x==("__debug__":Str))=false)(hg:Gl X "isinstance")(hm:X.mg "isinstance"=none)(hgt:Gl X x)(hmt:X.mg x=none)(he:JE X XQ e f)
  (hs:starEach [e,.Name x p2] X.env=(false,eval e X.env)::starEach [.Name x p2] X.env) (hpl:(backTo pos (starEach [.Name x p2] X.env)).any (·.1)=false) (hs2:starEach [.Name x p2] X.env=(false,eval (.Name x p2) X.env)::starEach [] X.env):
  JE X XQ (.Call (.Name "isinstance" p) [e,.Name x p2] [] pos) (o1 (isD T) f):=by
 refine PE.mono (Gbb (Gl3 k) hg hm (by rfl) (Qa he (Qa (Giw hgt hmt hv (v:=.ty T) rfl hnx hdx) pa_nil hs2) hs) (by decide) (by decide) hs hpl) fun σ H Q ⟨mp,ρ,S,G,q⟩=>?_
 refine bindP G q fun mp1 H1 d S1 v a1 G1 r1 p1=>?_
 have p2:(∃ c,d=.fv c)\/Post X.K XQ σ ρ mp1 H1 (.ok (.bl (isT T (tyN d))) S1) Q:=by cases d<;>first | exact .inr p1 | exact .inl ⟨_,rfl⟩
 rcases p2 with⟨c,rfl⟩ | p2
 ·exact(show False from p1).elim
 refine⟨v,tyN d,rfl,?_,Gs.ok (R:=Rep X.K) p2 G1.rs rfl⟩
 cases d with
 | non=>cases (show v=.non from r1); exact rfl
 | bl b=>cases (show v=.bl b from r1); exact rfl
 | int b=>cases (show v=.int b from r1); exact rfl
 | str b=>cases (show v=.str b from r1); exact rfl
 | tup l=>obtain⟨a,xs,rfl,sq,_⟩:=Rep.tup r1; exact .inl ⟨rfl,xs,sq⟩
 | lst i=>
  obtain⟨a,rfl,ha⟩:=(show ∃ a,v=.ref a/\mp1[i]?=some a from r1)
  have hl:i<S1.length:=by rw[<- G1.rs.len]; exact(List.getElem?_eq_some_iff.mp ha).1
  obtain⟨a2,xs,e2,_,sq,_⟩:=G1.rs.items r1 (List.getElem?_eq_getElem hl)
  cases e2
  exact .inr (.inl ⟨rfl,xs,sq⟩)
 | exn c n=>
  obtain⟨a,dx,q,rfl,⟨_,xc,hH⟩,_⟩:=(show ∃ a dx p,v=.ref a/\(CN X.K c p/\XCl X.K p/\H1 a=some (XO a p dx))/\∀ i,n=some i->∃ d,dx=some d/\H1 d=some (XA d i) from r1)
  exact .inr (.inr ⟨rfl,q,dx,xc,hH⟩)
 | fv c=>exact(show False from p1).elim
end
section
variable{X:Cx}{XQ:XW}
def spar(i j:Nat)(f:Ev (List D)):Sv:=fun ρ S=>bindS (f ρ S) ρ fun ds S1=>match ds with
 | [d,e]=>.nx ((ρ.set i (some d)).set j (some e)) S1
 | _=>.bad
theorem Gvh(i j:Nat){x y:Str}{a b:Expr}{f:Ev (List D)}{px py pt pos:Pos}{kt k2 pt2}(hc:X.calm=true)(hN:X.N.Nodup)(hi:X.N[i]?=some x)(hj:X.N[j]?=some y)(hij:i≠j)
  (hx:X.env.scope.names.lookup x=some .local) (hy:X.env.scope.names.lookup y=some .local) (ha:JA X XQ [a,b] f)
  (hw:swappedStores [.Tuple [.Name x px,.Name y py] kt pt] (.Tuple [a,b] k2 pt2) X.env=pure (some [x,y]))
  (hs:swapsWithSole [.Tuple [.Name x px,.Name y py] kt pt] (.Tuple [a,b] k2 pt2) pos.line X.env=pure false:=by rfl):
  JS X XQ (.Assign [.Tuple [.Name x px,.Name y py] kt pt] (.Tuple [a,b] k2 pt2) pos) (spar i j f):=by
 refine PS.mono (Gtb hc hN hi hj hij hx hy ha hw hs) fun E σ H ⟨mp,ρ,S,G,p⟩=>?_
 refine bindSP G p fun mp1 H1 ds S1 vs a1 G1 r1 p1=>?_
 split at p1
 ·obtain⟨v,w,rfl,h1,h2⟩:=RepL.two r1
  exact⟨v,w,rfl,PostS.nx p1 ((G1.set i h1).set j h2)⟩
 ·exact p1.elim
end
section
variable{X:Cx}{XQ:XW}
def Gsb(X:Cx)(id:String)(o:List D->Sto->Out D):Prop:=
 ∀ (pins:List (Addr×Obj)) (s:Shared) (σ:L2.St) (ρ:Lc) (XQ:XW) (mp:List Addr) (H:Hp) (S:Sto) (ds:List D) (vs:List V) (us:List Value) (Q:VK),Inv X pins σ H s->RS X.K mp H S->RepL X.K mp H ds vs->Vals vs us->Post X.K XQ σ ρ mp H (o ds S) Q→
  (∀ (e:XD) (S':Sto),o ds S≠.exc e S')->wpAny (model X.prog X.w) X.A (call (.builtin id) us) (EP X pins σ Q) X.xe s
theorem Gp0{id:String}{x:Str}{p pos:Pos}{e:Expr}{es:List Expr}{o:List D->Sto->Out D}{f:Ev (List D)}(hc:Gsb X id o)(hno:∀ ds S e S',o ds S≠.exc e S')(hg:Gl X x)(hm:X.mg x=none)(hv:bootBuiltins x=some (.builtin id))(ha:JA X XQ (e::es) f)(hn:x≠"__name__":=by decide)(hdb:(x==("__debug__":Str))=false:=by decide)
  (he:starEach (e::es) X.env=(false,eval e X.env)::starEach es X.env:=by rfl) (hpl:(backTo pos (starEach es X.env)).any (·.1)=false:=by rfl):JE X XQ (.Call (.Name x p) (e::es) [] pos) (b1 o f):=by
 intro pins s σ H Q I ⟨mp,ρ,S,G,q⟩
 refine wpAny_Call_Name_kw (Ga0 I hg hm hv ?_ hn hdb)
 refine PyProof.Rows.callWith_builtin1 (thn (ha pos pins s σ H _ I (bindP G q fun mp1 H1 ds S1 vs a1 G1 r1 p1=>(⟨mp1,ρ,S1,ds,G1,r1,p1⟩:∃ mp1 ρ S1 ds,Gd X.K mp1 H1 σ ρ S1/\RepL X.K mp1 H1 ds vs/\Post X.K XQ σ ρ mp1 H1 (o ds S1) Q))) fun us s1 ⟨vs,H1,I1,rv,mp1,ρ1,S1,ds,G1,r1,p1⟩=>?_) he hpl
 exact hc pins s1 σ ρ1 XQ mp1 H1 S1 ds vs us Q I1 G1.rs r1 rv p1 (hno _ _)
def Qg(xs:List D)(S:Sto):Out D:=match xs with
 | [.non]=>.ok (.str "None") S
 | [.bl b]=>.ok (.str (if b then "True" else "False")) S
 | [.int i]=>if i.natAbs.log2<1920 then .ok (.str (toString i)) S else .bad
 | [.str x]=>if(reprText x).length<=1000000 then .ok (.str (reprText x)) S else .bad
 | [d]=>match toP S 40 d with
  | some p=>if(p.showable&&!p.hasDict&&decide (p.depth<=60))=true/\p.shown.length<=1000000 then .ok (.str p.shown) S else .bad
  | none=>.bad
 | _=>.bad
theorem Gp1(ds:List D)(S:Sto)(e:XD)(S':Sto):Qg ds S≠.exc e S':=by
 unfold Qg
 split<;>(try split)<;>(try split)<;>exact fun z=>nomatch z
theorem Gp2{k:Nat}(hr:Room k X.A):Gsb X "repr" Qg:=by
 intro pins s σ ρ XQ mp H S ds vs us Q I rs r rv p hno
 clear hno
 have big:∀ (d:D) (v:V) (a:Addr) (u:Value),Rep X.K mp H d v->v=.ref a->Hq v u->Post X.K XQ σ ρ mp H (match toP S 40 d with
   | some p=>if(p.showable&&!p.hasDict&&decide (p.depth<=60))=true/\p.shown.length<=1000000 then .ok (.str p.shown) S else .bad
   | none=>.bad) Q->wpAny (model X.prog X.w) X.A (call (.builtin "repr") [u]) (EP X pins σ Q) X.xe s:=by
  intro d v a u rd ev ru p
  subst ev
  cases z:toP S 40 d with
  | none=>rw[z] at p; exact p.elim
  | some q=>
   rw[z] at p
   by_cases h:(q.showable&&!q.hasDict&&decide (q.depth<=60))=true/\q.shown.length<=1000000
   ·have p:Post X.K XQ σ ρ mp H (.ok (.str q.shown) S) Q:=by simpa only[if_pos h] using p
    obtain⟨as,ra⟩:=Gdg I rs 40 d _ u q rd ru z
    cases (show u=Value.ref a from ru)
    have h1:=h.1
    rw[Bool.and_eq_true,Bool.and_eq_true] at h1
    have hd:q.depth<=60:=of_decide_eq_true h1.2
    have hu:=hr.units
    refine repr_of_reads' ra h1.1.1 (fun z=>by rw[z] at h1; simp at h1) hr.gd (by omega) (fun _ _ e=>e) (fun h' u' tk hk=>?_) (line_le h.2)
    exact⟨.str q.shown,H,I.kept (h':=h') (t':=tk) hk,⟨_,rfl⟩,Gs.ok p rs rfl⟩
   ·simp only[if_neg h] at p; exact p.elim
 unfold Qg at p
 split at p
 ·obtain⟨v,rfl,h⟩:=RepL.one r
  obtain⟨u,rfl,ru⟩:=Vals.one rv
  cases (show v=.non from h); cases (show u=Value.none from ru)
  exact PySem.P.repr_of_none ⟨.str "None",H,I.tok _,⟨_,rfl⟩,Gs.ok (R:=Rep X.K) p rs rfl⟩
 ·rename_i b
  obtain⟨v,rfl,h⟩:=RepL.one r
  obtain⟨u,rfl,ru⟩:=Vals.one rv
  cases (show v=.bl b from h); cases (show u=Value.bool b from ru)
  exact PySem.P.repr_of_bool ⟨.str _,H,I.tok _,⟨_,rfl⟩,Gs.ok (R:=Rep X.K) p rs (by cases b<;>rfl)⟩
 ·rename_i i
  obtain⟨v,rfl,h⟩:=RepL.one r
  obtain⟨u,rfl,ru⟩:=Vals.one rv
  cases (show v=.int i from h); obtain⟨t,rfl⟩:=(show ∃ t,u=Value.int i t from ru)
  by_cases hi:i.natAbs.log2<1920
  ·rw[if_pos hi] at p
   exact PySem.P.repr_of_int hi ⟨.str _,H,I.tok _,⟨_,rfl⟩,Gs.ok (R:=Rep X.K) p rs rfl⟩
  ·rw[if_neg hi] at p; exact p.elim
 ·rename_i x
  obtain⟨v,rfl,h⟩:=RepL.one r
  obtain⟨u,rfl,ru⟩:=Vals.one rv
  cases (show v=.str x from h); obtain⟨t,rfl⟩:=(show ∃ t,u=Value.str x t from ru)
  by_cases hi:(reprText x).length<=1000000
  ·rw[if_pos hi] at p
   exact PySem.P.repr_of_str ⟨.str _,H,I.tok _,⟨_,rfl⟩,Gs.ok (R:=Rep X.K) p rs rfl⟩ (line_le hi)
  ·rw[if_neg hi] at p; exact p.elim
 ·rename_i d n1 n2 n3 n4
  obtain⟨v,rfl,h⟩:=RepL.one r
  obtain⟨u,rfl,ru⟩:=Vals.one rv
  cases d with
  | non=>exact absurd rfl n1
  | bl b=>exact absurd rfl (n2 b)
  | int i=>exact absurd rfl (n3 i)
  | str x=>exact absurd rfl (n4 x)
  | tup l=>obtain⟨a,xs,ev,_⟩:=Rep.tup h; exact big _ v a u h ev ru p
  | lst i=>obtain⟨a,ev,_⟩:=(show ∃ a,v=.ref a/\mp[i]?=some a from h); exact big _ v a u h ev ru p
  | exn c n=>obtain⟨a,dx,_,ev,_⟩:=(show ∃ a dx p,v=.ref a/\(CN X.K c p/\XCl X.K p/\H a=some (XO a p dx))/\∀ i,n=some i->∃ d,dx=some d/\H d=some (XA d i) from h); exact big _ v a u h ev ru p
  | fv c=>obtain⟨a,ev,_⟩:=(show ∃ a,v=.ref a/\CN X.K c a from h); exact big _ v a u h ev ru p
 ·exact p.elim
theorem Gp3{k:Nat}{p pos:Pos}{e:Expr}{f:Ev (List D)}(hr:Room k X.A)(hg:Gl X "repr")(hm:X.mg "repr"=none)(ha:JA X XQ [e] f)(he:starEach [e] X.env=(false,eval e X.env)::starEach [] X.env:=by rfl):JE X XQ (.Call (.Name "repr" p) [e] [] pos) (b1 Qg f):=Gp0 (Gp2 hr) Gp1 hg hm (by rfl) ha (he:=he)
end
end DL
namespace DL
open PySem
variable{es:List Expr}{env:PySem.Env}
theorem Gb{c j p}:starEach (.Constant c j p::es) env=(false,eval (.Constant c j p) env)::starEach es env:=rfl
theorem Gc{x p}:starEach (.Name x p::es) env=(false,eval (.Name x p) env)::starEach es env:=rfl
theorem Hn{a b p}:starEach (.Tuple a b p::es) env=(false,eval (.Tuple a b p) env)::starEach es env:=rfl
theorem Gbd{a p}:starEach (.List a p::es) env=(false,eval (.List a p) env)::starEach es env:=rfl
theorem Hc{f a k p}:starEach (.Call f a k p::es) env=(false,eval (.Call f a k p) env)::starEach es env:=rfl
theorem Gk{a b p}:starEach (.Subscript a b p::es) env=(false,eval (.Subscript a b p) env)::starEach es env:=rfl
theorem Hm{a o b p}:starEach (.BinOp a o b p::es) env=(false,eval (.BinOp a o b p) env)::starEach es env:=rfl
theorem Gdh{o a p}:starEach (.UnaryOp o a p::es) env=(false,eval (.UnaryOp o a p) env)::starEach es env:=rfl
theorem Qw{a o b p}:starEach (.Compare a o b p::es) env=(false,eval (.Compare a o b p) env)::starEach es env:=rfl
theorem Gl4{a b c p}:starEach (.IfExp a b c p::es) env=(false,eval (.IfExp a b c p) env)::starEach es env:=rfl
end DL
namespace DL
open PySem PySem.Spec PyProof.Rows L2
variable{h base:Heap}{x y qual:Str}{ps N N' sub:List Str}{f fa fb fo:Ev D}{oc doc pm cdv ct v u:Value}{od dx:Option Addr}{osl:Array (Option Value)}{fn:Fn}{j k n i cj:Nat}{p pos pos' py spos p2 np cpos apos hpos npos:Pos}{es ifs:List Expr}{t:Ev (List D)}{s:Shared}{P:Program}{H2 H H1:Hp}{C:Addr}{scope:Scope}{c:List (Str×Addr)}{fp:List Addr}{elt tg iter a b o ar:Expr}{pk:List (Option Nat)}{K:PySem.W.Frag}{w:World}{A:Around}{Q:Value->Shared->Prop}{X:Cx}{pins:List (Addr×Obj)}{σ:L2.St}{tk:Tok}{vs:Array Value}{us bm:List Value}{XQ:XW}{pl:Sem Bool}{oI oe:Obj}{T:String}{φ:Heap->Prop}{fd:FuncData}{sp:Sp}{body:List Stmt}{mg m:Str->Option Value}
structure Cal(P:Program)(w:World)(K:PySem.W.Frag)(mg:Str->Option Value)(base:Heap)(x:Str)(ps:List Str)(fn:Fn)(j:Nat):Prop where
 ex:∃ f fd,FnOk P w K mg base CX0 j f fd ps (spD K ps.length fn)/\mg x=some (.ref f)/\PySem.W.keepIn K (.ref f)=true/\Binds K fd ps []
structure Dn(K:PySem.W.Frag)(mg:Str->Option Value)(x:Str)(st:Stmt)(ps:List Str):Prop where
 ex:∃ f fd,Fun K x x st f fd/\mg x=some (.ref f)/\Binds K fd ps []
section
variable{P:Program}{w:World}{K:PySem.W.Frag}{mg:Str->Option Value}{base:Heap}
theorem Gym{st:Stmt}{f:Addr}{an:Option Addr}{kV:Value}(X:K.In h)(G:h.Ns mainGlobals mg)(a:PySem.W.nsIn K mainGlobals x=some (some (.ref f)))(l:K.lookup f=some ⟨oc,od,.func (PySem.W.fnOf x x (Jg st) (Hi st) (Gf st) .none kV doc pm an cdv ct),osl⟩)(c:PySem.W.codeIn K cdv x=true)(k:PySem.W.keepIn K (.ref f)=true)(hb:∀ (kV doc pm:Value) (an:Option Addr) (cdv ct:Value) (us:List Value),us.length=ps.length->bindArgs (PySem.W.fnOf x x (Jg st) (Hi st) (Gf st) .none kV doc pm an cdv ct) ⟨us,[]⟩=pure (ps.zip us)):Dn K mg x st ps:=
 ⟨f,_,Gbx l c k,PySem.W.mg_of X G a,(Gbx (st:=st) l c k).binds hb⟩
theorem Gvi{st:Stmt}(N:List Str)(k:Nat)(b:Sv)(hfn:fn=fnB N.length b)(d:Dn K mg x st ps)(Sc:FnScope N ps (Gf st))(hb:∀ (f:Addr) (cdv:Value) (A:Around) (outer:List PySem.Env) (s:Shared) (H:Hp) (E:XK),Room k (A.deeper (envOfC x (Gf st) s.heap.objs.size f cdv))→
   JSs (Vd CX0 P w K mg base N x (Gf st) f cdv A outer s H E).nox XN (Hi st) b):Cal P w K mg base x ps fn (k+1):=by
 subst hfn
 obtain⟨f,fd,F,hm,hbi⟩:=d.ex
 exact⟨f,fd,Gry F Sc (hb f),hm,F.kp,hbi⟩
end
section
variable{X:Cx}{XQ:XW}
theorem Gvj{e:Expr}(C:Cal X.prog X.w X.K X.mg X.base x ps fn j)(hr:Room k X.A)(ha:JA X XQ (e::es) t)(hn:ps.length=n)(hj:j<=k:=by decide)(hg:Gl X x:=by rfl)(hdb:(x==("__debug__":Str))=false:=by decide)(he:starEach (e::es) X.env=(false,eval e X.env)::starEach es X.env:=by rfl)(hpl:(backTo pos (starEach es X.env)).any (·.1)=false:=by rfl):
  JE X XQ (.Call (.Name x p) (e::es) [] pos) (cl n (Gm fn) t):=by
 subst hn
 obtain⟨f,fd,F,hm,hk,hb⟩:=C.ex
 exact Gph F hr hj hg hm hk hb ha hdb he hpl
theorem Gh6{v:V}{d:D}(hm:X.mg x=some u)(r:Hq v u)(rep:∀ mp H,Rep X.K mp H d v)(hg:Gl X x)(hd:(x==("__debug__":Str))=false):JE X XQ (.Name x pos) (cn d):=Xz (Gfk hg hm r hd) rep
def Hf(x:Str):Bool:=!(x==("__debug__":Str))&&!(x==("__classdict__":Str))
def okV(sc:Scope)(x:Str):Bool:=(match sc.names.lookup x with
 | some .local=>true
 | some .cell=>true
 | some .free=>true
 | _=>false)&&Hf x
def okL(sc:Scope)(x:Str):Bool:=match sc.names.lookup x with
 | some .local=>true
 | some .cell=>true
 | _=>false
def okG(sc:Scope)(x:Str):Bool:=(match sc.names.lookup x with
 | some .globalImplicit=>true
 | _=>false)&&Hf x
theorem Hf.of(h:Hf x=true):(x==("__debug__":Str))=false/\(x==("__classdict__":Str))=false:=by
 unfold Hf at h
 rw[Bool.and_eq_true] at h
 exact⟨by simpa using h.1,by simpa using h.2⟩
theorem okV.vis{sc:Scope}(h:okV sc x=true):Vis sc x/\Hf x=true:=by
 unfold okV at h
 rw[Bool.and_eq_true] at h
 refine⟨?_,h.2⟩
 have h:=h.1
 split at h
 ·rename_i e; exact .inl e
 ·rename_i e; exact .inr (.inl e)
 ·rename_i e; exact .inr (.inr e)
 ·cases h
theorem okL.loc{sc:Scope}(h:okL sc x=true):Loc sc x:=by
 unfold okL at h
 split at h
 ·rename_i e; exact .inl e
 ·rename_i e; exact .inr e
 ·cases h
theorem okG.gl{sc:Scope}(h:okG sc x=true):sc.names.lookup x=some .globalImplicit/\Hf x=true:=by
 unfold okG at h
 rw[Bool.and_eq_true] at h
 refine⟨?_,h.2⟩
 have h:=h.1
 split at h
 ·rename_i e; exact e
 ·cases h
structure OkV(sc:Scope)(x:Str):Prop where
 h:okV sc x=true
structure OkL(sc:Scope)(x:Str):Prop where
 h:okL sc x=true
structure OkC(sc:Scope)(x:Str):Prop where
 h:sc.names.lookup x=some .local
structure OkG(sc:Scope)(x:Str):Prop where
 h:okG sc x=true
theorem kdV{s:Scope}(h:okV s x=true:=by decide +kernel):OkV s x:=⟨h⟩
theorem kdL{s:Scope}(h:okL s x=true:=by decide +kernel):OkL s x:=⟨h⟩
theorem kdG{s:Scope}(h:okG s x=true:=by decide +kernel):OkG s x:=⟨h⟩
theorem kdS{P:List Str}{s:Scope}(a:s.kind=.function:=by rfl)(b:s.isCoroutine=false:=by rfl)(c:s.isGenerator=false:=by rfl)(d:N.Nodup:=by decide +kernel)(e:N.take P.length=P:=by rfl)(f:∀ x∈P,s.names.lookup x=some .local\/s.names.lookup x=some .cell:=by decide +kernel)(g:∀ y∈s.names,y.2≠.free:=by decide +kernel):FnScope N P s:=⟨a,b,c,d,e,f,g⟩
theorem jv(i:Nat)(h:OkV X.env.scope x)(hN:X.N[i]?=some x:=by rfl):JE X XQ (.Name x pos) (vr i):=Gln i hN (okV.vis h.h).1 (Hf.of (okV.vis h.h).2).1 (Hf.of (okV.vis h.h).2).2
theorem gl(h:OkG X.env.scope x):Gl X x:=(okG.gl h.h).1
theorem jgn(i:Nat)(hN:X.N.Nodup)(h:OkL X.env.scope x)(hi:X.N[i]?=some x:=by rfl)(hf:X.fn x=true:=by rfl):JG X (.Name x pos) (gn i):=Gfs i hN hi (okL.loc h.h) (.inl hf)
theorem jset(i:Nat){e:Expr}(hN:X.N.Nodup)(h:OkL X.env.scope x)(he:JE X XQ e f)(hi:X.N[i]?=some x:=by rfl)(hs:swapsWith e (some (.Name x pos')) pos.line X.env=pure false:=by rfl)(hf:X.fn x=true:=by rfl):
  JS X XQ (.Assign [.Name x pos'] e pos) (sa f (gn i)):=Guj i hN he hi (okL.loc h.h) hs (.inl hf)
theorem jown{e:Expr}(C:Cal X.prog X.w X.K X.mg X.base x ps fn j)(hr:Room k X.A)(hg:Gl X x)(hp:Hf x=true)(ha:JA X XQ (e::es) t)(hn:ps.length=n:=by rfl)(hj:j<=k:=by decide)(he:starEach (e::es) X.env=(false,eval e X.env)::starEach es X.env:=by rfl)(hpl:(backTo pos (starEach es X.env)).any (·.1)=false:=by rfl):
  JE X XQ (.Call (.Name x p) (e::es) [] pos) (cl n (Gm fn) t):=Gvj C hr ha hn hj hg (Hf.of hp).1 he hpl
def Gl5(sc:Scope)(x:Str):Bool:=(match sc.names.lookup x with
 | some .local=>true
 | some .cell=>true
 | some .free=>true
 | _=>false)&&Hf x
theorem Jr{scope:Scope}{env:PySem.Env}{x:Str}{k:NameKind}(hk:k≠.free):∀ (names:List (Str×NameKind)),names.lookup x=some k->(names.map fun(n,k)=>if(k==NameKind.free&&env.scope.kind==.function&&env.kindOf n==some .cell)=true then(n,NameKind.cell) else(n,k)).lookup x=some k
 | [],h=>by simp at h
 | (n,k')::r,h=>by
  rw[List.map_cons]
  by_cases hx:(x==n)=true
  ·rw[List.lookup_cons,hx] at h
   have:k'=k:=by simpa using h
   subst this
   have hb:(k'==NameKind.free)=false:=by simpa using hk
   simp only[hb,Bool.false_and,Bool.false_eq_true,if_false,List.lookup_cons,hx]
  ·have hx:(x==n)=false:=by simpa using hx
   rw[List.lookup_cons,hx] at h
   have:=Jr (scope:=scope) (env:=env) hk r h
   by_cases hq:(k'==NameKind.free&&env.scope.kind==.function&&env.kindOf n==some .cell)=true
   ·simpa only[hq,if_true,List.lookup_cons,hx] using this
   ·simpa only[hq,Bool.false_eq_true,if_false,List.lookup_cons,hx] using this
theorem Gfz{s2:Shared}(h:Gl5 scope x=true):Vis (blk X s2 H2 C scope c N' fp).env.scope x/\Hf x=true:=by
 unfold Gl5 at h
 rw[Bool.and_eq_true] at h
 refine⟨?_,h.2⟩
 have h:=h.1
 split at h
 ·rename_i e; exact .inl (lookup_relabel_local e)
 ·rename_i e; exact .inr (.inl (Jr (scope:=scope) (env:=X.env) (by decide) scope.names e))
 ·rename_i e; exact .inr (Qj (scope:=scope) (env:=X.env) scope.names e)
 ·cases h
theorem jvB(i:Nat){s2:Shared}(h:Gl5 scope x=true)(hN:N'[i]?=some x:=by rfl):JE (blk X s2 H2 C scope c N' fp) XQ (.Name x pos) (vr i):=
 Gln i hN (Gfz h).1 (Hf.of (Gfz (X:=X) (s2:=s2) (H2:=H2) (C:=C) (c:=c) (N':=N') (fp:=fp) h).2).1 (Hf.of (Gfz (X:=X) (s2:=s2) (H2:=H2) (C:=C) (c:=c) (N':=N') (fp:=fp) h).2).2
theorem glB{s2:Shared}(h:okG scope x=true):Gl (blk X s2 H2 C scope c N' fp) x:=
 Jr (scope:=scope) (env:=X.env) (by decide) scope.names (okG.gl h).1
def Gp4(sc:Scope)(x:Str):Bool:=match sc.names.lookup x with
 | some .local=>true
 | some .cell=>true
 | _=>false
theorem Haw(i:Nat){s2:Shared}(hN:N'.Nodup)(h:Gp4 scope x=true)(hi:N'[i]?=some x:=by rfl):JG (blk X s2 H2 C scope c N' fp) (.Name x pos) (gn i):=by
 unfold Gp4 at h
 split at h
 ·rename_i e
  exact Gfs i hN hi (.inl (lookup_relabel_local e)) (.inr (lookup_relabel_local e))
 ·rename_i e
  exact Gfs i hN hi (.inr (Jr (scope:=scope) (env:=X.env) (by decide) scope.names e)) (.inl (by show(scope.names.lookup x==some NameKind.cell)=true; rw[e]; rfl))
 ·cases h
theorem Gl6(i:Nat){sc:Scope}{f:Ev Src}{g:Tg}{t:Ev Bool}{e:Ev D}(hsc:X.env.scope=sc)(hNN:X.N=N)(ct:CompTab sc scope N N' pk)(hcm:X.calm=true)(hi:JI X XQ tg iter f)(hg:∀ cl s2 H2 C fp,JG (blk X s2 H2 C scope cl N' fp) tg g)(ht:∀ cl s2 H2 C fp,JTs (blk X s2 H2 C scope cl N' fp) XN ifs t)(he:∀ cl s2 H2 C fp,JE (blk X s2 H2 C scope cl N' fp) XN elt e)(hN:X.N.Nodup)(hl:OkL X.env.scope y)(hsw:swapsWith (.ListComp elt [⟨tg,iter,ifs,0⟩] scope pos) (some (.Name y py)) spos.line X.env=pure true)(hy:X.N[i]?=some y:=by rfl)(hs:∀ x,foldedSetIterable iter X.env x=pure x:=by intro _; rfl)(hf:X.fn y=true:=by rfl):
  JS X XQ (.Assign [.Name y py] (.ListComp elt [⟨tg,iter,ifs,0⟩] scope pos) spos) (sa (cmp f pk g t e) (gn i)):=by
 subst hsc hNN
 exact Gh4 i ct hcm hi hg ht he hN hy (okL.loc hl.h) hsw hs (.inl hf)
end
section
variable{X:Cx}{XQ:XW}
theorem Gvk{j:Int}(h1:0<j)(h2:j<2^200):j.natAbs.log2<9000:=by
 have h3:j.natAbs<2^200:=by omega
 exact Nat.lt_of_lt_of_le ((Nat.log2_lt (by omega)).mpr h3) (by decide)
theorem Gl7:OpR X (binaryOp .FloorDiv) (rI (fun _ j=>0<j/\j<2^200) fun i j=>.int (i / j)):=opI fun i j _ _ _ _ _ hc q=>by
 have h1:(0:Int)<j:=hc.1
 have h2:j<2^200:=hc.2
 exact floordiv_int (by omega) (by rw[Int.fdiv_eq_ediv_of_nonneg i (by omega)]; exact q) (.inl (PyProof.noPylong_of_log2 (Gvk h1 h2)))
abbrev We:=i2 (fun _ j=>decide (0<j/\j<2^200)) fun i j=>.int (i / j)
theorem Gp5(ha:JE X XQ a fa)(hb:JE X XQ b fb):JE X XQ (.BinOp a .FloorDiv b pos) (o2 We fa fb):=Ge9 Gl7 (Gfv (fun _ j h=>(of_decide_eq_true h:0<j/\j<2^200)) fun _ _ _ _=>rfl) ha hb
def Gdi:List D->Option (List Int)
 | []=>some []
 | .int i::r=>(Gdi r).map (i::·)
 | _::_=>none
def Gyn(x:D)(S:Sto):Option (List D):=match x with
 | .tup l=>some l
 | .lst i=>(S[i]?).map (·.xs)
 | _=>none
def Hax(xs:List D)(S:Sto):Out D:=match xs with
 | [x]=>match (Gyn x S).bind Gdi with
  | some ns=>.ok (.int ns.sum) S
  | none=>.bad
 | _=>.bad
def Hay(xs:List D)(S:Sto):Out D:=match xs with
 | [.int i,.int j]=>.ok (.int (if j>i then j else i)) S
 | _=>.bad
def sag(i:Nat)(g:Int->Int->Int)(f:Ev D):Sv:=fun ρ S=>match ρ[i]? with
 | some (some (.int a))=>bindS (f ρ S) ρ fun d S1=>match d with
  | .int b=>.nx (ρ.set i (some (.int (g a b)))) S1
  | _=>.bad
 | _=>.bad
theorem Haz{g:Int->Int->Int}(E:Ends)(σ:L2.St)(H:Hp)(h:rdS K XQ (sag i g f) E σ H):Gxn i (rdE K XQ f) (ipI g) E σ H:=by
 obtain⟨mp,ρ,S,G,p⟩:=h
 unfold sag at p
 split at p
 ·rename_i a z
  obtain⟨v,e1,r⟩:=G.loc i _ z
  cases (show v=.int a from r)
  refine⟨_,e1,bindSP G p fun mp1 H1 d S1 v a1 G1 r1 p1=>?_⟩
  cases d with
  | int b=>
   cases (show v=.int b from r1)
   exact⟨a,b,rfl,rfl,PostS.nx p1 (G1.set i rfl)⟩
  | _=>exact(show False from p1).elim
 ·exact p.elim
theorem Gvl(i:Nat){e:Expr}(hN:X.N.Nodup)(h:OkL X.env.scope x)(he:JE X XQ e f)(hi:X.N[i]?=some x:=by rfl)(hf:X.fn x=true:=by rfl):JS X XQ (.AugAssign (.Name x pos') .Add e pos) (sag i (fun a b=>a+b) f):=
 PS.mono (Gtc hN hi (okL.loc h.h) he Gtd (.inl hf)) Haz
end
theorem Gbe{prog:Program}{E:Value->Shared->Prop}{t sl:Addr}{items:Array Value}{vl vu:Value}{lo hi:Option Int}(ht:IsTup s.heap t items)(hs:s.heap.IsSliceOf sl vl vu .none)(pl:IsPart vl lo)(pu:IsPart vu hi)(hw:HT.sIx items.size 0 lo=0/\HT.sIx items.size items.size hi=items.size)(h:Q (.ref t) s):wpAny (model prog w) A (getItem (.ref t) (.ref sl)) Q E s:=by
 obtain⟨os,hos,hcs,hds⟩:=id hs
 have hTs:s.TypeIs (.ref sl) "slice":=⟨os,hos,hcs⟩
 unfold getItem
 try with_reducible refine wpAny_holding ?_
 first | refine wpAny_bind (wpAny_pure ?_) | skip
 refine wpAny_bind (wpAny_sequenceKey ht.typeIs (by decide) ?_)
 refine wpAny_bind (wpAny_callSpecial?_slot (name:=Str.ofString "__getitem__") ht.typeIs PyProof.Rows.slot_tuple_getitem
  (wpAny_call_entry PyProof.Rows.slot_tuple_getitem ht.typeIs entry_tuple_getitem ?_ (args_tuple_getitem _ _)))
 show wpAny _ _ (Builtin.Tuple.tupleItemsOf (.ref t) >>= _) _ _ s
 refine wpAny_bind (tupleItemsOf_ ht ?_)
 refine wpAny_bind (wpAny_typeOf hTs ?_)
 rw[if_pos (by decide)]
 refine wpAny_bind (HT.Xy hs pl pu ?_)
 show wpAny _ _ (if(((HT.sIx items.size 0 lo:Nat):Int)==0&&(1:Int)==1&&(HT.sIx items.size items.size hi-HT.sIx items.size 0 lo)==items.size)=true then _ else _) _ _ s
 rw[if_pos (by rw[hw.1,hw.2]; simp)]
 unfold Builtin.Tuple.tupleIsExact
 refine wpAny_bind (wpAny_bind (wpAny_typeOf ht.typeIs (wpAny_pure ?_)))
 rw[if_pos (by decide)]
 exact wpAny_bind (wpAny_rule (wpAny_pure ⟨_,rfl,wpAny_pure h⟩))
section
variable{X:Cx}{XQ:XW}
def Ha0(K:PySem.W.Frag):V->Option Int->Option Int->Hp->VK->Prop:=fun x lo hi H Q=>∃ a xs,x=.ref a/\SqT K H a xs/\(HT.sIx xs.length 0 lo=0/\HT.sIx xs.length xs.length hi=xs.length)/\Q (.ref a) H
theorem Gvm:SlR X (Ha0 X.K):=by
 intro pins s σ H x v vl vu lo hi sl Q I rx hs pl pu h
 obtain⟨a,xs,rfl,hx,hw,q⟩:=h
 cases rx
 obtain⟨its,r,ht,hz⟩:=I.tuple hx
 have hlen:its.toArray.size=xs.length:=by rw[List.size_toArray]; exact r.length.symm
 refine⟨"tuple",_,PyProof.Rows.slot_tuple_getitem.lookup,ht.typeIs,?_⟩
 exact Gbe ht hs pl pu (by rw[hlen]; exact hw) ⟨.ref a,H,I,rfl,q⟩
def Gbf(x:D)(lo hi:Option Int)(S:Sto):Out D:=match x with
 | .tup l=>if HT.sIx l.length 0 lo=0/\HT.sIx l.length l.length hi=l.length then .ok (.tup l) S else .ok (.tup (Qk l lo hi)) S
 | .lst i=>match S[i]? with
  | some c=>.ok (.lst S.length) (S++[⟨false,Qk c.xs lo hi⟩])
  | none=>.bad
 | _=>.bad
def sl2(fe:Ev D)(fl fh:Ev (Option Int)):Ev D:=fun ρ S=>(fe ρ S).bind fun x S1=>(fl ρ S1).bind fun l S2=>(fh ρ S2).bind fun u S3=>Gbf x l u S3
theorem Gkj{e:Expr}{lo hi:Option Expr}{fe:Ev D}{fl fh:Ev (Option Int)}(he:JE X XQ e fe)(hl:JO X XQ lo fl)(hh:JO X XQ hi fh):JE X XQ (.Subscript e (.Slice lo hi none p2) pos) (sl2 fe fl fh):=by
 refine PE.mono (Glh ((Go5.or Gtu).or Gvm) he hl hh) fun σ H Q ⟨mp,ρ,S,G,p⟩=>?_
 refine bindP G p fun mp1 H1 x S1 v a1 G1 r1 p1=>?_
 refine bindP G1 p1 fun mp2 H2 l S2 l' a2 G2 r2 p2=>?_
 refine bindP G2 p2 fun mp3 H3 u S3 u' a3 G3 r3 p3=>?_
 cases (show l'=l from r2)
 cases (show u'=u from r3)
 have r1:=Rep.aft (a2.trans a3) _ _ r1
 cases x with
 | tup ds=>
  have p3:Post X.K XQ σ ρ mp3 H3 (if HT.sIx ds.length 0 l=0/\HT.sIx ds.length ds.length u=ds.length then .ok (.tup ds) S3 else .ok (.tup (Qk ds l u)) S3) Q:=p3
  obtain⟨a,xs,rfl,sq,q⟩:=Rep.tup r1
  by_cases hw:HT.sIx ds.length 0 l=0/\HT.sIx ds.length ds.length u=ds.length
  ·rw[if_pos hw] at p3
   exact .inr ⟨a,xs,rfl,sq,by rw[q.len]; exact hw,Gs.ok (R:=Rep X.K) p3 G3.rs r1⟩
  ·rw[if_neg hw] at p3
   exact .inl (.inr ⟨a,xs,rfl,sq,by rw[q.len]; exact hw,fun t ht=>Zn p3 G3.rs (q.cut l u) ht⟩)
 | lst i=>
  have p3:Post X.K XQ σ ρ mp3 H3 (match S3[i]? with | some c=>.ok (.lst S3.length) (S3++[⟨false,Qk c.xs l u⟩]) | none=>.bad) Q:=p3
  cases zc:S3[i]? with
  | none=>rw[zc] at p3; exact p3.elim
  | some c=>
   rw[zc] at p3
   obtain⟨a,xs,rfl,_,sq,q,_⟩:=G3.rs.items r1 zc
   exact .inl (.inl ⟨a,xs,rfl,sq,fun t ht=>Ya p3 G3.rs (q.cut l u) ht⟩)
 | _=>exact(show False from p3).elim
end
theorem turnedL{g:Heap}{tk:Nat}{ch:List Addr}(I:Inv X pins σ H s)(k:∀ b o,b∉ch->s.heap.get? b=some o->g.get? b=some o)(hf:∀ b∈ch,Ged X pins H b):Inv X pins σ H { s with heap:=g,toks:=tk }:=by
 have nit:∀ b u,H b=some u->b∉ch:=fun b u e z=>by have:=(hf b z).1; rw[this] at e; cases e
 refine I.step (g':=s.gens) (d':=s.drawn) (ch:=ch) (fun b hb=>?_) (fun b o _ _ hc e _=>k b o hc e) (fun b o _ _ hc e _=>⟨o.slots,k b o hc e⟩) (fun _ _ _ _ n=>n)
  (fun b o hc e=>⟨o,k b o hc e⟩) (fun _ _ e=>e) (fun _ _ _ e=>e) (fun b ps e=>⟨#[],by rw[e]; simp⟩) (fun m hm=>?_) (fun b u e=>?_) I.bare
 ·obtain⟨f0,f1,f2,f3,f4,f5⟩:=hf b hb
  exact⟨f3,f1,f4,f5⟩
 ·obtain⟨o,es,ep,ho,r⟩:=hm
  exact⟨o,es,ep,k _ o (fun z=>(hf _ z).2.1 rfl) ho,r⟩
 ·refine(I.hok b u e).stay (fun c v hc q=>k c v ?_ q) (fun _ q=>q) fun _ _ q=>q
  rcases hc with z | z
  ·rw[z]; exact nit b u e
  ·exact nit c _ z
theorem Gg6{g:Heap}{tk:Nat}{ch:List Addr}{vs:List V}(I:Inv X pins σ H s)(hn:H s.heap.objs.size=none)(hz:vs.length<=sizeLine)(rv:Vals vs us)(tt:g.get? s.heap.objs.size=some { cls:=.type "tuple",data:=.seq us.toArray })(k:∀ b o,b∉ch->s.heap.get? b=some o->g.get? b=some o)(hf:∀ b∈ch,Ged X pins H b)(ltf:∀ b∈ch,b≠s.heap.objs.size):
  Inv X pins σ (upd H s.heap.objs.size (.tup vs)) { s with heap:=g,toks:=tk }:=by
 have I1:Inv X pins σ (upd H s.heap.objs.size (.tup vs)) { s with heap:=s.heap.push { cls:=.type "tuple",data:=.seq us.toArray } }:=
  I.laid (t':=s.toks) (fun b o e=>Heap.get?_push_of_some _ e) (Nat.le_refl _) (show Jz X.prog X.w _ _ _ (.tup vs) from⟨hz,us,rv,IsTup.new _ _⟩)
 refine turnedL (ch:=ch) (s:={ s with heap:=s.heap.push { cls:=.type "tuple",data:=.seq us.toArray } }) I1 (fun b o hb e=>?_) fun b hb=>?_
 ·by_cases hs:b=s.heap.objs.size
  ·subst hs
   rw[Heap.get?_push_size _ rfl] at e
   cases e
   exact tt
  ·have:s.heap.get? b=some o:=by
    rcases Heap.get?_push_cases e with⟨z,_⟩ | z
    ·exact absurd z hs
    ·exact z
   exact k b o hb this
 ·obtain⟨f0,f⟩:=hf b hb
  exact⟨by rw[Hb (ltf b hb)]; exact f0,f⟩
structure Za(z ti to' i j a b:Addr):Prop where
 q1:ti≠z
 q2:to'≠z
 q3:i≠z
 q4:j≠z
 q5:ti≠to'
 q6:ti≠i
 q7:ti≠j
 q8:to'≠i
 q9:to'≠j
 q10:i≠j
 q11:a≠z
 q12:a≠to'
 q13:a≠i
 q14:a≠j
 q15:b≠z
 q16:b≠to'
 q17:b≠i
 q18:b≠j
section
variable{X:Cx}{XQ:XW}
def rvD(x:D)(st:Option Int)(S:Sto):Out D:=match x,st with
 | .tup l,some (-1)=>.ok (.tup l.reverse) S
 | _,_=>.bad
def rv(fe:Ev D)(fs:Ev (Option Int)):Ev D:=fun ρ S=>(fe ρ S).bind fun x S1=>(fs ρ S1).bind fun o S2=>rvD x o S2
end
def Gdj:D->Bool
 | .tup _=>false
 | .lst _=>false
 | .exn _ _=>false
 | .fv _=>false
 | _=>true
def toV:D->V
 | .bl b=>.bl b
 | .int i=>.int i
 | .str s=>.str s
 | _=>.non
def memD(x:D)(l:List D):Bool:=l.any fun y=>eqV (toV y) (toV x)
def Gdk(y:D)(S:Sto):Option (List D):=match y with
 | .tup l=>some l
 | .lst i=>(S[i]?).map (·.xs)
 | _=>none
def Gl8(neg:Bool)(x y:D)(S:Sto):Out D:=match Gdk y S with
 | some l=>if Gdj x=true/\l.all Gdj=true then .ok (.bl (if neg=true then !memD x l else memD x l)) S else .bad
 | none=>.bad
abbrev inD:=Gl8 false
section
variable{K:PySem.W.Frag}{mp:List Addr}{H:Hp}
theorem Gg7{d:D}{v:V}(h:Rep K mp H d v)(f:Gdj d=true):v=toV d/\Zm v=true:=by
 cases d with
 | non=>cases (show v=.non from h); exact⟨rfl,rfl⟩
 | bl b=>cases (show v=.bl b from h); exact⟨rfl,rfl⟩
 | int i=>cases (show v=.int i from h); exact⟨rfl,rfl⟩
 | str s=>cases (show v=.str s from h); exact⟨rfl,rfl⟩
 | tup l=>cases f
 | lst i=>cases f
 | exn c n=>cases f
 | fv c=>cases f
theorem Gfb:∀ {l:List D} {vs:List V},RepL K mp H l vs->l.all Gdj=true->vs=l.map toV/\vs.all Zm=true
 | [],vs,h,_=>by cases (show vs=[] from h); exact⟨rfl,rfl⟩
 | d::l,vs,h,f=>by
  obtain⟨v,r,rfl,h1,h2⟩:=(show ∃ v r,vs=v::r/\Rep K mp H d v/\RepL K mp H l r from h)
  rw[List.all_cons,Bool.and_eq_true] at f
  obtain⟨a1,a2⟩:=Gg7 h1 f.1
  obtain⟨b1,b2⟩:=Gfb h2 f.2
  exact⟨by rw[List.map_cons,<- a1,<- b1],by rw[List.all_cons,a2,b2]; rfl⟩
theorem Gyo(neg:Bool):OpD K (rIn K neg) (Gl8 neg):=by
 intro XQ σ ρ mp H S x y v u Q rs rx ry p
 unfold Gl8 at p
 cases z:Gdk y S with
 | none=>rw[z] at p; exact p.elim
 | some l=>
  rw[z] at p
  by_cases h:Gdj x=true/\l.all Gdj=true
  ·simp only[if_pos h] at p
   obtain⟨a1,a2⟩:=Gg7 rx h.1
   have fin:∀ xs,RepL K mp H l xs->xs.all Zm=true/\Q (.bl (if neg=true then !inV v xs else inV v xs)) H:=fun xs q=>by
    obtain⟨b1,b2⟩:=Gfb q h.2
    refine⟨b2,?_⟩
    have e:inV v xs=memD x l:=by
     rw[a1,b1]
     unfold inV memD
     rw[List.any_map]
     rfl
    rw[e]
    exact Gs.ok (R:=Rep K) p rs rfl
   cases y with
   | tup l'=>
    cases (Option.some.inj z)
    obtain⟨a,xs,rfl,s1,q1⟩:=Rep.tup ry
    obtain⟨b2,q⟩:=fin xs q1
    exact⟨a,xs,rfl,.inr s1,a2,b2,q⟩
   | lst i=>
    cases e:S[i]? with
    | none=>rw[show Gdk (.lst i) S=(S[i]?).map (·.xs) from rfl,e] at z; cases z
    | some c=>
     rw[show Gdk (.lst i) S=(S[i]?).map (·.xs) from rfl,e] at z
     cases (Option.some.inj z)
     obtain⟨a,xs,rfl,_,sq,q1,_⟩:=rs.items ry e
     obtain⟨b2,q⟩:=fin xs q1
     exact⟨a,xs,rfl,.inl sq,a2,b2,q⟩
   | _=>cases z
  ·simp only[if_neg h] at p; exact p.elim
end
theorem Gyp(ha:JE X XQ a fa)(hb:JE X XQ b fb)(hm:behindInMarks .In b=false:=by rfl):JT X XQ (.Compare a [.In] [b] pos) (tb (o2 inD fa fb)):=Gdf Gkd (Gyo false) ha hb hm
section
variable{X:Cx}{XQ:XW}
inductive JFs(X:Cx)(XQ:XW):List Expr->List (Ev D)->Prop
 | nil:JFs X XQ [] []
 | cons {e:Expr} {f:Ev D} {es:List Expr} {fs:List (Ev D)}:JE X XQ e f->JFs X XQ es fs->JFs X XQ (e::es) (f::fs)
end
structure Zb(z ti to' i j l a b c:Addr):Prop where
 tz:ti≠z
 oz:to'≠z
 iz:i≠z
 jz:j≠z
 lz:l≠z
 t_o:ti≠to'
 t_i:ti≠i
 t_j:ti≠j
 t_l:ti≠l
 oi:to'≠i
 oj:to'≠j
 ol:to'≠l
 ij:i≠j
 il:i≠l
 jl:j≠l
 az:a≠z
 ao:a≠to'
 ai:a≠i
 aj:a≠j
 al:a≠l
 bz:b≠z
 bo:b≠to'
 bi:b≠i
 bj:b≠j
 bl:b≠l
 cz:c≠z
 co:c≠to'
 ci:c≠i
 cj:c≠j
 cl:c≠l
section
open Builtin Builtin.Str
variable{prog:Program}{w:World}{A:Around}{E:Value->Shared->Prop}{s:Shared}
end
section
variable{X:Cx}{XQ:XW}
variable{a b:Expr}{fa fb:Ev D}{pos:Pos}
end
def Iel(K:PySem.W.Frag)(a:Addr):It:=
 ⟨fun i H=>∃ xs x,SqL K H a xs/\xs[i]?=some x,fun i H x H'=>∃ y p,(∀ xs,SqL K H a xs->xs[i]?=some y)/\H p=none/\x=.ref p/\H'=upd H p (.tup [.int i,y]),fun i H=>∃ xs,SqL K H a xs/\xs.length<=i⟩
theorem Gh7{x1}(a it e:Addr)(ne:e≠it):
  Turn P w K (.Tuple es x1 pos) (Iel K a) [e,it] e (fun i h=>(∃ old,IsEnum h e it i old)/\h.IsListIter it a i) where
 mem:=by simp
 obj:=fun i h ⟨⟨old,st⟩,o,e1,c,d⟩ b hb=>by
  rcases List.mem_cons.mp hb with rfl | hb
  ·exact⟨_,st,fun v z=>by
    have z':Data.fields _=Data.cell v:=z
    cases z'⟩
  ·have eb:b=it:=by simpa using hb
   subst eb
   exact⟨o,e1,fun v z=>by rw[d] at z; cases z⟩
 keep:=fun i h h' ⟨⟨old,st⟩,ti⟩ k=>⟨⟨old,k e (by simp) _ st⟩,ti.at fun o e1=>k it (by simp) o e1⟩
 item:=by
  intro X hP hw hK hc i pins s σ H E I hf ⟨⟨old,st⟩,ti⟩ hg
  subst hP hw hK
  obtain⟨xs,x,hq,hx⟩:=hg
  obtain⟨its,rv,p,hz⟩:=I.list hq
  obtain⟨u,hu,ru⟩:=rv.get hx
  have hn:H s.heap.objs.size=none:=I.hok.fresh (Nat.le_refl _)
  refine wpAny_pyNext_enum_item st ti p.isList (x:=u) (by simpa using hu) ne fun g oe ti' tt _ kk=>?_
  refine⟨_,rfl,wpAny_letOwnedTupleGo_enum oe fun g2 e2 b2=>?_⟩
  have kk2:∀ b o,b∉[e,it]->s.heap.get? b=some o->g2.get? b=some o:=fun b o hb h1=>
   b2.extBut b o (fun z=>hb (by simp[z])) (kk b o (fun z=>hb (by simp[z])) (fun z=>hb (by simp[z])) h1)
  have el:s.heap.objs.size≠e:=Nat.ne_of_gt (Heap.lt_size st)
  have tt2:g2.get? s.heap.objs.size=some { cls:=.type "tuple",data:=.seq #[.int i s.toks,u] }:=b2.extBut _ _ el tt
  have ltf:∀ b∈[e,it],b≠s.heap.objs.size:=fun b hb=>by
   rcases List.mem_cons.mp hb with rfl | hb
   ·exact Ne.symm el
   ·have eb:b=it:=by simpa using hb
    subst eb
    obtain⟨o,e1,_⟩:=ti
    exact Nat.ne_of_lt (Heap.lt_size e1)
  have I2:Inv X pins σ (upd H s.heap.objs.size (.tup [.int i,x])) { s with heap:=g2,toks:=s.toks+1 }:=
   Gg6 I hn (by rw[sizeLine_eq]; simp only[List.length_cons,List.length_nil]; decide) (.cons ⟨s.toks,rfl⟩ (.cons ru .nil)) tt2 kk2 hf ltf
  exact⟨.ref s.heap.objs.size,_,I2,rfl,⟨x,_,fun ys hy=>by rw[I.list_inj hy hq]; exact hx,hn,rfl,rfl⟩,⟨⟨u,e2⟩,ti'.extBut b2.extBut (Ne.symm ne)⟩,fun b hb=>by
   rw[Hb (ltf b hb)]
   exact(hf b hb).1⟩
 done:=by
  intro X hP hw hK hc i pins s σ H E I hf ⟨⟨old,st⟩,ti⟩ hg
  subst hP hw hK
  obtain⟨xs,hq,hx⟩:=hg
  obtain⟨its,rv,p,hz⟩:=I.list hq
  have hl:=rv.length
  exact wpAny_pyNext_enum_end (I.ok.hd hc) st ti p.isList (by simp; omega) fun g eb=>⟨rfl,turnedL I (fun b o hb e1=>eb b o (fun z=>hb (by simp[z])) e1) hf⟩
 self:=fun _ _ _ _ _ ⟨⟨_,st⟩,_⟩ h=>wpAny_pyIter_enum st h
section
variable{X:Cx}{XQ:XW}
def Ha1(K:PySem.W.Frag)(ta:TA):TI:=fun σ H R=>ta σ H fun xs H1=>∃ a,xs=[.ref a]/\(∃ ys,SqL K H1 a ys)/\R (Iel K a) H1
theorem Gl9{x1}{tp:Pos}{ta:TA}(hg:Gl X "enumerate")(hm:X.mg "enumerate"=none)(ha:PA X [a] ta)(hs:starEach [a] X.env=[(false,eval a X.env)]:=by rfl):
  PI X (.Tuple es x1 tp) (.Call (.Name "enumerate" p) [a] [] pos) (Ha1 X.K ta):=by
 intro pins s σ H R I h
 refine wpAny_Call_Name_kw (Ga0 I hg hm (by rfl) ?_ (by decide) (by decide))
 refine PyProof.Rows.callWith_type1 (thn (ha pos pins s σ H _ I h) fun us s1 ⟨vs,H1,I1,r1,q1⟩=>?_) hs rfl
 obtain⟨c,e,⟨ys,hq⟩,q⟩:=q1
 subst e
 obtain⟨u,rfl,rx⟩:=Gce r1
 cases rx
 obtain⟨its,rv,pt,hz⟩:=I1.list hq
 refine call_enumerate_list pt.isList fun g e1 i1 _ kk=>?_
 refine wpAny_pyIter_enum e1 ?_
 have I2:Inv X pins σ H1 { s1 with heap:=g }:=I1.kept (t':=s1.toks) kk
 refine⟨s1.heap.objs.size+1,[s1.heap.objs.size+1,s1.heap.objs.size],_,_,H1,rfl,I2,Gh7 c s1.heap.objs.size (s1.heap.objs.size+1) (Nat.succ_ne_self _),⟨⟨.none,e1⟩,i1⟩,fun b hb=>?_,q⟩
 have hb':s1.heap.objs.size<=b:=by
  rcases List.mem_cons.mp hb with rfl | hb
  ·exact Nat.le_succ _
  ·have eb:b=s1.heap.objs.size:=by simpa using hb
   exact Nat.le_of_eq eb.symm
 exact I1.fpOk hb' (I1.hok.fresh hb')
def Wf(f:Ev (List D)):Ev Src:=fun ρ S=>(f ρ S).bind fun ds S1=>match ds with
 | [.lst i]=>match S1[i]? with
  | some c=>.ok ⟨fun k S=>(S[i]?).bind fun c=>(c.xs[k]?).map fun d=>.tup [.int k,d],c.xs.length+1⟩ S1
  | none=>.bad
 | _=>.bad
theorem Gvn{mp:List Addr}{a:Addr}(hi:mp[i]?=some a):Glr K mp H (Iel K a) (fun k S=>(S[i]?).bind fun c=>(c.xs[k]?).map fun d=>.tup [.int k,d]):=by
 intro mp' H' S' af rs k
 have hi':=af.pre i a hi
 have hl:i<S'.length:=by rw[<- rs.len]; exact(List.getElem?_eq_some_iff.mp hi').1
 have hc:S'[i]?=some S'[i]:=List.getElem?_eq_getElem hl
 obtain⟨a2,xs,e1,e2,sq,r,_⟩:=rs.items (v:=.ref a) ⟨a,rfl,hi'⟩ hc
 cases e1
 simp only[hc,Option.bind_some]
 cases z:(S'[i]).xs[k]? with
 | none=>
  refine⟨xs,sq,?_⟩
  rw[r.len]
  exact List.getElem?_eq_none_iff.mp z
 | some d=>
  obtain⟨v,e,q⟩:=r.get z
  refine⟨⟨xs,v,sq,e⟩,fun x H2 ⟨y,p,h2,h3,h4,h5⟩=>?_⟩
  have h2:=h2 xs sq
  rw[e] at h2
  cases h2
  subst h4 h5
  have af2:Aft K mp' H' mp' (upd H' p (.tup [.int k,v])):=Vt h3
  exact⟨af2,rs.new h3,p,_,rfl,SqT.of upd_same,RepL.cons rfl (RepL.cons (Rep.aft af2 _ _ q) RepL.nil)⟩
theorem Gma{x1}{tp:Pos}{f:Ev (List D)}(hg:Gl X "enumerate")(hm:X.mg "enumerate"=none)(ha:JA X XQ [a] f)(hs:starEach [a] X.env=[(false,eval a X.env)]:=by rfl):
  JI X XQ (.Tuple es x1 tp) (.Call (.Name "enumerate" p) [a] [] pos) (Wf f):=by
 refine PI.mono (Gl9 hg hm ha hs) fun σ H R ⟨mp,ρ,S,G,p⟩=>?_
 refine bindP G p fun mp1 H1 ds S1 vs a1 G1 r1 p1=>?_
 split at p1
 ·rename_i i
  split at p1
  ·rename_i c zc
   obtain⟨v,rfl,h1⟩:=RepL.one r1
   obtain⟨a2,xs,rfl,e2,sq,q,_⟩:=G1.rs.items h1 zc
   exact⟨a2,rfl,⟨xs,sq⟩,Gs.ok (R:=kI X.K) (d:=⟨fun k S=>(S[i]?).bind fun c=>(c.xs[k]?).map fun d=>.tup [.int k,d],c.xs.length+1⟩) (S:=S1) p1 G1.rs (Gvn e2)⟩
  ·exact p1.elim
 ·exact p1.elim
end
structure XB(bm:List Value):Prop where
 v:bm.contains (.type "ValueError")=true
 a:bm.contains (.type "AttributeError")=false
 n:bm.contains (.type "NameError")=false
 b:bm.contains (.type "BaseException")=true
theorem XB.has(x:XB bm)(C:Addr):(Value.ref C::bm).contains (.type "ValueError")=true:=by rw[List.contains_cons,x.v,Bool.or_true]
theorem XB.noA(x:XB bm)(C:Addr):(Value.ref C::bm).contains (.type "AttributeError")=false:=by rw[List.contains_cons,x.a]; rfl
theorem XB.noN(x:XB bm)(C:Addr):(Value.ref C::bm).contains (.type "NameError")=false:=by rw[List.contains_cons,x.n]; rfl
abbrev FV:=PySem.F.excBase_ValueError
theorem Gp6(K:PySem.W.Frag):PySem.W.findCls K (.type "ValueError") (.type "type") "__init__"=some (.val (.builtin "ValueError.__init__")):=by
 first
  | rfl
  | kernel_rfl
theorem Gp7{prog:Program}{E:Value->Shared->Prop}{Q:Value×List Value->Shared->Prop}(X:K.In s.heap)(h:Q (.builtin "ValueError.__init__",[]) { s with toks:=s.toks+1 }):
  wpAny (model prog w) A (getMethod (.type "ValueError") (Str.ofString "__init__") pl) Q E s:=by
 have st:opaqueClassAbove (.type "ValueError")=pure none:=by unfold opaqueClassAbove; dsimp only; rw[show Manifest.isStub "ValueError"=false by decide +kernel]; rfl
 have ty:PySem.W.Looks (model prog w) s.heap (typeOf (.type "ValueError")) (.type "type"):=PySem.W.Looks.of_pure (by first | rfl | kernel_rfl)
 have ga:PySem.W.findIn K (.type "type") "__getattribute__"=some (some (.builtin "type.__getattribute__")):=PySem.W.type_tga
 unfold getMethod specialOf
 refine wpAny_bind (wpAny_bind (ty.here ((PySem.W.looks_findIn X ga).here ?_)))
 dsimp only
 rw[if_pos PySem.W.canon_tga]
 refine wpAny_bind (wpAny_mono (Q:=fun v=>Q (v,[])) (E:=E) ?_ (fun _ _ z=>wpAny_pure z) fun _ _ z=>z)
 refine PySem.W.cls_open X (PySem.W.Looks.of_pure st) ty ga (PySem.W.looks_hook X (r:=none) (by rfl)) (by show PySem.W.subIn K _ _=_; rfl) (Gp6 K) ?_
 refine wpAny_pure ?_
 show wpAny _ _ (handedOut _) _ _ _
 rw[PySem.W.handedOut_of (by rfl)]
 exact wpAny_pure h
section
variable{prog:Program}{w:World}{A:Around}{E:Value->Shared->Prop}{h:Heap}{g:Array GenState}{d:Drawn}{t:Nat}{os:OsState}
variable{nm q:Str}{C N:Addr}{bs bm:List Value}{hdct:Bool}{sn:List Str}{sub:List Value}{ab:Bool}{col:Option Bool}{dd:Option Addr}{k0 k1 k2 k3 k5:Option Value}
theorem Gp8{e:Addr}{t0:Addr}(x:XB bm)(hC:h.get? C=some (excClassObj nm q C N bs bm hdct sn sub ab col dd k0 k1 k2 k3 k5 "ValueError.__new__"))(he:h.get? e=some { cls:=.ref C,dict:=dx,data:=.fields #[.ref t0,.none,.none,.none,.bool false,.none] })(hq:∀ h',h'.get? e=some { cls:=.ref C,dict:=dx,data:=.fields #[.ref h.objs.size,.none,.none,.none,.bool false,.none] }->(∀ b o,b≠e->h.get? b=some o->h'.get? b=some o)->h'.get? h.objs.size=some { cls:=.type "tuple",data:=.seq #[v] }->Q .none ⟨h',g,d,t,os⟩):
  wpAny (model prog w) A (call (.builtin "ValueError.__init__") [.ref e,v]) Q E ⟨h,g,d,t,os⟩:=by
 have hB:=x.has C
 refine wpAny_call (codeAny_call_builtin FV.init.plain FV.initEntry ?_)
 have chk:∀ {M:Model} {A:Around} {E:Value->Shared->Prop} {Q:Unit->Shared->Prop},Q () ⟨h,g,d,t,os⟩->wpAny M A (checkBuiltinCall "ValueError.__init__" ⟨[.ref e,v],[]⟩) Q E ⟨h,g,d,t,os⟩:=fun hQ=>by
  have ns:=FV.noStar
  simp only[checkBuiltinCall,FV.initKind,FV.initSplit,FV.initRow]
  repeat (first | with_reducible refine wpAny_loadPart_at he ?_ | with_reducible refine wpAny_loadPart_at hC ?_ | (with_reducible refine wpAny_isSubtype_exc hC ?_; rw[hB]) | wp_step)
  exact hQ
 refine chk ?_
 wp_walk
 have le:e≠h.objs.size:=Nat.ne_of_lt (Heap.lt_size he)
 refine hq _ ?_ (fun b o hb ho=>?_) ?_
 ·rw[Heap.get?_update_self _ (Heap.get?_push_of_some _ he) rfl]
  rfl
 ·rw[Heap.get?_update_other _ _ (Ne.symm hb)]
  exact Heap.get?_push_of_some _ ho
 ·rw[Heap.get?_update_other _ _ le]
  exact Heap.get?_push_size _ rfl
theorem Gg8{M:Model}{Q:Unit->Shared->Prop}(x:XB bm)(hC:h.get? C=some (excClassObj nm q C N bs bm hdct sn sub ab col dd k0 k1 k2 k3 k5 "ValueError.__new__"))(hq:Q () ⟨h,g,d,t,os⟩):
  wpAny M A (checkBuiltinCall "ValueError.__new__" ⟨[.ref C,v],[]⟩) Q E ⟨h,g,d,t,os⟩:=by
 have hB:=x.has C
 have ns:=FV.noStar
 simp only[checkBuiltinCall,FV.newKind,FV.newSplit,FV.newRow]
 repeat (first | refine wpAny_loadPart_at hC ?_ | (refine wpAny_isSubtype_exc hC ?_; rw[hB]) | refine wpAny_staticBase_exc hC ?_ | refine wpAny_madeBy_exc hC ?_ | simp only[bne_self_eq_false,Bool.false_eq_true,if_false] | wp_step)
 exact hq
theorem Gyq{R:Result->Shared->Prop}(x:XB bm)(hC:h.get? C=some (excClassObj nm q C N bs bm hdct sn sub ab col dd k0 k1 k2 k3 k5 "ValueError.__new__"))(hq:R (.ok (.ret (.ref (h.objs.size+1)))) ⟨(h.push { cls:=.type "tuple",data:=.seq #[v] }).push { cls:=.ref C,data:=.fields #[.ref h.objs.size,.none,.none,.none,.bool false,.none] },g,d,t,os⟩):
  codeAny (model prog w) A (.builtin "ValueError.__new__" ⟨[.ref C,v],[]⟩) R ⟨h,g,d,t,os⟩:=by
 have he:=FV.ends
 have hB:=x.has C
 have hA:=x.noA C
 have hN:=x.noN C
 refine codeAny_builtinAt FV.entry ?_
 unfold Builtin.«BaseException.__new__»
 refine PySem.wpAt_bind ?_
 show PySem.wpAt _ _ _ (PySem.stack >>= _) _ _ _
 refine PySem.wpAt_bind (PySem.wpAt_stack fun p below=>PySem.wpAt_of_wpAny ?_)
 wp_walk
 refine PySem.wpAt_of_wpAny ?_
 rw[FV.owner]
 repeat (first | with_reducible refine wpAny_madeHere_exc FV.canon hC ?_ | with_reducible refine wpAny_loadPart_at hC ?_ | (with_reducible refine wpAny_isSubtype_exc hC ?_; first | rw[hB] | rw[hA] | rw[hN]) | wp_step)
 show R _ _
 rw[Heap.size_push]
 exact hq
theorem Gmb{fI:Addr}(x:XB bm)(X:K.In h)(hC:h.get? C=some (excClassObj nm q C N bs bm hdct sn sub ab col dd k0 k1 k2 k3 k5 "ValueError.__new__"))(hi:PySem.W.findIn K (.ref C) "__init__"=some (some (.ref fI)))(hfI:h.get? fI=some oI)(hfc:oI.cls=.type "function")(hq:∀ h' e,h.objs.size<=e->Heap.MadeExcOf h h' e (.ref C) [v]->wpAny (model prog w) (A.under (.builtin "type.__call__" ⟨[.ref C,v],[]⟩)) (call (.ref fI) [.ref e,v]) (fun r s'=>r=.none/\Q (.ref e) s') E ⟨h',g,d,t,os⟩):
  wpAny (model prog w) A (call (.ref C) [v]) Q E ⟨h,g,d,t,os⟩:=by
 have hB:=x.has C
 have hA:=x.noA C
 have hN:=x.noN C
 have f1:=tc_lookup
 have f2:=tc_bind (.ref C)
 have hT:(⟨h,g,d,t,os⟩:Shared).TypeIs (.ref C) "type":=⟨_,hC,rfl⟩
 refine wpAny_call (codeAny_of_tree ?_)
 show wpAny _ _ (callAny (.ref C) _) _ _ _
 repeat (any_goals (first | assumption | with_reducible refine wpAny_loadPart_at hC ?_ | wp_step))
 refine⟨rfl,?_⟩
 refine codeAny_call_builtin_at (Code.quiet_builtin _ (by decide +kernel)) entry_typeCall (wpAny_check_type_call_sub hC ?_)
 repeat (first | with_reducible refine wpAny_loadPart_at hC ?_ | with_reducible refine wpAny_madeBy_exc hC ?_ | wp_step)
 refine codeAny_call_builtin_code (Code.quiet_builtin _ FV.quiet) (Gg8 x hC (Gyq x hC ?_))
 show wpAny _ _ _ _ _ _
 have kp:∀ b o,h.get? b=some o->((h.push { cls:=.type "tuple",data:=.seq #[v] }).push { cls:=.ref C,data:=.fields #[.ref h.objs.size,.none,.none,.none,.bool false,.none] }).get? b=some o:=fun b o e=>Heap.get?_push_of_some _ (Heap.get?_push_of_some _ e)
 have he:((h.push { cls:=.type "tuple",data:=.seq #[v] }).push { cls:=.ref C,data:=.fields #[.ref h.objs.size,.none,.none,.none,.bool false,.none] }).get? (h.objs.size+1)=some { cls:=.ref C,data:=.fields #[.ref h.objs.size,.none,.none,.none,.bool false,.none] }:=by heap_get
 have ht:((h.push { cls:=.type "tuple",data:=.seq #[v] }).push { cls:=.ref C,data:=.fields #[.ref h.objs.size,.none,.none,.none,.bool false,.none] }).get? h.objs.size=some { cls:=.type "tuple",data:=.seq #[v] }:=Heap.get?_push_of_some _ (Heap.get?_push_size _ rfl)
 have hC1:=kp _ _ hC
 have hf1:=kp _ _ hfI
 have X1:=X.keeps kp
 have hcC:(Value.ref C::bm).contains (.ref C)=true:=by simp
 have done:=hq _ (h.objs.size+1) (Nat.le_succ _) ⟨kp,Heap.get?_none_of_le (Nat.le_succ _),h.objs.size,he,Heap.get?_none_of_le (Nat.le_refl _),ht⟩
 generalize (h.push { cls:=.type "tuple",data:=.seq #[v] }).push { cls:=.ref C,data:=.fields #[.ref h.objs.size,.none,.none,.none,.bool false,.none] }=h1 at *
 unfold isInstance
 repeat (first | with_reducible refine wpAny_loadPart_at he ?_ | (with_reducible refine wpAny_isSubtype_exc hC1 ?_; rw[hcC]) | wp_step)
 show wpAny _ _ (typeLookup (.ref C) _) _ _ _
 refine(PySem.W.looks_findIn X1 hi).here ?_
 refine wpAny_holding (wpAny_bind ?_)
 unfold bindSpecial
 refine wpAny_bind (wpAny_typeOf (T:="function") ⟨_,hf1,hfc⟩ ?_)
 rw[if_pos (by decide)]
 refine wpAny_pure (wpAny_bind (wpAny_mono done (fun r s' hr=>?_) fun _ _ x=>x))
 obtain⟨rfl,hQ⟩:=hr
 wp_walk
 exact hQ
end
section
variable{M:Model}{A:Around}{E:Value->Shared->Prop}{env:PySem.Env}
variable{nm q:Str}{C N:Addr}{bs bm:List Value}{hdct:Bool}{sn:List Str}{sub:List Value}{ab:Bool}{col:Option Bool}{dd:Option Addr}{k0 k1 k2 k3 k5:Option Value}{newId:String}
def Vp(h:Heap)(e C:Addr)(dx:Option Addr):Prop:=∃ t:Addr,h.get? e=some { cls:=.ref C,dict:=dx,data:=.fields #[.ref t,.none,.none,.none,.bool false,.none] }
theorem Gch{x:Sem Value}{Q:Flow->Shared->Prop}(hb:XB bm)(hh:A.handled=none)(h:wpAny M A x (fun v s₁=>∃ e dx,v=.ref e/\s₁.heap.get? C=some (excClassObj nm q C N bs bm hdct sn sub ab col dd k0 k1 k2 k3 k5 newId)/\Vp s₁.heap e C dx/\E (.ref e) s₁) E s):
  wpAny M A (raiseStmt env (some x) none) Q E s:=by
 have hB:(Value.ref C::bm).contains (.type "BaseException")=true:=by rw[List.contains_cons,hb.b,Bool.or_true]
 unfold raiseStmt
 refine wpAny_bind (wpAny_mono h (fun v s₁ h₁=>?_) fun _ _ x=>x)
 obtain⟨e,dx,rfl,hC,⟨t,he⟩,hE⟩:=h₁
 obtain⟨hp,g,d,tk,os⟩:=s₁
 repeat (first | with_reducible refine wpAny_loadPart_at he ?_ | with_reducible refine wpAny_loadPart_at hC ?_ | (with_reducible refine wpAny_isSubtype_exc hC ?_; rw[hB]) | wp_step)
 exact wpAny_raiseNew_none hh hE
theorem Gp9{e1:Expr}{Q:Flow->Shared->Prop}(hb:XB bm)(hh:A.handled=none)(h:wpAny M A (eval (.Name x np) env) (fun f s₁=>f=.ref C/\wpAny M A (spliced (backTo cpos (starEach (e1::es) env))) (fun vs s₂=>
   s₂.heap.get? C=some (excClassObj nm q C N bs bm hdct sn sub ab col dd k0 k1 k2 k3 k5 newId)/\wpAny M A (call (.ref C) vs) (fun v s₃=>∃ e dx,v=.ref e∧
    s₃.heap.get? C=some (excClassObj nm q C N bs bm hdct sn sub ab col dd k0 k1 k2 k3 k5 newId)/\Vp s₃.heap e C dx/\E (.ref e) s₃) E s₂) E s₁) E s)(he:starEach (e1::es) env=(false,eval e1 env)::starEach es env:=by rfl)(hpl:(backTo cpos (starEach es env)).any (·.1)=false:=by rfl):
  wpAny M A (exec (.Raise (some (.Call (.Name x np) (e1::es) [] cpos)) none pos) env) Q E s:=by
 have plain:(backTo cpos (starEach (e1::es) env)).any (·.1)=false:=by
  rw[he]
  show(false||(backTo cpos (starEach es env)).any (·.1))=false
  rw[hpl]; rfl
 rw[arm_exec_Raise]
 have key:wpAny M A (eval (.Call (.Name x np) (e1::es) [] cpos) env) (fun v s₁=>∃ e dx,v=.ref e/\s₁.heap.get? C=some (excClassObj nm q C N bs bm hdct sn sub ab col dd k0 k1 k2 k3 k5 newId)/\Vp s₁.heap e C dx/\E (.ref e) s₁) E s:=by
  refine wpAny_Call_ofName (wpAny_mono h (fun f s₁ h₁=>?_) fun _ _ x=>x)
  obtain⟨rfl,h₁⟩:=h₁
  unfold callWith
  have ev:wpAny M A (evalArgs (.ref C) true (backTo cpos (starEach (e1::es) env)) []) (fun a s₂=>a.kw=[]/\s₂.heap.get? C=some (excClassObj nm q C N bs bm hdct sn sub ab col dd k0 k1 k2 k3 k5 newId)/\wpAny M A (call (.ref C) a.pos) (fun v s₃=>∃ e dx,v=.ref e∧
    s₃.heap.get? C=some (excClassObj nm q C N bs bm hdct sn sub ab col dd k0 k1 k2 k3 k5 newId)/\Vp s₃.heap e C dx/\E (.ref e) s₃) E s₂) E s₁:=by
   rw[he] at h₁ ⊢
   exact PySem.Calls.evalArgs_plain (wpAny_mono h₁ (fun vs s₂ z=>⟨rfl,z⟩) fun _ _ x=>x)
  refine wpAny_bind (wpAny_holding (wpAny_mono ev (fun a s₂ h₂=>wpAny_bind (wpAny_standAt ?_)) fun _ _ x=>x))
  obtain⟨ap,ak⟩:=a
  obtain⟨hk,hC,h₂⟩:=h₂
  obtain rfl:ak=[]:=hk
  obtain⟨hp,g,d,tk,os⟩:=s₂
  simp only[plain]
  refine wpAny_bind (wpAny_keeperOf_exc hC ?_)
  exact wpAny_bind (wpAny_mono h₂ (fun r s₃ hr=>wpAny_bind (wpAny_holding (wpAny_point (wpAny_pure hr)))) fun _ _ x=>x)
 first
  | exact wpAny_bind (wpAny_standAt (Gch hb hh (wpAny_bind (wpAny_mono key (fun v s₃ h₃=>wpAny_bind (wpAny_standAt (wpAny_pure h₃))) fun _ _ x=>x))))
  | (simp only[evalOpt,Option.map]; exact wpAny_bind (wpAny_standAt (Gch hb hh (wpAny_bind (wpAny_mono key (fun v s₃ h₃=>wpAny_bind (wpAny_standAt (wpAny_pure h₃))) fun _ _ x=>x)))))
end
def FX(e C:Addr)(dx:Option Addr):HO:=.ext fun h=>Vp h e C dx
theorem Gi2{e:Addr}(f:Vp h e C dx):Jz P w H h e (FX e C dx):=
 ⟨f,(let ⟨_,q⟩:=f; ⟨_,q⟩),fun _ _ ⟨t,q⟩ k=>⟨t,k _ q⟩⟩
theorem Gmc{a:Addr}{o:HO}(h:H a=some o):upd H a o=H:=by
 funext b
 by_cases c:b=a
 ·subst c; rw[upd_same,h]
 ·rw[Hb c]
structure KX(K:PySem.W.Frag)(C:Addr):Prop where
 ex:∃ nm q N bs bm hdct sn sub ab col dd k0 k1 k2 k3 k5,K.lookup C=some (excClassObj nm q C N bs bm hdct sn sub ab col dd k0 k1 k2 k3 k5 "ValueError.__new__")/\XB bm
section
variable{X:Cx}
def tVI(K:PySem.W.Frag)(t:TA):TE:=fun σ H Q=>t σ H fun vs H1=>∃ e v C dx,vs=[.ref e,v]/\H1 e=some (FX e C dx)/\KX K C/\Q .non H1
theorem Gg9{t:TA}(hg:Gl X "ValueError")(hm:X.mg "ValueError"=none)(ha:PA X [a,b] t)(ht:eval (.Call (.Attribute (.Name "ValueError" p) "__init__" apos) [a,b] [] pos) X.env=(do
   let ov <- eval (.Name "ValueError" p) X.env
   standAt apos.atName
   let (f,first) <- holding [ov] (getMethod ov "__init__" pl)
   callWith pos f first (backTo pos (starEach [a,b] X.env)) (backToKw pos (keywordEach [] X.env))))(hs:starEach [a,b] X.env=(false,eval a X.env)::starEach [b] X.env:=by rfl)(hpl:(backTo pos (starEach [b] X.env)).any (·.1)=false:=by rfl):
  PE X (.Call (.Attribute (.Name "ValueError" p) "__init__" apos) [a,b] [] pos) (tVI X.K t):=by
 intro pins s σ H Q I h
 refine PySem.W.methodCall_KW (pl:=pl) (Ga0 I hg hm (by rfl) ?_ (by decide) (by decide)) ht
 refine Gp7 I.kIn ?_
 have hA:=ha pos pins { s with toks:=s.toks+1 } σ H _ (I.tok _) h
 show wpAny _ _ (callWith pos (.builtin "ValueError.__init__") [] (backTo pos (starEach [a,b] X.env)) _) _ _ _
 rw[hs] at hA ⊢
 refine Calls.callWith_builtin (by show(false||(backTo pos (starEach [b] X.env)).any (·.1))=false; rw[hpl]<;>rfl) (Calls.evalArgs_plain ?_)
 refine thn hA fun us s2 ⟨vs,H2,I2,r2,e,v,C,dx,ev,hH,kx,q⟩=>?_
 subst ev
 cases r2 with
 | cons ra rb=>
  cases rb with
  | cons rv rn=>
   cases rn
   cases ra
   obtain⟨nm,qn,N,bs,bm,hdct,sn,sub,ab,col,dd,k0,k1,k2,k3,k5,lk,xb⟩:=kx.ex
   have hC:=I2.kIn _ _ lk
   obtain⟨⟨t0,he⟩,_,_⟩:=(show Jz X.prog X.w H2 s2.heap e (FX e C dx) from I2.hok e _ hH)
   obtain⟨hp,g,d,tk,os⟩:=s2
   refine Gp8 xb hC he fun h' e1 k1' _=>?_
   have I3:=I2.write (h':=h') (x:=e) (e:=e) (o:=FX e C dx) (t':=tk) (by rw[hH]; exact trivial) (.inl rfl) (fun b u hb hu=>k1' b u hb hu) ⟨_,e1⟩ (Gi2 ⟨_,e1⟩)
   rw[Gmc hH] at I3
   exact⟨.non,H2,I3,rfl,q⟩
end
def spI(K:PySem.W.Frag):Sp:=fun vs H Q _=>∃ e v C dx,vs=[.ref e,v]/\H e=some (FX e C dx)/\KX K C/\Q .non H
section
variable{X:Cx}{pins:List (Addr×Obj)}{σ:L2.St}{H:Hp}{s:Shared}{C f:Addr}{fd:FuncData}{ps:List Str}{k:Nat}
theorem Gyr{v:V}(kx:KX X.K C)(hi:PySem.W.findIn X.K (.ref C) "__init__"=some (some (.ref f)))(lf:X.K.lookup f=some oI)(hfc:oI.cls=.type "function")(F:FnOk X.prog X.w X.K X.mg X.base CX0 k f fd ps (spI X.K))(hl:ps.length=2)(hr:Room (k+1) X.A)(hb:Binds X.K fd ps [])(I:Inv X pins σ H s)(rv:Hq v u):
  wpAny (model X.prog X.w) X.A (call (.ref C) [u]) (fun r s'=>∃ e,r=.ref e/\(H e=none/\X.s₀.heap.get? e=none)/\Inv X pins σ (upd H e (FX e C none)) s') X.xe s:=by
 obtain⟨nm,qn,N,bs,bm,hdct,sn,sub,ab,col,dd,k0,k1,k2,k3,k5,lk,xb⟩:=kx.ex
 obtain⟨hp,g,d,tk,os⟩:=s
 refine Gmb xb I.kIn (I.kIn _ _ lk) hi (I.kIn _ _ lf) hfc fun h' e le hm=>?_
 have hn:H e=none:=I.hok.fresh le
 have h0:X.s₀.heap.get? e=none:=Heap.get?_none_of_le (Nat.le_trans I.sz le)
 obtain⟨t,ht,_,_⟩:=hm.there
 have I1:Inv X pins σ (upd H e (FX e C none)) ⟨h',g,d,tk,os⟩:=I.laid (t':=tk) hm.keeps le (Gi2 ⟨t,ht⟩)
 refine wpAny_call (codeAny_mono (F.run (X.A.under (.builtin "type.__call__" ⟨[.ref C,u],[]⟩)) X.stack ⟨h',g,d,tk,os⟩ (upd H e (FX e C none)) ⟨[.ref e,u],[]⟩ [.ref e,u] [.ref e,v] (fun v' H'=>v'=.non/\H'=upd H e (FX e C none)) E0
  (hr.make C [u] []) (I1.env0.make C [u] []) (by have:=hb ⟨h',g,d,tk,os⟩ [.ref e,u] I1.kIn (by simpa using hl.symm); simpa using this) (.cons rfl (.cons rv .nil)) ⟨e,v,C,none,rfl,upd_same,kx,rfl,rfl⟩) fun r s' hq=>?_)
 cases r with
 | error x=>exact hq.elim
 | ok fl=>
  cases fl with
  | ret u'=>
   obtain⟨v',H',I',r',e1,e2⟩:=I1.after hq
   subst e1 e2
   exact⟨r',e,rfl,⟨hn,h0⟩,I'⟩
  | next=>exact hq.elim
  | brk=>exact hq.elim
  | cont=>exact hq.elim
def tRz(C:Addr)(W:L2.St->Hp->Addr->Prop)(t:TA):TS:=fun _ σ H=>t σ H fun vs H1=>∃ v,vs=[v]/\∀ e,H1 e=none->W σ (upd H1 e (FX e C none)) e
theorem Gmd{W:L2.St->Hp->Addr->Prop}{t:TA}(hW:∀ (pins:List (Addr×Obj)) (σ:L2.St) (H:Hp) (e:Addr) (s':Shared),Inv X pins σ H s'->H e=some (FX e C none)->X.s₀.heap.get? e=none->W σ H e->X.xe (.ref e) s')(hcm:X.calm=true)(hg:Gl X x)(hm:X.mg x=some (.ref C))(kx:KX X.K C)(hi:PySem.W.findIn X.K (.ref C) "__init__"=some (some (.ref f)))(lf:X.K.lookup f=some oI)(hfc:oI.cls=.type "function")(F:FnOk X.prog X.w X.K X.mg X.base CX0 k f fd ps (spI X.K))(hl:ps.length=2)(hr:Room (k+1) X.A)(hb:Binds X.K fd ps [])(ha:PA X [a] t)(hdb:(x==("__debug__":Str))=false:=by decide)(he:starEach [a] X.env=(false,eval a X.env)::starEach [] X.env:=by rfl)(hpl:(backTo cpos (starEach [] X.env)).any (·.1)=false:=by rfl):
  PS X (.Raise (some (.Call (.Name x np) [a] [] cpos)) none pos) (tRz C W t):=by
 intro pins s σ H D I h
 obtain⟨nm,qn,N,bs,bm,hdct,sn,sub,ab,col,dd,k0,k1,k2,k3,k5,lk,xb⟩:=id kx.ex
 refine Gp9 (C:=C) (nm:=nm) (q:=qn) (N:=N) (bs:=bs) (bm:=bm) (hdct:=hdct) (sn:=sn) (sub:=sub) (ab:=ab) (col:=col) (dd:=dd) (k0:=k0) (k1:=k1) (k2:=k2) (k3:=k3) (k5:=k5) (newId:="ValueError.__new__") xb (I.ok.hd hcm) (Yh I hg hm ⟨rfl,?_⟩ hdb) he hpl
 refine thn (ha cpos pins s σ H _ I h) fun us s1 ⟨vs,H1,I1,r1,v,ev,q⟩=>⟨I1.kIn _ _ lk,?_⟩
 subst ev
 obtain⟨u,rfl,rv⟩:=Gce r1
 refine thn (Gyr kx hi lf hfc F hl hr hb I1 rv) fun r s2 ⟨e,er,⟨hn,h0⟩,I2⟩=>?_
 subst er
 have hH:upd H1 e (FX e C none) e=some (FX e C none):=upd_same
 obtain⟨fr,_,_⟩:=(show Jz X.prog X.w _ s2.heap e (FX e C none) from I2.hok e _ hH)
 exact⟨e,none,rfl,I2.kIn _ _ lk,fr,hW pins σ _ e s2 I2 hH h0 (q e hn)⟩
end
def Us(h:Heap)(e C:Addr)(dx:Option Addr):Prop:=∃ t c k u:Value,h.get? e=some { cls:=.ref C,dict:=dx,data:=.fields #[t,.none,c,k,u,.none] }/\(dx=none->c=.none)
theorem Vp.g{e:Addr}(f:Vp h e C dx):Us h e C dx:=by
 obtain⟨t,q⟩:=f
 exact⟨_,_,_,_,q,fun _=>rfl⟩
def Gvo(fl:Value)(h:Heap)(a T C:Addr)(dx:Option Addr):Prop:=∃ oe vs oT ts a0,h.get? a=some oe/\(oe.cls=.ref C/\oe.dict=dx/\vs[0]?=some a0/\(dx=none->vs[2]?=some .none))/\oe.data=.fields vs/\vs[1]?=some (.ref T)/\T≠a/\h.get? T=some oT/\oT.data=.fields ts/\ts[3]?=some fl
abbrev Fly:=Gvo .none
section
variable{M:Model}{A:Around}{E:Value->Shared->Prop}{s:Shared}{Q:Unit->Shared->Prop}{env:PySem.Env}{outer:List PySem.Env}{L:Addr}{base:Heap}
theorem Gha{l:List PySem.Env}{a:Addr}{o:Obj}(hl:h.FunFrames base l)(e:h.get? a=some o)(d:o.data=.fields vs):a∉frs l:=fun hm=>by
 obtain⟨_,o',e',nf⟩:=hl.mem hm
 rw[e] at e'
 cases e'
 exact nf vs d
structure Left(fs:List Addr)(no:List Addr)(h h':Heap):Prop where
 keep:∀ b o,b∉fs->b∉no->h.get? b=some o->h'.get? b=some o
 slot:∀ b o,b∈fs->h.get? b=some o->∃ sl,h'.get? b=some { o with slots:=sl }
theorem Gqa(f:Array Value->Array Value)(o:Obj):(Obj.mapFields f o).dict=o.dict:=by
 obtain⟨c,d,dt,sl⟩:=o
 cases dt<;>rfl
theorem Gys{e:Addr}{head a0:Value}{hn:Bool}(hfr:A.frames=some (env::outer))(hl:s.heap.FunFrames base (env::outer))(hf:env.frame=some L)(he:s.heap.get? e=some oe)(hc:oe.cls=.ref C/\oe.dict=dx)(hd:oe.data=.fields vs)(hz:1<vs.size)(h0:vs[0]?=some a0/\(dx=none->vs[2]?=some .none))(hq:∀ h' T,Gvo (rawInt L) h' e T C dx->s.heap.get? T=none->Left (frs (env::outer)) [e] s.heap h'->Q () { s with heap:=h' }):
  wpAny M A (frameOf env >>= fun a=>entryPlaceOf L hn >>= fun pl=>EntryCells.newEntry head a .none (rawInt L) .none pl >>= fun b=>setField (.ref e) 1 b) Q E s:=by
 have nf:=Gha hl he hd
 refine wpAny_bind (wpAny_frameOf_fun hfr hl hf fun h1 so=>wpAny_bind (wpAny_entryPlaceOf fun pl ip=>?_))
 obtain⟨sz,so1,so2⟩:=so
 have g1:h1.get? e=some oe:=(so1 e nf).trans he
 unfold EntryCells.newEntry newFields
 refine wpAny_bind (wpAny_newObj_type ?_ (ip.sizeOk5 _ _ _ _ _))
 generalize hT:({ cls:=.type "traceback",dict:=none,data:=.fields ([head,.ref L,.none,rawInt L,.none]++(if pl.isEmpty then List.replicate 6 Value.none else pl)).toArray }:Obj)=oT
 have g2:=Heap.get?_push_of_some (h:=h1) oT g1
 have nT:h1.objs.size≠e:=Nat.ne_of_gt (Heap.lt_size g1)
 refine wpAny_setField g2 hd hz ?_
 have d3:=Obj.data_mapFields hd (·.setIfInBounds 1 (Value.ref h1.objs.size))
 have g3:=Heap.get?_update_self (Obj.mapFields (·.setIfInBounds 1 (Value.ref h1.objs.size))) g2 (Obj.isFreed_of_fields d3)
 have t3:((h1.push oT).update e (Obj.mapFields (·.setIfInBounds 1 (Value.ref h1.objs.size)))).get? h1.objs.size=some oT:=(Heap.get?_update_other _ _ (Ne.symm nT)).trans (Heap.get?_push_size h1 (by rw[<- hT]; rfl))
 have kp:∀ b o,b≠e->h1.get? b=some o->((h1.push oT).update e (Obj.mapFields (·.setIfInBounds 1 (Value.ref h1.objs.size)))).get? b=some o:=fun b o hb q=>by
  rw[Heap.get?_update_other _ _ (Ne.symm hb)]
  exact Heap.get?_push_of_some _ q
 refine hq _ h1.objs.size ⟨_,_,oT,_,a0,g3,⟨(Obj.cls_mapFields _ _).trans hc.1,?_,?_⟩,d3,by simp[hz],nT,t3,by rw[<- hT],?_⟩ ?_ ⟨fun b o hb hn q=>kp b o (by simpa using hn) ((so1 b hb).trans q),fun b o hb q=>?_⟩
 ·rw[<- hc.2]
  exact Gqa _ _
 ·rw[Array.getElem?_setIfInBounds_ne (by decide),Array.getElem?_setIfInBounds_ne (by decide)]; exact h0
 ·first | (simp; done) | (rcases ip with rfl | ⟨_,_,_,_,_,_,_,rfl⟩<;>simp)
 ·exact Heap.get?_none_of_le (by rw[sz]; exact Nat.le_refl _)
 ·obtain⟨sl,q'⟩:=so2 b o q
  exact⟨sl,kp b _ (fun z=>nf (by rw[<- z]; exact hb)) q'⟩
theorem fltD{e T:Addr}{fl:Value}(f:Gvo fl s.heap e T C dx)(hq:∀ h',Fly h' e T C dx->(∀ b o,b≠T->s.heap.get? b=some o->h'.get? b=some o)->Q () { s with heap:=h' }):wpAny M A (setFlight (.ref e) none) Q E s:=by
 obtain⟨oe,vs,oT,ts,a0,e1,e2,e3,e4,e5,e6,e7,e8⟩:=f
 have h3:3<ts.size:=(Array.getElem?_eq_some_iff.mp e8).1
 refine wpAny_setFlight_none e1 e3 e4 e6 e7 h3 (hq _ ⟨oe,vs,_,_,a0,by rw[Heap.get?_update_other _ _ e5]; exact e1,e2,e3,e4,e5,Heap.get?_update_self _ e6 (Obj.isFreed_of_fields (Obj.data_mapFields e7 _)),Obj.data_mapFields e7 _,by simp[h3]⟩ fun b o hb q=>by rw[Heap.get?_update_other _ _ (Ne.symm hb)]; exact q)
theorem Gsc{e:Addr}(hfr:A.frames=some (env::outer))(hl:s.heap.FunFrames base (env::outer))(hf:env.frame=some L)(fx:Us s.heap e C dx)(hq:∀ h' T,Fly h' e T C dx->s.heap.get? T=none->Left (frs (env::outer)) [e] s.heap h'->Q () { s with heap:=h' }):wpAny M A (noteFrame (.ref e) env) (fun _ s₂=>wpAny M A (setFlight (.ref e) none) Q E s₂) E s:=by
 obtain⟨t,c,k,u,he,hc⟩:=fx
 unfold noteFrame
 simp only[hf]
 refine wpAny_bind (wpAny_field he rfl rfl ?_)
 show wpAny M A (if(Value.none != Value.none)=true then _ else _) _ _ _
 rw[if_neg (show¬ ((Value.none != Value.none)=true) from by decide)]
 refine Gys hfr hl hf he ⟨rfl,rfl⟩ rfl (by simp) ⟨rfl,fun z=>by rw[hc z]; rfl⟩ fun h1 T f1 hT lf=>fltD (s:={ s with heap:=h1 }) f1 fun h' f2 kp=>hq h' T f2 hT ⟨fun b o hb hn q=>kp b o (fun z=>by rw[z,hT] at q; cases q) (lf.keep b o hb hn q),fun b o hb q=>?_⟩
 obtain⟨sl,q'⟩:=lf.slot b o hb q
 exact⟨sl,kp b _ (fun z=>by rw[z,hT] at q; cases q) q'⟩
theorem Gsd{a T:Addr}(hfr:A.frames=some (env::outer))(hl:s.heap.FunFrames base (env::outer))(hf:env.frame=some L)(fl:Fly s.heap a T C dx)(hq:∀ h' T',Fly h' a T' C dx->(s.heap.get? T'=none\/T'=T)->Left (frs (env::outer)) [a,T] s.heap h'->Q () { s with heap:=h' }):wpAny M A (noteFrame (.ref a) env) (fun _ s₂=>wpAny M A (setFlight (.ref a) none) Q E s₂) E s:=by
 obtain⟨oe,vs,oT,ts,a0,e1,⟨c1,c2,c3⟩,e3,e4,e5,e6,e7,e8⟩:=fl
 have h3:3<ts.size:=(Array.getElem?_eq_some_iff.mp e8).1
 have nfT:=Gha hl e6 e7
 unfold noteFrame
 simp only[hf]
 refine wpAny_bind (wpAny_field e1 e3 e4 ?_)
 rw[if_pos (show(Value.ref T != Value.none)=true from by simp)]
 refine wpAny_bind (wpAny_field e6 e7 e8 ?_)
 rw[if_neg (show¬ ((Value.none==rawInt L)=true) from by simp[rawInt])]
 refine wpAny_bind (wpAny_setField e6 e7 h3 ?_)
 have ot:∀ b,b≠T->(s.heap.update T (Obj.mapFields (·.setIfInBounds 3 Value.none))).get? b=s.heap.get? b:=fun b hb=>Heap.get?_update_other _ _ (Ne.symm hb)
 have tt:=Heap.get?_update_self (Obj.mapFields (·.setIfInBounds 3 Value.none)) e6 (Obj.isFreed_of_fields (Obj.data_mapFields e7 _))
 have hl2:(s.heap.update T (Obj.mapFields (·.setIfInBounds 3 Value.none))).FunFrames base (env::outer):=hl.of_keeps fun b o q nf=>⟨o,(ot b fun z=>by rw[z,e6] at q; cases q; exact nf ts e7).trans q,rfl⟩
 refine Gys (s:={ s with heap:=s.heap.update T (Obj.mapFields (·.setIfInBounds 3 Value.none)) }) hfr hl2 hf ((ot a (Ne.symm e5)).trans e1) ⟨c1,c2⟩ e3 (Array.getElem?_eq_some_iff.mp e4).1 c3 fun h1 T1 f1 hT lf=>fltD (s:={ s with heap:=h1 }) f1 fun h' f2 kp=>hq h' T1 f2 (.inl ?_) ⟨fun b o hb hn q=>?_,fun b o hb q=>?_⟩
 ·cases z:s.heap.get? T1 with
  | none=>rfl
  | some o=>
   by_cases c:T1=T
   ·rw[c] at hT
    rw[show(s.heap.update T (Obj.mapFields (·.setIfInBounds 3 Value.none))).get? T=_ from tt] at hT
    cases hT
   ·rw[show(s.heap.update T (Obj.mapFields (·.setIfInBounds 3 Value.none))).get? T1=_ from ot T1 c,z] at hT
    cases hT
 ·simp only[List.mem_cons,List.not_mem_nil,or_false,not_or] at hn
  have q1:(s.heap.update T (Obj.mapFields (·.setIfInBounds 3 Value.none))).get? b=some o:=(ot b hn.2).trans q
  exact kp b o (fun z=>by rw[z] at q1; rw[show _=none from hT] at q1; cases q1) (lf.keep b o hb (by simpa using hn.1) q1)
 ·have nb:b≠T:=fun z=>nfT (by rw[<- z]; exact hb)
  have q1:(s.heap.update T (Obj.mapFields (·.setIfInBounds 3 Value.none))).get? b=some o:=(ot b nb).trans q
  obtain⟨sl,q'⟩:=lf.slot b o hb q1
  exact⟨sl,kp b _ (fun z=>by rw[z] at q1; rw[show _=none from hT] at q1; cases q1) q'⟩
theorem Gvp{e:Addr}(hfr:A.frames=some (env::outer))(hl:s.heap.FunFrames base (env::outer))(hf:env.frame=some L)(fx:Us s.heap e C dx)(hq:∀ h' T,Fly h' e T C dx->s.heap.get? T=none->Left (frs (env::outer)) [e] s.heap h'->Q () { s with heap:=h' }):wpAny M A (leaving env (.ref e)) Q E s:=by
 unfold leaving
 exact wpAny_bind (Gsc hfr hl hf fx hq)
theorem Gvq{a T:Addr}(hfr:A.frames=some (env::outer))(hl:s.heap.FunFrames base (env::outer))(hf:env.frame=some L)(fl:Fly s.heap a T C dx)(hq:∀ h' T',Fly h' a T' C dx->(s.heap.get? T'=none\/T'=T)->Left (frs (env::outer)) [a,T] s.heap h'->Q () { s with heap:=h' }):wpAny M A (leaving env (.ref a)) Q E s:=by
 unfold leaving
 exact wpAny_bind (Gsd hfr hl hf fl hq)
end
def del(H:Hp)(a:Addr):Hp:=fun b=>if b=a then none else H b
theorem Kn{a:Addr}:del H a a=none:=if_pos rfl
theorem Ql{a b:Addr}(h:b≠a):del H a b=H b:=if_neg h
theorem Gkk{a:Addr}{o:HO}(x:Jz P w H h a o):∃ u,h.get? a=some u:=by
 cases o with
 | lst xs=>obtain⟨_,_,_,_,e⟩:=x; exact⟨_,e⟩
 | tup xs=>obtain⟨_,_,_,ob,e,_⟩:=x; exact⟨_,e⟩
 | dK kvs=>obtain⟨_,_,_,_,o,_,_,e,_⟩:=x; exact⟨_,e⟩
 | dT kvs=>obtain⟨_,_,_,_,o,_,_,e,_⟩:=x; exact⟨_,e⟩
 | set S n=>obtain⟨o,_,_,_,e,_⟩:=x; exact⟨_,e⟩
 | ins C dx fs=>obtain⟨_,_,_,e,_⟩:=x; exact⟨_,e⟩
 | own y=>obtain⟨_,e⟩:=x; exact⟨_,e⟩
 | xd fs=>obtain⟨_,⟨_,_,_,e,_⟩,_⟩:=x; exact⟨_,e⟩
 | rng lo hi=>obtain⟨_,_,_,e⟩:=x; exact⟨_,e⟩
 | frz ob u=>obtain⟨e,_⟩:=x; exact⟨_,e⟩
 | tbl ps=>exact⟨_,(show h.get? a=some _ from x)⟩
 | met f y=>exact⟨_,(show h.get? a=some _ from x)⟩
 | ext φ=>obtain⟨_,⟨_,e⟩,_⟩:=x; exact⟨_,e⟩
theorem Gbg{a:Addr}(k:HOk P w H h)(e:h.get? a=none):H a=none:=by
 cases z:H a with
 | none=>rfl
 | some o=>
  obtain⟨u,q⟩:=Gkk (k a o z)
  rw[e] at q
  cases q
def CXe(P:Program)(w:World):CXT:=fun outer H s E e s'=>∃ a T C dx H',e=.ref a/\s'.os=s.os/\AllBare s'.gens/\Un (frs outer) [] H H' s.heap s'.heap/\HOk P w H' s'.heap/\Fly s'.heap a T C dx/\(H' a=none/\H' T=none)/\(s.heap.get? a=none/\s.heap.get? T=none)/\E (.ref C) dx H'
theorem hok_left{h':Heap}{fs no:List Addr}(k:HOk P w H h)(l:Left fs no h h')(hf:∀ b∈fs,H b=none)(hn:∀ b∈no,H b=none):HOk P w H h':=fun b o e=>by
 refine(k b o e).stay (fun c u hc q=>l.keep c u (fun z=>?_) (fun z=>?_) q) (fun _ q=>q) fun _ _ q=>q
 ·have:=hf c z
  rcases hc with rfl | hc
  ·rw[e] at this; cases this
  ·rw[hc] at this; cases this
 ·have:=hn c z
  rcases hc with rfl | hc
  ·rw[e] at this; cases this
  ·rw[hc] at this; cases this
theorem Gi3{a:Addr}(k:HOk P w H h)(ha:H a=some (.ext φ)):HOk P w (del H a) h:=fun b o e=>by
 have nb:b≠a:=fun z=>by rw[z,Kn] at e; cases e
 rw[Ql nb] at e
 refine(k b o e).stay (fun c u _ q=>q) (fun c q=>?_) fun c xs q=>?_
 ·rw[Ql (fun z=>by rw[z,ha] at q; cases q)]; exact q
 ·rw[Ql (fun z=>by rw[z,ha] at q; cases q)]; exact q
theorem Gi4{fs no:List Addr}{L:Addr}{H':Hp}{h1 h2:Heap}(u:Un fs [] H H1 h h1)(l:Left (L::fs) no h1 h2)(hL:h.get? L=none)(hno:∀ b∈no,h.get? b=none)(fr:∀ b,H1 b=none->H' b=none)(tp:∀ b xs,H1 b=some (.tup xs)->H' b=some (.tup xs))(fz:∀ b o v,H1 b=some (.frz o v)->H' b=some (.frz o v))(tb:∀ b ps,H1 b=some (.tbl ps)->H' b=some (.tbl ps)):Un fs [] H H' h h2:=by
 have nL:∀ b o,h.get? b=some o->b≠L:=fun b o e z=>by rw[z,hL] at e; cases e
 have nN:∀ b o,h.get? b=some o->b∉no:=fun b o e z=>by rw[hno b z] at e; cases e
 refine⟨fun b o e n hb hx=>?_,fun b o e n hb hx=>?_,fun b o e n hx=>fr b (u.free b o e n hx),fun b o e hx=>?_,fun b xs e=>tp b xs (u.tups b xs e),fun b o v e=>fz b o v (u.frzs b o v e),fun b ps e=>?_⟩
 ·refine l.keep b o (fun z=>?_) (nN b o e) (u.keep b o e n hb hx)
  rcases List.mem_cons.mp z with z | z
  ·exact nL b o e z
  ·exact hb z
 ·obtain⟨sl,q⟩:=u.slot b o e n hb hx
  obtain⟨sl',q'⟩:=l.slot b _ (List.mem_cons_of_mem _ hb) q
  exact⟨sl',q'⟩
 ·obtain⟨o',q⟩:=u.there b o e hx
  by_cases c:b∈L::fs
  ·obtain⟨sl,q'⟩:=l.slot b o' c q
   exact⟨_,q'⟩
  ·exact⟨o',l.keep b o' c (nN b o e) q⟩
 ·obtain⟨more,q⟩:=u.tbls b ps e
  exact⟨more,tb b _ q⟩
section
variable{P:Program}{w:World}{K:PySem.W.Frag}{mg:Str->Option Value}{base:Heap}{N:List Str}{qual:Str}{scope:Scope}{f:Addr}{cd:Value}{A:Around}{outer:List PySem.Env}{s:Shared}{H:Hp}{E:XK}
theorem Zp{fs:List Addr}{H0:Hp}{h0 h1:Heap}{b:Addr}(u:Un fs [] H0 H1 h0 h1)(e:h1.get? b=none):h0.get? b=none:=by
 cases z:h0.get? b with
 | none=>rfl
 | some o=>
  obtain⟨o',q⟩:=u.there b o z (by simp)
  rw[e] at q
  cases q
theorem Gme{s1:Shared}{e:Addr}(I:Inv (Vd (CXe P w) P w K mg base N qual scope f cd A outer s H E) pins σ H1 s1)(hH:H1 e=some (.ext φ))(fr:Us s1.heap e C dx)(le:s.heap.get? e=none)(hE:E (.ref C) dx (del H1 e)):
  (Vd (CXe P w) P w K mg base N qual scope f cd A outer s H E).xe (.ref e) s1:=by
 show wpAny (model P w) _ (leaving (envOfC qual scope s.heap.objs.size f cd) (.ref e)) _ _ s1
 have hL:s.heap.get? s.heap.objs.size=none:=Heap.get?_none_of_le (Nat.le_refl _)
 refine Gvp (base:=base) I.ok.frames I.stack rfl fr fun h' T fl hT lf=>?_
 have hT1:H1 T=none:=Gbg I.hok hT
 have dn:∀ b,H1 b=none->del H1 e b=none:=fun b q=>by
  by_cases c:b=e
  ·rw[c,Kn]
  ·rw[Ql c]; exact q
 have ne_of_kind:∀ {b:Addr} {o:HO},H1 b=some o->o≠.ext φ->b≠e:=fun q n z=>n (by rw[z,hH] at q; exact(Option.some.inj q).symm)
 refine⟨e,T,C,dx,del H1 e,rfl,I.os,I.bare,Gi4 (L:=s.heap.objs.size) I.base lf hL (fun b hb=>?_) dn (fun b xs q=>?_) (fun b o v q=>?_) (fun b ps q=>?_),hok_left (Gi3 I.hok hH) lf (fun b hb=>dn b (I.stkFree b hb)) (fun b hb=>?_),fl,⟨Kn,dn T hT1⟩,⟨le,Zp I.base hT⟩,hE⟩
 ·have:b=e:=by simpa using hb
  rw[this]; exact le
 ·rw[Ql (ne_of_kind q (by intro z; cases z))]; exact q
 ·rw[Ql (ne_of_kind q (by intro z; cases z))]; exact q
 ·rw[Ql (ne_of_kind q (by intro z; cases z))]; exact q
 ·have:b=e:=by simpa using hb
  rw[this]; exact Kn
theorem xe_on{s2 s3:Shared}{e:Value}{E2:XK}(I:Inv (Vd (CXe P w) P w K mg base N qual scope f cd A outer s H E) pins σ H2 s2)(hx:CXe P w (Vd (CXe P w) P w K mg base N qual scope f cd A outer s H E).stack H2 s2 E2 e s3)(hE:∀ C dx H',E2 (.ref C) dx H'->E (.ref C) dx H'):
  (Vd (CXe P w) P w K mg base N qual scope f cd A outer s H E).xe e s3:=by
 obtain⟨a,T,C,dx,H',rfl,os,bare,un,hok,fly,⟨na,nT⟩,⟨oa,oT⟩,hE2⟩:=hx
 obtain⟨h3,g3,d3,t3,o3⟩:=s3
 obtain rfl:o3=s2.os:=os
 have I3:Inv (Vd (CXe P w) P w K mg base N qual scope f cd A outer s H E) pins σ H' { s2 with heap:=h3,gens:=g3,drawn:=d3,toks:=t3 }:=I.call (h':=h3) (g':=g3) (d':=d3) (t':=t3) (ch:=[]) un hok bare (fun b z=>absurd z (by simp))
 show wpAny (model P w) _ (leaving (envOfC qual scope s.heap.objs.size f cd) (.ref a)) _ _ _
 have hL:s.heap.get? s.heap.objs.size=none:=Heap.get?_none_of_le (Nat.le_refl _)
 have a0:s.heap.get? a=none:=Zp I.base oa
 have T0:s.heap.get? T=none:=Zp I.base oT
 refine Gvq (base:=base) I3.ok.frames I3.stack rfl fly fun h' T' fl hT lf=>?_
 have nT':H' T'=none:=by
  rcases hT with hT | rfl
  ·exact Gbg hok hT
  ·exact nT
 have oT':s.heap.get? T'=none:=by
  rcases hT with hT | rfl
  ·exact Zp I3.base hT
  ·exact T0
 refine⟨a,T',C,dx,H',rfl,I3.os,bare,Gi4 (L:=s.heap.objs.size) I3.base lf hL (fun b hb=>?_) (fun b q=>q) (fun b xs q=>q) (fun b o v q=>q) (fun b ps q=>q),hok_left hok lf (fun b hb=>I3.stkFree b hb) (fun b hb=>?_),fl,⟨na,nT'⟩,⟨a0,oT'⟩,hE _ _ _ hE2⟩
 ·simp only[List.mem_cons,List.not_mem_nil,or_false] at hb
  rcases hb with rfl | rfl
  ·exact a0
  ·exact T0
 ·simp only[List.mem_cons,List.not_mem_nil,or_false] at hb
  rcases hb with rfl | rfl
  ·exact na
  ·exact nT
end
def XF(H:Hp)(dx:Option Addr)(fl:Option Int):Prop:=(∀ i,fl=some i->∃ d,dx=some d/\H d=some (XA d i))/\(fl=none->dx=none)
theorem Gqb:XF H none none:=⟨fun _ z=>(nomatch z),fun _=>rfl⟩
def WX(K:PySem.W.Frag)(XQ:XW)(σ:L2.St)(C:Addr)(dx:Option Addr)(H:Hp):Prop:=∃ x mp ρ S,XF H dx x.fld/\CN K x.cls C/\XQ x mp H σ ρ S
structure XL(X:Cx)(XQ:XW):Prop where
 own:∀ (pins:List (Addr×Obj)) (σ:L2.St) (H:Hp) (s:Shared) (e C:Addr) (dx:Option Addr) (φ:Heap->Prop),Inv X pins σ H s->H e=some (.ext φ)->Us s.heap e C dx->X.s₀.heap.get? e=none->WX X.K XQ σ C dx (del H e)->X.xe (.ref e) s
 cal:∀ (pins:List (Addr×Obj)) (σ:L2.St) (H:Hp) (s:Shared) (e:Value) (s':Shared) (E2:XK),Inv X pins σ H s->CXe X.prog X.w X.stack H s E2 e s'->(∀ C dx H',E2 (.ref C) dx H'->WX X.K XQ σ C dx H')->X.xe e s'
 pas:PassesOwn (model X.prog X.w) X.A X.env X.xe
 pat:∀ hd,PassesOwnAt (model X.prog X.w) (X.A.mark hd) X.A X.env X.xe
theorem XL.own1(L:XL X XQ)(pins:List (Addr×Obj))(σ:L2.St)(H:Hp)(s:Shared)(e C:Addr)(dx:Option Addr)(I:Inv X pins σ H s)(hH:H e=some (FX e C dx))(h0:X.s₀.heap.get? e=none)(w:WX X.K XQ σ C dx (del H e)):X.xe (.ref e) s:=by
 obtain⟨fr,_,_⟩:=(show Jz X.prog X.w H s.heap e (FX e C dx) from I.hok e _ hH)
 exact L.own pins σ H s e C dx _ I hH fr.g h0 w
def Gyt(K:PySem.W.Frag)(mp:List Addr)(H:Hp)(o:Out D)(Q:VK)(E:XK):Prop:=
 match o with
 | .ok d S=>∀ mp' H' v,Aft K mp H mp' H'->RS K mp' H' S->Rep K mp' H' d v->Q v H'
 | .exc x S=>∃ C,CN K x.cls C/\∀ mp' H' dx,Aft K mp H mp' H'->RS K mp' H' S->XF H' dx x.fld->E (.ref C) dx H'
 | .bad=>False
def spX(K:PySem.W.Frag)(n:Nat)(fn:Fn):Sp:=fun vs H Q E=>∃ mp ds S,RS K mp H S/\RepL K mp H ds vs/\ds.length=n/\Gyt K mp H (fn ds S) Q E
def XQd(K:PySem.W.Frag)(E:XK):XW:=fun x _ H _ _ _=>∃ C,CN K x.cls C/\∀ dx,XF H dx x.fld->E (.ref C) dx H
section
variable{P:Program}{w:World}{K:PySem.W.Frag}{mg:Str->Option Value}{base:Heap}
theorem Gvr{f:Addr}{cd:Value}{outer:List PySem.Env}{E:XK}:XL (Vd (CXe P w) P w K mg base N qual scope f cd A outer s H E) (XQd K E) where
 own:=fun pins σ H1 s1 e C dx φ I hH fr le ⟨x,mp,ρ,S,xf,hc,C',hc',hE⟩=>by
  cases CN.one hc hc'
  exact Gme I hH fr le (hE dx xf)
 cal:=fun pins σ H2 s2 e s3 E2 I hx hE=>xe_on I hx fun C dx H' q=>by
  obtain⟨x,mp,ρ,S,xf,hc,C',hc',hE⟩:=hE C dx H' q
  cases CN.one hc hc'
  exact hE dx xf
 pas:=PassesOwn.leaving
 pat:=fun _=>PassesOwnAt.leaving
theorem Fun.okX{CX:CXT}{st:Stmt}{f:Addr}(F:Fun K x qual st f fd)(S:FnScope N ps (Gf st))(len:∀ vs H Q E,sp vs H Q E->vs.length=ps.length)(hbody:∀ (cdv:Value) (A:Around) (outer:List PySem.Env) (s:Shared) (H:Hp) (vs:List V) (Q:VK) (E:XK),Room k (A.deeper (envOfC qual (Gf st) s.heap.objs.size f cdv))->sp vs H Q E→
   ∃ t,PSs (Vd CX P w K mg base N qual (Gf st) f cdv A outer s H E) (Hi st) t/\t { nx:=fun _ H'=>Q .non H',rt:=Q } (start N vs) H):FnOk P w K mg base CX (k+1) f fd ps sp:=by
 obtain⟨oc,od,kV,doc,pm,an,cdv,ct,osl,rfl,lk,hcd⟩:=F.ex
 exact Gru lk hcd S len fun A outer s H vs Q E hr hsp=>hbody cdv A outer s H vs Q E hr hsp
theorem Gvs{st:Stmt}{f:Addr}{b:Sv}(F:Fun K x qual st f fd)(Sc:FnScope N ps (Gf st))(hb:∀ (cdv:Value) (A:Around) (outer:List PySem.Env) (s:Shared) (H:Hp) (E:XK) (XQ:XW),Room k (A.deeper (envOfC qual (Gf st) s.heap.objs.size f cdv))->XL (Vd (CXe P w) P w K mg base N qual (Gf st) f cdv A outer s H E) XQ→
   JSs (Vd (CXe P w) P w K mg base N qual (Gf st) f cdv A outer s H E) XQ (Hi st) b):FnOk P w K mg base (CXe P w) (k+1) f fd ps (spX K ps.length (fnB N.length b)):=by
 refine Fun.okX F Sc (fun vs H Q E ⟨mp,ds,S,rs,r,hl,_⟩=>by rw[r.len]; exact hl) fun cdv A outer s H vs Q E hr ⟨mp,ds,S,rs,r,hl,p⟩=>?_
 refine⟨_,hb cdv A outer s H E (XQd K E) hr Gvr,mp,_,S,Gg2 rs r,?_⟩
 unfold fnB at p
 show PostS K _ mp H (b (ds.map some++List.replicate (N.length-ds.length) none) S) _
 cases z:b (ds.map some++List.replicate (N.length-ds.length) none) S with
 | rt d S'=>rw[z] at p; exact p
 | nx ρ' S'=>rw[z] at p; exact fun m h v af G=>p m h .non af G.rs rfl
 | bk ρ' S'=>rw[z] at p; exact p.elim
 | ct ρ' S'=>rw[z] at p; exact p.elim
 | exc x ρ' S'=>
  rw[z] at p
  obtain⟨C,hc,q⟩:=p
  exact fun m h v af G=>⟨C,hc,fun dx xf=>q m h dx af G.rs xf⟩
 | bad=>rw[z] at p; exact p.elim
structure CalX(P:Program)(w:World)(K:PySem.W.Frag)(mg:Str->Option Value)(base:Heap)(x:Str)(ps:List Str)(fn:Fn)(j:Nat):Prop where
 ex:∃ f fd,FnOk P w K mg base (CXe P w) j f fd ps (spX K ps.length fn)/\mg x=some (.ref f)/\PySem.W.keepIn K (.ref f)=true/\Binds K fd ps []
theorem Gqc{st:Stmt}(N:List Str)(k:Nat)(b:Sv)(hfn:fn=fnB N.length b)(d:Dn K mg x st ps)(Sc:FnScope N ps (Gf st))(hb:∀ (f:Addr) (cdv:Value) (A:Around) (outer:List PySem.Env) (s:Shared) (H:Hp) (E:XK) (XQ:XW),Room k (A.deeper (envOfC x (Gf st) s.heap.objs.size f cdv))->XL (Vd (CXe P w) P w K mg base N x (Gf st) f cdv A outer s H E) XQ→
   JSs (Vd (CXe P w) P w K mg base N x (Gf st) f cdv A outer s H E) XQ (Hi st) b):CalX P w K mg base x ps fn (k+1):=by
 subst hfn
 obtain⟨f,fd,F,hm,hbi⟩:=d.ex
 exact⟨f,fd,Gvs F Sc (hb f),hm,F.kp,hbi⟩
end
section
variable{X:Cx}{XQ:XW}{k:Nat}{f:Addr}{fd:FuncData}{ps:List Str}{fn:Fn}{x:Str}{p pos:Pos}{e:Expr}{es:List Expr}
def Gvt(sp:Sp)(Wx:L2.St->Addr->Option Addr->Hp->Prop)(t:TA):TE:=fun σ H Q=>t σ H fun vs H1=>sp vs H1 Q fun c dx H'=>∃ C,c=.ref C/\Wx σ C dx H'
theorem Gi5{Wx:L2.St->Addr->Option Addr->Hp->Prop}{Q:VK}{vs:List V}(F:FnOk X.prog X.w X.K X.mg X.base (CXe X.prog X.w) k f fd ps sp)(hr:Room k X.A)(hb:Binds X.K fd ps [])(hx:∀ (pins:List (Addr×Obj)) (σ:L2.St) (H:Hp) (s:Shared) (e:Value) (s':Shared) (E2:XK),Inv X pins σ H s->CXe X.prog X.w X.stack H s E2 e s'->(∀ C dx H',E2 (.ref C) dx H'->Wx σ C dx H')->X.xe e s')(I:Inv X pins σ H s)(r:Vals vs us)(h:sp vs H Q fun c dx H'=>∃ C,c=.ref C/\Wx σ C dx H'):wpAny (model X.prog X.w) X.A (call (.ref f) us) (EP X pins σ Q) X.xe s:=by
 have hl:us.length=ps.length:=by rw[<- r.length]; exact F.len _ _ _ _ h
 refine wpAny_call (codeAny_mono (F.run X.A X.stack s H ⟨us,[]⟩ us vs Q _ hr I.env0 (by have:=hb s us I.kIn (by simpa using hl); simpa using this) r h) fun r s' hq=>?_)
 cases r with
 | error e=>exact hx pins σ H s e s' (fun c dx H'=>∃ C,c=.ref C/\Wx σ C dx H') I hq fun C dx H' ⟨C',e1,q⟩=>by cases e1; exact q
 | ok fl=>
  cases fl with
  | ret u=>exact I.after hq
  | next=>exact False.elim hq
  | brk=>exact False.elim hq
  | cont=>exact False.elim hq
theorem Gmf{Wx:L2.St->Addr->Option Addr->Hp->Prop}{t:TA}(F:FnOk X.prog X.w X.K X.mg X.base (CXe X.prog X.w) k f fd ps sp)(hr:Room k X.A)(hg:Gl X x)(hm:X.mg x=some (.ref f))(hk:PySem.W.keepIn X.K (.ref f)=true)(hb:Binds X.K fd ps [])(hx:∀ (pins:List (Addr×Obj)) (σ:L2.St) (H:Hp) (s:Shared) (e:Value) (s':Shared) (E2:XK),Inv X pins σ H s->CXe X.prog X.w X.stack H s E2 e s'->(∀ C dx H',E2 (.ref C) dx H'->Wx σ C dx H')->X.xe e s')(ha:PA X (e::es) t)(hdb:(x==("__debug__":Str))=false:=by decide)(he:starEach (e::es) X.env=(false,eval e X.env)::starEach es X.env:=by rfl)(hpl:(backTo pos (starEach es X.env)).any (·.1)=false:=by rfl):
  PE X (.Call (.Name x p) (e::es) [] pos) (Gvt sp Wx t):=by
 intro pins s σ H Q I h
 refine wpAny_Call_Name_kw (Yh I hg hm ?_ hdb)
 refine PySem.W.callWith_K (h₀:=X.base) I.ok.mod.kin hk (thn (ha pos pins s σ H _ I h) fun us s1 ⟨vs,H1,I1,r,q⟩=>⟨I1.kIn,?_⟩) he hpl
 exact Gi5 F hr hb hx I1 r q
def gX(ys:List Str)(fn:Fn):Fn:=fun ds S=>match fn ds S with
 | .ok d S'=>.ok d S'
 | .exc x S'=>if x.cls∈ys then .exc x S' else .bad
 | .bad=>.bad
def XNs(K:PySem.W.Frag)(ys:List Str):Prop:=∀ y∈ys,∃ C,CN K y C/\XCl K C
theorem Gmg{ys:List Str}(xs:XNs X.K ys)(L:XL X XQ)(F:FnOk X.prog X.w X.K X.mg X.base (CXe X.prog X.w) j f fd ps (spX X.K ps.length fn))(hr:Room k X.A)(hj:j<=k)(hg:Gl X x)(hm:X.mg x=some (.ref f))(hk:PySem.W.keepIn X.K (.ref f)=true)(hb:Binds X.K fd ps [])(ha:JA X XQ (e::es) t)(hdb:(x==("__debug__":Str))=false:=by decide)(he:starEach (e::es) X.env=(false,eval e X.env)::starEach es X.env:=by rfl)(hpl:(backTo pos (starEach es X.env)).any (·.1)=false:=by rfl):
  JE X XQ (.Call (.Name x p) (e::es) [] pos) (cl ps.length (gX ys fn) t):=by
 refine PE.mono (Gmf (Wx:=WX X.K XQ) (F.mono hj) hr hg hm hk hb L.cal ha hdb he hpl) fun σ H Q ⟨mp,ρ,S,G,p⟩=>?_
 refine bindP G p fun mp1 H1 ds S1 vs a1 G1 r1 p1=>?_
 by_cases hl:ds.length=ps.length
 ·rw[if_pos hl] at p1
  refine⟨mp1,ds,S1,G1.rs,r1,hl,?_⟩
  unfold gX at p1
  cases z:fn ds S1 with
  | ok d S'=>rw[z] at p1; exact p1
  | exc xx S'=>
   rw[z] at p1
   by_cases hi:xx.cls∈ys
   ·have p1:Gs X.K (Rep X.K) XQ σ ρ mp1 H1 (.exc xx S') Q:=by simpa only[if_pos hi] using p1
    obtain⟨C,hC,_⟩:=xs _ hi
    refine⟨C,hC,fun mp' H' dx af rs xf=>⟨C,rfl,xx,mp',ρ,S',xf,hC,p1 mp' H' af (G1.aft af rs)⟩⟩
   ·have p1:Gs X.K (Rep X.K) XQ σ ρ mp1 H1 .bad Q:=by simpa only[if_neg hi] using p1
    exact p1.elim
  | bad=>rw[z] at p1; exact p1.elim
 ·rw[if_neg hl] at p1; exact p1.elim
theorem Gyu{ys:List Str}(xs:XNs X.K ys)(L:XL X XQ)(C:CalX X.prog X.w X.K X.mg X.base x ps fn j)(hr:Room k X.A)(hg:Gl X x)(hp:Hf x=true)(ha:JA X XQ (e::es) t)(hn:ps.length=n:=by rfl)(hj:j<=k:=by decide)(he:starEach (e::es) X.env=(false,eval e X.env)::starEach es X.env:=by rfl)(hpl:(backTo pos (starEach es X.env)).any (·.1)=false:=by rfl):
  JE X XQ (.Call (.Name x p) (e::es) [] pos) (cl n (gX ys fn) t):=by
 subst hn
 obtain⟨f,fd,F,hm,hk,hb⟩:=C.ex
 exact Gmg xs L F hr hj hg hm hk hb ha (Hf.of hp).1 he hpl
def srs(y:Str)(f:Ev (List D)):Sv:=fun ρ S=>bindS (f ρ S) ρ fun ds S1=>match ds with
 | [_]=>.exc ⟨y,none⟩ ρ S1
 | _=>.bad
structure ClX(P:Program)(w:World)(K:PySem.W.Frag)(mg:Str->Option Value)(base:Heap)(x:Str)(j:Nat):Prop where
 ex:∃ C f fd ps oI,mg x=some (.ref C)/\CN K x C/\KX K C/\PySem.W.findIn K (.ref C) "__init__"=some (some (.ref f))/\K.lookup f=some oI/\oI.cls=.type "function"/\FnOk P w K mg base CX0 j f fd ps (spI K)/\ps.length=2/\Binds K fd ps []
theorem Gmh{pos:Pos}(L:XL X XQ)(hcm:X.calm=true)(C:ClX X.prog X.w X.K X.mg X.base x j)(hr:Room k X.A)(hg:Gl X x)(hp:Hf x=true)(ha:JA X XQ [a] t)(hj:j+1<=k:=by decide)(he:starEach [a] X.env=(false,eval a X.env)::starEach [] X.env:=by rfl)(hpl:(backTo cpos (starEach [] X.env)).any (·.1)=false:=by rfl):
  JS X XQ (.Raise (some (.Call (.Name x np) [a] [] cpos)) none pos) (srs x t):=by
 obtain⟨C,f,fd,ps,oI,hm,hc,kx,hi,lf,hfc,F,hl,hb⟩:=C.ex
 refine PS.mono (Gmd (W:=fun σ H e=>WX X.K XQ σ C none (del H e)) (fun pins σ H e s' I hH h0 w=>L.own1 pins σ H s' e C none I hH h0 w) hcm hg hm kx hi lf hfc F hl (hr.mono hj) hb ha (Hf.of hp).1 he hpl) fun E σ H ⟨mp,ρ,S,G,p⟩=>?_
 refine bindSP G p fun mp1 H1 ds S1 vs a1 G1 r1 p1=>?_
 split at p1
 ·obtain⟨v,rfl,_⟩:=RepL.one r1
  refine⟨v,rfl,fun e he=>⟨⟨x,none⟩,mp1,ρ,S1,Gqb,hc,?_⟩⟩
  have e1:del (upd H1 e (FX e C none)) e=H1:=by
   funext b
   by_cases c:b=e
   ·rw[c,Kn,he]
   ·rw[Ql c,Hb c]
  rw[e1]
  exact p1 mp1 H1 σ .refl G1
 ·exact p1.elim
end
structure Plain(X:Cx):Prop where
 stk:X.stack=X.env::X.outer
 fr:X.env.frame=some X.env.locals
 ex:X.ex=[]
structure Landed(X:Cx)(pins:List (Addr×Obj))(σ:L2.St)(H:Hp)(a C:Addr)(dx:Option Addr)(s:Shared):Prop where
 ex:∃ T,Inv X pins σ H s/\Fly s.heap a T C dx/\(H a=none/\H T=none)/\(X.s₀.heap.get? a=none/\X.s₀.heap.get? T=none)/\∀ p∈X.pn++pins,p.1≠a/\p.1≠T
section
variable{X:Cx}{pins:List (Addr×Obj)}{σ:L2.St}{H:Hp}{s:Shared}{A:Around}{E:Value->Shared->Prop}{Q:Unit->Shared->Prop}{M:Model}
theorem Plain.old{b:Addr}(pl:Plain X)(I:Inv X pins σ H s)(e:s.heap.get? b=none):X.s₀.heap.get? b=none:=by
 have u:=I.base
 rw[pl.ex] at u
 exact Zp u e
theorem own_land{e:Addr}(pl:Plain X)(I:Inv X pins σ H s)(hH:H e=some (.ext φ))(fr:Us s.heap e C dx)(le:X.s₀.heap.get? e=none)(hq:∀ s',Landed X pins σ (del H e) e C dx s'->Q () s'):
  wpAny M X.A (noteFrame (.ref e) X.env) (fun _ s₂=>wpAny M X.A (setFlight (.ref e) none) Q E s₂) E s:=by
 have hfr:X.A.frames=some (X.env::X.outer):=by rw[I.ok.frames,pl.stk]
 have hl:s.heap.FunFrames X.base (X.env::X.outer):=by rw[<- pl.stk]; exact I.stack
 refine Gsc hfr hl pl.fr fr fun h' T fl hT lf=>hq _ ?_
 have dn:∀ b,H b=none->del H e b=none:=fun b q=>by
  by_cases c:b=e
  ·rw[c,Kn]
  ·rw[Ql c]; exact q
 have nk:∀ {b:Addr} {o:HO},H b=some o->o≠.ext φ->b≠e:=fun q n z=>n (by rw[z,hH] at q; exact(Option.some.inj q).symm)
 have ne0:∀ b,H b=none->b≠e:=fun b q z=>by rw[z,hH] at q; cases q
 rw[<- pl.stk] at lf
 have un:Un (frs X.stack) [] H (del H e) s.heap h':=⟨fun b o q n hb _=>lf.keep b o hb (fun z=>ne0 b n (by simpa using z)) q,fun b o q n hb _=>lf.slot b o hb q,fun b o q n _=>dn b n,fun b o q _=>by
   by_cases c:b∈frs X.stack
   ·obtain⟨sl,q'⟩:=lf.slot b o c q
    exact⟨_,q'⟩
   ·by_cases c2:b=e
    ·subst c2
     obtain⟨oe,_,_,_,_,z,_⟩:=fl
     exact⟨_,z⟩
    ·exact⟨o,lf.keep b o c (by simpa using c2) q⟩,
  fun b xs q=>by rw[Ql (nk q (by intro z; cases z))]; exact q,fun b o v q=>by rw[Ql (nk q (by intro z; cases z))]; exact q,fun b ps q=>⟨#[],by rw[Ql (nk q (by intro z; cases z)),q]; simp⟩⟩
 have hk:HOk X.prog X.w (del H e) h':=hok_left (Gi3 I.hok hH) lf (fun b hb=>dn b (I.stkFree b hb)) (fun b hb=>by
  have:b=e:=by simpa using hb
  rw[this]; exact Kn)
 refine⟨T,?_,fl,⟨Kn,dn T (Gbg I.hok hT)⟩,⟨le,pl.old I hT⟩,fun p hp=>?_⟩
 ·have J:=I.call (h':=h') (g':=s.gens) (d':=s.drawn) (t':=s.toks) (ch:=[]) un hk I.bare (fun b z=>absurd z (by simp))
  exact J
 ·obtain⟨q1,q2,_⟩:=I.pin p hp
  refine⟨ne0 _ q2,fun z=>?_⟩
  rw[z,hT] at q1
  cases q1
theorem call_land{E2:XK}{e:Value}{s':Shared}(pl:Plain X)(I:Inv X pins σ H s)(hx:CXe X.prog X.w X.stack H s E2 e s')(hq:∀ a C dx H' s'',e=.ref a->E2 (.ref C) dx H'->Landed X pins σ H' a C dx s''->Q () s''):
  wpAny M X.A (noteFrame e X.env) (fun _ s₂=>wpAny M X.A (setFlight e none) Q E s₂) E s':=by
 obtain⟨a,T,C,dx,H',rfl,os,bare,un,hok,fly,⟨na,nT⟩,⟨oa,oT⟩,hE2⟩:=hx
 obtain⟨h3,g3,d3,t3,o3⟩:=s'
 obtain rfl:o3=s.os:=os
 have I3:Inv X pins σ H' { s with heap:=h3,gens:=g3,drawn:=d3,toks:=t3 }:=I.call (h':=h3) (g':=g3) (d':=d3) (t':=t3) (ch:=[]) un hok bare (fun b z=>absurd z (by simp))
 have hfr:X.A.frames=some (X.env::X.outer):=by rw[I.ok.frames,pl.stk]
 have hl:h3.FunFrames X.base (X.env::X.outer):=by rw[<- pl.stk]; exact I3.stack
 refine Gsd (s:={ s with heap:=h3,gens:=g3,drawn:=d3,toks:=t3 }) hfr hl pl.fr fly fun h' T' fl hT lf=>hq a C dx H' _ rfl hE2 ?_
 rw[<- pl.stk] at lf
 have nn:∀ b o,s.heap.get? b=some o->b∉[a,T]:=fun b o q z=>by
  simp only[List.mem_cons,List.not_mem_nil,or_false] at z
  rcases z with rfl | rfl
  ·rw[oa] at q; cases q
  ·rw[oT] at q; cases q
 have un2:Un (frs X.stack) [] H H' s.heap h':=⟨fun b o q n hb hx=>lf.keep b o hb (nn b o q) (un.keep b o q n hb hx),fun b o q n hb hx=>by
   obtain⟨sl,q1⟩:=un.slot b o q n hb hx
   obtain⟨sl',q2⟩:=lf.slot b _ hb q1
   exact⟨sl',q2⟩,un.free,fun b o q hx=>by
   obtain⟨o',q1⟩:=un.there b o q hx
   by_cases c:b∈frs X.stack
   ·obtain⟨sl,q2⟩:=lf.slot b o' c q1
    exact⟨_,q2⟩
   ·exact⟨o',lf.keep b o' c (nn b o q) q1⟩,un.tups,un.frzs,un.tbls⟩
 have nT':H' T'=none:=by
  rcases hT with hT | rfl
  ·exact Gbg hok hT
  ·exact nT
 have oT':X.s₀.heap.get? T'=none:=by
  rcases hT with hT | rfl
  ·exact pl.old I3 hT
  ·exact pl.old I oT
 have hk:HOk X.prog X.w H' h':=hok_left hok lf (fun b hb=>I3.stkFree b hb) (fun b hb=>by
  simp only[List.mem_cons,List.not_mem_nil,or_false] at hb
  rcases hb with rfl | rfl
  ·exact na
  ·exact nT)
 refine⟨T',?_,fl,⟨na,nT'⟩,⟨pl.old I oa,oT'⟩,fun p hp=>?_⟩
 ·have J:=I.call (h':=h') (g':=g3) (d':=d3) (t':=t3) (ch:=[]) un2 hk bare (fun b z=>absurd z (by simp))
  exact J
 ·obtain⟨q1,q2,_⟩:=I.pin p hp
  obtain⟨q3,_,_⟩:=I3.pin p hp
  refine And.intro (fun z=>?_) (fun z=>?_)
  ·rw[z,oa] at q1; cases q1
  rcases hT with hT | rfl
  ·rw[z] at q3
   rw[show h3.get? T'=none from hT] at q3
   cases q3
  ·rw[z,oT] at q1; cases q1
end
section
variable{X:Cx}{pins:List (Addr×Obj)}{σ:L2.St}{H:Hp}{s:Shared}{A:Around}{E:Value->Shared->Prop}{Q:Unit->Shared->Prop}{M:Model}
theorem Gqd{it:Addr}{h':Heap}(I:Inv X pins σ H s)(k:∀ b o,b≠it->s.heap.get? b=some o->h'.get? b=some o)(there:∃ o,h'.get? it=some o)(hn:H it=none)(hL:it≠X.env.locals)(h0:X.s₀.heap.get? it=none)(h2:∀ x c,X.env.cells.lookup x=some c->c≠it)(h3:∀ p∈X.pn++pins,p.1≠it):Inv X pins σ H { s with heap:=h' }:=by
 have n0:∀ b o,X.s₀.heap.get? b=some o->b≠it:=fun b o e z=>by rw[z,h0] at e; cases e
 have nit:∀ b u,H b=some u->b≠it:=fun b u e z=>by rw[z,hn] at e; cases e
 have ce:∀ x c,X.env.cells.lookup x=some c->∀ v,s.heap.IsCell c v->h'.IsCell c v:=fun x c e v ⟨o,ho,hd⟩=>⟨o,k c o (h2 x c e) ho,hd⟩
 refine⟨I.ok,I.os,I.bare,⟨fun b o e n hb hx=>k b o (n0 b o e) (I.base.keep b o e n hb hx),fun b o e n hb hx=>?_,I.base.free,fun b o e hx=>?_,I.base.tups,I.base.frzs,I.base.tbls⟩,?_,fun x c e=>?_,I.free,I.freeC,fun p hp=>?_,fun b u e=>?_,I.len⟩
 ·obtain⟨sl,q⟩:=I.base.slot b o e n hb hx
  exact⟨sl,k b _ (n0 b o e) q⟩
 ·obtain⟨o',q⟩:=I.base.there b o e hx
  exact⟨o',k b o' (n0 b o e) q⟩
 ·obtain⟨m,⟨o,es,ep,ho,r⟩,hl⟩:=I.loc
  refine⟨m,⟨o,es,ep,k _ o (Ne.symm hL) ho,r⟩,fun i x v e1 e2 e3=>?_⟩
  obtain⟨u,r,l⟩:=hl i x v e1 e2 e3
  refine⟨u,r,?_⟩
  rcases l with l | ⟨kk,c,e,z⟩
  ·exact .inl l
  ·exact .inr ⟨kk,c,e,ce x c e _ z⟩
 ·obtain⟨v,z⟩:=I.cell x c e
  exact⟨v,ce x c e v z⟩
 ·obtain⟨q1,q2,q3,q4,q5⟩:=I.pin p hp
  exact⟨k _ _ (h3 p hp) q1,q2,q3,q4,q5⟩
 ·refine(I.hok b u e).stay (fun c v hc q=>k c v ?_ q) (fun _ q=>q) fun _ _ q=>q
  rcases hc with z | z
  ·rw[z]; exact nit b u e
  ·exact nit c _ z
theorem Gh8{b:Addr}{o:Obj}(I:Inv X pins σ H s)(e:s.heap.get? b=some o)(d:o.data=.fields vs):b≠X.env.locals/\∀ x c,X.env.cells.lookup x=some c->c≠b:=by
 refine⟨fun z=>?_,fun x c hc z=>?_⟩
 ·obtain⟨m,⟨o',es,ep,ho,hd,_⟩,_⟩:=I.loc
  rw[<- z,e] at ho
  cases ho
  rw[d] at hd
  cases hd
 ·obtain⟨v,o',ho,hd⟩:=I.cell x c hc
  rw[z,e] at ho
  cases ho
  rw[d] at hd
  cases hd
theorem Landed.flight{a:Addr}(l:Landed X pins σ H a C dx s)(hq:∀ s',Landed X pins σ H a C dx s'->Q () s'):wpAny M A (setFlight (.ref a) none) Q E s:=by
 obtain⟨T,I,⟨oe,vs,oT,ts,a0,e1,e2,e3,e4,e5,e6,e7,e8⟩,⟨na,nT⟩,⟨oa,ot⟩,pn⟩:=l.ex
 have h3:3<ts.size:=(Array.getElem?_eq_some_iff.mp e8).1
 refine wpAny_setFlight_none e1 e3 e4 e6 e7 h3 (hq _ ⟨T,?_,?_,⟨na,nT⟩,⟨oa,ot⟩,pn⟩)
 ·have rn:=Gh8 I e6 e7
  exact Gqd (it:=T) I (fun b o hb q=>by rw[Heap.get?_update_other _ _ (Ne.symm hb)]; exact q) ⟨_,Heap.get?_update_self _ e6 (Obj.isFreed_of_fields (Obj.data_mapFields e7 _))⟩ nT rn.1 ot rn.2 fun p hp=>(pn p hp).2
 ·exact⟨oe,vs,_,_,a0,by rw[Heap.get?_update_other _ _ e5]; exact e1,e2,e3,e4,e5,Heap.get?_update_self _ e6 (Obj.isFreed_of_fields (Obj.data_mapFields e7 _)),Obj.data_mapFields e7 _,by simp[h3]⟩
theorem Gdl{a:Addr}(I:Inv X pins σ H s)(hn:H a=none)(h0:X.s₀.heap.get? a=none)(hL:a≠X.env.locals)(h2:∀ x c,X.env.cells.lookup x=some c->c≠a)(h3:∀ p∈X.pn++pins,p.1≠a)(ok:φ s.heap)(th:∃ o,s.heap.get? a=some o)(st:∀ h1 h2:Heap,φ h1->(∀ o,h1.get? a=some o->h2.get? a=some o)->φ h2):Inv X pins σ (upd H a (.ext φ)) s:=by
 have n0:∀ b o,X.s₀.heap.get? b=some o->b≠a:=fun b o e z=>by rw[z,h0] at e; cases e
 have nk:∀ {b:Addr} {o:HO},H b=some o->b≠a:=fun e z=>by rw[z,hn] at e; cases e
 refine⟨I.ok,I.os,I.bare,⟨I.base.keep,I.base.slot,fun b o e n hx=>?_,I.base.there,fun b xs e=>?_,fun b o v e=>?_,fun b ps e=>?_⟩,I.loc,I.cell,?_,fun x c e=>?_,fun p hp=>?_,fun b o e=>?_,I.len⟩
 ·rw[Hb (n0 b o e)]; exact I.base.free b o e n hx
 ·have q:=I.base.tups b xs e
  rw[Hb (nk q)]; exact q
 ·have q:=I.base.frzs b o v e
  rw[Hb (nk q)]; exact q
 ·obtain⟨more,q⟩:=I.base.tbls b ps e
  exact⟨more,by rw[Hb (nk q)]; exact q⟩
 ·rw[Hb (Ne.symm hL)]; exact I.free
 ·rw[Hb (h2 x c e)]; exact I.freeC x c e
 ·obtain⟨q1,q2,q3,q4,q5⟩:=I.pin p hp
  exact⟨q1,by rw[Hb (h3 p hp)]; exact q2,q3,q4,q5⟩
 ·by_cases c:b=a
  ·subst c
   rw[upd_same] at e
   cases e
   exact⟨ok,th,st⟩
  ·rw[Hb c] at e
   refine(I.hok b o e).stay (fun c u _ q=>q) (fun c q=>?_) fun c xs q=>?_
   ·rw[Hb (nk q)]; exact q
   ·rw[Hb (nk q)]; exact q
theorem Landed.know{a:Addr}(l:Landed X pins σ H a C dx s):H a=none/\Inv X pins σ (upd H a (XO a C dx)) s:=by
 obtain⟨T,I,⟨oe,vs,oT,ts,a0,e1,e2,e3,e4,e5,e6,e7,e8⟩,⟨na,nT⟩,⟨oa,ot⟩,pn⟩:=l.ex
 have rn:=Gh8 I e1 e3
 exact⟨na,Gdl I na oa rn.1 rn.2 (fun p hp=>(pn p hp).1) ⟨oe,e1,e2.1,e2.2.1,vs,e3⟩ ⟨oe,e1⟩ fun h1 h2 ⟨o,q1,q2⟩ k=>⟨o,k _ q1,q2⟩⟩
abbrev hnd(X:Cx)(a:Addr):Cx:={ X with A:=X.A.mark (some (.ref a)),calm:=false,xe:=fun _ _=>False }
theorem _root_.L2.Inv.hnd(I:Inv X pins σ H s)(a:Addr):Inv (DL.hnd X a) pins σ H s:=
 ⟨⟨I.ok.mod,I.ok.kind,I.ok.glob,I.ok.blt,I.ok.above,I.ok.inj,I.ok.has,I.ok.cab,(fun z=>nomatch z),I.ok.frames,I.ok.stk,I.ok.exf,I.ok.bs,I.ok.bsz,I.ok.noex,I.ok.exfs,I.ok.funs,I.ok.frf⟩,I.os,I.bare,I.base,I.loc,I.cell,I.free,I.freeC,I.pin,I.hok,I.len⟩
theorem _root_.L2.Inv.unhnd{a:Addr}(ok:X.Ok)(I:Inv (DL.hnd X a) pins σ H s):Inv X pins σ H s:=⟨ok,I.os,I.bare,I.base,I.loc,I.cell,I.free,I.freeC,I.pin,I.hok,I.len⟩
theorem Gan{n:Str}(I:Inv X pins σ H s)(hN:X.N.Nodup)(hi:X.N[i]?=some n)(hk:X.env.scope.names.lookup n=some .local)(hq:∀ s',Inv X pins (σ.set i none) H s'->Q () s'):
  wpAny M A (do bindName X.env n .none; unbindBehindTheSuite X.env n pos) Q E s:=by
 obtain⟨m,hn,hl⟩:=id I.loc
 have hcls:(X.env.scope.kind==.class||(X.env.scope.kind==.module&&X.env.locals != X.env.globals))=false:=by rw[I.ok.kind]; rfl
 refine wpAny_nameGoes_keeps hk hn hcls fun h' v hn' hs=>hq _ ?_
 obtain⟨oL,_,_,hoL,_⟩:=id hn
 have below:∀ b o,X.s₀.heap.get? b=some o->b≠X.env.locals:=fun b o e=>Nat.ne_of_lt (Nat.lt_of_lt_of_le (Heap.lt_size e) I.ok.above)
 refine⟨I.ok,I.os,I.bare,⟨fun b o e n hb hx=>(hs.2 b (below b o e)).trans (I.base.keep b o e n hb hx),fun b o e n hb hx=>?_,I.base.free,fun b o e hx=>?_,I.base.tups,I.base.frzs,I.base.tbls⟩,⟨_,hn',fun j y w e1 e2 e3=>?_⟩,fun y c e=>?_,I.free,I.freeC,fun p hp=>?_,fun b ob e=>?_,by simpa using I.len⟩
 ·obtain⟨sl,e1⟩:=I.base.slot b o e n hb hx
  exact⟨sl,(hs.2 b (below b o e)).trans e1⟩
 ·obtain⟨o',e1⟩:=I.base.there b o e hx
  exact⟨o',(hs.2 b (below b o e)).trans e1⟩
 ·by_cases hj:j=i
  ·subst hj
   rw[List.getElem?_set] at e2
   simp only[if_true] at e2
   split at e2<;>cases e2
  ·rw[List.getElem?_set_ne (Ne.symm hj)] at e2
   obtain⟨u',r',q⟩:=hl j y w e1 e2 e3
   refine⟨u',r',?_⟩
   rcases q with⟨k,e⟩ | ⟨k,c,e,z⟩
   ·refine .inl ⟨k,?_⟩
    have:y≠n:=fun e=>hj (Gc8 hN e1 (e▸hi))
    simp[this,e]
   ·exact .inr ⟨k,c,e,z.sameBut hs (I.cne y c e)⟩
 ·obtain⟨w,z⟩:=I.cell y c e
  exact⟨w,z.sameBut hs (I.cne y c e)⟩
 ·obtain⟨e,n,ne,nf,d⟩:=I.pin p hp
  exact⟨(hs.2 p.1 ne).trans e,n,ne,nf,d⟩
 ·refine(I.hok b ob e).stay (fun c w hc q=>(hs.2 c ?_).trans q) (fun _ q=>q) fun _ _ q=>q
  rintro rfl
  rcases hc with rfl | hc
  ·rw[I.free] at e; cases e
  ·rw[I.free] at hc; cases hc
end
abbrev trb(X:Cx)(pn:List (Addr×Obj))(xe:Value->Shared->Prop):Cx:={ X with pn:=pn,xe:=xe }
section
variable{X:Cx}{XQ:XW}{pins:List (Addr×Obj)}{σ:L2.St}{H:Hp}{s:Shared}{pn:List (Addr×Obj)}{xe:Value->Shared->Prop}
theorem _root_.L2.Inv.trb(I:Inv X pins σ H s):Inv (DL.trb X (X.pn++pins) xe) [] σ H s:=
 ⟨⟨I.ok.mod,I.ok.kind,I.ok.glob,I.ok.blt,I.ok.above,I.ok.inj,I.ok.has,I.ok.cab,I.ok.hd,I.ok.frames,I.ok.stk,I.ok.exf,I.ok.bs,I.ok.bsz,I.ok.noex,I.ok.exfs,I.ok.funs,I.ok.frf⟩,I.os,I.bare,I.base,I.loc,I.cell,I.free,I.freeC,fun p hp=>I.pin p (by simpa using hp),I.hok,I.len⟩
theorem _root_.L2.Inv.untrb{pins':List (Addr×Obj)}(ok:X.Ok)(I:Inv (DL.trb X (X.pn++pins) xe) pins' σ H s):Inv X pins σ H s:=
 ⟨ok,I.os,I.bare,I.base,I.loc,I.cell,I.free,I.freeC,fun p hp=>I.pin p (List.mem_append_left _ hp),I.hok,I.len⟩
theorem Landed.untrb{pins':List (Addr×Obj)}{a:Addr}(ok:X.Ok)(l:Landed (DL.trb X (X.pn++pins) xe) pins' σ H a C dx s):Landed X pins σ H a C dx s:=by
 obtain⟨T,I,f,n,o,p⟩:=l.ex
 exact⟨T,I.untrb ok,f,n,o,fun q hq=>p q (List.mem_append_left _ hq)⟩
theorem Plain.trb(pl:Plain X):Plain (trb X pn xe):=⟨pl.stk,pl.fr,pl.ex⟩
theorem Gd.unset{mp:List Addr}{ρ:Lc}{S:Sto}(G:Gd K mp H σ ρ S)(i:Nat):Gd K mp H (σ.set i none) (ρ.set i none) S:=by
 refine⟨G.rs,by simp[G.len],fun j e h=>?_⟩
 by_cases hj:j=i
 ·subst hj
  rw[List.getElem?_set] at h
  simp only[if_true] at h
  split at h<;>cases h
 ·rw[List.getElem?_set_ne (Ne.symm hj)] at h ⊢
  exact G.loc j e h
def Zf(ys:List Str)(hh:XD->Sv)(fb:Sv):Sv:=fun ρ S=>match fb ρ S with
 | .nx ρ' S'=>.nx ρ' S'
 | .rt d S'=>.rt d S'
 | .bk ρ' S'=>.bk ρ' S'
 | .ct ρ' S'=>.ct ρ' S'
 | .exc x ρ' S'=>if x.cls∈ys then hh x ρ' S' else .bad
 | .bad=>.bad
theorem Gi6{hd:ExceptHandler}{ys:List Str}{hh:XD->Sv}{fb:Sv}(pl:Plain X)(hH:∀ (pins:List (Addr×Obj)) (σ:L2.St) (H:Hp) (s:Shared) (a C:Addr) (dx:Option Addr) (x:XD) (mp:List Addr) (ρ:Lc) (S:Sto) (D:Ends),x.cls∈ys->CN X.K x.cls C->XF H dx x.fld->Landed X pins σ H a C dx s->Gd X.K mp H σ ρ S->PostS X.K XQ mp H (hh x ρ S) D->wpAny (model X.prog X.w) X.A (handleBy (.ref a) X.env [hd]) (SP X pins D) X.xe s)(hb:∀ (pn:List (Addr×Obj)) (xe:Value->Shared->Prop) (XQ':XW),XL (trb X pn xe) XQ'->JSs (trb X pn xe) XQ' body fb):JS X XQ (.Try body [hd] [] [] pos) (Zf ys hh fb):=by
 intro pins s σ H D I ⟨mp,ρ,S,G,p⟩
 refine wpAny_Try_except ?_
 have ok:=I.ok
 let Eh:Value->Shared->Prop:=fun e s₁=>wpAny (model X.prog X.w) X.A (noteFrame e X.env) (fun _ s₂=>wpAny (model X.prog X.w) X.A (setFlight e none) (fun _ s₃=>wpAny (model X.prog X.w) X.A (handleBy e X.env [hd]) (SP X pins D) X.xe s₃) X.xe s₂) X.xe s₁
 let XQ':XW:=fun x mp H σ ρ S=>x.cls∈ys/\Gd X.K mp H σ ρ S/\PostS X.K XQ mp H (hh x ρ S) D
 have fin:∀ (pins':List (Addr×Obj)) (σ:L2.St) (H:Hp) (s:Shared) (a C:Addr) (dx:Option Addr),WX X.K XQ' σ C dx H->Landed (DL.trb X (X.pn++pins) Eh) pins' σ H a C dx s->wpAny (model X.prog X.w) X.A (handleBy (.ref a) X.env [hd]) (SP X pins D) X.xe s:=
  fun pins' σ H s a C dx ⟨x,mp,ρ,S,xf,hc,hm,G,p⟩ l=>hH pins σ H s a C dx x mp ρ S D hm hc xf (l.untrb ok) G p
 have L:XL (DL.trb X (X.pn++pins) Eh) XQ':=⟨fun pins' σ H s e C dx φ I hH fr le w=>own_land (X:=DL.trb X (X.pn++pins) Eh) pl.trb I hH fr le fun s' l=>fin pins' σ _ s' e C dx w l,
  fun pins' σ H s e s' E2 I hx hE=>call_land (X:=DL.trb X (X.pn++pins) Eh) pl.trb I hx fun a C dx H' s'' ea q l=>by
   subst ea
   exact fin pins' σ H' s'' a C dx (hE C dx H' q) l,
  PassesOwn.looking,fun _=>PassesOwnAt.looking⟩
 have post:PostS X.K XQ' mp H (fb ρ S) D:=by
  unfold Zf at p
  cases z:fb ρ S with
  | nx ρ' S'=>rw[z] at p; exact p
  | rt d S'=>rw[z] at p; exact p
  | bk ρ' S'=>rw[z] at p; exact p
  | ct ρ' S'=>rw[z] at p; exact p
  | bad=>rw[z] at p; exact p
  | exc x ρ' S'=>
   rw[z] at p
   by_cases hm:x.cls∈ys
   ·have p:PostS X.K XQ mp H (hh x ρ' S') D:=by simpa only[if_pos hm] using p
    exact fun mp' H' σ' af G'=>⟨hm,G',PostS.aft p af⟩
   ·have p:PostS X.K XQ mp H .bad D:=by simpa only[if_neg hm] using p
    exact p.elim
 refine wpAny_mono (hb (X.pn++pins) Eh XQ' L [] s σ H D I.trb ⟨mp,ρ,S,G,post⟩) (fun f s1 q=>?_) fun e s1 q=>q
 cases f with
 | next=>
  obtain⟨σ',H',I',q⟩:=q
  exact wpAny_execs_nil ⟨σ',H',I'.untrb ok,q⟩
 | brk=>
  obtain⟨σ',H',I',q⟩:=q
  exact⟨σ',H',I'.untrb ok,q⟩
 | cont=>
  obtain⟨σ',H',I',q⟩:=q
  exact⟨σ',H',I'.untrb ok,q⟩
 | ret u=>
  obtain⟨v,σ',H',I',r,q⟩:=q
  exact⟨v,σ',H',I'.untrb ok,r,q⟩
structure Cat(K:PySem.W.Frag)(mg:Str->Option Value)(c:Str)(ys:List Str):Prop where
 ex:∃ cs,mg c=some (.ref cs)/\∀ y∈ys,∃ C,CN K y C/\XCl K C/\PySem.W.exmOne K (.ref C) (.ref cs)=some true
def hdl(i:Nat)(fh:Sv)(x:XD):Sv:=fun ρ S=>match fh (ρ.set i (some (.exn x.cls x.fld))) S with
 | .nx ρ' S'=>.nx (ρ'.set i none) S'
 | .rt d S'=>.rt d S'
 | .bk ρ' S'=>.bk (ρ'.set i none) S'
 | .ct ρ' S'=>.ct (ρ'.set i none) S'
 | _=>.bad
theorem Gvu{M:Model}{a T:Addr}(f:Fly h a T C dx):PySem.W.Looks M h (typeOf (.ref a)) (.ref C):=by
 obtain⟨oe,vs,_,_,_,h1,⟨h2,_⟩,_⟩:=f
 exact h2▸(PySem.W.Looks.ld h1).andThen .now
theorem Gmi{c:Str}{ys:List Str}{a:Addr}{R:Result->Shared->Prop}(ct:Cat X.K X.mg c ys)(hg:Gl X c)(hp:Hf c=true)(hy:y∈ys)(hc:CN X.K y C)(l:Landed X pins σ H a C dx s)(hq:R (.ok .brk) s):
  XCl X.K C/\codeAny (model X.prog X.w) (X.A.mark (some (.ref a))) (.handlers (.ref a) [.ExceptHandler (some (.Name c np)) none [] hpos] X.env) R s:=by
 obtain⟨T,I,f,_⟩:=l.ex
 obtain⟨cs,hm,hk⟩:=ct.ex
 obtain⟨C',hc',xc,he⟩:=hk y hy
 cases CN.one hc hc'
 refine⟨xc,codeAny_handlers_test ?_⟩
 refine Yh (X:=hnd X a) (I.hnd a) hg hm ?_ (Hf.of hp).1
 exact(PySem.W.exm_one I.kIn (Gvu f) he).here hq
theorem Gqe{c n:Str}{b0:Stmt}{suite:List Stmt}{ys:List Str}{fb fh:Sv}(pl:Plain X)(ct:Cat X.K X.mg c ys)(hg:Gl X c)(hp:Hf c=true)(hN:X.N.Nodup)(hi:X.N[i]?=some n)(hn:X.env.scope.names.lookup n=some .local)(hb:∀ (pn:List (Addr×Obj)) (xe:Value->Shared->Prop) (XQ':XW),XL (trb X pn xe) XQ'->JSs (trb X pn xe) XQ' body fb)(hs:∀ a,JSs (hnd X a) (fun _ _ _ _ _ _=>False) (b0::suite) fh):
  JS X XQ (.Try body [.ExceptHandler (some (.Name c np)) (some n) (b0::suite) hpos] [] [] pos) (Zf ys (hdl i fh) fb):=by
 refine Gi6 pl (fun pins σ H s a C dx x mp ρ S D hy hc xf l G p=>?_) hb
 refine wpAny_handleBy_cons ?_ (by intro q; cases q)
 obtain⟨xc,hit⟩:=Gmi (np:=np) (hpos:=hpos) (R:=fun r s₁=>match r with
   | .ok .brk=>codeAny (model X.prog X.w) (X.A.mark (some (.ref a))) (.handlers (.ref a) [.ExceptHandler none (some n) (b0::suite) hpos] X.env) (fun r s₂=>match r with
     | .ok f=>wpAny (model X.prog X.w) X.A (do bindName X.env n .none; unbindBehindTheSuite X.env n hpos) (fun _ s₃=>SP X pins D f s₃) X.xe s₂
     | .error x=>cameBackBy (model X.prog X.w) X.A X.env X.xe x s₂) s₁
   | .ok _=>wpAny (model X.prog X.w) X.A (handleBy (.ref a) X.env []) (SP X pins D) X.xe s₁
   | .error x=>cameBackBy (model X.prog X.w) X.A X.env X.xe x s₁) ct hg hp hy hc l (by
  refine codeAny_handlers_suite_as (l.flight fun s1 l1=>?_)
  obtain⟨na,I1⟩:=l1.know
  have ok:=I1.ok
  have af:Aft X.K mp H mp (upd H a (XO a C dx)):=Vt na
  have G1:Gd X.K mp (upd H a (XO a C dx)) σ ρ S:=G.aft af (G.rs.new na)
  have re:Rep X.K mp (upd H a (XO a C dx)) (.exn x.cls x.fld) (.ref a):=⟨a,dx,C,rfl,⟨hc,by
   obtain⟨cs,hm,hk⟩:=ct.ex
   obtain⟨C',hc',xc,he⟩:=hk x.cls hy
   cases CN.one hc hc'
   exact xc,upd_same⟩,fun i z=>by
   obtain⟨d,e1,e2⟩:=xf.1 i z
   exact⟨d,e1,by rw[Hb (fun q=>by rw[q,na] at e2; cases e2)]; exact e2⟩⟩
  refine Xx (X:=hnd X a) (v:=.ref a) (I1.hnd a) hN hi (.inl hn) rfl (fun s2 I2=>?_) (.inr hn)
  refine wpAny_mono (hs a pins s2 _ _ { nx:=fun σ' H'=>D.nx (σ'.set i none) H',rt:=D.rt,bk:=fun σ' H'=>D.bk (σ'.set i none) H',ct:=fun σ' H'=>D.ct (σ'.set i none) H' } I2 ⟨mp,_,S,G1.set i re,?_⟩) (fun f s3 q=>?_) (fun e s3 q=>q.elim)
  ·have p:=PostS.aft p af
   unfold hdl at p
   cases z:fh (ρ.set i (some (.exn x.cls x.fld))) S with
   | nx ρ' S'=>rw[z] at p; exact fun mp' H' σ' a' G'=>p mp' H' _ a' (G'.unset i)
   | rt d S'=>rw[z] at p; exact p
   | bk ρ' S'=>rw[z] at p; exact fun mp' H' σ' a' G'=>p mp' H' _ a' (G'.unset i)
   | ct ρ' S'=>rw[z] at p; exact fun mp' H' σ' a' G'=>p mp' H' _ a' (G'.unset i)
   | exc x ρ' S'=>rw[z] at p; exact p.elim
   | bad=>rw[z] at p; exact p.elim
  ·cases f with
   | next=>
    obtain⟨σ',H',I',q⟩:=q
    exact Gan (I'.unhnd ok) hN hi hn fun s' J=>⟨_,H',J,q⟩
   | brk=>
    obtain⟨σ',H',I',q⟩:=q
    exact Gan (I'.unhnd ok) hN hi hn fun s' J=>⟨_,H',J,q⟩
   | cont=>
    obtain⟨σ',H',I',q⟩:=q
    exact Gan (I'.unhnd ok) hN hi hn fun s' J=>⟨_,H',J,q⟩
   | ret u=>
    obtain⟨v,σ',H',I',r,q⟩:=q
    exact Gan (I'.unhnd ok) hN hi hn fun s' J=>⟨v,_,H',J,r,q⟩)
 exact hit
end
def Km(ys sub:List Str)(x:D)(S:Sto):Out D:=match x with
 | .exn y _=>if y∈ys then .ok (.bl (decide (y∈sub))) S else .bad
 | _=>.bad
structure Isx(K:PySem.W.Frag)(mg:Str->Option Value)(x:Str)(ys sub:List Str):Prop where
 ex:∃ cs,mg x=some (.ref cs)/\∀ y∈ys,∃ C,CN K y C/\PySem.W.kitOne K (.ref C) (.ref cs)=some (decide (y∈sub))
structure IsxB(K:PySem.W.Frag)(T:String)(ys sub:List Str):Prop where
 ex:∀ y∈ys,∃ C,CN K y C/\PySem.W.kitOne K (.ref C) (.type T)=some (decide (y∈sub))
section
variable{X:Cx}{XQ:XW}
def Ha2(K:PySem.W.Frag)(w:V)(c:Value):List V->Hp->VK->Prop:=fun vs H Q=>∃ a C dx b,vs=[.ref a,w]/\XCl K C/\H a=some (XO a C dx)/\PySem.W.kitOne K (.ref C) c=some b/\Q (.bl b) H
theorem Ghb{w:V}{c:Value}(hw:∀ u,Hq w u->u=c):Zl X (.builtin "isinstance") (Ha2 X.K w c):=by
 intro pins s σ H xs us Q I r ⟨a,C,dx,b,e,xc,hH,hk,q⟩
 subst e
 obtain⟨u,w',rfl,ru,rw'⟩:=Vals.two r
 cases (show u=Value.ref a from ru)
 cases hw _ rw'
 exact PySem.W.kia_one (Gg5 xc) I.kIn (Gsa I hH) hk (fun z=>nomatch z) fun tk=>⟨.bl b,H,I.tok tk,rfl,q⟩
theorem Gvv{ys:List Str}{e:Expr}(k:Isx X.K X.mg x ys sub)(hg:Gl X "isinstance")(hm:X.mg "isinstance"=none)(hgt:Gl X x)(hp:Hf x=true)(he:JE X XQ e f)(hs:starEach [e,.Name x p2] X.env=(false,eval e X.env)::starEach [.Name x p2] X.env)(hpl:(backTo pos (starEach [.Name x p2] X.env)).any (·.1)=false)(hs2:starEach [.Name x p2] X.env=(false,eval (.Name x p2) X.env)::starEach [] X.env):
  JE X XQ (.Call (.Name "isinstance" p) [e,.Name x p2] [] pos) (o1 (Km ys sub) f):=by
 obtain⟨cs,hmt,hk⟩:=k.ex
 refine PE.mono (Gbb (Ghb (w:=.ref cs) (c:=.ref cs) fun u h=>h) hg hm (by rfl) (Qa he (Qa (Gfk hgt hmt (v:=.ref cs) rfl (Hf.of hp).1) pa_nil hs2) hs) (by decide) (by decide) hs hpl) fun σ H Q ⟨mp,ρ,S,G,q⟩=>?_
 refine bindP G q fun mp1 H1 d S1 v a1 G1 r1 p1=>?_
 cases d with
 | exn y n=>
  obtain⟨a,dx,C,rfl,⟨hc,xc,hH⟩,_⟩:=(show ∃ a dx p,v=.ref a/\(CN X.K y p/\XCl X.K p/\H1 a=some (XO a p dx))/\∀ i,n=some i->∃ d,dx=some d/\H1 d=some (XA d i) from r1)
  by_cases hy:y∈ys
  ·have p1:Post X.K XQ σ ρ mp1 H1 (.ok (.bl (decide (y∈sub))) S1) Q:=by simpa only[Km,if_pos hy] using p1
   obtain⟨C',hc',ko⟩:=hk y hy
   cases CN.one hc hc'
   exact⟨a,C,dx,_,rfl,xc,hH,ko,Gs.ok (R:=Rep X.K) p1 G1.rs rfl⟩
  ·have p1:Post X.K XQ σ ρ mp1 H1 .bad Q:=by simpa only[Km,if_neg hy] using p1
   exact p1.elim
 | _=>exact p1.elim
theorem Gqf{ys:List Str}{e:Expr}(k:IsxB X.K T ys sub)(hv:bootBuiltins x=some (.type T))(hnx:x≠"__name__")(hg:Gl X "isinstance")(hm:X.mg "isinstance"=none)(hgt:Gl X x)(hmt:X.mg x=none)(hp:Hf x=true)(he:JE X XQ e f)(hs:starEach [e,.Name x p2] X.env=(false,eval e X.env)::starEach [.Name x p2] X.env)(hpl:(backTo pos (starEach [.Name x p2] X.env)).any (·.1)=false)(hs2:starEach [.Name x p2] X.env=(false,eval (.Name x p2) X.env)::starEach [] X.env):
  JE X XQ (.Call (.Name "isinstance" p) [e,.Name x p2] [] pos) (o1 (Km ys sub) f):=by
 have hk:=k.ex
 refine PE.mono (Gbb (Ghb (w:=.ty T) (c:=.type T) fun u h=>h) hg hm (by rfl) (Qa he (Qa (Giw hgt hmt hv (v:=.ty T) rfl hnx (Hf.of hp).1) pa_nil hs2) hs) (by decide) (by decide) hs hpl) fun σ H Q ⟨mp,ρ,S,G,q⟩=>?_
 refine bindP G q fun mp1 H1 d S1 v a1 G1 r1 p1=>?_
 cases d with
 | exn y n=>
  obtain⟨a,dx,C,rfl,⟨hc,xc,hH⟩,_⟩:=(show ∃ a dx p,v=.ref a/\(CN X.K y p/\XCl X.K p/\H1 a=some (XO a p dx))/\∀ i,n=some i->∃ d,dx=some d/\H1 d=some (XA d i) from r1)
  by_cases hy:y∈ys
  ·have p1:Post X.K XQ σ ρ mp1 H1 (.ok (.bl (decide (y∈sub))) S1) Q:=by simpa only[Km,if_pos hy] using p1
   obtain⟨C',hc',ko⟩:=hk y hy
   cases CN.one hc hc'
   exact⟨a,C,dx,_,rfl,xc,hH,ko,Gs.ok (R:=Rep X.K) p1 G1.rs rfl⟩
  ·have p1:Post X.K XQ σ ρ mp1 H1 .bad Q:=by simpa only[Km,if_neg hy] using p1
   exact p1.elim
 | _=>exact p1.elim
def Geg:List D->Option (List Bool)
 | []=>some []
 | .bl b::r=>(Geg r).map (b::·)
 | _::_=>none
theorem Gdm:∀ {l:List D} {bs:List Bool},Geg l=some bs->l=bs.map .bl
 | [],bs,h=>by cases h; rfl
 | d::r,bs,h=>by
  cases d with
  | bl b=>
   have h:(Geg r).map (b::·)=some bs:=h
   cases z:Geg r with
   | none=>rw[z] at h; cases h
   | some q=>rw[z] at h; cases h; rw[Gdm z]; rfl
  | _=>cases h
theorem Gdn{K:PySem.W.Frag}{mp:List Addr}{H:Hp}:∀ {bs:List Bool} {vs:List V},RepL K mp H (bs.map .bl) vs->vs=bs.map .bl
 | [],vs,h=>h
 | b::r,vs,h=>by
  obtain⟨v,q,e,h1,h2⟩:=(show ∃ v r',vs=v::r'/\Rep K mp H (.bl b) v/\RepL K mp H (r.map .bl) r' from h)
  cases (show v=.bl b from h1)
  rw[e,Gdn h2]
  rfl
theorem Gdo:∀ {bs:List Bool} {us:List Value},Vals (bs.map V.bl) us->us=bs.map Value.bool
 | [],_,.nil=>rfl
 | b::r,_,.cons h t=>by
  rw[Gdo t]
  cases (show _=Value.bool b from h)
  rfl
theorem Gmj(b k:Bool):MeetsSeq.EqGives (.bool b) (.bool k) (b==k):=fun prog w A E s Q h=>PySem.SeqAt.EqAt.bool_bool b k prog w E Q h
def Gkl(k:Bool):Value->Bool
 | .bool b=>b==k
 | _=>false
theorem Gi7(bs:List Bool)(k:Bool):∀ y,y∈(bs.map Value.bool).toArray->MeetsSeq.EqGives y (.bool k) (Gkl k y):=fun y hy=>by
 obtain⟨b,_,rfl⟩:=List.mem_map.mp (show y∈bs.map Value.bool from by simpa using hy)
 exact Gmj b k
def Gyv:V->List V->Hp->VK->Prop:=fun x vs H Q=>∃ (l:Addr) (bs:List Bool) (k:Bool),x=.ref l/\vs=[.bl k]/\H l=some (.lst (bs.map .bl))/\Q (.int (bs.countP (·==k):Nat)) H
theorem Gvw:MtM X "list.count" Gyv:=by
 intro pins s σ H x vs v us Q I rx rv ⟨l,bs,k,e1,e2,hH,q⟩
 subst e1 e2
 cases rx
 obtain⟨u,rfl,ru⟩:=Vals.one rv
 cases (show u=Value.bool k from ru)
 obtain⟨z,its,n,r,hl,e⟩:=I.lstM hH
 cases Gdo r
 refine call_meets PySem.F.slot_list_count ⟨_,e,rfl⟩ PySem.F.entry_list_count (PySem.F.args_list_count_2 _ _) (MeetsSeq.list_count l _ n (.bool k) (Gkl k) (Gi7 bs k)) ⟨e,.int _,H,I.tok _,⟨_,rfl⟩,?_⟩
 have ec:List.countP (Gkl k) (List.map Value.bool bs).toArray.toList=bs.countP (·==k):=by
  rw[List.countP_map]; rfl
 rw[ec]
 exact q
def Gh9(x:D)(xs:List D)(S:Sto):Out D:=match x,xs with
 | .lst i,[.bl k]=>match S[i]? with
  | some c=>if c.fz=false then(match Geg c.xs with
   | some bs=>.ok (.int (bs.countP (·==k):Nat)) S
   | none=>.bad) else .bad
  | none=>.bad
 | _,_=>.bad
theorem Gvx:MeD K Gyv Gh9:=by
 intro XQ σ ρ mp H S x xs v vs Q rs rx r p
 unfold Gh9 at p
 split at p
 ·rename_i i k
  split at p
  ·rename_i c zc
   by_cases hc:c.fz=false
   ·rw[if_pos hc] at p
    split at p
    ·rename_i bs zb
     obtain⟨w,rfl,hw⟩:=RepL.one r
     cases (show w=.bl k from hw)
     obtain⟨a,ys,rfl,ha,sq,q,f⟩:=rs.items rx zc
     rw[Gdm zb] at q
     cases Gdn q
     exact⟨a,bs,k,rfl,rfl,f hc,p mp H _ .refl rs rfl⟩
    ·exact p.elim
   ·rw[if_neg hc] at p; exact p.elim
  ·exact p.elim
 ·exact p.elim
def Gyw:V->List V->Hp->VK->Prop:=fun x vs H Q=>∃ (l:Addr) (bs:List Bool) (k:Bool) (j:Nat),x=.ref l/\vs=[.bl k]/\H l=some (.lst (bs.map .bl))/\List.findIdx? (·==k) bs=some j/\Q (.int (j:Nat)) H
theorem Gvy:MtM X "list.index" Gyw:=by
 intro pins s σ H x vs v us Q I rx rv ⟨l,bs,k,j,e1,e2,hH,hj,q⟩
 subst e1 e2
 cases rx
 obtain⟨u,rfl,ru⟩:=Vals.one rv
 cases (show u=Value.bool k from ru)
 obtain⟨z,its,n,r,hl,e⟩:=I.lstM hH
 cases Gdo r
 rw[List.findIdx?_eq_some_iff_getElem] at hj
 obtain⟨h1,h2,h3⟩:=hj
 have z:bs.length<=sizeLine:=by simpa using z
 rw[sizeLine_eq] at z
 refine call_meets PySem.F.slot_list_index ⟨_,e,rfl⟩ PySem.F.entry_list_index (PySem.F.args_list_index_2 _ _) (MeetsSeq.list_index l _ n (.bool k) (Gkl k) (Gi7 bs k) j (by simpa using h1) (by omega) (by simpa[Gkl] using h2) (fun m hm hlt=>?_)) ⟨e,.int _,H,I.tok _,⟨_,rfl⟩,q⟩
 have:=h3 m hlt
 simpa[Gkl] using this
def Gia(x:D)(xs:List D)(S:Sto):Out D:=match x,xs with
 | .lst i,[.bl k]=>match S[i]? with
  | some c=>if c.fz=false then(match Geg c.xs with
   | some bs=>(match List.findIdx? (·==k) bs with
    | some j=>.ok (.int (j:Nat)) S
    | none=>.bad)
   | none=>.bad) else .bad
  | none=>.bad
 | _,_=>.bad
theorem Gvz:MeD K Gyw Gia:=by
 intro XQ σ ρ mp H S x xs v vs Q rs rx r p
 unfold Gia at p
 split at p
 ·rename_i i k
  split at p
  ·rename_i c zc
   by_cases hc:c.fz=false
   ·rw[if_pos hc] at p
    split at p
    ·rename_i bs zb
     split at p
     ·rename_i j zj
      obtain⟨w,rfl,hw⟩:=RepL.one r
      cases (show w=.bl k from hw)
      obtain⟨a,ys,rfl,ha,sq,q,f⟩:=rs.items rx zc
      rw[Gdm zb] at q
      cases Gdn q
      exact⟨a,bs,k,j,rfl,rfl,f hc,zj,p mp H _ .refl rs rfl⟩
     ·exact p.elim
    ·exact p.elim
   ·rw[if_neg hc] at p; exact p.elim
  ·exact p.elim
 ·exact p.elim
theorem Gmk{e:Expr}{f:Ev (List D)}(ho:JE X XQ o fo)(ha:JA X XQ [e] f)(hbase:attributeBase o "count" X.env (eval o X.env)=eval o X.env:=by rfl)(hfew:((backTo cpos (starEach [e] X.env)).all (fun x=>!x.1)&&(backToKw cpos (keywordEach [] X.env)).all (fun x=>x.1.isSome)
   && decide ([e].length+([]:List Keyword).length+(if([]:List Keyword).isEmpty then 0 else 1)<30))=true:=by rfl)(hline:(apos.endLine==cpos.line)=true:=by rfl)(hs:starEach [e] X.env=(false,eval e X.env)::starEach [] X.env:=by rfl):
  JE X XQ (.Call (.Attribute o "count" apos) [e] [] cpos) (mt Gh9 fo f):=Gfx PySem.F.slot_list_count PySem.F.type_list_count Gvw Gvx ho ha hbase hfew hline hs rfl
theorem Gml{e:Expr}{f:Ev (List D)}(ho:JE X XQ o fo)(ha:JA X XQ [e] f)(hbase:attributeBase o "index" X.env (eval o X.env)=eval o X.env:=by rfl)(hfew:((backTo cpos (starEach [e] X.env)).all (fun x=>!x.1)&&(backToKw cpos (keywordEach [] X.env)).all (fun x=>x.1.isSome)
   && decide ([e].length+([]:List Keyword).length+(if([]:List Keyword).isEmpty then 0 else 1)<30))=true:=by rfl)(hline:(apos.endLine==cpos.line)=true:=by rfl)(hs:starEach [e] X.env=(false,eval e X.env)::starEach [] X.env:=by rfl):
  JE X XQ (.Call (.Attribute o "index" apos) [e] [] cpos) (mt Gia fo f):=Gfx PySem.F.slot_list_index PySem.F.type_list_index Gvy Gvz ho ha hbase hfew hline hs rfl
end
def Gv0(K:PySem.W.Frag)(c:Addr):Bool:=
 (PySem.W.findIn K (.ref c) "__getattribute__"==some (some (.builtin "BaseException.__getattribute__")))&&((PySem.W.findIn K (.ref c) "__getattr__"==some none)&&((PySem.W.findIn K (.ref c) "__class__"==some (some (.builtin "object.__class__")))
  && ((PySem.W.clsIn K c).isSome&&((PySem.W.mroIn K c (.type "object")==some true)&&((PySem.W.subIn K (.ref c) (.type "BaseException")==some true)&&["bool","int","str","tuple","list"].all fun T=>PySem.W.kitOne K (.ref c) (.type T)==some false)))))
theorem Gv1{c:Addr}(h:Gv0 K c=true):XCl K c:=by
 unfold Gv0 at h
 simp only[Bool.and_eq_true,beq_iff_eq,List.all_eq_true] at h
 obtain⟨h1,h2,h3,h4,h5,h6,h7⟩:=h
 exact⟨h1,h2,h3,h4,h5,h6,h7⟩
def xrowB(K:PySem.W.Frag)(cs:Addr)(l:List (Str×Addr))(p:Str×Addr):Bool:=
 (PySem.W.nsIn K mainGlobals p.1==some (some (.ref p.2)))&&(Gv0 K p.2&&((PySem.W.exmOne K (.ref p.2) (.ref cs)==some true)&&((PySem.W.kitOne K (.ref p.2) (.type "ValueError")==some true)&&l.all fun q=>PySem.W.kitOne K (.ref p.2) (.ref q.2)==some (decide (p.1∈[q.1])))))
def Gmm(K:PySem.W.Frag)(cs:Addr)(l m:List (Str×Addr)):Bool:=(l.all fun p=>xrowB K cs m p)&&m.all fun q=>PySem.W.nsIn K mainGlobals q.1==some (some (.ref q.2))
structure XT(K:PySem.W.Frag)(mg:Str->Option Value)(sup:Str)(ys ms:List Str):Prop where
 cat:Cat K mg sup ys
 isx:∀ x∈ms,Isx K mg x ys [x]
 val:IsxB K "ValueError" ys ys
 xns:XNs K ys
theorem Gyx{sup:Str}{cs:Addr}{l m:List (Str×Addr)}(X:K.In h)(G:h.Ns mainGlobals mg)(a:PySem.W.nsIn K mainGlobals sup=some (some (.ref cs)))(t:Gmm K cs l m=true):XT K mg sup (l.map (·.1)) (m.map (·.1)):=by
 unfold Gmm at t
 rw[Bool.and_eq_true] at t
 obtain⟨t,tm⟩:=t
 have qm:∀ r∈m,CN K r.1 r.2:=fun r hr=>beq_iff_eq.mp (List.all_eq_true.mp tm r hr)
 have q:∀ p∈l,CN K p.1 p.2/\XCl K p.2/\PySem.W.exmOne K (.ref p.2) (.ref cs)=some true/\PySem.W.kitOne K (.ref p.2) (.type "ValueError")=some true/\∀ r∈m,PySem.W.kitOne K (.ref p.2) (.ref r.2)=some (decide (p.1∈[r.1])):=fun p hp=>by
  have z:=List.all_eq_true.mp t p hp
  unfold xrowB at z
  simp only[Bool.and_eq_true,beq_iff_eq,List.all_eq_true] at z
  obtain⟨h1,h2,h3,h4,h5⟩:=z
  exact⟨h1,Gv1 h2,h3,h4,h5⟩
 refine⟨⟨cs,PySem.W.mg_of X G a,fun y hy=>?_⟩,fun x hx=>?_,⟨fun y hy=>?_⟩,fun y hy=>?_⟩
 ·obtain⟨p,hp,rfl⟩:=List.mem_map.mp hy
  obtain⟨h1,h2,h3,h4,h5⟩:=q p hp
  exact⟨p.2,h1,h2,h3⟩
 ·obtain⟨r,hr,rfl⟩:=List.mem_map.mp hx
  refine⟨r.2,PySem.W.mg_of X G (qm r hr),fun y hy=>?_⟩
  obtain⟨p,hp,rfl⟩:=List.mem_map.mp hy
  obtain⟨h1,h2,h3,h4,h5⟩:=q p hp
  exact⟨p.2,h1,h5 r hr⟩
 ·obtain⟨p,hp,rfl⟩:=List.mem_map.mp hy
  obtain⟨h1,h2,h3,h4,h5⟩:=q p hp
  exact⟨p.2,h1,by rw[h4,decide_eq_true hy]⟩
 ·obtain⟨p,hp,rfl⟩:=List.mem_map.mp hy
  obtain⟨h1,h2,h3,h4,h5⟩:=q p hp
  exact⟨p.2,h1,h2⟩
def kxB(K:PySem.W.Frag)(C:Addr):Bool:=match K.lookup C with
 | some ⟨.type "type",_,.cls cd,sl⟩=>(match cd.mro,sl.toList with
  | .ref C'::bm,[_,_,_,_,some (.builtin n),_]=>C'==C&&(!cd.hasDel&&(n=="ValueError.__new__"&&(bm.contains (.type "ValueError")&&(!bm.contains (.type "AttributeError")&&(!bm.contains (.type "NameError")&&bm.contains (.type "BaseException"))))))
  | _,_=>false)
 | _=>false
theorem Gse(q:kxB K C=true):KX K C:=by
 unfold kxB at q
 split at q
 ·rename_i dd cd sl ho
  split at q
  ·rename_i C' bm k0 k1 k2 k3 n k5 hm hs
   simp only[Bool.and_eq_true,beq_iff_eq,Bool.not_eq_true'] at q
   obtain⟨rfl,hdel,hn,h1,h2,h3,h4⟩:=q
   subst hn
   obtain⟨nm,bs,mro,ns,qn,hd,sn,sub,ab,col,del⟩:=cd
   dsimp only at hm hdel
   subst hm hdel
   have hsl:sl=#[k0,k1,k2,k3,some (.builtin "ValueError.__new__"),k5]:=by
    obtain⟨l⟩:=sl
    simp only at hs
    rw[hs]
   subst hsl
   exact⟨nm,qn,ns,bs,bm,hd,sn,sub,ab,col,dd,k0,k1,k2,k3,k5,ho,⟨h1,h2,h3,h4⟩⟩
  ·cases q
 ·cases q
def Geh(K:PySem.W.Frag)(c f:Addr):Bool:=kxB K c&&(PySem.W.findIn K (.ref c) "__init__"==some (some (.ref f)))
section
variable{P:Program}{w:World}{K:PySem.W.Frag}{mg:Str->Option Value}{base:Heap}
structure IniX(P:Program)(w:World)(K:PySem.W.Frag)(mg:Str->Option Value)(base:Heap)(f:Addr)(j:Nat):Prop where
 ex:∃ fd ps oI,K.lookup f=some oI/\oI.cls=.type "function"/\FnOk P w K mg base CX0 j f fd ps (spI K)/\ps.length=2/\Binds K fd ps []
theorem Zq{f:Addr}(X:K.In h)(G:h.Ns mainGlobals mg)(i:IniX P w K mg base f j)(a:PySem.W.nsIn K mainGlobals x=some (some (.ref C)))(t:Geh K C f=true):ClX P w K mg base x j:=by
 obtain⟨fd,ps,oI,l,c,F,n,b⟩:=i.ex
 unfold Geh at t
 simp only[Bool.and_eq_true,beq_iff_eq] at t
 exact⟨C,f,fd,ps,oI,PySem.W.mg_of X G a,a,Gse t.1,t.2,l,c,F,n,b⟩
abbrev Gi8(K:PySem.W.Frag):TS:=Gk4 (tVI K (Ggy (Gj7 0) (Ggy (Gj7 1) Gtp)))
theorem ini_mk{st:Stmt}{f:Addr}{an:Option Addr}{kV:Value}(l:K.lookup f=some ⟨.type "function",od,.func (PySem.W.fnOf "__init__" "SummitError.__init__" (Jg st) (Hi st) (Gf st) .none kV doc pm an cdv ct),osl⟩)(c:PySem.W.codeIn K cdv "SummitError.__init__"=true)(k:PySem.W.keepIn K (.ref f)=true)(Sc:FnScope ["self","text"] ["self","text"] (Gf st))(hb:∀ (f:Addr) (cdv:Value) (A:Around) (outer:List PySem.Env) (s:Shared) (H:Hp) (E:XK),PSs (Vd CX0 P w K mg base ["self","text"] "SummitError.__init__" (Gf st) f cdv A outer s H E).nox (Hi st) (Gi8 K))(bi:∀ (kV doc pm:Value) (an:Option Addr) (cdv ct:Value) (us:List Value),us.length=2->bindArgs (PySem.W.fnOf "__init__" "SummitError.__init__" (Jg st) (Hi st) (Gf st) .none kV doc pm an cdv ct) ⟨us,[]⟩=pure ((["self","text"]:List Str).zip us)):IniX P w K mg base f 1:=by
 have F:=Gbx (st:=st) l c k
 refine⟨_,["self","text"],_,l,rfl,?_,rfl,F.binds bi⟩
 refine Fun.ok F Sc (fun vs H Q E ⟨e,v,C,dx,ev,_⟩=>by rw[ev]; rfl) fun cdv A outer s H vs Q E hr ⟨e,v,C,dx,ev,hH,kx,q⟩=>?_
 refine⟨_,hb _ cdv A outer s H E,?_⟩
 subst ev
 exact⟨.ref e,rfl,v,rfl,e,v,C,dx,rfl,hH,kx,q⟩
end
section
variable{X:Cx}{XQ:XW}
def Ha3(i j:Int):Prop:=(-1000000000000<=i/\i<=1000000000000) /\ -1000000000000<=j/\j<=1000000000000
instance {i j:Int}:Decidable (Ha3 i j):=inferInstanceAs (Decidable ((-1000000000000<=i/\i<=1000000000000) /\ -1000000000000<=j/\j<=1000000000000))
end
structure FvT(K:PySem.W.Frag)(mg:Str->Option Value)(x:Str):Prop where
 ex:∃ f,CN K x f/\mg x=some (.ref f)
section
variable{X:Cx}{XQ:XW}{k:Nat}{ps:List Str}{fn:Fn}{x y:Str}{p pos:Pos}{e:Expr}{es:List Expr}
theorem Gv2(t:FvT X.K X.mg x)(hg:Gl X x)(hp:Hf x=true):JE X XQ (.Name x pos) (cn (.fv x)):=by
 obtain⟨f,hc,hm⟩:=t.ex
 exact Xz (Gfk hg hm (v:=.ref f) rfl (Hf.of hp).1) fun mp H=>⟨f,rfl,hc⟩
def clv(i:Nat)(x:Str)(n:Nat)(fn:Fn)(t:Ev (List D)):Ev D:=fun ρ S=>match ρ[i]? with
 | some (some (.fv y))=>if y=x then(t ρ S).bind fun ds S1=>if ds.length=n then fn ds S1 else .bad else .bad
 | _=>.bad
theorem Gmn(i:Nat){ys:List Str}(xs:XNs X.K ys)(L:XL X XQ)(C:CalX X.prog X.w X.K X.mg X.base x ps fn j)(hr:Room k X.A)(hj:j<=k)(hN:X.N[i]?=some y)(hv:Vis X.env.scope y)(hy:Hf y=true)(ha:JA X XQ (e::es) t)(he:starEach (e::es) X.env=(false,eval e X.env)::starEach es X.env:=by rfl)(hpl:(backTo pos (starEach es X.env)).any (·.1)=false:=by rfl):
  JE X XQ (.Call (.Name y p) (e::es) [] pos) (clv i x ps.length (gX ys fn) t):=by
 obtain⟨f,fd,F,hm,hk,hb⟩:=C.ex
 intro pins s σ H Q I ⟨mp,ρ,S,G,p0⟩
 unfold clv at p0
 split at p0
 ·rename_i z hz
  by_cases c:z=x
  ·rw[if_pos c] at p0
   subst c
   obtain⟨v,hσ,f',rfl,hc⟩:=G.loc i _ hz
   have hm':=PySem.W.mg_of I.ok.mod.kin I.ok.mod.glob hc
   rw[hm] at hm'
   cases hm'
   refine wpAny_Call_Name_kw (thn (Yg hN hv (Hf.of hy).1 (Hf.of hy).2 pins s σ H (fun w H'=>w=.ref f/\H'=H) I ⟨.ref f,hσ,rfl,rfl⟩) fun u s1 ⟨w,H1,I1,r1,e1,e2⟩=>?_)
   subst e1 e2
   obtain rfl:u=Value.ref f:=r1
   refine PySem.W.callWith_K (h₀:=X.base) I1.ok.mod.kin hk ?_ he hpl
   refine thn (ha pos pins s1 σ H1 (fun vs H2=>spX X.K ps.length fn vs H2 Q fun c dx H'=>∃ C,c=.ref C/\WX X.K XQ σ C dx H') I1 ?_) fun us s2 ⟨vs,H2,I2,r2,q2⟩=>⟨I2.kIn,Gi5 (F.mono hj) hr hb L.cal I2 r2 q2⟩
   refine bindP G p0 fun mp1 H1 ds S1 vs a1 G1 r1 p1=>?_
   by_cases hl:ds.length=ps.length
   ·rw[if_pos hl] at p1
    refine⟨mp1,ds,S1,G1.rs,r1,hl,?_⟩
    unfold gX at p1
    cases z:fn ds S1 with
    | ok d S'=>rw[z] at p1; exact p1
    | exc xx S'=>
     rw[z] at p1
     by_cases hi:xx.cls∈ys
     ·have p1:Gs X.K (Rep X.K) XQ σ ρ mp1 H1 (.exc xx S') Q:=by simpa only[if_pos hi] using p1
      obtain⟨C,hC,_⟩:=xs _ hi
      refine⟨C,hC,fun mp' H' dx af rs xf=>⟨C,rfl,xx,mp',ρ,S',xf,hC,p1 mp' H' af (G1.aft af rs)⟩⟩
     ·have p1:Gs X.K (Rep X.K) XQ σ ρ mp1 H1 .bad Q:=by simpa only[if_neg hi] using p1
      exact p1.elim
    | bad=>rw[z] at p1; exact p1.elim
   ·rw[if_neg hl] at p1; exact p1.elim
  ·rw[if_neg c] at p0; exact p0.elim
 ·exact p0.elim
end
section
variable{prog:Program}{w:World}{A:Around}{E:Value->Shared->Prop}{K:PySem.W.Frag}{h:Heap}{g:Array GenState}{d:Drawn}{t:Nat}{os:OsState}{a c dx:Addr}
theorem Gmo{Q:Fin->Shared->Prop}(X:K.In h)(k:XCl K c)(na:PySem.W.findIn K (.ref c) "at"=some none)(hx:h.get? a=some oe)(hc:oe.cls=.ref c)(hd:oe.dict=some dx)(hf:oe.data=.fields vs)(hh:PySem.W.hasDictIn K c=true)(hn:h.Ns dx m)(hm:m "at"=some v)(hq:Q (.done (.ret v)) ⟨h,g,d,t,os⟩):
  wpAny (model prog w) A (Builtin.«object.__getattribute__» ⟨[.ref a,.str "at" tk],[]⟩) Q E ⟨h,g,d,t,os⟩:=by
 have L1:=fun(M:Model)=>PySem.W.looks_findIn (M:=M) X na
 repeat (any_goals (first | assumption | (with_reducible refine wpAny_loadPart_at hx ?_; rw[hc]) | with_reducible refine(L1 _).here ?_ | wp_step))
 rw[hf]
 obtain⟨cd,hcl,hcd⟩:=PySem.W.any_some hh
 show wpAny _ _ (instanceDict a false) _ _ _
 unfold instanceDict
 refine wpAny_bind (wpAny_loadPart_at hx ?_)
 rw[hc]
 refine wpAny_bind ((PySem.W.looks_clsIn X hcl).here ?_)
 rw[hcd,hd]
 refine wpAny_pure ?_
 show wpAny _ _ (nsGet dx "at") _ _ _
 refine wpAny_nsGet hn ?_
 rw[hm]
 repeat (any_goals (first | assumption | wp_step))
theorem Gyy{fill expr:Bool}{n:Int}{tv:Tok}(X:K.In h)(k:XCl K c)(na:PySem.W.findIn K (.ref c) "at"=some none)(hh:PySem.W.hasDictIn K c=true)(hx:h.get? a=some oe)(hc:oe.cls=.ref c)(hd:oe.dict=some dx)(hf:oe.data=.fields vs)(hn:h.Ns dx m)(hm:m "at"=some (.int n tv))(hq:Q (.int n tv) ⟨h,g,d,t,os⟩):wpAny (model prog w) A (getAttrBy (.ref a) (.str "at" tk) fill expr) Q E ⟨h,g,d,t,os⟩:=by
 have f3:=PySem.F.excAttr_ValueError.ga.bind (.ref a)
 have n0:(expr&&onTheHeap (Value.builtin "BaseException.__getattribute__"))=false:=by cases expr<;>rfl
 have n2:(Value.builtin "BaseException.__getattribute__"==Value.builtin "object.__getattribute__")=false:=by decide +kernel
 have n1:(onTheHeap (Value.ref c)&&Value.builtin "BaseException.__getattribute__"==Value.builtin "object.__getattribute__")=false:=by rw[n2]; rfl
 have L1:=fun(M:Model)=>PySem.W.looks_findIn (M:=M) X k.ga
 have L2:=fun(M:Model)=>PySem.W.looks_findIn (M:=M) X k.gt
 have x:XAt a c h:=⟨oe,hx,hc,vs,hf⟩
 repeat (any_goals (first | assumption | (with_reducible refine wpAny_loadPart_at hx ?_; rw[hc]) | with_reducible refine(L1 _).here ?_ | with_reducible refine(L2 _).here ?_ | wp_step))
 refine codeAny_call_builtin PySem.F.excAttr_ValueError.ga.plain F.entry_bexc_ga (Gg4 X k x (Gmo X k na hx hc hd hf hh hn hm ?_))
 repeat (any_goals (first | assumption | wp_step))
theorem Gv3{expr:Bool}{n:Int}{tv:Tok}(X:K.In h)(k:XCl K c)(na:PySem.W.findIn K (.ref c) "at"=some none)(hh:PySem.W.hasDictIn K c=true)(hx:h.get? a=some oe)(hc:oe.cls=.ref c)(hd:oe.dict=some dx)(hf:oe.data=.fields vs)(hn:h.Ns dx m)(hm:m "at"=some (.int n tv))(hq:Q (.int n tv) ⟨h,g,d,t+1,os⟩):wpAny (model prog w) A (getAttr (.ref a) "at" expr) Q E ⟨h,g,d,t,os⟩:=by
 unfold getAttr
 repeat (any_goals (first | assumption | with_reducible apply Gyy X k na hh hx hc hd hf hn hm | wp_step))
end
def Ga3:List Value->Bool
 | .ref _::r=>Ga3 r
 | l=>l==[.type "ValueError",.type "Exception",.type "BaseException",.type "object"]
abbrev VE4:List Value:=[.type "ValueError",.type "Exception",.type "BaseException",.type "object"]
theorem Ghc{r:List Value}(h:∀ a,v≠.ref a)(q:Ga3 (v::r)=true):v::r=VE4:=by
 cases v<;>first | exact beq_iff_eq.mp q | exact absurd rfl (h _)
theorem Gfc(self:Value):∀ (l:List Value),Ga3 l=true->refuseLoop self "__setattr__" l=pure ()
 | [],q=>by cases q
 | v::r,q=>by
  by_cases c:∃ a,v=.ref a
  ·obtain⟨a,rfl⟩:=c
   rw[refuseLoop_ref]
   exact Gfc self r q
  ·rw[Ghc (fun a z=>c ⟨a,z⟩) q]
   exact PySem.F.store_ValueError.passes self
theorem Gmp:∀ (l:List Value),Ga3 l=true->l.contains (.type "object")=true
 | [],q=>by cases q
 | v::r,q=>by
  by_cases c:∃ a,v=.ref a
  ·obtain⟨a,rfl⟩:=c
   rw[List.contains_cons,Gmp r q,Bool.or_true]
  ·rw[Ghc (fun a z=>c ⟨a,z⟩) q]
   decide
section
variable{prog:Program}{w:World}{A:Around}{K:PySem.W.Frag}{s:Shared}{x C:Addr}{R:Result->Shared->Prop}
theorem Gqg{ox:Obj}{od:Option Obj}{nm:Str}(X:K.In s.heap)(J:PySem.W.InstAt s.heap x ox C od)(hp:(PySem.W.clsIn K C).any (fun cd=>Ga3 cd.mro)=true)(na:PySem.W.findIn K (.ref C) nm=some none)(hq:wpAny (model prog w) A.in1 (Builtin.ObjectAttr.storeInOwnDict (.ref x) (.ref C) (.str nm tk) nm v false)
   (fun fin s'=>match fin with | .done f=>R (.ok f) s' | .again c'=>c'.quiet=true/\codeAny (model prog w) A c' R s') (fun e s'=>R (.error e) s') s):
  codeAny (model prog w) A (.call (.builtin "object.__setattr__") ⟨[.ref x,.str nm tk,v],[]⟩) R s:=by
 obtain⟨cd,hcl,hve⟩:=PySem.W.any_some hp
 have hE:cd.mro.isEmpty=false:=by
  cases z:cd.mro with
  | nil=>rw[z] at hve; cases hve
  | cons _ _=>rfl
 have isO:PySem.W.Looks (model prog w) s.heap (isInstance (.ref x) (.type "object")) true:=J.type.andThen (PySem.W.looks_mroIn X (by unfold PySem.W.mroIn; rw[hcl,Option.bind_some,hE,if_neg Bool.false_ne_true,Gmp _ hve]))
 have so:=PySem.F.store_object
 refine codeAny_call_builtin so.slot.plain so.entry (@PySem.W.check_slot (model prog w) _ _ s "object.__setattr__" "object" "__setattr__" (.ref x) [.str nm tk,v] [] _ so.kind so.split isO (so.args (.ref x) (.str nm tk) v) ?_)
 rw[PySem.W.osa_eq,refuse_eq]
 refine wpAny_bind (wpAny_bind (J.type.here (wpAny_bind (PySem.W.Looks.here ((PySem.W.looks_clsIn X hcl).andThen .now) ?_))))
 rw[Gfc _ _ hve]
 exact wpAny_pure (wpAny_bind (J.type.here (wpAny_bind ((PySem.W.looks_findIn X na).here (wpAny_bind (wpAny_pure hq))))))
set_option maxHeartbeats 1000000 in
theorem Gqh{E:Value->Shared->Prop}{sl:Array (Option Value)}{nm:Str}{Q:Fin->Shared->Prop}(X:K.In s.heap)(hh:PySem.W.hasDictIn K C=true)(hx:s.heap.get? x=some ⟨.ref C,none,.fields vs,sl⟩)(hq:∀ h' tk',h'.get? x=some ⟨.ref C,some s.heap.objs.size,.fields vs,sl⟩->h'.Ns s.heap.objs.size (fun y=>if y=nm then some v else none)->(∀ b o,b≠x->s.heap.get? b=some o->h'.get? b=some o)->Q (.done (.ret .none)) { s with heap:=h',toks:=tk' }):
  wpAny (model prog w) A (Builtin.ObjectAttr.storeInOwnDict (.ref x) (.ref C) (.str nm tk) nm v false) Q E s:=by
 obtain⟨cd,hcl,hcd⟩:=PySem.W.any_some hh
 have nx:x≠s.heap.objs.size:=Nat.ne_of_lt (Heap.lt_size hx)
 have x1:(s.heap.push { cls:=.type "dict",data:=.dict #[] }).get? x=some ⟨.ref C,none,.fields vs,sl⟩:=Heap.get?_push_of_some _ hx
 have x2:=Heap.get?_update_self (fun o:Obj=>{ cls:=o.cls,dict:=some s.heap.objs.size,data:=o.data,slots:=o.slots }) x1 rfl
 have d2:((s.heap.push { cls:=.type "dict",data:=.dict #[] }).update x fun o=>{ cls:=o.cls,dict:=some s.heap.objs.size,data:=o.data,slots:=o.slots }).get? s.heap.objs.size=some { cls:=.type "dict",data:=.dict #[] }:=
  (Heap.get?_update_other _ _ nx).trans (Heap.get?_push_size s.heap rfl)
 have nd:((s.heap.push { cls:=.type "dict",data:=.dict #[] }).update x fun o=>{ cls:=o.cls,dict:=some s.heap.objs.size,data:=o.data,slots:=o.slots }).Ns s.heap.objs.size (fun _=>none):=⟨_,#[],_,d2,rfl,fun e he=>absurd he (by simp),fun _=>rfl⟩
 have kp:∀ b o,b≠x->s.heap.get? b=some o->((s.heap.push { cls:=.type "dict",data:=.dict #[] }).update x fun o=>{ cls:=o.cls,dict:=some s.heap.objs.size,data:=o.data,slots:=o.slots }).get? b=some o:=fun b o hb q=>(Heap.get?_update_other _ _ (Ne.symm hb)).trans (Heap.get?_push_of_some _ q)
 unfold Builtin.ObjectAttr.storeInOwnDict
 generalize hS:Builtin.ObjectAttr.storeInDict=F
 repeat (any_goals (first | with_reducible refine wpAny_loadPart_at hx ?_ | with_reducible refine(PySem.W.looks_clsIn X hcl).here ?_ | wp_step))
 subst hS
 show wpAny _ _ (Builtin.ObjectAttr.storeInDict s.heap.objs.size (.str nm tk) nm v) _ _ _
 unfold Builtin.ObjectAttr.storeInDict Builtin.ObjectAttr.newKeyGuard
 refine wpAny_bind (wpAny_pure (wpAny_bind (wpAny_nsSet1 (Heap.Ns1.of_empty nd) fun h' n' sb=>?_)))
 obtain⟨oD,eD,pD,hD,dD,cD⟩:=n'.count (PySem.Within.cons nm v PySem.Within.nil)
 refine wpAny_bind (wpAny_lookBehind hD (by rw[dD]; exact pastItsLine_dict (Nat.le_trans cD (by rw[List.length_cons,List.length_nil,sizeLine_eq]; omega))) ?_)
 refine wpAny_pure (hq h' _ ((sb.2 x nx).trans x2) ?_ fun b o hb q=>(sb.2 b (Nat.ne_of_lt (Heap.lt_size q))).trans (kp b o hb q))
 exact n'.ns
end
structure KA(K:PySem.W.Frag)(C:Addr):Prop where
 sa:PySem.W.findIn K (.ref C) "__setattr__"=some (some (.builtin "object.__setattr__"))
 ve:(PySem.W.clsIn K C).any (fun cd=>Ga3 cd.mro)=true
 na:PySem.W.findIn K (.ref C) "at"=some none
 hd:PySem.W.hasDictIn K C=true
section
variable{X:Cx}{pins:List (Addr×Obj)}{σ:L2.St}{H:Hp}{s:Shared}{C e:Addr}
theorem Gqi{d:Addr}{n:Int}(h1 h2:Heap)(q:∃ t,h1.Ns d fun y=>if y="at" then some (.int n t) else none)(k:∀ o,h1.get? d=some o->h2.get? d=some o):∃ t,h2.Ns d fun y=>if y="at" then some (.int n t) else none:=by
 obtain⟨t,o,es,ep,ho,r⟩:=q
 exact⟨t,o,es,ep,k _ ho,r⟩
theorem set_at{E:Value->Shared->Prop}{n:Int}{t:Tok}{Q:Unit->Shared->Prop}(I:Inv X pins σ H s)(ka:KA X.K C)(hH:H e=some (FX e C none))(h:∀ s' d,H d=none->d≠e->Inv X pins σ (upd (upd H e (FX e C (some d))) d (XA d n)) s'->Q () s'):
  wpAny (model X.prog X.w) A (setAttr (.ref e) "at" (.int n t)) Q E s:=by
 obtain⟨⟨t0,he⟩,_,_⟩:=(show Jz X.prog X.w H s.heap e (FX e C none) from I.hok e _ hH)
 have J:PySem.W.InstAt s.heap e ⟨.ref C,none,.fields #[.ref t0,.none,.none,.none,.bool false,.none],#[]⟩ C none:=⟨he,rfl,rfl,trivial⟩
 refine PySem.W.set_plain I.kIn J ka.sa (Gqg (s:={ s with toks:=s.toks+1 }) I.kIn J ka.ve ka.na (Gqh (s:={ s with toks:=s.toks+1 }) I.kIn ka.hd he fun h' tk' g1 n1 kp=>?_))
 have hn:H s.heap.objs.size=none:=I.hok.fresh (Nat.le_refl _)
 have hdn:s.heap.get? s.heap.objs.size=none:=Heap.get?_none_of_le (Nat.le_refl _)
 have hne:s.heap.objs.size≠e:=Nat.ne_of_gt (Heap.lt_size he)
 have I1:=I.write (h':=h') (x:=e) (e:=e) (o:=FX e C (some s.heap.objs.size)) (t':=tk') (by rw[hH]; exact trivial) (.inl rfl) (fun b u hb hu=>kp b u hb hu) ⟨_,g1⟩ (Gi2 ⟨_,g1⟩)
 refine h _ s.heap.objs.size hn hne (Gdl (φ:=fun h=>∃ t,h.Ns s.heap.objs.size fun y=>if y="at" then some (.int n t) else none) I1 (by rw[Hb hne]; exact hn) (Heap.get?_none_of_le I.sz) (fun z=>?_) (fun x c hc z=>?_) (fun p hp z=>?_) ⟨t,n1⟩ (let ⟨o,_,_,q,_⟩:=n1; ⟨o,q⟩) Gqi)
 ·obtain⟨m,⟨o,es,ep,ho,_⟩,_⟩:=I.loc
  rw[<- z,hdn] at ho
  cases ho
 ·obtain⟨v,o,ho,_⟩:=I.cell x c hc
  rw[z,hdn] at ho
  cases ho
 ·obtain⟨q1,_⟩:=I.pin p hp
  rw[z,hdn] at q1
  cases q1
def sAt(K:PySem.W.Frag)(ta tv:TE):TS:=fun D σ H=>tv σ H fun y H1=>ta σ H1 fun x H2=>∃ e C n,x=.ref e/\y=.int n/\H2 e=some (FX e C none)/\KA K C/\∀ d,H2 d=none->d≠e->D.nx σ (upd (upd H2 e (FX e C (some d))) d (XA d n))
theorem Gyz{value:Expr}{ta tv:TE}(ha:PE X o ta)(hv:PE X value tv)(hs:swapsWith value (some (.Attribute o "at" pos')) pos.line X.env=pure false:=by rfl):PS X (.Assign [.Attribute o "at" pos'] value pos) (sAt X.K ta tv):=by
 intro pins s σ H D I h
 refine plainObj_wpAny_Assign_Attribute (thn (hv pins s σ H _ I h) fun u s1 ⟨y,H1,I1,ry,q⟩=>thn (ha pins s1 σ H1 _ I1 q) fun ov s2 ⟨x,H2,I2,rx,e,C,n,ex,ey,hH,ka,q2⟩=>?_) hs
 subst ex ey
 obtain rfl:ov=Value.ref e:=rx
 obtain⟨t,rfl⟩:=(show ∃ t,u=Value.int n t from ry)
 exact set_at I2 ka hH fun s3 d hd hne I3=>⟨σ,_,I3,q2 d hd hne⟩
structure BaseI(K:PySem.W.Frag)(mg:Str->Option Value)(x:Str)(f:Addr):Prop where
 ex:∃ cs mc,mg x=some (.ref cs)/\PySem.W.readsIn K cs mc=true/\PySem.W.findCls K (.ref cs) mc "__init__"=some (.val (.ref f))/\PySem.W.specialIn K (.ref cs) "__getattribute__"=some (some (.builtin "type.__getattribute__"))/\PySem.W.keepIn K (.ref f)=true
end
def spJ(K:PySem.W.Frag):Sp:=fun vs H Q _=>∃ e n C,vs=[.ref e,.int n]/\H e=some (FX e C none)/\(KX K C/\KA K C)/\∀ d,H d=none->d≠e->Q .non (upd (upd H e (FX e C (some d))) d (XA d n))
abbrev Gmq(K:PySem.W.Frag)(x:Str):TS:=Gxk (Gk4 (tVI K (Ggy (Gj7 0) (Ggy (tC (.str x)) Gtp)))) (sAt K (Gj7 0) (Gj7 1))
section
variable{P:Program}{w:World}{K:PySem.W.Frag}{mg:Str->Option Value}{base:Heap}
structure IniJ(P:Program)(w:World)(K:PySem.W.Frag)(mg:Str->Option Value)(base:Heap)(f:Addr)(j:Nat):Prop where
 ex:∃ fd ps oI,K.lookup f=some oI/\oI.cls=.type "function"/\FnOk P w K mg base CX0 j f fd ps (spJ K)/\ps.length=2/\Binds K fd ps []
end
section
variable{X:Cx}{pins:List (Addr×Obj)}{σ:L2.St}{H:Hp}{s:Shared}{C f:Addr}{fd:FuncData}{ps:List Str}{k:Nat}
def srj(y:Str)(f:Ev (List D)):Sv:=fun ρ S=>bindS (f ρ S) ρ fun ds S1=>match ds with
 | [.int n]=>.exc ⟨y,some n⟩ ρ S1
 | _=>.bad
structure ClJ(P:Program)(w:World)(K:PySem.W.Frag)(mg:Str->Option Value)(base:Heap)(x:Str)(j:Nat):Prop where
 ex:∃ C f fd ps oI,mg x=some (.ref C)/\CN K x C/\(KX K C/\KA K C)/\PySem.W.findIn K (.ref C) "__init__"=some (some (.ref f))/\K.lookup f=some oI/\oI.cls=.type "function"/\FnOk P w K mg base CX0 j f fd ps (spJ K)/\ps.length=2/\Binds K fd ps []
def tAt(K:PySem.W.Frag)(ta:TE):TE:=fun σ H Q=>ta σ H fun x H1=>∃ a C d n,x=.ref a/\XCl K C/\H1 a=some (XO a C (some d))/\H1 d=some (XA d n)/\PySem.W.findIn K (.ref C) "at"=some none/\PySem.W.hasDictIn K C=true/\Q (.int n) H1
theorem Gy0{e:Expr}{ta:TE}(he:PE X e ta)(hb:attributeBase e "at" X.env (eval e X.env)=eval e X.env):PE X (.Attribute e "at" pos) (tAt X.K ta):=by
 intro pins s σ H Q I h
 refine Gox hb (thn (he pins s σ H _ I h) fun u s1 ⟨x,H1,I1,rx,a,C,d,n,ex,xc,ha,hd,na,hh,q⟩=>?_)
 subst ex
 obtain rfl:u=Value.ref a:=rx
 obtain⟨⟨oe,g1,g2,g3,vs,g4⟩,_,_⟩:=(show Jz X.prog X.w H1 s1.heap a (XO a C (some d)) from I1.hok a _ ha)
 obtain⟨⟨t,hn⟩,_,_⟩:=(show Jz X.prog X.w H1 s1.heap d (XA d n) from I1.hok d _ hd)
 obtain⟨hp,g,dr,tk,os⟩:=s1
 exact Gv3 I1.kIn xc na hh g1 g2 g3 g4 hn (if_pos rfl) ⟨.int n,H1,I1.tok _,⟨_,rfl⟩,q⟩
def atD(ms:List Str)(x:D)(S:Sto):Out D:=match x with
 | .exn y (some n)=>if y∈ms then .ok (.int n) S else .bad
 | _=>.bad
def AtC(K:PySem.W.Frag)(ms:List Str):Prop:=∀ y∈ms,∃ C,CN K y C/\PySem.W.findIn K (.ref C) "at"=some none/\PySem.W.hasDictIn K C=true
theorem Gy1{e:Expr}{f:Ev D}{ms:List Str}(ac:AtC X.K ms)(he:JE X XQ e f)(hb:attributeBase e "at" X.env (eval e X.env)=eval e X.env:=by rfl):JE X XQ (.Attribute e "at" pos) (o1 (atD ms) f):=by
 refine PE.mono (Gy0 he hb) fun σ H Q ⟨mp,ρ,S,G,p⟩=>?_
 refine bindP G p fun mp1 H1 d S1 v a1 G1 r1 p1=>?_
 cases d with
 | exn y fl=>
  cases fl with
  | none=>exact p1.elim
  | some n=>
   by_cases hy:y∈ms
   ·have p1:Post X.K XQ σ ρ mp1 H1 (.ok (.int n) S1) Q:=by simpa only[atD,if_pos hy] using p1
    obtain⟨a,dx,C,rfl,⟨hc,xc,hH⟩,hfl⟩:=(show ∃ a dx p,v=.ref a/\(CN X.K y p/\XCl X.K p/\H1 a=some (XO a p dx))/\∀ i,some n=some i->∃ d,dx=some d/\H1 d=some (XA d i) from r1)
    obtain⟨d,rfl,hd⟩:=hfl n rfl
    obtain⟨C',hc',na,hh⟩:=ac y hy
    cases CN.one hc hc'
    exact⟨a,C,d,n,rfl,xc,hH,hd,na,hh,Gs.ok (R:=Rep X.K) p1 G1.rs rfl⟩
   ·have p1:Post X.K XQ σ ρ mp1 H1 .bad Q:=by simpa only[atD,if_neg hy] using p1
    exact p1.elim
 | _=>exact p1.elim
end
def atB(K:PySem.W.Frag)(l:List (Str×Addr)):Bool:=l.all fun p=>(PySem.W.nsIn K mainGlobals p.1==some (some (.ref p.2)))&&((PySem.W.findIn K (.ref p.2) "at"==some none)&&PySem.W.hasDictIn K p.2)
theorem Gy2{l:List (Str×Addr)}(t:atB K l=true):AtC K (l.map (·.1)):=fun y hy=>by
 obtain⟨p,hp,rfl⟩:=List.mem_map.mp hy
 have z:=List.all_eq_true.mp t p hp
 simp only[Bool.and_eq_true,beq_iff_eq] at z
 exact⟨p.2,z.1,z.2.1,z.2.2⟩
def Gv4(K:PySem.W.Frag)(C f:Addr):Bool:=kxB K C&&((PySem.W.findIn K (.ref C) "__init__"==some (some (.ref f)))&&((PySem.W.findIn K (.ref C) "__setattr__"==some (some (.builtin "object.__setattr__")))&&(((PySem.W.clsIn K C).any fun cd=>Ga3 cd.mro)&&((PySem.W.findIn K (.ref C) "at"==some none)&&PySem.W.hasDictIn K C))))
theorem Gei:entryFor table "proto.unchain"=some Builtin.«proto.unchain»:=entryFor_of_tree (by kernel_rfl)
section
variable{P:Program}{w:World}{A:Around}{E:Value->Shared->Prop}{env:PySem.Env}{s:Shared}
variable{nm q:Str}{C N:Addr}{bs bm:List Value}{hdct:Bool}{sn:List Str}{sub:List Value}{ab:Bool}{col:Option Bool}{dd:Option Addr}{k0 k1 k2 k3 k5:Option Value}{newId:String}
theorem Gf0{e a:Addr}{oa:Obj}{va:Array Value}(ga:s.heap.get? a=some oa)(da:oa.data=.fields va)(h2:va[2]?=some .none)(hq:Q .none s):wpAny (model P w) A (runValue (.builtin "proto.unchain" ⟨[.ref e,.ref a,.ref a,.bool false],[]⟩)) Q E s:=by
 refine wpAny_runValue (codeAny_builtin Gei ?_)
 unfold Builtin.«proto.unchain»
 refine wpAny_bind (wpAny_field ga da h2 ?_)
 simp only[beq_self_eq_true,if_true]
 repeat (first | assumption | wp_step)
theorem efv{e:Addr}{t c k:Value}{msg:String}(hb:XB bm)(hC:s.heap.get? C=some (excClassObj nm q C N bs bm hdct sn sub ab col dd k0 k1 k2 k3 k5 newId))(he:s.heap.get? e=some { cls:=.ref C,dict:=dx,data:=.fields #[t,.none,c,k,u,.none] })(hq:Q (.ref e) s):wpAny (model P w) A (excFromValue (.ref e) msg) Q E s:=by
 have hB:(Value.ref C::bm).contains (.type "BaseException")=true:=by rw[List.contains_cons,hb.b,Bool.or_true]
 unfold excFromValue isExcClass
 obtain⟨hp,g,d,tk,os⟩:=s
 repeat (first | with_reducible refine wpAny_loadPart_at he ?_ | with_reducible refine wpAny_loadPart_at hC ?_ | (with_reducible refine wpAny_isSubtype_exc hC ?_; rw[hB]) | wp_step)
 exact hq
theorem Gmr{a:Addr}{x c:Sem Value}{Q:Flow->Shared->Prop}(hb:XB bm)(hh:A.handled=some (.ref a))(hc:∀ (s:Shared) (Q:Value->Shared->Prop),Q .none s->wpAny (model P w) A c Q E s)
  (h:wpAny (model P w) A x (fun v s₁=>∃ e dx,v=.ref e/\s₁.heap.get? C=some (excClassObj nm q C N bs bm hdct sn sub ab col dd k0 k1 k2 k3 k5 newId)/\Vp s₁.heap e C (some dx)/\e≠a/\e≠C/\(∃ oa va,s₁.heap.get? a=some oa/\oa.data=.fields va/\va[2]?=some .none)/\∀ h',Us h' e C (some dx)->(∀ b,b≠e->h'.get? b=s₁.heap.get? b)->E (.ref e) { s₁ with heap:=h' }) E s):
  wpAny (model P w) A (raiseStmt env (some x) (some c)) Q E s:=by
 have hB:(Value.ref C::bm).contains (.type "BaseException")=true:=by rw[List.contains_cons,hb.b,Bool.or_true]
 unfold raiseStmt
 refine wpAny_bind (wpAny_mono h (fun v s₁ h₁=>?_) fun _ _ x=>x)
 obtain⟨e,dx,rfl,hC,⟨t,he⟩,hne,hnC,⟨oa,va,ga,da,h2⟩,hE⟩:=h₁
 refine wpAny_bind (wpAny_holding (hc _ _ ?_))
 refine wpAny_bind (wpAny_pure ?_)
 refine wpAny_bind (wpAny_holding (efv hb hC he ?_))
 obtain⟨hp,g,d,tk,os⟩:=s₁
 simp only[beq_self_eq_true,if_true]
 refine wpAny_bind (wpAny_pure (wpAny_bind (wpAny_setField he rfl (by simp) ?_)))
 have e1:(hp.update e (Obj.mapFields (·.setIfInBounds 3 Value.none))).get? e=some { cls:=.ref C,dict:=some dx,data:=.fields #[.ref t,.none,.none,.none,.bool false,.none] }:=Heap.get?_update_self _ he rfl
 have o1:∀ b,b≠e->(hp.update e (Obj.mapFields (·.setIfInBounds 3 Value.none))).get? b=hp.get? b:=fun b q=>Heap.get?_update_other _ _ (Ne.symm q)
 generalize hp.update e (Obj.mapFields (·.setIfInBounds 3 Value.none))=h1 at e1 o1 ⊢
 refine wpAny_bind (wpAny_setField (s:=⟨h1,g,d,tk,os⟩) e1 rfl (by simp) ?_)
 have e2:(h1.update e (Obj.mapFields (·.setIfInBounds 4 (Value.bool true)))).get? e=some { cls:=.ref C,dict:=some dx,data:=.fields #[.ref t,.none,.none,.none,.bool true,.none] }:=Heap.get?_update_self _ e1 rfl
 have o2:∀ b,b≠e->(h1.update e (Obj.mapFields (·.setIfInBounds 4 (Value.bool true)))).get? b=hp.get? b:=fun b q=>(Heap.get?_update_other _ _ (Ne.symm q)).trans (o1 b q)
 show wpAny _ _ _ _ _ (Shared.mk (h1.update e (Obj.mapFields (·.setIfInBounds 4 (Value.bool true)))) g d tk os)
 generalize h1.update e (Obj.mapFields (·.setIfInBounds 4 (Value.bool true)))=h2' at e2 o2 ⊢
 have c2:h2'.get? C=some (excClassObj nm q C N bs bm hdct sn sub ab col dd k0 k1 k2 k3 k5 newId):=(o2 C (Ne.symm hnC)).trans hC
 have a2:h2'.get? a=some oa:=(o2 a (Ne.symm hne)).trans ga
 repeat (first | with_reducible refine wpAny_loadPart_at e2 ?_ | with_reducible refine wpAny_loadPart_at c2 ?_ | (with_reducible refine wpAny_isSubtype_exc c2 ?_; rw[hB]) | wp_step)
 unfold raiseNew
 refine wpAny_bind (wpAny_handled ?_)
 rw[hh]
 have nn:(Value.ref a != Value.ref e)=true:=by simp[Ne.symm hne]
 simp only[nn,if_true]
 refine wpAny_bind (wpAny_holding (Gf0 (s:=⟨h2',g,d,tk,os⟩) a2 da h2 ?_))
 refine wpAny_bind (?_:wpAny _ _ (setField (.ref e) 2 (.ref a)) _ _ _)
 refine wpAny_setField (s:=⟨h2',g,d,tk,os⟩) e2 rfl (by simp) ?_
 have e3:(h2'.update e (Obj.mapFields (·.setIfInBounds 2 (Value.ref a)))).get? e=some { cls:=.ref C,dict:=some dx,data:=.fields #[.ref t,.none,.ref a,.none,.bool true,.none] }:=Heap.get?_update_self _ e2 rfl
 exact wpAny_throw (hE _ ⟨_,_,_,_,e3,fun z=>nomatch z⟩ fun b q=>(Heap.get?_update_other _ _ (Ne.symm q)).trans (o2 b q))
theorem Gms{a:Addr}{e1:Expr}{Q:Flow->Shared->Prop}(hb:XB bm)(hh:A.handled=some (.ref a))(h:wpAny (model P w) A (eval (.Name x np) env) (fun f s₁=>f=.ref C/\wpAny (model P w) A (spliced (backTo cpos (starEach (e1::es) env))) (fun vs s₂=>
   s₂.heap.get? C=some (excClassObj nm q C N bs bm hdct sn sub ab col dd k0 k1 k2 k3 k5 newId)/\wpAny (model P w) A (call (.ref C) vs) (fun v s₃=>∃ e dx,v=.ref e/\s₃.heap.get? C=some (excClassObj nm q C N bs bm hdct sn sub ab col dd k0 k1 k2 k3 k5 newId)/\Vp s₃.heap e C (some dx)/\e≠a/\e≠C/\(∃ oa va,s₃.heap.get? a=some oa/\oa.data=.fields va/\va[2]?=some .none)/\∀ h',Us h' e C (some dx)->(∀ b,b≠e->h'.get? b=s₃.heap.get? b)->E (.ref e) { s₃ with heap:=h' }) E s₂) E s₁) E s)(he:starEach (e1::es) env=(false,eval e1 env)::starEach es env:=by rfl)(hpl:(backTo cpos (starEach es env)).any (·.1)=false:=by rfl):
  wpAny (model P w) A (exec (.Raise (some (.Call (.Name x np) (e1::es) [] cpos)) (some (.Constant .none cj npos)) pos) env) Q E s:=by
 have plain:(backTo cpos (starEach (e1::es) env)).any (·.1)=false:=by
  rw[he]
  show(false||(backTo cpos (starEach es env)).any (·.1))=false
  rw[hpl]; rfl
 rw[arm_exec_Raise]
 have key:wpAny (model P w) A (eval (.Call (.Name x np) (e1::es) [] cpos) env) (fun v s₃=>∃ e dx,v=.ref e/\s₃.heap.get? C=some (excClassObj nm q C N bs bm hdct sn sub ab col dd k0 k1 k2 k3 k5 newId)/\Vp s₃.heap e C (some dx)/\e≠a/\e≠C/\(∃ oa va,s₃.heap.get? a=some oa/\oa.data=.fields va/\va[2]?=some .none)/\∀ h',Us h' e C (some dx)->(∀ b,b≠e->h'.get? b=s₃.heap.get? b)->E (.ref e) { s₃ with heap:=h' }) E s:=by
  refine wpAny_Call_ofName (wpAny_mono h (fun f s₁ h₁=>?_) fun _ _ x=>x)
  obtain⟨rfl,h₁⟩:=h₁
  unfold callWith
  have ev:wpAny (model P w) A (evalArgs (.ref C) true (backTo cpos (starEach (e1::es) env)) []) (fun a' s₂=>a'.kw=[]/\s₂.heap.get? C=some (excClassObj nm q C N bs bm hdct sn sub ab col dd k0 k1 k2 k3 k5 newId)/\wpAny (model P w) A (call (.ref C) a'.pos) (fun v s₃=>∃ e dx,v=.ref e/\s₃.heap.get? C=some (excClassObj nm q C N bs bm hdct sn sub ab col dd k0 k1 k2 k3 k5 newId)/\Vp s₃.heap e C (some dx)/\e≠a/\e≠C/\(∃ oa va,s₃.heap.get? a=some oa/\oa.data=.fields va/\va[2]?=some .none)/\∀ h',Us h' e C (some dx)->(∀ b,b≠e->h'.get? b=s₃.heap.get? b)->E (.ref e) { s₃ with heap:=h' }) E s₂) E s₁:=by
   rw[he] at h₁ ⊢
   exact PySem.Calls.evalArgs_plain (wpAny_mono h₁ (fun vs s₂ z=>⟨rfl,z⟩) fun _ _ x=>x)
  refine wpAny_bind (wpAny_holding (wpAny_mono ev (fun a' s₂ h₂=>wpAny_bind (wpAny_standAt ?_)) fun _ _ x=>x))
  obtain⟨ap,ak⟩:=a'
  obtain⟨hk,hC,h₂⟩:=h₂
  obtain rfl:ak=[]:=hk
  obtain⟨hp,g,d,tk,os⟩:=s₂
  simp only[plain]
  refine wpAny_bind (wpAny_keeperOf_exc hC ?_)
  exact wpAny_bind (wpAny_mono h₂ (fun r s₃ hr=>wpAny_bind (wpAny_holding (wpAny_point (wpAny_pure hr)))) fun _ _ x=>x)
 exact wpAny_bind (wpAny_standAt (Gmr hb hh (fun s Q q=>wpAny_bind (wpAny_pure (wpAny_bind (wpAny_standAt (wpAny_pure q))))) (wpAny_bind (wpAny_mono key (fun v s₃ h₃=>wpAny_bind (wpAny_standAt (wpAny_pure h₃))) fun _ _ x=>x))))
end
structure RoomQ(k:Nat)(A:Around):Prop where
 dp:A.depth+3*k+5<recursionLimit
 un:A.units+16*k+200<cLine
 gd:A.guards=some []
theorem Gv5(r:Room k A)(h:Option Value):RoomQ k (A.mark h):=⟨r.dp,r.un,r.gd⟩
theorem RoomQ.mono(r:RoomQ k A)(h:j<=k):RoomQ j A:=⟨by have:=r.dp; omega,by have:=r.un; omega,r.gd⟩
theorem RoomQ.deeper(r:RoomQ (k+1) A)(env:PySem.Env):RoomQ k (A.deeper env):=
 ⟨by have:=r.dp; show A.depth+1+3*k+5<_; omega,by have:=r.un; show A.units+3+16*k+200<_; omega,by first | exact r.gd | (simpa[Around.deeper] using r.gd)⟩
theorem RoomQ.make(r:RoomQ (k+1) A)(C:Addr)(us:List Value)(kw:List (Str×Value)):RoomQ k (A.under (.builtin "type.__call__" ⟨.ref C::us,kw⟩)):=
 ⟨by have:=r.dp; rw[Gdb]; omega,by have:=r.un; rw[Gdc]; omega,by first | exact r.gd | (simpa[Around.under,pushGuards,Code.guards,Code.isGuard,guardIds] using r.gd)⟩
theorem RoomQ.depth(r:RoomQ k A):A.depth<recursionLimit:=by have:=r.dp; omega
def cxQ(P:Program)(w:World)(K:PySem.W.Frag)(mg:Str->Option Value)(base:Heap)(N:List Str)(qual:Str)(scope:Scope)(f:Addr)(cd:Value)(A:Around)(outer:List PySem.Env)(s:Shared)(H:Hp):Cx:={ Vd CX0 P w K mg base N qual scope f cd A outer s H E0 with calm:=false,xe:=fun _ _=>False }
structure FnQ(P:Program)(w:World)(K:PySem.W.Frag)(mg:Str->Option Value)(base:Heap)(k:Nat)(f:Addr)(fd:FuncData)(ps:List Str)(sp:Sp):Prop where
 len:∀ vs H Q E,sp vs H Q E->vs.length=ps.length
 run:∀ (A:Around) (outer:List PySem.Env) (s:Shared) (H:Hp) (args:Args) (us:List Value) (vs:List V) (Q:VK) (E:XK),RoomQ k A->Env0 P w K mg base A outer s H->BindsTo s fd args (ps.zip us)->Vals vs us->sp vs H Q E→
  codeAny (model P w) A (.call (.ref f) args) (CR CX0 outer P w H s Q E) s
theorem FnQ.mono{f:Addr}(F:FnQ P w K mg base j f fd ps sp)(h:j<=k):
  FnQ P w K mg base k f fd ps sp:=⟨F.len,fun A outer s H args us vs Q E hr=>F.run A outer s H args us vs Q E (hr.mono h)⟩
theorem Gib{f:Addr}{cd:Value}{outer:List PySem.Env}{s1:Shared}{vs:List V}(S:FnScope N ps scope)(e0:Env0 P w K mg base A outer s H)(hl:vs.length=ps.length)(r:Vals vs us)(x:InCallC s s.heap.objs.size (bindL (envOfC qual scope s.heap.objs.size f cd).kindOf (ps.zip us) fun _=>none) (cellsFrom (s.heap.objs.size+1) scope.names []) (bindC (envOfC qual scope s.heap.objs.size f cd).kindOf (ps.zip us) fun _=>none) s1):
  Inv (cxQ P w K mg base N qual scope f cd A outer s H) [] (start N vs) H s1:=by
 have I:=Ge6 (CX:=CX0) (E:=E0) (A:={ A with handled:=none }) S rfl ⟨e0.frames,e0.mod,e0.bs,e0.bsz,e0.funs,e0.frf,e0.hok,e0.bare⟩ hl r x
 exact⟨⟨I.ok.mod,I.ok.kind,I.ok.glob,I.ok.blt,I.ok.above,I.ok.inj,I.ok.has,I.ok.cab,(fun z=>nomatch z),Around.frames_deeper e0.frames,I.ok.stk,I.ok.exf,I.ok.bs,I.ok.bsz,I.ok.noex,I.ok.exfs,I.ok.funs,I.ok.frf⟩,I.os,I.bare,I.base,I.loc,I.cell,I.free,I.freeC,I.pin,I.hok,I.len⟩
theorem Gv6{f:Addr}{name:Str}{params:Arguments}{dV kV:Value}{an:Option Addr}(lk:K.lookup f=some ⟨oc,od,.func (PySem.W.fnOf name qual params body scope dV kV doc pm an cdv ct),osl⟩)(hcd:PySem.W.codeIn K cdv qual=true)(S:FnScope N ps scope)(len:∀ vs H Q E,sp vs H Q E->vs.length=ps.length)(hbody:∀ (A:Around) (outer:List PySem.Env) (s:Shared) (H:Hp) (vs:List V) (Q:VK) (E:XK),RoomQ k (A.deeper (envOfC qual scope s.heap.objs.size f cdv))->sp vs H Q E→
   ∃ t,PSs (cxQ P w K mg base N qual scope f cdv A outer s H) body t/\t { nx:=fun _ H'=>Q .non H',rt:=Q } (start N vs) H):
  FnQ P w K mg base (k+1) f (PySem.W.fnOf name qual params body scope dV kV doc pm an cdv ct) ps sp:=by
 refine⟨len,fun A outer s H args us vs Q E hr e0 hb r hsp=>?_⟩
 have hl:=len _ _ _ _ hsp
 have KX:K.In s.heap:=e0.mod.kin.keeps fun b o e=>(e0.bs b o e).1
 have lim:s.heap.NoLimit:=e0.mod.nolimit.keeps fun b o e=>(e0.bs b o e).1
 have hkind:∀ y∈ps.zip us,scope.names.lookup y.1=some .local\/(scope.names.lookup y.1=some .cell/\((cellsFrom (s.heap.objs.size+1) scope.names []).lookup y.1).isSome=true):=fun⟨n,v⟩ hy=>by
  rcases S.par n (List.of_mem_zip hy).1 with q | q
  ·exact .inl q
  ·exact .inr ⟨q,PySem.W.cellsFrom_some _ _ _ (.inl q)⟩
 refine codeAny_call_function hr.depth (KX _ _ lk) rfl S.co S.gen rfl (PySem.W.codeRec_of KX hcd) (hb _ _ _ _ ?_)
 refine wpAny_newFunctionEnv_cells S.kind hkind fun env he s1 x=>?_
 subst he
 refine⟨lim.keeps x.toInCall.keep,codeAny_func ?_⟩
 obtain⟨t,ht,hq⟩:=hbody A outer s H vs Q E (hr.deeper _) hsp
 have I:Inv (cxQ P w K mg base N qual scope f cdv A outer s H) [] (start N vs) H s1:=Gib S e0 hl r x
 refine wpAny_mono (ht [] s1 (start N vs) H _ I hq) (fun fl s' hs=>?_) fun e s' hs=>hs.elim
 have fin:∀ {σ':L2.St} {H':Hp} {v:V} {u:Value},Inv (cxQ P w K mg base N qual scope f cdv A outer s H) [] σ' H' s'->Hq v u->Q v H'->CE outer P w H s Q u s':=
  fun{σ' H' v u} J rv q=>⟨v,H',J.os,J.bare,J.base,J.hok,rv,q⟩
 cases fl with
 | ret u=>
  obtain⟨v,σ',H',J,rv,q⟩:=hs
  exact fin J rv q
 | next=>
  obtain⟨σ',H',J,q⟩:=hs
  exact fin (v:=V.non) (u:=Value.none) J rfl q
 | brk=>
  obtain⟨_,_,_,q⟩:=hs
  exact False.elim q
 | cont=>
  obtain⟨_,_,_,q⟩:=hs
  exact False.elim q
section
variable{P:Program}{w:World}{K:PySem.W.Frag}{mg:Str->Option Value}{base:Heap}
theorem Fun.okQ{st:Stmt}{f:Addr}(F:Fun K x qual st f fd)(S:FnScope N ps (Gf st))(len:∀ vs H Q E,sp vs H Q E->vs.length=ps.length)(hbody:∀ (cdv:Value) (A:Around) (outer:List PySem.Env) (s:Shared) (H:Hp) (vs:List V) (Q:VK) (E:XK),RoomQ k (A.deeper (envOfC qual (Gf st) s.heap.objs.size f cdv))->sp vs H Q E→
   ∃ t,PSs (cxQ P w K mg base N qual (Gf st) f cdv A outer s H) (Hi st) t/\t { nx:=fun _ H'=>Q .non H',rt:=Q } (start N vs) H):FnQ P w K mg base (k+1) f fd ps sp:=by
 obtain⟨oc,od,kV,doc,pm,an,cdv,ct,osl,rfl,lk,hcd⟩:=F.ex
 exact Gv6 lk hcd S len fun A outer s H vs Q E hr hsp=>hbody cdv A outer s H vs Q E hr hsp
structure IniXQ(P:Program)(w:World)(K:PySem.W.Frag)(mg:Str->Option Value)(base:Heap)(f:Addr)(j:Nat):Prop where
 ex:∃ fd ps oI,K.lookup f=some oI/\oI.cls=.type "function"/\FnQ P w K mg base j f fd ps (spI K)/\ps.length=2/\Binds K fd ps []
structure IniJQ(P:Program)(w:World)(K:PySem.W.Frag)(mg:Str->Option Value)(base:Heap)(f:Addr)(j:Nat):Prop where
 ex:∃ fd ps oI,K.lookup f=some oI/\oI.cls=.type "function"/\FnQ P w K mg base j f fd ps (spJ K)/\ps.length=2/\Binds K fd ps []
theorem iniq_mk{st:Stmt}{f:Addr}{an:Option Addr}{kV:Value}(l:K.lookup f=some ⟨.type "function",od,.func (PySem.W.fnOf "__init__" "SummitError.__init__" (Jg st) (Hi st) (Gf st) .none kV doc pm an cdv ct),osl⟩)(c:PySem.W.codeIn K cdv "SummitError.__init__"=true)(k:PySem.W.keepIn K (.ref f)=true)(Sc:FnScope ["self","text"] ["self","text"] (Gf st))(hb:∀ (f:Addr) (cdv:Value) (A:Around) (outer:List PySem.Env) (s:Shared) (H:Hp),PSs (cxQ P w K mg base ["self","text"] "SummitError.__init__" (Gf st) f cdv A outer s H) (Hi st) (Gi8 K))(bi:∀ (kV doc pm:Value) (an:Option Addr) (cdv ct:Value) (us:List Value),us.length=2->bindArgs (PySem.W.fnOf "__init__" "SummitError.__init__" (Jg st) (Hi st) (Gf st) .none kV doc pm an cdv ct) ⟨us,[]⟩=pure ((["self","text"]:List Str).zip us)):IniXQ P w K mg base f 1:=by
 have F:=Gbx (st:=st) l c k
 refine⟨_,["self","text"],_,l,rfl,?_,rfl,F.binds bi⟩
 refine Fun.okQ F Sc (fun vs H Q E ⟨e,v,C,dx,ev,_⟩=>by rw[ev]; rfl) fun cdv A outer s H vs Q E hr ⟨e,v,C,dx,ev,hH,kx,q⟩=>?_
 refine⟨_,hb _ cdv A outer s H,?_⟩
 subst ev
 exact⟨.ref e,rfl,v,rfl,e,v,C,dx,rfl,hH,kx,q⟩
theorem injq_mk{st:Stmt}{q:Str}{f:Addr}{an:Option Addr}{kV:Value}(k:Nat)(l:K.lookup f=some ⟨.type "function",od,.func (PySem.W.fnOf "__init__" q (Jg st) (Hi st) (Gf st) .none kV doc pm an cdv ct),osl⟩)(c:PySem.W.codeIn K cdv q=true)(kp:PySem.W.keepIn K (.ref f)=true)(Sc:FnScope ["self","at"] ["self","at"] (Gf st))(hb:∀ (f:Addr) (cdv:Value) (A:Around) (outer:List PySem.Env) (s:Shared) (H:Hp),RoomQ k (A.deeper (envOfC q (Gf st) s.heap.objs.size f cdv))->PSs (cxQ P w K mg base ["self","at"] q (Gf st) f cdv A outer s H) (Hi st) (Gmq K x))(bi:∀ (kV doc pm:Value) (an:Option Addr) (cdv ct:Value) (us:List Value),us.length=2->bindArgs (PySem.W.fnOf "__init__" q (Jg st) (Hi st) (Gf st) .none kV doc pm an cdv ct) ⟨us,[]⟩=pure ((["self","at"]:List Str).zip us)):IniJQ P w K mg base f (k+1):=by
 have F:=Gbx (st:=st) l c kp
 refine⟨_,["self","at"],_,l,rfl,?_,rfl,F.binds bi⟩
 refine Fun.okQ F Sc (fun vs H Q E ⟨e,n,C,ev,_⟩=>by rw[ev]; rfl) fun cdv A outer s H vs Q E hr ⟨e,n,C,ev,hH,⟨kx,ka⟩,q⟩=>?_
 refine⟨_,hb _ cdv A outer s H hr,?_⟩
 subst ev
 exact⟨.ref e,rfl,e,.str x,C,none,rfl,hH,kx,.int n,rfl,.ref e,rfl,e,C,n,rfl,rfl,hH,ka,fun d hd hne=>q d hd hne⟩
end
section
variable{X:Cx}{pins:List (Addr×Obj)}{σ:L2.St}{H:Hp}{s:Shared}{C f:Addr}{fd:FuncData}{ps:List Str}{k:Nat}
theorem Gqj{Q:VK}{vs:List V}(F:FnQ X.prog X.w X.K X.mg X.base k f fd ps sp)(hr:RoomQ k X.A)(hb:Binds X.K fd ps [])(I:Inv X pins σ H s)(r:Vals vs us)(h:sp vs H Q E0):wpAny (model X.prog X.w) X.A (call (.ref f) us) (EP X pins σ Q) X.xe s:=by
 have hl:us.length=ps.length:=by rw[<- r.length]; exact F.len _ _ _ _ h
 refine wpAny_call (codeAny_mono (F.run X.A X.stack s H ⟨us,[]⟩ us vs Q E0 hr I.env0 (by have:=hb s us I.kIn (by simpa using hl); simpa using this) r h) fun r s' hq=>?_)
 cases r with
 | error e=>exact False.elim hq
 | ok fl=>
  cases fl with
  | ret u=>exact I.after hq
  | next=>exact False.elim hq
  | brk=>exact False.elim hq
  | cont=>exact False.elim hq
theorem Gkm{k:Nat}{t:TA}(hg:Gl X x)(hdb:(x==("__debug__":Str))=false)(bi:BaseI X.K X.mg x f)(F:FnQ X.prog X.w X.K X.mg X.base j f fd ps (spI X.K))(hl:ps.length=2)(hr:RoomQ k X.A)(hj:j<=k)(hb:Binds X.K fd ps [])(ha:PA X [a,b] t)(ht:eval (.Call (.Attribute (.Name x p) "__init__" apos) [a,b] [] pos) X.env=(do
   let ov <- eval (.Name x p) X.env
   standAt apos.atName
   let (f,first) <- holding [ov] (getMethod ov "__init__" pl)
   callWith pos f first (backTo pos (starEach [a,b] X.env)) (backToKw pos (keywordEach [] X.env))))(hs:starEach [a,b] X.env=(false,eval a X.env)::starEach [b] X.env:=by rfl)(hpl:(backTo pos (starEach [b] X.env)).any (·.1)=false:=by rfl):
  PE X (.Call (.Attribute (.Name x p) "__init__" apos) [a,b] [] pos) (tVI X.K t):=by
 intro pins s σ H Q I h
 obtain⟨cs,mc,hm,rd,fc,sg,kp⟩:=bi.ex
 refine PySem.W.methodCall_KW (pl:=pl) (Yh I hg hm ?_ hdb) ht
 refine PySem.W.method_cls I.kIn sg (PySem.W.cls_value I.kIn rd fc rfl ?_)
 have I0:Inv X pins σ H { s with toks:=s.toks+1 }:=I.tok _
 refine PySem.W.callWith_K (h₀:=X.base) I0.ok.mod.kin kp (thn (ha pos pins _ σ H _ I0 h) fun us s1 ⟨vs,H1,I1,r,e,v,C,dx,ev,hH,kx,q⟩=>⟨I1.kIn,?_⟩) hs hpl
 exact Gqj (F.mono hj) hr hb I1 r ⟨e,v,C,dx,ev,hH,kx,q⟩
theorem Gqk{n:Int}(kx:KX X.K C)(ka:KA X.K C)(hi:PySem.W.findIn X.K (.ref C) "__init__"=some (some (.ref f)))(lf:X.K.lookup f=some oI)(hfc:oI.cls=.type "function")(F:FnQ X.prog X.w X.K X.mg X.base k f fd ps (spJ X.K))(hl:ps.length=2)(hr:RoomQ (k+1) X.A)(hb:Binds X.K fd ps [])(I:Inv X pins σ H s)(rv:Hq (.int n) u):
  wpAny (model X.prog X.w) X.A (call (.ref C) [u]) (fun r s'=>∃ e d,r=.ref e/\(H e=none/\H d=none/\d≠e/\X.s₀.heap.get? e=none)/\Inv X pins σ (upd (upd (upd H e (FX e C none)) e (FX e C (some d))) d (XA d n)) s') X.xe s:=by
 obtain⟨nm,qn,N,bs,bm,hdct,sn,sub,ab,col,dd,k0,k1,k2,k3,k5,lk,xb⟩:=kx.ex
 obtain⟨hp,g,d,tk,os⟩:=s
 refine Gmb xb I.kIn (I.kIn _ _ lk) hi (I.kIn _ _ lf) hfc fun h' e le hm=>?_
 have hn:H e=none:=I.hok.fresh le
 have h0:X.s₀.heap.get? e=none:=Heap.get?_none_of_le (Nat.le_trans I.sz le)
 obtain⟨t,ht,_,_⟩:=hm.there
 have I1:Inv X pins σ (upd H e (FX e C none)) ⟨h',g,d,tk,os⟩:=I.laid (t':=tk) hm.keeps le (Gi2 ⟨t,ht⟩)
 refine wpAny_call (codeAny_mono (F.run (X.A.under (.builtin "type.__call__" ⟨[.ref C,u],[]⟩)) X.stack ⟨h',g,d,tk,os⟩ (upd H e (FX e C none)) ⟨[.ref e,u],[]⟩ [.ref e,u] [.ref e,.int n] (fun v' H'=>v'=.non/\∃ d,upd H e (FX e C none) d=none/\d≠e/\H'=upd (upd (upd H e (FX e C none)) e (FX e C (some d))) d (XA d n)) E0
  (hr.make C [u] []) (I1.env0.make C [u] []) (by have:=hb ⟨h',g,d,tk,os⟩ [.ref e,u] I1.kIn (by simpa using hl.symm); simpa using this) (.cons rfl (.cons rv .nil)) ⟨e,n,C,rfl,upd_same,⟨kx,ka⟩,fun d hd hne=>⟨rfl,d,hd,hne,rfl⟩⟩) fun r s' hq=>?_)
 cases r with
 | error x=>exact hq.elim
 | ok fl=>
  cases fl with
  | ret u'=>
   obtain⟨v',H',I',r',e1,d,hd,hne,e2⟩:=I1.after hq
   subst e1 e2
   exact⟨r',e,d,rfl,⟨hn,by rw[Hb hne] at hd; exact hd,hne,h0⟩,I'⟩
  | next=>exact hq.elim
  | brk=>exact hq.elim
  | cont=>exact hq.elim
structure ClJQ(P:Program)(w:World)(K:PySem.W.Frag)(mg:Str->Option Value)(base:Heap)(x:Str)(j:Nat):Prop where
 ex:∃ C f fd ps oI,mg x=some (.ref C)/\CN K x C/\(KX K C/\KA K C)/\PySem.W.findIn K (.ref C) "__init__"=some (some (.ref f))/\K.lookup f=some oI/\oI.cls=.type "function"/\FnQ P w K mg base j f fd ps (spJ K)/\ps.length=2/\Binds K fd ps []
end
theorem Gql{f:Addr}(X:K.In h)(G:h.Ns mainGlobals mg)(i:IniJQ P w K mg base f j)(a:PySem.W.nsIn K mainGlobals x=some (some (.ref C)))(t:Gv4 K C f=true):ClJQ P w K mg base x j:=by
 obtain⟨fd,ps,oI,l,c,F,n,b⟩:=i.ex
 unfold Gv4 at t
 simp only[Bool.and_eq_true,beq_iff_eq] at t
 exact⟨C,f,fd,ps,oI,PySem.W.mg_of X G a,a,⟨Gse t.1,⟨t.2.2.1,t.2.2.2.1,t.2.2.2.2.1,t.2.2.2.2.2⟩⟩,t.2.1,l,c,F,n,b⟩
def GX(e C:Addr)(dx:Option Addr):HO:=.ext fun h=>Us h e C dx
theorem Gy3{e:Addr}(f:Us h e C dx):Jz P w H h e (GX e C dx):=
 ⟨f,(let ⟨_,_,_,_,q,_⟩:=f; ⟨_,q⟩),fun _ _ ⟨t,c,k,u,q,z⟩ kk=>⟨t,c,k,u,kk _ q,z⟩⟩
def Gkn(a:Addr):Heap->Prop:=fun h=>∃ oe vs,h.get? a=some oe/\oe.data=.fields vs/\vs[2]?=some Value.none
abbrev hx(X:Cx)(a:Addr):Cx:={ X with A:=X.A.mark (some (.ref a)),calm:=false }
section
variable{X:Cx}{XQ:XW}{pins:List (Addr×Obj)}{σ:L2.St}{H:Hp}{s:Shared}{C f a:Addr}{fd:FuncData}{ps:List Str}{k:Nat}
theorem _root_.L2.Inv.hx(I:Inv X pins σ H s)(a:Addr):Inv (DL.hx X a) pins σ H s:=
 ⟨⟨I.ok.mod,I.ok.kind,I.ok.glob,I.ok.blt,I.ok.above,I.ok.inj,I.ok.has,I.ok.cab,(fun z=>nomatch z),I.ok.frames,I.ok.stk,I.ok.exf,I.ok.bs,I.ok.bsz,I.ok.noex,I.ok.exfs,I.ok.funs,I.ok.frf⟩,I.os,I.bare,I.base,I.loc,I.cell,I.free,I.freeC,I.pin,I.hok,I.len⟩
theorem _root_.L2.Inv.unhx{a:Addr}(ok:X.Ok)(I:Inv (DL.hx X a) pins σ H s):Inv X pins σ H s:=⟨ok,I.os,I.bare,I.base,I.loc,I.cell,I.free,I.freeC,I.pin,I.hok,I.len⟩
def tRn(C a:Addr)(W:L2.St->Hp->Addr->Option Addr->Prop)(t:TA):TS:=fun _ σ H=>t σ H fun vs H1=>∃ n,vs=[.int n]/\H1 a=some (.ext (Gkn a))/\∀ e d,H1 e=none->H1 d=none->d≠e->W σ (upd (upd (upd H1 e (FX e C none)) e (FX e C (some d))) d (XA d n)) e (some d)
theorem Gko{W:L2.St->Hp->Addr->Option Addr->Prop}{t:TA}(hW:∀ (pins:List (Addr×Obj)) (σ:L2.St) (H:Hp) (e d:Addr) (s':Shared),Inv X pins σ (upd H e (GX e C (some d))) s'->Us s'.heap e C (some d)->X.s₀.heap.get? e=none->W σ H e (some d)->X.xe (.ref e) s')(hh:X.A.handled=some (.ref a))(hg:Gl X x)(hm:X.mg x=some (.ref C))(kx:KX X.K C)(ka:KA X.K C)(hi:PySem.W.findIn X.K (.ref C) "__init__"=some (some (.ref f)))(lf:X.K.lookup f=some oI)(hfc:oI.cls=.type "function")(F:FnQ X.prog X.w X.K X.mg X.base k f fd ps (spJ X.K))(hl:ps.length=2)(hr:RoomQ (k+1) X.A)(hb:Binds X.K fd ps [])(ha:PA X [ar] t)(hdb:(x==("__debug__":Str))=false:=by decide)(he:starEach [ar] X.env=(false,eval ar X.env)::starEach [] X.env:=by rfl)(hpl:(backTo cpos (starEach [] X.env)).any (·.1)=false:=by rfl):
  PS X (.Raise (some (.Call (.Name x np) [ar] [] cpos)) (some (.Constant .none cj npos)) pos) (tRn C a W t):=by
 intro pins s σ H D I h
 obtain⟨nm,qn,N,bs,bm,hdct,sn,sub,ab,col,dd,k0,k1,k2,k3,k5,lk,xb⟩:=id kx.ex
 refine Gms (C:=C) (nm:=nm) (q:=qn) (N:=N) (bs:=bs) (bm:=bm) (hdct:=hdct) (sn:=sn) (sub:=sub) (ab:=ab) (col:=col) (dd:=dd) (k0:=k0) (k1:=k1) (k2:=k2) (k3:=k3) (k5:=k5) (newId:="ValueError.__new__") xb hh (Yh I hg hm ⟨rfl,?_⟩ hdb) he hpl
 refine thn (ha cpos pins s σ H _ I h) fun us s1 ⟨vs,H1,I1,r1,n,ev,hA,q⟩=>⟨I1.kIn _ _ lk,?_⟩
 subst ev
 obtain⟨u,rfl,rv⟩:=Gce r1
 refine thn (Gqk kx ka hi lf hfc F hl hr hb I1 rv) fun r s2 ⟨e,d,er,⟨hn,hd,hne,h0⟩,I2⟩=>?_
 subst er
 have hH:upd (upd (upd H1 e (FX e C none)) e (FX e C (some d))) d (XA d n) e=some (FX e C (some d)):=by rw[Hb (Ne.symm hne),upd_same]
 obtain⟨fr,_,_⟩:=(show Jz X.prog X.w _ s2.heap e (FX e C (some d)) from I2.hok e _ hH)
 have nea:e≠a:=fun z=>by rw[z,hA] at hn; cases hn
 have nda:d≠a:=fun z=>by rw[z,hA] at hd; cases hd
 have hHa:upd (upd (upd H1 e (FX e C none)) e (FX e C (some d))) d (XA d n) a=some (.ext (Gkn a)):=by rw[Hb (Ne.symm nda),Hb (Ne.symm nea),Hb (Ne.symm nea)]; exact hA
 obtain⟨va,_,_⟩:=(show Jz X.prog X.w _ s2.heap a (.ext (Gkn a)) from I2.hok a _ hHa)
 have neC:e≠C:=fun z=>by
  obtain⟨t,q1⟩:=id fr
  have q2:=I2.kIn _ _ lk
  rw[<- z,q1] at q2
  have:=congrArg (fun o=>o.map Obj.data) q2
  simp[excClassObj] at this
 refine⟨e,d,rfl,I2.kIn _ _ lk,fr,nea,neC,va,fun h' fg kp=>?_⟩
 have I3:=I2.write (h':=h') (x:=e) (e:=e) (o:=GX e C (some d)) (t':=s2.toks) (by rw[hH]; exact trivial) (.inl rfl) (fun b u hb hu=>(kp b hb).trans hu) (let ⟨_,_,_,_,q,_⟩:=fg; ⟨_,q⟩) (Gy3 fg)
 exact hW pins σ _ e d { s2 with heap:=h' } I3 fg h0 (q e d hn hd hne)
def Gqm(y:Str)(t:Ev (List D))(x:XD):Sv:=fun ρ S=>if x.fld=none then srj y t ρ S else .bad
theorem Gqn{c:Str}{jj:Nat}{jp rpos:Pos}{ys:List Str}{fb:Sv}(pl:Plain X)(L:XL X XQ)(ct:Cat X.K X.mg c ys)(hg:Gl X c)(hp:Hf c=true)(J:ClJQ X.prog X.w X.K X.mg X.base y jj)(hr:Room k X.A)(hgy:Gl X y)(hpy:Hf y=true)(hb:∀ (pn:List (Addr×Obj)) (xe:Value->Shared->Prop) (XQ':XW),XL (trb X pn xe) XQ'->JSs (trb X pn xe) XQ' body fb)(ha:∀ a,JA (hx X a) XQ [ar] t)(hj:jj+1<=k:=by decide)(he:starEach [ar] X.env=(false,eval ar X.env)::starEach [] X.env:=by rfl)(hpl:(backTo cpos (starEach [] X.env)).any (·.1)=false:=by rfl):
  JS X XQ (.Try body [.ExceptHandler (some (.Name c np)) none [.Raise (some (.Call (.Name y jp) [ar] [] cpos)) (some (.Constant .none cj npos)) rpos] hpos] [] [] pos) (Zf ys (Gqm y t) fb):=by
 refine Gi6 pl (fun pins σ H s a C dx x mp ρ S D hy hc xf l G p=>?_) hb
 refine wpAny_handleBy_cons ?_ (by intro q; cases q)
 obtain⟨xc,hit⟩:=Gmi (np:=np) (hpos:=hpos) (R:=fun r s₁=>match r with
   | .ok .brk=>codeAny (model X.prog X.w) (X.A.mark (some (.ref a))) (.handlers (.ref a) [.ExceptHandler none none [.Raise (some (.Call (.Name y jp) [ar] [] cpos)) (some (.Constant .none cj npos)) rpos] hpos] X.env) (fun r s₂=>match r with
     | .ok f=>SP X pins D f s₂
     | .error x=>cameBackBy (model X.prog X.w) X.A X.env X.xe x s₂) s₁
   | .ok _=>wpAny (model X.prog X.w) X.A (handleBy (.ref a) X.env []) (SP X pins D) X.xe s₁
   | .error x=>cameBackBy (model X.prog X.w) X.A X.env X.xe x s₁) ct hg hp hy hc l (by
  refine codeAny_handlers_suite (l.flight fun s1 l1=>?_)
  unfold Gqm at p
  have fl0:x.fld=none:=by
   by_cases z:x.fld=none
   ·exact z
   ·rw[if_neg z] at p
    exact p.elim
  rw[if_pos fl0] at p
  obtain⟨T,I1,⟨oe,vs,oT,ts,a0,e1,e2,e3,e4,e5,e6,e7,e8⟩,⟨na,nT⟩,⟨oa,ot⟩,pn⟩:=l1.ex
  have ok:=I1.ok
  have rn:=Gh8 I1 e1 e3
  have I2:Inv X pins σ (upd H a (.ext (Gkn a))) s1:=Gdl I1 na oa rn.1 rn.2 (fun p hp=>(pn p hp).1) ⟨oe,vs,e1,e3,e2.2.2.2 (xf.2 fl0)⟩ ⟨oe,e1⟩ fun h1 h2 ⟨o,v,q1,q2⟩ k=>⟨o,v,k _ q1,q2⟩
  have af:Aft X.K mp H mp (upd H a (.ext (Gkn a))):=Vt na
  have G1:Gd X.K mp (upd H a (.ext (Gkn a))) σ ρ S:=G.aft af (G.rs.new na)
  have p1:=PostS.aft p af
  obtain⟨C',f,fd,ps,oI,hm,hc',⟨kx,ka⟩,hi,lf,hfc,F,hl,hb'⟩:=J.ex
  refine wpAny_passesOwnAt (L.pat _) ?_
  refine wpAny_execs_cons (thn (Gko (X:=hx X a) (a:=a) (W:=fun σ H e dx=>WX X.K XQ σ C' dx (del H e)) (fun pins σ H e d s' I fg h0 w=>L.own pins σ _ s' e C' (some d) _ (I.unhx ok) upd_same fg h0 ?_) rfl hgy hm kx ka hi lf hfc F hl ?_ hb' (ha a) (Hf.of hpy).1 he hpl pins s1 σ _ { nx:=fun _ _=>False,rt:=fun _ _=>False,bk:=fun _ _=>False,ct:=fun _ _=>False } (I2.hx a) ?_) fun f s2 q=>?_)
  ·have e1:del (upd H e (GX e C' (some d))) e=del H e:=by
    funext b
    by_cases c:b=e
    ·rw[c,Kn,Kn]
    ·rw[Ql c,Ql c,Hb c]
   rw[e1]
   exact w
  ·exact(Gv5 hr _).mono hj
  ·unfold srj at p1
   refine bindSP G1 p1 fun mp1 H1 ds S1 vs a1 G2 r1 p2=>?_
   split at p2
   ·rename_i n
    obtain⟨v,rfl,hv⟩:=RepL.one r1
    cases (show v=.int n from hv)
    refine⟨n,rfl,a1.ext a _ upd_same,fun e d he hd hne=>⟨⟨y,some n⟩,mp1,ρ,S1,⟨fun i z=>⟨d,rfl,?_⟩,fun z=>nomatch z⟩,hc',?_⟩⟩
    ·cases z
     rw[Ql hne,upd_same]
    ·have e1:del (upd (upd (upd H1 e (FX e C' none)) e (FX e C' (some d))) d (XA d n)) e=upd H1 d (XA d n):=by
      funext b
      by_cases c:b=e
      ·rw[c,Kn,Hb (Ne.symm hne),he]
      ·rw[Ql c]
       by_cases c2:b=d
       ·rw[c2,upd_same,upd_same]
       ·rw[Hb c2,Hb c2,Hb c,Hb c]
     rw[e1]
     exact p2 mp1 _ σ (Vt hd) (G2.aft (Vt hd) (G2.rs.new hd))
   ·exact p2.elim
  ·cases f with
   | next=>
    obtain⟨_,_,_,q⟩:=q
    exact q.elim
   | brk=>
    obtain⟨_,_,_,q⟩:=q
    exact q.elim
   | cont=>
    obtain⟨_,_,_,q⟩:=q
    exact q.elim
   | ret u=>
    obtain⟨_,_,_,_,_,q⟩:=q
    exact q.elim)
 exact hit
end
structure GE(X:Cx)(XQ:XW)(e:Expr)(f:Ev D):Prop where
 h:JE X XQ e f
structure GA(X:Cx)(XQ:XW)(es:List Expr)(f:Ev (List D)):Prop where
 h:JA X XQ es f
structure GT(X:Cx)(XQ:XW)(e:Expr)(f:Ev Bool):Prop where
 h:JT X XQ e f
structure GW(X:Cx)(XQ:XW)(e:Expr)(f:Ev Bool):Prop where
 h:JW X XQ e f
structure GO(X:Cx)(XQ:XW)(e:Option Expr)(f:Ev (Option Int)):Prop where
 h:JO X XQ e f
structure GS(X:Cx)(XQ:XW)(st:Stmt)(f:Sv):Prop where
 h:JS X XQ st f
structure GSs(X:Cx)(XQ:XW)(st:List Stmt)(f:Sv):Prop where
 h:JSs X XQ st f
structure GI(X:Cx)(XQ:XW)(tg it:Expr)(f:Ev Src):Prop where
 h:JI X XQ tg it f
structure GG(X:Cx)(tg:Expr)(g:Tg):Prop where
 h:JG X tg g
structure GGs(X:Cx)(ts:List Expr)(g:Tgs):Prop where
 h:JGs X ts g
structure GTs(Y:Cx)(XQ:XW)(ifs:List Expr)(t:Ev Bool):Prop where
 h:JTs Y XQ ifs t
theorem Gy4{e:Expr}{ms:List Str}(ac:AtC X.K ms)(he:GE X XQ e f)(hb:attributeBase e "at" X.env (eval e X.env)=eval e X.env:=by rfl):GE X XQ (.Attribute e "at" pos) (o1 (atD ms) f):=⟨Gy1 ac he.h hb⟩
theorem Gv7(t:FvT X.K X.mg x)(hg:Gl X x)(hp:Hf x=true):GE X XQ (.Name x pos) (cn (.fv x)):=⟨Gv2 t hg hp⟩
theorem Gmt{e:Expr}(i:Nat){ys:List Str}(xs:XNs X.K ys)(L:XL X XQ)(C:CalX X.prog X.w X.K X.mg X.base x ps fn j)(hr:Room k X.A)(hj:j<=k)(hN:X.N[i]?=some y)(hv:Vis X.env.scope y)(hy:Hf y=true)(ha:GA X XQ (e::es) t)(he:starEach (e::es) X.env=(false,eval e X.env)::starEach es X.env:=by rfl)(hpl:(backTo pos (starEach es X.env)).any (·.1)=false:=by rfl):GE X XQ (.Call (.Name y p) (e::es) [] pos) (clv i x ps.length (gX ys fn) t):=⟨Gmn i xs L C hr hj hN hv hy ha.h he hpl⟩
theorem Gv8{ys:List Str}{e:Expr}(k:Isx X.K X.mg x ys sub)(hg:Gl X "isinstance")(hm:X.mg "isinstance"=none)(hgt:Gl X x)(hp:Hf x=true)(he:GE X XQ e f)(hs:starEach [e,.Name x p2] X.env=(false,eval e X.env)::starEach [.Name x p2] X.env)(hpl:(backTo pos (starEach [.Name x p2] X.env)).any (·.1)=false)(hs2:starEach [.Name x p2] X.env=(false,eval (.Name x p2) X.env)::starEach [] X.env):GE X XQ (.Call (.Name "isinstance" p) [e,.Name x p2] [] pos) (o1 (Km ys sub) f):=⟨Gvv k hg hm hgt hp he.h hs hpl hs2⟩
theorem Gqo{ys:List Str}{e:Expr}(k:IsxB X.K T ys sub)(hv:bootBuiltins x=some (.type T))(hnx:x≠"__name__")(hg:Gl X "isinstance")(hm:X.mg "isinstance"=none)(hgt:Gl X x)(hmt:X.mg x=none)(hp:Hf x=true)(he:GE X XQ e f)(hs:starEach [e,.Name x p2] X.env=(false,eval e X.env)::starEach [.Name x p2] X.env)(hpl:(backTo pos (starEach [.Name x p2] X.env)).any (·.1)=false)(hs2:starEach [.Name x p2] X.env=(false,eval (.Name x p2) X.env)::starEach [] X.env):GE X XQ (.Call (.Name "isinstance" p) [e,.Name x p2] [] pos) (o1 (Km ys sub) f):=⟨Gqf k hv hnx hg hm hgt hmt hp he.h hs hpl hs2⟩
theorem Gmu{e:Expr}{f:Ev (List D)}(ho:GE X XQ o fo)(ha:GA X XQ [e] f)(hbase:attributeBase o "count" X.env (eval o X.env)=eval o X.env:=by rfl)(hfew:((backTo cpos (starEach [e] X.env)).all (fun x=>!x.1)&&(backToKw cpos (keywordEach [] X.env)).all (fun x=>x.1.isSome)
   && decide ([e].length+([]:List Keyword).length+(if([]:List Keyword).isEmpty then 0 else 1)<30))=true:=by rfl)(hline:(apos.endLine==cpos.line)=true:=by rfl)(hs:starEach [e] X.env=(false,eval e X.env)::starEach [] X.env:=by rfl):GE X XQ (.Call (.Attribute o "count" apos) [e] [] cpos) (mt Gh9 fo f):=⟨Gmk ho.h ha.h hbase hfew hline hs⟩
theorem Gmv{e:Expr}{f:Ev (List D)}(ho:GE X XQ o fo)(ha:GA X XQ [e] f)(hbase:attributeBase o "index" X.env (eval o X.env)=eval o X.env:=by rfl)(hfew:((backTo cpos (starEach [e] X.env)).all (fun x=>!x.1)&&(backToKw cpos (keywordEach [] X.env)).all (fun x=>x.1.isSome)
   && decide ([e].length+([]:List Keyword).length+(if([]:List Keyword).isEmpty then 0 else 1)<30))=true:=by rfl)(hline:(apos.endLine==cpos.line)=true:=by rfl)(hs:starEach [e] X.env=(false,eval e X.env)::starEach [] X.env:=by rfl):GE X XQ (.Call (.Attribute o "index" apos) [e] [] cpos) (mt Gia fo f):=⟨Gml ho.h ha.h hbase hfew hline hs⟩
theorem Ghd{x1}{tp:Pos}{f:Ev (List D)}(hg:Gl X "enumerate")(hm:X.mg "enumerate"=none)(ha:GA X XQ [a] f)(hs:starEach [a] X.env=[(false,eval a X.env)]:=by rfl):GI X XQ (.Tuple es x1 tp) (.Call (.Name "enumerate" p) [a] [] pos) (Wf f):=⟨Gma hg hm ha.h hs⟩
theorem Gf1{j pos}:GE X XQ (.Constant .none j pos) (cn .non):=⟨Gt3 ⟩
theorem Gci{b:Bool}{j pos}:GE X XQ (.Constant (.bool b) j pos) (cn (.bl b)):=⟨Gx4 ⟩
theorem ge_int{i:Int}{j pos}:GE X XQ (.Constant (.int i) j pos) (cn (.int i)):=⟨Gt2 ⟩
theorem ge_str{j pos}:GE X XQ (.Constant (.str x) j pos) (cn (.str x)):=⟨Gt4 ⟩
theorem Gu(ha:GE X XQ a fa)(hb:GE X XQ b fb):GE X XQ (.BinOp a .Add b pos) (o2 Gw fa fb):=⟨Gux ha.h hb.h⟩
theorem Xe(ha:GE X XQ a fa)(hb:GE X XQ b fb):GE X XQ (.BinOp a .Sub b pos) (o2 Xc fa fb):=⟨Gut ha.h hb.h⟩
theorem Wg(ha:GE X XQ a fa)(hb:GE X XQ b fb):GE X XQ (.BinOp a .Mult b pos) (o2 Kj fa fb):=⟨Guz ha.h hb.h⟩
theorem Zr(ha:GE X XQ a fa)(hb:GE X XQ b fb):GE X XQ (.BinOp a .Mod b pos) (o2 Yj fa fb):=⟨Guu ha.h hb.h⟩
theorem Gcy(ha:GE X XQ a fa)(hb:GE X XQ b fb):GE X XQ (.BinOp a .FloorDiv b pos) (o2 We fa fb):=⟨Gp5 ha.h hb.h⟩
theorem Gv9(ha:GE X XQ a fa)(hb:GE X XQ b fb):GE X XQ (.BinOp a .Pow b pos) (o2 Gfw fa fb):=⟨Guv ha.h hb.h⟩
theorem Gmw(ha:GE X XQ a fa)(hb:GE X XQ b fb):GE X XQ (.Compare a [.Lt] [b] pos) (o2 ltD fa fb):=⟨Gyf ha.h hb.h⟩
theorem Gy5(ha:GE X XQ a fa)(hb:GE X XQ b fb):GE X XQ (.Compare a [.LtE] [b] pos) (o2 leD fa fb):=⟨Gyg ha.h hb.h⟩
theorem Gy6(ha:GE X XQ a fa)(hb:GE X XQ b fb):GE X XQ (.Compare a [.GtE] [b] pos) (o2 geD fa fb):=⟨Gyh ha.h hb.h⟩
theorem Wu(hu:X.A.units+64<cLine)(ha:GE X XQ a fa)(hb:GE X XQ b fb):GE X XQ (.Compare a [.Eq] [b] pos) (o2 eqD fa fb):=⟨Gyb hu ha.h hb.h⟩
theorem Gsf(hu:X.A.units+64<cLine)(ha:GE X XQ a fa)(hb:GE X XQ b fb):GE X XQ (.Compare a [.NotEq] [b] pos) (o2 neD fa fb):=⟨Gyd hu ha.h hb.h⟩
theorem Gqp(ha:GE X XQ a fa)(hb:GE X XQ b fb):GE X XQ (.Compare a [.IsNot] [b] pos) (o2 Gfa fa fb):=⟨Gpv ha.h hb.h⟩
theorem Zs{rest:List Expr}{g:Ev D}(ha:GE X XQ a f)(hb:GE X XQ (.BoolOp .And (b::rest) pos) g):GE X XQ (.BoolOp .And (a::b::rest) pos) (va f g):=⟨Gud ha.h hb.h⟩
theorem Ga4{op}(h:GE X XQ a f):GE X XQ (.BoolOp op [a] pos) f:=⟨Guc h.h⟩
theorem Gwa(ha:GE X XQ a f):GE X XQ (.UnaryOp .Not a pos) (vn f):=⟨Gue ha.h⟩
theorem Yk(ha:GE X XQ a fa):GE X XQ (.UnaryOp .USub a pos) (o1 Ga2 fa):=⟨Gvc ha.h⟩
theorem Xf{c:Expr}{fc:Ev Bool}(hc:GT X XQ c fc)(ha:GE X XQ a fa)(hb:GE X XQ b fb):GE X XQ (.IfExp c a b pos) (ie fc fa fb):=⟨Guf hc.h ha.h hb.h⟩
theorem Gg(ha:GE X XQ a fa)(hb:GE X XQ b fb)(hs:Gcx b:=by intro _ _; rfl):GE X XQ (.Subscript a b pos) (o2 getD fa fb):=⟨Gu1 ha.h hb.h hs⟩
theorem Jc{e:Expr}{lo hi:Option Expr}{fe:Ev D}{fl fh:Ev (Option Int)}(he:GE X XQ e fe)(hl:GO X XQ lo fl)(hh:GO X XQ hi fh):GE X XQ (.Subscript e (.Slice lo hi none p2) pos) (sl2 fe fl fh):=⟨Gkj he.h hl.h hh.h⟩
theorem Hl{f:Ev (List D)}(h:GA X XQ es f):GE X XQ (.List es pos) (ls f):=⟨Gt7 h.h⟩
theorem Gr{f:Ev (List D)}{x1}(h:GA X XQ es f):GE X XQ (.Tuple es x1 pos) (tp f):=⟨Gt6 h.h⟩
theorem Gwb{e:Expr}(k:Kit X.K T)(hv:bootBuiltins x=some (.type T))(hnx:x≠"__name__")(hdx:(x==("__debug__":Str))=false)(hg:Gl X "isinstance")(hm:X.mg "isinstance"=none)(hgt:Gl X x)(hmt:X.mg x=none)(he:GE X XQ e f)(hs:starEach [e,.Name x p2] X.env=(false,eval e X.env)::starEach [.Name x p2] X.env)(hpl:(backTo pos (starEach [.Name x p2] X.env)).any (·.1)=false)(hs2:starEach [.Name x p2] X.env=(false,eval (.Name x p2) X.env)::starEach [] X.env):GE X XQ (.Call (.Name "isinstance" p) [e,.Name x p2] [] pos) (o1 (isD T) f):=⟨Gvg k hv hnx hdx hg hm hgt hmt he.h hs hpl hs2⟩
theorem Qx{e:Expr}{f:Ev (List D)}(hg:Gl X "len")(hm:X.mg "len"=none)(ha:GA X XQ [e] f)(he:starEach [e] X.env=(false,eval e X.env)::starEach [] X.env:=by rfl):GE X XQ (.Call (.Name "len" p) [e] [] pos) (b1 Jl f):=⟨Gu4 hg hm ha.h he⟩
theorem Gcz{e:Expr}{f:Ev (List D)}(hg:Gl X "list")(hm:X.mg "list"=none)(ha:GA X XQ [e] f)(he:starEach [e] X.env=(false,eval e X.env)::starEach [] X.env:=by rfl):GE X XQ (.Call (.Name "list" p) [e] [] pos) (b1 Qo f):=⟨Gps hg hm ha.h he⟩
theorem Qp{e:Expr}{f:Ev (List D)}(hg:Gl X "tuple")(hm:X.mg "tuple"=none)(ha:GA X XQ [e] f)(he:starEach [e] X.env=(false,eval e X.env)::starEach [] X.env:=by rfl):GE X XQ (.Call (.Name "tuple" p) [e] [] pos) (b1 Xd f):=⟨Glz hg hm ha.h he⟩
theorem Gwc{e e':Expr}{f:Ev (List D)}(hc:X.calm=true)(hg:Gl X "min")(hm:X.mg "min"=none)(ha:GA X XQ [e,e'] f)(he:starEach [e,e'] X.env=(false,eval e X.env)::starEach [e'] X.env:=by rfl)(hpl:(backTo pos (starEach [e'] X.env)).any (·.1)=false:=by rfl):GE X XQ (.Call (.Name "min" p) [e,e'] [] pos) (b1 Gkh f):=⟨Gu6 hc hg hm ha.h he hpl⟩
theorem Yl{e:Expr}{f:Ev (List D)}(hg:Gl X "int")(hm:X.mg "int"=none)(ha:GA X XQ [e] f)(he:starEach [e] X.env=(false,eval e X.env)::starEach [] X.env:=by rfl):GE X XQ (.Call (.Name "int" p) [e] [] pos) (b1 Gat f):=⟨Gpt hg hm ha.h he⟩
theorem Gao{e:Expr}{f:Ev (List D)}(hr:Room k X.A)(hg:Gl X "repr")(hm:X.mg "repr"=none)(ha:GA X XQ [e] f)(he:starEach [e] X.env=(false,eval e X.env)::starEach [] X.env:=by rfl):GE X XQ (.Call (.Name "repr" p) [e] [] pos) (b1 Qg f):=⟨Gp3 hr hg hm ha.h he⟩
theorem Ut{e:Expr}{f:Ev (List D)}(ho:GE X XQ o fo)(ha:GA X XQ [e] f)(hbase:attributeBase o "append" X.env (eval o X.env)=eval o X.env:=by rfl)(hfew:((backTo cpos (starEach [e] X.env)).all (fun x=>!x.1)&&(backToKw cpos (keywordEach [] X.env)).all (fun x=>x.1.isSome)
   && decide ([e].length+([]:List Keyword).length+(if([]:List Keyword).isEmpty then 0 else 1)<30))=true:=by rfl)(hline:(apos.endLine==cpos.line)=true:=by rfl)(hs:starEach [e] X.env=(false,eval e X.env)::starEach [] X.env:=by rfl):GE X XQ (.Call (.Attribute o "append" apos) [e] [] cpos) (mt Yb fo f):=⟨Gki ho.h ha.h hbase hfew hline hs⟩
theorem Gi9(ha:GE X XQ a fa)(hb:GE X XQ b fb):GT X XQ (.Compare a [.Lt] [b] pos) (tb (o2 ltD fa fb)):=⟨Gyi ha.h hb.h⟩
theorem Gdp(ha:GE X XQ a fa)(hb:GE X XQ b fb):GT X XQ (.Compare a [.Gt] [b] pos) (tb (o2 gtD fa fb)):=⟨Gyj ha.h hb.h⟩
theorem Gja(ha:GE X XQ a fa)(hb:GE X XQ b fb):GT X XQ (.Compare a [.GtE] [b] pos) (tb (o2 geD fa fb)):=⟨Gyk ha.h hb.h⟩
theorem Jh(hu:X.A.units+64<cLine)(ha:GE X XQ a fa)(hb:GE X XQ b fb):GT X XQ (.Compare a [.Eq] [b] pos) (tb (o2 eqD fa fb)):=⟨Gyc hu ha.h hb.h⟩
theorem Wi(hu:X.A.units+64<cLine)(ha:GE X XQ a fa)(hb:GE X XQ b fb):GT X XQ (.Compare a [.NotEq] [b] pos) (tb (o2 neD fa fb)):=⟨Gye hu ha.h hb.h⟩
theorem Gwd(ha:GE X XQ a fa)(hb:GE X XQ b fb):GT X XQ (.Compare a [.Is] [b] pos) (tb (o2 Gg3 fa fb)):=⟨Gu9 ha.h hb.h⟩
theorem Gy7(ha:GE X XQ a fa)(hb:GE X XQ b fb)(hm:behindInMarks .In b=false:=by rfl):GT X XQ (.Compare a [.In] [b] pos) (tb (o2 inD fa fb)):=⟨Gyp ha.h hb.h hm⟩
theorem Ghe{c:Expr}{op op':CmpOp}{r r':R2}{o o':D->D->Sto->Out D}{fc:Ev D}(ho:OpR X (compareOp op) r)(hd:OpD X.K r o)(ho':OpR X (compareOp op') r')(hd':OpD X.K r' o')(ha:GE X XQ a fa)(hb:GE X XQ b fb)(hc:GE X XQ c fc)(hm:lastMarks [op,op'] [b,c]=false:=by with_unfolding_all rfl):GT X XQ (.Compare a [op,op'] [b,c] pos) (tb (ch o o' fa fb fc)):=⟨Gl0 ho hd ho' hd' ha.h hb.h hc.h hm⟩
theorem Ga5{f:Ev Bool}(h:GT X XQ a f):GT X XQ (.UnaryOp .Not a pos) (tn f):=⟨Gt9 h.h⟩
theorem Qm{e:Expr}(h:GE X XQ e f)(he:∀ whole,isTrue e X.env whole=(do let v <- whole; standAt e.pos; holding [v] (truthy v)):=by intro _; rfl):GT X XQ e (tt f):=⟨Gt8 h.h he⟩
theorem Uz{f:Ev Bool}(h:GT X XQ a f):GW X XQ (.BoolOp .And [a] pos) f:=⟨Gpb h.h⟩
theorem Zt{f:Ev Bool}(h:GT X XQ a f):GW X XQ (.BoolOp .Or [a] pos) f:=⟨Gua h.h⟩
theorem Xg{rest:List Expr}{f g:Ev Bool}(h:GT X XQ a f)(hb:GW X XQ (.BoolOp .And (b::rest) pos) g):GW X XQ (.BoolOp .And (a::b::rest) pos) (ta f g):=⟨Gub h.h hb.h⟩
theorem Zu{rest:List Expr}{f g:Ev Bool}(h:GT X XQ a f)(hb:GW X XQ (.BoolOp .Or (b::rest) pos) g):GW X XQ (.BoolOp .Or (a::b::rest) pos) (to f g):=⟨Gx7 h.h hb.h⟩
theorem ga_nil :GA X XQ [] an:=⟨Gt5 ⟩
theorem Ga{e:Expr}{g:Ev (List D)}(ha:GE X XQ e f)(hr:GA X XQ es g)(hs:starEach (e::es) X.env=(false,eval e X.env)::starEach es X.env:=by rfl):GA X XQ (e::es) (ac f g):=⟨Go7 ha.h hr.h hs⟩
theorem Ud :GO X XQ none onone:=⟨Gpw ⟩
theorem Ji{e:Expr}(h:GE X XQ e f):GO X XQ (some e) (osome f):=⟨Gpx h.h⟩
theorem Gap{f:Ev (List D)}(hg:Gl X "range")(hm:X.mg "range"=none)(ha:GA X XQ [a] f)(hs:starEach [a] X.env=[(false,eval a X.env)]:=by rfl):GI X XQ tg (.Call (.Name "range" p) [a] [] pos) (ir1 f):=⟨Gkf hg hm ha.h hs⟩
theorem Gby{l:Expr}(hl:GE X XQ l f):GI X XQ tg l (isrc f):=⟨Gup hl.h⟩
theorem ggn(i:Nat)(hN:X.N.Nodup)(h:OkL X.env.scope x)(hi:X.N[i]?=some x:=by rfl)(hf:X.fn x=true:=by rfl):GG X (.Name x pos) (gn i):=⟨jgn i hN h hi hf⟩
theorem Ha4(i:Nat){s2:Shared}(hN:N'.Nodup)(h:Gp4 scope x=true)(hi:N'[i]?=some x:=by rfl):GG (blk X s2 H2 C scope c N' fp) (.Name x pos) (gn i):=⟨Haw i hN h hi⟩
theorem Jo{m:Nat}{k:Tgs}(hc:X.calm=true)(h:GGs X es k)(hn:(assignEach es X.env).length=n:=by rfl)(hst:(assignEach es X.env).findIdx? (·.1)=none:=by rfl):GG X (.Tuple es m pos) (gt k n):=⟨Guh hc h.h hn hst⟩
theorem Ja :GGs X [] gnil:=⟨Gpg ⟩
theorem Go{e:Expr}{g:Tg}{k:Tgs}(h1:GG X e g)(h2:GGs X es k)(hs:(assignEach (e::es) X.env).map (·.2)=assign e X.env::(assignEach es X.env).map (·.2):=by rfl):GGs X (e::es) (gcons g k):=⟨Glq h1.h h2.h hs⟩
theorem Gv :GSs X XQ [] skip:=⟨Gpc ⟩
theorem Ge{st:Stmt}{rest:List Stmt}{f g:Sv}(h1:GS X XQ st f)(h2:GSs X XQ rest g):GSs X XQ (st::rest) (sq f g):=⟨Glp h1.h h2.h⟩
theorem Gi{st:Stmt}{f:Sv}(h1:GS X XQ st f):GSs X XQ [st] f:=⟨Gpd h1.h⟩
theorem Gq{e:Expr}(he:GE X XQ e f):GS X XQ (.Return (some e) pos) (sret f):=⟨Gug he.h⟩
theorem Ho{c:Expr}{a b:List Stmt}{fc:Ev Bool}{f g:Sv}(hc:GT X XQ c fc)(ha:GSs X XQ a f)(hb:GSs X XQ b g):GS X XQ (.If c a b pos) (sif fc f g):=⟨Gx8 hc.h ha.h hb.h⟩
theorem gset(i:Nat){e:Expr}(hN:X.N.Nodup)(h:OkL X.env.scope x)(he:GE X XQ e f)(hi:X.N[i]?=some x:=by rfl)(hs:swapsWith e (some (.Name x pos')) pos.line X.env=pure false:=by rfl)(hf:X.fn x=true:=by rfl):GS X XQ (.Assign [.Name x pos'] e pos) (sa f (gn i)):=⟨jset i hN h he.h hi hs hf⟩
theorem Gmx(i:Nat){sc:Scope}{f:Ev Src}{g:Tg}{t:Ev Bool}{e:Ev D}(hsc:X.env.scope=sc)(hNN:X.N=N)(ct:CompTab sc scope N N' pk)(hcm:X.calm=true)(hi:GI X XQ tg iter f)(hg:∀ cl s2 H2 C fp,GG (blk X s2 H2 C scope cl N' fp) tg g)(ht:∀ cl s2 H2 C fp,GTs (blk X s2 H2 C scope cl N' fp) XN ifs t)(he:∀ cl s2 H2 C fp,GE (blk X s2 H2 C scope cl N' fp) XN elt e)(hN:X.N.Nodup)(hl:OkL X.env.scope y)(hsw:swapsWith (.ListComp elt [⟨tg,iter,ifs,0⟩] scope pos) (some (.Name y py)) spos.line X.env=pure true)(hy:X.N[i]?=some y:=by rfl)(hs:∀ x,foldedSetIterable iter X.env x=pure x:=by intro _; rfl)(hf:X.fn y=true:=by rfl):GS X XQ (.Assign [.Name y py] (.ListComp elt [⟨tg,iter,ifs,0⟩] scope pos) spos) (sa (cmp f pk g t e) (gn i)):=⟨Gl6 i hsc hNN ct hcm hi.h (fun z0 z1 z2 z3 z4=>(hg z0 z1 z2 z3 z4).h) (fun z0 z1 z2 z3 z4=>(ht z0 z1 z2 z3 z4).h) (fun z0 z1 z2 z3 z4=>(he z0 z1 z2 z3 z4).h) hN hl hsw hy hs hf⟩
theorem Ka{e:Expr}{g:Tg}(he:GE X XQ e f)(hg:GG X tg g)(hs:swapsWithSole [tg] e pos.line X.env=pure false:=by rfl)(hw:swappedStores [tg] e X.env=pure none:=by rfl)(h1:(assignEach [tg] X.env).map (·.2)=[assign tg X.env]:=by rfl):GS X XQ (.Assign [tg] e pos) (sa f g):=⟨Gui he.h hg.h hs hw h1⟩
theorem Gmy(i j:Nat){f:Ev (List D)}{px pt:Pos}{kt k2 pt2}(hc:X.calm=true)(hN:X.N.Nodup)(hi:X.N[i]?=some x)(hj:X.N[j]?=some y)(hij:i≠j)(hx:X.env.scope.names.lookup x=some .local)(hy:X.env.scope.names.lookup y=some .local)(ha:GA X XQ [a,b] f)(hw:swappedStores [.Tuple [.Name x px,.Name y py] kt pt] (.Tuple [a,b] k2 pt2) X.env=pure (some [x,y]))(hs:swapsWithSole [.Tuple [.Name x px,.Name y py] kt pt] (.Tuple [a,b] k2 pt2) pos.line X.env=pure false:=by rfl):GS X XQ (.Assign [.Tuple [.Name x px,.Name y py] kt pt] (.Tuple [a,b] k2 pt2) pos) (spar i j f):=⟨Gvh i j hc hN hi hj hij hx hy ha.h hw hs⟩
theorem Ve{ob ix e:Expr}{fi:Ev D}(he:GE X XQ e f)(hob:GE X XQ ob fo)(hix:GE X XQ ix fi)(hs:swapsWithSole [.Subscript ob ix p2] e pos.line X.env=pure false:=by rfl)(hw:swappedStores [.Subscript ob ix p2] e X.env=pure none:=by rfl)(h1:(assignEach [.Subscript ob ix p2] X.env).map (·.2)=[assign (.Subscript ob ix p2) X.env]:=by rfl)(ha:∀ v,assign (.Subscript ob ix p2) X.env v=(do
   let ov <- holding [v] (eval ob X.env)
   let iv <- holding [v,ov] (eval ix X.env)
   standAt p2
   holding [v,ov,iv] (setItem ov iv v)
   release [v,ov,iv] []):=by intro _; rfl):GS X XQ (.Assign [.Subscript ob ix p2] e pos) (ss f fo fi Ub):=⟨Glv he.h hob.h hix.h hs hw h1 ha⟩
theorem Qb{e:Expr}(he:GE X XQ e f)(hs:swapsWith e none pos.line X.env=pure false:=by rfl):GS X XQ (.Expr e pos) (sx f):=⟨Gpe he.h hs⟩
theorem Ym{f:Ev Src}{g:Tg}{b:Sv}(hp:PassesOwn (model X.prog X.w) X.A X.env X.xe)(hc:X.calm=true)(hi:GI X XQ tg iter f)(hg:GG X tg g)(hb:GSs X XQ body b)(hs:∀ x,foldedSetIterable iter X.env x=pure x:=by intro _; rfl):GS X XQ (.For tg iter body [] pos) (sfor f g b):=⟨Gul hp hc hi.h hg.h hb.h hs⟩
theorem Gwe(i:Nat){e:Expr}(hN:X.N.Nodup)(h:OkL X.env.scope x)(he:GE X XQ e f)(hi:X.N[i]?=some x:=by rfl)(hf:X.fn x=true:=by rfl):GS X XQ (.AugAssign (.Name x pos') .Add e pos) (sag i (fun a b=>a+b) f):=⟨Gvl i hN h he.h hi hf⟩
theorem gv(i:Nat)(h:OkV X.env.scope x)(hN:X.N[i]?=some x:=by rfl):GE X XQ (.Name x pos) (vr i):=⟨jv i h hN⟩
theorem gvB(i:Nat){s2:Shared}(h:Gl5 scope x=true)(hN:N'[i]?=some x:=by rfl):GE (blk X s2 H2 C scope c N' fp) XQ (.Name x pos) (vr i):=⟨jvB i h hN⟩
theorem gown{e:Expr}(C:Cal X.prog X.w X.K X.mg X.base x ps fn j)(hr:Room k X.A)(hg:Gl X x)(hp:Hf x=true)(ha:GA X XQ (e::es) t)(hn:ps.length=n:=by rfl)(hj:j<=k:=by decide)(he:starEach (e::es) X.env=(false,eval e X.env)::starEach es X.env:=by rfl)(hpl:(backTo pos (starEach es X.env)).any (·.1)=false:=by rfl):GE X XQ (.Call (.Name x p) (e::es) [] pos) (cl n (Gm fn) t):=⟨jown C hr hg hp ha.h hn hj he hpl⟩
theorem Gjb{Y:Cx}:GTs Y XQ [] ttrue:=⟨Gpl ⟩
theorem Gqq{Y:Cx}{c:Expr}{t:Ev Bool}(h:GT Y XQ c t):GTs Y XQ [c] t:=⟨Gpm h.h⟩
theorem GW.jt{e:Expr}{f:Ev Bool}(h:GW X XQ e f):GT X XQ e f:=⟨JW.jt h.h⟩
def Gjc:Stmt->List Stmt
 | .ClassDef _ _ _ b _ _ _ _ _ _ _=>b
 | _=>[]
section
variable{X:Cx}{XQ:XW}{k:Nat}{x:Str}{p pos:Pos}{e:Expr}{es:List Expr}
theorem Gy8{ys:List Str}(xs:XNs X.K ys)(L:XL X XQ)(C:CalX X.prog X.w X.K X.mg X.base x ps fn j)(hr:Room k X.A)(hg:Gl X x)(hp:Hf x=true)(ha:GA X XQ (e::es) t)(hn:ps.length=n:=by rfl)(hj:j<=k:=by decide)(he:starEach (e::es) X.env=(false,eval e X.env)::starEach es X.env:=by rfl)(hpl:(backTo pos (starEach es X.env)).any (·.1)=false:=by rfl):
  GE X XQ (.Call (.Name x p) (e::es) [] pos) (cl n (gX ys fn) t):=⟨Gyu xs L C hr hg hp ha.h hn hj he hpl⟩
theorem Gmz{pos:Pos}(L:XL X XQ)(hcm:X.calm=true)(C:ClX X.prog X.w X.K X.mg X.base x j)(hr:Room k X.A)(hg:Gl X x)(hp:Hf x=true)(ha:GA X XQ [a] t)(hj:j+1<=k:=by decide)(he:starEach [a] X.env=(false,eval a X.env)::starEach [] X.env:=by rfl)(hpl:(backTo cpos (starEach [] X.env)).any (·.1)=false:=by rfl):
  GS X XQ (.Raise (some (.Call (.Name x np) [a] [] cpos)) none pos) (srs x t):=⟨Gmh L hcm C hr hg hp ha.h hj he hpl⟩
theorem Gqr(i:Nat){c n:Str}{pos:Pos}{b0:Stmt}{suite:List Stmt}{ys:List Str}{fb fh:Sv}(pl:Plain X)(ct:Cat X.K X.mg c ys)(hg:Gl X c)(hp:Hf c=true)(hN:X.N.Nodup)(hn:OkC X.env.scope n)(hb:∀ (pn:List (Addr×Obj)) (xe:Value->Shared->Prop) (XQ':XW),XL (trb X pn xe) XQ'->GSs (trb X pn xe) XQ' body fb)(hs:∀ a,GSs (hnd X a) XN (b0::suite) fh)(hi:X.N[i]?=some n:=by rfl):
  GS X XQ (.Try body [.ExceptHandler (some (.Name c np)) (some n) (b0::suite) hpos] [] [] pos) (Zf ys (hdl i fh) fb):=⟨Gqe pl ct hg hp hN hi hn.h (fun a b c d=>(hb a b c d).h) fun a=>(hs a).h⟩
theorem Gqs{c:Str}{jj:Nat}{pos jp rpos:Pos}{ys:List Str}{fb:Sv}(pl:Plain X)(L:XL X XQ)(ct:Cat X.K X.mg c ys)(hg:Gl X c)(hp:Hf c=true)(J:ClJQ X.prog X.w X.K X.mg X.base y jj)(hr:Room k X.A)(hgy:Gl X y)(hpy:Hf y=true)(hb:∀ (pn:List (Addr×Obj)) (xe:Value->Shared->Prop) (XQ':XW),XL (trb X pn xe) XQ'->GSs (trb X pn xe) XQ' body fb)(ha:∀ a,GA (hx X a) XQ [ar] t)(hj:jj+1<=k:=by decide)(he:starEach [ar] X.env=(false,eval ar X.env)::starEach [] X.env:=by rfl)(hpl:(backTo cpos (starEach [] X.env)).any (·.1)=false:=by rfl):
  GS X XQ (.Try body [.ExceptHandler (some (.Name c np)) none [.Raise (some (.Call (.Name y jp) [ar] [] cpos)) (some (.Constant .none cj npos)) rpos] hpos] [] [] pos) (Zf ys (Gqm y t) fb):=⟨Gqn pl L ct hg hp J hr hgy hpy (fun a b c d=>(hb a b c d).h) (fun a=>(ha a).h) hj he hpl⟩
end
structure FH(K:PySem.W.Frag)(x:Str)(st:Stmt):Prop where
 ex:∃ (f:Addr) (oc:Value) (od an:Option Addr) (osl:Array (Option Value)) (kV doc pm cdv ct:Value),PySem.W.nsIn K mainGlobals x=some (some (.ref f))/\K.lookup f=some ⟨oc,od,.func (PySem.W.fnOf x x (Jg st) (Hi st) (Gf st) .none kV doc pm an cdv ct),osl⟩/\PySem.W.codeIn K cdv x=true/\PySem.W.keepIn K (.ref f)=true
section
variable{K:PySem.W.Frag}{mg:Str->Option Value}
theorem Gy9{st:Stmt}{f:Addr}{an:Option Addr}{kV:Value}(a:PySem.W.nsIn K mainGlobals x=some (some (.ref f)))(l:K.lookup f=some ⟨oc,od,.func (PySem.W.fnOf x x (Jg st) (Hi st) (Gf st) .none kV doc pm an cdv ct),osl⟩)(c:PySem.W.codeIn K cdv x=true)(k:PySem.W.keepIn K (.ref f)=true):FH K x st:=⟨f,oc,od,an,osl,kV,doc,pm,cdv,ct,a,l,c,k⟩
theorem FH.dn{st:Stmt}(F:FH K x st)(X:K.In h)(G:h.Ns mainGlobals mg)(hb:∀ (kV doc pm:Value) (an:Option Addr) (cdv ct:Value) (us:List Value),us.length=ps.length->bindArgs (PySem.W.fnOf x x (Jg st) (Hi st) (Gf st) .none kV doc pm an cdv ct) ⟨us,[]⟩=pure (ps.zip us)):Dn K mg x st ps:=by
 obtain⟨f,oc,od,an,osl,kV,doc,pm,cdv,ct,a,l,c,k⟩:=F.ex
 exact Gym X G a l c k hb
theorem FH.fv{st:Stmt}(F:FH K x st)(X:K.In h)(G:h.Ns mainGlobals mg):FvT K mg x:=by
 obtain⟨f,oc,od,an,osl,kV,doc,pm,cdv,ct,a,l,c,k⟩:=F.ex
 exact⟨f,a,PySem.W.mg_of X G a⟩
end
section
variable{K:PySem.W.Frag}{h:Heap}{mg:Str->Option Value}{x:Str}
theorem Gqt{t:Tok}(X:K.In h)(G:h.Ns mainGlobals mg)(a:PySem.W.nsIn K mainGlobals x=some (some (.str y t))):∃ u v,mg x=some u/\Hq v u/\∀ mp H,Rep K mp H (.str y) v:=
 ⟨_,.str y,PySem.W.mg_of X G a,⟨t,rfl⟩,fun _ _=>rfl⟩
theorem Gm0{p:Addr}{t:Tok}{sl:Array (Option Value)}(X:K.In h)(G:h.Ns mainGlobals mg)(a:PySem.W.nsIn K mainGlobals x=some (some (.ref p)))(l:K.lookup p=some { cls:=.type "tuple",dict:=none,data:=.seq #[.str y t] n,slots:=sl }):
  ∃ u v,mg x=some u/\Hq v u/\∀ mp H,Rep K mp H (.tup [.str y]) v:=
 ⟨_,.ref p,PySem.W.mg_of X G a,rfl,fun _ _=>⟨p,[.str y],rfl,.inr ⟨_,_,n,l,rfl,rfl,by rw[sizeLine_eq]; simp,.cons ⟨t,rfl⟩ .nil⟩,RepL.cons rfl RepL.nil⟩⟩
end
structure FnS(N P:List Str)(sc:Scope):Prop where
 s:FnScope N P sc
 v:N.all (okV sc)=true
 l:N.all (okL sc)=true
theorem kdF{P:List Str}{s:Scope}(a:s.kind=.function:=by rfl)(b:s.isCoroutine=false:=by rfl)(c:s.isGenerator=false:=by rfl)(d:N.Nodup:=by decide +kernel)(e:N.take P.length=P:=by rfl)(f:∀ x∈P,s.names.lookup x=some .local\/s.names.lookup x=some .cell:=by decide +kernel)(g:∀ y∈s.names,y.2≠.free:=by decide +kernel)(v:N.all (okV s)=true:=by decide +kernel)(l:N.all (okL s)=true:=by decide +kernel):FnS N P s:=⟨⟨a,b,c,d,e,f,g⟩,v,l⟩
theorem FnS.nd{P:List Str}{sc:Scope}(S:FnS N P sc):N.Nodup:=S.s.nd
theorem Gm1(h:N[i]?=some x):x∈N:=List.mem_of_getElem? h
theorem FnS.ov{P:List Str}{sc:Scope}(S:FnS N P sc)(h:N[i]?=some x):OkV sc x:=⟨List.all_eq_true.mp S.v x (Gm1 h)⟩
theorem FnS.ol{P:List Str}{sc:Scope}(S:FnS N P sc)(h:N[i]?=some x):OkL sc x:=⟨List.all_eq_true.mp S.l x (Gm1 h)⟩
theorem kdC{sc:Scope}(a:scope.kind=.function:=by rfl)(b:∀ y∈scope.names,y.2=.cell->scope.names.lookup y.1=some .cell:=by decide +kernel)(c:∀ y∈scope.names,y.2=.local->scope.names.lookup y.1=some .local:=by decide +kernel)(d:∀ y∈scope.names,y.2=.free->sc.names.lookup y.1=some .cell\/sc.names.lookup y.1=some .free:=by decide +kernel)(e:pk.length=N'.length:=by rfl)(f:((List.range N'.length).all fun i=>match pk[i]? with
  | some (some j)=>match N[j]?,N'[i]? with
   | some x,some y=>(x==y)&&((sc.names.lookup y==some NameKind.cell)||(sc.names.lookup y==some NameKind.free))&&(scope.names.lookup y==some NameKind.free)
   | _,_=>false
  | _=>true)=true:=by decide +kernel):CompTab sc scope N N' pk:=⟨a,b,c,d,e,f⟩
section
variable{X:Cx}{XQ:XW}{k:Nat}{x:Str}{p pos:Pos}{e:Expr}{es:List Expr}{P:List Str}{f:Ev D}
theorem gw(i:Nat)(S:FnS X.N P X.env.scope)(hN:X.N[i]?=some x:=by rfl):GE X XQ (.Name x pos) (vr i):=gv i (S.ov hN) hN
theorem gG(s:Scope)(h:okG s x=true:=by decide +kernel)(hs:X.env.scope=s:=by rfl):Gl X x:=gl ⟨hs▸h⟩
theorem ggw(i:Nat)(S:FnS X.N P X.env.scope)(hi:X.N[i]?=some x:=by rfl)(hf:X.fn x=true:=by rfl):GG X (.Name x pos) (gn i):=ggn i S.nd (S.ol hi) hi hf
theorem gsew(i:Nat)(S:FnS X.N P X.env.scope)(he:GE X XQ e f)(hi:X.N[i]?=some x:=by rfl)(hs:swapsWith e (some (.Name x pos')) pos.line X.env=pure false:=by rfl)(hf:X.fn x=true:=by rfl):
  GS X XQ (.Assign [.Name x pos'] e pos) (sa f (gn i)):=gset i S.nd (S.ol hi) he hi hs hf
theorem gsiw(i:Nat)(S:FnS X.N P X.env.scope)(he:GE X XQ e f)(hi:X.N[i]?=some x:=by rfl)(hf:X.fn x=true:=by rfl):GS X XQ (.AugAssign (.Name x pos') .Add e pos) (sag i (fun a b=>a+b) f):=Gwe i S.nd (S.ol hi) he hi hf
theorem gow(s:Scope)(C:Cal X.prog X.w X.K X.mg X.base x ps fn j)(hr:Room k X.A)(ha:GA X XQ (e::es) t)(hg:okG s x=true:=by decide +kernel)(hn:ps.length=n:=by rfl)(hj:j<=k:=by decide)(hs:X.env.scope=s:=by rfl)(he:starEach (e::es) X.env=(false,eval e X.env)::starEach es X.env:=by rfl)(hpl:(backTo pos (starEach es X.env)).any (·.1)=false:=by rfl):
  GE X XQ (.Call (.Name x p) (e::es) [] pos) (cl n (Gm fn) t):=gown C hr (gG s hg hs) (okG.gl hg).2 ha hn hj he hpl
theorem Gf2{ys:List Str}(s:Scope)(xs:XNs X.K ys)(L:XL X XQ)(C:CalX X.prog X.w X.K X.mg X.base x ps fn j)(hr:Room k X.A)(ha:GA X XQ (e::es) t)(hg:okG s x=true:=by decide +kernel)(hn:ps.length=n:=by rfl)(hj:j<=k:=by decide)(hs:X.env.scope=s:=by rfl)(he:starEach (e::es) X.env=(false,eval e X.env)::starEach es X.env:=by rfl)(hpl:(backTo pos (starEach es X.env)).any (·.1)=false:=by rfl):
  GE X XQ (.Call (.Name x p) (e::es) [] pos) (cl n (gX ys fn) t):=Gy8 xs L C hr (gG s hg hs) (okG.gl hg).2 ha hn hj he hpl
theorem Gza(i:Nat){ys:List Str}(S:FnS X.N P X.env.scope)(xs:XNs X.K ys)(L:XL X XQ)(C:CalX X.prog X.w X.K X.mg X.base x ps fn j)(hr:Room k X.A)(ha:GA X XQ (e::es) t)(hj:j<=k:=by decide)(hN:X.N[i]?=some y:=by rfl)(he:starEach (e::es) X.env=(false,eval e X.env)::starEach es X.env:=by rfl)(hpl:(backTo pos (starEach es X.env)).any (·.1)=false:=by rfl):GE X XQ (.Call (.Name y p) (e::es) [] pos) (clv i x ps.length (gX ys fn) t):=Gmt i xs L C hr hj hN (okV.vis (S.ov hN).h).1 (okV.vis (S.ov hN).h).2 ha he hpl
theorem Gau(s:Scope)(L:XL X XQ)(C:ClX X.prog X.w X.K X.mg X.base x j)(hr:Room k X.A)(ha:GA X XQ [a] t)(hg:okG s x=true:=by decide +kernel)(hcm:X.calm=true:=by rfl)(hj:j+1<=k:=by decide)(hs:X.env.scope=s:=by rfl)(he:starEach [a] X.env=(false,eval a X.env)::starEach [] X.env:=by rfl)(hpl:(backTo cpos (starEach [] X.env)).any (·.1)=false:=by rfl):
  GS X XQ (.Raise (some (.Call (.Name x np) [a] [] cpos)) none pos) (srs x t):=Gmz L hcm C hr (gG s hg hs) (okG.gl hg).2 ha hj he hpl
theorem Uu{ys:List Str}(s:Scope)(k:Isx X.K X.mg x ys sub)(hm:X.mg "isinstance"=none)(he:GE X XQ e f)(hg:okG s "isinstance"=true:=by decide +kernel)(hg2:okG s x=true:=by decide +kernel)(h0:X.env.scope=s:=by rfl)(hs:starEach [e,.Name x p2] X.env=(false,eval e X.env)::starEach [.Name x p2] X.env:=by rfl)(hpl:(backTo pos (starEach [.Name x p2] X.env)).any (·.1)=false:=by rfl)(hs2:starEach [.Name x p2] X.env=(false,eval (.Name x p2) X.env)::starEach [] X.env:=by rfl):GE X XQ (.Call (.Name "isinstance" p) [e,.Name x p2] [] pos) (o1 (Km ys sub) f):=Gv8 k (gG s hg h0) hm (gG s hg2 h0) (okG.gl hg2).2 he hs hpl hs2
theorem Gwf{ys:List Str}(s:Scope)(k:IsxB X.K T ys sub)(hm:X.mg "isinstance"=none)(hmt:X.mg x=none)(he:GE X XQ e f)(hv:bootBuiltins x=some (.type T):=by rfl)(hnx:x≠"__name__":=by decide +kernel)(hg:okG s "isinstance"=true:=by decide +kernel)(hg2:okG s x=true:=by decide +kernel)(h0:X.env.scope=s:=by rfl)(hs:starEach [e,.Name x p2] X.env=(false,eval e X.env)::starEach [.Name x p2] X.env:=by rfl)(hpl:(backTo pos (starEach [.Name x p2] X.env)).any (·.1)=false:=by rfl)(hs2:starEach [.Name x p2] X.env=(false,eval (.Name x p2) X.env)::starEach [] X.env:=by rfl):GE X XQ (.Call (.Name "isinstance" p) [e,.Name x p2] [] pos) (o1 (Km ys sub) f):=Gqo k hv hnx (gG s hg h0) hm (gG s hg2 h0) hmt (okG.gl hg2).2 he hs hpl hs2
theorem Gbz(g1:Gl X "isinstance")(g2:Gl X x)(k:Kit X.K T)(hm:X.mg "isinstance"=none)(hmt:X.mg x=none)(he:GE X XQ e f)(hv:bootBuiltins x=some (.type T):=by rfl)(hnx:x≠"__name__":=by decide +kernel)(hdx:(x==("__debug__":Str))=false:=by decide +kernel)(hs:starEach [e,.Name x p2] X.env=(false,eval e X.env)::starEach [.Name x p2] X.env:=by rfl)(hpl:(backTo pos (starEach [.Name x p2] X.env)).any (·.1)=false:=by rfl)(hs2:starEach [.Name x p2] X.env=(false,eval (.Name x p2) X.env)::starEach [] X.env:=by rfl):GE X XQ (.Call (.Name "isinstance" p) [e,.Name x p2] [] pos) (o1 (isD T) f):=Gwb k hv hnx hdx g1 hm g2 hmt he hs hpl hs2
theorem Gm2(i:Nat){sc:Scope}{f:Ev Src}{g:Tg}{t:Ev Bool}{e:Ev D}(S:FnS N P sc)(hi:GI X XQ tg iter f)(hg:∀ cl s2 H2 C fp,GG (blk X s2 H2 C scope cl N' fp) tg g)(ht:∀ cl s2 H2 C fp,GTs (blk X s2 H2 C scope cl N' fp) XN ifs t)(he:∀ cl s2 H2 C fp,GE (blk X s2 H2 C scope cl N' fp) XN elt e)(ct:CompTab sc scope N N' pk:=by exact kdC)(hsc:X.env.scope=sc:=by rfl)(hNN:X.N=N:=by rfl)(hcm:X.calm=true:=by rfl)(hsw:swapsWith (.ListComp elt [⟨tg,iter,ifs,0⟩] scope pos) (some (.Name y py)) spos.line X.env=pure true:=by rfl)(hy:N[i]?=some y:=by rfl)(hs:∀ x,foldedSetIterable iter X.env x=pure x:=by intro _; rfl)(hf:X.fn y=true:=by rfl):GS X XQ (.Assign [.Name y py] (.ListComp elt [⟨tg,iter,ifs,0⟩] scope pos) spos) (sa (cmp f pk g t e) (gn i)):=
 Gmx i hsc hNN ct hcm hi hg ht he (hNN▸S.nd) (hsc▸S.ol hy) hsw (hNN▸hy) hs hf
section
variable{s2:Shared}{H2:Hp}{C:Addr}{scope:Scope}{c:List (Str×Addr)}{N':List Str}{fp:List Addr}
theorem Gjd(i:Nat)(h:Gl5 scope x=true:=by decide +kernel)(hN:N'[i]?=some x:=by rfl):GE (blk X s2 H2 C scope c N' fp) XQ (.Name x pos) (vr i):=gvB i h hN
theorem Gzb(h:okG scope x=true:=by decide +kernel):Gl (blk X s2 H2 C scope c N' fp) x:=glB h
theorem Gm3(i:Nat)(h:Gp4 scope x=true:=by decide +kernel)(hN:N'.Nodup:=by decide +kernel)(hi:N'[i]?=some x:=by rfl):GG (blk X s2 H2 C scope c N' fp) (.Name x pos) (gn i):=Ha4 i hN h hi
theorem Ha5(Q:Cal X.prog X.w X.K X.mg X.base x ps fn j)(hr:Room k X.A)(ha:GA (blk X s2 H2 C scope c N' fp) XQ (e::es) t)(hg:okG scope x=true:=by decide +kernel)(hn:ps.length=n:=by rfl)(hj:j<=k:=by decide)(he:starEach (e::es) (blk X s2 H2 C scope c N' fp).env=(false,eval e (blk X s2 H2 C scope c N' fp).env)::starEach es (blk X s2 H2 C scope c N' fp).env:=by rfl)(hpl:(backTo pos (starEach es (blk X s2 H2 C scope c N' fp).env)).any (·.1)=false:=by rfl):
  GE (blk X s2 H2 C scope c N' fp) XQ (.Call (.Name x p) (e::es) [] pos) (cl n (Gm fn) t):=gown (X:=blk X s2 H2 C scope c N' fp) Q hr (glB hg) (okG.gl hg).2 ha hn hj he hpl
end
end
section
variable{P:Program}{w:World}{K:PySem.W.Frag}{mg:Str->Option Value}{base:Heap}{x:Str}{st:Stmt}{ps N:List Str}{fn:Fn}
abbrev GH(K:PySem.W.Frag)(mg:Str->Option Value):Prop:=∃ h:Heap,K.In h/\h.Ns mainGlobals mg
theorem calw{b:Sv}(k:Nat)(F:FH K x st)(g:GH K mg)(S:FnS N ps (Gf st))(hfn:fn=fnB N.length b)
  (hb:∀ (f:Addr) (cdv:Value) (A:Around) (outer:List PySem.Env) (s:Shared) (H:Hp) (E:XK),Room k (A.deeper (envOfC x (Gf st) s.heap.objs.size f cdv))→
   JSs (Vd CX0 P w K mg base N x (Gf st) f cdv A outer s H E).nox XN (Hi st) b)
  (ha:∀ (kV doc pm:Value) (an:Option Addr) (cdv ct:Value) (us:List Value),us.length=ps.length->bindArgs (PySem.W.fnOf x x (Jg st) (Hi st) (Gf st) .none kV doc pm an cdv ct) ⟨us,[]⟩=pure (ps.zip us):=by first | exact(fun _ _ _ _ _ _ us hl=>match us,hl with | [_],_=>rfl) | exact(fun _ _ _ _ _ _ us hl=>match us,hl with | [_,_],_=>rfl) | exact(fun _ _ _ _ _ _ us hl=>match us,hl with | [_,_,_],_=>rfl) | exact(fun _ _ _ _ _ _ us hl=>match us,hl with | [_,_,_,_],_=>rfl) | exact(fun _ _ _ _ _ _ us hl=>match us,hl with | [_,_,_,_,_],_=>rfl) | exact(fun _ _ _ _ _ _ us hl=>match us,hl with | [_,_,_,_,_,_],_=>rfl)):Cal P w K mg base x ps fn (k+1):=
 let ⟨_,X,G⟩:=g; Gvi N k b hfn (F.dn X G ha) S.s hb
theorem calxw{b:Sv}(k:Nat)(F:FH K x st)(g:GH K mg)(S:FnS N ps (Gf st))(hfn:fn=fnB N.length b)
  (hb:∀ (f:Addr) (cdv:Value) (A:Around) (outer:List PySem.Env) (s:Shared) (H:Hp) (E:XK) (XQ:XW),Room k (A.deeper (envOfC x (Gf st) s.heap.objs.size f cdv))->XL (Vd (CXe P w) P w K mg base N x (Gf st) f cdv A outer s H E) XQ→
   JSs (Vd (CXe P w) P w K mg base N x (Gf st) f cdv A outer s H E) XQ (Hi st) b)
  (ha:∀ (kV doc pm:Value) (an:Option Addr) (cdv ct:Value) (us:List Value),us.length=ps.length->bindArgs (PySem.W.fnOf x x (Jg st) (Hi st) (Gf st) .none kV doc pm an cdv ct) ⟨us,[]⟩=pure (ps.zip us):=by first | exact(fun _ _ _ _ _ _ us hl=>match us,hl with | [_],_=>rfl) | exact(fun _ _ _ _ _ _ us hl=>match us,hl with | [_,_],_=>rfl) | exact(fun _ _ _ _ _ _ us hl=>match us,hl with | [_,_,_],_=>rfl) | exact(fun _ _ _ _ _ _ us hl=>match us,hl with | [_,_,_,_],_=>rfl) | exact(fun _ _ _ _ _ _ us hl=>match us,hl with | [_,_,_,_,_],_=>rfl) | exact(fun _ _ _ _ _ _ us hl=>match us,hl with | [_,_,_,_,_,_],_=>rfl)):CalX P w K mg base x ps fn (k+1):=
 let ⟨_,X,G⟩:=g; Gqc N k b hfn (F.dn X G ha) S.s hb
theorem FH.fnx{f:Addr}(F:FH K x st)(X:K.In h)(G:h.Ns mainGlobals mg)(hm:mg x=some (.ref f)):∃ od an osl kV doc pm cdv ct,∃ oc:Value,PySem.W.keepIn K (.ref f)=true/\PySem.W.codeIn K cdv x=true/\K.lookup f=some ⟨oc,od,.func (PySem.W.fnOf x x (Jg st) (Hi st) (Gf st) .none kV doc pm an cdv ct),osl⟩:=by
 obtain⟨f',oc,od,an,osl,kV,doc,pm,cdv,ct,a,l,c,k⟩:=F.ex
 have e:=hm.symm.trans (PySem.W.mg_of X G a)
 cases e
 exact⟨od,an,osl,kV,doc,pm,cdv,ct,oc,k,c,l⟩
end
end DL
namespace Law
open PySem PySem.Spec PyProof.Rows L2 DL
variable{X:Cx}{XQ:XW}{pos:Pos}{P:Program}{w:World}{K:PySem.W.Frag}{mg:Str->Option Value}{base:Heap}
def top(i:Nat):Stmt:=PySem.Challenge.pw_summitwater_k32_open_rows.main.body.getD i (.Pass ⟨0,0,0,0⟩)
abbrev Xh:Stmt:=top 3
abbrev Xi:Stmt:=top 4
abbrev Gb0:Stmt:=top 5
abbrev Ga6:Stmt:=top 6
abbrev Xj:Stmt:=top 7
abbrev Gdq:Stmt:=top 8
abbrev Gb1:Stmt:=top 11
abbrev Gdr:Stmt:=top 12
abbrev Yn:Stmt:=top 28
abbrev Wj:Stmt:=top 29
abbrev Yo:Stmt:=top 30
abbrev Xk:Stmt:=top 39
abbrev Zg:Stmt:=top 34
abbrev Wl:Stmt:=top 40
abbrev Zv:Stmt:=top 33
abbrev Xl:Stmt:=top 38
abbrev Yp:Stmt:=top 36
abbrev Xm:Stmt:=top 37
abbrev Gds:Stmt:=top 43
abbrev Xn:Stmt:=top 42
abbrev Zw:Stmt:=top 41
abbrev Vq:Stmt:=top 35
abbrev Yq:Stmt:=top 32
abbrev Zh:Stmt:=top 48
abbrev Zi:Stmt:=top 47
abbrev Yr:Stmt:=top 49
abbrev Gb2:Stmt:=top 45
abbrev Zx:Stmt:=top 50
abbrev Ys:Stmt:=top 52
abbrev Yt:Stmt:=top 53
abbrev Xo:Stmt:=top 54
abbrev Xp:Stmt:=top 55
abbrev Xq:Stmt:=top 56
abbrev Xr:Stmt:=top 57
abbrev Yu:Stmt:=top 59
abbrev Zy:Stmt:=top 58
abbrev Uv:Stmt:=top 60
abbrev Uw:Stmt:=top 61
abbrev Yv:Stmt:=top 62
abbrev Zz:Stmt:=top 63
abbrev Wm:Stmt:=top 64
abbrev Yw:Stmt:=top 65
abbrev Gdt:Stmt:=top 66
def c_CHAMBER:D:=(.tup [(.str "chamber")])
def c_END:D:=(.tup [(.str "end")])
def c_UP:D:=(.str "up")
def ys:List Str:=["NoGate","Dry","Full","NoSpring","NoBarge","NoRoom","Uneven","Shallow","Falls","NoText","TooMany","NoLine"]
def ms:List Str:=["NoGate","Dry","Full","NoSpring","NoBarge","NoRoom","Uneven","Shallow","Falls","NoText","TooMany","NoLine"]
def ats:List Str:=["Falls","NoText"]
structure Hs(K:PySem.W.Frag):Prop where
 h_has_spring:FH K "has_spring" Xh
 h_most_water:FH K "most_water" Xi
 h_is_dry:FH K "is_dry" Gb0
 h_is_full:FH K "is_full" Ga6
 h_is_shallow:FH K "is_shallow" Xj
 h_holds:FH K "holds" Gdq
 h_higher:FH K "higher" Gb1
 h_lower:FH K "lower" Gdr
 h_barges_of:FH K "barges_of" Yn
 h_with_barges:FH K "with_barges" Wj
 h_with_more:FH K "with_more" Yo
 h_check_gate:FH K "check_gate" Xk
 h_place_behind:FH K "place_behind" Zg
 h_check_water:FH K "check_water" Wl
 h_place_ahead:FH K "place_ahead" Zv
 h_check_move:FH K "check_move" Xl
 h_check_let:FH K "check_let" Yp
 h_check_feed:FH K "check_feed" Xm
 h_moved:FH K "moved" Gds
 h_with_water:FH K "with_water" Xn
 h_let_down:FH K "let_down" Zw
 h_is_last_move:FH K "is_last_move" Vq
 h_deed_done:FH K "deed_done" Yq
 h_with_waiting:FH K "with_waiting" Zh
 h_without_ends:FH K "without_ends" Zi
 h_open_done:FH K "open_done" Yr
 h_row_by:FH K "row_by" Gb2
 h_open_row:FH K "open_row" Zx
 h__law_tape:FH K "_law_tape" Ys
 h__law_draw:FH K "_law_draw" Yt
 h__law_pound:FH K "_law_pound" Xo
 h__law_canal:FH K "_law_canal" Xp
 h__law_stand:FH K "_law_stand" Xq
 h__law_whole:FH K "_law_whole" Xr
 h__law_gone:FH K "_law_gone" Yu
 h__law_due:FH K "_law_due" Zy
 h__law_open_due:FH K "_law_open_due" Uv
 h__law_open_can:FH K "_law_open_can" Uw
 h__law_name:FH K "_law_name" Yv
 h__law_did:FH K "_law_did" Zz
 h__law_behind:FH K "_law_behind" Wm
 h__law_walk:FH K "_law_walk" Yw
 h_law:FH K "law" Gdt
 z_ValueError:PySem.W.nsIn K mainGlobals "ValueError"=some none
 z_bool:PySem.W.nsIn K mainGlobals "bool"=some none
 z_enumerate:PySem.W.nsIn K mainGlobals "enumerate"=some none
 z_int:PySem.W.nsIn K mainGlobals "int"=some none
 z_isinstance:PySem.W.nsIn K mainGlobals "isinstance"=some none
 z_len:PySem.W.nsIn K mainGlobals "len"=some none
 z_list:PySem.W.nsIn K mainGlobals "list"=some none
 z_min:PySem.W.nsIn K mainGlobals "min"=some none
 z_range:PySem.W.nsIn K mainGlobals "range"=some none
 z_repr:PySem.W.nsIn K mainGlobals "repr"=some none
 z_str:PySem.W.nsIn K mainGlobals "str"=some none
 z_tuple:PySem.W.nsIn K mainGlobals "tuple"=some none
structure Txt(K:PySem.W.Frag)(mg:Str->Option Value):Prop where
 b_ValueError:mg "ValueError"=none
 b_bool:mg "bool"=none
 b_enumerate:mg "enumerate"=none
 b_int:mg "int"=none
 b_isinstance:mg "isinstance"=none
 b_len:mg "len"=none
 b_list:mg "list"=none
 b_min:mg "min"=none
 b_range:mg "range"=none
 b_repr:mg "repr"=none
 b_str:mg "str"=none
 b_tuple:mg "tuple"=none
 k_CHAMBER:∃ u v,mg "CHAMBER"=some u/\Hq v u/\∀ mp H,Rep K mp H c_CHAMBER v
 k_END:∃ u v,mg "END"=some u/\Hq v u/\∀ mp H,Rep K mp H c_END v
 k_UP:∃ u v,mg "UP"=some u/\Hq v u/\∀ mp H,Rep K mp H c_UP v
 fv_open_done:FvT K mg "open_done"
 xt:XT K mg "SummitError" ys ms
 atc:AtC K ats
theorem Txt.c_CHAMBER(T:Txt X.K X.mg)(hg:Gl X "CHAMBER"):GE X XQ (.Name "CHAMBER" pos) (cn c_CHAMBER):=let ⟨u,v,h1,h2,h3⟩:=T.k_CHAMBER; ⟨Gh6 h1 h2 h3 hg (by decide +kernel)⟩
theorem Txt.c_END(T:Txt X.K X.mg)(hg:Gl X "END"):GE X XQ (.Name "END" pos) (cn c_END):=let ⟨u,v,h1,h2,h3⟩:=T.k_END; ⟨Gh6 h1 h2 h3 hg (by decide +kernel)⟩
theorem Txt.c_UP(T:Txt X.K X.mg)(hg:Gl X "UP"):GE X XQ (.Name "UP" pos) (cn c_UP):=let ⟨u,v,h1,h2,h3⟩:=T.k_UP; ⟨Gh6 h1 h2 h3 hg (by decide +kernel)⟩
abbrev Qc:Stmt:=(Gjc (top 14)).getD 0 (.Pass ⟨0,0,0,0⟩)
theorem sc_init:FnScope ["self","text"] ["self","text"] (Gf Qc):=kdS
theorem Gsg:OkG (Gf Qc) "ValueError":=⟨by decide +kernel⟩
theorem Gje:OkV (Gf Qc) "self":=⟨by decide +kernel⟩
theorem Gjf:OkV (Gf Qc) "text":=⟨by decide +kernel⟩
theorem Gkp(hm:mg "ValueError"=none)(f:Addr)(cdv:Value)(A:Around)(outer:List PySem.Env)(s:Shared)(H:Hp)(E:XK):PSs (Vd CX0 P w K mg base ["self","text"] "SummitError.__init__" (Gf Qc) f cdv A outer s H E).nox (Hi Qc) (Gi8 K):=by
 conv=>arg 2; whnf
 exact Gcv (Gcw (Gg9 (gl Gsg) hm (Qa (Yg (i:=0) rfl (okV.vis Gje.h).1) (Qa (Yg (i:=1) rfl (okV.vis Gjf.h).1) pa_nil)) rfl))
theorem Gic(hm:mg "ValueError"=none)(f:Addr)(cdv:Value)(A:Around)(outer:List PySem.Env)(s:Shared)(H:Hp):PSs (cxQ P w K mg base ["self","text"] "SummitError.__init__" (Gf Qc) f cdv A outer s H) (Hi Qc) (Gi8 K):=by
 conv=>arg 2; whnf
 exact Gcv (Gcw (Gg9 (gl Gsg) hm (Qa (Yg (i:=0) rfl (okV.vis Gje.h).1) (Qa (Yg (i:=1) rfl (okV.vis Gjf.h).1) pa_nil)) rfl))
abbrev Hu:Stmt:=(Gjc (top 16)).getD 0 (.Pass ⟨0,0,0,0⟩)
theorem sc_init_Falls:FnScope ["self","at"] ["self","at"] (Gf Hu):=kdS
theorem Gm4:OkG (Gf Hu) "SummitError":=⟨by decide +kernel⟩
theorem Gav:OkV (Gf Hu) "self":=⟨by decide +kernel⟩
theorem Ghf:OkV (Gf Hu) "at":=⟨by decide +kernel⟩
theorem Gb3{fi:Addr}(bI:BaseI K mg "SummitError" fi)(ini:IniXQ P w K mg base fi 1)(f:Addr)(cdv:Value)(A:Around)(outer:List PySem.Env)(s:Shared)(H:Hp)(hr:RoomQ 2 (A.deeper (envOfC "Falls.__init__" (Gf Hu) s.heap.objs.size f cdv))):PSs (cxQ P w K mg base ["self","at"] "Falls.__init__" (Gf Hu) f cdv A outer s H) (Hi Hu) (Gmq K "a deed of the row is refused"):=by
 obtain⟨fd,ps,oI,l,c,F,n,b⟩:=ini.ex
 conv=>arg 2; whnf
 exact Ggx (Gcw (Gkm (gl Gm4) (by decide) bI F n hr (by decide) b (Qa (Yg (i:=0) rfl (okV.vis Gav.h).1) (Qa Gk2 pa_nil)) rfl)) (Gcv (Gyz (Yg (i:=0) rfl (okV.vis Gav.h).1) (Yg (i:=1) rfl (okV.vis Ghf.h).1)))
structure All(P:Program)(w:World)(K:PySem.W.Frag)(mg:Str->Option Value)(base:Heap):Prop where
 h:Hs K
 g:GH K mg
 t:Txt K mg
 X_Dry:ClX P w K mg base "Dry" 1
 X_Full:ClX P w K mg base "Full" 1
 X_NoBarge:ClX P w K mg base "NoBarge" 1
 X_NoGate:ClX P w K mg base "NoGate" 1
 X_NoRoom:ClX P w K mg base "NoRoom" 1
 X_NoSpring:ClX P w K mg base "NoSpring" 1
 X_Shallow:ClX P w K mg base "Shallow" 1
 X_Uneven:ClX P w K mg base "Uneven" 1
 Q_Falls:ClJQ P w K mg base "Falls" 3
section
variable{P:Program}{w:World}{K:PySem.W.Frag}{mg:Str->Option Value}{base:Heap}
def Js:Sv:=(sret (va (o2 eqD (o2 getD (vr 0) (cn (.int 0))) (cn (.str "pound"))) (o2 Gfa (o2 getD (vr 0) (cn (.int 4))) (cn .non))))
def Ue:Fn:=fnB 1 Js
theorem Gej:FnS ["place"] ["place"] (Gf Xh):=kdF
abbrev z0:=Gf Xh
theorem Gdu(Al:All P w K mg base):Cal P w K mg base "has_spring" ["place"] Ue 1:=by
 have Sc:=Gej
 refine calw (b:=Js) 0 Al.h.h_has_spring Al.g Sc rfl fun _ _ _ _ _ _ _ hr=>?_
 conv=>arg 3; whnf
 refine GSs.h ?_
 exact(Gi (Gq (Zs (Wu hr.units (Gg (gw 0 Sc) ge_int) ge_str) (Ga4 (Gqp (Gg (gw 0 Sc) ge_int) Gf1)))))
def Uf:Sv:=(sq (sif (tb (o2 eqD (vr 0) (cn c_END)))
  (sret (cn (.int 0)))
  skip)
  (sret (ie (tb (o2 eqD (vr 0) (cn c_CHAMBER))) (cn (.int 1)) (o2 getD (vr 0) (cn (.int 1))))))
def Qd:Fn:=fnB 1 Uf
theorem Gek:FnS ["place"] ["place"] (Gf Xi):=kdF
abbrev z1:=Gf Xi
theorem Gdv(Al:All P w K mg base):Cal P w K mg base "most_water" ["place"] Qd 1:=by
 have Sc:=Gek
 have T:=Al.t
 refine calw (b:=Uf) 0 Al.h.h_most_water Al.g Sc rfl fun _ _ _ _ _ _ _ hr=>?_
 conv=>arg 3; whnf
 refine GSs.h ?_
 exact(Ge (Ho (Jh hr.units (gw 0 Sc) (T.c_END (gG z1)))
  (Gi (Gq ge_int))
  Gv)
  (Gi (Gq (Xf (Jh hr.units (gw 0 Sc) (T.c_CHAMBER (gG z1))) ge_int (Gg (gw 0 Sc) ge_int)))))
def Gaa:Sv:=(sret (va (o2 neD (vr 0) (cn c_END)) (o2 eqD (vr 1) (cn (.int 0)))))
def Gbh:Fn:=fnB 2 Gaa
theorem Gkq:FnS ["place","level"] ["place","level"] (Gf Gb0):=kdF
abbrev z2:=Gf Gb0
theorem Gid(Al:All P w K mg base):Cal P w K mg base "is_dry" ["place","level"] Gbh 1:=by
 have Sc:=Gkq
 have T:=Al.t
 refine calw (b:=Gaa) 0 Al.h.h_is_dry Al.g Sc rfl fun _ _ _ _ _ _ _ hr=>?_
 conv=>arg 3; whnf
 refine GSs.h ?_
 exact(Gi (Gq (Zs (Gsf hr.units (gw 0 Sc) (T.c_END (gG z2))) (Ga4 (Wu hr.units (gw 1 Sc) ge_int)))))
def Yc:Sv:=(sret (va (o2 neD (vr 0) (cn c_END)) (o2 geD (vr 1) (cl 1 (Gm Qd) (ac (vr 0) an)))))
def Qy:Fn:=fnB 2 Yc
theorem Gie:FnS ["place","level"] ["place","level"] (Gf Ga6):=kdF
abbrev z3:=Gf Ga6
theorem Gcj(Al:All P w K mg base):Cal P w K mg base "is_full" ["place","level"] Qy 2:=by
 have Sc:=Gie
 have T:=Al.t
 refine calw (b:=Yc) 1 Al.h.h_is_full Al.g Sc rfl fun _ _ _ _ _ _ _ hr=>?_
 conv=>arg 3; whnf
 refine GSs.h ?_
 exact(Gi (Gq (Zs (Gsf hr.units (gw 0 Sc) (T.c_END (gG z3))) (Ga4 (Gy6 (gw 1 Sc) (gow z3 (Gdv Al) hr (Ga (gw 0 Sc) ga_nil Gc)))))))
def Kf:Sv:=(sret (va (o2 eqD (o2 getD (vr 0) (cn (.int 0))) (cn (.str "pound"))) (o2 ltD (vr 1) (o2 getD (vr 0) (cn (.int 2))))))
def Qe:Fn:=fnB 2 Kf
theorem Gel:FnS ["place","level"] ["place","level"] (Gf Xj):=kdF
abbrev z4:=Gf Xj
theorem Gab(Al:All P w K mg base):Cal P w K mg base "is_shallow" ["place","level"] Qe 1:=by
 have Sc:=Gel
 refine calw (b:=Kf) 0 Al.h.h_is_shallow Al.g Sc rfl fun _ _ _ _ _ _ _ hr=>?_
 conv=>arg 3; whnf
 refine GSs.h ?_
 exact(Gi (Gq (Zs (Wu hr.units (Gg (gw 0 Sc) ge_int) ge_str) (Ga4 (Gmw (gw 1 Sc) (Gg (gw 0 Sc) ge_int))))))
def Gbi:Sv:=(sq (sif (tb (o2 eqD (vr 0) (cn c_END)))
  (sret (cn (.bl true)))
  skip)
  (sret (o2 leD (vr 1) (ie (tb (o2 eqD (vr 0) (cn c_CHAMBER))) (cn (.int 1)) (o2 getD (vr 0) (cn (.int 3)))))))
def Gaq:Fn:=fnB 2 Gbi
theorem Gm5:FnS ["place","barges"] ["place","barges"] (Gf Gdq):=kdF
abbrev z5:=Gf Gdq
theorem Gkr(Al:All P w K mg base):Cal P w K mg base "holds" ["place","barges"] Gaq 1:=by
 have Sc:=Gm5
 have T:=Al.t
 refine calw (b:=Gbi) 0 Al.h.h_holds Al.g Sc rfl fun _ _ _ _ _ _ _ hr=>?_
 conv=>arg 3; whnf
 refine GSs.h ?_
 exact(Ge (Ho (Jh hr.units (gw 0 Sc) (T.c_END (gG z5)))
  (Gi (Gq Gci))
  Gv)
  (Gi (Gq (Gy5 (gw 1 Sc) (Xf (Jh hr.units (gw 0 Sc) (T.c_CHAMBER (gG z5))) ge_int (Gg (gw 0 Sc) ge_int))))))
def Gac:Sv:=(sret (ie (tb (o2 eqD (o2 getD (o2 getD (vr 0) (cn (.int 1))) (vr 1)) (cn c_UP))) (o2 Gw (vr 1) (cn (.int 1))) (vr 1)))
def Gad:Fn:=fnB 2 Gac
theorem Gks:FnS ["canal","gate"] ["canal","gate"] (Gf Gb1):=kdF
abbrev z6:=Gf Gb1
theorem Ga7(Al:All P w K mg base):Cal P w K mg base "higher" ["canal","gate"] Gad 1:=by
 have Sc:=Gks
 have T:=Al.t
 refine calw (b:=Gac) 0 Al.h.h_higher Al.g Sc rfl fun _ _ _ _ _ _ _ hr=>?_
 conv=>arg 3; whnf
 refine GSs.h ?_
 exact(Gi (Gq (Xf (Jh hr.units (Gg (Gg (gw 0 Sc) ge_int) (gw 1 Sc)) (T.c_UP (gG z6))) (Gu (gw 1 Sc) ge_int) (gw 1 Sc))))
def Gbj:Sv:=(sret (ie (tb (o2 eqD (o2 getD (o2 getD (vr 0) (cn (.int 1))) (vr 1)) (cn c_UP))) (vr 1) (o2 Gw (vr 1) (cn (.int 1)))))
def Gbk:Fn:=fnB 2 Gbj
theorem Gm6:FnS ["canal","gate"] ["canal","gate"] (Gf Gdr):=kdF
abbrev z7:=Gf Gdr
theorem Gb4(Al:All P w K mg base):Cal P w K mg base "lower" ["canal","gate"] Gbk 1:=by
 have Sc:=Gm6
 have T:=Al.t
 refine calw (b:=Gbj) 0 Al.h.h_lower Al.g Sc rfl fun _ _ _ _ _ _ _ hr=>?_
 conv=>arg 3; whnf
 refine GSs.h ?_
 exact(Gi (Gq (Xf (Jh hr.units (Gg (Gg (gw 0 Sc) ge_int) (gw 1 Sc)) (T.c_UP (gG z7))) (gw 1 Sc) (Gu (gw 1 Sc) ge_int))))
def Vf:Sv:=(sret (ie (tb (o2 eqD (vr 1) (cn (.str "right")))) (o2 getD (vr 0) (cn (.int 1))) (o2 getD (vr 0) (cn (.int 2)))))
def Wv:Fn:=fnB 2 Vf
theorem Gf3:FnS ["stand","word"] ["stand","word"] (Gf Yn):=kdF
abbrev z8:=Gf Yn
theorem Gaw(Al:All P w K mg base):Cal P w K mg base "barges_of" ["stand","word"] Wv 1:=by
 have Sc:=Gf3
 refine calw (b:=Vf) 0 Al.h.h_barges_of Al.g Sc rfl fun _ _ _ _ _ _ _ hr=>?_
 conv=>arg 3; whnf
 refine GSs.h ?_
 exact(Gi (Gq (Xf (Jh hr.units (gw 1 Sc) ge_str) (Gg (gw 0 Sc) ge_int) (Gg (gw 0 Sc) ge_int))))
def Qq:Sv:=(sq (sa (vr 0) (gt (gcons (gn 3) (gcons (gn 4) (gcons (gn 5) gnil))) 3))
  (sret (ie (tb (o2 eqD (vr 1) (cn (.str "right")))) (tp (ac (vr 3) (ac (vr 2) (ac (vr 5) an)))) (tp (ac (vr 3) (ac (vr 4) (ac (vr 2) an)))))))
def Xs:Fn:=fnB 6 Qq
theorem Gdw:FnS ["stand","word","row","levels","rights","lefts"] ["stand","word","row"] (Gf Wj):=kdF
abbrev z9:=Gf Wj
theorem Gco(Al:All P w K mg base):Cal P w K mg base "with_barges" ["stand","word","row"] Xs 1:=by
 have Sc:=Gdw
 refine calw (b:=Qq) 0 Al.h.h_with_barges Al.g Sc rfl fun _ _ _ _ _ _ _ hr=>?_
 conv=>arg 3; whnf
 refine GSs.h ?_
 exact(Ge (Ka (gw 0 Sc) (Jo rfl (Go (ggw 3 Sc) (Go (ggw 4 Sc) (Go (ggw 5 Sc) Ja)))))
  (Gi (Gq (Xf (Jh hr.units (gw 1 Sc) ge_str) (Gr (Ga (gw 3 Sc) (Ga (gw 2 Sc) (Ga (gw 5 Sc) ga_nil Gc) Gc) Gc)) (Gr (Ga (gw 3 Sc) (Ga (gw 4 Sc) (Ga (gw 2 Sc) ga_nil Gc) Gc) Gc))))))
def Vg:Sv:=(sret (o2 Gw (o2 Gw (sl2 (vr 0) onone (osome (vr 1))) (tp (ac (o2 Gw (o2 getD (vr 0) (vr 1)) (vr 2)) an))) (sl2 (vr 0) (osome (o2 Gw (vr 1) (cn (.int 1)))) onone)))
def Ko:Fn:=fnB 3 Vg
theorem Gf4:FnS ["row","place","many"] ["row","place","many"] (Gf Yo):=kdF
abbrev z10:=Gf Yo
theorem Va(Al:All P w K mg base):Cal P w K mg base "with_more" ["row","place","many"] Ko 1:=by
 have Sc:=Gf4
 refine calw (b:=Vg) 0 Al.h.h_with_more Al.g Sc rfl fun _ _ _ _ _ _ _ hr=>?_
 conv=>arg 3; whnf
 refine GSs.h ?_
 exact(Gi (Gq (Gu (Gu (Jc (gw 0 Sc) Ud (Ji (gw 1 Sc))) (Gr (Ga (Gu (Gg (gw 0 Sc) (gw 1 Sc)) (gw 2 Sc)) ga_nil Hm))) (Jc (gw 0 Sc) (Ji (Gu (gw 1 Sc) ge_int)) Ud))))
def Kg:Sv:=(sif (tn (tb (ch leD ltD (cn (.int 0)) (vr 1) (b1 Jl (ac (o2 getD (vr 0) (cn (.int 1))) an)))))
  (srs "NoGate" (ac (cn (.str "there is no such gate")) an))
  skip)
def Vu:Fn:=fnB 2 Kg
theorem Gem:FnS ["canal","gate"] ["canal","gate"] (Gf Xk):=kdF
abbrev z11:=Gf Xk
theorem Gae(Al:All P w K mg base):CalX P w K mg base "check_gate" ["canal","gate"] Vu 3:=by
 have Sc:=Gem
 have T:=Al.t
 refine calxw (b:=Kg) 2 Al.h.h_check_gate Al.g Sc rfl fun _ _ _ _ _ _ _ _ hr L=>?_
 conv=>arg 3; whnf
 refine GSs.h ?_
 exact(Gi (Ho (Ga5 (Ghe Glb Gr9 Gix Gr8 ge_int (gw 1 Sc) (Qx (gG z11) T.b_len (Ga (Gg (gw 0 Sc) ge_int) ga_nil Gk))))
  (Gi (Gau z11 L Al.X_NoGate hr (Ga ge_str ga_nil Gb)))
  Gv))
def Kq:Sv:=(sq (sa (vr 0) (gt (gcons (gn 1) (gcons (gn 2) gnil)) 2))
  (sret (ie (tb (o2 eqD (vr 1) (cn (.str "right")))) (o2 Gw (vr 2) (cn (.int 1))) (vr 2))))
def Kr:Fn:=fnB 3 Kq
theorem Gcp:FnS ["deed","word","gate"] ["deed"] (Gf Zg):=kdF
theorem Ux(Al:All P w K mg base):Cal P w K mg base "place_behind" ["deed"] Kr 1:=by
 have Sc:=Gcp
 refine calw (b:=Kq) 0 Al.h.h_place_behind Al.g Sc rfl fun _ _ _ _ _ _ _ hr=>?_
 conv=>arg 3; whnf
 refine GSs.h ?_
 exact(Ge (Ka (gw 0 Sc) (Jo rfl (Go (ggw 1 Sc) (Go (ggw 2 Sc) Ja))))
  (Gi (Gq (Xf (Jh hr.units (gw 1 Sc) ge_str) (Gu (gw 2 Sc) ge_int) (gw 2 Sc)))))
def Qr:Sv:=(sq (sa (o2 getD (vr 0) (cn (.int 0))) (gn 3))
  (sq (sa (cl 2 (Gm Gad) (ac (vr 0) (ac (vr 2) an))) (gn 4))
  (sq (sa (cl 2 (Gm Gbk) (ac (vr 0) (ac (vr 2) an))) (gn 5))
  (sq (sif (ta (tb (o2 eqD (o2 getD (vr 3) (vr 4)) (cn c_CHAMBER))) (tb (o2 eqD (o2 getD (vr 1) (vr 4)) (cn (.int 1)))))
  (srs "Uneven" (ac (cn (.str "the higher chamber is full")) an))
  skip)
  (sq (sif (ta (tb (o2 eqD (o2 getD (vr 3) (vr 5)) (cn c_CHAMBER))) (tb (o2 eqD (o2 getD (vr 1) (vr 5)) (cn (.int 0)))))
  (srs "Uneven" (ac (cn (.str "the lower chamber is empty")) an))
  skip)
  (sif (to (tt (cl 2 (Gm Qe) (ac (o2 getD (vr 3) (vr 4)) (ac (o2 getD (vr 1) (vr 4)) an)))) (tt (cl 2 (Gm Qe) (ac (o2 getD (vr 3) (vr 5)) (ac (o2 getD (vr 1) (vr 5)) an)))))
  (srs "Shallow" (ac (cn (.str "the pound's level is below its deep")) an))
  skip))))))
def Xt:Fn:=fnB 6 Qr
theorem Gdx:FnS ["canal","levels","gate","places","high","low"] ["canal","levels","gate"] (Gf Wl):=kdF
abbrev z13:=Gf Wl
theorem Gcq(Al:All P w K mg base):CalX P w K mg base "check_water" ["canal","levels","gate"] Xt 3:=by
 have Sc:=Gdx
 have T:=Al.t
 refine calxw (b:=Qr) 2 Al.h.h_check_water Al.g Sc rfl fun _ _ _ _ _ _ _ _ hr L=>?_
 conv=>arg 3; whnf
 refine GSs.h ?_
 exact(Ge (gsew 3 Sc (Gg (gw 0 Sc) ge_int))
  (Ge (gsew 4 Sc (gow z13 (Ga7 Al) hr (Ga (gw 0 Sc) (Ga (gw 2 Sc) ga_nil Gc) Gc)))
  (Ge (gsew 5 Sc (gow z13 (Gb4 Al) hr (Ga (gw 0 Sc) (Ga (gw 2 Sc) ga_nil Gc) Gc)))
  (Ge (Ho (GW.jt (Xg (Jh hr.units (Gg (gw 3 Sc) (gw 4 Sc)) (T.c_CHAMBER (gG z13))) (Uz (Jh hr.units (Gg (gw 1 Sc) (gw 4 Sc)) ge_int))))
  (Gi (Gau z13 L Al.X_Uneven hr (Ga ge_str ga_nil Gb)))
  Gv)
  (Ge (Ho (GW.jt (Xg (Jh hr.units (Gg (gw 3 Sc) (gw 5 Sc)) (T.c_CHAMBER (gG z13))) (Uz (Jh hr.units (Gg (gw 1 Sc) (gw 5 Sc)) ge_int))))
  (Gi (Gau z13 L Al.X_Uneven hr (Ga ge_str ga_nil Gb)))
  Gv)
  (Gi (Ho (GW.jt (Zu (Qm (gow z13 (Gab Al) hr (Ga (Gg (gw 3 Sc) (gw 4 Sc)) (Ga (Gg (gw 1 Sc) (gw 4 Sc)) ga_nil Gk) Gk))) (Zt (Qm (gow z13 (Gab Al) hr (Ga (Gg (gw 3 Sc) (gw 5 Sc)) (Ga (Gg (gw 1 Sc) (gw 5 Sc)) ga_nil Gk) Gk))))))
  (Gi (Gau z13 L Al.X_Shallow hr (Ga ge_str ga_nil Gb)))
  Gv)))))))
def Qs:Sv:=(sq (sa (vr 0) (gt (gcons (gn 1) (gcons (gn 2) gnil)) 2))
  (sret (ie (tb (o2 eqD (vr 1) (cn (.str "right")))) (vr 2) (o2 Gw (vr 2) (cn (.int 1))))))
def Vb:Fn:=fnB 3 Qs
theorem Gdy:FnS ["deed","word","gate"] ["deed"] (Gf Zv):=kdF
theorem Zj(Al:All P w K mg base):Cal P w K mg base "place_ahead" ["deed"] Vb 1:=by
 have Sc:=Gdy
 refine calw (b:=Qs) 0 Al.h.h_place_ahead Al.g Sc rfl fun _ _ _ _ _ _ _ hr=>?_
 conv=>arg 3; whnf
 refine GSs.h ?_
 exact(Ge (Ka (gw 0 Sc) (Jo rfl (Go (ggw 1 Sc) (Go (ggw 2 Sc) Ja))))
  (Gi (Gq (Xf (Jh hr.units (gw 1 Sc) ge_str) (gw 2 Sc) (Gu (gw 2 Sc) ge_int)))))
def Jt:Sv:=(sq (sa (vr 2) (gt (gcons (gn 3) (gcons (gn 4) gnil)) 2))
  (sq (sx (cl 2 (gX ys Vu) (ac (vr 0) (ac (vr 4) an))))
  (sq (sif (tb (o2 eqD (o2 getD (cl 2 (Gm Wv) (ac (vr 1) (ac (vr 3) an))) (cl 1 (Gm Vb) (ac (vr 2) an))) (cn (.int 0))))
  (srs "NoBarge" (ac (cn (.str "there is no barge that goes this way")) an))
  skip)
  (sq (sa (cl 1 (Gm Kr) (ac (vr 2) an)) (gn 5))
  (sq (sif (tn (tt (cl 2 (Gm Gaq) (ac (o2 getD (o2 getD (vr 0) (cn (.int 0))) (vr 5)) (ac (o2 Gw (o2 Gw (o2 getD (o2 getD (vr 1) (cn (.int 1))) (vr 5)) (o2 getD (o2 getD (vr 1) (cn (.int 2))) (vr 5))) (cn (.int 1))) an)))))
  (srs "NoRoom" (ac (cn (.str "the place that the barge comes to has no room")) an))
  skip)
  (sx (cl 3 (gX ys Xt) (ac (vr 0) (ac (o2 getD (vr 1) (cn (.int 0))) (ac (vr 4) an))))))))))
def Ug:Fn:=fnB 6 Jt
theorem Gen:FnS ["canal","stand","deed","word","gate","target"] ["canal","stand","deed"] (Gf Xl):=kdF
abbrev z15:=Gf Xl
theorem Gdz(Al:All P w K mg base):CalX P w K mg base "check_move" ["canal","stand","deed"] Ug 4:=by
 have Sc:=Gen
 have T:=Al.t
 refine calxw (b:=Jt) 3 Al.h.h_check_move Al.g Sc rfl fun _ _ _ _ _ _ _ _ hr L=>?_
 conv=>arg 3; whnf
 refine GSs.h ?_
 exact(Ge (Ka (gw 2 Sc) (Jo rfl (Go (ggw 3 Sc) (Go (ggw 4 Sc) Ja))))
  (Ge (Qb (Gf2 z15 T.xt.xns L (Gae Al) hr (Ga (gw 0 Sc) (Ga (gw 4 Sc) ga_nil Gc) Gc)))
  (Ge (Ho (Jh hr.units (Gg (gow z15 (Gaw Al) hr (Ga (gw 1 Sc) (Ga (gw 3 Sc) ga_nil Gc) Gc)) (gow z15 (Zj Al) hr (Ga (gw 2 Sc) ga_nil Gc))) ge_int)
  (Gi (Gau z15 L Al.X_NoBarge hr (Ga ge_str ga_nil Gb)))
  Gv)
  (Ge (gsew 5 Sc (gow z15 (Ux Al) hr (Ga (gw 2 Sc) ga_nil Gc)))
  (Ge (Ho (Ga5 (Qm (gow z15 (Gkr Al) hr (Ga (Gg (Gg (gw 0 Sc) ge_int) (gw 5 Sc)) (Ga (Gu (Gu (Gg (Gg (gw 1 Sc) ge_int) (gw 5 Sc)) (Gg (Gg (gw 1 Sc) ge_int) (gw 5 Sc))) ge_int) ga_nil Hm) Gk))))
  (Gi (Gau z15 L Al.X_NoRoom hr (Ga ge_str ga_nil Gb)))
  Gv)
  (Gi (Qb (Gf2 z15 T.xt.xns L (Gcq Al) hr (Ga (gw 0 Sc) (Ga (Gg (gw 1 Sc) ge_int) (Ga (gw 4 Sc) ga_nil Gc) Gk) Gc)))))))))
def Kb:Sv:=(sq (sx (cl 2 (gX ys Vu) (ac (vr 0) (ac (vr 2) an))))
  (sq (spar 3 4 (ac (o2 getD (vr 0) (cn (.int 0))) (ac (o2 getD (vr 1) (cn (.int 0))) an)))
  (sq (sa (cl 2 (Gm Gad) (ac (vr 0) (ac (vr 2) an))) (gn 5))
  (sq (sa (cl 2 (Gm Gbk) (ac (vr 0) (ac (vr 2) an))) (gn 6))
  (sq (sif (tt (cl 2 (Gm Gbh) (ac (o2 getD (vr 3) (vr 5)) (ac (o2 getD (vr 4) (vr 5)) an))))
  (srs "Dry" (ac (cn (.str "the higher place has no lockful")) an))
  skip)
  (sif (tt (cl 2 (Gm Qy) (ac (o2 getD (vr 3) (vr 6)) (ac (o2 getD (vr 4) (vr 6)) an))))
  (srs "Full" (ac (cn (.str "the lower place takes no lockful")) an))
  skip))))))
def Ww:Fn:=fnB 7 Kb
theorem Gf5:FnS ["canal","stand","gate","places","levels","high","low"] ["canal","stand","gate"] (Gf Yp):=kdF
abbrev z16:=Gf Yp
theorem Gzc:OkC z16 "levels":=⟨by decide +kernel⟩
theorem Gzd:OkC z16 "places":=⟨by decide +kernel⟩
theorem Geo(Al:All P w K mg base):CalX P w K mg base "check_let" ["canal","stand","gate"] Ww 4:=by
 have Sc:=Gf5
 have T:=Al.t
 refine calxw (b:=Kb) 3 Al.h.h_check_let Al.g Sc rfl fun _ _ _ _ _ _ _ _ hr L=>?_
 conv=>arg 3; whnf
 refine GSs.h ?_
 exact(Ge (Qb (Gf2 z16 T.xt.xns L (Gae Al) hr (Ga (gw 0 Sc) (Ga (gw 2 Sc) ga_nil Gc) Gc)))
  (Ge (Gmy 3 4 rfl Sc.nd rfl rfl (by decide) Gzd.h Gzc.h (Ga (Gg (gw 0 Sc) ge_int) (Ga (Gg (gw 1 Sc) ge_int) ga_nil Gk) Gk) (by rfl))
  (Ge (gsew 5 Sc (gow z16 (Ga7 Al) hr (Ga (gw 0 Sc) (Ga (gw 2 Sc) ga_nil Gc) Gc)))
  (Ge (gsew 6 Sc (gow z16 (Gb4 Al) hr (Ga (gw 0 Sc) (Ga (gw 2 Sc) ga_nil Gc) Gc)))
  (Ge (Ho (Qm (gow z16 (Gid Al) hr (Ga (Gg (gw 3 Sc) (gw 5 Sc)) (Ga (Gg (gw 4 Sc) (gw 5 Sc)) ga_nil Gk) Gk)))
  (Gi (Gau z16 L Al.X_Dry hr (Ga ge_str ga_nil Gb)))
  Gv)
  (Gi (Ho (Qm (gow z16 (Gcj Al) hr (Ga (Gg (gw 3 Sc) (gw 6 Sc)) (Ga (Gg (gw 4 Sc) (gw 6 Sc)) ga_nil Gk) Gk)))
  (Gi (Gau z16 L Al.X_Full hr (Ga ge_str ga_nil Gb)))
  Gv)))))))
def Ju:Sv:=(sq (spar 3 4 (ac (o2 getD (vr 0) (cn (.int 0))) (ac (o2 getD (vr 1) (cn (.int 0))) an)))
  (sq (sif (to (tn (tb (ch leD ltD (cn (.int 0)) (vr 2) (b1 Jl (ac (vr 3) an))))) (tn (tt (cl 1 (Gm Ue) (ac (o2 getD (vr 3) (vr 2)) an)))))
  (srs "NoSpring" (ac (cn (.str "there is no spring at this place")) an))
  skip)
  (sif (tt (cl 2 (Gm Qy) (ac (o2 getD (vr 3) (vr 2)) (ac (o2 getD (vr 4) (vr 2)) an))))
  (srs "Full" (ac (cn (.str "the pound is at its brim")) an))
  skip)))
def Uh:Fn:=fnB 5 Ju
theorem Gep:FnS ["canal","stand","number","places","levels"] ["canal","stand","number"] (Gf Xm):=kdF
abbrev z17:=Gf Xm
theorem Gze:OkC z17 "levels":=⟨by decide +kernel⟩
theorem Gzf:OkC z17 "places":=⟨by decide +kernel⟩
theorem Gd0(Al:All P w K mg base):CalX P w K mg base "check_feed" ["canal","stand","number"] Uh 3:=by
 have Sc:=Gep
 have T:=Al.t
 refine calxw (b:=Ju) 2 Al.h.h_check_feed Al.g Sc rfl fun _ _ _ _ _ _ _ _ hr L=>?_
 conv=>arg 3; whnf
 refine GSs.h ?_
 exact(Ge (Gmy 3 4 rfl Sc.nd rfl rfl (by decide) Gzf.h Gze.h (Ga (Gg (gw 0 Sc) ge_int) (Ga (Gg (gw 1 Sc) ge_int) ga_nil Gk) Gk) (by rfl))
  (Ge (Ho (GW.jt (Zu (Ga5 (Ghe Glb Gr9 Gix Gr8 ge_int (gw 2 Sc) (Qx (gG z17) T.b_len (Ga (gw 3 Sc) ga_nil Gc)))) (Zt (Ga5 (Qm (gow z17 (Gdu Al) hr (Ga (Gg (gw 3 Sc) (gw 2 Sc)) ga_nil Gk)))))))
  (Gi (Gau z17 L Al.X_NoSpring hr (Ga ge_str ga_nil Gb)))
  Gv)
  (Gi (Ho (Qm (gow z17 (Gcj Al) hr (Ga (Gg (gw 3 Sc) (gw 2 Sc)) (Ga (Gg (gw 4 Sc) (gw 2 Sc)) ga_nil Gk) Gk)))
  (Gi (Gau z17 L Al.X_Full hr (Ga ge_str ga_nil Gb)))
  Gv))))
def Gbl:Sv:=(sq (sa (o2 getD (vr 1) (cn (.int 0))) (gn 2))
  (sq (sa (cl 3 (Gm Ko) (ac (cl 2 (Gm Wv) (ac (vr 0) (ac (vr 2) an))) (ac (cl 1 (Gm Vb) (ac (vr 1) an)) (ac (o1 Ga2 (cn (.int 1))) an)))) (gn 3))
  (sret (cl 3 (Gm Xs) (ac (vr 0) (ac (vr 2) (ac (cl 3 (Gm Ko) (ac (vr 3) (ac (cl 1 (Gm Kr) (ac (vr 1) an)) (ac (cn (.int 1)) an)))) an)))))))
def Gc0:Fn:=fnB 4 Gbl
theorem Gm7:FnS ["stand","deed","word","row"] ["stand","deed"] (Gf Gds):=kdF
abbrev z18:=Gf Gds
theorem Gkt(Al:All P w K mg base):Cal P w K mg base "moved" ["stand","deed"] Gc0 2:=by
 have Sc:=Gm7
 refine calw (b:=Gbl) 1 Al.h.h_moved Al.g Sc rfl fun _ _ _ _ _ _ _ hr=>?_
 conv=>arg 3; whnf
 refine GSs.h ?_
 exact(Ge (gsew 2 Sc (Gg (gw 1 Sc) ge_int))
  (Ge (gsew 3 Sc (gow z18 (Va Al) hr (Ga (gow z18 (Gaw Al) hr (Ga (gw 0 Sc) (Ga (gw 2 Sc) ga_nil Gc) Gc)) (Ga (gow z18 (Zj Al) hr (Ga (gw 1 Sc) ga_nil Gc)) (Ga (Yk ge_int) ga_nil Gdh) Hc) Hc)))
  (Gi (Gq (gow z18 (Gco Al) hr (Ga (gw 0 Sc) (Ga (gw 2 Sc) (Ga (gow z18 (Va Al) hr (Ga (gw 3 Sc) (Ga (gow z18 (Ux Al) hr (Ga (gw 1 Sc) ga_nil Gc)) (Ga ge_int ga_nil Gb) Hc) Gc)) ga_nil Hc) Gc) Gc))))))
def Qf:Sv:=(sq (sif (tb (o2 eqD (o2 getD (o2 getD (vr 0) (cn (.int 0))) (vr 2)) (cn c_END)))
  (sret (vr 1))
  skip)
  (sret (cl 3 (Gm Ko) (ac (vr 1) (ac (vr 2) (ac (vr 3) an))))))
def Vv:Fn:=fnB 4 Qf
theorem Geq:FnS ["canal","levels","place","many"] ["canal","levels","place","many"] (Gf Xn):=kdF
abbrev z19:=Gf Xn
theorem Gaf(Al:All P w K mg base):Cal P w K mg base "with_water" ["canal","levels","place","many"] Vv 2:=by
 have Sc:=Geq
 have T:=Al.t
 refine calw (b:=Qf) 1 Al.h.h_with_water Al.g Sc rfl fun _ _ _ _ _ _ _ hr=>?_
 conv=>arg 3; whnf
 refine GSs.h ?_
 exact(Ge (Ho (Jh hr.units (Gg (Gg (gw 0 Sc) ge_int) (gw 2 Sc)) (T.c_END (gG z19)))
  (Gi (Gq (gw 1 Sc)))
  Gv)
  (Gi (Gq (gow z19 (Va Al) hr (Ga (gw 1 Sc) (Ga (gw 2 Sc) (Ga (gw 3 Sc) ga_nil Gc) Gc) Gc)))))
def Wn:Sv:=(sq (sa (vr 1) (gt (gcons (gn 3) (gcons (gn 4) (gcons (gn 5) gnil))) 3))
  (sq (sa (cl 4 (Gm Vv) (ac (vr 0) (ac (vr 3) (ac (cl 2 (Gm Gad) (ac (vr 0) (ac (vr 2) an))) (ac (o1 Ga2 (cn (.int 1))) an))))) (gn 3))
  (sq (sa (cl 4 (Gm Vv) (ac (vr 0) (ac (vr 3) (ac (cl 2 (Gm Gbk) (ac (vr 0) (ac (vr 2) an))) (ac (cn (.int 1)) an))))) (gn 3))
  (sret (tp (ac (vr 3) (ac (vr 4) (ac (vr 5) an))))))))
def Ga8:Fn:=fnB 6 Wn
theorem Ghg:FnS ["canal","stand","gate","levels","rights","lefts"] ["canal","stand","gate"] (Gf Zw):=kdF
abbrev z20:=Gf Zw
theorem Gf6(Al:All P w K mg base):Cal P w K mg base "let_down" ["canal","stand","gate"] Ga8 3:=by
 have Sc:=Ghg
 refine calw (b:=Wn) 2 Al.h.h_let_down Al.g Sc rfl fun _ _ _ _ _ _ _ hr=>?_
 conv=>arg 3; whnf
 refine GSs.h ?_
 exact(Ge (Ka (gw 1 Sc) (Jo rfl (Go (ggw 3 Sc) (Go (ggw 4 Sc) (Go (ggw 5 Sc) Ja)))))
  (Ge (gsew 3 Sc (gow z20 (Gaf Al) hr (Ga (gw 0 Sc) (Ga (gw 3 Sc) (Ga (gow z20 (Ga7 Al) hr (Ga (gw 0 Sc) (Ga (gw 2 Sc) ga_nil Gc) Gc)) (Ga (Yk ge_int) ga_nil Gdh) Hc) Gc) Gc)))
  (Ge (gsew 3 Sc (gow z20 (Gaf Al) hr (Ga (gw 0 Sc) (Ga (gw 3 Sc) (Ga (gow z20 (Gb4 Al) hr (Ga (gw 0 Sc) (Ga (gw 2 Sc) ga_nil Gc) Gc)) (Ga ge_int ga_nil Gb) Hc) Gc) Gc)))
  (Gi (Gq (Gr (Ga (gw 3 Sc) (Ga (gw 4 Sc) (Ga (gw 5 Sc) ga_nil Gc) Gc) Gc)))))))
def Ks:Sv:=(sret (o2 eqD (cl 1 (Gm Kr) (ac (vr 1) an)) (ie (tb (o2 eqD (o2 getD (vr 1) (cn (.int 0))) (cn (.str "right")))) (o2 Xc (b1 Jl (ac (o2 getD (vr 0) (cn (.int 0))) an)) (cn (.int 1))) (cn (.int 0)))))
def Ui:Fn:=fnB 2 Ks
theorem Gcr:FnS ["canal","deed"] ["canal","deed"] (Gf Vq):=kdF
abbrev z21:=Gf Vq
theorem Gb5(Al:All P w K mg base):Cal P w K mg base "is_last_move" ["canal","deed"] Ui 2:=by
 have Sc:=Gcr
 have T:=Al.t
 refine calw (b:=Ks) 1 Al.h.h_is_last_move Al.g Sc rfl fun _ _ _ _ _ _ _ hr=>?_
 conv=>arg 3; whnf
 refine GSs.h ?_
 exact(Gi (Gq (Wu hr.units (gow z21 (Ux Al) hr (Ga (gw 1 Sc) ga_nil Gc)) (Xf (Jh hr.units (Gg (gw 1 Sc) ge_int) ge_str) (Xe (Qx (gG z21) T.b_len (Ga (Gg (gw 0 Sc) ge_int) ga_nil Gk)) ge_int) ge_int))))
def He:Sv:=(sq (sa (vr 2) (gt (gcons (gn 3) (gcons (gn 4) gnil)) 2))
  (sq (sif (tb (o2 eqD (vr 3) (cn (.str "let"))))
  (sq (sx (cl 3 (gX ys Ww) (ac (vr 0) (ac (vr 1) (ac (vr 4) an)))))
  (sret (tp (ac (cl 3 (Gm Ga8) (ac (vr 0) (ac (vr 1) (ac (vr 4) an)))) (ac (cn (.int 0)) (ac (cn (.int 0)) an))))))
  skip)
  (sq (sif (tb (o2 eqD (vr 3) (cn (.str "feed"))))
  (sq (sx (cl 3 (gX ys Uh) (ac (vr 0) (ac (vr 1) (ac (vr 4) an)))))
  (sq (sa (vr 1) (gt (gcons (gn 5) (gcons (gn 6) (gcons (gn 7) gnil))) 3))
  (sret (tp (ac (tp (ac (cl 3 (Gm Ko) (ac (vr 5) (ac (vr 4) (ac (cn (.int 1)) an)))) (ac (vr 6) (ac (vr 7) an)))) (ac (o2 getD (o2 getD (o2 getD (vr 0) (cn (.int 0))) (vr 4)) (cn (.int 4))) (ac (cn (.int 0)) an)))))))
  skip)
  (sq (sx (cl 3 (gX ys Ug) (ac (vr 0) (ac (vr 1) (ac (vr 2) an)))))
  (sret (tp (ac (cl 2 (Gm Gc0) (ac (vr 1) (ac (vr 2) an))) (ac (cn (.int 0)) (ac (ie (tt (cl 2 (Gm Ui) (ac (vr 0) (ac (vr 2) an)))) (cn (.int 1)) (cn (.int 0))) an)))))))))
def Ht:Fn:=fnB 8 He
theorem Gf7:FnS ["canal","stand","deed","word","number","levels","rights","lefts"] ["canal","stand","deed"] (Gf Yq):=kdF
abbrev z22:=Gf Yq
theorem Ger(Al:All P w K mg base):CalX P w K mg base "deed_done" ["canal","stand","deed"] Ht 5:=by
 have Sc:=Gf7
 have T:=Al.t
 refine calxw (b:=He) 4 Al.h.h_deed_done Al.g Sc rfl fun _ _ _ _ _ _ _ _ hr L=>?_
 conv=>arg 3; whnf
 refine GSs.h ?_
 exact(Ge (Ka (gw 2 Sc) (Jo rfl (Go (ggw 3 Sc) (Go (ggw 4 Sc) Ja))))
  (Ge (Ho (Jh hr.units (gw 3 Sc) ge_str)
  (Ge (Qb (Gf2 z22 T.xt.xns L (Geo Al) hr (Ga (gw 0 Sc) (Ga (gw 1 Sc) (Ga (gw 4 Sc) ga_nil Gc) Gc) Gc)))
  (Gi (Gq (Gr (Ga (gow z22 (Gf6 Al) hr (Ga (gw 0 Sc) (Ga (gw 1 Sc) (Ga (gw 4 Sc) ga_nil Gc) Gc) Gc)) (Ga ge_int (Ga ge_int ga_nil Gb) Gb) Hc)))))
  Gv)
  (Ge (Ho (Jh hr.units (gw 3 Sc) ge_str)
  (Ge (Qb (Gf2 z22 T.xt.xns L (Gd0 Al) hr (Ga (gw 0 Sc) (Ga (gw 1 Sc) (Ga (gw 4 Sc) ga_nil Gc) Gc) Gc)))
  (Ge (Ka (gw 1 Sc) (Jo rfl (Go (ggw 5 Sc) (Go (ggw 6 Sc) (Go (ggw 7 Sc) Ja)))))
  (Gi (Gq (Gr (Ga (Gr (Ga (gow z22 (Va Al) hr (Ga (gw 5 Sc) (Ga (gw 4 Sc) (Ga ge_int ga_nil Gb) Gc) Gc)) (Ga (gw 6 Sc) (Ga (gw 7 Sc) ga_nil Gc) Gc) Hc)) (Ga (Gg (Gg (Gg (gw 0 Sc) ge_int) (gw 4 Sc)) ge_int) (Ga ge_int ga_nil Gb) Gk) Hn))))))
  Gv)
  (Ge (Qb (Gf2 z22 T.xt.xns L (Gdz Al) hr (Ga (gw 0 Sc) (Ga (gw 1 Sc) (Ga (gw 2 Sc) ga_nil Gc) Gc) Gc)))
  (Gi (Gq (Gr (Ga (gow z22 (Gkt Al) hr (Ga (gw 1 Sc) (Ga (gw 2 Sc) ga_nil Gc) Gc)) (Ga ge_int (Ga (Xf (Qm (gow z22 (Gb5 Al) hr (Ga (gw 0 Sc) (Ga (gw 2 Sc) ga_nil Gc) Gc))) ge_int ge_int) ga_nil Gl4) Gb) Hc))))))))
def Kt:Sv:=(sq (sa (vr 0) (gt (gcons (gn 1) (gcons (gn 2) (gcons (gn 3) gnil))) 3))
  (sret (tp (ac (vr 1) (ac (o2 Gw (tp (ac (cn (.int 1)) an)) (sl2 (vr 2) (osome (cn (.int 1))) onone)) (ac (o2 Gw (sl2 (vr 3) onone (osome (o1 Ga2 (cn (.int 1))))) (tp (ac (cn (.int 1)) an))) an))))))
def Uj:Fn:=fnB 4 Kt
theorem Gcs:FnS ["stand","levels","rights","lefts"] ["stand"] (Gf Zh):=kdF
theorem Gb6(Al:All P w K mg base):Cal P w K mg base "with_waiting" ["stand"] Uj 1:=by
 have Sc:=Gcs
 refine calw (b:=Kt) 0 Al.h.h_with_waiting Al.g Sc rfl fun _ _ _ _ _ _ _ hr=>?_
 conv=>arg 3; whnf
 refine GSs.h ?_
 exact(Ge (Ka (gw 0 Sc) (Jo rfl (Go (ggw 1 Sc) (Go (ggw 2 Sc) (Go (ggw 3 Sc) Ja)))))
  (Gi (Gq (Gr (Ga (gw 1 Sc) (Ga (Gu (Gr (Ga ge_int ga_nil Gb)) (Jc (gw 2 Sc) (Ji ge_int) Ud)) (Ga (Gu (Jc (gw 3 Sc) Ud (Ji (Yk ge_int))) (Gr (Ga ge_int ga_nil Gb))) ga_nil Hm) Hm) Gc)))))
def Ku:Sv:=(sq (sa (vr 0) (gt (gcons (gn 1) (gcons (gn 2) (gcons (gn 3) gnil))) 3))
  (sret (tp (ac (vr 1) (ac (o2 Gw (o2 Gw (tp (ac (cn (.int 0)) an)) (sl2 (vr 2) (osome (cn (.int 1))) (osome (o1 Ga2 (cn (.int 1)))))) (tp (ac (cn (.int 0)) an))) (ac (o2 Gw (o2 Gw (tp (ac (cn (.int 0)) an)) (sl2 (vr 3) (osome (cn (.int 1))) (osome (o1 Ga2 (cn (.int 1)))))) (tp (ac (cn (.int 0)) an))) an))))))
def Wo:Fn:=fnB 4 Ku
theorem Gct:FnS ["stand","levels","rights","lefts"] ["stand"] (Gf Zi):=kdF
theorem Gb7(Al:All P w K mg base):Cal P w K mg base "without_ends" ["stand"] Wo 1:=by
 have Sc:=Gct
 refine calw (b:=Ku) 0 Al.h.h_without_ends Al.g Sc rfl fun _ _ _ _ _ _ _ hr=>?_
 conv=>arg 3; whnf
 refine GSs.h ?_
 exact(Ge (Ka (gw 0 Sc) (Jo rfl (Go (ggw 1 Sc) (Go (ggw 2 Sc) (Go (ggw 3 Sc) Ja)))))
  (Gi (Gq (Gr (Ga (gw 1 Sc) (Ga (Gu (Gu (Gr (Ga ge_int ga_nil Gb)) (Jc (gw 2 Sc) (Ji ge_int) (Ji (Yk ge_int)))) (Gr (Ga ge_int ga_nil Gb))) (Ga (Gu (Gu (Gr (Ga ge_int ga_nil Gb)) (Jc (gw 3 Sc) (Ji ge_int) (Ji (Yk ge_int)))) (Gr (Ga ge_int ga_nil Gb))) ga_nil Hm) Hm) Gc)))))
def Kc:Sv:=(sq (sa (cl 3 (gX ys Ht) (ac (vr 0) (ac (cl 1 (Gm Uj) (ac (vr 1) an)) (ac (vr 2) an)))) (gt (gcons (gn 3) (gcons (gn 4) (gcons (gn 5) gnil))) 3))
  (sret (tp (ac (cl 1 (Gm Wo) (ac (vr 3) an)) (ac (vr 4) (ac (vr 5) an))))))
def Ha:Fn:=fnB 6 Kc
theorem Gf8:FnS ["canal","stand","deed","behind","price","gain"] ["canal","stand","deed"] (Gf Yr):=kdF
abbrev z25:=Gf Yr
theorem Ges(Al:All P w K mg base):CalX P w K mg base "open_done" ["canal","stand","deed"] Ha 6:=by
 have Sc:=Gf8
 have T:=Al.t
 refine calxw (b:=Kc) 5 Al.h.h_open_done Al.g Sc rfl fun _ _ _ _ _ _ _ _ hr L=>?_
 conv=>arg 3; whnf
 refine GSs.h ?_
 exact(Ge (Ka (Gf2 z25 T.xt.xns L (Ger Al) hr (Ga (gw 0 Sc) (Ga (gow z25 (Gb6 Al) hr (Ga (gw 1 Sc) ga_nil Gc)) (Ga (gw 2 Sc) ga_nil Gc) Hc) Gc)) (Jo rfl (Go (ggw 3 Sc) (Go (ggw 4 Sc) (Go (ggw 5 Sc) Ja)))))
  (Gi (Gq (Gr (Ga (gow z25 (Gb7 Al) hr (Ga (gw 3 Sc) ga_nil Gc)) (Ga (gw 4 Sc) (Ga (gw 5 Sc) ga_nil Gc) Gc) Hc)))))
def Kv:Sv:=(sa (clv 3 "open_done" 3 (gX ys Ha) (ac (vr 0) (ac (vr 4) (ac (vr 8) an)))) (gt (gcons (gn 4) (gcons (gn 9) (gcons (gn 10) gnil))) 3))
def Qz:Sv:=(sq (Zf ys (Gqm "Falls" (ac (vr 7) an)) Kv)
  (sq (sag 5 (fun a b=>a+b) (vr 9))
  (sag 6 (fun a b=>a+b) (vr 10))))
def Vh:Sv:=(sq (sa (vr 1) (gn 4))
  (sq (sa (cn (.int 0)) (gn 5))
  (sq (sa (cn (.int 0)) (gn 6))
  (sq (sfor (Wf (ac (vr 2) an)) (gt (gcons (gn 7) (gcons (gn 8) gnil)) 2) Qz)
  (sret (tp (ac (vr 4) (ac (vr 5) (ac (vr 6) an)))))))))
def Gag:Fn:=fnB 11 Vh
theorem Gku:FnS ["canal","stand","deeds","done","behind","price","gain","at","deed","paid","gained"] ["canal","stand","deeds","done"] (Gf Gb2):=kdF
abbrev z26:=Gf Gb2
theorem Gqu:Hf "Falls"=true:=by decide +kernel
theorem Gax:Hf "SummitError"=true:=by decide +kernel
theorem Gif(Al:All P w K mg base):CalX P w K mg base "row_by" ["canal","stand","deeds","done"] Gag 7:=by
 have Sc:=Gku
 have T:=Al.t
 refine calxw (b:=Vh) 6 Al.h.h_row_by Al.g Sc rfl fun _ _ _ _ _ _ _ _ hr L=>?_
 conv=>arg 3; whnf
 refine GSs.h ?_
 exact(Ge (gsew 4 Sc (gw 1 Sc))
  (Ge (gsew 5 Sc ge_int)
  (Ge (gsew 6 Sc ge_int)
  (Ge (Ym L.pas rfl (Ghd (gG z26) T.b_enumerate (Ga (gw 2 Sc) ga_nil Gc)) (Jo rfl (Go (ggw 7 Sc) (Go (ggw 8 Sc) Ja)))
  (Ge (Gqs ⟨rfl,rfl,rfl⟩ L T.xt.cat (gG z26) Gax Al.Q_Falls hr (gG z26) Gqu (fun pn xe XQ L=>(Gi (Ka (Gza 3 Sc T.xt.xns L (Ges Al) hr (Ga (gw 0 Sc) (Ga (gw 4 Sc) (Ga (gw 8 Sc) ga_nil Gc) Gc) Gc)) (Jo rfl (Go (ggw 4 Sc) (Go (ggw 9 Sc) (Go (ggw 10 Sc) Ja)))))))
  (fun a=>(Ga (gw 7 Sc) ga_nil Gc)))
  (Ge (gsiw 5 Sc (gw 9 Sc))
  (Gi (gsiw 6 Sc (gw 10 Sc))))))
  (Gi (Gq (Gr (Ga (gw 4 Sc) (Ga (gw 5 Sc) (Ga (gw 6 Sc) ga_nil Gc) Gc) Gc))))))))
def Kw:Sv:=(sret (cl 4 (gX ys Gag) (ac (vr 0) (ac (vr 1) (ac (vr 2) (ac (cn (.fv "open_done")) an))))))
def Jw:Fn:=fnB 3 Kw
theorem Ghh:FnS ["canal","stand","deeds"] ["canal","stand","deeds"] (Gf Zx):=kdF
abbrev z27:=Gf Zx
theorem Gf9(Al:All P w K mg base):CalX P w K mg base "open_row" ["canal","stand","deeds"] Jw 8:=by
 have Sc:=Ghh
 have T:=Al.t
 refine calxw (b:=Kw) 7 Al.h.h_open_row Al.g Sc rfl fun _ _ _ _ _ _ _ _ hr L=>?_
 conv=>arg 3; whnf
 refine GSs.h ?_
 exact(Gi (Gq (Gf2 z27 T.xt.xns L (Gif Al) hr (Ga (gw 0 Sc) (Ga (gw 1 Sc) (Ga (gw 2 Sc) (Ga (Gv7 T.fv_open_done (gG z27) (by decide +kernel)) ga_nil Gc) Gc) Gc) Gc))))
def Vi:Sv:=(sret (ls (ac (b1 Qo (ac (sl2 (vr 0) onone (osome (cn (.int 63)))) an)) (ac (cn (.int 0)) (ac (cn (.int 0)) an)))))
def Gah:Fn:=fnB 1 Vi
theorem Gga:FnS ["_law_script"] ["_law_script"] (Gf Ys):=kdF
abbrev z28:=Gf Ys
theorem Get(Al:All P w K mg base):Cal P w K mg base "_law_tape" ["_law_script"] Gah 1:=by
 have Sc:=Gga
 have T:=Al.t
 refine calw (b:=Vi) 0 Al.h.h__law_tape Al.g Sc rfl fun _ _ _ _ _ _ _ hr=>?_
 conv=>arg 3; whnf
 refine GSs.h ?_
 exact(Gi (Gq (Hl (Ga (Gcz (gG z28) T.b_list (Ga (Jc (gw 0 Sc) Ud (Ji ge_int)) ga_nil Gk)) (Ga ge_int (Ga ge_int ga_nil Gb) Gb) Hc))))
def Kx:Sv:=(sq (sif (tb (o2 gtD (o2 getD (vr 0) (cn (.int 2))) (cn (.int 0))))
  (sq (sa (o2 Yj (o2 getD (vr 0) (cn (.int 2))) (vr 1)) (gn 2))
  (sq (ss (o2 We (o2 getD (vr 0) (cn (.int 2))) (vr 1)) (vr 0) (cn (.int 2)) Ub)
  (sret (vr 2))))
  skip)
  (sq (sa (o2 getD (vr 0) (cn (.int 1))) (gn 3))
  (sq (ss (o2 Gw (vr 3) (cn (.int 1))) (vr 0) (cn (.int 1)) Ub)
  (sq (sa (cn (.int 0)) (gn 4))
  (sq (sif (tb (o2 gtD (b1 Jl (ac (o2 getD (vr 0) (cn (.int 0))) an)) (cn (.int 0))))
  (sa (o2 getD (o2 getD (vr 0) (cn (.int 0))) (o2 Yj (vr 3) (b1 Jl (ac (o2 getD (vr 0) (cn (.int 0))) an)))) (gn 4))
  skip)
  (sq (sif (ta (tb (o2 ltD (vr 3) (b1 Jl (ac (o2 getD (vr 0) (cn (.int 0))) an)))) (tb (o2 geD (vr 4) (o2 Gfw (cn (.int 10)) (cn (.int 18))))))
  (sq (ss (o2 We (vr 4) (vr 1)) (vr 0) (cn (.int 2)) Ub)
  (sret (o2 Yj (vr 4) (vr 1))))
  skip)
  (sq (sa (o2 Yj (o2 Kj (o2 Gw (o2 Yj (vr 4) (cn (.int 1000003))) (cn (.int 1))) (o2 Gw (o2 Gw (o2 Kj (o2 Kj (cn (.int 7919)) (vr 3)) (vr 3)) (o2 Kj (cn (.int 104729)) (vr 3))) (cn (.int 12345)))) (cn (.int 2147483647))) (gn 5))
  (sq (sa (o2 Yj (o2 Gw (o2 Gw (o2 Kj (vr 5) (vr 5)) (o2 Kj (cn (.int 48271)) (vr 3))) (o2 Yj (vr 4) (cn (.int 65537)))) (cn (.int 2147483629))) (gn 5))
  (sret (o2 Yj (o2 We (vr 5) (cn (.int 8))) (vr 1)))))))))))
def Gj:Fn:=fnB 6 Kx
theorem Ggb:FnS ["_law_tape_here","_law_many","_law_digit","_law_at","_law_cell","_law_mixed"] ["_law_tape_here","_law_many"] (Gf Yt):=kdF
abbrev z29:=Gf Yt
theorem Gn(Al:All P w K mg base):Cal P w K mg base "_law_draw" ["_law_tape_here","_law_many"] Gj 1:=by
 have Sc:=Ggb
 have T:=Al.t
 refine calw (b:=Kx) 0 Al.h.h__law_draw Al.g Sc rfl fun _ _ _ _ _ _ _ hr=>?_
 conv=>arg 3; whnf
 refine GSs.h ?_
 exact(Ge (Ho (Gdp (Gg (gw 0 Sc) ge_int) ge_int)
  (Ge (gsew 2 Sc (Zr (Gg (gw 0 Sc) ge_int) (gw 1 Sc)))
  (Ge (Ve (Gcy (Gg (gw 0 Sc) ge_int) (gw 1 Sc)) (gw 0 Sc) ge_int)
  (Gi (Gq (gw 2 Sc)))))
  Gv)
  (Ge (gsew 3 Sc (Gg (gw 0 Sc) ge_int))
  (Ge (Ve (Gu (gw 3 Sc) ge_int) (gw 0 Sc) ge_int)
  (Ge (gsew 4 Sc ge_int)
  (Ge (Ho (Gdp (Qx (gG z29) T.b_len (Ga (Gg (gw 0 Sc) ge_int) ga_nil Gk)) ge_int)
  (Gi (gsew 4 Sc (Gg (Gg (gw 0 Sc) ge_int) (Zr (gw 3 Sc) (Qx (gG z29) T.b_len (Ga (Gg (gw 0 Sc) ge_int) ga_nil Gk))))))
  Gv)
  (Ge (Ho (GW.jt (Xg (Gi9 (gw 3 Sc) (Qx (gG z29) T.b_len (Ga (Gg (gw 0 Sc) ge_int) ga_nil Gk))) (Uz (Gja (gw 4 Sc) (Gv9 ge_int ge_int)))))
  (Ge (Ve (Gcy (gw 4 Sc) (gw 1 Sc)) (gw 0 Sc) ge_int)
  (Gi (Gq (Zr (gw 4 Sc) (gw 1 Sc)))))
  Gv)
  (Ge (gsew 5 Sc (Zr (Wg (Gu (Zr (gw 4 Sc) ge_int) ge_int) (Gu (Gu (Wg (Wg ge_int (gw 3 Sc)) (gw 3 Sc)) (Wg ge_int (gw 3 Sc))) ge_int)) ge_int))
  (Ge (gsew 5 Sc (Zr (Gu (Gu (Wg (gw 5 Sc) (gw 5 Sc)) (Wg ge_int (gw 3 Sc))) (Zr (gw 4 Sc) ge_int)) ge_int))
  (Gi (Gq (Zr (Gcy (gw 5 Sc) ge_int) (gw 1 Sc))))))))))))
def Yx:Sv:=(sq (sa (o2 getD (ls (ac (cn (.int 1)) (ac (cn (.int 2)) (ac (cn (.int 3)) (ac (o2 Gw (cn (.int 1)) (cl 2 (Gm Gj) (ac (vr 0) (ac (cn (.int 9)) an)))) an))))) (cl 2 (Gm Gj) (ac (vr 0) (ac (cn (.int 4)) an)))) (gn 1))
  (sq (sa (b1 Gkh (ac (vr 1) (ac (o2 getD (ls (ac (cn (.int 0)) (ac (cn (.int 0)) (ac (cn (.int 1)) (ac (cl 2 (Gm Gj) (ac (vr 0) (ac (cn (.int 10)) an))) an))))) (cl 2 (Gm Gj) (ac (vr 0) (ac (cn (.int 4)) an)))) an))) (gn 2))
  (sq (sa (o2 getD (ls (ac (cn (.int 1)) (ac (cn (.int 2)) (ac (o2 Gw (cn (.int 1)) (cl 2 (Gm Gj) (ac (vr 0) (ac (cn (.int 4)) an)))) an)))) (cl 2 (Gm Gj) (ac (vr 0) (ac (cn (.int 3)) an)))) (gn 3))
  (sq (sa (o2 getD (ls (ac (cn .non) (ac (cl 2 (Gm Gj) (ac (vr 0) (ac (cn (.int 100)) an))) (ac (o2 Gw (cn (.int 1)) (cl 2 (Gm Gj) (ac (vr 0) (ac (cn (.int 5)) an)))) (ac (cn (.int 0)) an))))) (cl 2 (Gm Gj) (ac (vr 0) (ac (cn (.int 4)) an)))) (gn 4))
  (sret (tp (ac (cn (.str "pound")) (ac (vr 1) (ac (vr 2) (ac (vr 3) (ac (vr 4) an)))))))))))
def Vw:Fn:=fnB 5 Yx
theorem Geu:FnS ["_law_tape_here","_law_brim","_law_deep","_law_room","_law_price"] ["_law_tape_here"] (Gf Xo):=kdF
abbrev z30:=Gf Xo
theorem Gd1(Al:All P w K mg base):Cal P w K mg base "_law_pound" ["_law_tape_here"] Vw 2:=by
 have Sc:=Geu
 have T:=Al.t
 refine calw (b:=Yx) 1 Al.h.h__law_pound Al.g Sc rfl fun _ _ _ _ _ _ _ hr=>?_
 conv=>arg 3; whnf
 refine GSs.h ?_
 exact(Ge (gsew 1 Sc (Gg (Hl (Ga ge_int (Ga ge_int (Ga ge_int (Ga (Gu ge_int (gow z30 (Gn Al) hr (Ga (gw 0 Sc) (Ga ge_int ga_nil Gb) Gc))) ga_nil Hm) Gb) Gb) Gb)) (gow z30 (Gn Al) hr (Ga (gw 0 Sc) (Ga ge_int ga_nil Gb) Gc))))
  (Ge (gsew 2 Sc (Gwc rfl (gG z30) T.b_min (Ga (gw 1 Sc) (Ga (Gg (Hl (Ga ge_int (Ga ge_int (Ga ge_int (Ga (gow z30 (Gn Al) hr (Ga (gw 0 Sc) (Ga ge_int ga_nil Gb) Gc)) ga_nil Hc) Gb) Gb) Gb)) (gow z30 (Gn Al) hr (Ga (gw 0 Sc) (Ga ge_int ga_nil Gb) Gc))) ga_nil Gk) Gc)))
  (Ge (gsew 3 Sc (Gg (Hl (Ga ge_int (Ga ge_int (Ga (Gu ge_int (gow z30 (Gn Al) hr (Ga (gw 0 Sc) (Ga ge_int ga_nil Gb) Gc))) ga_nil Hm) Gb) Gb)) (gow z30 (Gn Al) hr (Ga (gw 0 Sc) (Ga ge_int ga_nil Gb) Gc))))
  (Ge (gsew 4 Sc (Gg (Hl (Ga Gf1 (Ga (gow z30 (Gn Al) hr (Ga (gw 0 Sc) (Ga ge_int ga_nil Gb) Gc)) (Ga (Gu ge_int (gow z30 (Gn Al) hr (Ga (gw 0 Sc) (Ga ge_int ga_nil Gb) Gc))) (Ga ge_int ga_nil Gb) Hm) Hc) Gb)) (gow z30 (Gn Al) hr (Ga (gw 0 Sc) (Ga ge_int ga_nil Gb) Gc))))
  (Gi (Gq (Gr (Ga ge_str (Ga (gw 1 Sc) (Ga (gw 2 Sc) (Ga (gw 3 Sc) (Ga (gw 4 Sc) ga_nil Gc) Gc) Gc) Gc) Gb))))))))
def Jp:Sv:=(sq (sa (va (o2 ltD (cn (.int 0)) (vr 4)) (va (o2 ltD (vr 4) (o2 Xc (vr 2) (cn (.int 1)))) (o2 eqD (o2 getD (vr 3) (o1 Ga2 (cn (.int 1)))) (tp (ac (cn (.str "chamber")) an))))) (gn 5))
  (sif (ta (tt (vr 5)) (tb (o2 gtD (cl 2 (Gm Gj) (ac (vr 0) (ac (cn (.int 4)) an))) (cn (.int 0)))))
  (sx (mt Yb (vr 3) (ac (cl 1 (Gm Vw) (ac (vr 0) an)) an)))
  (sx (mt Yb (vr 3) (ac (tp (ac (cn (.str "chamber")) an)) an)))))
def Uk:Sv:=(sq (sa (o2 Gw (cn (.int 1)) (cl 2 (Gm Gj) (ac (vr 0) (ac (vr 1) an)))) (gn 2))
  (sq (sa (ls (ac (tp (ac (cn (.str "end")) an)) an)) (gn 3))
  (sq (sfor (ir1 (ac (vr 2) an)) (gn 4) Jp)
  (sq (sa (o2 Gw (cn (.int 1)) (cl 2 (Gm Gj) (ac (vr 0) (ac (vr 2) an)))) (gn 6))
  (sq (sa (o2 Gw (o2 Kj (ls (ac (cn (.str "up")) an)) (vr 6)) (o2 Kj (ls (ac (cn (.str "down")) an)) (o2 Xc (o2 Gw (vr 2) (cn (.int 1))) (vr 6)))) (gn 7))
  (sq (sif (tb (o2 eqD (cl 2 (Gm Gj) (ac (vr 0) (ac (cn (.int 3)) an))) (cn (.int 0))))
  (sa (cmp (ir1 (ac (o2 Gw (vr 2) (cn (.int 1))) an)) [none,some 0] (gn 0) ttrue (o2 getD (ls (ac (cn (.str "up")) (ac (cn (.str "down")) an))) (cl 2 (Gm Gj) (ac (vr 1) (ac (cn (.int 2)) an))))) (gn 7))
  skip)
  (sret (tp (ac (b1 Xd (ac (o2 Gw (vr 3) (ls (ac (tp (ac (cn (.str "end")) an)) an))) an)) (ac (b1 Xd (ac (vr 7) an)) an))))))))))
def Vx:Fn:=fnB 8 Uk
theorem Gev:FnS ["_law_tape_here","_law_most","_law_many","_law_places","_law_k","_law_amid","_law_top","_law_gates"] ["_law_tape_here","_law_most"] (Gf Xp):=kdF
abbrev z31:=Gf Xp
theorem Gd2(Al:All P w K mg base):Cal P w K mg base "_law_canal" ["_law_tape_here","_law_most"] Vx 3:=by
 have Sc:=Gev
 have T:=Al.t
 refine calw (b:=Uk) 2 Al.h.h__law_canal Al.g Sc rfl fun _ _ _ _ _ _ _ hr=>?_
 conv=>arg 3; whnf
 refine GSs.h ?_
 exact(Ge (gsew 2 Sc (Gu ge_int (gow z31 (Gn Al) hr (Ga (gw 0 Sc) (Ga (gw 1 Sc) ga_nil Gc) Gc))))
  (Ge (gsew 3 Sc (Hl (Ga (Gr (Ga ge_str ga_nil Gb)) ga_nil Hn)))
  (Ge (Ym PassesOwn.never rfl (Gap (gG z31) T.b_range (Ga (gw 2 Sc) ga_nil Gc)) (ggw 4 Sc)
  (Ge (gsew 5 Sc (Zs (Gmw ge_int (gw 4 Sc)) (Zs (Gmw (gw 4 Sc) (Xe (gw 2 Sc) ge_int)) (Ga4 (Wu hr.units (Gg (gw 3 Sc) (Yk ge_int)) (Gr (Ga ge_str ga_nil Gb)))))))
  (Gi (Ho (GW.jt (Xg (Qm (gw 5 Sc)) (Uz (Gdp (gow z31 (Gn Al) hr (Ga (gw 0 Sc) (Ga ge_int ga_nil Gb) Gc)) ge_int))))
  (Gi (Qb (Ut (gw 3 Sc) (Ga (gow z31 (Gd1 Al) hr (Ga (gw 0 Sc) ga_nil Gc)) ga_nil Hc))))
  (Gi (Qb (Ut (gw 3 Sc) (Ga (Gr (Ga ge_str ga_nil Gb)) ga_nil Hn))))))))
  (Ge (gsew 6 Sc (Gu ge_int (gow z31 (Gn Al) hr (Ga (gw 0 Sc) (Ga (gw 2 Sc) ga_nil Gc) Gc))))
  (Ge (gsew 7 Sc (Gu (Wg (Hl (Ga ge_str ga_nil Gb)) (gw 6 Sc)) (Wg (Hl (Ga ge_str ga_nil Gb)) (Xe (Gu (gw 2 Sc) ge_int) (gw 6 Sc)))))
  (Ge (Ho (Jh hr.units (gow z31 (Gn Al) hr (Ga (gw 0 Sc) (Ga ge_int ga_nil Gb) Gc)) ge_int)
  (Gi (Gm2 7 (N':=["_law_k","_law_tape_here"]) (pk:=[none,some 0]) Sc (Gap (gG z31) T.b_range (Ga (Gu (gw 2 Sc) ge_int) ga_nil Hm)) (fun cl s2 H2 C fp=>(Gm3 0)) (fun cl s2 H2 C fp=>Gjb) (fun cl s2 H2 C fp=>(Gg (Hl (Ga ge_str (Ga ge_str ga_nil Gb) Gb)) (Ha5 (Gn Al) hr (Ga (Gjd 1) (Ga ge_int ga_nil Gb) Gc))))))
  Gv)
  (Gi (Gq (Gr (Ga (Qp (gG z31) T.b_tuple (Ga (Gu (gw 3 Sc) (Hl (Ga (Gr (Ga ge_str ga_nil Gb)) ga_nil Hn))) ga_nil Hm)) (Ga (Qp (gG z31) T.b_tuple (Ga (gw 7 Sc) ga_nil Gc)) ga_nil Hc) Hc))))))))))
def Qu:Sv:=(sq (sa (cn (.int 0)) (gn 5))
  (sq (sa (cl 2 (Gm Gj) (ac (vr 0) (ac (o2 Gw (vr 2) (cn (.int 1))) an))) (gn 6))
  (sq (sa (cl 2 (Gm Gj) (ac (vr 0) (ac (o2 Gw (vr 2) (cn (.int 1))) an))) (gn 7))
  (sq (sif (tb (o2 eqD (o2 getD (vr 4) (cn (.int 0))) (cn (.str "chamber"))))
  (sq (sa (cl 2 (Gm Gj) (ac (vr 0) (ac (cn (.int 2)) an))) (gn 5))
  (sq (sa (cl 2 (Gm Gj) (ac (vr 0) (ac (cn (.int 4)) an))) (gn 8))
  (sq (sa (b1 Gat (ac (o2 eqD (vr 8) (cn (.int 1))) an)) (gn 6))
  (sa (b1 Gat (ac (o2 eqD (vr 8) (cn (.int 2))) an)) (gn 7)))))
  skip)
  (sq (sif (tb (o2 eqD (o2 getD (vr 4) (cn (.int 0))) (cn (.str "pound"))))
  (sq (sa (o2 getD (ls (ac (cn (.int 0)) (ac (o2 getD (vr 4) (cn (.int 1))) (ac (cl 2 (Gm Gj) (ac (vr 0) (ac (o2 Gw (o2 getD (vr 4) (cn (.int 1))) (cn (.int 1))) an))) an)))) (cl 2 (Gm Gj) (ac (vr 0) (ac (cn (.int 3)) an)))) (gn 5))
  (sq (sa (cl 2 (Gm Gj) (ac (vr 0) (ac (o2 Gw (o2 getD (vr 4) (cn (.int 3))) (cn (.int 1))) an))) (gn 6))
  (sa (cl 2 (Gm Gj) (ac (vr 0) (ac (o2 Gw (o2 Xc (o2 getD (vr 4) (cn (.int 3))) (vr 6)) (cn (.int 1))) an))) (gn 7))))
  skip)
  (sq (sx (mt Yb (o2 getD (vr 3) (cn (.int 0))) (ac (vr 5) an)))
  (sq (sx (mt Yb (o2 getD (vr 3) (cn (.int 1))) (ac (vr 6) an)))
  (sx (mt Yb (o2 getD (vr 3) (cn (.int 2))) (ac (vr 7) an))))))))))
def Ul:Sv:=(sq (sa (ls (ac (ls an) (ac (ls an) (ac (ls an) an)))) (gn 3))
  (sq (sfor (isrc (o2 getD (vr 1) (cn (.int 0)))) (gn 4) Qu)
  (sret (tp (ac (b1 Xd (ac (o2 getD (vr 3) (cn (.int 0))) an)) (ac (b1 Xd (ac (o2 getD (vr 3) (cn (.int 1))) an)) (ac (b1 Xd (ac (o2 getD (vr 3) (cn (.int 2))) an)) an)))))))
def Vy:Fn:=fnB 9 Ul
theorem Gew:FnS ["_law_tape_here","_law_canal_here","_law_crowd","_law_rows","_law_place","_law_level","_law_rights","_law_lefts","_law_way"] ["_law_tape_here","_law_canal_here","_law_crowd"] (Gf Xq):=kdF
abbrev z32:=Gf Xq
theorem Gd3(Al:All P w K mg base):Cal P w K mg base "_law_stand" ["_law_tape_here","_law_canal_here","_law_crowd"] Vy 2:=by
 have Sc:=Gew
 have T:=Al.t
 refine calw (b:=Ul) 1 Al.h.h__law_stand Al.g Sc rfl fun _ _ _ _ _ _ _ hr=>?_
 conv=>arg 3; whnf
 refine GSs.h ?_
 exact(Ge (gsew 3 Sc (Hl (Ga (Hl ga_nil) (Ga (Hl ga_nil) (Ga (Hl ga_nil) ga_nil Gbd) Gbd) Gbd)))
  (Ge (Ym PassesOwn.never rfl (Gby (Gg (gw 1 Sc) ge_int)) (ggw 4 Sc)
  (Ge (gsew 5 Sc ge_int)
  (Ge (gsew 6 Sc (gow z32 (Gn Al) hr (Ga (gw 0 Sc) (Ga (Gu (gw 2 Sc) ge_int) ga_nil Hm) Gc)))
  (Ge (gsew 7 Sc (gow z32 (Gn Al) hr (Ga (gw 0 Sc) (Ga (Gu (gw 2 Sc) ge_int) ga_nil Hm) Gc)))
  (Ge (Ho (Jh hr.units (Gg (gw 4 Sc) ge_int) ge_str)
  (Ge (gsew 5 Sc (gow z32 (Gn Al) hr (Ga (gw 0 Sc) (Ga ge_int ga_nil Gb) Gc)))
  (Ge (gsew 8 Sc (gow z32 (Gn Al) hr (Ga (gw 0 Sc) (Ga ge_int ga_nil Gb) Gc)))
  (Ge (gsew 6 Sc (Yl (gG z32) T.b_int (Ga (Wu hr.units (gw 8 Sc) ge_int) ga_nil Qw)))
  (Gi (gsew 7 Sc (Yl (gG z32) T.b_int (Ga (Wu hr.units (gw 8 Sc) ge_int) ga_nil Qw)))))))
  Gv)
  (Ge (Ho (Jh hr.units (Gg (gw 4 Sc) ge_int) ge_str)
  (Ge (gsew 5 Sc (Gg (Hl (Ga ge_int (Ga (Gg (gw 4 Sc) ge_int) (Ga (gow z32 (Gn Al) hr (Ga (gw 0 Sc) (Ga (Gu (Gg (gw 4 Sc) ge_int) ge_int) ga_nil Hm) Gc)) ga_nil Hc) Gk) Gb)) (gow z32 (Gn Al) hr (Ga (gw 0 Sc) (Ga ge_int ga_nil Gb) Gc))))
  (Ge (gsew 6 Sc (gow z32 (Gn Al) hr (Ga (gw 0 Sc) (Ga (Gu (Gg (gw 4 Sc) ge_int) ge_int) ga_nil Hm) Gc)))
  (Gi (gsew 7 Sc (gow z32 (Gn Al) hr (Ga (gw 0 Sc) (Ga (Gu (Xe (Gg (gw 4 Sc) ge_int) (gw 6 Sc)) ge_int) ga_nil Hm) Gc))))))
  Gv)
  (Ge (Qb (Ut (Gg (gw 3 Sc) ge_int) (Ga (gw 5 Sc) ga_nil Gc)))
  (Ge (Qb (Ut (Gg (gw 3 Sc) ge_int) (Ga (gw 6 Sc) ga_nil Gc)))
  (Gi (Qb (Ut (Gg (gw 3 Sc) ge_int) (Ga (gw 7 Sc) ga_nil Gc))))))))))))
  (Gi (Gq (Gr (Ga (Qp (gG z32) T.b_tuple (Ga (Gg (gw 3 Sc) ge_int) ga_nil Gk)) (Ga (Qp (gG z32) T.b_tuple (Ga (Gg (gw 3 Sc) ge_int) ga_nil Gk)) (Ga (Qp (gG z32) T.b_tuple (Ga (Gg (gw 3 Sc) ge_int) ga_nil Gk)) ga_nil Hc) Hc) Hc))))))
def Um:Sv:=(sret (va (o1 (isD "int") (vr 0)) (vn (o1 (isD "bool") (vr 0)))))
def Yy:Fn:=fnB 1 Um
theorem Gex:FnS ["_law_thing"] ["_law_thing"] (Gf Xr):=kdF
abbrev z33:=Gf Xr
theorem Gd4(Al:All P w K mg base):Cal P w K mg base "_law_whole" ["_law_thing"] Yy 1:=by
 have Sc:=Gex
 have T:=Al.t
 refine calw (b:=Um) 0 Al.h.h__law_whole Al.g Sc rfl fun _ _ _ _ _ _ _ hr=>?_
 conv=>arg 3; whnf
 refine GSs.h ?_
 exact(Gi (Gq (Zs (Gbz (gG z33) (gG z33) Gi1 T.b_isinstance T.b_int (gw 0 Sc)) (Ga4 (Gwa (Gbz (gG z33) (gG z33) Gl2 T.b_isinstance T.b_bool (gw 0 Sc)))))))
def Jm:Sv:=(sif (ta (tb (o2 eqD (o2 getD (o2 getD (vr 5) (vr 13)) (cn (.int 0))) (cn (.str "pound")))) (tb (o2 ltD (o2 getD (o2 getD (vr 8) (cn (.int 0))) (vr 13)) (o2 getD (o2 getD (vr 5) (vr 13)) (cn (.int 2))))))
  (sret (cn (.str "shallow")))
  skip)
def Vj:Sv:=(sq (sa (o2 getD (vr 0) (cn (.int 0))) (gn 5))
  (sq (sa (vr 2) (gt (gcons (gn 6) (gcons (gn 7) gnil)) 2))
  (sq (sa (cmp (isrc (vr 1)) [none] (gn 0) ttrue (b1 Qo (ac (vr 0) an))) (gn 8))
  (sq (sa (o2 getD (ls (ac (cn (.int 2)) (ac (cn (.int 1)) an))) (b1 Gat (ac (o2 eqD (vr 6) (cn (.str "right"))) an))) (gn 9))
  (sq (sa (o2 Gw (vr 7) (b1 Gat (ac (o2 eqD (vr 6) (cn (.str "left"))) an))) (gn 10))
  (sq (sa (o2 Xc (o2 Gw (o2 Kj (cn (.int 2)) (vr 7)) (cn (.int 1))) (vr 10)) (gn 11))
  (sq (sif (tb (o2 eqD (o2 getD (o2 getD (vr 8) (vr 9)) (vr 10)) (cn (.int 0))))
  (sret (cn (.str "nobarge")))
  skip)
  (sq (sa (o2 Gw (o2 getD (o2 getD (vr 8) (cn (.int 1))) (vr 11)) (o2 getD (o2 getD (vr 8) (cn (.int 2))) (vr 11))) (gn 12))
  (sq (sif (ta (tb (o2 eqD (o2 getD (o2 getD (vr 5) (vr 11)) (cn (.int 0))) (cn (.str "chamber")))) (tb (o2 gtD (vr 12) (cn (.int 0)))))
  (sret (cn (.str "noroom")))
  skip)
  (sq (sif (ta (tb (o2 eqD (o2 getD (o2 getD (vr 5) (vr 11)) (cn (.int 0))) (cn (.str "pound")))) (tb (o2 geD (vr 12) (o2 getD (o2 getD (vr 5) (vr 11)) (cn (.int 3))))))
  (sret (cn (.str "noroom")))
  skip)
  (sq (sif (ta (tb (o2 eqD (o2 getD (o2 getD (vr 5) (vr 3)) (cn (.int 0))) (cn (.str "chamber")))) (tb (o2 gtD (o2 getD (o2 getD (vr 8) (cn (.int 0))) (vr 3)) (cn (.int 0)))))
  (sret (cn (.str "uneven")))
  skip)
  (sq (sif (ta (tb (o2 eqD (o2 getD (o2 getD (vr 5) (vr 4)) (cn (.int 0))) (cn (.str "chamber")))) (tb (o2 eqD (o2 getD (o2 getD (vr 8) (cn (.int 0))) (vr 4)) (cn (.int 0)))))
  (sret (cn (.str "uneven")))
  skip)
  (sq (sfor (isrc (ls (ac (vr 3) (ac (vr 4) an)))) (gn 13) Jm)
  (sq (ss (o2 Xc (o2 getD (o2 getD (vr 8) (vr 9)) (vr 10)) (cn (.int 1))) (o2 getD (vr 8) (vr 9)) (vr 10) Ub)
  (sq (ss (o2 Gw (o2 getD (o2 getD (vr 8) (vr 9)) (vr 11)) (cn (.int 1))) (o2 getD (vr 8) (vr 9)) (vr 11) Ub)
  (sq (sa (b1 Gat (ac (o2 eqD (vr 11) (o2 getD (ls (ac (cn (.int 0)) (ac (o2 Xc (b1 Jl (ac (vr 5) an)) (cn (.int 1))) an))) (b1 Gat (ac (o2 eqD (vr 6) (cn (.str "right"))) an)))) an)) (gn 14))
  (sret (tp (ac (tp (ac (b1 Xd (ac (o2 getD (vr 8) (cn (.int 0))) an)) (ac (b1 Xd (ac (o2 getD (vr 8) (cn (.int 1))) an)) (ac (b1 Xd (ac (o2 getD (vr 8) (cn (.int 2))) an)) an)))) (ac (cn (.int 0)) (ac (vr 14) an)))))))))))))))))))))
def Vk:Fn:=fnB 15 Vj
theorem Ggc:FnS ["_law_canal_here","_law_stand_here","_law_deed","_law_up","_law_down","_law_places","_law_word","_law_n","_law_rows","_law_own","_law_start","_law_goal","_law_there","_law_at","_law_gain"] ["_law_canal_here","_law_stand_here","_law_deed","_law_up","_law_down"] (Gf Yu):=kdF
abbrev z34:=Gf Yu
theorem Gey(Al:All P w K mg base):Cal P w K mg base "_law_gone" ["_law_canal_here","_law_stand_here","_law_deed","_law_up","_law_down"] Vk 1:=by
 have Sc:=Ggc
 have T:=Al.t
 refine calw (b:=Vj) 0 Al.h.h__law_gone Al.g Sc rfl fun _ _ _ _ _ _ _ hr=>?_
 conv=>arg 3; whnf
 refine GSs.h ?_
 exact(Ge (gsew 5 Sc (Gg (gw 0 Sc) ge_int))
  (Ge (Ka (gw 2 Sc) (Jo rfl (Go (ggw 6 Sc) (Go (ggw 7 Sc) Ja))))
  (Ge (Gm2 8 (N':=["_law_row"]) (pk:=[none]) Sc (Gby (gw 1 Sc)) (fun cl s2 H2 C fp=>(Gm3 0)) (fun cl s2 H2 C fp=>Gjb) (fun cl s2 H2 C fp=>(Gcz Gzb T.b_list (Ga (Gjd 0) ga_nil Gc))))
  (Ge (gsew 9 Sc (Gg (Hl (Ga ge_int (Ga ge_int ga_nil Gb) Gb)) (Yl (gG z34) T.b_int (Ga (Wu hr.units (gw 6 Sc) ge_str) ga_nil Qw))))
  (Ge (gsew 10 Sc (Gu (gw 7 Sc) (Yl (gG z34) T.b_int (Ga (Wu hr.units (gw 6 Sc) ge_str) ga_nil Qw))))
  (Ge (gsew 11 Sc (Xe (Gu (Wg ge_int (gw 7 Sc)) ge_int) (gw 10 Sc)))
  (Ge (Ho (Jh hr.units (Gg (Gg (gw 8 Sc) (gw 9 Sc)) (gw 10 Sc)) ge_int)
  (Gi (Gq ge_str))
  Gv)
  (Ge (gsew 12 Sc (Gu (Gg (Gg (gw 8 Sc) ge_int) (gw 11 Sc)) (Gg (Gg (gw 8 Sc) ge_int) (gw 11 Sc))))
  (Ge (Ho (GW.jt (Xg (Jh hr.units (Gg (Gg (gw 5 Sc) (gw 11 Sc)) ge_int) ge_str) (Uz (Gdp (gw 12 Sc) ge_int))))
  (Gi (Gq ge_str))
  Gv)
  (Ge (Ho (GW.jt (Xg (Jh hr.units (Gg (Gg (gw 5 Sc) (gw 11 Sc)) ge_int) ge_str) (Uz (Gja (gw 12 Sc) (Gg (Gg (gw 5 Sc) (gw 11 Sc)) ge_int)))))
  (Gi (Gq ge_str))
  Gv)
  (Ge (Ho (GW.jt (Xg (Jh hr.units (Gg (Gg (gw 5 Sc) (gw 3 Sc)) ge_int) ge_str) (Uz (Gdp (Gg (Gg (gw 8 Sc) ge_int) (gw 3 Sc)) ge_int))))
  (Gi (Gq ge_str))
  Gv)
  (Ge (Ho (GW.jt (Xg (Jh hr.units (Gg (Gg (gw 5 Sc) (gw 4 Sc)) ge_int) ge_str) (Uz (Jh hr.units (Gg (Gg (gw 8 Sc) ge_int) (gw 4 Sc)) ge_int))))
  (Gi (Gq ge_str))
  Gv)
  (Ge (Ym PassesOwn.never rfl (Gby (Hl (Ga (gw 3 Sc) (Ga (gw 4 Sc) ga_nil Gc) Gc))) (ggw 13 Sc)
  (Gi (Ho (GW.jt (Xg (Jh hr.units (Gg (Gg (gw 5 Sc) (gw 13 Sc)) ge_int) ge_str) (Uz (Gi9 (Gg (Gg (gw 8 Sc) ge_int) (gw 13 Sc)) (Gg (Gg (gw 5 Sc) (gw 13 Sc)) ge_int)))))
  (Gi (Gq ge_str))
  Gv)))
  (Ge (Ve (Xe (Gg (Gg (gw 8 Sc) (gw 9 Sc)) (gw 10 Sc)) ge_int) (Gg (gw 8 Sc) (gw 9 Sc)) (gw 10 Sc))
  (Ge (Ve (Gu (Gg (Gg (gw 8 Sc) (gw 9 Sc)) (gw 11 Sc)) ge_int) (Gg (gw 8 Sc) (gw 9 Sc)) (gw 11 Sc))
  (Ge (gsew 14 Sc (Yl (gG z34) T.b_int (Ga (Wu hr.units (gw 11 Sc) (Gg (Hl (Ga ge_int (Ga (Xe (Qx (gG z34) T.b_len (Ga (gw 5 Sc) ga_nil Gc)) ge_int) ga_nil Hm) Gb)) (Yl (gG z34) T.b_int (Ga (Wu hr.units (gw 6 Sc) ge_str) ga_nil Qw)))) ga_nil Qw)))
  (Gi (Gq (Gr (Ga (Gr (Ga (Qp (gG z34) T.b_tuple (Ga (Gg (gw 8 Sc) ge_int) ga_nil Gk)) (Ga (Qp (gG z34) T.b_tuple (Ga (Gg (gw 8 Sc) ge_int) ga_nil Gk)) (Ga (Qp (gG z34) T.b_tuple (Ga (Gg (gw 8 Sc) ge_int) ga_nil Gk)) ga_nil Hc) Hc) Hc)) (Ga ge_int (Ga (gw 14 Sc) ga_nil Gc) Gb) Hn))))))))))))))))))))
def Hk:Sv:=(sq (sa (vr 0) (gt (gcons (gn 3) (gcons (gn 4) gnil)) 2))
  (sq (sa (vr 2) (gt (gcons (gn 5) (gcons (gn 6) gnil)) 2))
  (sq (sa (b1 Qo (ac (o2 getD (vr 1) (cn (.int 0))) an)) (gn 7))
  (sq (sif (tb (o2 eqD (vr 5) (cn (.str "feed"))))
  (sq (sif (to (tb (o2 ltD (vr 6) (cn (.int 0)))) (to (tb (o2 geD (vr 6) (b1 Jl (ac (vr 3) an)))) (tb (o2 neD (o2 getD (o2 getD (vr 3) (vr 6)) (cn (.int 0))) (cn (.str "pound"))))))
  (sret (cn (.str "nospring")))
  skip)
  (sq (sif (tb (o2 Gg3 (o2 getD (o2 getD (vr 3) (vr 6)) (cn (.int 4))) (cn .non)))
  (sret (cn (.str "nospring")))
  skip)
  (sq (sif (tb (o2 eqD (o2 getD (vr 7) (vr 6)) (o2 getD (o2 getD (vr 3) (vr 6)) (cn (.int 1)))))
  (sret (cn (.str "full")))
  skip)
  (sq (ss (o2 Gw (o2 getD (vr 7) (vr 6)) (cn (.int 1))) (vr 7) (vr 6) Ub)
  (sret (tp (ac (tp (ac (b1 Xd (ac (vr 7) an)) (ac (o2 getD (vr 1) (cn (.int 1))) (ac (o2 getD (vr 1) (cn (.int 2))) an)))) (ac (o2 getD (o2 getD (vr 3) (vr 6)) (cn (.int 4))) (ac (cn (.int 0)) an)))))))))
  skip)
  (sq (sif (to (tb (o2 ltD (vr 6) (cn (.int 0)))) (tb (o2 geD (vr 6) (b1 Jl (ac (vr 4) an)))))
  (sret (cn (.str "nogate")))
  skip)
  (sq (sa (o2 Gw (vr 6) (b1 Gat (ac (o2 eqD (o2 getD (vr 4) (vr 6)) (cn (.str "up"))) an))) (gn 8))
  (sq (sa (o2 Xc (o2 Gw (o2 Kj (cn (.int 2)) (vr 6)) (cn (.int 1))) (vr 8)) (gn 9))
  (sq (sif (tb (o2 neD (vr 5) (cn (.str "let"))))
  (sret (cl 5 (Gm Vk) (ac (vr 0) (ac (vr 1) (ac (vr 2) (ac (vr 8) (ac (vr 9) an)))))))
  skip)
  (sq (sif (tb (o2 neD (o2 getD (o2 getD (vr 3) (vr 8)) (cn (.int 0))) (cn (.str "end"))))
  (sq (sif (tb (o2 eqD (o2 getD (vr 7) (vr 8)) (cn (.int 0))))
  (sret (cn (.str "dry")))
  skip)
  (ss (o2 Xc (o2 getD (vr 7) (vr 8)) (cn (.int 1))) (vr 7) (vr 8) Ub))
  skip)
  (sq (sif (tb (o2 neD (o2 getD (o2 getD (vr 3) (vr 9)) (cn (.int 0))) (cn (.str "end"))))
  (sq (sif (tb (o2 eqD (o2 getD (vr 7) (vr 9)) (o2 getD (o2 Gw (o2 getD (vr 3) (vr 9)) (tp (ac (cn (.int 1)) an))) (cn (.int 1)))))
  (sret (cn (.str "full")))
  skip)
  (ss (o2 Gw (o2 getD (vr 7) (vr 9)) (cn (.int 1))) (vr 7) (vr 9) Ub))
  skip)
  (sret (tp (ac (tp (ac (b1 Xd (ac (vr 7) an)) (ac (o2 getD (vr 1) (cn (.int 1))) (ac (o2 getD (vr 1) (cn (.int 2))) an)))) (ac (cn (.int 0)) (ac (cn (.int 0)) an)))))))))))))))
def Hr:Fn:=fnB 10 Hk
theorem Ghi:FnS ["_law_canal_here","_law_stand_here","_law_deed","_law_places","_law_gates","_law_word","_law_n","_law_levels","_law_up","_law_down"] ["_law_canal_here","_law_stand_here","_law_deed"] (Gf Zy):=kdF
abbrev z35:=Gf Zy
theorem Ggd(Al:All P w K mg base):Cal P w K mg base "_law_due" ["_law_canal_here","_law_stand_here","_law_deed"] Hr 2:=by
 have Sc:=Ghi
 have T:=Al.t
 refine calw (b:=Hk) 1 Al.h.h__law_due Al.g Sc rfl fun _ _ _ _ _ _ _ hr=>?_
 conv=>arg 3; whnf
 refine GSs.h ?_
 exact(Ge (Ka (gw 0 Sc) (Jo rfl (Go (ggw 3 Sc) (Go (ggw 4 Sc) Ja))))
  (Ge (Ka (gw 2 Sc) (Jo rfl (Go (ggw 5 Sc) (Go (ggw 6 Sc) Ja))))
  (Ge (gsew 7 Sc (Gcz (gG z35) T.b_list (Ga (Gg (gw 1 Sc) ge_int) ga_nil Gk)))
  (Ge (Ho (Jh hr.units (gw 5 Sc) ge_str)
  (Ge (Ho (GW.jt (Zu (Gi9 (gw 6 Sc) ge_int) (Zu (Gja (gw 6 Sc) (Qx (gG z35) T.b_len (Ga (gw 3 Sc) ga_nil Gc))) (Zt (Wi hr.units (Gg (Gg (gw 3 Sc) (gw 6 Sc)) ge_int) ge_str)))))
  (Gi (Gq ge_str))
  Gv)
  (Ge (Ho (Gwd (Gg (Gg (gw 3 Sc) (gw 6 Sc)) ge_int) Gf1)
  (Gi (Gq ge_str))
  Gv)
  (Ge (Ho (Jh hr.units (Gg (gw 7 Sc) (gw 6 Sc)) (Gg (Gg (gw 3 Sc) (gw 6 Sc)) ge_int))
  (Gi (Gq ge_str))
  Gv)
  (Ge (Ve (Gu (Gg (gw 7 Sc) (gw 6 Sc)) ge_int) (gw 7 Sc) (gw 6 Sc))
  (Gi (Gq (Gr (Ga (Gr (Ga (Qp (gG z35) T.b_tuple (Ga (gw 7 Sc) ga_nil Gc)) (Ga (Gg (gw 1 Sc) ge_int) (Ga (Gg (gw 1 Sc) ge_int) ga_nil Gk) Gk) Hc)) (Ga (Gg (Gg (gw 3 Sc) (gw 6 Sc)) ge_int) (Ga ge_int ga_nil Gb) Gk) Hn))))))))
  Gv)
  (Ge (Ho (GW.jt (Zu (Gi9 (gw 6 Sc) ge_int) (Zt (Gja (gw 6 Sc) (Qx (gG z35) T.b_len (Ga (gw 4 Sc) ga_nil Gc))))))
  (Gi (Gq ge_str))
  Gv)
  (Ge (gsew 8 Sc (Gu (gw 6 Sc) (Yl (gG z35) T.b_int (Ga (Wu hr.units (Gg (gw 4 Sc) (gw 6 Sc)) ge_str) ga_nil Qw))))
  (Ge (gsew 9 Sc (Xe (Gu (Wg ge_int (gw 6 Sc)) ge_int) (gw 8 Sc)))
  (Ge (Ho (Wi hr.units (gw 5 Sc) ge_str)
  (Gi (Gq (gow z35 (Gey Al) hr (Ga (gw 0 Sc) (Ga (gw 1 Sc) (Ga (gw 2 Sc) (Ga (gw 8 Sc) (Ga (gw 9 Sc) ga_nil Gc) Gc) Gc) Gc) Gc))))
  Gv)
  (Ge (Ho (Wi hr.units (Gg (Gg (gw 3 Sc) (gw 8 Sc)) ge_int) ge_str)
  (Ge (Ho (Jh hr.units (Gg (gw 7 Sc) (gw 8 Sc)) ge_int)
  (Gi (Gq ge_str))
  Gv)
  (Gi (Ve (Xe (Gg (gw 7 Sc) (gw 8 Sc)) ge_int) (gw 7 Sc) (gw 8 Sc))))
  Gv)
  (Ge (Ho (Wi hr.units (Gg (Gg (gw 3 Sc) (gw 9 Sc)) ge_int) ge_str)
  (Ge (Ho (Jh hr.units (Gg (gw 7 Sc) (gw 9 Sc)) (Gg (Gu (Gg (gw 3 Sc) (gw 9 Sc)) (Gr (Ga ge_int ga_nil Gb))) ge_int))
  (Gi (Gq ge_str))
  Gv)
  (Gi (Ve (Gu (Gg (gw 7 Sc) (gw 9 Sc)) ge_int) (gw 7 Sc) (gw 9 Sc))))
  Gv)
  (Gi (Gq (Gr (Ga (Gr (Ga (Qp (gG z35) T.b_tuple (Ga (gw 7 Sc) ga_nil Gc)) (Ga (Gg (gw 1 Sc) ge_int) (Ga (Gg (gw 1 Sc) ge_int) ga_nil Gk) Gk) Hc)) (Ga ge_int (Ga ge_int ga_nil Gb) Gb) Hn))))))))))))))
def Hz:Sv:=(sq (sa (vr 1) (gt (gcons (gn 3) (gcons (gn 4) (gcons (gn 5) gnil))) 3))
  (sq (sa (tp (ac (vr 3) (ac (o2 Gw (tp (ac (cn (.int 1)) an)) (sl2 (vr 4) (osome (cn (.int 1))) onone)) (ac (o2 Gw (sl2 (vr 5) onone (osome (o1 Ga2 (cn (.int 1))))) (tp (ac (cn (.int 1)) an))) an)))) (gn 6))
  (sq (sa (cl 3 (Gm Hr) (ac (vr 0) (ac (vr 6) (ac (vr 2) an)))) (gn 7))
  (sq (sif (tt (o1 (isD "str") (vr 7)))
  (sret (vr 7))
  skip)
  (sq (sa (o2 getD (vr 7) (cn (.int 0))) (gt (gcons (gn 3) (gcons (gn 4) (gcons (gn 5) gnil))) 3))
  (sret (o2 Gw (tp (ac (tp (ac (vr 3) (ac (o2 Gw (o2 Gw (tp (ac (cn (.int 0)) an)) (sl2 (vr 4) (osome (cn (.int 1))) (osome (o1 Ga2 (cn (.int 1)))))) (tp (ac (cn (.int 0)) an))) (ac (o2 Gw (o2 Gw (tp (ac (cn (.int 0)) an)) (sl2 (vr 5) (osome (cn (.int 1))) (osome (o1 Ga2 (cn (.int 1)))))) (tp (ac (cn (.int 0)) an))) an)))) an)) (sl2 (vr 7) (osome (cn (.int 1))) onone))))))))
def Gz:Fn:=fnB 8 Hz
theorem Gb8:FnS ["_law_canal_here","_law_stand_here","_law_deed","_law_levels","_law_rights","_law_lefts","_law_waiting","_law_told"] ["_law_canal_here","_law_stand_here","_law_deed"] (Gf Uv):=kdF
abbrev z36:=Gf Uv
theorem Wy(Al:All P w K mg base):Cal P w K mg base "_law_open_due" ["_law_canal_here","_law_stand_here","_law_deed"] Gz 3:=by
 have Sc:=Gb8
 have T:=Al.t
 refine calw (b:=Hz) 2 Al.h.h__law_open_due Al.g Sc rfl fun _ _ _ _ _ _ _ hr=>?_
 conv=>arg 3; whnf
 refine GSs.h ?_
 exact(Ge (Ka (gw 1 Sc) (Jo rfl (Go (ggw 3 Sc) (Go (ggw 4 Sc) (Go (ggw 5 Sc) Ja)))))
  (Ge (gsew 6 Sc (Gr (Ga (gw 3 Sc) (Ga (Gu (Gr (Ga ge_int ga_nil Gb)) (Jc (gw 4 Sc) (Ji ge_int) Ud)) (Ga (Gu (Jc (gw 5 Sc) Ud (Ji (Yk ge_int))) (Gr (Ga ge_int ga_nil Gb))) ga_nil Hm) Hm) Gc)))
  (Ge (gsew 7 Sc (gow z36 (Ggd Al) hr (Ga (gw 0 Sc) (Ga (gw 6 Sc) (Ga (gw 2 Sc) ga_nil Gc) Gc) Gc)))
  (Ge (Ho (Qm (Gbz (gG z36) (gG z36) Gfy T.b_isinstance T.b_str (gw 7 Sc)))
  (Gi (Gq (gw 7 Sc)))
  Gv)
  (Ge (Ka (Gg (gw 7 Sc) ge_int) (Jo rfl (Go (ggw 3 Sc) (Go (ggw 4 Sc) (Go (ggw 5 Sc) Ja)))))
  (Gi (Gq (Gu (Gr (Ga (Gr (Ga (gw 3 Sc) (Ga (Gu (Gu (Gr (Ga ge_int ga_nil Gb)) (Jc (gw 4 Sc) (Ji ge_int) (Ji (Yk ge_int)))) (Gr (Ga ge_int ga_nil Gb))) (Ga (Gu (Gu (Gr (Ga ge_int ga_nil Gb)) (Jc (gw 5 Sc) (Ji ge_int) (Ji (Yk ge_int)))) (Gr (Ga ge_int ga_nil Gb))) ga_nil Hm) Hm) Gc)) ga_nil Hn)) (Jc (gw 7 Sc) (Ji ge_int) Ud)))))))))
def Kh:Sv:=(sq (sa (cl 3 (Gm Gz) (ac (vr 0) (ac (vr 1) (ac (tp (ac (vr 3) (ac (vr 4) an))) an)))) (gn 5))
  (sif (tn (tt (o1 (isD "str") (vr 5))))
  (sx (mt Yb (vr 2) (ac (tp (ac (tp (ac (vr 3) (ac (vr 4) an))) (ac (vr 5) an))) an)))
  skip))
def Ki:Sv:=(sfor (ir1 (ac (b1 Jl (ac (o2 getD (vr 0) (cn (.int 0))) an)) an)) (gn 4) Kh)
def Kk:Sv:=(sq (sa (ls an) (gn 2))
  (sq (sfor (isrc (ls (ac (cn (.str "let")) (ac (cn (.str "feed")) (ac (cn (.str "right")) (ac (cn (.str "left")) an)))))) (gn 3) Ki)
  (sret (vr 2))))
def Vr:Fn:=fnB 6 Kk
theorem Gb9:FnS ["_law_canal_here","_law_stand_here","_law_found","_law_word","_law_n","_law_told"] ["_law_canal_here","_law_stand_here"] (Gf Uw):=kdF
abbrev z37:=Gf Uw
theorem Gbm(Al:All P w K mg base):Cal P w K mg base "_law_open_can" ["_law_canal_here","_law_stand_here"] Vr 4:=by
 have Sc:=Gb9
 have T:=Al.t
 refine calw (b:=Kk) 3 Al.h.h__law_open_can Al.g Sc rfl fun _ _ _ _ _ _ _ hr=>?_
 conv=>arg 3; whnf
 refine GSs.h ?_
 exact(Ge (gsew 2 Sc (Hl ga_nil))
  (Ge (Ym PassesOwn.never rfl (Gby (Hl (Ga ge_str (Ga ge_str (Ga ge_str (Ga ge_str ga_nil Gb) Gb) Gb) Gb))) (ggw 3 Sc)
  (Gi (Ym PassesOwn.never rfl (Gap (gG z37) T.b_range (Ga (Qx (gG z37) T.b_len (Ga (Gg (gw 0 Sc) ge_int) ga_nil Gk)) ga_nil Hc)) (ggw 4 Sc)
  (Ge (gsew 5 Sc (gow z37 (Wy Al) hr (Ga (gw 0 Sc) (Ga (gw 1 Sc) (Ga (Gr (Ga (gw 3 Sc) (Ga (gw 4 Sc) ga_nil Gc) Gc)) ga_nil Hn) Gc) Gc)))
  (Gi (Ho (Ga5 (Qm (Gbz (gG z37) (gG z37) Gfy T.b_isinstance T.b_str (gw 5 Sc))))
  (Gi (Qb (Ut (gw 2 Sc) (Ga (Gr (Ga (Gr (Ga (gw 3 Sc) (Ga (gw 4 Sc) ga_nil Gc) Gc)) (Ga (gw 5 Sc) ga_nil Gc) Hn)) ga_nil Hn))))
  Gv))))))
  (Gi (Gq (gw 2 Sc)))))
def Vl:Sv:=(sq (sa (ls (ac (cn (.str "nogate")) (ac (cn (.str "dry")) (ac (cn (.str "full")) (ac (cn (.str "nospring")) (ac (cn (.str "nobarge")) (ac (cn (.str "noroom")) (ac (cn (.str "uneven")) (ac (cn (.str "shallow")) (ac (cn (.str "falls")) (ac (cn (.str "notext")) (ac (cn (.str "toomany")) (ac (cn (.str "noline")) an))))))))))))) (gn 1))
  (sq (sif (to (tb (o2 neD (b1 Jl (ac (vr 0) an)) (cn (.int 13)))) (to (tb (o2 neD (mt Gh9 (sl2 (vr 0) onone (osome (cn (.int 12)))) (ac (cn (.bl true)) an)) (cn (.int 1)))) (tn (tt (o2 getD (vr 0) (cn (.int 12)))))))
  (sret (cn (.str "unlike")))
  skip)
  (sret (o2 getD (vr 1) (mt Gia (vr 0) (ac (cn (.bl true)) an))))))
def Jv:Fn:=fnB 2 Vl
theorem Gge:FnS ["_law_marks","_law_words_here"] ["_law_marks"] (Gf Yv):=kdF
abbrev z38:=Gf Yv
theorem Gay(Al:All P w K mg base):Cal P w K mg base "_law_name" ["_law_marks"] Jv 1:=by
 have Sc:=Gge
 have T:=Al.t
 refine calw (b:=Vl) 0 Al.h.h__law_name Al.g Sc rfl fun _ _ _ _ _ _ _ hr=>?_
 conv=>arg 3; whnf
 refine GSs.h ?_
 exact(Ge (gsew 1 Sc (Hl (Ga ge_str (Ga ge_str (Ga ge_str (Ga ge_str (Ga ge_str (Ga ge_str (Ga ge_str (Ga ge_str (Ga ge_str (Ga ge_str (Ga ge_str (Ga ge_str ga_nil Gb) Gb) Gb) Gb) Gb) Gb) Gb) Gb) Gb) Gb) Gb) Gb)))
  (Ge (Ho (GW.jt (Zu (Wi hr.units (Qx (gG z38) T.b_len (Ga (gw 0 Sc) ga_nil Gc)) ge_int) (Zu (Wi hr.units (Gmu (Jc (gw 0 Sc) Ud (Ji ge_int)) (Ga Gci ga_nil Gb)) ge_int) (Zt (Ga5 (Qm (Gg (gw 0 Sc) ge_int)))))))
  (Gi (Gq ge_str))
  Gv)
  (Gi (Gq (Gg (gw 1 Sc) (Gmv (gw 0 Sc) (Ga Gci ga_nil Gb)))))))
def Xu:Sv:=(sa (cl 3 (gX ys Jw) (ac (vr 0) (ac (vr 1) (ac (vr 2) an)))) (gn 3))
def Xv:Sv:=(sq (sa (ls (ac (o1 (Km ys ["NoGate"]) (vr 5)) (ac (o1 (Km ys ["Dry"]) (vr 5)) (ac (o1 (Km ys ["Full"]) (vr 5)) (ac (o1 (Km ys ["NoSpring"]) (vr 5)) an))))) (gn 4))
  (sq (sa (o2 Gw (vr 4) (ls (ac (o1 (Km ys ["NoBarge"]) (vr 5)) (ac (o1 (Km ys ["NoRoom"]) (vr 5)) (ac (o1 (Km ys ["Uneven"]) (vr 5)) an))))) (gn 4))
  (sq (sa (o2 Gw (vr 4) (ls (ac (o1 (Km ys ["Shallow"]) (vr 5)) (ac (o1 (Km ys ["Falls"]) (vr 5)) (ac (o1 (Km ys ["NoText"]) (vr 5)) an))))) (gn 4))
  (sq (sa (o2 Gw (vr 4) (ls (ac (o1 (Km ys ["TooMany"]) (vr 5)) (ac (o1 (Km ys ["NoLine"]) (vr 5)) (ac (o1 (Km ys ys) (vr 5)) an))))) (gn 4))
  (sif (tt (o1 (Km ys ["Falls"]) (vr 5)))
  (sa (o1 (atD ats) (vr 5)) (gn 3))
  skip)))))
def Ky:Sv:=(sq (sa (cn .non) (gn 3))
  (sq (sa (ls an) (gn 4))
  (sq (Zf ys (hdl 5 Xv) Xu)
  (sret (tp (ac (vr 3) (ac (vr 4) an)))))))
def Hy:Fn:=fnB 6 Ky
theorem Ghj:FnS ["_law_canal_here","_law_stand_here","_law_row","_law_found","_law_marks","e"] ["_law_canal_here","_law_stand_here","_law_row"] (Gf Zz):=kdF
abbrev z39:=Gf Zz
theorem Gzg:OkC z39 "e":=⟨by decide +kernel⟩
theorem Yz(Al:All P w K mg base):Cal P w K mg base "_law_did" ["_law_canal_here","_law_stand_here","_law_row"] Hy 9:=by
 have Sc:=Ghj
 have T:=Al.t
 refine calw (b:=Ky) 8 Al.h.h__law_did Al.g Sc rfl fun _ _ _ _ _ _ _ hr=>?_
 conv=>arg 3; whnf
 refine GSs.h ?_
 exact(Ge (gsew 3 Sc Gf1)
  (Ge (gsew 4 Sc (Hl ga_nil))
  (Ge (Gqr 5 ⟨rfl,rfl,rfl⟩ T.xt.cat (gG z39) Gax Sc.nd Gzg (fun pn xe XQ L=>(Gi (gsew 3 Sc (Gf2 z39 T.xt.xns L (Gf9 Al) hr (Ga (gw 0 Sc) (Ga (gw 1 Sc) (Ga (gw 2 Sc) ga_nil Gc) Gc) Gc)))))
  (fun a=>(Ge (gsew 4 Sc (Hl (Ga (Uu z39 (T.xt.isx "NoGate" (by decide +kernel)) T.b_isinstance (gw 5 Sc)) (Ga (Uu z39 (T.xt.isx "Dry" (by decide +kernel)) T.b_isinstance (gw 5 Sc)) (Ga (Uu z39 (T.xt.isx "Full" (by decide +kernel)) T.b_isinstance (gw 5 Sc)) (Ga (Uu z39 (T.xt.isx "NoSpring" (by decide +kernel)) T.b_isinstance (gw 5 Sc)) ga_nil Hc) Hc) Hc) Hc)))
  (Ge (gsew 4 Sc (Gu (gw 4 Sc) (Hl (Ga (Uu z39 (T.xt.isx "NoBarge" (by decide +kernel)) T.b_isinstance (gw 5 Sc)) (Ga (Uu z39 (T.xt.isx "NoRoom" (by decide +kernel)) T.b_isinstance (gw 5 Sc)) (Ga (Uu z39 (T.xt.isx "Uneven" (by decide +kernel)) T.b_isinstance (gw 5 Sc)) ga_nil Hc) Hc) Hc))))
  (Ge (gsew 4 Sc (Gu (gw 4 Sc) (Hl (Ga (Uu z39 (T.xt.isx "Shallow" (by decide +kernel)) T.b_isinstance (gw 5 Sc)) (Ga (Uu z39 (T.xt.isx "Falls" (by decide +kernel)) T.b_isinstance (gw 5 Sc)) (Ga (Uu z39 (T.xt.isx "NoText" (by decide +kernel)) T.b_isinstance (gw 5 Sc)) ga_nil Hc) Hc) Hc))))
  (Ge (gsew 4 Sc (Gu (gw 4 Sc) (Hl (Ga (Uu z39 (T.xt.isx "TooMany" (by decide +kernel)) T.b_isinstance (gw 5 Sc)) (Ga (Uu z39 (T.xt.isx "NoLine" (by decide +kernel)) T.b_isinstance (gw 5 Sc)) (Ga (Gwf z39 T.xt.val T.b_isinstance T.b_ValueError (gw 5 Sc)) ga_nil Hc) Hc) Hc))))
  (Gi (Ho (Qm (Uu z39 (T.xt.isx "Falls" (by decide +kernel)) T.b_isinstance (gw 5 Sc)))
  (Gi (gsew 3 Sc (Gy4 T.atc (gw 5 Sc))))
  Gv))))))))
  (Gi (Gq (Gr (Ga (gw 3 Sc) (Ga (gw 4 Sc) ga_nil Gc) Gc)))))))
def Hw:Sv:=(sq (sa (cl 3 (Gm Gz) (ac (vr 0) (ac (vr 1) (ac (vr 6) an)))) (gn 7))
  (sq (sif (tt (o1 (isD "str") (vr 7)))
  (sret (vr 5))
  skip)
  (sq (sa (o2 getD (vr 7) (cn (.int 0))) (gn 1))
  (sq (sa (o2 Gw (vr 3) (o2 getD (vr 7) (cn (.int 1)))) (gn 3))
  (sa (o2 Gw (vr 4) (o2 getD (vr 7) (cn (.int 2)))) (gn 4))))))
def Qt:Sv:=(sq (sa (cn (.int 0)) (gn 3))
  (sq (sa (cn (.int 0)) (gn 4))
  (sq (sfor (Wf (ac (vr 2) an)) (gt (gcons (gn 5) (gcons (gn 6) gnil)) 2) Hw)
  (sret (tp (ac (vr 1) (ac (vr 3) (ac (vr 4) an))))))))
def Jx:Fn:=fnB 8 Qt
theorem Gd5:FnS ["_law_canal_here","_law_stand_here","_law_row","_law_price","_law_gain","_law_k","_law_deed","_law_told"] ["_law_canal_here","_law_stand_here","_law_row"] (Gf Wm):=kdF
abbrev z40:=Gf Wm
theorem Gcu(Al:All P w K mg base):Cal P w K mg base "_law_behind" ["_law_canal_here","_law_stand_here","_law_row"] Jx 4:=by
 have Sc:=Gd5
 have T:=Al.t
 refine calw (b:=Qt) 3 Al.h.h__law_behind Al.g Sc rfl fun _ _ _ _ _ _ _ hr=>?_
 conv=>arg 3; whnf
 refine GSs.h ?_
 exact(Ge (gsew 3 Sc ge_int)
  (Ge (gsew 4 Sc ge_int)
  (Ge (Ym PassesOwn.never rfl (Ghd (gG z40) T.b_enumerate (Ga (gw 2 Sc) ga_nil Gc)) (Jo rfl (Go (ggw 5 Sc) (Go (ggw 6 Sc) Ja)))
  (Ge (gsew 7 Sc (gow z40 (Wy Al) hr (Ga (gw 0 Sc) (Ga (gw 1 Sc) (Ga (gw 6 Sc) ga_nil Gc) Gc) Gc)))
  (Ge (Ho (Qm (Gbz (gG z40) (gG z40) Gfy T.b_isinstance T.b_str (gw 7 Sc)))
  (Gi (Gq (gw 5 Sc)))
  Gv)
  (Ge (gsew 1 Sc (Gg (gw 7 Sc) ge_int))
  (Ge (gsew 3 Sc (Gu (gw 3 Sc) (Gg (gw 7 Sc) ge_int)))
  (Gi (gsew 4 Sc (Gu (gw 4 Sc) (Gg (gw 7 Sc) ge_int)))))))))
  (Gi (Gq (Gr (Ga (gw 1 Sc) (Ga (gw 3 Sc) (Ga (gw 4 Sc) ga_nil Gc) Gc) Gc)))))))
def Kz:Sv:=(sq (sa (cl 2 (Gm Vr) (ac (vr 1) (ac (vr 2) an))) (gn 6))
  (sq (sa (cmp (isrc (vr 6)) [none] (gn 0) (tb (o2 inD (o2 getD (o2 getD (vr 0) (cn (.int 0))) (cn (.int 0))) (ls (ac (cn (.str "right")) (ac (cn (.str "left")) an))))) (vr 0)) (gn 7))
  (sq (sif (ta (tb (o2 neD (vr 7) (ls an))) (tb (o2 gtD (cl 2 (Gm Gj) (ac (vr 0) (ac (cn (.int 3)) an))) (cn (.int 0)))))
  (sa (vr 7) (gn 6))
  skip)
  (sif (tb (o2 neD (vr 6) (ls an)))
  (sq (sa (o2 getD (vr 6) (cl 2 (Gm Gj) (ac (vr 0) (ac (b1 Jl (ac (vr 6) an)) an)))) (gt (gcons (gn 8) (gcons (gn 9) gnil)) 2))
  (sq (sx (mt Yb (vr 4) (ac (vr 8) an)))
  (sa (o2 getD (vr 9) (cn (.int 0))) (gn 2))))
  skip))))
def Vm:Sv:=(sq (sa (ls an) (gn 4))
  (sq (sfor (ir1 (ac (vr 3) an)) (gn 5) Kz)
  (sret (vr 4))))
def Gai:Fn:=fnB 10 Vm
theorem Ggf:FnS ["_law_tape_here","_law_canal_here","_law_stand_here","_law_many","_law_row","_law_k","_law_some","_law_going","_law_deed","_law_told"] ["_law_tape_here","_law_canal_here","_law_stand_here","_law_many"] (Gf Yw):=kdF
abbrev z41:=Gf Yw
theorem Gez(Al:All P w K mg base):Cal P w K mg base "_law_walk" ["_law_tape_here","_law_canal_here","_law_stand_here","_law_many"] Gai 5:=by
 have Sc:=Ggf
 have T:=Al.t
 refine calw (b:=Vm) 4 Al.h.h__law_walk Al.g Sc rfl fun _ _ _ _ _ _ _ hr=>?_
 conv=>arg 3; whnf
 refine GSs.h ?_
 exact(Ge (gsew 4 Sc (Hl ga_nil))
  (Ge (Ym PassesOwn.never rfl (Gap (gG z41) T.b_range (Ga (gw 3 Sc) ga_nil Gc)) (ggw 5 Sc)
  (Ge (gsew 6 Sc (gow z41 (Gbm Al) hr (Ga (gw 1 Sc) (Ga (gw 2 Sc) ga_nil Gc) Gc)))
  (Ge (Gm2 7 (N':=["_law_one"]) (pk:=[none]) Sc (Gby (gw 6 Sc)) (fun cl s2 H2 C fp=>(Gm3 0)) (fun cl s2 H2 C fp=>(Gqq (Gy7 (Gg (Gg (Gjd 0) ge_int) ge_int) (Hl (Ga ge_str (Ga ge_str ga_nil Gb) Gb))))) (fun cl s2 H2 C fp=>(Gjd 0)))
  (Ge (Ho (GW.jt (Xg (Wi hr.units (gw 7 Sc) (Hl ga_nil)) (Uz (Gdp (gow z41 (Gn Al) hr (Ga (gw 0 Sc) (Ga ge_int ga_nil Gb) Gc)) ge_int))))
  (Gi (gsew 6 Sc (gw 7 Sc)))
  Gv)
  (Gi (Ho (Wi hr.units (gw 6 Sc) (Hl ga_nil))
  (Ge (Ka (Gg (gw 6 Sc) (gow z41 (Gn Al) hr (Ga (gw 0 Sc) (Ga (Qx (gG z41) T.b_len (Ga (gw 6 Sc) ga_nil Gc)) ga_nil Hc) Gc))) (Jo rfl (Go (ggw 8 Sc) (Go (ggw 9 Sc) Ja))))
  (Ge (Qb (Ut (gw 4 Sc) (Ga (gw 8 Sc) ga_nil Gc)))
  (Gi (gsew 2 Sc (Gg (gw 9 Sc) ge_int)))))
  Gv))))))
  (Gi (Gq (gw 4 Sc)))))
def Gbn:Sv:=(sq (sa (b1 Qo (ac (vr 7) an)) (gn 8))
  (sq (sa (cl 3 (Gm Jx) (ac (vr 2) (ac (vr 3) (ac (vr 7) an)))) (gn 9))
  (sq (sa (cl 3 (Gm Hy) (ac (vr 2) (ac (vr 3) (ac (vr 8) an)))) (gt (gcons (gn 10) (gcons (gn 11) gnil)) 2))
  (sq (sif (tt (o1 (isD "int") (vr 9)))
  (sif (to (tb (o2 neD (cl 1 (Gm Jv) (ac (vr 11) an)) (cn (.str "falls")))) (to (tn (tt (cl 1 (Gm Yy) (ac (vr 10) an)))) (tb (o2 neD (vr 10) (vr 9)))))
  (sret (cn (.bl false)))
  skip)
  (sif (to (tb (o2 neD (vr 11) (ls an))) (tb (o2 neD (b1 Qg (ac (vr 10) an)) (b1 Qg (ac (vr 9) an)))))
  (sret (cn (.bl false)))
  skip))
  (sif (tb (o2 neD (b1 Qg (ac (vr 8) an)) (b1 Qg (ac (vr 7) an))))
  (sret (cn (.bl false)))
  skip)))))
def Ghk:Sv:=(sq (sa (cl 1 (Gm Gah) (ac (vr 0) an)) (gn 1))
  (sq (sa (cl 2 (Gm Vx) (ac (vr 1) (ac (o2 getD (ls (ac (cn (.int 5)) (ac (cn (.int 5)) (ac (cn (.int 5)) (ac (cn (.int 11)) an))))) (cl 2 (Gm Gj) (ac (vr 1) (ac (cn (.int 4)) an)))) an))) (gn 2))
  (sq (sa (cl 3 (Gm Vy) (ac (vr 1) (ac (vr 2) (ac (cn (.int 0)) an)))) (gn 3))
  (sq (sa (cl 4 (Gm Gai) (ac (vr 1) (ac (vr 2) (ac (vr 3) (ac (cl 2 (Gm Gj) (ac (vr 1) (ac (cn (.int 25)) an))) an))))) (gn 4))
  (sq (sa (cl 2 (Gm Gj) (ac (vr 1) (ac (o2 Gw (b1 Jl (ac (vr 4) an)) (cn (.int 1))) an))) (gn 5))
  (sq (sa (tp (ac (o2 getD (ls (ac (cn (.str "let")) (ac (cn (.str "feed")) (ac (cn (.str "right")) (ac (cn (.str "left")) an))))) (cl 2 (Gm Gj) (ac (vr 1) (ac (cn (.int 4)) an)))) (ac (o2 Xc (cl 2 (Gm Gj) (ac (vr 1) (ac (cn (.int 10)) an))) (cn (.int 1))) an))) (gn 6))
  (sq (sfor (isrc (ls (ac (vr 4) (ac (o2 Gw (o2 Gw (sl2 (vr 4) onone (osome (vr 5))) (ls (ac (vr 6) an))) (sl2 (vr 4) (osome (vr 5)) onone)) (ac (ls (ac (vr 6) an)) (ac (ls an) an)))))) (gn 7) Gbn)
  (sq (sif (tb (o2 gtD (cl 2 (Gm Gj) (ac (vr 1) (ac (cn (.int 16)) an))) (cn (.int 0))))
  (sret (cn (.bl true)))
  skip)
  (sq (sa (tp (ac (tp (ac (tp (ac (cn (.str "end")) an)) (ac (tp (ac (cn (.str "chamber")) an)) (ac (tp (ac (cn (.str "end")) an)) an)))) (ac (tp (ac (cn (.str "down")) (ac (cn (.str "down")) an))) an))) (gn 12))
  (sq (sa (tp (ac (tp (ac (cn (.int 0)) (ac (cn (.int 0)) (ac (cn (.int 0)) an)))) (ac (tp (ac (cn (.int 0)) (ac (cn (.int 0)) (ac (cn (.int 0)) an)))) (ac (tp (ac (cn (.int 0)) (ac (cn (.int 0)) (ac (cn (.int 0)) an)))) an)))) (gn 13))
  (sq (sa (o2 Kj (ls (ac (tp (ac (cn (.str "let")) (ac (cn (.int 0)) an))) (ac (tp (ac (cn (.str "right")) (ac (cn (.int 0)) an))) (ac (tp (ac (cn (.str "let")) (ac (cn (.int 1)) an))) (ac (tp (ac (cn (.str "right")) (ac (cn (.int 1)) an))) an))))) (o2 Gw (cn (.int 300)) (cl 2 (Gm Gj) (ac (vr 1) (ac (cn (.int 1000)) an))))) (gn 4))
  (sq (sa (cl 3 (Gm Hy) (ac (vr 12) (ac (vr 13) (ac (o2 Gw (vr 4) (ls (ac (tp (ac (cn (.str "let")) (ac (cn (.int 1)) an))) an))) an)))) (gt (gcons (gn 10) (gcons (gn 11) gnil)) 2))
  (sq (sif (to (tb (o2 neD (cl 1 (Gm Jv) (ac (vr 11) an)) (cn (.str "falls")))) (tb (o2 neD (vr 10) (b1 Jl (ac (vr 4) an)))))
  (sret (cn (.bl false)))
  skip)
  (sq (sa (cl 3 (Gm Hy) (ac (vr 12) (ac (vr 13) (ac (vr 4) an)))) (gt (gcons (gn 10) (gcons (gn 11) gnil)) 2))
  (sret (va (o2 eqD (vr 11) (ls an)) (o2 eqD (b1 Qg (ac (vr 10) an)) (b1 Qg (ac (tp (ac (vr 13) (ac (cn (.int 0)) (ac (o2 We (b1 Jl (ac (vr 4) an)) (cn (.int 4))) an)))) an)))))))))))))))))))
def Gd6:Fn:=fnB 14 Ghk
theorem Gwg:FnS ["_law_script","_law_tape_here","_law_canal_here","_law_stand_here","_law_row","_law_at","_law_odd","_law_one","_law_handed","_law_own","_law_found","_law_marks","_law_long","_law_none"] ["_law_script"] (Gf Gdt):=kdF
abbrev z42:=Gf Gdt
theorem Gqv(Al:All P w K mg base){f:Addr}{fd:FuncData}(F:Fun K "law" "law" Gdt f fd):FnOk P w K mg base CX0 10 f fd ["_law_script"] (spD K 1 Gd6):=by
 have Sc:=Gwg
 have T:=Al.t
 refine Gry (b:=Ghk) F Sc.s fun cdv A outer s H E hr=>?_
 conv=>arg 3; whnf
 refine GSs.h ?_
 exact(Ge (gsew 1 Sc (gow z42 (Get Al) hr (Ga (gw 0 Sc) ga_nil Gc)))
  (Ge (gsew 2 Sc (gow z42 (Gd2 Al) hr (Ga (gw 1 Sc) (Ga (Gg (Hl (Ga ge_int (Ga ge_int (Ga ge_int (Ga ge_int ga_nil Gb) Gb) Gb) Gb)) (gow z42 (Gn Al) hr (Ga (gw 1 Sc) (Ga ge_int ga_nil Gb) Gc))) ga_nil Gk) Gc)))
  (Ge (gsew 3 Sc (gow z42 (Gd3 Al) hr (Ga (gw 1 Sc) (Ga (gw 2 Sc) (Ga ge_int ga_nil Gb) Gc) Gc)))
  (Ge (gsew 4 Sc (gow z42 (Gez Al) hr (Ga (gw 1 Sc) (Ga (gw 2 Sc) (Ga (gw 3 Sc) (Ga (gow z42 (Gn Al) hr (Ga (gw 1 Sc) (Ga ge_int ga_nil Gb) Gc)) ga_nil Hc) Gc) Gc) Gc)))
  (Ge (gsew 5 Sc (gow z42 (Gn Al) hr (Ga (gw 1 Sc) (Ga (Gu (Qx (gG z42) T.b_len (Ga (gw 4 Sc) ga_nil Gc)) ge_int) ga_nil Hm) Gc)))
  (Ge (gsew 6 Sc (Gr (Ga (Gg (Hl (Ga ge_str (Ga ge_str (Ga ge_str (Ga ge_str ga_nil Gb) Gb) Gb) Gb)) (gow z42 (Gn Al) hr (Ga (gw 1 Sc) (Ga ge_int ga_nil Gb) Gc))) (Ga (Xe (gow z42 (Gn Al) hr (Ga (gw 1 Sc) (Ga ge_int ga_nil Gb) Gc)) ge_int) ga_nil Hm) Gk)))
  (Ge (Ym PassesOwn.never rfl (Gby (Hl (Ga (gw 4 Sc) (Ga (Gu (Gu (Jc (gw 4 Sc) Ud (Ji (gw 5 Sc))) (Hl (Ga (gw 6 Sc) ga_nil Gc))) (Jc (gw 4 Sc) (Ji (gw 5 Sc)) Ud)) (Ga (Hl (Ga (gw 6 Sc) ga_nil Gc)) (Ga (Hl ga_nil) ga_nil Gbd) Gbd) Hm) Gc))) (ggw 7 Sc)
  (Ge (gsew 8 Sc (Gcz (gG z42) T.b_list (Ga (gw 7 Sc) ga_nil Gc)))
  (Ge (gsew 9 Sc (gow z42 (Gcu Al) hr (Ga (gw 2 Sc) (Ga (gw 3 Sc) (Ga (gw 7 Sc) ga_nil Gc) Gc) Gc)))
  (Ge (Ka (gow z42 (Yz Al) hr (Ga (gw 2 Sc) (Ga (gw 3 Sc) (Ga (gw 8 Sc) ga_nil Gc) Gc) Gc)) (Jo rfl (Go (ggw 10 Sc) (Go (ggw 11 Sc) Ja))))
  (Ge (Ho (Qm (Gbz (gG z42) (gG z42) Gi1 T.b_isinstance T.b_int (gw 9 Sc)))
  (Gi (Ho (GW.jt (Zu (Wi hr.units (gow z42 (Gay Al) hr (Ga (gw 11 Sc) ga_nil Gc)) ge_str) (Zu (Ga5 (Qm (gow z42 (Gd4 Al) hr (Ga (gw 10 Sc) ga_nil Gc)))) (Zt (Wi hr.units (gw 10 Sc) (gw 9 Sc))))))
  (Gi (Gq Gci))
  Gv))
  (Gi (Ho (GW.jt (Zu (Wi hr.units (gw 11 Sc) (Hl ga_nil)) (Zt (Wi hr.units (Gao hr (gG z42) T.b_repr (Ga (gw 10 Sc) ga_nil Gc)) (Gao hr (gG z42) T.b_repr (Ga (gw 9 Sc) ga_nil Gc))))))
  (Gi (Gq Gci))
  Gv)))
  (Gi (Ho (Wi hr.units (Gao hr (gG z42) T.b_repr (Ga (gw 8 Sc) ga_nil Gc)) (Gao hr (gG z42) T.b_repr (Ga (gw 7 Sc) ga_nil Gc)))
  (Gi (Gq Gci))
  Gv)))))))
  (Ge (Ho (Gdp (gow z42 (Gn Al) hr (Ga (gw 1 Sc) (Ga ge_int ga_nil Gb) Gc)) ge_int)
  (Gi (Gq Gci))
  Gv)
  (Ge (gsew 12 Sc (Gr (Ga (Gr (Ga (Gr (Ga ge_str ga_nil Gb)) (Ga (Gr (Ga ge_str ga_nil Gb)) (Ga (Gr (Ga ge_str ga_nil Gb)) ga_nil Hn) Hn) Hn)) (Ga (Gr (Ga ge_str (Ga ge_str ga_nil Gb) Gb)) ga_nil Hn) Hn)))
  (Ge (gsew 13 Sc (Gr (Ga (Gr (Ga ge_int (Ga ge_int (Ga ge_int ga_nil Gb) Gb) Gb)) (Ga (Gr (Ga ge_int (Ga ge_int (Ga ge_int ga_nil Gb) Gb) Gb)) (Ga (Gr (Ga ge_int (Ga ge_int (Ga ge_int ga_nil Gb) Gb) Gb)) ga_nil Hn) Hn) Hn)))
  (Ge (gsew 4 Sc (Wg (Hl (Ga (Gr (Ga ge_str (Ga ge_int ga_nil Gb) Gb)) (Ga (Gr (Ga ge_str (Ga ge_int ga_nil Gb) Gb)) (Ga (Gr (Ga ge_str (Ga ge_int ga_nil Gb) Gb)) (Ga (Gr (Ga ge_str (Ga ge_int ga_nil Gb) Gb)) ga_nil Hn) Hn) Hn) Hn)) (Gu ge_int (gow z42 (Gn Al) hr (Ga (gw 1 Sc) (Ga ge_int ga_nil Gb) Gc)))))
  (Ge (Ka (gow z42 (Yz Al) hr (Ga (gw 12 Sc) (Ga (gw 13 Sc) (Ga (Gu (gw 4 Sc) (Hl (Ga (Gr (Ga ge_str (Ga ge_int ga_nil Gb) Gb)) ga_nil Hn))) ga_nil Hm) Gc) Gc)) (Jo rfl (Go (ggw 10 Sc) (Go (ggw 11 Sc) Ja))))
  (Ge (Ho (GW.jt (Zu (Wi hr.units (gow z42 (Gay Al) hr (Ga (gw 11 Sc) ga_nil Gc)) ge_str) (Zt (Wi hr.units (gw 10 Sc) (Qx (gG z42) T.b_len (Ga (gw 4 Sc) ga_nil Gc))))))
  (Gi (Gq Gci))
  Gv)
  (Ge (Ka (gow z42 (Yz Al) hr (Ga (gw 12 Sc) (Ga (gw 13 Sc) (Ga (gw 4 Sc) ga_nil Gc) Gc) Gc)) (Jo rfl (Go (ggw 10 Sc) (Go (ggw 11 Sc) Ja))))
  (Gi (Gq (Zs (Wu hr.units (gw 11 Sc) (Hl ga_nil)) (Ga4 (Wu hr.units (Gao hr (gG z42) T.b_repr (Ga (gw 10 Sc) ga_nil Gc)) (Gao hr (gG z42) T.b_repr (Ga (Gr (Ga (gw 13 Sc) (Ga ge_int (Ga (Gcy (Qx (gG z42) T.b_len (Ga (gw 4 Sc) ga_nil Gc)) ge_int) ga_nil Hm) Gb) Gc)) ga_nil Hn)))))))))))))))))))))
end
theorem Gwh{l:PySem.W.OpenLaw}{h:Heap}{fa:Addr}(X:K.In h)(G:h.Ns mainGlobals mg)(hfa:mg "law"=some (.ref fa))(HS:Hs K){kp_CHAMBER:Addr}{kt_CHAMBER:Tok}{kn_CHAMBER:Nat}{ks_CHAMBER:Array (Option Value)}(ka_CHAMBER:PySem.W.nsIn K mainGlobals "CHAMBER"=some (some (.ref kp_CHAMBER)))(kl_CHAMBER:K.lookup kp_CHAMBER=some { cls:=.type "tuple",dict:=none,data:=.seq #[.str "chamber" kt_CHAMBER] kn_CHAMBER,slots:=ks_CHAMBER }){kp_END:Addr}{kt_END:Tok}{kn_END:Nat}{ks_END:Array (Option Value)}(ka_END:PySem.W.nsIn K mainGlobals "END"=some (some (.ref kp_END)))(kl_END:K.lookup kp_END=some { cls:=.type "tuple",dict:=none,data:=.seq #[.str "end" kt_END] kn_END,slots:=ks_END }){kt_UP:Tok}(ka_UP:PySem.W.nsIn K mainGlobals "UP"=some (some (.str "up" kt_UP))){cc_SummitError:Addr}(ca_SummitError:PySem.W.nsIn K mainGlobals "SummitError"=some (some (.ref cc_SummitError))){cc_NoGate:Addr}(ca_NoGate:PySem.W.nsIn K mainGlobals "NoGate"=some (some (.ref cc_NoGate))){cc_Dry:Addr}(ca_Dry:PySem.W.nsIn K mainGlobals "Dry"=some (some (.ref cc_Dry))){cc_Full:Addr}(ca_Full:PySem.W.nsIn K mainGlobals "Full"=some (some (.ref cc_Full))){cc_NoSpring:Addr}(ca_NoSpring:PySem.W.nsIn K mainGlobals "NoSpring"=some (some (.ref cc_NoSpring))){cc_NoBarge:Addr}(ca_NoBarge:PySem.W.nsIn K mainGlobals "NoBarge"=some (some (.ref cc_NoBarge))){cc_NoRoom:Addr}(ca_NoRoom:PySem.W.nsIn K mainGlobals "NoRoom"=some (some (.ref cc_NoRoom))){cc_Uneven:Addr}(ca_Uneven:PySem.W.nsIn K mainGlobals "Uneven"=some (some (.ref cc_Uneven))){cc_Shallow:Addr}(ca_Shallow:PySem.W.nsIn K mainGlobals "Shallow"=some (some (.ref cc_Shallow))){cc_Falls:Addr}(ca_Falls:PySem.W.nsIn K mainGlobals "Falls"=some (some (.ref cc_Falls))){cc_NoText:Addr}(ca_NoText:PySem.W.nsIn K mainGlobals "NoText"=some (some (.ref cc_NoText))){cc_TooMany:Addr}(ca_TooMany:PySem.W.nsIn K mainGlobals "TooMany"=some (some (.ref cc_TooMany))){cc_NoLine:Addr}(ca_NoLine:PySem.W.nsIn K mainGlobals "NoLine"=some (some (.ref cc_NoLine)))(xtb:Gmm K cc_SummitError [("NoGate",cc_NoGate),("Dry",cc_Dry),("Full",cc_Full),("NoSpring",cc_NoSpring),("NoBarge",cc_NoBarge),("NoRoom",cc_NoRoom),("Uneven",cc_Uneven),("Shallow",cc_Shallow),("Falls",cc_Falls),("NoText",cc_NoText),("TooMany",cc_TooMany),("NoLine",cc_NoLine)] [("NoGate",cc_NoGate),("Dry",cc_Dry),("Full",cc_Full),("NoSpring",cc_NoSpring),("NoBarge",cc_NoBarge),("NoRoom",cc_NoRoom),("Uneven",cc_Uneven),("Shallow",cc_Shallow),("Falls",cc_Falls),("NoText",cc_NoText),("TooMany",cc_TooMany),("NoLine",cc_NoLine)]=true)(atb:atB K [("Falls",cc_Falls),("NoText",cc_NoText)]=true){fi:Addr}{odI anI:Option Addr}{slI:Array (Option Value)}{kVI dcI pmI cdI ctI:Value}(iI:PySem.W.findIn K (.ref cc_SummitError) "__init__"=some (some (.ref fi)))(lI:K.lookup fi=some ⟨.type "function",odI,.func (PySem.W.fnOf "__init__" "SummitError.__init__" (Jg Qc) (Hi Qc) (Gf Qc) .none kVI dcI pmI anI cdI ctI),slI⟩)(cI:PySem.W.codeIn K cdI "SummitError.__init__"=true)(kI:PySem.W.keepIn K (.ref fi)=true)(cx_Dry:Geh K cc_Dry fi=true)(cx_Full:Geh K cc_Full fi=true)(cx_NoBarge:Geh K cc_NoBarge fi=true)(cx_NoGate:Geh K cc_NoGate fi=true)(cx_NoRoom:Geh K cc_NoRoom fi=true)(cx_NoSpring:Geh K cc_NoSpring fi=true)(cx_Shallow:Geh K cc_Shallow fi=true)(cx_Uneven:Geh K cc_Uneven fi=true)(rdI:PySem.W.readsIn K cc_SummitError (.type "type")=true)(fcI:PySem.W.findCls K (.ref cc_SummitError) (.type "type") "__init__"=some (.val (.ref fi)))(sgI:PySem.W.specialIn K (.ref cc_SummitError) "__getattribute__"=some (some (.builtin "type.__getattribute__"))){fj_Falls:Addr}{odJ_Falls anJ_Falls:Option Addr}{slJ_Falls:Array (Option Value)}{kVJ_Falls dcJ_Falls pmJ_Falls cdJ_Falls ctJ_Falls:Value}(iJ_Falls:PySem.W.findIn K (.ref cc_Falls) "__init__"=some (some (.ref fj_Falls)))(lJ_Falls:K.lookup fj_Falls=some ⟨.type "function",odJ_Falls,.func (PySem.W.fnOf "__init__" "Falls.__init__" (Jg Hu) (Hi Hu) (Gf Hu) .none kVJ_Falls dcJ_Falls pmJ_Falls anJ_Falls cdJ_Falls ctJ_Falls),slJ_Falls⟩)(cJ_Falls:PySem.W.codeIn K cdJ_Falls "Falls.__init__"=true)(kJ_Falls:PySem.W.keepIn K (.ref fj_Falls)=true)(cj_Falls:Gv4 K cc_Falls fj_Falls=true)
  : ∃ fd:FuncData,(∀ (s:Shared) (v:Value),BindsTo s fd ⟨[v],[]⟩ [("_law_script",v)])/\∀ base:Heap,K.In base->base.Ns mainGlobals mg->FnOk l.prog w K mg base CX0 10 fa fd ["_law_script"] (spD K 1 Gd6):=by
 obtain⟨_,_,_,_,_,_,_,_,_,k_law,c_law,l_law⟩:=HS.h_law.fnx X G hfa
 have F:=Gbx (st:=Gdt) l_law c_law k_law
 have T:Txt K mg:=⟨PySem.W.mg_none_of X G HS.z_ValueError,PySem.W.mg_none_of X G HS.z_bool,PySem.W.mg_none_of X G HS.z_enumerate,PySem.W.mg_none_of X G HS.z_int,PySem.W.mg_none_of X G HS.z_isinstance,PySem.W.mg_none_of X G HS.z_len,PySem.W.mg_none_of X G HS.z_list,PySem.W.mg_none_of X G HS.z_min,PySem.W.mg_none_of X G HS.z_range,PySem.W.mg_none_of X G HS.z_repr,PySem.W.mg_none_of X G HS.z_str,PySem.W.mg_none_of X G HS.z_tuple,Gm0 X G ka_CHAMBER kl_CHAMBER,Gm0 X G ka_END kl_END,Gqt X G ka_UP,HS.h_open_done.fv X G,Gyx X G ca_SummitError xtb,Gy2 atb⟩
 have hVE:mg "ValueError"=none:=PySem.W.mg_none_of X G HS.z_ValueError
 have ini:∀ base:Heap,IniX l.prog w K mg base fi 1:=fun base=>ini_mk (st:=Qc) lI cI kI sc_init (Gkp hVE) (fun _ _ _ _ _ _ us hl=>match us,hl with | [_,_],_=>rfl)
 have bI:BaseI K mg "SummitError" fi:=⟨cc_SummitError,.type "type",PySem.W.mg_of X G ca_SummitError,rdI,fcI,sgI,kI⟩
 have iniq:∀ base:Heap,IniXQ l.prog w K mg base fi 1:=fun base=>iniq_mk (st:=Qc) lI cI kI sc_init (Gic hVE) (fun _ _ _ _ _ _ us hl=>match us,hl with | [_,_],_=>rfl)
 have jnq_Falls:∀ base:Heap,IniJQ l.prog w K mg base fj_Falls 3:=fun base=>injq_mk (st:=Hu) 2 lJ_Falls cJ_Falls kJ_Falls sc_init_Falls (Gb3 bI (iniq base)) (fun _ _ _ _ _ _ us hl=>match us,hl with | [_,_],_=>rfl)
 exact⟨_,fun s v=>.of_eq rfl,fun base _ _=>Gqv ⟨HS,⟨h,X,G⟩,T,Zq X G (ini base) ca_Dry cx_Dry,Zq X G (ini base) ca_Full cx_Full,Zq X G (ini base) ca_NoBarge cx_NoBarge,Zq X G (ini base) ca_NoGate cx_NoGate,Zq X G (ini base) ca_NoRoom cx_NoRoom,Zq X G (ini base) ca_NoSpring cx_NoSpring,Zq X G (ini base) ca_Shallow cx_Shallow,Zq X G (ini base) ca_Uneven cx_Uneven,Gql X G (jnq_Falls base) ca_Falls cj_Falls⟩ F⟩
end Law
namespace WM
def stp(b l d:Int):Int:=min b (l+d)
def F(b:Int)(ds:List Int)(x:Int):Int:=ds.foldl (stp b) x
def AP(ds:List Int)(x:Int):Prop:=∀ j,1<=j->j<=ds.length->0<=x+(ds.take j).sum
inductive R where
 | dry (k:Nat) | lev (l:Int)
def R.bind(o:R)(g:Int->R):R:=match o with
 | .dry k=>.dry k
 | .lev l=>g l
def wl(b:Int):List Int->Nat->Int->R
 | [],_,x=>.lev x
 | d::r,k,x=>if stp b x d<0 then .dry k else wl b r (k+1) (stp b x d)
def most(b:Int)(ds:List Int):Int:=F b ds.tail b
def start(ds:List Int)(mn:Int):Int:=max 0 (-mn)
structure IsMin(ds:List Int)(mn:Int):Prop where
 le:∀ j,1<=j->j<=ds.length->mn<=(ds.take j).sum
 at':∃ j,1<=j/\j<=ds.length/\mn=(ds.take j).sum
end WM
namespace DL
open PySem PySem.Spec PyProof.Rows L2
variable{i:Int}{d:D}{f fa:Ev D}{k:Nat}
section
variable{ρ:Lc}{S:Sto}{α β:Type}
@[simp] theorem Gx{a:α}{g:α->Sto->Out β}:(Out.ok a S).bind g=g a S:=id rfl
@[simp] theorem Gzh{g:α->Sto->Out β}:(Out.bad:Out α).bind g=.bad:=id rfl
@[simp] theorem Hd{a:α}{g:α->Sto->OS}:bindS (Out.ok a S) ρ g=g a S:=id rfl
@[simp] theorem Gxd{g:α->Sto->OS}:bindS (Out.bad:Out α) ρ g=.bad:=id rfl
@[simp] theorem Wp{i:Nat}:vr i ρ S=match ρ[i]? with
 | some (some d)=>.ok d S
 | _=>.bad:=id rfl
@[simp] theorem Wq:cn d ρ S=.ok d S:=id rfl
@[simp] theorem Yd:an ρ S=.ok [] S:=id rfl
@[simp] theorem Ur{g:Ev (List D)}:ac f g ρ S=(f ρ S).bind fun x S1=>(g ρ S1).bind fun xs S2=>.ok (x::xs) S2:=id rfl
@[simp] theorem Vn{o:D->D->Sto->Out D}{fb:Ev D}:o2 o fa fb ρ S=(fa ρ S).bind fun x S1=>(fb ρ S1).bind fun y S2=>o x y S2:=id rfl
@[simp] theorem Hbf{o:D->Sto->Out D}:o1 o fa ρ S=(fa ρ S).bind fun x S1=>o x S1:=id rfl
@[simp] theorem Gfd{o:List D->Sto->Out D}{f:Ev (List D)}:b1 o f ρ S=(f ρ S).bind o:=id rfl
@[simp] theorem Gjg{n:Nat}{fn:Fn}{t:Ev (List D)}:cl n fn t ρ S=(t ρ S).bind fun ds S1=>if ds.length=n then fn ds S1 else .bad:=id rfl
@[simp] theorem Gbo{fn:Fn}{ds:List D}:Gm fn ds S=match fn ds S with
 | .ok d S'=>.ok d S'
 | _=>.bad:=id rfl
@[simp] theorem Gck:tb f ρ S=(f ρ S).bind fun x S1=>match x with
 | .bl b=>.ok b S1
 | _=>.bad:=id rfl
@[simp] theorem Gsh:tt f ρ S=(f ρ S).bind fun x S1=>match Uc x S1 with
 | some b=>.ok b S1
 | none=>.bad:=id rfl
@[simp] theorem Hbg{f:Ev Bool}:tn f ρ S=(f ρ S).bind fun b S1=>.ok (!b) S1:=id rfl
@[simp] theorem Gm8{f g:Ev Bool}:ta f g ρ S=(f ρ S).bind fun b S1=>if b=true then g ρ S1 else .ok false S1:=id rfl
@[simp] theorem Gzi{f g:Ev Bool}:to f g ρ S=(f ρ S).bind fun b S1=>if b=true then .ok true S1 else g ρ S1:=id rfl
@[simp] theorem Gzj{g:Ev D}:va f g ρ S=(f ρ S).bind fun x S1=>match x with
 | .bl b=>if b=true then g ρ S1 else .ok (.bl false) S1
 | _=>.bad:=id rfl
@[simp] theorem Hbh{g:Ev D}:vo f g ρ S=(f ρ S).bind fun x S1=>match x with
 | .bl b=>if b=true then .ok (.bl true) S1 else g ρ S1
 | _=>.bad:=id rfl
@[simp] theorem Hbi:vn f ρ S=(f ρ S).bind fun x S1=>match x with
 | .bl b=>.ok (.bl (!b)) S1
 | _=>.bad:=id rfl
@[simp] theorem Hbj{c:Ev Bool}{g:Ev D}:ie c f g ρ S=(c ρ S).bind fun b S1=>if b=true then f ρ S1 else g ρ S1:=id rfl
@[simp] theorem Gjh{f:Ev (List D)}:tp f ρ S=(f ρ S).bind fun xs S1=>if xs.length<=1000000 then .ok (.tup xs) S1 else .bad:=id rfl
@[simp] theorem Gcl{f:Ev (List D)}:ls f ρ S=(f ρ S).bind fun xs S1=>if xs.length<=1000000 then .ok (.lst S1.length) (S1++[⟨false,xs⟩]) else .bad:=id rfl
@[simp] theorem Ha6{fe:Ev D}{fl fh:Ev (Option Int)}:sl2 fe fl fh ρ S=(fe ρ S).bind fun x S1=>(fl ρ S1).bind fun l S2=>(fh ρ S2).bind fun u S3=>Gbf x l u S3:=id rfl
@[simp] theorem Gzk:onone ρ S=.ok none S:=id rfl
@[simp] theorem Gzl:osome f ρ S=(f ρ S).bind fun x S1=>match x with
 | .int i=>.ok (some i) S1
 | _=>.bad:=id rfl
@[simp] theorem Hbk{o:D->List D->Sto->Out D}{fo:Ev D}{f:Ev (List D)}:mt o fo f ρ S=(fo ρ S).bind fun x S1=>if isLst x S1=true then(f ρ S1).bind fun xs S2=>o x xs S2 else .bad:=id rfl
@[simp] theorem Hbl{o o':D->D->Sto->Out D}{fb fc:Ev D}:ch o o' fa fb fc ρ S=(fa ρ S).bind fun x S1=>(fb ρ S1).bind fun y S2=>(o x y S2).bind fun z S3=>match z with
 | .bl b=>if b=true then(fc ρ S3).bind fun w S4=>o' y w S4 else .ok (.bl false) S3
 | _=>.bad:=id rfl
@[simp] theorem Ye{f g:Sv}:sq f g ρ S=match f ρ S with
 | .nx ρ' S'=>g ρ' S'
 | .rt d S'=>.rt d S'
 | .bk ρ' S'=>.bk ρ' S'
 | .ct ρ' S'=>.ct ρ' S'
 | .exc x ρ' S'=>.exc x ρ' S'
 | .bad=>.bad:=id rfl
@[simp] theorem Vo{g:Tg}:sa f g ρ S=bindS (f ρ S) ρ fun d S1=>match g d ρ with
 | some ρ'=>.nx ρ' S1
 | none=>.bad:=id rfl
@[simp] theorem Gm9{i:Nat}:gn i d ρ=some (ρ.set i (some d)):=id rfl
@[simp] theorem Gc1:sret f ρ S=bindS (f ρ S) ρ fun d S1=>.rt d S1:=id rfl
@[simp] theorem Ga9{c:Ev Bool}{f g:Sv}:sif c f g ρ S=bindS (c ρ S) ρ fun b S1=>if b=true then f ρ S1 else g ρ S1:=id rfl
@[simp] theorem Hbm:sx f ρ S=bindS (f ρ S) ρ fun _ S1=>.nx ρ S1:=id rfl
@[simp] theorem Ggg:skip ρ S=.nx ρ S:=id rfl
@[simp] theorem Hbn{fo fi:Ev D}{o:D->D->D->Sto->Option Sto}:ss f fo fi o ρ S=bindS (f ρ S) ρ fun d S1=>bindS (fo ρ S1) ρ fun x S2=>bindS (fi ρ S2) ρ fun y S3=>match o x y d S3 with
 | some S4=>.nx ρ S4
 | none=>.bad:=id rfl
@[simp] theorem Ha7{i:Nat}{g:Int->Int->Int}:sag i g f ρ S=match ρ[i]? with
 | some (some (.int a))=>bindS (f ρ S) ρ fun d S1=>match d with
  | .int b=>.nx (ρ.set i (some (.int (g a b)))) S1
  | _=>.bad
 | _=>.bad:=id rfl
@[simp] theorem Gar:isrc f ρ S=(f ρ S).bind Gg1:=id rfl
@[simp] theorem Uo{f:Ev Src}{g:Tg}{b:Sv}:sfor f g b ρ S=bindS (f ρ S) ρ fun s S1=>Ua s.nxt g b s.fuel 0 ρ S1:=id rfl
section
variable{i j:Int}
@[simp] theorem Ggh:Gw (.int i) (.int j) S=.ok (.int (i+j)) S:=id rfl
@[simp] theorem Gig:Xc (.int i) (.int j) S=.ok (.int (i-j)) S:=id rfl
@[simp] theorem Hbo:Ga2 (.int i) S=.ok (.int (-i)) S:=id rfl
theorem Gsi(h1 : -(2^64)<j)(h2:j<2^64):Kj (.int i) (.int j) S=.ok (.int (i*j)) S:=by
 show(if(-(2^64)<i/\i<2^64)\/(-(2^64)<j/\j<2^64) then Out.ok (D.int (i*j)) S else .bad)=_
 rw[if_pos (.inr ⟨h1,h2⟩)]
theorem Gfe(h1 : -(2^64)<i)(h2:i<2^64):Kj (.int i) (.int j) S=.ok (.int (i*j)) S:=by
 show(if(-(2^64)<i/\i<2^64)\/(-(2^64)<j/\j<2^64) then Out.ok (D.int (i*j)) S else .bad)=_
 rw[if_pos (.inl ⟨h1,h2⟩)]
theorem Gca(h:0<j):Yj (.int i) (.int j) S=.ok (.int (i%j)) S:=by
 show(if decide (0<j)=true then Out.ok (D.int (i%j)) S else .bad)=_
 rw[if_pos (by simpa using h)]
theorem Ggi(h:0<j)(h2:j<2^200):We (.int i) (.int j) S=.ok (.int (i / j)) S:=by
 show(if decide (0<j/\j<2^200)=true then Out.ok (D.int (i / j)) S else .bad)=_
 rw[if_pos (decide_eq_true ⟨h,h2⟩)]
theorem Gih{n:Nat}(h:(n:Int)<=1000000)(h2:i.natAbs<2^64):Gfw (.int i) (.int n) S=.ok (.int (i^n)) S:=by
 show(if decide (0<=(n:Int)/\(n:Int)<=1000000/\i.natAbs<2^64)=true then Out.ok (D.int (i^(n:Int).toNat)) S else .bad)=_
 rw[if_pos (decide_eq_true ⟨by omega,h,h2⟩)]
 rfl
@[simp] theorem Hbp:Gfw (.int 10) (.int 6) S=.ok (.int 1000000) S:=Gih (n:=6) (by decide) (by decide)
@[simp] theorem Ha8:Gfw (.int 10) (.int 15) S=.ok (.int 1000000000000000) S:=Gih (n:=15) (by decide) (by decide)
@[simp] theorem Ha9:Gfw (.int 10) (.int 18) S=.ok (.int 1000000000000000000) S:=Gih (n:=18) (by decide) (by decide)
@[simp] theorem Hbq:ltD (.int i) (.int j) S=.ok (.bl (decide (i<j))) S:=id rfl
@[simp] theorem Hbr:leD (.int i) (.int j) S=.ok (.bl (decide (i<=j))) S:=id rfl
@[simp] theorem Hbs:gtD (.int i) (.int j) S=.ok (.bl (decide (j<i))) S:=id rfl
@[simp] theorem Hbt:geD (.int i) (.int j) S=.ok (.bl (decide (j<=i))) S:=id rfl
@[simp] theorem Hba:Gkh [.int i,.int j] S=.ok (.int (min i j)) S:=by
 show Out.ok (D.int (if j<i then j else i)) S=_
 congr 2
 omega
@[simp] theorem Hbb:Hay [.int i,.int j] S=.ok (.int (max i j)) S:=by
 show Out.ok (D.int (if j>i then j else i)) S=_
 congr 2
 omega
@[simp] theorem Gna:eqD (.int i) (.int j) S=.ok (.bl (decide (i=j))) S:=by
 simp only[eqD,toP]
 simp[SeqAt.shaped,PyData.eqv]
 rfl
@[simp] theorem Hbu:neD (.int i) (.int j) S=.ok (.bl (!decide (i=j))) S:=by
 simp only[neD,toP]
 simp[SeqAt.shaped,PyData.eqv]
 rfl
theorem Kl{x y:Str}(hx:PyData.strOk x=true)(hy:PyData.strOk y=true):eqD (.str x) (.str y) S=.ok (.bl (x==y)) S:=by
 simp only[eqD,toP]
 simp[SeqAt.shaped,PyData.eqv,PyData.canLay0,PyData.depth,hx,hy]
end
@[simp] theorem Hbv{l:List D}:Jl [.tup l] S=.ok (.int l.length) S:=id rfl
theorem Gff{c:Cell}(h:S[k]?=some c):Jl [.lst k] S=.ok (.int c.xs.length) S:=by
 show(match S[k]? with | some c=>Out.ok (D.int c.xs.length) S | none=>.bad)=_
 rw[h]
theorem Qh{c:Cell}(h:S[k]?=some c)(e:atI c.xs i=some d):getD (.lst k) (.int i) S=.ok d S:=by
 show(match S[k]? with | some c=>(match atI c.xs i with | some d=>Out.ok d S | none=>.bad) | none=>.bad)=_
 rw[h]
 show(match atI c.xs i with | some d=>Out.ok d S | none=>.bad)=_
 rw[e]
theorem Jd{l:List D}(e:atI l i=some d):getD (.tup l) (.int i) S=.ok d S:=by
 show(match atI l i with | some d=>Out.ok d S | none=>.bad)=_
 rw[e]
theorem Hj{α:Type}{l:List α}{d:α}(h0:0<=i)(e:l[i.toNat]?=some d):atI l i=some d:=by
 unfold atI ixN
 have:i.toNat<l.length:=(List.getElem?_eq_some_iff.mp e).1
 rw[if_pos h0,if_pos (by omega)]
 exact e
theorem Gji{xs:List D}(h:S[k]?=some ⟨false,xs⟩)(h0:0<=i)(h1:i<xs.length):Ub (.lst k) (.int i) d S=some (S.set k ⟨false,xs.set i.toNat d⟩):=by
 show(match S[k]? with | some c=>(match ixN c.xs.length i with | some j=>if c.fz=false then some (S.set k ⟨false,c.xs.set j d⟩) else none | none=>none) | none=>none)=_
 rw[h]
 show(match ixN xs.length i with | some j=>if false=false then some (S.set k ⟨false,xs.set j d⟩) else none | none=>none)=_
 unfold ixN
 rw[if_pos h0,if_pos h1]
 rfl
@[simp] theorem Hbw{l:List Int}:Hax [.tup (l.map D.int)] S=.ok (.int l.sum) S:=by
 have:∀ l:List Int,Gdi (l.map D.int)=some l:=fun l=>by
  induction l with
  | nil=>rfl
  | cons a r ih=>show(Gdi (r.map D.int)).map (a::·)=_; rw[ih]; rfl
 show(match (some (l.map D.int)).bind Gdi with | some ns=>Out.ok (D.int ns.sum) S | none=>.bad)=_
 rw[Option.bind_some,this]
end
end DL
namespace Law
open PySem PySem.Spec PyProof.Rows L2 DL
variable{m t k j q n i:Nat}{b fz u:Bool}{ds xs:List D}{S S' S1 S2 S0:Sto}{d s:D}{f X:Sv}{ρ ρ':Lc}{c:Cell}{a r cr lH lL v:Int}{x:XD}{y:Str}{ns L M A B C:List Int}{x1 x2 x4 x8 x9 x7 x3 x5:Option D}{nxt:Nat->Sto->Option D}{α:Type}{us:List Bool}
def fin(o:OS):Out D:=match o with
 | .rt d S'=>.ok d S'
 | .nx _ S'=>.ok .non S'
 | .exc x _ S'=>.exc x S'
 | _=>.bad
theorem Gy{b:Sv}:fnB m b ds S=fin (b (ds.map some++List.replicate (m-ds.length) none) S):=id rfl
@[simp] theorem Gnb:fin (.rt d S)=.ok d S:=id rfl
theorem Gh{g:Sv}(h:f ρ S=.nx ρ' S'):fin (sq f g ρ S)=fin (g ρ' S'):=by rw[Ye,h]
theorem Jf{g:Sv}(h:f ρ S=.rt d S'):fin (sq f g ρ S)=.ok d S':=by rw[Ye,h]; rfl
structure Dp(S:Sto)(t k:Nat)(n:Nat):Prop where
 ex:∃ (a b:Int) (xs:List Int),S[t]?=some ⟨false,[.lst k,.int a,.int b]⟩/\S[k]?=some ⟨false,xs.map D.int⟩/\0<=a/\a<=n
 ne:t≠k
structure Kp(S S':Sto)(t k:Nat):Prop where
 len:S.length<=S'.length
 get:∀ i,i<S.length->i≠t->i≠k->S'[i]?=S[i]?
theorem Kp.refl:Kp S S t k:=⟨Nat.le_refl _,fun _ _ _ _=>rfl⟩
theorem Kp.trans(a:Kp S S1 t k)(b:Kp S1 S2 t k):Kp S S2 t k:=⟨Nat.le_trans a.len b.len,fun i h h1 h2=>(b.get i (Nat.lt_of_lt_of_le h a.len) h1 h2).trans (a.get i h h1 h2)⟩
theorem Kp.set(h:j=t\/j=k):Kp S (S.set j c) t k:=⟨by simp,fun i _ h1 h2=>by
 rw[List.getElem?_set_ne]
 rcases h with h | h
 ·rw[h]; exact Ne.symm h1
 ·rw[h]; exact Ne.symm h2⟩
theorem Kp.app:Kp S (S++[c]) t k:=⟨by simp,fun i h _ _=>by rw[List.getElem?_append_left h]⟩
theorem Kp.at(a:Kp S S' t k)(e:S[q]?=some c)(h1:q≠t)(h2:q≠k):S'[q]?=some c:=(a.get q (List.getElem?_eq_some_iff.mp e).1 h1 h2).trans e
theorem Hg:(S++[c])[S.length]?=some c:=by rw[List.getElem?_append_right (Nat.le_refl _)]; simp
theorem Vc{d:Cell}(e:S[q]?=some d):(S++[c])[q]?=some d:=by
 rw[List.getElem?_append_left (List.getElem?_eq_some_iff.mp e).1]; exact e
theorem Dp.app(h:Dp S t k n):Dp (S++[c]) t k n:=by
 obtain⟨⟨a,b,xs,e1,e2,h⟩,ne⟩:=h
 exact⟨⟨a,b,xs,Vc e1,Vc e2,h⟩,ne⟩
theorem Dp.lt(h:Dp S t k n):t<S.length/\k<S.length:=by
 obtain⟨⟨a,b,xs,e1,e2,h⟩,ne⟩:=h
 exact⟨(List.getElem?_eq_some_iff.mp e1).1,(List.getElem?_eq_some_iff.mp e2).1⟩
theorem Dp.set(h:Dp S t k n)(h1:q≠t)(h2:q≠k):Dp (S.set q c) t k n:=by
 obtain⟨⟨a,b,xs,e1,e2,h⟩,ne⟩:=h
 exact⟨⟨a,b,xs,by rw[List.getElem?_set_ne h1]; exact e1,by rw[List.getElem?_set_ne h2]; exact e2,h⟩,ne⟩
theorem Dp.mono(h:Dp S t k n)(hm:n<=m):Dp S t k m:=by
 obtain⟨⟨a,b,xs,e1,e2,h0,h1⟩,ne⟩:=h
 exact⟨⟨a,b,xs,e1,e2,h0,by omega⟩,ne⟩
def Gwi:Sv:=(sq (sif (ta (tb (o2 ltD (vr 3) (b1 Jl (ac (o2 DL.getD (vr 0) (cn (.int 0))) an)))) (tb (o2 geD (vr 4) (o2 Gfw (cn (.int 10)) (cn (.int 18))))))
  (sq (ss (o2 We (vr 4) (vr 1)) (vr 0) (cn (.int 2)) Ub)
  (sret (o2 Yj (vr 4) (vr 1))))
  DL.skip)
  (sq (sa (o2 Yj (o2 Kj (o2 Gw (o2 Yj (vr 4) (cn (.int 1000003))) (cn (.int 1))) (o2 Gw (o2 Gw (o2 Kj (o2 Kj (cn (.int 7919)) (vr 3)) (vr 3)) (o2 Kj (cn (.int 104729)) (vr 3))) (cn (.int 12345)))) (cn (.int 2147483647))) (gn 5))
  (sq (sa (o2 Yj (o2 Gw (o2 Gw (o2 Kj (vr 5) (vr 5)) (o2 Kj (cn (.int 48271)) (vr 3))) (o2 Yj (vr 4) (cn (.int 65537)))) (cn (.int 2147483629))) (gn 5))
  (sret (o2 Yj (o2 We (vr 5) (cn (.int 8))) (vr 1))))))
theorem Gwj{m b c:Int}{xs:List Int}{g2:Option D}(e1:S[t]?=some ⟨false,[.lst k,.int (a+1),.int b]⟩)(e2:S[k]?=some ⟨false,xs.map D.int⟩)(ne:t≠k)(ha:0<=a)(han:a<=n)(hn:n<2^60)(hm:0<m)(hm2:m<2^200):
  ∃ r S',fin (Gwi [some (.lst t),some (.int m),g2,some (.int a),some (.int c),none] S)=.ok (.int r) S'/\0<=r/\r<m/\Dp S' t k (n+1)/\Kp S S' t k:=by
 have g0:DL.getD (.lst t) (.int 0) S=.ok (.lst k) S:=Qh e1 rfl
 have ln:Jl [.lst k] S=.ok (.int xs.length) S:=by rw[Gff e2]; simp
 have lt:t<S.length:=(List.getElem?_eq_some_iff.mp e1).1
 have s2:Ub (.lst t) (.int 2) (.int (c / m)) S=some (S.set t ⟨false,[.lst k,.int (a+1),.int (c / m)]⟩):=Gji e1 (by decide) (by simp)
 by_cases h:a<xs.length/\1000000000000000000<=c
 ·refine⟨c%m,S.set t ⟨false,[.lst k,.int (a+1),.int (c / m)]⟩,?_,Int.emod_nonneg _ (by omega),Int.emod_lt_of_pos _ hm,⟨⟨a+1,c / m,xs,List.getElem?_set_self lt,by rw[List.getElem?_set_ne ne]; exact e2,by omega,by omega⟩,ne⟩,Kp.set (.inl rfl)⟩
  unfold Gwi
  exact Jf (by simp[g0,ln,h.1,h.2,Ggi hm hm2,s2,Gca hm])
 ·have sqr:∀ x:Int,Kj (.int (x%2147483647)) (.int (x%2147483647)) S=.ok (.int (x%2147483647*(x%2147483647))) S:=fun x=>Gsi (by omega) (by omega)
  have m1:Kj (.int (7919*a)) (.int a) S=.ok (.int (7919*a*a)) S:=Gsi (by omega) (by omega)
  have m2:∀ y:Int,Kj (.int (c%1000003+1)) (.int y) S=.ok (.int ((c%1000003+1)*y)) S:=fun y=>Gfe (by omega) (by omega)
  obtain⟨z,hz⟩:∃ z:Int,z=((c%1000003+1)*(7919*a*a+104729*a+12345))%2147483647:=⟨_,rfl⟩
  obtain⟨y,hy⟩:∃ y:Int,y=(z*z+48271*a+c%65537)%2147483629:=⟨_,rfl⟩
  have mz:Kj (.int z) (.int z) S=.ok (.int (z*z)) S:=by rw[hz]; exact sqr _
  have e1':sif (ta (tb (o2 ltD (vr 3) (b1 Jl (ac (o2 DL.getD (vr 0) (cn (.int 0))) an)))) (tb (o2 geD (vr 4) (o2 Gfw (cn (.int 10)) (cn (.int 18)))))) (sq (ss (o2 We (vr 4) (vr 1)) (vr 0) (cn (.int 2)) Ub) (sret (o2 Yj (vr 4) (vr 1)))) DL.skip [some (.lst t),some (.int m),g2,some (.int a),some (.int c),none] S=.nx [some (.lst t),some (.int m),g2,some (.int a),some (.int c),none] S:=by
   by_cases c1:a<xs.length
   ·have c2:¬ 1000000000000000000<=c:=fun z=>h ⟨c1,z⟩
    simp[g0,ln,c1,c2]
   ·simp[g0,ln,c1]
  refine⟨y / 8%m,S,?_,Int.emod_nonneg _ (by omega),Int.emod_lt_of_pos _ hm,⟨⟨a+1,b,xs,e1,e2,by omega,by omega⟩,ne⟩,.refl⟩
  unfold Gwi
  rw[Gh e1']
  refine(Gh (ρ':=[some (.lst t),some (.int m),g2,some (.int a),some (.int c),some (.int z)]) (S':=S) (by rw[hz]; simp[Gca,Gfe,m1,m2])).trans ?_
  refine(Gh (ρ':=[some (.lst t),some (.int m),g2,some (.int a),some (.int c),some (.int y)]) (S':=S) (by rw[hy]; simp[Gca,Gfe,mz])).trans ?_
  simp[Ggi,Gca hm]
theorem Hx{m:Int}(h:Dp S t k n)(hn:n<2^60)(hm:0<m)(hm2:m<2^200):∃ r S',Gj [.lst t,.int m] S=.ok (.int r) S'/\0<=r/\r<m/\Dp S' t k (n+1)/\Kp S S' t k:=by
 obtain⟨⟨a,b,xs,e1,e2,ha,han⟩,ne⟩:=h
 have lt:t<S.length:=(List.getElem?_eq_some_iff.mp e1).1
 have g1:DL.getD (.lst t) (.int 1) S=.ok (.int a) S:=Qh e1 rfl
 have g2:DL.getD (.lst t) (.int 2) S=.ok (.int b) S:=Qh e1 rfl
 have s1:Ub (.lst t) (.int 1) (.int (a+1)) S=some (S.set t ⟨false,[.lst k,.int (a+1),.int b]⟩):=Gji e1 (by decide) (by simp)
 have s2:Ub (.lst t) (.int 2) (.int (b / m)) S=some (S.set t ⟨false,[.lst k,.int a,.int (b / m)]⟩):=Gji e1 (by decide) (by simp)
 have hf:∀ X,Gj [.lst t,.int m] S=X↔fin (Kx [some (.lst t),some (.int m),none,none,none,none] S)=X:=fun X=>by rw[show Gj [.lst t,.int m] S=fin (Kx [some (.lst t),some (.int m),none,none,none,none] S) from Gy (m:=6) (b:=Kx)]
 by_cases c:0<b
 ·refine⟨b%m,S.set t ⟨false,[.lst k,.int a,.int (b / m)]⟩,(hf _).mpr ?_,Int.emod_nonneg _ (by omega),Int.emod_lt_of_pos _ hm,⟨⟨a,b / m,xs,List.getElem?_set_self lt,by rw[List.getElem?_set_ne ne]; exact e2,ha,by omega⟩,ne⟩,Kp.set (.inl rfl)⟩
  unfold Kx
  exact Jf (by simp[g2,c,Gca hm,Ggi hm hm2,s2])
 ·have e1':(S.set t ⟨false,[.lst k,.int (a+1),.int b]⟩)[t]?=some ⟨false,[.lst k,.int (a+1),.int b]⟩:=List.getElem?_set_self lt
  have e2':(S.set t ⟨false,[.lst k,.int (a+1),.int b]⟩)[k]?=some ⟨false,xs.map D.int⟩:=by rw[List.getElem?_set_ne ne]; exact e2
  have kp:Kp S (S.set t ⟨false,[.lst k,.int (a+1),.int b]⟩) t k:=Kp.set (.inl rfl)
  generalize S.set t ⟨false,[.lst k,.int (a+1),.int b]⟩=S1 at *
  have g0:DL.getD (.lst t) (.int 0) S1=.ok (.lst k) S1:=Qh e1' rfl
  have ln:Jl [.lst k] S1=.ok (.int xs.length) S1:=by rw[Gff e2']; simp
  obtain⟨cl',ec⟩:∃ cl':Int,sif (tb (o2 gtD (b1 Jl (ac (o2 DL.getD (vr 0) (cn (.int 0))) an)) (cn (.int 0)))) (sa (o2 DL.getD (o2 DL.getD (vr 0) (cn (.int 0))) (o2 Yj (vr 3) (b1 Jl (ac (o2 DL.getD (vr 0) (cn (.int 0))) an)))) (gn 4)) DL.skip [some (.lst t),some (.int m),none,some (.int a),some (.int 0),none] S1=.nx [some (.lst t),some (.int m),none,some (.int a),some (.int cl'),none] S1:=by
   by_cases c2:0<xs.length
   ·have c3:(0:Int)<xs.length:=by omega
    have lti:(a%(xs.length:Int)).toNat<xs.length:=by
     have:=Int.emod_lt_of_pos a c3
     have:=Int.emod_nonneg a (by omega:(xs.length:Int)≠0)
     omega
    have gi:DL.getD (.lst k) (.int (a%(xs.length:Int))) S1=.ok (.int xs[(a%(xs.length:Int)).toNat]) S1:=Qh e2' (Hj (Int.emod_nonneg a (by omega)) (by simp[lti]))
    exact⟨xs[(a%(xs.length:Int)).toNat],by simp[g0,ln,c2,Gca c3,gi]⟩
   ·exact⟨0,by simp[g0,ln,c2]⟩
  obtain⟨r,S',h1,h2,h3,h4,h5⟩:=Gwj (c:=cl') (g2:=none) e1' e2' ne ha han hn hm hm2
  refine⟨r,S',(hf _).mpr ?_,h2,h3,h4,kp.trans h5⟩
  unfold Kx
  refine(Gh (ρ':=[some (.lst t),some (.int m),none,none,none,none]) (S':=S) (by simp[g2,c])).trans ?_
  refine(Gh (ρ':=[some (.lst t),some (.int m),none,some (.int a),none,none]) (S':=S) (by simp[g1])).trans ?_
  refine(Gh (ρ':=[some (.lst t),some (.int m),none,some (.int a),none,none]) (S':=S1) (by simp[s1])).trans ?_
  refine(Gh (ρ':=[some (.lst t),some (.int m),none,some (.int a),some (.int 0),none]) (S':=S1) (by simp)).trans ?_
  rw[Gh ec]
  exact h1
theorem pick{x:D}(s:Kp (S++[⟨false,xs⟩]) S1 t k)(h:t<S.length/\k<S.length)(e:atI xs r=some x):DL.getD (.lst S.length) (.int r) S1=.ok x S1:=
 Qh (c:=⟨false,xs⟩) (s.at Hg (by omega) (by omega)) e
theorem Wz{m:Int}(h:Dp S t k n)(hn:n<2^60)(hm:m=xs.length)(h0:0<xs.length)(h1:xs.length<1000):∃ r x S1,Gj [.lst t,.int m] (S++[⟨false,xs⟩])=.ok (.int r) S1/\DL.getD (.lst S.length) (.int r) S1=.ok x S1/\x∈xs/\Dp S1 t k (n+1)/\Kp S S1 t k:=by
 obtain⟨r,S1,e1,r0,r1,d1,k1⟩:=Hx (m:=m) (h.app (c:=⟨false,xs⟩)) hn (by omega) (by omega)
 have hlt:r.toNat<xs.length:=by omega
 have ea:atI xs r=some xs[r.toNat]:=Hj r0 (by simp[hlt])
 exact⟨r,_,S1,e1,pick k1 h.lt ea,List.getElem_mem hlt,d1,Kp.app.trans k1⟩
inductive Pl where
 | e | c | p (br de ro:Int) (pr:D)
variable{p pH pL:Pl}{ps mid:List Pl}
def Pl.toD:Pl->D
 | .e=>.tup [.str "end"]
 | .c=>.tup [.str "chamber"]
 | .p br de ro pr=>.tup [.str "pound",.int br,.int de,.int ro,pr]
def Pl.ok:Pl->Prop
 | .p br de ro pr=>1<=br/\br<=9/\0<=de/\de<=br/\1<=ro/\ro<=4/\(pr=.non\/∃ i,pr=.int i/\0<=i/\i<=99)
 | _=>True
theorem Gnc(h:Dp S t k n)(hn:n<2^59):∃ br de ro pr S',Vw [.lst t] S=.ok (Pl.toD (.p br de ro pr)) S'/\Pl.ok (.p br de ro pr)/\Dp S' t k (n+9)/\Kp S S' t k:=by
 obtain⟨a1,S1,e1,a10,a11,d1,k1⟩:=Hx (m:=9) h (by omega) (by decide) (by decide)
 obtain⟨r2,x2,S2,e2,p2,m2,d2,k2⟩:=Wz (xs:=[.int 1,.int 2,.int 3,.int (1+a1)]) (m:=4) d1 (by omega) rfl (by simp) (by simp)
 obtain⟨br,hbr,br0,br1⟩:∃ i:Int,x2=.int i/\1<=i/\i<=9:=by
  simp only[List.mem_cons,List.mem_nil_iff,or_false] at m2
  rcases m2 with rfl | rfl | rfl | rfl
  ·exact⟨_,rfl,by decide,by decide⟩
  ·exact⟨_,rfl,by decide,by decide⟩
  ·exact⟨_,rfl,by decide,by decide⟩
  ·exact⟨_,rfl,by omega,by omega⟩
 subst hbr
 obtain⟨a3,S3,e3,a30,a31,d3,k3⟩:=Hx (m:=10) d2 (by omega) (by decide) (by decide)
 obtain⟨r4,x4,S4,e4,p4,m4,d4,k4⟩:=Wz (xs:=[.int 0,.int 0,.int 1,.int a3]) (m:=4) d3 (by omega) rfl (by simp) (by simp)
 obtain⟨de,hde,de0⟩:∃ i:Int,x4=.int i/\0<=i:=by
  simp only[List.mem_cons,List.mem_nil_iff,or_false] at m4
  rcases m4 with rfl | rfl | rfl | rfl
  ·exact⟨_,rfl,by decide⟩
  ·exact⟨_,rfl,by decide⟩
  ·exact⟨_,rfl,by decide⟩
  ·exact⟨_,rfl,a30⟩
 subst hde
 obtain⟨a5,S5,e5,a50,a51,d5,k5⟩:=Hx (m:=4) d4 (by omega) (by decide) (by decide)
 obtain⟨r6,x6,S6,e6,p6,m6,d6,k6⟩:=Wz (xs:=[.int 1,.int 2,.int (1+a5)]) (m:=3) d5 (by omega) rfl (by simp) (by simp)
 obtain⟨ro,hro,ro0,ro1⟩:∃ i:Int,x6=.int i/\1<=i/\i<=4:=by
  simp only[List.mem_cons,List.mem_nil_iff,or_false] at m6
  rcases m6 with rfl | rfl | rfl
  ·exact⟨_,rfl,by decide,by decide⟩
  ·exact⟨_,rfl,by decide,by decide⟩
  ·exact⟨_,rfl,by omega,by omega⟩
 subst hro
 obtain⟨a7,S7,e7,a70,a71,d7,k7⟩:=Hx (m:=100) d6 (by omega) (by decide) (by decide)
 obtain⟨a8,S8,e8,a80,a81,d8,k8⟩:=Hx (m:=5) d7 (by omega) (by decide) (by decide)
 obtain⟨r9,pr,S9,e9,p9,m9,d9,k9⟩:=Wz (xs:=[.non,.int a7,.int (1+a8),.int 0]) (m:=4) d8 (by omega) rfl (by simp) (by simp)
 have hpr:pr=.non\/∃ i:Int,pr=.int i/\0<=i/\i<=99:=by
  simp only[List.mem_cons,List.mem_nil_iff,or_false] at m9
  rcases m9 with rfl | rfl | rfl | rfl
  ·exact .inl rfl
  ·exact .inr ⟨_,rfl,by omega,by omega⟩
  ·exact .inr ⟨_,rfl,by omega,by omega⟩
  ·exact .inr ⟨_,rfl,by omega,by omega⟩
 refine⟨br,min br de,ro,pr,S9,?_,⟨br0,br1,by omega,by omega,ro0,ro1,hpr⟩,d9,k1.trans (k2.trans (k3.trans (k4.trans (k5.trans (k6.trans (k7.trans (k8.trans k9)))))))⟩
 simp[Vw,fnB,Yx,e1,e2,p2,e3,e4,p4,e5,e6,p6,e7,e8,e9,p9,Pl.toD]
theorem Ghl(e:S[q]?=some ⟨false,xs⟩)(h:xs.length<1000000):Yb (.lst q) [d] S=.ok .non (S.set q ⟨false,xs++[d]⟩):=by
 simp only[Yb,e]
 simp[h]
theorem isL(e:S[q]?=some c):isLst (.lst q) S=true:=by simp only[isLst,e]
theorem Up{nxt:Nat->Sto->Option D}{g:Tg}{b:Sv}{l:List D}(I:Nat->Lc->Sto->Prop)(hn:∀ k ρ S,I k ρ S->nxt k S=l[k]?)(hs:∀ k d ρ S,l[k]?=some d->I k ρ S->∃ ρ1 ρ2 S2,g d ρ=some ρ1/\b ρ1 S=.nx ρ2 S2/\I (k+1) ρ2 S2):
  ∀ (n k:Nat) (ρ:Lc) (S:Sto),k<=l.length->I k ρ S->l.length<n+k->∃ ρ' S',Ua nxt g b n k ρ S=.nx ρ' S'/\I l.length ρ' S'
 | 0,k,ρ,S,h1,_,h2=>by omega
 | n+1,k,ρ,S,h1,hI,h2=>by
  unfold Ua
  rw[hn k ρ S hI]
  cases z:l[k]? with
  | none=>
   have:k=l.length:=by have:=List.getElem?_eq_none_iff.mp z; omega
   subst this
   exact⟨ρ,S,rfl,hI⟩
  | some d=>
   obtain⟨ρ1,ρ2,S2,h3,h4,h5⟩:=hs k d ρ S z hI
   have hk:k<l.length:=(List.getElem?_eq_some_iff.mp z).1
   obtain⟨ρ',S',h6,h7⟩:=Up I hn hs n (k+1) ρ2 S2 hk h5 (by omega)
   refine⟨ρ',S',?_,h7⟩
   simp only[h3,h4]
   exact h6
def Gii(l:List D):Src:=⟨fun k _=>l[k]?,l.length+1⟩
def Ghm(i n:Nat):Src:=⟨fun k S=>(S[i]?).bind fun c=>c.xs[k]?,n+1⟩
theorem Gzm{l:List D}:Gg1 (.tup l) S=.ok (Gii l) S:=id rfl
theorem Gjj(e:S[i]?=some c):Gg1 (.lst i) S=.ok (Ghm i c.xs.length) S:=by
 simp only[Gg1,e]
 rfl
theorem Gzn{l:List D}:l.length<(Gii l).fuel+0:=Nat.lt_succ_self _
theorem Gc2:(rsrc 0 n).nxt k S=((List.range n).map fun k:Nat=>D.int (k:Int))[k]?:=by
 show(if k<n then some (D.int (0+k)) else none)=_
 rw[List.getElem?_map]
 by_cases c:k<n
 ·rw[if_pos c,List.getElem?_range c]; simp
 ·rw[if_neg c,List.getElem?_eq_none (by simp; omega)]; rfl
theorem Ggj(h:((List.range n).map fun k:Nat=>D.int (k:Int))[k]?=some d):k<n/\d=.int k:=by
 have hk:k<n:=by have:=(List.getElem?_eq_some_iff.mp h).1; simpa using this
 rw[List.getElem?_map,List.getElem?_range hk] at h
 exact⟨hk,(Option.some.inj h).symm⟩
theorem Ggk{f:Ev (List D)}(h:f ρ S=.ok [.int n] S')(hn:n<=1000000):ir1 f ρ S=.ok (rsrc 0 n) S':=by
 unfold ir1
 rw[h]
 show(if -1000000000000<=(n:Int)/\(n:Int)<=1000000000000 then Out.ok (rsrc 0 (n:Int).toNat) S' else .bad)=_
 rw[if_pos (by omega)]; rfl
theorem Kp.setq(a:Kp S0 S t k)(h:S0.length<=q):Kp S0 (S.set q c) t k:=⟨by simp; exact a.len,fun i hi h1 h2=>by
 rw[List.getElem?_set_ne (by omega)]; exact a.get i hi h1 h2⟩
theorem Gcb{a b:List D}(h1:S[i]?=some ⟨false,a⟩)(h2:S[j]?=some ⟨false,b⟩)(h:a.length+b.length<=1000000):Gw (.lst i) (.lst j) S=.ok (.lst S.length) (S++[⟨false,a++b⟩]):=by
 simp only[Gw,h1,h2]
 simp[h]
theorem Gjk(e:S[i]?=some ⟨false,[d]⟩)(hn:n<=1000):Kj (.lst i) (.int n) S=.ok (.lst S.length) (S++[⟨false,List.replicate n d⟩]):=by
 have fl:∀ n:Nat,(List.replicate n [d]).flatten=List.replicate n d:=fun n=>by
  induction n with
  | zero=>rfl
  | succ n ih=>rw[List.replicate_succ,List.flatten_cons,ih]; rfl
 simp only[Kj,e]
 rw[if_pos (by simp; omega)]
 simp[fl]
theorem Gaz(e:S[q]?=some c):Xd [.lst q] S=.ok (.tup c.xs) S:=by
 simp only[Xd,e]
def Pl.isC:Pl->Bool
 | .c=>true
 | _=>false
def Pl.isE:Pl->Bool
 | .e=>true
 | _=>false
theorem stok(s:String):PyData.strOk (Str.ofString s)=true:=by
 unfold PyData.strOk
 have hc:∀ c:Char,c.toNat<1114112:=fun c=>by
  rcases c.valid with h | ⟨_,h⟩
  ·exact Nat.lt_of_lt_of_le h (by decide)
  ·exact h
 rw[Str.ofString_eq_toList]
 simp[hc]
theorem Gbp(h:p.ok):eqD p.toD (.tup [.str "chamber"]) S=.ok (.bl p.isC) S:=by
 have n1:(Str.ofString "end"==Str.ofString "chamber")=false:=by decide +kernel
 have n2:(Str.ofString "pound"==Str.ofString "chamber")=false:=by decide +kernel
 cases p with
 | e=>simp[Pl.toD,eqD,toP,Jy,SeqAt.shaped,PyData.canLay0,PyData.canLayAll0,PyData.depth,PyData.depthAll,stok,PyData.eqv,PyData.eqvAll,n1,Pl.isC]
 | c=>simp[Pl.toD,eqD,toP,Jy,SeqAt.shaped,PyData.canLay0,PyData.canLayAll0,PyData.depth,PyData.depthAll,stok,PyData.eqv,PyData.eqvAll,Pl.isC]
 | p br de ro pr=>
  obtain⟨_,_,_,_,_,_,h⟩:=h
  rcases h with rfl | ⟨i,rfl,_⟩
  ·simp[Pl.toD,eqD,toP,Jy,SeqAt.shaped,PyData.canLay0,PyData.canLayAll0,PyData.depth,PyData.depthAll,stok,PyData.eqv,PyData.eqvAll,n2,Pl.isC]
  ·simp[Pl.toD,eqD,toP,Jy,SeqAt.shaped,PyData.canLay0,PyData.canLayAll0,PyData.depth,PyData.depthAll,stok,PyData.eqv,PyData.eqvAll,n2,Pl.isC]
theorem Ggl(h:p.ok):eqD p.toD (.tup [.str "end"]) S=.ok (.bl p.isE) S:=by
 have n1:(Str.ofString "chamber"==Str.ofString "end")=false:=by decide +kernel
 have n2:(Str.ofString "pound"==Str.ofString "end")=false:=by decide +kernel
 cases p with
 | e=>simp[Pl.toD,eqD,toP,Jy,SeqAt.shaped,PyData.canLay0,PyData.canLayAll0,PyData.depth,PyData.depthAll,stok,PyData.eqv,PyData.eqvAll,Pl.isE]
 | c=>simp[Pl.toD,eqD,toP,Jy,SeqAt.shaped,PyData.canLay0,PyData.canLayAll0,PyData.depth,PyData.depthAll,stok,PyData.eqv,PyData.eqvAll,n1,Pl.isE]
 | p br de ro pr=>
  obtain⟨_,_,_,_,_,_,h⟩:=h
  rcases h with rfl | ⟨i,rfl,_⟩
  ·simp[Pl.toD,eqD,toP,Jy,SeqAt.shaped,PyData.canLay0,PyData.canLayAll0,PyData.depth,PyData.depthAll,stok,PyData.eqv,PyData.eqvAll,n2,Pl.isE]
  ·simp[Pl.toD,eqD,toP,Jy,SeqAt.shaped,PyData.canLay0,PyData.canLayAll0,PyData.depth,PyData.depthAll,stok,PyData.eqv,PyData.eqvAll,n2,Pl.isE]
theorem Gij{most many:Int}{g4 g5:Option D}(hd:Dp S t k n)(hk:Kp S0 S t k)(hq:S0.length<=q)(hqt:q≠t)(hqk:q≠k)(hn:n<2^58)(eq':S[q]?=some ⟨false,ps.map Pl.toD⟩)(hp:∀ p∈ps,p.ok)(hne:ps≠[])(hl:ps.length<1000):
  ∃ p S' g5',Jp [some (.lst t),some (.int most),some (.int many),some (.lst q),some (.int i),g5,none,none] S=.nx [some (.lst t),some (.int most),some (.int many),some (.lst q),some (.int i),g5',none,none] S'/\Pl.ok p/\p.isE=false/\(p.isC=true\/((ps.getLast hne).isC=true/\(i:Int)<many-1))/\S'[q]?=some ⟨false,(ps++[p]).map Pl.toD⟩/\Dp S' t k (n+10)/\Kp S0 S' t k:=by
 have lq:q<S.length:=(List.getElem?_eq_some_iff.mp eq').1
 obtain⟨b,eb,hb⟩:∃ b:Bool,sa (va (o2 ltD (cn (.int 0)) (vr 4)) (va (o2 ltD (vr 4) (o2 Xc (vr 2) (cn (.int 1)))) (o2 eqD (o2 DL.getD (vr 3) (o1 Ga2 (cn (.int 1)))) (tp (ac (cn (.str "chamber")) an))))) (gn 5) [some (.lst t),some (.int most),some (.int many),some (.lst q),some (.int i),g5,none,none] S=.nx [some (.lst t),some (.int most),some (.int many),some (.lst q),some (.int i),some (.bl b),none,none] S/\(b=true->(ps.getLast hne).isC=true/\(i:Int)<many-1):=by
  have hlast:DL.getD (.lst q) (.int (-1)) S=.ok (Pl.toD (ps.getLast hne)) S:=by
   refine Qh eq' ?_
   have:0<ps.length:=List.length_pos_iff.mpr hne
   show(ixN (ps.map Pl.toD).length (-1)).bind (fun j=>(ps.map Pl.toD)[j]?)=_
   unfold ixN
   rw[if_neg (by decide),if_pos (by simp; omega),Option.bind_some]
   have:((-1:Int)+((ps.map Pl.toD).length:Nat)).toNat=ps.length-1:=by simp; omega
   rw[this,List.getElem?_map,List.getElem?_eq_getElem (by omega),List.getLast_eq_getElem]
   rfl
  have ec:=Gbp (S:=S) (hp _ (List.getLast_mem hne))
  by_cases c1:0<i
  ·by_cases c2:(i:Int)<many-1
   ·exact⟨(ps.getLast hne).isC,by simp[c1,c2,hlast,ec],fun z=>⟨z,c2⟩⟩
   ·exact⟨false,by simp[c1,c2],fun z=>nomatch z⟩
  ·exact⟨false,by simp[c1],fun z=>nomatch z⟩
 have fin1:∀ (S1:Sto) (m:Nat),Dp S1 t k m->m<=n+1->Kp S0 S1 t k->S1[q]?=some ⟨false,ps.map Pl.toD⟩->∃ S',sx (mt Yb (vr 3) (ac (tp (ac (cn (.str "chamber")) an)) an)) [some (.lst t),some (.int most),some (.int many),some (.lst q),some (.int i),some (.bl b),none,none] S1=.nx [some (.lst t),some (.int most),some (.int many),some (.lst q),some (.int i),some (.bl b),none,none] S'/\S'[q]?=some ⟨false,(ps++[Pl.c]).map Pl.toD⟩/\Dp S' t k (n+10)/\Kp S0 S' t k:=by
  intro S1 m d1 hm k1 e1
  have ap:=Ghl (d:=.tup [.str "chamber"]) e1 (by simp; omega)
  have lq1:q<S1.length:=(List.getElem?_eq_some_iff.mp e1).1
  refine⟨S1.set q ⟨false,ps.map Pl.toD++[.tup [.str "chamber"]]⟩,?_,?_,(d1.set hqt hqk).mono (by omega),k1.setq hq⟩
  ·simp[isL e1,ap]
  ·rw[List.getElem?_set_self lq1,List.map_append]; rfl
 cases b with
 | false=>
  obtain⟨S',e1,e2,e3,e4⟩:=fin1 S n hd (by omega) hk eq'
  refine⟨.c,S',some (.bl false),?_,trivial,rfl,.inl rfl,e2,e3,e4⟩
  unfold Jp
  rw[Ye,eb]
  simp only[Ga9,Gm8,Gsh,Wp,Gx,List.getElem?_cons_zero,List.getElem?_cons_succ,Uc,Bool.false_eq_true,if_false,Hd]
  exact e1
 | true=>
  obtain⟨r,S1,e1,r0,r1,d1,k1⟩:=Hx (m:=4) hd (by omega) (by decide) (by decide)
  have q1:=k1.at eq' hqt hqk
  by_cases c:0<r
  ·obtain⟨br,de,ro,pr,S2,e2,ok2,d2,k2⟩:=Gnc d1 (by omega)
   have q2:=k2.at q1 hqt hqk
   have ap:=Ghl (d:=Pl.toD (.p br de ro pr)) q2 (by simp; omega)
   have lq2:q<S2.length:=(List.getElem?_eq_some_iff.mp q2).1
   refine⟨.p br de ro pr,S2.set q ⟨false,ps.map Pl.toD++[Pl.toD (.p br de ro pr)]⟩,some (.bl true),?_,ok2,rfl,.inr (hb rfl),?_,(d2.set hqt hqk).mono (by omega),((hk.trans k1).trans k2).setq hq⟩
   ·unfold Jp
    rw[Ye,eb]
    simp[Uc,e1,c,isL q1,e2,ap]
   ·rw[List.getElem?_set_self lq2,List.map_append]; rfl
  ·obtain⟨S',e4,e5,e6,e7⟩:=fin1 S1 (n+1) d1 (by omega) (hk.trans k1) q1
   refine⟨.c,S',some (.bl true),?_,trivial,rfl,.inl rfl,e5,e6,e7⟩
   unfold Jp
   rw[Ye,eb]
   have ct:ta (tt (vr 5)) (tb (o2 gtD (cl 2 (Gm Gj) (ac (vr 0) (ac (cn (.int 4)) an))) (cn (.int 0)))) [some (.lst t),some (.int most),some (.int many),some (.lst q),some (.int i),some (.bl true),none,none] S=.ok false S1:=by simp[Uc,e1,c]
   simp only[Ga9,ct,Hd,Bool.false_eq_true,if_false]
   exact e4
theorem Gbq{a:Nat}{e:Ev D}(h:e ρ S=.ok d S2)(q:S2[a]?=some ⟨false,xs⟩)(hl:xs.length<1000000):cbody a ttrue e ρ S=.nx ρ (S2.set a ⟨false,xs++[d]⟩):=by
 show bindS (ttrue ρ S) ρ _=_
 show bindS (e ρ S) ρ _=_
 rw[h]
 simp only[Hd,q]
 rw[if_pos (by simp[hl])]
theorem Gik{f:Ev Src}{pk:List (Option Nat)}{g:Tg}{c:Ev Bool}{e:Ev D}{s:Src}(h:f ρ S=.ok s S1)(l:Ua s.nxt g (cbody S1.length c e) s.fuel 0 (pkS pk ρ) (S1++[⟨false,[]⟩])=.nx ρ' S'):cmp f pk g c e ρ S=.ok (.lst S1.length) S':=by
 unfold cmp
 rw[h]
 simp only[Gx,l]
theorem ls1:ls (ac (cn d) an) ρ S=.ok (.lst S.length) (S++[⟨false,[d]⟩]):=by simp
def Adj(xs:List Pl):Prop:=∀ i a b,xs[i]?=some a->xs[i+1]?=some b->a.isC=true\/b.isC=true
theorem Adj.snoc{xs:List Pl}(h:Adj xs)(hne:xs≠[])(hp:p.isC=true\/(xs.getLast hne).isC=true):Adj (xs++[p]):=by
 intro i a b ha hb
 have h0:0<xs.length:=List.length_pos_iff.mpr hne
 by_cases c:i+1<xs.length
 ·rw[List.getElem?_append_left (by omega)] at ha
  rw[List.getElem?_append_left c] at hb
  exact h i a b ha hb
 ·have hl:=(List.getElem?_eq_some_iff.mp hb).1
  have e:i+1=xs.length:=by simp at hl; omega
  rw[e,List.getElem?_append_right (Nat.le_refl _)] at hb
  have hb:p=b:=by simpa using hb
  subst hb
  rw[List.getElem?_append_left (by omega)] at ha
  have:a=xs.getLast hne:=by
   rw[List.getLast_eq_getElem]
   have:=(List.getElem?_eq_some_iff.mp ha).2
   rw[<- this]
   congr 1
   omega
  rw[this]
  exact hp.symm
def GU(gs:List D)(m:Nat):Prop:=gs.length=m+1/\∀ g∈gs,g=.str "up"\/g=.str "down"
theorem Gnd{most:Int}(h:Dp S t k n)(hn:n<2^57)(hm0:1<=most)(hm1:most<=11):∃ (mid:List Pl) (gs:List D) (S':Sto),Vx [.lst t,.int most] S=.ok (.tup [.tup ((.e::(mid++[.e])).map Pl.toD),.tup gs]) S'/\(∀ p∈mid,p.ok/\p.isE=false)/\Adj (Pl.e::(mid++[Pl.e]))/\GU gs mid.length/\1<=mid.length/\mid.length<=11/\Dp S' t k (n+200)/\Kp S S' t k:=by
 obtain⟨r1,S1,e1,r10,r11,d1,k1⟩:=Hx (m:=most) h (by omega) (by omega) (by omega)
 obtain⟨mn,hmn⟩:∃ m:Nat,1+r1=m:=⟨(1+r1).toNat,by omega⟩
 have lt1:=d1.lt
 have d2:=d1.app (c:=⟨false,[.tup [.str "end"]]⟩)
 have q2:(S1++[(⟨false,[.tup [.str "end"]]⟩:Cell)])[S1.length]?=some ⟨false,[.tup [.str "end"]]⟩:=Hg
 have k2:Kp S1 (S1++[(⟨false,[.tup [.str "end"]]⟩:Cell)]) t k:=Kp.app
 generalize hS2:S1++[(⟨false,[.tup [.str "end"]]⟩:Cell)]=S2 at *
 obtain⟨ρ3,S3,ef,mid,g4,g5,eρ,q3,l3,ok3,wt3,d3,k3⟩:=Up (nxt:=(rsrc 0 mn).nxt) (g:=gn 4) (b:=Jp) (l:=(List.range mn).map fun k:Nat=>D.int (k:Int))
  (fun i ρ S'=>∃ mid g4 g5,ρ=[some (.lst t),some (.int most),some (.int mn),some (.lst S1.length),g4,g5,none,none]/\S'[S1.length]?=some ⟨false,(Pl.e::mid).map Pl.toD⟩/\mid.length=i/\(∀ p∈mid,p.ok/\p.isE=false)/\(Adj (Pl.e::mid)/\(mid.length=mn->0<mid.length->((Pl.e::mid).getLast (by simp)).isC=true))/\Dp S' t k (n+1+10*i)/\Kp S1 S' t k)
  (fun i _ S _=>Gc2) (fun i d ρ S' hd ⟨mid,g4,g5,h1,h2,h3,h4,hw,h5,h6⟩=>by
   obtain⟨hi,rfl⟩:=Ggj hd
   subst h1
   obtain⟨p,S'',g5',c1,c2,c3,cc,c4,c5,c6⟩:=Gij (S0:=S1) (q:=S1.length) (most:=most) (many:=mn) (i:=i) (g4:=g4) (g5:=g5) (ps:=.e::mid) h5 h6 (Nat.le_refl _) (by omega) (by omega) (by omega) h2 (fun p hp=>by
    rcases List.mem_cons.mp hp with rfl | hp
    ·trivial
    ·exact(h4 p hp).1) (by simp) (by simp; omega)
   refine⟨_,_,S'',rfl,c1,mid++[p],some (.int i),g5',rfl,c4,by simp[h3],fun p' hp'=>?_,⟨hw.1.snoc (by simp) (cc.imp id (fun z=>z.1)),fun hl _=>by rw[show(Pl.e::(mid++[p])).getLast (by simp)=p from List.getLast_concat (l:=Pl.e::mid)]; exact cc.resolve_right (fun z=>by have:=z.2; simp at hl; omega)⟩,c5.mono (by omega),c6⟩
   rcases List.mem_append.mp hp' with hp' | hp'
   ·exact h4 p' hp'
   ·have:p'=p:=by simpa using hp'
    subst this
    exact⟨c2,c3⟩) (mn+1) 0 [some (.lst t),some (.int most),some (.int mn),some (.lst S1.length),none,none,none,none] S2 (Nat.zero_le _) ⟨[],none,none,rfl,q2,rfl,(fun p hp=>by cases hp),⟨fun i a b ha hb=>by simp at hb,fun _ z=>absurd z (by simp)⟩,d2,k2⟩ (by simp)
 have hlen:((List.range mn).map fun k:Nat=>D.int (k:Int)).length=mn:=by simp
 rw[hlen] at l3 d3
 have hd3:n+1+10*mn<=n+111:=by omega
 obtain⟨r4,S4,e4,r40,r41,d4,k4⟩:=Hx (m:=mn) (d3.mono hd3) (by omega) (by omega) (by omega)
 obtain⟨tn,htn⟩:∃ m:Nat,1+r4=m:=⟨(1+r4).toNat,by omega⟩
 have q4:=k4.at q3 (by omega) (by omega)
 obtain⟨bn,hbn⟩:∃ m:Nat,(mn:Int)+1-tn=m:=⟨((mn:Int)+1-tn).toNat,by omega⟩
 obtain⟨gi,gs,S5,e5,q5,d5,k5,hgi,gu5⟩:∃ (gi:Nat) (gs:List D) (S5:Sto),o2 Gw (o2 Kj (ls (ac (cn (.str "up")) an)) (vr 6)) (o2 Kj (ls (ac (cn (.str "down")) an)) (o2 Xc (o2 Gw (vr 2) (cn (.int 1))) (vr 6))) [some (.lst t),some (.int most),some (.int mn),some (.lst S1.length),g4,g5,some (.int tn),none] S4=.ok (.lst gi) S5/\S5[gi]?=some ⟨false,gs⟩/\Dp S5 t k (n+112)/\Kp S4 S5 t k/\S4.length<=gi/\GU gs mn:=by
  have m1:=Gjk (S:=S4++[⟨false,[.str "up"]⟩]) (n:=tn) Hg (by omega)
  have a1:=Hg (S:=S4++[⟨false,[D.str "up"]⟩]) (c:=⟨false,List.replicate tn (.str "up")⟩)
  have D1:=(d4.app (c:=⟨false,[.str "up"]⟩)).app (c:=⟨false,List.replicate tn (.str "up")⟩)
  have K1:Kp S4 ((S4++[⟨false,[D.str "up"]⟩])++[⟨false,List.replicate tn (.str "up")⟩]) t k:=Kp.app.trans Kp.app
  generalize hA:(S4++[(⟨false,[.str "up"]⟩:Cell)]).length=A at *
  have hA4:S4.length<=A:=by rw[<- hA]; simp
  generalize (S4++[(⟨false,[.str "up"]⟩:Cell)])++[⟨false,List.replicate tn (.str "up")⟩]=T1 at *
  have m2:=Gjk (S:=T1++[⟨false,[.str "down"]⟩]) (n:=bn) Hg (by omega)
  have a2:=Hg (S:=T1++[⟨false,[D.str "down"]⟩]) (c:=⟨false,List.replicate bn (.str "down")⟩)
  have a1':=Vc (c:=⟨false,List.replicate bn (.str "down")⟩) (Vc (c:=⟨false,[.str "down"]⟩) a1)
  have D2:=(D1.app (c:=⟨false,[.str "down"]⟩)).app (c:=⟨false,List.replicate bn (.str "down")⟩)
  have K2:Kp S4 ((T1++[⟨false,[D.str "down"]⟩])++[⟨false,List.replicate bn (.str "down")⟩]) t k:=(K1.trans Kp.app).trans Kp.app
  generalize hB:(T1++[(⟨false,[.str "down"]⟩:Cell)]).length=B at *
  generalize (T1++[(⟨false,[.str "down"]⟩:Cell)])++[⟨false,List.replicate bn (.str "down")⟩]=T2 at *
  have ad:=Gcb a1' a2 (by simp; omega)
  refine⟨T2.length,List.replicate tn (.str "up")++List.replicate bn (.str "down"),T2++[⟨false,List.replicate tn (.str "up")++List.replicate bn (.str "down")⟩],?_,Hg,(D2.app).mono (by omega),K2.trans Kp.app,K2.len,⟨by simp; omega,fun g hg=>by
   rcases List.mem_append.mp hg with z | z
   ·exact .inl (List.eq_of_mem_replicate z)
   ·exact .inr (List.eq_of_mem_replicate z)⟩⟩
  simp only[Vn,ls1,Wp,Wq,Gx,List.getElem?_cons_zero,List.getElem?_cons_succ,m1,Ggh,Gig,hbn,m2,ad]
 obtain⟨r6,S6,e6,r60,r61,d6,k6⟩:=Hx (m:=3) d5 (by omega) (by decide) (by decide)
 have lt4:=d4.lt
 have k46:Kp S4 S6 t k:=k5.trans k6
 have q6:=k46.at q4 (by omega) (by omega)
 have gi6:=k6.at q5 (by omega) (by omega)
 obtain⟨gj,gs',S7,e7,q7,d7,k7,gu7⟩:∃ (gj:Nat) (gs':List D) (S7:Sto),sif (tb (o2 eqD (cl 2 (Gm Gj) (ac (vr 0) (ac (cn (.int 3)) an))) (cn (.int 0)))) (sa (cmp (ir1 (ac (o2 Gw (vr 2) (cn (.int 1))) an)) [none,some 0] (gn 0) ttrue (o2 DL.getD (ls (ac (cn (.str "up")) (ac (cn (.str "down")) an))) (cl 2 (Gm Gj) (ac (vr 1) (ac (cn (.int 2)) an))))) (gn 7)) DL.skip [some (.lst t),some (.int most),some (.int mn),some (.lst S1.length),g4,g5,some (.int tn),some (.lst gi)] S5=.nx [some (.lst t),some (.int most),some (.int mn),some (.lst S1.length),g4,g5,some (.int tn),some (.lst gj)] S7/\S7[gj]?=some ⟨false,gs'⟩/\Dp S7 t k (n+130)/\Kp S6 S7 t k/\GU gs' mn:=by
  by_cases c:r6=0
  ·have lt6:=d6.lt
   obtain⟨ρ',S7,el,g,gs',hρ,hq,hl,hu,hd,hk⟩:=Up (nxt:=(rsrc 0 (mn+1)).nxt) (g:=gn 0) (b:=cbody S6.length ttrue (o2 DL.getD (ls (ac (cn (.str "up")) (ac (cn (.str "down")) an))) (cl 2 (Gm Gj) (ac (vr 1) (ac (cn (.int 2)) an))))) (l:=(List.range (mn+1)).map fun k:Nat=>D.int (k:Int))
    (fun i ρ S'=>∃ g gs',ρ=[g,some (.lst t)]/\S'[S6.length]?=some ⟨false,gs'⟩/\gs'.length=i/\(∀ g∈gs',g=.str "up"\/g=.str "down")/\Dp S' t k (n+113+i)/\Kp S6 S' t k)
    (fun i _ S _=>Gc2) (fun i d ρ S' hd ⟨g,gs',h1,h2,h3,hu,h4,h5⟩=>by
     obtain⟨hi,rfl⟩:=Ggj hd
     subst h1
     obtain⟨r,x,S'',p1,p2,p3,p4,p5⟩:=Wz (xs:=[.str "up",.str "down"]) (m:=2) h4 (by omega) rfl (by simp) (by simp)
     have q'':=p5.at h2 (by omega) (by omega)
     have lq:S6.length<S''.length:=(List.getElem?_eq_some_iff.mp q'').1
     refine⟨_,_,_,rfl,Gbq (d:=x) (S2:=S'') ?_ q'' (by omega),some (.int i),gs'++[x],rfl,List.getElem?_set_self lq,by simp[h3],(fun g hg=>by
      rcases List.mem_append.mp hg with z | z
      ·exact hu g z
      ·have:g=x:=by simpa using z
       subst this
       simpa using p3),(p4.set (by omega) (by omega)).mono (by omega),(h5.trans p5).setq (Nat.le_refl _)⟩
     simp[p1,p2]) (mn+1+1) 0 [none,some (.lst t)] (S6++[⟨false,[]⟩]) (Nat.zero_le _) ⟨none,[],rfl,Hg,rfl,(fun g hg=>by cases hg),d6.app,Kp.app⟩ (by simp)
   have hln:((List.range (mn+1)).map fun k:Nat=>D.int (k:Int)).length=mn+1:=by simp
   rw[hln] at hd hl
   have hc:=Gik (pk:=[none,some 0]) (ρ:=[some (.lst t),some (.int most),some (.int mn),some (.lst S1.length),g4,g5,some (.int tn),some (.lst gi)]) (S:=S6) (Ggk (f:=ac (o2 Gw (vr 2) (cn (.int 1))) an) (n:=mn+1) (by simp) (by omega)) el
   exact⟨S6.length,gs',S7,by simp[e6,c,hc],hq,hd.mono (by omega),hk,⟨hl,hu⟩⟩
  ·exact⟨gi,gs,S6,by simp[e6,c],gi6,d6.mono (by omega),.refl,gu5⟩
 have lt6:=d6.lt
 have q7p:=k7.at q6 (by omega) (by omega)
 have ad:=Gcb (Vc (c:=⟨false,[.tup [.str "end"]]⟩) q7p) (Hg (S:=S7) (c:=⟨false,[.tup [.str "end"]]⟩)) (by simp; omega)
 have tp1:=Gaz (Hg (S:=S7++[⟨false,[D.tup [.str "end"]]⟩]) (c:=⟨false,(Pl.e::mid).map Pl.toD++[.tup [.str "end"]]⟩))
 have tp2:=Gaz (Vc (c:=⟨false,(Pl.e::mid).map Pl.toD++[.tup [.str "end"]]⟩) (Vc (c:=⟨false,[.tup [.str "end"]]⟩) q7))
 refine⟨mid,gs',(S7++[⟨false,[.tup [.str "end"]]⟩])++[⟨false,(Pl.e::mid).map Pl.toD++[.tup [.str "end"]]⟩],?_,ok3,wt3.1.snoc (by simp) (.inr (wt3.2 (by omega) (by omega))),(by rw[l3]; exact gu7),by omega,by omega,(d7.app.app).mono (by omega),(((k1.trans k3).trans (k46.trans k7 |> fun z=>(k4.trans z))).trans Kp.app).trans Kp.app⟩
 have main:∀ fd:Fn,fd=Gj->True:=fun _ _=>trivial
 refine(Gy (m:=8) (b:=Uk)).trans ?_
 show fin (Uk [some (.lst t),some (.int most),none,none,none,none,none,none] S)=_
 unfold Uk
 refine(Gh (ρ':=[some (.lst t),some (.int most),some (.int mn),none,none,none,none,none]) (S':=S1) (by rw[<- hmn]; simp[e1])).trans ?_
 refine(Gh (ρ':=[some (.lst t),some (.int most),some (.int mn),some (.lst S1.length),none,none,none,none]) (S':=S2) (by rw[<- hS2]; simp)).trans ?_
 refine(Gh (ρ':=ρ3) (S':=S3) ?_).trans ?_
 ·rw[Uo,Ggk (n:=mn) (S':=S2) (by simp) (by omega)]
  exact ef
 rw[eρ]
 refine(Gh (ρ':=[some (.lst t),some (.int most),some (.int mn),some (.lst S1.length),g4,g5,some (.int tn),none]) (S':=S4) (by rw[<- htn]; simp[e4])).trans ?_
 refine(Gh (ρ':=[some (.lst t),some (.int most),some (.int mn),some (.lst S1.length),g4,g5,some (.int tn),some (.lst gi)]) (S':=S5) (by rw[Vo,e5]; rfl)).trans ?_
 rw[Gh e7]
 have lsE:ls (ac (tp (ac (cn (.str "end")) an)) an) [some (.lst t),some (.int most),some (.int mn),some (.lst S1.length),g4,g5,some (.int tn),some (.lst gj)] S7=.ok (.lst S7.length) (S7++[⟨false,[.tup [.str "end"]]⟩]):=by simp
 have v3:∀ S:Sto,vr 3 [some (.lst t),some (.int most),some (.int mn),some (.lst S1.length),g4,g5,some (.int tn),some (.lst gj)] S=.ok (.lst S1.length) S:=fun S=>by simp
 have v7:∀ S:Sto,vr 7 [some (.lst t),some (.int most),some (.int mn),some (.lst S1.length),g4,g5,some (.int tn),some (.lst gj)] S=.ok (.lst gj) S:=fun S=>by simp
 rw[Gc1,Gjh,Ur,Gfd,Ur,Vn,v3,Gx,lsE,Gx,ad,Gx,Yd,Gx,Gx,tp1,Gx,Ur,Gfd,Ur,v7,Gx,Yd,Gx,Gx,tp2,Gx,Yd,Gx,Gx,Gx]
 rw[if_pos (by simp),Hd,Gnb]
 simp[Pl.toD]
structure Ex(S S':Sto):Prop where
 len:S.length<=S'.length
 get:∀ i,i<S.length->S'[i]?=S[i]?
theorem Ex.refl:Ex S S:=⟨Nat.le_refl _,fun _ _=>rfl⟩
theorem Ex.trans(a:Ex S S1)(b:Ex S1 S2):Ex S S2:=⟨Nat.le_trans a.len b.len,fun i h=>(b.get i (Nat.lt_of_lt_of_le h a.len)).trans (a.get i h)⟩
theorem Ex.app:Ex S (S++[c]):=⟨by simp,fun i h=>by rw[List.getElem?_append_left h]⟩
theorem Ex.setq(a:Ex S0 S)(h:S0.length<=q):Ex S0 (S.set q c):=⟨by simp; exact a.len,fun i hi=>by rw[List.getElem?_set_ne (by omega)]; exact a.get i hi⟩
theorem Ex.kp(a:Ex S S'):Kp S S' t k:=⟨a.len,fun i h _ _=>a.get i h⟩
theorem Ex.at(a:Ex S S')(e:S[q]?=some c):S'[q]?=some c:=(a.get q (List.getElem?_eq_some_iff.mp e).1).trans e
theorem Dp.ext(h:Dp S t k n)(x:Ex S S'):Dp S' t k n:=by
 obtain⟨⟨a,b,xs,e1,e2,h⟩,ne⟩:=h
 exact⟨⟨a,b,xs,x.at e1,x.at e2,h⟩,ne⟩
def isInt:D->Bool
 | .int _=>true
 | _=>false
theorem Zc{a b:List D}(h:a.length+b.length<=1000000):Gw (.tup a) (.tup b) S=.ok (.tup (a++b)) S:=by
 show(if a.length+b.length<=1000000 then Out.ok (D.tup (a++b)) S else .bad)=_
 rw[if_pos h]
theorem Zd{a b:Str}(h1:PyData.strOk a=true)(h2:PyData.strOk b=true):PyData.strOk (a++b)=true:=by
 unfold PyData.strOk at *
 show((a.cps++b.cps).all fun x=>decide (x<1114112))=true
 rw[Array.all_append,h1,h2]
 rfl
theorem Gjl{n:Nat}:∀ ts:List Str,(∀ t∈ts,PyData.strOk t=true/\t.length<=n)->PyData.strOk (Str.join ", " ts)=true/\(Str.join ", " ts).length<=(n+2)*ts.length
 | [],_=>⟨by decide +kernel,by show(Str.join ", " []).length<=_; exact Nat.le_of_eq (by rfl)⟩
 | [x],h=>by
  obtain⟨h1,h2⟩:=h x List.mem_cons_self
  exact⟨h1,by show x.length<=_; simp; omega⟩
 | x::y::r,h=>by
  obtain⟨h1,h2⟩:=h x List.mem_cons_self
  obtain⟨h3,h4⟩:=Gjl (y::r) fun t ht=>h t (List.mem_cons_of_mem _ ht)
  have e:Str.join ", " (x::y::r)=x++", "++Str.join ", " (y::r):=rfl
  refine⟨by rw[e]; exact Zd (Zd h1 (stok _)) h3,?_⟩
  rw[e,Str.length_append,Str.length_append]
  have e2:((", ":String):Str).length=2:=rfl
  rw[e2]
  simp only[List.length_cons] at h4 ⊢
  have:(n+2)*(r.length+1+1)=(n+2)*(r.length+1)+(n+2):=by rw[Nat.mul_add (n+2) (r.length+1) 1]; omega
  omega
theorem Gwk{ts:List Str}(h:∀ t∈ts,PyData.strOk t=true/\t.length<=n):PyData.strOk (tupleText ts)=true/\(tupleText ts).length<=(n+2)*ts.length+3:=by
 obtain⟨h1,h2⟩:=Gjl ts h
 unfold tupleText
 refine⟨Zd (Zd (stok _) h1) (stok _),?_⟩
 rw[Str.length_append,Str.length_append]
 have e1:(("(":String):Str).length=1:=rfl
 have e2:∀ b:Bool,(((if b=true then ",)" else ")":String):Str)).length<=2:=fun b=>by cases b<;>decide +kernel
 have:=e2 (ts.length==1)
 rw[e1]
 omega
theorem Ze:∀ L:List PyData,(PyData.shownAll L).length=L.length
 | []=>rfl
 | a::L=>by show(PyData.shown a::PyData.shownAll L).length=_; simp[Ze L]
theorem Ggm{l:List D}:Qo [.tup l] S=.ok (.lst S.length) (S++[⟨false,l⟩]):=id rfl
theorem Gne{x:D}{l:List D}:Gbf (.tup (x::l)) (some 1) none S=.ok (.tup l) S:=by
 have e1:HT.sIx (x::l).length 0 (some 1)=1:=by
  have:=HT.Gam (x::l).length 0 1
  rw[show((1:Nat):Int)=1 from rfl] at this
  rw[this]
  simp
 show(if HT.sIx (x::l).length 0 (some 1)=0/\HT.sIx (x::l).length (x::l).length none=(x::l).length then Out.ok (D.tup (x::l)) S else .ok (.tup (DL.Qk (x::l) (some 1) none)) S)=_
 rw[if_neg (by rw[e1]; simp)]
 unfold DL.Qk
 rw[e1,HT.Wb]
 simp
theorem Gjm{n:Nat}:∀ (ts:List Str) (k:Nat) (acc:Str),PyData.strOk acc=true->(∀ t∈ts,PyData.strOk t=true/\t.length<=n)->PyData.strOk (textFrom k acc ts)=true/\(textFrom k acc ts).length<=acc.length+(n+2)*ts.length
 | [],k,acc,h,_=>⟨h,by show acc.length<=_; simp⟩
 | t::ts,k,acc,h,ht=>by
  obtain⟨a,b⟩:=ht t List.mem_cons_self
  have e2:∀ b:Bool,(((if b=true then ", " else "":String):Str)).length<=2:=fun b=>by cases b<;>decide +kernel
  obtain⟨c,d⟩:=Gjm ts (k+1) (acc++((if k>0 then ", " else "":String):Str)++t) (Zd (Zd h (stok _)) a) fun u hu=>ht u (List.mem_cons_of_mem _ hu)
  refine⟨c,Nat.le_trans d ?_⟩
  have:=e2 (decide (k>0))
  rw[Str.length_append,Str.length_append,List.length_cons]
  have hx:(n+2)*(ts.length+1)=(n+2)*ts.length+(n+2):=by rw[Nat.mul_add]; omega
  by_cases c:k>0
  ·rw[decide_eq_true c] at this; simp only[if_true] at this; rw[if_pos c]; omega
  ·rw[decide_eq_false c] at this; simp only[Bool.false_eq_true,if_false] at this; rw[if_neg c]; omega
theorem Gwl{ts:List Str}(h:∀ t∈ts,PyData.strOk t=true/\t.length<=n):PyData.strOk (listText ts)=true/\(listText ts).length<=(n+2)*ts.length+3:=by
 obtain⟨a,b⟩:=Gjm ts 0 "[" (stok _) h
 unfold listText
 refine⟨Zd a (stok _),?_⟩
 rw[Str.length_append]
 have e1:(("[":String):Str).length=1:=rfl
 have e2:(("]":String):Str).length=1:=rfl
 rw[e2]
 rw[e1] at b
 omega
theorem Gqw(s:String):(Str.ofString s).length=s.toList.length:=by
 rw[Str.ofString_eq_toList]
 show(Array.size _)=_
 simp
theorem Gqx{i:Int}(h:i.natAbs<10^60):(Str.ofString (toString i)).length<=61:=by
 rw[Gqw]
 cases i with
 | ofNat m=>
  show(Nat.repr m).toList.length<=61
  have:=(Nat.length_toDigits_le_iff (b:=10) (n:=m) (k:=60) (by decide) (by decide)).mpr h
  simp only[Nat.repr,String.toList_ofList]
  omega
 | negSucc m=>
  show("-"++Nat.repr (m+1)).toList.length<=61
  have:=(Nat.length_toDigits_le_iff (b:=10) (n:=m+1) (k:=60) (by decide) (by decide)).mpr h
  simp only[Nat.repr,String.toList_append,String.toList_ofList,List.length_append]
  have:("-":String).toList.length=1:=rfl
  omega
structure Gp(p:PyData)(b e:Nat):Prop where
 sh:p.showable=true
 nd:p.hasDict=false
 dp:p.depth<=e
 ok:PyData.strOk p.shown=true
 le:p.shown.length<=b
theorem Gp.mono{p:PyData}{b e b' e':Nat}(h:Gp p b e)(h1:b<=b')(h2:e<=e'):Gp p b' e':=⟨h.sh,h.nd,Nat.le_trans h.dp h2,h.ok,Nat.le_trans h.le h1⟩
theorem Gil{b e:Nat}:∀ {ps:List PyData},(∀ p∈ps,Gp p b e)->PyData.showableAll ps=true/\PyData.hasDictAll ps=false/\PyData.depthAll ps<=e/\∀ t∈PyData.shownAll ps,PyData.strOk t=true/\t.length<=b
 | [],_=>⟨rfl,rfl,Nat.zero_le _,fun t ht=>by cases ht⟩
 | p::r,h=>by
  have hp:=h p List.mem_cons_self
  obtain⟨a1,a2,a3,a4⟩:=Gil (ps:=r) fun q hq=>h q (List.mem_cons_of_mem _ hq)
  refine⟨?_,?_,?_,?_⟩
  ·show(p.showable&&PyData.showableAll r)=true; rw[hp.sh,a1]; rfl
  ·show(p.hasDict||PyData.hasDictAll r)=false; rw[hp.nd,a2]; rfl
  ·show max p.depth (PyData.depthAll r)<=e; exact Nat.max_le.mpr ⟨hp.dp,a3⟩
  ·intro t ht
   have ht:t∈p.shown::PyData.shownAll r:=ht
   rcases List.mem_cons.mp ht with rfl | ht
   ·exact⟨hp.ok,hp.le⟩
   ·exact a4 t ht
theorem Gwm{ps:List PyData}{b e:Nat}(h:∀ p∈ps,Gp p b e):Gp (.tuple ps) ((b+2)*ps.length+3) (e+1):=by
 obtain⟨a1,a2,a3,a4⟩:=Gil h
 obtain⟨c1,c2⟩:=Gwk a4
 rw[Ze] at c2
 refine⟨by simpa[PyData.showable] using a1,by simpa[PyData.hasDict] using a2,by simp only[PyData.depth]; omega,?_,?_⟩
 ·show PyData.strOk (tupleText (PyData.shownAll ps))=true; exact c1
 ·show(tupleText (PyData.shownAll ps)).length<=_; exact c2
theorem Gwn{ps:List PyData}{b e:Nat}(h:∀ p∈ps,Gp p b e):Gp (.list ps) ((b+2)*ps.length+3) (e+1):=by
 obtain⟨a1,a2,a3,a4⟩:=Gil h
 obtain⟨c1,c2⟩:=Gwl a4
 rw[Ze] at c2
 refine⟨by simpa[PyData.showable] using a1,by simpa[PyData.hasDict] using a2,by simp only[PyData.depth]; omega,?_,?_⟩
 ·show PyData.strOk (listText (PyData.shownAll ps))=true; exact c1
 ·show(listText (PyData.shownAll ps)).length<=_; exact c2
def Sho(S:Sto)(d:D)(b e:Nat):Prop:=∃ p,(∀ S',Ex S S'->∀ n,e<n->toP S' n d=some p)/\Gp p b e
theorem Sho.mono{b e b' e':Nat}(h:Sho S d b e)(h1:b<=b')(h2:e<=e'):Sho S d b' e':=by
 obtain⟨p,a,g⟩:=h
 exact⟨p,fun S' x n hn=>a S' x n (by omega),g.mono h1 h2⟩
theorem Ggn{S:Sto}{b e:Nat}:∀ {l:List D},(∀ d∈l,Sho S d b e)->∃ ps,(∀ S',Ex S S'->∀ n,e<n->Jy (toP S' n) l=some ps)/\ps.length=l.length/\∀ p∈ps,Gp p b e
 | [],_=>⟨[],fun _ _ _ _=>rfl,rfl,fun p hp=>by cases hp⟩
 | d::l,h=>by
  obtain⟨p,a,g⟩:=h d List.mem_cons_self
  obtain⟨ps,a2,a3,a4⟩:=Ggn (l:=l) fun q hq=>h q (List.mem_cons_of_mem _ hq)
  refine⟨p::ps,fun S' x n hn=>?_,by simp[a3],fun q hq=>?_⟩
  ·simp only[Jy,a S' x n hn,a2 S' x n hn]
  ·rcases List.mem_cons.mp hq with rfl | hq
   ·exact g
   ·exact a4 q hq
theorem Gc3{l:List D}{b e:Nat}(h:∀ d∈l,Sho S d b e):Sho S (.tup l) ((b+2)*l.length+3) (e+1):=by
 obtain⟨ps,a,hl,g⟩:=Ggn h
 refine⟨.tuple ps,fun S' x n hn=>?_,by rw[<- hl]; exact Gwm g⟩
 obtain⟨m,rfl⟩:∃ m,n=m+1:=⟨n-1,by omega⟩
 show(Jy (toP S' m) l).map PyData.tuple=_
 rw[a S' x m (by omega)]
 rfl
theorem Gc4{i:Int}(h:i.natAbs<10^60):Sho S (.int i) 61 0:=by
 refine⟨.int i,fun S' _ n hn=>?_,⟨?_,rfl,Nat.le_refl _,?_,?_⟩⟩
 ·obtain⟨m,rfl⟩:∃ m,n=m+1:=⟨n-1,by omega⟩
  rfl
 ·show decide (i.natAbs.log2<1920)=true
  refine decide_eq_true ?_
  by_cases c:i.natAbs=0
  ·rw[c]; decide
  ·refine Nat.lt_of_lt_of_le ((Nat.log2_lt c).mpr (show i.natAbs<2^200 from Nat.lt_trans h (by decide))) (by decide)
 ·show PyData.strOk (Str.ofString (toString i))=true; exact stok _
 ·show(Str.ofString (toString i)).length<=61; exact Gqx h
theorem Sho.repr{b e:Nat}(h:Sho S d b e)(h1:b<=1000000)(h2:e<40):∃ s:Str,PyData.strOk s=true/\∀ S',Ex S S'->Qg [d] S'=.ok (.str s) S':=by
 obtain⟨p,a,g⟩:=h
 refine⟨p.shown,g.ok,fun S' x=>?_⟩
 have ha:=a S' x 40 h2
 have big:∀ (q:PyData),q=p->(if(q.showable&&!q.hasDict&&decide (q.depth<=60))=true/\q.shown.length<=1000000 then Out.ok (D.str q.shown) S' else .bad)=.ok (.str p.shown) S':=fun q hq=>by
  subst hq
  rw[if_pos]
  refine⟨?_,Nat.le_trans g.le h1⟩
  rw[g.sh,g.nd]
  have:=g.dp
  simp
  omega
 cases d with
 | non=>cases (Option.some.inj ha); rfl
 | bl v=>cases (Option.some.inj ha); cases v<;>rfl
 | int i=>
  cases (Option.some.inj ha)
  have:i.natAbs.log2<1920:=of_decide_eq_true g.sh
  show(if i.natAbs.log2<1920 then Out.ok (D.str (toString i)) S' else .bad)=_
  rw[if_pos this]
  rfl
 | str z=>
  cases (Option.some.inj ha)
  have:(reprText z).length<=1000000:=Nat.le_trans g.le h1
  show(if(reprText z).length<=1000000 then Out.ok (D.str (reprText z)) S' else .bad)=_
  rw[if_pos this]
  rfl
 | tup l=>
  show(match toP S' 40 (.tup l) with
   | some p=>if(p.showable&&!p.hasDict&&decide (p.depth<=60))=true/\p.shown.length<=1000000 then Out.ok (D.str p.shown) S' else .bad
   | none=>.bad)=_
  rw[ha]
  exact big p rfl
 | lst i=>
  show(match toP S' 40 (.lst i) with
   | some p=>if(p.showable&&!p.hasDict&&decide (p.depth<=60))=true/\p.shown.length<=1000000 then Out.ok (D.str p.shown) S' else .bad
   | none=>.bad)=_
  rw[ha]
  exact big p rfl
 | exn _ _=>cases ha
 | fv _=>cases ha
theorem Jb{c:Ev Bool}{g:Sv}(h:c ρ S=.ok true S1):sif c f g ρ S=f ρ S1:=by
 rw[Ga9,h,Hd,if_pos rfl]
theorem Hv{c:Ev Bool}{g:Sv}(h:c ρ S=.ok false S1):sif c f g ρ S=g ρ S1:=by
 rw[Ga9,h,Hd,if_neg (by decide)]
theorem Je{g:Sv}(h:f ρ S=.nx ρ' S1):sq f g ρ S=g ρ' S1:=by rw[Ye,h]
theorem Gbr{g:Sv}{y:D}(h:f ρ S=.rt y S1):sq f g ρ S=.rt y S1:=by rw[Ye,h]
theorem Gqy{lo hi:Option Int}(e:S[q]?=some c):Gbf (.lst q) lo hi S=.ok (.lst S.length) (S++[⟨false,DL.Qk c.xs lo hi⟩]):=by
 simp only[Gbf,e]
theorem Gnf(e:S[q]?=some c):Qo [.lst q] S=.ok (.lst S.length) (S++[⟨false,c.xs⟩]):=by
 simp only[Qo,e]
theorem Gqz{lo hi:Option Int}:∃ ys:List Int,DL.Qk (ns.map D.int) lo hi=ys.map D.int:=
 ⟨(ns.drop (HT.sIx (ns.map D.int).length 0 lo)).take (HT.sIx (ns.map D.int).length (ns.map D.int).length hi-HT.sIx (ns.map D.int).length 0 lo),by unfold DL.Qk; rw[List.map_take,List.map_drop]⟩
theorem Gq0(e:S[q]?=some ⟨fz,ns.map D.int⟩):∃ (t k:Nat) (S':Sto),Gah [.lst q] S=.ok (.lst t) S'/\Dp S' t k 0:=by
 obtain⟨ys,hy⟩:=Gqz (ns:=ns) (lo:=none) (hi:=some 63)
 have s1:Gbf (.lst q) none (some 63) S=.ok (.lst S.length) (S++[⟨false,ys.map D.int⟩]):=by rw[Gqy e,hy]
 have q1:(S++[⟨false,ys.map D.int⟩])[S.length]?=some (⟨false,ys.map D.int⟩:Cell):=Hg
 generalize hS1:S++[⟨false,ys.map D.int⟩]=S1 at *
 have s3:Qo [.lst S.length] S1=.ok (.lst S1.length) (S1++[⟨false,ys.map D.int⟩]):=Gnf q1
 have q3:(S1++[⟨false,ys.map D.int⟩])[S1.length]?=some (⟨false,ys.map D.int⟩:Cell):=Hg
 have l3:(S1++[(⟨false,ys.map D.int⟩:Cell)]).length=S1.length+1:=by simp
 generalize hS3:S1++[⟨false,ys.map D.int⟩]=S3 at *
 refine⟨S3.length,S1.length,S3++[⟨false,[.lst S1.length,.int 0,.int 0]⟩],?_,⟨⟨0,0,ys,Hg,Vc q3,by decide,by decide⟩,by omega⟩⟩
 refine(Gy (m:=1) (b:=Vi)).trans ?_
 show fin (Vi [some (.lst q)] S)=_
 unfold Vi
 simp[s1,s3]
def vOk(cr:Int)(p:Pl)(l r f:Int):Prop:=0<=l/\0<=r/\0<=f/\match p with
 | .e=>l=0/\r<=cr/\f<=cr
 | .c=>l<=1/\r+f<=1
 | .p br _ ro _=>l<=br/\r+f<=ro
structure Rows(S:Sto)(a:Nat)(L R F:List Int):Prop where
 r0:S[a]?=some ⟨false,L.map D.int⟩
 r1:S[a+1]?=some ⟨false,R.map D.int⟩
 r2:S[a+2]?=some ⟨false,F.map D.int⟩
 r3:S[a+3]?=some ⟨false,[.lst a,.lst (a+1),.lst (a+2)]⟩
theorem Rows.kp{S S':Sto}{a t k:Nat}{L R F:List Int}(h:Rows S a L R F)(kp:Kp S S' t k)(ht:t<a)(hk:k<a):Rows S' a L R F:=
 ⟨kp.at h.r0 (by omega) (by omega),kp.at h.r1 (by omega) (by omega),kp.at h.r2 (by omega) (by omega),kp.at h.r3 (by omega) (by omega)⟩
def Gng:Sv:=(sq (sx (mt Yb (o2 DL.getD (vr 3) (cn (.int 0))) (ac (vr 5) an)))
  (sq (sx (mt Yb (o2 DL.getD (vr 3) (cn (.int 1))) (ac (vr 6) an)))
  (sx (mt Yb (o2 DL.getD (vr 3) (cn (.int 2))) (ac (vr 7) an)))))
theorem Gwo{a:Nat}{x0:Option D}{l f:Int}{R F:List Int}(h:Rows S a L R F)(hL:L.length<1000)(hR:R.length<1000)(hF:F.length<1000)(d:Dp S t k n)(kp:Kp S0 S t k)(ht:t<a)(hk:k<a)(h0:S0.length<=a):
  ∃ S',Gng [x0,x1,x2,some (.lst (a+3)),x4,some (.int l),some (.int r),some (.int f),x8] S=.nx [x0,x1,x2,some (.lst (a+3)),x4,some (.int l),some (.int r),some (.int f),x8] S'/\Rows S' a (L++[l]) (R++[r]) (F++[f])/\Dp S' t k n/\Kp S0 S' t k:=by
 have l0:a<S.length:=(List.getElem?_eq_some_iff.mp h.r0).1
 have l1:a+1<S.length:=(List.getElem?_eq_some_iff.mp h.r1).1
 have l2:a+2<S.length:=(List.getElem?_eq_some_iff.mp h.r2).1
 have g0:DL.getD (.lst (a+3)) (.int 0) S=.ok (.lst a) S:=Qh h.r3 rfl
 have p0:=Ghl (d:=.int l) h.r0 (by simp; omega)
 have a0:(S.set a ⟨false,L.map D.int++[.int l]⟩)[a]?=some ⟨false,L.map D.int++[.int l]⟩:=List.getElem?_set_self l0
 have a1:(S.set a ⟨false,L.map D.int++[.int l]⟩)[a+1]?=some ⟨false,R.map D.int⟩:=by rw[List.getElem?_set_ne (by omega)]; exact h.r1
 have a2:(S.set a ⟨false,L.map D.int++[.int l]⟩)[a+2]?=some ⟨false,F.map D.int⟩:=by rw[List.getElem?_set_ne (by omega)]; exact h.r2
 have a3:(S.set a ⟨false,L.map D.int++[.int l]⟩)[a+3]?=some ⟨false,[.lst a,.lst (a+1),.lst (a+2)]⟩:=by rw[List.getElem?_set_ne (by omega)]; exact h.r3
 have d1:=d.set (q:=a) (c:=⟨false,L.map D.int++[.int l]⟩) (by omega) (by omega)
 have k1:=kp.setq (q:=a) (c:=⟨false,L.map D.int++[.int l]⟩) h0
 have m1:a+1<(S.set a ⟨false,L.map D.int++[.int l]⟩).length:=by simp; omega
 generalize S.set a ⟨false,L.map D.int++[.int l]⟩=S1 at *
 have g1:DL.getD (.lst (a+3)) (.int 1) S1=.ok (.lst (a+1)) S1:=Qh a3 rfl
 have p1:=Ghl (d:=.int r) a1 (by simp; omega)
 have b0:(S1.set (a+1) ⟨false,R.map D.int++[.int r]⟩)[a]?=some ⟨false,L.map D.int++[.int l]⟩:=by rw[List.getElem?_set_ne (by omega)]; exact a0
 have b1:(S1.set (a+1) ⟨false,R.map D.int++[.int r]⟩)[a+1]?=some ⟨false,R.map D.int++[.int r]⟩:=List.getElem?_set_self m1
 have b2:(S1.set (a+1) ⟨false,R.map D.int++[.int r]⟩)[a+2]?=some ⟨false,F.map D.int⟩:=by rw[List.getElem?_set_ne (by omega)]; exact a2
 have b3:(S1.set (a+1) ⟨false,R.map D.int++[.int r]⟩)[a+3]?=some ⟨false,[.lst a,.lst (a+1),.lst (a+2)]⟩:=by rw[List.getElem?_set_ne (by omega)]; exact a3
 have d2:=d1.set (q:=a+1) (c:=⟨false,R.map D.int++[.int r]⟩) (by omega) (by omega)
 have k2:=k1.setq (q:=a+1) (c:=⟨false,R.map D.int++[.int r]⟩) (by omega)
 have m2:a+2<(S1.set (a+1) ⟨false,R.map D.int++[.int r]⟩).length:=(List.getElem?_eq_some_iff.mp b2).1
 generalize S1.set (a+1) ⟨false,R.map D.int++[.int r]⟩=S2 at *
 have g2:DL.getD (.lst (a+3)) (.int 2) S2=.ok (.lst (a+2)) S2:=Qh b3 rfl
 have p2:=Ghl (d:=.int f) b2 (by simp; omega)
 refine⟨S2.set (a+2) ⟨false,F.map D.int++[.int f]⟩,?_,⟨?_,?_,?_,?_⟩,d2.set (by omega) (by omega),k2.setq (by omega)⟩
 ·unfold Gng
  simp[g0,isL h.r0,p0,g1,isL a1,p1,g2,isL b2,p2]
 ·rw[List.getElem?_set_ne (by omega),b0]; simp
 ·rw[List.getElem?_set_ne (by omega),b1]; simp
 ·rw[List.getElem?_set_self m2]; simp
 ·rw[List.getElem?_set_ne (by omega)]; exact b3
theorem s1:eqD (.str "end") (.str "chamber") S=.ok (.bl false) S:=by rw[Kl (stok _) (stok _)]; rfl
theorem s2:eqD (.str "end") (.str "pound") S=.ok (.bl false) S:=by rw[Kl (stok _) (stok _)]; rfl
theorem s3:eqD (.str "chamber") (.str "chamber") S=.ok (.bl true) S:=by rw[Kl (stok _) (stok _)]; rfl
theorem s4:eqD (.str "chamber") (.str "pound") S=.ok (.bl false) S:=by rw[Kl (stok _) (stok _)]; rfl
theorem s5:eqD (.str "pound") (.str "chamber") S=.ok (.bl false) S:=by rw[Kl (stok _) (stok _)]; rfl
theorem s6:eqD (.str "pound") (.str "pound") S=.ok (.bl true) S:=by rw[Kl (stok _) (stok _)]; rfl
theorem s7:eqD (.str "end") (.str "end") S=.ok (.bl true) S:=by rw[Kl (stok _) (stok _)]; rfl
theorem s8:eqD (.str "chamber") (.str "end") S=.ok (.bl false) S:=by rw[Kl (stok _) (stok _)]; rfl
theorem s9:eqD (.str "pound") (.str "end") S=.ok (.bl false) S:=by rw[Kl (stok _) (stok _)]; rfl
theorem p0e{l:List D}:DL.getD (.tup (d::l)) (.int 0) S=.ok d S:=Jd (Hj (by decide) rfl)
theorem p1e{l:List D}{e:D}:DL.getD (.tup (e::d::l)) (.int 1) S=.ok d S:=Jd (Hj (by decide) rfl)
theorem p3e{l:List D}{a b c:D}:DL.getD (.tup (a::b::c::d::l)) (.int 3) S=.ok d S:=Jd (Hj (by decide) rfl)
theorem Gfg:Gat [.bl b] S=.ok (.int (if b then 1 else 0)) S:=id rfl
theorem Gim{a:Nat}{cn':D}{g5 g6 g7 g8:Option D}{R F:List Int}(h:Rows S a L R F)(hL:L.length<1000)(hR:R.length<1000)(hF:F.length<1000)(d:Dp S t k n)(kp:Kp S0 S t k)(ht:t<a)(hk:k<a)(h0:S0.length<=a)(hp:p.ok)(hc:0<=cr)(hc2:cr<=1000)(hn:n<2^58):
  ∃ l r f g8' S',Qu [some (.lst t),some cn',some (.int cr),some (.lst (a+3)),some p.toD,g5,g6,g7,g8] S=.nx [some (.lst t),some cn',some (.int cr),some (.lst (a+3)),some p.toD,some (.int l),some (.int r),some (.int f),g8'] S'/\vOk cr p l r f/\Rows S' a (L++[l]) (R++[r]) (F++[f])/\Dp S' t k (n+6)/\Kp S0 S' t k:=by
 obtain⟨r1,S1,e1,r10,r11,d1,k1⟩:=Hx (m:=cr+1) d (by omega) (by omega) (by omega)
 obtain⟨r2,S2,e2,r20,r21,d2,k2⟩:=Hx (m:=cr+1) d1 (by omega) (by omega) (by omega)
 have st1:∀ (G:Sv),(sq (sa (cn (.int 0)) (gn 5)) (sq (sa (cl 2 (Gm Gj) (ac (vr 0) (ac (o2 Gw (vr 2) (cn (.int 1))) an))) (gn 6)) (sq (sa (cl 2 (Gm Gj) (ac (vr 0) (ac (o2 Gw (vr 2) (cn (.int 1))) an))) (gn 7)) G))) [some (.lst t),some cn',some (.int cr),some (.lst (a+3)),some p.toD,g5,g6,g7,g8] S=G [some (.lst t),some cn',some (.int cr),some (.lst (a+3)),some p.toD,some (.int 0),some (.int r1),some (.int r2),g8] S2:=fun G=>by
  simp[e1,e2]
 unfold Qu
 rw[st1]
 cases p with
 | e=>
  obtain⟨S',q1,q2,q3,q4⟩:=Gwo (x0:=some (.lst t)) (x1:=some cn') (x2:=some (.int cr)) (x4:=some (Pl.toD .e)) (x8:=g8) (l:=0) (r:=r1) (f:=r2) (h.kp (k1.trans k2) ht hk) hL hR hF d2 (kp.trans (k1.trans k2)) ht hk h0
  refine⟨0,r1,r2,g8,S',?_,⟨by decide,r10,r20,rfl,by omega,by omega⟩,q2,q3.mono (by omega),q4⟩
  rw[<- q1]
  simp only[Ye,Ga9,Gck,Vn,Wp,Wq,Gx,List.getElem?_cons_zero,List.getElem?_cons_succ,Pl.toD,p0e,s1,s2,Hd,Bool.false_eq_true,if_false,Ggg]
  rfl
 | c=>
  obtain⟨r3,S3,e3,r30,r31,d3,k3⟩:=Hx (m:=2) d2 (by omega) (by decide) (by decide)
  obtain⟨r4,S4,e4,r40,r41,d4,k4⟩:=Hx (m:=4) d3 (by omega) (by decide) (by decide)
  have kk:=k1.trans (k2.trans (k3.trans k4))
  obtain⟨S',q1,q2,q3,q4⟩:=Gwo (x0:=some (.lst t)) (x1:=some cn') (x2:=some (.int cr)) (x4:=some (Pl.toD .c)) (x8:=some (.int r4)) (l:=r3) (r:=if r4=1 then 1 else 0) (f:=if r4=2 then 1 else 0) (h.kp kk ht hk) hL hR hF d4 (kp.trans kk) ht hk h0
  refine⟨r3,if r4=1 then 1 else 0,if r4=2 then 1 else 0,some (.int r4),S',?_,⟨r30,by split<;>decide,by split<;>decide,by omega,by split<;>split<;>omega⟩,q2,q3.mono (by omega),q4⟩
  rw[<- q1]
  have i1:∀ x:Int,(if decide (r4=x)=true then(1:Int) else 0)=if r4=x then 1 else 0:=fun x=>by by_cases z:r4=x<;>simp[z]
  simp only[Ye,Ga9,Gck,Vn,Wp,Wq,Gx,List.getElem?_cons_zero,List.getElem?_cons_succ,Pl.toD,p0e,s3,s4,Hd,if_true,Vo,Gjg,Ur,Yd,List.length_cons,List.length_nil,Gbo,e3,e4,Gm9,Gfd,Gna,Gfg,i1,Bool.false_eq_true,if_false,Ggg,List.set_cons_zero,List.set_cons_succ]
  rfl
 | p br de ro pr=>
  obtain⟨hb0,hb1,_,_,ho0,ho1,_⟩:=hp
  obtain⟨r3,S3,e3,r30,r31,d3,k3⟩:=Hx (m:=br+1) d2 (by omega) (by omega) (by omega)
  obtain⟨r4,x4,S4,e4,p4,m4,d4,k4⟩:=Wz (xs:=[.int 0,.int br,.int r3]) (m:=3) d3 (by omega) rfl (by simp) (by simp)
  obtain⟨l,hl,l0,l1⟩:∃ i:Int,x4=.int i/\0<=i/\i<=br:=by
   simp only[List.mem_cons,List.mem_nil_iff,or_false] at m4
   rcases m4 with rfl | rfl | rfl
   ·exact⟨_,rfl,by omega,by omega⟩
   ·exact⟨_,rfl,by omega,by omega⟩
   ·exact⟨_,rfl,by omega,by omega⟩
  subst hl
  obtain⟨r5,S5,e5,r50,r51,d5,k5⟩:=Hx (m:=ro+1) d4 (by omega) (by omega) (by omega)
  obtain⟨r6,S6,e6,r60,r61,d6,k6⟩:=Hx (m:=ro-r5+1) d5 (by omega) (by omega) (by omega)
  have kk:=k1.trans (k2.trans (k3.trans (k4.trans (k5.trans k6))))
  obtain⟨S',q1,q2,q3,q4⟩:=Gwo (x0:=some (.lst t)) (x1:=some cn') (x2:=some (.int cr)) (x4:=some (Pl.toD (.p br de ro pr))) (x8:=g8) (l:=l) (r:=r5) (f:=r6) (h.kp kk ht hk) hL hR hF d6 (kp.trans kk) ht hk h0
  refine⟨l,r5,r6,g8,S',?_,⟨l0,r50,r60,l1,by omega⟩,q2,q3,q4⟩
  rw[<- q1]
  have lsE:∀ S:Sto,ls (ac (cn (.int 0)) (ac (cn (.int br)) (ac (cn (.int r3)) an))) [] S=.ok (.lst S.length) (S++[⟨false,[.int 0,.int br,.int r3]⟩]):=fun S=>by simp
  simp only[Ye,Ga9,Gck,Vn,Wp,Wq,Gx,List.getElem?_cons_zero,List.getElem?_cons_succ,Pl.toD,p0e,p1e,p3e,s5,s6,Hd,if_true,Vo,Gjg,Ur,Yd,Gcl,List.length_cons,List.length_nil,Gbo,Ggh,Gig,e3,Gm9,Bool.false_eq_true,if_false,Ggg,List.set_cons_zero,List.set_cons_succ]
  simp only[Nat.reduceAdd,Nat.reduceLeDiff,if_true,Gx,e4,p4,Hd,p3e,Ggh,Gig,List.length_cons,List.length_nil,e5,e6,List.set_cons_zero,List.set_cons_succ,List.getElem?_cons_zero,List.getElem?_cons_succ]
  rfl
structure StR(cr:Int)(ps:List Pl)(L R F:List Int):Prop where
 lL:L.length=ps.length
 lR:R.length=ps.length
 lF:F.length=ps.length
 at':∀ (i:Nat) (p:Pl),ps[i]?=some p->∃ l r f,L[i]?=some l/\R[i]?=some r/\F[i]?=some f/\vOk cr p l r f
def stD(L R F:List Int):D:=.tup [.tup (L.map D.int),.tup (R.map D.int),.tup (F.map D.int)]
theorem Gnh{gd:D}(h:Dp S t k n)(hn:n<2^57)(hp:∀ p∈ps,p.ok)(hl:ps.length<=13)(hc:0<=cr)(hc2:cr<=1000):
  ∃ (L R F:List Int) (S':Sto),Vy [.lst t,.tup [.tup (ps.map Pl.toD),gd],.int cr] S=.ok (stD L R F) S'/\StR cr ps L R F/\Dp S' t k (n+100)/\Kp S S' t k:=by
 have lt:=h.lt
 have e1:ls (ac (ls an) (ac (ls an) (ac (ls an) an))) [some (.lst t),some (.tup [.tup (ps.map Pl.toD),gd]),some (.int cr),none,none,none,none,none,none] S=.ok (.lst (S.length+3)) (S++[⟨false,[]⟩,⟨false,[]⟩,⟨false,[]⟩,⟨false,[.lst S.length,.lst (S.length+1),.lst (S.length+2)]⟩]):=by simp
 have w:∀ j:Nat,(S++[(⟨false,[]⟩:Cell),⟨false,[]⟩,⟨false,[]⟩,⟨false,[.lst S.length,.lst (S.length+1),.lst (S.length+2)]⟩])[S.length+j]?=[(⟨false,[]⟩:Cell),⟨false,[]⟩,⟨false,[]⟩,⟨false,[.lst S.length,.lst (S.length+1),.lst (S.length+2)]⟩][j]?:=fun j=>by
  rw[List.getElem?_append_right (by omega)]
  congr 1
  omega
 have rw0:Rows (S++[⟨false,[]⟩,⟨false,[]⟩,⟨false,[]⟩,⟨false,[.lst S.length,.lst (S.length+1),.lst (S.length+2)]⟩]) S.length [] [] []:=⟨w 0,w 1,w 2,w 3⟩
 have d1:Dp (S++[⟨false,[]⟩,⟨false,[]⟩,⟨false,[]⟩,⟨false,[.lst S.length,.lst (S.length+1),.lst (S.length+2)]⟩]) t k n:=by
  have:=(((h.app (c:=⟨false,[]⟩)).app (c:=⟨false,[]⟩)).app (c:=⟨false,[]⟩)).app (c:=⟨false,[.lst S.length,.lst (S.length+1),.lst (S.length+2)]⟩)
  simpa using this
 have k1:Kp S (S++[⟨false,[]⟩,⟨false,[]⟩,⟨false,[]⟩,⟨false,[.lst S.length,.lst (S.length+1),.lst (S.length+2)]⟩]) t k:=⟨by simp,fun i hi _ _=>by rw[List.getElem?_append_left hi]⟩
 generalize S++[(⟨false,[]⟩:Cell),⟨false,[]⟩,⟨false,[]⟩,⟨false,[.lst S.length,.lst (S.length+1),.lst (S.length+2)]⟩]=S1 at *
 obtain⟨ρ',S2,ef,L,R,F,g4,g5,g6,g7,g8,eρ,hrw,l1,l2,l3,hat,d2,k2⟩:=Up (nxt:=(Gii (ps.map Pl.toD)).nxt) (g:=gn 4) (b:=Qu) (l:=ps.map Pl.toD)
  (fun i ρ S'=>∃ L R F g4 g5 g6 g7 g8,ρ=[some (.lst t),some (.tup [.tup (ps.map Pl.toD),gd]),some (.int cr),some (.lst (S.length+3)),g4,g5,g6,g7,g8]/\Rows S' S.length L R F/\L.length=i/\R.length=i/\F.length=i/\(∀ (j:Nat) (p:Pl),j<i->ps[j]?=some p->∃ l r f,L[j]?=some l/\R[j]?=some r/\F[j]?=some f/\vOk cr p l r f)/\Dp S' t k (n+6*i)/\Kp S S' t k)
  (fun _ _ _ _=>rfl) (fun i d ρ S' hd ⟨L,R,F,g4,g5,g6,g7,g8,h1,h2,h3,h4,h5,h6,h7,h8⟩=>by
   rw[List.getElem?_map] at hd
   cases hp':ps[i]? with
   | none=>rw[hp'] at hd; cases hd
   | some p=>
    rw[hp'] at hd
    cases (Option.some.inj hd)
    subst h1
    have hi:i<ps.length:=(List.getElem?_eq_some_iff.mp hp').1
    obtain⟨l,r,f,g8',S'',c1,c2,c3,c4,c5⟩:=Gim (S0:=S) (cn':=.tup [.tup (ps.map Pl.toD),gd]) (g5:=g5) (g6:=g6) (g7:=g7) (g8:=g8) (p:=p) h2 (by omega) (by omega) (by omega) h7 h8 (by omega) (by omega) (Nat.le_refl _) (hp p (List.mem_of_getElem? hp')) hc hc2 (by omega)
    refine⟨_,_,S'',rfl,c1,L++[l],R++[r],F++[f],_,_,_,_,_,rfl,c3,by simp[h3],by simp[h4],by simp[h5],fun j q hj hq=>?_,c4.mono (by omega),c5⟩
    by_cases hji:j<i
    ·obtain⟨l',r',f',a1,a2,a3,a4⟩:=h6 j q hji hq
     exact⟨l',r',f',by rw[List.getElem?_append_left (by omega)]; exact a1,by rw[List.getElem?_append_left (by omega)]; exact a2,by rw[List.getElem?_append_left (by omega)]; exact a3,a4⟩
    ·have:j=i:=by omega
     subst this
     rw[hp'] at hq
     cases hq
     exact⟨l,r,f,by rw[List.getElem?_append_right (by omega)]; simp[h3],by rw[List.getElem?_append_right (by omega)]; simp[h4],by rw[List.getElem?_append_right (by omega)]; simp[h5],c2⟩) (Gii (ps.map Pl.toD)).fuel 0 [some (.lst t),some (.tup [.tup (ps.map Pl.toD),gd]),some (.int cr),some (.lst (S.length+3)),none,none,none,none,none] S1 (Nat.zero_le _) ⟨[],[],[],none,none,none,none,none,rfl,rw0,rfl,rfl,rfl,(fun j p hj=>by omega),d1,k1⟩ Gzn
 have hm:(ps.map Pl.toD).length=ps.length:=by simp
 rw[hm] at l1 l2 l3 hat d2
 have g0:DL.getD (.lst (S.length+3)) (.int 0) S2=.ok (.lst S.length) S2:=Qh hrw.r3 rfl
 have g1:DL.getD (.lst (S.length+3)) (.int 1) S2=.ok (.lst (S.length+1)) S2:=Qh hrw.r3 rfl
 have g2:DL.getD (.lst (S.length+3)) (.int 2) S2=.ok (.lst (S.length+2)) S2:=Qh hrw.r3 rfl
 have t0:=Gaz hrw.r0
 have t1:=Gaz hrw.r1
 have t2:=Gaz hrw.r2
 refine⟨L,R,F,S2,?_,⟨l1,l2,l3,fun i p hp'=>hat i p (List.getElem?_eq_some_iff.mp hp').1 hp'⟩,d2.mono (by omega),k2⟩
 refine(Gy (m:=9) (b:=Ul)).trans ?_
 show fin (Ul [some (.lst t),some (.tup [.tup (ps.map Pl.toD),gd]),some (.int cr),none,none,none,none,none,none] S)=_
 unfold Ul
 refine(Gh (ρ':=[some (.lst t),some (.tup [.tup (ps.map Pl.toD),gd]),some (.int cr),some (.lst (S.length+3)),none,none,none,none,none]) (S':=S1) (by rw[Vo,e1]; rfl)).trans ?_
 refine(Gh (ρ':=ρ') (S':=S2) ?_).trans ?_
 ·rw[Uo,Gar,Vn]
  simp only[Wp,Wq,Gx,List.getElem?_cons_zero,List.getElem?_cons_succ,p0e,Gzm,Hd]
  exact ef
 ·rw[eρ]
  simp[g0,g1,g2,t0,t1,t2,stD]
def wat:Pl->Int
 | .e=>0
 | .c=>1
 | .p br _ _ _=>br
theorem Gni(h:p.ok):Qd [p.toD] S=.ok (.int (wat p)) S:=by
 have e1:=fun S=>Ggl (S:=S) h
 have e2:=fun S=>Gbp (S:=S) h
 cases p with
 | e=>simp[Qd,fnB,Uf,c_END,c_CHAMBER,e1,Pl.isE,wat]
 | c=>simp[Qd,fnB,Uf,c_END,c_CHAMBER,e1,e2,Pl.isE,Pl.isC,wat]
 | p br de ro pr=>
  have g:∀ S,DL.getD (Pl.toD (.p br de ro pr)) (.int 1) S=.ok (.int br) S:=fun S=>p1e
  simp[Qd,fnB,Uf,c_END,c_CHAMBER,e1,e2,Pl.isE,Pl.isC,wat,g]
theorem Vz{i:Int}(h:L[k]?=some i):DL.getD (.tup (L.map D.int)) (.int k) S=.ok (.int i) S:=
 Jd (Hj (by omega) (by rw[Int.toNat_natCast,List.getElem?_map,h]; rfl))
def plc(mid:List Pl):List Pl:=.e::(mid++[.e])
theorem Gbs:(plc mid).length=mid.length+2:=by simp[plc]
theorem Gwp(h:(plc mid)[i]?=some p):(i=0/\p=.e)\/(i=mid.length+1/\p=.e)\/(1<=i/\i<=mid.length/\p∈mid):=by
 cases i with
 | zero=>cases (Option.some.inj h); exact .inl ⟨rfl,rfl⟩
 | succ i=>
  have h:(mid++[Pl.e])[i]?=some p:=h
  by_cases c:i<mid.length
  ·rw[List.getElem?_append_left c] at h
   exact .inr (.inr ⟨by omega,by omega,List.mem_of_getElem? h⟩)
  ·have hlt:=(List.getElem?_eq_some_iff.mp h).1
   simp at hlt
   have:i=mid.length:=by omega
   subst this
   rw[List.getElem?_append_right (Nat.le_refl _)] at h
   simp at h
   exact .inr (.inl ⟨rfl,h.symm⟩)
theorem Gwq(h:∀ p∈mid,p.ok/\p.isE=false):∀ p∈plc mid,p.ok:=fun p hp=>by
 rcases List.mem_cons.mp hp with rfl | hp
 ·trivial
 ·rcases List.mem_append.mp hp with hp | hp
  ·exact(h p hp).1
  ·have:p=.e:=by simpa using hp
   subst this
   trivial
theorem Gaj{i:Int}(h:i∈L):∃ k,k<L.length/\L[k]?=some i:=by
 obtain⟨k,hk,e⟩:=List.getElem_of_mem h
 exact⟨k,hk,by rw[List.getElem?_eq_getElem hk,e]⟩
theorem StR.nn{R F:List Int}(h:StR cr ps L R F):(∀ i∈L,0<=i)/\(∀ i∈R,0<=i)/\∀ i∈F,0<=i:=by
 refine⟨fun i hi=>?_,fun i hi=>?_,fun i hi=>?_⟩
 ·obtain⟨k,hk,e⟩:=Gaj hi
  rw[h.lL] at hk
  obtain⟨l,r,f,e1,e2,e3,e4⟩:=h.at' k _ (List.getElem?_eq_getElem hk)
  rw[e] at e1; cases e1; exact e4.1
 ·obtain⟨k,hk,e⟩:=Gaj hi
  rw[h.lR] at hk
  obtain⟨l,r,f,e1,e2,e3,e4⟩:=h.at' k _ (List.getElem?_eq_getElem hk)
  rw[e] at e2; cases e2; exact e4.2.1
 ·obtain⟨k,hk,e⟩:=Gaj hi
  rw[h.lF] at hk
  obtain⟨l,r,f,e1,e2,e3,e4⟩:=h.at' k _ (List.getElem?_eq_getElem hk)
  rw[e] at e3; cases e3; exact e4.2.2.1
theorem Gin{l f:Int}(ok:p.ok)(hc:cr<=900)(h:vOk cr p l r f):l<=1000/\r<=1000/\f<=1000:=by
 obtain⟨h1,h2,h3,h4⟩:=h
 cases p with
 | e=>obtain⟨a,b,c⟩:=h4; omega
 | c=>obtain⟨a,b⟩:=h4; omega
 | p br de ro pr=>
  obtain⟨a,b⟩:=h4
  obtain⟨_,o1,_,_,_,o2,_⟩:=ok
  omega
theorem StR.le{R F:List Int}(h:StR cr ps L R F)(hp:∀ p∈ps,p.ok)(hc:cr<=900):(∀ i∈L,0<=i/\i<=1000)/\(∀ i∈R,0<=i/\i<=1000)/\∀ i∈F,0<=i/\i<=1000:=by
 obtain⟨n1,n2,n3⟩:=h.nn
 refine⟨fun i hi=>⟨n1 i hi,?_⟩,fun i hi=>⟨n2 i hi,?_⟩,fun i hi=>⟨n3 i hi,?_⟩⟩
 ·obtain⟨k,hk,e⟩:=Gaj hi
  rw[h.lL] at hk
  obtain⟨l,r,f,e1,e2,e3,e4⟩:=h.at' k _ (List.getElem?_eq_getElem hk)
  rw[e] at e1; cases e1; exact(Gin (hp _ (List.getElem_mem hk)) hc e4).1
 ·obtain⟨k,hk,e⟩:=Gaj hi
  rw[h.lR] at hk
  obtain⟨l,r,f,e1,e2,e3,e4⟩:=h.at' k _ (List.getElem?_eq_getElem hk)
  rw[e] at e2; cases e2; exact(Gin (hp _ (List.getElem_mem hk)) hc e4).2.1
 ·obtain⟨k,hk,e⟩:=Gaj hi
  rw[h.lF] at hk
  obtain⟨l,r,f,e1,e2,e3,e4⟩:=h.at' k _ (List.getElem?_eq_getElem hk)
  rw[e] at e3; cases e3; exact(Gin (hp _ (List.getElem_mem hk)) hc e4).2.2
theorem Wa{g:Tg}{b:Sv}{ρ1 ρ2:Lc}(h:nxt k S=some d)(h2:g d ρ=some ρ1)(h3:b ρ1 S=.nx ρ2 S2):Ua nxt g b (n+1) k ρ S=Ua nxt g b n (k+1) ρ2 S2:=by
 conv=>lhs; unfold Ua
 simp only[h,h2,h3]
theorem Gfh{g:Tg}{b:Sv}(h:nxt k S=none):Ua nxt g b (n+1) k ρ S=.nx ρ S:=by
 conv=>lhs; unfold Ua
 simp only[h]
theorem Gjn{s:Str}(h:PyData.strOk s=true):neD (.str s) (.str s) S=.ok (.bl false) S:=by
 simp only[neD,toP]
 simp[SeqAt.shaped,PyData.eqv,PyData.canLay0,PyData.depth,h]
theorem Gq1(h:k<M.length):Gbf (.tup (M.map D.int)) none (some (k:Int)) S=.ok (.tup ((M.take k).map D.int)) S:=by
 have e2:HT.sIx (M.map D.int).length (M.map D.int).length (some (k:Int))=k:=by
  rw[HT.Gam,List.length_map]
  omega
 show(if HT.sIx (M.map D.int).length 0 none=0/\HT.sIx (M.map D.int).length (M.map D.int).length (some (k:Int))=(M.map D.int).length then Out.ok (D.tup (M.map D.int)) S else .ok (.tup (DL.Qk (M.map D.int) none (some (k:Int)))) S)=_
 rw[if_neg (by rw[e2,List.length_map]; omega)]
 unfold DL.Qk
 rw[e2,HT.Wb,List.map_take]
 rfl
theorem Gq2(h:k<M.length):Gbf (.tup (M.map D.int)) (some ((k:Int)+1)) none S=.ok (.tup ((M.drop (k+1)).map D.int)) S:=by
 have e1:HT.sIx (M.map D.int).length 0 (some ((k:Int)+1))=k+1:=by
  have:=HT.Gam (M.map D.int).length 0 (k+1)
  rw[show((k+1:Nat):Int)=(k:Int)+1 from by push_cast; rfl] at this
  rw[this,List.length_map]
  omega
 show(if HT.sIx (M.map D.int).length 0 (some ((k:Int)+1))=0/\HT.sIx (M.map D.int).length (M.map D.int).length none=(M.map D.int).length then Out.ok (D.tup (M.map D.int)) S else .ok (.tup (DL.Qk (M.map D.int) (some ((k:Int)+1)) none)) S)=_
 rw[if_neg (by rw[e1]; omega)]
 unfold DL.Qk
 rw[e1,HT.Wb,List.map_drop,List.take_of_length_le (by simp)]
theorem Gc5{m:Int}(h:M[k]?=some r)(hl:M.length<=1000):Ko [.tup (M.map D.int),.int k,.int m] S=.ok (.tup ((M.set k (r+m)).map D.int)) S:=by
 have hk:k<M.length:=(List.getElem?_eq_some_iff.mp h).1
 have g:=Vz (S:=S) h
 have a1:Gw (.tup ((M.take k).map D.int)) (.tup [.int (r+m)]) S=.ok (.tup ((M.take k).map D.int++[.int (r+m)])) S:=Zc (by simp; omega)
 have a2:Gw (.tup ((M.take k).map D.int++[.int (r+m)])) (.tup ((M.drop (k+1)).map D.int)) S=.ok (.tup ((M.take k).map D.int++[.int (r+m)]++(M.drop (k+1)).map D.int)) S:=Zc (by simp; omega)
 refine(Gy (m:=3) (b:=Vg)).trans ?_
 show fin (Vg [some (.tup (M.map D.int)),some (.int k),some (.int m)] S)=_
 have e:(M.take k).map D.int++[.int (r+m)]++(M.drop (k+1)).map D.int=(M.set k (r+m)).map D.int:=by
  rw[List.set_eq_take_append_cons_drop,if_pos hk]
  simp
 rw[e] at a2
 simp[Vg,Gq1 hk,Gq2 hk,g,a1,a2,-List.map_take,-List.map_drop,-List.map_set]
theorem Qn{f:Fn}(h:f ds S=.exc x S')(hy:x.cls∈ys):gX ys f ds S=.exc x S':=by
 simp only[gX,h,if_pos hy]
theorem Gak{f:Fn}(h:f ds S=.ok d S'):gX ys f ds S=.ok d S':=by
 simp only[gX,h]
@[simp] theorem Gzo{β:Type}{g:α->Sto->Out β}:(Out.exc x S:Out α).bind g=.exc x S:=id rfl
@[simp] theorem Gkv{g:α->Sto->OS}:bindS (Out.exc x S:Out α) ρ g=.exc x ρ S:=id rfl
theorem Jn{g:Sv}(h:f ρ S=.exc x ρ' S'):fin (sq f g ρ S)=.exc x S':=by rw[Ye,h]; rfl
def words:List D:=[.str "nogate",.str "dry",.str "full",.str "nospring",.str "nobarge",.str "noroom",.str "uneven",.str "shallow",.str "falls",.str "notext",.str "toomany",.str "noline"]
theorem Gq3{m:List D}{bs cs:List Bool}{w:D}(h:S[q]?=some ⟨false,m⟩)(hl:m.length=13)(h12:m[12]?=some (.bl true))(hb:Geg m=some bs)(hc:Geg (DL.Qk m none (some 12))=some cs)(hcnt:cs.countP (·==true)=1)(hidx:List.findIdx? (·==true) bs=some j)(hw:words[j]?=some w):
  ∃ S',Jv [.lst q] S=.ok w S'/\Ex S S':=by
 have e1:sa (ls (ac (cn (.str "nogate")) (ac (cn (.str "dry")) (ac (cn (.str "full")) (ac (cn (.str "nospring")) (ac (cn (.str "nobarge")) (ac (cn (.str "noroom")) (ac (cn (.str "uneven")) (ac (cn (.str "shallow")) (ac (cn (.str "falls")) (ac (cn (.str "notext")) (ac (cn (.str "toomany")) (ac (cn (.str "noline")) an))))))))))))) (gn 1) [some (.lst q),none] S=.nx [some (.lst q),some (.lst S.length)] (S++[⟨false,words⟩]):=by simp[words]
 have x1:Ex S (S++[⟨false,words⟩]):=Ex.app
 have w1:(S++[(⟨false,words⟩:Cell)])[S.length]?=some ⟨false,words⟩:=Hg
 have h1:=x1.at h
 generalize S++[(⟨false,words⟩:Cell)]=S1 at *
 have x2:Ex S1 (S1++[⟨false,DL.Qk m none (some 12)⟩]):=Ex.app
 have sl:=Gqy (lo:=none) (hi:=some 12) h1
 have c1:(S1++[(⟨false,DL.Qk m none (some 12)⟩:Cell)])[S1.length]?=some ⟨false,DL.Qk m none (some 12)⟩:=Hg
 have h2:=x2.at h1
 have w2:=x2.at w1
 have ln:Jl [.lst q] S1=.ok (.int 13) S1:=by rw[Gff h1,hl]; rfl
 generalize hS2:S1++[(⟨false,DL.Qk m none (some 12)⟩:Cell)]=S2 at *
 have il:=isL c1
 have ct:Gh9 (.lst S1.length) [.bl true] S2=.ok (.int 1) S2:=by
  simp only[Gh9,c1,hc]
  rw[if_pos trivial,hcnt]
  rfl
 have g12:DL.getD (.lst q) (.int 12) S2=.ok (.bl true) S2:=Qh h2 (Hj (by decide) h12)
 have ix:Gia (.lst q) [.bl true] S2=.ok (.int j) S2:=by
  simp only[Gia,h2,hb,hidx]
  rw[if_pos trivial]
 have iq:=isL h2
 have gw:DL.getD (.lst S.length) (.int j) S2=.ok w S2:=Qh w2 (Hj (by omega) (by rw[Int.toNat_natCast]; exact hw))
 refine⟨S2,?_,x1.trans x2⟩
 refine(Gy (m:=2) (b:=Vl)).trans ?_
 show fin (Vl [some (.lst q),none] S)=_
 unfold Vl
 refine(Gh e1).trans ?_
 refine(Gh (ρ':=[some (.lst q),some (.lst S.length)]) (S':=S2) ?_).trans ?_
 ·simp[ln,sl,il,ct,g12,Uc]
 ·simp[iq,ix,gw]
def mks(y:Str):List D:=ys.map (fun x=>.bl (decide (y∈[x])))++[.bl (decide (y∈ys))]
def Xw(y:Str):D:=match (ys.zip words).lookup y with
 | some w=>w
 | none=>.non
def Gq4(y:Str):List Bool:=ys.map (fun x=>decide (y∈[x]))++[decide (y∈ys)]
theorem Qv(j:Nat)(y:Str)(h:S[q]?=some ⟨false,mks y⟩)(h1:(mks y)[12]?=some (.bl true):=by kernel_rfl!)(h2:Geg (mks y)=some (Gq4 y):=by kernel_rfl!)(h3:Geg (DL.Qk (mks y) none (some 12))=some ((Gq4 y).take 12):=by kernel_rfl!)(h4:((Gq4 y).take 12).countP (·==true)=1:=by decide +kernel)(h5:List.findIdx? (·==true) (Gq4 y)=some j:=by kernel_rfl!)(h6:words[j]?=some (Xw y):=by kernel_rfl!):∃ S',Jv [.lst q] S=.ok (Xw y) S'/\Ex S S':=
 Gq3 h rfl h1 h2 h3 h4 h5 h6
theorem Gwr(hy:y∈ys)(h:S[q]?=some ⟨false,mks y⟩):∃ S',Jv [.lst q] S=.ok (Xw y) S'/\Ex S S':=by
 simp only[ys,List.mem_cons,List.mem_nil_iff,or_false] at hy
 rcases hy with rfl | rfl | rfl | rfl | rfl | rfl | rfl | rfl | rfl | rfl | rfl | rfl
 ·exact Qv 0 _ h
 ·exact Qv 1 _ h
 ·exact Qv 2 _ h
 ·exact Qv 3 _ h
 ·exact Qv 4 _ h
 ·exact Qv 5 _ h
 ·exact Qv 6 _ h
 ·exact Qv 7 _ h
 ·exact Qv 8 _ h
 ·exact Qv 9 _ h
 ·exact Qv 10 _ h
 ·exact Qv 11 _ h
theorem Gws{p:Nat}(hp:S[p]?=some ⟨false,[]⟩)(hq:S[q]?=some ⟨false,[]⟩):neD (.lst p) (.lst q) S=.ok (.bl false) S:=by
 have e:∀ i,S[i]?=some ⟨false,[]⟩->toP S 40 (.lst i)=some (.list []):=fun i h=>by
  show(match S[i]? with | some c=>(Jy (toP S 39) c.xs).map PyData.list | none=>none)=_
  rw[h]; rfl
 simp only[neD,e p hp,e q hq]
 rfl
theorem Gio{hh:XD->Sv}{fb:Sv}(h:fb ρ S=.nx ρ' S'):Zf ys hh fb ρ S=.nx ρ' S':=by simp only[Zf,h]
theorem Gjo{hh:XD->Sv}{fb:Sv}(h:fb ρ S=.exc x ρ' S')(hy:x.cls∈ys):Zf ys hh fb ρ S=hh x ρ' S':=by simp only[Zf,h,if_pos hy]
theorem Gwt{fh:Sv}(h:fh (ρ.set i (some (.exn x.cls x.fld))) S=.nx ρ' S'):hdl i fh x ρ S=.nx (ρ'.set i none) S':=by simp only[hdl,h]
def gd(u:Bool):D:=.str (if u=true then "up" else "down")
def cD(ps:List Pl)(us:List Bool):D:=.tup [.tup (ps.map Pl.toD),.tup (us.map gd)]
theorem Ghn:∀ {gs:List D},(∀ g∈gs,g=.str "up"\/g=.str "down")->∃ us:List Bool,gs=us.map gd
 | [],_=>⟨[],rfl⟩
 | g::r,h=>by
  obtain⟨us,e⟩:=Ghn fun x hx=>h x (List.mem_cons_of_mem _ hx)
  rcases h g List.mem_cons_self with z | z
  ·exact⟨true::us,by rw[e,z]; rfl⟩
  ·exact⟨false::us,by rw[e,z]; rfl⟩
inductive Res where
 | no (y:Str) | yes (d:D)
def Res.out(r:Res)(S:Sto):Out D:=match r with
 | .no y=>.exc ⟨y,none⟩ S
 | .yes d=>.ok d S
def Res.toD:Res->D
 | .no y=>Xw y
 | .yes d=>d
def Res.ok:Res->Prop
 | .no y=>y∈ys
 | .yes _=>True
section
variable{ps:List Pl}{us:List Bool}{L R F:List Int}{S:Sto}
theorem cd0:DL.getD (cD ps us) (.int 0) S=.ok (.tup (ps.map Pl.toD)) S:=Jd (Hj (by decide) rfl)
theorem cd1:DL.getD (cD ps us) (.int 1) S=.ok (.tup (us.map gd)) S:=Jd (Hj (by decide) rfl)
theorem st0:DL.getD (stD L R F) (.int 0) S=.ok (.tup (L.map D.int)) S:=Jd (Hj (by decide) rfl)
theorem st1:DL.getD (stD L R F) (.int 1) S=.ok (.tup (R.map D.int)) S:=Jd (Hj (by decide) rfl)
theorem st2:DL.getD (stD L R F) (.int 2) S=.ok (.tup (F.map D.int)) S:=Jd (Hj (by decide) rfl)
theorem Wr(h:ps[k]?=some p):DL.getD (.tup (ps.map Pl.toD)) (.int k) S=.ok p.toD S:=
 Jd (Hj (by omega) (by rw[Int.toNat_natCast,List.getElem?_map,h]; rfl))
theorem Gjp(h:us[k]?=some u):DL.getD (.tup (us.map gd)) (.int k) S=.ok (gd u) S:=
 Jd (Hj (by omega) (by rw[Int.toNat_natCast,List.getElem?_map,h]; rfl))
theorem Gjq:eqD (gd u) (.str "up") S=.ok (.bl u) S:=by
 cases u
 ·show eqD (.str "down") (.str "up") S=_
  rw[Kl (stok _) (stok _)]; rfl
 ·show eqD (.str "up") (.str "up") S=_
  rw[Kl (stok _) (stok _)]; rfl
def hiI(u:Bool)(k:Nat):Nat:=if u=true then k+1 else k
def loI(u:Bool)(k:Nat):Nat:=if u=true then k else k+1
theorem Gcc(h:us[k]?=some u):Gad [cD ps us,.int k] S=.ok (.int (hiI u k)) S:=by
 refine(Gy (m:=2) (b:=Gac)).trans ?_
 show fin (Gac [some (cD ps us),some (.int k)] S)=_
 have g:=Gjq (u:=u) (S:=S)
 cases u<;>simp[Gac,cd1,Gjp h,c_UP,g,hiI]
theorem Gd7(h:us[k]?=some u):Gbk [cD ps us,.int k] S=.ok (.int (loI u k)) S:=by
 refine(Gy (m:=2) (b:=Gbj)).trans ?_
 show fin (Gbj [some (cD ps us),some (.int k)] S)=_
 have g:=Gjq (u:=u) (S:=S)
 cases u<;>simp[Gbj,cd1,Gjp h,c_UP,g,loI]
theorem Uq{x y:D}(e:eqD x y S=.ok (.bl b) S):neD x y S=.ok (.bl (!b)) S:=by
 unfold eqD at e
 unfold neD
 split at e
 ·rename_i P Q z1 z2
  by_cases hs:(SeqAt.shaped P&&SeqAt.shaped Q)=true
  ·rw[if_pos hs] at e
   have:PyData.eqv P Q=b:=by injection e with e _; injection e
   rw[if_pos hs,this]
  ·rw[if_neg hs] at e; cases e
 ·cases e
theorem Gnj(h:p.ok):neD p.toD (.tup [.str "end"]) S=.ok (.bl (!p.isE)) S:=Uq (Ggl h)
theorem Gkw{l:Int}(h:p.ok):Gbh [p.toD,.int l] S=.ok (.bl (!p.isE&&decide (l=0))) S:=by
 refine(Gy (m:=2) (b:=Gaa)).trans ?_
 show fin (Gaa [some p.toD,some (.int l)] S)=_
 have n:=Gnj (S:=S) h
 cases z:p.isE<;>rw[z] at n<;>simp[Gaa,c_END,n]
theorem Gd8{l:Int}(h:p.ok):Qy [p.toD,.int l] S=.ok (.bl (!p.isE&&decide (wat p<=l))) S:=by
 refine(Gy (m:=2) (b:=Yc)).trans ?_
 show fin (Yc [some p.toD,some (.int l)] S)=_
 have n:=Gnj (S:=S) h
 have wa:=Gni (S:=S) h
 cases z:p.isE<;>rw[z] at n<;>simp[Yc,c_END,n,wa]
def spr:Pl->Bool
 | .p _ _ _ (.int _)=>true
 | _=>false
theorem Gkx(h:p.ok):Ue [p.toD] S=.ok (.bl (spr p)) S:=by
 refine(Gy (m:=1) (b:=Js)).trans ?_
 show fin (Js [some p.toD] S)=_
 cases p with
 | e=>
  have g:DL.getD (Pl.toD .e) (.int 0) S=.ok (.str "end") S:=Jd (Hj (by decide) rfl)
  simp[Js,g,s2,spr]
 | c=>
  have g:DL.getD (Pl.toD .c) (.int 0) S=.ok (.str "chamber") S:=Jd (Hj (by decide) rfl)
  simp[Js,g,s4,spr]
 | p br de ro pr=>
  have g:DL.getD (Pl.toD (.p br de ro pr)) (.int 0) S=.ok (.str "pound") S:=Jd (Hj (by decide) rfl)
  have g4:DL.getD (Pl.toD (.p br de ro pr)) (.int 4) S=.ok pr S:=Jd (Hj (by decide) rfl)
  obtain⟨_,_,_,_,_,_,hpr⟩:=h
  rcases hpr with rfl | ⟨i,rfl,_⟩
  ·simp[Js,g,g4,s6,spr,Gfa]
  ·simp[Js,g,g4,s6,spr,Gfa]
theorem Gjr{n:Int}:Vu [cD ps us,.int n] S=if 0<=n/\n<us.length then .ok .non S else .exc ⟨"NoGate",none⟩ S:=by
 refine(Gy (m:=2) (b:=Kg)).trans ?_
 show fin (Kg [some (cD ps us),some (.int n)] S)=_
 by_cases h1:0<=n
 ·by_cases h2:n<us.length
  ·rw[if_pos ⟨h1,h2⟩]
   simp[Kg,cd1,h1,h2,fin]
  ·rw[if_neg (fun z=>h2 z.2)]
   simp[Kg,cd1,h1,h2,fin,srs]
 ·rw[if_neg (fun z=>h1 z.1)]
  simp[Kg,cd1,h1,fin,srs]
end
def hol:Pl->Int->Bool
 | .e,_=>true
 | .c,b=>decide (b<=1)
 | .p _ _ ro _,b=>decide (b<=ro)
theorem Gnk{b:Int}(h:p.ok):Gaq [p.toD,.int b] S=.ok (.bl (hol p b)) S:=by
 have e1:=fun S=>Ggl (S:=S) h
 have e2:=fun S=>Gbp (S:=S) h
 cases p with
 | e=>simp[Gaq,fnB,Gbi,c_END,c_CHAMBER,e1,Pl.isE,hol]
 | c=>simp[Gaq,fnB,Gbi,c_END,c_CHAMBER,e1,e2,Pl.isE,Pl.isC,hol]
 | p br de ro pr=>
  have g:∀ S,DL.getD (Pl.toD (.p br de ro pr)) (.int 3) S=.ok (.int ro) S:=fun S=>p3e
  simp[Gaq,fnB,Gbi,c_END,c_CHAMBER,e1,e2,Pl.isE,Pl.isC,hol,g]
def wd(b:Bool):D:=.str (if b=true then "right" else "left")
def sel(b:Bool)(R F:List Int):List Int:=if b=true then R else F
theorem Gas:eqD (wd b) (.str "right") S=.ok (.bl b) S:=by
 cases b
 ·show eqD (.str "left") (.str "right") S=_
  rw[Kl (stok _) (stok _)]; rfl
 ·show eqD (.str "right") (.str "right") S=_
  rw[Kl (stok _) (stok _)]; rfl
theorem Gnl{R F:List Int}:Wv [stD L R F,wd b] S=.ok (.tup ((sel b R F).map D.int)) S:=by
 refine(Gy (m:=2) (b:=Vf)).trans ?_
 show fin (Vf [some (stD L R F),some (wd b)] S)=_
 have w:=Gas (S:=S) (b:=b)
 have g1:DL.getD (stD L R F) (.int 1) S=.ok (.tup (R.map D.int)) S:=p1e
 have g2:DL.getD (stD L R F) (.int 2) S=.ok (.tup (F.map D.int)) S:=Jd (Hj (by decide) rfl)
 cases b<;>simp[Vf,w,g1,g2,sel]
structure Rw(S:Sto)(q x y z:Nat)(A B C:List D):Prop where
 q0:S[q]?=some ⟨false,[.lst x,.lst y,.lst z]⟩
 q1:S[x]?=some ⟨false,A⟩
 q2:S[y]?=some ⟨false,B⟩
 q3:S[z]?=some ⟨false,C⟩
theorem Gnm{A B C:List D}{f:Ev D}(hf:f ρ S=.ok (.tup [.tup A,.tup B,.tup C]) S):∃ S',cmp (isrc f) [none] (gn 0) ttrue (b1 Qo (ac (vr 0) an)) ρ S=.ok (.lst S.length) S'/\Rw S' S.length (S.length+1) (S.length+2) (S.length+3) A B C/\Ex S S':=by
 have w:∀ (l:Sto) (j:Nat),(S++l)[S.length+j]?=l[j]?:=fun l j=>by
  rw[List.getElem?_append_right (by omega)]
  congr 1
  omega
 have w0:∀ l:Sto,(S++l)[S.length]?=l[0]?:=fun l=>w l 0
 have st:∀ (l:Sto) (c:Cell) (X:D),(S++(c::l)).set S.length ⟨false,c.xs++[X]⟩=S++(⟨false,c.xs++[X]⟩::l):=fun l c X=>by
  rw[List.set_append_right _ _ (Nat.le_refl _),Nat.sub_self]; rfl
 have ev:∀ (X:List D) (S':Sto),b1 Qo (ac (vr 0) an) [some (.tup X)] S'=.ok (.lst S'.length) (S'++[⟨false,X⟩]):=fun X S'=>by simp[Ggm]
 have b1':cbody S.length ttrue (b1 Qo (ac (vr 0) an)) [some (.tup A)] (S++[⟨false,[]⟩])=.nx [some (.tup A)] (S++[⟨false,[.lst (S.length+1)]⟩,⟨false,A⟩]):=by
  have:=Gbq (a:=S.length) (ev A (S++[⟨false,[]⟩])) (xs:=[]) (by rw[List.append_assoc]; exact w0 _) (by simp)
  rw[this,List.append_assoc]
  refine congrArg (OS.nx _) ?_
  have q:=st [⟨false,A⟩] ⟨false,[]⟩ (.lst (S.length+1))
  simpa using q
 have b2':cbody S.length ttrue (b1 Qo (ac (vr 0) an)) [some (.tup B)] (S++[⟨false,[.lst (S.length+1)]⟩,⟨false,A⟩])=.nx [some (.tup B)] (S++[⟨false,[.lst (S.length+1),.lst (S.length+2)]⟩,⟨false,A⟩,⟨false,B⟩]):=by
  have:=Gbq (a:=S.length) (ev B (S++[⟨false,[.lst (S.length+1)]⟩,⟨false,A⟩])) (xs:=[.lst (S.length+1)]) (by rw[List.append_assoc]; exact w0 _) (by simp)
  rw[this,List.append_assoc]
  refine congrArg (OS.nx _) ?_
  have q:=st [⟨false,A⟩,⟨false,B⟩] ⟨false,[.lst (S.length+1)]⟩ (.lst (S.length+2))
  simpa using q
 have b3':cbody S.length ttrue (b1 Qo (ac (vr 0) an)) [some (.tup C)] (S++[⟨false,[.lst (S.length+1),.lst (S.length+2)]⟩,⟨false,A⟩,⟨false,B⟩])=.nx [some (.tup C)] (S++[⟨false,[.lst (S.length+1),.lst (S.length+2),.lst (S.length+3)]⟩,⟨false,A⟩,⟨false,B⟩,⟨false,C⟩]):=by
  have:=Gbq (a:=S.length) (ev C (S++[⟨false,[.lst (S.length+1),.lst (S.length+2)]⟩,⟨false,A⟩,⟨false,B⟩])) (xs:=[.lst (S.length+1),.lst (S.length+2)]) (by rw[List.append_assoc]; exact w0 _) (by simp)
  rw[this,List.append_assoc]
  refine congrArg (OS.nx _) ?_
  have q:=st [⟨false,A⟩,⟨false,B⟩,⟨false,C⟩] ⟨false,[.lst (S.length+1),.lst (S.length+2)]⟩ (.lst (S.length+3))
  simpa using q
 have lp:Ua (Gii [.tup A,.tup B,.tup C]).nxt (gn 0) (cbody S.length ttrue (b1 Qo (ac (vr 0) an))) (Gii [.tup A,.tup B,.tup C]).fuel 0 [none] (S++[⟨false,[]⟩])=.nx [some (.tup C)] (S++[⟨false,[.lst (S.length+1),.lst (S.length+2),.lst (S.length+3)]⟩,⟨false,A⟩,⟨false,B⟩,⟨false,C⟩]):=by
  show Ua _ _ _ (3+1) 0 _ _=_
  rw[Wa (d:=.tup A) rfl rfl b1',Wa (d:=.tup B) rfl rfl b2',Wa (d:=.tup C) rfl rfl b3',Gfh rfl]
 refine⟨_,Gik (s:=Gii [.tup A,.tup B,.tup C]) (S1:=S) (by rw[Gar,hf]; rfl) lp,⟨w0 _,w _ 1,w _ 2,w _ 3⟩,⟨by simp,fun i hi=>by rw[List.getElem?_append_left hi]⟩⟩
theorem Rw.ex{x y z:Nat}{A B C:List D}(h:Rw S q x y z A B C)(e:Ex S S'):Rw S' q x y z A B C:=⟨e.at h.q0,e.at h.q1,e.at h.q2,e.at h.q3⟩
theorem Gba:("NoGate":Str)∈ys/\("Dry":Str)∈ys/\("Full":Str)∈ys/\("NoSpring":Str)∈ys:=by decide +kernel
def adw(p:Pl)(L:List Int)(i:Nat)(l d:Int):List Int:=if p.isE=true then L else L.set i (l+d)
section
variable{ps:List Pl}{us:List Bool}{L R F:List Int}{S:Sto}
theorem Ggo{f:Ev (List D)}{a b:D}(h:f ρ S=.ok [a,b] S'):spar i j f ρ S=.nx ((ρ.set i (some a)).set j (some b)) S':=by
 unfold spar
 rw[h]
 rfl
theorem Gq5(hu:us[k]?=some u)(h1:ps[hiI u k]?=some pH)(h2:ps[loI u k]?=some pL)(h3:L[hiI u k]?=some lH)(h4:L[loI u k]?=some lL)(ok1:pH.ok)(ok2:pL.ok):
  Ww [cD ps us,stD L R F,.int k] S=if(!pH.isE&&decide (lH=0))=true then .exc ⟨"Dry",none⟩ S else if(!pL.isE&&decide (wat pL<=lL))=true then .exc ⟨"Full",none⟩ S else .ok .non S:=by
 have hk:k<us.length:=(List.getElem?_eq_some_iff.mp hu).1
 have cg:=Gjr (ps:=ps) (us:=us) (n:=(k:Int)) (S:=S)
 rw[if_pos ⟨by omega,by omega⟩] at cg
 have cg:=Gak cg
 have hi:=Gcc (ps:=ps) (S:=S) hu
 have lo:=Gd7 (ps:=ps) (S:=S) hu
 have dry:=Gkw (l:=lH) (S:=S) ok1
 have ful:=Gd8 (l:=lL) (S:=S) ok2
 refine(Gy (m:=7) (b:=Kb)).trans ?_
 show fin (Kb [some (cD ps us),some (stD L R F),some (.int k),none,none,none,none] S)=_
 unfold Kb
 refine(Gh (ρ':=[some (cD ps us),some (stD L R F),some (.int k),none,none,none,none]) (S':=S) (by simp[cg])).trans ?_
 refine(Gh (ρ':=[some (cD ps us),some (stD L R F),some (.int k),some (.tup (ps.map Pl.toD)),some (.tup (L.map D.int)),none,none]) (S':=S) (Ggo (by simp[cd0,st0]))).trans ?_
 refine(Gh (ρ':=[some (cD ps us),some (stD L R F),some (.int k),some (.tup (ps.map Pl.toD)),some (.tup (L.map D.int)),some (.int (hiI u k)),none]) (S':=S) (by simp[hi])).trans ?_
 refine(Gh (ρ':=[some (cD ps us),some (stD L R F),some (.int k),some (.tup (ps.map Pl.toD)),some (.tup (L.map D.int)),some (.int (hiI u k)),some (.int (loI u k))]) (S':=S) (by simp[lo])).trans ?_
 have g1:=Wr (S:=S) h1
 have g2:=Wr (S:=S) h2
 have g3:=Vz (S:=S) h3
 have g4:=Vz (S:=S) h4
 have t1:tt (cl 2 (Gm Gbh) (ac (o2 DL.getD (vr 3) (vr 5)) (ac (o2 DL.getD (vr 4) (vr 5)) an))) [some (cD ps us),some (stD L R F),some (.int k),some (.tup (ps.map Pl.toD)),some (.tup (L.map D.int)),some (.int (hiI u k)),some (.int (loI u k))] S=.ok (!pH.isE&&decide (lH=0)) S:=by
  simp[g1,g3,dry,Uc]
 have t2:tt (cl 2 (Gm Qy) (ac (o2 DL.getD (vr 3) (vr 6)) (ac (o2 DL.getD (vr 4) (vr 6)) an))) [some (cD ps us),some (stD L R F),some (.int k),some (.tup (ps.map Pl.toD)),some (.tup (L.map D.int)),some (.int (hiI u k)),some (.int (loI u k))] S=.ok (!pL.isE&&decide (wat pL<=lL)) S:=by
  simp[g2,g4,ful,Uc]
 by_cases c1:(!pH.isE&&decide (lH=0))=true
 ·rw[if_pos c1]
  rw[c1] at t1
  refine Jn (ρ':=[some (cD ps us),some (stD L R F),some (.int k),some (.tup (ps.map Pl.toD)),some (.tup (L.map D.int)),some (.int (hiI u k)),some (.int (loI u k))]) ?_
  rw[Jb t1]
  simp[srs]
 ·rw[if_neg c1]
  rw[Bool.eq_false_iff.mpr c1] at t1
  refine(Gh (ρ':=[some (cD ps us),some (stD L R F),some (.int k),some (.tup (ps.map Pl.toD)),some (.tup (L.map D.int)),some (.int (hiI u k)),some (.int (loI u k))]) (S':=S) (by rw[Hv t1]; rfl)).trans ?_
  by_cases c2:(!pL.isE&&decide (wat pL<=lL))=true
  ·rw[if_pos c2]
   rw[c2] at t2
   rw[Jb t2]
   simp[srs,fin]
  ·rw[if_neg c2]
   rw[Bool.eq_false_iff.mpr c2] at t2
   rw[Hv t2]
   rfl
theorem Gsj{l d:Int}(hp:ps[i]?=some p)(hl:L[i]?=some l)(ok:p.ok)(hL:L.length<=1000):Vv [cD ps us,.tup (L.map D.int),.int i,.int d] S=.ok (.tup ((adw p L i l d).map D.int)) S:=by
 have e:=Ggl (S:=S) ok
 have mo:=Gc5 (S:=S) (m:=d) hl hL
 have g:=Wr (S:=S) hp
 refine(Gy (m:=4) (b:=Qf)).trans ?_
 show fin (Qf [some (cD ps us),some (.tup (L.map D.int)),some (.int i),some (.int d)] S)=_
 unfold adw
 cases z:p.isE
 ·rw[z] at e
  simp[Qf,cd0,g,c_END,e,mo,-List.map_set]
 ·rw[z] at e
  simp[Qf,cd0,g,c_END,e]
theorem Gq6{l d:Int}:(adw p L i l d).length=L.length:=by unfold adw; split<;>simp
theorem Gnn{l d:Int}(h:i≠j):(adw p L i l d)[j]?=L[j]?:=by
 unfold adw
 split
 ·rfl
 ·exact List.getElem?_set_ne h
theorem Gsk:hiI u k≠loI u k:=by cases u<;>simp[hiI,loI]
theorem Gzp(hu:us[k]?=some u)(h1:ps[hiI u k]?=some pH)(h2:ps[loI u k]?=some pL)(h3:L[hiI u k]?=some lH)(h4:L[loI u k]?=some lL)(ok1:pH.ok)(ok2:pL.ok)(hL:L.length<=1000):
  Ga8 [cD ps us,stD L R F,.int k] S=.ok (stD (adw pL (adw pH L (hiI u k) lH (-1)) (loI u k) lL 1) R F) S:=by
 have hi:=Gcc (ps:=ps) (S:=S) hu
 have lo:=Gd7 (ps:=ps) (S:=S) hu
 have w1:=Gsj (us:=us) (d := -1) (S:=S) h1 h3 ok1 hL
 have w2:=Gsj (us:=us) (L:=adw pH L (hiI u k) lH (-1)) (d:=1) (S:=S) h2 ((Gnn Gsk).trans h4) ok2 (by rw[Gq6]; exact hL)
 refine(Gy (m:=6) (b:=Wn)).trans ?_
 show fin (Wn [some (cD ps us),some (stD L R F),some (.int k),none,none,none] S)=_
 unfold Wn
 refine(Gh (ρ':=[some (cD ps us),some (stD L R F),some (.int k),some (.tup (L.map D.int)),some (.tup (R.map D.int)),some (.tup (F.map D.int))]) (S':=S) rfl).trans ?_
 refine(Gh (ρ':=[some (cD ps us),some (stD L R F),some (.int k),some (.tup ((adw pH L (hiI u k) lH (-1)).map D.int)),some (.tup (R.map D.int)),some (.tup (F.map D.int))]) (S':=S) (by simp[hi,w1])).trans ?_
 refine(Gh (ρ':=[some (cD ps us),some (stD L R F),some (.int k),some (.tup ((adw pL (adw pH L (hiI u k) lH (-1)) (loI u k) lL 1).map D.int)),some (.tup (R.map D.int)),some (.tup (F.map D.int))]) (S':=S) (by simp[lo,w2])).trans ?_
 simp[stD]
theorem Gno:eqD (.str "let") (.str "let") S=.ok (.bl true) S:=by rw[Kl (stok _) (stok _)]; rfl
theorem Gzq:eqD (.str "feed") (.str "let") S=.ok (.bl false) S:=by rw[Kl (stok _) (stok _)]; rfl
theorem Gho:eqD (.str "feed") (.str "feed") S=.ok (.bl true) S:=by rw[Kl (stok _) (stok _)]; rfl
theorem Gzr:eqD (.str "let") (.str "feed") S=.ok (.bl false) S:=by rw[Kl (stok _) (stok _)]; rfl
def Gky(u:Bool)(k:Nat)(pH pL:Pl)(lH lL:Int)(L R F:List Int):Res:=
 if(!pH.isE&&decide (lH=0))=true then .no "Dry" else if(!pL.isE&&decide (wat pL<=lL))=true then .no "Full" else .yes (.tup [stD (adw pL (adw pH L (hiI u k) lH (-1)) (loI u k) lL 1) R F,.int 0,.int 0])
theorem dd_let(hu:us[k]?=some u)(h1:ps[hiI u k]?=some pH)(h2:ps[loI u k]?=some pL)(h3:L[hiI u k]?=some lH)(h4:L[loI u k]?=some lL)(ok1:pH.ok)(ok2:pL.ok)(hL:L.length<=1000):
  Ht [cD ps us,stD L R F,.tup [.str "let",.int k]] S=(Gky u k pH pL lH lL L R F).out S:=by
 have cl':=Gq5 (R:=R) (F:=F) (S:=S) hu h1 h2 h3 h4 ok1 ok2
 have ld:=Gzp (R:=R) (F:=F) (S:=S) hu h1 h2 h3 h4 ok1 ok2 hL
 refine(Gy (m:=8) (b:=He)).trans ?_
 show fin (He [some (cD ps us),some (stD L R F),some (.tup [.str "let",.int k]),none,none,none,none,none] S)=_
 unfold He
 refine(Gh (ρ':=[some (cD ps us),some (stD L R F),some (.tup [.str "let",.int k]),some (.str "let"),some (.int k),none,none,none]) (S':=S) rfl).trans ?_
 unfold Gky
 by_cases c1:(!pH.isE&&decide (lH=0))=true
 ·rw[if_pos c1] at cl' ⊢
  have gx:=Qn cl' Gba.2.1
  exact Jn (ρ':=[some (cD ps us),some (stD L R F),some (.tup [.str "let",.int k]),some (.str "let"),some (.int k),none,none,none]) (by simp[Gno,gx])
 ·rw[if_neg c1] at cl' ⊢
  by_cases c2:(!pL.isE&&decide (wat pL<=lL))=true
  ·rw[if_pos c2] at cl' ⊢
   have gx:=Qn cl' Gba.2.2.1
   exact Jn (ρ':=[some (cD ps us),some (stD L R F),some (.tup [.str "let",.int k]),some (.str "let"),some (.int k),none,none,none]) (by simp[Gno,gx])
  ·rw[if_neg c2] at cl' ⊢
   have gx:=Gak cl'
   exact Jf (by simp[Gno,gx,ld])
theorem dd_nogate{n:Int}(h:¬ (0<=n/\n<us.length)):Ht [cD ps us,stD L R F,.tup [.str "let",.int n]] S=.exc ⟨"NoGate",none⟩ S:=by
 have cg:=Gjr (ps:=ps) (us:=us) (n:=n) (S:=S)
 rw[if_neg h] at cg
 have cg:=Qn cg Gba.1
 have cl':Ww [cD ps us,stD L R F,.int n] S=.exc ⟨"NoGate",none⟩ S:=by
  refine(Gy (m:=7) (b:=Kb)).trans ?_
  show fin (Kb [some (cD ps us),some (stD L R F),some (.int n),none,none,none,none] S)=_
  unfold Kb
  exact Jn (ρ':=[some (cD ps us),some (stD L R F),some (.int n),none,none,none,none]) (by simp[cg])
 have gx:=Qn cl' Gba.1
 refine(Gy (m:=8) (b:=He)).trans ?_
 show fin (He [some (cD ps us),some (stD L R F),some (.tup [.str "let",.int n]),none,none,none,none,none] S)=_
 unfold He
 refine(Gh (ρ':=[some (cD ps us),some (stD L R F),some (.tup [.str "let",.int n]),some (.str "let"),some (.int n),none,none,none]) (S':=S) rfl).trans ?_
 exact Jn (ρ':=[some (cD ps us),some (stD L R F),some (.tup [.str "let",.int n]),some (.str "let"),some (.int n),none,none,none]) (by simp[Gno,gx])
def Yf(k:Nat)(p:Pl)(l:Int)(L R F:List Int):Res:=match p with
 | .p br _ _ (.int i)=>if br<=l then .no "Full" else .yes (.tup [stD (L.set k (l+1)) R F,.int i,.int 0])
 | _=>.no "NoSpring"
theorem Gsl{br de ro:Int}{pr:D}:DL.getD (Pl.toD (.p br de ro pr)) (.int 4) S=.ok pr S:=Jd (Hj (by decide) rfl)
theorem Gnp{n:Int}(h:¬ (0<=n/\n<ps.length)):Uh [cD ps us,stD L R F,.int n] S=.exc ⟨"NoSpring",none⟩ S:=by
 refine(Gy (m:=5) (b:=Ju)).trans ?_
 show fin (Ju [some (cD ps us),some (stD L R F),some (.int n),none,none] S)=_
 unfold Ju
 refine(Gh (ρ':=[some (cD ps us),some (stD L R F),some (.int n),some (.tup (ps.map Pl.toD)),some (.tup (L.map D.int))]) (S':=S) (Ggo (by simp[cd0,st0]))).trans ?_
 refine Jn (ρ':=[some (cD ps us),some (stD L R F),some (.int n),some (.tup (ps.map Pl.toD)),some (.tup (L.map D.int))]) ?_
 by_cases h1:0<=n
 ·have h2:¬ n<ps.length:=fun z=>h ⟨h1,z⟩
  simp[h1,h2,srs]
 ·simp[h1,srs]
theorem Gnq{l:Int}(hp:ps[k]?=some p)(hl:L[k]?=some l)(ok:p.ok):Uh [cD ps us,stD L R F,.int k] S=match Yf k p l L R F with
  | .no y=>.exc ⟨y,none⟩ S
  | .yes _=>.ok .non S:=by
 have hk:k<ps.length:=(List.getElem?_eq_some_iff.mp hp).1
 have sp:=Gkx (S:=S) ok
 have fu:=Gd8 (l:=l) (S:=S) ok
 have g1:=Wr (S:=S) hp
 have g2:=Vz (S:=S) hl
 refine(Gy (m:=5) (b:=Ju)).trans ?_
 show fin (Ju [some (cD ps us),some (stD L R F),some (.int k),none,none] S)=_
 unfold Ju
 refine(Gh (ρ':=[some (cD ps us),some (stD L R F),some (.int k),some (.tup (ps.map Pl.toD)),some (.tup (L.map D.int))]) (S':=S) (Ggo (by simp[cd0,st0]))).trans ?_
 have hk':(k:Int)<ps.length:=by omega
 have t1:(to (tn (tb (ch leD ltD (cn (.int 0)) (vr 2) (b1 Jl (ac (vr 3) an))))) (tn (tt (cl 1 (Gm Ue) (ac (o2 DL.getD (vr 3) (vr 2)) an))))) [some (cD ps us),some (stD L R F),some (.int k),some (.tup (ps.map Pl.toD)),some (.tup (L.map D.int))] S=.ok (!spr p) S:=by
  simp[hk',g1,sp,Uc]
 have t2:tt (cl 2 (Gm Qy) (ac (o2 DL.getD (vr 3) (vr 2)) (ac (o2 DL.getD (vr 4) (vr 2)) an))) [some (cD ps us),some (stD L R F),some (.int k),some (.tup (ps.map Pl.toD)),some (.tup (L.map D.int))] S=.ok (!p.isE&&decide (wat p<=l)) S:=by
  simp[g1,g2,fu,Uc]
 have no:spr p=false->fin (sq (sif (to (tn (tb (ch leD ltD (cn (.int 0)) (vr 2) (b1 Jl (ac (vr 3) an))))) (tn (tt (cl 1 (Gm Ue) (ac (o2 DL.getD (vr 3) (vr 2)) an))))) (srs "NoSpring" (ac (cn (.str "there is no spring at this place")) an)) DL.skip) (sif (tt (cl 2 (Gm Qy) (ac (o2 DL.getD (vr 3) (vr 2)) (ac (o2 DL.getD (vr 4) (vr 2)) an)))) (srs "Full" (ac (cn (.str "the pound is at its brim")) an)) DL.skip) [some (cD ps us),some (stD L R F),some (.int k),some (.tup (ps.map Pl.toD)),some (.tup (L.map D.int))] S)=.exc ⟨"NoSpring",none⟩ S:=fun z=>by
  rw[z] at t1
  exact Jn (ρ':=[some (cD ps us),some (stD L R F),some (.int k),some (.tup (ps.map Pl.toD)),some (.tup (L.map D.int))]) (by rw[Jb t1]; simp[srs])
 cases p with
 | e=>exact no rfl
 | c=>exact no rfl
 | p br de ro pr=>
  obtain⟨_,_,_,_,_,_,hpr⟩:=id ok
  rcases hpr with rfl | ⟨i,rfl,_⟩
  ·exact no rfl
  ·refine(Gh (ρ':=[some (cD ps us),some (stD L R F),some (.int k),some (.tup (ps.map Pl.toD)),some (.tup (L.map D.int))]) (S':=S) (by rw[Hv t1]; rfl)).trans ?_
   have t2:tt (cl 2 (Gm Qy) (ac (o2 DL.getD (vr 3) (vr 2)) (ac (o2 DL.getD (vr 4) (vr 2)) an))) [some (cD ps us),some (stD L R F),some (.int k),some (.tup (ps.map Pl.toD)),some (.tup (L.map D.int))] S=.ok (decide (br<=l)) S:=t2
   show _=(match (if br<=l then Res.no "Full" else Res.yes (.tup [stD (L.set k (l+1)) R F,.int i,.int 0])) with | .no y=>Out.exc ⟨y,none⟩ S | .yes _=>.ok D.non S)
   by_cases c:br<=l
   ·rw[if_pos c]
    rw[decide_eq_true c] at t2
    rw[Jb t2]
    simp[srs,fin]
   ·rw[if_neg c]
    rw[decide_eq_false c] at t2
    rw[Hv t2]
    rfl
theorem dd_feed{l:Int}(hp:ps[k]?=some p)(hl:L[k]?=some l)(ok:p.ok)(hL:L.length<=1000):Ht [cD ps us,stD L R F,.tup [.str "feed",.int k]] S=(Yf k p l L R F).out S:=by
 have cf:=Gnq (us:=us) (R:=R) (F:=F) (S:=S) hp hl ok
 refine(Gy (m:=8) (b:=He)).trans ?_
 show fin (He [some (cD ps us),some (stD L R F),some (.tup [.str "feed",.int k]),none,none,none,none,none] S)=_
 unfold He
 refine(Gh (ρ':=[some (cD ps us),some (stD L R F),some (.tup [.str "feed",.int k]),some (.str "feed"),some (.int k),none,none,none]) (S':=S) rfl).trans ?_
 refine(Gh (ρ':=[some (cD ps us),some (stD L R F),some (.tup [.str "feed",.int k]),some (.str "feed"),some (.int k),none,none,none]) (S':=S) (by simp[Gzq])).trans ?_
 have no:∀ y,y∈ys->Yf k p l L R F=.no y->fin (sq (sif (tb (o2 eqD (vr 3) (cn (.str "feed")))) (sq (sx (cl 3 (gX ys Uh) (ac (vr 0) (ac (vr 1) (ac (vr 4) an))))) (sq (sa (vr 1) (gt (gcons (gn 5) (gcons (gn 6) (gcons (gn 7) gnil))) 3)) (sret (tp (ac (tp (ac (cl 3 (Gm Ko) (ac (vr 5) (ac (vr 4) (ac (cn (.int 1)) an)))) (ac (vr 6) (ac (vr 7) an)))) (ac (o2 DL.getD (o2 DL.getD (o2 DL.getD (vr 0) (cn (.int 0))) (vr 4)) (cn (.int 4))) (ac (cn (.int 0)) an))))))) DL.skip) (sq (sx (cl 3 (gX ys Ug) (ac (vr 0) (ac (vr 1) (ac (vr 2) an))))) (sret (tp (ac (cl 2 (Gm Gc0) (ac (vr 1) (ac (vr 2) an))) (ac (cn (.int 0)) (ac (ie (tt (cl 2 (Gm Ui) (ac (vr 0) (ac (vr 2) an)))) (cn (.int 1)) (cn (.int 0))) an)))))) [some (cD ps us),some (stD L R F),some (.tup [.str "feed",.int k]),some (.str "feed"),some (.int k),none,none,none] S)=(Res.no y).out S:=fun y hy z=>by
  rw[z] at cf
  have gx:=Qn cf hy
  exact Jn (ρ':=[some (cD ps us),some (stD L R F),some (.tup [.str "feed",.int k]),some (.str "feed"),some (.int k),none,none,none]) (by simp[Gho,gx])
 cases z:Yf k p l L R F with
 | no y=>
  refine no y ?_ z
  unfold Yf at z
  split at z
  ·split at z
   ·cases z; exact Gba.2.2.1
   ·cases z
  ·cases z; exact Gba.2.2.2
 | yes d=>
  rw[z] at cf
  have gx:=Gak cf
  unfold Yf at z
  split at z
  ·rename_i br de ro i
   split at z
   ·cases z
   ·cases z
    have g:=Wr (S:=S) hp
    have mo:=Gc5 (S:=S) (m:=1) hl hL
    have pp:=Gsl (br:=br) (de:=de) (ro:=ro) (pr:=.int i) (S:=S)
    refine Jf ?_
    rw[Jb (S1:=S) (by simp[Gho]),Je (ρ':=[some (cD ps us),some (stD L R F),some (.tup [.str "feed",.int k]),some (.str "feed"),some (.int k),none,none,none]) (S1:=S) (by simp[gx]),Je (f:=sa (vr 1) (gt (gcons (gn 5) (gcons (gn 6) (gcons (gn 7) gnil))) 3)) (ρ':=[some (cD ps us),some (stD L R F),some (.tup [.str "feed",.int k]),some (.str "feed"),some (.int k),some (.tup (L.map D.int)),some (.tup (R.map D.int)),some (.tup (F.map D.int))]) (S1:=S) rfl]
    simp[mo,cd0,g,pp,stD,-List.map_set]
  ·cases z
theorem dd_nospring{n:Int}(h:¬ (0<=n/\n<ps.length)):Ht [cD ps us,stD L R F,.tup [.str "feed",.int n]] S=.exc ⟨"NoSpring",none⟩ S:=by
 have gx:=Qn (Gnp (us:=us) (L:=L) (R:=R) (F:=F) (S:=S) h) Gba.2.2.2
 refine(Gy (m:=8) (b:=He)).trans ?_
 show fin (He [some (cD ps us),some (stD L R F),some (.tup [.str "feed",.int n]),none,none,none,none,none] S)=_
 unfold He
 refine(Gh (ρ':=[some (cD ps us),some (stD L R F),some (.tup [.str "feed",.int n]),some (.str "feed"),some (.int n),none,none,none]) (S':=S) rfl).trans ?_
 refine(Gh (ρ':=[some (cD ps us),some (stD L R F),some (.tup [.str "feed",.int n]),some (.str "feed"),some (.int n),none,none,none]) (S':=S) (by simp[Gzq])).trans ?_
 exact Jn (ρ':=[some (cD ps us),some (stD L R F),some (.tup [.str "feed",.int n]),some (.str "feed"),some (.int n),none,none,none]) (by simp[Gho,gx])
end
theorem Ge0:("NoGate":Str)∈ys/\("NoBarge":Str)∈ys/\("NoRoom":Str)∈ys/\("Uneven":Str)∈ys/\("Shallow":Str)∈ys:=by decide +kernel
def stI(b:Bool)(k:Nat):Nat:=if b=true then k else k+1
def glI(b:Bool)(k:Nat):Nat:=if b=true then k+1 else k
abbrev dM(b:Bool)(n:Int):D:=.tup [wd b,.int n]
def shal:Pl->Int->Bool
 | .p _ de _ _,l=>decide (l<de)
 | _,_=>false
section
variable{ps:List Pl}{us:List Bool}{L R F:List Int}{S:Sto}{b:Bool}
theorem Gnr:eqD (wd b) (.str "let") S=.ok (.bl false) S:=by
 cases b
 ·show eqD (.str "left") (.str "let") S=_
  rw[Kl (stok _) (stok _)]; rfl
 ·show eqD (.str "right") (.str "let") S=_
  rw[Kl (stok _) (stok _)]; rfl
theorem Ggp:eqD (wd b) (.str "feed") S=.ok (.bl false) S:=by
 cases b
 ·show eqD (.str "left") (.str "feed") S=_
  rw[Kl (stok _) (stok _)]; rfl
 ·show eqD (.str "right") (.str "feed") S=_
  rw[Kl (stok _) (stok _)]; rfl
theorem Gwu:eqD (wd b) (.str "left") S=.ok (.bl (!b)) S:=by
 cases b
 ·show eqD (.str "left") (.str "left") S=_
  rw[Kl (stok _) (stok _)]; rfl
 ·show eqD (.str "right") (.str "left") S=_
  rw[Kl (stok _) (stok _)]; rfl
theorem Ghp{n:Int}:Vb [dM b n] S=.ok (.int (if b=true then n else n+1)) S:=by
 refine(Gy (m:=3) (b:=Qs)).trans ?_
 show fin (Qs [some (dM b n),none,none] S)=_
 unfold Qs
 refine(Gh (ρ':=[some (dM b n),some (wd b),some (.int n)]) (S':=S) rfl).trans ?_
 have w:=Gas (b:=b) (S:=S)
 cases b<;>simp[w]
theorem Gcd{n:Int}:Kr [dM b n] S=.ok (.int (if b=true then n+1 else n)) S:=by
 refine(Gy (m:=3) (b:=Kq)).trans ?_
 show fin (Kq [some (dM b n),none,none] S)=_
 unfold Kq
 refine(Gh (ρ':=[some (dM b n),some (wd b),some (.int n)]) (S':=S) rfl).trans ?_
 have w:=Gas (b:=b) (S:=S)
 cases b<;>simp[w]
theorem Gzs:(if b=true then(k:Int) else(k:Int)+1)=((stI b k:Nat):Int):=by cases b<;>simp[stI]
theorem Gwv:(if b=true then(k:Int)+1 else(k:Int))=((glI b k:Nat):Int):=by cases b<;>simp[glI]
theorem Gns:stI b k≠glI b k:=by cases b<;>simp[stI,glI]
theorem Gjs{l:Int}:Qe [p.toD,.int l] S=.ok (.bl (shal p l)) S:=by
 refine(Gy (m:=2) (b:=Kf)).trans ?_
 show fin (Kf [some p.toD,some (.int l)] S)=_
 cases p with
 | e=>
  have g:DL.getD (Pl.toD .e) (.int 0) S=.ok (.str "end") S:=Jd (Hj (by decide) rfl)
  simp[Kf,g,s2,shal]
 | c=>
  have g:DL.getD (Pl.toD .c) (.int 0) S=.ok (.str "chamber") S:=Jd (Hj (by decide) rfl)
  simp[Kf,g,s4,shal]
 | p br de ro pr=>
  have g:DL.getD (Pl.toD (.p br de ro pr)) (.int 0) S=.ok (.str "pound") S:=Jd (Hj (by decide) rfl)
  have g2:DL.getD (Pl.toD (.p br de ro pr)) (.int 2) S=.ok (.int de) S:=Jd (Hj (by decide) rfl)
  simp[Kf,g,g2,s6,shal]
theorem Gq7(hu:us[k]?=some u)(h1:ps[hiI u k]?=some pH)(h2:ps[loI u k]?=some pL)(h3:L[hiI u k]?=some lH)(h4:L[loI u k]?=some lL)(ok1:pH.ok)(ok2:pL.ok):
  Xt [cD ps us,.tup (L.map D.int),.int k] S=if(pH.isC&&decide (lH=1))=true then .exc ⟨"Uneven",none⟩ S else if(pL.isC&&decide (lL=0))=true then .exc ⟨"Uneven",none⟩ S else if(shal pH lH||shal pL lL)=true then .exc ⟨"Shallow",none⟩ S else .ok .non S:=by
 have hi:=Gcc (ps:=ps) (S:=S) hu
 have lo:=Gd7 (ps:=ps) (S:=S) hu
 have g1:=Wr (S:=S) h1
 have g2:=Wr (S:=S) h2
 have g3:=Vz (S:=S) h3
 have g4:=Vz (S:=S) h4
 have c1:=Gbp (S:=S) ok1
 have c2:=Gbp (S:=S) ok2
 have sh1:=Gjs (p:=pH) (l:=lH) (S:=S)
 have sh2:=Gjs (p:=pL) (l:=lL) (S:=S)
 refine(Gy (m:=6) (b:=Qr)).trans ?_
 show fin (Qr [some (cD ps us),some (.tup (L.map D.int)),some (.int k),none,none,none] S)=_
 unfold Qr
 refine(Gh (ρ':=[some (cD ps us),some (.tup (L.map D.int)),some (.int k),some (.tup (ps.map Pl.toD)),none,none]) (S':=S) (by simp[cd0])).trans ?_
 refine(Gh (ρ':=[some (cD ps us),some (.tup (L.map D.int)),some (.int k),some (.tup (ps.map Pl.toD)),some (.int (hiI u k)),none]) (S':=S) (by simp[hi])).trans ?_
 refine(Gh (ρ':=[some (cD ps us),some (.tup (L.map D.int)),some (.int k),some (.tup (ps.map Pl.toD)),some (.int (hiI u k)),some (.int (loI u k))]) (S':=S) (by simp[lo])).trans ?_
 generalize hρ:[some (cD ps us),some (D.tup (L.map D.int)),some (.int k),some (.tup (ps.map Pl.toD)),some (.int (hiI u k)),some (.int (loI u k))]=ρ
 have v1:vr 1 ρ S=.ok (.tup (L.map D.int)) S:=by rw[<- hρ]; rfl
 have v3:vr 3 ρ S=.ok (.tup (ps.map Pl.toD)) S:=by rw[<- hρ]; rfl
 have v4:vr 4 ρ S=.ok (.int (hiI u k)) S:=by rw[<- hρ]; rfl
 have v5:vr 5 ρ S=.ok (.int (loI u k)) S:=by rw[<- hρ]; rfl
 have t1:ta (tb (o2 eqD (o2 DL.getD (vr 3) (vr 4)) (cn c_CHAMBER))) (tb (o2 eqD (o2 DL.getD (vr 1) (vr 4)) (cn (.int 1)))) ρ S=.ok (pH.isC&&decide (lH=1)) S:=by
  simp only[Gm8,Gck,Vn,v3,v4,v1,Gx,g1,g3,Wq,c_CHAMBER,c1,Gna]
  cases pH.isC<;>simp
 have t2:ta (tb (o2 eqD (o2 DL.getD (vr 3) (vr 5)) (cn c_CHAMBER))) (tb (o2 eqD (o2 DL.getD (vr 1) (vr 5)) (cn (.int 0)))) ρ S=.ok (pL.isC&&decide (lL=0)) S:=by
  simp only[Gm8,Gck,Vn,v3,v5,v1,Gx,g2,g4,Wq,c_CHAMBER,c2,Gna]
  cases pL.isC<;>simp
 have t3:to (tt (cl 2 (Gm Qe) (ac (o2 DL.getD (vr 3) (vr 4)) (ac (o2 DL.getD (vr 1) (vr 4)) an)))) (tt (cl 2 (Gm Qe) (ac (o2 DL.getD (vr 3) (vr 5)) (ac (o2 DL.getD (vr 1) (vr 5)) an)))) ρ S=.ok (shal pH lH||shal pL lL) S:=by
  simp only[Gzi,Gsh,Gjg,Ur,Yd,Vn,v3,v4,v5,v1,Gx,g1,g2,g3,g4,List.length_cons,List.length_nil,if_true,Gbo,sh1,sh2,Uc]
  cases shal pH lH<;>simp[sh2,Uc]
 by_cases e1:(pH.isC&&decide (lH=1))=true
 ·rw[if_pos e1]
  rw[e1] at t1
  exact Jn (by rw[Jb t1]; simp[srs]; rfl)
 ·rw[if_neg e1]
  rw[Bool.eq_false_iff.mpr e1] at t1
  refine(Gh (ρ':=ρ) (S':=S) (by rw[Hv t1]; rfl)).trans ?_
  by_cases e2:(pL.isC&&decide (lL=0))=true
  ·rw[if_pos e2]
   rw[e2] at t2
   exact Jn (by rw[Jb t2]; simp[srs]; rfl)
  ·rw[if_neg e2]
   rw[Bool.eq_false_iff.mpr e2] at t2
   refine(Gh (ρ':=ρ) (S':=S) (by rw[Hv t2]; rfl)).trans ?_
   by_cases e3:(shal pH lH||shal pL lL)=true
   ·rw[if_pos e3]
    rw[e3] at t3
    rw[Jb t3]
    simp[srs,fin]
   ·rw[if_neg e3]
    rw[Bool.eq_false_iff.mpr e3] at t3
    rw[Hv t3]
    rfl
structure Mv(ps:List Pl)(us:List Bool)(L R F:List Int)(b:Bool)(k:Nat)(u:Bool)(pH pL pG:Pl)(lH lL a g r1 f1:Int):Prop where
 hu:us[k]?=some u
 h1:ps[hiI u k]?=some pH
 h2:ps[loI u k]?=some pL
 h3:L[hiI u k]?=some lH
 h4:L[loI u k]?=some lL
 ok1:pH.ok
 ok2:pL.ok
 hG:ps[glI b k]?=some pG
 okG:pG.ok
 ha:(sel b R F)[stI b k]?=some a
 hg:(sel b R F)[glI b k]?=some g
 hr:R[glI b k]?=some r1
 hf:F[glI b k]?=some f1
 hn:us.length+1=ps.length
 lM:(sel b R F).length<=1000
def Qi(b:Bool)(R F:List Int)(k:Nat)(a g:Int):List Int:=((sel b R F).set (stI b k) (a + -1)).set (glI b k) (g+1)
def Gq8(b:Bool)(L R F:List Int)(k:Nat)(a g:Int):D:=stD L (if b=true then Qi b R F k a g else R) (if b=true then F else Qi b R F k a g)
def Ghq(pH pL pG:Pl)(lH lL a r1 f1:Int):Option Str:=
 if a=0 then some "NoBarge" else if(hol pG (r1+f1+1))=false then some "NoRoom" else if(pH.isC&&decide (lH=1))=true then some "Uneven" else if(pL.isC&&decide (lL=0))=true then some "Uneven" else if(shal pH lH||shal pL lL)=true then some "Shallow" else none
def Gd9(m:Nat)(b:Bool)(k:Nat)(pH pL pG:Pl)(lH lL a g r1 f1:Int)(L R F:List Int):Res:=match Ghq pH pL pG lH lL a r1 f1 with
 | some y=>.no y
 | none=>.yes (.tup [Gq8 b L R F k a g,.int 0,.int (if(glI b k:Int)=(if b=true then(m:Int)-1 else 0) then 1 else 0)])
variable{k:Nat}{u:Bool}{pH pL pG:Pl}{lH lL a g r1 f1:Int}
theorem Gjt(h:Ghq pH pL pG lH lL a r1 f1=some y):y∈ys:=by
 unfold Ghq at h
 split at h
 ·cases h; exact Ge0.2.1
 ·split at h
  ·cases h; exact Ge0.2.2.1
  ·split at h
   ·cases h; exact Ge0.2.2.2.1
   ·split at h
    ·cases h; exact Ge0.2.2.2.1
    ·split at h
     ·cases h; exact Ge0.2.2.2.2
     ·cases h
theorem Gnt(v:Mv ps us L R F b k u pH pL pG lH lL a g r1 f1):Ug [cD ps us,stD L R F,dM b k] S=match Ghq pH pL pG lH lL a r1 f1 with
  | some y=>.exc ⟨y,none⟩ S
  | none=>.ok .non S:=by
 have hk:k<us.length:=(List.getElem?_eq_some_iff.mp v.hu).1
 have cg:=Gjr (ps:=ps) (us:=us) (n:=(k:Int)) (S:=S)
 rw[if_pos ⟨by omega,by omega⟩] at cg
 have cg:=Gak cg
 have bo:=Gnl (b:=b) (L:=L) (R:=R) (F:=F) (S:=S)
 have ah:=Ghp (b:=b) (n:=(k:Int)) (S:=S)
 rw[Gzs] at ah
 have be:=Gcd (b:=b) (n:=(k:Int)) (S:=S)
 rw[Gwv] at be
 have ga:=Vz (S:=S) v.ha
 have gG:=Wr (S:=S) v.hG
 have gr:=Vz (S:=S) v.hr
 have gf:=Vz (S:=S) v.hf
 have ho:=Gnk (b:=r1+f1+1) (S:=S) v.okG
 have cw:=Gq7 (S:=S) v.hu v.h1 v.h2 v.h3 v.h4 v.ok1 v.ok2
 refine(Gy (m:=6) (b:=Jt)).trans ?_
 show fin (Jt [some (cD ps us),some (stD L R F),some (dM b k),none,none,none] S)=_
 unfold Jt
 refine(Gh (ρ':=[some (cD ps us),some (stD L R F),some (dM b k),some (wd b),some (.int k),none]) (S':=S) rfl).trans ?_
 refine(Gh (ρ':=[some (cD ps us),some (stD L R F),some (dM b k),some (wd b),some (.int k),none]) (S':=S) (by simp[cg])).trans ?_
 unfold Ghq
 by_cases e1:a=0
 ·rw[if_pos e1]
  subst e1
  exact Jn (ρ':=[some (cD ps us),some (stD L R F),some (dM b k),some (wd b),some (.int k),none]) (by simp[bo,ah,ga,srs])
 ·rw[if_neg e1]
  refine(Gh (ρ':=[some (cD ps us),some (stD L R F),some (dM b k),some (wd b),some (.int k),none]) (S':=S) (by simp[bo,ah,ga,e1])).trans ?_
  refine(Gh (ρ':=[some (cD ps us),some (stD L R F),some (dM b k),some (wd b),some (.int k),some (.int (glI b k))]) (S':=S) (by simp[be])).trans ?_
  by_cases e2:hol pG (r1+f1+1)=false
  ·rw[if_pos e2]
   rw[e2] at ho
   exact Jn (ρ':=[some (cD ps us),some (stD L R F),some (dM b k),some (wd b),some (.int k),some (.int (glI b k))]) (by simp[cd0,gG,st1,st2,gr,gf,ho,Uc,srs])
  ·rw[if_neg e2]
   have e2:hol pG (r1+f1+1)=true:=by simpa using e2
   rw[e2] at ho
   refine(Gh (ρ':=[some (cD ps us),some (stD L R F),some (dM b k),some (wd b),some (.int k),some (.int (glI b k))]) (S':=S) (by simp[cd0,gG,st1,st2,gr,gf,ho,Uc])).trans ?_
   by_cases e3:(pH.isC&&decide (lH=1))=true
   ·rw[if_pos e3] at cw ⊢
    have gx:=Qn cw Ge0.2.2.2.1
    simp[st0,gx,fin]
   ·rw[if_neg e3] at cw ⊢
    by_cases e4:(pL.isC&&decide (lL=0))=true
    ·rw[if_pos e4] at cw ⊢
     have gx:=Qn cw Ge0.2.2.2.1
     simp[st0,gx,fin]
    ·rw[if_neg e4] at cw ⊢
     by_cases e5:(shal pH lH||shal pL lL)=true
     ·rw[if_pos e5] at cw ⊢
      have gx:=Qn cw Ge0.2.2.2.2
      simp[st0,gx,fin]
     ·rw[if_neg e5] at cw ⊢
      have gx:=Gak cw
      simp[st0,gx,fin]
theorem Gnu(v:Mv ps us L R F b k u pH pL pG lH lL a g r1 f1):Gc0 [stD L R F,dM b k] S=.ok (Gq8 b L R F k a g) S:=by
 have bo:=Gnl (b:=b) (L:=L) (R:=R) (F:=F) (S:=S)
 have ah:=Ghp (b:=b) (n:=(k:Int)) (S:=S)
 rw[Gzs] at ah
 have be:=Gcd (b:=b) (n:=(k:Int)) (S:=S)
 rw[Gwv] at be
 have m1:=Gc5 (S:=S) (m := -1) v.ha v.lM
 have hg':((sel b R F).set (stI b k) (a + -1))[glI b k]?=some g:=(List.getElem?_set_ne Gns).trans v.hg
 have m2:=Gc5 (S:=S) (m:=1) hg' (by rw[List.length_set]; exact v.lM)
 have wb:Xs [stD L R F,wd b,.tup ((Qi b R F k a g).map D.int)] S=.ok (Gq8 b L R F k a g) S:=by
  refine(Gy (m:=6) (b:=Qq)).trans ?_
  show fin (Qq [some (stD L R F),some (wd b),some (.tup ((Qi b R F k a g).map D.int)),none,none,none] S)=_
  have w:=Gas (S:=S) (b:=b)
  unfold Qq
  refine(Gh (ρ':=[some (stD L R F),some (wd b),some (.tup ((Qi b R F k a g).map D.int)),some (.tup (L.map D.int)),some (.tup (R.map D.int)),some (.tup (F.map D.int))]) (S':=S) rfl).trans ?_
  cases b<;>simp[w,Gq8,stD]
 have d0:DL.getD (dM b k) (.int 0) S=.ok (wd b) S:=Jd (Hj (by decide) rfl)
 refine(Gy (m:=4) (b:=Gbl)).trans ?_
 show fin (Gbl [some (stD L R F),some (dM b k),none,none] S)=_
 unfold Gbl
 refine(Gh (ρ':=[some (stD L R F),some (dM b k),some (wd b),none]) (S':=S) (by simp[d0])).trans ?_
 refine(Gh (ρ':=[some (stD L R F),some (dM b k),some (wd b),some (.tup (((sel b R F).set (stI b k) (a + -1)).map D.int))]) (S':=S) (by simp[bo,ah,m1,-List.map_set])).trans ?_
 unfold Qi at wb
 simp[m2,be,wb,-List.map_set]
theorem Gq9:Ui [cD ps us,dM b k] S=.ok (.bl (decide ((glI b k:Int)=(if b=true then(ps.length:Int)-1 else 0)))) S:=by
 have be:=Gcd (b:=b) (n:=(k:Int)) (S:=S)
 rw[Gwv] at be
 have d0:DL.getD (dM b k) (.int 0) S=.ok (wd b) S:=Jd (Hj (by decide) rfl)
 have w:=Gas (S:=S) (b:=b)
 refine(Gy (m:=2) (b:=Ks)).trans ?_
 show fin (Ks [some (cD ps us),some (dM b k)] S)=_
 cases b<;>simp[Ks,be,d0,w,cd0]
theorem dd_move(v:Mv ps us L R F b k u pH pL pG lH lL a g r1 f1):Ht [cD ps us,stD L R F,dM b k] S=(Gd9 ps.length b k pH pL pG lH lL a g r1 f1 L R F).out S:=by
 have cm:=Gnt (S:=S) v
 have mo:=Gnu (S:=S) v
 have la:=Gq9 (ps:=ps) (us:=us) (b:=b) (k:=k) (S:=S)
 have wl:=Gnr (b:=b) (S:=S)
 have wf:=Ggp (b:=b) (S:=S)
 refine(Gy (m:=8) (b:=He)).trans ?_
 show fin (He [some (cD ps us),some (stD L R F),some (dM b k),none,none,none,none,none] S)=_
 unfold He
 refine(Gh (ρ':=[some (cD ps us),some (stD L R F),some (dM b k),some (wd b),some (.int k),none,none,none]) (S':=S) rfl).trans ?_
 refine(Gh (ρ':=[some (cD ps us),some (stD L R F),some (dM b k),some (wd b),some (.int k),none,none,none]) (S':=S) (by simp[wl])).trans ?_
 refine(Gh (ρ':=[some (cD ps us),some (stD L R F),some (dM b k),some (wd b),some (.int k),none,none,none]) (S':=S) (by simp[wf])).trans ?_
 unfold Gd9
 cases z:Ghq pH pL pG lH lL a r1 f1 with
 | some y=>
  rw[z] at cm
  have gx:=Qn cm (Gjt z)
  exact Jn (ρ':=[some (cD ps us),some (stD L R F),some (dM b k),some (wd b),some (.int k),none,none,none]) (by simp[gx])
 | none=>
  rw[z] at cm
  have gx:=Gak cm
  refine(Gh (ρ':=[some (cD ps us),some (stD L R F),some (dM b k),some (wd b),some (.int k),none,none,none]) (S':=S) (by simp[gx])).trans ?_
  by_cases c:(glI b k:Int)=(if b=true then(ps.length:Int)-1 else 0)
  ·rw[decide_eq_true c] at la
   rw[if_pos c]
   simp[mo,la,Uc]
   rfl
  ·rw[decide_eq_false c] at la
   rw[if_neg c]
   simp[mo,la,Uc]
   rfl
theorem dd_mnogate{n:Int}(h:¬ (0<=n/\n<us.length)):Ht [cD ps us,stD L R F,dM b n] S=.exc ⟨"NoGate",none⟩ S:=by
 have cg:=Gjr (ps:=ps) (us:=us) (n:=n) (S:=S)
 rw[if_neg h] at cg
 have cg:=Qn cg Ge0.1
 have wl:=Gnr (b:=b) (S:=S)
 have wf:=Ggp (b:=b) (S:=S)
 have cm:Ug [cD ps us,stD L R F,dM b n] S=.exc ⟨"NoGate",none⟩ S:=by
  refine(Gy (m:=6) (b:=Jt)).trans ?_
  show fin (Jt [some (cD ps us),some (stD L R F),some (dM b n),none,none,none] S)=_
  unfold Jt
  refine(Gh (ρ':=[some (cD ps us),some (stD L R F),some (dM b n),some (wd b),some (.int n),none]) (S':=S) rfl).trans ?_
  exact Jn (ρ':=[some (cD ps us),some (stD L R F),some (dM b n),some (wd b),some (.int n),none]) (by simp[cg])
 have gx:=Qn cm Ge0.1
 refine(Gy (m:=8) (b:=He)).trans ?_
 show fin (He [some (cD ps us),some (stD L R F),some (dM b n),none,none,none,none,none] S)=_
 unfold He
 refine(Gh (ρ':=[some (cD ps us),some (stD L R F),some (dM b n),some (wd b),some (.int n),none,none,none]) (S':=S) rfl).trans ?_
 refine(Gh (ρ':=[some (cD ps us),some (stD L R F),some (dM b n),some (wd b),some (.int n),none,none,none]) (S':=S) (by simp[wl])).trans ?_
 refine(Gh (ρ':=[some (cD ps us),some (stD L R F),some (dM b n),some (wd b),some (.int n),none,none,none]) (S':=S) (by simp[wf])).trans ?_
 exact Jn (ρ':=[some (cD ps us),some (stD L R F),some (dM b n),some (wd b),some (.int n),none,none,none]) (by simp[gx])
end
def pn:Pl->Str
 | .e=>"end"
 | .c=>"chamber"
 | .p _ _ _ _=>"pound"
def isP:Pl->Bool
 | .p _ _ _ _=>true
 | _=>false
section
variable{ps:List Pl}{us:List Bool}{L R F:List Int}{S:Sto}
theorem pl0:DL.getD p.toD (.int 0) S=.ok (.str (pn p)) S:=by cases p<;>exact Jd (Hj (by decide) rfl)
theorem Ghr:neD (.str (pn p)) (.str "pound") S=.ok (.bl (!isP p)) S:=by
 cases p
 ·exact Uq s2
 ·exact Uq s4
 ·exact Uq s6
theorem Gju:neD (.str (pn p)) (.str "end") S=.ok (.bl (!p.isE)) S:=by
 cases p
 ·exact Uq s7
 ·exact Uq s8
 ·exact Uq s9
abbrev dL(w:Str)(n:Int):D:=.tup [.str w,.int n]
abbrev rd(ps:List Pl)(us:List Bool)(L R F:List Int)(w:Str)(n:Int)(q:Nat)(x8 x9:Option D):Lc:=[some (cD ps us),some (stD L R F),some (dL w n),some (.tup (ps.map Pl.toD)),some (.tup (us.map gd)),some (.str w),some (.int n),some (.lst q),x8,x9]
theorem Wt{l:Int}(h:S[q]?=some ⟨false,M.map D.int⟩)(hl:M[i]?=some l):DL.getD (.lst q) (.int i) S=.ok (.int l) S:=Qh h (Hj (by omega) (by rw[Int.toNat_natCast,List.getElem?_map,hl]; rfl))
theorem Gbt{l:Int}(h:S[q]?=some ⟨false,M.map D.int⟩)(hl:M[i]?=some l):Ub (.lst q) (.int i) (.int v) S=some (S.set q ⟨false,(M.set i v).map D.int⟩):=by
 have hi:i<M.length:=(List.getElem?_eq_some_iff.mp hl).1
 rw[Gji h (by omega) (by simp; omega),Int.toNat_natCast,List.map_set]
theorem Ghs{n:Int}(h:¬ (0<=n/\n<ps.length)):∃ S',Hr [cD ps us,stD L R F,dL "feed" n] S=.ok (Xw "NoSpring") S'/\Ex S S':=by
 refine⟨S++[⟨false,L.map D.int⟩],?_,Ex.app⟩
 refine(Gy (m:=10) (b:=Hk)).trans ?_
 show fin (Hk [some (cD ps us),some (stD L R F),some (dL "feed" n),none,none,none,none,none,none,none] S)=_
 unfold Hk
 refine(Gh (ρ':=[some (cD ps us),some (stD L R F),some (dL "feed" n),some (.tup (ps.map Pl.toD)),some (.tup (us.map gd)),none,none,none,none,none]) (S':=S) rfl).trans ?_
 refine(Gh (ρ':=[some (cD ps us),some (stD L R F),some (dL "feed" n),some (.tup (ps.map Pl.toD)),some (.tup (us.map gd)),some (.str "feed"),some (.int n),none,none,none]) (S':=S) rfl).trans ?_
 refine(Gh (ρ':=rd ps us L R F "feed" n S.length none none) (S':=S++[⟨false,L.map D.int⟩]) (by simp[st0,Ggm])).trans ?_
 refine Jf ?_
 rw[Jb (S1:=S++[⟨false,L.map D.int⟩]) (by simp[Gho])]
 refine Gbr ?_
 rw[Jb (S1:=S++[⟨false,L.map D.int⟩])]
 ·rfl
 ·by_cases h1:n<0
  ·simp[h1]
  ·have h2:(ps.length:Int)<=n:=by
    by_cases c:(ps.length:Int)<=n
    ·exact c
    ·exact absurd ⟨by omega,by omega⟩ h
   simp[h1,h2]
theorem Gnv{l:Int}(hp:ps[k]?=some p)(hl:L[k]?=some l)(ok:p.ok)(hw:l<=wat p):∃ S',Hr [cD ps us,stD L R F,dL "feed" k] S=.ok (Yf k p l L R F).toD S'/\Ex S S':=by
 have hk:k<ps.length:=(List.getElem?_eq_some_iff.mp hp).1
 have q0:(S++[(⟨false,L.map D.int⟩:Cell)])[S.length]?=some ⟨false,L.map D.int⟩:=Hg
 have x1:Ex S (S++[⟨false,L.map D.int⟩]):=Ex.app
 have key:∃ S',fin (sq (sif (tb (o2 eqD (vr 5) (cn (.str "feed")))) (sq (sif (to (tb (o2 ltD (vr 6) (cn (.int 0)))) (to (tb (o2 geD (vr 6) (b1 Jl (ac (vr 3) an)))) (tb (o2 neD (o2 DL.getD (o2 DL.getD (vr 3) (vr 6)) (cn (.int 0))) (cn (.str "pound")))))) (sret (cn (.str "nospring"))) DL.skip) (sq (sif (tb (o2 Gg3 (o2 DL.getD (o2 DL.getD (vr 3) (vr 6)) (cn (.int 4))) (cn .non))) (sret (cn (.str "nospring"))) DL.skip) (sq (sif (tb (o2 eqD (o2 DL.getD (vr 7) (vr 6)) (o2 DL.getD (o2 DL.getD (vr 3) (vr 6)) (cn (.int 1))))) (sret (cn (.str "full"))) DL.skip) (sq (ss (o2 Gw (o2 DL.getD (vr 7) (vr 6)) (cn (.int 1))) (vr 7) (vr 6) Ub) (sret (tp (ac (tp (ac (b1 Xd (ac (vr 7) an)) (ac (o2 DL.getD (vr 1) (cn (.int 1))) (ac (o2 DL.getD (vr 1) (cn (.int 2))) an)))) (ac (o2 DL.getD (o2 DL.getD (vr 3) (vr 6)) (cn (.int 4))) (ac (cn (.int 0)) an))))))))) DL.skip) (fun _ _=>.bad) (rd ps us L R F "feed" k S.length none none) (S++[⟨false,L.map D.int⟩]))=.ok (Yf k p l L R F).toD S'/\Ex S S':=by
  have g1:=fun S=>Wr (ps:=ps) (S:=S) hp
  have h0:¬ ((k:Int)<0):=by omega
  have h1:¬ ((ps.length:Int)<=k):=by omega
  cases hP:isP p with
  | false=>
   refine⟨_,?_,x1⟩
   have e:(Yf k p l L R F).toD=.str "nospring":=by cases p with | p _ _ _ _=>cases hP | _=>rfl
   rw[e]
   have n:=fun S=>Ghr (p:=p) (S:=S)
   rw[hP] at n
   refine Jf ?_
   rw[Jb (S1:=S++[⟨false,L.map D.int⟩]) (by simp[Gho])]
   refine Gbr ?_
   rw[Jb (S1:=S++[⟨false,L.map D.int⟩])]
   ·rfl
   ·simp[h0,h1,g1,pl0,n]
  | true=>
   cases p with
   | e=>cases hP
   | c=>cases hP
   | p br de ro pr=>
    have n:=fun S=>Ghr (p:=.p br de ro pr) (S:=S)
    have p4:=fun S=>Gsl (br:=br) (de:=de) (ro:=ro) (pr:=pr) (S:=S)
    have p1:∀ S,DL.getD (Pl.toD (.p br de ro pr)) (.int 1) S=.ok (.int br) S:=fun S=>Jd (Hj (by decide) rfl)
    have b1':∀ X,(sq (sif (to (tb (o2 ltD (vr 6) (cn (.int 0)))) (to (tb (o2 geD (vr 6) (b1 Jl (ac (vr 3) an)))) (tb (o2 neD (o2 DL.getD (o2 DL.getD (vr 3) (vr 6)) (cn (.int 0))) (cn (.str "pound")))))) (sret (cn (.str "nospring"))) DL.skip) X) (rd ps us L R F "feed" k S.length none none) (S++[⟨false,L.map D.int⟩])=X (rd ps us L R F "feed" k S.length none none) (S++[⟨false,L.map D.int⟩]):=fun X=>by
     refine Je ?_
     rw[Hv (S1:=S++[⟨false,L.map D.int⟩])]
     ·rfl
     ·simp[h0,h1,g1,pl0,n,isP]
    obtain⟨_,_,_,_,_,_,hpr⟩:=id ok
    have hw:l<=br:=hw
    rcases hpr with rfl | ⟨i,rfl,_⟩
    ·refine⟨_,?_,x1⟩
     refine Jf ?_
     rw[Jb (S1:=S++[⟨false,L.map D.int⟩]) (by simp[Gho]),b1']
     refine Gbr ?_
     rw[Jb (S1:=S++[⟨false,L.map D.int⟩])]
     ·rfl
     ·simp[g1,p4,Gg3]
    ·have b2':∀ X,(sq (sif (tb (o2 Gg3 (o2 DL.getD (o2 DL.getD (vr 3) (vr 6)) (cn (.int 4))) (cn .non))) (sret (cn (.str "nospring"))) DL.skip) X) (rd ps us L R F "feed" k S.length none none) (S++[⟨false,L.map D.int⟩])=X (rd ps us L R F "feed" k S.length none none) (S++[⟨false,L.map D.int⟩]):=fun X=>by
      refine Je ?_
      rw[Hv (S1:=S++[⟨false,L.map D.int⟩])]
      ·rfl
      ·simp[g1,p4,Gg3]
     have gl:=Wt q0 hl
     have t3:tb (o2 eqD (o2 DL.getD (vr 7) (vr 6)) (o2 DL.getD (o2 DL.getD (vr 3) (vr 6)) (cn (.int 1)))) (rd ps us L R F "feed" k S.length none none) (S++[⟨false,L.map D.int⟩])=.ok (decide (l=br)) (S++[⟨false,L.map D.int⟩]):=by
      simp[gl,g1,p1]
     by_cases c:l=br
     ·refine⟨_,?_,x1⟩
      rw[show Yf k (.p br de ro (.int i)) l L R F=.no "Full" from if_pos (by omega)]
      refine Jf ?_
      rw[Jb (S1:=S++[⟨false,L.map D.int⟩]) (by simp[Gho]),b1',b2']
      refine Gbr ?_
      rw[decide_eq_true c] at t3
      rw[Jb t3]
      rfl
     ·have x2:Ex S ((S++[(⟨false,L.map D.int⟩:Cell)]).set S.length ⟨false,(L.set k (l+1)).map D.int⟩):=x1.setq (Nat.le_refl _)
      refine⟨_,?_,x2⟩
      rw[show Yf k (.p br de ro (.int i)) l L R F=.yes (.tup [stD (L.set k (l+1)) R F,.int i,.int 0]) from if_neg (by omega)]
      refine Jf ?_
      rw[Jb (S1:=S++[⟨false,L.map D.int⟩]) (by simp[Gho]),b1',b2']
      rw[decide_eq_false c] at t3
      rw[Je (ρ':=rd ps us L R F "feed" k S.length none none) (S1:=S++[⟨false,L.map D.int⟩]) (by rw[Hv t3]; rfl)]
      have st:=Gbt (v:=l+1) q0 hl
      have q2:((S++[(⟨false,L.map D.int⟩:Cell)]).set S.length ⟨false,(L.set k (l+1)).map D.int⟩)[S.length]?=some ⟨false,(L.set k (l+1)).map D.int⟩:=List.getElem?_set_self (by simp)
      rw[Je (f:=ss (o2 Gw (o2 DL.getD (vr 7) (vr 6)) (cn (.int 1))) (vr 7) (vr 6) Ub) (ρ':=rd ps us L R F "feed" k S.length none none) (S1:=(S++[(⟨false,L.map D.int⟩:Cell)]).set S.length ⟨false,(L.set k (l+1)).map D.int⟩) (by simp[gl,st,-List.map_set])]
      have tu:=Gaz q2
      generalize (S++[(⟨false,L.map D.int⟩:Cell)]).set S.length ⟨false,(L.set k (l+1)).map D.int⟩=S2 at tu ⊢
      simp[tu,st1,st2,g1,p4,-List.map_set]
      rfl
 obtain⟨S',e,x⟩:=key
 refine⟨S',?_,x⟩
 refine(Gy (m:=10) (b:=Hk)).trans ?_
 show fin (Hk [some (cD ps us),some (stD L R F),some (dL "feed" k),none,none,none,none,none,none,none] S)=_
 unfold Hk
 refine(Gh (ρ':=[some (cD ps us),some (stD L R F),some (dL "feed" k),some (.tup (ps.map Pl.toD)),some (.tup (us.map gd)),none,none,none,none,none]) (S':=S) rfl).trans ?_
 refine(Gh (ρ':=[some (cD ps us),some (stD L R F),some (dL "feed" k),some (.tup (ps.map Pl.toD)),some (.tup (us.map gd)),some (.str "feed"),some (.int k),none,none,none]) (S':=S) rfl).trans ?_
 refine(Gh (ρ':=rd ps us L R F "feed" k S.length none none) (S':=S++[⟨false,L.map D.int⟩]) (by simp[st0,Ggm])).trans ?_
 rw[Ye] at e ⊢
 split at e<;>first | exact e | (cases e)
end
section
variable{ps:List Pl}{us:List Bool}{L R F:List Int}{S:Sto}
theorem Hbc:neD (.str "let") (.str "let") S=.ok (.bl false) S:=Uq Gno
theorem Gc6{w:Str}{n:Int}:fin ((sq (sa (vr 0) (gt (gcons (gn 3) (gcons (gn 4) gnil)) 2)) (sq (sa (vr 2) (gt (gcons (gn 5) (gcons (gn 6) gnil)) 2)) (sq (sa (b1 Qo (ac (o2 DL.getD (vr 1) (cn (.int 0))) an)) (gn 7)) X))) [some (cD ps us),some (stD L R F),some (dL w n),none,none,none,none,none,none,none] S)=fin (X (rd ps us L R F w n S.length none none) (S++[⟨false,L.map D.int⟩])):=by
 refine(Gh (ρ':=[some (cD ps us),some (stD L R F),some (dL w n),some (.tup (ps.map Pl.toD)),some (.tup (us.map gd)),none,none,none,none,none]) (S':=S) rfl).trans ?_
 refine(Gh (ρ':=[some (cD ps us),some (stD L R F),some (dL w n),some (.tup (ps.map Pl.toD)),some (.tup (us.map gd)),some (.str w),some (.int n),none,none,none]) (S':=S) rfl).trans ?_
 have e:sa (b1 Qo (ac (o2 DL.getD (vr 1) (cn (.int 0))) an)) (gn 7) [some (cD ps us),some (stD L R F),some (dL w n),some (.tup (ps.map Pl.toD)),some (.tup (us.map gd)),some (.str w),some (.int n),none,none,none] S=.nx (rd ps us L R F w n S.length none none) (S++[⟨false,L.map D.int⟩]):=by simp[st0,Ggm]
 exact Gh e
theorem Gip{n:Int}(h:¬ (0<=n/\n<us.length)):∃ S',Hr [cD ps us,stD L R F,dL "let" n] S=.ok (Xw "NoGate") S'/\Ex S S':=by
 refine⟨S++[⟨false,L.map D.int⟩],?_,Ex.app⟩
 refine(Gy (m:=10) (b:=Hk)).trans ?_
 show fin (Hk [some (cD ps us),some (stD L R F),some (dL "let" n),none,none,none,none,none,none,none] S)=_
 unfold Hk
 refine Gc6.trans ?_
 refine(Gh (ρ':=rd ps us L R F "let" n S.length none none) (S':=S++[⟨false,L.map D.int⟩]) (by rw[Hv (S1:=S++[⟨false,L.map D.int⟩]) (by simp[Gzr])]; rfl)).trans ?_
 refine Jf ?_
 rw[Jb (S1:=S++[⟨false,L.map D.int⟩])]
 ·rfl
 ·by_cases h1:n<0
  ·simp[h1]
  ·have h2:(us.length:Int)<=n:=by
    by_cases c:(us.length:Int)<=n
    ·exact c
    ·exact absurd ⟨by omega,by omega⟩ h
   simp[h1,h2]
theorem Gzt{l:Int}{w:Str}{n:Int}(hq:S[q]?=some ⟨false,M.map D.int⟩)(hp:ps[i]?=some p)(hl:M[i]?=some l):
  sif (tb (o2 neD (o2 DL.getD (o2 DL.getD (vr 3) (vr 8)) (cn (.int 0))) (cn (.str "end")))) (sq (sif (tb (o2 eqD (o2 DL.getD (vr 7) (vr 8)) (cn (.int 0)))) (sret (cn (.str "dry"))) DL.skip) (ss (o2 Xc (o2 DL.getD (vr 7) (vr 8)) (cn (.int 1))) (vr 7) (vr 8) Ub)) DL.skip (rd ps us L R F w n q (some (.int i)) x9) S
   = if(!p.isE&&decide (l=0))=true then .rt (.str "dry") S else .nx (rd ps us L R F w n q (some (.int i)) x9) (if p.isE=true then S else S.set q ⟨false,(M.set i (l + -1)).map D.int⟩):=by
 have g1:=Wr (ps:=ps) (S:=S) hp
 have ne:=Gju (p:=p) (S:=S)
 have gl:=Wt hq hl
 have st:=Gbt (v:=l + -1) hq hl
 cases hE:p.isE
 ·rw[hE] at ne
  rw[Jb (S1:=S) (by simp[g1,pl0,ne])]
  by_cases c:l=0
  ·subst c
   rw[if_pos (by simp)]
   refine Gbr ?_
   rw[Jb (S1:=S) (by simp[gl])]
   rfl
  ·rw[if_neg (by simp[c])]
   rw[Je (ρ':=rd ps us L R F w n q (some (.int i)) x9) (S1:=S) (by rw[Hv (S1:=S) (by simp[gl,c])]; rfl)]
   rw[<- Int.sub_eq_add_neg] at st ⊢
   simp[gl,st,-List.map_set]
 ·rw[hE] at ne
  rw[Hv (S1:=S) (by simp[g1,pl0,ne]),if_neg (by simp)]
  rfl
theorem Hbd(hE:p.isE=false):∃ d,Gw p.toD (.tup [.int 1]) S=.ok d S/\DL.getD d (.int 1) S=.ok (.int (wat p)) S:=by
 cases p with
 | e=>cases hE
 | c=>exact⟨_,Zc (by simp),Jd (Hj (by decide) rfl)⟩
 | p br de ro pr=>exact⟨_,Zc (by simp),Jd (Hj (by decide) rfl)⟩
theorem Gra{l:Int}{w:Str}{n:Int}(hq:S[q]?=some ⟨false,M.map D.int⟩)(hp:ps[i]?=some p)(hl:M[i]?=some l)(hw:l<=wat p):
  sif (tb (o2 neD (o2 DL.getD (o2 DL.getD (vr 3) (vr 9)) (cn (.int 0))) (cn (.str "end")))) (sq (sif (tb (o2 eqD (o2 DL.getD (vr 7) (vr 9)) (o2 DL.getD (o2 Gw (o2 DL.getD (vr 3) (vr 9)) (tp (ac (cn (.int 1)) an))) (cn (.int 1))))) (sret (cn (.str "full"))) DL.skip) (ss (o2 Gw (o2 DL.getD (vr 7) (vr 9)) (cn (.int 1))) (vr 7) (vr 9) Ub)) DL.skip (rd ps us L R F w n q x8 (some (.int i))) S
   = if(!p.isE&&decide (wat p<=l))=true then .rt (.str "full") S else .nx (rd ps us L R F w n q x8 (some (.int i))) (if p.isE=true then S else S.set q ⟨false,(M.set i (l+1)).map D.int⟩):=by
 have g1:=Wr (ps:=ps) (S:=S) hp
 have ne:=Gju (p:=p) (S:=S)
 have gl:=Wt hq hl
 have st:=Gbt (v:=l+1) hq hl
 cases hE:p.isE
 ·rw[hE] at ne
  obtain⟨d,a1,a2⟩:=Hbd (S:=S) hE
  have tst:tb (o2 eqD (o2 DL.getD (vr 7) (vr 9)) (o2 DL.getD (o2 Gw (o2 DL.getD (vr 3) (vr 9)) (tp (ac (cn (.int 1)) an))) (cn (.int 1)))) (rd ps us L R F w n q x8 (some (.int i))) S=.ok (decide (l=wat p)) S:=by
   simp[gl,g1,a1,a2]
  rw[Jb (S1:=S) (by simp[g1,pl0,ne])]
  by_cases c:l=wat p
  ·rw[if_pos (by simp; omega)]
   refine Gbr ?_
   rw[decide_eq_true c] at tst
   rw[Jb tst]
   rfl
  ·rw[if_neg (by simp; omega)]
   rw[decide_eq_false c] at tst
   rw[Je (ρ':=rd ps us L R F w n q x8 (some (.int i))) (S1:=S) (by rw[Hv tst]; rfl)]
   simp[gl,st,-List.map_set]
 ·rw[hE] at ne
  rw[Hv (S1:=S) (by simp[g1,pl0,ne]),if_neg (by simp)]
  rfl
theorem Grb(hu:us[k]?=some u)(h1:ps[hiI u k]?=some pH)(h2:ps[loI u k]?=some pL)(h3:L[hiI u k]?=some lH)(h4:L[loI u k]?=some lL)(hw:lL<=wat pL)(hk:k<=1000):
  ∃ S',Hr [cD ps us,stD L R F,dL "let" k] S=.ok (Gky u k pH pL lH lL L R F).toD S'/\Ex S S':=by
 have hk':k<us.length:=(List.getElem?_eq_some_iff.mp hu).1
 have x1:Ex S (S++[⟨false,L.map D.int⟩]):=Ex.app
 have q0:(S++[(⟨false,L.map D.int⟩:Cell)])[S.length]?=some ⟨false,L.map D.int⟩:=Hg
 have hlen:S.length<(S++[(⟨false,L.map D.int⟩:Cell)]).length:=by simp
 generalize hS1:S++[(⟨false,L.map D.int⟩:Cell)]=S1 at x1 q0 hlen
 have mu:Kj (.int 2) (.int (k:Int)) S1=.ok (.int (2*(k:Int))) S1:=Gfe (by decide) (by decide)
 have gg:=Gjp (us:=us) (S:=S1) hu
 have gu:=Gjq (u:=u) (S:=S1)
 have pre:Hr [cD ps us,stD L R F,dL "let" k] S=fin (sq (sif (tb (o2 neD (o2 DL.getD (o2 DL.getD (vr 3) (vr 8)) (cn (.int 0))) (cn (.str "end")))) (sq (sif (tb (o2 eqD (o2 DL.getD (vr 7) (vr 8)) (cn (.int 0)))) (sret (cn (.str "dry"))) DL.skip) (ss (o2 Xc (o2 DL.getD (vr 7) (vr 8)) (cn (.int 1))) (vr 7) (vr 8) Ub)) DL.skip) (sq (sif (tb (o2 neD (o2 DL.getD (o2 DL.getD (vr 3) (vr 9)) (cn (.int 0))) (cn (.str "end")))) (sq (sif (tb (o2 eqD (o2 DL.getD (vr 7) (vr 9)) (o2 DL.getD (o2 Gw (o2 DL.getD (vr 3) (vr 9)) (tp (ac (cn (.int 1)) an))) (cn (.int 1))))) (sret (cn (.str "full"))) DL.skip) (ss (o2 Gw (o2 DL.getD (vr 7) (vr 9)) (cn (.int 1))) (vr 7) (vr 9) Ub)) DL.skip) (sret (tp (ac (tp (ac (b1 Xd (ac (vr 7) an)) (ac (o2 DL.getD (vr 1) (cn (.int 1))) (ac (o2 DL.getD (vr 1) (cn (.int 2))) an)))) (ac (cn (.int 0)) (ac (cn (.int 0)) an)))))) (rd ps us L R F "let" k S.length (some (.int (hiI u k))) (some (.int (loI u k)))) S1):=by
  refine(Gy (m:=10) (b:=Hk)).trans ?_
  show fin (Hk [some (cD ps us),some (stD L R F),some (dL "let" k),none,none,none,none,none,none,none] S)=_
  unfold Hk
  refine Gc6.trans ?_
  rw[hS1]
  refine(Gh (ρ':=rd ps us L R F "let" k S.length none none) (S':=S1) (by rw[Hv (S1:=S1) (by simp[Gzr])]; rfl)).trans ?_
  refine(Gh (ρ':=rd ps us L R F "let" k S.length none none) (S':=S1) ?_).trans ?_
  ·rw[Hv (S1:=S1)]
   ·rfl
   ·have a1:¬ ((k:Int)<0):=by omega
    have a2:¬ ((us.length:Int)<=k):=by omega
    simp[a1,a2]
  refine(Gh (ρ':=rd ps us L R F "let" k S.length (some (.int (hiI u k))) none) (S':=S1) ?_).trans ?_
  ·have e:(k:Int)+(if u=true then 1 else 0)=((hiI u k:Nat):Int):=by cases u<;>simp[hiI]
   simp[gg,gu,Gfg,e]
  refine(Gh (ρ':=rd ps us L R F "let" k S.length (some (.int (hiI u k))) (some (.int (loI u k)))) (S':=S1) ?_).trans ?_
  ·have e:2*(k:Int)+1-((hiI u k:Nat):Int)=((loI u k:Nat):Int):=by cases u<;>simp[hiI,loI]<;>omega
   simp[mu,e]
  exact Gh (ρ':=rd ps us L R F "let" k S.length (some (.int (hiI u k))) (some (.int (loI u k)))) (S':=S1) (by rw[Hv (S1:=S1) (by simp[Hbc])]; rfl)
 have a:=Gzt (us:=us) (L:=L) (R:=R) (F:=F) (x9:=some (.int (loI u k))) (w:="let") (n:=k) q0 h1 h3
 unfold Gky
 by_cases c1:(!pH.isE&&decide (lH=0))=true
 ·rw[if_pos c1] at a ⊢
  exact⟨S1,by rw[pre]; exact Jf a,x1⟩
 ·rw[if_neg c1] at a ⊢
  have q2:(if pH.isE=true then S1 else S1.set S.length ⟨false,(L.set (hiI u k) (lH + -1)).map D.int⟩)[S.length]?=some ⟨false,(adw pH L (hiI u k) lH (-1)).map D.int⟩:=by
   unfold adw
   split
   ·exact q0
   ·exact List.getElem?_set_self hlen
  have x2:Ex S (if pH.isE=true then S1 else S1.set S.length ⟨false,(L.set (hiI u k) (lH + -1)).map D.int⟩):=by
   split
   ·exact x1
   ·exact x1.setq (Nat.le_refl _)
  generalize (if pH.isE=true then S1 else S1.set S.length ⟨false,(L.set (hiI u k) (lH + -1)).map D.int⟩)=S2 at a q2 x2
  have hlen2:S.length<S2.length:=(List.getElem?_eq_some_iff.mp q2).1
  have b:=Gra (us:=us) (L:=L) (R:=R) (F:=F) (x8:=some (.int (hiI u k))) (w:="let") (n:=k) q2 h2 ((Gnn Gsk).trans h4) hw
  by_cases c2:(!pL.isE&&decide (wat pL<=lL))=true
  ·rw[if_pos c2] at b ⊢
   exact⟨S2,by rw[pre]; exact(Gh a).trans (Jf b),x2⟩
  ·rw[if_neg c2] at b ⊢
   have q3:(if pL.isE=true then S2 else S2.set S.length ⟨false,((adw pH L (hiI u k) lH (-1)).set (loI u k) (lL+1)).map D.int⟩)[S.length]?=some ⟨false,(adw pL (adw pH L (hiI u k) lH (-1)) (loI u k) lL 1).map D.int⟩:=by
    rw[show adw pL (adw pH L (hiI u k) lH (-1)) (loI u k) lL 1=if pL.isE=true then adw pH L (hiI u k) lH (-1) else(adw pH L (hiI u k) lH (-1)).set (loI u k) (lL+1) from rfl]
    split
    ·exact q2
    ·exact List.getElem?_set_self hlen2
   have x3:Ex S (if pL.isE=true then S2 else S2.set S.length ⟨false,((adw pH L (hiI u k) lH (-1)).set (loI u k) (lL+1)).map D.int⟩):=by
    split
    ·exact x2
    ·exact x2.setq (Nat.le_refl _)
   generalize (if pL.isE=true then S2 else S2.set S.length ⟨false,((adw pH L (hiI u k) lH (-1)).set (loI u k) (lL+1)).map D.int⟩)=S3 at b q3 x3
   refine⟨S3,?_,x3⟩
   rw[pre]
   refine(Gh a).trans ((Gh b).trans ?_)
   have tu:=Gaz q3
   simp[tu,st1,st2,-List.map_set]
   rfl
end
theorem Giq:eqD (.str (pn p)) (.str "chamber") S=.ok (.bl p.isC) S:=by
 cases p
 ·exact s1
 ·exact s3
 ·exact s5
theorem Gnw:eqD (.str (pn p)) (.str "pound") S=.ok (.bl (isP p)) S:=by
 cases p
 ·exact s2
 ·exact s4
 ·exact s6
theorem Gjv{g:Tg}{b:Sv}{ρ1:Lc}{y:D}(h:nxt k S=some d)(h2:g d ρ=some ρ1)(h3:b ρ1 S=.rt y S2):Ua nxt g b (n+1) k ρ S=.rt y S2:=by
 conv=>lhs; unfold Ua
 simp only[h,h2,h3]
def kk(b:Bool):Int:=if b=true then 1 else 2
def Zk(b:Bool)(n:Nat):Nat:=if b=true then n+2 else n+3
section
variable{q:Nat}{A B C:List D}{S:Sto}
theorem rw0(h:Rw S q (q+1) (q+2) (q+3) A B C):DL.getD (.lst q) (.int 0) S=.ok (.lst (q+1)) S:=Qh h.q0 rfl
theorem rw1(h:Rw S q (q+1) (q+2) (q+3) A B C):DL.getD (.lst q) (.int 1) S=.ok (.lst (q+2)) S:=Qh h.q0 rfl
theorem rw2(h:Rw S q (q+1) (q+2) (q+3) A B C):DL.getD (.lst q) (.int 2) S=.ok (.lst (q+3)) S:=Qh h.q0 rfl
theorem rwk(h:Rw S q (q+1) (q+2) (q+3) A B C):DL.getD (.lst q) (.int (kk b)) S=.ok (.lst (Zk b q)) S:=by
 cases b
 ·exact rw2 h
 ·exact rw1 h
end
abbrev RwI(S:Sto)(q:Nat)(L R F:List Int):Prop:=Rw S q (q+1) (q+2) (q+3) (L.map D.int) (R.map D.int) (F.map D.int)
theorem Gnx{R F:List Int}(h:RwI S q L R F):S[Zk b q]?=some ⟨false,(sel b R F).map D.int⟩:=by
 cases b
 ·exact h.q3
 ·exact h.q2
theorem Gny{R F:List Int}(h:RwI S q L R F):RwI (S.set (Zk b q) ⟨false,M.map D.int⟩) q L (if b=true then M else R) (if b=true then F else M):=by
 have lt:∀ {i:Nat} {c:Cell},S[i]?=some c->i<S.length:=fun e=>(List.getElem?_eq_some_iff.mp e).1
 cases b
 ·have e:Zk false q=q+3:=rfl
  rw[e]
  refine⟨?_,?_,?_,?_⟩
  ·rw[List.getElem?_set_ne (by omega)]; exact h.q0
  ·rw[List.getElem?_set_ne (by omega)]; exact h.q1
  ·rw[List.getElem?_set_ne (by omega)]; exact h.q2
  ·rw[List.getElem?_set_self (lt h.q3)]; rfl
 ·have e:Zk true q=q+2:=rfl
  rw[e]
  refine⟨?_,?_,?_,?_⟩
  ·rw[List.getElem?_set_ne (by omega)]; exact h.q0
  ·rw[List.getElem?_set_ne (by omega)]; exact h.q1
  ·rw[List.getElem?_set_self (lt h.q2)]; rfl
  ·rw[List.getElem?_set_ne (by omega)]; exact h.q3
abbrev rg(ps:List Pl)(us:List Bool)(L R F:List Int)(b:Bool)(k hi lo q:Nat)(x12 x13 x14:Option D):Lc:=[some (cD ps us),some (stD L R F),some (dM b k),some (.int hi),some (.int lo),some (.tup (ps.map Pl.toD)),some (wd b),some (.int k),some (.lst q),some (.int (kk b)),some (.int (stI b k)),some (.int (glI b k)),x12,x13,x14]
section
variable{ps:List Pl}{us:List Bool}{L R F:List Int}{S:Sto}{b:Bool}{k:Nat}{u:Bool}{pH pL pG:Pl}{lH lL a g r1 f1:Int}
theorem Gnz{l:Int}{hi lo:Nat}{x12 x14:Option D}(h:RwI S q L R F)(hp:ps[i]?=some p)(hl:L[i]?=some l):Jm (rg ps us L R F b k hi lo q x12 (some (.int i)) x14) S=if shal p l=true then .rt (.str "shallow") S else .nx (rg ps us L R F b k hi lo q x12 (some (.int i)) x14) S:=by
 have g1:=Wr (S:=S) hp
 have g2:=rw0 h
 have g3:=Wt h.q1 hl
 have e:=Gnw (p:=p) (S:=S)
 have t:ta (tb (o2 eqD (o2 DL.getD (o2 DL.getD (vr 5) (vr 13)) (cn (.int 0))) (cn (.str "pound")))) (tb (o2 ltD (o2 DL.getD (o2 DL.getD (vr 8) (cn (.int 0))) (vr 13)) (o2 DL.getD (o2 DL.getD (vr 5) (vr 13)) (cn (.int 2))))) (rg ps us L R F b k hi lo q x12 (some (.int i)) x14) S=.ok (shal p l) S:=by
  cases p with
  | e=>simp[g1,pl0,e,isP,shal]
  | c=>simp[g1,pl0,e,isP,shal]
  | p br de ro pr=>
   have gd:DL.getD (Pl.toD (.p br de ro pr)) (.int 2) S=.ok (.int de) S:=Jd (Hj (by decide) rfl)
   simp[g1,pl0,e,isP,shal,g2,g3,gd]
 unfold Jm
 cases c:shal p l
 ·rw[c] at t
  rw[Hv t]
  rfl
 ·rw[c] at t
  rw[Jb t]
  rfl
theorem Gww{hi lo:Nat}{x13 x14:Option D}(hG:ps[glI b k]?=some pG):sq (sif (ta (tb (o2 eqD (o2 DL.getD (o2 DL.getD (vr 5) (vr 11)) (cn (.int 0))) (cn (.str "chamber")))) (tb (o2 gtD (vr 12) (cn (.int 0))))) (sret (cn (.str "noroom"))) DL.skip) (sq (sif (ta (tb (o2 eqD (o2 DL.getD (o2 DL.getD (vr 5) (vr 11)) (cn (.int 0))) (cn (.str "pound")))) (tb (o2 geD (vr 12) (o2 DL.getD (o2 DL.getD (vr 5) (vr 11)) (cn (.int 3)))))) (sret (cn (.str "noroom"))) DL.skip) X) (rg ps us L R F b k hi lo q (some (.int (r1+f1))) x13 x14) S
  = if hol pG (r1+f1+1)=false then .rt (.str "noroom") S else X (rg ps us L R F b k hi lo q (some (.int (r1+f1))) x13 x14) S:=by
 have g1:=Wr (S:=S) hG
 have e1:=Giq (p:=pG) (S:=S)
 have e2:=Gnw (p:=pG) (S:=S)
 cases pG with
 | e=>
  rw[if_neg (by simp[hol])]
  rw[Je (ρ':=rg ps us L R F b k hi lo q (some (.int (r1+f1))) x13 x14) (S1:=S) (by rw[Hv (S1:=S) (by simp[g1,pl0,e1,Pl.isC])]; rfl),Je (ρ':=rg ps us L R F b k hi lo q (some (.int (r1+f1))) x13 x14) (S1:=S) (by rw[Hv (S1:=S) (by simp[g1,pl0,e2,isP])]; rfl)]
 | c=>
  by_cases c:0<r1+f1
  ·rw[if_pos (by simp[hol]; omega)]
   refine Gbr ?_
   rw[Jb (S1:=S) (by simp[g1,pl0,e1,Pl.isC,c])]
   rfl
  ·rw[if_neg (by simp[hol]; omega)]
   rw[Je (ρ':=rg ps us L R F b k hi lo q (some (.int (r1+f1))) x13 x14) (S1:=S) (by rw[Hv (S1:=S) (by simp[g1,pl0,e1,Pl.isC]; omega)]; rfl),Je (ρ':=rg ps us L R F b k hi lo q (some (.int (r1+f1))) x13 x14) (S1:=S) (by rw[Hv (S1:=S) (by simp[g1,pl0,e2,isP])]; rfl)]
 | p br de ro pr=>
  have g3:DL.getD (Pl.toD (.p br de ro pr)) (.int 3) S=.ok (.int ro) S:=Jd (Hj (by decide) rfl)
  rw[Je (ρ':=rg ps us L R F b k hi lo q (some (.int (r1+f1))) x13 x14) (S1:=S) (by rw[Hv (S1:=S) (by simp[g1,pl0,e1,Pl.isC])]; rfl)]
  by_cases c:ro<=r1+f1
  ·rw[if_pos (by simp[hol]; omega)]
   refine Gbr ?_
   rw[Jb (S1:=S) (by simp[g1,pl0,e2,isP,g3,c])]
   rfl
  ·rw[if_neg (by simp[hol]; omega)]
   rw[Je (ρ':=rg ps us L R F b k hi lo q (some (.int (r1+f1))) x13 x14) (S1:=S) (by rw[Hv (S1:=S) (by simp[g1,pl0,e2,isP,g3]; omega)]; rfl)]
theorem Grc(v:Mv ps us L R F b k u pH pL pG lH lL a g r1 f1)(hc:pH.isC=true->0<=lH/\lH<=1):∃ S',Vk [cD ps us,stD L R F,dM b k,.int (hiI u k),.int (loI u k)] S=.ok (Gd9 ps.length b k pH pL pG lH lL a g r1 f1 L R F).toD S'/\Ex S S':=by
 obtain⟨S1,e1,w1,x1⟩:=Gnm (A:=L.map D.int) (B:=R.map D.int) (C:=F.map D.int) (f:=vr 1) (ρ:=[some (cD ps us),some (stD L R F),some (dM b k),some (.int (hiI u k)),some (.int (loI u k)),some (.tup (ps.map Pl.toD)),some (wd b),some (.int k),none,none,none,none,none,none,none]) (S:=S) rfl
 have w1:RwI S1 S.length L R F:=w1
 have x2:Ex S1 (S1++[⟨false,[.int 2,.int 1]⟩]):=Ex.app
 have gk:∀ c:Bool,DL.getD (.lst S1.length) (.int (if c=true then 1 else 0)) (S1++[⟨false,[.int 2,.int 1]⟩])=.ok (.int (kk c)) (S1++[⟨false,[.int 2,.int 1]⟩]):=fun c=>Qh Hg (by cases c<;>rfl)
 have gb:=gk b
 have wr:=fun S=>Gas (b:=b) (S:=S)
 have wl:=fun S=>Gwu (b:=b) (S:=S)
 have pre:Vk [cD ps us,stD L R F,dM b k,.int (hiI u k),.int (loI u k)] S=fin ((sq (sif (tb (o2 eqD (o2 DL.getD (o2 DL.getD (vr 8) (vr 9)) (vr 10)) (cn (.int 0)))) (sret (cn (.str "nobarge"))) DL.skip) (sq (sa (o2 Gw (o2 DL.getD (o2 DL.getD (vr 8) (cn (.int 1))) (vr 11)) (o2 DL.getD (o2 DL.getD (vr 8) (cn (.int 2))) (vr 11))) (gn 12)) (sq (sif (ta (tb (o2 eqD (o2 DL.getD (o2 DL.getD (vr 5) (vr 11)) (cn (.int 0))) (cn (.str "chamber")))) (tb (o2 gtD (vr 12) (cn (.int 0))))) (sret (cn (.str "noroom"))) DL.skip) (sq (sif (ta (tb (o2 eqD (o2 DL.getD (o2 DL.getD (vr 5) (vr 11)) (cn (.int 0))) (cn (.str "pound")))) (tb (o2 geD (vr 12) (o2 DL.getD (o2 DL.getD (vr 5) (vr 11)) (cn (.int 3)))))) (sret (cn (.str "noroom"))) DL.skip) (sq (sif (ta (tb (o2 eqD (o2 DL.getD (o2 DL.getD (vr 5) (vr 3)) (cn (.int 0))) (cn (.str "chamber")))) (tb (o2 gtD (o2 DL.getD (o2 DL.getD (vr 8) (cn (.int 0))) (vr 3)) (cn (.int 0))))) (sret (cn (.str "uneven"))) DL.skip) (sq (sif (ta (tb (o2 eqD (o2 DL.getD (o2 DL.getD (vr 5) (vr 4)) (cn (.int 0))) (cn (.str "chamber")))) (tb (o2 eqD (o2 DL.getD (o2 DL.getD (vr 8) (cn (.int 0))) (vr 4)) (cn (.int 0))))) (sret (cn (.str "uneven"))) DL.skip) (sq (sfor (isrc (ls (ac (vr 3) (ac (vr 4) an)))) (gn 13) Jm) (sq (ss (o2 Xc (o2 DL.getD (o2 DL.getD (vr 8) (vr 9)) (vr 10)) (cn (.int 1))) (o2 DL.getD (vr 8) (vr 9)) (vr 10) Ub) (sq (ss (o2 Gw (o2 DL.getD (o2 DL.getD (vr 8) (vr 9)) (vr 11)) (cn (.int 1))) (o2 DL.getD (vr 8) (vr 9)) (vr 11) Ub) (sq (sa (b1 Gat (ac (o2 eqD (vr 11) (o2 DL.getD (ls (ac (cn (.int 0)) (ac (o2 Xc (b1 Jl (ac (vr 5) an)) (cn (.int 1))) an))) (b1 Gat (ac (o2 eqD (vr 6) (cn (.str "right"))) an)))) an)) (gn 14)) (sret (tp (ac (tp (ac (b1 Xd (ac (o2 DL.getD (vr 8) (cn (.int 0))) an)) (ac (b1 Xd (ac (o2 DL.getD (vr 8) (cn (.int 1))) an)) (ac (b1 Xd (ac (o2 DL.getD (vr 8) (cn (.int 2))) an)) an)))) (ac (cn (.int 0)) (ac (vr 14) an))))))))))))))) (rg ps us L R F b k (hiI u k) (loI u k) S.length none none none) (S1++[⟨false,[.int 2,.int 1]⟩])):=by
  refine(Gy (m:=15) (b:=Vj)).trans ?_
  show fin (Vj [some (cD ps us),some (stD L R F),some (dM b k),some (.int (hiI u k)),some (.int (loI u k)),none,none,none,none,none,none,none,none,none,none] S)=_
  unfold Vj
  refine(Gh (ρ':=[some (cD ps us),some (stD L R F),some (dM b k),some (.int (hiI u k)),some (.int (loI u k)),some (.tup (ps.map Pl.toD)),none,none,none,none,none,none,none,none,none]) (S':=S) (by simp[cd0])).trans ?_
  refine(Gh (ρ':=[some (cD ps us),some (stD L R F),some (dM b k),some (.int (hiI u k)),some (.int (loI u k)),some (.tup (ps.map Pl.toD)),some (wd b),some (.int k),none,none,none,none,none,none,none]) (S':=S) rfl).trans ?_
  refine(Gh (ρ':=[some (cD ps us),some (stD L R F),some (dM b k),some (.int (hiI u k)),some (.int (loI u k)),some (.tup (ps.map Pl.toD)),some (wd b),some (.int k),some (.lst S.length),none,none,none,none,none,none]) (S':=S1) (by rw[Vo,e1]; rfl)).trans ?_
  refine(Gh (ρ':=[some (cD ps us),some (stD L R F),some (dM b k),some (.int (hiI u k)),some (.int (loI u k)),some (.tup (ps.map Pl.toD)),some (wd b),some (.int k),some (.lst S.length),some (.int (kk b)),none,none,none,none,none]) (S':=S1++[⟨false,[.int 2,.int 1]⟩]) (by simp[wr,Gfg,gb])).trans ?_
  refine(Gh (ρ':=[some (cD ps us),some (stD L R F),some (dM b k),some (.int (hiI u k)),some (.int (loI u k)),some (.tup (ps.map Pl.toD)),some (wd b),some (.int k),some (.lst S.length),some (.int (kk b)),some (.int (stI b k)),none,none,none,none]) (S':=S1++[⟨false,[.int 2,.int 1]⟩]) ?_).trans ?_
  ·have e:(k:Int)+(if(!b)=true then 1 else 0)=((stI b k:Nat):Int):=by cases b<;>simp[stI]
   rw[Vo]
   simp only[Vn,Wp,Gfd,Ur,Yd,Wq,List.getElem?_cons_succ,List.getElem?_cons_zero,Gx,wl,Gfg,Ggh,e,Hd,Gm9]
   rfl
  refine Gh (ρ':=rg ps us L R F b k (hiI u k) (loI u k) S.length none none none) (S':=S1++[⟨false,[.int 2,.int 1]⟩]) ?_
  have mu:Kj (.int 2) (.int (k:Int)) (S1++[⟨false,[.int 2,.int 1]⟩])=.ok (.int (2*(k:Int))) (S1++[⟨false,[.int 2,.int 1]⟩]):=Gfe (by decide) (by decide)
  have e:2*(k:Int)+1-((stI b k:Nat):Int)=((glI b k:Nat):Int):=by cases b<;>simp[stI,glI]<;>omega
  simp[mu,e]
 rw[pre]
 clear pre
 have w2:RwI (S1++[⟨false,[.int 2,.int 1]⟩]) S.length L R F:=w1.ex x2
 have x12:=x1.trans x2
 generalize S1++[(⟨false,[.int 2,.int 1]⟩:Cell)]=S2 at w2 x12
 have gr:=rwk (b:=b) w2
 have ga:=Wt (Gnx (b:=b) w2) v.ha
 unfold Gd9 Ghq
 by_cases c1:a=0
 ·rw[if_pos c1]
  subst c1
  refine⟨S2,Jf ?_,x12⟩
  rw[Jb (S1:=S2) (by simp[gr,ga])]
  rfl
 rw[if_neg c1]
 have g1:=rw1 w2
 have g2:=rw2 w2
 have g0:=rw0 w2
 have gr1:=Wt w2.q2 v.hr
 have gf1:=Wt w2.q3 v.hf
 have rt:=fun X:Sv=>Gww (X:=X) (us:=us) (L:=L) (R:=R) (F:=F) (S:=S2) (r1:=r1) (f1:=f1) (hi:=hiI u k) (lo:=loI u k) (q:=S.length) (x13:=none) (x14:=none) v.hG
 have hd:∀ X:Sv,fin (sq (sif (tb (o2 eqD (o2 DL.getD (o2 DL.getD (vr 8) (vr 9)) (vr 10)) (cn (.int 0)))) (sret (cn (.str "nobarge"))) DL.skip) (sq (sa (o2 Gw (o2 DL.getD (o2 DL.getD (vr 8) (cn (.int 1))) (vr 11)) (o2 DL.getD (o2 DL.getD (vr 8) (cn (.int 2))) (vr 11))) (gn 12)) X) (rg ps us L R F b k (hiI u k) (loI u k) S.length none none none) S2)=fin (X (rg ps us L R F b k (hiI u k) (loI u k) S.length (some (.int (r1+f1))) none none) S2):=fun X=>by
  refine(Gh (ρ':=rg ps us L R F b k (hiI u k) (loI u k) S.length none none none) (S':=S2) (by rw[Hv (S1:=S2) (by simp[gr,ga,c1])]; rfl)).trans ?_
  exact Gh (by simp[g1,g2,gr1,gf1])
 rw[hd,rt]
 by_cases c2:hol pG (r1+f1+1)=false
 ·rw[if_pos c2,if_pos c2]
  exact⟨S2,rfl,x12⟩
 rw[if_neg c2,if_neg c2]
 have gH:=Wr (S:=S2) v.h1
 have gL:=Wr (S:=S2) v.h2
 have lHg:=Wt w2.q1 v.h3
 have lLg:=Wt w2.q1 v.h4
 have eH:=Giq (p:=pH) (S:=S2)
 have eL:=Giq (p:=pL) (S:=S2)
 have t3:ta (tb (o2 eqD (o2 DL.getD (o2 DL.getD (vr 5) (vr 3)) (cn (.int 0))) (cn (.str "chamber")))) (tb (o2 gtD (o2 DL.getD (o2 DL.getD (vr 8) (cn (.int 0))) (vr 3)) (cn (.int 0)))) (rg ps us L R F b k (hiI u k) (loI u k) S.length (some (.int (r1+f1))) none none) S2=.ok (pH.isC&&decide (lH=1)) S2:=by
  cases z:pH.isC
  ·rw[z] at eH
   simp[gH,pl0,eH]
  ·rw[z] at eH
   have:=hc z
   have e:decide (0<lH)=decide (lH=1):=by simp only[decide_eq_decide]; omega
   simp[gH,pl0,eH,g0,lHg,e]
 by_cases c3:(pH.isC&&decide (lH=1))=true
 ·rw[if_pos c3]
  rw[c3] at t3
  exact⟨S2,Jf (by rw[Jb t3]; rfl),x12⟩
 rw[if_neg c3]
 rw[Bool.eq_false_iff.mpr c3] at t3
 have t4:ta (tb (o2 eqD (o2 DL.getD (o2 DL.getD (vr 5) (vr 4)) (cn (.int 0))) (cn (.str "chamber")))) (tb (o2 eqD (o2 DL.getD (o2 DL.getD (vr 8) (cn (.int 0))) (vr 4)) (cn (.int 0)))) (rg ps us L R F b k (hiI u k) (loI u k) S.length (some (.int (r1+f1))) none none) S2=.ok (pL.isC&&decide (lL=0)) S2:=by
  cases z:pL.isC
  ·rw[z] at eL
   simp[gL,pl0,eL]
  ·rw[z] at eL
   simp[gL,pl0,eL,g0,lLg]
 by_cases c4:(pL.isC&&decide (lL=0))=true
 ·rw[if_pos c4]
  rw[c4] at t4
  refine⟨S2,(Gh (ρ':=rg ps us L R F b k (hiI u k) (loI u k) S.length (some (.int (r1+f1))) none none) (S':=S2) (by rw[Hv t3]; rfl)).trans (Jf (by rw[Jb t4]; rfl)),x12⟩
 rw[if_neg c4]
 rw[Bool.eq_false_iff.mpr c4] at t4
 have hd2:∀ X:Sv,fin (sq (sif (ta (tb (o2 eqD (o2 DL.getD (o2 DL.getD (vr 5) (vr 3)) (cn (.int 0))) (cn (.str "chamber")))) (tb (o2 gtD (o2 DL.getD (o2 DL.getD (vr 8) (cn (.int 0))) (vr 3)) (cn (.int 0))))) (sret (cn (.str "uneven"))) DL.skip) (sq (sif (ta (tb (o2 eqD (o2 DL.getD (o2 DL.getD (vr 5) (vr 4)) (cn (.int 0))) (cn (.str "chamber")))) (tb (o2 eqD (o2 DL.getD (o2 DL.getD (vr 8) (cn (.int 0))) (vr 4)) (cn (.int 0))))) (sret (cn (.str "uneven"))) DL.skip) X) (rg ps us L R F b k (hiI u k) (loI u k) S.length (some (.int (r1+f1))) none none) S2)=fin (X (rg ps us L R F b k (hiI u k) (loI u k) S.length (some (.int (r1+f1))) none none) S2):=fun X=>by
  refine(Gh (ρ':=rg ps us L R F b k (hiI u k) (loI u k) S.length (some (.int (r1+f1))) none none) (S':=S2) (by rw[Hv t3]; rfl)).trans ?_
  exact Gh (ρ':=rg ps us L R F b k (hiI u k) (loI u k) S.length (some (.int (r1+f1))) none none) (S':=S2) (by rw[Hv t4]; rfl)
 rw[hd2]
 have x3:Ex S2 (S2++[⟨false,[.int (hiI u k),.int (loI u k)]⟩]):=Ex.app
 have el:ls (ac (vr 3) (ac (vr 4) an)) (rg ps us L R F b k (hiI u k) (loI u k) S.length (some (.int (r1+f1))) none none) S2=.ok (.lst S2.length) (S2++[⟨false,[.int (hiI u k),.int (loI u k)]⟩]):=by simp
 have q3:(S2++[(⟨false,[.int (hiI u k),.int (loI u k)]⟩:Cell)])[S2.length]?=some ⟨false,[.int (hiI u k),.int (loI u k)]⟩:=Hg
 have w3:RwI (S2++[⟨false,[.int (hiI u k),.int (loI u k)]⟩]) S.length L R F:=w2.ex x3
 have x13:=x12.trans x3
 generalize S2++[(⟨false,[.int (hiI u k),.int (loI u k)]⟩:Cell)]=S3 at el q3 w3 x13
 have sf:sfor (isrc (ls (ac (vr 3) (ac (vr 4) an)))) (gn 13) Jm (rg ps us L R F b k (hiI u k) (loI u k) S.length (some (.int (r1+f1))) none none) S2=Ua (Ghm S2.length 2).nxt (gn 13) Jm (1+1+1) 0 (rg ps us L R F b k (hiI u k) (loI u k) S.length (some (.int (r1+f1))) none none) S3:=by
  rw[Uo,Gar,el,Gx,Gjj q3,Hd]
  rfl
 have nx:∀ i,(Ghm S2.length 2).nxt i S3=[D.int (hiI u k),D.int (loI u k)][i]?:=fun i=>by
  show(S3[S2.length]?).bind (fun c=>c.xs[i]?)=_
  rw[q3]; rfl
 have sh1:=Gnz (us:=us) (b:=b) (k:=k) (hi:=hiI u k) (lo:=loI u k) (x12:=some (.int (r1+f1))) (x14:=none) w3 v.h1 v.h3
 have sh2:=Gnz (us:=us) (b:=b) (k:=k) (hi:=hiI u k) (lo:=loI u k) (x12:=some (.int (r1+f1))) (x14:=none) w3 v.h2 v.h4
 by_cases c5:(shal pH lH||shal pL lL)=true
 ·rw[if_pos c5]
  refine⟨S3,Jf (sf.trans ?_),x13⟩
  cases c6:shal pH lH
  ·rw[c6] at sh1 c5
   have c7:shal pL lL=true:=by simpa using c5
   rw[if_pos c7] at sh2
   rw[Wa (nx 0) rfl (sh1.trans (if_neg Bool.false_ne_true))]
   exact Gjv (nx 1) rfl sh2
  ·rw[if_pos c6] at sh1
   exact Gjv (nx 0) rfl sh1
 rw[if_neg c5]
 have c6:shal pH lH=false/\shal pL lL=false:=by simpa using c5
 rw[c6.1,if_neg Bool.false_ne_true] at sh1
 rw[c6.2,if_neg Bool.false_ne_true] at sh2
 have lp:Ua (Ghm S2.length 2).nxt (gn 13) Jm (1+1+1) 0 (rg ps us L R F b k (hiI u k) (loI u k) S.length (some (.int (r1+f1))) none none) S3=.nx (rg ps us L R F b k (hiI u k) (loI u k) S.length (some (.int (r1+f1))) (some (.int (loI u k))) none) S3:=by
  rw[Wa (nx 0) rfl sh1,Wa (nx 1) rfl sh2,Gfh (nx 2)]
 have lrow:S.length<=Zk b S.length:=by cases b<;>simp[Zk]
 obtain⟨S4,e4,w4,q4s,x4⟩:∃ S4,ss (o2 Xc (o2 DL.getD (o2 DL.getD (vr 8) (vr 9)) (vr 10)) (cn (.int 1))) (o2 DL.getD (vr 8) (vr 9)) (vr 10) Ub (rg ps us L R F b k (hiI u k) (loI u k) S.length (some (.int (r1+f1))) (some (.int (loI u k))) none) S3=.nx (rg ps us L R F b k (hiI u k) (loI u k) S.length (some (.int (r1+f1))) (some (.int (loI u k))) none) S4/\RwI S4 S.length L (if b=true then(sel b R F).set (stI b k) (a + -1) else R) (if b=true then F else(sel b R F).set (stI b k) (a + -1))/\S4[Zk b S.length]?=some ⟨false,((sel b R F).set (stI b k) (a + -1)).map D.int⟩/\Ex S S4:=by
  have gr3:=rwk (b:=b) w3
  have q3s:=Gnx (b:=b) w3
  have ga3:=Wt q3s v.ha
  have st3:=Gbt (v:=a-1) q3s v.ha
  rw[<- Int.sub_eq_add_neg]
  exact⟨S3.set (Zk b S.length) ⟨false,((sel b R F).set (stI b k) (a-1)).map D.int⟩,by simp[gr3,ga3,st3,-List.map_set],Gny w3,List.getElem?_set_self (List.getElem?_eq_some_iff.mp q3s).1,x13.setq lrow⟩
 obtain⟨S5,e5,w5,x5⟩:∃ S5,ss (o2 Gw (o2 DL.getD (o2 DL.getD (vr 8) (vr 9)) (vr 11)) (cn (.int 1))) (o2 DL.getD (vr 8) (vr 9)) (vr 11) Ub (rg ps us L R F b k (hiI u k) (loI u k) S.length (some (.int (r1+f1))) (some (.int (loI u k))) none) S4=.nx (rg ps us L R F b k (hiI u k) (loI u k) S.length (some (.int (r1+f1))) (some (.int (loI u k))) none) S5/\RwI S5 S.length L (if b=true then Qi b R F k a g else R) (if b=true then F else Qi b R F k a g)/\Ex S S5:=by
  have gr4:=rwk (b:=b) w4
  have hg':((sel b R F).set (stI b k) (a + -1))[glI b k]?=some g:=(List.getElem?_set_ne Gns).trans v.hg
  have gg4:=Wt q4s hg'
  have st4:=Gbt (v:=g+1) q4s hg'
  have w5:=Gny (b:=b) (M:=Qi b R F k a g) w4
  refine⟨S4.set (Zk b S.length) ⟨false,(Qi b R F k a g).map D.int⟩,?_,by cases b<;>exact w5,x4.setq lrow⟩
  have st4:Ub (.lst (Zk b S.length)) (.int (glI b k)) (.int (g+1)) S4=some (S4.set (Zk b S.length) ⟨false,(Qi b R F k a g).map D.int⟩):=st4
  simp[gr4,gg4,st4]
 have x6:Ex S5 (S5++[⟨false,[.int 0,.int ((ps.length:Int)-1)]⟩]):=Ex.app
 have w6:RwI (S5++[⟨false,[.int 0,.int ((ps.length:Int)-1)]⟩]) S.length L (if b=true then Qi b R F k a g else R) (if b=true then F else Qi b R F k a g):=w5.ex x6
 have gv:∀ c:Bool,DL.getD (.lst S5.length) (.int (if c=true then 1 else 0)) (S5++[⟨false,[.int 0,.int ((ps.length:Int)-1)]⟩])=.ok (.int (if c=true then(ps.length:Int)-1 else 0)) (S5++[⟨false,[.int 0,.int ((ps.length:Int)-1)]⟩]):=fun c=>Qh Hg (by cases c<;>rfl)
 have gvb:=gv b
 have e6:sa (b1 Gat (ac (o2 eqD (vr 11) (o2 DL.getD (ls (ac (cn (.int 0)) (ac (o2 Xc (b1 Jl (ac (vr 5) an)) (cn (.int 1))) an))) (b1 Gat (ac (o2 eqD (vr 6) (cn (.str "right"))) an)))) an)) (gn 14) (rg ps us L R F b k (hiI u k) (loI u k) S.length (some (.int (r1+f1))) (some (.int (loI u k))) none) S5=.nx (rg ps us L R F b k (hiI u k) (loI u k) S.length (some (.int (r1+f1))) (some (.int (loI u k))) (some (.int (if(glI b k:Int)=(if b=true then(ps.length:Int)-1 else 0) then 1 else 0)))) (S5++[⟨false,[.int 0,.int ((ps.length:Int)-1)]⟩]):=by
  simp[wr,Gfg,gvb]
 generalize S5++[(⟨false,[.int 0,.int ((ps.length:Int)-1)]⟩:Cell)]=S6 at x6 w6 e6
 refine⟨S6,?_,x5.trans x6⟩
 refine(Gh (sf.trans lp)).trans ((Gh e4).trans ((Gh e5).trans ((Gh e6).trans ?_)))
 have r0:=rw0 w6
 have r1':=rw1 w6
 have r2':=rw2 w6
 have u0:=Gaz w6.q1
 have u1:=Gaz w6.q2
 have u2:=Gaz w6.q3
 simp only[Gc1,Gjh,Ur,Yd,Gfd,Vn,Wp,Wq,List.getElem?_cons_succ,List.getElem?_cons_zero,Gx,r0,r1',r2',u0,u1,u2,List.length_cons,List.length_nil]
 rfl
theorem Gwx:neD (wd b) (.str "let") S=.ok (.bl true) S:=Uq Gnr
abbrev wS(b:Bool):Str:=if b=true then "right" else "left"
theorem Gjw{n:Int}(h:¬ (0<=n/\n<us.length)):∃ S',Hr [cD ps us,stD L R F,dM b n] S=.ok (Xw "NoGate") S'/\Ex S S':=by
 refine⟨S++[⟨false,L.map D.int⟩],?_,Ex.app⟩
 refine(Gy (m:=10) (b:=Hk)).trans ?_
 show fin (Hk [some (cD ps us),some (stD L R F),some (dL (wS b) n),none,none,none,none,none,none,none] S)=_
 unfold Hk
 refine Gc6.trans ?_
 have wf:∀ S,eqD (.str (wS b)) (.str "feed") S=.ok (.bl false) S:=fun S=>Ggp (b:=b)
 refine(Gh (ρ':=rd ps us L R F (wS b) n S.length none none) (S':=S++[⟨false,L.map D.int⟩]) (by rw[Hv (S1:=S++[⟨false,L.map D.int⟩]) (by simp only[Gck,Vn,Wp,Wq,List.getElem?_cons_succ,List.getElem?_cons_zero,Gx,wf])]; rfl)).trans ?_
 refine Jf ?_
 rw[Jb (S1:=S++[⟨false,L.map D.int⟩])]
 ·rfl
 ·by_cases h1:n<0
  ·simp[h1]
  ·have h2:(us.length:Int)<=n:=by
    by_cases c:(us.length:Int)<=n
    ·exact c
    ·exact absurd ⟨by omega,by omega⟩ h
   simp[h1,h2]
theorem Gn0(v:Mv ps us L R F b k u pH pL pG lH lL a g r1 f1)(hc:pH.isC=true->0<=lH/\lH<=1):∃ S',Hr [cD ps us,stD L R F,dM b k] S=.ok (Gd9 ps.length b k pH pL pG lH lL a g r1 f1 L R F).toD S'/\Ex S S':=by
 have hk':k<us.length:=(List.getElem?_eq_some_iff.mp v.hu).1
 have x1:Ex S (S++[⟨false,L.map D.int⟩]):=Ex.app
 obtain⟨S2,e2,x2⟩:=Grc (S:=S++[⟨false,L.map D.int⟩]) v hc
 refine⟨S2,?_,x1.trans x2⟩
 have mu:Kj (.int 2) (.int (k:Int)) (S++[⟨false,L.map D.int⟩])=.ok (.int (2*(k:Int))) (S++[⟨false,L.map D.int⟩]):=Gfe (by decide) (by decide)
 have gg:=Gjp (us:=us) (S:=S++[⟨false,L.map D.int⟩]) v.hu
 have gu:=Gjq (u:=u) (S:=S++[⟨false,L.map D.int⟩])
 have wf:∀ S,eqD (.str (wS b)) (.str "feed") S=.ok (.bl false) S:=fun S=>Ggp (b:=b)
 have nl:∀ S,neD (.str (wS b)) (.str "let") S=.ok (.bl true) S:=fun S=>Gwx (b:=b)
 refine(Gy (m:=10) (b:=Hk)).trans ?_
 show fin (Hk [some (cD ps us),some (stD L R F),some (dL (wS b) k),none,none,none,none,none,none,none] S)=_
 unfold Hk
 refine Gc6.trans ?_
 generalize S++[(⟨false,L.map D.int⟩:Cell)]=S1 at *
 refine(Gh (ρ':=rd ps us L R F (wS b) k S.length none none) (S':=S1) (by rw[Hv (S1:=S1) (by simp only[Gck,Vn,Wp,Wq,List.getElem?_cons_succ,List.getElem?_cons_zero,Gx,wf])]; rfl)).trans ?_
 refine(Gh (ρ':=rd ps us L R F (wS b) k S.length none none) (S':=S1) ?_).trans ?_
 ·rw[Hv (S1:=S1)]
  ·rfl
  ·have a1:¬ ((k:Int)<0):=by omega
   have a2:¬ ((us.length:Int)<=k):=by omega
   simp[a1,a2]
 refine(Gh (ρ':=rd ps us L R F (wS b) k S.length (some (.int (hiI u k))) none) (S':=S1) ?_).trans ?_
 ·have e:(k:Int)+(if u=true then 1 else 0)=((hiI u k:Nat):Int):=by cases u<;>simp[hiI]
  simp[gg,gu,Gfg,e]
 refine(Gh (ρ':=rd ps us L R F (wS b) k S.length (some (.int (hiI u k))) (some (.int (loI u k)))) (S':=S1) ?_).trans ?_
 ·have e:2*(k:Int)+1-((hiI u k:Nat):Int)=((loI u k:Nat):Int):=by cases u<;>simp[hiI,loI]<;>omega
  simp[mu,e]
 refine Jf ?_
 rw[Jb (S1:=S1) (by simp only[Gck,Vn,Wp,Wq,List.getElem?_cons_succ,List.getElem?_cons_zero,Gx,nl])]
 simp only[Gc1,Gjg,Ur,Yd,Wp,List.getElem?_cons_succ,List.getElem?_cons_zero,Gx,List.length_cons,List.length_nil,if_true,Gbo]
 have e2:Vk [cD ps us,stD L R F,dL (wS b) k,.int (hiI u k),.int (loI u k)] S1=.ok (Gd9 ps.length b k pH pL pG lH lL a g r1 f1 L R F).toD S2:=e2
 rw[e2]
 rfl
end
theorem Gea(h:y∈ys):∃ w,Xw y=.str w:=by
 simp only[ys,List.mem_cons,List.mem_nil_iff,or_false] at h
 rcases h with rfl | rfl | rfl | rfl | rfl | rfl | rfl | rfl | rfl | rfl | rfl | rfl<;>exact⟨_,rfl⟩
theorem Gjx{s:Str}(h1:(PyData.str s).showable=true:=by decide +kernel)(h2:PyData.strOk (PyData.str s).shown=true:=by decide +kernel)(h3:(PyData.str s).shown.length<=61:=by decide +kernel):Sho S (.str s) 61 0:=by
 refine⟨.str s,fun S' _ n hn=>?_,⟨h1,rfl,Nat.le_refl _,h2,h3⟩⟩
 obtain⟨m,rfl⟩:∃ m,n=m+1:=⟨n-1,by omega⟩
 rfl
def Sm(M:List Int):Prop:=M.length<=13/\∀ i∈M,i.natAbs<10^60
theorem Ggq(h:Sm M):Sho S (.tup (M.map D.int)) 822 1:=by
 refine(Gc3 (b:=61) (e:=0) fun d hd=>?_).mono ?_ (Nat.le_refl _)
 ·obtain⟨i,hi,rfl⟩:=List.mem_map.mp hd
  exact Gc4 (h.2 i hi)
 ·have:=h.1
  simp only[List.length_map]
  omega
theorem Gwy{R F:List Int}(h1:Sm L)(h2:Sm R)(h3:Sm F):Sho S (stD L R F) 2475 2:=(Gc3 (S:=S) (l:=[.tup (L.map D.int),.tup (R.map D.int),.tup (F.map D.int)]) (b:=822) (e:=1) fun d hd=>by
 simp only[List.mem_cons,List.mem_nil_iff,or_false] at hd
 rcases hd with rfl | rfl | rfl
 ·exact Ggq h1
 ·exact Ggq h2
 ·exact Ggq h3).mono (by simp) (by decide)
theorem Gjy{R F:List Int}{b:Int}(h1:Sm L)(h2:Sm R)(h3:Sm F)(ha:a.natAbs<10^60)(hb:b.natAbs<10^60):Sho S (.tup [stD L R F,.int a,.int b]) 7434 3:=(Gc3 (S:=S) (l:=[stD L R F,.int a,.int b]) (b:=2475) (e:=2) fun d hd=>by
 simp only[List.mem_cons,List.mem_nil_iff,or_false] at hd
 rcases hd with rfl | rfl | rfl
 ·exact Gwy h1 h2 h3
 ·exact(Gc4 ha).mono (by decide) (by decide)
 ·exact(Gc4 hb).mono (by decide) (by decide)).mono (by simp) (by decide)
theorem Hbe:∀ {i:Int},-2000<=i->i<=2000->i.natAbs<10^60:=fun h1 h2=>Nat.lt_of_le_of_lt (show _<=2000 by omega) (by decide)
theorem Gn1(hl:M.length<=13)(h:∀ i∈M,0<=i/\i<=1000):Sm M:=⟨hl,fun i hi=>Hbe (by have:=h i hi; omega) (by have:=h i hi; omega)⟩
structure StF(ps:List Pl)(L R F:List Int):Prop where
 lL:L.length=ps.length
 lR:R.length=ps.length
 lF:F.length=ps.length
 nL:∀ i∈L,0<=i
 nR:∀ i∈R,0<=i
 nF:∀ i∈F,0<=i
 at':∀ (i:Nat) (p:Pl) (l r f:Int),ps[i]?=some p->L[i]?=some l->R[i]?=some r->F[i]?=some f->l<=wat p/\hol p (r+f)=true
 sum:R.sum+F.sum<=900
theorem Ggr:∀ {M:List Int} {i:Nat} {a v:Int},M[i]?=some a->(M.set i v).sum=M.sum-a+v
 | [],i,a,v,h=>by simp at h
 | x::M,0,a,v,h=>by
  cases (Option.some.inj h)
  rw[List.set_cons_zero,List.sum_cons,List.sum_cons]
  omega
 | x::M,i+1,a,v,h=>by
  have:=Ggr (M:=M) (i:=i) (v:=v) (by simpa using h)
  rw[List.set_cons_succ,List.sum_cons,List.sum_cons,this]
  omega
theorem Ggs(h:∀ j∈M,0<=j)(hv:0<=v):∀ j∈M.set i v,0<=j:=fun j hj=>by
 rcases List.mem_or_eq_of_mem_set hj with z | z
 ·exact h j z
 ·rw[z]; exact hv
theorem set_at{x:Int}(h:(M.set i v)[j]?=some x):(j=i/\x=v)\/(j≠i/\M[j]?=some x):=by
 by_cases c:j=i
 ·subst c
  have hl:j<M.length:=by
   have:=(List.getElem?_eq_some_iff.mp h).1
   simpa using this
  rw[List.getElem?_set_self hl] at h
  exact .inl ⟨rfl,(Option.some.inj h).symm⟩
 ·rw[List.getElem?_set_ne (Ne.symm c)] at h
  exact .inr ⟨c,h⟩
section
variable{ps:List Pl}{us:List Bool}{L R F:List Int}
theorem StF.setL(h:StF ps L R F)(hp:ps[i]?=some p)(h0:0<=v)(h1:v<=wat p):StF ps (L.set i v) R F:=by
 refine⟨by rw[List.length_set]; exact h.lL,h.lR,h.lF,Ggs h.nL h0,h.nR,h.nF,fun j q l r f e1 e2 e3 e4=>?_,h.sum⟩
 rcases set_at e2 with⟨rfl,rfl⟩ | ⟨_,e2⟩
 ·rw[hp] at e1
  cases e1
  have hj:j<L.length:=by rw[h.lL]; exact(List.getElem?_eq_some_iff.mp hp).1
  exact⟨h1,(h.at' j p _ r f hp (List.getElem?_eq_getElem hj) e3 e4).2⟩
 ·exact h.at' j q l r f e1 e2 e3 e4
theorem StF.adw{l d:Int}(h:StF ps L R F)(hp:ps[i]?=some p)(hb:p.isE=false->0<=l+d/\l+d<=wat p):StF ps (Law.adw p L i l d) R F:=by
 unfold Law.adw
 split
 ·exact h
 ·rename_i c
  have:=hb (by simpa using c)
  exact h.setL hp this.1 this.2
theorem Ggt{b:Int}(h:hol p b=true)(hab:a<=b):hol p a=true:=by
 cases p with
 | e=>rfl
 | c=>
  have:b<=1:=by simpa[hol] using h
  simp[hol]; omega
 | p br de ro pr=>
  have:b<=ro:=by simpa[hol] using h
  simp[hol]; omega
theorem StF.move{pG:Pl}{g r1 f1:Int}(h:StF ps L R F)(hG:ps[glI b k]?=some pG)(ha:(sel b R F)[stI b k]?=some a)(hg:(sel b R F)[glI b k]?=some g)(hr:R[glI b k]?=some r1)(hf:F[glI b k]?=some f1)(h1:1<=a)(h2:hol pG (r1+f1+1)=true):
  StF ps L (if b=true then Qi b R F k a g else R) (if b=true then F else Qi b R F k a g):=by
 have hg':((sel b R F).set (stI b k) (a + -1))[glI b k]?=some g:=(List.getElem?_set_ne Gns).trans hg
 have hsum:(Qi b R F k a g).sum=(sel b R F).sum:=by
  unfold Qi
  rw[Ggr hg',Ggr ha]
  omega
 have at2:∀ (j:Nat) (x:Int),(Qi b R F k a g)[j]?=some x->(j=glI b k/\x=g+1)\/(j≠glI b k/\∃ y,(sel b R F)[j]?=some y/\x<=y):=fun j x e=>by
  rcases set_at e with⟨c,e⟩ | ⟨c,e⟩
  ·exact .inl ⟨c,e⟩
  ·rcases set_at e with⟨c',e⟩ | ⟨c',e⟩
   ·exact .inr ⟨c,a,by rw[c']; exact ha,by omega⟩
   ·exact .inr ⟨c,x,e,Int.le_refl _⟩
 have nn:∀ {M:List Int},sel b R F=M->(∀ i∈M,0<=i)->∀ i∈Qi b R F k a g,0<=i:=fun e n=>by
  unfold Qi
  rw[e]
  exact Ggs (Ggs n (by omega)) (by have:=n g (by rw[<- e]; exact List.mem_of_getElem? hg); omega)
 have ln:(Qi b R F k a g).length=(sel b R F).length:=by unfold Qi; rw[List.length_set,List.length_set]
 cases b
 ·have e:sel false R F=F:=rfl
  rw[e] at hsum at2 ln hg
  refine⟨h.lL,h.lR,by simp only[Bool.false_eq_true,if_false]; rw[ln]; exact h.lF,h.nL,h.nR,nn e h.nF,fun j q l r f e1 e2 e3 e4=>?_,by simp only[Bool.false_eq_true,if_false]; rw[hsum]; exact h.sum⟩
  simp only[Bool.false_eq_true,if_false] at e3 e4
  rcases at2 j f e4 with⟨c,rfl⟩ | ⟨_,y,ey,hy⟩
  ·rw[c] at e1 e2 e3
   rw[hG] at e1; cases e1
   rw[hr] at e3; cases e3
   rw[hf] at hg; cases hg
   exact⟨(h.at' _ _ _ _ _ hG e2 hr hf).1,Ggt h2 (by omega)⟩
  ·have:=h.at' j q l r y e1 e2 e3 ey
   exact⟨this.1,Ggt this.2 (by omega)⟩
 ·have e:sel true R F=R:=rfl
  rw[e] at hsum at2 ln hg
  refine⟨h.lL,by simp only[if_true]; rw[ln]; exact h.lR,h.lF,h.nL,nn e h.nR,h.nF,fun j q l r f e1 e2 e3 e4=>?_,by simp only[if_true]; rw[hsum]; exact h.sum⟩
  simp only[if_true] at e3 e4
  rcases at2 j r e3 with⟨c,rfl⟩ | ⟨_,y,ey,hy⟩
  ·rw[c] at e1 e2 e4
   rw[hG] at e1; cases e1
   rw[hf] at e4; cases e4
   rw[hr] at hg; cases hg
   exact⟨(h.at' _ _ _ _ _ hG e2 hr hf).1,Ggt h2 (by omega)⟩
  ·have:=h.at' j q l y f e1 e2 ey e4
   exact⟨this.1,Ggt this.2 (by omega)⟩
end
inductive Kd(ps:List Pl):Res->Prop where
 | no {y:Str} (h:y∈ys):Kd ps (.no y)
 | yes {A B C:List Int} {p g:Int} (h:StF ps A B C) (p0:0<=p/\p<=1000) (g0:0<=g/\g<=1):Kd ps (.yes (.tup [stD A B C,.int p,.int g]))
structure Rs(ps:List Pl)(us:List Bool)(L R F:List Int)(dd:D)(r:Res):Prop where
 did:∀ S,Ht [cD ps us,stD L R F,dd] S=r.out S
 due:∀ S,∃ S',Hr [cD ps us,stD L R F,dd] S=.ok r.toD S'/\Ex S S'
 kd:Kd ps r
section
variable{cr:Int}{ps:List Pl}{us:List Bool}{L R F:List Int}
theorem Gir{l f:Int}(h:vOk cr p l r f):l<=wat p:=by
 have:=h.2.2.2
 cases p with
 | e=>simp only at this; simp[wat,this.1]
 | c=>simp only at this; simp[wat,this.1]
 | p br de ro pr=>simp only at this; simp[wat,this.1]
theorem Gwz(hp:∀ p∈ps,p.ok)(hl:ps.length<=13)(hu:us.length+1=ps.length)(st:StR cr ps L R F)(sf:StF ps L R F)(hk:k<us.length):∃ r,Rs ps us L R F (.tup [.str "let",.int k]) r:=by
 have eu:=List.getElem?_eq_getElem hk
 generalize us[k]=u at eu
 have hH:hiI u k<ps.length:=by cases u<;>simp[hiI]<;>omega
 have hL:loI u k<ps.length:=by cases u<;>simp[loI]<;>omega
 have eH:=List.getElem?_eq_getElem hH
 have eL:=List.getElem?_eq_getElem hL
 obtain⟨lH,_,_,a1,_,_,a4⟩:=st.at' _ _ eH
 obtain⟨lL,_,_,b1,_,_,b4⟩:=st.at' _ _ eL
 have k1:=hp _ (List.mem_of_getElem? eH)
 have k2:=hp _ (List.mem_of_getElem? eL)
 have w1:=Gir a4
 have w2:=Gir b4
 have n1:=a4.1
 have n2:=b4.1
 generalize ps[hiI u k]=pH at eH k1 w1
 generalize ps[loI u k]=pL at eL k2 w2
 refine⟨Gky u k pH pL lH lL L R F,fun S=>dd_let eu eH eL a1 b1 k1 k2 (by rw[st.lL]; omega),fun S=>Grb eu eH eL a1 b1 w2 (by omega),?_⟩
 unfold Gky
 split
 ·exact .no Gba.2.1
 ·rename_i c1
  split
  ·exact .no Gba.2.2.1
  ·rename_i c2
   refine .yes ((sf.adw eH fun z=>?_).adw eL fun z=>?_) (by decide) (by decide)
   ·have:lH≠0:=by simpa[z] using c1
    exact⟨by omega,by omega⟩
   ·have:¬ wat pL<=lL:=by simpa[z] using c2
    exact⟨by omega,by omega⟩
theorem Grd(hp:∀ p∈ps,p.ok)(hl:ps.length<=13)(st:StR cr ps L R F)(sf:StF ps L R F)(hk:k<ps.length):∃ r,Rs ps us L R F (.tup [.str "feed",.int k]) r:=by
 have e:=List.getElem?_eq_getElem hk
 obtain⟨l,_,_,a1,_,_,a4⟩:=st.at' _ _ e
 have k1:=hp _ (List.mem_of_getElem? e)
 have w1:=Gir a4
 have n1:=a4.1
 generalize ps[k]=p at e k1 w1
 refine⟨Yf k p l L R F,fun S=>dd_feed e a1 k1 (by rw[st.lL]; omega),fun S=>Gnv e a1 k1 w1,?_⟩
 unfold Yf
 split
 ·rename_i br de ro i
  split
  ·exact .no Gba.2.2.1
  ·rename_i c
   have w1:l<=br:=w1
   have pb:0<=i/\i<=1000:=by
    obtain⟨_,_,_,_,_,_,hpr⟩:=k1
    rcases hpr with h | ⟨j,h,h1,h2⟩
    ·cases h
    ·cases h; omega
   exact .yes (sf.setL e (by omega) (show l+1<=br by omega)) pb (by decide)
 ·exact .no Gba.2.2.2
theorem Gjz(hp:∀ p∈ps,p.ok)(hl:ps.length<=13)(hu:us.length+1=ps.length)(st:StR cr ps L R F)(sf:StF ps L R F)(b:Bool)(hk:k<us.length):∃ r,Rs ps us L R F (dM b k) r:=by
 have eu:=List.getElem?_eq_getElem hk
 generalize us[k]=u at eu
 have hH:hiI u k<ps.length:=by cases u<;>simp[hiI]<;>omega
 have hL:loI u k<ps.length:=by cases u<;>simp[loI]<;>omega
 have hG:glI b k<ps.length:=by cases b<;>simp[glI]<;>omega
 have hS:stI b k<ps.length:=by cases b<;>simp[stI]<;>omega
 have lM:(sel b R F).length=ps.length:=by
  unfold sel
  split
  ·exact st.lR
  ·exact st.lF
 have nM:∀ i∈sel b R F,0<=i:=by
  unfold sel
  split
  ·exact sf.nR
  ·exact sf.nF
 have eH:=List.getElem?_eq_getElem hH
 have eL:=List.getElem?_eq_getElem hL
 have eG:=List.getElem?_eq_getElem hG
 have aH:=List.getElem?_eq_getElem (l:=L) (i:=hiI u k) (by rw[st.lL]; exact hH)
 have aL:=List.getElem?_eq_getElem (l:=L) (i:=loI u k) (by rw[st.lL]; exact hL)
 have aS:=List.getElem?_eq_getElem (l:=sel b R F) (i:=stI b k) (by rw[lM]; exact hS)
 have aG:=List.getElem?_eq_getElem (l:=sel b R F) (i:=glI b k) (by rw[lM]; exact hG)
 have aR:=List.getElem?_eq_getElem (l:=R) (i:=glI b k) (by rw[st.lR]; exact hG)
 have aF:=List.getElem?_eq_getElem (l:=F) (i:=glI b k) (by rw[st.lF]; exact hG)
 have v:Mv ps us L R F b k u ps[hiI u k] ps[loI u k] ps[glI b k] _ _ _ _ _ _:=⟨eu,eH,eL,aH,aL,hp _ (List.getElem_mem hH),hp _ (List.getElem_mem hL),eG,hp _ (List.getElem_mem hG),aS,aG,aR,aF,hu,by omega⟩
 have hc:(ps[hiI u k]).isC=true->0<=L[hiI u k]'(by rw[st.lL]; exact hH)/\L[hiI u k]'(by rw[st.lL]; exact hH)<=1:=fun z=>by
  obtain⟨l',_,_,q1,_,_,q4⟩:=st.at' _ _ eH
  rw[aH] at q1
  cases q1
  obtain⟨c1,_,_,c2⟩:=q4
  cases y:ps[hiI u k] with
  | c=>rw[y] at c2; exact⟨c1,c2.1⟩
  | e=>rw[y] at z; cases z
  | p _ _ _ _=>rw[y] at z; cases z
 have na:=nM _ (List.mem_of_getElem? aS)
 refine⟨_,fun S=>dd_move v,fun S=>Gn0 v hc,?_⟩
 unfold Gd9
 split
 ·rename_i y z; exact .no (Gjt z)
 ·rename_i z
  unfold Ghq at z
  split at z
  ·cases z
  ·rename_i c1
   split at z
   ·cases z
   ·rename_i c2
    exact .yes (sf.move eG aS aG aR aF (by omega) (by simpa using c2)) (by decide) ((fun(c:Prop) (_:Decidable c)=>show 0<=(if c then(1:Int) else 0)/\(if c then(1:Int) else 0)<=1 by split<;>decide) _ _)
end
inductive Wd where
 | l | f | r | e
variable{w:Wd}
def Wd.toD:Wd->D
 | .l=>.str "let"
 | .f=>.str "feed"
 | .r=>wd true
 | .e=>wd false
abbrev Vs(p:Wd×Nat):D:=.tup [p.1.toD,.int p.2]
theorem Ggu:∀ {M:List Int},(∀ j∈M,0<=j)->0<=M.sum
 | [],_=>Int.le_refl _
 | x::M,h=>by
  have a:=Ggu (M:=M) fun j hj=>h j (List.mem_cons_of_mem _ hj)
  have b:=h x List.mem_cons_self
  rw[List.sum_cons]
  omega
theorem Gis:∀ {M:List Int} {i:Nat} {a:Int},(∀ j∈M,0<=j)->M[i]?=some a->a<=M.sum
 | [],i,a,_,h=>by simp at h
 | x::M,0,a,hn,h=>by
  cases (Option.some.inj h)
  have:=Ggu (M:=M) fun j hj=>hn j (List.mem_cons_of_mem _ hj)
  rw[List.sum_cons]
  omega
 | x::M,i+1,a,hn,h=>by
  have c:=Gis (M:=M) (i:=i) (a:=a) (fun j hj=>hn j (List.mem_cons_of_mem _ hj)) (by simpa using h)
  have b:=hn x List.mem_cons_self
  rw[List.sum_cons]
  omega
theorem Ggv:∀ {M:List Int},(∀ j∈M,j<=4)->M.sum<=4*(M.length:Int)
 | [],_=>by simp
 | x::M,h=>by
  have a:=Ggv (M:=M) fun j hj=>h j (List.mem_cons_of_mem _ hj)
  have b:=h x List.mem_cons_self
  rw[List.sum_cons,List.length_cons]
  omega
section
variable{ps:List Pl}{us:List Bool}{L R F:List Int}
theorem StF.toR(h:StF ps L R F):StR 900 ps L R F:=by
 refine⟨h.lL,h.lR,h.lF,fun i p hp=>?_⟩
 have hi:=(List.getElem?_eq_some_iff.mp hp).1
 obtain⟨l,e1⟩:∃ l,L[i]?=some l:=⟨_,List.getElem?_eq_getElem (by rw[h.lL]; exact hi)⟩
 obtain⟨r,e2⟩:∃ l,R[i]?=some l:=⟨_,List.getElem?_eq_getElem (by rw[h.lR]; exact hi)⟩
 obtain⟨f,e3⟩:∃ l,F[i]?=some l:=⟨_,List.getElem?_eq_getElem (by rw[h.lF]; exact hi)⟩
 obtain⟨a,b⟩:=h.at' i p _ _ _ hp e1 e2 e3
 have n1:=h.nL _ (List.mem_of_getElem? e1)
 have n2:=h.nR _ (List.mem_of_getElem? e2)
 have n3:=h.nF _ (List.mem_of_getElem? e3)
 have s2:=Gis h.nR e2
 have s3:=Gis h.nF e3
 have t2:=Ggu h.nR
 have t3:=Ggu h.nF
 have s:=h.sum
 refine⟨l,r,f,e1,e2,e3,n1,n2,n3,?_⟩
 cases p with
 | e=>
  have a:l<=0:=a
  exact⟨by omega,by omega,by omega⟩
 | c=>
  have a:l<=1:=a
  have b:r+f<=1:=by simpa[hol] using b
  exact⟨a,b⟩
 | p br de ro pr=>
  have a:l<=br:=a
  have b:r+f<=ro:=by simpa[hol] using b
  exact⟨a,b⟩
theorem Gre(hp:∀ p∈ps,p.ok)(hl:ps.length<=13)(h:StR 3 ps L R F):StF ps L R F:=by
 obtain⟨n1,n2,n3⟩:=h.nn
 have b2:∀ x∈R,x<=4:=fun x hx=>by
  obtain⟨k,hk,e⟩:=Gaj hx
  rw[h.lR] at hk
  obtain⟨l,r,f,e1,e2,e3,e4⟩:=h.at' k _ (List.getElem?_eq_getElem hk)
  rw[e] at e2
  cases e2
  obtain⟨_,_,f0,e4⟩:=e4
  have ok:=hp _ (List.getElem_mem hk)
  generalize ps[k]=p at e4 ok
  cases p with
  | e=>obtain⟨_,a,_⟩:=e4; omega
  | c=>obtain⟨_,a⟩:=e4; omega
  | p br de ro pr=>
   obtain⟨_,a⟩:=e4
   obtain⟨_,_,_,_,_,o2,_⟩:=ok
   omega
 have b3:∀ x∈F,x<=4:=fun x hx=>by
  obtain⟨k,hk,e⟩:=Gaj hx
  rw[h.lF] at hk
  obtain⟨l,r,f,e1,e2,e3,e4⟩:=h.at' k _ (List.getElem?_eq_getElem hk)
  rw[e] at e3
  cases e3
  obtain⟨_,r0,_,e4⟩:=e4
  have ok:=hp _ (List.getElem_mem hk)
  generalize ps[k]=p at e4 ok
  cases p with
  | e=>obtain⟨_,_,a⟩:=e4; omega
  | c=>obtain⟨_,a⟩:=e4; omega
  | p br de ro pr=>
   obtain⟨_,a⟩:=e4
   obtain⟨_,_,_,_,_,o2,_⟩:=ok
   omega
 refine⟨h.lL,h.lR,h.lF,n1,n2,n3,fun i p l r f e1 e2 e3 e4=>?_,?_⟩
 ·obtain⟨l',r',f',a1,a2,a3,a4⟩:=h.at' i p e1
  rw[e2] at a1; rw[e3] at a2; rw[e4] at a3
  cases a1; cases a2; cases a3
  have:=a4.2.2.2
  cases p with
  | e=>simp only at this; simp[wat,hol,this.1]
  | c=>simp only at this; simp[wat,hol,this.1,this.2]
  | p br de ro pr=>simp only at this; simp[wat,hol,this.1,this.2]
 ·have s2:=Ggv b2
  have s3:=Ggv b3
  rw[h.lR] at s2
  rw[h.lF] at s3
  omega
end
theorem Gc7:∀ {A B:List Int},A.map D.int=B.map D.int->A=B
 | [],[],_=>rfl
 | [],_::_,h=>by cases h
 | _::_,[],h=>by cases h
 | a::A,b::B,h=>by
  simp only[List.map_cons,List.cons.injEq,D.int.injEq] at h
  rw[h.1,Gc7 h.2]
theorem Grf{A' B' C':List Int}(h:stD A B C=stD A' B' C'):A=A'/\B=B'/\C=C':=by
 simp only[stD,D.tup.injEq,List.cons.injEq,and_true] at h
 exact⟨Gc7 h.1,Gc7 h.2.1,Gc7 h.2.2⟩
section
variable{ps:List Pl}{us:List Bool}
abbrev dI(p:Wd×Int):D:=.tup [p.1.toD,.int p.2]
structure cDy(ps:List Pl)(us:List Bool)(L R F:List Int)(p:Wd×Int)(A B C:List Int)(a g:Int):Prop where
 sf:StF ps A B C
 a0:0<=a/\a<=1000
 g0:0<=g/\g<=1
 did:∀ S,Ht [cD ps us,stD L R F,dI p] S=.ok (.tup [stD A B C,.int a,.int g]) S
 due:∀ S,∃ S',Hr [cD ps us,stD L R F,dI p] S=.ok (.tup [stD A B C,.int a,.int g]) S'/\Ex S S'
def cRf(ps:List Pl)(us:List Bool)(L R F:List Int)(p:Wd×Int):Prop:=∃ y,y∈ys/\(∀ S,Ht [cD ps us,stD L R F,dI p] S=.exc ⟨y,none⟩ S)/\∀ S,∃ S',Hr [cD ps us,stD L R F,dI p] S=.ok (Xw y) S'/\Ex S S'
theorem Ggw{R F:List Int}{p:Wd×Int}{r:Res}(rs:Rs ps us L R F (dI p) r):cRf ps us L R F p\/∃ A B C a g,cDy ps us L R F p A B C a g:=by
 obtain⟨did,due,kd⟩:=rs
 cases kd with
 | no h=>exact .inl ⟨_,h,did,due⟩
 | yes h p0 g0=>exact .inr ⟨_,_,_,_,_,h,p0,g0,did,due⟩
theorem Gkz{R F:List Int}(hp:∀ p∈ps,p.ok)(hl:ps.length<=13)(hu:us.length+1=ps.length)(sf:StF ps L R F)(w:Wd)(n:Int):cRf ps us L R F (w,n)\/∃ A B C a g,cDy ps us L R F (w,n) A B C a g:=by
 have st:=sf.toR
 cases w with
 | f=>
  by_cases c:0<=n/\n<ps.length
  ·obtain⟨k,rfl⟩:∃ k:Nat,n=k:=⟨n.toNat,by omega⟩
   obtain⟨r,h⟩:=Grd (us:=us) hp hl st sf (k:=k) (by omega)
   exact Ggw (p:=(.f,(k:Int))) h
  ·exact .inl ⟨"NoSpring",Gba.2.2.2,fun S=>dd_nospring c,fun S=>Ghs c⟩
 | l=>
  by_cases c:0<=n/\n<us.length
  ·obtain⟨k,rfl⟩:∃ k:Nat,n=k:=⟨n.toNat,by omega⟩
   obtain⟨r,h⟩:=Gwz hp hl hu st sf (k:=k) (by omega)
   exact Ggw (p:=(.l,(k:Int))) h
  ·exact .inl ⟨"NoGate",Gba.1,fun S=>dd_nogate c,fun S=>Gip c⟩
 | r=>
  by_cases c:0<=n/\n<us.length
  ·obtain⟨k,rfl⟩:∃ k:Nat,n=k:=⟨n.toNat,by omega⟩
   obtain⟨r,h⟩:=Gjz hp hl hu st sf true (k:=k) (by omega)
   exact Ggw (p:=(.r,(k:Int))) h
  ·exact .inl ⟨"NoGate",Gba.1,fun S=>dd_mnogate (b:=true) c,fun S=>Gjw (b:=true) c⟩
 | e=>
  by_cases c:0<=n/\n<us.length
  ·obtain⟨k,rfl⟩:∃ k:Nat,n=k:=⟨n.toNat,by omega⟩
   obtain⟨r,h⟩:=Gjz hp hl hu st sf false (k:=k) (by omega)
   exact Ggw (p:=(.e,(k:Int))) h
  ·exact .inl ⟨"NoGate",Gba.1,fun S=>dd_mnogate (b:=false) c,fun S=>Gjw (b:=false) c⟩
end
def wR(M:List Int):List Int:=M.set 0 1
def wF(M:List Int):List Int:=M.set (M.length-1) 1
def we(M:List Int):List Int:=(M.set 0 0).set (M.length-1) 0
def tl1(M:List Int):List Int:=M.drop 1
def ini(M:List Int):List Int:=M.take (M.length-1)
def mdl(M:List Int):List Int:=(M.drop 1).take (M.length-2)
theorem Git{d:Nat}:HT.sIx n d (some (-1))=n-1:=by
 simp only[HT.sIx]
 rw[if_pos (by decide)]
 omega
theorem Gsm{d:Nat}(h:1<=n):HT.sIx n d (some 1)=1:=by
 have:=HT.Gam n d 1
 rw[show((1:Nat):Int)=1 from rfl] at this
 rw[this]
 omega
section
variable{M:List Int}{S:Sto}
theorem Gzu(h:2<=M.length):Gbf (.tup (M.map D.int)) (some 1) none S=.ok (.tup ((tl1 M).map D.int)) S:=by
 show(if HT.sIx (M.map D.int).length 0 (some 1)=0/\HT.sIx (M.map D.int).length (M.map D.int).length none=(M.map D.int).length then Out.ok (D.tup (M.map D.int)) S else .ok (.tup (DL.Qk (M.map D.int) (some 1) none)) S)=_
 have e1:HT.sIx (M.map D.int).length 0 (some 1)=1:=Gsm (by rw[List.length_map]; omega)
 rw[if_neg (by rw[e1]; omega)]
 unfold DL.Qk
 unfold tl1
 rw[e1,HT.Wb,List.map_drop,List.take_of_length_le (by simp)]
theorem Gzv(h:2<=M.length):Gbf (.tup (M.map D.int)) none (some (-1)) S=.ok (.tup ((ini M).map D.int)) S:=by
 show(if HT.sIx (M.map D.int).length 0 none=0/\HT.sIx (M.map D.int).length (M.map D.int).length (some (-1))=(M.map D.int).length then Out.ok (D.tup (M.map D.int)) S else .ok (.tup (DL.Qk (M.map D.int) none (some (-1)))) S)=_
 rw[if_neg (by rw[Git,List.length_map]; omega)]
 unfold DL.Qk
 unfold ini
 rw[Git,HT.Wb,List.map_take,List.length_map]
 rfl
theorem Grg(h:2<=M.length):Gbf (.tup (M.map D.int)) (some 1) (some (-1)) S=.ok (.tup ((mdl M).map D.int)) S:=by
 show(if HT.sIx (M.map D.int).length 0 (some 1)=0/\HT.sIx (M.map D.int).length (M.map D.int).length (some (-1))=(M.map D.int).length then Out.ok (D.tup (M.map D.int)) S else .ok (.tup (DL.Qk (M.map D.int) (some 1) (some (-1)))) S)=_
 have e1:HT.sIx (M.map D.int).length 0 (some 1)=1:=Gsm (by rw[List.length_map]; omega)
 rw[if_neg (by rw[e1]; omega)]
 unfold DL.Qk
 unfold mdl
 rw[e1,Git,List.map_take,List.map_drop,List.length_map]
 rfl
theorem Gzw(h:2<=M.length):wR M=1::tl1 M:=by
 cases M with
 | nil=>simp at h
 | cons m M=>rfl
theorem Gzx(h:2<=M.length):wF M=ini M++[1]:=by
 unfold wF ini
 rw[List.set_eq_take_append_cons_drop,if_pos (by omega),List.drop_of_length_le (by omega)]
theorem Gzy(h:2<=M.length):we M=0::mdl M++[0]:=by
 cases M with
 | nil=>simp at h
 | cons m M=>
  have h:1<=M.length:=by simpa using h
  unfold we
  rw[List.set_cons_zero,List.length_cons,Nat.add_sub_cancel]
  obtain⟨n,hn⟩:∃ n,M.length=n+1:=⟨M.length-1,by omega⟩
  rw[hn,List.set_cons_succ,List.set_eq_take_append_cons_drop,if_pos (by omega),List.drop_of_length_le (by omega)]
  have e:mdl (m::M)=M.take n:=by
   unfold mdl
   rw[List.length_cons,hn]
   rfl
  rw[e]
  rfl
theorem Gn2:(we M).length=M.length:=by unfold we; simp
theorem Gzz(h:2<=M.length)(hl:M.length<=1000):Gw (.tup [.int 1]) (.tup ((tl1 M).map D.int)) S=.ok (.tup ((wR M).map D.int)) S:=by
 rw[Zc (by simp[tl1]; omega),Gzw h]
 rfl
theorem Gz0(h:2<=M.length)(hl:M.length<=1000):Gw (.tup ((ini M).map D.int)) (.tup [.int 1]) S=.ok (.tup ((wF M).map D.int)) S:=by
 rw[Zc (by simp[ini]; omega),Gzx h,List.map_append]
 rfl
theorem Gj0(hl:M.length<=1000):Gw (.tup [.int 0]) (.tup ((mdl M).map D.int)) S=.ok (.tup ((0::mdl M).map D.int)) S:=by
 rw[Zc (by simp[mdl]; omega)]
 rfl
theorem Gj1(h:2<=M.length)(hl:M.length<=1000):Gw (.tup ((0::mdl M).map D.int)) (.tup [.int 0]) S=.ok (.tup ((we M).map D.int)) S:=by
 rw[Zc (by simp[mdl]; omega),Gzy h,List.map_append]
 rfl
end
section
variable{L R F A B C:List Int}{c dd:D}{a g:Int}{S:Sto}
theorem Gsn(h1:2<=R.length/\R.length<=1000)(h2:2<=F.length/\F.length<=1000):Uj [stD L R F] S=.ok (stD L (wR R) (wF F)) S:=by
 refine(Gy (m:=4) (b:=Kt)).trans ?_
 show fin (Kt [some (stD L R F),none,none,none] S)=_
 unfold Kt
 refine(Gh (ρ':=[some (stD L R F),some (.tup (L.map D.int)),some (.tup (R.map D.int)),some (.tup (F.map D.int))]) (S':=S) rfl).trans ?_
 simp[Gzu h1.1,Gzv h2.1,Gzz h1.1 h1.2,Gz0 h2.1 h2.2]
 rfl
theorem Gz1(h1:2<=B.length/\B.length<=1000)(h2:2<=C.length/\C.length<=1000):Wo [stD A B C] S=.ok (stD A (we B) (we C)) S:=by
 refine(Gy (m:=4) (b:=Ku)).trans ?_
 show fin (Ku [some (stD A B C),none,none,none] S)=_
 unfold Ku
 refine(Gh (ρ':=[some (stD A B C),some (.tup (A.map D.int)),some (.tup (B.map D.int)),some (.tup (C.map D.int))]) (S':=S) rfl).trans ?_
 have e1:=Gj0 (M:=B) (S:=S) h1.2
 have e2:=Gj1 (M:=B) (S:=S) h1.1 h1.2
 have e3:=Gj0 (M:=C) (S:=S) h2.2
 have e4:=Gj1 (M:=C) (S:=S) h2.1 h2.2
 simp only[List.map_cons] at e1 e2 e3 e4
 simp[Grg h1.1,Grg h2.1,e1,e2,e3,e4]
 rfl
theorem od_no(h1:2<=R.length/\R.length<=1000)(h2:2<=F.length/\F.length<=1000)(h:Ht [c,stD L (wR R) (wF F),dd] S=.exc ⟨y,none⟩ S)(hy:y∈ys):Ha [c,stD L R F,dd] S=.exc ⟨y,none⟩ S:=by
 have w:=Gsn (L:=L) (S:=S) h1 h2
 have gx:=Qn h hy
 refine(Gy (m:=6) (b:=Kc)).trans ?_
 show fin (Kc [some c,some (stD L R F),some dd,none,none,none] S)=_
 unfold Kc
 exact Jn (ρ':=[some c,some (stD L R F),some dd,none,none,none]) (by simp[w,gx])
theorem od_yes(h1:2<=R.length/\R.length<=1000)(h2:2<=F.length/\F.length<=1000)(h3:2<=B.length/\B.length<=1000)(h4:2<=C.length/\C.length<=1000)(h:Ht [c,stD L (wR R) (wF F),dd] S=.ok (.tup [stD A B C,.int a,.int g]) S):Ha [c,stD L R F,dd] S=.ok (.tup [stD A (we B) (we C),.int a,.int g]) S:=by
 have w:=Gsn (L:=L) (S:=S) h1 h2
 have w2:=Gz1 (A:=A) (S:=S) h3 h4
 have gx:=Gak h
 refine(Gy (m:=6) (b:=Kc)).trans ?_
 show fin (Kc [some c,some (stD L R F),some dd,none,none,none] S)=_
 unfold Kc
 refine(Gh (ρ':=[some c,some (stD L R F),some dd,some (stD A B C),some (.int a),some (.int g)]) (S':=S) (by
  have:cl 3 (gX ys Ht) (ac (vr 0) (ac (cl 1 (Gm Uj) (ac (vr 1) an)) (ac (vr 2) an))) [some c,some (stD L R F),some dd,none,none,none] S=.ok (.tup [stD A B C,.int a,.int g]) S:=by simp[w,gx]
  rw[Vo,this,Hd]
  rfl)).trans ?_
 simp[w2]
abbrev ro(c st dd:D)(x3 x4 x5 x6 x7:Option D):Lc:=[some c,some st,some dd,x3,x4,x5,x6,x7]
theorem Gn3{v:D}(h1:2<=R.length/\R.length<=1000)(h2:2<=F.length/\F.length<=1000)(h:Hr [c,stD L (wR R) (wF F),dd] S=.ok v S'):fin ((sq (sa (vr 1) (gt (gcons (gn 3) (gcons (gn 4) (gcons (gn 5) gnil))) 3))
  (sq (sa (tp (ac (vr 3) (ac (o2 Gw (tp (ac (cn (.int 1)) an)) (sl2 (vr 4) (osome (cn (.int 1))) onone)) (ac (o2 Gw (sl2 (vr 5) onone (osome (o1 Ga2 (cn (.int 1))))) (tp (ac (cn (.int 1)) an))) an)))) (gn 6))
  (sq (sa (cl 3 (Gm Hr) (ac (vr 0) (ac (vr 6) (ac (vr 2) an)))) (gn 7)) X))) (ro c (stD L R F) dd none none none none none) S)=fin (X (ro c (stD L R F) dd (some (.tup (L.map D.int))) (some (.tup (R.map D.int))) (some (.tup (F.map D.int))) (some (stD L (wR R) (wF F))) (some v)) S'):=by
 refine(Gh (ρ':=ro c (stD L R F) dd (some (.tup (L.map D.int))) (some (.tup (R.map D.int))) (some (.tup (F.map D.int))) none none) (S':=S) rfl).trans ?_
 refine(Gh (ρ':=ro c (stD L R F) dd (some (.tup (L.map D.int))) (some (.tup (R.map D.int))) (some (.tup (F.map D.int))) (some (stD L (wR R) (wF F))) none) (S':=S) (by
  simp[Gzu h1.1,Gzv h2.1,Gzz h1.1 h1.2,Gz0 h2.1 h2.2]
  rfl)).trans ?_
 exact Gh (by simp[h])
theorem Gz2{z:Str}(h1:2<=R.length/\R.length<=1000)(h2:2<=F.length/\F.length<=1000)(h:Hr [c,stD L (wR R) (wF F),dd] S=.ok (.str z) S'):Gz [c,stD L R F,dd] S=.ok (.str z) S':=by
 refine(Gy (m:=8) (b:=Hz)).trans ?_
 show fin (Hz (ro c (stD L R F) dd none none none none none) S)=_
 unfold Hz
 refine(Gn3 h1 h2 h).trans ?_
 refine Jf ?_
 rw[Jb (S1:=S') (by simp[isD,isT,tyN,Uc])]
 rfl
theorem Gw0(h1:2<=R.length/\R.length<=1000)(h2:2<=F.length/\F.length<=1000)(h3:2<=B.length/\B.length<=1000)(h4:2<=C.length/\C.length<=1000)(h:Hr [c,stD L (wR R) (wF F),dd] S=.ok (.tup [stD A B C,.int a,.int g]) S'):Gz [c,stD L R F,dd] S=.ok (.tup [stD A (we B) (we C),.int a,.int g]) S':=by
 refine(Gy (m:=8) (b:=Hz)).trans ?_
 show fin (Hz (ro c (stD L R F) dd none none none none none) S)=_
 unfold Hz
 refine(Gn3 h1 h2 h).trans ?_
 generalize stD L (wR R) (wF F)=W
 refine(Gh (ρ':=ro c (stD L R F) dd (some (.tup (L.map D.int))) (some (.tup (R.map D.int))) (some (.tup (F.map D.int))) (some W) (some (.tup [stD A B C,.int a,.int g]))) (S':=S') (by
  rw[Hv (S1:=S') (by simp[isD,isT,tyN,Uc])]
  rfl)).trans ?_
 have g0:DL.getD (.tup [stD A B C,.int a,.int g]) (.int 0) S'=.ok (stD A B C) S':=Jd (Hj (by decide) rfl)
 refine(Gh (ρ':=ro c (stD L R F) dd (some (.tup (A.map D.int))) (some (.tup (B.map D.int))) (some (.tup (C.map D.int))) (some W) (some (.tup [stD A B C,.int a,.int g]))) (S':=S') (by
  have:o2 DL.getD (vr 7) (cn (.int 0)) (ro c (stD L R F) dd (some (.tup (L.map D.int))) (some (.tup (R.map D.int))) (some (.tup (F.map D.int))) (some W) (some (.tup [stD A B C,.int a,.int g]))) S'=.ok (stD A B C) S':=by simp[g0]
  rw[Vo,this,Hd]
  rfl)).trans ?_
 have e1:=Gj0 (M:=B) (S:=S') h3.2
 have e2:=Gj1 (M:=B) (S:=S') h3.1 h3.2
 have e3:=Gj0 (M:=C) (S:=S') h4.2
 have e4:=Gj1 (M:=C) (S:=S') h4.1 h4.2
 have s1:Gbf (.tup [stD A B C,.int a,.int g]) (some 1) none S'=.ok (.tup [.int a,.int g]) S':=Gne
 have a1:∀ x:D,Gw (.tup [x]) (.tup [.int a,.int g]) S'=.ok (.tup [x,.int a,.int g]) S':=fun x=>Zc (by simp)
 simp only[List.map_cons] at e1 e2 e3 e4
 simp[Grg h3.1,Grg h4.1,e1,e2,e3,e4,s1,a1]
 rfl
end
section
variable{ps:List Pl}{us:List Bool}{L R F:List Int}
theorem Ght:(plc mid)[mid.length+1]?=some .e:=by
 show(mid++[Pl.e])[mid.length]?=_
 rw[List.getElem?_append_right (Nat.le_refl _),Nat.sub_self]; rfl
theorem Grh(st:StR 0 (plc mid) L R F):StR 3 (plc mid) L (wR R) (wF F):=by
 have lm:(plc mid).length=mid.length+2:=Gbs
 refine⟨st.lL,by unfold wR; rw[List.length_set]; exact st.lR,by unfold wF; rw[List.length_set]; exact st.lF,fun i p hp=>?_⟩
 obtain⟨l,r,f,e1,e2,e3,v1,v2,v3,v4⟩:=st.at' i p hp
 have eF:F.length-1=mid.length+1:=by rw[st.lF,lm]; omega
 have lr:=(List.getElem?_eq_some_iff.mp e2).1
 have lf:=(List.getElem?_eq_some_iff.mp e3).1
 have at0:∃ r',(wR R)[i]?=some r'/\((i=0/\r'=1)\/(i≠0/\r'=r)):=by
  unfold wR
  by_cases c:i=0
  ·subst c
   exact⟨1,List.getElem?_set_self lr,.inl ⟨rfl,rfl⟩⟩
  ·exact⟨r,(List.getElem?_set_ne (Ne.symm c)).trans e2,.inr ⟨c,rfl⟩⟩
 have at1:∃ f',(wF F)[i]?=some f'/\((i=mid.length+1/\f'=1)\/(i≠mid.length+1/\f'=f)):=by
  unfold wF
  rw[eF]
  by_cases c:i=mid.length+1
  ·rw[<- c]
   exact⟨1,List.getElem?_set_self lf,.inl ⟨rfl,rfl⟩⟩
  ·exact⟨f,(List.getElem?_set_ne (Ne.symm c)).trans e3,.inr ⟨c,rfl⟩⟩
 obtain⟨r',a1,a2⟩:=at0
 obtain⟨f',b1,b2⟩:=at1
 refine⟨l,r',f',e1,a1,b1,v1,by omega,by omega,?_⟩
 cases p with
 | e=>
  obtain⟨w1,w2,w3⟩:=v4
  exact⟨w1,by omega,by omega⟩
 | c=>
  have n0:i≠0/\i≠mid.length+1:=by
   refine⟨fun z=>?_,fun z=>?_⟩
   ·subst z; cases (Option.some.inj hp)
   ·subst z; rw[Ght] at hp; cases (Option.some.inj hp)
  obtain⟨w1,w2⟩:=v4
  exact⟨w1,by omega⟩
 | p br de ro pr=>
  have n0:i≠0/\i≠mid.length+1:=by
   refine⟨fun z=>?_,fun z=>?_⟩
   ·subst z; cases (Option.some.inj hp)
   ·subst z; rw[Ght] at hp; cases (Option.some.inj hp)
  obtain⟨w1,w2⟩:=v4
  exact⟨w1,by omega⟩
end
section
variable{ps:List Pl}{us:List Bool}{L R F A B C:List Int}
theorem Gz3(hm:∀ p∈mid,p.isE=false)(st:StR cr (plc mid) A B C):StR 0 (plc mid) A (we B) (we C):=by
 have lm:(plc mid).length=mid.length+2:=Gbs
 have eB:B.length-1=mid.length+1:=by rw[st.lR,lm]; omega
 have eC:C.length-1=mid.length+1:=by rw[st.lF,lm]; omega
 refine⟨st.lL,by rw[Gn2]; exact st.lR,by rw[Gn2]; exact st.lF,fun i p hp=>?_⟩
 obtain⟨l,r,f,e1,e2,e3,v1,v2,v3,v4⟩:=st.at' i p hp
 have key:∀ {M:List Int} {x:Int},M.length-1=mid.length+1->M[i]?=some x->∃ x',(we M)[i]?=some x'/\(((i=0\/i=mid.length+1)/\x'=0)\/(i≠0/\i≠mid.length+1/\x'=x)):=fun{M x} eM hx=>by
  have lx:=(List.getElem?_eq_some_iff.mp hx).1
  unfold we
  rw[eM]
  by_cases c:i=mid.length+1
  ·exact⟨0,by rw[<- c]; exact List.getElem?_set_self (by rw[List.length_set]; exact lx),.inl ⟨.inr c,rfl⟩⟩
  ·rw[List.getElem?_set_ne (Ne.symm c)]
   by_cases c0:i=0
   ·subst c0
    exact⟨0,List.getElem?_set_self lx,.inl ⟨.inl rfl,rfl⟩⟩
   ·exact⟨x,(List.getElem?_set_ne (Ne.symm c0)).trans hx,.inr ⟨c0,c,rfl⟩⟩
 obtain⟨r',a1,a2⟩:=key eB e2
 obtain⟨f',b1,b2⟩:=key eC e3
 refine⟨l,r',f',e1,a1,b1,v1,by omega,by omega,?_⟩
 cases p with
 | e=>
  obtain⟨w1,_,_⟩:=v4
  rcases Gwp hp with⟨z,_⟩ | ⟨z,_⟩ | ⟨_,_,z⟩
  ·exact⟨w1,by omega,by omega⟩
  ·exact⟨w1,by omega,by omega⟩
  ·exact absurd (hm _ z) (by decide)
 | c=>
  obtain⟨w1,w2⟩:=v4
  exact⟨w1,by omega⟩
 | p br de ro pr=>
  obtain⟨w1,w2⟩:=v4
  exact⟨w1,by omega⟩
structure So(ps:List Pl)(L R F:List Int):Prop where
 ex:∃ mid,ps=plc mid/\∀ p∈mid,p.isE=false
 h3:3<=ps.length
 st:StR 0 ps L R F
structure Dy(ps:List Pl)(us:List Bool)(L R F:List Int)(p:Wd×Int)(A B C:List Int)(a g:Int):Prop where
 sf:So ps A B C
 a0:0<=a/\a<=1000
 g0:0<=g/\g<=1
 did:∀ S,Ha [cD ps us,stD L R F,dI p] S=.ok (.tup [stD A B C,.int a,.int g]) S
 due:∀ S,∃ S',Gz [cD ps us,stD L R F,dI p] S=.ok (.tup [stD A B C,.int a,.int g]) S'/\Ex S S'
def Rf(ps:List Pl)(us:List Bool)(L R F:List Int)(p:Wd×Int):Prop:=∃ y,y∈ys/\(∀ S,Ha [cD ps us,stD L R F,dI p] S=.exc ⟨y,none⟩ S)/\∀ S,∃ S',Gz [cD ps us,stD L R F,dI p] S=.ok (Xw y) S'/\Ex S S'
theorem Gbu(hp:∀ p∈ps,p.ok)(hl:ps.length<=13)(hu:us.length+1=ps.length)(sf:So ps L R F)(w:Wd)(n:Int):Rf ps us L R F (w,n)\/∃ A B C a g,Dy ps us L R F (w,n) A B C a g:=by
 obtain⟨⟨mid,e,hm⟩,h3,st⟩:=sf
 subst e
 have h1:2<=R.length/\R.length<=1000:=by have:=st.lR; omega
 have h2:2<=F.length/\F.length<=1000:=by have:=st.lF; omega
 rcases Gkz hp hl hu (Gre hp hl (Grh st)) w n with⟨y,hy,did,due⟩ | ⟨A,B,C,a,g,d⟩
 ·refine .inl ⟨y,hy,fun S=>od_no h1 h2 (did S) hy,fun S=>?_⟩
  obtain⟨z,hz⟩:=Gea hy
  obtain⟨S',e,x⟩:=due S
  rw[hz] at e ⊢
  exact⟨S',Gz2 h1 h2 e,x⟩
 ·have h3':2<=B.length/\B.length<=1000:=by have:=d.sf.lR; omega
  have h4':2<=C.length/\C.length<=1000:=by have:=d.sf.lF; omega
  refine .inr ⟨A,we B,we C,a,g,⟨⟨mid,rfl,hm⟩,h3,Gz3 hm d.sf.toR⟩,d.a0,d.g0,fun S=>od_yes h1 h2 h3' h4' (d.did S),fun S=>?_⟩
  obtain⟨S',e,x⟩:=d.due S
  exact⟨S',Gw0 h1 h2 h3' h4' e,x⟩
structure Dd(ps:List Pl)(us:List Bool)(L R F:List Int)(p:Wd×Nat)(A B C:List Int)(a g:Int):Prop where
 sf:So ps A B C
 a0:0<=a/\a<=1000
 g0:0<=g/\g<=1
 due:∀ S,∃ S',Gz [cD ps us,stD L R F,Vs p] S=.ok (.tup [stD A B C,.int a,.int g]) S'/\Ex S S'
 lt:p.2<ps.length
def Wh(ps:List Pl)(us:List Bool)(L R F:List Int)(p:Wd×Nat)(r:Res):Prop:=(∃ y,y∈ys/\r=.no y)\/∃ A B C a g,r=.yes (.tup [stD A B C,.int a,.int g])/\Dd ps us L R F p A B C a g
theorem Gn4{L R F:List Int}(hp:∀ p∈ps,p.ok)(hl:ps.length<=13)(hu:us.length+1=ps.length)(sf:So ps L R F)(w:Wd)(hk:k<ps.length):
  ∃ r,(∀ S,∃ S',Gz [cD ps us,stD L R F,Vs (w,k)] S=.ok r.toD S'/\Ex S S')/\Wh ps us L R F (w,k) r:=by
 rcases Gbu hp hl hu sf w (k:Int) with⟨y,hy,_,due⟩ | ⟨A,B,C,a,g,d⟩
 ·exact⟨.no y,due,.inl ⟨y,hy,rfl⟩⟩
 ·exact⟨.yes _,d.due,.inr ⟨A,B,C,a,g,rfl,d.sf,d.a0,d.g0,d.due,hk⟩⟩
structure Tr(ps:List Pl)(us:List Bool)(l:List (Wd×Int))(k:Nat)(sL sR sF:Nat->List Int)(PA GA:Nat->Int):Prop where
 le:k<=l.length
 p0:PA 0=0
 g0:GA 0=0
 ok:∀ i p,i<k->l[i]?=some p->Dy ps us (sL i) (sR i) (sF i) p (sL (i+1)) (sR (i+1)) (sF (i+1)) (PA (i+1)-PA i) (GA (i+1)-GA i)
 no:k<l.length->∃ p,l[k]?=some p/\Rf ps us (sL k) (sR k) (sF k) p
theorem Gso(hp:∀ p∈ps,p.ok)(hl:ps.length<=13)(hu:us.length+1=ps.length):∀ (l:List (Wd×Int)) (L R F:List Int),So ps L R F->∃ k sL sR sF PA GA,Tr ps us l k sL sR sF PA GA/\sL 0=L/\sR 0=R/\sF 0=F
 | [],L,R,F,_=>⟨0,fun _=>L,fun _=>R,fun _=>F,fun _=>0,fun _=>0,⟨Nat.le_refl _,rfl,rfl,fun i p h=>absurd h (by omega),fun h=>absurd h (by simp)⟩,rfl,rfl,rfl⟩
 | (w,n)::l,L,R,F,sf=>by
  rcases Gbu hp hl hu sf w n with rf | ⟨A,B,C,a,g,d⟩
  ·exact⟨0,fun _=>L,fun _=>R,fun _=>F,fun _=>0,fun _=>0,⟨Nat.zero_le _,rfl,rfl,fun i p h=>absurd h (by omega),fun _=>⟨_,rfl,rf⟩⟩,rfl,rfl,rfl⟩
  ·obtain⟨k,sL,sR,sF,PA,GA,t,e1,e2,e3⟩:=Gso hp hl hu l A B C d.sf
   refine⟨k+1,fun i=>match i with | 0=>L | i+1=>sL i,fun i=>match i with | 0=>R | i+1=>sR i,fun i=>match i with | 0=>F | i+1=>sF i,fun i=>match i with | 0=>0 | i+1=>a+PA i,fun i=>match i with | 0=>0 | i+1=>g+GA i,⟨by have:=t.le; simp; omega,rfl,rfl,fun i p hi h=>?_,fun h=>?_⟩,rfl,rfl,rfl⟩
   ·cases i with
    | zero=>
     cases (Option.some.inj h)
     show Dy ps us L R F (w,n) (sL 0) (sR 0) (sF 0) (a+PA 0-0) (g+GA 0-0)
     rw[e1,e2,e3,t.p0,t.g0,show a+0-0=a by omega,show g+0-0=g by omega]
     exact d
    | succ i=>
     have:=t.ok i p (by omega) h
     show Dy ps us (sL i) (sR i) (sF i) p (sL (i+1)) (sR (i+1)) (sF (i+1)) (a+PA (i+1)-(a+PA i)) (g+GA (i+1)-(g+GA i))
     rw[show a+PA (i+1)-(a+PA i)=PA (i+1)-PA i by omega,show g+GA (i+1)-(g+GA i)=GA (i+1)-GA i by omega]
     exact this
   ·obtain⟨p,h1,h2⟩:=t.no (by simpa using h)
    exact⟨p,h1,h2⟩
end
theorem Giu{x:Str}{fn:Fn}{t:Ev (List D)}(h:ρ[i]?=some (some (.fv x)))(ht:t ρ S=.ok ds S1)(hl:ds.length=n):clv i x n fn t ρ S=fn ds S1:=by
 unfold clv
 rw[h]
 simp only[if_true,ht,Gx,hl]
def enL(l:List D):List D:=l.mapIdx fun k d=>.tup [.int k,d]
theorem Gn5{l:List D}(h:(enL l)[k]?=some d):∃ e,l[k]?=some e/\d=.tup [.int k,e]:=by
 unfold enL at h
 rw[List.getElem?_mapIdx] at h
 cases z:l[k]? with
 | none=>rw[z] at h; cases h
 | some e=>rw[z] at h; cases h; exact⟨e,rfl,rfl⟩
theorem Geb{l:List D}:(enL l).length=l.length:=by unfold enL; simp
section
variable{c:D}{sd:Nat->D}{PA GA:Nat->Int}{l:List D}{q:Nat}{fz:Bool}{S:Sto}
abbrev rr(c s:D)(q:Nat)(x4 x5 x6 x7 x8 x9 x10:Option D):Lc:=[some c,some s,some (.lst q),some (.fv "open_done"),x4,x5,x6,x7,x8,x9,x10]
theorem Gn6(hq:S[q]?=some ⟨fz,l⟩)(h:∀ i d,l[i]?=some d->∀ S,Ha [c,sd i,d] S=.ok (.tup [sd (i+1),.int (PA (i+1)-PA i),.int (GA (i+1)-GA i)]) S)(p0:PA 0=0)(g0:GA 0=0):
  Gag [c,sd 0,.lst q,.fv "open_done"] S=.ok (.tup [sd l.length,.int (PA l.length),.int (GA l.length)]) S:=by
 obtain⟨ρ',S',ef,e1,g7,g8,g9,g10,e2⟩:=Up (nxt:=fun k S=>(S[q]?).bind fun c=>(c.xs[k]?).map fun d=>D.tup [.int k,d]) (g:=gt (gcons (gn 7) (gcons (gn 8) gnil)) 2) (b:=Qz) (l:=enL l)
  (fun k ρ S'=>S'=S/\∃ g7 g8 g9 g10,ρ=rr c (sd 0) q (some (sd k)) (some (.int (PA k))) (some (.int (GA k))) g7 g8 g9 g10)
  (fun k ρ S' ⟨e,_⟩=>by
   subst e
   show(S'[q]?).bind _=_
   rw[hq]
   unfold enL
   rw[List.getElem?_mapIdx]
   rfl)
  (fun k d ρ S' hd ⟨e,g7,g8,g9,g10,e2⟩=>by
   subst e e2
   obtain⟨x,hx,rfl⟩:=Gn5 hd
   have did:=h k x hx S'
   refine⟨rr c (sd 0) q (some (sd k)) (some (.int (PA k))) (some (.int (GA k))) (some (.int k)) (some x) g9 g10,rr c (sd 0) q (some (sd (k+1))) (some (.int (PA (k+1)))) (some (.int (GA (k+1)))) (some (.int k)) (some x) (some (.int (PA (k+1)-PA k))) (some (.int (GA (k+1)-GA k))),S',rfl,?_,rfl,_,_,_,_,rfl⟩
   have ec:clv 3 "open_done" 3 (gX ys Ha) (ac (vr 0) (ac (vr 4) (ac (vr 8) an))) (rr c (sd 0) q (some (sd k)) (some (.int (PA k))) (some (.int (GA k))) (some (.int k)) (some x) g9 g10) S'=gX ys Ha [c,sd k,x] S':=Giu (ds:=[c,sd k,x]) (S1:=S') rfl (by simp) rfl
   have et:Kv (rr c (sd 0) q (some (sd k)) (some (.int (PA k))) (some (.int (GA k))) (some (.int k)) (some x) g9 g10) S'=.nx (rr c (sd 0) q (some (sd (k+1))) (some (.int (PA k))) (some (.int (GA k))) (some (.int k)) (some x) (some (.int (PA (k+1)-PA k))) (some (.int (GA (k+1)-GA k)))) S':=by
    unfold Kv
    rw[Vo,ec,Gak did,Hd]
    rfl
   have a1:PA k+(PA (k+1)-PA k)=PA (k+1):=by omega
   have a2:GA k+(GA (k+1)-GA k)=GA (k+1):=by omega
   unfold Qz
   rw[Je (Gio et)]
   simp[sag,a1,a2]) (l.length+1) 0 (rr c (sd 0) q (some (sd 0)) (some (.int (PA 0))) (some (.int (GA 0))) none none none none) S (Nat.zero_le _) ⟨rfl,none,none,none,none,rfl⟩ (by rw[Geb]; omega)
 subst e1 e2
 rw[Geb] at ef
 rw[p0,g0] at ef
 refine(Gy (m:=11) (b:=Vh)).trans ?_
 show fin (Vh (rr c (sd 0) q none none none none none none none) S')=_
 unfold Vh
 refine(Gh (ρ':=rr c (sd 0) q (some (sd 0)) none none none none none none) (S':=S') (by simp)).trans ?_
 refine(Gh (ρ':=rr c (sd 0) q (some (sd 0)) (some (.int 0)) none none none none none) (S':=S') (by simp)).trans ?_
 refine(Gh (ρ':=rr c (sd 0) q (some (sd 0)) (some (.int 0)) (some (.int 0)) none none none none) (S':=S') (by simp)).trans ?_
 refine(Gh (ρ':=rr c (sd 0) q (some (sd l.length)) (some (.int (PA l.length))) (some (.int (GA l.length))) g7 g8 g9 g10) (S':=S') ?_).trans ?_
 ·rw[Uo]
  have:Wf (ac (vr 2) an) (rr c (sd 0) q (some (sd 0)) (some (.int 0)) (some (.int 0)) none none none none) S'=.ok ⟨fun k S=>(S[q]?).bind fun c=>(c.xs[k]?).map fun d=>D.tup [.int k,d],l.length+1⟩ S':=by
   simp[Wf,hq]
  rw[this,Hd]
  exact ef
 simp
theorem Gw1(hq:S[q]?=some ⟨fz,l⟩)(h:∀ i d,l[i]?=some d->∀ S,Ha [c,sd i,d] S=.ok (.tup [sd (i+1),.int (PA (i+1)-PA i),.int (GA (i+1)-GA i)]) S)(p0:PA 0=0)(g0:GA 0=0):
  Jw [c,sd 0,.lst q] S=.ok (.tup [sd l.length,.int (PA l.length),.int (GA l.length)]) S:=by
 have e:=Gak (Gn6 hq h p0 g0)
 refine(Gy (m:=3) (b:=Kw)).trans ?_
 show fin (Kw [some c,some (sd 0),some (.lst q)] S)=_
 unfold Kw
 simp[e]
end
theorem Gj2{nxt:Nat->Sto->Option D}{g:Tg}{b:Sv}{l:List D}{k0:Nat}{d0:D}{x:XD}{P:Sto->Prop}(I:Nat->Lc->Sto->Prop)(h0:l[k0]?=some d0)(hn:∀ k ρ S,I k ρ S->nxt k S=l[k]?)(hs:∀ k d ρ S,k<k0->l[k]?=some d->I k ρ S->∃ ρ1 ρ2 S2,g d ρ=some ρ1/\b ρ1 S=.nx ρ2 S2/\I (k+1) ρ2 S2)
  (hx:∀ ρ S,I k0 ρ S->∃ ρ1 ρ2 S2,g d0 ρ=some ρ1/\b ρ1 S=.exc x ρ2 S2/\P S2):∀ (n k:Nat) (ρ:Lc) (S:Sto),k<=k0->I k ρ S->k0<n+k->∃ ρ' S',Ua nxt g b n k ρ S=.exc x ρ' S'/\P S'
 | 0,k,ρ,S,h1,_,h2=>by omega
 | n+1,k,ρ,S,h1,hI,h2=>by
  unfold Ua
  rw[hn k ρ S hI]
  by_cases c:k=k0
  ·subst c
   obtain⟨ρ1,ρ2,S2,h3,h4,h5⟩:=hx ρ S hI
   rw[h0]
   simp only[h3,h4]
   exact⟨_,_,rfl,h5⟩
  ·have lt:k0<l.length:=(List.getElem?_eq_some_iff.mp h0).1
   have e:=List.getElem?_eq_getElem (l:=l) (i:=k) (by omega)
   generalize l[k]'(by omega)=d at e
   obtain⟨ρ1,ρ2,S2,h3,h4,h5⟩:=hs k d ρ S (by omega) e hI
   obtain⟨ρ',S',h6,h7⟩:=Gj2 I h0 hn hs hx n (k+1) ρ2 S2 (by omega) h5 (by omega)
   refine⟨ρ',S',?_,h7⟩
   rw[e]
   simp only[h3,h4]
   exact h6
theorem Gn7{nxt:Nat->Sto->Option D}{g:Tg}{b:Sv}{l:List D}{k0:Nat}{d0 r:D}{P:Sto->Prop}(I:Nat->Lc->Sto->Prop)(h0:l[k0]?=some d0)(hn:∀ k ρ S,I k ρ S->nxt k S=l[k]?)(hs:∀ k d ρ S,k<k0->l[k]?=some d->I k ρ S->∃ ρ1 ρ2 S2,g d ρ=some ρ1/\b ρ1 S=.nx ρ2 S2/\I (k+1) ρ2 S2)
  (hx:∀ ρ S,I k0 ρ S->∃ ρ1 S2,g d0 ρ=some ρ1/\b ρ1 S=.rt r S2/\P S2):∀ (n k:Nat) (ρ:Lc) (S:Sto),k<=k0->I k ρ S->k0<n+k->∃ S',Ua nxt g b n k ρ S=.rt r S'/\P S'
 | 0,k,ρ,S,h1,_,h2=>by omega
 | n+1,k,ρ,S,h1,hI,h2=>by
  unfold Ua
  rw[hn k ρ S hI]
  by_cases c:k=k0
  ·subst c
   obtain⟨ρ1,S2,h3,h4,h5⟩:=hx ρ S hI
   rw[h0]
   simp only[h3,h4]
   exact⟨_,rfl,h5⟩
  ·have lt:k0<l.length:=(List.getElem?_eq_some_iff.mp h0).1
   have e:=List.getElem?_eq_getElem (l:=l) (i:=k) (by omega)
   generalize l[k]'(by omega)=d at e
   obtain⟨ρ1,ρ2,S2,h3,h4,h5⟩:=hs k d ρ S (by omega) e hI
   obtain⟨S',h6,h7⟩:=Gn7 I h0 hn hs hx n (k+1) ρ2 S2 (by omega) h5 (by omega)
   refine⟨S',?_,h7⟩
   rw[e]
   simp only[h3,h4]
   exact h6
theorem Gsp{l:List D}(h:l[k]?=some d):(enL l)[k]?=some (.tup [.int k,d]):=by
 unfold enL
 rw[List.getElem?_mapIdx,h]
 rfl
theorem Gal:("Falls":Str)∈ys:=by decide +kernel
section
variable{c:D}{sd:Nat->D}{PA GA:Nat->Int}{l:List D}{q k0:Nat}{fz:Bool}{S:Sto}{d0:D}{y:Str}
theorem Gn8(hq:S[q]?=some ⟨fz,l⟩)(h0:l[k0]?=some d0)(hy:y∈ys)(hn:∀ S,Ha [c,sd k0,d0] S=.exc ⟨y,none⟩ S)(h:∀ i d,i<k0->l[i]?=some d->∀ S,Ha [c,sd i,d] S=.ok (.tup [sd (i+1),.int (PA (i+1)-PA i),.int (GA (i+1)-GA i)]) S)(p0:PA 0=0)(g0:GA 0=0):
  Gag [c,sd 0,.lst q,.fv "open_done"] S=.exc ⟨"Falls",some k0⟩ S:=by
 have lt:k0<l.length:=(List.getElem?_eq_some_iff.mp h0).1
 obtain⟨ρ',S',ef,e1⟩:=Gj2 (nxt:=fun k S=>(S[q]?).bind fun c=>(c.xs[k]?).map fun d=>D.tup [.int k,d]) (g:=gt (gcons (gn 7) (gcons (gn 8) gnil)) 2) (b:=Qz) (l:=enL l) (x:=⟨"Falls",some k0⟩) (P:=fun S'=>S'=S)
  (fun k ρ S'=>S'=S/\∃ g7 g8 g9 g10,ρ=rr c (sd 0) q (some (sd k)) (some (.int (PA k))) (some (.int (GA k))) g7 g8 g9 g10) (Gsp h0)
  (fun k ρ S' ⟨e,_⟩=>by
   subst e
   show(S'[q]?).bind _=_
   rw[hq]
   unfold enL
   rw[List.getElem?_mapIdx]
   rfl)
  (fun k d ρ S' hk hd ⟨e,g7,g8,g9,g10,e2⟩=>by
   subst e e2
   obtain⟨x,hx,rfl⟩:=Gn5 hd
   have did:=h k x hk hx S'
   refine⟨rr c (sd 0) q (some (sd k)) (some (.int (PA k))) (some (.int (GA k))) (some (.int k)) (some x) g9 g10,rr c (sd 0) q (some (sd (k+1))) (some (.int (PA (k+1)))) (some (.int (GA (k+1)))) (some (.int k)) (some x) (some (.int (PA (k+1)-PA k))) (some (.int (GA (k+1)-GA k))),S',rfl,?_,rfl,_,_,_,_,rfl⟩
   have ec:clv 3 "open_done" 3 (gX ys Ha) (ac (vr 0) (ac (vr 4) (ac (vr 8) an))) (rr c (sd 0) q (some (sd k)) (some (.int (PA k))) (some (.int (GA k))) (some (.int k)) (some x) g9 g10) S'=gX ys Ha [c,sd k,x] S':=Giu (ds:=[c,sd k,x]) (S1:=S') rfl (by simp) rfl
   have et:Kv (rr c (sd 0) q (some (sd k)) (some (.int (PA k))) (some (.int (GA k))) (some (.int k)) (some x) g9 g10) S'=.nx (rr c (sd 0) q (some (sd (k+1))) (some (.int (PA k))) (some (.int (GA k))) (some (.int k)) (some x) (some (.int (PA (k+1)-PA k))) (some (.int (GA (k+1)-GA k)))) S':=by
    unfold Kv
    rw[Vo,ec,Gak did,Hd]
    rfl
   have a1:PA k+(PA (k+1)-PA k)=PA (k+1):=by omega
   have a2:GA k+(GA (k+1)-GA k)=GA (k+1):=by omega
   unfold Qz
   rw[Je (Gio et)]
   simp[sag,a1,a2])
  (fun ρ S' ⟨e,g7,g8,g9,g10,e2⟩=>by
   subst e e2
   refine⟨rr c (sd 0) q (some (sd k0)) (some (.int (PA k0))) (some (.int (GA k0))) (some (.int k0)) (some d0) g9 g10,rr c (sd 0) q (some (sd k0)) (some (.int (PA k0))) (some (.int (GA k0))) (some (.int k0)) (some d0) g9 g10,S',rfl,?_,rfl⟩
   have ec:clv 3 "open_done" 3 (gX ys Ha) (ac (vr 0) (ac (vr 4) (ac (vr 8) an))) (rr c (sd 0) q (some (sd k0)) (some (.int (PA k0))) (some (.int (GA k0))) (some (.int k0)) (some d0) g9 g10) S'=gX ys Ha [c,sd k0,d0] S':=Giu (ds:=[c,sd k0,d0]) (S1:=S') rfl (by simp) rfl
   have et:Kv (rr c (sd 0) q (some (sd k0)) (some (.int (PA k0))) (some (.int (GA k0))) (some (.int k0)) (some d0) g9 g10) S'=.exc ⟨y,none⟩ (rr c (sd 0) q (some (sd k0)) (some (.int (PA k0))) (some (.int (GA k0))) (some (.int k0)) (some d0) g9 g10) S':=by
    unfold Kv
    rw[Vo,ec,Qn (hn S') hy,Gkv]
   unfold Qz
   rw[Ye,Gjo et hy]
   rfl) (l.length+1) 0 (rr c (sd 0) q (some (sd 0)) (some (.int (PA 0))) (some (.int (GA 0))) none none none none) S (Nat.zero_le _) ⟨rfl,none,none,none,none,rfl⟩ (by omega)
 subst e1
 rw[p0,g0] at ef
 refine(Gy (m:=11) (b:=Vh)).trans ?_
 show fin (Vh (rr c (sd 0) q none none none none none none none) S')=_
 unfold Vh
 refine(Gh (ρ':=rr c (sd 0) q (some (sd 0)) none none none none none none) (S':=S') (by simp)).trans ?_
 refine(Gh (ρ':=rr c (sd 0) q (some (sd 0)) (some (.int 0)) none none none none none) (S':=S') (by simp)).trans ?_
 refine(Gh (ρ':=rr c (sd 0) q (some (sd 0)) (some (.int 0)) (some (.int 0)) none none none none) (S':=S') (by simp)).trans ?_
 refine Jn (ρ':=ρ') ?_
 rw[Uo]
 have:Wf (ac (vr 2) an) (rr c (sd 0) q (some (sd 0)) (some (.int 0)) (some (.int 0)) none none none none) S'=.ok ⟨fun k S=>(S[q]?).bind fun c=>(c.xs[k]?).map fun d=>D.tup [.int k,d],l.length+1⟩ S':=by
  simp[Wf,hq]
 rw[this,Hd]
 exact ef
theorem Gw2(e:Gag [c,sd 0,.lst q,.fv "open_done"] S=.exc ⟨"Falls",some k0⟩ S):Jw [c,sd 0,.lst q] S=.exc ⟨"Falls",some k0⟩ S:=by
 have e:=Qn e Gal
 refine(Gy (m:=3) (b:=Kw)).trans ?_
 show fin (Kw [some c,some (sd 0),some (.lst q)] S)=_
 unfold Kw
 simp[e,fin]
abbrev rf(c:D)(q:Nat)(x1 x3 x4 x5 x6 x7:Option D):Lc:=[some c,x1,some (.lst q),x3,x4,x5,x6,x7]
theorem Gn9{g P Q:Int}{S'':Sto}{s':D}(due:Gz [c,s,d] S'=.ok (.tup [s',.int a,.int g]) S''):
  Hw (rf c q (some s) (some (.int P)) (some (.int Q)) (some (.int k)) (some d) x7) S'=.nx (rf c q (some s') (some (.int (P+a))) (some (.int (Q+g))) (some (.int k)) (some d) (some (.tup [s',.int a,.int g]))) S'':=by
 unfold Hw
 have g0:DL.getD (.tup [s',.int a,.int g]) (.int 0) S''=.ok s' S'':=Jd (Hj (by decide) rfl)
 have g1:DL.getD (.tup [s',.int a,.int g]) (.int 1) S''=.ok (.int a) S'':=Jd (Hj (by decide) rfl)
 have g2:DL.getD (.tup [s',.int a,.int g]) (.int 2) S''=.ok (.int g) S'':=Jd (Hj (by decide) rfl)
 have is0:isD "str" (.tup [s',.int a,.int g]) S''=.ok (.bl false) S'':=rfl
 rw[Je (ρ':=rf c q (some s) (some (.int P)) (some (.int Q)) (some (.int k)) (some d) (some (.tup [s',.int a,.int g]))) (S1:=S'') (by simp[due])]
 rw[Je (ρ':=rf c q (some s) (some (.int P)) (some (.int Q)) (some (.int k)) (some d) (some (.tup [s',.int a,.int g]))) (S1:=S'') (by simp[is0,Uc])]
 simp[g0,g1,g2]
abbrev Ib(c:D)(q:Nat)(sd:Nat->D)(PA GA:Nat->Int)(S:Sto)(k:Nat)(ρ:Lc)(S':Sto):Prop:=Ex S S'/\∃ g5 g6 g7,ρ=rf c q (some (sd k)) (some (.int (PA k))) (some (.int (GA k))) g5 g6 g7
theorem Ghu(k0:Nat)(h:∀ i d,i<k0->l[i]?=some d->∀ S,∃ S',Gz [c,sd i,d] S=.ok (.tup [sd (i+1),.int (PA (i+1)-PA i),.int (GA (i+1)-GA i)]) S'/\Ex S S'):
  ∀ k d ρ S',k<k0->(enL l)[k]?=some d->Ib c q sd PA GA S k ρ S'->∃ ρ1 ρ2 S2,gt (gcons (gn 5) (gcons (gn 6) gnil)) 2 d ρ=some ρ1/\Hw ρ1 S'=.nx ρ2 S2/\Ib c q sd PA GA S (k+1) ρ2 S2:=fun k d ρ S' hk hd ⟨x,g5,g6,g7,e⟩=>by
 subst e
 obtain⟨z,hz,rfl⟩:=Gn5 hd
 obtain⟨S'',due,x2⟩:=h k z hk hz S'
 have st:=Gn9 (q:=q) (k:=k) (P:=PA k) (Q:=GA k) (x7:=g7) due
 rw[show PA k+(PA (k+1)-PA k)=PA (k+1) by omega,show GA k+(GA (k+1)-GA k)=GA (k+1) by omega] at st
 exact⟨rf c q (some (sd k)) (some (.int (PA k))) (some (.int (GA k))) (some (.int k)) (some z) g7,_,S'',rfl,st,x.trans x2,_,_,_,rfl⟩
theorem Goa(hq:S[q]?=some ⟨fz,l⟩):∀ (k:Nat) (ρ:Lc) (S':Sto),Ib c q sd PA GA S k ρ S'->(fun(k:Nat) (S:Sto)=>(S[q]?).bind fun c=>(c.xs[k]?).map fun d=>D.tup [.int k,d]) k S'=(enL l)[k]?:=fun k ρ S' ⟨x,_⟩=>by
 show(S'[q]?).bind _=_
 rw[x.at hq]
 unfold enL
 rw[List.getElem?_mapIdx]
 rfl
theorem Gj3(hq:S[q]?=some ⟨fz,l⟩):Wf (ac (vr 2) an) (rf c q x1 x3 x4 none none none) S=.ok ⟨fun k S=>(S[q]?).bind fun c=>(c.xs[k]?).map fun d=>D.tup [.int k,d],l.length+1⟩ S:=by
 simp[Wf,hq]
theorem Gob{x:Out D}(h:fin (sq (sfor (Wf (ac (vr 2) an)) (gt (gcons (gn 5) (gcons (gn 6) gnil)) 2) Hw) (sret (tp (ac (vr 1) (ac (vr 3) (ac (vr 4) an))))) (rf c q (some (sd 0)) (some (.int 0)) (some (.int 0)) none none none) S)=x):Jx [c,sd 0,.lst q] S=x:=by
 refine(Gy (m:=8) (b:=Qt)).trans ?_
 show fin (Qt (rf c q (some (sd 0)) none none none none none) S)=_
 unfold Qt
 refine(Gh (ρ':=rf c q (some (sd 0)) (some (.int 0)) none none none none) (S':=S) (by simp)).trans ?_
 exact(Gh (ρ':=rf c q (some (sd 0)) (some (.int 0)) (some (.int 0)) none none none) (S':=S) (by simp)).trans h
theorem Gri(hq:S[q]?=some ⟨fz,l⟩)(h:∀ i d,i<l.length->l[i]?=some d->∀ S,∃ S',Gz [c,sd i,d] S=.ok (.tup [sd (i+1),.int (PA (i+1)-PA i),.int (GA (i+1)-GA i)]) S'/\Ex S S')(p0:PA 0=0)(g0:GA 0=0):
  ∃ S',Jx [c,sd 0,.lst q] S=.ok (.tup [sd l.length,.int (PA l.length),.int (GA l.length)]) S'/\Ex S S':=by
 obtain⟨ρ',S',ef,x,g5,g6,g7,e⟩:=Up (nxt:=fun k S=>(S[q]?).bind fun c=>(c.xs[k]?).map fun d=>D.tup [.int k,d]) (g:=gt (gcons (gn 5) (gcons (gn 6) gnil)) 2) (b:=Hw) (l:=enL l)
  (Ib c q sd PA GA S) (Goa hq) (fun k d ρ S' hd hI=>Ghu l.length h k d ρ S' (by rw[<- Geb]; exact(List.getElem?_eq_some_iff.mp hd).1) hd hI) (l.length+1) 0 (rf c q (some (sd 0)) (some (.int (PA 0))) (some (.int (GA 0))) none none none) S (Nat.zero_le _) ⟨.refl,_,_,_,rfl⟩ (by rw[Geb]; omega)
 subst e
 rw[Geb] at ef
 rw[p0,g0] at ef
 refine⟨S',Gob ?_,x⟩
 refine(Gh (by rw[Uo,Gj3 hq,Hd]; exact ef)).trans ?_
 simp
theorem Grj(hq:S[q]?=some ⟨fz,l⟩)(h0:l[k0]?=some d0){w:Str}(hn:∀ S,∃ S',Gz [c,sd k0,d0] S=.ok (.str w) S'/\Ex S S')(h:∀ i d,i<k0->l[i]?=some d->∀ S,∃ S',Gz [c,sd i,d] S=.ok (.tup [sd (i+1),.int (PA (i+1)-PA i),.int (GA (i+1)-GA i)]) S'/\Ex S S')(p0:PA 0=0)(g0:GA 0=0):∃ S',Jx [c,sd 0,.lst q] S=.ok (.int k0) S'/\Ex S S':=by
 have lt:k0<l.length:=(List.getElem?_eq_some_iff.mp h0).1
 obtain⟨S',ef,x⟩:=Gn7 (nxt:=fun k S=>(S[q]?).bind fun c=>(c.xs[k]?).map fun d=>D.tup [.int k,d]) (g:=gt (gcons (gn 5) (gcons (gn 6) gnil)) 2) (b:=Hw) (l:=enL l) (r:=.int k0) (P:=fun S'=>Ex S S')
  (Ib c q sd PA GA S) (Gsp h0) (Goa hq) (Ghu k0 h) (fun ρ S' ⟨x,g5,g6,g7,e⟩=>by
   subst e
   obtain⟨S'',due,x2⟩:=hn S'
   refine⟨rf c q (some (sd k0)) (some (.int (PA k0))) (some (.int (GA k0))) (some (.int k0)) (some d0) g7,S'',rfl,?_,x.trans x2⟩
   unfold Hw
   rw[Je (ρ':=rf c q (some (sd k0)) (some (.int (PA k0))) (some (.int (GA k0))) (some (.int k0)) (some d0) (some (.str w))) (S1:=S'') (by simp[due])]
   have is:isD "str" (.str w) S''=.ok (.bl true) S'':=rfl
   rw[Gbr (y:=.int k0) (S1:=S'') (by simp[is,Uc])]) (l.length+1) 0 (rf c q (some (sd 0)) (some (.int (PA 0))) (some (.int (GA 0))) none none none) S (Nat.zero_le _) ⟨.refl,_,_,_,rfl⟩ (by omega)
 rw[p0,g0] at ef
 refine⟨S',Gob (Jf ?_),x⟩
 rw[Uo,Gj3 hq,Hd]
 exact ef
end
theorem apd(h:S[q]?=some ⟨false,xs⟩)(hl:xs.length<1000000):Yb (.lst q) [d] S=.ok .non (S.set q ⟨false,xs++[d]⟩):=by
 simp only[Yb,h]
 simp[hl]
structure Ke(q:Nat)(S S':Sto):Prop where
 len:S.length<=S'.length
 get:∀ i,i<S.length->i≠q->S'[i]?=S[i]?
theorem Ke.refl:Ke q S S:=⟨Nat.le_refl _,fun _ _ _=>rfl⟩
theorem Ke.trans(a:Ke q S S1)(b:Ke q S1 S2):Ke q S S2:=⟨Nat.le_trans a.len b.len,fun i h n=>(b.get i (Nat.lt_of_lt_of_le h a.len) n).trans (a.get i h n)⟩
theorem Ke.ex(a:Ex S0 S)(b:Ke q S S')(h:S0.length<=q):Ex S0 S':=⟨Nat.le_trans a.len b.len,fun i hi=>(b.get i (Nat.lt_of_lt_of_le hi a.len) (by omega)).trans (a.get i hi)⟩
theorem Ke.at(b:Ke q S S')(h:S[j]?=some c)(n:j≠q):S'[j]?=some c:=(b.get j (List.getElem?_eq_some_iff.mp h).1 n).trans h
abbrev E:=(Wd×Nat)×List Int×List Int×List Int×Int×Int
variable{G:List E}
abbrev tD(e:E):D:=.tup [stD e.2.1 e.2.2.1 e.2.2.2.1,.int e.2.2.2.2.1,.int e.2.2.2.2.2]
abbrev eD(e:E):D:=.tup [Vs e.1,tD e]
def Can(ps:List Pl)(us:List Bool)(L R F:List Int)(e:E):Prop:=Dd ps us L R F e.1 e.2.1 e.2.2.1 e.2.2.2.1 e.2.2.2.2.1 e.2.2.2.2.2
section
variable{ps:List Pl}{us:List Bool}{L R F:List Int}
abbrev rc(ps:List Pl)(us:List Bool)(L R F:List Int)(x2 x3 x4 x5:Option D):Lc:=[some (cD ps us),some (stD L R F),x2,x3,x4,x5]
theorem Goc{qo:Nat}{p:Wd×Nat}{r:Res}(due:∀ S,∃ S',Gz [cD ps us,stD L R F,Vs p] S=.ok r.toD S'/\Ex S S')(wh:Wh ps us L R F p r)(hq:S[qo]?=some ⟨false,G.map eD⟩)(hx:G.length<1000):
  ∃ (y5:Option D) (S':Sto) (G':List E),Kh (rc ps us L R F (some (.lst qo)) (some p.1.toD) (some (.int p.2)) x5) S=.nx (rc ps us L R F (some (.lst qo)) (some p.1.toD) (some (.int p.2)) y5) S'/\S'[qo]?=some ⟨false,G'.map eD⟩/\(∀ x∈G',x∈G\/Can ps us L R F x)/\G'.length<=G.length+1/\Ke qo S S':=by
 obtain⟨S1,e1,x1⟩:=due S
 have k1:Ke qo S S1:=⟨x1.len,fun i h _=>x1.get i h⟩
 have h1:=x1.at hq
 have e1:Gz [cD ps us,stD L R F,.tup [p.1.toD,.int p.2]] S=.ok r.toD S1:=e1
 unfold Kh
 rw[Je (ρ':=rc ps us L R F (some (.lst qo)) (some p.1.toD) (some (.int p.2)) (some r.toD)) (S1:=S1) (by simp[e1])]
 rcases wh with⟨y,hy,rfl⟩ | ⟨A,B,C,a,g,rfl,dd⟩
 ·obtain⟨z,hz⟩:=Gea hy
  refine⟨some (Res.toD (.no y)),S1,G,?_,h1,fun x hx=>.inl hx,by omega,k1⟩
  rw[show Res.toD (.no y)=.str z from hz,Hv (S1:=S1) (by simp[isD,isT,tyN,Uc])]
  rfl
 ·have l1:qo<S1.length:=(List.getElem?_eq_some_iff.mp h1).1
  refine⟨some (Res.toD (.yes (.tup [stD A B C,.int a,.int g]))),S1.set qo ⟨false,G.map eD++[eD (p,A,B,C,a,g)]⟩,G++[(p,A,B,C,a,g)],?_,?_,fun x hx=>?_,by simp,k1.trans ⟨by simp,fun i _ n=>List.getElem?_set_ne (Ne.symm n)⟩⟩
  ·rw[show Res.toD (.yes (.tup [stD A B C,.int a,.int g]))=.tup [stD A B C,.int a,.int g] from rfl,Jb (S1:=S1) (by simp[isD,isT,tyN,Uc])]
   have il:isLst (.lst qo) S1=true:=by simp[isLst,h1]
   have ap:=apd (d:=eD (p,A,B,C,a,g)) h1 (by rw[List.length_map]; omega)
   simp[ap,il]
  ·rw[List.getElem?_set_self l1,List.map_append]
   rfl
  ·rcases List.mem_append.mp hx with z | z
   ·exact .inl z
   ·have:x=(p,A,B,C,a,g):=by simpa using z
    subst this
    exact .inr dd
theorem God{qo:Nat}(hp:∀ p∈ps,p.ok)(hl:ps.length<=13)(hu:us.length+1=ps.length)(sf:So ps L R F)(hq:S[qo]?=some ⟨false,G.map eD⟩)(hG:∀ x∈G,Can ps us L R F x)(hx:G.length<=900):
  ∃ (y4 y5:Option D) (S':Sto) (G':List E),Ki (rc ps us L R F (some (.lst qo)) (some w.toD) x4 x5) S=.nx (rc ps us L R F (some (.lst qo)) (some w.toD) y4 y5) S'/\S'[qo]?=some ⟨false,G'.map eD⟩/\(∀ x∈G',Can ps us L R F x)/\G'.length<=G.length+13/\Ke qo S S':=by
 obtain⟨ρ',S',lp,y4,y5,G',eρ,hq',hG',ln,x⟩:=Up (nxt:=(rsrc 0 ps.length).nxt) (g:=gn 4) (b:=Kh) (l:=(List.range ps.length).map fun k:Nat=>D.int (k:Int))
  (fun i ρ S'=>∃ (y4 y5:Option D) (G':List E),ρ=rc ps us L R F (some (.lst qo)) (some w.toD) y4 y5/\S'[qo]?=some ⟨false,G'.map eD⟩/\(∀ x∈G',Can ps us L R F x)/\G'.length<=G.length+i/\Ke qo S S')
  (fun i _ S _=>Gc2) (fun i d ρ S' hd ⟨y4,y5,G',h1,h2,h3,h4,h5⟩=>by
   obtain⟨hi,rfl⟩:=Ggj hd
   subst h1
   obtain⟨r,due,wh⟩:=Gn4 hp hl hu sf w hi
   obtain⟨z5,S'',G'',c1,c2,c3,c4,c5⟩:=Goc (p:=(w,i)) (x5:=y5) due wh h2 (by omega)
   exact⟨_,_,S'',rfl,c1,_,_,G'',rfl,c2,fun x hx=>(c3 x hx).elim (h3 x) id,by omega,h5.trans c5⟩) (ps.length+1) 0 (rc ps us L R F (some (.lst qo)) (some w.toD) x4 x5) S (Nat.zero_le _) ⟨x4,x5,G,rfl,hq,hG,by omega,.refl⟩ (by simp)
 subst eρ
 rw[List.length_map,List.length_range] at ln
 refine⟨y4,y5,S',G',?_,hq',hG',by omega,x⟩
 unfold Ki
 rw[Uo,Ggk (n:=ps.length) (S':=S) (by simp[cd0]) (by omega)]
 exact lp
def Ws:List Wd:=[.l,.f,.r,.e]
theorem Gw3(hp:∀ p∈ps,p.ok)(hl:ps.length<=13)(hu:us.length+1=ps.length)(sf:So ps L R F):
  ∃ (S':Sto) (G:List E),Vr [cD ps us,stD L R F] S=.ok (.lst S.length) S'/\S'[S.length]?=some ⟨false,G.map eD⟩/\(∀ x∈G,Can ps us L R F x)/\G.length<=52/\Ex S S':=by
 have q2:(S++[(⟨false,[]⟩:Cell)])[S.length]?=some ⟨false,[]⟩:=Hg
 have x2:Ex S (S++[⟨false,[]⟩]):=Ex.app
 have l2:S.length<(S++[(⟨false,[]⟩:Cell)]).length:=by simp
 have e2:sa (ls an) (gn 2) (rc ps us L R F none none none none) S=.nx (rc ps us L R F (some (.lst S.length)) none none none) (S++[⟨false,[]⟩]):=by simp
 generalize S++[(⟨false,[]⟩:Cell)]=S2 at q2 x2 l2 e2
 have q3:(S2++[(⟨false,Ws.map Wd.toD⟩:Cell)])[S2.length]?=some ⟨false,Ws.map Wd.toD⟩:=Hg
 have x3:Ex S2 (S2++[⟨false,Ws.map Wd.toD⟩]):=Ex.app
 have el:ls (ac (cn (.str "let")) (ac (cn (.str "feed")) (ac (cn (.str "right")) (ac (cn (.str "left")) an)))) (rc ps us L R F (some (.lst S.length)) none none none) S2=.ok (.lst S2.length) (S2++[⟨false,Ws.map Wd.toD⟩]):=by
  simp only[Gcl,Ur,Yd,Wq,Gx,List.length_cons,List.length_nil]
  rfl
 generalize S2++[(⟨false,Ws.map Wd.toD⟩:Cell)]=S3 at q3 x3 el
 obtain⟨ρ',S',lp,y3,y4,y5,G,eρ,hq',hG,ln,x⟩:=Up (nxt:=(Ghm S2.length 4).nxt) (g:=gn 3) (b:=Ki) (l:=Ws.map Wd.toD)
  (fun i ρ S'=>∃ (y3 y4 y5:Option D) (G:List E),ρ=rc ps us L R F (some (.lst S.length)) y3 y4 y5/\S'[S.length]?=some ⟨false,G.map eD⟩/\(∀ x∈G,Can ps us L R F x)/\G.length<=13*i/\Ke S.length S3 S')
  (fun i ρ S' ⟨_,_,_,_,_,_,_,_,x⟩=>by
   show(S'[S2.length]?).bind (fun c=>c.xs[i]?)=_
   rw[x.at q3 (by omega)]; rfl) (fun i d ρ S' hd ⟨y3,y4,y5,G,h1,h2,h3,h4,h5⟩=>by
   subst h1
   rw[List.getElem?_map] at hd
   cases hk:Ws[i]? with
   | none=>rw[hk] at hd; cases hd
   | some w=>
    rw[hk] at hd
    cases (Option.some.inj hd)
    have hi:i<4:=(List.getElem?_eq_some_iff.mp hk).1
    obtain⟨y4',y5',S'',G',c1,c2,c3,c4,c5⟩:=God (w:=w) (x4:=y4) (x5:=y5) hp hl hu sf h2 h3 (by omega)
    exact⟨_,_,S'',rfl,c1,_,_,_,G',rfl,c2,c3,by omega,h5.trans c5⟩) (4+1) 0 (rc ps us L R F (some (.lst S.length)) none none none) S3 (Nat.zero_le _) ⟨none,none,none,[],rfl,x3.at q2,(fun x hx=>by cases hx),by simp,.refl⟩ (by decide)
 subst eρ
 refine⟨S',G,?_,hq',hG,by simpa[Ws] using ln,x.ex (x2.trans x3) (Nat.le_refl _)⟩
 refine(Gy (m:=6) (b:=Kk)).trans ?_
 show fin (Kk (rc ps us L R F none none none none) S)=_
 unfold Kk
 refine(Gh e2).trans ?_
 refine(Gh (ρ':=rc ps us L R F (some (.lst S.length)) y3 y4 y5) (S':=S') ?_).trans ?_
 ·rw[Uo,Gar,el,Gx,Gjj q3,Hd]
  exact lp
 simp
def isM:Wd->Bool
 | .r=>true
 | .e=>true
 | _=>false
theorem Gz4:inD w.toD (.lst S.length) (S++[⟨false,[.str "right",.str "left"]⟩])=.ok (.bl (isM w)) (S++[⟨false,[.str "right",.str "left"]⟩]):=by
 show Gl8 false _ _ _=_
 have hi:Gdk (.lst S.length) (S++[⟨false,[.str "right",.str "left"]⟩])=some [.str "right",.str "left"]:=by
  show((S++[⟨false,[.str "right",.str "left"]⟩])[S.length]?).map (·.xs)=_
  rw[Hg]; rfl
 unfold Gl8
 rw[hi]
 cases w<;>simp[Gdj,Wd.toD,wd,isM]<;>decide +kernel
theorem Grk(h6:ρ[6]?=some (some (.lst q)))(hq:S[q]?=some ⟨fz,G.map eD⟩)(hl:G.length<1000):
  ∃ S',cmp (isrc (vr 6)) [none] (gn 0) (tb (o2 inD (o2 DL.getD (o2 DL.getD (vr 0) (cn (.int 0))) (cn (.int 0))) (ls (ac (cn (.str "right")) (ac (cn (.str "left")) an))))) (vr 0) ρ S=.ok (.lst S.length) S'/\S'[S.length]?=some ⟨false,(G.filter fun p=>isM p.1.1).map eD⟩/\Ex S S':=by
 obtain⟨ρ',S',el,g,hρ,hq',hx⟩:=Up (nxt:=(Ghm q (G.map eD).length).nxt) (g:=gn 0) (b:=cbody S.length (tb (o2 inD (o2 DL.getD (o2 DL.getD (vr 0) (cn (.int 0))) (cn (.int 0))) (ls (ac (cn (.str "right")) (ac (cn (.str "left")) an))))) (vr 0)) (l:=G.map eD)
  (fun i ρ S'=>∃ g,ρ=[g]/\S'[S.length]?=some ⟨false,((G.take i).filter fun p=>isM p.1.1).map eD⟩/\Ex S S')
  (fun i ρ S' ⟨_,_,_,x⟩=>by
   show(S'[q]?).bind (fun c=>c.xs[i]?)=_
   rw[x.at hq]; rfl) (fun i d ρ S' hd ⟨g,h1,h2,h3⟩=>by
   subst h1
   rw[List.getElem?_map] at hd
   cases hk:G[i]? with
   | none=>rw[hk] at hd; cases hd
   | some p=>
    rw[hk] at hd
    cases (Option.some.inj hd)
    have lq:S.length<S'.length:=(List.getElem?_eq_some_iff.mp h2).1
    have ht:G.take (i+1)=G.take i++[p]:=by rw[List.take_add_one,hk]; rfl
    have hlen:((G.take i).filter fun p=>isM p.1.1).length<1000:=by
     have:=List.length_filter_le (fun p:E=>isM p.1.1) (G.take i)
     have:(G.take i).length<=G.length:=by rw[List.length_take]; omega
     omega
    have g0:DL.getD (eD p) (.int 0) S'=.ok (Vs p.1) S':=Jd (Hj (by decide) rfl)
    have g00:DL.getD (Vs p.1) (.int 0) S'=.ok p.1.1.toD S':=Jd (Hj (by decide) rfl)
    have gi:=Gz4 (w:=p.1.1) (S:=S')
    have x4:Ex S' (S'++[⟨false,[.str "right",.str "left"]⟩]):=Ex.app
    have tst:tb (o2 inD (o2 DL.getD (o2 DL.getD (vr 0) (cn (.int 0))) (cn (.int 0))) (ls (ac (cn (.str "right")) (ac (cn (.str "left")) an)))) [some (eD p)] S'=.ok (isM p.1.1) (S'++[⟨false,[.str "right",.str "left"]⟩]):=by
     simp[g0,g00,gi]
    generalize S'++[(⟨false,[.str "right",.str "left"]⟩:Cell)]=S4 at x4 tst
    have h2':=x4.at h2
    have lq':S.length<S4.length:=(List.getElem?_eq_some_iff.mp h2').1
    by_cases c:isM p.1.1=true
    ·refine⟨[some (eD p)],[some (eD p)],S4.set S.length ⟨false,((G.take i).filter fun p=>isM p.1.1).map eD++[eD p]⟩,rfl,?_,some (eD p),rfl,?_,(h3.trans x4).setq (Nat.le_refl _)⟩
     ·unfold cbody
      rw[tst,Hd,c]
      simp only[if_true,Wp,List.getElem?_cons_zero,Hd,h2']
      rw[if_pos ⟨trivial,by simp only[List.length_map]; omega⟩]
     ·rw[List.getElem?_set_self lq',ht,List.filter_append]
      simp[c]
    ·have c:isM p.1.1=false:=by simpa using c
     refine⟨[some (eD p)],[some (eD p)],S4,rfl,?_,some (eD p),rfl,?_,h3.trans x4⟩
     ·unfold cbody
      rw[tst,Hd,c]
      rfl
     ·rw[h2',ht,List.filter_append]
      simp[c]) ((G.map eD).length+1) 0 [none] (S++[⟨false,[]⟩]) (Nat.zero_le _) ⟨none,rfl,by simp[Hg],Ex.app⟩ (Nat.lt_succ_self _)
 rw[List.length_map,List.take_length] at hq'
 refine⟨S',Gik (pk:=[none]) (ρ:=ρ) (S:=S) (f:=isrc (vr 6)) (s:=Ghm q (G.map eD).length) (S1:=S) (by rw[Gar,Wp,h6]; exact Gjj hq) el,hq',hx⟩
end
def Gw4:Wd->Str
 | .l=>"let"
 | .f=>"feed"
 | .r=>"right"
 | .e=>"left"
def pI(M:List Int):PyData:=.tuple (M.map .int)
def pE(e:E):PyData:=.tuple [.tuple [.str (Gw4 e.1.1),.int e.1.2],.tuple [.tuple [pI e.2.1,pI e.2.2.1,pI e.2.2.2.1],.int e.2.2.2.2.1,.int e.2.2.2.2.2]]
theorem Goe{S:Sto}{n:Nat}:∀ M:List Int,Jy (toP S (n+1)) (M.map D.int)=some (M.map PyData.int)
 | []=>rfl
 | i::r=>by
  rw[List.map_cons,List.map_cons]
  have e:toP S (n+1) (.int i)=some (.int i):=rfl
  simp only[Jy,Goe r,e]
theorem Gz5:toP S (n+2) (.tup (M.map D.int))=some (pI M):=by
 show(Jy (toP S (n+1)) (M.map D.int)).map PyData.tuple=_
 rw[Goe]; rfl
theorem Gz6{e:E}:toP S (n+5) (eD e)=some (pE e):=by
 have a:toP S (n+4) (Vs e.1)=some (.tuple [.str (Gw4 e.1.1),.int e.1.2]):=by cases e.1 with | mk w k=>cases w<;>rfl
 have b:∀ M:List Int,toP S (n+2) (.tup (M.map D.int))=some (pI M):=fun M=>Gz5
 have c:toP S (n+3) (stD e.2.1 e.2.2.1 e.2.2.2.1)=some (.tuple [pI e.2.1,pI e.2.2.1,pI e.2.2.2.1]):=by
  show(Jy (toP S (n+2)) [.tup (e.2.1.map D.int),.tup (e.2.2.1.map D.int),.tup (e.2.2.2.1.map D.int)]).map PyData.tuple=_
  simp only[Jy,b]
  rfl
 have d:toP S (n+4) (tD e)=some (.tuple [.tuple [pI e.2.1,pI e.2.2.1,pI e.2.2.2.1],.int e.2.2.2.2.1,.int e.2.2.2.2.2]):=by
  show(Jy (toP S (n+3)) [stD e.2.1 e.2.2.1 e.2.2.2.1,.int e.2.2.2.2.1,.int e.2.2.2.2.2]).map PyData.tuple=_
  have i:∀ j:Int,toP S (n+3) (.int j)=some (.int j):=fun _=>rfl
  simp only[Jy,c,i]
  rfl
 show(Jy (toP S (n+4)) [Vs e.1,tD e]).map PyData.tuple=_
 simp only[Jy,a,d]
 rfl
theorem Gof{S:Sto}{n:Nat}:∀ G:List E,Jy (toP S (n+5)) (G.map eD)=some (G.map pE)
 | []=>rfl
 | e::r=>by
  rw[List.map_cons,List.map_cons]
  simp only[Jy,Gof r,Gz6]
theorem Gog:∀ M:List Int,PyData.canLayAll0 (M.map .int)=true/\PyData.depthAll (M.map .int)=0
 | []=>⟨rfl,rfl⟩
 | i::r=>by simp[PyData.canLayAll0,PyData.canLay0,PyData.depthAll,PyData.depth,Gog r]
theorem Gsq:(pI M).canLay0=true/\(pI M).depth=1:=by simp[pI,PyData.canLay0,PyData.depth,Gog]
theorem Goh:∀ G:List E,PyData.canLayAll0 (G.map pE)=true/\PyData.depthAll (G.map pE)<=4
 | []=>⟨rfl,by simp[PyData.depthAll]⟩
 | e::r=>by
  have s:PyData.strOk (Gw4 e.1.1)=true:=by cases e.1.1<;>decide +kernel
  have i:=Goh r
  refine⟨by simp[PyData.canLayAll0,PyData.canLay0,pE,Gsq,i,s],?_⟩
  have:=i.2
  simp[PyData.depthAll,PyData.depth,pE,Gsq]
  omega
theorem Gsr{p:Nat}(hp:S[p]?=some ⟨fz,G.map eD⟩)(hq:S[q]?=some ⟨false,[]⟩):neD (.lst p) (.lst q) S=.ok (.bl (!G.isEmpty)) S:=by
 have e1:toP S 40 (.lst p)=some (.list (G.map pE)):=by
  show(match S[p]? with | some c=>(Jy (toP S 39) c.xs).map PyData.list | none=>none)=_
  rw[hp]
  show(Jy (toP S 39) (G.map eD)).map PyData.list=_
  rw[Gof]; rfl
 have e2:toP S 40 (.lst q)=some (.list []):=by
  show(match S[q]? with | some c=>(Jy (toP S 39) c.xs).map PyData.list | none=>none)=_
  rw[hq]; rfl
 simp only[neD,e1,e2]
 have dp:=Goh G
 rw[if_pos (by
  simp[SeqAt.shaped,PyData.canLay0,PyData.canLayAll0,dp.1,PyData.depth,PyData.depthAll]
  omega)]
 cases G<;>rfl
structure Run(ps:List Pl)(us:List Bool)(row:List (Wd×Nat))(sL sR sF:Nat->List Int)(PA GA:Nat->Int):Prop where
 st:∀ i,i<=row.length->So ps (sL i) (sR i) (sF i)
 dd:∀ i p,row[i]?=some p->Dd ps us (sL i) (sR i) (sF i) p (sL (i+1)) (sR (i+1)) (sF (i+1)) (PA (i+1)-PA i) (GA (i+1)-GA i)
 p0:PA 0=0
 g0:GA 0=0
theorem Run.snoc{row:List (Wd×Nat)}{sL sR sF:Nat->List Int}{PA GA:Nat->Int}{p:Wd×Nat}{g:Int}(r:Run ps us row sL sR sF PA GA)(d:Dd ps us (sL row.length) (sR row.length) (sF row.length) p A B C a g):
  ∃ sL' sR' sF' PA' GA',Run ps us (row++[p]) sL' sR' sF' PA' GA'/\(sL' 0=sL 0/\sR' 0=sR 0/\sF' 0=sF 0)/\sL' (row++[p]).length=A/\sR' (row++[p]).length=B/\sF' (row++[p]).length=C:=by
 have ln:(row++[p]).length=row.length+1:=by simp
 refine⟨fun i=>if i<=row.length then sL i else A,fun i=>if i<=row.length then sR i else B,fun i=>if i<=row.length then sF i else C,fun i=>if i<=row.length then PA i else PA row.length+a,fun i=>if i<=row.length then GA i else GA row.length+g,⟨fun i hi=>?_,fun i x hx=>?_,?_,?_⟩,⟨?_,?_,?_⟩,?_,?_,?_⟩
 ·by_cases c:i<=row.length
  ·simp only[if_pos c]; exact r.st i c
  ·simp only[if_neg c]; exact d.sf
 ·by_cases c:i<row.length
  ·rw[List.getElem?_append_left c] at hx
   have c1:i<=row.length:=by omega
   have c2:i+1<=row.length:=by omega
   simp only[if_pos c1,if_pos c2]
   exact r.dd i x hx
  ·have hi:i<(row++[p]).length:=(List.getElem?_eq_some_iff.mp hx).1
   have:i=row.length:=by omega
   subst this
   rw[List.getElem?_append_right (Nat.le_refl _),Nat.sub_self] at hx
   cases (Option.some.inj hx)
   have c2:¬ row.length+1<=row.length:=by omega
   simp only[if_pos (Nat.le_refl row.length),if_neg c2]
   have e1:PA row.length+a-PA row.length=a:=by omega
   have e2:GA row.length+g-GA row.length=g:=by omega
   rw[e1,e2]
   exact d
 ·simp only[if_pos (Nat.zero_le row.length)]; exact r.p0
 ·simp only[if_pos (Nat.zero_le row.length)]; exact r.g0
 ·simp only[if_pos (Nat.zero_le row.length)]
 ·simp only[if_pos (Nat.zero_le row.length)]
 ·simp only[if_pos (Nat.zero_le row.length)]
 ·simp only[ln]; rw[if_neg (by omega)]
 ·simp only[ln]; rw[if_neg (by omega)]
 ·simp only[ln]; rw[if_neg (by omega)]
abbrev rk(t:Nat)(ps:List Pl)(us:List Bool)(s:D)(x3:Option D)(qr:Nat)(x5 x6 x7 x8 x9:Option D):Lc:=[some (.lst t),some (cD ps us),some s,x3,some (.lst qr),x5,x6,x7,x8,x9]
theorem Kp.at'(x:Kp S S' t k)(h:S[j]?=some c)(h1:j≠t)(h2:j≠k):S'[j]?=some c:=(x.get j (List.getElem?_eq_some_iff.mp h).1 h1 h2).trans h
theorem Grl{q6 q7 qr:Nat}{G':List E}(d:Dp S t k n)(hn:n<2^56)(h6:S[q6]?=some ⟨false,G.map eD⟩)(h7:S[q7]?=some ⟨false,G'.map eD⟩):
  ∃ (q:Nat) (S':Sto),sif (ta (tb (o2 neD (vr 7) (ls an))) (tb (o2 gtD (cl 2 (Gm Gj) (ac (vr 0) (ac (cn (.int 3)) an))) (cn (.int 0))))) (sa (vr 7) (gn 6)) skip (rk t ps us s x3 qr x5 (some (.lst q6)) (some (.lst q7)) x8 x9) S=.nx (rk t ps us s x3 qr x5 (some (.lst q)) (some (.lst q7)) x8 x9) S'/\(q=q6\/q=q7)/\Dp S' t k (n+1)/\Kp S S' t k:=by
 have d0:Dp (S++[⟨false,[]⟩]) t k n:=d.app
 have x0:Ex S (S++[⟨false,[]⟩]):=Ex.app
 have ne:=Gsr (S:=S++[⟨false,[]⟩]) (x0.at h7) Hg
 have k0:Kp S (S++[⟨false,[]⟩]) t k:=x0.kp
 generalize hS:S++[(⟨false,[]⟩:Cell)]=S0 at d0 x0 ne k0
 obtain⟨r,S1,e1,r0,r1,d1,k1⟩:=Hx (m:=3) d0 (by omega) (by decide) (by decide)
 cases z:G'.isEmpty with
 | true=>
  rw[z] at ne
  refine⟨q6,S0,?_,.inl rfl,d0.mono (by omega),k0⟩
  rw[Hv (S1:=S0) (by simp[hS,ne])]
  rfl
 | false=>
  rw[z] at ne
  by_cases c:0<r
  ·refine⟨q7,S1,?_,.inr rfl,d1,k0.trans k1⟩
   rw[Jb (S1:=S1) (by simp[hS,ne,e1,c])]
   simp
  ·refine⟨q6,S1,?_,.inl rfl,d1,k0.trans k1⟩
   rw[Hv (S1:=S1) (by simp[hS,ne,e1]; omega)]
   rfl
theorem Dp.ltk(h:Dp S t k n):k<S.length:=by
 obtain⟨⟨a,b,xs,e1,e2,h⟩,ne⟩:=h
 exact(List.getElem?_eq_some_iff.mp e2).1
theorem Dp.setq(h:Dp S t k n)(h1:q≠t)(h2:q≠k):Dp (S.set q c) t k n:=by
 obtain⟨⟨a,b,xs,e1,e2,h⟩,ne⟩:=h
 exact⟨⟨a,b,xs,(List.getElem?_set_ne h1).trans e1,(List.getElem?_set_ne h2).trans e2,h⟩,ne⟩
structure Wk(ps:List Pl)(us:List Bool)(L R F:List Int)(row:List (Wd×Nat))(s:D):Prop where
 ex:∃ sL sR sF PA GA,Run ps us row sL sR sF PA GA/\sL 0=L/\sR 0=R/\sF 0=F/\s=stD (sL row.length) (sR row.length) (sF row.length)
theorem Gk0{qr:Nat}{R F:List Int}{row:List (Wd×Nat)}{x6:Option D}(hp:∀ p∈ps,p.ok)(hl:ps.length<=13)(hu:us.length+1=ps.length)(wk:Wk ps us L R F row s)(d:Dp S t k n)(hn:n<2^55)(hr:S[qr]?=some ⟨false,row.map Vs⟩)(ht:qr≠t)(hk:qr≠k)(ln:row.length<=100):
  ∃ (row':List (Wd×Nat)) (s':D) (y6 y7 y8 y9:Option D) (S':Sto),Kz (rk t ps us s x3 qr x5 x6 x7 x8 x9) S=.nx (rk t ps us s' x3 qr x5 y6 y7 y8 y9) S'/\Wk ps us L R F row' s'/\row'.length<=row.length+1/\S'[qr]?=some ⟨false,row'.map Vs⟩/\Dp S' t k (n+2):=by
 obtain⟨sL,sR,sF,PA,GA,run,z1,z2,z3,rfl⟩:=wk.ex
 have lt:=d.lt
 have lk:=d.ltk
 obtain⟨S1,G,e1,q1,hG,lG,x1⟩:=Gw3 (us:=us) (S:=S) hp hl hu (run.st _ (Nat.le_refl _))
 obtain⟨S2,e2,q2,x2⟩:=Grk (ρ:=rk t ps us (stD (sL row.length) (sR row.length) (sF row.length)) x3 qr x5 (some (.lst S.length)) x7 x8 x9) (q:=S.length) rfl q1 (by omega)
 have l1:=x1.len
 obtain⟨q,S3,e3,hq,d3,k3⟩:=Grl (ps:=ps) (us:=us) (s:=stD (sL row.length) (sR row.length) (sF row.length)) (qr:=qr) (x3:=x3) (x5:=x5) (x8:=x8) (x9:=x9) (d.ext (x1.trans x2)) (by omega) (x2.at q1) q2
 have qt:q≠t/\q≠k:=by rcases hq with rfl | rfl<;>exact⟨by omega,by omega⟩
 obtain⟨G6,h6,hG6,l6⟩:∃ G6:List E,S3[q]?=some ⟨false,G6.map eD⟩/\(∀ p∈G6,Can ps us (sL row.length) (sR row.length) (sF row.length) p)/\G6.length<=52:=by
  rcases hq with rfl | rfl
  ·exact⟨G,k3.at' (x2.at q1) qt.1 qt.2,hG,lG⟩
  ·exact⟨_,k3.at' q2 qt.1 qt.2,fun p hp=>hG p (List.mem_filter.mp hp).1,Nat.le_trans (List.length_filter_le _ _) lG⟩
 have r3:S3[qr]?=some ⟨false,row.map Vs⟩:=k3.at' ((x1.trans x2).at hr) ht hk
 have d4:Dp (S3++[⟨false,[]⟩]) t k (n+1):=d3.app
 have x4:Ex S3 (S3++[⟨false,[]⟩]):=Ex.app
 have ne:=Gsr (S:=S3++[⟨false,[]⟩]) (x4.at h6) Hg
 have E:Kz (rk t ps us (stD (sL row.length) (sR row.length) (sF row.length)) x3 qr x5 x6 x7 x8 x9) S=sif (tb (o2 neD (vr 6) (ls an)))
   (sq (sa (o2 DL.getD (vr 6) (cl 2 (Gm Gj) (ac (vr 0) (ac (b1 Jl (ac (vr 6) an)) an)))) (gt (gcons (gn 8) (gcons (gn 9) gnil)) 2))
   (sq (sx (mt Yb (vr 4) (ac (vr 8) an)))
   (sa (o2 DL.getD (vr 9) (cn (.int 0))) (gn 2)))) skip (rk t ps us (stD (sL row.length) (sR row.length) (sF row.length)) x3 qr x5 (some (.lst q)) (some (.lst S1.length)) x8 x9) S3:=by
  unfold Kz
  rw[Je (ρ':=rk t ps us (stD (sL row.length) (sR row.length) (sF row.length)) x3 qr x5 (some (.lst S.length)) x7 x8 x9) (S1:=S1) (by simp[e1])]
  rw[Je (ρ':=rk t ps us (stD (sL row.length) (sR row.length) (sF row.length)) x3 qr x5 (some (.lst S.length)) (some (.lst S1.length)) x8 x9) (S1:=S2) (by rw[Vo,e2]; rfl)]
  rw[Je e3]
 rw[E]
 generalize hS:S3++[(⟨false,[]⟩:Cell)]=S4 at d4 x4 ne
 cases hg:G6 with
 | nil=>
  rw[hg] at ne
  refine⟨row,stD (sL row.length) (sR row.length) (sF row.length),some (.lst q),some (.lst S1.length),x8,x9,S4,?_,⟨sL,sR,sF,PA,GA,run,z1,z2,z3,rfl⟩,by omega,x4.at r3,d4.mono (by omega)⟩
  rw[Hv (S1:=S4) (by simp[hS,ne])]
  rfl
 | cons g0 gs=>
  have l0:0<G6.length:=by rw[hg]; simp
  have ne:neD (.lst q) (.lst S3.length) S4=.ok (.bl true) S4:=by
   rw[ne,hg]; rfl
  obtain⟨r,S5,e5,r0,r1,d5,k5⟩:=Hx (m:=(G6.length:Int)) d4 (by omega) (by omega) (by omega)
  have hr':r.toNat<G6.length:=by omega
  have ep:=List.getElem?_eq_getElem hr'
  generalize G6[r.toNat]=p at ep
  have h4:=x4.at h6
  have h5:=k5.at' h4 qt.1 qt.2
  have gt:DL.getD (.lst q) (.int r) S5=.ok (eD p) S5:=Qh h5 (Hj r0 (by rw[List.getElem?_map,ep]; rfl))
  have le:Jl [.lst q] S4=.ok (.int G6.length) S4:=by simp[Jl,h4]
  have r5:=k5.at' (x4.at r3) ht hk
  have l5:qr<S5.length:=(List.getElem?_eq_some_iff.mp r5).1
  have il:isLst (.lst qr) S5=true:=by simp[isLst,r5]
  have ap:=apd (d:=Vs p.1) r5 (by rw[List.length_map]; omega)
  have q6:(S5.set qr ⟨false,row.map Vs++[Vs p.1]⟩)[qr]?=some ⟨false,(row++[p.1]).map Vs⟩:=by
   rw[List.getElem?_set_self l5,List.map_append]; rfl
  have d6:Dp (S5.set qr ⟨false,row.map Vs++[Vs p.1]⟩) t k (n+2):=d5.setq ht hk
  generalize S5.set qr ⟨false,row.map Vs++[Vs p.1]⟩=S6 at ap q6 d6
  have dd:Dd ps us _ _ _ p.1 p.2.1 p.2.2.1 p.2.2.2.1 p.2.2.2.2.1 p.2.2.2.2.2:=hG6 p (List.mem_of_getElem? ep)
  have g0':DL.getD (tD p) (.int 0) S6=.ok (stD p.2.1 p.2.2.1 p.2.2.2.1) S6:=Jd (Hj (by decide) rfl)
  obtain⟨sL',sR',sF',PA',GA',run',⟨w1,w2,w3⟩,v1,v2,v3⟩:=run.snoc dd
  refine⟨row++[p.1],stD p.2.1 p.2.2.1 p.2.2.2.1,some (.lst q),some (.lst S1.length),some (Vs p.1),some (tD p),S6,?_,⟨sL',sR',sF',PA',GA',run',w1.trans z1,w2.trans z2,w3.trans z3,by rw[v1,v2,v3]⟩,by simp,q6,d6⟩
  rw[Jb (S1:=S4) (by simp[hS,ne])]
  rw[Je (ρ':=rk t ps us (stD (sL row.length) (sR row.length) (sF row.length)) x3 qr x5 (some (.lst q)) (some (.lst S1.length)) (some (Vs p.1)) (some (tD p))) (S1:=S5) (by
   have:o2 DL.getD (vr 6) (cl 2 (Gm Gj) (ac (vr 0) (ac (b1 Jl (ac (vr 6) an)) an))) (rk t ps us (stD (sL row.length) (sR row.length) (sF row.length)) x3 qr x5 (some (.lst q)) (some (.lst S1.length)) x8 x9) S4=.ok (eD p) S5:=by simp[le,e5,gt]
   rw[Vo,this,Hd]
   rfl)]
  rw[Je (ρ':=rk t ps us (stD (sL row.length) (sR row.length) (sF row.length)) x3 qr x5 (some (.lst q)) (some (.lst S1.length)) (some (Vs p.1)) (some (tD p))) (S1:=S6) (by simp[ap,il])]
  simp[g0']
theorem Grm{R F:List Int}(hp:∀ p∈ps,p.ok)(hl:ps.length<=13)(hu:us.length+1=ps.length)(sf:So ps L R F)(d:Dp S t k n)(hn:n<2^50)(hm:m<=50):
  ∃ (row:List (Wd×Nat)) (s:D) (S':Sto),Gai [.lst t,cD ps us,stD L R F,.int m] S=.ok (.lst S.length) S'/\Wk ps us L R F row s/\row.length<=m/\S'[S.length]?=some ⟨false,row.map Vs⟩/\Dp S' t k (n+2*m):=by
 have lt:=d.lt
 have lk:=d.ltk
 have q0:(S++[(⟨false,[]⟩:Cell)])[S.length]?=some ⟨false,[]⟩:=Hg
 have d0:Dp (S++[⟨false,[]⟩]) t k n:=d.app
 have e0:sa (ls an) (gn 4) [some (.lst t),some (cD ps us),some (stD L R F),some (.int m),none,none,none,none,none,none] S=.nx (rk t ps us (stD L R F) (some (.int m)) S.length none none none none none) (S++[⟨false,[]⟩]):=by simp
 generalize S++[(⟨false,[]⟩:Cell)]=S0 at q0 d0 e0
 obtain⟨ρ',S',lp,row,s,y5,y6,y7,y8,y9,eρ,wk,ln,hq,d'⟩:=Up (nxt:=(rsrc 0 m).nxt) (g:=gn 5) (b:=Kz) (l:=(List.range m).map fun k:Nat=>D.int (k:Int))
  (fun i ρ S'=>∃ (row:List (Wd×Nat)) (s:D) (y5 y6 y7 y8 y9:Option D),ρ=rk t ps us s (some (.int m)) S.length y5 y6 y7 y8 y9/\Wk ps us L R F row s/\row.length<=i/\S'[S.length]?=some ⟨false,row.map Vs⟩/\Dp S' t k (n+2*i))
  (fun i _ S _=>Gc2) (fun i d ρ S' hd ⟨row,s,y5,y6,y7,y8,y9,h1,h2,h3,h4,h5⟩=>by
   obtain⟨hi,rfl⟩:=Ggj hd
   subst h1
   obtain⟨row',s',z6,z7,z8,z9,S'',c1,c2,c3,c4,c5⟩:=Gk0 (x3:=some (.int m)) (x5:=some (.int i)) (x6:=y6) (x7:=y7) (x8:=y8) (x9:=y9) hp hl hu h2 h5 (by omega) h4 (by omega) (by omega) (by omega)
   exact⟨_,_,S'',rfl,c1,row',s',_,_,_,_,_,rfl,c2,by omega,c4,c5.mono (by omega)⟩) (m+1) 0 (rk t ps us (stD L R F) (some (.int m)) S.length none none none none none) S0 (Nat.zero_le _) ⟨[],stD L R F,none,none,none,none,none,rfl,⟨fun _=>L,fun _=>R,fun _=>F,fun _=>0,fun _=>0,⟨fun _ _=>sf,fun i p h=>by simp at h,rfl,rfl⟩,rfl,rfl,rfl,rfl⟩,Nat.zero_le _,q0,d0⟩ (by simp)
 subst eρ
 rw[List.length_map,List.length_range] at ln d'
 refine⟨row,s,S',?_,wk,ln,hq,d'⟩
 refine(Gy (m:=10) (b:=Vm)).trans ?_
 show fin (Vm [some (.lst t),some (cD ps us),some (stD L R F),some (.int m),none,none,none,none,none,none] S)=_
 unfold Vm
 refine(Gh e0).trans ?_
 refine(Gh (ρ':=rk t ps us s (some (.int m)) S.length y5 y6 y7 y8 y9) (S':=S') ?_).trans ?_
 ·rw[Uo,Ggk (n:=m) (S':=S0) (by simp) (by omega)]
  exact lp
 simp
theorem addls{E:Ev (List D)}{a:List D}(h6:ρ[4]?=some (some (.lst q)))(hq:S[q]?=some ⟨false,a⟩)(hE:E ρ S=.ok xs S)(hl:xs.length<=1000)(ha:a.length<=1000):
  sa (o2 Gw (vr 4) (ls E)) (gn 4) ρ S=.nx (ρ.set 4 (some (.lst (S.length+1)))) ((S++[⟨false,xs⟩])++[⟨false,a++xs⟩]):=by
 have e:Gw (.lst q) (.lst S.length) (S++[⟨false,xs⟩])=.ok (.lst (S++[(⟨false,xs⟩:Cell)]).length) ((S++[⟨false,xs⟩])++[⟨false,a++xs⟩]):=Gcb (Vc hq) Hg (by omega)
 have h1:xs.length<=1000000:=by omega
 simp[h6,hE,h1] at e ⊢
 simp[e]
theorem Gz7{fl:Option Int}{sub:List Str}(hy:y∈ys):Km ys sub (.exn y fl) S=.ok (.bl (decide (y∈sub))) S:=if_pos hy
theorem Gz8{n:Int}{x0:Option D}(hy:y="Falls"):∃ q S',Xv [x0,x1,x2,x3,x4,some (.exn y (some n))] S=.nx [x0,x1,x2,some (.int n),some (.lst q),some (.exn y (some n))] S'/\S'[q]?=some ⟨false,mks y⟩/\Ex S S':=by
 have hi:y∈ys:=by rw[hy]; exact Gal
 have i:=fun(sub:List Str) (S:Sto)=>Gz7 (fl:=some n) (sub:=sub) (S:=S) hi
 have e1:sa (ls (ac (o1 (Km ys ["NoGate"]) (vr 5)) (ac (o1 (Km ys ["Dry"]) (vr 5)) (ac (o1 (Km ys ["Full"]) (vr 5)) (ac (o1 (Km ys ["NoSpring"]) (vr 5)) an))))) (gn 4) [x0,x1,x2,x3,x4,some (.exn y (some n))] S=.nx [x0,x1,x2,x3,some (.lst S.length),some (.exn y (some n))] (S++[⟨false,[.bl (decide (y∈(["NoGate"]:List Str))),.bl (decide (y∈(["Dry"]:List Str))),.bl (decide (y∈(["Full"]:List Str))),.bl (decide (y∈(["NoSpring"]:List Str)))]⟩]):=by
  simp[i]
 have x1':Ex S (S++[⟨false,[.bl (decide (y∈(["NoGate"]:List Str))),.bl (decide (y∈(["Dry"]:List Str))),.bl (decide (y∈(["Full"]:List Str))),.bl (decide (y∈(["NoSpring"]:List Str)))]⟩]):=Ex.app
 have q1:(S++[(⟨false,[.bl (decide (y∈(["NoGate"]:List Str))),.bl (decide (y∈(["Dry"]:List Str))),.bl (decide (y∈(["Full"]:List Str))),.bl (decide (y∈(["NoSpring"]:List Str)))]⟩:Cell)])[S.length]?=some ⟨false,[.bl (decide (y∈(["NoGate"]:List Str))),.bl (decide (y∈(["Dry"]:List Str))),.bl (decide (y∈(["Full"]:List Str))),.bl (decide (y∈(["NoSpring"]:List Str)))]⟩:=Hg
 generalize S++[(⟨false,[.bl (decide (y∈(["NoGate"]:List Str))),.bl (decide (y∈(["Dry"]:List Str))),.bl (decide (y∈(["Full"]:List Str))),.bl (decide (y∈(["NoSpring"]:List Str)))]⟩:Cell)]=S1 at *
 have stp:∀ {q:Nat} {m:List D} {S:Sto},S[q]?=some ⟨false,m⟩->m.length<=100->∀ (s1 s2 s3:List Str),∃ q' S',sa (o2 Gw (vr 4) (ls (ac (o1 (Km ys s1) (vr 5)) (ac (o1 (Km ys s2) (vr 5)) (ac (o1 (Km ys s3) (vr 5)) an))))) (gn 4) [x0,x1,x2,x3,some (.lst q),some (.exn y (some n))] S=.nx [x0,x1,x2,x3,some (.lst q'),some (.exn y (some n))] S'/\S'[q']?=some ⟨false,m++[.bl (decide (y∈s1)),.bl (decide (y∈s2)),.bl (decide (y∈s3))]⟩/\Ex S S':=fun{q m S} hq hm s1 s2 s3=>by
  have ad:=addls (E:=ac (o1 (Km ys s1) (vr 5)) (ac (o1 (Km ys s2) (vr 5)) (ac (o1 (Km ys s3) (vr 5)) an))) (ρ:=[x0,x1,x2,x3,some (.lst q),some (.exn y (some n))]) (xs:=[.bl (decide (y∈s1)),.bl (decide (y∈s2)),.bl (decide (y∈s3))]) rfl hq (by simp[i]) (by simp) (by omega)
  refine⟨_,_,ad,?_,Ex.app.trans Ex.app⟩
  have:=Hg (S:=S++[(⟨false,[.bl (decide (y∈s1)),.bl (decide (y∈s2)),.bl (decide (y∈s3))]⟩:Cell)]) (c:=⟨false,m++[.bl (decide (y∈s1)),.bl (decide (y∈s2)),.bl (decide (y∈s3))]⟩)
  simpa using this
 obtain⟨q2,S2,e2,h2,x2'⟩:=stp q1 (by simp) ["NoBarge"] ["NoRoom"] ["Uneven"]
 obtain⟨q3,S3,e3,h3,x3'⟩:=stp h2 (by simp) ["Shallow"] ["Falls"] ["NoText"]
 obtain⟨q4,S4,e4,h4,x4'⟩:=stp h3 (by simp) ["TooMany"] ["NoLine"] ys
 refine⟨q4,S4,?_,h4,((x1'.trans x2').trans x3').trans x4'⟩
 unfold Xv
 rw[Je e1,Je e2,Je e3,Je e4]
 have fi:decide (y∈(["Falls"]:List Str))=true:=by rw[hy]; decide +kernel
 have tt1:∀ sub:List Str,tt (o1 (Km ys sub) (vr 5)) [x0,x1,x2,x3,some (.lst q4),some (.exn y (some n))] S4=.ok (decide (y∈sub)) S4:=fun sub=>by simp[i,Uc]
 rw[Jb (S1:=S4) (by rw[tt1,fi])]
 have:atD ats (.exn y (some n)) S4=.ok (.int n) S4:=if_pos (by rw[hy]; decide +kernel)
 simp[this]
section
variable{c s v:D}{q k0:Nat}{S:Sto}
abbrev rd3(c s:D)(q:Nat)(x3 x4 x5:Option D):Lc:=[some c,some s,some (.lst q),x3,x4,x5]
theorem Gj4(h:∀ S',Ex S S'->Jw [c,s,.lst q] S'=.ok v S'):∃ S',Hy [c,s,.lst q] S=.ok (.tup [v,.lst S.length]) S'/\S'[S.length]?=some ⟨false,[]⟩/\Ex S S':=by
 have x1:Ex S (S++[⟨false,[]⟩]):=Ex.app
 have gx:=Gak (h _ x1)
 refine⟨S++[⟨false,[]⟩],?_,Hg,x1⟩
 refine(Gy (m:=6) (b:=Ky)).trans ?_
 show fin (Ky (rd3 c s q none none none) S)=_
 unfold Ky
 refine(Gh (ρ':=rd3 c s q (some .non) none none) (S':=S) (by simp)).trans ?_
 refine(Gh (ρ':=rd3 c s q (some .non) (some (.lst S.length)) none) (S':=S++[⟨false,[]⟩]) (by simp)).trans ?_
 refine(Gh (ρ':=rd3 c s q (some v) (some (.lst S.length)) none) (S':=S++[⟨false,[]⟩]) (Gio (by simp[Xu,gx]))).trans ?_
 simp
theorem Goi(h:∀ S',Ex S S'->Jw [c,s,.lst q] S'=.exc ⟨"Falls",some k0⟩ S'):∃ r S',Hy [c,s,.lst q] S=.ok (.tup [.int k0,.lst r]) S'/\S'[r]?=some ⟨false,mks "Falls"⟩/\Ex S S':=by
 have x1:Ex S (S++[⟨false,[]⟩]):=Ex.app
 have gx:=Qn (h _ x1) Gal
 obtain⟨r,S2,e2,h2,x2⟩:=Gz8 (y:="Falls") (n:=k0) (x0:=some c) (x1:=some s) (x2:=some (.lst q)) (x3:=some .non) (x4:=some (.lst S.length)) (S:=S++[⟨false,[]⟩]) rfl
 refine⟨r,S2,?_,h2,x1.trans x2⟩
 refine(Gy (m:=6) (b:=Ky)).trans ?_
 show fin (Ky (rd3 c s q none none none) S)=_
 unfold Ky
 refine(Gh (ρ':=rd3 c s q (some .non) none none) (S':=S) (by simp)).trans ?_
 refine(Gh (ρ':=rd3 c s q (some .non) (some (.lst S.length)) none) (S':=S++[⟨false,[]⟩]) (by simp)).trans ?_
 refine(Gh (ρ':=rd3 c s q (some (.int k0)) (some (.lst r)) none) (S':=S2) ?_).trans ?_
 ·rw[Gjo (x:=⟨"Falls",some k0⟩) (ρ':=rd3 c s q (some .non) (some (.lst S.length)) none) (S':=S++[⟨false,[]⟩]) (by simp[Xu,gx]) Gal]
  exact Gwt (ρ':=rd3 c s q (some (.int k0)) (some (.lst r)) (some (.exn "Falls" (some k0)))) e2
 ·simp
end
theorem Gec(h:S[q]?=some ⟨false,mks "Falls"⟩):∃ S',Jv [.lst q] S=.ok (.str "falls") S'/\Ex S S':=by
 obtain⟨S',e,x⟩:=Gwr Gal h
 refine⟨S',?_,x⟩
 rw[e]
 kernel_rfl!
theorem Grn{n:Int}:Yy [.int n] S=.ok (.bl true) S:=by
 refine(Gy (m:=1) (b:=Um)).trans ?_
 show fin (Um [some (.int n)] S)=_
 unfold Um
 rfl
section
variable{ps:List Pl}{us:List Bool}{l:List (Wd×Int)}{k0:Nat}{sL sR sF:Nat->List Int}{PA GA:Nat->Int}{S:Sto}{q:Nat}{fz:Bool}
theorem Goj{G:List α}{f:α->D}(h:(G.map f)[i]?=some d):∃ p,G[i]?=some p/\d=f p:=by
 rw[List.getElem?_map] at h
 cases hk:G[i]? with
 | none=>rw[hk] at h; cases h
 | some p=>rw[hk] at h; exact⟨p,rfl,(Option.some.inj h).symm⟩
theorem Tr.did(t:Tr ps us l k0 sL sR sF PA GA):∀ i d,i<k0->(l.map dI)[i]?=some d->∀ S,Ha [cD ps us,stD (sL i) (sR i) (sF i),d] S=.ok (.tup [stD (sL (i+1)) (sR (i+1)) (sF (i+1)),.int (PA (i+1)-PA i),.int (GA (i+1)-GA i)]) S:=fun i d hi h=>by
 obtain⟨p,hp,rfl⟩:=Goj h
 exact(t.ok i p hi hp).did
theorem Tr.due(t:Tr ps us l k0 sL sR sF PA GA):∀ i d,i<k0->(l.map dI)[i]?=some d->∀ S,∃ S',Gz [cD ps us,stD (sL i) (sR i) (sF i),d] S=.ok (.tup [stD (sL (i+1)) (sR (i+1)) (sF (i+1)),.int (PA (i+1)-PA i),.int (GA (i+1)-GA i)]) S'/\Ex S S':=fun i d hi h=>by
 obtain⟨p,hp,rfl⟩:=Goj h
 exact(t.ok i p hi hp).due
theorem Gss{G:List α}{f:α->D}(h:(G.map f)[i]?=some d):i<G.length:=by
 have:=(List.getElem?_eq_some_iff.mp h).1
 simpa using this
theorem Tr.rowY(t:Tr ps us l l.length sL sR sF PA GA)(hq:S[q]?=some ⟨fz,l.map dI⟩):Jw [cD ps us,stD (sL 0) (sR 0) (sF 0),.lst q] S=.ok (.tup [stD (sL l.length) (sR l.length) (sF l.length),.int (PA l.length),.int (GA l.length)]) S:=by
 have:=Gw1 (sd:=fun i=>stD (sL i) (sR i) (sF i)) (c:=cD ps us) (PA:=PA) (GA:=GA) hq (fun i d h=>t.did i d (Gss h) h) t.p0 t.g0
 rw[List.length_map] at this
 exact this
theorem Tr.behY(t:Tr ps us l l.length sL sR sF PA GA)(hq:S[q]?=some ⟨fz,l.map dI⟩):∃ S',Jx [cD ps us,stD (sL 0) (sR 0) (sF 0),.lst q] S=.ok (.tup [stD (sL l.length) (sR l.length) (sF l.length),.int (PA l.length),.int (GA l.length)]) S'/\Ex S S':=by
 have:=Gri (sd:=fun i=>stD (sL i) (sR i) (sF i)) (c:=cD ps us) (PA:=PA) (GA:=GA) hq (fun i d _ h=>t.due i d (Gss h) h) t.p0 t.g0
 rw[List.length_map] at this
 exact this
theorem Tr.rowN(t:Tr ps us l k0 sL sR sF PA GA)(lt:k0<l.length)(hq:S[q]?=some ⟨fz,l.map dI⟩):Jw [cD ps us,stD (sL 0) (sR 0) (sF 0),.lst q] S=.exc ⟨"Falls",some k0⟩ S:=by
 obtain⟨p,hp,y,hy,did,due⟩:=t.no lt
 exact Gw2 (sd:=fun i=>stD (sL i) (sR i) (sF i)) (Gn8 (sd:=fun i=>stD (sL i) (sR i) (sF i)) (PA:=PA) (GA:=GA) hq (by rw[List.getElem?_map,hp]; rfl) hy did t.did t.p0 t.g0)
theorem Tr.behN(t:Tr ps us l k0 sL sR sF PA GA)(lt:k0<l.length)(hq:S[q]?=some ⟨fz,l.map dI⟩):∃ S',Jx [cD ps us,stD (sL 0) (sR 0) (sF 0),.lst q] S=.ok (.int k0) S'/\Ex S S':=by
 obtain⟨p,hp,y,hy,did,due⟩:=t.no lt
 obtain⟨w,hw⟩:=Gea hy
 exact Grj (sd:=fun i=>stD (sL i) (sR i) (sF i)) (c:=cD ps us) (PA:=PA) (GA:=GA) hq (by rw[List.getElem?_map,hp]; rfl) (fun S=>by have:=due S; rw[hw] at this; exact this) t.due t.p0 t.g0
end
theorem Gw5{l:List D}{b e:Nat}(h:∀ d∈l,Sho S d b e)(h1:(b+2)*l.length+3<=1000000)(h2:e+1<39):∃ s:Str,PyData.strOk s=true/\∀ (S':Sto) (q:Nat) (fz:Bool),Ex S S'->S'[q]?=some ⟨fz,l⟩->Qg [.lst q] S'=.ok (.str s) S':=by
 obtain⟨ps,a,hl,g⟩:=Ggn h
 have g:=Gwn g
 rw[hl] at g
 refine⟨(PyData.list ps).shown,g.ok,fun S' q fz x hq=>?_⟩
 have ha:toP S' 40 (.lst q)=some (.list ps):=by
  show(match S'[q]? with | some c=>(Jy (toP S' 39) c.xs).map PyData.list | none=>none)=_
  rw[hq]
  show(Jy (toP S' 39) l).map PyData.list=_
  rw[a S' x 39 (by omega)]
  rfl
 show(match toP S' 40 (.lst q) with
   | some p=>if(p.showable&&!p.hasDict&&decide (p.depth<=60))=true/\p.shown.length<=1000000 then Out.ok (D.str p.shown) S' else .bad
   | none=>.bad)=_
 rw[ha]
 show(if((PyData.list ps).showable&&!(PyData.list ps).hasDict&&decide ((PyData.list ps).depth<=60))=true/\(PyData.list ps).shown.length<=1000000 then Out.ok (D.str (PyData.list ps).shown) S' else .bad)=_
 rw[if_pos]
 refine⟨?_,Nat.le_trans g.le h1⟩
 rw[g.sh,g.nd]
 have:=g.dp
 simp
 omega
abbrev rz(q t:Nat)(c s:D)(x4 x5 x6:Option D)(q7:Nat)(x8 x9 x10 x11 x12 x13:Option D):Lc:=[some (.lst q),some (.lst t),some c,some s,x4,x5,x6,some (.lst q7),x8,x9,x10,x11,x12,x13]
section
variable{ps:List Pl}{us:List Bool}{l:List (Wd×Int)}{k0:Nat}{sL sR sF:Nat->List Int}{PA GA:Nat->Int}{S:Sto}{q t q7 q8:Nat}{fz:Bool}{x4 x5 x6 x8 x9 x10 x11 x12 x13:Option D}
theorem Tr.st(T:Tr ps us l k0 sL sR sF PA GA)(sf:So ps (sL 0) (sR 0) (sF 0)):∀ i,i<=k0->So ps (sL i) (sR i) (sF i)
 | 0,_=>sf
 | i+1,h=>by
  have hi:i<l.length:=Nat.lt_of_lt_of_le h T.le
  exact(T.ok i _ h (List.getElem?_eq_getElem hi)).sf
theorem Tr.bd(T:Tr ps us l k0 sL sR sF PA GA):∀ i,i<=k0->(0<=PA i/\PA i<=1000*i)/\0<=GA i/\GA i<=i
 | 0,_=>by rw[T.p0,T.g0]; simp
 | i+1,h=>by
  have ih:=T.bd i (by omega)
  have hi:i<l.length:=Nat.lt_of_lt_of_le h T.le
  have d:=T.ok i _ h (List.getElem?_eq_getElem hi)
  have b:=d.a0
  have c:=d.g0
  push_cast
  omega
theorem Tr.sho(T:Tr ps us l l.length sL sR sF PA GA)(sf:So ps (sL 0) (sR 0) (sF 0))(hp:∀ p∈ps,p.ok)(hl:ps.length<=13)(hn:l.length<=6000):Sho S (.tup [stD (sL l.length) (sR l.length) (sF l.length),.int (PA l.length),.int (GA l.length)]) 7434 3:=by
 have st:=(T.st sf l.length (Nat.le_refl _)).st
 obtain⟨⟨pa0,pa1⟩,ga0,ga1⟩:=T.bd l.length (Nat.le_refl _)
 obtain⟨bL,bR,bF⟩:=st.le hp (by decide)
 have s1:=Gn1 (by rw[st.lL]; exact hl) bL
 have s2:=Gn1 (by rw[st.lR]; exact hl) bR
 have s3:=Gn1 (by rw[st.lF]; exact hl) bF
 exact Gjy s1 s2 s3 (Nat.lt_trans (show(PA l.length).natAbs<10000000 by omega) (by decide)) (Nat.lt_trans (show(GA l.length).natAbs<10000000 by omega) (by decide))
theorem Gw6{S:Sto}{p:Wd×Int}(h : -1000<=p.2/\p.2<=1000):Sho S (dI p) 129 1:=Gc3 (S:=S) (l:=[p.1.toD,.int p.2]) (b:=61) (e:=0) fun d hd=>by
 simp only[List.mem_cons,List.mem_nil_iff,or_false] at hd
 rcases hd with rfl | rfl
 ·cases p.1
  ·exact Gjx (s:="let")
  ·exact Gjx (s:="feed")
  ·exact Gjx (s:="right")
  ·exact Gjx (s:="left")
 ·exact Gc4 (Nat.lt_trans (show p.2.natAbs<2000 by omega) (by decide))
theorem Gw7{R F:List Int}(hp:∀ p∈ps,p.ok)(hl:ps.length<=13)(hu:us.length+1=ps.length)(sf:So ps L R F)(hn:l.length<=100)(hb:∀ p∈l,-1000<=p.2/\p.2<=1000)(h7:S[q7]?=some ⟨false,l.map dI⟩):
  ∃ y8 y9 y10 y11 S',Gbn (rz q t (cD ps us) (stD L R F) x4 x5 x6 q7 x8 x9 x10 x11 x12 x13) S=.nx (rz q t (cD ps us) (stD L R F) x4 x5 x6 q7 y8 y9 y10 y11 x12 x13) S'/\Ex S S':=by
 obtain⟨k0,sL,sR,sF,PA,GA,T,z1,z2,z3⟩:=Gso (us:=us) hp hl hu l L R F sf
 rw[<- z1,<- z2,<- z3] at sf ⊢
 have el:=Gnf h7
 have x1:Ex S (S++[⟨false,l.map dI⟩]):=Ex.app
 have h8:(S++[(⟨false,l.map dI⟩:Cell)])[S.length]?=some ⟨false,l.map dI⟩:=Hg
 have h7':=x1.at h7
 have el:Qo [.lst q7] S=.ok (.lst S.length) (S++[⟨false,l.map dI⟩]):=el
 generalize S++[(⟨false,l.map dI⟩:Cell)]=S1 at el x1 h8 h7'
 obtain⟨s,so,rep⟩:=Gw5 (S:=S1) (l:=l.map dI) (b:=129) (e:=1) (fun d hd=>by
  obtain⟨p,hp,rfl⟩:=List.mem_map.mp hd
  exact Gw6 (hb p hp)) (by rw[List.length_map]; omega) (by decide)
 have fin4:∀ {y9 y10 y11:Option D} {S4:Sto},Ex S1 S4->sif (tb (o2 neD (b1 Qg (ac (vr 8) an)) (b1 Qg (ac (vr 7) an)))) (sret (cn (.bl false))) skip (rz q t (cD ps us) (stD (sL 0) (sR 0) (sF 0)) x4 x5 x6 q7 (some (.lst S.length)) y9 y10 y11 x12 x13) S4=.nx (rz q t (cD ps us) (stD (sL 0) (sR 0) (sF 0)) x4 x5 x6 q7 (some (.lst S.length)) y9 y10 y11 x12 x13) S4:=fun{y9 y10 y11 S4} x=>by
  have r7:=rep S4 q7 false x (x.at h7')
  have r8:=rep S4 S.length false x (x.at h8)
  have ns:=Gjn (S:=S4) so
  rw[Hv (S1:=S4) (by simp[r7,r8,ns])]
  rfl
 unfold Gbn
 rw[Je (ρ':=rz q t (cD ps us) (stD (sL 0) (sR 0) (sF 0)) x4 x5 x6 q7 (some (.lst S.length)) x9 x10 x11 x12 x13) (S1:=S1) (by simp[el])]
 by_cases c:k0<l.length
 ·obtain⟨S2,e2,x2⟩:=T.behN c h7'
  obtain⟨r,S3,e3,h3,x3⟩:=Goi (c:=cD ps us) (s:=stD (sL 0) (sR 0) (sF 0)) (q:=S.length) (k0:=k0) (S:=S2) (fun S' x=>T.rowN c ((x2.trans x).at h8))
  obtain⟨S4,e4,x4'⟩:=Gec h3
  have nf:neD (.str "falls") (.str "falls") S4=.ok (.bl false) S4:=Gjn (stok _)
  refine⟨some (.lst S.length),some (.int k0),some (.int k0),some (.lst r),S4,?_,((x1.trans x2).trans x3).trans x4'⟩
  rw[Je (ρ':=rz q t (cD ps us) (stD (sL 0) (sR 0) (sF 0)) x4 x5 x6 q7 (some (.lst S.length)) (some (.int k0)) x10 x11 x12 x13) (S1:=S2) (by simp[e2])]
  rw[Je (ρ':=rz q t (cD ps us) (stD (sL 0) (sR 0) (sF 0)) x4 x5 x6 q7 (some (.lst S.length)) (some (.int k0)) (some (.int k0)) (some (.lst r)) x12 x13) (S1:=S3) (by
   have:cl 3 (Gm Hy) (ac (vr 2) (ac (vr 3) (ac (vr 8) an))) (rz q t (cD ps us) (stD (sL 0) (sR 0) (sF 0)) x4 x5 x6 q7 (some (.lst S.length)) (some (.int k0)) x10 x11 x12 x13) S2=.ok (.tup [.int k0,.lst r]) S3:=by simp[e3]
   rw[Vo,this,Hd]
   rfl)]
  rw[Je (ρ':=rz q t (cD ps us) (stD (sL 0) (sR 0) (sF 0)) x4 x5 x6 q7 (some (.lst S.length)) (some (.int k0)) (some (.int k0)) (some (.lst r)) x12 x13) (S1:=S4) (by
   have ii:isD "int" (.int k0) S3=.ok (.bl true) S3:=rfl
   rw[Jb (S1:=S3) (by simp[ii,Uc])]
   rw[Hv (S1:=S4) (by simp[e4,nf,Grn,Uc])]
   rfl)]
  exact fin4 ((x2.trans x3).trans x4')
 ·have e:k0=l.length:=by have:=T.le; omega
  subst e
  obtain⟨S2,e2,x2⟩:=T.behY h7'
  obtain⟨S3,e3,m3,x3⟩:=Gj4 (c:=cD ps us) (s:=stD (sL 0) (sR 0) (sF 0)) (q:=S.length) (S:=S2) (fun S' x=>T.rowY ((x2.trans x).at h8))
  have x4':Ex S3 (S3++[⟨false,[]⟩]):=Ex.app
  have m4:(S3++[(⟨false,[]⟩:Cell)])[S3.length]?=some ⟨false,[]⟩:=Hg
  have nn:neD (.lst S2.length) (.lst S3.length) (S3++[⟨false,[]⟩])=.ok (.bl false) (S3++[⟨false,[]⟩]):=Gws (x4'.at m3) m4
  generalize hS4:S3++[(⟨false,[]⟩:Cell)]=S4 at x4' m4 nn
  obtain⟨s2,so2,rep2⟩:=(T.sho (S:=S4) sf hp hl (by omega)).repr (by decide) (by decide)
  have r4:=rep2 S4 .refl
  have ns:=Gjn (S:=S4) so2
  generalize hv:D.tup [stD (sL l.length) (sR l.length) (sF l.length),.int (PA l.length),.int (GA l.length)]=v at e2 e3 r4
  refine⟨some (.lst S.length),some v,some v,some (.lst S2.length),S4,?_,((x1.trans x2).trans x3).trans x4'⟩
  rw[Je (ρ':=rz q t (cD ps us) (stD (sL 0) (sR 0) (sF 0)) x4 x5 x6 q7 (some (.lst S.length)) (some v) x10 x11 x12 x13) (S1:=S2) (by simp[e2])]
  rw[Je (ρ':=rz q t (cD ps us) (stD (sL 0) (sR 0) (sF 0)) x4 x5 x6 q7 (some (.lst S.length)) (some v) (some v) (some (.lst S2.length)) x12 x13) (S1:=S3) (by
   have:cl 3 (Gm Hy) (ac (vr 2) (ac (vr 3) (ac (vr 8) an))) (rz q t (cD ps us) (stD (sL 0) (sR 0) (sF 0)) x4 x5 x6 q7 (some (.lst S.length)) (some v) x10 x11 x12 x13) S2=.ok (.tup [v,.lst S2.length]) S3:=by simp[e3]
   rw[Vo,this,Hd]
   rfl)]
  rw[Je (ρ':=rz q t (cD ps us) (stD (sL 0) (sR 0) (sF 0)) x4 x5 x6 q7 (some (.lst S.length)) (some v) (some v) (some (.lst S2.length)) x12 x13) (S1:=S4) (by
   have ii:isD "int" v S3=.ok (.bl false) S3:=by rw[<- hv]; rfl
   rw[Hv (S1:=S3) (by simp[ii,Uc])]
   rw[Hv (S1:=S4) (by simp[hS4,nn,r4,ns])]
   rfl)]
  exact fin4 ((x2.trans x3).trans x4')
end
def psL:List Pl:=[.e,.c,.e]
def usL:List Bool:=[false,false]
abbrev Z3:List Int:=[0,0,0]
theorem Gz9:∀ p∈psL,p.ok:=fun p h=>by
 simp only[psL,List.mem_cons,List.mem_nil_iff,or_false] at h
 rcases h with rfl | rfl | rfl<;>trivial
theorem so4(v r:Int)(hv:0<=v/\v<=1)(hr:0<=r/\r<=1):So psL [0,v,0] [0,r,0] Z3:=by
 refine⟨⟨[.c],rfl,fun p hp=>by rw[List.mem_singleton.mp hp]; rfl⟩,by decide,rfl,rfl,rfl,fun i p hp=>?_⟩
 match i,hp with
 | 0,hp=>cases (Option.some.inj hp); exact⟨0,0,0,rfl,rfl,rfl,by decide,by decide,by decide,rfl,by decide,by decide⟩
 | 1,hp=>cases (Option.some.inj hp); exact⟨v,r,0,rfl,rfl,rfl,hv.1,hr.1,by decide,hv.2,by omega⟩
 | 2,hp=>cases (Option.some.inj hp); exact⟨0,0,0,rfl,rfl,rfl,by decide,by decide,by decide,rfl,by decide,by decide⟩
 | i+3,hp=>simp[psL] at hp
theorem ev0:Ha [cD psL usL,stD [0,0,0] [0,0,0] Z3,dI (.l,0)] []=.ok (.tup [stD [0,1,0] [0,0,0] Z3,.int 0,.int 0]) []:=by kernel_rfl!
theorem ev1:Ha [cD psL usL,stD [0,1,0] [0,0,0] Z3,dI (.r,0)] []=.ok (.tup [stD [0,1,0] [0,1,0] Z3,.int 0,.int 0]) []:=by kernel_rfl!
theorem ev2:Ha [cD psL usL,stD [0,1,0] [0,1,0] Z3,dI (.l,1)] []=.ok (.tup [stD [0,0,0] [0,1,0] Z3,.int 0,.int 0]) []:=by kernel_rfl!
theorem ev3:Ha [cD psL usL,stD [0,0,0] [0,1,0] Z3,dI (.r,1)] []=.ok (.tup [stD [0,0,0] [0,0,0] Z3,.int 0,.int 1]) []:=by kernel_rfl!
theorem evn:Ha [cD psL usL,stD [0,0,0] [0,0,0] Z3,dI (.l,1)] []=.exc ⟨"Dry",none⟩ []:=by kernel_rfl!
theorem Gj5{R F:List Int}{n g:Int}(sf:So psL L R F)(h:Ha [cD psL usL,stD L R F,dI (w,n)] []=.ok (.tup [stD A B C,.int a,.int g]) []):Dy psL usL L R F (w,n) A B C a g:=by
 rcases Gbu (us:=usL) Gz9 (by decide) rfl sf w n with⟨y,hy,did,_⟩ | ⟨A',B',C',a',g',d⟩
 ·have:=(did []).symm.trans h
  cases this
 ·have e:=(d.did []).symm.trans h
  simp only[Out.ok.injEq,D.tup.injEq,List.cons.injEq,D.int.injEq,and_true] at e
  obtain⟨e1,rfl,rfl⟩:=e
  obtain⟨rfl,rfl,rfl⟩:=Grf e1
  exact d
theorem Haa{R F:List Int}{n:Int}(sf:So psL L R F)(h:Ha [cD psL usL,stD L R F,dI (w,n)] []=.exc x []):Rf psL usL L R F (w,n):=by
 rcases Gbu (us:=usL) Gz9 (by decide) rfl sf w n with r | ⟨A',B',C',a',g',d⟩
 ·exact r
 ·have:=(d.did []).symm.trans h
  cases this
def lv:Nat->List Int
 | 1=>[0,1,0]
 | 2=>[0,1,0]
 | _=>[0,0,0]
def rv4:Nat->List Int
 | 2=>[0,1,0]
 | 3=>[0,1,0]
 | _=>[0,0,0]
def dl:Nat->Wd×Int
 | 0=>(.l,0)
 | 1=>(.r,0)
 | 2=>(.l,1)
 | _=>(.r,1)
def gq(i:Nat):Int:=((i / 4:Nat):Int)
theorem dy4(i:Nat):Dy psL usL (lv (i%4)) (rv4 (i%4)) Z3 (dl (i%4)) (lv ((i+1)%4)) (rv4 ((i+1)%4)) Z3 (0-0) (gq (i+1)-gq i):=by
 have h:i%4=0\/i%4=1\/i%4=2\/i%4=3:=by omega
 rcases h with e | e | e | e
 ·rw[e,show(i+1)%4=1 by omega,show gq (i+1)-gq i=0 by unfold gq; omega]
  exact Gj5 (so4 0 0 (by decide) (by decide)) ev0
 ·rw[e,show(i+1)%4=2 by omega,show gq (i+1)-gq i=0 by unfold gq; omega]
  exact Gj5 (so4 1 0 (by decide) (by decide)) ev1
 ·rw[e,show(i+1)%4=3 by omega,show gq (i+1)-gq i=0 by unfold gq; omega]
  exact Gj5 (so4 1 1 (by decide) (by decide)) ev2
 ·rw[e,show(i+1)%4=0 by omega,show gq (i+1)-gq i=1 by unfold gq; omega]
  exact Gj5 (so4 0 1 (by decide) (by decide)) ev3
theorem Gok{l:List (Wd×Int)}(le:k<=l.length)(h:∀ i,i<k->l[i]?=some (dl (i%4)))(hn:k<l.length->l[k]?=some (.l,1)/\k%4=0):Tr psL usL l k (fun i=>lv (i%4)) (fun i=>rv4 (i%4)) (fun _=>Z3) (fun _=>0) gq:=by
 refine⟨le,rfl,rfl,fun i p hi hp=>?_,fun hk=>⟨_,(hn hk).1,?_⟩⟩
 ·rw[h i hi] at hp
  cases (Option.some.inj hp)
  exact dy4 i
 ·have:=(hn hk).2
  simp only[this]
  exact Haa (so4 0 0 (by decide) (by decide)) evn
def cyc(n:Nat):List (Wd×Int):=(List.replicate n [(Wd.l,(0:Int)),(.r,0),(.l,1),(.r,1)]).flatten
theorem Gst(n:Nat):cyc (n+1)=(Wd.l,(0:Int))::(.r,0)::(.l,1)::(.r,1)::cyc n:=rfl
theorem Xa:∀ n,(cyc n).length=4*n
 | 0=>rfl
 | n+1=>by
  rw[Gst]
  simp only[List.length_cons,Xa n]
  omega
theorem cyc_at:∀ (n i:Nat),i<4*n->(cyc n)[i]?=some (dl (i%4))
 | 0,i,h=>by omega
 | n+1,i,h=>by
  rw[Gst]
  match i,h with
  | 0,_=>rfl
  | 1,_=>rfl
  | 2,_=>rfl
  | 3,_=>rfl
  | i+4,h=>
   have:=cyc_at n i (by omega)
   rw[List.getElem?_cons_succ,List.getElem?_cons_succ,List.getElem?_cons_succ,List.getElem?_cons_succ,this,show(i+4)%4=i%4 by omega]
theorem Gro(n:Nat):Tr psL usL (cyc n) (cyc n).length (fun i=>lv (i%4)) (fun i=>rv4 (i%4)) (fun _=>Z3) (fun _=>0) gq:=
 Gok (Nat.le_refl _) (fun i hi=>cyc_at n i (by rw[<- Xa]; exact hi)) (fun h=>absurd h (by omega))
theorem Gw8(n:Nat):Tr psL usL (cyc n++[(Wd.l,1)]) (4*n) (fun i=>lv (i%4)) (fun i=>rv4 (i%4)) (fun _=>Z3) (fun _=>0) gq:=by
 have la:=Xa n
 refine Gok (by simp[la]) (fun i hi=>?_) (fun _=>⟨?_,by omega⟩)
 ·rw[List.getElem?_append_left (by omega)]
  exact cyc_at n i hi
 ·rw[List.getElem?_append_right (by omega),la,Nat.sub_self]
  rfl
theorem Gol(hq:S[q]?=some ⟨fz,(cyc n).map dI⟩):Jw [cD psL usL,stD Z3 Z3 Z3,.lst q] S=.ok (.tup [stD Z3 Z3 Z3,.int 0,.int n]) S:=by
 have:=(Gro n).rowY hq
 rw[Xa] at this
 have e:4*n%4=0:=by omega
 have g:gq (4*n)=n:=by unfold gq; omega
 simp only[e,g] at this
 exact this
theorem Grp(hq:S[q]?=some ⟨fz,(cyc n++[(Wd.l,1)]).map dI⟩):Jw [cD psL usL,stD Z3 Z3 Z3,.lst q] S=.exc ⟨"Falls",some ((4*n:Nat):Int)⟩ S:=
 (Gw8 n).rowN (by simp[Xa]) hq
theorem Gom{l:List D}(h:k<=l.length):DL.Qk l none (some (k:Int))=l.take k:=by
 have e2:HT.sIx l.length l.length (some (k:Int))=k:=by rw[HT.Gam]; omega
 unfold DL.Qk
 rw[e2,HT.Wb]
 rfl
theorem Gon{l:List D}(h:k<=l.length):DL.Qk l (some (k:Int)) none=l.drop k:=by
 have e1:HT.sIx l.length 0 (some (k:Int))=k:=by rw[HT.Gam]; omega
 unfold DL.Qk
 rw[e1,HT.Wb,List.take_of_length_le (by simp)]
theorem sm3{b c:Int}(h:a.natAbs<100/\b.natAbs<100/\c.natAbs<100):Sm [a,b,c]:=by
 refine⟨by simp,fun i hi=>?_⟩
 simp only[List.mem_cons,List.mem_nil_iff,or_false] at hi
 exact Nat.lt_trans (show i.natAbs<100 by rcases hi with rfl | rfl | rfl<;>omega) (by decide)
theorem Gw9{p:Nat}(hp:S[p]?=some ⟨false,[]⟩)(hq:S[q]?=some ⟨false,[]⟩):eqD (.lst p) (.lst q) S=.ok (.bl true) S:=by
 have e:∀ i,S[i]?=some ⟨false,[]⟩->toP S 40 (.lst i)=some (.list []):=fun i h=>by
  show(match S[i]? with | some c=>(Jy (toP S 39) c.xs).map PyData.list | none=>none)=_
  rw[h]; rfl
 simp only[eqD,e p hp,e q hq]
 rfl
theorem Gxa(e:S[i]?=some ⟨false,xs⟩)(h1:n<=10000)(h:xs.length*n<=1000000):Kj (.lst i) (.int n) S=.ok (.lst S.length) (S++[⟨false,(List.replicate n xs).flatten⟩]):=by
 simp only[Kj,e]
 rw[if_pos (by simp; omega)]
 simp
theorem Gxb{f:α->D}{G:List α}{x:α}{ix io:Nat}{o:Ev (List D)}(hq:ρ[ix]?=some (some (.lst q)))(hk:ρ[io]?=some (some (.int k)))(h:S[q]?=some ⟨false,G.map f⟩)(hl:k<=G.length)(hG:G.length<=100000)(ho:∀ S,o ρ S=.ok [f x] S):
  ∃ r S',o2 Gw (o2 Gw (sl2 (vr ix) onone (osome (vr io))) (ls o)) (sl2 (vr ix) (osome (vr io)) onone) ρ S=.ok (.lst r) S'/\S'[r]?=some ⟨false,((G.take k++[x])++G.drop k).map f⟩/\Ex S S'/\S.length<=r:=by
 have lm:(G.map f).length=G.length:=List.length_map ..
 have x1:Ex S (S++[⟨false,(G.take k).map f⟩]):=Ex.app
 have e1:Gbf (.lst q) none (some (k:Int)) S=.ok (.lst S.length) (S++[⟨false,(G.take k).map f⟩]):=by
  have:=Gqy (lo:=none) (hi:=some (k:Int)) h
  rw[Gom (by rw[lm]; exact hl),<- List.map_take] at this
  exact this
 have h1:(S++[(⟨false,(G.take k).map f⟩:Cell)])[S.length]?=some ⟨false,(G.take k).map f⟩:=Hg
 have l1:S.length<=(S++[(⟨false,(G.take k).map f⟩:Cell)]).length:=x1.len
 generalize S++[(⟨false,(G.take k).map f⟩:Cell)]=S1 at x1 e1 h1 l1
 have x2:Ex S1 (S1++[⟨false,[f x]⟩]):=Ex.app
 have e2:ls o ρ S1=.ok (.lst S1.length) (S1++[⟨false,[f x]⟩]):=by simp[ho]
 have h2:(S1++[(⟨false,[f x]⟩:Cell)])[S1.length]?=some ⟨false,[f x]⟩:=Hg
 generalize S1++[(⟨false,[f x]⟩:Cell)]=S2 at x2 e2 h2
 have e3:=Gcb (x2.at h1) h2 (by simp; omega)
 have x3:Ex S2 (S2++[⟨false,(G.take k).map f++[f x]⟩]):=Ex.app
 have h3:(S2++[(⟨false,(G.take k).map f++[f x]⟩:Cell)])[S2.length]?=some ⟨false,(G.take k).map f++[f x]⟩:=Hg
 generalize S2++[(⟨false,(G.take k).map f++[f x]⟩:Cell)]=S3 at x3 e3 h3
 have x4:Ex S3 (S3++[⟨false,(G.drop k).map f⟩]):=Ex.app
 have e4:Gbf (.lst q) (some (k:Int)) none S3=.ok (.lst S3.length) (S3++[⟨false,(G.drop k).map f⟩]):=by
  have:=Gqy (lo:=some (k:Int)) (hi:=none) (((x1.trans x2).trans x3).at h)
  rw[Gon (by rw[lm]; exact hl),<- List.map_drop] at this
  exact this
 have h4:(S3++[(⟨false,(G.drop k).map f⟩:Cell)])[S3.length]?=some ⟨false,(G.drop k).map f⟩:=Hg
 generalize S3++[(⟨false,(G.drop k).map f⟩:Cell)]=S4 at x4 e4 h4
 have e5:=Gcb (x4.at h3) h4 (by simp; omega)
 refine⟨S4.length,S4++[⟨false,((G.take k).map f++[f x])++(G.drop k).map f⟩],?_,?_,(((x1.trans x2).trans x3).trans x4).trans Ex.app,Nat.le_trans (Nat.le_trans (Nat.le_trans l1 x2.len) x3.len) x4.len⟩
 ·have c1:sl2 (vr ix) onone (osome (vr io)) ρ S=.ok (.lst S.length) S1:=by simp[hq,hk,e1]
  have c2:sl2 (vr ix) (osome (vr io)) onone ρ S3=.ok (.lst S3.length) S4:=by simp[hq,hk,e4]
  have c3:o2 Gw (sl2 (vr ix) onone (osome (vr io))) (ls o) ρ S=.ok (.lst S2.length) S3:=by rw[Vn,c1,Gx,e2,Gx,e3]
  rw[Vn,c3,Gx,c2,Gx,e5]
 ·rw[Hg]
  simp
abbrev rx(q t:Nat)(x2 x3 x4 x5 x6 x7 x8 x9 x10 x11 x12 x13:Option D):Lc:=[some (.lst q),some (.lst t),x2,x3,x4,x5,x6,x7,x8,x9,x10,x11,x12,x13]
theorem Grq{x6 x10 x11:Option D}(d:Dp S t k m)(hm:m<2^55):∃ S',fin ((sq (sa (tp (ac (tp (ac (tp (ac (cn (.str "end")) an)) (ac (tp (ac (cn (.str "chamber")) an)) (ac (tp (ac (cn (.str "end")) an)) an)))) (ac (tp (ac (cn (.str "down")) (ac (cn (.str "down")) an))) an))) (gn 12))
  (sq (sa (tp (ac (tp (ac (cn (.int 0)) (ac (cn (.int 0)) (ac (cn (.int 0)) an)))) (ac (tp (ac (cn (.int 0)) (ac (cn (.int 0)) (ac (cn (.int 0)) an)))) (ac (tp (ac (cn (.int 0)) (ac (cn (.int 0)) (ac (cn (.int 0)) an)))) an)))) (gn 13))
  (sq (sa (o2 Kj (ls (ac (tp (ac (cn (.str "let")) (ac (cn (.int 0)) an))) (ac (tp (ac (cn (.str "right")) (ac (cn (.int 0)) an))) (ac (tp (ac (cn (.str "let")) (ac (cn (.int 1)) an))) (ac (tp (ac (cn (.str "right")) (ac (cn (.int 1)) an))) an))))) (o2 Gw (cn (.int 300)) (cl 2 (Gm Gj) (ac (vr 1) (ac (cn (.int 1000)) an))))) (gn 4))
  (sq (sa (cl 3 (Gm Hy) (ac (vr 12) (ac (vr 13) (ac (o2 Gw (vr 4) (ls (ac (tp (ac (cn (.str "let")) (ac (cn (.int 1)) an))) an))) an)))) (gt (gcons (gn 10) (gcons (gn 11) gnil)) 2))
  (sq (sif (to (tb (o2 neD (cl 1 (Gm Jv) (ac (vr 11) an)) (cn (.str "falls")))) (tb (o2 neD (vr 10) (b1 Jl (ac (vr 4) an)))))
  (sret (cn (.bl false)))
  skip)
  (sq (sa (cl 3 (Gm Hy) (ac (vr 12) (ac (vr 13) (ac (vr 4) an)))) (gt (gcons (gn 10) (gcons (gn 11) gnil)) 2))
  (sret (va (o2 eqD (vr 11) (ls an)) (o2 eqD (b1 Qg (ac (vr 10) an)) (b1 Qg (ac (tp (ac (vr 13) (ac (cn (.int 0)) (ac (o2 We (b1 Jl (ac (vr 4) an)) (cn (.int 4))) an)))) an))))))))))) (rx q t x2 x3 x4 x5 x6 x7 x8 x9 x10 x11 none none) S)=.ok (.bl true) S':=by
 have a2:∀ (ρ:Lc),ls (ac (tp (ac (cn (.str "let")) (ac (cn (.int 0)) an))) (ac (tp (ac (cn (.str "right")) (ac (cn (.int 0)) an))) (ac (tp (ac (cn (.str "let")) (ac (cn (.int 1)) an))) (ac (tp (ac (cn (.str "right")) (ac (cn (.int 1)) an))) an)))) ρ S=.ok (.lst S.length) (S++[⟨false,[dI (.l,0),dI (.r,0),dI (.l,1),dI (.r,1)]⟩]):=fun ρ=>by
  simp only[Gcl,Ur,Yd,Wq,Gjh,Gx,List.length_cons,List.length_nil]
  rfl
 have d2:=d.app (c:=⟨false,[dI (.l,0),dI (.r,0),dI (.l,1),dI (.r,1)]⟩)
 have h2:(S++[(⟨false,[dI (.l,0),dI (.r,0),dI (.l,1),dI (.r,1)]⟩:Cell)])[S.length]?=some ⟨false,[dI (.l,0),dI (.r,0),dI (.l,1),dI (.r,1)]⟩:=Hg
 have n2:S.length≠t/\S.length≠k:=by have:=d.lt; have:=d.ltk; omega
 generalize S++[(⟨false,[dI (.l,0),dI (.r,0),dI (.l,1),dI (.r,1)]⟩:Cell)]=S2 at a2 d2 h2
 obtain⟨r,S3,e3,r0,r1,d3,k3⟩:=Hx (m:=1000) d2 (by omega) (by decide) (by decide)
 obtain⟨n,en,hn⟩:∃ n:Nat,300+r=n/\n<=1300:=⟨(300+r).toNat,by omega,by omega⟩
 have h3:=k3.at h2 n2.1 n2.2
 have a3:=Gxa (n:=n) h3 (by omega) (by simp; omega)
 have ef:(List.replicate n [dI (.l,0),dI (.r,0),dI (.l,1),dI (.r,1)]).flatten=(cyc n).map dI:=by
  unfold cyc
  rw[List.map_flatten,List.map_replicate]
  rfl
 rw[ef] at a3
 have h4:(S3++[(⟨false,(cyc n).map dI⟩:Cell)])[S3.length]?=some ⟨false,(cyc n).map dI⟩:=Hg
 generalize S3++[(⟨false,(cyc n).map dI⟩:Cell)]=S4 at a3 h4
 have x5':Ex S4 (S4++[⟨false,[dI (.l,1)]⟩]):=Ex.app
 have h5:(S4++[(⟨false,[dI (.l,1)]⟩:Cell)])[S4.length]?=some ⟨false,[dI (.l,1)]⟩:=Hg
 have e5:∀ ρ:Lc,ls (ac (tp (ac (cn (.str "let")) (ac (cn (.int 1)) an))) an) ρ S4=.ok (.lst S4.length) (S4++[⟨false,[dI (.l,1)]⟩]):=fun ρ=>by
  simp only[Gcl,Ur,Yd,Wq,Gjh,Gx,List.length_cons,List.length_nil]
  rfl
 generalize S4++[(⟨false,[dI (.l,1)]⟩:Cell)]=S5 at x5' h5 e5
 have e6:=Gcb (x5'.at h4) h5 (by simp[Xa]; omega)
 have e6:Gw (.lst S3.length) (.lst S4.length) S5=.ok (.lst S5.length) (S5++[⟨false,(cyc n++[(Wd.l,1)]).map dI⟩]):=by rw[List.map_append]; exact e6
 have x6':Ex S5 (S5++[⟨false,(cyc n++[(Wd.l,1)]).map dI⟩]):=Ex.app
 have h6:(S5++[(⟨false,(cyc n++[(Wd.l,1)]).map dI⟩:Cell)])[S5.length]?=some ⟨false,(cyc n++[(Wd.l,1)]).map dI⟩:=Hg
 generalize S5++[(⟨false,(cyc n++[(Wd.l,1)]).map dI⟩:Cell)]=S6 at x6' h6 e6
 obtain⟨rr',S7,e7,h7,x7'⟩:=Goi (c:=cD psL usL) (s:=stD Z3 Z3 Z3) (q:=S5.length) (k0:=4*n) (S:=S6) (fun S' x=>Grp (x.at h6))
 obtain⟨S8,e8,x8'⟩:=Gec h7
 have nf:neD (.str "falls") (.str "falls") S8=.ok (.bl false) S8:=Gjn (stok _)
 have x48:Ex S4 S8:=((x5'.trans x6').trans x7').trans x8'
 have h8:=x48.at h4
 have l8:Jl [.lst S3.length] S8=.ok (.int ((4*n:Nat):Int)) S8:=by rw[Gff h8]; simp[Xa]
 obtain⟨S9,e9,m9,x9'⟩:=Gj4 (c:=cD psL usL) (s:=stD Z3 Z3 Z3) (q:=S3.length) (S:=S8) (fun S' x=>Gol (x.at h8))
 have x10':Ex S9 (S9++[⟨false,[]⟩]):=Ex.app
 have m10:(S9++[(⟨false,[]⟩:Cell)])[S9.length]?=some ⟨false,[]⟩:=Hg
 have q10:eqD (.lst S8.length) (.lst S9.length) (S9++[⟨false,[]⟩])=.ok (.bl true) (S9++[⟨false,[]⟩]):=Gw9 (Vc m9) m10
 have l10:∀ ρ:Lc,ls an ρ S9=.ok (.lst S9.length) (S9++[⟨false,[]⟩]):=fun ρ=>by simp
 generalize S9++[(⟨false,[]⟩:Cell)]=S10 at x10' m10 q10 l10
 have lA:Jl [.lst S3.length] S10=.ok (.int ((4*n:Nat):Int)) S10:=by rw[Gff ((x9'.trans x10').at h8)]; simp[Xa]
 have dv:We (.int ((4*n:Nat):Int)) (.int 4) S10=.ok (.int n) S10:=by rw[Ggi (by decide) (by decide)]; congr 2; omega
 obtain⟨s,so,rep⟩:=(Gjy (S:=S10) (L:=Z3) (R:=Z3) (F:=Z3) (a:=0) (b:=n) (sm3 (by decide)) (sm3 (by decide)) (sm3 (by decide)) (by decide) (Nat.lt_trans (show((n:Int)).natAbs<4000 by omega) (by decide))).repr (by decide) (by decide)
 have rA:=rep S10 .refl
 have es:eqD (.str s) (.str s) S10=.ok (.bl true) S10:=by rw[Kl so so]; simp
 generalize ((4*n:Nat):Int)=N4 at e7 l8 lA dv
 refine⟨S10,?_⟩
 refine(Gh (ρ':=rx q t x2 x3 x4 x5 x6 x7 x8 x9 x10 x11 (some (cD psL usL)) none) (S':=S) rfl).trans ?_
 refine(Gh (ρ':=rx q t x2 x3 x4 x5 x6 x7 x8 x9 x10 x11 (some (cD psL usL)) (some (stD Z3 Z3 Z3))) (S':=S) rfl).trans ?_
 refine(Gh (ρ':=rx q t x2 x3 (some (.lst S3.length)) x5 x6 x7 x8 x9 x10 x11 (some (cD psL usL)) (some (stD Z3 Z3 Z3))) (S':=S4) (by simp[-Gcl,a2,e3,en,a3])).trans ?_
 refine(Gh (ρ':=rx q t x2 x3 (some (.lst S3.length)) x5 x6 x7 x8 x9 (some (.int N4)) (some (.lst rr')) (some (cD psL usL)) (some (stD Z3 Z3 Z3))) (S':=S7) (by
  have:cl 3 (Gm Hy) (ac (vr 12) (ac (vr 13) (ac (o2 Gw (vr 4) (ls (ac (tp (ac (cn (.str "let")) (ac (cn (.int 1)) an))) an))) an))) (rx q t x2 x3 (some (.lst S3.length)) x5 x6 x7 x8 x9 x10 x11 (some (cD psL usL)) (some (stD Z3 Z3 Z3))) S4=.ok (.tup [.int N4,.lst rr']) S7:=by simp[-Gcl,e5,e6,e7]
  rw[Vo,this,Hd]
  rfl)).trans ?_
 refine(Gh (ρ':=rx q t x2 x3 (some (.lst S3.length)) x5 x6 x7 x8 x9 (some (.int N4)) (some (.lst rr')) (some (cD psL usL)) (some (stD Z3 Z3 Z3))) (S':=S8) (by
  rw[Hv (S1:=S8) (by simp[e8,nf,l8])]
  rfl)).trans ?_
 refine(Gh (ρ':=rx q t x2 x3 (some (.lst S3.length)) x5 x6 x7 x8 x9 (some (.tup [stD Z3 Z3 Z3,.int 0,.int n])) (some (.lst S8.length)) (some (cD psL usL)) (some (stD Z3 Z3 Z3))) (S':=S9) (by
  have:cl 3 (Gm Hy) (ac (vr 12) (ac (vr 13) (ac (vr 4) an))) (rx q t x2 x3 (some (.lst S3.length)) x5 x6 x7 x8 x9 (some (.int N4)) (some (.lst rr')) (some (cD psL usL)) (some (stD Z3 Z3 Z3))) S8=.ok (.tup [.tup [stD Z3 Z3 Z3,.int 0,.int n],.lst S8.length]) S9:=by simp[e9]
  rw[Vo,this,Hd]
  rfl)).trans ?_
 have c1:o2 eqD (vr 11) (ls an) (rx q t x2 x3 (some (.lst S3.length)) x5 x6 x7 x8 x9 (some (.tup [stD Z3 Z3 Z3,.int 0,.int n])) (some (.lst S8.length)) (some (cD psL usL)) (some (stD Z3 Z3 Z3))) S9=.ok (.bl true) S10:=by simp[-Gcl,l10,q10]
 have c3:tp (ac (vr 13) (ac (cn (.int 0)) (ac (o2 We (b1 Jl (ac (vr 4) an)) (cn (.int 4))) an))) (rx q t x2 x3 (some (.lst S3.length)) x5 x6 x7 x8 x9 (some (.tup [stD Z3 Z3 Z3,.int 0,.int n])) (some (.lst S8.length)) (some (cD psL usL)) (some (stD Z3 Z3 Z3))) S10=.ok (.tup [stD Z3 Z3 Z3,.int 0,.int n]) S10:=by simp[lA,dv]
 have c2:o2 eqD (b1 Qg (ac (vr 10) an)) (b1 Qg (ac (tp (ac (vr 13) (ac (cn (.int 0)) (ac (o2 We (b1 Jl (ac (vr 4) an)) (cn (.int 4))) an)))) an)) (rx q t x2 x3 (some (.lst S3.length)) x5 x6 x7 x8 x9 (some (.tup [stD Z3 Z3 Z3,.int 0,.int n])) (some (.lst S8.length)) (some (cD psL usL)) (some (stD Z3 Z3 Z3))) S10=.ok (.bl true) S10:=by
  simp only[Vn,Gfd,Ur,Yd,c3,Gx,rA,es,Wp,List.getElem?_cons_succ,List.getElem?_cons_zero]
 simp only[Gc1,Gzj,c1,Gx,Uc,c2,if_true,Hd,Gnb]
def toI(p:Wd×Nat):Wd×Int:=(p.1,(p.2:Int))
theorem Gxc(e:S[q]?=some ⟨fz,ns.map D.int⟩):∃ S',Gd6 [.lst q] S=.ok (.bl true) S':=by
 obtain⟨t,k,S1,e1,d1⟩:=Gq0 e
 obtain⟨r,x,S2,ed0,eg0,hx,d2,_⟩:=Wz (xs:=[.int 5,.int 5,.int 5,.int 11]) (m:=4) d1 (by decide) rfl (by decide) (by decide)
 obtain⟨most,rfl,m0,m1⟩:∃ most:Int,x=.int most/\1<=most/\most<=11:=by
  simp only[List.mem_cons,List.mem_nil_iff,or_false] at hx
  rcases hx with rfl | rfl | rfl | rfl<;>exact⟨_,rfl,by decide,by decide⟩
 obtain⟨mid,gs,S3,e3,hm,_,hg,h1,h2,d3,_⟩:=Gnd (most:=most) d2 (by decide) m0 m1
 obtain⟨us,rfl⟩:=Ghn hg.2
 have e3:Vx [.lst t,.int most] S2=.ok (cD (plc mid) us) S3:=e3
 have hu:us.length+1=(plc mid).length:=by
  have:=hg.1
  rw[List.length_map] at this
  rw[Gbs]
  omega
 have hl:(plc mid).length<=13:=by rw[Gbs]; omega
 have h3:3<=(plc mid).length:=by rw[Gbs]; omega
 have exm:∃ m,plc mid=plc m/\∀ p∈m,p.isE=false:=⟨mid,rfl,fun p hp=>(hm p hp).2⟩
 have hp:=Gwq hm
 generalize plc mid=ps at *
 obtain⟨L,R,F,S4,e4,st,d4,_⟩:=Gnh (cr:=0) (gd:=.tup (us.map gd)) (ps:=ps) d3 (by decide) hp hl (by decide) (by decide)
 have e4:Vy [.lst t,cD ps us,.int 0] S3=.ok (stD L R F) S4:=e4
 have sf:So ps L R F:=⟨exm,h3,st⟩
 obtain⟨m,S5,e5,r0,r1,d5,_⟩:=Hx (m:=25) d4 (by decide) (by decide) (by decide)
 obtain⟨mn,rfl⟩:∃ mn:Nat,m=mn:=⟨m.toNat,by omega⟩
 obtain⟨row,s,S6,e6,wk,ln,q6,d6⟩:=Grm (m:=mn) hp hl hu sf d5 (by decide) (by omega)
 obtain⟨sL,sR,sF,PA,GA,run,z1,z2,z3,_⟩:=wk.ex
 have hrow:row.map Vs=(row.map toI).map dI:=by rw[List.map_map]; rfl
 rw[hrow] at q6
 have rb:∀ p∈row.map toI,-1000<=p.2/\p.2<=1000:=fun p hp'=>by
  obtain⟨p0,hp0,rfl⟩:=List.mem_map.mp hp'
  obtain⟨i,hi,ei⟩:=List.mem_iff_getElem.mp hp0
  have:=(run.dd i p0 (by rw[<- ei]; exact List.getElem?_eq_getElem hi)).lt
  show -1000<=(p0.2:Int)/\(p0.2:Int)<=1000
  omega
 have ll:(row.map toI).length=row.length:=List.length_map ..
 generalize row.map toI=l at q6 rb ll
 have d6':=d6
 have lt5:=d5.lt
 have lk5:=d5.ltk
 have ln6:Jl [.lst S5.length] S6=.ok (.int (l.length:Nat)) S6:=by rw[Gff q6]; simp
 obtain⟨ai,S7,e7,a0,a1,d7,k7⟩:=Hx (m:=(l.length:Int)+1) d6 (by omega) (by omega) (by omega)
 obtain⟨at0,rfl⟩:∃ k:Nat,ai=k:=⟨ai.toNat,by omega⟩
 have q7:=k7.at q6 (by omega) (by omega)
 obtain⟨r8,w8,S8,e8,p8,m8,d8,k8⟩:=Wz (xs:=[.str "let",.str "feed",.str "right",.str "left"]) (m:=4) d7 (by omega) rfl (by decide) (by decide)
 obtain⟨w,rfl⟩:∃ w:Wd,w8=w.toD:=by
  simp only[List.mem_cons,List.mem_nil_iff,or_false] at m8
  rcases m8 with rfl | rfl | rfl | rfl
  ·exact⟨.l,rfl⟩
  ·exact⟨.f,rfl⟩
  ·exact⟨.r,rfl⟩
  ·exact⟨.e,rfl⟩
 have q8:=k8.at q7 (by omega) (by omega)
 obtain⟨n9,S9,e9,b0,bn1,d9,k9⟩:=Hx (m:=10) d8 (by omega) (by decide) (by decide)
 have q9:=k9.at q8 (by omega) (by omega)
 have hodd:dI (w,n9-1)=.tup [w.toD,.int (n9-1)]:=rfl
 let ρ9:Lc:=rx q t (some (cD ps us)) (some (stD L R F)) (some (.lst S5.length)) (some (.int at0)) (some (dI (w,n9-1))) none none none none none none none
 obtain⟨qa,Sa,ea,ha,xa,_⟩:=Gxb (f:=dI) (G:=l) (x:=(w,n9-1)) (q:=S5.length) (k:=at0) (ix:=4) (io:=5) (ρ:=ρ9) (S:=S9) (o:=ac (vr 6) an) rfl rfl q9 (by omega) (by omega) (fun S=>by simp[ρ9])
 have qa':=xa.at q9
 have xb:Ex Sa (Sa++[⟨false,[dI (w,n9-1)]⟩]):=Ex.app
 have hb:(Sa++[(⟨false,[dI (w,n9-1)]⟩:Cell)])[Sa.length]?=some ⟨false,[dI (w,n9-1)]⟩:=Hg
 have eb:ls (ac (vr 6) an) ρ9 Sa=.ok (.lst Sa.length) (Sa++[⟨false,[dI (w,n9-1)]⟩]):=by simp[ρ9]
 generalize Sa++[(⟨false,[dI (w,n9-1)]⟩:Cell)]=Sb at xb hb eb
 have xc:Ex Sb (Sb++[⟨false,[]⟩]):=Ex.app
 have hc:(Sb++[(⟨false,[]⟩:Cell)])[Sb.length]?=some ⟨false,[]⟩:=Hg
 have ec:ls an ρ9 Sb=.ok (.lst Sb.length) (Sb++[⟨false,[]⟩]):=by simp
 generalize Sb++[(⟨false,[]⟩:Cell)]=Sc at xc hc ec
 have xd:Ex Sc (Sc++[⟨false,[.lst S5.length,.lst qa,.lst Sa.length,.lst Sb.length]⟩]):=Ex.app
 have hd:(Sc++[(⟨false,[.lst S5.length,.lst qa,.lst Sa.length,.lst Sb.length]⟩:Cell)])[Sc.length]?=some ⟨false,[.lst S5.length,.lst qa,.lst Sa.length,.lst Sb.length]⟩:=Hg
 have v4:vr 4 ρ9 S9=.ok (.lst S5.length) S9:=rfl
 have ed:ls (ac (vr 4) (ac (o2 Gw (o2 Gw (sl2 (vr 4) onone (osome (vr 5))) (ls (ac (vr 6) an))) (sl2 (vr 4) (osome (vr 5)) onone)) (ac (ls (ac (vr 6) an)) (ac (ls an) an)))) ρ9 S9=.ok (.lst Sc.length) (Sc++[⟨false,[.lst S5.length,.lst qa,.lst Sa.length,.lst Sb.length]⟩]):=by
  have c1:ac (ls an) an ρ9 Sb=.ok [.lst Sb.length] Sc:=by rw[Ur,ec]; rfl
  have c2:ac (ls (ac (vr 6) an)) (ac (ls an) an) ρ9 Sa=.ok [.lst Sa.length,.lst Sb.length] Sc:=by rw[Ur,eb,Gx,c1]; rfl
  have c3:ac (o2 Gw (o2 Gw (sl2 (vr 4) onone (osome (vr 5))) (ls (ac (vr 6) an))) (sl2 (vr 4) (osome (vr 5)) onone)) (ac (ls (ac (vr 6) an)) (ac (ls an) an)) ρ9 S9=.ok [.lst qa,.lst Sa.length,.lst Sb.length] Sc:=by rw[Ur,ea,Gx,c2]; rfl
  have c4:ac (vr 4) (ac (o2 Gw (o2 Gw (sl2 (vr 4) onone (osome (vr 5))) (ls (ac (vr 6) an))) (sl2 (vr 4) (osome (vr 5)) onone)) (ac (ls (ac (vr 6) an)) (ac (ls an) an))) ρ9 S9=.ok [.lst S5.length,.lst qa,.lst Sa.length,.lst Sb.length] Sc:=by rw[Ur,v4,Gx,c3]; rfl
  rw[Gcl,c4,Gx]
  rfl
 have x9d:=((xa.trans xb).trans xc).trans xd
 have hA:=((xb.trans xc).trans xd).at ha
 have hR:=x9d.at q9
 have hB:=(xc.trans xd).at hb
 have hC:=xd.at hc
 generalize Sc++[(⟨false,[.lst S5.length,.lst qa,.lst Sa.length,.lst Sb.length]⟩:Cell)]=Sd at x9d hd ed hA hR hB hC
 have each:∀ d∈[D.lst S5.length,.lst qa,.lst Sa.length,.lst Sb.length],∃ (q7:Nat) (l':List (Wd×Int)),d=.lst q7/\Sd[q7]?=some ⟨false,l'.map dI⟩/\l'.length<=100/\∀ p∈l',-1000<=p.2/\p.2<=1000:=fun d hd'=>by
  have ob : -1000<=n9-1/\n9-1<=1000:=by omega
  simp only[List.mem_cons,List.mem_nil_iff,or_false] at hd'
  rcases hd' with rfl | rfl | rfl | rfl
  ·exact⟨_,l,rfl,hR,by omega,rb⟩
  ·refine⟨_,_,rfl,hA,by simp; omega,fun p hp'=>?_⟩
   simp only[List.mem_append,List.mem_cons,List.mem_nil_iff,or_false] at hp'
   rcases hp' with(h | h) | h
   ·exact rb p (List.mem_of_mem_take h)
   ·rw[h]; exact ob
   ·exact rb p (List.mem_of_mem_drop h)
  ·refine⟨_,[(w,n9-1)],rfl,hB,by simp,fun p hp'=>?_⟩
   rw[List.mem_singleton.mp hp']; exact ob
  ·exact⟨_,[],rfl,hC,by simp,fun p hp'=>by simp at hp'⟩
 obtain⟨ρe,Se,ee,y7,y8,y9,y10,y11,eρ,xe⟩:=Up (nxt:=(Ghm Sc.length 4).nxt) (g:=gn 7) (b:=Gbn) (l:=[D.lst S5.length,.lst qa,.lst Sa.length,.lst Sb.length])
  (fun i ρ S'=>∃ y7 y8 y9 y10 y11,ρ=rx q t (some (cD ps us)) (some (stD L R F)) (some (.lst S5.length)) (some (.int at0)) (some (dI (w,n9-1))) y7 y8 y9 y10 y11 none none/\Ex Sd S')
  (fun i ρ S' ⟨_,_,_,_,_,_,x⟩=>by
   show(S'[Sc.length]?).bind (fun c=>c.xs[i]?)=_
   rw[x.at hd]; rfl) (fun i d ρ S' hd' ⟨y7,y8,y9,y10,y11,h1',x⟩=>by
   subst h1'
   obtain⟨q7,l',rfl,h7,hn,hb'⟩:=each d (List.mem_of_getElem? hd')
   obtain⟨z8,z9,z10,z11,S'',c1,c2⟩:=Gw7 (q:=q) (t:=t) (x4:=some (.lst S5.length)) (x5:=some (.int at0)) (x6:=some (dI (w,n9-1))) (x8:=y8) (x9:=y9) (x10:=y10) (x11:=y11) (x12:=none) (x13:=none) hp hl hu sf hn hb' (x.at h7)
   exact⟨_,_,S'',rfl,c1,_,z8,z9,z10,z11,rfl,x.trans c2⟩) (4+1) 0 ρ9 Sd (Nat.zero_le _) ⟨_,_,_,_,_,rfl,.refl⟩ (by simp)
 subst eρ
 have de:=d9.ext (x9d.trans xe)
 obtain⟨g,Sf,ef,g0,g1,df,_⟩:=Hx (m:=16) de (by omega) (by decide) (by decide)
 have go:∀ {x:Out D},fin ((sq (sif (tb (o2 gtD (cl 2 (Gm Gj) (ac (vr 1) (ac (cn (.int 16)) an))) (cn (.int 0))))
  (sret (cn (.bl true)))
  skip)
  (sq (sa (tp (ac (tp (ac (tp (ac (cn (.str "end")) an)) (ac (tp (ac (cn (.str "chamber")) an)) (ac (tp (ac (cn (.str "end")) an)) an)))) (ac (tp (ac (cn (.str "down")) (ac (cn (.str "down")) an))) an))) (gn 12))
  (sq (sa (tp (ac (tp (ac (cn (.int 0)) (ac (cn (.int 0)) (ac (cn (.int 0)) an)))) (ac (tp (ac (cn (.int 0)) (ac (cn (.int 0)) (ac (cn (.int 0)) an)))) (ac (tp (ac (cn (.int 0)) (ac (cn (.int 0)) (ac (cn (.int 0)) an)))) an)))) (gn 13))
  (sq (sa (o2 Kj (ls (ac (tp (ac (cn (.str "let")) (ac (cn (.int 0)) an))) (ac (tp (ac (cn (.str "right")) (ac (cn (.int 0)) an))) (ac (tp (ac (cn (.str "let")) (ac (cn (.int 1)) an))) (ac (tp (ac (cn (.str "right")) (ac (cn (.int 1)) an))) an))))) (o2 Gw (cn (.int 300)) (cl 2 (Gm Gj) (ac (vr 1) (ac (cn (.int 1000)) an))))) (gn 4))
  (sq (sa (cl 3 (Gm Hy) (ac (vr 12) (ac (vr 13) (ac (o2 Gw (vr 4) (ls (ac (tp (ac (cn (.str "let")) (ac (cn (.int 1)) an))) an))) an)))) (gt (gcons (gn 10) (gcons (gn 11) gnil)) 2))
  (sq (sif (to (tb (o2 neD (cl 1 (Gm Jv) (ac (vr 11) an)) (cn (.str "falls")))) (tb (o2 neD (vr 10) (b1 Jl (ac (vr 4) an)))))
  (sret (cn (.bl false)))
  skip)
  (sq (sa (cl 3 (Gm Hy) (ac (vr 12) (ac (vr 13) (ac (vr 4) an)))) (gt (gcons (gn 10) (gcons (gn 11) gnil)) 2))
  (sret (va (o2 eqD (vr 11) (ls an)) (o2 eqD (b1 Qg (ac (vr 10) an)) (b1 Qg (ac (tp (ac (vr 13) (ac (cn (.int 0)) (ac (o2 We (b1 Jl (ac (vr 4) an)) (cn (.int 4))) an)))) an)))))))))))) (rx q t (some (cD ps us)) (some (stD L R F)) (some (.lst S5.length)) (some (.int at0)) (some (dI (w,n9-1))) y7 y8 y9 y10 y11 none none) Se)=x->Gd6 [.lst q] S=x:=fun{x} h=>by
  refine Eq.trans ?_ h
  refine(Gy (m:=14) (b:=Ghk)).trans ?_
  show fin (Ghk [some (.lst q),none,none,none,none,none,none,none,none,none,none,none,none,none] S)=_
  unfold Ghk
  refine(Gh (ρ':=rx q t none none none none none none none none none none none none) (S':=S1) (by simp[e1])).trans ?_
  refine(Gh (ρ':=rx q t (some (cD ps us)) none none none none none none none none none none none) (S':=S3) (by simp[ed0,eg0,e3])).trans ?_
  refine(Gh (ρ':=rx q t (some (cD ps us)) (some (stD L R F)) none none none none none none none none none none) (S':=S4) (by simp[e4])).trans ?_
  refine(Gh (ρ':=rx q t (some (cD ps us)) (some (stD L R F)) (some (.lst S5.length)) none none none none none none none none none) (S':=S6) (by simp[e5,e6])).trans ?_
  refine(Gh (ρ':=rx q t (some (cD ps us)) (some (stD L R F)) (some (.lst S5.length)) (some (.int at0)) none none none none none none none none) (S':=S7) (by simp[ln6,e7])).trans ?_
  refine(Gh (ρ':=ρ9) (S':=S9) (by simp[e8,p8,e9,ρ9])).trans ?_
  exact Gh (by rw[Uo,Gar,ed,Gx,Gjj hd,Hd]; exact ee)
 have lp:=Grq (q:=q) (x2:=some (cD ps us)) (x3:=some (stD L R F)) (x4:=some (.lst S5.length)) (x5:=some (.int at0)) (x6:=some (dI (w,n9-1))) (x7:=y7) (x8:=y8) (x9:=y9) (x10:=y10) (x11:=y11) df (by omega)
 by_cases c:0<g
 ·refine⟨Sf,go (Jf ?_)⟩
  rw[Jb (S1:=Sf) (by simp[ef,c])]
  rfl
 ·obtain⟨Sg,eg⟩:=lp
  refine⟨Sg,go ((Gh (ρ':=rx q t (some (cD ps us)) (some (stD L R F)) (some (.lst S5.length)) (some (.int at0)) (some (dI (w,n9-1))) y7 y8 y9 y10 y11 none none) (S':=Sf) ?_).trans eg)⟩
  rw[Hv (S1:=Sf) (by simp[ef,c])]
  rfl
theorem Ghv{K:PySem.W.Frag}{mp:List Addr}{H:Hp}:∀ ns:List Int,RepL K mp H (ns.map D.int) (ns.map V.int)
 | []=>RepL.nil
 | a::r=>RepL.cons rfl (Ghv r)
theorem hsp(K:PySem.W.Frag)(H:Hp)(a:Addr)(ns:List Int)(hl:ns.length<=63)(hO:Only H)(hS:SqL K H a (ns.map V.int)):spD K 1 Gd6 [.ref a] H (fun v _=>v=.bl true) fun _ _ _=>False:=by
 have hF:SqF K H a (ns.map V.int):=by
  rcases hS with(h | h) | h
  ·rcases hO a with z | ⟨o,xs,z⟩
   ·rw[z] at h; cases h
   ·rw[z] at h; cases h
  ·exact .inl h
  ·exact .inr h
 obtain⟨S',e⟩:=Gxc (S:=[⟨true,ns.map D.int⟩]) (q:=0) (fz:=true) (ns:=ns) rfl
 refine⟨[a],[.lst 0],[⟨true,ns.map D.int⟩],⟨rfl,fun i b c h1 h2=>?_,fun i j b ci cj h1 h2 h3 h4 h5 h6=>?_⟩,RepL.cons ⟨a,rfl,rfl⟩ RepL.nil,rfl,?_⟩
 ·cases i with
  | zero=>
   cases (Option.some.inj h1)
   cases (Option.some.inj h2)
   exact⟨ns.map V.int,Ghv ns,(if_pos rfl).mpr hF⟩
  | succ i=>simp at h1
 ·cases i with
  | zero=>cases (Option.some.inj h3); cases h5
  | succ i=>simp at h1
 ·show Grx K [a] H (Gd6 [.lst 0] [⟨true,ns.map D.int⟩]) _
  rw[e]
  exact fun mp' H' v _ _ h=>h
end Law
def PySem.W.Fast.tw1352414171386215691:Nat:=0
def PySem.W.Fast.tw7265071100952834114:Nat:=0
def PySem.W.Fast.tw1758563635778970964:Nat:=0
def PySem.W.Fast.tw1132501567781446276:Nat:=0
def PySem.W.Fast.tw16608712993141168526:Nat:=0
def PySem.W.Fast.tw283492268902312456:Nat:=0
def PySem.W.Fast.tw6877865113137584204:Nat:=0
def PySem.W.Fast.tw14759377400854460013:Nat:=0
def PySem.W.Fast.tw5058330752155484308:Nat:=0
def PySem.W.Fast.tw17371575327939684444:Nat:=0
def PySem.W.Fast.tw16499324656049483061:Nat:=0
def PySem.W.Fast.tw15055251857828083190:Nat:=0
def PySem.W.Fast.tw9874495245058752399:Nat:=0
def PySem.W.Fast.tw12244816698214922188:Nat:=0
def PySem.W.Fast.tw2021318572550779254:Nat:=0
def PySem.W.Fast.tw14643967403017328644:Nat:=0
def PySem.W.Fast.tw16267745517160532299:Nat:=0
def PySem.W.Fast.tw9242181233116712423:Nat:=0
def PySem.W.Fast.tw9511299105498825733:Nat:=0
def PySem.W.Fast.tw9588033060757190759:Nat:=0
def PySem.W.Fast.tw9071385316539160906:Nat:=0
def PySem.W.Fast.tw765303221628159296:Nat:=0
def PySem.W.Fast.tw1661850391442977610:Nat:=0
def PySem.W.Fast.tw13303896863535290125:Nat:=0
def PySem.W.Fast.tw2701927717626149143:Nat:=0
def PySem.W.Fast.tw11251149179781986672:Nat:=0
def PySem.W.Fast.tw9379844437959136446:Nat:=0
def PySem.W.Fast.tw47621094462108689:Nat:=0
def PySem.W.Fast.tw17396401117031274976:Nat:=0
def PySem.W.Fast.tw11216813908658007806:Nat:=0
def PySem.W.Fast.tw16307732815514764774:Nat:=0
def PySem.W.Fast.tw4551071868867971812:Nat:=0
def PySem.W.Fast.tw18187268056704529107:Nat:=0
def PySem.W.Fast.tw17123464563010251126:Nat:=0
def PySem.W.Fast.tw1496323758955349178:Nat:=0
def PySem.W.Fast.tw2761392615532295670:Nat:=0
def PySem.W.Fast.tw17037217850195373999:Nat:=0
def PySem.W.Fast.tw15058632551178705600:Nat:=0
def PySem.W.Fast.tw3920716108910356954:Nat:=0
def PySem.W.Fast.tw14132180743214434961:Nat:=0
def PySem.W.Fast.tw821676487541988733:Nat:=0
def PySem.W.Fast.tw2241201850488039758:Nat:=0
def PySem.W.Fast.tw11271669619002398951:Nat:=0
def PySem.W.Fast.tw9308093168357996487:Nat:=0
def PySem.W.Fast.tw758076263949934395:Nat:=0
def PySem.W.Fast.tw1112306909935053563:Nat:=0
def PySem.W.Fast.tw7329099486960663275:Nat:=0
def PySem.W.Fast.tw7015006374610485131:Nat:=0
def PySem.W.Fast.tw967560433221270672:Nat:=0
def PySem.W.Fast.tw5741817804794076094:Nat:=0
def PySem.W.Fast.tw1018689169629220750:Nat:=0
def PySem.W.Fast.tw10433867458179319421:Nat:=0
def PySem.W.Fast.tw4193967247632871178:Nat:=0
def PySem.W.Fast.tw6017029411776786313:Nat:=0
def PySem.W.Fast.tw15843788307583607475:Nat:=0
def PySem.W.Fast.tw15921149273356697822:Nat:=0
def PySem.W.Fast.tw11305514671744743544:Nat:=0
def PySem.W.Fast.tw13675401288029080354:Nat:=0
def PySem.W.Fast.tw4127525124043999662:Nat:=0
def PySem.W.Fast.tw9343897497980317085:Nat:=0
def PySem.W.Fast.tw17785026280869253909:Nat:=0
def PySem.W.Fast.tw16813201008017179742:Nat:=0
def PySem.W.Fast.tw14836905899879610215:Nat:=0
def PySem.W.Fast.tw2139334497553026228:Nat:=0
def PySem.W.Fast.tw9525795059832059372:Nat:=0
def PySem.W.Fast.tw15586388273624324714:Nat:=0
def PySem.W.Fast.tw17054907555634803134:Nat:=0
def PySem.W.Fast.tw2971330624477799642:Nat:=0
def PySem.W.Fast.tw11465225265524333428:Nat:=0
def PySem.W.Fast.tw14944218202001118305:Nat:=0
def PySem.W.Fast.tw15738172692228281890:Nat:=0
def PySem.W.Fast.tw13889990922466598055:Nat:=0
def PySem.W.Fast.tw6455415252385864595:Nat:=0
def PySem.W.Fast.tw17214330072167311355:Nat:=0
def PySem.W.Fast.tw10402353356045892590:Nat:=0
def PySem.W.Fast.tw5134827397872143549:Nat:=0
def PySem.W.Fast.tw9358592343695044176:Nat:=0
def PySem.W.Fast.tw17440757588760106398:Nat:=0
def PySem.W.Fast.tw15817730308311123993:Nat:=0
def PySem.W.Fast.tw4862451958806776962:Nat:=0
def PySem.W.Fast.tw15395208264472817670:Nat:=0
def PySem.W.Fast.tw6524028794915397856:Nat:=0
def PySem.W.Fast.tw14686741506731547968:Nat:=0
def PySem.W.Fast.tw13940814789059375644:Nat:=0
def PySem.W.Fast.tw12297254219617975523:Nat:=0
def PySem.W.Fast.tw3613228906982223107:Nat:=0
def PySem.W.Fast.tw11129840125174381119:Nat:=0
def PySem.W.Fast.tw5952336644814396577:Nat:=0
def PySem.W.Fast.tw142870205972418478:Nat:=0
def PySem.W.Fast.tw5521182807941314502:Nat:=0
open PySem PySem.W PyProof.Rows
set_option maxHeartbeats 0 in
theorem PySem.Challenge.cw_summitwater_k32_open_rows_holds : PySem.Challenge.rw_summitwater_k32_open_rows.Holds := by
 w_on; o_law; k_head; (case hw=>w_witness2)
 k_fill
 refine L2.Glm (l:=PySem.Challenge.rw_summitwater_k32_open_rows) (n:=63) (k:=10) (x:="_law_script") (CX:=L2.CX0) (sp:=fun K=>DL.spD K 1 Law.Gd6) rfl (by decide) rfl ⟨rfl,by decide,by decide,rfl⟩ (fun w h Y=>PySem.W.kIn_of Y) ?F Law.hsp (fun _ _ _ _ z=>z)
 case F=>
  intro w mg fa h KX G hmg
  refine' Law.Gwh KX G hmg ?HS ?x0 ?x1 ?x2 ?x3 ?x4 ?x5 ?x6 ?x7 ?x8 ?x9 ?x10 ?x11 ?x12 ?x13 ?x14 ?x15 ?x16 ?x17 ?x18 ?x19 ?x20 ?x21 ?x22 ?x23 ?x24 ?x25 ?x26 ?x27 ?x28 ?x29 ?x30 ?x31 ?x32 ?x33 ?x34 ?x35 ?x36 ?x37 ?x38 ?x39
  (case HS=>constructor<;>first | (refine' DL.Gy9 ?a ?l ?c ?k; (case a=>k_is); (case l=>k_is); (case c=>k_is); (case k=>k_is)) | k_is)
  (case x0=>k_is)
  (case x1=>k_is)
  (case x2=>k_is)
  (case x3=>k_is)
  (case x4=>k_is)
  (case x5=>k_is)
  (case x6=>k_is)
  (case x7=>k_is)
  (case x8=>k_is)
  (case x9=>k_is)
  (case x10=>k_is)
  (case x11=>k_is)
  (case x12=>k_is)
  (case x13=>k_is)
  (case x14=>k_is)
  (case x15=>k_is)
  (case x16=>k_is)
  (case x17=>k_is)
  (case x18=>kernel_rfl!)
  (case x19=>kernel_rfl!)
  (case x20=>k_is)
  (case x21=>k_is)
  (case x22=>k_is)
  (case x23=>k_is)
  (case x24=>kernel_rfl!)
  (case x25=>kernel_rfl!)
  (case x26=>kernel_rfl!)
  (case x27=>kernel_rfl!)
  (case x28=>kernel_rfl!)
  (case x29=>kernel_rfl!)
  (case x30=>kernel_rfl!)
  (case x31=>kernel_rfl!)
  (case x32=>kernel_rfl!)
  (case x33=>k_is)
  (case x34=>k_is)
  (case x35=>k_is)
  (case x36=>k_is)
  (case x37=>k_is)
  (case x38=>k_is)
  (case x39=>kernel_rfl!)
