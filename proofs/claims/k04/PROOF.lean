import PyProof.Rows.All
import Wide.All
import OpenK.AllK
import Wide.FinOn
import Lean
import PyProof.EqAt
import PyProof.EqKinds
import PyProof.TupleCall
import PyProof.FactsAll.tuple_2
import PyProof.ListMulRoad
import PyProof.ExcArgsOwn
import PyProof.ZipIter
import PyProof.EnumFor
import PyProof.Rows.StrJoin2
import PyProof.FString
import PyProof.StrBlockH
import PyProof.StrWalks
import PyProof.EnumMake
import KE.KIntText
import PyProof.CallStr
import PyProof.ExcInit
import PyProof.ExcClass3
import PyProof.ExcBaseAll.ValueError
import PyProof.NsDelKeeps
import KE.KTryMore
import PyProof.Rows.CountFlat
import PyProof.Rows.KernelRfl
import PyProof.ListRange
import PyProof.InstStoreFacts
import PySem.Challenge.RW_summitwater_k04_no_canals_texts
import PyProof.StrLawsTight
import PyProof.StrLawsChain
import PyProof.StrLawsIn
import PyProof.StrLawsOccR
import KE.IntTextText
set_option maxHeartbeats 4000000
set_option Elab.async false
set_option linter.all false
set_option maxRecDepth 100000
namespace L2
open PySem PySem.Spec PyProof.Rows
variable{us:List Value}{x:Str}{u:Value}{a b:Addr}{P:Program}{w:World}{h base:Heap}{t' i j k:Nat}{N ps:List Str}{M:Model}{A:Around}{E:Value->Shared->Prop}{pos:Pos}{pins:List (Addr×Obj)}{c tg:Expr}{K:PySem.W.Frag}{f:Value->Value->Sem Value}{op:CmpOp}{body:List Stmt}{fp:List Addr}{mg:Str->Option Value}
abbrev Key:=Sum Int Str
def Gnp:Key->Value->Bool
 | .inl k,v=>Value.isInt k v
 | .inr x,v=>Value.isStrOf x v
def Gv2(w:World):Key->Int
 | .inl k=>hashInt k
 | .inr x=>hashStr w x
theorem Jb:∀ {k:Key} {v:Value},Gnp k v=true->(∃ i t,k=Sum.inl i/\v=Value.int i t)\/(∃ x t,k=Sum.inr x/\v=Value.str x t)
 | .inl i,v,h=>by
  obtain⟨t,e⟩:=Value.isInt_shape (k:=i) (v:=v) h
  exact .inl ⟨i,t,rfl,e⟩
 | .inr x,v,h=>by
  obtain⟨t,e⟩:=Value.isStrOf_shape (x:=x) (v:=v) h
  exact .inr ⟨x,t,rfl,e⟩
theorem Goj(a b:Int):decide ((Sum.inl a:Key)=Sum.inl b)=(a==b):=by
 by_cases e:a=b
 ·subst e; simp
 ·have h:¬ (Sum.inl a:Key)=Sum.inl b:=fun q=>e (Sum.inl.inj q)
  rw[decide_eq_false h]
  exact(beq_eq_false_iff_ne.mpr e).symm
theorem Gok(a b:Str):decide ((Sum.inr a:Key)=Sum.inr b)=decide (a=b):=by
 by_cases e:a=b
 ·subst e; simp
 ·have h:¬ (Sum.inr a:Key)=Sum.inr b:=fun q=>e (Sum.inr.inj q)
  rw[decide_eq_false h,decide_eq_false e]
theorem Gol(a:Int)(b:Str):decide ((Sum.inl a:Key)=Sum.inr b)=false:=decide_eq_false (fun q=>nomatch q)
theorem Gom(a:Str)(b:Int):decide ((Sum.inr a:Key)=Sum.inl b)=false:=decide_eq_false (fun q=>nomatch q)
def Gch(prog:Program)(w:World):PySem.KeyKind prog w Key where
 is:=Gnp
 hash:=Gv2 w
 inj:=fun v a b ha hb=>by
  rcases Jb ha with⟨i,t,rfl,rfl⟩ | ⟨x,t,rfl,rfl⟩
  ·rcases Jb hb with⟨j,u,rfl,e⟩ | ⟨y,u,rfl,e⟩
   ·injection e with e1 _; rw[e1]
   ·exact nomatch e
  ·rcases Jb hb with⟨j,u,rfl,e⟩ | ⟨y,u,rfl,e⟩
   ·exact nomatch e
   ·injection e with e1 _; rw[e1]
 byValue:=fun k v h=>by
  rcases Jb h with⟨i,t,rfl,rfl⟩ | ⟨x,t,rfl,rfl⟩<;>rfl
 pyHash:=fun hv h=>by
  rcases Jb hv with⟨i,t,rfl,rfl⟩ | ⟨x,t,rfl,rfl⟩
  ·exact wpAny_pyHash_int h
  ·exact wpAny_pyHash_str h
 eqBool:=fun hu hv h=>by
  rcases Jb hu with⟨i,t,rfl,rfl⟩ | ⟨x,t,rfl,rfl⟩
  ·rcases Jb hv with⟨j,u,rfl,rfl⟩ | ⟨y,u,rfl,rfl⟩
   ·rw[Goj] at h; exact wpAny_eqBool_int h
   ·rw[Gol] at h; exact SeqAt.EqAt.int_str i t y u _ _ _ _ h
  ·rcases Jb hv with⟨j,u,rfl,rfl⟩ | ⟨y,u,rfl,rfl⟩
   ·rw[Gom] at h; exact SeqAt.EqAt.str_int x t j u _ _ _ _ h
   ·rw[Gok] at h; exact wpAny_eqBool_str h
 «strs»:=fun k x t v h=>by
  rcases Jb h with⟨i,u,rfl,e⟩ | ⟨y,u,rfl,e⟩
  ·exact nomatch e
  ·injection e with e1 _
   subst e1
   cases v<;>rfl
inductive V where
 | non | bl (b:Bool) | int (i:Int) | str (x:Str) | byt (b:Array UInt8) | flt (b:UInt64) | ref (a:Addr) | ty (n:String)
 deriving DecidableEq
variable{v:V}
def Hc:V->Value->Prop
 | .non,u=>u=Value.none
 | .bl b,u=>u=Value.bool b
 | .int i,u=>∃ t,u=Value.int i t
 | .str x,u=>∃ t,u=Value.str x t
 | .byt b,u=>∃ t,u=Value.bytes b t
 | .flt b,u=>∃ t,u=Value.float b t
 | .ref a,u=>u=Value.ref a
 | .ty n,u=>u=Value.type n
abbrev Vals:List V->List Value->Prop:=Paired Hc
theorem Vals.length{xs:List V}(r:Vals xs us):xs.length=us.length:=Paired.length r
theorem Vals.get:∀ {xs:List V} {us:List Value} {i:Nat} {x:V},Vals xs us->xs[i]?=some x->∃ u,us[i]?=some u/\Hc x u
 | _,_,_,_,.nil,e=>by simp at e
 | _,_,0,_,.cons r _,e=>by simp at e; subst e; exact⟨_,rfl,r⟩
 | _,_,i+1,x,.cons _ t,e=>by
  obtain⟨u,h1,h2⟩:=Vals.get (i:=i) (x:=x) t (by simpa using e)
  exact⟨u,by simpa using h1,h2⟩
theorem Vals.set{x:V}(r:Hc x u):∀ {xs:List V} {us:List Value} (i:Nat),Vals xs us->Vals (xs.set i x) (us.set i u)
 | _,_,_,.nil=>.nil
 | _,_,0,.cons _ t=>.cons r t
 | _,_,i+1,.cons q t=>.cons q (Vals.set r i t)
theorem Vals.append:∀ {xs ys:List V} {us ws:List Value},Vals xs us->Vals ys ws->Vals (xs++ys) (us++ws)
 | _,_,_,_,.nil,s=>s
 | _,_,_,_,.cons r t,s=>.cons r (Vals.append t s)
theorem Vals.take:∀ {xs:List V} {us:List Value} (n:Nat),Vals xs us->Vals (xs.take n) (us.take n)
 | _,_,0,_=>.nil
 | _,_,_+1,.nil=>.nil
 | _,_,n+1,.cons r t=>.cons r (Vals.take n t)
theorem Vals.drop:∀ {xs:List V} {us:List Value} (n:Nat),Vals xs us->Vals (xs.drop n) (us.drop n)
 | _,_,0,r=>r
 | _,_,_+1,.nil=>.nil
 | _,_,n+1,.cons _ t=>Vals.drop n t
def Gs7:Option V->Option Value->Prop
 | some v,some u=>Hc v u
 | none,none=>True
 | _,_=>False
def KV{κ:Type}:List (κ×V)->List (κ×Value)->Prop:=Paired fun(p:κ×V) (q:κ×Value)=>p.1=q.1/\Hc p.2 q.2
def kV:Key->V
 | .inl i=>.int i
 | .inr x=>.str x
inductive HO where
 | lst (xs:List V)
 | tup (xs:List V)
 | dK (kvs:List (Key×V)) | dT (kvs:List (List Key×V))
 | set (S:Int->Bool) (n:Nat)
 | ins (C dx:Addr) (fs:List (Str×V))
 | own (x:Addr)
 | xd (fs:List (Str×V))
 | met (f x:Addr)
 | rng (lo hi:Int)
 | frz (o:Obj) (u:HO)
 | tbl (ps:Array Value)
 | ext (φ:Heap->Prop)
variable{o:HO}
abbrev Hp:=Addr->Option HO
variable{H:Hp}
def upd(H:Hp)(a:Addr)(o:HO):Hp:=fun b=>if b=a then some o else H b
theorem Hu:upd H a o a=some o:=by unfold upd; rw[if_pos rfl]
theorem Gr(h:b≠a):upd H a o b=H b:=by unfold upd; rw[if_neg h]
theorem Gfh{u:HO}(h:H a=some o)(h':H b=some u)(d:o≠u):a≠b:=by
 intro e; subst e; rw[h] at h'; exact d (Option.some.inj h')
theorem Hv(h:H a=some o)(h':H b=none):a≠b:=by
 intro e; subst e; rw[h] at h'; cases h'
section
variable(P:Program)(w:World)
def Jm(H:Hp)(h:Heap)(a:Addr):HO->Prop
 | .lst xs=>xs.length<=sizeLine/\∃ (its:List Value) (n:Nat),Vals xs its/\h.get? a=some { cls:=.type "list",data:=.seq its.toArray n }
 | .tup xs=>xs.length<=sizeLine/\∃ its:List Value,Vals xs its/\IsTup h a its.toArray
 | .dK kvs=>kvs.length<=sizeLine/\(a==sysModules)=false/\∃ vs,KV kvs vs/\h.DictOf (Gch P w) a vs
 | .dT kvs=>kvs.length<=sizeLine/\(a==sysModules)=false/\∃ xs:List (List Key×Addr×Value),
   Paired (fun(p:List Key×V) (q:List Key×Addr×Value)=>p.1=q.1/\H q.2.1=some (.tup (p.1.map kV))/\Hc p.2 q.2.2) kvs xs∧
   ∃ o es ep,h.get? a=some o/\o.ExactDict/\o.data=.dict es ep/\es.toList=xs.map (entryOfKey (tupleKind (Gch P w)))/\(xs.map (·.1)).Nodup
 | .set S n=>h.SetOf (intKind P w) a S n
 | .ins C dx fs=>H dx=some (.own a)/\fs.length<=1000/\dx≠a/\h.get? a=some (PySem.W.instObj C dx)∧
   ∃ mA,h.Ns1 dx mA/\(∀ f,Gs7 (fs.lookup f) (mA f))/\PySem.Within mA (fs.map (·.1))
 | .own _=>∃ o,h.get? a=some o
 | .xd fs=>∃ mA,h.Ns1 a mA/\∀ f,Gs7 (fs.lookup f) (mA f)
 | .rng lo hi=>∃ t u v,h.get? a=some { cls:=.type "range",data:=.fields #[.int lo t,.int hi u,.int 1 v] }
 | .frz o u=>h.get? a=some o/\Jm H h a u
 | .tbl ps=>h.get? a=some { cls:=.none,data:=.fields ps }
 | .met f x=>h.get? a=some (PySem.W.methodObj (.ref f) (.ref x))
 | .ext φ=>φ h/\(∃ o,h.get? a=some o)/\∀ h1 h2:Heap,φ h1->(∀ o,h1.get? a=some o->h2.get? a=some o)->φ h2
def HOk(H:Hp)(h:Heap):Prop:=∀ a o,H a=some o->Jm P w H h a o
end
section
variable{P:Program}{w:World}{H H':Hp}{h h':Heap}{a:Addr}{o:HO}
theorem Jm.lt(x:Jm P w H h a o):a<h.objs.size:=by
 cases o with
 | lst xs=>obtain⟨_,_,_,_,e⟩:=x; exact Heap.lt_size e
 | tup xs=>obtain⟨_,_,_,p⟩:=x; exact p.lt
 | dK kvs=>obtain⟨_,_,_,_,o,_,_,e,_⟩:=x; exact Heap.lt_size e
 | dT kvs=>obtain⟨_,_,_,_,o,_,_,e,_⟩:=x; exact Heap.lt_size e
 | set S n=>obtain⟨o,_,_,_,e,_⟩:=x; exact Heap.lt_size e
 | ins C dx fs=>obtain⟨_,_,_,e,_⟩:=x; exact Heap.lt_size e
 | own y=>obtain⟨_,e⟩:=x; exact Heap.lt_size e
 | xd fs=>obtain⟨_,⟨_,_,_,e,_⟩,_⟩:=x; exact Heap.lt_size e
 | rng lo hi=>obtain⟨_,_,_,e⟩:=x; exact Heap.lt_size e
 | frz ob u=>obtain⟨e,_⟩:=x; exact Heap.lt_size e
 | tbl ps=>exact Heap.lt_size (show h.get? a=some _ from x)
 | met f y=>exact Heap.lt_size (show h.get? a=some _ from x)
 | ext φ=>obtain⟨_,⟨_,e⟩,_⟩:=x; exact Heap.lt_size e
theorem Paired.mapP{α β:Type}{F G:α->β->Prop}:∀ {l₁:List α} {l₂:List β},Paired F l₁ l₂->(∀ a b,F a b->G a b)->Paired G l₁ l₂
 | _,_,.nil,_=>.nil
 | _,_,.cons r t,f=>.cons (f _ _ r) (Paired.mapP t f)
theorem Jm.stay(x:Jm P w H h a o)(k:∀ b u,(b=a\/H b=some (.own a))->h.get? b=some u->h'.get? b=some u)
  (ho:∀ b,H b=some (.own a)->H' b=some (.own a)) (ht:∀ b xs,H b=some (.tup xs)->H' b=some (.tup xs)):Jm P w H' h' a o:=by
 induction o with
 | lst xs=>obtain⟨z,its,n,r,e⟩:=x; exact⟨z,its,n,r,k _ _ (.inl rfl) e⟩
 | tup xs=>obtain⟨z,its,r,ob,e,c⟩:=x; exact⟨z,its,r,ob,k _ _ (.inl rfl) e,c⟩
 | dK kvs=>obtain⟨z,y,vs,r,ob,es,ep,e,c⟩:=x; exact⟨z,y,vs,r,ob,es,ep,k _ _ (.inl rfl) e,c⟩
 | dT kvs=>
  obtain⟨z,y,xs,r,ob,es,ep,e,c⟩:=x
  exact⟨z,y,xs,Paired.mapP r fun p q z=>⟨z.1,ht _ _ z.2.1,z.2.2⟩,ob,es,ep,k _ _ (.inl rfl) e,c⟩
 | set S n=>obtain⟨ob,es,ep,t,e,c⟩:=x; exact⟨ob,es,ep,t,k _ _ (.inl rfl) e,c⟩
 | ins C dx fs=>
  obtain⟨d,z,ne,e,mA,⟨od,es,ep,e2,c⟩,r⟩:=x
  exact⟨ho _ d,z,ne,k _ _ (.inl rfl) e,mA,⟨od,es,ep,k _ _ (.inr d) e2,c⟩,r⟩
 | own y=>obtain⟨ob,e⟩:=x; exact⟨ob,k _ _ (.inl rfl) e⟩
 | xd fs=>obtain⟨mA,⟨od,es,ep,e,c⟩,r⟩:=x; exact⟨mA,⟨od,es,ep,k _ _ (.inl rfl) e,c⟩,r⟩
 | rng lo hi=>obtain⟨t,u,v,e⟩:=x; exact⟨t,u,v,k _ _ (.inl rfl) e⟩
 | frz ob u ih=>obtain⟨e,q⟩:=x; exact⟨k _ _ (.inl rfl) e,ih q⟩
 | tbl ps=>
  have e:h.get? a=some { cls:=.none,data:=.fields ps }:=x
  show h'.get? a=some { cls:=.none,data:=.fields ps }
  exact k a _ (.inl rfl) e
 | met f y=>
  have e:h.get? a=some (PySem.W.methodObj (.ref f) (.ref y)):=x
  show h'.get? a=some (PySem.W.methodObj (.ref f) (.ref y))
  exact k a _ (.inl rfl) e
 | ext φ=>obtain⟨p,⟨o,e⟩,st⟩:=x; exact⟨st _ _ p fun o q=>k _ _ (.inl rfl) q,⟨o,k _ _ (.inl rfl) e⟩,st⟩
theorem HOk.lt(x:HOk P w H h)(e:H a=some o):a<h.objs.size:=(x a o e).lt
theorem HOk.fresh(x:HOk P w H h)(e:h.objs.size<=a):H a=none:=by
 cases q:H a with
 | none=>rfl
 | some u=>exact absurd (Nat.lt_of_lt_of_le (x.lt q) e) (Nat.lt_irrefl _)
theorem HOk.kept(x:HOk P w H h)(k:∀ b u,h.get? b=some u->h'.get? b=some u):HOk P w H h':=fun a o e=>
 (x a o e).stay (fun b u _ q=>k b u q) (fun _ q=>q) fun _ _ q=>q
theorem HOk.laid(x:HOk P w H h)(k:∀ b u,h.get? b=some u->h'.get? b=some u)(hp:h.objs.size<=a)(new:Jm P w (upd H a o) h' a o):HOk P w (upd H a o) h':=fun b u e=>by
 have hn:=x.fresh hp
 by_cases hb:b=a
 ·subst hb; rw[Hu] at e; cases e; exact new
 ·rw[Gr hb] at e
  exact(x b u e).stay (fun c v _ q=>k c v q) (fun c q=>by rw[Gr (Hv q hn)]; exact q) fun c xs q=>by rw[Gr (Hv q hn)]; exact q
end
def Rd(H:Hp)(a:Addr)(u:HO):Prop:=H a=some u\/∃ o,H a=some (.frz o u)
theorem Rd.ok{u:HO}(r:Rd H a u)(x:HOk P w H h):Jm P w H h a u:=by
 rcases r with r | ⟨o,r⟩
 ·exact x a u r
 ·obtain⟨_,q⟩:=x a _ r
  exact q
def Mut:Option HO->Prop
 | some (.lst _)=>True
 | some (.dK _)=>True
 | some (.dT _)=>True
 | some (.set _ _)=>True
 | some (.ins _ _ _)=>True
 | some (.ext _)=>True
 | _=>False
theorem HOk.write{h':Heap}{x e:Addr}{o':HO}(ok:HOk P w H h)(mu:Mut (H x))(he:e=x\/H e=some (.own x))(k:∀ b u,b≠e->h.get? b=some u->h'.get? b=some u)(heo:∃ u,h'.get? e=some u)(new:Jm P w (upd H x o') h' x o'):HOk P w (upd H x o') h':=fun b u q=>by
 have nown:∀ c y,H c=some (.own y)->c≠x:=fun c y r z=>by subst z; rw[r] at mu; exact mu
 have ntup:∀ c xs,H c=some (.tup xs)->c≠x:=fun c xs r z=>by subst z; rw[r] at mu; exact mu
 by_cases hb:b=x
 ·subst hb; rw[Hu] at q; cases q; exact new
 ·rw[Gr hb] at q
  by_cases hbe:b=e
  ·have q':H b=some (.own x):=by
    rcases he with z | z
    ·exact absurd (hbe.trans z) hb
    ·rw[hbe]; exact z
   rw[q] at q'; cases q'
   obtain⟨v,hv⟩:=heo
   exact⟨v,by rw[hbe]; exact hv⟩
  ·refine(ok b u q).stay (fun c v hc r=>k c v ?_ r) (fun c r=>by rw[Gr (nown c b r)]; exact r) fun c xs r=>by rw[Gr (ntup c xs r)]; exact r
   rcases hc with rfl | hc
   ·exact hbe
   ·rintro rfl
    rcases he with z | z
    ·exact nown c b hc z
    ·rw[hc] at z; cases z; exact hb rfl
structure Un(fs ex:List Addr)(H H':Hp)(h h':Heap):Prop where
 keep:∀ b o,h.get? b=some o->H b=none->b∉fs->b∉ex->h'.get? b=some o
 slot:∀ b o,h.get? b=some o->H b=none->b∈fs->b∉ex->∃ sl,h'.get? b=some { o with slots:=sl }
 free:∀ b o,h.get? b=some o->H b=none->b∉ex->H' b=none
 there:∀ b o,h.get? b=some o->b∉ex->∃ o',h'.get? b=some o'
 tups:∀ b xs,H b=some (.tup xs)->H' b=some (.tup xs)
 frzs:∀ b o u,H b=some (.frz o u)->H' b=some (.frz o u)
 tbls:∀ b ps,H b=some (.tbl ps)->∃ more,H' b=some (.tbl (ps++more))
section
variable{fs fs' ex ex':List Addr}{H H1 H2:Hp}{h h1 h2 h':Heap}{a x e:Addr}{o:HO}
theorem Un.any(u:Un fs ex H H1 h h1){ob:Obj}(q:h.get? b=some ob)(n:H b=none)(hx:b∉ex):∃ sl,h1.get? b=some { ob with slots:=sl }:=by
 by_cases hb:b∈fs
 ·exact u.slot b ob q n hb hx
 ·exact⟨ob.slots,u.keep b ob q n hb hx⟩
theorem Un.kept(k:∀ b u,h.get? b=some u->h'.get? b=some u):Un fs ex H H h h':=
 ⟨fun b ob q _ _ _=>k b ob q,fun b ob q _ _ _=>⟨ob.slots,k b ob q⟩,fun _ _ _ n _=>n,fun b ob q _=>⟨ob,k b ob q⟩,fun _ _ q=>q,fun _ _ _ q=>q,fun _ ps q=>⟨#[],by rw[q]; simp⟩⟩
theorem Un.refl:Un fs ex H H h h:=Un.kept fun _ _ q=>q
theorem Un.laid(k:∀ b u,h.get? b=some u->h'.get? b=some u)(hp:h.objs.size<=a)(hn:H a=none):Un fs ex H (upd H a o) h h' where
 keep:=fun b u q _ _ _=>k b u q
 slot:=fun b u q _ _ _=>⟨u.slots,k b u q⟩
 free:=fun b u q n _=>by rw[Gr (Nat.ne_of_lt (Nat.lt_of_lt_of_le (Heap.lt_size q) hp))]; exact n
 there:=fun b u q _=>⟨u,k b u q⟩
 tups:=fun b xs q=>by rw[Gr (Hv q hn)]; exact q
 frzs:=fun b u xs q=>by rw[Gr (Hv q hn)]; exact q
 tbls:=fun b ps q=>⟨#[],by rw[Gr (Hv q hn),q]; simp⟩
theorem Un.write(mu:Mut (H x))(he:e=x\/H e=some (.own x))(k:∀ b u,b≠e->h.get? b=some u->h'.get? b=some u)(heo:∃ u,h'.get? e=some u):Un fs ex H (upd H x o) h h':=by
 have hx:∀ b,H b=none->b≠x:=fun b n z=>by subst z; rw[n] at mu; exact mu
 have hb:∀ b,H b=none->b≠e:=fun b n z=>by
  subst z
  rcases he with r | r
  ·exact hx b n r
  ·rw[n] at r; cases r
 have hm:∀ b u,H b=some u->¬ Mut (some u)->b≠x:=fun b u q nm z=>by subst z; rw[q] at mu; exact nm mu
 refine⟨fun b u q n _ _=>k b u (hb b n) q,fun b u q n _ _=>⟨u.slots,k b u (hb b n) q⟩,fun b u q n _=>by rw[Gr (hx b n)]; exact n,fun b u q _=>?_,
  fun b xs q=>by rw[Gr (hm b _ q fun z=>z)]; exact q,fun b u xs q=>by rw[Gr (hm b _ q fun z=>z)]; exact q,fun b ps q=>⟨#[],by rw[Gr (hm b _ q fun z=>z),q]; simp⟩⟩
 by_cases hbe:b=e
 ·subst hbe; exact heo
 ·exact⟨u,k b u hbe q⟩
end
def trk(h:Heap)(H:Hp):List Addr:=(List.range h.objs.size).filter fun a=>(H a).isSome
def Gci(h:Heap)(H:Hp):Heap:=PySem.W.hideAll h (trk h H)
theorem Ggd(h:Heap)(H:Hp):(Gci h H).objs.size=h.objs.size:=PySem.W.hideAll_size _ _
theorem Ghj{o:Obj}(e:h.get? b=some o)(n:H b=none):(Gci h H).get? b=some o:=
 PySem.W.hideAll_get _ e fun hm=>by
  have q:(H b).isSome=true:=(List.mem_filter.mp hm).2
  rw[n] at q; simp at q
theorem of_hidT{o:Obj}(e:(Gci h H).get? b=some o):h.get? b=some o/\H b=none:=by
 have e':h.get? b=some o:=PySem.W.of_hideAll (trk h H) e
 refine⟨e',?_⟩
 cases q:H b with
 | none=>rfl
 | some x=>
  have hm:b∈trk h H:=List.mem_filter.mpr ⟨List.mem_range.mpr (Heap.lt_size e'),by simp[q]⟩
  have z:(Gci h H).get? b=none:=PySem.W.hideAll_none (trk h H) hm
  rw[z] at e; cases e
def Gkm(g h:Heap)(L:Addr):List (Addr×Obj):=(List.range h.objs.size).filterMap fun a=>if a=L\/(g.get? a).isSome=true then none else(h.get? a).map fun o=>(a,o)
def rest(g h:Heap)(L d:Addr):List (Addr×Obj):=(Gkm g h L).filter fun p=>decide (p.1≠d)
structure Mod(K:PySem.W.Frag)(mg:Str->Option Value)(base:Heap):Prop where
 kin:K.In base
 glob:base.Ns mainGlobals mg
 blt:∃ mb,base.Ns builtinsNs mb/\∀ x:Str,x≠"__name__"->mb x=bootBuiltins x
 nolimit:base.NoLimit
structure Cx where
 prog:Program
 w:World
 K:PySem.W.Frag
 mg:Str->Option Value
 base:Heap
 A:Around
 N:List Str
 s₀:Shared
 H₀:Hp
 env:Env
 outer:List Env
 stack:List Env
 ex:List Addr
 fn:Str->Bool
 calm:Bool
 pn:List (Addr×Obj)
 xe:Value->Shared->Prop
variable{X:Cx}
def frs(l:List Env):List Addr:=l.filterMap (·.frame)
abbrev Cx.fs(X:Cx):List Addr:=frs X.outer
def Vis(sc:Scope)(x:Str):Prop:=sc.names.lookup x=some .local\/sc.names.lookup x=some .cell\/sc.names.lookup x=some .free
def Loc(sc:Scope)(x:Str):Prop:=sc.names.lookup x=some .local\/sc.names.lookup x=some .cell
def Look(env:Env)(h:Heap)(m:Str->Option Value)(x:Str)(u:Value):Prop:=
 (env.kindOf x=some .local/\m x=some u)\/((env.kindOf x=some .cell\/env.kindOf x=some .free)/\∃ c,env.cells.lookup x=some c/\h.IsCell c (some u))
structure Cx.Ok(X:Cx):Prop where
 mod:Mod X.K X.mg X.base
 kind:X.env.scope.kind=.function
 glob:X.env.globals=mainGlobals
 blt:X.env.builtins=builtinsNs
 above:X.s₀.heap.objs.size<=X.env.locals
 inj:∀ x y c,X.env.cells.lookup x=some c->X.env.cells.lookup y=some c->x=y
 has:∀ x,(X.env.kindOf x=some .cell\/X.env.kindOf x=some .free)->∃ c,X.env.cells.lookup x=some c
 cab:∀ x c,X.fn x=true->X.env.cells.lookup x=some c->X.s₀.heap.objs.size<=c
 hd:X.calm=true->X.A.handled=none
 frames:X.A.frames=some X.stack
 stk:X.stack=X.outer\/(X.stack=X.env::X.outer/\X.env.frame=some X.env.locals)
 exf:∀ b∈X.ex,b≠X.env.locals/\∀ x c,X.env.cells.lookup x=some c->c≠b
 bs:∀ b o,X.base.get? b=some o->X.s₀.heap.get? b=some o/\X.H₀ b=none
 bsz:X.base.objs.size<=X.s₀.heap.objs.size
 noex:∀ b o,X.base.get? b=some o->b∉X.ex
 exfs:∀ b∈X.ex,b∉X.fs
 funs:X.s₀.heap.FunFrames X.base X.outer
 frf:∀ b∈X.fs,X.H₀ b=none
structure Inv(X:Cx)(pins:List (Addr×Obj))(σ:List (Option V))(H:Hp)(s:Shared):Prop where
 ok:X.Ok
 os:s.os=X.s₀.os
 bare:AllBare s.gens
 base:Un X.fs X.ex X.H₀ H X.s₀.heap s.heap
 loc:∃ m,s.heap.Ns X.env.locals m/\∀ (i:Nat) (x:Str) (v:V),X.N[i]?=some x->σ[i]?=some (some v)->Vis X.env.scope x->∃ u,Hc v u/\Look X.env s.heap m x u
 cell:∀ x c,X.env.cells.lookup x=some c->∃ v,s.heap.IsCell c v
 free:H X.env.locals=none
 freeC:∀ x c,X.env.cells.lookup x=some c->H c=none
 pin:∀ p∈X.pn++pins,s.heap.get? p.1=some p.2/\H p.1=none/\p.1≠X.env.locals/\p.1∉X.fs/\∀ v,p.2.data≠.cell v
 hok:HOk X.prog X.w H s.heap
 len:σ.length=X.N.length
section
variable{X:Cx}{pins:List (Addr×Obj)}{σ:List (Option V)}{H H':Hp}{s:Shared}{h':Heap}
theorem Cx.Ok.nofr(ok:X.Ok){o:Obj}(e:X.base.get? b=some o):b∉X.fs:=fun hb=>by
 have:=(ok.funs.mem hb).1
 rw[e] at this; cases this
theorem Inv.bs(I:Inv X pins σ H s):∀ b o,X.base.get? b=some o->s.heap.get? b=some o/\H b=none:=fun b o e=>
 ⟨I.base.keep b o (I.ok.bs b o e).1 (I.ok.bs b o e).2 (I.ok.nofr e) (I.ok.noex b o e),I.base.free b o (I.ok.bs b o e).1 (I.ok.bs b o e).2 (I.ok.noex b o e)⟩
theorem Inv.bk(I:Inv X pins σ H s):∀ b o,X.base.get? b=some o->s.heap.get? b=some o:=fun b o e=>(I.bs b o e).1
theorem Inv.mod(I:Inv X pins σ H s):Mod X.K X.mg X.base:=I.ok.mod
theorem Inv.kIn(I:Inv X pins σ H s):X.K.In s.heap:=I.ok.mod.kin.keeps I.bk
theorem Inv.lt(I:Inv X pins σ H s):X.env.locals<s.heap.objs.size:=let ⟨_,hn,_⟩:=I.loc; hn.lt
theorem Inv.sz(I:Inv X pins σ H s):X.s₀.heap.objs.size<=s.heap.objs.size:=Nat.le_trans I.ok.above (Nat.le_of_lt I.lt)
theorem Inv.nofs(I:Inv X pins σ H s)(h:s.heap.objs.size<=a):a∉X.fs:=fun hb=>by
 obtain⟨_,o,ho,_⟩:=I.ok.funs.mem hb
 exact absurd (Nat.lt_of_lt_of_le (Heap.lt_size ho) (Nat.le_trans I.sz h)) (Nat.lt_irrefl _)
theorem Inv.cne(I:Inv X pins σ H s):∀ x c,X.env.cells.lookup x=some c->c≠X.env.locals:=fun x c e z=>by
 obtain⟨v,o,ho,hd⟩:=I.cell x c e
 obtain⟨m,⟨o',es,ep,ho',hd',_⟩,_⟩:=I.loc
 rw[z,ho'] at ho; cases ho; rw[hd'] at hd; cases hd
theorem Inv.funs(I:Inv X pins σ H s):s.heap.FunFrames X.base X.outer:=by
 have all:∀ (l:List Env),(∀ b∈frs l,b∈X.fs)->X.s₀.heap.FunFrames X.base l->s.heap.FunFrames X.base l:=by
  intro l
  induction l with
  | nil=>intro _ _; trivial
  | cons env r ih=>
   intro hs hl
   obtain⟨hk,⟨L,o,hf,hn,ho,hd⟩,hr⟩:=hl
   have hL:L∈X.fs:=hs L (by unfold frs; rw[List.filterMap_cons,hf]; exact List.mem_cons_self)
   obtain⟨sl,e⟩:=I.base.slot L o ho (I.ok.frf L hL) hL fun z=>I.ok.exfs L z hL
   exact⟨hk,⟨L,_,hf,hn,e,hd⟩,ih (fun b hb=>hs b (by unfold frs; rw[List.filterMap_cons,hf]; exact List.mem_cons_of_mem _ hb)) hr⟩
 exact all X.outer (fun _ hb=>hb) I.ok.funs
theorem Inv.stack(I:Inv X pins σ H s):s.heap.FunFrames X.base X.stack:=by
 rcases I.ok.stk with e | ⟨e,hf⟩
 ·rw[e]; exact I.funs
 ·rw[e]
  obtain⟨m,hn,_⟩:=I.loc
  refine .cons (by rw[I.ok.kind]; decide) hf hn ?_ I.funs
  exact Heap.get?_none_of_le (Nat.le_trans I.ok.bsz I.ok.above)
theorem Inv.stkSub(I:Inv X pins σ H s):∀ b∈frs X.stack,b∈X.env.locals::X.fs:=fun b hb=>by
 rcases I.ok.stk with e | ⟨e,hf⟩
 ·rw[e] at hb; exact List.mem_cons_of_mem _ hb
 ·rw[e] at hb
  unfold frs at hb
  rw[List.filterMap_cons,hf] at hb
  exact hb
theorem Inv.stkFree(I:Inv X pins σ H s):∀ b∈frs X.stack,H b=none:=fun b hb=>by
 rcases List.mem_cons.mp (I.stkSub b hb) with e | hb
 ·rw[e]; exact I.free
 ·obtain⟨_,o,ho,_⟩:=I.ok.funs.mem hb
  exact I.base.free b o ho (I.ok.frf b hb) fun z=>I.ok.exfs b z hb
theorem Inv.step{g':Array GenState}{d':Drawn}{ch:List Addr}(I:Inv X pins σ H s)(hch:∀ b∈ch,(b∈X.ex\/X.s₀.heap.objs.size<=b)/\b≠X.env.locals/\(∀ x c,X.env.cells.lookup x=some c->c≠b)/\∀ p∈X.pn++pins,p.1≠b)(keep:∀ b o,b≠X.env.locals->b∉X.fs->b∉ch->s.heap.get? b=some o->H b=none->h'.get? b=some o)(slot:∀ b o,b≠X.env.locals->b∈X.fs->b∉ch->s.heap.get? b=some o->H b=none->∃ sl,h'.get? b=some { o with slots:=sl })(free:∀ b o,b∉ch->s.heap.get? b=some o->H b=none->H' b=none)(there:∀ b o,b∉ch->s.heap.get? b=some o->∃ o',h'.get? b=some o')(tups:∀ b xs,H b=some (.tup xs)->H' b=some (.tup xs))(frzs:∀ b o u,H b=some (.frz o u)->H' b=some (.frz o u))(tbls:∀ b ps,H b=some (.tbl ps)->∃ more,H' b=some (.tbl (ps++more)))(ns:∀ m,s.heap.Ns X.env.locals m->h'.Ns X.env.locals m)(hok:HOk X.prog X.w H' h')(hg:AllBare g'):
  Inv X pins σ H' { s with heap:=h',gens:=g',drawn:=d',toks:=t' }:=by
 have neL:∀ b o,X.s₀.heap.get? b=some o->b≠X.env.locals:=fun b o e=>Nat.ne_of_lt (Nat.lt_of_lt_of_le (Heap.lt_size e) I.ok.above)
 have neC:∀ b o,X.s₀.heap.get? b=some o->b∉X.ex->b∉ch:=fun b o e hx hb=>by
  rcases(hch b hb).1 with z | z
  ·exact hx z
  ·exact absurd (Nat.lt_of_lt_of_le (Heap.lt_size e) z) (Nat.lt_irrefl _)
 have cellK:∀ x c,X.env.cells.lookup x=some c->∀ v,s.heap.IsCell c v->h'.IsCell c v:=fun x c e v ⟨o,ho,hd⟩=>by
  have nch:c∉ch:=fun z=>(hch c z).2.2.1 x c e rfl
  by_cases hc:c∈X.fs
  ·obtain⟨sl,q⟩:=slot c o (I.cne x c e) hc nch ho (I.freeC x c e)
   exact⟨_,q,hd⟩
  ·exact⟨o,keep c o (I.cne x c e) hc nch ho (I.freeC x c e),hd⟩
 refine⟨I.ok,I.os,hg,⟨fun b o e n hb hx=>?_,fun b o e n hb hx=>?_,fun b o e n hx=>?_,fun b o e hx=>?_,fun b xs e=>tups b xs (I.base.tups b xs e),fun b o xs e=>frzs b o xs (I.base.frzs b o xs e),fun b ps e=>?_⟩,?_,fun x c e=>?_,?_,fun x c e=>?_,fun p hp=>?_,hok,I.len⟩
 ·exact keep b o (neL b o e) hb (neC b o e hx) (I.base.keep b o e n hb hx) (I.base.free b o e n hx)
 ·obtain⟨sl,e1⟩:=I.base.slot b o e n hb hx
  obtain⟨sl',e2⟩:=slot b _ (neL b o e) hb (neC b o e hx) e1 (I.base.free b o e n hx)
  exact⟨sl',e2⟩
 ·obtain⟨o',e1⟩:=I.base.there b o e hx
  exact free b o' (neC b o e hx) e1 (I.base.free b o e n hx)
 ·obtain⟨o',e1⟩:=I.base.there b o e hx
  exact there b o' (neC b o e hx) e1
 ·obtain⟨m1,e1⟩:=I.base.tbls b ps e
  obtain⟨m2,e2⟩:=tbls b _ e1
  exact⟨m1++m2,by rw[e2,Array.append_assoc]⟩
 ·obtain⟨m,hn,hl⟩:=I.loc
  refine⟨m,ns m hn,fun i x v e1 e2 e3=>?_⟩
  obtain⟨u,r,l⟩:=hl i x v e1 e2 e3
  refine⟨u,r,?_⟩
  rcases l with l | ⟨k,c,e,z⟩
  ·exact .inl l
  ·exact .inr ⟨k,c,e,cellK x c e _ z⟩
 ·obtain⟨v,z⟩:=I.cell x c e
  exact⟨v,cellK x c e v z⟩
 ·obtain⟨m,⟨o,_,_,ho,_⟩,_⟩:=I.loc
  exact free _ o (fun z=>(hch _ z).2.1 rfl) ho I.free
 ·obtain⟨v,o,ho,hd⟩:=I.cell x c e
  exact free c o (fun z=>(hch c z).2.2.1 x c e rfl) ho (I.freeC x c e)
 ·obtain⟨e,n,ne,nf,d⟩:=I.pin p hp
  have nch:p.1∉ch:=fun z=>(hch p.1 z).2.2.2 p hp rfl
  exact⟨keep p.1 p.2 ne nf nch e n,free p.1 p.2 nch e n,ne,nf,d⟩
theorem Inv.un(I:Inv X pins σ H s)(u:Un X.fs [] H H' s.heap h')(hok:HOk X.prog X.w H' h'):Inv X pins σ H' { s with heap:=h',toks:=t' }:=by
 obtain⟨m,⟨o,es,ep,ho,r⟩,_⟩:=id I.loc
 obtain⟨sl,hL⟩:=u.any ho I.free (by simp)
 exact I.step (g':=s.gens) (d':=s.drawn) (ch:=[]) (fun _ z=>nomatch z) (fun b o _ hb _ e n=>u.keep b o e n hb (by simp)) (fun b o _ hb _ e n=>u.slot b o e n hb (by simp)) (fun b o _ e n=>u.free b o e n (by simp)) (fun b o _ e=>u.there b o e (by simp)) u.tups u.frzs u.tbls (fun m' hm=>by
  obtain⟨o',es',ep',ho',r'⟩:=hm
  rw[ho] at ho'; cases ho'
  exact⟨_,es',ep',hL,r'⟩) hok I.bare
theorem Inv.call{g':Array GenState}{d':Drawn}{ch:List Addr}(I:Inv X pins σ H s)(u:Un (frs X.stack) ch H H' s.heap h')(hok:HOk X.prog X.w H' h')(hg:AllBare g')(hch:∀ b∈ch,(b∈X.ex\/X.s₀.heap.objs.size<=b)/\b≠X.env.locals/\(∀ x c,X.env.cells.lookup x=some c->c≠b)/\∀ p∈X.pn++pins,p.1≠b):
  Inv X pins σ H' { s with heap:=h',gens:=g',drawn:=d',toks:=t' }:=by
 obtain⟨m,⟨o,es,ep,ho,r⟩,_⟩:=id I.loc
 obtain⟨sl,hL⟩:=u.any ho I.free fun z=>(hch _ z).2.1 rfl
 exact I.step (ch:=ch) hch (fun b o hL hb hc e n=>u.keep b o e n (fun z=>(List.mem_cons.mp (I.stkSub b z)).elim hL hb) hc) (fun b o _ _ hc e n=>u.any e n hc) (fun b o hc e n=>u.free b o e n hc) (fun b o hc e=>u.there b o e hc) u.tups u.frzs u.tbls (fun m' hm=>by
  obtain⟨o',es',ep',ho',r'⟩:=hm
  rw[ho] at ho'; cases ho'
  exact⟨_,es',ep',hL,r'⟩) hok hg
theorem Inv.turned{it:Addr}(I:Inv X pins σ H s)(k:∀ b o,b≠it->s.heap.get? b=some o->h'.get? b=some o)(hn:H it=none)(hL:it≠X.env.locals)(h1:it∈X.ex\/X.s₀.heap.objs.size<=it)(h2:∀ x c,X.env.cells.lookup x=some c->c≠it)(h3:∀ p∈X.pn++pins,p.1≠it):Inv X pins σ H { s with heap:=h',toks:=t' }:=by
 have nit:∀ b u,H b=some u->b≠it:=fun b u e z=>by rw[z,hn] at e; cases e
 refine I.step (g':=s.gens) (d':=s.drawn) (ch:=[it]) (fun b hb=>?_) (fun b o _ _ hc e _=>k b o (fun z=>hc (by simp[z])) e) (fun b o _ _ hc e _=>⟨o.slots,k b o (fun z=>hc (by simp[z])) e⟩) (fun _ _ _ _ n=>n)
  (fun b o hc e=>⟨o,k b o (fun z=>hc (by simp[z])) e⟩) (fun _ _ e=>e) (fun _ _ _ e=>e) (fun b ps e=>⟨#[],by rw[e]; simp⟩) (fun m hm=>?_) (fun b u e=>?_) I.bare
 ·have e:b=it:=by simpa using hb
  subst e
  exact⟨h1,hL,h2,h3⟩
 ·obtain⟨o,es,ep,ho,r⟩:=hm
  exact⟨o,es,ep,k _ o (Ne.symm hL) ho,r⟩
 ·refine(I.hok b u e).stay (fun c v hc q=>k c v ?_ q) (fun _ q=>q) fun _ _ q=>q
  rcases hc with z | z
  ·rw[z]; exact nit b u e
  ·exact nit c _ z
theorem Inv.tok(I:Inv X pins σ H s)(t:Nat):Inv X pins σ H { s with toks:=t }:=I.un (h':=s.heap) (t':=t) Un.refl I.hok
theorem Inv.kept(I:Inv X pins σ H s)(k:∀ b u,s.heap.get? b=some u->h'.get? b=some u):Inv X pins σ H { s with heap:=h',toks:=t' }:=I.un (Un.kept k) (I.hok.kept k)
theorem Inv.laid(I:Inv X pins σ H s)(k:∀ b u,s.heap.get? b=some u->h'.get? b=some u)(hp:s.heap.objs.size<=a)(new:Jm X.prog X.w (upd H a o) h' a o):
  Inv X pins σ (upd H a o) { s with heap:=h',toks:=t' }:=I.un (Un.laid k hp (I.hok.fresh hp)) (I.hok.laid k hp new)
theorem Inv.write{x e:Addr}(I:Inv X pins σ H s)(mu:Mut (H x))(he:e=x\/H e=some (.own x))(k:∀ b u,b≠e->s.heap.get? b=some u->h'.get? b=some u)(heo:∃ u,h'.get? e=some u)(new:Jm X.prog X.w (upd H x o) h' x o):Inv X pins σ (upd H x o) { s with heap:=h',toks:=t' }:=I.un (Un.write mu he k heo) (I.hok.write mu he k heo new)
theorem Inv.pins_of{pins':List (Addr×Obj)}(I:Inv X pins σ H s)(h:∀ p∈pins',s.heap.get? p.1=some p.2/\H p.1=none/\p.1≠X.env.locals/\p.1∉X.fs/\∀ v,p.2.data≠.cell v):Inv X pins' σ H s:=
 ⟨I.ok,I.os,I.bare,I.base,I.loc,I.cell,I.free,I.freeC,fun p hp=>(List.mem_append.mp hp).elim (fun z=>I.pin p (List.mem_append_left _ z)) (h p),I.hok,I.len⟩
theorem Zw(hN:N.Nodup)(a:N[i]?=some x)(b:N[j]?=some x):i=j:=by
 obtain⟨h1,e1⟩:=List.getElem?_eq_some_iff.mp a
 obtain⟨h2,e2⟩:=List.getElem?_eq_some_iff.mp b
 exact(List.getElem_inj hN).mp (e1.trans e2.symm)
theorem Gby{Q:Unit->Shared->Prop}(I:Inv X pins σ H s)(hN:X.N.Nodup)(hi:X.N[i]?=some x)(hx:Loc X.env.scope x)(r:Hc v u)(h:∀ s',Inv X pins (σ.set i (some v)) H s'->(∃ a,Heap.SameBut a s.heap s'.heap/\(a=X.env.locals\/X.env.cells.lookup x=some a))->Q () s')(hf:X.fn x=true\/X.env.scope.names.lookup x=some .local:=by first | exact .inl rfl | exact .inr rfl | assumption):wpAny M A (storeName X.env x u) Q E s:=by
 obtain⟨m,hn,hl⟩:=id I.loc
 have hcls:(X.env.scope.kind==.class||(X.env.scope.kind==.module&&X.env.locals != X.env.globals))=false:=by rw[I.ok.kind]; rfl
 have hiσ:i<σ.length:=by rw[I.len]; exact(List.getElem?_eq_some_iff.mp hi).1
 have cne:=I.cne
 have tracked:∀ {a:Addr} {h':Heap},(∃ o,s.heap.get? a=some o/\H a=none)->Heap.SameBut a s.heap h'->HOk X.prog X.w H h':=fun{a h'} ha hs b ob e=>by
  obtain⟨_,_,hfree⟩:=ha
  refine(I.hok b ob e).stay (fun c w' hc q=>(hs.2 c ?_).trans q) (fun _ q=>q) fun _ _ q=>q
  rintro rfl
  rcases hc with rfl | hc
  ·rw[hfree] at e; cases e
  ·rw[hfree] at hc; cases hc
 rcases hx with hk | hk
 ·refine wpAny_storeName_local hk hn (fun h' hn' hs=>?_) hcls
  obtain⟨oL,_,_,hoL,_⟩:=id hn
  refine h _ ⟨I.ok,I.os,I.bare,⟨fun b o e n hb hx=>?_,fun b o e n hb hx=>?_,I.base.free,fun b o e hx=>?_,I.base.tups,I.base.frzs,I.base.tbls⟩,⟨_,hn',fun j y v' e1 e2 e3=>?_⟩,fun y c e=>?_,I.free,I.freeC,fun p hp=>?_,tracked ⟨oL,hoL,I.free⟩ hs,by simpa using I.len⟩ ⟨_,hs,.inl rfl⟩
  ·exact(hs.2 b (Nat.ne_of_lt (Nat.lt_of_lt_of_le (Heap.lt_size e) I.ok.above))).trans (I.base.keep b o e n hb hx)
  ·obtain⟨sl,e1⟩:=I.base.slot b o e n hb hx
   exact⟨sl,(hs.2 b (Nat.ne_of_lt (Nat.lt_of_lt_of_le (Heap.lt_size e) I.ok.above))).trans e1⟩
  ·obtain⟨o',e1⟩:=I.base.there b o e hx
   exact⟨o',(hs.2 b (Nat.ne_of_lt (Nat.lt_of_lt_of_le (Heap.lt_size e) I.ok.above))).trans e1⟩
  ·by_cases hj:j=i
   ·subst hj
    rw[hi] at e1; cases e1
    rw[List.getElem?_set_self hiσ] at e2
    cases e2
    exact⟨u,r,.inl ⟨hk,by simp⟩⟩
   ·rw[List.getElem?_set_ne (Ne.symm hj)] at e2
    obtain⟨u',r',q⟩:=hl j y v' e1 e2 e3
    refine⟨u',r',?_⟩
    rcases q with⟨k,e⟩ | ⟨k,c,e,z⟩
    ·refine .inl ⟨k,?_⟩
     have:y≠x:=fun e=>hj (Zw hN e1 (e▸hi))
     simp[this,e]
    ·exact .inr ⟨k,c,e,z.sameBut hs (cne y c e)⟩
  ·obtain⟨w',z⟩:=I.cell y c e
   exact⟨w',z.sameBut hs (cne y c e)⟩
  ·obtain⟨e,n,ne,nf,d⟩:=I.pin p hp
   exact⟨(hs.2 p.1 ne).trans e,n,ne,nf,d⟩
 ·have hfn:X.fn x=true:=by
   rcases hf with z | z
   ·exact z
   ·rw[z] at hk; cases hk
  obtain⟨c,hc⟩:=I.ok.has x (.inl hk)
  obtain⟨w',z⟩:=I.cell x c hc
  refine wpAny_storeName_cell I.ok.kind hk hc z (fun h' hc' hs=>?_)
  obtain⟨oc,hoc,hocd⟩:=id z
  refine h { s with heap:=h' } ⟨I.ok,I.os,I.bare,⟨fun b o e n hb hx=>?_,fun b o e n hb hx=>?_,I.base.free,fun b o e hx=>?_,I.base.tups,I.base.frzs,I.base.tbls⟩,⟨m,hn.sameBut hs (Ne.symm (cne x c hc)),fun j y v' e1 e2 e3=>?_⟩,fun y c' e=>?_,I.free,I.freeC,fun p hp=>?_,tracked ⟨oc,hoc,I.freeC x c hc⟩ hs,by simpa using I.len⟩ ⟨c,hs,.inr hc⟩
  ·exact(hs.2 b (Nat.ne_of_lt (Nat.lt_of_lt_of_le (Heap.lt_size e) (I.ok.cab x c hfn hc)))).trans (I.base.keep b o e n hb hx)
  ·obtain⟨sl,e1⟩:=I.base.slot b o e n hb hx
   exact⟨sl,(hs.2 b (Nat.ne_of_lt (Nat.lt_of_lt_of_le (Heap.lt_size e) (I.ok.cab x c hfn hc)))).trans e1⟩
  ·obtain⟨o',e1⟩:=I.base.there b o e hx
   exact⟨o',(hs.2 b (Nat.ne_of_lt (Nat.lt_of_lt_of_le (Heap.lt_size e) (I.ok.cab x c hfn hc)))).trans e1⟩
  ·by_cases hj:j=i
   ·subst hj
    rw[hi] at e1; cases e1
    rw[List.getElem?_set_self hiσ] at e2
    cases e2
    exact⟨u,r,.inr ⟨.inl hk,c,hc,hc'⟩⟩
   ·rw[List.getElem?_set_ne (Ne.symm hj)] at e2
    obtain⟨u',r',q⟩:=hl j y v' e1 e2 e3
    refine⟨u',r',?_⟩
    rcases q with q | ⟨k,c',e,z'⟩
    ·exact .inl q
    ·refine .inr ⟨k,c',e,z'.sameBut hs ?_⟩
     rintro rfl
     exact hj (Zw hN e1 (I.ok.inj _ _ _ e hc▸hi))
  ·by_cases hcc:c'=c
   ·subst hcc; exact⟨_,hc'⟩
   ·obtain⟨w2,z2⟩:=I.cell y c' e
    exact⟨w2,z2.sameBut hs hcc⟩
  ·obtain⟨e,n,ne,nf,d⟩:=I.pin p hp
   refine⟨(hs.2 p.1 ?_).trans e,n,ne,nf,d⟩
   intro q
   rw[q,hoc] at e
   have q':oc=p.2:=Option.some.inj e
   exact d w' (by rw[<- q']; exact hocd)
theorem Xw{Q:Unit->Shared->Prop}(I:Inv X pins σ H s)(hN:X.N.Nodup)(hi:X.N[i]?=some x)(hx:Loc X.env.scope x)(r:Hc v u)(h:∀ s',Inv X pins (σ.set i (some v)) H s'->Q () s')(hf:X.fn x=true\/X.env.scope.names.lookup x=some .local:=by first | exact .inl rfl | exact .inr rfl | assumption):wpAny M A (storeName X.env x u) Q E s:=
 Gby I hN hi hx r (fun s' I' _=>h s' I') hf
theorem Inv.call'{s':Shared}{ch:List Addr}(I:Inv X pins σ H s)(ho:s'.os=s.os)(u:Un (frs X.stack) ch H H' s.heap s'.heap)(hok:HOk X.prog X.w H' s'.heap)(hg:AllBare s'.gens)
  (hch:∀ b∈ch,(b∈X.ex\/X.s₀.heap.objs.size<=b)/\b≠X.env.locals/\(∀ x c,X.env.cells.lookup x=some c->c≠b)/\∀ p∈X.pn++pins,p.1≠b):Inv X pins σ H' s':=by
 obtain⟨h',g',d',t',o'⟩:=s'
 have e:o'=s.os:=ho
 subst e
 exact I.call (g':=g') (t':=t') (d':=d') u hok hg hch
end
abbrev XK:=Value->Option Addr->Hp->Prop
abbrev St:=List (Option V)
variable{σ:St}
abbrev VK:=V->Hp->Prop
abbrev TE:=St->Hp->VK->Prop
variable{te:TE}
abbrev TT:=St->Hp->(Bool->Hp->Prop)->Prop
abbrev TA:=St->Hp->(List V->Hp->Prop)->Prop
structure Ends where
 nx:St->Hp->Prop
 rt:VK
 bk:St->Hp->Prop:=fun _ _=>False
 ct:St->Hp->Prop:=fun _ _=>False
abbrev TS:=Ends->St->Hp->Prop
def EP(X:Cx)(pins:List (Addr×Obj))(σ:St)(Q:VK)(u:Value)(s':Shared):Prop:=∃ v H',Inv X pins σ H' s'/\Hc v u/\Q v H'
def TP(X:Cx)(pins:List (Addr×Obj))(σ:St)(Q:Bool->Hp->Prop)(b:Bool)(s':Shared):Prop:=∃ H',Inv X pins σ H' s'/\Q b H'
def AP(X:Cx)(pins:List (Addr×Obj))(σ:St)(Q:List V->Hp->Prop)(us:List Value)(s':Shared):Prop:=∃ vs H',Inv X pins σ H' s'/\Vals vs us/\Q vs H'
def SP(X:Cx)(pins:List (Addr×Obj))(D:Ends)(f:Flow)(s':Shared):Prop:=
 match f with
 | .next=>∃ σ' H',Inv X pins σ' H' s'/\D.nx σ' H'
 | .brk=>∃ σ' H',Inv X pins σ' H' s'/\D.bk σ' H'
 | .cont=>∃ σ' H',Inv X pins σ' H' s'/\D.ct σ' H'
 | .ret u=>∃ v σ' H',Inv X pins σ' H' s'/\Hc v u/\D.rt v H'
def PE(X:Cx)(e:Expr)(t:TE):Prop:=
 ∀ (pins:List (Addr×Obj)) (s:Shared) (σ:St) (H:Hp) (Q:VK),Inv X pins σ H s->t σ H Q->wpAny (model X.prog X.w) X.A (eval e X.env) (EP X pins σ Q) X.xe s
def PT(X:Cx)(e:Expr)(t:TT):Prop:=
 ∀ (pins:List (Addr×Obj)) (s:Shared) (σ:St) (H:Hp) (Q:Bool->Hp->Prop),Inv X pins σ H s->t σ H Q->wpAny (model X.prog X.w) X.A (isTrue e X.env (eval e X.env)) (TP X pins σ Q) X.xe s
def PW(X:Cx)(e:Expr)(t:TT):Prop:=
 ∀ (whole:Sem Value) (pins:List (Addr×Obj)) (s:Shared) (σ:St) (H:Hp) (Q:Bool->Hp->Prop),Inv X pins σ H s->t σ H Q->wpAny (model X.prog X.w) X.A (isTrue e X.env whole) (TP X pins σ Q) X.xe s
theorem PW.pt{e:Expr}{t:TT}(h:PW X e t):PT X e t:=h _
def PA(X:Cx)(es:List Expr)(t:TA):Prop:=
 ∀ (pos:Pos) (pins:List (Addr×Obj)) (s:Shared) (σ:St) (H:Hp) (Q:List V->Hp->Prop),Inv X pins σ H s->t σ H Q->wpAny (model X.prog X.w) X.A (spliced (backTo pos (starEach es X.env))) (AP X pins σ Q) X.xe s
def PS(X:Cx)(st:Stmt)(t:TS):Prop:=
 ∀ (pins:List (Addr×Obj)) (s:Shared) (σ:St) (H:Hp) (D:Ends),Inv X pins σ H s->t D σ H->wpAny (model X.prog X.w) X.A (exec st X.env) (SP X pins D) X.xe s
def PSs(X:Cx)(st:List Stmt)(t:TS):Prop:=
 ∀ (pins:List (Addr×Obj)) (s:Shared) (σ:St) (H:Hp) (D:Ends),Inv X pins σ H s->t D σ H->wpAny (model X.prog X.w) X.A (execs st X.env) (SP X pins D) X.xe s
theorem thn{α:Type}{t:Sem α}{Q Q':α->Shared->Prop}{s:Shared}(h:wpAny M A t Q E s)(hQ:∀ a s,Q a s->Q' a s):wpAny M A t Q' E s:=wpAny_mono h hQ fun _ _ x=>x
section
variable{X:Cx}
def Gge(i:Nat):TE:=fun σ H Q=>∃ v,σ[i]?=some (some v)/\Q v H
def tC(v:V):TE:=fun _ H Q=>Q v H
theorem Yn(hN:X.N[i]?=some x)(hv:Vis X.env.scope x)(hd:(x==("__debug__":Str))=false:=by decide)(hcd:(x==("__classdict__":Str))=false:=by decide):PE X (.Name x pos) (Gge i):=by
 intro pins s σ H Q I h
 obtain⟨v,e,h⟩:=h
 obtain⟨m,hn,hl⟩:=I.loc
 obtain⟨u,r,l⟩:=hl i x v hN e hv
 have fin:EP X pins σ Q u s:=⟨v,H,I,r,h⟩
 rcases l with⟨hk,hm⟩ | ⟨hk,c,hc,hcell⟩
 ·exact wpAny_Name (wpAny_loadName_local I.ok.kind hk hn hm fin) hd
 ·rcases hk with hk | hk
  ·exact wpAny_Name (wpAny_loadName_cell I.ok.kind hk hc hcell fin) hd
  ·exact wpAny_Name (wpAny_loadName_free I.ok.kind hk hc hcell fin hcd) hd
theorem Gon{i j pos}:PE X (.Constant (.int i) j pos) (tC (.int i)):=fun _ _ _ H _ I h=>wpAny_Constant_int ⟨.int i,H,I.tok _,⟨_,rfl⟩,h⟩
theorem Gs8{b j pos}:PE X (.Constant (.bool b) j pos) (tC (.bl b)):=fun _ _ _ H _ I h=>Constant_bool ⟨.bl b,H,I,rfl,h⟩
theorem Goo{j pos}:PE X (.Constant .none j pos) (tC .non):=fun _ _ _ H _ I h=>Constant_none ⟨.non,H,I,rfl,h⟩
theorem Ghk{x j pos}:PE X (.Constant (.str x) j pos) (tC (.str x)):=fun _ _ _ H _ I h=>Calls.Constant_str ⟨.str x,H,I.tok _,⟨_,rfl⟩,h⟩
def Gl(X:Cx)(x:Str):Prop:=X.env.kindOf x=some .globalImplicit
theorem Xi{s:Shared}{Q:Value->Shared->Prop}(I:Inv X pins σ H s)(hg:Gl X x)(hm:X.mg x=some u)(h:Q u s)(hd:(x==("__debug__":Str))=false:=by decide):wpAny (model X.prog X.w) X.A (eval (.Name x pos) X.env) Q E s:=
 Calls.Name_function_global I.ok.kind hg (Calls.loadGlobal_global (by rw[I.ok.glob]; exact I.mod.glob.keeps I.bk) hm h) hd
theorem Wj{s:Shared}{Q:Value->Shared->Prop}(I:Inv X pins σ H s)(hg:Gl X x)(hm:X.mg x=none)(hv:bootBuiltins x=some u)(h:Q u s)(hn:x≠"__name__":=by decide)(hd:(x==("__debug__":Str))=false:=by decide):wpAny (model X.prog X.w) X.A (eval (.Name x pos) X.env) Q E s:=by
 obtain⟨mb,h1,h2⟩:=I.mod.blt
 exact Calls.Name_function_global I.ok.kind hg (Calls.loadGlobal_builtin (by rw[I.ok.glob]; exact I.mod.glob.keeps I.bk) hm (by rw[I.ok.blt]; exact h1.keeps I.bk) ((h2 x hn).trans hv) h) hd
theorem Gfi(hg:Gl X x)(hm:X.mg x=some u)(r:Hc v u)(hd:(x==("__debug__":Str))=false:=by decide):PE X (.Name x pos) (tC v):=
 fun _ _ _ H _ I h=>Xi I hg hm ⟨v,H,I,r,h⟩ hd
theorem Gfj(hg:Gl X x)(hm:X.mg x=none)(hv:bootBuiltins x=some u)(r:Hc v u)(hn:x≠"__name__":=by decide)(hd:(x==("__debug__":Str))=false:=by decide):PE X (.Name x pos) (tC v):=
 fun _ _ _ H _ I h=>Wj I hg hm hv ⟨v,H,I,r,h⟩ hn hd
variable{a b:Expr}{ta tb:TE}{pos:Pos}
variable{tA tB':TT}{rest:List Expr}
def Gv3(t u:TT):TT:=fun σ H Q=>t σ H fun c H1=>if c=true then u σ H1 Q else Q false H1
def tOr(t u:TT):TT:=fun σ H Q=>t σ H fun c H1=>if c=true then Q true H1 else u σ H1 Q
def Gv4(t:TT):TT:=fun σ H Q=>t σ H fun c H1=>Q (!c) H1
theorem Gkn(ha:PT X a tA):PW X (.BoolOp .And [a] pos) tA:=by
 intro wh pins s σ H Q I h
 refine isTrue_and (thn (ha pins s σ H Q I h) fun c s1 e=>?_)
 cases c with
 | true=>exact isTrue_and_nil e
 | false=>exact e
theorem Gop(ha:PT X a tA):PW X (.BoolOp .Or [a] pos) tA:=by
 intro wh pins s σ H Q I h
 refine isTrue_or (thn (ha pins s σ H Q I h) fun c s1 e=>?_)
 cases c with
 | false=>exact isTrue_or_nil e
 | true=>exact e
theorem Goq(ha:PT X a tA)(hb:PW X (.BoolOp .And (b::rest) pos) tB'):PW X (.BoolOp .And (a::b::rest) pos) (Gv3 tA tB'):=by
 intro wh pins s σ H Q I h
 refine isTrue_and (thn (ha pins s σ H _ I h) fun c s1 ⟨H1,I1,q1⟩=>?_)
 cases c with
 | true=>exact hb wh pins s1 σ H1 Q I1 q1
 | false=>exact⟨H1,I1,q1⟩
theorem Gs9(ha:PT X a tA)(hb:PW X (.BoolOp .Or (b::rest) pos) tB'):PW X (.BoolOp .Or (a::b::rest) pos) (tOr tA tB'):=by
 intro wh pins s σ H Q I h
 refine isTrue_or (thn (ha pins s σ H _ I h) fun c s1 ⟨H1,I1,q1⟩=>?_)
 cases c with
 | true=>exact⟨H1,I1,q1⟩
 | false=>exact hb wh pins s1 σ H1 Q I1 q1
theorem Gor(ha:PT X a tA):PT X (.UnaryOp .Not a pos) (Gv4 tA):=by
 intro pins s σ H Q I h
 exact isTrue_not (ha pins s σ H (fun c H1=>Q (!c) H1) I h)
def Gta(ta tb:TE):TE:=fun σ H Q=>ta σ H fun x H1=>∃ c,x=.bl c/\if c=true then tb σ H1 Q else Q (.bl false) H1
def Gv5(ta tb:TE):TE:=fun σ H Q=>ta σ H fun x H1=>∃ c,x=.bl c/\if c=true then Q (.bl true) H1 else tb σ H1 Q
def Gtb(ta:TE):TE:=fun σ H Q=>ta σ H fun x H1=>∃ c,x=.bl c/\Q (.bl (!c)) H1
theorem Gos{op}{t:TE}(h:PE X a t):PE X (.BoolOp op [a] pos) t:=fun pins s σ H Q I hw=>BoolOp_one (h pins s σ H Q I hw)
theorem Got(ha:PE X a ta)(hb:PE X (.BoolOp .And (b::rest) pos) tb):PE X (.BoolOp .And (a::b::rest) pos) (Gta ta tb):=by
 intro pins s σ H Q I h
 refine BoolOp_and (thn (ha pins s σ H _ I h) fun v s1 ⟨x,H1,I1,r1,q1⟩=>?_)
 obtain⟨c,rfl,q1⟩:=q1
 cases r1
 refine wpAny_truthy_bool ?_
 cases c with
 | true=>exact hb pins s1 σ H1 Q I1 q1
 | false=>exact⟨.bl false,H1,I1,rfl,q1⟩
theorem Gtc(ha:PE X a ta)(hb:PE X (.BoolOp .Or (b::rest) pos) tb):PE X (.BoolOp .Or (a::b::rest) pos) (Gv5 ta tb):=by
 intro pins s σ H Q I h
 refine BoolOp_or (thn (ha pins s σ H _ I h) fun v s1 ⟨x,H1,I1,r1,q1⟩=>?_)
 obtain⟨c,rfl,q1⟩:=q1
 cases r1
 refine wpAny_truthy_bool ?_
 cases c with
 | false=>exact hb pins s1 σ H1 Q I1 q1
 | true=>exact⟨.bl true,H1,I1,rfl,q1⟩
theorem Gou(ha:PE X a ta):PE X (.UnaryOp .Not a pos) (Gtb ta):=by
 intro pins s σ H Q I h
 refine UnaryOp_ (thn (ha pins s σ H _ I h) fun v s1 ⟨x,H1,I1,r1,q1⟩=>?_)
 obtain⟨c,rfl,q1⟩:=q1
 cases r1
 exact not_of (wpAny_truthy_bool ⟨.bl (!c),H1,I1,rfl,q1⟩)
def tIf(t:TT)(ta tb:TE):TE:=fun σ H Q=>t σ H fun c H1=>if c=true then ta σ H1 Q else tb σ H1 Q
theorem Ghl(hc:PT X c tA)(ha:PE X a ta)(hb:PE X b tb):PE X (.IfExp c a b pos) (tIf tA ta tb):=by
 intro pins s σ H Q I h
 refine wpAny_IfExp (thn (hc pins s σ H _ I h) fun d s1 ⟨H1,I1,q1⟩=>?_)
 cases d with
 | true=>exact ha pins s1 σ H1 Q I1 q1
 | false=>exact hb pins s1 σ H1 Q I1 q1
end
def SqL(K:PySem.W.Frag)(H:Hp)(a:Addr)(xs:List V):Prop:=
 Rd H a (.lst xs)∨
  ∃ (o:Obj) (its:Array Value) (n:Nat),K.lookup a=some o/\o.cls=.type "list"/\o.dict=none/\o.data=.seq its n/\its.size<=sizeLine/\Vals xs its.toList
def SqT(K:PySem.W.Frag)(H:Hp)(a:Addr)(xs:List V):Prop:=
 Rd H a (.tup xs)∨
  ∃ (o:Obj) (its:Array Value) (n:Nat),K.lookup a=some o/\o.cls=.type "tuple"/\o.data=.seq its n/\its.size<=sizeLine/\Vals xs its.toList
def Gv6:Value->Option V
 | .none=>some .non
 | .bool b=>some (.bl b)
 | .int i _=>some (.int i)
 | .str x _=>some (.str x)
 | .bytes b _=>some (.byt b)
 | .float b _=>some (.flt b)
 | .ref a=>some (.ref a)
 | .type n=>some (.ty n)
 | _=>none
theorem Hc.abs{x:V}(r:Hc x u):Gv6 u=some x:=by
 cases x with
 | non=>cases r; rfl
 | bl _=>cases r; rfl
 | int _=>obtain⟨t,rfl⟩:=r; rfl
 | str _=>obtain⟨t,rfl⟩:=r; rfl
 | byt _=>obtain⟨t,rfl⟩:=r; rfl
 | flt _=>obtain⟨t,rfl⟩:=r; rfl
 | ref _=>cases r; rfl
 | ty _=>cases r; rfl
theorem Hc.inj{x y:V}(r:Hc x u)(q:Hc y u):x=y:=Option.some.inj (r.abs.symm.trans q.abs)
theorem Vals.inj:∀ {xs ys:List V} {us:List Value},Vals xs us->Vals ys us->xs=ys
 | _,_,_,.nil,.nil=>rfl
 | _,_,_,.cons r t,.cons r' t'=>by rw[r.inj r',Vals.inj t t']
section
variable{X:Cx}{pins:List (Addr×Obj)}{σ:St}{H:Hp}{s:Shared}{a:Addr}{xs ys:List V}
theorem SqL.of(h:H a=some (.lst xs)):SqL K H a xs:=.inl (.inl h)
theorem SqT.of(h:H a=some (.tup xs)):SqT K H a xs:=.inl (.inl h)
theorem Inv.list(I:Inv X pins σ H s)(h:SqL X.K H a xs):∃ its:List Value,Vals xs its/\PlainL s.heap a its.toArray/\xs.length<=sizeLine:=by
 rcases h with h | ⟨o,its,n,hk,hc,hd,hs,hz,r⟩
 ·obtain⟨z,its,n,r,e⟩:=h.ok I.hok
  exact⟨its,r,⟨_,n,e,rfl,rfl,rfl⟩,z⟩
 ·refine⟨its.toList,r,⟨o,n,I.kIn a o hk,hc,hd,by simpa using hs⟩,?_⟩
  have e:=r.length
  simp only[Array.length_toList] at e
  omega
theorem Inv.tuple(I:Inv X pins σ H s)(h:SqT X.K H a xs):∃ its:List Value,Vals xs its/\IsTup s.heap a its.toArray/\xs.length<=sizeLine:=by
 rcases h with h | ⟨o,its,n,hk,hc,hs,hz,r⟩
 ·obtain⟨z,its,r,p⟩:=h.ok I.hok
  exact⟨its,r,p,z⟩
 ·refine⟨its.toList,r,⟨o,I.kIn a o hk,hc,n,by simpa using hs⟩,?_⟩
  have e:=r.length
  simp only[Array.length_toList] at e
  omega
theorem Inv.list_inj(I:Inv X pins σ H s)(h:SqL X.K H a xs)(h':SqL X.K H a ys):xs=ys:=by
 obtain⟨its,r,⟨o,n,e,_,_,d⟩,_⟩:=I.list h
 obtain⟨its',r',⟨o',n',e',_,_,d'⟩,_⟩:=I.list h'
 rw[e] at e'; cases e'
 rw[d] at d'
 injection d' with d1 _
 have:its=its':=by simpa using congrArg Array.toList d1
 subst this
 exact r.inj r'
theorem Inv.tuple_inj(I:Inv X pins σ H s)(h:SqT X.K H a xs)(h':SqT X.K H a ys):xs=ys:=by
 obtain⟨its,r,⟨o,e,_,n,d⟩,_⟩:=I.tuple h
 obtain⟨its',r',⟨o',e',_,n',d'⟩,_⟩:=I.tuple h'
 rw[e] at e'; cases e'
 rw[d] at d'
 injection d' with d1 _
 have:its=its':=by simpa using congrArg Array.toList d1
 subst this
 exact r.inj r'
end
abbrev Cx.wish(X:Cx)(E:Value->Shared->Prop):Cx:={ X with xe:=E }
abbrev Cx.nox(X:Cx):Cx:=X.wish fun _ _=>False
theorem Cx.Ok.wish(ok:X.Ok)(E:Value->Shared->Prop):(X.wish E).Ok:=
 ⟨ok.mod,ok.kind,ok.glob,ok.blt,ok.above,ok.inj,ok.has,ok.cab,ok.hd,ok.frames,ok.stk,ok.exf,ok.bs,ok.bsz,ok.noex,ok.exfs,ok.funs,ok.frf⟩
theorem Cx.Ok.unwish(ok:(X.wish E).Ok):X.Ok:=
 ⟨ok.mod,ok.kind,ok.glob,ok.blt,ok.above,ok.inj,ok.has,ok.cab,ok.hd,ok.frames,ok.stk,ok.exf,ok.bs,ok.bsz,ok.noex,ok.exfs,ok.funs,ok.frf⟩
section
variable{X:Cx}{pins:List (Addr×Obj)}{σ:St}{H:Hp}{s:Shared}{E:Value->Shared->Prop}
theorem Inv.wish(I:Inv X pins σ H s)(E:Value->Shared->Prop):Inv (X.wish E) pins σ H s:=⟨I.ok.wish E,I.os,I.bare,I.base,I.loc,I.cell,I.free,I.freeC,I.pin,I.hok,I.len⟩
theorem Inv.unwish(I:Inv (X.wish E) pins σ H s):Inv X pins σ H s:=⟨I.ok.unwish,I.os,I.bare,I.base,I.loc,I.cell,I.free,I.freeC,I.pin,I.hok,I.len⟩
theorem SP.unwish{D:Ends}{f:Flow}{s':Shared}(h:SP (X.wish E) pins D f s'):SP X pins D f s':=by
 cases f with
 | next=>obtain⟨σ',H',I,q⟩:=h; exact⟨σ',H',I.unwish,q⟩
 | brk=>obtain⟨σ',H',I,q⟩:=h; exact⟨σ',H',I.unwish,q⟩
 | cont=>obtain⟨σ',H',I,q⟩:=h; exact⟨σ',H',I.unwish,q⟩
 | ret u=>obtain⟨v,σ',H',I,r,q⟩:=h; exact⟨v,σ',H',I.unwish,r,q⟩
theorem PSs.nox{st:List Stmt}{t:TS}(h:PSs X.nox st t):PSs X st t:=fun pins s σ H D I hw=>
 wpAny_mono (h pins s σ H D (I.wish _) hw) (fun _ _ q=>q.unwish) fun _ _ z=>False.elim z
end
section
variable{X:Cx}{st:Stmt}{rest:List Stmt}{t u:TS}{e:Expr}{te:TE}{pos:Pos}
def Gtd:TS:=fun D σ H=>D.nx σ H
def Gte(t u:TS):TS:=fun D σ H=>t { D with nx:=u D } σ H
theorem Gko:PSs X [] Gtd:=fun _ _ σ H _ I h=>wpAny_execs_nil ⟨σ,H,I,h⟩
theorem Gdh(h1:PS X st t)(h2:PSs X rest u):PSs X (st::rest) (Gte t u):=by
 intro pins s σ H D I h
 refine wpAny_execs_cons (thn (h1 pins s σ H { D with nx:=u D } I h) fun f s1 q=>?_)
 cases f with
 | next=>
  obtain⟨σ',H',I',q⟩:=q
  exact h2 pins s1 σ' H' D I' q
 | ret v=>exact q
 | brk=>exact q
 | cont=>exact q
theorem Gcj(h1:PS X st t):PSs X [st] t:=by
 intro pins s σ H D I h
 refine wpAny_execs_cons (thn (h1 pins s σ H D I h) fun f s1 q=>?_)
 cases f with
 | next=>exact wpAny_execs_nil q
 | ret v=>exact q
 | brk=>exact q
 | cont=>exact q
theorem Inv.quiet{s:Shared}(I:Inv X pins σ H s):interactive X.env=false:=by simp[interactive,I.ok.kind]
def Ghm(te:TE):TS:=fun D σ H=>te σ H fun _ H1=>D.nx σ H1
theorem Gck(he:PE X e te)(hs:swapsWith e none pos.line X.env=pure false:=by rfl):PS X (.Expr e pos) (Ghm te):=by
 intro pins s σ H D I h
 exact wpAny_Expr_any (thn (he pins s σ H _ I h) fun v s1 ⟨x,H1,I1,r1,q1⟩=>⟨σ,H1,I1,q1⟩) I.quiet hs
def Gv7(te:TE):TS:=fun D σ H=>te σ H D.rt
theorem Gov(he:PE X e te):PS X (.Return (some e) pos) (Gv7 te):=by
 intro pins s σ H D I h
 exact wpAny_Return_some (thn (he pins s σ H _ I h) fun v s1 ⟨x,H1,I1,r1,q1⟩=>⟨x,σ,H1,I1,r1,q1⟩)
def Gv8(c:TT)(t u:TS):TS:=fun D σ H=>c σ H fun b H1=>if b=true then t D σ H1 else u D σ H1
theorem Gtf{a b:List Stmt}{tc:TT}(hc:PT X c tc)(ha:PSs X a t)(hb:PSs X b u):PS X (.If c a b pos) (Gv8 tc t u):=by
 intro pins s σ H D I h
 refine wpAny_If (thn (hc pins s σ H _ I h) fun d s1 ⟨H1,I1,q1⟩=>?_)
 cases d with
 | true=>exact ha pins s1 σ H1 D I1 q1
 | false=>exact hb pins s1 σ H1 D I1 q1
end
abbrev TG:=V->St->Hp->(St->Hp->Prop)->Prop
abbrev TGs:=List V->St->Hp->(St->Hp->Prop)->Prop
def PG(X:Cx)(target:Expr)(t:TG):Prop:=
 ∀ (pins:List (Addr×Obj)) (s:Shared) (σ:St) (H:Hp) (v:V) (u:Value) (Q:St->Hp->Prop),Inv X pins σ H s->Hc v u->t v σ H Q→
  wpAny (model X.prog X.w) X.A (assign target X.env u) (fun _ s'=>∃ σ' H',Inv X pins σ' H' s'/\Q σ' H') X.xe s
def PGs(X:Cx)(ts:List Expr)(t:TGs):Prop:=
 ∀ (pins:List (Addr×Obj)) (s:Shared) (σ:St) (H:Hp) (vs:List V) (us:List Value) (Q:St->Hp->Prop),Inv X pins σ H s->Vals vs us->t vs σ H Q→
  wpAny (model X.prog X.w) X.A (assignInOrder ((assignEach ts X.env).map (·.2)) us) (fun _ s'=>∃ σ' H',Inv X pins σ' H' s'/\Q σ' H') X.xe s
abbrev Ghn:=V->V->V->Hp->(Hp->Prop)->Prop
def Gow(X:Cx)(t:Ghn):Prop:=
 ∀ (pins:List (Addr×Obj)) (s:Shared) (σ:St) (H:Hp) (o i v:V) (ov iv u:Value) (Q:Hp->Prop),Inv X pins σ H s->Hc o ov->Hc i iv->Hc v u->t o i v H Q→
  wpAny (model X.prog X.w) X.A (setItem ov iv u) (fun _ s'=>∃ H',Inv X pins σ H' s'/\Q H') X.xe s
abbrev TIp:=V->V->Hp->VK->Prop
def PIp(X:Cx)(op:Operator)(t:TIp):Prop:=
 ∀ (pins:List (Addr×Obj)) (s:Shared) (σ:St) (H:Hp) (x y:V) (v u:Value) (Q:VK),Inv X pins σ H s->Hc x v->Hc y u->t x y H Q→
  wpAny (model X.prog X.w) X.A (inplaceOp op v u) (EP X pins σ Q) X.xe s
section
variable{X:Cx}{pos:Pos}
def gName(i:Nat):TG:=fun v σ H Q=>Q (σ.set i (some v)) H
theorem Gkp(hN:X.N.Nodup)(hi:X.N[i]?=some x)(hx:Loc X.env.scope x)(hf:X.fn x=true\/X.env.scope.names.lookup x=some .local:=by first | exact .inl rfl | exact .inr rfl | assumption):PG X (.Name x pos) (gName i):=by
 intro pins s σ H v u Q I r h
 exact wpAny_assign_Name (Xw I hN hi hx r (fun s' I'=>⟨_,H,I',h⟩) hf)
def Gv9:TGs:=fun vs σ H Q=>vs=[]/\Q σ H
def Gtg(t:TG)(u:TGs):TGs:=fun vs σ H Q=>∃ v r,vs=v::r/\t v σ H fun σ' H'=>u r σ' H' Q
theorem Gkq:PGs X [] Gv9:=by
 intro pins s σ H vs us Q I r h
 obtain⟨e,h⟩:=h
 subst e
 cases r
 exact assignInOrder_nil ⟨σ,H,I,h⟩
theorem Gho{e:Expr}{es:List Expr}{t:TG}{u:TGs}(h1:PG X e t)(h2:PGs X es u)
  (hs:(assignEach (e::es) X.env).map (·.2)=assign e X.env::(assignEach es X.env).map (·.2):=by rfl):PGs X (e::es) (Gtg t u):=by
 intro pins s σ H vs us Q I r h
 obtain⟨v,vr,e1,h⟩:=h
 subst e1
 cases r with
 | cons r rr=>
  rw[hs]
  refine assignInOrder_cons (thn (h1 pins s σ H _ _ _ I r h) fun _ s1 ⟨σ1,H1,I1,q1⟩=>?_)
  exact h2 pins s1 σ1 H1 _ _ Q I1 rr q1
def Gwa(K:PySem.W.Frag)(n:Nat)(t:TGs):TG:=fun v σ H Q=>∃ a xs,v=.ref a/\SqT K H a xs/\xs.length=n/\t xs σ H Q
theorem Gox{es:List Expr}{t:TGs}{n:Nat}(hc:X.calm=true)(h:PGs X es t)(hn:(assignEach es X.env).length=n:=by rfl)(hst:(assignEach es X.env).findIdx? (·.1)=none:=by rfl):PG X (.Tuple es k pos) (Gwa X.K n t):=by
 intro pins s σ H v u Q I r hw
 obtain⟨a,xs,e1,hq,hl,hw⟩:=hw
 subst e1
 cases r
 obtain⟨its,rv,ht,hz⟩:=I.tuple hq
 refine assign_Tuple_tuple (I.ok.hd hc) ht (by simp[hn,<- hl,rv.length]) hst fun h' hx=>?_
 have I1:Inv X pins σ H { s with heap:=h' }:=I.kept (t':=s.toks) fun b o e=>hx b o (Nat.ne_of_lt (Heap.lt_size e)) e
 exact h pins _ σ H xs _ Q I1 (by simpa using rv) hw
def Gwb(to ti:TE)(t:Ghn):TG:=fun v σ H Q=>to σ H fun o H1=>ti σ H1 fun i H2=>t o i v H2 fun H3=>Q σ H3
theorem Goy{o i:Expr}{to ti:TE}{t:Ghn}(ho:PE X o to)(hi:PE X i ti)(hs:Gow X t)
  (ha:∀ v,assign (.Subscript o i pos) X.env v=(do
   let ov <- holding [v] (eval o X.env)
   let iv <- holding [v,ov] (eval i X.env)
   standAt pos
   holding [v,ov,iv] (setItem ov iv v)
   release [v,ov,iv] []):=by intro _; rfl):PG X (.Subscript o i pos) (Gwb to ti t):=by
 intro pins s σ H v u Q I r h
 rw[ha]
 refine wpAny_bind (wpAny_holding (thn (ho pins s σ H _ I h) fun ov s1 ⟨x,H1,I1,r1,q1⟩=>?_))
 refine wpAny_bind (wpAny_holding (thn (hi pins s1 σ H1 _ I1 q1) fun iv s2 ⟨y,H2,I2,r2,q2⟩=>?_))
 refine wpAny_bind (wpAny_standAt (wpAny_bind (wpAny_holding (thn (hs pins s2 σ H2 x y v ov iv u _ I2 r1 r2 r q2) fun _ s3 ⟨H3,I3,q3⟩=>?_))))
 exact wpAny_release ⟨σ,H3,I3,q3⟩
def Gkr(te:TE)(g:TG):TS:=fun D σ H=>te σ H fun x H1=>g x σ H1 D.nx
theorem Ghp{e:Expr}{g:TG}(he:PE X e te)(hg:PG X tg g)(hs:swapsWithSole [tg] e pos.line X.env=pure false:=by rfl)(hw:swappedStores [tg] e X.env=pure none:=by rfl)(h1:(assignEach [tg] X.env).map (·.2)=[assign tg X.env]:=by rfl):PS X (.Assign [tg] e pos) (Gkr te g):=by
 intro pins s σ H D I h
 refine wpAny_Assign_stores (thn (he pins s σ H _ I h) fun v s1 ⟨x,H1,I1,r1,q1⟩=>?_) hs hw
 rw[h1]
 exact thn (hg pins s1 σ H1 x v _ I1 r1 q1) fun _ s2 q=>q
theorem Goz{e:Expr}{pos':Pos}(hN:X.N.Nodup)(hi:X.N[i]?=some x)(hx:Loc X.env.scope x)(he:PE X e te)(hs:swapsWith e (some (.Name x pos')) pos.line X.env=pure false:=by rfl)(hf:X.fn x=true\/X.env.scope.names.lookup x=some .local:=by first | exact .inl rfl | exact .inr rfl | assumption):
  PS X (.Assign [.Name x pos'] e pos) (Gkr te (gName i)):=by
 intro pins s σ H D I h
 refine wpAny_Assign_Name (thn (he pins s σ H _ I h) fun v s1 ⟨y,H1,I1,r1,q1⟩=>?_) hs
 exact Xw I1 hN hi hx r1 (fun s2 I2=>⟨_,H1,I2,q1⟩) hf
def Gth(i:Nat)(te:TE)(ti:TIp):TS:=fun D σ H=>∃ x,σ[i]?=some (some x)/\te σ H fun y H1=>ti x y H1 fun z H2=>D.nx (σ.set i (some z)) H2
theorem Go0{e:Expr}{op:Operator}{ti:TIp}{pos':Pos}(hN:X.N.Nodup)(hi:X.N[i]?=some x)(hx:Loc X.env.scope x)(he:PE X e te)(ho:PIp X op ti)(hf:X.fn x=true\/X.env.scope.names.lookup x=some .local:=by first | exact .inl rfl | exact .inr rfl | assumption):
  PS X (.AugAssign (.Name x pos') op e pos) (Gth i te ti):=by
 intro pins s σ H D I h
 obtain⟨v,e1,h⟩:=h
 obtain⟨m,hn,hl⟩:=I.loc
 have vis:Vis X.env.scope x:=by rcases hx with k | k; exact .inl k; exact .inr (.inl k)
 obtain⟨u,r,l⟩:=hl i x v hi e1 vis
 refine wpAny_AugAssign_Name ?_
 have go:wpAny (model X.prog X.w) X.A (eval e X.env) (fun w s₂=>wpAny (model X.prog X.w) X.A (inplaceOp op u w) (fun r s₃=>wpAny (model X.prog X.w) X.A (storeName X.env x r) (fun _=>SP X pins D .next) X.xe s₃) X.xe s₂) X.xe s:=by
  refine thn (he pins s σ H _ I h) fun w s1 ⟨y,H1,I1,r1,q1⟩=>?_
  refine thn (ho pins s1 σ H1 v y u w _ I1 r r1 q1) fun z s2 ⟨zv,H2,I2,r2,q2⟩=>?_
  exact Xw I2 hN hi hx r2 (fun s3 I3=>⟨_,H2,I3,q2⟩) hf
 rcases l with⟨hk,hm⟩ | ⟨hk,c,hc,hcell⟩
 ·exact wpAny_loadName_local I.ok.kind hk hn hm go
 ·rcases hk with hk | hk
  ·exact wpAny_loadName_cell I.ok.kind hk hc hcell go
  ·rcases hx with k | k
   ·have:X.env.scope.names.lookup x=some .free:=hk
    rw[k] at this; cases this
   ·have:X.env.scope.names.lookup x=some .free:=hk
    rw[k] at this; cases this
def ipI(f:Int->Int->Int):TIp:=fun x y H Q=>∃ i j,x=.int i/\y=.int j/\Q (.int (f i j)) H
theorem Go1:PIp X .Add (ipI fun i j=>i+j):=by
 intro pins s σ H x y v u Q I r1 r2 h
 obtain⟨i,j,e1,e2,q⟩:=h
 subst e1; subst e2
 obtain⟨t,rfl⟩:=r1
 obtain⟨t',rfl⟩:=r2
 exact iadd_int ⟨.int _,H,I.tok _,⟨_,rfl⟩,q⟩
end
section
variable{X:Cx}{pos:Pos}
def Go2(c:TT)(tb:TS):TS:=fun D σ H=>∃ W:Nat->St->Hp->Prop,(∃ m,W m σ H)/\∀ m σ H,W m σ H→
 c σ H fun b H1=>if b=true then ∃ N:St->Hp->Prop,(∀ σ' H',N σ' H'->∃ m',m'<m/\W m' σ' H')/\tb { D with nx:=N,ct:=N,bk:=D.nx } σ H1 else D.nx σ H1
theorem Ghq{tc:TT}{tb:TS}(hp:PassesOwn (model X.prog X.w) X.A X.env X.xe)(hc:PT X c tc)(hb:PSs X body tb):PS X (.While c body [] pos) (Go2 tc tb):=by
 intro pins s σ H D I h
 obtain⟨W,⟨m0,w0⟩,turn⟩:=h
 refine wpAny_While (codeAny_whileLoop (fun n s'=>∃ σ' H',Inv X pins σ' H' s'/\W n σ' H') ?_ m0 ⟨σ,H,I,w0⟩)
 rintro n s1 ⟨σ1,H1,I1,w1⟩
 refine wpAny_passesOwn hp (thn (hc pins s1 σ1 H1 _ I1 (turn n σ1 H1 w1)) fun b s2 ⟨H2,I2,q2⟩=>?_)
 cases b with
 | true=>
  obtain⟨N,hN,q2⟩:=q2
  rw[if_pos rfl]
  refine wpAny_passesOwn hp (thn (hb pins s2 σ1 H2 _ I2 q2) fun f s3 q3=>?_)
  cases f with
  | next=>
   obtain⟨σ3,H3,I3,n3⟩:=q3
   obtain⟨m',hm,w3⟩:=hN σ3 H3 n3
   exact⟨m',hm,σ3,H3,I3,w3⟩
  | cont=>
   obtain⟨σ3,H3,I3,n3⟩:=q3
   obtain⟨m',hm,w3⟩:=hN σ3 H3 n3
   exact⟨m',hm,σ3,H3,I3,w3⟩
  | brk=>exact q3
  | ret v=>exact q3
 | false=>
  rw[if_neg Bool.false_ne_true]
  exact wpAny_execs_nil ⟨σ1,H2,I2,q2⟩
end
structure It where
 go:Nat->Hp->Prop
 yld:Nat->Hp->V->Hp->Prop
 stop:Nat->Hp->Prop
def Zx(X:Cx)(pins:List (Addr×Obj))(H:Hp)(b:Addr):Prop:=
 H b=none/\b≠X.env.locals/\b∉X.fs/\(b∈X.ex\/X.s₀.heap.objs.size<=b)/\(∀ x c,X.env.cells.lookup x=some c->c≠b)/\∀ p∈X.pn++pins,p.1≠b
theorem Inv.fpOk{H':Hp}{s:Shared}(I:Inv X pins σ H s)(hb:s.heap.objs.size<=b)(hn:H' b=none):Zx X pins H' b:=by
 refine⟨hn,Nat.ne_of_gt (Nat.lt_of_lt_of_le I.lt hb),I.nofs hb,.inr (Nat.le_trans I.sz hb),fun x c e z=>?_,fun p hp z=>?_⟩
 ·obtain⟨v,q⟩:=I.cell x c e
  exact absurd (Nat.lt_of_lt_of_le q.lt (by rw[z]; exact hb)) (Nat.lt_irrefl _)
 ·exact absurd (Nat.lt_of_lt_of_le (Heap.lt_size (I.pin p hp).1) (by rw[z]; exact hb)) (Nat.lt_irrefl _)
structure Turn(P:Program)(w:World)(K:PySem.W.Frag)(tg:Expr)(J:It)(fp:List Addr)(it:Addr)(tn:Nat->Heap->Prop):Prop where
 mem:it∈fp
 obj:∀ i h,tn i h->∀ b∈fp,∃ o,h.get? b=some o/\∀ v,o.data≠.cell v
 keep:∀ i h h',tn i h->(∀ b∈fp,∀ o,h.get? b=some o->h'.get? b=some o)->tn i h'
 item:∀ (X:Cx),X.prog=P->X.w=w->X.K=K->X.calm=true->∀ (i:Nat) (pins:List (Addr×Obj)) (s:Shared) (σ:St) (H:Hp) (E:Value->Shared->Prop),Inv X pins σ H s->(∀ b∈fp,Zx X pins H b)->tn i s.heap->J.go i H→
  wpAny (model P w) X.A (pyNext (.ref it)) (fun r s1=>∃ u,r=some u∧
   wpAny (model P w) X.A (letOwnedTupleGo tg (.ref it) u) (fun _ s2=>∃ x H',Inv X pins σ H' s2/\Hc x u/\J.yld i H x H'/\tn (i+1) s2.heap/\∀ b∈fp,H' b=none) E s1) E s
 done:∀ (X:Cx),X.prog=P->X.w=w->X.K=K->X.calm=true->∀ (i:Nat) (pins:List (Addr×Obj)) (s:Shared) (σ:St) (H:Hp) (E:Value->Shared->Prop),Inv X pins σ H s->(∀ b∈fp,Zx X pins H b)->tn i s.heap->J.stop i H→
  wpAny (model P w) X.A (pyNext (.ref it)) (fun r s1=>r=none/\Inv X pins σ H s1) E s
 self:∀ (A:Around) (i:Nat) (s:Shared) (Q:Value->Shared->Prop) (E:Value->Shared->Prop),tn i s.heap->Q (.ref it) s->wpAny (model P w) A (pyIter (.ref it)) Q E s
abbrev TI:=St->Hp->(It->Hp->Prop)->Prop
def PIE(X:Cx)(pins:List (Addr×Obj))(σ:St)(tg:Expr)(R:It->Hp->Prop)(itv:Value)(s2:Shared):Prop:=
 ∃ (it:Addr) (fp:List Addr) (tn:Nat->Heap->Prop) (J:It) (H':Hp),itv=.ref it/\Inv X pins σ H' s2/\Turn X.prog X.w X.K tg J fp it tn/\tn 0 s2.heap/\(∀ b∈fp,Zx X pins H' b)/\R J H'
def PI(X:Cx)(tg iter:Expr)(wi:TI):Prop:=
 ∀ (pins:List (Addr×Obj)) (s:Shared) (σ:St) (H:Hp) (R:It->Hp->Prop),Inv X pins σ H s->wi σ H R→
  wpAny (model X.prog X.w) X.A (eval iter X.env) (fun v s1=>wpAny (model X.prog X.w) X.A (pyIter v) (PIE X pins σ tg R) X.xe s1) X.xe s
theorem Gdi{s:Shared}{it:Addr}{o:Obj}{n:String}{vs:Array Value}{Q:Unit->Shared->Prop}(ho:s.heap.get? it=some o)(hc:o.cls=.type n)(hd:o.data=.fields vs)(hn:["enumerate","zip","dict_itemiterator","dict_reverseitemiterator","odict_iterator","itertools.zip_longest","itertools.pairwise"].contains n=false)(hQ:Q () s):wpAny M A (letOwnedTupleGo tg (.ref it) u) Q E s:=by
 unfold letOwnedTupleGo
 cases tg<;>first
  | exact wpAny_pure hQ
  | (cases u<;>first
    | exact wpAny_pure hQ
    | (refine wpAny_bind (wpAny_load ho ?_)
       rw[hc,hd]
       show wpAny M A (if(["enumerate","zip","dict_itemiterator","dict_reverseitemiterator","odict_iterator","itertools.zip_longest","itertools.pairwise"].contains n&&vs[0]?==some (rawInt _))=true then _ else _) Q E s
       rw[if_neg (by intro h; rw[hn,Bool.false_and] at h; cases h)]
       exact wpAny_pure hQ))
def Itl(K:PySem.W.Frag)(a:Addr):It:=
 ⟨fun i H=>∃ xs x,SqL K H a xs/\xs[i]?=some x,fun i H x H'=>H'=H/\∀ xs,SqL K H a xs->xs[i]?=some x,fun i H=>∃ xs,SqL K H a xs/\xs.length<=i⟩
def Itt(K:PySem.W.Frag)(a:Addr):It:=
 ⟨fun i H=>∃ xs x,SqT K H a xs/\xs[i]?=some x,fun i H x H'=>H'=H/\∀ xs,SqT K H a xs->xs[i]?=some x,fun i H=>∃ xs,SqT K H a xs/\xs.length<=i⟩
def Itr(lo:Int)(n:Nat):It:=⟨fun i _=>i<n,fun i H x H'=>H'=H/\x=.int (lo+i),fun i _=>n<=i⟩
theorem turn_list(a it:Addr):Turn P w K tg (Itl K a) [it] it (fun i h=>h.IsListIter it a i) where
 mem:=by simp
 obj:=fun i h st b hb=>by
  have e:b=it:=by simpa using hb
  subst e
  obtain⟨o,e,c,d⟩:=st
  exact⟨o,e,fun v z=>by rw[d] at z; cases z⟩
 keep:=fun i h h' st k=>st.at fun o e=>k it (by simp) o e
 item:=by
  intro X hP hw hK hc i pins s σ H E I hf st hg
  subst hP hw hK
  obtain⟨xs,x,hq,hx⟩:=hg
  obtain⟨its,rv,p,hz⟩:=I.list hq
  obtain⟨u,hu,ru⟩:=rv.get hx
  obtain⟨f0,f1,f2,f3,f4,f5⟩:=hf it (by simp)
  refine wpAny_pyNext_list_item st p.isList (x:=u) (by simpa using hu) fun h' st' sb=>?_
  have I1:Inv X pins σ H { s with heap:=h' }:=I.turned (t':=s.toks) (fun b o hb e=>(sb.2 b hb).trans e) f0 f1 f3 f4 f5
  obtain⟨o,e,c,d⟩:=id st'
  exact⟨u,rfl,Gdi (s:={ s with heap:=h' }) e c d (by decide) ⟨x,H,I1,ru,⟨rfl,fun ys hy=>by rw[I.list_inj hy hq]; exact hx⟩,st',fun b hb=>(hf b hb).1⟩⟩
 done:=by
  intro X hP hw hK hc i pins s σ H E I hf st hg
  subst hP hw hK
  obtain⟨xs,hq,hx⟩:=hg
  obtain⟨its,rv,p,hz⟩:=I.list hq
  obtain⟨f0,f1,f2,f3,f4,f5⟩:=hf it (by simp)
  have hl:=rv.length
  exact wpAny_pyNext_list_end (I.ok.hd hc) st p.isList (by simp; omega) fun h' eb=>⟨rfl,I.turned (t':=s.toks) (fun b o hb e=>eb b o hb e) f0 f1 f3 f4 f5⟩
 self:=fun _ _ _ _ _ st h=>wpAny_pyIter_listiter st h
theorem turn_tuple(a it:Addr):Turn P w K tg (Itt K a) [it] it (fun i h=>h.IsTupleIter it a i) where
 mem:=by simp
 obj:=fun i h st b hb=>by
  have e:b=it:=by simpa using hb
  subst e
  obtain⟨o,e,c,d⟩:=st
  exact⟨o,e,fun v z=>by rw[d] at z; cases z⟩
 keep:=fun i h h' st k=>st.at fun o e=>k it (by simp) o e
 item:=by
  intro X hP hw hK hc i pins s σ H E I hf st hg
  subst hP hw hK
  obtain⟨xs,x,hq,hx⟩:=hg
  obtain⟨its,rv,p,hz⟩:=I.tuple hq
  obtain⟨u,hu,ru⟩:=rv.get hx
  obtain⟨f0,f1,f2,f3,f4,f5⟩:=hf it (by simp)
  refine wpAny_pyNext_tuple_item st (show s.heap.IsTuple a its.toArray from p) (x:=u) (by simpa using hu) fun h' st' sb=>?_
  have I1:Inv X pins σ H { s with heap:=h' }:=I.turned (t':=s.toks) (fun b o hb e=>(sb.2 b hb).trans e) f0 f1 f3 f4 f5
  obtain⟨o,e,c,d⟩:=id st'
  exact⟨u,rfl,Gdi (s:={ s with heap:=h' }) e c d (by decide) ⟨x,H,I1,ru,⟨rfl,fun ys hy=>by rw[I.tuple_inj hy hq]; exact hx⟩,st',fun b hb=>(hf b hb).1⟩⟩
 done:=by
  intro X hP hw hK hc i pins s σ H E I hf st hg
  subst hP hw hK
  obtain⟨xs,hq,hx⟩:=hg
  obtain⟨its,rv,p,hz⟩:=I.tuple hq
  obtain⟨f0,f1,f2,f3,f4,f5⟩:=hf it (by simp)
  have hl:=rv.length
  exact wpAny_pyNext_tuple_end (I.ok.hd hc) st (show s.heap.IsTuple a its.toArray from p) (by simp; omega) fun h' eb=>⟨rfl,I.turned (t':=s.toks) (fun b o hb e=>eb b o hb e) f0 f1 f3 f4 f5⟩
 self:=fun _ _ _ _ _ st h=>wpAny_pyIter_tupleiter st h
theorem turn_range(it:Addr)(lo:Int)(n:Nat):Turn P w K tg (Itr lo n) [it] it (fun i h=>IsRangeIter h it (lo+(i:Nat)*1) ((n:Int)-(i:Nat)) 1) where
 mem:=by simp
 obj:=fun i h st b hb=>by
  have e:b=it:=by simpa using hb
  subst e
  exact⟨_,st,fun v z=>by
   have z':Data.fields _=Data.cell v:=z
   cases z'⟩
 keep:=fun i h h' st k=>k it (by simp) _ st
 item:=by
  intro X hP hw hK hc i pins s σ H E I hf st hg
  subst hP hw hK
  obtain⟨f0,f1,f2,f3,f4,f5⟩:=hf it (by simp)
  have W:=Walks.range (prog:=X.prog) (w:=X.w) (I.ok.hd hc) it lo 1 n
  refine W.item i s _ _ hg st fun v h' tk hv st' kk=>?_
  obtain⟨t,rfl⟩:=hv
  have I1:Inv X pins σ H { s with heap:=h',toks:=tk }:=I.turned (fun b o hb e=>kk b o (by simpa using hb) e) f0 f1 f3 f4 f5
  refine⟨_,rfl,Gdi (s:={ s with heap:=h',toks:=tk }) (n:="range_iterator") st' rfl rfl (by decide) ⟨.int (lo+i),H,I1,⟨t,?_⟩,⟨rfl,rfl⟩,st',fun b hb=>(hf b hb).1⟩⟩
  rw[Int.mul_one]
 done:=by
  intro X hP hw hK hc i pins s σ H E I hf st hg
  subst hP hw hK
  obtain⟨f0,f1,f2,f3,f4,f5⟩:=hf it (by simp)
  exact wpAny_pyNext_range_end (I.ok.hd hc) st (by have:n<=i:=hg; omega) fun h' eb=>⟨rfl,I.turned (t':=s.toks) (fun b o hb e=>eb b o hb e) f0 f1 f3 f4 f5⟩
 self:=fun _ _ _ _ _ st h=>wpAny_pyIter_rangeiter st h
section
variable{X:Cx}{tg:Expr}
theorem Gdj{s:Shared}{R:It->Hp->Prop}{lo hi:Int}{t u v:Tok}{tk:Nat}(I:Inv X pins σ H s)(h1 : -(2^62)<=lo)(h2:lo<2^62)(h3 : -(2^62)<=hi)(h4:hi<2^62)(q:R (Itr lo (hi-lo).toNat) H):wpAny (model X.prog X.w) X.A (pyIter (.ref s.heap.objs.size)) (PIE X pins σ tg R) E { s with heap:=s.heap.push { cls:=.type "range",data:=.fields #[.int lo t,.int hi u,.int 1 v] },toks:=tk }:=by
 refine wpAny_pyIter_range (IsRange.new ..) (small_one h1 h2 h3 h4) ?_
 have I1:Inv X pins σ H { s with heap:=s.heap.push { cls:=.type "range",data:=.fields #[.int lo t,.int hi u,.int 1 v] },toks:=tk }:=I.kept fun b o e=>Heap.get?_push_of_some _ e
 refine⟨(s.heap.push { cls:=.type "range",data:=.fields #[.int lo t,.int hi u,.int 1 v] }).objs.size,[(s.heap.push { cls:=.type "range",data:=.fields #[.int lo t,.int hi u,.int 1 v] }).objs.size],_,_,H,rfl,
  I1.kept (t':=tk) fun b o e=>Heap.get?_push_of_some _ e,turn_range _ lo (hi-lo).toNat,?_,fun b hb=>?_,q⟩
 ·have e1:lo+((0:Nat):Int)*1=lo:=by simp
  have e2:(((hi-lo).toNat:Nat):Int)-((0:Nat):Int)=Builtin.Range.rangeSize lo hi 1:=by rw[rangeSize_one]; split<;>omega
  show IsRangeIter _ _ (lo+((0:Nat):Int)*1) ((((hi-lo).toNat:Nat):Int)-((0:Nat):Int)) 1
  rw[e1,e2]
  exact Heap.get?_push_size _ rfl
 ·have e:b=(s.heap.push { cls:=.type "range",data:=.fields #[.int lo t,.int hi u,.int 1 v] }).objs.size:=by simpa using hb
  subst e
  exact I1.fpOk (Nat.le_refl _) (I1.hok.fresh (Nat.le_refl _))
def Gti(ta:TA):TI:=fun σ H R=>ta σ H fun vs H1=>∃ j:Int,vs=[.int j] /\ -(2^62)<=j/\j<2^62/\R (Itr 0 j.toNat) H1
def Gtj(ta:TA):TI:=fun σ H R=>ta σ H fun vs H1=>∃ i j:Int,vs=[.int i,.int j]/\(-(2^62)<=i/\i<2^62 /\ -(2^62)<=j/\j<2^62)/\R (Itr i (j-i).toNat) H1
theorem Ggf{a:Expr}{ta:TA}{p:Pos}(hg:Gl X "range")(hm:X.mg "range"=none)(ha:PA X [a] ta)(hs:starEach [a] X.env=[(false,eval a X.env)]:=by rfl):PI X tg (.Call (.Name "range" p) [a] [] pos) (Gti ta):=by
 intro pins s σ H R I h
 refine Call_ (Wj I hg hm boot_range (PyProof.Rows.callWith_type1 (thn (ha pos pins s σ H _ I h) fun us s1 ⟨vs,H1,I1,r1,q1⟩=>?_) hs rfl))
 obtain⟨j,e,q1,q2,q⟩:=q1
 subst e
 cases r1 with
 | cons r rr=>
  cases rr
  obtain⟨t,rfl⟩:=r
  exact call_range_1 (Gdj I1 (by omega) (by omega) q1 q2 (by simpa using q))
theorem Ggg{a b:Expr}{ta:TA}{p:Pos}(hg:Gl X "range")(hm:X.mg "range"=none)(ha:PA X [a,b] ta)(hs:starEach [a,b] X.env=[(false,eval a X.env),(false,eval b X.env)]:=by rfl)(hs2:starEach [b] X.env=[(false,eval b X.env)]:=by rfl):
  PI X tg (.Call (.Name "range" p) [a,b] [] pos) (Gtj ta):=by
 intro pins s σ H R I h
 refine Call_ (Wj I hg hm boot_range (PyProof.Rows.callWith_type1 (thn (ha pos pins s σ H _ I h) fun us s1 ⟨vs,H1,I1,r1,q1⟩=>?_) (by rw[hs,hs2]) (by rw[hs2]; rfl)))
 obtain⟨i,j,e,⟨q1,q2,q3,q4⟩,q⟩:=q1
 subst e
 cases r1 with
 | cons r rr=>
  cases rr with
  | cons r' rr=>
   cases rr
   obtain⟨t,rfl⟩:=r
   obtain⟨t',rfl⟩:=r'
   exact call_range_2 (Gdj I1 q1 q2 q3 q4 q)
def Gwc(wi:TI)(g:TG)(tb:TS):TS:=fun D σ H=>wi σ H fun J H1=>∃ W:Nat->Nat->St->Hp->Prop,(∃ m,W 0 m σ H1)/\∀ i m σ H,W i m σ H→
 (J.stop i H/\D.nx σ H)\/(J.go i H/\∃ N:St->Hp->Prop,(∀ σ' H',N σ' H'->∃ m',m'<m/\W (i+1) m' σ' H')/\∀ x H',J.yld i H x H'->g x σ H' fun σ2 H2=>tb { D with nx:=N,ct:=N,bk:=D.nx } σ2 H2)
def Zy(fp:List Addr)(h:Heap):List (Addr×Obj):=fp.filterMap fun b=>(h.get? b).map fun o=>(b,o)
theorem Vk{o:Obj}(hb:b∈fp)(e:h.get? b=some o):(b,o)∈Zy fp h:=List.mem_filterMap.mpr ⟨b,hb,by rw[e]; rfl⟩
theorem Ggh{p:Addr×Obj}(hp:p∈Zy fp h):p.1∈fp/\h.get? p.1=some p.2:=by
 obtain⟨b,hb,e⟩:=List.mem_filterMap.mp hp
 cases q:h.get? b with
 | none=>rw[q] at e; cases e
 | some o=>
  rw[q] at e
  have e':(b,o)=p:=Option.some.inj e
  subst e'
  exact⟨hb,q⟩
theorem Inv.pinned{s:Shared}(I:Inv X pins σ H s)(hf:∀ b∈fp,Zx X pins H b)(ho:∀ b∈fp,∃ o,s.heap.get? b=some o/\∀ v,o.data≠.cell v):Inv X (pins++Zy fp s.heap) σ H s:=
 I.pins_of fun p hp=>(List.mem_append.mp hp).elim (fun z=>I.pin p (List.mem_append_right _ z)) fun z=>by
  obtain⟨hb,e⟩:=Ggh z
  obtain⟨f0,f1,f2,_⟩:=hf p.1 hb
  obtain⟨o,e',d⟩:=ho p.1 hb
  rw[e] at e'; cases e'
  exact⟨e,f0,f1,f2,d⟩
theorem Inv.unpinned{pl:List (Addr×Obj)}{s:Shared}(I:Inv X (pins++pl) σ H s):Inv X pins σ H s:=I.pins_of fun p hp=>I.pin p (List.mem_append_right _ (List.mem_append_left _ hp))
theorem Go3{iter:Expr}{wi:TI}{g:TG}{tb:TS}(hp:PassesOwn (model X.prog X.w) X.A X.env X.xe)(hc:X.calm=true)(hi:PI X tg iter wi)(hg:PG X tg g)(hb:PSs X body tb)(hs:∀ x,foldedSetIterable iter X.env x=pure x:=by intro _; rfl):PS X (.For tg iter body [] pos) (Gwc wi g tb):=by
 intro pins s σ H D I h
 refine wpAny_For (thn (hi pins s σ H _ I h) fun v s1 h1=>thn h1 fun itv s2 h2=>?_) hs
 obtain⟨it,fp,tn,J,H2,e,I2,T,st2,f2,W,⟨m0,w0⟩,turn⟩:=h2
 subst e
 have stat:∀ {H':Hp},(∀ b∈fp,H' b=none)->∀ b∈fp,Zx X pins H' b:=fun hn b hb=>⟨hn b hb,(f2 b hb).2⟩
 refine codeAny_forLoop_any (fun n s'=>∃ i σ' H',Inv X pins σ' H' s'/\tn i s'.heap/\(∀ b∈fp,H' b=none)/\W i n σ' H') ?_ m0 ⟨0,σ,H2,I2,st2,fun b hb=>(f2 b hb).1,w0⟩
 rintro n s3 ⟨i,σ3,H3,I3,st3,fr3,w3⟩
 rcases turn i n σ3 H3 w3 with⟨stop,qn⟩ | ⟨go,N,hN,step⟩
 ·refine wpAny_passesOwn hp (thn (T.done X rfl rfl rfl hc i pins s3 σ3 H3 X.xe I3 (stat fr3) st3 stop) fun r s4 ⟨hr,I4⟩=>?_)
  subst hr
  exact wpAny_execs_nil ⟨σ3,H3,I4,qn⟩
 ·refine wpAny_passesOwn hp (thn (T.item X rfl rfl rfl hc i pins s3 σ3 H3 X.xe I3 (stat fr3) st3 go) fun r s4 ⟨u,hr,h4⟩=>?_)
  subst hr
  refine wpAny_passesOwn hp (thn h4 fun _ s5 ⟨x,H5,I5,r5,y5,st5,fr5⟩=>?_)
  have I5':=I5.pinned (stat fr5) (T.obj _ _ st5)
  refine wpAny_passesOwn hp (thn (hg _ s5 σ3 H5 x u _ I5' r5 (step x H5 y5)) fun _ s6 ⟨σ6,H6,I6,q6⟩=>?_)
  refine wpAny_passesOwn hp (thn (hb _ s6 σ6 H6 _ I6 q6) fun f s7 q7=>?_)
  have again:∀ {σ7:St} {H7:Hp},Inv X (pins++Zy fp s5.heap) σ7 H7 s7->N σ7 H7->∃ m,m<n/\∃ i σ' H',Inv X pins σ' H' s7/\tn i s7.heap/\(∀ b∈fp,H' b=none)/\W i m σ' H':=fun{σ7 H7} I7 n7=>by
   obtain⟨m',hm,w7⟩:=hN σ7 H7 n7
   refine⟨m',hm,i+1,σ7,H7,I7.unpinned,T.keep _ _ _ st5 fun b hb o e=>(I7.pin (b,o) (List.mem_append_right _ (List.mem_append_right _ (Vk hb e)))).1,fun b hb=>?_,w7⟩
   obtain⟨o,e,d⟩:=T.obj _ _ st5 b hb
   exact(I7.pin (b,o) (List.mem_append_right _ (List.mem_append_right _ (Vk hb e)))).2.1
  cases f with
  | next=>obtain⟨σ7,H7,I7,n7⟩:=q7; exact again I7 n7
  | cont=>obtain⟨σ7,H7,I7,n7⟩:=q7; exact again I7 n7
  | brk=>obtain⟨σ7,H7,I7,q7⟩:=q7; exact⟨σ7,H7,I7.unpinned,q7⟩
  | ret v=>obtain⟨x7,σ7,H7,I7,r7,q7⟩:=q7; exact⟨x7,σ7,H7,I7.unpinned,r7,q7⟩
end
abbrev R2:=V->V->Hp->VK->Prop
variable{r:R2}
def OpR(X:Cx)(f:Value->Value->Sem Value)(r:R2):Prop:=
 ∀ (pins:List (Addr×Obj)) (s:Shared) (σ:St) (H:Hp) (x y:V) (v u:Value) (Q:VK),Inv X pins σ H s->Hc x v->Hc y u->r x y H Q→
  wpAny (model X.prog X.w) X.A (f v u) (EP X pins σ Q) X.xe s
def UnR(X:Cx)(f:Value->Sem Value)(r:V->Hp->VK->Prop):Prop:=
 ∀ (pins:List (Addr×Obj)) (s:Shared) (σ:St) (H:Hp) (x:V) (v:Value) (Q:VK),Inv X pins σ H s->Hc x v->r x H Q→
  wpAny (model X.prog X.w) X.A (f v) (EP X pins σ Q) X.xe s
def Ui(X:Cx)(f:Value)(r:List V->Hp->VK->Prop):Prop:=
 ∀ (pins:List (Addr×Obj)) (s:Shared) (σ:St) (H:Hp) (xs:List V) (us:List Value) (Q:VK),Inv X pins σ H s->Vals xs us->r xs H Q→
  wpAny (model X.prog X.w) X.A (call f us) (EP X pins σ Q) X.xe s
def Gwd(X:Cx)(r:V->Hp->(Bool->Hp->Prop)->Prop):Prop:=
 ∀ (pins:List (Addr×Obj)) (s:Shared) (σ:St) (H:Hp) (x:V) (v:Value) (Q:Bool->Hp->Prop),Inv X pins σ H s->Hc x v->r x H Q→
  wpAny (model X.prog X.w) X.A (truthy v) (TP X pins σ Q) X.xe s
def tOp(r:R2)(ta tb:TE):TE:=fun σ H Q=>ta σ H fun x H1=>tb σ H1 fun y H2=>r x y H2 Q
def tUn(r:V->Hp->VK->Prop)(ta:TE):TE:=fun σ H Q=>ta σ H fun x H1=>r x H1 Q
def rI(C:Int->Int->Prop)(g:Int->Int->V):R2:=fun x y H Q=>∃ i j,x=.int i/\y=.int j/\C i j/\Q (g i j) H
def rI0(g:Int->Int->V):R2:=fun x y H Q=>∃ i j,x=.int i/\y=.int j/\Q (g i j) H
def rU(g:Int->V):V->Hp->VK->Prop:=fun x H Q=>∃ i,x=.int i/\Q (g i) H
section
variable{X:Cx}{a b c:Expr}{ta tb tc:TE}{pos:Pos}
theorem Go4(ha:PE X a ta)(hb:PE X b tb){s:Shared}{R:V->V->Hp->Prop}(I:Inv X pins σ H s)(h:ta σ H fun x H1=>tb σ H1 fun y H2=>R x y H2){Q:Value->Shared->Prop}(hf:∀ v u s2 x y H2,Inv X pins σ H2 s2->Hc x v->Hc y u->R x y H2->wpAny (model X.prog X.w) X.A (f v u) Q X.xe s2):
  wpAny (model X.prog X.w) X.A (eval a X.env) (fun v s₁=>wpAny (model X.prog X.w) X.A (eval b X.env) (fun u s₂=>wpAny (model X.prog X.w) X.A (f v u) Q X.xe s₂) X.xe s₁) X.xe s:=by
 refine thn (ha pins s σ H _ I h) fun v s1 ⟨x,H1,I1,r1,q1⟩=>?_
 refine thn (hb pins s1 σ H1 _ I1 q1) fun u s2 ⟨y,H2,I2,r2,q2⟩=>?_
 exact hf v u s2 x y H2 I2 r1 r2 q2
theorem Gtk{op:Operator}(ho:OpR X (binaryOp op) r)(ha:PE X a ta)(hb:PE X b tb):PE X (.BinOp a op b pos) (tOp r ta tb):=by
 intro pins s σ H Q I h
 exact wpAny_BinOp (Go4 ha hb I h fun v u s2 x y H2 I2 rx ry q=>ho pins s2 σ H2 x y v u Q I2 rx ry q)
theorem Gtl{op:UnaryOp}{r:V->Hp->VK->Prop}(ho:UnR X (unaryOp op) r)(ha:PE X a ta):PE X (.UnaryOp op a pos) (tUn r ta):=by
 intro pins s σ H Q I h
 exact UnaryOp_ (thn (ha pins s σ H _ I h) fun v s1 ⟨x,H1,I1,r1,q1⟩=>ho pins s1 σ H1 x v Q I1 r1 q1)
theorem opI{C:Int->Int->Prop}{g:Int->Int->Int}(rule:∀ (i j:Int) (t u:Tok) (s:Shared) (Q:Value->Shared->Prop) (E:Value->Shared->Prop),C i j->Q (.int (g i j) s.toks) { s with toks:=s.toks+1 }->wpAny (model X.prog X.w) X.A (f (.int i t) (.int j u)) Q E s):
  OpR X f (rI C fun i j=>.int (g i j)):=by
 intro pins s σ H x y v u Q I rx ry h
 obtain⟨i,j,rfl,rfl,hc,q⟩:=h
 obtain⟨t,rfl⟩:=rx
 obtain⟨t',rfl⟩:=ry
 exact rule i j t t' s _ _ hc ⟨.int (g i j),H,I.tok _,⟨_,rfl⟩,q⟩
theorem opI0{g:Int->Int->Int}(rule:∀ (i j:Int) (t u:Tok) (s:Shared) (Q:Value->Shared->Prop) (E:Value->Shared->Prop),Q (.int (g i j) s.toks) { s with toks:=s.toks+1 }->wpAny (model X.prog X.w) X.A (f (.int i t) (.int j u)) Q E s):
  OpR X f (rI0 fun i j=>.int (g i j)):=by
 intro pins s σ H x y v u Q I rx ry h
 obtain⟨i,j,rfl,rfl,q⟩:=h
 obtain⟨t,rfl⟩:=rx
 obtain⟨t',rfl⟩:=ry
 exact rule i j t t' s _ _ ⟨.int (g i j),H,I.tok _,⟨_,rfl⟩,q⟩
theorem opB0{g:Int->Int->Bool}(rule:∀ (i j:Int) (t u:Tok) (s:Shared) (Q:Value->Shared->Prop) (E:Value->Shared->Prop),Q (.bool (g i j)) s->wpAny (model X.prog X.w) X.A (f (.int i t) (.int j u)) Q E s):
  OpR X f (rI0 fun i j=>.bl (g i j)):=by
 intro pins s σ H x y v u Q I rx ry h
 obtain⟨i,j,rfl,rfl,q⟩:=h
 obtain⟨t,rfl⟩:=rx
 obtain⟨t',rfl⟩:=ry
 exact rule i j t t' s _ _ ⟨.bl (g i j),H,I,rfl,q⟩
def Gwe(i j:Int):Prop:=0<=j/\j<=1000000/\i.natAbs<2^64
def CMul(i j:Int):Prop:=(-(2^64)<i/\i<2^64)\/(-(2^64)<j/\j<2^64)
theorem CMul.ok{i j:Int}(h:CMul i j):IntMulOk i j:=by
 rcases h with⟨h1,h2⟩ | ⟨h1,h2⟩
 ·exact .of_left (intBits_le_64 h1 h2)
 ·exact .of_right (intBits_le_64 h1 h2)
theorem Go5:OpR X (binaryOp .Add) (rI0 fun i j=>.int (i+j)):=opI0 fun _ _ _ _ _ _ _ q=>add_int q
theorem Go6:OpR X (binaryOp .Sub) (rI0 fun i j=>.int (i-j)):=opI0 fun _ _ _ _ _ _ _ q=>sub_int q
theorem Go7:OpR X (binaryOp .Mult) (rI CMul fun i j=>.int (i*j)):=opI fun _ _ _ _ _ _ _ hc q=>mul_int q hc.ok
theorem Go8:OpR X (binaryOp .Mod) (rI (fun _ j=>0<j) fun i j=>.int (i%j)):=opI fun i j _ _ _ _ _ hc q=>by
 have h1:(0:Int)<j:=hc
 exact mod_int' (by omega) (by rw[Int.fmod_eq_emod_of_nonneg i (by omega)]; exact q)
theorem Go9:OpR X (binaryOp .Pow) (rI Gwe fun i j=>.int (i^j.toNat)):=opI fun _ _ _ _ _ _ _ hc q=>pow_int_small hc.1 hc.2.1 hc.2.2 q
theorem unI{f:Value->Sem Value}{g:Int->Int}
  (rule:∀ (i:Int) (t:Tok) (s:Shared) (Q:Value->Shared->Prop) (E:Value->Shared->Prop),Q (.int (g i) s.toks) { s with toks:=s.toks+1 }->wpAny (model X.prog X.w) X.A (f (.int i t)) Q E s):
  UnR X f (rU fun i=>.int (g i)):=by
 intro pins s σ H x v Q I rx h
 obtain⟨i,rfl,q⟩:=h
 obtain⟨t,rfl⟩:=rx
 exact rule i t s _ _ ⟨.int (g i),H,I.tok _,⟨_,rfl⟩,q⟩
theorem Gpa:UnR X (unaryOp .USub) (rU fun i=>.int (-i)):=unI fun _ _ _ _ _ q=>neg_int q
end
section
variable{X:Cx}{a b c:Expr}{ta tb tc:TE}{pos:Pos}
theorem Geh{s:Shared}{Q:VK}{k k':Bool}(I:Inv X pins σ H s)(q:Q (.bl k) H)(e:k=k'):EP X pins σ Q (.bool k') s:=by
 subst e
 exact⟨.bl k,H,I,rfl,q⟩
theorem Gnq:OpR X (compareOp .Lt) (rI0 fun i j=>.bl (decide (i<j))):=opB0 fun _ _ _ _ _ _ _ q=>lt_int q
theorem Gfk:OpR X (compareOp .LtE) (rI0 fun i j=>.bl (decide (i<=j))):=opB0 fun _ _ _ _ _ _ _ q=>le_int q
theorem Gtm:OpR X (compareOp .Gt) (rI0 fun i j=>.bl (decide (j<i))):=opB0 fun _ _ _ _ _ _ _ q=>gt_int q
theorem Gtn:OpR X (compareOp .GtE) (rI0 fun i j=>.bl (decide (j<=i))):=opB0 fun _ _ _ _ _ _ _ q=>ge_int q
theorem Ggi:OpR X (compareOp .In) (fun x y H Q=>∃ i j,x=.str i/\y=.str j/\Q (.bl (!(Builtin.Str.occurrences j i 0 j.length 1).isEmpty)) H):=by
 intro pins s σ H x y v u Q I rx ry h
 obtain⟨i,j,rfl,rfl,q⟩:=h
 obtain⟨t,rfl⟩:=rx
 obtain⟨t',rfl⟩:=ry
 exact in_str (Geh I q rfl)
theorem Gpb:OpR X (compareOp .Is) (fun x y H Q=>y=.non/\Q (.bl (decide (x=.non))) H):=by
 intro pins s σ H x y v u Q I rx ry h
 obtain⟨rfl,q⟩:=h
 cases ry
 refine is_none_gen (Geh I q ?_)
 cases x<;>first
  | (cases rx; rfl)
  | (obtain⟨t,rfl⟩:=rx; rfl)
theorem Gks:OpR X (compareOp .IsNot) (fun x y H Q=>y=.non/\Q (.bl (!decide (x=.non))) H):=by
 intro pins s σ H x y v u Q I rx ry h
 obtain⟨rfl,q⟩:=h
 cases ry
 refine isnot_none_gen (Geh I q ?_)
 cases x<;>first
  | (cases rx; rfl)
  | (obtain⟨t,rfl⟩:=rx; rfl)
theorem OpR.or{r':R2}(h:OpR X f r)(h':OpR X f r'):OpR X f (fun x y H Q=>r x y H Q\/r' x y H Q):=by
 intro pins s σ H x y v u Q I rx ry q
 rcases q with q | q
 ·exact h pins s σ H x y v u Q I rx ry q
 ·exact h' pins s σ H x y v u Q I rx ry q
theorem nomark(b:Expr)(h:op≠.In:=by decide)(h2:op≠.NotIn:=by decide):behindInMarks op b=false:=by
 have e1:(op==CmpOp.In)=false:=by cases op<;>first | rfl | exact absurd rfl h
 have e2:(op==CmpOp.NotIn)=false:=by cases op<;>first | rfl | exact absurd rfl h2
 cases b<;>simp[behindInMarks,e1,e2]
theorem Gkt(ho:OpR X (compareOp op) r)(ha:PE X a ta)(hb:PE X b tb)(hm:behindInMarks op b=false):PE X (.Compare a [op] [b] pos) (tOp r ta tb):=by
 intro pins s σ H Q I h
 exact wpAny_Compare1 (Go4 ha hb I h fun v u s2 x y H2 I2 rx ry q=>ho pins s2 σ H2 x y v u Q I2 rx ry q) hm
def Gnr(t:TE):TT:=fun σ H Q=>t σ H fun x H'=>∃ k,x=.bl k/\Q k H'
theorem Gku(ho:OpR X (compareOp op) r)(ha:PE X a ta)(hb:PE X b tb)(hm:behindInMarks op b=false):PT X (.Compare a [op] [b] pos) (Gnr (tOp r ta tb)):=by
 intro pins s σ H Q I h
 refine wpAny_isTrue_Compare1 (thn (ha pins s σ H _ I h) fun v s1 ⟨x,H1,I1,r1,q1⟩=>thn (hb pins s1 σ H1 _ I1 q1) fun u s2 ⟨y,H2,I2,r2,q2⟩=>
  thn (ho pins s2 σ H2 x y v u _ I2 r1 r2 q2) fun c s3 ⟨z,H3,I3,r3,k,e,q3⟩=>?_) hm
 subst e
 cases r3
 exact wpAny_truthy_bool ⟨H3,I3,q3⟩
def Ghr(r r':R2)(ta tb tc:TE):TE:=fun σ H Q=>ta σ H fun x H1=>tb σ H1 fun y H2=>r x y H2 fun z H3=>∃ k,z=.bl k∧
 (if k=true then tc σ H3 fun w' H4=>r' y w' H4 Q else Q (.bl false) H3)
theorem Ghs{op':CmpOp}{r':R2}(ho:OpR X (compareOp op) r)(ho':OpR X (compareOp op') r')(ha:PE X a ta)(hb:PE X b tb)(hc:PE X c tc)(hm:lastMarks [op,op'] [b,c]=false:=by with_unfolding_all rfl):PT X (.Compare a [op,op'] [b,c] pos) (Gnr (Ghr r r' ta tb tc)):=by
 intro pins s σ H Q I h
 refine isTrue_chain (thn (ha pins s σ H _ I h) fun v s1 ⟨x,H1,I1,r1,q1⟩=>test_link (thn (hb pins s1 σ H1 _ I1 q1) fun u s2 ⟨y,H2,I2,r2,q2⟩=>
  thn (ho pins s2 σ H2 x y v u _ I2 r1 r2 q2) fun d s3 ⟨z,H3,I3,r3,k,e,q3⟩=>?_)) hm
 subst e
 cases r3
 refine wpAny_truthy_bool ?_
 cases k with
 | false=>
  obtain⟨k',e',q'⟩:=q3
  cases e'
  exact ite_ff ⟨H3,I3,q'⟩
 | true=>
  refine ite_tt (test_last (thn (hc pins s3 σ H3 _ I3 q3) fun w' s4 ⟨z',H4,I4,r4,q4⟩=>thn (ho' pins s4 σ H4 y z' u w' _ I4 r2 r4 q4) fun d' s5 ⟨z2,H5,I5,r5,k2,e2,q5⟩=>?_))
  subst e2
  cases r5
  exact wpAny_truthy_bool ⟨H5,I5,q5⟩
def Gpc(K:PySem.W.Frag)(x:V)(H:Hp)(k:Bool):Prop:=
 match x with
 | .non=>k=false
 | .bl b=>k=b
 | .int i=>k=(i != 0)
 | .str y=>y.length<=sizeLine/\k=((y.length:Int) != 0)
 | .byt y=>y.size<=sizeLine/\k=((y.size:Int) != 0)
 | .ref p=>(∃ xs,SqL K H p xs/\k=!xs.isEmpty)\/(∃ xs,SqT K H p xs/\k=!xs.isEmpty)\/∃ kvs,H p=some (.dK kvs)/\k=!kvs.isEmpty
 | _=>False
theorem Gei{κ:Type}{kvs:List (κ×V)}{vs:List (κ×Value)}(r:KV kvs vs):(!vs.isEmpty)=!kvs.isEmpty:=by
 cases r<;>rfl
theorem Zz{xs:List V}{its:List Value}(r:Vals xs its):(!its.toArray.isEmpty)=!xs.isEmpty:=by
 cases r<;>simp
theorem Yo:(sizeLine:Nat)<2^63:=by rw[sizeLine_eq]; decide
theorem Gpd:Gwd X (fun x H Q=>∃ k,Gpc X.K x H k/\Q k H):=by
 intro pins s σ H x v Q I rx h
 obtain⟨k,e,q⟩:=h
 have hl:=Yo
 have hs:sizeLine=16777216:=sizeLine_eq
 cases x with
 | non=>
  cases rx
  have e':k=false:=e
  subst e'
  exact truthy_none ⟨H,I,q⟩
 | bl b=>
  cases rx
  have e':k=b:=e
  subst e'
  exact wpAny_truthy_bool ⟨H,I,q⟩
 | int i=>
  obtain⟨t,rfl⟩:=rx
  have e':k=(i != 0):=e
  subst e'
  exact PySem.P.truthy_int ⟨H,I,q⟩
 | str y=>
  obtain⟨t,rfl⟩:=rx
  obtain⟨hy,e'⟩:y.length<=sizeLine/\k=((y.length:Int) != 0):=e
  subst e'
  exact PySem.P.truthy_str (by omega) ⟨H,I.tok _,q⟩
 | byt y=>
  obtain⟨t,rfl⟩:=rx
  obtain⟨hy,e'⟩:y.size<=sizeLine/\k=((y.size:Int) != 0):=e
  subst e'
  exact PySem.W.truthy_bytes (by omega) ⟨H,I.tok _,q⟩
 | ref p=>
  cases rx
  have e':(∃ xs,SqL X.K H p xs/\k=!xs.isEmpty)\/(∃ xs,SqT X.K H p xs/\k=!xs.isEmpty)\/∃ kvs,H p=some (.dK kvs)/\k=!kvs.isEmpty:=e
  rcases e' with⟨xs,hx,e'⟩ | ⟨xs,hx,e'⟩ | ⟨kvs,hx,e'⟩
  ·subst e'
   obtain⟨its,r,pl,hz⟩:=I.list hx
   have hlen:=r.length
   exact wpAny_truthy_list pl.isList (by simp only[List.size_toArray]; omega) ⟨H,I.tok _,by rw[Zz r]; exact q⟩
  ·subst e'
   obtain⟨its,r,pl,hz⟩:=I.tuple hx
   have hlen:=r.length
   exact truthy_tuple pl (by simp only[List.size_toArray]; omega) ⟨H,I.tok _,by rw[Zz r]; exact q⟩
  ·subst e'
   obtain⟨hz,hS,vs,r,m⟩:kvs.length<=sizeLine/\(p==sysModules)=false/\∃ vs,KV kvs vs/\s.heap.DictOf (Gch X.prog X.w) p vs:=I.hok p _ hx
   have hlen:kvs.length=vs.length:=Paired.length r
   exact wpAny_truthy_dict hS m (by omega) ⟨H,I.tok _,by rw[Gei r]; exact q⟩
 | _=>exact(show False from e).elim
theorem Ght(ha:PE X a ta)(he:∀ whole,isTrue a X.env whole=(do let v <- whole; standAt a.pos; holding [v] (truthy v))):
  PT X a (fun σ H Q=>ta σ H fun x H'=>∃ k,Gpc X.K x H' k/\Q k H'):=by
 intro pins s σ H Q I h
 exact isTrue_plain (thn (ha pins s σ H _ I h) fun v s1 ⟨x,H1,I1,r1,q1⟩=>Gpd pins s1 σ H1 x v Q I1 r1 q1) (he _)
theorem Gej:OpR X (binaryOp .Add) (fun x y H Q=>∃ i j,x=.str i/\y=.str j/\i.length+j.length<=sizeLine/\Q (.str (i++j)) H):=by
 intro pins s σ H x y v u Q I rx ry h
 obtain⟨i,j,rfl,rfl,hz,q⟩:=h
 obtain⟨t,rfl⟩:=rx
 obtain⟨t',rfl⟩:=ry
 exact add_str (fun t' tk=>⟨.str (i++j),H,I.tok _,⟨_,rfl⟩,q⟩) hz
theorem Zd{x:V}(r:Vals [x] us):∃ u,us=[u]/\Hc x u:=by
 cases r with
 | cons r1 r2=>cases r2; exact⟨_,rfl,r1⟩
theorem Gns{x y:V}(r:Vals [x,y] us):∃ u w',us=[u,w']/\Hc x u/\Hc y w':=by
 cases r with
 | cons r1 r2=>
  cases r2 with
  | cons r3 r4=>cases r4; exact⟨_,_,rfl,r1,r3⟩
theorem Ggj(hc:X.calm=true):Ui X (.builtin "min") (fun xs H Q=>∃ i j,xs=[.int i,.int j]/\Q (.int (if j<i then j else i)) H):=by
 intro pins s σ H xs us Q I r h
 obtain⟨i,j,rfl,q⟩:=h
 obtain⟨u,w',rfl,⟨t,rfl⟩,⟨t',rfl⟩⟩:=Gns r
 refine min_two_ints (I.ok.hd hc) fun h' tk k=>⟨_,H,I.kept k,?_,q⟩
 by_cases hj:j<i
 ·rw[if_pos hj,if_pos hj]; exact⟨_,rfl⟩
 ·rw[if_neg hj,if_neg hj]; exact⟨_,rfl⟩
theorem Xx:Ui X (.type "str") (fun xs H Q=>∃ i,xs=[.int i]/\i.natAbs.log2<1920/\Q (.str (toString i)) H):=by
 intro pins s σ H xs us Q I r h
 obtain⟨i,rfl,hz,q⟩:=h
 obtain⟨u,rfl,t,rfl⟩:=Zd r
 exact PySem.P.str_of_int hz ⟨.str _,H,I.tok _,⟨_,rfl⟩,q⟩
def Gto(K:PySem.W.Frag)(x:V)(H:Hp)(n:Nat):Prop:=
 match x with
 | .str y=>y.length<=sizeLine/\n=y.length
 | .byt y=>y.size<=sizeLine/\n=y.size
 | .ref p=>(∃ xs,SqL K H p xs/\n=xs.length)\/∃ xs,SqT K H p xs/\n=xs.length
 | _=>False
theorem Ghu:Ui X (.builtin "len") (fun xs H Q=>∃ x n,xs=[x]/\Gto X.K x H n/\Q (.int n) H):=by
 intro pins s σ H xs us Q I r h
 obtain⟨x,n,rfl,e,q⟩:=h
 obtain⟨u,rfl,rx⟩:=Zd r
 have hl:=Yo
 have hs:sizeLine=16777216:=sizeLine_eq
 cases x with
 | str y=>
  obtain⟨t,rfl⟩:=rx
  obtain⟨hy,e'⟩:y.length<=sizeLine/\n=y.length:=e
  subst e'
  exact len_str (by omega) ⟨.int _,H,I.tok _,⟨_,rfl⟩,q⟩
 | byt y=>
  obtain⟨t,rfl⟩:=rx
  obtain⟨hy,e'⟩:y.size<=sizeLine/\n=y.size:=e
  subst e'
  exact PySem.W.len_bytes (by omega) ⟨.int _,H,I.tok _,⟨_,rfl⟩,q⟩
 | ref p=>
  cases rx
  have e':(∃ xs,SqL X.K H p xs/\n=xs.length)\/∃ xs,SqT X.K H p xs/\n=xs.length:=e
  rcases e' with⟨xs,hx,e'⟩ | ⟨xs,hx,e'⟩
  ·subst e'
   obtain⟨its,r',pl,hz⟩:=I.list hx
   have hlen:=r'.length
   exact Calls.call_len_list pl.isList (by simp only[List.size_toArray]; omega) ⟨.int xs.length,H,I.tok _,⟨_,by simp only[List.size_toArray]; rw[hlen]⟩,q⟩
  ·subst e'
   obtain⟨its,r',pl,hz⟩:=I.tuple hx
   have hlen:=r'.length
   exact len_tuple pl (by simp only[List.size_toArray]; omega) ⟨.int xs.length,H,I.tok _,⟨_,by simp only[List.size_toArray]; rw[hlen]⟩,q⟩
 | _=>exact(show False from e).elim
end
structure ObjM(h:Heap)(x dx C:Addr)(mA:Str->Option Value):Prop where
 obj:h.get? x=some (PySem.W.instObj C dx)
 ns:h.Ns1 dx mA
 ne:dx≠x
structure Cls(K:PySem.W.Frag)(C:Addr):Prop where
 pg:PySem.W.plainGet K C Str.empty=true
 hd:PySem.W.hasDictIn K C=true
 po:PySem.W.plainOver K C=true
 sa:PySem.W.findIn K (.ref C) "__setattr__"=some (some (.builtin "object.__setattr__"))
structure Con(K:PySem.W.Frag)(C:Addr)(f:Str)(v:V)(u:Value):Prop where
 at_:PySem.W.findIn K (.ref C) f=some (some u)
 rel:Hc v u
 get:PySem.W.specialIn K u "__get__"=some none
 cp:PySem.W.copiedNames.contains f=false
structure Meth(K:PySem.W.Frag)(C:Addr)(m:Str)(f:Addr):Prop where
 at_:PySem.W.findIn K (.ref C) m=some (some (.ref f))
 fn:PySem.W.isFn K (.ref f)=true
 kp:PySem.W.keepIn K (.ref f)=true
theorem Gkv{prog:Program}{env:Env}{e:Expr}{f:Str}{s:Shared}{Q:Value->Shared->Prop}(hb:attributeBase e f env (eval e env)=eval e env)(h:wpAny (model prog w) A (eval e env) (fun o s₁=>wpAny (model prog w) A (getAttr o f true) Q E s₁) E s):wpAny (model prog w) A (eval (.Attribute e f pos) env) Q E s:=
 Attribute_any_ h (by rw[arm_eval_Attribute,hb])
section
variable{X:Cx}{pins:List (Addr×Obj)}{σ:St}{H:Hp}{s:Shared}{A:Around}{E:Value->Shared->Prop}{Q:Value->Shared->Prop}{c:Value}{b:Bool}
inductive TyOf(K:PySem.W.Frag)(H:Hp):V->Value->Prop where
 | non:TyOf K H .non (.type "NoneType")
 | bl (x:Bool):TyOf K H (.bl x) (.type "bool")
 | int (i:Int):TyOf K H (.int i) (.type "int")
 | str (x:Str):TyOf K H (.str x) (.type "str")
 | flt (x:UInt64):TyOf K H (.flt x) (.type "float")
 | lst {a:Addr} {xs:List V} (e:H a=some (.lst xs)):TyOf K H (.ref a) (.type "list")
 | frz {a:Addr} {o:Obj} {xs:List V} (e:H a=some (.frz o (.lst xs))):TyOf K H (.ref a) (.type "list")
 | tup {a:Addr} {xs:List V} (e:H a=some (.tup xs)):TyOf K H (.ref a) (.type "tuple")
 | dK {a:Addr} {kvs:List (Key×V)} (e:H a=some (.dK kvs)):TyOf K H (.ref a) (.type "dict")
 | dT {a:Addr} {kvs:List (List Key×V)} (e:H a=some (.dT kvs)):TyOf K H (.ref a) (.type "dict")
 | ins {a C dx:Addr} {fs:List (Str×V)} (e:H a=some (.ins C dx fs)) (cl:Cls K C) (ha:PySem.W.findIn K (.ref C) "__class__"=some (some (.builtin "object.__class__")))
   (hn:PySem.W.specialIn K (.builtin "object.__class__") "__get__"=some (some (.builtin "getset_descriptor.__get__"))) (htk:PySem.W.takesIn K (.builtin "object.__class__")=some true)
   (hm:PySem.W.mroIn K C (.type "object")=some true):TyOf K H (.ref a) (.ref C)
end
structure Room(k:Nat)(A:Around):Prop where
 hd:A.handled=none
 dp:A.depth+3*k+5<recursionLimit
 un:A.units+16*k+200<cLine
 gd:A.guards=some []
theorem Room.mono(r:Room k A)(h:j<=k):Room j A:=⟨r.hd,by have:=r.dp; omega,by have:=r.un; omega,r.gd⟩
theorem Room.deeper(r:Room (k+1) A)(env:Env):Room k (A.deeper env):=
 ⟨r.hd,by have:=r.dp; show A.depth+1+3*k+5<_; omega,by have:=r.un; show A.units+3+16*k+200<_; omega,by first | exact r.gd | (simpa[Around.deeper] using r.gd)⟩
theorem Gek{C:Addr}{kw:List (Str×Value)}:(A.under (.builtin "type.__call__" ⟨.ref C::us,kw⟩)).depth=A.depth+1:=by
 first | rfl | simp[Around.under,Code.weight,Code.isCreation,Code.isGuard,Code.isCaller,Code.frames,Code.isFrame,guardIds]
theorem Gel{C:Addr}{kw:List (Str×Value)}:(A.under (.builtin "type.__call__" ⟨.ref C::us,kw⟩)).units=A.units+1:=by
 first | rfl | simp[Around.under,Code.cUnits,Code.frames,Code.isFrame]
theorem Room.make(r:Room (k+1) A)(C:Addr)(us:List Value)(kw:List (Str×Value)):Room k (A.under (.builtin "type.__call__" ⟨.ref C::us,kw⟩)):=
 ⟨r.hd,by have:=r.dp; rw[Gek]; omega,by have:=r.un; rw[Gel]; omega,by first | exact r.gd | (simpa[Around.under,pushGuards,Code.guards,Code.isGuard,guardIds] using r.gd)⟩
theorem Room.depth(r:Room k A):A.depth<recursionLimit:=by have:=r.dp; omega
theorem Room.units(r:Room k A):A.units+64<cLine:=by have:=r.un; omega
def Gpe:TA:=fun _ H Q=>Q [] H
def Gdk(ta:TE)(tr:TA):TA:=fun σ H Q=>ta σ H fun x H1=>tr σ H1 fun xs H2=>Q (x::xs) H2
section
variable{X:Cx}{e:Expr}{es:List Expr}{te:TE}{t:TA}{pos:Pos}
theorem pa_nil:PA X [] Gpe:=fun _ _ _ _ H Q I h=>Calls.spliced_nil ⟨[],H,I,.nil,h⟩
theorem Kc(ha:PE X e te)(hr:PA X es t)(hs:starEach (e::es) X.env=(false,eval e X.env)::starEach es X.env:=by rfl):PA X (e::es) (Gdk te t):=by
 intro pos pins s σ H Q I h
 rw[hs]
 show wpAny _ _ (spliced ((false,eval e X.env)::backTo pos (starEach es X.env))) _ _ s
 refine Calls.spliced_cons (thn (ha pins s σ H _ I h) fun u s1 ⟨x,H1,I1,r1,q1⟩=>?_)
 exact thn (hr pos pins s1 σ H1 _ I1 q1) fun us s2 ⟨xs,H2,I2,r2,q2⟩=>⟨x::xs,H2,I2,.cons r1 r2,q2⟩
def Gwf(t:TA):TE:=fun σ H Q=>t σ H fun xs H1=>xs.length<=sizeLine/\∀ p,H1 p=none->Q (.ref p) (upd H1 p (.tup xs))
def Gwg(t:TA):TE:=fun σ H Q=>t σ H fun xs H1=>xs.length<=sizeLine/\∀ p,H1 p=none->Q (.ref p) (upd H1 p (.lst xs))
theorem Gpf{x1}(h:PA X es t):PE X (.Tuple es x1 pos) (Gwf t):=by
 intro pins s σ H Q I hq
 refine wpAny_Tuple_spliced (thn (h pos pins s σ H _ I hq) fun us s1 ⟨xs,H1,I1,r,z,q⟩=>⟨by rw[<- r.length]; exact z,?_⟩)
 have hf:H1 s1.heap.objs.size=none:=I1.hok.fresh (Nat.le_refl _)
 refine⟨.ref s1.heap.objs.size,upd H1 s1.heap.objs.size (.tup xs),I1.laid (t':=s1.toks) (fun b u e=>Heap.get?_push_of_some _ e) (Nat.le_refl _) ?_,rfl,q _ hf⟩
 exact⟨z,us,r,⟨_,Heap.get?_push_size _ rfl,rfl,_,rfl⟩⟩
theorem Gpg(h:PA X es t):PE X (.List es pos) (Gwg t):=by
 intro pins s σ H Q I hq
 refine wpAny_List_spliced (thn (h pos pins s σ H _ I hq) fun us s1 ⟨xs,H1,I1,r,z,q⟩=>⟨by rw[<- r.length]; exact z,?_⟩)
 have hf:H1 s1.heap.objs.size=none:=I1.hok.fresh (Nat.le_refl _)
 refine⟨.ref s1.heap.objs.size,upd H1 s1.heap.objs.size (.lst xs),I1.laid (t':=s1.toks) (fun b u e=>Heap.get?_push_of_some _ e) (Nat.le_refl _) ?_,rfl,q _ hf⟩
 exact⟨z,us,0,r,Heap.get?_push_size _ rfl⟩
end
abbrev Sp:=List V->Hp->VK->XK->Prop
abbrev CXT:=List Env->Hp->Shared->XK->Value->Shared->Prop
variable{CX:CXT}
structure Env0(P:Program)(w:World)(K:PySem.W.Frag)(mg:Str->Option Value)(base:Heap)(A:Around)(outer:List Env)(s:Shared)(H:Hp):Prop where
 frames:A.frames=some outer
 mod:Mod K mg base
 bs:∀ b o,base.get? b=some o->s.heap.get? b=some o/\H b=none
 bsz:base.objs.size<=s.heap.objs.size
 funs:s.heap.FunFrames base outer
 frf:∀ b∈frs outer,H b=none
 hok:HOk P w H s.heap
 bare:AllBare s.gens
def CE(outer:List Env)(P:Program)(w:World)(H:Hp)(s:Shared)(Q:VK)(u:Value)(s':Shared):Prop:=
 ∃ v H',s'.os=s.os/\AllBare s'.gens/\Un (frs outer) [] H H' s.heap s'.heap/\HOk P w H' s'.heap/\Hc v u/\Q v H'
def CR(CX:CXT)(outer:List Env)(P:Program)(w:World)(H:Hp)(s:Shared)(Q:VK)(E:XK)(r:Result)(s':Shared):Prop:=
 match r with
 | .ok (.ret u)=>CE outer P w H s Q u s'
 | .ok _=>False
 | .error e=>CX outer H s E e s'
structure FnOk(P:Program)(w:World)(K:PySem.W.Frag)(mg:Str->Option Value)(base:Heap)(CX:CXT)(k:Nat)(f:Addr)(fd:FuncData)(ps:List Str)(sp:Sp):Prop where
 len:∀ vs H Q E,sp vs H Q E->vs.length=ps.length
 run:∀ (A:Around) (outer:List Env) (s:Shared) (H:Hp) (args:Args) (us:List Value) (vs:List V) (Q:VK) (E:XK),Room k A->Env0 P w K mg base A outer s H->BindsTo s fd args (ps.zip us)->Vals vs us->sp vs H Q E→
  codeAny (model P w) A (.call (.ref f) args) (CR CX outer P w H s Q E) s
theorem FnOk.mono{f:Addr}{fd:FuncData}{sp:Sp}(F:FnOk P w K mg base CX j f fd ps sp)(h:j<=k):
  FnOk P w K mg base CX k f fd ps sp:=⟨F.len,fun A outer s H args us vs Q E hr=>F.run A outer s H args us vs Q E (hr.mono h)⟩
theorem Env0.make{outer:List Env}{s:Shared}(e:Env0 P w K mg base A outer s H)(C:Addr)(us:List Value)(kw:List (Str×Value)):
  Env0 P w K mg base (A.under (.builtin "type.__call__" ⟨.ref C::us,kw⟩)) outer s H:=⟨by first | exact e.frames | (simpa[Around.under,Code.envs,Code.isFrame,pushEnvs] using e.frames),e.mod,e.bs,e.bsz,e.funs,e.frf,e.hok,e.bare⟩
section
variable{X:Cx}{pins:List (Addr×Obj)}{σ:St}{H:Hp}{s s':Shared}
theorem Inv.env0(I:Inv X pins σ H s):Env0 X.prog X.w X.K X.mg X.base X.A X.stack s H:=
 ⟨I.ok.frames,I.ok.mod,I.bs,Nat.le_trans I.ok.bsz I.sz,I.stack,I.stkFree,I.hok,I.bare⟩
theorem Inv.after{Q:VK}(I:Inv X pins σ H s)(h:CE X.stack X.prog X.w H s Q u s'):EP X pins σ Q u s':=by
 obtain⟨v,H',os,bare,un,hok,r,q⟩:=h
 obtain⟨hh,g,d,t,os'⟩:=s'
 obtain rfl:os'=s.os:=os
 exact⟨v,H',I.call (h':=hh) (g':=g) (d':=d) (t':=t) (ch:=[]) un hok bare (fun b z=>absurd z (by simp)),r,q⟩
end
def Gtp(sp:Sp)(dvs:List V)(E:XK)(t:TA):TE:=fun σ H Q=>t σ H fun vs H1=>sp (vs++dvs) H1 Q E
def Binds(K:PySem.W.Frag)(fd:FuncData)(ps:List Str)(ds:List Value):Prop:=
 ∀ (s:Shared) (us:List Value),K.In s.heap->(us++ds).length=ps.length->BindsTo s fd ⟨us,[]⟩ (ps.zip (us++ds))
theorem Binds.all{fd:FuncData}(h:∀ us:List Value,us.length=ps.length->bindArgs fd ⟨us,[]⟩=pure (ps.zip us)):Binds K fd ps []:=fun s us _ hl=>by
 rw[List.append_nil] at hl ⊢
 exact .of_eq (h us hl)
def Passes(CX:CXT)(X:Cx)(E:XK):Prop:=∀ (pins:List (Addr×Obj)) (σ:St) (H:Hp) (s:Shared) (e:Value) (s':Shared),Inv X pins σ H s->CX X.stack H s E e s'->X.xe e s'
section
variable{X:Cx}{CX:CXT}{k:Nat}{f C:Addr}{fd:FuncData}{ps:List Str}{sp:Sp}{dvs:List V}{ds:List Value}{E:XK}{x m:Str}{p pos apos:Pos}{e o:Expr}{es:List Expr}{ta:TE}{t:TA}
theorem Ghv{s:Shared}{Q:VK}{vs:List V}(F:FnOk X.prog X.w X.K X.mg X.base CX k f fd ps sp)(hr:Room k X.A)(hb:Binds X.K fd ps ds)(hd:Vals dvs ds)(hx:Passes CX X E)(I:Inv X pins σ H s)(r:Vals vs us)(h:sp (vs++dvs) H Q E):wpAny (model X.prog X.w) X.A (call (.ref f) us) (EP X pins σ Q) X.xe s:=by
 have r2:Vals (vs++dvs) (us++ds):=r.append hd
 have hl:(us++ds).length=ps.length:=by rw[<- r2.length]; exact F.len _ _ _ _ h
 refine wpAny_call (codeAny_mono (F.run X.A X.stack s H ⟨us,[]⟩ (us++ds) (vs++dvs) Q E hr I.env0 (hb s us I.kIn hl) r2 h) fun r s' hq=>?_)
 cases r with
 | error e=>exact hx pins σ H s e s' I hq
 | ok fl=>
  cases fl with
  | ret u=>exact I.after hq
  | next=>exact False.elim hq
  | brk=>exact False.elim hq
  | cont=>exact False.elim hq
theorem Gkw(F:FnOk X.prog X.w X.K X.mg X.base CX k f fd ps sp)(hr:Room k X.A)(hg:Gl X x)(hm:X.mg x=some (.ref f))(hk:PySem.W.keepIn X.K (.ref f)=true)(hb:Binds X.K fd ps ds)(hd:Vals dvs ds)(hx:Passes CX X E)
  (ha:PA X (e::es) t) (hdb:(x==("__debug__":Str))=false:=by decide) (he:starEach (e::es) X.env=(false,eval e X.env)::starEach es X.env:=by rfl) (hpl:(backTo pos (starEach es X.env)).any (·.1)=false:=by rfl):
  PE X (.Call (.Name x p) (e::es) [] pos) (Gtp sp dvs E t):=by
 intro pins s σ H Q I h
 refine wpAny_Call_Name_kw (Xi I hg hm ?_ hdb)
 refine PySem.W.callWith_K (h₀:=X.base) I.ok.mod.kin hk (thn (ha pos pins s σ H _ I h) fun us s1 ⟨vs,H1,I1,r,q⟩=>⟨I1.kIn,?_⟩) he hpl
 exact Ghv F hr hb hd hx I1 r q
structure Mk(K:PySem.W.Frag)(C f:Addr):Prop where
 makes:PySem.W.makesIn K C=true
 init:PySem.W.findIn K (.ref C) "__init__"=some (some (.ref f))
 fn:PySem.W.isFn K (.ref f)=true
 kp:PySem.W.keepIn K (.ref C)=true
end
section
variable{X:Cx}{CX:CXT}{k:Nat}{f C:Addr}{fd:FuncData}{ps ks:List Str}{sp:Sp}{E:XK}{x m:Str}{p pos apos kpos:Pos}{e o:Expr}{es:List Expr}{kws:List Keyword}{te ta:TE}{t tk:TA}{nm:Option Str}
structure KBinds(K:PySem.W.Frag)(fd:FuncData)(ps ks:List Str)(g:List Value->List Value->List Value)(gV:List V->List V->List V):Prop where
 to:∀ (s:Shared) (us ws:List Value),K.In s.heap->(g us ws).length=ps.length->BindsTo s fd ⟨us,ks.zip ws⟩ (ps.zip (g us ws))
 rel:∀ {vs:List V} {us:List Value} {zs:List V} {ws:List Value},Vals vs us->Vals zs ws->Vals (gV vs zs) (g us ws)
variable{g:List Value->List Value->List Value}{gV:List V->List V->List V}
end
structure FnScope(N P:List Str)(sc:Scope):Prop where
 kind:sc.kind=.function
 co:sc.isCoroutine=false
 gen:sc.isGenerator=false
 nd:N.Nodup
 pre:N.take P.length=P
 par:∀ x∈P,sc.names.lookup x=some .local\/sc.names.lookup x=some .cell
 nofree:∀ y∈sc.names,y.2≠.free
theorem Gbz{kindOf:Str->Option NameKind}{x:Str}:∀ {binds:List (Str×Value)} {m:Str->Option Value},(∀ v,(x,v)∉binds)->bindL kindOf binds m x=m x
 | [],_,_=>rfl
 | (n,v)::r,m,h=>by
  unfold bindL
  rw[Gbz fun w hw=>h w (List.mem_cons_of_mem _ hw)]
  split
  ·have:x≠n:=by rintro rfl; exact h v List.mem_cons_self
   simp[this]
  ·rfl
theorem Gb0{kindOf:Str->Option NameKind}{x:Str}:∀ {binds:List (Str×Value)} {m:Str->Option Value},(∀ v,(x,v)∉binds)->bindC kindOf binds m x=m x
 | [],_,_=>rfl
 | (n,v)::r,m,h=>by
  unfold bindC
  rw[Gb0 fun w hw=>h w (List.mem_cons_of_mem _ hw)]
  split
  ·rfl
  ·have:x≠n:=by rintro rfl; exact h v List.mem_cons_self
   simp[this]
theorem Gb1{kindOf:Str->Option NameKind}{x:Str}{v:Value}:∀ {P:List Str} {vs:List Value} {i:Nat} {m:Str->Option Value},P.Nodup->P[i]?=some x->vs[i]?=some v->kindOf x=some .local→
  bindL kindOf (P.zip vs) m x=some v
 | [],_,_,_,_,h,_,_=>by simp at h
 | _::_,[],_,_,_,_,h,_=>by simp at h
 | p::P,w::vs,0,m,nd,h1,h2,hk=>by
  simp at h1 h2; subst h1; subst h2
  show bindL kindOf ((p,w)::P.zip vs) m p=_
  unfold bindL
  rw[Gbz fun v hv=>(List.nodup_cons.mp nd).1 (List.of_mem_zip hv).1,if_pos hk]
  simp
 | p::P,w::vs,i+1,m,nd,h1,h2,hk=>by
  show bindL kindOf ((p,w)::P.zip vs) m x=_
  unfold bindL
  exact Gb1 (i:=i) (List.nodup_cons.mp nd).2 (by simpa using h1) (by simpa using h2) hk
theorem Gb2{kindOf:Str->Option NameKind}{x:Str}{v:Value}:∀ {P:List Str} {vs:List Value} {i:Nat} {m:Str->Option Value},P.Nodup->P[i]?=some x->vs[i]?=some v->kindOf x≠some .local→
  bindC kindOf (P.zip vs) m x=some v
 | [],_,_,_,_,h,_,_=>by simp at h
 | _::_,[],_,_,_,_,h,_=>by simp at h
 | p::P,w::vs,0,m,nd,h1,h2,hk=>by
  simp at h1 h2; subst h1; subst h2
  show bindC kindOf ((p,w)::P.zip vs) m p=_
  unfold bindC
  rw[Gb0 fun v hv=>(List.nodup_cons.mp nd).1 (List.of_mem_zip hv).1,if_neg hk]
  simp
 | p::P,w::vs,i+1,m,nd,h1,h2,hk=>by
  show bindC kindOf ((p,w)::P.zip vs) m x=_
  unfold bindC
  exact Gb2 (i:=i) (List.nodup_cons.mp nd).2 (by simpa using h1) (by simpa using h2) hk
def start(N:List Str)(vs:List V):St:=vs.map some++List.replicate (N.length-vs.length) none
def Ko(CX:CXT)(P:Program)(w:World)(K:PySem.W.Frag)(mg:Str->Option Value)(base:Heap)(N:List Str)(qual:Str)(scope:Scope)(f:Addr)(cd:Value)(A:Around)(outer:List Env)(s:Shared)(H:Hp)(E:XK):Cx where
 prog:=P
 w:=w
 K:=K
 mg:=mg
 base:=base
 A:=A.deeper (envOfC qual scope s.heap.objs.size f cd)
 N:=N
 s₀:=s
 H₀:=H
 env:=envOfC qual scope s.heap.objs.size f cd
 outer:=outer
 stack:=envOfC qual scope s.heap.objs.size f cd::outer
 ex:=[]
 calm:=true
 fn:=fun _=>true
 pn:=[]
 xe:=fun e s'=>wpAny (model P w) (A.deeper (envOfC qual scope s.heap.objs.size f cd)) (leaving (envOfC qual scope s.heap.objs.size f cd) e) (fun _ s''=>CX outer H s E e s'') (fun e' s''=>CX outer H s E e' s'') s'
theorem Gdl{sc:Scope}{n:Nat}(h:sc.names.lookup x=some .cell):∃ c,(cellsFrom n sc.names []).lookup x=some c:=by
 have q:=PySem.W.cellsFrom_some sc.names n [] (.inl h)
 exact Option.isSome_iff_exists.mp q
theorem Ggk{qual:Str}{scope:Scope}{f:Addr}{cd:Value}{outer:List Env}{s s1:Shared}{E:XK}{vs:List V}(S:FnScope N ps scope)(hd:A.handled=none)(e0:Env0 P w K mg base A outer s H)(hl:vs.length=ps.length)(r:Vals vs us)(x:InCallC s s.heap.objs.size (bindL (envOfC qual scope s.heap.objs.size f cd).kindOf (ps.zip us) fun _=>none) (cellsFrom (s.heap.objs.size+1) scope.names []) (bindC (envOfC qual scope s.heap.objs.size f cd).kindOf (ps.zip us) fun _=>none) s1):
  Inv (Ko CX P w K mg base N qual scope f cd A outer s H E) [] (start N vs) H s1:=by
 have hpl:ps.length<=N.length:=by have:=congrArg List.length S.pre; rw[List.length_take] at this; omega
 obtain⟨h1,tk,rfl,hk⟩:=x.done
 have noA:∀ b:Addr,b∉(Ko CX P w K mg base N qual scope f cd A outer s H E).ex:=fun b z=>absurd (show b∈([]:List Addr) from z) (by simp)
 refine⟨⟨e0.mod,S.kind,rfl,rfl,Nat.le_refl _,fun y z c h1 h2=>?_,fun y hy=>?_,fun y c _ h=>?_,fun _=>hd,Around.frames_deeper e0.frames,.inr ⟨rfl,rfl⟩,fun b z=>absurd z (noA b),e0.bs,e0.bsz,fun b _ _=>noA b,fun b z=>absurd z (noA b),e0.funs,e0.frf⟩,
  rfl,e0.bare,Un.kept hk,⟨_,x.toInCall.ns,fun i y v h1 h2 h3=>?_⟩,fun y c h=>⟨_,x.cell y c h⟩,e0.hok.fresh (Nat.le_refl _),fun y c h=>?_,fun p hp=>absurd (show p∈([]:List (Addr×Obj)) from hp) (by simp),e0.hok.kept hk,?_⟩
 ·exact name_of_addr x.apart (PySem.mem_of_lookup h1) (PySem.mem_of_lookup h2)
 ·have hy:scope.names.lookup y=some .cell\/scope.names.lookup y=some .free:=hy
  rcases hy with hy | hy
  ·exact Gdl hy
  ·exact absurd rfl (S.nofree _ (PySem.mem_of_lookup hy))
 ·exact Nat.le_of_lt (x.above y c (PySem.mem_of_lookup h))
 ·have hi:i<vs.length:=by
   unfold start at h2
   by_cases hi:i<vs.length
   ·exact hi
   ·rw[List.getElem?_append_right (by simpa using hi)] at h2
    rw[List.getElem?_replicate] at h2
    split at h2<;>cases h2
  have ha:vs[i]?=some v:=by
   unfold start at h2
   rw[List.getElem?_append_left (by simpa using hi),List.getElem?_map] at h2
   cases e:vs[i]? with
   | none=>rw[e] at h2; cases h2
   | some a=>rw[e] at h2; cases h2; rfl
  obtain⟨u,hu,rv⟩:=r.get ha
  have hp:ps[i]?=some y:=by
   rw[<- S.pre,List.getElem?_take_of_lt (by omega)]; exact h1
  have ndP:ps.Nodup:=by rw[<- S.pre]; exact S.nd.sublist (List.take_sublist _ _)
  refine⟨u,rv,?_⟩
  rcases S.par y (List.mem_of_getElem? hp) with k | k
  ·exact .inl ⟨k,Gb1 ndP hp hu k⟩
  ·obtain⟨c,e⟩:=Gdl (n:=s.heap.objs.size+1) k
   refine .inr ⟨.inl k,c,e,?_⟩
   have q:=x.cell y c e
   rw[Gb2 ndP hp hu (by show scope.names.lookup y≠_; rw[k]; decide)] at q
   exact q
 ·exact e0.hok.fresh (Nat.le_of_lt (x.above y c (PySem.mem_of_lookup h)))
 ·unfold start
  show _=N.length
  rw[List.length_append,List.length_map,List.length_replicate]
  omega
theorem Gnt{f:Addr}{name qual:Str}{params:Arguments}{scope:Scope}{dV kV doc pm cdv ct oc:Value}{an od:Option Addr}{osl:Array (Option Value)}{sp:Sp}(lk:K.lookup f=some ⟨oc,od,.func (PySem.W.fnOf name qual params body scope dV kV doc pm an cdv ct),osl⟩)(hcd:PySem.W.codeIn K cdv qual=true)(S:FnScope N ps scope)(len:∀ vs H Q E,sp vs H Q E->vs.length=ps.length)(hbody:∀ (A:Around) (outer:List Env) (s:Shared) (H:Hp) (vs:List V) (Q:VK) (E:XK),Room k (A.deeper (envOfC qual scope s.heap.objs.size f cdv))->sp vs H Q E→
   ∃ t,PSs (Ko CX P w K mg base N qual scope f cdv A outer s H E) body t/\t { nx:=fun _ H'=>Q .non H',rt:=Q } (start N vs) H):
  FnOk P w K mg base CX (k+1) f (PySem.W.fnOf name qual params body scope dV kV doc pm an cdv ct) ps sp:=by
 refine⟨len,fun A outer s H args us vs Q E hr e0 hb r hsp=>?_⟩
 have hl:=len _ _ _ _ hsp
 have KX:K.In s.heap:=e0.mod.kin.keeps fun b o e=>(e0.bs b o e).1
 have lim:s.heap.NoLimit:=e0.mod.nolimit.keeps fun b o e=>(e0.bs b o e).1
 have hkind:∀ y∈ps.zip us,scope.names.lookup y.1=some .local\/(scope.names.lookup y.1=some .cell/\((cellsFrom (s.heap.objs.size+1) scope.names []).lookup y.1).isSome=true):=fun⟨n,v⟩ hy=>by
  rcases S.par n (List.of_mem_zip hy).1 with q | q
  ·exact .inl q
  ·exact .inr ⟨q,PySem.W.cellsFrom_some _ _ _ (.inl q)⟩
 refine codeAny_call_function hr.depth (KX _ _ lk) rfl S.co S.gen rfl (PySem.W.codeRec_of KX hcd) (hb _ _ _ _ ?_)
 refine wpAny_newFunctionEnv_cells S.kind hkind fun env he s1 x=>?_
 subst he
 refine⟨lim.keeps x.toInCall.keep,codeAny_func ?_⟩
 obtain⟨t,ht,hq⟩:=hbody A outer s H vs Q E (hr.deeper _) hsp
 have I:Inv (Ko CX P w K mg base N qual scope f cdv A outer s H E) [] (start N vs) H s1:=Ggk S hr.hd e0 hl r x
 refine wpAny_mono (ht [] s1 (start N vs) H _ I hq) (fun fl s' hs=>?_) fun e s' hs=>hs
 have fin:∀ {σ':St} {H':Hp} {v:V} {u:Value},Inv (Ko CX P w K mg base N qual scope f cdv A outer s H E) [] σ' H' s'->Hc v u->Q v H'->CE outer P w H s Q u s':=
  fun{σ' H' v u} J rv q=>⟨v,H',J.os,J.bare,J.base,J.hok,rv,q⟩
 cases fl with
 | ret u=>
  obtain⟨v,σ',H',J,rv,q⟩:=hs
  exact fin J rv q
 | next=>
  obtain⟨σ',H',J,q⟩:=hs
  exact fin (v:=V.non) (u:=Value.none) J rfl q
 | brk=>
  obtain⟨_,_,_,q⟩:=hs
  exact False.elim q
 | cont=>
  obtain⟨_,_,_,q⟩:=hs
  exact False.elim q
section
variable{X:Cx}{x:Str}{p pos:Pos}{e:Expr}{es:List Expr}{t:TA}{id T:String}{r:List V->Hp->VK->Prop}
def tCB(r:List V->Hp->VK->Prop)(t:TA):TE:=fun σ H Q=>t σ H fun vs H1=>r vs H1 Q
theorem Xy(hc:Ui X (.builtin id) r)(hg:Gl X x)(hm:X.mg x=none)(hv:bootBuiltins x=some (.builtin id))(ha:PA X (e::es) t)(hn:x≠"__name__":=by decide)(hdb:(x==("__debug__":Str))=false:=by decide)
  (he:starEach (e::es) X.env=(false,eval e X.env)::starEach es X.env:=by rfl) (hpl:(backTo pos (starEach es X.env)).any (·.1)=false:=by rfl):PE X (.Call (.Name x p) (e::es) [] pos) (tCB r t):=by
 intro pins s σ H Q I h
 refine wpAny_Call_Name_kw (Wj I hg hm hv ?_ hn hdb)
 exact PyProof.Rows.callWith_builtin1 (thn (ha pos pins s σ H _ I h) fun us s1 ⟨vs,H1,I1,r1,q1⟩=>hc pins s1 σ H1 vs us Q I1 r1 q1) he hpl
theorem Ggl(hc:Ui X (.type T) r)(hg:Gl X x)(hm:X.mg x=none)(hv:bootBuiltins x=some (.type T))(ha:PA X (e::es) t)(hn:x≠"__name__":=by decide)(hdb:(x==("__debug__":Str))=false:=by decide)
  (he:starEach (e::es) X.env=(false,eval e X.env)::starEach es X.env:=by rfl) (hpl:(backTo pos (starEach es X.env)).any (·.1)=false:=by rfl):PE X (.Call (.Name x p) (e::es) [] pos) (tCB r t):=by
 intro pins s σ H Q I h
 refine wpAny_Call_Name_kw (Wj I hg hm hv ?_ hn hdb)
 exact PyProof.Rows.callWith_type1 (thn (ha pos pins s σ H _ I h) fun us s1 ⟨vs,H1,I1,r1,q1⟩=>hc pins s1 σ H1 vs us Q I1 r1 q1) he hpl
end
end L2
namespace HT
open PySem PyProof.Rows
section
open PySem.SeqAt
open PySem.AutoSeq1 (wpAny_loadPart')
open PySem.MeetsSeq PySem.MeetsSeq2 PySem.MeetsSeq3
end
section
variable{prog:Program}{w:World}{A:Around}{E:Value->Shared->Prop}{s:Shared}
theorem Gkx{t b:Addr}{vs ws:List Value}{Q:Value->Shared->Prop}(ht:IsTup s.heap t vs.toArray)(hb:IsTup s.heap b ws.toArray)(hv:vs≠[])
  (h1:ws=[]->Q (.ref t) s) (h2:ws≠[]->Q (.ref s.heap.objs.size) { s with heap:=s.heap.push { cls:=.type "tuple",data:=.seq (vs++ws).toArray } })
  (hsz:vs.length+ws.length<=sizeLine):wpAny (model prog w) A (binaryOp .Add (.ref t) (.ref b)) Q E s:=by
 obtain⟨⟨cls,dd,data,sl⟩,ho,hc,n,hd⟩:=id ht
 obtain⟨⟨cls2,dd2,data2,sl2⟩,ho2,hc2,n2,hd2⟩:=id hb
 simp only at hc hd hc2 hd2
 subst hc hd hc2 hd2
 have e:vs.toArray++ws.toArray=(vs++ws).toArray:=by simp
 by_cases hw:ws=[]
 ·exact concat_meets ⟨_,ho,rfl⟩ ⟨_,ho2,rfl⟩ noFill_tuple_add seq_tuple_add PySem.F.slot_tuple_add PySem.F.entry_tuple_add (PySem.F.args_tuple_add_2 _ _)
   (tuple_addW1 t b vs.toArray ws.toArray n n2 dd dd2 sl sl2 (by simpa using hv) (by simp[hw])) ⟨ho,ho2,h1 hw⟩
 ·refine concat_meets ⟨_,ho,rfl⟩ ⟨_,ho2,rfl⟩ noFill_tuple_add seq_tuple_add PySem.F.slot_tuple_add PySem.F.entry_tuple_add (PySem.F.args_tuple_add_2 _ _)
   (tuple_addW2 t b vs.toArray ws.toArray n n2 dd dd2 sl sl2 (by simpa using hv) (by simpa using hw) (by rw[List.size_toArray,List.size_toArray]; exact hsz)) ⟨ho,ho2,?_⟩
  rw[e]
  exact h2 hw
def sIx(n d:Nat):Option Int->Nat
 | none=>d
 | some v=>if v<0 then(v+(n:Int)).toNat else min v.toNat n
theorem Ghw(n d:Nat):sIx n d none=d:=rfl
theorem Gky(n d k:Nat):sIx n d (some (k:Int))=min k n:=by
 show(if(k:Int)<0 then((k:Int)+(n:Int)).toNat else min (k:Int).toNat n)=min k n
 rw[if_neg (by omega),Int.toNat_natCast]
theorem Gph(n d:Nat)(hd:d<=n)(o:Option Int):sIx n d o<=n:=by
 cases o with
 | none=>exact hd
 | some v=>
  show(if v<0 then(v+(n:Int)).toNat else min v.toNat n)<=n
  by_cases hv:v<0
  ·rw[if_pos hv]; omega
  ·rw[if_neg hv]; exact Nat.min_le_right _ _
theorem Gfl(v:Int)(n d:Nat):(if v<0 then max (v+(n:Int)) 0 else min v (n:Int))=((sIx n d (some v):Nat):Int):=by
 show(if v<0 then max (v+(n:Int)) 0 else min v (n:Int))=(((if v<0 then(v+(n:Int)).toNat else min v.toNat n):Nat):Int)
 by_cases hv:v<0
 ·simp only[if_pos hv]; omega
 ·simp only[if_neg hv]; omega
theorem Gem(lo hi:Option Int)(n:Nat):Builtin.Slice.sliceAdjust lo hi 1 (n:Int)=(((sIx n 0 lo:Nat):Int),((sIx n n hi:Nat):Int)):=by
 have h1:¬ ((1:Int)<0):=by omega
 unfold Builtin.Slice.sliceAdjust
 simp only[h1,if_false]
 refine Prod.ext ?_ ?_
 ·cases lo with
  | none=>rfl
  | some v=>exact Gfl v n 0
 ·cases hi with
  | none=>rfl
  | some v=>exact Gfl v n n
theorem Gen(i j:Nat):Builtin.Slice.slicePlaces (i:Int) (j:Int) 1=j-i:=by
 unfold Builtin.Slice.slicePlaces
 have h1:(1:Int)>0:=by omega
 simp only[h1,if_true,Int.ediv_one]
 split<;>omega
theorem Gaa{v:Value}{o:Option Int}{Q:Option Int->Shared->Prop}(p:IsPart v o)(h:Q o s):wpAny (model prog w) A (Builtin.Slice.slicePartIndex v) Q E s:=by
 cases p with
 | none=>exact slicePart_none h
 | int i t=>exact slicePart_int h
theorem Vg{sl:Addr}{vl vu:Value}{lo hi:Option Int}{n:Nat}{Q:Int×Int×Nat->Shared->Prop}(hs:s.heap.IsSliceOf sl vl vu .none)(pl:IsPart vl lo)(pu:IsPart vu hi)
  (h:Q (((sIx n 0 lo:Nat):Int),1,sIx n n hi-sIx n 0 lo) s):wpAny (model prog w) A (Builtin.Slice.sliceApplied (.ref sl) (pure (n:Int))) Q E s:=by
 obtain⟨os,hos,hcs,hds⟩:=id hs
 unfold Builtin.Slice.sliceApplied Builtin.Slice.sliceFields
 refine wpAny_bind (wpAny_bind (wpAny_field hos hds (x:=vl) rfl (wpAny_bind (wpAny_field hos hds (x:=vu) rfl (wpAny_bind (wpAny_field hos hds (x:=.none) rfl (wpAny_pure ?_)))))))
 refine wpAny_bind (slicePart_none ?_)
 show wpAny _ _ (if((1:Int)==0)=true then _ else _) _ _ s
 rw[if_neg (by decide)]
 refine wpAny_bind (Gaa pl (wpAny_bind (Gaa pu (wpAny_bind (wpAny_pure ?_)))))
 show wpAny _ _ (match Builtin.Slice.sliceAdjust lo hi 1 (n:Int) with | (lo,hi)=>pure (lo,(1:Int),Builtin.Slice.slicePlaces lo hi 1)) _ _ s
 rw[Gem lo hi n]
 show wpAny _ _ (pure (((sIx n 0 lo:Nat):Int),(1:Int),Builtin.Slice.slicePlaces ((sIx n 0 lo:Nat):Int) ((sIx n n hi:Nat):Int) 1)) _ _ s
 rw[Gen]
 exact wpAny_pure h
theorem Ghx(xs:Array Value)(i k:Nat):((List.range k).filterMap fun(m:Nat)=>xs[((i:Int)+(m:Int)*1).toNat]?).toArray=((xs.toList.drop i).take k).toArray:=by
 have e:(fun(m:Nat)=>xs[((i:Int)+(m:Int)*1).toNat]?)=fun m=>xs[i+m]?:=by
  funext m
  have:((i:Int)+(m:Int)*1).toNat=i+m:=by omega
  rw[this]
 rw[e]
 have:=pick_run xs i k
 rw[List.filterMap_map] at this
 have e2:((fun x=>xs[x]?)∘fun x=>i+x)=fun m=>xs[i+m]?:=rfl
 rw[e2] at this
 rw[this]
theorem Xz{t sl:Addr}{items:Array Value}{vl vu:Value}{lo hi:Option Int}{Q:Value->Shared->Prop}(ht:IsTup s.heap t items)(hs:s.heap.IsSliceOf sl vl vu .none)(pl:IsPart vl lo)(pu:IsPart vu hi)
  (hw:¬ (sIx items.size 0 lo=0/\sIx items.size items.size hi=items.size))
  (h:Q (.ref s.heap.objs.size) { s with heap:=s.heap.push { cls:=.type "tuple",data:=.seq ((items.toList.drop (sIx items.size 0 lo)).take (sIx items.size items.size hi-sIx items.size 0 lo)).toArray } })
  (hsz:items.size<=sizeLine):wpAny (model prog w) A (getItem (.ref t) (.ref sl)) Q E s:=by
 have htake:sizeOk (.seq ((items.toList.drop (sIx items.size 0 lo)).take (sIx items.size items.size hi-sIx items.size 0 lo)).toArray):=by
  show((items.toList.drop (sIx items.size 0 lo)).take (sIx items.size items.size hi-sIx items.size 0 lo)).toArray.size<=sizeLine
  rw[List.size_toArray,List.length_take,List.length_drop,Array.length_toList]
  omega
 have hj:sIx items.size items.size hi<=items.size:=Gph _ _ (Nat.le_refl _) hi
 obtain⟨os,hos,hcs,hds⟩:=id hs
 have hTs:s.TypeIs (.ref sl) "slice":=⟨os,hos,hcs⟩
 unfold getItem
 try with_reducible refine wpAny_holding ?_
 first | refine wpAny_bind (wpAny_pure ?_) | skip
 refine wpAny_bind (wpAny_sequenceKey ht.typeIs (by decide) ?_)
 refine wpAny_bind (wpAny_callSpecial?_slot (name:=Str.ofString "__getitem__") ht.typeIs PyProof.Rows.slot_tuple_getitem
  (wpAny_call_entry PyProof.Rows.slot_tuple_getitem ht.typeIs entry_tuple_getitem ?_ (args_tuple_getitem _ _)))
 show wpAny _ _ (Builtin.Tuple.tupleItemsOf (.ref t) >>= _) _ _ s
 refine wpAny_bind (tupleItemsOf_ ht ?_)
 refine wpAny_bind (wpAny_typeOf hTs ?_)
 rw[if_pos (by decide)]
 refine wpAny_bind (Vg hs pl pu ?_)
 have hno:¬ ((((sIx items.size 0 lo:Nat):Int)==0&&(1:Int)==1&&(sIx items.size items.size hi-sIx items.size 0 lo)==items.size)=true):=by
  intro q
  rw[Bool.and_eq_true,Bool.and_eq_true] at q
  have q1:((sIx items.size 0 lo:Nat):Int)=0:=eq_of_beq q.1.1
  have q2:sIx items.size items.size hi-sIx items.size 0 lo=items.size:=eq_of_beq q.2
  exact hw ⟨by omega,by omega⟩
 show wpAny _ _ (if(((sIx items.size 0 lo:Nat):Int)==0&&(1:Int)==1&&(sIx items.size items.size hi-sIx items.size 0 lo)==items.size)=true then _ else _) _ _ s
 rw[if_neg hno,Ghx]
 first
  | exact wpAny_bind (m:=Builtin.Tuple.tupleExact _) (wpAny_newObj_type (wpAny_pure ⟨_,rfl,wpAny_pure h⟩) htake)
  | exact wpAny_bind (m:=Builtin.Tuple.tupleExact _) (wpAny_newObj_type (wpAny_bind (wpAny_pure (wpAny_pure ⟨_,rfl,wpAny_pure h⟩))) htake)
  | exact wpAny_bind (wpAny_bind (m:=Builtin.Tuple.tupleExact _) (wpAny_newObj_type (wpAny_pure (wpAny_pure ⟨_,rfl,wpAny_pure h⟩)) htake))
  | exact wpAny_bind (wpAny_bind (m:=Builtin.Tuple.tupleExact _) (wpAny_newObj_type (wpAny_pure ⟨_,rfl,wpAny_pure h⟩) htake))
end
end HT
namespace L2
open PySem PySem.Spec PyProof.Rows
variable{xs:List V}{n:Nat}{pins:List (Addr×Obj)}{σ:St}{H:Hp}{x:V}
abbrev TO:=St->Hp->(Option Int->Hp->Prop)->Prop
def PO(X:Cx)(e:Option Expr)(t:TO):Prop:=
 ∀ (pins:List (Addr×Obj)) (s:Shared) (σ:St) (H:Hp) (Q:Option Int->Hp->Prop),Inv X pins σ H s->t σ H Q→
  wpAny (model X.prog X.w) X.A (evalPart e X.env) (fun u s'=>∃ o H',Inv X pins σ H' s'/\IsPart u o/\Q o H') X.xe s
def Gkz:TO:=fun _ H Q=>Q none H
def Gtq(t:TE):TO:=fun σ H Q=>t σ H fun x H1=>∃ i,x=.int i/\Q (some i) H1
section
variable{X:Cx}{e:Expr}{te:TE}{lo hi:Option Expr}{tl th:TO}{pos p2:Pos}
theorem Gk0:PO X none Gkz:=by
 intro pins s σ H Q I h
 rw[evalPart_none]
 exact wpAny_pure ⟨none,H,I,.none,h⟩
theorem Gk1(h:PE X e te):PO X (some e) (Gtq te):=by
 intro pins s σ H Q I hw
 rw[evalPart_some]
 refine thn (h pins s σ H _ I hw) fun u s1 ⟨x,H1,I1,r1,q1⟩=>?_
 obtain⟨i,rfl,q⟩:=q1
 obtain⟨t,rfl⟩:=r1
 exact⟨some i,H1,I1,.int i t,q⟩
def SlR(X:Cx)(r:V->Option Int->Option Int->Hp->VK->Prop):Prop:=
 ∀ (pins:List (Addr×Obj)) (s:Shared) (σ:St) (H:Hp) (x:V) (v vl vu:Value) (lo hi:Option Int) (sl:Addr) (Q:VK),Inv X pins σ H s->Hc x v->s.heap.IsSliceOf sl vl vu .none->IsPart vl lo->IsPart vu hi->r x lo hi H Q→
  ∃ T id,typeLookup (.type T) "__getitem__"=pure (some (.builtin id))/\s.TypeIs v T/\wpAny (model X.prog X.w) X.A (getItem v (.ref sl)) (EP X pins σ Q) X.xe s
theorem SlR.or{r r':V->Option Int->Option Int->Hp->VK->Prop}(h:SlR X r)(h':SlR X r'):SlR X (fun x lo hi H Q=>r x lo hi H Q\/r' x lo hi H Q):=by
 intro pins s σ H x v vl vu lo hi sl Q I rx hs pl pu q
 rcases q with q | q
 ·exact h pins s σ H x v vl vu lo hi sl Q I rx hs pl pu q
 ·exact h' pins s σ H x v vl vu lo hi sl Q I rx hs pl pu q
def tSl(r:V->Option Int->Option Int->Hp->VK->Prop)(te:TE)(tl th:TO):TE:=fun σ H Q=>te σ H fun x H1=>tl σ H1 fun l H2=>th σ H2 fun u H3=>r x l u H3 Q
theorem Ghy{r:V->Option Int->Option Int->Hp->VK->Prop}(hr:SlR X r)(he:PE X e te)(hl:PO X lo tl)(hu:PO X hi th):PE X (.Subscript e (.Slice lo hi none p2) pos) (tSl r te tl th):=by
 intro pins s σ H Q I h
 refine Subscript_ (thn (he pins s σ H _ I h) fun v s1 ⟨x,H1,I1,r1,q1⟩=>?_)
 refine wpAny_Slice (thn (hl pins s1 σ H1 _ I1 q1) fun vl s2 ⟨l,H2,I2,pl,q2⟩=>thn (hu pins s2 σ H2 _ I2 q2) fun vu s3 ⟨u,H3,I3,pu,q3⟩=>?_)
 rw[evalPart_none]
 refine wpAny_pure ?_
 have I4:Inv X pins σ H3 { s3 with heap:=s3.heap.push { cls:=.type "slice",data:=.fields #[vl,vu,.none] } }:=I3.kept (t':=s3.toks) fun b ob q=>Heap.get?_push_of_some _ q
 obtain⟨T,id,hT,ht,hg⟩:=hr pins { s3 with heap:=s3.heap.push { cls:=.type "slice",data:=.fields #[vl,vu,.none] } } σ H3 x v vl vu l u s3.heap.objs.size Q I4 r1 (Heap.IsSliceOf.new ..) pl pu q3
 show wpAny (model X.prog X.w) X.A (subscriptTail e (.Slice lo hi none p2) v (.ref s3.heap.objs.size)) (EP X pins σ Q) X.xe { s3 with heap:=s3.heap.push { cls:=.type "slice",data:=.fields #[vl,vu,.none] } }
 exact tail_any (ops:=[.ref s3.heap.objs.size,v]) ht hT hg (by with_unfolding_all rfl)
def Gdm(xs:List V)(lo hi:Option Int):List V:=(xs.drop (HT.sIx xs.length 0 lo)).take (HT.sIx xs.length xs.length hi-HT.sIx xs.length 0 lo)
theorem Ze(xs:List V)(lo hi:Option Int):(Gdm xs lo hi).length<=xs.length:=by
 unfold Gdm
 rw[List.length_take,List.length_drop]
 omega
def Gwh(K:PySem.W.Frag):V->Option Int->Option Int->Hp->VK->Prop:=fun x lo hi H Q=>∃ a xs,x=.ref a/\SqT K H a xs∧
 ¬ (HT.sIx xs.length 0 lo=0/\HT.sIx xs.length xs.length hi=xs.length)/\∀ p,H p=none->Q (.ref p) (upd H p (.tup (Gdm xs lo hi)))
theorem Gpi:SlR X (Gwh X.K):=by
 intro pins s σ H x v vl vu lo hi sl Q I rx hs pl pu h
 obtain⟨a,xs,rfl,hx,hw,q⟩:=h
 cases rx
 obtain⟨its,r,ht,hz⟩:=I.tuple hx
 have hlen:its.toArray.size=xs.length:=by rw[List.size_toArray]; exact r.length.symm
 refine⟨"tuple",_,PyProof.Rows.slot_tuple_getitem.lookup,ht.typeIs,?_⟩
 refine HT.Xz ht hs pl pu (by rw[hlen]; exact hw) ?_ (by rw[hlen]; exact hz)
 rw[hlen]
 refine⟨.ref s.heap.objs.size,_,I.laid (t':=s.toks) (o:=.tup (Gdm xs lo hi)) (fun b ob q=>Heap.get?_push_of_some _ q) (Nat.le_refl _) ?_,rfl,q _ (I.hok.fresh (Nat.le_refl _))⟩
 exact⟨Nat.le_trans (Ze xs lo hi) hz,_,(r.drop (HT.sIx xs.length 0 lo)).take (HT.sIx xs.length xs.length hi-HT.sIx xs.length 0 lo),IsTup.new _ _⟩
def Gnu(K:PySem.W.Frag):R2:=fun x y H Q=>∃ a b xs ys,x=.ref a/\y=.ref b/\SqT K H a xs/\SqT K H b ys/\xs≠[]/\xs.length+ys.length<=sizeLine∧
 (ys=[]->Q (.ref a) H)/\(ys≠[]->∀ p,H p=none->Q (.ref p) (upd H p (.tup (xs++ys))))
theorem Vals.nil_iff{us:List Value}(r:Vals xs us):us=[]↔xs=[]:=by
 cases r with
 | nil=>simp
 | cons _ _=>simp
theorem Gk2:OpR X (binaryOp .Add) (Gnu X.K):=by
 intro pins s σ H x y v u Q I rx ry h
 obtain⟨a,b,xs,ys,rfl,rfl,ha,hb,hx,hz,q1,q2⟩:=h
 cases rx
 cases ry
 obtain⟨its,r1,p1,_⟩:=I.tuple ha
 obtain⟨its2,r2,p2,_⟩:=I.tuple hb
 refine HT.Gkx p1 p2 (fun z=>hx (r1.nil_iff.mp z)) (fun z=>⟨.ref a,H,I,rfl,q1 (r2.nil_iff.mp z)⟩) (fun z=>?_) (by rw[<- r1.length,<- r2.length]; exact hz)
 refine⟨.ref s.heap.objs.size,_,I.laid (t':=s.toks) (o:=.tup (xs++ys)) (fun b ob q=>Heap.get?_push_of_some _ q) (Nat.le_refl _) ?_,rfl,q2 (fun w=>z (r2.nil_iff.mpr w)) _ (I.hok.fresh (Nat.le_refl _))⟩
 exact⟨by rw[List.length_append]; exact hz,_,r1.append r2,IsTup.new _ _⟩
end
def ixN(n:Nat)(i:Int):Option Nat:=if 0<=i then(if i<n then some i.toNat else none) else if -(n:Int)<=i then some (i+n).toNat else none
def atI{α:Type}(xs:List α)(i:Int):Option α:=(ixN xs.length i).bind fun j=>xs[j]?
theorem Gfm{i:Int}{j:Nat}(h:ixN n i=some j):seqIndex? i n=some j/\j<n /\ -(n:Int)<=i/\i<n:=by
 unfold ixN at h
 by_cases h0:0<=i
 ·rw[if_pos h0] at h
  by_cases h1:i<n
  ·rw[if_pos h1] at h
   have e:i.toNat=j:=Option.some.inj h
   exact⟨by rw[seqIndex_of h0 h1,e],by omega,by omega,h1⟩
  ·rw[if_neg h1] at h; cases h
 ·rw[if_neg h0] at h
  by_cases h1 : -(n:Int)<=i
  ·rw[if_pos h1] at h
   have e:(i+n).toNat=j:=Option.some.inj h
   exact⟨by rw[seqIndex_neg (by omega) h1,e],by omega,h1,by omega⟩
  ·rw[if_neg h1] at h; cases h
theorem Gcl{α:Type}{xs:List α}{i:Int}{v:α}(h:atI xs i=some v):∃ j,seqIndex? i xs.length=some j/\xs[j]?=some v/\j<xs.length /\ -(xs.length:Int)<=i/\i<xs.length:=by
 unfold atI at h
 cases e:ixN xs.length i with
 | none=>rw[e] at h; cases h
 | some j=>
  rw[e] at h
  obtain⟨h1,h2,h3,h4⟩:=Gfm e
  exact⟨j,h1,h,h2,h3,h4⟩
def Zs(b:Expr):Prop:=∀ o i,subscripted b false o i=operate [o,i] (getItem o i)
def IxR(X:Cx)(r:R2):Prop:=
 ∀ (value slice:Expr) (pins:List (Addr×Obj)) (s:Shared) (σ:St) (H:Hp) (x y:V) (v u:Value) (Q:VK),Inv X pins σ H s->Hc x v->Hc y u->r x y H Q→
  subscripted slice false v u=operate [v,u] (getItem v u)->wpAny (model X.prog X.w) X.A (subscriptTail value slice v u) (EP X pins σ Q) X.xe s
def MtR(X:Cx)(id:String)(r:V->List V->Hp->VK->Prop):Prop:=
 ∀ (pins:List (Addr×Obj)) (s:Shared) (σ:St) (H:Hp) (x:V) (xs:List V) (v:Value) (us:List Value) (Q:VK),Inv X pins σ H s->Hc x v->Vals xs us->r x xs H Q→
  wpAny (model X.prog X.w) X.A (call (.builtin id) (v::us)) (EP X pins σ Q) X.xe s
section
variable{X:Cx}{a b:Expr}{ta tb:TE}{pos:Pos}
theorem IxR.or{r r':R2}(h:IxR X r)(h':IxR X r'):IxR X (fun x y H Q=>r x y H Q\/r' x y H Q):=by
 intro value slice pins s σ H x y v u Q I rx ry q hs
 rcases q with q | q
 ·exact h value slice pins s σ H x y v u Q I rx ry q hs
 ·exact h' value slice pins s σ H x y v u Q I rx ry q hs
theorem Gtr{r:R2}(hr:IxR X r)(ha:PE X a ta)(hb:PE X b tb)(hs:Zs b):PE X (.Subscript a b pos) (tOp r ta tb):=by
 intro pins s σ H Q I h
 exact Subscript_ (Go4 ha hb I h fun v u s2 x y H2 I2 rx ry q=>hr a b pins s2 σ H2 x y v u Q I2 rx ry q (hs _ _))
def Gts(K:PySem.W.Frag):R2:=fun x y H Q=>∃ p xs i v,x=.ref p/\y=.int i/\SqL K H p xs/\atI xs i=some v/\Q v H
def Gtt(K:PySem.W.Frag):R2:=fun x y H Q=>∃ p xs i v,x=.ref p/\y=.int i/\SqT K H p xs/\atI xs i=some v/\Q v H
def Gtu:R2:=fun x y H Q=>∃ z i c,x=.str z/\y=.int i/\z.length<=sizeLine/\atI z.cps.toList i=some c/\Q (.str ⟨#[c]⟩) H
theorem Gk3:IxR X (Gts X.K):=by
 intro value slice pins s σ H x y v u Q I rx ry h hs
 obtain⟨p,xs,i,z,rfl,rfl,hq,he,q⟩:=h
 cases rx
 obtain⟨t,rfl⟩:=ry
 obtain⟨its,r,pl,hz⟩:=I.list hq
 obtain⟨j,h1,h2,h3,h4,h5⟩:=Gcl he
 obtain⟨w,ew,rw'⟩:=r.get h2
 have hl:=r.length
 have hn:=Yo
 have fin:EP X pins σ Q w s:=⟨z,H,I,rw',q⟩
 by_cases h0:0<=i
 ·have hj:i.toNat=j:=by
   rw[seqIndex_of h0 h5] at h1
   exact Option.some.inj h1
  exact item_listR pl.isList h0 (by omega) (by rw[hj]; simpa using ew) fin hs
 ·have hj:(i+(its.toArray.size:Int)).toNat=j:=by
   rw[seqIndex_neg (by omega) h4] at h1
   rw[List.size_toArray,<- hl]
   exact Option.some.inj h1
  exact subscriptTail_builtinR (x:=w) pl.isList.typeIs slot_list_getitem.lookup
   (wpAny_getItem_list_neg (Q:=fun r s'=>r=w/\EP X pins σ Q r s') pl.isList (by omega) (by rw[List.size_toArray]<;>omega) (by omega) (by rw[hj]; simpa using ew) ⟨rfl,fin⟩) hs
theorem Gpj:IxR X (Gtt X.K):=by
 intro value slice pins s σ H x y v u Q I rx ry h hs
 obtain⟨p,xs,i,z,rfl,rfl,hq,he,q⟩:=h
 cases rx
 obtain⟨t,rfl⟩:=ry
 obtain⟨its,r,pl,hz⟩:=I.tuple hq
 obtain⟨j,h1,h2,h3,h4,h5⟩:=Gcl he
 obtain⟨w,ew,rw'⟩:=r.get h2
 have hl:=r.length
 have hn:=Yo
 have fin:EP X pins σ Q w s:=⟨z,H,I,rw',q⟩
 exact subscriptTail_builtinR (x:=w) pl.typeIs slot_tuple_getitem.lookup
  (getItem_tuple (j:=j) (Q:=fun r s'=>r=w/\EP X pins σ Q r s') pl (by omega) (by omega) (by rw[List.size_toArray,<- hl]; exact h1) (by simpa using ew) ⟨rfl,fin⟩) hs
theorem Gpk:IxR X Gtu:=by
 intro value slice pins s σ H x y v u Q I rx ry h hs
 obtain⟨z,i,c,rfl,rfl,hz,he,q⟩:=h
 obtain⟨t,rfl⟩:=rx
 obtain⟨t',rfl⟩:=ry
 obtain⟨j,h1,h2,h3,h4,h5⟩:=Gcl he
 have hl:z.cps.toList.length=z.length:=by simp[Str.length]
 rw[hl] at h1 h4 h5
 have hn:=Yo
 exact tail_any (typeIs_str s z t) slot_str_getitem.lookup (getItem_str (c:=c) (by
  have e1:decide (i < -(2^63:Int))=false:=decide_eq_false (by omega)
  have e2:decide (i≥2^63)=false:=decide_eq_false (by omega)
  rw[e1,e2,Bool.or_false]) (by rw[h1]; simpa using h2) ⟨.str ⟨#[c]⟩,H,I.tok _,⟨_,rfl⟩,q⟩) hs
def rIx(K:PySem.W.Frag):R2:=fun x y H Q=>Gts K x y H Q\/Gtt K x y H Q\/Gtu x y H Q
theorem Gpl:IxR X (rIx X.K):=Gk3.or (Gpj.or Gpk)
theorem Geo(its:List Value)(n j:Nat)(u:Value):Obj.mapSeq (·.setIfInBounds j u) { cls:=.type "list",data:=.seq its.toArray n }={ cls:=.type "list",data:=.seq (its.set j u).toArray n }:=by
 simp[Obj.mapSeq]
theorem Inv.lst{s:Shared}{p:Addr}(I:Inv X pins σ H s)(h:H p=some (.lst xs)):
  ∃ (its:List Value) (n:Nat),Vals xs its/\s.heap.get? p=some { cls:=.type "list",data:=.seq its.toArray n }/\xs.length<=sizeLine:=by
 obtain⟨z,its,n,r,e⟩:=I.hok p _ h
 exact⟨its,n,r,e,z⟩
theorem Inv.lstUpd{s:Shared}{p:Addr}{ys:List V}{its its':List Value}{n':Nat}{f:Obj->Obj}(I:Inv X pins σ H s)(h:H p=some (.lst xs))(ho:s.heap.get? p=some { cls:=.type "list",data:=.seq its.toArray n })(hf:f { cls:=.type "list",data:=.seq its.toArray n }={ cls:=.type "list",data:=.seq its'.toArray n' })(r:Vals ys its')(hz:ys.length<=sizeLine)(t:Nat):
  Inv X pins σ (upd H p (.lst ys)) { s with heap:=s.heap.update p f,toks:=t }:=by
 have e:(s.heap.update p f).get? p=some { cls:=.type "list",data:=.seq its'.toArray n' }:=by
  rw[Heap.get?_update_self f ho (by rw[hf]<;>rfl),hf]
 refine I.write (x:=p) (e:=p) (by rw[h]; trivial) (.inl rfl) (fun b u hb q=>(Heap.get?_update_other _ _ (Ne.symm hb)).trans q) ⟨_,e⟩ ?_
 exact⟨hz,its',n',r,e⟩
def Gnv:V->V->V->Hp->(Hp->Prop)->Prop:=fun o i v H Q=>∃ p xs k j,o=.ref p/\i=.int k/\H p=some (.lst xs)/\ixN xs.length k=some j/\Q (upd H p (.lst (xs.set j v)))
theorem Ghz:Gow X Gnv:=by
 intro pins s σ H o i v ov iv u Q I ro ri rv h
 obtain⟨p,xs,k,j,rfl,rfl,hp,hj,q⟩:=h
 cases ro
 obtain⟨t,rfl⟩:=ri
 obtain⟨its,n,r,ho,hz⟩:=I.lst hp
 obtain⟨h1,h2,h3,h4⟩:=Gfm hj
 have hl:=r.length
 have hn:=Yo
 have I':Inv X pins σ (upd H p (.lst (xs.set j v))) { s with heap:=s.heap.update p (Obj.mapSeq (·.setIfInBounds j u)) }:=
  I.lstUpd hp ho (Geo its n j u) (r.set rv j) (by rw[List.length_set]; exact hz) s.toks
 by_cases h0:0<=k
 ·have hk:k.toNat=j:=by
   rw[seqIndex_of h0 h4] at h1
   exact Option.some.inj h1
  exact PySem.W.ki_setAt ho h0 (by omega) (by rw[List.size_toArray,<- hl]; exact h4) (by rw[hk]; exact⟨_,I',q⟩)
 ·have hk:(k+(its.toArray.size:Int)).toNat=j:=by
   rw[seqIndex_neg (by omega) h3] at h1
   rw[List.size_toArray,<- hl]
   exact Option.some.inj h1
  exact PySem.W.ki_setBack ho (by omega) (by rw[List.size_toArray,<- hl]; exact h3) (by omega) (by rw[hk]; exact⟨_,I',q⟩)
theorem Gcm(lo hi:Option Int)(n:Nat):(sliceBounds lo hi none n).1=((HT.sIx n 0 lo:Nat):Int)/\(sliceBounds lo hi none n).2.1=((HT.sIx n n hi:Nat):Int)/\(sliceBounds lo hi none n).2.2=1:=by
 refine⟨?_,?_,rfl⟩
 ·cases lo with
  | none=>simp[sliceBounds,HT.sIx]
  | some i=>
   simp only[sliceBounds,HT.sIx,Option.getD_none,show(1:Int)>0 by decide,if_true]
   by_cases h:i<0
   ·simp only[h,if_true]<;>omega
   ·simp only[h,if_false]<;>omega
 ·cases hi with
  | none=>simp[sliceBounds,HT.sIx]
  | some i=>
   simp only[sliceBounds,HT.sIx,Option.getD_none,show(1:Int)>0 by decide,if_true]
   by_cases h:i<0
   ·simp only[h,if_true]<;>omega
   ·simp only[h,if_false]<;>omega
theorem Gbc(its:List Value)(lo hi:Option Int):slicePick its.toArray lo hi none=((its.drop (HT.sIx its.length 0 lo)).take (HT.sIx its.length its.length hi-HT.sIx its.length 0 lo)).toArray:=by
 obtain⟨h1,h2,h3⟩:=Gcm lo hi its.toArray.size
 unfold slicePick
 rw[h1,h2,h3]
 simp only[sliceRange_one,pick_run,List.size_toArray]<;>rfl
def Gwi(K:PySem.W.Frag):V->Option Int->Option Int->Hp->VK->Prop:=fun x lo hi H Q=>∃ a xs,x=.ref a/\SqL K H a xs/\∀ p,H p=none->Q (.ref p) (upd H p (.lst (Gdm xs lo hi)))
theorem Gk4:SlR X (Gwi X.K):=by
 intro pins s σ H x v vl vu lo hi sl Q I rx hs pl pu h
 obtain⟨a,xs,rfl,hx,q⟩:=h
 cases rx
 obtain⟨its,r,ht,hz⟩:=I.list hx
 have hlen:=r.length
 refine⟨"list",_,slot_list_getitem.lookup,ht.isList.typeIs,?_⟩
 refine wpAny_getItem_list_slice ht.isList hs pl pu .none (by simp) ?_ (by rw[List.size_toArray]<;>omega)
 rw[Gbc,<- hlen]
 refine⟨.ref s.heap.objs.size,_,I.laid (t':=s.toks) (o:=.lst (Gdm xs lo hi)) (fun b ob q=>Heap.get?_push_of_some _ q) (Nat.le_refl _) ?_,rfl,q _ (I.hok.fresh (Nat.le_refl _))⟩
 exact⟨Nat.le_trans (Ze xs lo hi) hz,_,0,(r.drop (HT.sIx xs.length 0 lo)).take (HT.sIx xs.length xs.length hi-HT.sIx xs.length 0 lo),Heap.get?_push_size _ rfl⟩
def Wk:V->Bool
 | .non=>true
 | .bl _=>true
 | .int _=>true
 | .str _=>true
 | _=>false
def eqV:V->V->Bool
 | .non,.non=>true
 | .bl a,.bl b=>a==b
 | .bl a,.int b=>(if a then 1 else 0)==b
 | .int a,.bl b=>a==(if b then 1 else 0)
 | .int a,.int b=>a==b
 | .str a,.str b=>a==b
 | _,_=>false
theorem Gpm{A:Around}{s:Shared}{y:V}{u v:Value}(ry:Hc y u)(rx:Hc x v)(fy:Wk y=true)(fx:Wk x=true):SeqAt.EqAt A s u v (eqV y x):=by
 cases y with
 | non=>
  cases ry
  cases x with
  | non=>cases rx; exact SeqAt.EqAt.same _
  | bl b=>cases rx; exact SeqAt.EqAt.none_bool b
  | int b=>obtain⟨t,rfl⟩:=rx; exact SeqAt.EqAt.none_int b t
  | str b=>obtain⟨t,rfl⟩:=rx; exact SeqAt.EqAt.none_str b t
  | _=>exact absurd (show false=true from fx) Bool.false_ne_true
 | bl a=>
  cases ry
  cases x with
  | non=>cases rx; exact SeqAt.EqAt.bool_none a
  | bl b=>cases rx; exact SeqAt.EqAt.bool_bool a b
  | int b=>obtain⟨t,rfl⟩:=rx; exact SeqAt.EqAt.bool_int a b t
  | str b=>obtain⟨t,rfl⟩:=rx; exact SeqAt.EqAt.bool_str a b t
  | _=>exact absurd (show false=true from fx) Bool.false_ne_true
 | int a=>
  obtain⟨t',rfl⟩:=ry
  cases x with
  | non=>cases rx; exact SeqAt.EqAt.int_none a t'
  | bl b=>cases rx; exact SeqAt.EqAt.int_bool a t' b
  | int b=>obtain⟨t,rfl⟩:=rx; exact SeqAt.EqAt.int_int a t' b t
  | str b=>obtain⟨t,rfl⟩:=rx; exact SeqAt.EqAt.int_str a t' b t
  | _=>exact absurd (show false=true from fx) Bool.false_ne_true
 | str a=>
  obtain⟨t',rfl⟩:=ry
  cases x with
  | non=>cases rx; exact SeqAt.EqAt.str_none a t'
  | bl b=>cases rx; exact SeqAt.EqAt.str_bool a t' b
  | int b=>obtain⟨t,rfl⟩:=rx; exact SeqAt.EqAt.str_int a t' b t
  | str b=>obtain⟨t,rfl⟩:=rx; exact SeqAt.EqAt.str_str a t' b t
  | _=>exact absurd (show false=true from fx) Bool.false_ne_true
 | _=>exact absurd (show false=true from fy) Bool.false_ne_true
def eqU(x:V)(u:Value):Bool:=match u with
 | .none=>eqV .non x
 | .bool b=>eqV (.bl b) x
 | .int i _=>eqV (.int i) x
 | .str z _=>eqV (.str z) x
 | _=>false
theorem Gh0{y:V}{u:Value}(r:Hc y u)(f:Wk y=true):eqU x u=eqV y x:=by
 cases y with
 | non=>cases r; rfl
 | bl b=>cases r; rfl
 | int i=>obtain⟨t,rfl⟩:=r; rfl
 | str z=>obtain⟨t,rfl⟩:=r; rfl
 | _=>exact absurd (show false=true from f) Bool.false_ne_true
theorem Gcn{x:V}:∀ {xs:List V} {us:List Value},Vals xs us->xs.all Wk=true->us.any (eqU x)=xs.any fun y=>eqV y x
 | _,_,.nil,_=>rfl
 | y::xs,u::us,.cons r t,f=>by
  rw[List.all_cons,Bool.and_eq_true] at f
  rw[List.any_cons,List.any_cons,Gh0 r f.1,Gcn t f.2]
theorem Gab{A:Around}{s:Shared}{x:V}{v:Value}(rx:Hc x v)(fx:Wk x=true):∀ {xs:List V} {us:List Value},Vals xs us->xs.all Wk=true->∀ u∈us,SeqAt.EqAt A s u v (eqU x u)
 | _,_,.nil,_=>fun u hu=>by cases hu
 | y::xs,u::us,.cons r t,f=>fun u' hu=>by
  rw[List.all_cons,Bool.and_eq_true] at f
  rcases List.mem_cons.mp hu with rfl | hu
  ·rw[Gh0 r f.1]; exact Gpm r rx f.1 fx
  ·exact Gab rx fx t f.2 u' hu
def inV(x:V)(xs:List V):Bool:=xs.any fun y=>eqV y x
def rIn(K:PySem.W.Frag)(neg:Bool):R2:=fun x y H Q=>∃ p xs,y=.ref p/\(SqL K H p xs\/SqT K H p xs)/\Wk x=true/\xs.all Wk=true/\Q (.bl (if neg then !inV x xs else inV x xs)) H
theorem Ggm:OpR X (compareOp .In) (rIn X.K false):=by
 intro pins s σ H x y v u Q I rx ry h
 obtain⟨p,xs,rfl,hq,fx,fs,q⟩:=h
 cases ry
 rcases hq with hq | hq
 ·obtain⟨its,r,pl,hz⟩:=I.list hq
  refine SeqAt.in_listAt (eqU x) pl.isList (fun w hw=>Gab rx fx r fs w (by simpa using hw)) ⟨.bl _,H,I,rfl,?_⟩
  rw[show its.toArray.any (eqU x)=its.any (eqU x) by simp,Gcn r fs]
  exact q
 ·obtain⟨its,r,pl,hz⟩:=I.tuple hq
  refine SeqAt.in_tupleAt (eqU x) pl (fun w hw=>Gab rx fx r fs w (by simpa using hw)) ⟨.bl _,H,I,rfl,?_⟩
  rw[show its.toArray.any (eqU x)=its.any (eqU x) by simp,Gcn r fs]
  exact q
theorem Gco:Ui X (.type "list") (fun xs H Q=>∃ p ys,xs=[.ref p]/\(SqL X.K H p ys\/SqT X.K H p ys)/\∀ l,H l=none->Q (.ref l) (upd H l (.lst ys))):=by
 intro pins s σ H xs us Q I r h
 obtain⟨p,ys,rfl,hq,q⟩:=h
 obtain⟨u,rfl,rx⟩:=Zd r
 cases rx
 have fin:∀ (its:List Value),Vals ys its->ys.length<=sizeLine->∀ (h':Heap) (c':Nat),(∀ b o',s.heap.get? b=some o'->h'.get? b=some o')→
   h'.get? s.heap.objs.size=some { cls:=.type "list",dict:=none,data:=.seq its.toArray c',slots:=#[] }->EP X pins σ Q (.ref s.heap.objs.size) { s with heap:=h' }:=fun its r' hz h' c' kp e=>
  ⟨.ref s.heap.objs.size,_,I.laid (t':=s.toks) kp (Nat.le_refl _) (show Jm X.prog X.w _ h' _ (.lst ys) from⟨hz,its,c',r',e⟩),rfl,q _ (I.hok.fresh (Nat.le_refl _))⟩
 rcases hq with hq | hq
 ·obtain⟨its,r',pl,hz⟩:=I.list hq
  have hlen:=r'.length
  obtain⟨o,ho,hc,n,hd⟩:=pl.isList
  exact call_list_seq p (.inl rfl) ho hc hd (fun h' c' kp e=>fin its r' hz h' c' kp e) (by simp only[List.size_toArray]<;>omega)
 ·obtain⟨its,r',pl,hz⟩:=I.tuple hq
  have hlen:=r'.length
  obtain⟨o,ho,hc,n,hd⟩:=pl
  exact call_list_seq p (.inr rfl) ho hc hd (fun h' c' kp e=>fin its r' hz h' c' kp e) (by simp only[List.size_toArray]<;>omega)
theorem Gbd:Ui X (.type "tuple") (fun xs H Q=>∃ p ys,xs=[.ref p]/\((SqL X.K H p ys/\∀ l,H l=none->Q (.ref l) (upd H l (.tup ys)))\/(SqT X.K H p ys/\Q (.ref p) H))):=by
 intro pins s σ H xs us Q I r h
 obtain⟨p,ys,rfl,h⟩:=h
 obtain⟨u,rfl,rx⟩:=Zd r
 cases rx
 rcases h with⟨hq,q⟩ | ⟨hq,q⟩
 ·obtain⟨its,r',pl,hz⟩:=I.list hq
  have hlen:=r'.length
  refine call_tuple_list pl.isList (fun h' kp=>?_) (by simp only[List.size_toArray]<;>omega)
  have I1:Inv X pins σ H { s with heap:=h' }:=I.kept (t':=s.toks) kp
  have I2:Inv X pins σ (upd H h'.objs.size (.tup ys)) { s with heap:=h'.push { cls:=.type "tuple",data:=.seq its.toArray } }:=
   I1.laid (t':=s.toks) (fun b o e=>Heap.get?_push_of_some _ e) (Nat.le_refl _) (show Jm X.prog X.w _ _ _ (.tup ys) from⟨hz,its,r',IsTup.new _ _⟩)
  exact⟨.ref h'.objs.size,_,I2,rfl,q _ (I1.hok.fresh (Nat.le_refl _))⟩
 ·obtain⟨its,r',pl,hz⟩:=I.tuple hq
  exact call_tuple_same pl ⟨.ref p,H,I,rfl,q⟩
def tyV(K:PySem.W.Frag)(T:String)(x:V)(H:Hp):Prop:=match x with
 | .str _=>T="str"
 | .int _=>T="int"
 | .ref p=>(T="list"/\∃ xs,SqL K H p xs)\/(T="tuple"/\∃ o,K.lookup p=some o/\o.cls=.type "tuple"/\o.dict=none)∨
   (T="dict"/\((∃ kvs,H p=some (.dK kvs))\/∃ kvs,H p=some (.dT kvs)))\/(T="set"/\∃ S n,H p=some (.set S n))
 | _=>False
theorem Gpn{s:Shared}{T:String}{v:Value}(I:Inv X pins σ H s)(r:Hc x v)(ty:tyV X.K T x H):
  s.TypeIs v T/\∀ a,v=.ref a->∃ ob,s.heap.get? a=some ob/\ob.dict=none:=by
 cases x with
 | str z=>
  obtain⟨t,rfl⟩:=r
  cases (show T="str" from ty)
  exact⟨typeIs_str s z t,fun _ e=>nomatch e⟩
 | int i=>
  obtain⟨t,rfl⟩:=r
  cases (show T="int" from ty)
  exact⟨typeIs_int s i t,fun _ e=>nomatch e⟩
 | ref p=>
  cases r
  rcases ty with⟨rfl,xs,hq⟩ | ⟨rfl,o,hk,hc,hd⟩ | ⟨rfl,hk⟩ | ⟨rfl,S,n,hk⟩
  ·obtain⟨its,_,pl,_⟩:=I.list hq
   refine⟨pl.isList.typeIs,fun a e=>?_⟩
   cases e
   obtain⟨o,n,e,c,hd,_⟩:=pl
   exact⟨o,e,hd⟩
  ·refine⟨⟨o,I.kIn p o hk,hc⟩,fun a e=>?_⟩
   cases e
   exact⟨o,I.kIn _ o hk,hd⟩
  ·have z:∃ o,s.heap.get? p=some o/\o.ExactDict:=by
    rcases hk with⟨kvs,hk⟩ | ⟨kvs,hk⟩
    ·obtain⟨_,_,_,_,o,_,_,e,ex,_⟩:=I.hok p _ hk
     exact⟨o,e,ex⟩
    ·obtain⟨_,_,_,_,o,_,_,e,ex,_⟩:=I.hok p _ hk
     exact⟨o,e,ex⟩
   obtain⟨o,e,ex⟩:=z
   refine⟨⟨o,e,ex.1⟩,fun a e2=>?_⟩
   cases e2
   exact⟨o,e,ex.2.1⟩
  ·obtain⟨o,_,_,_,e,ex,_⟩:=I.hok p _ hk
   refine⟨⟨o,e,ex.1⟩,fun a e2=>?_⟩
   cases e2
   exact⟨o,e,ex.2.1⟩
 | _=>exact False.elim ty
def tBM(K:PySem.W.Frag)(T:String)(r:V->List V->Hp->VK->Prop)(to:TE)(t:TA):TE:=fun σ H Q=>to σ H fun x H1=>tyV K T x H1/\t σ H1 fun xs H2=>r x xs H2 Q
variable{o e:Expr}{es:List Expr}{to:TE}{t:TA}{name:Str}{apos cpos:Pos}{T id:String}{r:V->List V->Hp->VK->Prop}
theorem Gh1(pa:PlainAttrs T)(slot:Slot T name id)(hty:typeOf (.builtin id)=pure (.type "method_descriptor"))(hm:MtR X id r)(ho:PE X o to)(ha:PA X (e::es) t)
  (hbase:attributeBase o name X.env (eval o X.env)=eval o X.env:=by rfl)
  (hfew:((backTo cpos (starEach (e::es) X.env)).all (fun x=>!x.1)&&(backToKw cpos (keywordEach [] X.env)).all (fun x=>x.1.isSome)
   && decide ((e::es).length+([]:List Keyword).length+(if([]:List Keyword).isEmpty then 0 else 1)<30))=true:=by rfl)
  (hline:(apos.endLine==cpos.line)=true:=by rfl) (hs:starEach (e::es) X.env=(false,eval e X.env)::starEach es X.env:=by rfl) (hplain:(backTo cpos (starEach es X.env)).any (·.1)=false:=by rfl):
  PE X (.Call (.Attribute o name apos) (e::es) [] cpos) (tBM X.K T r to t):=by
 intro pins s σ H Q I h
 refine wpAny_Call_method_late hbase hfew hline rfl (thn (ho pins s σ H _ I h) fun v s1 ⟨x,H1,I1,r1,ty,q1⟩=>?_)
 obtain⟨h1,h2⟩:=Gpn I1 r1 ty
 refine⟨T,id,pa,slot,hty,h1,h2,?_⟩
 have hA:=ha cpos pins s1 σ H1 _ I1 q1
 rw[hs] at hA ⊢
 refine Calls.callWith_builtin (by show(false||(backTo cpos (starEach es X.env)).any (·.1))=false; rw[hplain]<;>rfl) (Calls.evalArgs_plain ?_)
 exact thn hA fun us s2 ⟨vs,H2,I2,r2,q2⟩=>hm pins s2 σ H2 x vs v us Q I2 r1 r2 q2
end
def MtM(X:Cx)(id:String)(r:V->List V->Hp->VK->Prop):Prop:=
 ∀ (pins:List (Addr×Obj)) (s:Shared) (σ:St) (H:Hp) (x:V) (xs:List V) (v:Value) (us:List Value) (Q:VK),Inv X pins σ H s->Hc x v->Vals xs us->r x xs H Q→
  wpAny (model X.prog X.w) X.A (call (.builtin id) (v::us)) (EP X pins σ Q) X.xe s
theorem Vals.one:∀ {x:V} {us:List Value},Vals [x] us->∃ u,us=[u]/\Hc x u
 | _,_,.cons r .nil=>⟨_,rfl,r⟩
theorem Vals.two:∀ {x y:V} {us:List Value},Vals [x,y] us->∃ u v,us=[u,v]/\Hc x u/\Hc y v
 | _,_,_,.cons r (.cons q .nil)=>⟨_,_,rfl,r,q⟩
theorem Vals.rep{us:List Value}(h:Vals xs us):∀ k:Nat,Vals (List.replicate k xs).flatten (List.replicate k us).flatten
 | 0=>.nil
 | k+1=>by
  rw[List.replicate_succ,List.replicate_succ,List.flatten_cons,List.flatten_cons]
  exact Vals.append h (Vals.rep h k)
theorem Yp(its:List Value):∀ (k:Nat) (acc:List Value),
  List.foldl (fun x1 x2=>x1++x2) acc.toArray (List.replicate k its.toArray)=(acc++(List.replicate k its).flatten).toArray
 | 0,acc=>by simp
 | k+1,acc=>by
  have e:acc.toArray++its.toArray=(acc++its).toArray:=by simp
  have e2:(acc++its)++(List.replicate k its).flatten=acc++(List.replicate (k+1) its).flatten:=by
   rw[List.replicate_succ,List.flatten_cons,List.append_assoc]
  rw[<- e2,<- Yp its k (acc++its),<- e,List.replicate_succ,List.foldl_cons]
section
variable{X:Cx}{pins:List (Addr×Obj)}{σ:St}{H:Hp}{s:Shared}{l b:Addr}{xs ys zs:List V}
theorem Inv.lset{its its':List Value}{f:Array Value->Array Value}{t':Nat}(I:Inv X pins σ H s)(hH:H l=some (.lst xs))(e:s.heap.get? l=some { cls:=.type "list",data:=.seq its.toArray n })(hf:f its.toArray=its'.toArray)(hv:Vals ys its')(hz:ys.length<=sizeLine):
  Inv X pins σ (upd H l (.lst ys)) { s with heap:=s.heap.update l (Obj.mapSeq f),toks:=t' }:=by
 have q:=PySem.IsL.update e f
 rw[hf] at q
 refine I.write (x:=l) (e:=l) (by rw[hH]; exact trivial) (.inl rfl) (fun b' u hb hu=>(Heap.get?_update_other s.heap (Obj.mapSeq f) (Ne.symm hb)).trans hu) ⟨_,q⟩ ?_
 exact⟨hz,its',_,hv,q⟩
theorem Inv.lnew{its:List Value}{t':Nat}(I:Inv X pins σ H s)(hv:Vals ys its)(hz:ys.length<=sizeLine):
  Inv X pins σ (upd H s.heap.objs.size (.lst ys)) { s with heap:=s.heap.push { cls:=.type "list",data:=.seq its.toArray },toks:=t' }:=
 I.laid (fun _ _ q=>Heap.get?_push_of_some _ q) (Nat.le_refl _) ⟨hz,its,0,hv,Heap.get?_push_size _ rfl⟩
theorem Inv.fresh(I:Inv X pins σ H s):H s.heap.objs.size=none:=I.hok.fresh (Nat.le_refl _)
theorem Inv.lstM(I:Inv X pins σ H s)(hH:H l=some (.lst xs)):xs.length<=sizeLine/\∃ (its:List Value) (n:Nat),Vals xs its/\xs.length=its.length/\s.heap.get? l=some { cls:=.type "list",data:=.seq its.toArray n }:=by
 obtain⟨z,its,n,r,e⟩:=I.hok l _ hH
 exact⟨z,its,n,r,r.length,e⟩
theorem Gdn(h:n<=sizeLine):Builtin.List.listTooLong n=false:=by
 unfold Builtin.List.listTooLong
 exact decide_eq_false (by omega)
end
section
variable{X:Cx}
def Gfn:V->List V->Hp->VK->Prop:=fun x vs H Q=>∃ l xs y,x=.ref l/\vs=[y]/\H l=some (.lst xs)/\xs.length<sizeLine/\Q .non (upd H l (.lst (xs++[y])))
theorem Gb3:MtM X "list.append" Gfn:=by
 intro pins s σ H x vs v us Q I rx rv h
 obtain⟨l,xs,y,rfl,rfl,hH,hz,q⟩:=h
 cases rx
 obtain⟨u,rfl,ru⟩:=rv.one
 obtain⟨z,its,n,r,hl,e⟩:=I.lstM hH
 refine call_meets F.slot_list_append ⟨_,e,rfl⟩ F.entry_list_append (F.args_list_append_2 _ _) (PySem.list_append l its.toArray n u (by rw[List.size_toArray]; omega)) ⟨e,?_⟩
 refine⟨.non,_,I.lset (its':=its++[u]) hH e (by simp) (r.append (.cons ru .nil)) ?_,rfl,q⟩
 rw[List.length_append,List.length_singleton]
 omega
def Gfo:V->List V->Hp->VK->Prop:=fun x vs H Q=>∃ l b xs zs,x=.ref l/\vs=[.ref b]/\H l=some (.lst xs)/\H b=some (.lst zs)/\xs.length+zs.length<=sizeLine/\Q .non (upd H l (.lst (xs++zs)))
theorem Ggn:MtM X "list.extend" Gfo:=by
 intro pins s σ H x vs v us Q I rx rv h
 obtain⟨l,b,xs,zs,rfl,rfl,hH,hB,hz,q⟩:=h
 cases rx
 obtain⟨u,rfl,ru⟩:=rv.one
 cases ru
 obtain⟨z,its,n,r,hl,e⟩:=I.lstM hH
 obtain⟨z2,its2,n2,r2,hl2,e2⟩:=I.lstM hB
 have hsz:its.toArray.size+its2.toArray.size<=sizeLine:=by rw[List.size_toArray,List.size_toArray]; omega
 have hlong:¬ (!its.toArray.isEmpty&&Builtin.List.listTooLong (its.toArray.size+its2.toArray.size))=true:=by
  rw[Gdn hsz,Bool.and_false]
  exact Bool.false_ne_true
 refine call_meets F.slot_list_extend ⟨_,e,rfl⟩ F.entry_list_extend (F.args_list_extend_2 _ _)
  (AutoSeq1.list_extend_list_list_0 l its.toArray n b its2.toArray n2 hlong (by rw[List.size_toArray]; omega) (by omega)) ⟨e,e2,?_⟩
 refine⟨.non,_,I.lset (its':=its++its2) hH e (by simp) (r.append r2) ?_,rfl,q⟩
 rw[List.length_append]
 omega
def Gtv:R2:=fun x y H Q=>∃ l b xs zs,x=.ref l/\y=.ref b/\H l=some (.lst xs)/\H b=some (.lst zs)/\xs.length+zs.length<=sizeLine/\∀ p,H p=none->Q (.ref p) (upd H p (.lst (xs++zs)))
theorem Gpo:OpR X (binaryOp .Add) Gtv:=by
 intro pins s σ H x y v u Q I rx ry h
 obtain⟨l,b,xs,zs,rfl,rfl,hH,hB,hz,q⟩:=h
 cases rx
 cases ry
 obtain⟨z,its,n,r,hl,e⟩:=I.lstM hH
 obtain⟨z2,its2,n2,r2,hl2,e2⟩:=I.lstM hB
 refine PySem.P.add_list e e2 ?_ (by rw[List.size_toArray,List.size_toArray]; omega)
 have ea:its.toArray++its2.toArray=(its++its2).toArray:=by simp
 rw[ea]
 exact⟨.ref _,_,I.lnew (t':=s.toks) (r.append r2) (by rw[List.length_append]; omega),rfl,q _ I.fresh⟩
def Gtw:R2:=fun x y H Q=>∃ l k xs,x=.ref l/\y=.int k/\H l=some (.lst xs) /\ -(2^63)<=k/\k<2^63/\xs.length*k.toNat<=sizeLine∧
 ∀ p,H p=none->Q (.ref p) (upd H p (.lst (List.replicate k.toNat xs).flatten))
theorem Gcp{α:Type}(xs:List α)(k:Nat):(List.replicate k xs).flatten.length=k*xs.length:=by
 induction k with
 | zero=>simp
 | succ k ih=>rw[List.replicate_succ,List.flatten_cons,List.length_append,ih,Nat.succ_mul,Nat.add_comm]
theorem Gpp:OpR X (binaryOp .Mult) Gtw:=by
 intro pins s σ H x y v u Q I rx ry h
 obtain⟨l,k,xs,rfl,rfl,hH,h1,h2,hz,q⟩:=h
 cases rx
 obtain⟨t,rfl⟩:=ry
 obtain⟨z,its,n,r,hl,e⟩:=I.lstM hH
 have hlen:its.toArray.size*k.toNat<=sizeLine:=by rw[List.size_toArray,<- hl]; exact hz
 have hcap:¬ its.toArray.size*k.toNat>(2^63-1) / 8:=by
  have:(sizeLine:Nat)<=(2^63-1) / 8:=by decide
  omega
 have hfit:¬ (!Builtin.List.listFitsIndex k)=true:=by
  rw[fitsIndex_both h1 h2]
  exact Bool.false_ne_true
 have hlong:¬ Builtin.List.listTooLong (its.toArray.size*k.toNat)=true:=by
  rw[Gdn hlen]
  exact Bool.false_ne_true
 have hnew:List.foldl (fun x1 x2=>x1++x2) #[] (List.replicate (if its.toArray.isEmpty=true then 0 else k.toNat) its.toArray)=(List.replicate k.toNat its).flatten.toArray:=by
  have f0:∀ m:Nat,List.foldl (fun x1 x2=>x1++x2) #[] (List.replicate m its.toArray)=(List.replicate m its).flatten.toArray:=fun m=>by
   have:=Yp its m []
   rw[List.nil_append] at this
   exact this
  rw[f0]
  cases its with
  | nil=>simp
  | cons a r'=>rw[if_neg (by simp)]
 refine wpAny_binaryOp_repeat_ref (T:="list") (U:="int") (by decide) ⟨_,e,rfl⟩ (fun s'=>typeIs_int s' k t) noFill_list_mul F.fills_int_mul F.slot_int_rmul repeat_list F.slot_int_index.lookup
  (call_meets F.slot_int_rmul (typeIs_int s k t) F.entry_int_rmul (F.args_int_rmul_2 _ _) (int___rmul___int_list k t l its.toArray n)
   ⟨e,rfl,⟨_,e,rfl⟩,call_meets F.slot_list_mul ⟨_,e,rfl⟩ F.entry_list_mul (F.args_list_mul_2 _ _) (AutoListH.list___mul___list_int_3 l its.toArray n k t hfit hcap hlong) ⟨e,?_⟩⟩)
 rw[hnew]
 exact⟨.ref _,_,I.lnew (t':=s.toks) (r.rep k.toNat) (by rw[Gcp,Nat.mul_comm]; exact hz),rfl,q _ I.fresh⟩
end
end L2
namespace Att
open PySem PySem.W PySem.Calls PyProof.Rows
theorem Zp{P:Params}{h:Heap}:∀ (ns:List Int) (vs:List Value),WellAll P h vs (ns.map WData.int)->IntsAre vs ns:=by
 intro ns
 induction ns with
 | nil=>
  intro vs w
  rw[List.map_nil] at w
  cases w
  exact .nil
 | cons n ns ih=>
  intro vs w
  rw[List.map_cons] at w
  cases w with
  | cons a b=>
   cases a
   exact .cons _ _ (ih _ b)
theorem Ggo{l:OpenLaw}{n:Nat}(hn:l.most=some n){P:Params}{h:Heap}{args:List WData}{vals:List Value}
  (hpre:l.row.toRowW.claim.pre args=true) (hwl:WellAll P h vals args):
  ∃ a vs ns,vals=[Value.ref a]/\args=[WData.list (ns.map WData.int)]/\h.get? a=some { cls:=.type "list",data:=.seq vs.toArray }/\IntsAre vs ns/\ns.length<=n:=by
 have hsh:WShape.hasAll [] args [.list .int]=true:=(pre_splitW hpre).1
 have hc:l.pre.holds [] { args:=args }=true:=(pre_splitW hpre).2
 obtain⟨d,r,rfl,h1,h2⟩:=hasAllW_cons hsh
 obtain rfl:=hasAllW_nil h2
 obtain⟨xs,rfl,h3⟩:=hasW_list h1
 obtain⟨ns,rfl⟩:=items_int h3
 have hlen:ns.length<=n:=by
  unfold OpenLaw.pre at hc
  have h4:(WTm.not (.lt (.lit (.int (n:Int))) (.len (.arg 0)))).holds [] { args:=[.list (ns.map .int)] }=true:=by
   have h4:=(holds_andW hc).1
   rw[hn] at h4
   exact h4
  have h5:=condW_of h4 (w_not (w_lt w_lit (w_len_list (w_arg rfl))))
  rw[List.length_map] at h5
  refine Nat.le_of_not_lt fun q=>?_
  have q':(n:Int)<((ns.length:Nat):Int):=by omega
  first
   | (rw[decide_eq_true q'] at h5; exact absurd h5 (by decide))
   | (simp at h5; omega)
 cases hwl with
 | cons w1 w2=>
  cases w2
  cases w1 with
  | list ho hall=>exact⟨_,_,ns,rfl,rfl,ho,Zp ns _ hall,hlen⟩
theorem post_true(l:OpenLaw)(args:List WData):l.row.toRowW.claim.post args (.bool true) args=true:=
 postW_of (r:=l.row.toRowW) (X:=(true==true))
  (show WShape.has [] (.bool true) .bool=true by first | rfl | decide | simp[WShape.has,WShape.arms,WShape.armsAll])
  (show(WTm.eq .res (.lit (.bool true))).value [] { args:=args,res:=some (.bool true),after:=args }=some (.bool (true==true)) from w_eq_bool (w_res rfl) w_lit) rfl
theorem attach_call{l:OpenLaw}{n:Nat}{q:Program}{loose:List Str}{XP:(Str->Option Value)->Heap->Prop}{YP:World->Heap->Prop}{d:DefRec}
  (hn:l.most=some n) (hdf:d.params.defaults=[])
  (call:∀ (w:World) (s₀ s₁:Shared) (mg mb:Str->Option Value) (fa:Addr) (o:Obj) (pm cd doc:Value) (a:Addr) (vs:List Value) (ns:List Int),
   Ground q loose [] XP w s₀ mg mb s₁.heap->YP w s₁.heap→
   s₁.heap.get? fa=some o->o.data=.func (docDef d.name d.params d.body d.scope pm cd doc)->s₁.heap.CodeRec cd d.name->mg d.name=some (.ref fa)→
   s₁.heap.get? a=some { cls:=.type "list",data:=.seq vs.toArray }->IntsAre vs ns->ns.length<=n->s₁.gens=#[]→
   codeAny (model l.prog w) callerA (.call (.ref fa) ⟨[.ref a],[]⟩) (fun r s'=>r=.ok (.ret (.bool true))/\OldK s₁.heap s'.heap/\s'.os=s₁.os/\AllBare s'.gens) s₁):
  WalkO q loose XP YP l.row.toRowW d [] (fun f vs=>PySem.call f vs):=by
 intro w s₀ s₁ mg mb G Y fa o pm cd doc dV kV ho hd hcd hD hmg hg args vals as hpre hlay hrd hwl hlo
 obtain rfl:dV=.none:=Dflts.none hD hdf
 obtain rfl:kV=.none:=Dflts.noKw hD
 obtain⟨a,vs,ns,rfl,rfl,hobj,hints,hlen⟩:=Ggo hn hpre hwl
 refine enter_call (codeAny_mono (call w s₀ s₁ mg mb fa o pm cd doc a vs ns G Y ho (fd_plain hd) hcd hmg hobj hints hlen hg) fun r s' hq=>?_)
 obtain⟨rfl,h2,h3,h4⟩:=hq
 exact⟨.inl ⟨.bool true,.bool true,[],rfl,fun _=>rfl,.bool true,post_true l _,fun _=>⟨List.Pairwise.nil,fun _ hm=>(nomatch hm)⟩⟩,h2,h3,h4⟩
end Att
namespace L2
open PySem PySem.Spec PyProof.Rows
variable{k:Nat}{fd:FuncData}{x qual:Str}{st:Stmt}{f:Addr}
theorem Gb4:∀ {vs:List Value} {ns:List Int},IntsAre vs ns->Vals (ns.map V.int) vs
 | _,_,.nil=>.nil
 | _,_,.cons n t h=>.cons ⟨t,rfl⟩ (Gb4 h)
def Only(H:Hp):Prop:=∀ b,H b=none\/∃ o xs,H b=some (.frz o (.lst xs))
theorem Gh2{P:Program}{w:World}{K:PySem.W.Frag}{mg mb:Str->Option Value}{CX:CXT}{fa a:Addr}{sp:Sp}{s₁:Shared}{vs:List Value}{ns:List Int}(KX:K.In s₁.heap)(hns:s₁.heap.Ns mainGlobals mg)(hb:s₁.heap.Ns builtinsNs mb)(hbb:∀ x:Str,x≠"__name__"->mb x=bootBuiltins x)(hlim:s₁.heap.NoLimit)(hg:s₁.gens=#[])(ha:s₁.heap.get? a=some { cls:=.type "list",data:=.seq vs.toArray })(hi:IntsAre vs ns)(hl:ns.length<=sizeLine)(hr:Room k callerA)(F:∀ base:Heap,K.In base->base.Ns mainGlobals mg->FnOk P w K mg base CX k fa fd [x] sp)(hbind:∀ (s:Shared) (u:Value),BindsTo s fd ⟨[u],[]⟩ [(x,u)])(hsp:∀ H:Hp,Only H->SqL K H a (ns.map V.int)->sp [.ref a] H (fun v _=>v=.bl true) fun _ _ _=>False)(hCX:∀ H e s',CX [] H s₁ (fun _ _ _=>False) e s'->False):
  codeAny (model P w) callerA (.call (.ref fa) ⟨[.ref a],[]⟩) (fun r s'=>r=.ok (.ret (.bool true))/\OldK s₁.heap s'.heap/\s'.os=s₁.os/\AllBare s'.gens) s₁:=by
 have rv:=Gb4 hi
 have lenV:=hi.length
 have core:∀ H:Hp,Only H->SqL K H a (ns.map V.int)->HOk P w H s₁.heap->(∀ b,H b≠none->b=a)->(H a≠none->K.lookup a=none)→
   codeAny (model P w) callerA (.call (.ref fa) ⟨[.ref a],[]⟩) (fun r s'=>r=.ok (.ret (.bool true))/\OldK s₁.heap s'.heap/\s'.os=s₁.os/\AllBare s'.gens) s₁:=by
  intro H hO hS hok hA hK
  have base_of:∀ {b:Addr} {o:Obj},s₁.heap.get? b=some o->H b=none->(Gci s₁.heap H).get? b=some o:=fun e n=>Ghj e n
  have noA:∀ {b:Addr} {o:Obj} {es:Array DictEntry} {ep:Nat},s₁.heap.get? b=some o->o.data=.dict es ep->H b=none:=fun{b o es ep} e d=>by
   cases q:H b with
   | none=>rfl
   | some u=>
    have e':b=a:=hA b (by rw[q]; simp)
    subst e'
    rw[ha] at e; cases e
    have d':Data.seq vs.toArray _=Data.dict es ep:=d
    cases d'
  have nsK:∀ {b:Addr} {m:Str->Option Value},s₁.heap.Ns b m->(Gci s₁.heap H).Ns b m:=fun{b m} ⟨o,es,ep,e,d,r⟩=>⟨o,es,ep,base_of e (noA e d),d,r⟩
  have hKb:K.In (Gci s₁.heap H):=fun b o e=>base_of (KX b o e) (by
   cases q:H b with
   | none=>rfl
   | some u=>
    have e':b=a:=hA b (by rw[q]; simp)
    subst e'
    rw[hK (by rw[q]; simp)] at e; cases e)
  have hM:Mod K mg (Gci s₁.heap H):=⟨hKb,nsK hns,⟨mb,nsK hb,hbb⟩,let ⟨mc,h1,h2⟩:=hlim; ⟨mc,nsK h1,h2⟩⟩
  have e0:Env0 P w K mg (Gci s₁.heap H) callerA [] s₁ H:=⟨rfl,hM,fun b o e=>of_hidT e,Nat.le_of_eq (Ggd _ _),trivial,fun b hb=>absurd (show b∈([]:List Addr) from hb) (by simp),hok,.of_eq hg⟩
  refine codeAny_mono ((F _ hKb (nsK hns)).run callerA [] s₁ H ⟨[.ref a],[]⟩ [.ref a] [.ref a] _ _ hr e0 (hbind s₁ (.ref a)) (.cons rfl .nil) (hsp H hO hS)) fun r s' h=>?_
  cases r with
  | error e=>exact(hCX H e s' h).elim
  | ok fl=>
   cases fl with
   | next=>exact False.elim h
   | brk=>exact False.elim h
   | cont=>exact False.elim h
   | ret u=>
    obtain⟨v,H',os,bare,un,hok',r',q⟩:=h
    have q':v=.bl true:=q
    subst q'
    obtain rfl:u=Value.bool true:=r'
    refine⟨rfl,OldK.of_keep fun b o e=>?_,os,bare⟩
    cases q:H b with
    | none=>exact un.keep b o e q (by intro z; exact absurd (show b∈([]:List Addr) from z) (by simp)) (by simp)
    | some u=>
     rcases hO b with z | ⟨ob,xs,z⟩
     ·rw[q] at z; cases z
     ·have z2:=un.frzs b ob _ z
      obtain⟨e1,_⟩:=hok b _ z
      obtain⟨e2,_⟩:=hok' b _ z2
      rw[e] at e1; cases e1
      exact e2
 cases hk:K.lookup a with
 | some o=>
  have e:=KX a o hk
  rw[ha] at e
  cases e
  refine core (fun _=>none) (fun _=>.inl rfl) (.inr ⟨_,vs.toArray,_,hk,rfl,rfl,rfl,by rw[List.size_toArray,lenV]; exact hl,by simpa using rv⟩) (fun b u z=>by have z':(none:Option HO)=some u:=z; cases z') (fun b z=>absurd rfl z) fun z=>absurd rfl z
 | none=>
  refine core (fun b=>if b=a then some (.frz { cls:=.type "list",data:=.seq vs.toArray } (.lst (ns.map V.int))) else none) (fun b=>?_) (.inl (.inr ⟨{ cls:=.type "list",data:=.seq vs.toArray },if_pos rfl⟩)) (fun b u z=>?_) (fun b z=>?_) fun _=>hk
  ·by_cases hb:b=a
   ·exact .inr ⟨_,_,if_pos hb⟩
   ·exact .inl (if_neg hb)
  ·by_cases hb:b=a
   ·have z':=(if_pos hb).symm.trans z
    cases z'
    subst hb
    exact⟨ha,by rw[List.length_map]; exact hl,vs,_,rv,ha⟩
   ·have z':=(if_neg hb).symm.trans z
    cases z'
  ·by_cases hb:b=a
   ·exact hb
   ·exact absurd (if_neg hb) z
theorem Gk5{l:PySem.W.OpenLaw}{n:Nat}{q:Program}{loose:List Str}{XP:(Str->Option Value)->Heap->Prop}{YP:World->Heap->Prop}{d:DefRec}{K:Params->PySem.W.Frag}{CX:World->CXT}{sp:World->Sp}(hn:l.most=some n)(hn2:n<=sizeLine)(hdf:d.params.defaults=[])(hr:Room k callerA)(hY:∀ (w:World) (h:Heap),YP w h->(K w.params).In h)(F:∀ (w:World) (mg:Str->Option Value) (fa:Addr) (h:Heap),(K w.params).In h->h.Ns mainGlobals mg->mg d.name=some (.ref fa)→
   ∃ fd:FuncData,(∀ (s:Shared) (u:Value),BindsTo s fd ⟨[u],[]⟩ [(x,u)])∧
    ∀ base:Heap,(K w.params).In base->base.Ns mainGlobals mg->FnOk l.prog w (K w.params) mg base (CX w) k fa fd [x] (sp w))(hsp:∀ (w:World) (H:Hp) (a:Addr) (ns:List Int),ns.length<=n->Only H->SqL (K w.params) H a (ns.map V.int)->sp w [.ref a] H (fun v _=>v=.bl true) fun _ _ _=>False)(hCX:∀ (w:World) (H:Hp) (s:Shared) (e:Value) (s':Shared),CX w [] H s (fun _ _ _=>False) e s'->False):
  PySem.W.WalkO q loose XP YP l.row.toRowW d [] (fun f vs=>PySem.call f vs):=by
 refine Att.attach_call hn hdf fun w s₀ s₁ mg mb fa o pm cd doc a vs ns G Y ho hd hcd hmg hobj hints hlen hg=>?_
 have KX:=hY w _ Y
 obtain⟨fd,hb,hF⟩:=F w mg fa _ KX G.T.g hmg
 exact Gh2 KX G.T.g G.T.b G.T.builtins G.T.nolimit hg hobj hints (Nat.le_trans hlen hn2) hr hF hb (fun H hO hS=>hsp w H a ns hlen hO hS) fun H e s'=>hCX w H s₁ e s'
theorem Gh3{l:PySem.W.OpenLaw}{n:Nat}{q:Program}{loose:List Str}{XP:(Str->Option Value)->Heap->Prop}{YP:World->Heap->Prop}{d:DefRec}{K:Params->PySem.W.Frag}{CX:CXT}{sp:PySem.W.Frag->Sp}(hn:l.most=some n)(hn2:n<=sizeLine)(hdf:d.params.defaults=[])(hr:Room k callerA)(hY:∀ (w:World) (h:Heap),YP w h->(K w.params).In h)(F:∀ (w:World) (mg:Str->Option Value) (fa:Addr) (h:Heap),(K w.params).In h->h.Ns mainGlobals mg->mg d.name=some (.ref fa)→
   ∃ fd:FuncData,(∀ (s:Shared) (u:Value),BindsTo s fd ⟨[u],[]⟩ [(x,u)])∧
    ∀ base:Heap,(K w.params).In base->base.Ns mainGlobals mg->FnOk l.prog w (K w.params) mg base CX k fa fd [x] (sp (K w.params)))(hsp:∀ (K:PySem.W.Frag) (H:Hp) (a:Addr) (ns:List Int),ns.length<=n->Only H->SqL K H a (ns.map V.int)->sp K [.ref a] H (fun v _=>v=.bl true) fun _ _ _=>False)(hCX:∀ (H:Hp) (s:Shared) (e:Value) (s':Shared),CX [] H s (fun _ _ _=>False) e s'->False):
  PySem.W.WalkO q loose XP YP l.row.toRowW d [] (fun f vs=>PySem.call f vs):=
 Gk5 (K:=K) (CX:=fun _=>CX) (sp:=fun w=>sp (K w.params)) hn hn2 hdf hr hY F (fun w H a ns h1 h2 h3=>hsp (K w.params) H a ns h1 h2 h3) fun _ H s e s'=>hCX H s e s'
def Hx(s:Stmt):Arguments:=match s with
 | .FunctionDef _ a _ _ _ _ _ _ _ _=>a
 | _=>{ posonlyargs:=[],args:=[],vararg:=none,kwonlyargs:=[],kw_defaults:=[],kwarg:=none,defaults:=[] }
def Gx(s:Stmt):List Stmt:=match s with
 | .FunctionDef _ _ b _ _ _ _ _ _ _=>b
 | _=>[]
def Ge(s:Stmt):Scope:=match s with
 | .FunctionDef _ _ _ _ _ _ sc _ _ _=>sc
 | _=>{ kind:=.function,names:=[],isGenerator:=false,isCoroutine:=false }
abbrev CX0:CXT:=fun _ _ _ _ _ _=>False
abbrev E0:XK:=fun _ _ _=>False
theorem Gtx{X:Cx}:Passes CX0 X E0:=fun _ _ _ _ _ _ _ h=>h.elim
structure Fun(K:PySem.W.Frag)(x qual:Str)(st:Stmt)(f:Addr)(fd:FuncData):Prop where
 ex:∃ (oc:Value) (od:Option Addr) (kV doc pm:Value) (an:Option Addr) (cdv ct:Value) (osl:Array (Option Value)),
  fd=PySem.W.fnOf x qual (Hx st) (Gx st) (Ge st) .none kV doc pm an cdv ct/\K.lookup f=some ⟨oc,od,.func fd,osl⟩/\PySem.W.codeIn K cdv qual=true
 kp:PySem.W.keepIn K (.ref f)=true
section
variable{P:Program}{w:World}{K:PySem.W.Frag}{mg:Str->Option Value}{base:Heap}
theorem Fun.ok{N ps:List Str}{sp:Sp}(F:Fun K x qual st f fd)(S:FnScope N ps (Ge st))(len:∀ vs H Q E,sp vs H Q E->vs.length=ps.length)(hbody:∀ (cdv:Value) (A:Around) (outer:List Env) (s:Shared) (H:Hp) (vs:List V) (Q:VK) (E:XK),Room k (A.deeper (envOfC qual (Ge st) s.heap.objs.size f cdv))->sp vs H Q E→
   ∃ t,PSs (Ko CX0 P w K mg base N qual (Ge st) f cdv A outer s H E).nox (Gx st) t/\t { nx:=fun _ H'=>Q .non H',rt:=Q } (start N vs) H):FnOk P w K mg base CX0 (k+1) f fd ps sp:=by
 obtain⟨oc,od,kV,doc,pm,an,cdv,ct,osl,rfl,lk,hcd⟩:=F.ex
 refine Gnt lk hcd S len fun A outer s H vs Q E hr hsp=>?_
 obtain⟨t,h,q⟩:=hbody cdv A outer s H vs Q E hr hsp
 exact⟨t,h.nox,q⟩
theorem Fun.binds{ps:List Str}(F:Fun K x qual st f fd)(h:∀ (kV doc pm:Value) (an:Option Addr) (cdv ct:Value) (us:List Value),us.length=ps.length->bindArgs (PySem.W.fnOf x qual (Hx st) (Gx st) (Ge st) .none kV doc pm an cdv ct) ⟨us,[]⟩=pure (ps.zip us)):Binds K fd ps []:=by
 obtain⟨oc,od,kV,doc,pm,an,cdv,ct,osl,rfl,lk,hcd⟩:=F.ex
 exact .all (h kV doc pm an cdv ct)
theorem Gac{oc:Value}{od an:Option Addr}{osl:Array (Option Value)}{kV doc pm cdv ct:Value}(l:K.lookup f=some ⟨oc,od,.func (PySem.W.fnOf x qual (Hx st) (Gx st) (Ge st) .none kV doc pm an cdv ct),osl⟩)(c:PySem.W.codeIn K cdv qual=true)(k:PySem.W.keepIn K (.ref f)=true):Fun K x qual st f (PySem.W.fnOf x qual (Hx st) (Gx st) (Ge st) .none kV doc pm an cdv ct):=⟨⟨oc,od,kV,doc,pm,an,cdv,ct,osl,rfl,l,c⟩,k⟩
end
end L2
namespace DL
open PySem PySem.Spec PyProof.Rows L2
inductive D where
 | non | bl (b:Bool) | int (i:Int) | str (x:Str) | tup (l:List D) | lst (i:Nat) | exn (c:Str) (n:Option Int) | fv (x:Str)
structure Cell where
 fz:Bool
 xs:List D
abbrev Sto:=List Cell
abbrev Lc:=List (Option D)
structure XD where
 cls:Str
 fld:Option Int
inductive Out(α:Type) where
 | ok (a:α) (S:Sto)
 | exc (x:XD) (S:Sto)
 | bad
def Out.bind{α β:Type}(o:Out α)(g:α->Sto->Out β):Out β:=
 match o with
 | .ok a S=>g a S
 | .exc x S=>.exc x S
 | .bad=>.bad
structure XCl(K:PySem.W.Frag)(c:Addr):Prop where
 ga:PySem.W.findIn K (.ref c) "__getattribute__"=some (some (.builtin "BaseException.__getattribute__"))
 gt:PySem.W.findIn K (.ref c) "__getattr__"=some none
 cl:PySem.W.findIn K (.ref c) "__class__"=some (some (.builtin "object.__class__"))
 cd:(PySem.W.clsIn K c).isSome=true
 ob:PySem.W.mroIn K c (.type "object")=some true
 be:PySem.W.subIn K (.ref c) (.type "BaseException")=some true
 bt:∀ T∈["bool","int","str","tuple","list"],PySem.W.kitOne K (.ref c) (.type T)=some false
def CN(K:PySem.W.Frag)(y:Str)(c:Addr):Prop:=PySem.W.nsIn K mainGlobals y=some (some (.ref c))
theorem CN.one{K:PySem.W.Frag}{y:Str}{c d:Addr}(h:CN K y c)(g:CN K y d):c=d:=Value.ref.inj (Option.some.inj (Option.some.inj (h.symm.trans g)))
def XO(a c:Addr)(dx:Option Addr):HO:=.ext fun h=>∃ oe,h.get? a=some oe/\oe.cls=.ref c/\oe.dict=dx/\∃ vs,oe.data=.fields vs
def XA(d:Addr)(n:Int):HO:=.ext fun h=>∃ t,h.Ns d fun y=>if y="at" then some (.int n t) else none
mutual
def Rep(K:PySem.W.Frag)(mp:List Addr)(H:Hp):D->V->Prop
 | .non,v=>v=.non
 | .bl b,v=>v=.bl b
 | .int i,v=>v=.int i
 | .str x,v=>v=.str x
 | .tup l,v=>∃ a xs,v=.ref a/\SqT K H a xs/\RepL K mp H l xs
 | .lst i,v=>∃ a,v=.ref a/\mp[i]?=some a
 | .exn c n,v=>∃ a dx p,v=.ref a/\(CN K c p/\XCl K p/\H a=some (XO a p dx))/\∀ i,n=some i->∃ d,dx=some d/\H d=some (XA d i)
 | .fv x,v=>∃ a,v=.ref a/\CN K x a
def RepL(K:PySem.W.Frag)(mp:List Addr)(H:Hp):List D->List V->Prop
 | [],vs=>vs=[]
 | d::l,vs=>∃ v r,vs=v::r/\Rep K mp H d v/\RepL K mp H l r
end
structure Aft(K:PySem.W.Frag)(mp:List Addr)(H:Hp)(mp':List Addr)(H':Hp):Prop where
 pre:∀ (i:Nat) (a:Addr),mp[i]?=some a->mp'[i]?=some a
 tup:∀ a xs,SqT K H a xs->SqT K H' a xs
 ext:∀ a φ,H a=some (.ext φ)->H' a=some (.ext φ)
theorem Aft.refl{K:PySem.W.Frag}{mp:List Addr}{H:Hp}:Aft K mp H mp H:=⟨fun _ _ h=>h,fun _ _ h=>h,fun _ _ h=>h⟩
theorem Aft.trans{K:PySem.W.Frag}{mp mp1 mp2:List Addr}{H H1 H2:Hp}(a:Aft K mp H mp1 H1)(b:Aft K mp1 H1 mp2 H2):Aft K mp H mp2 H2:=
 ⟨fun i x h=>b.pre i x (a.pre i x h),fun x xs h=>b.tup x xs (a.tup x xs h),fun x f h=>b.ext x f (a.ext x f h)⟩
mutual
theorem Rep.aft{K:PySem.W.Frag}{mp mp':List Addr}{H H':Hp}(a:Aft K mp H mp' H'):∀ (d:D) (v:V),Rep K mp H d v->Rep K mp' H' d v
 | .non,v,h=>h
 | .bl _,v,h=>h
 | .int _,v,h=>h
 | .str _,v,h=>h
 | .tup l,v,h=>by
  obtain⟨p,xs,e,s,r⟩:=(show ∃ a xs,v=.ref a/\SqT K H a xs/\RepL K mp H l xs from h)
  exact⟨p,xs,e,a.tup _ _ s,RepL.aft a l xs r⟩
 | .lst i,v,h=>by
  obtain⟨p,e,s⟩:=(show ∃ a,v=.ref a/\mp[i]?=some a from h)
  exact⟨p,e,a.pre _ _ s⟩
 | .exn c n,v,h=>by
  obtain⟨p,dx,q,e,⟨s0,s1,s⟩,r⟩:=(show ∃ a dx p,v=.ref a/\(CN K c p/\XCl K p/\H a=some (XO a p dx))/\∀ i,n=some i->∃ d,dx=some d/\H d=some (XA d i) from h)
  exact⟨p,dx,q,e,⟨s0,s1,a.ext _ _ s⟩,fun i z=>let ⟨d,z1,z2⟩:=r i z; ⟨d,z1,a.ext _ _ z2⟩⟩
 | .fv x,v,h=>h
theorem RepL.aft{K:PySem.W.Frag}{mp mp':List Addr}{H H':Hp}(a:Aft K mp H mp' H'):∀ (l:List D) (vs:List V),RepL K mp H l vs->RepL K mp' H' l vs
 | [],vs,h=>h
 | d::l,vs,h=>by
  obtain⟨v,r,e,h1,h2⟩:=(show ∃ v r,vs=v::r/\Rep K mp H d v/\RepL K mp H l r from h)
  exact⟨v,r,e,Rep.aft a d v h1,RepL.aft a l r h2⟩
end
section
variable{K:PySem.W.Frag}{mp:List Addr}{H:Hp}
theorem RepL.nil:RepL K mp H [] []:=rfl
theorem RepL.cons{d:D}{v:V}{l:List D}{r:List V}(h:Rep K mp H d v)(t:RepL K mp H l r):RepL K mp H (d::l) (v::r):=⟨v,r,rfl,h,t⟩
theorem RepL.len:∀ {l:List D} {vs:List V},RepL K mp H l vs->vs.length=l.length
 | [],vs,h=>by cases (show vs=[] from h); rfl
 | d::l,vs,h=>by
  obtain⟨v,r,e,h1,h2⟩:=h
  subst e
  simp[RepL.len h2]
theorem RepL.get:∀ {l:List D} {vs:List V} {i:Nat} {d:D},RepL K mp H l vs->l[i]?=some d->∃ v,vs[i]?=some v/\Rep K mp H d v
 | [],_,_,_,_,e=>by simp at e
 | d::l,vs,0,_,h,e=>by
  obtain⟨v,r,q,h1,h2⟩:=h
  subst q
  simp at e
  subst e
  exact⟨v,rfl,h1⟩
 | d::l,vs,i+1,x,h,e=>by
  obtain⟨v,r,q,h1,h2⟩:=h
  subst q
  obtain⟨v',a,b⟩:=RepL.get (i:=i) (d:=x) h2 (by simpa using e)
  exact⟨v',by simpa using a,b⟩
theorem RepL.append:∀ {l m:List D} {vs ws:List V},RepL K mp H l vs->RepL K mp H m ws->RepL K mp H (l++m) (vs++ws)
 | [],m,vs,ws,h,g=>by cases (show vs=[] from h); exact g
 | d::l,m,vs,ws,h,g=>by
  obtain⟨v,r,q,h1,h2⟩:=h
  subst q
  exact⟨v,r++ws,rfl,h1,RepL.append h2 g⟩
theorem RepL.take:∀ {l:List D} {vs:List V} (n:Nat),RepL K mp H l vs->RepL K mp H (l.take n) (vs.take n)
 | [],vs,n,h=>by cases (show vs=[] from h); simp; exact RepL.nil
 | d::l,vs,0,h=>by simp; exact RepL.nil
 | d::l,vs,n+1,h=>by
  obtain⟨v,r,q,h1,h2⟩:=h
  subst q
  simpa using RepL.cons h1 (RepL.take n h2)
theorem RepL.drop:∀ {l:List D} {vs:List V} (n:Nat),RepL K mp H l vs->RepL K mp H (l.drop n) (vs.drop n)
 | [],vs,n,h=>by cases (show vs=[] from h); simp; exact RepL.nil
 | d::l,vs,0,h=>by simpa using h
 | d::l,vs,n+1,h=>by
  obtain⟨v,r,q,h1,h2⟩:=h
  subst q
  simpa using RepL.drop n h2
theorem RepL.set:∀ {l:List D} {vs:List V} {d:D} {v:V} (n:Nat),RepL K mp H l vs->Rep K mp H d v->RepL K mp H (l.set n d) (vs.set n v)
 | [],vs,d,v,n,h,g=>by cases (show vs=[] from h); simp; exact RepL.nil
 | x::l,vs,d,v,0,h,g=>by
  obtain⟨v',r,q,h1,h2⟩:=h
  subst q
  simpa using RepL.cons g h2
 | x::l,vs,d,v,n+1,h,g=>by
  obtain⟨v',r,q,h1,h2⟩:=h
  subst q
  simpa using RepL.cons h1 (RepL.set n h2 g)
end
def SqF(K:PySem.W.Frag)(H:Hp)(a:Addr)(xs:List V):Prop:=
 (∃ o,H a=some (.frz o (.lst xs)))∨
  ∃ (o:Obj) (its:Array Value) (n:Nat),K.lookup a=some o/\o.cls=.type "list"/\o.dict=none/\o.data=.seq its n/\its.size<=sizeLine/\Vals xs its.toList
theorem SqF.sq{K:PySem.W.Frag}{H:Hp}{a:Addr}{xs:List V}(h:SqF K H a xs):SqL K H a xs:=by
 rcases h with h | h
 ·exact .inl (.inr h)
 ·exact .inr h
def Gcq(K:PySem.W.Frag)(mp:List Addr)(H:Hp)(a:Addr)(c:Cell):Prop:=
 ∃ xs,RepL K mp H c.xs xs/\(if c.fz=true then SqF K H a xs else H a=some (.lst xs))
structure RS(K:PySem.W.Frag)(mp:List Addr)(H:Hp)(S:Sto):Prop where
 len:mp.length=S.length
 cell:∀ (i:Nat) (a:Addr) (c:Cell),mp[i]?=some a->S[i]?=some c->Gcq K mp H a c
 inj:∀ (i j:Nat) (a:Addr) (ci cj:Cell),mp[i]?=some a->mp[j]?=some a->S[i]?=some ci->S[j]?=some cj->ci.fz=false->cj.fz=false->i=j
structure Gd(K:PySem.W.Frag)(mp:List Addr)(H:Hp)(σ:L2.St)(ρ:Lc)(S:Sto):Prop where
 rs:RS K mp H S
 len:σ.length=ρ.length
 loc:∀ (i:Nat) (d:D),ρ[i]?=some (some d)->∃ v,σ[i]?=some (some v)/\Rep K mp H d v
theorem Gd.aft{K:PySem.W.Frag}{mp mp':List Addr}{H H':Hp}{σ:L2.St}{ρ:Lc}{S S':Sto}(g:Gd K mp H σ ρ S)(a:Aft K mp H mp' H')(r:RS K mp' H' S'):Gd K mp' H' σ ρ S':=
 ⟨r,g.len,fun i d h=>let ⟨v,e,q⟩:=g.loc i d h; ⟨v,e,q.aft a⟩⟩
abbrev XW:=XD->List Addr->Hp->L2.St->Lc->Sto->Prop
abbrev RL(α β:Type):=List Addr->Hp->α->β->Prop
def Gk{α β:Type}(K:PySem.W.Frag)(R:RL α β)(XQ:XW)(σ:L2.St)(ρ:Lc)(mp:List Addr)(H:Hp)(o:Out α)(Q:β->Hp->Prop):Prop:=
 match o with
 | .ok d S=>∀ mp' H' v,Aft K mp H mp' H'->RS K mp' H' S->R mp' H' d v->Q v H'
 | .exc x S=>∀ mp' H',Aft K mp H mp' H'->Gd K mp' H' σ ρ S->XQ x mp' H' σ ρ S
 | .bad=>False
theorem Gk.aft{α β:Type}{K:PySem.W.Frag}{R:RL α β}{XQ:XW}{σ:L2.St}{ρ:Lc}{mp mp':List Addr}{H H':Hp}{o:Out α}{Q:β->Hp->Prop}(p:Gk K R XQ σ ρ mp H o Q)(a:Aft K mp H mp' H'):Gk K R XQ σ ρ mp' H' o Q:=by
 cases o with
 | ok d S=>exact fun m h v b=>p m h v (a.trans b)
 | exc x S=>exact fun m h b=>p m h (a.trans b)
 | bad=>exact p
theorem Gk.ok{α β:Type}{K:PySem.W.Frag}{R:RL α β}{XQ:XW}{σ:L2.St}{ρ:Lc}{mp:List Addr}{H:Hp}{d:α}{S:Sto}{v:β}{Q:β->Hp->Prop}(p:Gk K R XQ σ ρ mp H (.ok d S) Q)(r:RS K mp H S)(h:R mp H d v):Q v H:=p mp H v .refl r h
abbrev Post(K:PySem.W.Frag)(XQ:XW):=Gk (β:=V) K (Rep K) XQ
abbrev Ev(α:Type):=Lc->Sto->Out α
def rdG{α β:Type}(K:PySem.W.Frag)(R:RL α β)(XQ:XW)(f:Ev α):L2.St->Hp->(β->Hp->Prop)->Prop:=fun σ H Q=>∃ mp ρ S,Gd K mp H σ ρ S/\Gk K R XQ σ ρ mp H (f ρ S) Q
def kB:RL Bool Bool:=fun _ _ a b=>b=a
def kO:RL (Option Int) (Option Int):=fun _ _ a b=>b=a
abbrev rdE(K:PySem.W.Frag)(XQ:XW)(f:Ev D):TE:=rdG K (Rep K) XQ f
abbrev rdA(K:PySem.W.Frag)(XQ:XW)(f:Ev (List D)):TA:=rdG K (RepL K) XQ f
abbrev rdT(K:PySem.W.Frag)(XQ:XW)(f:Ev Bool):TT:=rdG K kB XQ f
abbrev rdO(K:PySem.W.Frag)(XQ:XW)(f:Ev (Option Int)):TO:=rdG K kO XQ f
def JE(X:Cx)(XQ:XW)(e:Expr)(f:Ev D):Prop:=PE X e (rdE X.K XQ f)
def JA(X:Cx)(XQ:XW)(es:List Expr)(f:Ev (List D)):Prop:=PA X es (rdA X.K XQ f)
def JT(X:Cx)(XQ:XW)(e:Expr)(f:Ev Bool):Prop:=PT X e (rdT X.K XQ f)
def JW(X:Cx)(XQ:XW)(e:Expr)(f:Ev Bool):Prop:=PW X e (rdT X.K XQ f)
def JO(X:Cx)(XQ:XW)(e:Option Expr)(f:Ev (Option Int)):Prop:=PO X e (rdO X.K XQ f)
theorem PE.mono{X:Cx}{e:Expr}{t t':TE}(h:PE X e t)(m:∀ σ H Q,t' σ H Q->t σ H Q):PE X e t':=fun pins s σ H Q I q=>h pins s σ H Q I (m σ H Q q)
theorem PT.mono{X:Cx}{e:Expr}{t t':TT}(h:PT X e t)(m:∀ σ H Q,t' σ H Q->t σ H Q):PT X e t':=fun pins s σ H Q I q=>h pins s σ H Q I (m σ H Q q)
theorem PW.mono{X:Cx}{e:Expr}{t t':TT}(h:PW X e t)(m:∀ σ H Q,t' σ H Q->t σ H Q):PW X e t':=fun wh pins s σ H Q I q=>h wh pins s σ H Q I (m σ H Q q)
theorem PO.mono{X:Cx}{e:Option Expr}{t t':TO}(h:PO X e t)(m:∀ σ H Q,t' σ H Q->t σ H Q):PO X e t':=fun pins s σ H Q I q=>h pins s σ H Q I (m σ H Q q)
theorem PA.mono{X:Cx}{e:List Expr}{t t':TA}(h:PA X e t)(m:∀ σ H Q,t' σ H Q->t σ H Q):PA X e t':=fun pos pins s σ H Q I q=>h pos pins s σ H Q I (m σ H Q q)
theorem PS.mono{X:Cx}{e:Stmt}{t t':TS}(h:PS X e t)(m:∀ D σ H,t' D σ H->t D σ H):PS X e t':=fun pins s σ H D I q=>h pins s σ H D I (m D σ H q)
theorem PSs.mono{X:Cx}{e:List Stmt}{t t':TS}(h:PSs X e t)(m:∀ D σ H,t' D σ H->t D σ H):PSs X e t':=fun pins s σ H D I q=>h pins s σ H D I (m D σ H q)
theorem bindP{α β γ δ:Type}{K:PySem.W.Frag}{R:RL α β}{R':RL γ δ}{XQ:XW}{mp:List Addr}{H:Hp}{σ:L2.St}{ρ:Lc}{S:Sto}{f:Ev α}{g:α->Sto->Out γ}{Q:δ->Hp->Prop}{Q1:β->Hp->Prop}(G:Gd K mp H σ ρ S)(p:Gk K R' XQ σ ρ mp H ((f ρ S).bind g) Q)
  (k:∀ mp1 H1 d S1 v,Aft K mp H mp1 H1->Gd K mp1 H1 σ ρ S1->R mp1 H1 d v->Gk K R' XQ σ ρ mp1 H1 (g d S1) Q->Q1 v H1):rdG K R XQ f σ H Q1:=by
 refine⟨mp,ρ,S,G,?_⟩
 cases e:f ρ S with
 | ok d S1=>
  rw[e] at p
  exact fun mp1 H1 v a rs r=>k mp1 H1 d S1 v a (G.aft a rs) r (Gk.aft p a)
 | exc x S1=>rw[e] at p; exact p
 | bad=>rw[e] at p; exact p
def vr(i:Nat):Ev D:=fun ρ S=>match ρ[i]? with
 | some (some d)=>.ok d S
 | _=>.bad
def cn(d:D):Ev D:=fun _ S=>.ok d S
section
variable{X:Cx}{XQ:XW}
theorem Gh4(i:Nat){x:Str}{pos:Pos}(hN:X.N[i]?=some x:=by rfl)(hv:Vis X.env.scope x:=by first | exact Or.inl rfl | exact Or.inr (Or.inl rfl) | exact Or.inr (Or.inr rfl))(hd:(x==("__debug__":Str))=false:=by decide)
  (hcd:(x==("__classdict__":Str))=false:=by decide):JE X XQ (.Name x pos) (vr i):=by
 refine PE.mono (Yn hN hv hd hcd) fun σ H Q ⟨mp,ρ,S,G,p⟩=>?_
 unfold vr at p
 cases e:ρ[i]? with
 | none=>rw[e] at p; exact p.elim
 | some o=>
  rw[e] at p
  cases o with
  | none=>exact p.elim
  | some d=>
   obtain⟨v,h1,h2⟩:=G.loc i d e
   exact⟨v,h1,Gk.ok p G.rs h2⟩
theorem Wl{e:Expr}{d:D}{v:V}(h:PE X e (tC v))(r:∀ mp H,Rep X.K mp H d v):JE X XQ e (cn d):=
 PE.mono h fun σ H Q ⟨mp,ρ,S,G,p⟩=>Gk.ok p G.rs (r mp H)
theorem Gpq{i:Int}{j pos}:JE X XQ (.Constant (.int i) j pos) (cn (.int i)):=Wl Gon fun _ _=>rfl
theorem Gty{b:Bool}{j pos}:JE X XQ (.Constant (.bool b) j pos) (cn (.bl b)):=Wl Gs8 fun _ _=>rfl
theorem Gpr{j pos}:JE X XQ (.Constant .none j pos) (cn .non):=Wl Goo fun _ _=>rfl
theorem Gps{x:Str}{j pos}:JE X XQ (.Constant (.str x) j pos) (cn (.str x)):=Wl Ghk fun _ _=>rfl
def an:Ev (List D):=fun _ S=>.ok [] S
def ac(f:Ev D)(g:Ev (List D)):Ev (List D):=fun ρ S=>(f ρ S).bind fun x S1=>(g ρ S1).bind fun xs S2=>.ok (x::xs) S2
theorem Gpt:JA X XQ [] an:=PA.mono pa_nil fun σ H Q ⟨mp,ρ,S,G,p⟩=>Gk.ok p G.rs RepL.nil
theorem Gk6{e:Expr}{es:List Expr}{f:Ev D}{g:Ev (List D)}(ha:JE X XQ e f)(hr:JA X XQ es g)(hs:starEach (e::es) X.env=(false,eval e X.env)::starEach es X.env:=by rfl):JA X XQ (e::es) (ac f g):=by
 refine PA.mono (Kc ha hr hs) fun σ H Q ⟨mp,ρ,S,G,p⟩=>?_
 refine bindP G p fun mp1 H1 x S1 v a1 G1 r1 p1=>?_
 refine bindP G1 p1 fun mp2 H2 xs S2 vs a2 G2 r2 p2=>?_
 exact Gk.ok p2 G2.rs (RepL.cons (Rep.aft a2 _ _ r1) r2)
theorem Ql{K:PySem.W.Frag}{mp:List Addr}{H:Hp}{p:Addr}{o:HO}(h:H p=none):Aft K mp H mp (upd H p o):=by
 refine⟨fun _ _ e=>e,fun a xs s=>?_,fun a φ s=>by rw[Gr (Hv s h)]; exact s⟩
 rcases s with(s | ⟨ob,s⟩) | s
 ·exact .inl (.inl (by rw[Gr (Hv s h)]; exact s))
 ·exact .inl (.inr ⟨ob,by rw[Gr (Hv s h)]; exact s⟩)
 ·exact .inr s
theorem Gk7{K:PySem.W.Frag}{H:Hp}{p a:Addr}{o:HO}{xs:List V}(h:H p=none)(s:SqF K H a xs):SqF K (upd H p o) a xs:=by
 rcases s with⟨ob,s⟩ | s
 ·exact .inl ⟨ob,by rw[Gr (Hv s h)]; exact s⟩
 ·exact .inr s
theorem Gcq.new{K:PySem.W.Frag}{mp mp':List Addr}{H:Hp}{p a:Addr}{o:HO}{c:Cell}(h:H p=none)(af:Aft K mp H mp' (upd H p o))(q:Gcq K mp H a c):Gcq K mp' (upd H p o) a c:=by
 obtain⟨xs,r,e⟩:=q
 refine⟨xs,RepL.aft af _ _ r,?_⟩
 cases z:c.fz with
 | true=>rw[z] at e; exact(if_pos rfl).mpr (Gk7 h ((if_pos rfl).mp e))
 | false=>
  rw[z,if_neg Bool.false_ne_true] at e
  rw[if_neg Bool.false_ne_true,Gr (Hv e h)]
  exact e
theorem RS.new{K:PySem.W.Frag}{mp:List Addr}{H:Hp}{S:Sto}{p:Addr}{o:HO}(r:RS K mp H S)(h:H p=none):RS K mp (upd H p o) S:=
 ⟨r.len,fun i a c e1 e2=>(r.cell i a c e1 e2).new h (Ql h),r.inj⟩
theorem RS.newL{K:PySem.W.Frag}{mp:List Addr}{H:Hp}{S:Sto}{p:Addr}{ds:List D}{vs:List V}(r:RS K mp H S)(h:H p=none)(q:RepL K mp H ds vs):
  Aft K mp H (mp++[p]) (upd H p (.lst vs))/\RS K (mp++[p]) (upd H p (.lst vs)) (S++[⟨false,ds⟩])/\(mp++[p])[S.length]?=some p:=by
 have af:Aft K mp H (mp++[p]) (upd H p (.lst vs)):=⟨fun i a e=>by rw[List.getElem?_append_left (List.getElem?_eq_some_iff.mp e).1]; exact e,(Ql (mp:=mp) h).tup,(Ql (K:=K) (mp:=mp) h).ext⟩
 have hl:=r.len
 have lastp:(mp++[p])[S.length]?=some p:=by rw[<- hl]; simp
 refine⟨af,⟨by simp[hl],fun i a c e1 e2=>?_,fun i j a ci cj e1 e2 e3 e4 f1 f2=>?_⟩,lastp⟩
 ·by_cases hi:i<S.length
  ·rw[List.getElem?_append_left (by omega)] at e1
   rw[List.getElem?_append_left hi] at e2
   exact(r.cell i a c e1 e2).new h af
  ·have hi':i=S.length:=by
    have:=(List.getElem?_eq_some_iff.mp e2).1
    simp at this
    omega
   subst hi'
   rw[lastp] at e1
   cases e1
   simp at e2
   subst e2
   exact⟨vs,RepL.aft af _ _ q,by simp[Hu]⟩
 ·have old:∀ (i:Nat) (a:Addr) (c:Cell),i<S.length->(mp++[p])[i]?=some a->(S++[⟨false,ds⟩])[i]?=some c->c.fz=false->mp[i]?=some a/\S[i]?=some c/\a≠p:=fun i a c hi e1 e2 f=>by
   rw[List.getElem?_append_left (by omega)] at e1
   rw[List.getElem?_append_left hi] at e2
   refine⟨e1,e2,?_⟩
   obtain⟨xs,_,e⟩:=r.cell i a c e1 e2
   rw[f,if_neg Bool.false_ne_true] at e
   exact Hv e h
  have hi:=(List.getElem?_eq_some_iff.mp e3).1
  have hj:=(List.getElem?_eq_some_iff.mp e4).1
  simp at hi hj
  by_cases hi':i<S.length
  ·obtain⟨o1,o2,o3⟩:=old i a ci hi' e1 e3 f1
   by_cases hj':j<S.length
   ·obtain⟨u1,u2,u3⟩:=old j a cj hj' e2 e4 f2
    exact r.inj i j a ci cj o1 u1 o2 u2 f1 f2
   ·have:j=S.length:=by omega
    subst this
    rw[lastp] at e2
    cases e2
    exact absurd rfl o3
  ·have:i=S.length:=by omega
   subst this
   rw[lastp] at e1
   cases e1
   by_cases hj':j<S.length
   ·obtain⟨u1,u2,u3⟩:=old j _ cj hj' e2 e4 f2
    exact absurd rfl u3
   ·omega
theorem RS.setL{K:PySem.W.Frag}{mp:List Addr}{H:Hp}{S:Sto}{i:Nat}{a:Addr}{c:Cell}{xs vs:List V}{ds:List D}(r:RS K mp H S)(hi:mp[i]?=some a)(hc:S[i]?=some c)(hf:c.fz=false)(ha:H a=some (.lst xs))(q:RepL K mp H ds vs):
  Aft K mp H mp (upd H a (.lst vs))/\RS K mp (upd H a (.lst vs)) (S.set i ⟨false,ds⟩):=by
 have af:Aft K mp H mp (upd H a (.lst vs)):=by
  refine⟨fun _ _ e=>e,fun b ys s=>?_,fun b φ s=>by rw[Gr (Gfh s ha (by intro z; cases z))]; exact s⟩
  rcases s with(s | ⟨ob,s⟩) | s
  ·exact .inl (.inl (by rw[Gr (Gfh s ha (by intro z; cases z))]; exact s))
  ·exact .inl (.inr ⟨ob,by rw[Gr (Gfh s ha (by intro z; cases z))]; exact s⟩)
  ·exact .inr s
 refine⟨af,⟨by simp[r.len],fun j b cj e1 e2=>?_,fun j k b cj ck e1 e2 e3 e4 f1 f2=>?_⟩⟩
 ·by_cases hj:j=i
  ·subst hj
   rw[hi] at e1
   cases e1
   rw[List.getElem?_set_self (List.getElem?_eq_some_iff.mp hc).1] at e2
   cases e2
   exact⟨vs,RepL.aft af _ _ q,by simp[Hu]⟩
  ·rw[List.getElem?_set_ne (Ne.symm hj)] at e2
   obtain⟨ys,h1,h2⟩:=r.cell j b cj e1 e2
   refine⟨ys,RepL.aft af _ _ h1,?_⟩
   cases z:cj.fz with
   | true=>
    rw[z] at h2
    have h2:SqF K H b ys:=(if_pos rfl).mp h2
    refine(if_pos rfl).mpr ?_
    rcases h2 with⟨ob,s⟩ | s
    ·exact .inl ⟨ob,by rw[Gr (Gfh s ha (by intro z; cases z))]; exact s⟩
    ·exact .inr s
   | false=>
    rw[z,if_neg Bool.false_ne_true] at h2
    rw[if_neg Bool.false_ne_true]
    have hb:b≠a:=fun hb=>by
     subst hb
     exact hj (r.inj j i b cj c e1 hi e2 hc z hf)
    rw[Gr hb]
    exact h2
 ·have fz:∀ (j:Nat) (cj:Cell),(S.set i ⟨false,ds⟩)[j]?=some cj->cj.fz=false->∃ c',S[j]?=some c'/\c'.fz=false:=fun j cj e f=>by
   by_cases hj:j=i
   ·subst hj
    exact⟨c,hc,hf⟩
   ·rw[List.getElem?_set_ne (Ne.symm hj)] at e
    exact⟨cj,e,f⟩
  obtain⟨c1,g1,g2⟩:=fz j cj e3 f1
  obtain⟨c2,g3,g4⟩:=fz k ck e4 f2
  exact r.inj j k b c1 c2 e1 e2 g1 g3 g2 g4
theorem RS.items{K:PySem.W.Frag}{mp:List Addr}{H:Hp}{S:Sto}{i:Nat}{c:Cell}{v:V}(r:RS K mp H S)(h:Rep K mp H (.lst i) v)(e:S[i]?=some c):∃ a xs,v=.ref a/\mp[i]?=some a/\SqL K H a xs/\RepL K mp H c.xs xs/\(c.fz=false->H a=some (.lst xs)):=by
 obtain⟨a,ev,ea⟩:=(show ∃ a,v=.ref a/\mp[i]?=some a from h)
 obtain⟨xs,q,z⟩:=r.cell i a c ea e
 cases f:c.fz with
 | true=>rw[f] at z; exact⟨a,xs,ev,ea,((if_pos rfl).mp z:SqF K H a xs).sq,q,fun w=>nomatch w⟩
 | false=>rw[f,if_neg Bool.false_ne_true] at z; exact⟨a,xs,ev,ea,SqL.of z,q,fun _=>z⟩
theorem Rep.tup{K:PySem.W.Frag}{mp:List Addr}{H:Hp}{l:List D}{v:V}(h:Rep K mp H (.tup l) v):∃ a xs,v=.ref a/\SqT K H a xs/\RepL K mp H l xs:=h
def OpD(K:PySem.W.Frag)(r:R2)(o:D->D->Sto->Out D):Prop:=
 ∀ (XQ:XW) (σ:L2.St) (ρ:Lc) (mp:List Addr) (H:Hp) (S:Sto) (x y:D) (v u:V) (Q:VK),RS K mp H S->Rep K mp H x v->Rep K mp H y u->Post K XQ σ ρ mp H (o x y S) Q->r v u H Q
def o2(o:D->D->Sto->Out D)(fa fb:Ev D):Ev D:=fun ρ S=>(fa ρ S).bind fun x S1=>(fb ρ S1).bind fun y S2=>o x y S2
theorem Gk8{r:R2}{o:D->D->Sto->Out D}{fa fb:Ev D}(hd:OpD X.K r o):∀ σ H Q,rdE X.K XQ (o2 o fa fb) σ H Q->tOp r (rdE X.K XQ fa) (rdE X.K XQ fb) σ H Q:=by
 intro σ H Q ⟨mp,ρ,S,G,p⟩
 refine bindP G p fun mp1 H1 x S1 v a1 G1 r1 p1=>?_
 refine bindP G1 p1 fun mp2 H2 y S2 u a2 G2 r2 p2=>?_
 exact hd XQ σ ρ mp2 H2 S2 x y v u Q G2.rs (Rep.aft a2 _ _ r1) r2 p2
theorem Gb5{a b:Expr}{fa fb:Ev D}{op:Operator}{r:R2}{o:D->D->Sto->Out D}{pos:Pos}(ho:OpR X (binaryOp op) r)(hd:OpD X.K r o)(ha:JE X XQ a fa)(hb:JE X XQ b fb):JE X XQ (.BinOp a op b pos) (o2 o fa fb):=
 PE.mono (Gtk ho ha hb) (Gk8 hd)
theorem Gh5{a b:Expr}{fa fb:Ev D}{op:CmpOp}{r:R2}{o:D->D->Sto->Out D}{pos:Pos}(ho:OpR X (compareOp op) r)(hd:OpD X.K r o)(ha:JE X XQ a fa)(hb:JE X XQ b fb)(hm:behindInMarks op b=false):JE X XQ (.Compare a [op] [b] pos) (o2 o fa fb):=
 PE.mono (Gkt ho ha hb hm) (Gk8 hd)
theorem Gtz{a b:Expr}{fa fb:Ev D}{r:R2}{o:D->D->Sto->Out D}{pos:Pos}(hr:IxR X r)(hd:OpD X.K r o)(ha:JE X XQ a fa)(hb:JE X XQ b fb)(hs:Zs b):JE X XQ (.Subscript a b pos) (o2 o fa fb):=
 PE.mono (Gtr hr ha hb hs) (Gk8 hd)
def UnD(K:PySem.W.Frag)(r:V->Hp->VK->Prop)(o:D->Sto->Out D):Prop:=
 ∀ (XQ:XW) (σ:L2.St) (ρ:Lc) (mp:List Addr) (H:Hp) (S:Sto) (x:D) (v:V) (Q:VK),RS K mp H S->Rep K mp H x v->Post K XQ σ ρ mp H (o x S) Q->r v H Q
def o1(o:D->Sto->Out D)(fa:Ev D):Ev D:=fun ρ S=>(fa ρ S).bind fun x S1=>o x S1
theorem Gt0{a:Expr}{fa:Ev D}{op:UnaryOp}{r:V->Hp->VK->Prop}{o:D->Sto->Out D}{pos:Pos}(ho:UnR X (unaryOp op) r)(hd:UnD X.K r o)(ha:JE X XQ a fa):JE X XQ (.UnaryOp op a pos) (o1 o fa):=by
 refine PE.mono (Gtl ho ha) fun σ H Q ⟨mp,ρ,S,G,p⟩=>?_
 exact bindP G p fun mp1 H1 x S1 v a1 G1 r1 p1=>hd XQ σ ρ mp1 H1 S1 x v Q G1.rs r1 p1
def tp(f:Ev (List D)):Ev D:=fun ρ S=>(f ρ S).bind fun xs S1=>if xs.length<=1000000 then .ok (.tup xs) S1 else .bad
def ls(f:Ev (List D)):Ev D:=fun ρ S=>(f ρ S).bind fun xs S1=>if xs.length<=1000000 then .ok (.lst S1.length) (S1++[⟨false,xs⟩]) else .bad
theorem line_le{n:Nat}(h:n<=1000000):n<=sizeLine:=Nat.le_trans h (by decide)
theorem Wm{K:PySem.W.Frag}{σ:L2.St}{ρ:Lc}{mp:List Addr}{H:Hp}{S:Sto}{ds:List D}{vs:List V}{Q:VK}{p:Addr}(po:Post K XQ σ ρ mp H (.ok (.tup ds) S) Q)(r:RS K mp H S)(q:RepL K mp H ds vs)(h:H p=none):Q (.ref p) (upd H p (.tup vs)):=by
 have af:Aft K mp H mp (upd H p (.tup vs)):=Ql h
 exact po mp _ _ af (r.new h) ⟨p,vs,rfl,SqT.of Hu,RepL.aft af _ _ q⟩
theorem Vh{K:PySem.W.Frag}{σ:L2.St}{ρ:Lc}{mp:List Addr}{H:Hp}{S:Sto}{ds:List D}{vs:List V}{Q:VK}{p:Addr}(po:Post K XQ σ ρ mp H (.ok (.lst S.length) (S++[⟨false,ds⟩])) Q)(r:RS K mp H S)(q:RepL K mp H ds vs)(h:H p=none):Q (.ref p) (upd H p (.lst vs)):=by
 obtain⟨af,rs,e⟩:=r.newL h q
 exact po _ _ _ af rs ⟨p,rfl,e⟩
theorem Gpu{es:List Expr}{f:Ev (List D)}{x1}{pos:Pos}(h:JA X XQ es f):JE X XQ (.Tuple es x1 pos) (tp f):=by
 refine PE.mono (Gpf h) fun σ H Q ⟨mp,ρ,S,G,p⟩=>?_
 refine bindP G p fun mp1 H1 xs S1 vs a1 G1 r1 p1=>?_
 by_cases hl:xs.length<=1000000
 ·rw[if_pos hl] at p1
  exact⟨by rw[r1.len]; exact line_le hl,fun q hq=>Wm p1 G1.rs r1 hq⟩
 ·rw[if_neg hl] at p1; exact p1.elim
theorem Gpv{es:List Expr}{f:Ev (List D)}{pos:Pos}(h:JA X XQ es f):JE X XQ (.List es pos) (ls f):=by
 refine PE.mono (Gpg h) fun σ H Q ⟨mp,ρ,S,G,p⟩=>?_
 refine bindP G p fun mp1 H1 xs S1 vs a1 G1 r1 p1=>?_
 by_cases hl:xs.length<=1000000
 ·rw[if_pos hl] at p1
  exact⟨by rw[r1.len]; exact line_le hl,fun q hq=>Vh p1 G1.rs r1 hq⟩
 ·rw[if_neg hl] at p1; exact p1.elim
def Uh:D->Sto->Option Bool
 | .non,_=>some false
 | .bl b,_=>some b
 | .int i,_=>some (i != 0)
 | .str y,_=>if y.length<=1000000 then some ((y.length:Int) != 0) else none
 | .tup l,_=>some (!l.isEmpty)
 | .lst i,S=>match S[i]? with
  | some c=>some (!c.xs.isEmpty)
  | none=>none
 | .exn _ _,_=>none
 | .fv _,_=>none
def tt(f:Ev D):Ev Bool:=fun ρ S=>(f ρ S).bind fun x S1=>match Uh x S1 with
 | some b=>.ok b S1
 | none=>.bad
theorem RepL.empty{K:PySem.W.Frag}{mp:List Addr}{H:Hp}{l:List D}{vs:List V}(h:RepL K mp H l vs):(!l.isEmpty)=!vs.isEmpty:=by
 have e:=h.len
 cases l<;>cases vs<;>simp_all
theorem Gk9{K:PySem.W.Frag}{mp:List Addr}{H:Hp}{S:Sto}{x:D}{v:V}{b:Bool}(r:RS K mp H S)(h:Rep K mp H x v)(e:Uh x S=some b):Gpc K v H b:=by
 cases x with
 | non=>cases (show v=.non from h); exact(Option.some.inj e).symm
 | bl c=>cases (show v=.bl c from h); exact(Option.some.inj e).symm
 | int i=>cases (show v=.int i from h); exact(Option.some.inj e).symm
 | str y=>
  cases (show v=.str y from h)
  have e:(if y.length<=1000000 then some ((y.length:Int) != 0) else none)=some b:=e
  by_cases hl:y.length<=1000000
  ·rw[if_pos hl] at e; exact⟨line_le hl,(Option.some.inj e).symm⟩
  ·rw[if_neg hl] at e; cases e
 | tup l=>
  obtain⟨a,xs,rfl,s,q⟩:=Rep.tup h
  exact .inr (.inl ⟨xs,s,by rw[<- q.empty]; exact(Option.some.inj e).symm⟩)
 | lst i=>
  have e:(match S[i]? with | some c=>some (!c.xs.isEmpty) | none=>none)=some b:=e
  cases z:S[i]? with
  | none=>rw[z] at e; cases e
  | some c=>
   rw[z] at e
   obtain⟨a,xs,rfl,_,s,q,_⟩:=r.items h z
   exact .inl ⟨xs,s,by rw[<- q.empty]; exact(Option.some.inj e).symm⟩
 | exn c n=>cases (show(none:Option Bool)=some b from e)
 | fv c=>cases (show(none:Option Bool)=some b from e)
theorem Gpw{e:Expr}{f:Ev D}(h:JE X XQ e f)(he:∀ whole,isTrue e X.env whole=(do let v <- whole; standAt e.pos; holding [v] (truthy v)):=by intro _; rfl):JT X XQ e (tt f):=by
 refine PT.mono (Ght h he) fun σ H Q ⟨mp,ρ,S,G,p⟩=>?_
 refine bindP G p fun mp1 H1 x S1 v a1 G1 r1 p1=>?_
 cases z:Uh x S1 with
 | none=>rw[z] at p1; exact p1.elim
 | some b=>
  rw[z] at p1
  exact⟨b,Gk9 G1.rs r1 z,Gk.ok p1 G1.rs rfl⟩
def tb(f:Ev D):Ev Bool:=fun ρ S=>(f ρ S).bind fun x S1=>match x with
 | .bl b=>.ok b S1
 | _=>.bad
theorem Gh6{K:PySem.W.Frag}{f:Ev D}{σ:L2.St}{H:Hp}{Q:Bool->Hp->Prop}(h:rdT K XQ (tb f) σ H Q):rdE K XQ f σ H fun x H1=>∃ k,x=.bl k/\Q k H1:=by
 obtain⟨mp,ρ,S,G,p⟩:=h
 refine bindP G p fun mp1 H1 x S1 v a1 G1 r1 p1=>?_
 cases x with
 | bl b=>exact⟨b,r1,Gk.ok p1 G1.rs rfl⟩
 | _=>exact p1.elim
theorem Yq{a b:Expr}{fa fb:Ev D}{op:CmpOp}{r:R2}{o:D->D->Sto->Out D}{pos:Pos}(ho:OpR X (compareOp op) r)(hd:OpD X.K r o)(ha:JE X XQ a fa)(hb:JE X XQ b fb)(hm:behindInMarks op b=false):JT X XQ (.Compare a [op] [b] pos) (tb (o2 o fa fb)):=
 PT.mono (Gku ho ha hb hm) fun σ H Q h=>Gk8 hd σ H _ (Gh6 h)
def tn(f:Ev Bool):Ev Bool:=fun ρ S=>(f ρ S).bind fun b S1=>.ok (!b) S1
def ta(f g:Ev Bool):Ev Bool:=fun ρ S=>(f ρ S).bind fun b S1=>if b=true then g ρ S1 else .ok false S1
def to(f g:Ev Bool):Ev Bool:=fun ρ S=>(f ρ S).bind fun b S1=>if b=true then .ok true S1 else g ρ S1
theorem Gpx{a:Expr}{f:Ev Bool}{pos:Pos}(h:JT X XQ a f):JT X XQ (.UnaryOp .Not a pos) (tn f):=
 PT.mono (Gor h) fun σ H Q ⟨mp,ρ,S,G,p⟩=>bindP G p fun mp1 H1 b S1 c a1 G1 r1 p1=>by
  cases (show c=b from r1)
  exact Gk.ok p1 G1.rs rfl
theorem Gla{a:Expr}{f:Ev Bool}{pos:Pos}(h:JT X XQ a f):JW X XQ (.BoolOp .And [a] pos) f:=Gkn h
theorem Gpy{a:Expr}{f:Ev Bool}{pos:Pos}(h:JT X XQ a f):JW X XQ (.BoolOp .Or [a] pos) f:=Gop h
theorem Gpz{a b:Expr}{rest:List Expr}{f g:Ev Bool}{pos:Pos}(h:JT X XQ a f)(hb:JW X XQ (.BoolOp .And (b::rest) pos) g):JW X XQ (.BoolOp .And (a::b::rest) pos) (ta f g):=
 PW.mono (Goq h hb) fun σ H Q ⟨mp,ρ,S,G,p⟩=>bindP G p fun mp1 H1 b S1 c a1 G1 r1 p1=>by
  cases (show c=b from r1)
  cases b with
  | true=>exact(if_pos rfl).mpr ⟨mp1,ρ,S1,G1,by simpa using p1⟩
  | false=>exact(if_neg Bool.false_ne_true).mpr (Gk.ok (R:=kB) (d:=false) (S:=S1) (by simpa using p1) G1.rs rfl)
theorem Gt1{a b:Expr}{rest:List Expr}{f g:Ev Bool}{pos:Pos}(h:JT X XQ a f)(hb:JW X XQ (.BoolOp .Or (b::rest) pos) g):JW X XQ (.BoolOp .Or (a::b::rest) pos) (to f g):=
 PW.mono (Gs9 h hb) fun σ H Q ⟨mp,ρ,S,G,p⟩=>bindP G p fun mp1 H1 b S1 c a1 G1 r1 p1=>by
  cases (show c=b from r1)
  cases b with
  | false=>exact(if_neg Bool.false_ne_true).mpr ⟨mp1,ρ,S1,G1,by simpa using p1⟩
  | true=>exact(if_pos rfl).mpr (Gk.ok (R:=kB) (d:=true) (S:=S1) (by simpa using p1) G1.rs rfl)
theorem JW.jt{e:Expr}{f:Ev Bool}(h:JW X XQ e f):JT X XQ e f:=PW.pt h
def va(f g:Ev D):Ev D:=fun ρ S=>(f ρ S).bind fun x S1=>match x with
 | .bl b=>if b=true then g ρ S1 else .ok (.bl false) S1
 | _=>.bad
def vo(f g:Ev D):Ev D:=fun ρ S=>(f ρ S).bind fun x S1=>match x with
 | .bl b=>if b=true then .ok (.bl true) S1 else g ρ S1
 | _=>.bad
def vn(f:Ev D):Ev D:=fun ρ S=>(f ρ S).bind fun x S1=>match x with
 | .bl b=>.ok (.bl (!b)) S1
 | _=>.bad
theorem Gp0{a:Expr}{op}{f:Ev D}{pos:Pos}(h:JE X XQ a f):JE X XQ (.BoolOp op [a] pos) f:=Gos h
theorem Gp1{a b:Expr}{rest:List Expr}{f g:Ev D}{pos:Pos}(ha:JE X XQ a f)(hb:JE X XQ (.BoolOp .And (b::rest) pos) g):JE X XQ (.BoolOp .And (a::b::rest) pos) (va f g):=
 PE.mono (Got ha hb) fun σ H Q ⟨mp,ρ,S,G,p⟩=>bindP G p fun mp1 H1 x S1 v a1 G1 r1 p1=>by
  cases x with
  | bl b=>
   refine⟨b,r1,?_⟩
   cases b with
   | true=>exact(if_pos rfl).mpr ⟨mp1,ρ,S1,G1,by simpa using p1⟩
   | false=>exact(if_neg Bool.false_ne_true).mpr (Gk.ok (R:=Rep X.K) (d:=.bl false) (S:=S1) (by simpa using p1) G1.rs rfl)
  | _=>exact p1.elim
theorem Gt2{a b:Expr}{rest:List Expr}{f g:Ev D}{pos:Pos}(ha:JE X XQ a f)(hb:JE X XQ (.BoolOp .Or (b::rest) pos) g):JE X XQ (.BoolOp .Or (a::b::rest) pos) (vo f g):=
 PE.mono (Gtc ha hb) fun σ H Q ⟨mp,ρ,S,G,p⟩=>bindP G p fun mp1 H1 x S1 v a1 G1 r1 p1=>by
  cases x with
  | bl b=>
   refine⟨b,r1,?_⟩
   cases b with
   | false=>exact(if_neg Bool.false_ne_true).mpr ⟨mp1,ρ,S1,G1,by simpa using p1⟩
   | true=>exact(if_pos rfl).mpr (Gk.ok (R:=Rep X.K) (d:=.bl true) (S:=S1) (by simpa using p1) G1.rs rfl)
  | _=>exact p1.elim
theorem Gp2{a:Expr}{f:Ev D}{pos:Pos}(ha:JE X XQ a f):JE X XQ (.UnaryOp .Not a pos) (vn f):=
 PE.mono (Gou ha) fun σ H Q ⟨mp,ρ,S,G,p⟩=>bindP G p fun mp1 H1 x S1 v a1 G1 r1 p1=>by
  cases x with
  | bl b=>exact⟨b,r1,Gk.ok p1 G1.rs rfl⟩
  | _=>exact p1.elim
def ie(c:Ev Bool)(f g:Ev D):Ev D:=fun ρ S=>(c ρ S).bind fun b S1=>if b=true then f ρ S1 else g ρ S1
theorem Gp3{a b c:Expr}{fc:Ev Bool}{fa fb:Ev D}{pos:Pos}(hc:JT X XQ c fc)(ha:JE X XQ a fa)(hb:JE X XQ b fb):JE X XQ (.IfExp c a b pos) (ie fc fa fb):=
 PE.mono (Ghl hc ha hb) fun σ H Q ⟨mp,ρ,S,G,p⟩=>bindP G p fun mp1 H1 b S1 c a1 G1 r1 p1=>by
  cases (show c=b from r1)
  cases b with
  | true=>exact(if_pos rfl).mpr ⟨mp1,ρ,S1,G1,by simpa using p1⟩
  | false=>exact(if_neg Bool.false_ne_true).mpr ⟨mp1,ρ,S1,G1,by simpa using p1⟩
end
inductive OS where
 | nx (ρ:Lc) (S:Sto) | rt (d:D) (S:Sto) | bk (ρ:Lc) (S:Sto) | ct (ρ:Lc) (S:Sto) | exc (x:XD) (ρ:Lc) (S:Sto) | bad
abbrev Sv:=Lc->Sto->OS
def PostS(K:PySem.W.Frag)(XQ:XW)(mp:List Addr)(H:Hp)(o:OS)(E:Ends):Prop:=
 match o with
 | .nx ρ S=>∀ mp' H' σ',Aft K mp H mp' H'->Gd K mp' H' σ' ρ S->E.nx σ' H'
 | .rt d S=>∀ mp' H' v,Aft K mp H mp' H'->RS K mp' H' S->Rep K mp' H' d v->E.rt v H'
 | .bk ρ S=>∀ mp' H' σ',Aft K mp H mp' H'->Gd K mp' H' σ' ρ S->E.bk σ' H'
 | .ct ρ S=>∀ mp' H' σ',Aft K mp H mp' H'->Gd K mp' H' σ' ρ S->E.ct σ' H'
 | .exc x ρ S=>∀ mp' H' σ',Aft K mp H mp' H'->Gd K mp' H' σ' ρ S->XQ x mp' H' σ' ρ S
 | .bad=>False
theorem PostS.aft{K:PySem.W.Frag}{XQ:XW}{mp mp':List Addr}{H H':Hp}{o:OS}{E:Ends}(p:PostS K XQ mp H o E)(a:Aft K mp H mp' H'):PostS K XQ mp' H' o E:=by
 cases o with
 | nx ρ S=>exact fun m h v b=>p m h v (a.trans b)
 | rt d S=>exact fun m h v b=>p m h v (a.trans b)
 | bk ρ S=>exact fun m h v b=>p m h v (a.trans b)
 | ct ρ S=>exact fun m h v b=>p m h v (a.trans b)
 | exc x ρ S=>exact fun m h v b=>p m h v (a.trans b)
 | bad=>exact p
def rdS(K:PySem.W.Frag)(XQ:XW)(f:Sv):TS:=fun E σ H=>∃ mp ρ S,Gd K mp H σ ρ S/\PostS K XQ mp H (f ρ S) E
def JS(X:Cx)(XQ:XW)(st:Stmt)(f:Sv):Prop:=PS X st (rdS X.K XQ f)
def JSs(X:Cx)(XQ:XW)(st:List Stmt)(f:Sv):Prop:=PSs X st (rdS X.K XQ f)
def bindS{α:Type}(o:Out α)(ρ:Lc)(k:α->Sto->OS):OS:=
 match o with
 | .ok a S=>k a S
 | .exc x S=>.exc x ρ S
 | .bad=>.bad
theorem bindSP{α β:Type}{K:PySem.W.Frag}{R:RL α β}{XQ:XW}{mp:List Addr}{H:Hp}{σ:L2.St}{ρ:Lc}{S:Sto}{f:Ev α}{g:α->Sto->OS}{E:Ends}{Q1:β->Hp->Prop}(G:Gd K mp H σ ρ S)(p:PostS K XQ mp H (bindS (f ρ S) ρ g) E)
  (k:∀ mp1 H1 d S1 v,Aft K mp H mp1 H1->Gd K mp1 H1 σ ρ S1->R mp1 H1 d v->PostS K XQ mp1 H1 (g d S1) E->Q1 v H1):rdG K R XQ f σ H Q1:=by
 refine⟨mp,ρ,S,G,?_⟩
 cases e:f ρ S with
 | ok d S1=>
  rw[e] at p
  exact fun mp1 H1 v a rs r=>k mp1 H1 d S1 v a (G.aft a rs) r (PostS.aft p a)
 | exc x S1=>rw[e] at p; exact fun m h b c=>p m h σ b c
 | bad=>rw[e] at p; exact p
def skip:Sv:=fun ρ S=>.nx ρ S
def sq(f g:Sv):Sv:=fun ρ S=>match f ρ S with
 | .nx ρ' S'=>g ρ' S'
 | .rt d S'=>.rt d S'
 | .bk ρ' S'=>.bk ρ' S'
 | .ct ρ' S'=>.ct ρ' S'
 | .exc x ρ' S'=>.exc x ρ' S'
 | .bad=>.bad
section
variable{X:Cx}{XQ:XW}
theorem PostS.nx{K:PySem.W.Frag}{mp:List Addr}{H:Hp}{σ:L2.St}{ρ:Lc}{S:Sto}{E:Ends}(p:PostS K XQ mp H (.nx ρ S) E)(G:Gd K mp H σ ρ S):E.nx σ H:=p mp H σ .refl G
theorem PostS.rt{K:PySem.W.Frag}{mp:List Addr}{H:Hp}{d:D}{v:V}{S:Sto}{E:Ends}(p:PostS K XQ mp H (.rt d S) E)(r:RS K mp H S)(h:Rep K mp H d v):E.rt v H:=p mp H v .refl r h
theorem Glb:JSs X XQ [] skip:=PSs.mono Gko fun E σ H ⟨mp,ρ,S,G,p⟩=>PostS.nx p G
theorem Gh7{st:Stmt}{rest:List Stmt}{f g:Sv}(h1:JS X XQ st f)(h2:JSs X XQ rest g):JSs X XQ (st::rest) (sq f g):=by
 refine PSs.mono (Gdh h1 h2) fun E σ H ⟨mp,ρ,S,G,p⟩=>⟨mp,ρ,S,G,?_⟩
 unfold sq at p
 cases e:f ρ S with
 | nx ρ' S'=>rw[e] at p; exact fun m h v a G'=>⟨m,ρ',S',G',PostS.aft p a⟩
 | rt d S'=>rw[e] at p; exact p
 | bk ρ' S'=>rw[e] at p; exact p
 | ct ρ' S'=>rw[e] at p; exact p
 | exc x ρ' S'=>rw[e] at p; exact p
 | bad=>rw[e] at p; exact p
theorem Glc{st:Stmt}{f:Sv}(h1:JS X XQ st f):JSs X XQ [st] f:=Gcj h1
def sx(f:Ev D):Sv:=fun ρ S=>bindS (f ρ S) ρ fun _ S1=>.nx ρ S1
theorem Gld{e:Expr}{f:Ev D}{pos:Pos}(he:JE X XQ e f)(hs:swapsWith e none pos.line X.env=pure false:=by rfl):JS X XQ (.Expr e pos) (sx f):=
 PS.mono (Gck he hs) fun E σ H ⟨mp,ρ,S,G,p⟩=>bindSP G p fun mp1 H1 d S1 v a1 G1 r1 p1=>PostS.nx p1 G1
def sret(f:Ev D):Sv:=fun ρ S=>bindS (f ρ S) ρ fun d S1=>.rt d S1
theorem Gp4{e:Expr}{f:Ev D}{pos:Pos}(he:JE X XQ e f):JS X XQ (.Return (some e) pos) (sret f):=
 PS.mono (Gov he) fun E σ H ⟨mp,ρ,S,G,p⟩=>bindSP G p fun mp1 H1 d S1 v a1 G1 r1 p1=>PostS.rt p1 G1.rs r1
def sif(c:Ev Bool)(f g:Sv):Sv:=fun ρ S=>bindS (c ρ S) ρ fun b S1=>if b=true then f ρ S1 else g ρ S1
theorem Gt3{c:Expr}{a b:List Stmt}{fc:Ev Bool}{f g:Sv}{pos:Pos}(hc:JT X XQ c fc)(ha:JSs X XQ a f)(hb:JSs X XQ b g):JS X XQ (.If c a b pos) (sif fc f g):=
 PS.mono (Gtf hc ha hb) fun E σ H ⟨mp,ρ,S,G,p⟩=>bindSP G p fun mp1 H1 b S1 c a1 G1 r1 p1=>by
  cases (show c=b from r1)
  cases b with
  | true=>exact(if_pos rfl).mpr ⟨mp1,ρ,S1,G1,by simpa using p1⟩
  | false=>exact(if_neg Bool.false_ne_true).mpr ⟨mp1,ρ,S1,G1,by simpa using p1⟩
theorem Gd.set{K:PySem.W.Frag}{mp:List Addr}{H:Hp}{σ:L2.St}{ρ:Lc}{S:Sto}{d:D}{v:V}(G:Gd K mp H σ ρ S)(i:Nat)(r:Rep K mp H d v):Gd K mp H (σ.set i (some v)) (ρ.set i (some d)) S:=by
 refine⟨G.rs,by simp[G.len],fun j e h=>?_⟩
 by_cases hj:j=i
 ·subst hj
  have hl:j<ρ.length:=by
   have:=(List.getElem?_eq_some_iff.mp h).1
   simpa using this
  rw[List.getElem?_set_self hl] at h
  cases h
  exact⟨v,by rw[List.getElem?_set_self (by rw[G.len]; exact hl)],r⟩
 ·rw[List.getElem?_set_ne (Ne.symm hj)] at h ⊢
  exact G.loc j e h
abbrev Tg:=D->Lc->Option Lc
def Gh8(K:PySem.W.Frag)(g:Tg):TG:=fun v σ H Q=>∃ mp ρ S d ρ',Gd K mp H σ ρ S/\Rep K mp H d v/\g d ρ=some ρ'/\∀ σ',Gd K mp H σ' ρ' S->Q σ' H
def JG(X:Cx)(tg:Expr)(g:Tg):Prop:=PG X tg (Gh8 X.K g)
theorem PG.mono{X:Cx}{e:Expr}{t t':TG}(h:PG X e t)(m:∀ v σ H Q,t' v σ H Q->t v σ H Q):PG X e t':=fun pins s σ H v u Q I r q=>h pins s σ H v u Q I r (m v σ H Q q)
def gn(i:Nat):Tg:=fun d ρ=>some (ρ.set i (some d))
theorem Gcr(i:Nat){x:Str}{pos:Pos}(hN:X.N.Nodup)(hi:X.N[i]?=some x:=by rfl)(hx:Loc X.env.scope x:=by first | exact Or.inl rfl | exact Or.inr rfl)(hf:X.fn x=true\/X.env.scope.names.lookup x=some .local:=by first | exact .inl rfl | exact .inr rfl | assumption):JG X (.Name x pos) (gn i):=
 PG.mono (Gkp hN hi hx hf) fun v σ H Q ⟨mp,ρ,S,d,ρ',G,r,e,k⟩=>by
  cases (Option.some.inj e)
  exact k _ (G.set i r)
abbrev Tgs:=List D->Lc->Option Lc
def Gwj(K:PySem.W.Frag)(g:Tgs):TGs:=fun vs σ H Q=>∃ mp ρ S ds ρ',Gd K mp H σ ρ S/\RepL K mp H ds vs/\g ds ρ=some ρ'/\∀ σ',Gd K mp H σ' ρ' S->Q σ' H
def JGs(X:Cx)(ts:List Expr)(g:Tgs):Prop:=PGs X ts (Gwj X.K g)
theorem PGs.mono{X:Cx}{e:List Expr}{t t':TGs}(h:PGs X e t)(m:∀ v σ H Q,t' v σ H Q->t v σ H Q):PGs X e t':=fun pins s σ H v u Q I r q=>h pins s σ H v u Q I r (m v σ H Q q)
def gnil:Tgs:=fun ds ρ=>match ds with
 | []=>some ρ
 | _::_=>none
def gcons(g:Tg)(k:Tgs):Tgs:=fun ds ρ=>match ds with
 | []=>none
 | d::r=>(g d ρ).bind fun ρ'=>k r ρ'
theorem Gle:JGs X [] gnil:=PGs.mono Gkq fun vs σ H Q ⟨mp,ρ,S,ds,ρ',G,r,e,k⟩=>by
 cases ds with
 | nil=>
  cases (show some ρ=some ρ' from e)
  exact⟨r,k _ G⟩
 | cons _ _=>cases (show(none:Option Lc)=some ρ' from e)
theorem Gh9{e:Expr}{es:List Expr}{g:Tg}{k:Tgs}(h1:JG X e g)(h2:JGs X es k)
  (hs:(assignEach (e::es) X.env).map (·.2)=assign e X.env::(assignEach es X.env).map (·.2):=by rfl):JGs X (e::es) (gcons g k):=
 PGs.mono (Gho h1 h2 hs) fun vs σ H Q ⟨mp,ρ,S,ds,ρ',G,r,e,q⟩=>by
  cases ds with
  | nil=>cases (show(none:Option Lc)=some ρ' from e)
  | cons d ds=>
   have e:(g d ρ).bind (fun ρ'=>k ds ρ')=some ρ':=e
   obtain⟨v,vr,ev,h3,h4⟩:=(show ∃ v r,vs=v::r/\Rep X.K mp H d v/\RepL X.K mp H ds r from r)
   cases z:g d ρ with
   | none=>rw[z] at e; cases e
   | some ρ1=>
    rw[z] at e
    exact⟨v,vr,ev,mp,ρ,S,d,ρ1,G,h3,z,fun σ1 G1=>⟨mp,ρ1,S,ds,ρ',G1,h4,e,q⟩⟩
def gt(k:Tgs)(n:Nat):Tg:=fun d ρ=>match d with
 | .tup ds=>if ds.length=n then k ds ρ else none
 | _=>none
theorem Gp5{es:List Expr}{m:Nat}{k:Tgs}{n:Nat}{pos:Pos}(hc:X.calm=true)(h:JGs X es k)
  (hn:(assignEach es X.env).length=n:=by rfl) (hst:(assignEach es X.env).findIdx? (·.1)=none:=by rfl):JG X (.Tuple es m pos) (gt k n):=
 PG.mono (Gox hc h hn hst) fun v σ H Q ⟨mp,ρ,S,d,ρ',G,r,e,q⟩=>by
  cases d with
  | tup ds=>
   have e:(if ds.length=n then k ds ρ else none)=some ρ':=e
   obtain⟨a,xs,ev,sq,rl⟩:=Rep.tup r
   by_cases hl:ds.length=n
   ·rw[if_pos hl] at e
    exact⟨a,xs,ev,sq,by rw[rl.len]; exact hl,mp,ρ,S,ds,ρ',G,rl,e,q⟩
   ·rw[if_neg hl] at e; cases e
  | _=>cases (show(none:Option Lc)=some ρ' from e)
def sa(f:Ev D)(g:Tg):Sv:=fun ρ S=>bindS (f ρ S) ρ fun d S1=>match g d ρ with
 | some ρ'=>.nx ρ' S1
 | none=>.bad
theorem Gwk{K:PySem.W.Frag}{f:Ev D}{g:Tg}(E:Ends)(σ:L2.St)(H:Hp)(h:rdS K XQ (sa f g) E σ H):Gkr (rdE K XQ f) (Gh8 K g) E σ H:=by
 obtain⟨mp,ρ,S,G,p⟩:=h
 refine bindSP G p fun mp1 H1 d S1 v a1 G1 r1 p1=>?_
 cases z:g d ρ with
 | none=>rw[z] at p1; exact p1.elim
 | some ρ'=>
  rw[z] at p1
  exact⟨mp1,ρ,S1,d,ρ',G1,r1,z,fun σ' G'=>PostS.nx p1 G'⟩
theorem Gp6{tg e:Expr}{f:Ev D}{g:Tg}{pos:Pos}(he:JE X XQ e f)(hg:JG X tg g)(hs:swapsWithSole [tg] e pos.line X.env=pure false:=by rfl)(hw:swappedStores [tg] e X.env=pure none:=by rfl)
  (h1:(assignEach [tg] X.env).map (·.2)=[assign tg X.env]:=by rfl):JS X XQ (.Assign [tg] e pos) (sa f g):=
 PS.mono (Ghp he hg hs hw h1) Gwk
theorem Gp7(i:Nat){x:Str}{e:Expr}{f:Ev D}{pos pos':Pos}(hN:X.N.Nodup)(he:JE X XQ e f)(hi:X.N[i]?=some x:=by rfl)(hx:Loc X.env.scope x:=by first | exact Or.inl rfl | exact Or.inr rfl)(hs:swapsWith e (some (.Name x pos')) pos.line X.env=pure false:=by rfl)
  (hf:X.fn x=true\/X.env.scope.names.lookup x=some .local:=by first | exact .inl rfl | exact .inr rfl | assumption):JS X XQ (.Assign [.Name x pos'] e pos) (sa f (gn i)):=
 PS.mono (Goz hN hi hx he hs hf) fun E σ H ⟨mp,ρ,S,G,p⟩=>bindSP G p fun mp1 H1 d S1 v a1 G1 r1 p1=>PostS.nx p1 (G1.set i r1)
def Gt4(t:Ghn)(K:PySem.W.Frag)(o:D->D->D->Sto->Option Sto):Prop:=
 ∀ (mp:List Addr) (H:Hp) (S S':Sto) (x y z:D) (v u w:V) (Q:Hp->Prop),RS K mp H S->Rep K mp H x v->Rep K mp H y u->Rep K mp H z w->o x y z S=some S'->(∀ H',Aft K mp H mp H'->RS K mp H' S'->Q H')->t v u w H Q
def ss(f fo fi:Ev D)(o:D->D->D->Sto->Option Sto):Sv:=fun ρ S=>bindS (f ρ S) ρ fun d S1=>bindS (fo ρ S1) ρ fun x S2=>bindS (fi ρ S2) ρ fun y S3=>match o x y d S3 with
 | some S4=>.nx ρ S4
 | none=>.bad
theorem Gp8{ob ix e:Expr}{f fo fi:Ev D}{t:Ghn}{o:D->D->D->Sto->Option Sto}{pos p2:Pos}(hset:Gow X t)(ho:Gt4 t X.K o)(he:JE X XQ e f)(hob:JE X XQ ob fo)(hix:JE X XQ ix fi)
  (hs:swapsWithSole [.Subscript ob ix p2] e pos.line X.env=pure false:=by rfl) (hw:swappedStores [.Subscript ob ix p2] e X.env=pure none:=by rfl)
  (h1:(assignEach [.Subscript ob ix p2] X.env).map (·.2)=[assign (.Subscript ob ix p2) X.env]:=by rfl) (ha:∀ v,assign (.Subscript ob ix p2) X.env v=(do
   let ov <- holding [v] (eval ob X.env)
   let iv <- holding [v,ov] (eval ix X.env)
   standAt p2
   holding [v,ov,iv] (setItem ov iv v)
   release [v,ov,iv] []):=by intro _; rfl):JS X XQ (.Assign [.Subscript ob ix p2] e pos) (ss f fo fi o):=by
 refine PS.mono (Ghp he (Goy hob hix hset ha) hs hw h1) fun E σ H ⟨mp,ρ,S,G,p⟩=>?_
 refine bindSP G p fun mp1 H1 d S1 v a1 G1 r1 p1=>?_
 refine bindSP G1 p1 fun mp2 H2 x S2 vx a2 G2 r2 p2=>?_
 refine bindSP G2 p2 fun mp3 H3 y S3 vy a3 G3 r3 p3=>?_
 cases z:o x y d S3 with
 | none=>rw[z] at p3; exact p3.elim
 | some S4=>
  rw[z] at p3
  exact ho mp3 H3 S3 S4 x y d vx vy v _ G3.rs (Rep.aft a3 _ _ r2) r3 (Rep.aft (a2.trans a3) _ _ r1) z fun H' af rs=>p3 mp3 H' σ af (G3.aft af rs)
structure Src where
 nxt:Nat->Sto->Option D
 fuel:Nat
def Gep(K:PySem.W.Frag)(mp0:List Addr)(H0:Hp)(J:It)(nxt:Nat->Sto->Option D):Prop:=
 ∀ (mp:List Addr) (H:Hp) (S:Sto),Aft K mp0 H0 mp H->RS K mp H S->∀ k,match nxt k S with
  | some d=>J.go k H/\∀ x H',J.yld k H x H'->Aft K mp H mp H'/\RS K mp H' S/\Rep K mp H' d x
  | none=>J.stop k H
def kI(K:PySem.W.Frag):RL Src It:=fun mp H s J=>Gep K mp H J s.nxt
abbrev rdI(K:PySem.W.Frag)(XQ:XW)(f:Ev Src):TI:=rdG K (kI K) XQ f
def JI(X:Cx)(XQ:XW)(tg iter:Expr)(f:Ev Src):Prop:=PI X tg iter (rdI X.K XQ f)
theorem PI.mono{X:Cx}{tg e:Expr}{t t':TI}(h:PI X tg e t)(m:∀ σ H Q,t' σ H Q->t σ H Q):PI X tg e t':=fun pins s σ H Q I q=>h pins s σ H Q I (m σ H Q q)
def Qd(nxt:Nat->Sto->Option D)(g:Tg)(b:Sv):Nat->Nat->Sv
 | 0,_,_,_=>.bad
 | n+1,k,ρ,S=>match nxt k S with
  | none=>.nx ρ S
  | some d=>match g d ρ with
   | none=>.bad
   | some ρ1=>match b ρ1 S with
    | .nx ρ2 S2=>Qd nxt g b n (k+1) ρ2 S2
    | .ct ρ2 S2=>Qd nxt g b n (k+1) ρ2 S2
    | .bk ρ2 S2=>.nx ρ2 S2
    | .rt d S2=>.rt d S2
    | .exc x ρ2 S2=>.exc x ρ2 S2
    | .bad=>.bad
def sfor(f:Ev Src)(g:Tg)(b:Sv):Sv:=fun ρ S=>bindS (f ρ S) ρ fun s S1=>Qd s.nxt g b s.fuel 0 ρ S1
theorem Gp9{tg iter:Expr}{body:List Stmt}{f:Ev Src}{g:Tg}{b:Sv}{pos:Pos}(hp:PassesOwn (model X.prog X.w) X.A X.env X.xe)(hc:X.calm=true)(hi:JI X XQ tg iter f)(hg:JG X tg g)(hb:JSs X XQ body b)
  (hs:∀ x,foldedSetIterable iter X.env x=pure x:=by intro _; rfl):JS X XQ (.For tg iter body [] pos) (sfor f g b):=by
 refine PS.mono (Go3 hp hc hi hg hb hs) fun E σ H ⟨mp,ρ,S,G,p⟩=>?_
 refine bindSP G p fun mp1 H1 s S1 J a1 G1 j1 p1=>?_
 refine⟨fun i m σ' H'=>∃ mp' ρ' S',Aft X.K mp1 H1 mp' H'/\Gd X.K mp' H' σ' ρ' S'/\PostS X.K XQ mp' H' (Qd s.nxt g b m i ρ' S') E,⟨s.fuel,mp1,ρ,S1,.refl,G1,p1⟩,?_⟩
 rintro i m σ' H' ⟨mp',ρ',S',a',G',p'⟩
 cases m with
 | zero=>exact(show False from p').elim
 | succ n=>
  have j:=j1 mp' H' S' a' G'.rs i
  unfold Qd at p'
  cases z:s.nxt i S' with
  | none=>
   rw[z] at j p'
   exact .inl ⟨j,PostS.nx p' G'⟩
  | some d=>
   rw[z] at j p'
   obtain⟨j1,j2⟩:=j
   refine .inr ⟨j1,fun σ2 H2=>∃ mp2 ρ2 S2,Aft X.K mp1 H1 mp2 H2/\Gd X.K mp2 H2 σ2 ρ2 S2/\PostS X.K XQ mp2 H2 (Qd s.nxt g b n (i+1) ρ2 S2) E,fun σ2 H2 q=>⟨n,Nat.lt_succ_self n,q⟩,fun x H2 y=>?_⟩
   obtain⟨a2,r2,x2⟩:=j2 x H2 y
   have G2:=G'.aft a2 r2
   cases zg:g d ρ' with
   | none=>simp only[zg] at p'; exact p'.elim
   | some ρ1=>
    simp only[zg] at p'
    refine⟨mp',ρ',S',d,ρ1,G2,x2,zg,fun σ3 G3=>⟨mp',ρ1,S',G3,?_⟩⟩
    have p2:=PostS.aft p' a2
    cases zb:b ρ1 S' with
    | nx ρ2 S2=>simp only[zb] at p2; exact fun m h v af G4=>⟨m,ρ2,S2,(a'.trans a2).trans af,G4,PostS.aft p2 af⟩
    | ct ρ2 S2=>simp only[zb] at p2; exact fun m h v af G4=>⟨m,ρ2,S2,(a'.trans a2).trans af,G4,PostS.aft p2 af⟩
    | bk ρ2 S2=>simp only[zb] at p2; exact p2
    | rt d S2=>simp only[zb] at p2; exact p2
    | exc x ρ2 S2=>simp only[zb] at p2; exact p2
    | bad=>simp only[zb] at p2; exact p2
def Gnw:D->Sto->Out Src
 | .tup l,S=>.ok ⟨fun k _=>l[k]?,l.length+1⟩ S
 | .lst i,S=>match S[i]? with
  | some c=>.ok ⟨fun k S=>(S[i]?).bind fun c=>c.xs[k]?,c.xs.length+1⟩ S
  | none=>.bad
 | _,_=>.bad
end
section
variable{X:Cx}{XQ:XW}
def Gwl(K:PySem.W.Frag)(tl:TE):TI:=fun σ H R=>tl σ H fun x H1=>∃ a,x=.ref a/\(((∃ xs,SqL K H1 a xs)/\R (Itl K a) H1)\/((∃ xs,SqT K H1 a xs)/\R (Itt K a) H1))
theorem Gqa{tg l:Expr}{tl:TE}(hl:PE X l tl):PI X tg l (Gwl X.K tl):=by
 intro pins s σ H R I h
 refine thn (hl pins s σ H _ I h) fun v s1 ⟨x,H1,I1,r1,q1⟩=>?_
 obtain⟨a,e,q⟩:=q1
 subst e
 cases r1
 rcases q with⟨⟨xs,hq⟩,q⟩ | ⟨⟨xs,hq⟩,q⟩
 ·obtain⟨its,rv,p,hz⟩:=I1.list hq
  refine wpAny_pyIter_list p.isList ?_
  refine⟨s1.heap.objs.size,[s1.heap.objs.size],_,_,H1,rfl,I1.kept (t':=s1.toks) fun b o e=>Heap.get?_push_of_some _ e,turn_list a _,⟨_,Heap.get?_push_size _ rfl,rfl,rfl⟩,fun b hb=>?_,q⟩
  have e:b=s1.heap.objs.size:=by simpa using hb
  subst e
  exact I1.fpOk (Nat.le_refl _) (I1.hok.fresh (Nat.le_refl _))
 ·obtain⟨its,rv,p,hz⟩:=I1.tuple hq
  refine wpAny_pyIter_tuple (show s1.heap.IsTuple a its.toArray from p) ?_
  refine⟨s1.heap.objs.size,[s1.heap.objs.size],_,_,H1,rfl,I1.kept (t':=s1.toks) fun b o e=>Heap.get?_push_of_some _ e,turn_tuple a _,⟨_,Heap.get?_push_size _ rfl,rfl,rfl⟩,fun b hb=>?_,q⟩
  have e:b=s1.heap.objs.size:=by simpa using hb
  subst e
  exact I1.fpOk (Nat.le_refl _) (I1.hok.fresh (Nat.le_refl _))
def isrc(f:Ev D):Ev Src:=fun ρ S=>(f ρ S).bind Gnw
theorem Gqb{K:PySem.W.Frag}{mp:List Addr}{H:Hp}{a:Addr}{xs:List V}{l:List D}(s:SqT K H a xs)(r:RepL K mp H l xs):Gep K mp H (Itt K a) (fun k _=>l[k]?):=by
 intro mp' H' S' af rs k
 show match l[k]? with
  | some d=>(Itt K a).go k H'/\∀ x H2,(Itt K a).yld k H' x H2->Aft K mp' H' mp' H2/\RS K mp' H2 S'/\Rep K mp' H2 d x
  | none=>(Itt K a).stop k H'
 cases z:l[k]? with
 | none=>
  refine⟨xs,af.tup _ _ s,?_⟩
  rw[r.len]
  exact List.getElem?_eq_none_iff.mp z
 | some d=>
  have r':=RepL.aft af _ _ r
  obtain⟨v,e,q⟩:=r'.get z
  refine⟨⟨xs,v,af.tup _ _ s,e⟩,fun x H2 ⟨h1,h2⟩=>?_⟩
  subst h1
  have e2:=h2 xs (af.tup _ _ s)
  rw[e] at e2
  cases e2
  exact⟨.refl,rs,q⟩
theorem Gqc{K:PySem.W.Frag}{mp:List Addr}{H:Hp}{a:Addr}{i:Nat}(hi:mp[i]?=some a):Gep K mp H (Itl K a) (fun k S=>(S[i]?).bind fun c=>c.xs[k]?):=by
 intro mp' H' S' af rs k
 have hi':=af.pre i a hi
 have hl:i<S'.length:=by rw[<- rs.len]; exact(List.getElem?_eq_some_iff.mp hi').1
 have hc:S'[i]?=some S'[i]:=List.getElem?_eq_getElem hl
 obtain⟨a2,xs,e1,e2,sq,r,_⟩:=rs.items (v:=.ref a) ⟨a,rfl,hi'⟩ hc
 cases e1
 simp only[hc,Option.bind_some]
 cases z:(S'[i]).xs[k]? with
 | none=>
  refine⟨xs,sq,?_⟩
  rw[r.len]
  exact List.getElem?_eq_none_iff.mp z
 | some d=>
  obtain⟨v,e,q⟩:=r.get z
  refine⟨⟨xs,v,sq,e⟩,fun x H2 ⟨h1,h2⟩=>?_⟩
  subst h1
  have e2:=h2 xs sq
  rw[e] at e2
  cases e2
  exact⟨.refl,rs,q⟩
theorem Gqd{tg l:Expr}{f:Ev D}(hl:JE X XQ l f):JI X XQ tg l (isrc f):=by
 refine PI.mono (Gqa hl) fun σ H R ⟨mp,ρ,S,G,p⟩=>?_
 refine bindP G p fun mp1 H1 d S1 v a1 G1 r1 p1=>?_
 cases d with
 | tup ds=>
  obtain⟨a,xs,rfl,s,q⟩:=Rep.tup r1
  exact⟨a,rfl,.inr ⟨⟨xs,s⟩,Gk.ok (R:=kI X.K) (d:=⟨fun k _=>ds[k]?,ds.length+1⟩) (S:=S1) p1 G1.rs (Gqb s q)⟩⟩
 | lst i=>
  have p1:Gk X.K (kI X.K) XQ σ ρ mp1 H1 (match S1[i]? with | some c=>.ok ⟨fun k S=>(S[i]?).bind fun c=>c.xs[k]?,c.xs.length+1⟩ S1 | none=>.bad) R:=p1
  cases z:S1[i]? with
  | none=>rw[z] at p1; exact p1.elim
  | some c=>
   rw[z] at p1
   obtain⟨a,xs,rfl,ha,s,q,_⟩:=G1.rs.items r1 z
   exact⟨a,rfl,.inl ⟨⟨xs,s⟩,Gk.ok (R:=kI X.K) (d:=⟨fun k S=>(S[i]?).bind fun c=>c.xs[k]?,c.xs.length+1⟩) (S:=S1) p1 G1.rs (Gqc ha)⟩⟩
 | _=>exact(show False from p1).elim
def rsrc(lo:Int)(n:Nat):Src:=⟨fun k _=>if k<n then some (.int (lo+k)) else none,n+1⟩
theorem Gia{K:PySem.W.Frag}{mp:List Addr}{H:Hp}{lo:Int}{n:Nat}:Gep K mp H (Itr lo n) (rsrc lo n).nxt:=by
 intro mp' H' S' af rs k
 show match (if k<n then some (D.int (lo+k)) else none) with
  | some d=>(Itr lo n).go k H'/\∀ x H2,(Itr lo n).yld k H' x H2->Aft K mp' H' mp' H2/\RS K mp' H2 S'/\Rep K mp' H2 d x
  | none=>(Itr lo n).stop k H'
 by_cases h:k<n
 ·rw[if_pos h]
  refine⟨h,fun x H2 ⟨h1,h2⟩=>?_⟩
  subst h1 h2
  exact⟨.refl,rs,rfl⟩
 ·rw[if_neg h]
  exact Nat.not_lt.mp h
def ir1(f:Ev (List D)):Ev Src:=fun ρ S=>(f ρ S).bind fun ds S1=>match ds with
 | [.int j]=>if -1000000000000<=j/\j<=1000000000000 then .ok (rsrc 0 j.toNat) S1 else .bad
 | _=>.bad
def ir2(f:Ev (List D)):Ev Src:=fun ρ S=>(f ρ S).bind fun ds S1=>match ds with
 | [.int i,.int j]=>if(-1000000000000<=i/\i<=1000000000000) /\ -1000000000000<=j/\j<=1000000000000 then .ok (rsrc i (j-i).toNat) S1 else .bad
 | _=>.bad
theorem RepL.one{K:PySem.W.Frag}{mp:List Addr}{H:Hp}{d:D}{vs:List V}(h:RepL K mp H [d] vs):∃ v,vs=[v]/\Rep K mp H d v:=by
 obtain⟨v,r,rfl,h1,h2⟩:=h
 cases (show r=[] from h2)
 exact⟨v,rfl,h1⟩
theorem RepL.two{K:PySem.W.Frag}{mp:List Addr}{H:Hp}{d e:D}{vs:List V}(h:RepL K mp H [d,e] vs):∃ v w,vs=[v,w]/\Rep K mp H d v/\Rep K mp H e w:=by
 obtain⟨v,r,rfl,h1,h2⟩:=h
 obtain⟨w,rfl,h3⟩:=RepL.one h2
 exact⟨v,w,rfl,h1,h3⟩
theorem Ggp{tg a:Expr}{f:Ev (List D)}{p pos:Pos}(hg:Gl X "range")(hm:X.mg "range"=none)(ha:JA X XQ [a] f)(hs:starEach [a] X.env=[(false,eval a X.env)]:=by rfl):JI X XQ tg (.Call (.Name "range" p) [a] [] pos) (ir1 f):=by
 refine PI.mono (Ggf hg hm ha hs) fun σ H R ⟨mp,ρ,S,G,p⟩=>?_
 refine bindP G p fun mp1 H1 ds S1 vs a1 G1 r1 p1=>?_
 split at p1
 ·rename_i j
  by_cases hb : -1000000000000<=j/\j<=1000000000000
  ·rw[if_pos hb] at p1
   obtain⟨v,rfl,h1⟩:=RepL.one r1
   cases (show v=.int j from h1)
   refine⟨j,rfl,by omega,by omega,Gk.ok (R:=kI X.K) (d:=rsrc 0 j.toNat) (S:=S1) p1 G1.rs Gia⟩
  ·rw[if_neg hb] at p1; exact p1.elim
 ·exact p1.elim
theorem Ggq{tg a b:Expr}{f:Ev (List D)}{p pos:Pos}(hg:Gl X "range")(hm:X.mg "range"=none)(ha:JA X XQ [a,b] f)(hs:starEach [a,b] X.env=[(false,eval a X.env),(false,eval b X.env)]:=by rfl)(hs2:starEach [b] X.env=[(false,eval b X.env)]:=by rfl):JI X XQ tg (.Call (.Name "range" p) [a,b] [] pos) (ir2 f):=by
 refine PI.mono (Ggg hg hm ha hs hs2) fun σ H R ⟨mp,ρ,S,G,p⟩=>?_
 refine bindP G p fun mp1 H1 ds S1 vs a1 G1 r1 p1=>?_
 split at p1
 ·rename_i i j
  by_cases hb:(-1000000000000<=i/\i<=1000000000000) /\ -1000000000000<=j/\j<=1000000000000
  ·rw[if_pos hb] at p1
   obtain⟨v,w,rfl,h1,h2⟩:=RepL.two r1
   cases (show v=.int i from h1)
   cases (show w=.int j from h2)
   refine⟨i,j,rfl,⟨by omega,by omega,by omega,by omega⟩,Gk.ok (R:=kI X.K) (d:=rsrc i (j-i).toNat) (S:=S1) p1 G1.rs Gia⟩
  ·rw[if_neg hb] at p1; exact p1.elim
 ·exact p1.elim
def whN(c:Ev Bool)(b:Sv):Nat->Sv
 | 0,_,_=>.bad
 | n+1,ρ,S=>bindS (c ρ S) ρ fun t S1=>if t=true then(match b ρ S1 with
    | .nx ρ2 S2=>whN c b n ρ2 S2
    | .ct ρ2 S2=>whN c b n ρ2 S2
    | .bk ρ2 S2=>.nx ρ2 S2
    | .rt d S2=>.rt d S2
    | .exc x ρ2 S2=>.exc x ρ2 S2
    | .bad=>.bad) else .nx ρ S1
theorem Gib(fuel:Nat){c:Expr}{body:List Stmt}{fc:Ev Bool}{b:Sv}{pos:Pos}(hp:PassesOwn (model X.prog X.w) X.A X.env X.xe)(hc:JT X XQ c fc)(hb:JSs X XQ body b):JS X XQ (.While c body [] pos) (whN fc b fuel):=by
 refine PS.mono (Ghq hp hc hb) fun E σ H ⟨mp,ρ,S,G,p⟩=>?_
 refine⟨fun m σ' H'=>∃ mp' ρ' S',Gd X.K mp' H' σ' ρ' S'/\PostS X.K XQ mp' H' (whN fc b m ρ' S') E,⟨fuel,mp,ρ,S,G,p⟩,?_⟩
 rintro m σ' H' ⟨mp',ρ',S',G',p'⟩
 cases m with
 | zero=>exact(show False from p').elim
 | succ n=>
  refine bindSP G' p' fun mp1 H1 t S1 t' a1 G1 r1 p1=>?_
  cases (show t'=t from r1)
  cases t with
  | false=>exact(if_neg Bool.false_ne_true).mpr (PostS.nx (by simpa using p1) G1)
  | true=>
   refine(if_pos rfl).mpr ⟨fun σ2 H2=>∃ mp2 ρ2 S2,Gd X.K mp2 H2 σ2 ρ2 S2/\PostS X.K XQ mp2 H2 (whN fc b n ρ2 S2) E,fun σ2 H2 q=>⟨n,Nat.lt_succ_self n,q⟩,⟨mp1,ρ',S1,G1,?_⟩⟩
   simp only[if_true] at p1
   cases zb:b ρ' S1 with
   | nx ρ2 S2=>simp only[zb] at p1; exact fun m h v af G4=>⟨m,ρ2,S2,G4,PostS.aft p1 af⟩
   | ct ρ2 S2=>simp only[zb] at p1; exact fun m h v af G4=>⟨m,ρ2,S2,G4,PostS.aft p1 af⟩
   | bk ρ2 S2=>simp only[zb] at p1; exact p1
   | rt d S2=>simp only[zb] at p1; exact p1
   | exc x ρ2 S2=>simp only[zb] at p1; exact p1
   | bad=>simp only[zb] at p1; exact p1
end
abbrev Fn:=List D->Sto->Out D
def Gnx(K:PySem.W.Frag)(mp:List Addr)(H:Hp)(o:Out D)(Q:VK):Prop:=
 match o with
 | .ok d S=>∀ mp' H' v,Aft K mp H mp' H'->RS K mp' H' S->Rep K mp' H' d v->Q v H'
 | _=>False
def spD(K:PySem.W.Frag)(n:Nat)(fn:Fn):Sp:=fun vs H Q _=>∃ mp ds S,RS K mp H S/\RepL K mp H ds vs/\ds.length=n/\Gnx K mp H (fn ds S) Q
def fnB(m:Nat)(b:Sv):Fn:=fun ds S=>match b (ds.map some++List.replicate (m-ds.length) none) S with
 | .rt d S'=>.ok d S'
 | .nx _ S'=>.ok .non S'
 | .exc x _ S'=>.exc x S'
 | _=>.bad
theorem Gdo{K:PySem.W.Frag}{mp:List Addr}{H:Hp}{S:Sto}{N:List Str}{ds:List D}{vs:List V}(r:RS K mp H S)(h:RepL K mp H ds vs):Gd K mp H (start N vs) (ds.map some++List.replicate (N.length-ds.length) none) S:=by
 have hl:=h.len
 refine⟨r,by simp[L2.start,hl],fun i d e=>?_⟩
 by_cases hi:i<ds.length
 ·rw[List.getElem?_append_left (by simpa using hi),List.getElem?_map] at e
  cases z:ds[i]? with
  | none=>rw[z] at e; cases e
  | some d'=>
   rw[z] at e
   cases e
   obtain⟨v,e1,q⟩:=h.get z
   refine⟨v,?_,q⟩
   unfold L2.start
   rw[List.getElem?_append_left (by simp[hl]; exact hi),List.getElem?_map,e1]
   rfl
 ·rw[List.getElem?_append_right (by simpa using hi),List.getElem?_replicate] at e
  split at e
  ·cases e
  ·cases e
theorem Gny{P:Program}{w:World}{K:PySem.W.Frag}{mg:Str->Option Value}{base:Heap}{x qual:Str}{st:Stmt}{f:Addr}{fd:FuncData}{N ps:List Str}{k:Nat}{b:Sv}(F:Fun K x qual st f fd)(Sc:FnScope N ps (Ge st))(hb:∀ (cdv:Value) (A:Around) (outer:List PySem.Env) (s:Shared) (H:Hp) (E:XK),Room k (A.deeper (envOfC qual (Ge st) s.heap.objs.size f cdv))→
   JSs (Ko CX0 P w K mg base N qual (Ge st) f cdv A outer s H E).nox (fun _ _ _ _ _ _=>False) (Gx st) b):FnOk P w K mg base CX0 (k+1) f fd ps (spD K ps.length (fnB N.length b)):=by
 refine F.ok Sc (fun vs H Q E ⟨mp,ds,S,rs,r,hl,_⟩=>by rw[r.len]; exact hl) fun cdv A outer s H vs Q E hr ⟨mp,ds,S,rs,r,hl,p⟩=>?_
 refine⟨_,hb cdv A outer s H E hr,mp,_,S,Gdo rs r,?_⟩
 unfold fnB at p
 show PostS K _ mp H (b (ds.map some++List.replicate (N.length-ds.length) none) S) _
 cases z:b (ds.map some++List.replicate (N.length-ds.length) none) S with
 | rt d S'=>rw[z] at p; exact p
 | nx ρ' S'=>rw[z] at p; exact fun m h v af G=>p m h .non af G.rs rfl
 | bk ρ' S'=>rw[z] at p; exact p.elim
 | ct ρ' S'=>rw[z] at p; exact p.elim
 | exc x ρ' S'=>rw[z] at p; exact p.elim
 | bad=>rw[z] at p; exact p.elim
section
variable{X:Cx}{XQ:XW}{k:Nat}{f:Addr}{fd:FuncData}{ps:List Str}{fn:Fn}{x:Str}{p pos:Pos}{e:Expr}{es:List Expr}{t:Ev (List D)}
def cl(n:Nat)(fn:Fn)(t:Ev (List D)):Ev D:=fun ρ S=>(t ρ S).bind fun ds S1=>if ds.length=n then fn ds S1 else .bad
def Gs(fn:Fn):Fn:=fun ds S=>match fn ds S with
 | .ok d S'=>.ok d S'
 | _=>.bad
theorem Glf{j:Nat}(F:FnOk X.prog X.w X.K X.mg X.base CX0 j f fd ps (spD X.K ps.length fn))(hr:Room k X.A)(hj:j<=k)(hg:Gl X x)(hm:X.mg x=some (.ref f))(hk:PySem.W.keepIn X.K (.ref f)=true)(hb:Binds X.K fd ps [])
  (ha:JA X XQ (e::es) t) (hdb:(x==("__debug__":Str))=false:=by decide) (he:starEach (e::es) X.env=(false,eval e X.env)::starEach es X.env:=by rfl) (hpl:(backTo pos (starEach es X.env)).any (·.1)=false:=by rfl):
  JE X XQ (.Call (.Name x p) (e::es) [] pos) (cl ps.length (Gs fn) t):=by
 refine PE.mono (Gkw (F.mono hj) hr hg hm hk hb .nil (Gtx) ha hdb he hpl) fun σ H Q ⟨mp,ρ,S,G,p⟩=>?_
 refine bindP G p fun mp1 H1 ds S1 vs a1 G1 r1 p1=>?_
 by_cases hl:ds.length=ps.length
 ·rw[if_pos hl] at p1
  refine⟨mp1,ds,S1,G1.rs,by rw[List.append_nil]; exact r1,hl,?_⟩
  unfold Gs at p1
  cases z:fn ds S1 with
  | ok d S'=>rw[z] at p1; exact p1
  | exc x S'=>rw[z] at p1; exact p1.elim
  | bad=>rw[z] at p1; exact p1.elim
 ·rw[if_neg hl] at p1; exact p1.elim
end
theorem Gcs{prog:Program}{w:World}{A:Around}{R:Result->Shared->Prop}{s:Shared}{elt target iter:Expr}{ifs:List Expr}{scope:Scope}{pos:Pos}{it acc:Value}{env:PySem.Env}(I:Nat->Shared->Prop)(turn:∀ n s,I n s->wpAny (model prog w) A (pyNext it) (fun r s₁=>match r with
   | none=>R (.ok .next) s₁
   | some v=>wpAny (model prog w) A (letOwnedTupleGo target it v) (fun _ s₁=>wpAny (model prog w) A (assign target env v) (fun _ s₂=>
     wpAny (model prog w) A (forIn ifs true fun c r=>if r=true then do let ok <- isTrue c env (eval c env); pure (ForInStep.yield ok) else pure (ForInStep.yield r)) (fun ok s₃=>
      if ok=true then wpAny (model prog w) A (eval elt env) (fun x s₄=>
       wpAny (model prog w) A (call (.builtin "list.append") [acc,x]) (fun _ s₅=>∃ m,m<n/\I m s₅) (fun _ _=>False) s₄) (fun _ _=>False) s₃
      else ∃ m,m<n/\I m s₃) (fun _ _=>False) s₂) (fun _ _=>False) s₁) (fun _ _=>False) s₁) (fun _ _=>False) s)(n:Nat)(h:I n s):
  codeAny (model prog w) A (.compLoop (.ListComp elt [⟨target,iter,ifs,0⟩] scope pos) 0 it acc env) R s:=by
 have noE:∀ {α:Type} {m:Sem α} {Q:α->Shared->Prop} {E':Value->Shared->Prop} {s:Shared},wpAny (model prog w) A m Q (fun _ _=>False) s->wpAny (model prog w) A m Q E' s:=fun h=>wpAny_mono h (fun _ _ q=>q) fun _ _ z=>z.elim
 refine codeAny_loop rfl I (fun n s hI=>?_) n h
 show wpAny _ A ((compTurn (.ListComp elt [⟨target,iter,ifs,0⟩] scope pos) 0 it acc env).onRaise (fun x=>do noteFrame x env; theTreesLotGoes x)) _ _ s
 refine wpAny_noted ?_
 rw[compTurn_list]
 refine wpAny_bind (wpAny_standAt (wpAny_bind (noE (wpAny_mono (turn n s hI) (fun r s₁ h₁=>?_) fun _ _ z=>z))))
 cases r with
 | none=>exact wpAny_pure h₁
 | some v=>
  refine wpAny_bind (noE (wpAny_mono h₁ (fun _ s₁ h₁=>?_) fun _ _ z=>z))
  refine wpAny_bind (noE (wpAny_mono h₁ (fun _ s₂ h₂=>wpAny_bind (noE (wpAny_mono h₂ (fun ok s₃ h₃=>?_) fun _ _ z=>z))) fun _ _ z=>z))
  cases ok with
  | false=>exact wpAny_pure ⟨rfl,h₃⟩
  | true=>
   exact wpAny_bind (wpAny_bind (noE (wpAny_mono h₃ (fun x s₄ h₄=>wpAny_bind (noE (wpAny_mono h₄ (fun _ s₅ h₅=>wpAny_pure (wpAny_pure ⟨rfl,h₅⟩)) fun _ _ z=>z))) fun _ _ z=>z)))
def blk(X:Cx)(s2:Shared)(H2:Hp)(C:Addr)(scope:Scope)(cl:List (Str×Addr))(N':List Str)(fp:List Addr):Cx:=
 { X with N:=N',s₀:=s2,H₀:=H2,env:=compEnvC scope cl C X.env,outer:=X.stack,ex:=fp,fn:=fun x=>scope.names.lookup x==some NameKind.cell,pn:=[],xe:=fun _ _=>False }
structure CompSc(X:Cx)(scope:Scope)(cl:List (Str×Addr))(N':List Str)(pk:List (Option Nat)):Prop where
 kind:scope.kind=.function
 cell:∀ y∈scope.names,y.2=.cell->scope.names.lookup y.1=some .cell
 names:∀ y∈scope.names,y.2=.local->scope.names.lookup y.1=some .local
 clos:closureFor scope X.env=pure cl
 sub:∀ x c,cl.lookup x=some c->X.env.cells.lookup x=some c
 has:∀ x,((relabel scope X.env).names.lookup x=some .cell\/(relabel scope X.env).names.lookup x=some .free)->(x,NameKind.cell)∈scope.names\/∃ c,cl.lookup x=some c
 len:pk.length=N'.length
 take:∀ (i j:Nat) (x:Str),pk[i]?=some (some j)->N'[i]?=some x->X.N[j]?=some x/\(X.env.kindOf x=some .cell\/X.env.kindOf x=some .free)/\((relabel scope X.env).names.lookup x=some .cell\/(relabel scope X.env).names.lookup x=some .free)/\scope.names.lookup x=some .free
def pkS{α:Type}(pk:List (Option Nat))(σ:List (Option α)):List (Option α):=pk.map fun o=>o.bind fun j=>(σ[j]?).bind id
def PTs(Y:Cx)(ifs:List Expr)(t:TT):Prop:=
 ∀ (pins:List (Addr×Obj)) (s:Shared) (σ:L2.St) (H:Hp) (Q:Bool->Hp->Prop),Inv Y pins σ H s->t σ H Q→
  wpAny (model Y.prog Y.w) Y.A (forIn ifs true fun c r=>if r=true then do let ok <- isTrue c Y.env (eval c Y.env); pure (ForInStep.yield ok) else pure (ForInStep.yield r)) (TP Y pins σ Q) Y.xe s
theorem Glg{Y:Cx}:PTs Y [] (fun _ H Q=>Q true H):=fun _ _ _ H _ I h=>wpAny_tests_nil ⟨H,I,h⟩
theorem Glh{Y:Cx}{c:Expr}{t:TT}(h:PT Y c t):PTs Y [c] t:=fun pins s σ H Q I q=>wpAny_tests_one (h pins s σ H Q I q)
def Gic(wi:TI)(pk:List (Option Nat))(g:TG)(tt:TT)(te:TE):TE:=fun σ H Q=>wi σ H fun J H1=>∀ a,H1 a=none->∃ W:Nat->Nat->L2.St->Hp->Prop,(∃ m,W 0 m (pkS pk σ) (upd H1 a (.lst [])))/\∀ i m σ' H',W i m σ' H'→
 (J.stop i H'/\Q (.ref a) H')\/(J.go i H'/\∀ x H2,J.yld i H' x H2->g x σ' H2 fun σ3 H3=>tt σ3 H3 fun b H4=>if b=true then te σ3 H4 fun v H5=>∃ xs,H5 a=some (.lst xs)/\xs.length<sizeLine/\∃ m',m'<m/\W (i+1) m' σ3 (upd H5 a (.lst (xs++[v])))
  else ∃ m',m'<m/\W (i+1) m' σ3 H4)
theorem Gid{P:Program}{w:World}{H:Hp}{h h':Heap}{C:Addr}(k:HOk P w H h)(hn:H C=none)(hs:Heap.SameBut C h h'):HOk P w H h':=fun b ob e=>by
 refine(k b ob e).stay (fun c w' hc q=>(hs.2 c ?_).trans q) (fun _ q=>q) fun _ _ q=>q
 rintro rfl
 rcases hc with rfl | hc
 ·rw[hn] at e; cases e
 ·rw[hn] at hc; cases hc
theorem Hr:∀ (names:List (Str×NameKind)) (n:Nat) (acc:List (Str×Addr)),cellsFrom n names acc=cellsFrom n names []++acc
 | [],_,_=>rfl
 | (x,k)::r,n,acc=>by
  unfold cellsFrom
  by_cases hk:(k==NameKind.cell)=true
  ·rw[if_pos hk,if_pos hk,Hr r (n+1) ((x,n)::acc),Hr r (n+1) [(x,n)],List.append_assoc]
   rfl
  ·rw[if_neg hk,if_neg hk,Hr r n acc]
theorem Up:∀ (names:List (Str×NameKind)) (n:Nat) (x:Str) (c:Addr),(x,c)∈cellsFrom n names []->(x,NameKind.cell)∈names
 | [],_,_,_,h=>by simp[cellsFrom] at h
 | (y,k)::r,n,x,c,h=>by
  unfold cellsFrom at h
  by_cases hk:(k==NameKind.cell)=true
  ·rw[if_pos hk,Hr] at h
   rcases List.mem_append.mp h with h | h
   ·exact List.mem_cons_of_mem _ (Up r (n+1) x c h)
   ·have:x=y:=by simpa using(List.mem_singleton.mp h▸rfl:(x,c).1=(y,n).1)
    have hk:k=.cell:=by simpa using hk
    subst this hk
    exact List.mem_cons_self
  ·rw[if_neg hk] at h
   exact List.mem_cons_of_mem _ (Up r n x c h)
theorem Qy{x:Str}:∀ (a b:List (Str×Addr)),(a++b).lookup x=match a.lookup x with
  | some c=>some c
  | none=>b.lookup x
 | [],_=>rfl
 | (y,c)::r,b=>by
  rw[List.cons_append,List.lookup_cons,List.lookup_cons]
  cases h:x==y with
  | true=>rfl
  | false=>exact Qy r b
theorem Ku:∀ (names:List (Str×NameKind)) (n:Nat) (x:Str),(x,NameKind.cell)∈names->∃ c,(cellsFrom n names []).lookup x=some c
 | [],_,_,h=>by simp at h
 | (y,k)::r,n,x,h=>by
  unfold cellsFrom
  by_cases hx:(x,NameKind.cell)∈r
  ·by_cases hk:(k==NameKind.cell)=true
   ·rw[if_pos hk,Hr,Qy]
    obtain⟨c,hc⟩:=Ku r (n+1) x hx
    rw[hc]; exact⟨c,rfl⟩
   ·rw[if_neg hk]
    exact Ku r n x hx
  ·rcases List.mem_cons.mp h with h | h
   ·cases h
    rw[if_pos (by rfl),Hr,Qy]
    cases e:(cellsFrom (n+1) r []).lookup y with
    | some c=>exact⟨c,rfl⟩
    | none=>exact⟨n,by simp[List.lookup_cons]⟩
   ·exact absurd h hx
theorem Zq{M:Model}{A:Around}{E:Value->Shared->Prop}{s:Shared}{scope:Scope}{globals:Addr}{cl:List (Str×Addr)}{qual:Str}{env:PySem.Env}{Q:PySem.Env->Shared->Prop}
  (hQ:∀ h',h'=pushCells (s.heap.push { cls:=.type "dict",data:=.dict #[] }) scope.names→
   Q { scope:=scope,locals:=s.heap.objs.size,globals:=globals,cells:=cellsFrom (s.heap.objs.size+1) scope.names cl,qual:=qual,func:=none,code:=env.code,frame:=env.frame,builtins:=env.builtins } { s with heap:=h' }):
  wpAny M A (newFunctionEnv scope globals cl [] qual none .none (some env)) Q E s:=by
 simp only[newFunctionEnv,Option.isSome_some,if_true]
 refine wpAny_bind (wpAny_alloc ?_)
 refine wpAny_bind (wpAny_layCells _ (fun name kind cells=>by cases hkc:kind==NameKind.cell<;>simp[hkc]) _ _ _ _ ?_)
 rw[show({ s with heap:=s.heap.push { cls:=.type "dict",data:=.dict #[] } }:Shared).heap.objs.size=s.heap.objs.size+1 from Heap.size_push ..]
 rw[List.forIn_nil]
 exact wpAny_bind (wpAny_pure (wpAny_pure (hQ _ rfl)))
section
variable{X:Cx}
theorem Gad{elt tg iter:Expr}{ifs:List Expr}{scope:Scope}{pos:Pos}{cl:List (Str×Addr)}{N':List Str}{pk:List (Option Nat)}{g:TG}{tt:TT}{te:TE}(cs:CompSc X scope cl N' pk)(hcm:X.calm=true)
  (hg:∀ cl s2 H2 C fp,PG (blk X s2 H2 C scope cl N' fp) tg g) (ht:∀ cl s2 H2 C fp,PTs (blk X s2 H2 C scope cl N' fp) ifs tt) (he:∀ cl s2 H2 C fp,PE (blk X s2 H2 C scope cl N' fp) elt te)
  {pins:List (Addr×Obj)} {σ:L2.St} {H2:Hp} {s2:Shared} {it:Addr} {fp:List Addr} {tn:Nat->Heap->Prop} {J:It} (I2:Inv X pins σ H2 s2) (T:Turn X.prog X.w X.K tg J fp it tn) (st2:tn 0 s2.heap) (f2:∀ b∈fp,Zx X pins H2 b)
  {Q:VK} (hQ:∀ a,H2 a=none->∃ W:Nat->Nat->L2.St->Hp->Prop,(∃ m,W 0 m (pkS pk σ) (upd H2 a (.lst [])))/\∀ i m σ' H',W i m σ' H'→
   (J.stop i H'/\Q (.ref a) H')\/(J.go i H'/\∀ x H3,J.yld i H' x H3->g x σ' H3 fun σ3 H3=>tt σ3 H3 fun b H4=>if b=true then te σ3 H4 fun v H5=>∃ xs,H5 a=some (.lst xs)/\xs.length<sizeLine/\∃ m',m'<m/\W (i+1) m' σ3 (upd H5 a (.lst (xs++[v])))
    else ∃ m',m'<m/\W (i+1) m' σ3 H4)) {E:Value->Shared->Prop} {RR:Value->Addr->Result->Shared->Prop}
  (hRR:∀ D C s' (H':Hp),Q (.ref D) H'->(∃ m,s'.heap.Ns C m)->Inv X pins σ H' s'->H' C=none->s2.heap.objs.size<=C->RR (.ref D) C (.ok .next) s'):
  wpAny (model X.prog X.w) X.A (newList []) (fun acc s₃=>wpAny (model X.prog X.w) X.A (newFunctionEnv scope X.env.globals cl [] X.env.qual none .none (some X.env)) (fun cenv s₄=>
   codeAny (model X.prog X.w) X.A (.compStart (.ListComp elt [⟨tg,iter,ifs,0⟩] scope pos) 0 (.ref it) acc { cenv with scope:=relabel scope X.env }) (RR acc cenv.locals) s₄) E s₃) E s2:=by
 have hD:H2 s2.heap.objs.size=none:=I2.hok.fresh (Nat.le_refl _)
 obtain⟨W,⟨m0,w0⟩,turn⟩:=hQ s2.heap.objs.size hD
 refine wpAny_newObj_type (Zq (fun h₁ hh₁=>?_))
 dsimp only at hh₁ ⊢
 generalize hHh:s2.heap.push { cls:=.type "list",dict:=none,data:=.seq ([]:List Value).toArray }=Hh at hh₁ ⊢
 have hC:Hh.objs.size=s2.heap.objs.size+1:=by rw[<- hHh,Heap.size_push]
 have hDC:s2.heap.objs.size≠Hh.objs.size:=by rw[hC]; exact Nat.ne_of_lt (Nat.lt_succ_self _)
 have hCle:s2.heap.objs.size<=Hh.objs.size:=by rw[hC]; exact Nat.le_succ _
 have below:∀ b,b<s2.heap.objs.size->b≠Hh.objs.size/\b≠s2.heap.objs.size:=fun b hb=>⟨by rw[hC]; exact Nat.ne_of_lt (Nat.lt_succ_of_lt hb),Nat.ne_of_lt hb⟩
 have hns₁:h₁.Ns Hh.objs.size (fun _=>none):=by rw[hh₁]; exact(Heap.Ns.new Hh (.type "dict")).keeps (pushCells_keeps _ _)
 have old0:∀ b o,Hh.get? b=some o->h₁.get? b=some o:=fun b o e=>by rw[hh₁]; exact pushCells_keeps _ _ b o (Heap.get?_push_of_some _ e)
 have old:∀ b o,s2.heap.get? b=some o->h₁.get? b=some o:=fun b o e=>old0 b o (by rw[<- hHh]; exact Heap.get?_push_of_some _ e)
 have hacc:h₁.get? s2.heap.objs.size=some { cls:=.type "list",dict:=none,data:=.seq ([]:List Value).toArray }:=old0 _ _ (by rw[<- hHh]; exact Heap.get?_push_size _ rfl)
 have own:=cellsFrom_ok scope.names (Hh.push { cls:=.type "dict",data:=.dict #[] }) (Hh.objs.size+1) [] ⟨fun _ _ hm=>(nomatch hm),List.Pairwise.nil⟩ (by rw[Heap.size_push]; exact Nat.le_refl _)
 rw[Heap.size_push,<- hh₁] at own
 generalize hcs:cellsFrom (Hh.objs.size+1) scope.names cl=cs' at *
 have csl:∀ x c,cs'.lookup x=some c->((x,c)∈cellsFrom (Hh.objs.size+1) scope.names []/\h₁.IsCell c none/\Hh.objs.size+1<=c/\scope.names.lookup x=some .cell)\/((x,NameKind.cell)∉scope.names/\X.env.cells.lookup x=some c):=fun x c h=>by
  rw[<- hcs,Hr,Qy] at h
  cases e:(cellsFrom (Hh.objs.size+1) scope.names []).lookup x with
  | some c'=>
   rw[e] at h
   cases h
   have m:=mem_of_lookup e
   exact .inl ⟨m,(own.empty x c m).1,(own.empty x c m).2,cs.cell (x,.cell) (Up _ _ _ _ m) rfl⟩
  | none=>
   rw[e] at h
   refine .inr ⟨fun hm=>?_,cs.sub x c h⟩
   obtain⟨c',q⟩:=Ku scope.names (Hh.objs.size+1) x hm
   rw[e] at q; cases q
 have cshas:∀ x,((relabel scope X.env).names.lookup x=some .cell\/(relabel scope X.env).names.lookup x=some .free)->∃ c,cs'.lookup x=some c:=fun x h=>by
  rw[<- hcs,Hr,Qy]
  cases e:(cellsFrom (Hh.objs.size+1) scope.names []).lookup x with
  | some c=>exact⟨c,rfl⟩
  | none=>
   rcases cs.has x h with hm | hm
   ·obtain⟨c',q⟩:=Ku scope.names (Hh.objs.size+1) x hm
    rw[e] at q; cases q
   ·exact hm
 have lts:∀ x c,X.env.cells.lookup x=some c->c<s2.heap.objs.size:=fun x c h=>by
  obtain⟨v,o,ho,hd⟩:=I2.cell x c h
  exact Heap.lt_size ho
 let Y:=blk X s2 H2 Hh.objs.size scope cs' N' fp
 have fpLt:∀ b∈fp,b<s2.heap.objs.size:=fun b hb=>by
  obtain⟨o,e,_⟩:=T.obj _ _ st2 b hb
  exact Heap.lt_size e
 have okY:Y.Ok:=by
  refine⟨I2.ok.mod,(by show(relabel scope X.env).kind=.function; exact cs.kind),I2.ok.glob,I2.ok.blt,hCle,fun x y c h1 h2=>?_,cshas,(fun x c z h=>by
   rcases csl x c h with⟨_,_,q,_⟩ | ⟨q,_⟩
   ·show s2.heap.objs.size<=c
    rw[hC] at q; omega
   ·have z:scope.names.lookup x=some .cell:=by simpa[Y,blk] using z
    exact absurd (mem_of_lookup z) q),I2.ok.hd,I2.ok.frames,.inl rfl,fun b hb=>⟨Nat.ne_of_lt (by rw[show Y.env.locals=Hh.objs.size from rfl,hC]; exact Nat.lt_succ_of_lt (fpLt b hb)),fun x c h=>by
   rcases csl x c h with⟨_,_,q,_⟩ | ⟨_,q⟩
   ·exact fun z=>absurd (Nat.lt_of_lt_of_le (fpLt b hb) (Nat.le_trans (by rw[hC]; omega) (z▸q))) (Nat.lt_irrefl _)
   ·exact(f2 b hb).2.2.2.2.1 x c q⟩,I2.bs,Nat.le_trans I2.ok.bsz I2.sz,fun b o e hb=>?_,fun b hb hs=>?_,I2.stack,I2.stkFree⟩
  ·rcases csl x c h1 with⟨m1,_,q1,_⟩ | ⟨_,q1⟩<;>rcases csl y c h2 with⟨m2,_,q2,_⟩ | ⟨_,q2⟩
   ·exact name_of_addr own.apart m1 m2
   ·exact absurd (Nat.lt_of_lt_of_le (lts y c q2) (Nat.le_trans (by rw[hC]; omega) q1)) (Nat.lt_irrefl _)
   ·exact absurd (Nat.lt_of_lt_of_le (lts x c q1) (Nat.le_trans (by rw[hC]; omega) q2)) (Nat.lt_irrefl _)
   ·exact I2.ok.inj x y c q1 q2
  ·rcases(f2 b hb).2.2.2.1 with z | z
   ·exact I2.ok.noex b o e z
   ·exact absurd (Nat.lt_of_lt_of_le (Heap.lt_size e) (Nat.le_trans I2.ok.bsz z)) (Nat.lt_irrefl _)
  ·rcases List.mem_cons.mp (I2.stkSub b hs) with z | z
   ·exact(f2 b hb).2.1 z
   ·exact(f2 b hb).2.2.1 z
 have hokY:HOk X.prog X.w (upd H2 s2.heap.objs.size (.lst [])) h₁:=I2.hok.laid old (Nat.le_refl _) ⟨by decide,[],0,.nil,hacc⟩
 have IY:∀ tk,Inv Y [] (pkS pk σ) (upd H2 s2.heap.objs.size (.lst [])) { s2 with heap:=h₁,toks:=tk }:=fun tk=>by
  refine⟨okY,rfl,I2.bare,?_,⟨_,hns₁,fun i x v h1 h2 h3=>?_⟩,fun x c h=>?_,?_,fun x c h=>?_,fun p hp=>absurd (show p∈([]:List (Addr×Obj)) from hp) (by simp),hokY,by show(pkS pk σ).length=N'.length; rw[<- cs.len]; simp[pkS]⟩
  ·exact Un.laid old (Nat.le_refl _) hD
  ·unfold pkS at h2
   rw[List.getElem?_map] at h2
   cases e:pk[i]? with
   | none=>rw[e] at h2; cases h2
   | some o=>
    rw[e] at h2
    cases o with
    | none=>cases h2
    | some j=>
     have h2:(σ[j]?).bind id=some v:=Option.some.inj h2
     have h2:σ[j]?=some (some v):=by
      cases z:σ[j]? with
      | none=>rw[z] at h2; cases h2
      | some q=>
       rw[z] at h2
       have h2:q=some v:=h2
       rw[h2]
     obtain⟨n1,n2,n3,n4⟩:=cs.take i j x e h1
     obtain⟨m,_,hl⟩:=I2.loc
     have vis:Vis X.env.scope x:=by
      rcases n2 with n2 | n2
      ·exact .inr (.inl n2)
      ·exact .inr (.inr n2)
     obtain⟨u,r,l⟩:=hl j x v n1 h2 vis
     refine⟨u,r,.inr ⟨n3,?_⟩⟩
     rcases l with⟨k,_⟩ | ⟨_,c,hc,⟨o,ho,hd⟩⟩
     ·rcases n2 with n2 | n2<;>rw[k] at n2<;>cases n2
     ·obtain⟨c',hc'⟩:=cshas x n3
      rcases csl x c' hc' with⟨_,_,_,q⟩ | ⟨_,e2⟩
      ·rw[n4] at q; cases q
      rw[hc] at e2
      cases e2
      exact⟨c,hc',o,old c o ho,hd⟩
  ·rcases csl x c h with⟨_,q,_,_⟩ | ⟨_,q⟩
   ·exact⟨none,q⟩
   obtain⟨v,o,ho,hd⟩:=I2.cell x c q
   exact⟨v,o,old c o ho,hd⟩
  ·show upd H2 s2.heap.objs.size (.lst []) Hh.objs.size=none
   rw[Gr (Ne.symm hDC)]
   exact I2.hok.fresh hCle
  ·rcases csl x c h with⟨_,_,z,_⟩ | ⟨_,z⟩
   ·show upd H2 s2.heap.objs.size (.lst []) c=none
    have z:s2.heap.objs.size+2<=c:=by rw[hC] at z; exact z
    rw[Gr (Nat.ne_of_gt (by omega:s2.heap.objs.size<c))]
    exact I2.hok.fresh (by omega)
   have q:=I2.freeC x c z
   obtain⟨v,o,ho,hd⟩:=I2.cell x c z
   show upd H2 s2.heap.objs.size (.lst []) c=none
   rw[Gr (below c (Heap.lt_size ho)).2]
   exact q
 have stat:∀ {H':Hp},(∀ b∈fp,H' b=none)->∀ b∈fp,Zx Y [] H' b:=fun hn b hb=>
  ⟨hn b hb,(okY.exf b hb).1,okY.exfs b hb,.inl hb,(okY.exf b hb).2,fun p hp=>absurd (show p∈([]:List (Addr×Obj)) from hp) (by simp)⟩
 have fin:∀ (H':Hp) (σ':L2.St) (s':Shared),Inv Y [] σ' H' s'->∀ h',Heap.SameBut Hh.objs.size s'.heap h'->Inv X pins σ H' { s' with heap:=h' }:=fun H' σ' s' I' h' hs=>by
  have sub:∀ b o,s2.heap.get? b=some o->b≠Hh.objs.size:=fun b o e=>(below b (Heap.lt_size e)).1
  have un:Un (frs X.stack) fp H2 H' s2.heap s'.heap:=I'.base
  refine I2.call' (ch:=fp) I'.os ⟨fun b o e n hb hx=>(hs.2 b (sub b o e)).trans (un.keep b o e n hb hx),fun b o e n hb hx=>?_,un.free,fun b o e hx=>?_,un.tups,un.frzs,un.tbls⟩ (Gid I'.hok I'.free hs) I'.bare fun b hb=>⟨(f2 b hb).2.2.2.1,(f2 b hb).2.1,(f2 b hb).2.2.2.2.1,(f2 b hb).2.2.2.2.2⟩
  ·obtain⟨sl,q⟩:=un.slot b o e n hb hx
   exact⟨sl,(hs.2 b (sub b o e)).trans q⟩
  ·obtain⟨o',q⟩:=un.there b o e hx
   exact⟨o',(hs.2 b (sub b o e)).trans q⟩
 have loop:∀ s3:Shared,(∃ tk,s3={ s2 with heap:=h₁,toks:=tk })→
   codeAny (model X.prog X.w) X.A (.compLoop (.ListComp elt [⟨tg,iter,ifs,0⟩] scope pos) 0 (.ref it) (.ref s2.heap.objs.size) (compEnvC scope cs' Hh.objs.size X.env)) (RR (.ref s2.heap.objs.size) Hh.objs.size) s3:=by
  rintro s3 ⟨tk,rfl⟩
  refine Gcs (fun n s'=>∃ i σ' H',Inv Y [] σ' H' s'/\tn i s'.heap/\(∀ b∈fp,H' b=none)/\W i n σ' H') ?_ m0 ⟨0,_,_,IY tk,T.keep _ _ _ st2 (fun b _ o e=>old b o e),fun b hb=>by rw[Gr (below b (fpLt b hb)).2]; exact(f2 b hb).1,w0⟩
  rintro n s4 ⟨i,σ4,H4,I4,st4,fr4,w4⟩
  rcases turn i n σ4 H4 w4 with⟨stop,qn⟩ | ⟨go,step⟩
  ·refine wpAny_mono (T.done Y rfl rfl rfl hcm i [] s4 σ4 H4 (fun _ _=>False) I4 (stat fr4) st4 stop) (fun r s5 ⟨hr,I5⟩=>?_) fun _ _ z=>z
   subst hr
   obtain⟨m,hn,_⟩:=I5.loc
   exact hRR _ _ s5 H4 qn ⟨m,hn⟩ (fin H4 σ4 s5 I5 s5.heap (.refl ..)) I5.free hCle
  ·refine wpAny_mono (T.item Y rfl rfl rfl hcm i [] s4 σ4 H4 (fun _ _=>False) I4 (stat fr4) st4 go) (fun r s5 ⟨u,hr,h5⟩=>?_) fun _ _ z=>z
   subst hr
   refine wpAny_mono h5 (fun _ s6 ⟨x,H6,I6,r6,y6,st6,fr6⟩=>?_) fun _ _ z=>z
   have I6':=I6.pinned (stat fr6) (T.obj _ _ st6)
   refine wpAny_mono (hg cs' s2 H2 Hh.objs.size fp _ s6 σ4 H6 x u _ I6' r6 (step x H6 y6)) (fun _ s7 ⟨σ7,H7,I7,q7⟩=>?_) fun _ _ z=>z
   refine wpAny_mono (ht cs' s2 H2 Hh.objs.size fp _ s7 σ7 H7 _ I7 q7) (fun ok s8 ⟨H8,I8,q8⟩=>?_) fun _ _ z=>z
   have back:∀ {σ9:L2.St} {H9:Hp} {s9:Shared},Inv Y ([]++Zy fp s6.heap) σ9 H9 s9->Inv Y [] σ9 H9 s9/\tn (i+1) s9.heap/\∀ b∈fp,H9 b=none:=fun{σ9 H9 s9} I9=>
    ⟨I9.unpinned,T.keep _ _ _ st6 fun b hb o e=>(I9.pin (b,o) (List.mem_append_right _ (List.mem_append_right _ (Vk hb e)))).1,fun b hb=>by
     obtain⟨o,e,d⟩:=T.obj _ _ st6 b hb
     exact(I9.pin (b,o) (List.mem_append_right _ (List.mem_append_right _ (Vk hb e)))).2.1⟩
   cases ok with
   | false=>
    obtain⟨m',hm,w'⟩:=(if_neg Bool.false_ne_true).mp q8
    obtain⟨b1,b2,b3⟩:=back I8
    exact(if_neg Bool.false_ne_true).mpr ⟨m',hm,i+1,σ7,H8,b1,b2,b3,w'⟩
   | true=>
    refine(if_pos rfl).mpr ?_
    refine wpAny_mono (he cs' s2 H2 Hh.objs.size fp _ s8 σ7 H8 _ I8 ((if_pos rfl).mp q8)) (fun ux s9 ⟨v,H9,I9,r9,xs,ex,hx,m',hm,w'⟩=>?_) fun _ _ z=>z
    refine wpAny_mono (Gb3 (X:=Y) _ s9 σ7 H9 (.ref s2.heap.objs.size) [v] (.ref s2.heap.objs.size) [ux] (fun _ H'=>H'=upd H9 s2.heap.objs.size (.lst (xs++[v]))) I9 rfl (.cons r9 .nil) ⟨_,xs,v,rfl,rfl,ex,hx,rfl⟩) (fun _ s10 ⟨_,H10,I10,_,e10⟩=>?_) fun _ _ z=>z
    subst e10
    obtain⟨b1,b2,b3⟩:=back I10
    exact⟨m',hm,i+1,σ7,_,b1,b2,b3,w'⟩
 exact codeAny_compStart_list (loop _ ⟨_,rfl⟩) (T.self _ 0 _ _ _ (T.keep _ _ _ st2 fun b _ o e=>old b o e) (loop _ ⟨_,rfl⟩))
theorem Gfp{pins:List (Addr×Obj)}{σ σ2:L2.St}{H2 H':Hp}{s2 s':Shared}{C:Addr}{h':Heap}(I2:Inv X pins σ2 H2 s2)(I:Inv X pins σ H' s')(hn:H' C=none)(hC:s2.heap.objs.size<=C)(hs:Heap.SameBut C s'.heap h'):Inv X pins σ H' { s' with heap:=h' }:=by
 refine I.turned (t':=s'.toks) (it:=C) (fun b o hb e=>(hs.2 b hb).trans e) hn (fun z=>?_) (.inr (Nat.le_trans I2.sz hC)) (fun x c h z=>?_) fun p hp z=>?_
 ·exact absurd (Nat.lt_of_lt_of_le I2.lt (by rw[<- z]; exact hC)) (Nat.lt_irrefl _)
 ·obtain⟨v,q⟩:=I2.cell x c h
  exact absurd (Nat.lt_of_lt_of_le q.lt (by rw[z]; exact hC)) (Nat.lt_irrefl _)
 ·exact absurd (Nat.lt_of_lt_of_le (Heap.lt_size (I2.pin p hp).1) (by rw[z]; exact hC)) (Nat.lt_irrefl _)
theorem Xq{env:PySem.Env}:∀ (names:List (Str×NameKind)) (acc:List (Str×Addr)),(∀ x∈names,x.2=.free->∃ c,env.cells.lookup x.1=some c)->(∀ x c,acc.lookup x=some c->env.cells.lookup x=some c)→
  ∃ cl,(forIn names acc fun x cs=>(if(x.2==NameKind.free)=true then do let c <- cellOf env x.1; pure (ForInStep.yield ((x.1,c)::cs)) else pure (ForInStep.yield cs):Sem _))=pure cl/\(∀ x c,cl.lookup x=some c->env.cells.lookup x=some c)∧
   (∀ x,(∃ c,acc.lookup x=some c)\/(x,NameKind.free)∈names->∃ c,cl.lookup x=some c)
 | [],acc,_,ha=>⟨acc,rfl,ha,fun x h=>by
   rcases h with h | h
   ·exact h
   ·simp at h⟩
 | (n,k)::r,acc,hn,ha=>by
  have hr:∀ x∈r,x.2=.free->∃ c,env.cells.lookup x.1=some c:=fun x hx=>hn x (List.mem_cons_of_mem _ hx)
  by_cases hk:k=.free
  ·subst hk
   obtain⟨c,hc⟩:=hn (n,.free) List.mem_cons_self rfl
   obtain⟨cl,e,h1,h2⟩:=Xq r ((n,c)::acc) hr (fun x c' h=>by
    rw[List.lookup_cons] at h
    by_cases hx:(x==n)=true
    ·rw[hx] at h
     cases h
     have:x=n:=by simpa using hx
     rw[this]; exact hc
    ·have hx:(x==n)=false:=by simpa using hx
     rw[hx] at h
     exact ha x c' h)
   refine⟨cl,?_,h1,fun x h=>h2 x ?_⟩
   ·rw[List.forIn_cons]
    simp only[beq_self_eq_true,if_true]
    have q:cellOf env n=pure c:=by unfold cellOf; rw[hc]
    rw[q]
    exact e
   ·rcases h with⟨c',h⟩ | h
    ·left
     rw[List.lookup_cons]
     by_cases hx:(x==n)=true
     ·rw[hx]; exact⟨c,rfl⟩
     ·have hx:(x==n)=false:=by simpa using hx
      rw[hx]; exact⟨c',h⟩
    ·rcases List.mem_cons.mp h with h | h
     ·left
      cases h
      exact⟨c,by rw[List.lookup_cons,beq_self_eq_true]⟩
     ·exact .inr h
  ·have hb:(k==NameKind.free)=false:=by simpa using hk
   obtain⟨cl,e,h1,h2⟩:=Xq r acc hr ha
   refine⟨cl,?_,h1,fun x h=>h2 x ?_⟩
   ·rw[List.forIn_cons]
    simp only[hb,Bool.false_eq_true,if_false]
    exact e
   ·rcases h with h | h
    ·exact .inl h
    ·rcases List.mem_cons.mp h with h | h
     ·cases h; exact absurd rfl hk
     ·exact .inr h
theorem Geq{env:PySem.Env}{scope:Scope}(hn:∀ x∈scope.names,x.2=.free->∃ c,env.cells.lookup x.1=some c):∃ cl,closureFor scope env=pure cl/\(∀ x c,cl.lookup x=some c->env.cells.lookup x=some c)/\(∀ x,(x,NameKind.free)∈scope.names->∃ c,cl.lookup x=some c):=by
 obtain⟨cl,e,h1,h2⟩:=Xq (env:=env) scope.names [] hn (fun x c h=>by simp at h)
 refine⟨cl,?_,h1,fun x h=>h2 x (.inr h)⟩
 unfold closureFor
 have e2:(forIn scope.names ([]:List (Str×Addr)) fun x r=>(match x with
   | (name,kind)=>if(kind==NameKind.free)=true then do let c <- cellOf env name; pure (ForInStep.yield ((name,c)::r)) else pure (ForInStep.yield r):Sem _))=pure cl:=e
 first
  | exact congrArg (fun m=>m >>= fun cs=>pure cs) e2
  | (show(do let cs <- forIn scope.names ([]:List (Str×Addr)) fun x r=>_; pure cs)=_; rw[e2]; rfl)
structure CompTab(sc scope:Scope)(N N':List Str)(pk:List (Option Nat)):Prop where
 kind:scope.kind=.function
 cell:∀ y∈scope.names,y.2=.cell->scope.names.lookup y.1=some .cell
 names:∀ y∈scope.names,y.2=.local->scope.names.lookup y.1=some .local
 free:∀ y∈scope.names,y.2=.free->sc.names.lookup y.1=some .cell\/sc.names.lookup y.1=some .free
 len:pk.length=N'.length
 take:((List.range N'.length).all fun i=>match pk[i]? with
  | some (some j)=>match N[j]?,N'[i]? with
   | some x,some y=>(x==y)&&((sc.names.lookup y==some NameKind.cell)||(sc.names.lookup y==some NameKind.free))&&(scope.names.lookup y==some NameKind.free)
   | _,_=>false
  | _=>true)=true
theorem Wn{scope:Scope}{env:PySem.Env}{x:Str}:∀ (names:List (Str×NameKind)),((names.map fun(n,k)=>if(k==NameKind.free&&env.scope.kind==.function&&env.kindOf n==some .cell)=true then(n,NameKind.cell) else(n,k)).lookup x=some .cell∨
   (names.map fun(n,k)=>if(k==NameKind.free&&env.scope.kind==.function&&env.kindOf n==some .cell)=true then(n,NameKind.cell) else(n,k)).lookup x=some .free)->(x,NameKind.cell)∈names\/(x,NameKind.free)∈names
 | [],h=>by simp at h
 | (n,k)::r,h=>by
  rw[List.map_cons] at h
  by_cases hx:(x==n)=true
  ·have e:x=n:=by simpa using hx
   subst e
   by_cases hq:(k==NameKind.free&&env.scope.kind==.function&&env.kindOf x==some .cell)=true
   ·have:k=.free:=by
     rw[Bool.and_eq_true,Bool.and_eq_true] at hq
     simpa using hq.1.1
    subst this
    exact .inr List.mem_cons_self
   ·simp only[hq,Bool.false_eq_true,if_false,List.lookup_cons,beq_self_eq_true] at h
    rcases h with h | h
    ·have:k=.cell:=by simpa using h
     subst this
     exact .inl List.mem_cons_self
    ·have:k=.free:=by simpa using h
     subst this
     exact .inr List.mem_cons_self
  ·have hx:(x==n)=false:=by simpa using hx
   refine(Wn (scope:=scope) (env:=env) r ?_).imp (List.mem_cons_of_mem _) (List.mem_cons_of_mem _)
   by_cases hq:(k==NameKind.free&&env.scope.kind==.function&&env.kindOf n==some .cell)=true
   ·simpa only[hq,if_true,List.lookup_cons,hx] using h
   ·simpa only[hq,Bool.false_eq_true,if_false,List.lookup_cons,hx] using h
theorem Ju{scope:Scope}{env:PySem.Env}{x:Str}:∀ (names:List (Str×NameKind)),names.lookup x=some .free->((names.map fun(n,k)=>if(k==NameKind.free&&env.scope.kind==.function&&env.kindOf n==some .cell)=true then(n,NameKind.cell) else(n,k)).lookup x=some .cell∨
   (names.map fun(n,k)=>if(k==NameKind.free&&env.scope.kind==.function&&env.kindOf n==some .cell)=true then(n,NameKind.cell) else(n,k)).lookup x=some .free)
 | [],h=>by simp at h
 | (n,k)::r,h=>by
  rw[List.map_cons]
  by_cases hx:(x==n)=true
  ·rw[List.lookup_cons,hx] at h
   have:k=.free:=by simpa using h
   subst this
   by_cases hq:(NameKind.free==NameKind.free&&env.scope.kind==.function&&env.kindOf n==some .cell)=true
   ·left; simp only[hq,if_true,List.lookup_cons,hx]
   ·right; simp only[hq,Bool.false_eq_true,if_false,List.lookup_cons,hx]
  ·have hx:(x==n)=false:=by simpa using hx
   rw[List.lookup_cons,hx] at h
   have:=Ju (scope:=scope) (env:=env) r h
   by_cases hq:(k==NameKind.free&&env.scope.kind==.function&&env.kindOf n==some .cell)=true
   ·simpa only[hq,if_true,List.lookup_cons,hx] using this
   ·simpa only[hq,Bool.false_eq_true,if_false,List.lookup_cons,hx] using this
theorem CompTab.sc{scope:Scope}{N':List Str}{pk:List (Option Nat)}(t:CompTab X.env.scope scope X.N N' pk)(ok:X.Ok):∃ cl,CompSc X scope cl N' pk:=by
 obtain⟨cl,e,h1,h2⟩:=Geq (env:=X.env) (scope:=scope) fun x hx hf=>ok.has x.1 (t.free x hx hf)
 refine⟨cl,t.kind,t.cell,t.names,e,h1,fun x h=>(Wn (scope:=scope) (env:=X.env) scope.names h).imp id (h2 x),t.len,fun i j x hp hn=>?_⟩
 have hi:i<N'.length:=(List.getElem?_eq_some_iff.mp hn).1
 have q:=List.all_eq_true.mp t.take i (List.mem_range.mpr hi)
 simp only[hp,hn] at q
 cases hj:X.N[j]? with
 | none=>simp[hj] at q
 | some y=>
  simp only[hj,Bool.and_eq_true,Bool.or_eq_true,beq_iff_eq] at q
  obtain⟨⟨e1,e2⟩,e3⟩:=q
  subst e1
  exact⟨rfl,e2,Ju (scope:=scope) (env:=X.env) scope.names e3,e3⟩
theorem Gli{elt tg iter:Expr}{ifs:List Expr}{scope:Scope}{pos:Pos}{N':List Str}{pk:List (Option Nat)}{wi:TI}{g:TG}{tt:TT}{te:TE}(ct:CompTab X.env.scope scope X.N N' pk)(hcm:X.calm=true)(hi:PI X tg iter wi)
  (hg:∀ cl s2 H2 C fp,PG (blk X s2 H2 C scope cl N' fp) tg g) (ht:∀ cl s2 H2 C fp,PTs (blk X s2 H2 C scope cl N' fp) ifs tt) (he:∀ cl s2 H2 C fp,PE (blk X s2 H2 C scope cl N' fp) elt te)
  (hs:∀ x,foldedSetIterable iter X.env x=pure x:=by intro _; rfl):PE X (.ListComp elt [⟨tg,iter,ifs,0⟩] scope pos) (Gic wi pk g tt te):=by
 intro pins s σ H Q I h
 obtain⟨cl,cs⟩:=ct.sc I.ok
 rw[eval_ListComp]
 refine wpAny_comprehension_free (use:=none) rfl hs cs.clos cs.kind cs.names (thn (hi pins s σ H _ I h) fun x s1 h1=>thn h1 fun itv s2 h2=>?_)
 obtain⟨it,fp,tn,J,H2,e,I2,T,st2,f2,hQ⟩:=h2
 subst e
 refine Gad cs hcm hg ht he I2 T st2 f2 hQ (RR:=fun acc C=>compPost (model X.prog X.w) X.A X.xe none (EP X pins σ Q) acc C) fun D C s' H' q hn inv hf hC=>?_
 obtain⟨m,hn⟩:=hn
 exact⟨m,hn,fun h' hs'=>⟨.ref D,H',Gfp I2 inv hf hC hs',rfl,q⟩⟩
theorem Ger{i:Nat}{y:Str}{py spos:Pos}{elt tg iter:Expr}{ifs:List Expr}{scope:Scope}{pos:Pos}{N':List Str}{pk:List (Option Nat)}{wi:TI}{g:TG}{tt:TT}{te:TE}(ct:CompTab X.env.scope scope X.N N' pk)(hcm:X.calm=true)(hi:PI X tg iter wi)
  (hg:∀ cl s2 H2 C fp,PG (blk X s2 H2 C scope cl N' fp) tg g) (ht:∀ cl s2 H2 C fp,PTs (blk X s2 H2 C scope cl N' fp) ifs tt) (he:∀ cl s2 H2 C fp,PE (blk X s2 H2 C scope cl N' fp) elt te)
  (hN:X.N.Nodup) (hy:X.N[i]?=some y) (hx:Loc X.env.scope y) (hsw:swapsWith (.ListComp elt [⟨tg,iter,ifs,0⟩] scope pos) (some (.Name y py)) spos.line X.env=pure true)
  (hs:∀ x,foldedSetIterable iter X.env x=pure x:=by intro _; rfl) (hf:X.fn y=true\/X.env.scope.names.lookup y=some .local:=by first | exact .inl rfl | exact .inr rfl | assumption):
  PS X (.Assign [.Name y py] (.ListComp elt [⟨tg,iter,ifs,0⟩] scope pos) spos) (Gkr (Gic wi pk g tt te) (gName i)):=by
 intro pins s σ H E I h
 obtain⟨cl,cs⟩:=ct.sc I.ok
 rw[exec_Assign_Name_used _ _ _ _ hsw]
 refine wpAny_bind (wpAny_standAt (wpAny_bind ?_))
 show wpAny _ X.A (do let _ <- comprehension (.ListComp elt [⟨tg,iter,ifs,0⟩] scope pos) scope X.env _ (newList []) false (eval iter X.env) (some (assign (.Name y py) X.env))) _ _ s
 refine wpAny_bind (wpAny_mono (wpAny_comprehension_free (use:=some (assign (.Name y py) X.env)) (Q:=fun _ s'=>SP X pins E .next s') rfl hs cs.clos cs.kind cs.names
  (thn (hi pins s σ H _ I h) fun x s1 h1=>thn h1 fun itv s2 h2=>?_)) (fun _ s' hq=>wpAny_pure (wpAny_pure hq)) fun _ _ e=>e)
 obtain⟨it,fp,tn,J,H2,e,I2,T,st2,f2,hQ⟩:=h2
 subst e
 refine Gad cs hcm hg ht he I2 T st2 f2 (Q:=fun x H1=>gName i x σ H1 E.nx) hQ (RR:=fun acc C=>compPost (model X.prog X.w) X.A X.xe (some (assign (.Name y py) X.env)) (fun _ s'=>SP X pins E .next s') acc C) fun D C s' H' q hn inv hfr hC=>?_
 obtain⟨m,hn⟩:=hn
 show wpAny _ X.A (assign (.Name y py) X.env (.ref D)) _ _ _
 refine wpAny_assign_Name (Gby inv hN hy hx (v:=.ref D) rfl (fun s'' I'' hch=>?_) hf)
 obtain⟨a,hsb,ha⟩:=hch
 have hCa:C≠a:=by
  rcases ha with ha | ha
  ·rintro rfl
   exact absurd (Nat.lt_of_lt_of_le I2.lt (by rw[<- ha]; exact hC)) (Nat.lt_irrefl _)
  ·rintro rfl
   obtain⟨v,z⟩:=I2.cell y _ ha
   exact absurd (Nat.lt_of_lt_of_le z.lt hC) (Nat.lt_irrefl _)
 exact⟨m,hn.sameBut hsb hCa,fun h' hs'=>⟨_,H',Gfp I2 I'' hfr hC hs',q⟩⟩
abbrev XN:XW:=fun _ _ _ _ _ _=>False
def cbody(a:Nat)(t:Ev Bool)(e:Ev D):Sv:=fun ρ S=>bindS (t ρ S) ρ fun b S1=>if b=true then bindS (e ρ S1) ρ fun d S2=>(match S2[a]? with
  | some c=>if c.fz=false/\c.xs.length<1000000 then .nx ρ (S2.set a ⟨false,c.xs++[d]⟩) else .bad
  | none=>.bad) else .nx ρ S1
def cmp(f:Ev Src)(pk:List (Option Nat))(g:Tg)(t:Ev Bool)(e:Ev D):Ev D:=fun ρ S=>(f ρ S).bind fun src S1=>match Qd src.nxt g (cbody S1.length t e) src.fuel 0 (pkS pk ρ) (S1++[⟨false,[]⟩]) with
 | .nx _ S'=>.ok (.lst S1.length) S'
 | _=>.bad
def Zf(K:PySem.W.Frag)(XQ:XW)(σ:L2.St)(ρ:Lc)(a:Nat)(mp:List Addr)(H:Hp)(o:OS)(Q:VK):Prop:=match o with
 | .nx _ S=>Post K XQ σ ρ mp H (.ok (.lst a) S) Q
 | _=>False
theorem Zf.aft{K:PySem.W.Frag}{XQ:XW}{σ:L2.St}{ρ:Lc}{a:Nat}{mp mp':List Addr}{H H':Hp}{o:OS}{Q:VK}(p:Zf K XQ σ ρ a mp H o Q)(af:Aft K mp H mp' H'):Zf K XQ σ ρ a mp' H' o Q:=by
 cases o with
 | nx r S=>exact Gk.aft (show Post K XQ σ ρ mp H (.ok (.lst a) S) Q from p) af
 | _=>exact p
theorem Gd.pick{K:PySem.W.Frag}{mp:List Addr}{H:Hp}{σ:L2.St}{ρ:Lc}{S:Sto}(G:Gd K mp H σ ρ S)(pk:List (Option Nat)):Gd K mp H (pkS pk σ) (pkS pk ρ) S:=by
 refine⟨G.rs,by simp[pkS],fun i d h=>?_⟩
 unfold pkS at h ⊢
 rw[List.getElem?_map] at h ⊢
 cases e:pk[i]? with
 | none=>rw[e] at h; cases h
 | some o=>
  rw[e] at h
  cases o with
  | none=>cases h
  | some j=>
   have h:(ρ[j]?).bind id=some d:=Option.some.inj h
   have h:ρ[j]?=some (some d):=by
    cases z:ρ[j]? with
    | none=>rw[z] at h; cases h
    | some q=>
     rw[z] at h
     have h:q=some d:=h
     rw[h]
   obtain⟨v,e1,r⟩:=G.loc j d h
   refine⟨v,?_,r⟩
   show some ((σ[j]?).bind id)=some (some v)
   rw[e1]
   rfl
def JTs(Y:Cx)(XQ:XW)(ifs:List Expr)(t:Ev Bool):Prop:=PTs Y ifs (rdT Y.K XQ t)
def ttrue:Ev Bool:=fun _ S=>.ok true S
theorem Glj{Y:Cx}{XQ:XW}:JTs Y XQ [] ttrue:=fun pins s σ H Q I ⟨mp,ρ,S,G,p⟩=>Glg pins s σ H Q I (Gk.ok (show Gk Y.K kB XQ σ ρ mp H (.ok true S) Q from p) G.rs rfl)
theorem Glk{Y:Cx}{XQ:XW}{c:Expr}{t:Ev Bool}(h:JT Y XQ c t):JTs Y XQ [c] t:=Glh h
theorem Gnz{K:PySem.W.Frag}{XQ:XW}{f:Ev Src}{pk:List (Option Nat)}{g:Tg}{t:Ev Bool}{e:Ev D}(σ:L2.St)(H:Hp)(Q:VK)(h:rdE K XQ (cmp f pk g t e) σ H Q):Gic (rdI K XQ f) pk (Gh8 K g) (rdT K XN t) (rdE K XN e) σ H Q:=by
 obtain⟨mp,ρ,S,G,p⟩:=h
 refine bindP G p fun mp1 H1 src S1 J a1 G1 j1 p1=>?_
 intro a ha
 obtain⟨af,rs,la⟩:=G1.rs.newL ha (RepL.nil:RepL K mp1 H1 [] [])
 have p1:Zf K XQ σ ρ S1.length (mp1++[a]) (upd H1 a (.lst [])) (Qd src.nxt g (cbody S1.length t e) src.fuel 0 (pkS pk ρ) (S1++[⟨false,[]⟩])) Q:=by
  cases z:Qd src.nxt g (cbody S1.length t e) src.fuel 0 (pkS pk ρ) (S1++[⟨false,[]⟩]) with
  | nx r S'=>rw[z] at p1; exact Gk.aft p1 af
  | rt d S'=>rw[z] at p1; exact p1
  | bk r S'=>rw[z] at p1; exact p1
  | ct r S'=>rw[z] at p1; exact p1
  | exc x r S'=>rw[z] at p1; exact p1
  | bad=>rw[z] at p1; exact p1
 refine⟨fun i m σ' H'=>∃ mp' ρ' S',Aft K mp1 H1 mp' H'/\Gd K mp' H' σ' ρ' S'/\mp'[S1.length]?=some a/\Zf K XQ σ ρ S1.length mp' H' (Qd src.nxt g (cbody S1.length t e) m i ρ' S') Q,⟨src.fuel,_,_,_,af,(G1.pick pk).aft af rs,la,p1⟩,?_⟩
 rintro i m σ' H' ⟨mp',ρ',S',a',G',la',p'⟩
 cases m with
 | zero=>exact(show False from p').elim
 | succ n=>
  have j:=j1 mp' H' S' a' G'.rs i
  unfold Qd at p'
  cases z:src.nxt i S' with
  | none=>
   rw[z] at j p'
   exact .inl ⟨j,Gk.ok (show Post K XQ σ ρ mp' H' (.ok (.lst S1.length) S') Q from p') G'.rs ⟨a,rfl,la'⟩⟩
  | some d=>
   rw[z] at j p'
   obtain⟨j1,j2⟩:=j
   refine .inr ⟨j1,fun x H2 y=>?_⟩
   obtain⟨a2,r2,x2⟩:=j2 x H2 y
   have G2:=G'.aft a2 r2
   cases zg:g d ρ' with
   | none=>simp only[zg] at p'; exact p'.elim
   | some ρ1=>
    simp only[zg] at p'
    refine⟨mp',ρ',S',d,ρ1,G2,x2,zg,fun σ3 G3=>⟨mp',ρ1,S',G3,?_⟩⟩
    have p2:=Zf.aft p' a2
    unfold cbody at p2
    cases zt:t ρ1 S' with
    | exc x S2=>simp only[zt,bindS] at p2; exact p2.elim
    | bad=>simp only[zt,bindS] at p2; exact p2.elim
    | ok b S2=>
     simp only[zt,bindS] at p2
     intro mp3 H3 b' a3 rs3 e3
     cases (show b'=b from e3)
     have G4:=G3.aft a3 rs3
     cases b with
     | false=>
      simp only[Bool.false_eq_true,if_false] at p2
      exact(if_neg Bool.false_ne_true).mpr ⟨n,Nat.lt_succ_self n,mp3,ρ1,S2,(a'.trans a2).trans a3,G4,a3.pre _ _ la',Zf.aft p2 a3⟩
     | true=>
      simp only[if_true] at p2
      refine(if_pos rfl).mpr ⟨mp3,ρ1,S2,G4,?_⟩
      cases ze:e ρ1 S2 with
      | exc x S3=>simp only[ze] at p2; exact p2.elim
      | bad=>simp only[ze] at p2; exact p2.elim
      | ok d2 S3=>
       simp only[ze] at p2
       intro mp4 H4 v a4 rs4 r4
       have la4:=a4.pre _ _ (a3.pre _ _ la')
       have G5:=G4.aft a4 rs4
       cases zc:S3[S1.length]? with
       | none=>simp only[zc] at p2; exact p2.elim
       | some c=>
        simp only[zc] at p2
        by_cases hc:c.fz=false/\c.xs.length<1000000
        ·rw[if_pos hc] at p2
         obtain⟨a5,xs,e5,h5,s5,r5,f5⟩:=rs4.items (v:=.ref a) ⟨a,rfl,la4⟩ zc
         cases e5
         have h5:=f5 hc.1
         obtain⟨af6,rs6⟩:=rs4.setL la4 zc hc.1 h5 (RepL.append r5 (RepL.cons r4 RepL.nil))
         refine⟨xs,h5,?_,n,Nat.lt_succ_self n,mp4,ρ1,_,(((a'.trans a2).trans a3).trans a4).trans af6,G5.aft af6 rs6,la4,Zf.aft p2 ((a3.trans a4).trans af6)⟩
         rw[r5.len]
         exact Nat.lt_of_lt_of_le hc.2 (by decide)
        ·rw[if_neg hc] at p2; exact p2.elim
variable{XQ:XW}
theorem Gll{elt tg iter:Expr}{ifs:List Expr}{scope:Scope}{pos:Pos}{N':List Str}{pk:List (Option Nat)}{f:Ev Src}{g:Tg}{t:Ev Bool}{e:Ev D}(ct:CompTab X.env.scope scope X.N N' pk)(hcm:X.calm=true)(hi:JI X XQ tg iter f)
  (hg:∀ cl s2 H2 C fp,JG (blk X s2 H2 C scope cl N' fp) tg g) (ht:∀ cl s2 H2 C fp,JTs (blk X s2 H2 C scope cl N' fp) XN ifs t) (he:∀ cl s2 H2 C fp,JE (blk X s2 H2 C scope cl N' fp) XN elt e)
  (hs:∀ x,foldedSetIterable iter X.env x=pure x:=by intro _; rfl):JE X XQ (.ListComp elt [⟨tg,iter,ifs,0⟩] scope pos) (cmp f pk g t e):=
 PE.mono (Gli (g:=Gh8 X.K g) (tt:=rdT X.K XN t) (te:=rdE X.K XN e) ct hcm hi hg ht he hs) Gnz
theorem Ges(i:Nat){y:Str}{py spos:Pos}{elt tg iter:Expr}{ifs:List Expr}{scope:Scope}{pos:Pos}{N':List Str}{pk:List (Option Nat)}{f:Ev Src}{g:Tg}{t:Ev Bool}{e:Ev D}(ct:CompTab X.env.scope scope X.N N' pk)(hcm:X.calm=true)(hi:JI X XQ tg iter f)
  (hg:∀ cl s2 H2 C fp,JG (blk X s2 H2 C scope cl N' fp) tg g) (ht:∀ cl s2 H2 C fp,JTs (blk X s2 H2 C scope cl N' fp) XN ifs t) (he:∀ cl s2 H2 C fp,JE (blk X s2 H2 C scope cl N' fp) XN elt e)
  (hN:X.N.Nodup) (hy:X.N[i]?=some y:=by rfl) (hx:Loc X.env.scope y:=by first | exact Or.inl rfl | exact Or.inr rfl) (hsw:swapsWith (.ListComp elt [⟨tg,iter,ifs,0⟩] scope pos) (some (.Name y py)) spos.line X.env=pure true:=by rfl)
  (hs:∀ x,foldedSetIterable iter X.env x=pure x:=by intro _; rfl) (hf:X.fn y=true\/X.env.scope.names.lookup y=some .local:=by first | exact .inl rfl | exact .inr rfl | assumption):
  JS X XQ (.Assign [.Name y py] (.ListComp elt [⟨tg,iter,ifs,0⟩] scope pos) spos) (sa (cmp f pk g t e) (gn i)):=by
 refine PS.mono (Ger (g:=Gh8 X.K g) (tt:=rdT X.K XN t) (te:=rdE X.K XN e) ct hcm hi hg ht he hN hy hx hsw hs hf) fun E σ H ⟨mp,ρ,S,G,p⟩=>Gnz σ H _ ?_
 exact bindSP G p fun mp1 H1 d S1 v a1 G1 r1 p1=>PostS.nx p1 (G1.set i r1)
end
theorem Ggr:fillsNumberSlot (.type "tuple") "mul"=pure false:=
 PySem.fillsNumberSlot_seq (id:="tuple.__mul__") (r:=some (.builtin "tuple.__rmul__")) F.slot_tuple_mul.lookup (by decide +kernel) F.slot_tuple_rmul.lookup (by decide +kernel)
theorem Get:seqRepeat? (.type "tuple")=pure (some (.builtin "tuple.__mul__")):=by
 unfold seqRepeat?
 rw[PySem.seqSlot_of (T:="tuple") (name:="__mul__") (id:="tuple.__mul__") F.slot_tuple_mul.lookup (by decide +kernel),PySem.seqSlot_of (T:="tuple") (name:="__rmul__") (id:="tuple.__rmul__") F.slot_tuple_rmul.lookup (by decide +kernel)]
 rfl
theorem Gqe(x:Int)(t:Tok)(l:Addr)(xs:Array Value)(n:Nat)(d:Option Addr)(sl:Array (Option Value)):
  Meets (Builtin.«int.__rmul__» ⟨[.int x t,.ref l],[]⟩) (fun _ R s=>s.heap.get? l=some { cls:=.type "tuple",dict:=d,data:=.seq xs n,slots:=sl }/\R (.ok (.ret Value.notImplemented)) s):=
 .of_wp fun prog w A R s h=>by obtain⟨hp,g,d,tk,os⟩:=s; obtain⟨hl,h⟩:=h; wp_walk; exact⟨_,rfl,h⟩
theorem Gqf(x:Int)(t:Tok)(l:Addr)(xs:Array Value)(n:Nat)(d:Option Addr)(sl:Array (Option Value))(c0:¬ (decide (x < -2^63)||decide (x≥2^63))=true)(c1:¬ (xs.isEmpty||x==1)=true)(c2:¬ (decide (x<=0)||xs.isEmpty)=true)(c3:¬ (xs.size:Int)*x>(2^63-1) / 8)(c4:¬ Builtin.Tuple.tupleTooMany ((xs.size:Int)*x)=true)(c5:(List.foldl (fun x1 x2=>x1++x2) #[] (List.replicate x.toNat xs)).size<=sizeLine):
  Meets (Builtin.«tuple.__mul__» ⟨[.ref l,.int x t],[]⟩) (fun _ R s=>s.heap.get? l=some { cls:=.type "tuple",dict:=d,data:=.seq xs n,slots:=sl }/\R (.ok (.ret (Value.ref s.heap.objs.size))) { s with heap:=s.heap.push { cls:=Value.type "tuple",data:=Data.seq (List.foldl (fun x1 x2=>x1++x2) #[] (List.replicate x.toNat xs)) },toks:=s.toks }):=
 .of_wp fun prog w A R s h=>by
  obtain⟨hp,g,d,tk,os⟩:=s; obtain⟨hl,h⟩:=h
  wp_walk
  refine wpAny_ite_false (decide_eq_false c0) ?_
  wp_walk using wpAny_loadPart' hl
  refine wpAny_ite_false (decide_eq_false c3) ?_
  wp_walk
  exact⟨_,rfl,h⟩
section
variable{X:Cx}
def Gn0(K:PySem.W.Frag):R2:=fun x y H Q=>∃ a k xs,x=.ref a/\y=.int k/\SqT K H a xs/\xs≠[]/\2<=k/\k<=1000000/\xs.length*k.toNat<=sizeLine/\∀ p,H p=none->Q (.ref p) (upd H p (.tup (List.replicate k.toNat xs).flatten))
theorem Glm:OpR X (binaryOp .Mult) (Gn0 X.K):=by
 intro pins s σ H x y v u Q I rx ry ⟨a,k,xs,e1,e2,ha,hne,k2,k3,hz,q⟩
 subst e1 e2
 cases rx
 obtain⟨t,rfl⟩:=ry
 obtain⟨its,r1,p1,_⟩:=I.tuple ha
 obtain⟨⟨cls,dd,data,sl⟩,ho,hc,n,hd⟩:=id p1
 simp only at hc hd
 subst hc hd
 have hl:xs.length=its.length:=r1.length
 have hne':its≠[]:=fun z=>hne (r1.nil_iff.mp z)
 have hie:its.toArray.isEmpty=false:=by
  cases its with
  | nil=>exact absurd rfl hne'
  | cons _ _=>rfl
 have hnew:List.foldl (fun x1 x2=>x1++x2) #[] (List.replicate k.toNat its.toArray)=(List.replicate k.toNat its).flatten.toArray:=by
  have:=Yp its k.toNat []
  rw[List.nil_append] at this
  exact this
 have hsz:(its.toArray.size:Int)*k<=(sizeLine:Int):=by
  rw[List.size_toArray,<- hl]
  have h1:((xs.length*k.toNat:Nat):Int)<=(sizeLine:Int):=by exact_mod_cast hz
  rw[Int.natCast_mul,Int.toNat_of_nonneg (by omega)] at h1
  exact h1
 have hsl:(sizeLine:Int)<=(2^63-1) / 8:=by decide
 refine wpAny_binaryOp_repeat_ref (T:="tuple") (U:="int") (by decide) ⟨_,ho,rfl⟩ (fun s'=>typeIs_int s' k t) Ggr F.fills_int_mul F.slot_int_rmul Get F.slot_int_index.lookup
  (call_meets F.slot_int_rmul (typeIs_int s k t) F.entry_int_rmul (F.args_int_rmul_2 _ _) (Gqe k t a its.toArray n dd sl)
   ⟨ho,rfl,⟨_,ho,rfl⟩,call_meets F.slot_tuple_mul ⟨_,ho,rfl⟩ F.entry_tuple_mul (F.args_tuple_mul_2 _ _) (Gqf k t a its.toArray n dd sl ?c0 ?c1 ?c2 ?c3 ?c4 ?c5) ⟨ho,?_⟩⟩)
 case c0=>simp; omega
 case c1=>rw[hie]; simp; omega
 case c2=>rw[hie]; simp; omega
 case c3=>omega
 case c4=>unfold Builtin.Tuple.tupleTooMany; simp; omega
 case c5=>rw[hnew,List.size_toArray,Gcp,<- hl,Nat.mul_comm]; exact hz
 rw[hnew]
 refine⟨.ref s.heap.objs.size,_,I.laid (t':=s.toks) (o:=.tup (List.replicate k.toNat xs).flatten) (fun b ob q=>Heap.get?_push_of_some _ q) (Nat.le_refl _) ?_,rfl,q _ (I.hok.fresh (Nat.le_refl _))⟩
 exact⟨by rw[Gcp,Nat.mul_comm]; exact hz,_,r1.rep k.toNat,IsTup.new _ _⟩
end
def Kq{α β:Type}(f:α->Option β):List α->Option (List β)
 | []=>some []
 | x::l=>match f x,Kq f l with
  | some y,some ys=>some (y::ys)
  | _,_=>none
def toP(S:Sto):Nat->D->Option PyData
 | 0,_=>none
 | n+1,d=>match d with
  | .non=>some .none
  | .bl b=>some (.bool b)
  | .int i=>some (.int i)
  | .str x=>some (.str x)
  | .tup l=>(Kq (toP S n) l).map .tuple
  | .lst i=>match S[i]? with
   | some c=>(Kq (toP S n) c.xs).map .list
   | none=>none
  | .exn _ _=>none
  | .fv _=>none
section
variable{X:Cx}{pins:List (Addr×Obj)}{σ:L2.St}{H:Hp}{s:Shared}{mp:List Addr}{S:Sto}
theorem Gct{f:D->Option PyData}{K:PySem.W.Frag}(hf:∀ (d:D) (v:V) (u:Value) (p:PyData),Rep K mp H d v->Hc v u->f d=some p->∃ as,Reads s.heap u p as):∀ (l:List D) (vs:List V) (us:List Value) (ps:List PyData),RepL K mp H l vs->Vals vs us->Kq f l=some ps->∃ as,ReadsAll s.heap us ps as
 | [],vs,us,ps,h,r,e=>by
  cases (show vs=[] from h); cases r
  cases (Option.some.inj e)
  exact⟨_,.nil⟩
 | d::l,vs,us,ps,h,r,e=>by
  obtain⟨v,vr,rfl,h1,h2⟩:=(show ∃ v r,vs=v::r/\Rep K mp H d v/\RepL K mp H l r from h)
  cases r with
  | cons r1 r2=>
   cases z1:f d with
   | none=>simp only[Kq,z1] at e; cases e
   | some p=>
    cases z2:Kq f l with
    | none=>simp only[Kq,z1,z2] at e; cases e
    | some qs=>
     simp only[Kq,z1,z2] at e
     cases (Option.some.inj e)
     obtain⟨as,ra⟩:=hf d v _ p h1 r1 z1
     obtain⟨bs,rb⟩:=Gct hf l vr _ qs h2 r2 z2
     exact⟨_,.cons ra rb⟩
theorem Gcu(I:Inv X pins σ H s)(rs:RS X.K mp H S):∀ (n:Nat) (d:D) (v:V) (u:Value) (p:PyData),Rep X.K mp H d v->Hc v u->toP S n d=some p->∃ as,Reads s.heap u p as:=by
 intro n
 induction n with
 | zero=>intro d v u p h r e; cases e
 | succ n ih=>
  intro d v u p h r e
  cases d with
  | non=>
   cases (show v=.non from h); cases (show u=Value.none from r)
   cases (Option.some.inj e)
   exact⟨_,.none⟩
  | bl b=>
   cases (show v=.bl b from h); cases (show u=Value.bool b from r)
   cases (Option.some.inj e)
   exact⟨_,.bool b⟩
  | int i=>
   cases (show v=.int i from h); obtain⟨t,rfl⟩:=(show ∃ t,u=Value.int i t from r)
   cases (Option.some.inj e)
   exact⟨_,.int i t⟩
  | str x=>
   cases (show v=.str x from h); obtain⟨t,rfl⟩:=(show ∃ t,u=Value.str x t from r)
   cases (Option.some.inj e)
   exact⟨_,.str x t⟩
  | tup l=>
   obtain⟨a,xs,rfl,sq,q⟩:=Rep.tup h
   cases (show u=Value.ref a from r)
   obtain⟨its,rv,⟨o,ho,hc,k,hd⟩,_⟩:=I.tuple sq
   have e:(Kq (toP S n) l).map PyData.tuple=some p:=e
   cases z:Kq (toP S n) l with
   | none=>rw[z] at e; cases e
   | some ps=>
    rw[z] at e
    cases (Option.some.inj e)
    obtain⟨as,ra⟩:=Gct ih l xs its ps q rv z
    exact⟨as,.tuple ho hc hd (by simpa using ra)⟩
  | lst i=>
   have e:(match S[i]? with | some c=>(Kq (toP S n) c.xs).map PyData.list | none=>none)=some p:=e
   cases zc:S[i]? with
   | none=>rw[zc] at e; cases e
   | some c=>
    rw[zc] at e
    obtain⟨a,xs,rfl,_,sq,q,_⟩:=rs.items h zc
    cases (show u=Value.ref a from r)
    obtain⟨its,rv,⟨o,k,ho,hc,_,hd⟩,_⟩:=I.list sq
    have e:(Kq (toP S n) c.xs).map PyData.list=some p:=e
    cases z:Kq (toP S n) c.xs with
    | none=>rw[z] at e; cases e
    | some ps=>
     rw[z] at e
     cases (Option.some.inj e)
     obtain⟨as,ra⟩:=Gct ih c.xs xs its ps q rv z
     exact⟨_,.list ho hc hd (by simpa using ra)⟩
  | exn c n=>cases (show(none:Option PyData)=some p from e)
  | fv c=>cases (show(none:Option PyData)=some p from e)
end
def eqD(x y:D)(S:Sto):Out D:=match toP S 40 x,toP S 40 y with
 | some p,some q=>if(SeqAt.shaped p&&SeqAt.shaped q)=true then .ok (.bl (PyData.eqv p q)) S else .bad
 | _,_=>.bad
def neD(x y:D)(S:Sto):Out D:=match toP S 40 x,toP S 40 y with
 | some p,some q=>if(SeqAt.shaped p&&SeqAt.shaped q)=true then .ok (.bl (!PyData.eqv p q)) S else .bad
 | _,_=>.bad
section
variable{X:Cx}{XQ:XW}
def OpX(X:Cx)(f:Value->Value->Sem Value)(o:D->D->Sto->Out D):Prop:=
 ∀ (pins:List (Addr×Obj)) (s:Shared) (σ:L2.St) (ρ:Lc) (XQ:XW) (mp:List Addr) (H:Hp) (S:Sto) (x y:D) (v u:V) (vv uv:Value) (Q:VK),Inv X pins σ H s->RS X.K mp H S->Rep X.K mp H x v->Rep X.K mp H y u->Hc v vv->Hc u uv->Post X.K XQ σ ρ mp H (o x y S) Q→
  (∀ (e:XD) (S':Sto),o x y S≠.exc e S')->wpAny (model X.prog X.w) X.A (f vv uv) (EP X pins σ Q) X.xe s
theorem Gie{a b:Expr}{op:CmpOp}{fa fb:Ev D}{o:D->D->Sto->Out D}{pos:Pos}(ho:OpX X (compareOp op) o)(hno:∀ x y S e S',o x y S≠.exc e S')(ha:JE X XQ a fa)(hb:JE X XQ b fb)(hm:behindInMarks op b=false):JE X XQ (.Compare a [op] [b] pos) (o2 o fa fb):=by
 intro pins s σ H Q I ⟨mp,ρ,S,G,p⟩
 refine wpAny_Compare1 (thn (ha pins s σ H _ I (bindP G p fun mp1 H1 x S1 v a1 G1 r1 p1=>(⟨mp1,ρ,S1,x,G1,r1,p1⟩:∃ mp1 ρ S1 x,Gd X.K mp1 H1 σ ρ S1/\Rep X.K mp1 H1 x v/\Post X.K XQ σ ρ mp1 H1 ((fb ρ S1).bind fun y S2=>o x y S2) Q))) fun vv s1 ⟨v,H1,I1,rv,mp1,ρ1,S1,x,G1,r1,p1⟩=>?_) hm
 refine thn (hb pins s1 σ H1 _ I1 (bindP G1 p1 fun mp2 H2 y S2 u a2 G2 r2 p2=>(⟨mp2,ρ1,S2,x,y,v,G2,Rep.aft a2 _ _ r1,r2,rfl,p2⟩:∃ mp2 ρ S2 x y v',Gd X.K mp2 H2 σ ρ S2/\Rep X.K mp2 H2 x v'/\Rep X.K mp2 H2 y u/\v'=v/\Post X.K XQ σ ρ mp2 H2 (o x y S2) Q))) fun uv s2 ⟨u,H2,I2,ru,mp2,ρ2,S2,x2,y,v',G2,rx,ry,ev,p2⟩=>?_
 subst ev
 exact ho pins s2 σ ρ2 XQ mp2 H2 S2 x2 y _ u vv uv Q I2 G2.rs rx ry rv ru p2 (hno _ _ _)
theorem Gif{a b:Expr}{op:CmpOp}{fa fb:Ev D}{o:D->D->Sto->Out D}{pos:Pos}(ho:OpX X (compareOp op) o)(hno:∀ x y S e S',o x y S≠.exc e S')(ha:JE X XQ a fa)(hb:JE X XQ b fb)(hm:behindInMarks op b=false):JT X XQ (.Compare a [op] [b] pos) (tb (o2 o fa fb)):=by
 intro pins s σ H Q I h
 obtain⟨mp,ρ,S,G,p⟩:=Gh6 h
 refine wpAny_isTrue_Compare1 (thn (ha pins s σ H _ I (bindP G p fun mp1 H1 x S1 v a1 G1 r1 p1=>(⟨mp1,ρ,S1,x,G1,r1,p1⟩:∃ mp1 ρ S1 x,Gd X.K mp1 H1 σ ρ S1/\Rep X.K mp1 H1 x v/\Post X.K XQ σ ρ mp1 H1 ((fb ρ S1).bind fun y S2=>o x y S2) (fun x H1=>∃ k,x=.bl k/\Q k H1)))) fun vv s1 ⟨v,H1,I1,rv,mp1,ρ1,S1,x,G1,r1,p1⟩=>?_) hm
 refine thn (hb pins s1 σ H1 _ I1 (bindP G1 p1 fun mp2 H2 y S2 u a2 G2 r2 p2=>(⟨mp2,ρ1,S2,x,y,v,G2,Rep.aft a2 _ _ r1,r2,rfl,p2⟩:∃ mp2 ρ S2 x y v',Gd X.K mp2 H2 σ ρ S2/\Rep X.K mp2 H2 x v'/\Rep X.K mp2 H2 y u/\v'=v/\Post X.K XQ σ ρ mp2 H2 (o x y S2) (fun x H1=>∃ k,x=.bl k/\Q k H1)))) fun uv s2 ⟨u,H2,I2,ru,mp2,ρ2,S2,x2,y,v',G2,rx,ry,ev,p2⟩=>?_
 subst ev
 refine thn (ho pins s2 σ ρ2 XQ mp2 H2 S2 x2 y _ u vv uv _ I2 G2.rs rx ry rv ru p2 (hno _ _ _)) fun c s3 ⟨z,H3,I3,r3,k,e,q3⟩=>?_
 subst e
 cases r3
 exact wpAny_truthy_bool ⟨H3,I3,q3⟩
theorem Gn1(hu:X.A.units+64<cLine):OpX X (compareOp .Eq) eqD:=by
 intro pins s σ ρ XQ mp H S x y v u vv uv Q I rs rx ry rv ru p _
 unfold eqD at p
 cases z1:toP S 40 x with
 | none=>simp only[z1] at p; exact p.elim
 | some a=>
  cases z2:toP S 40 y with
  | none=>simp only[z1,z2] at p; exact p.elim
  | some b=>
   simp only[z1,z2] at p
   by_cases hs:(SeqAt.shaped a&&SeqAt.shaped b)=true
   ·rw[if_pos hs] at p
    obtain⟨as,ra⟩:=Gcu I rs 40 x v vv a rx rv z1
    obtain⟨bs,rb⟩:=Gcu I rs 40 y u uv b ry ru z2
    rw[Bool.and_eq_true] at hs
    exact SeqAt.compareEq_shaped ra rb hs.1 hs.2 hu ⟨.bl _,H,I,rfl,Gk.ok (R:=Rep X.K) p rs rfl⟩
   ·rw[if_neg hs] at p; exact p.elim
theorem Gn2(hu:X.A.units+64<cLine):OpX X (compareOp .NotEq) neD:=by
 intro pins s σ ρ XQ mp H S x y v u vv uv Q I rs rx ry rv ru p _
 unfold neD at p
 cases z1:toP S 40 x with
 | none=>simp only[z1] at p; exact p.elim
 | some a=>
  cases z2:toP S 40 y with
  | none=>simp only[z1,z2] at p; exact p.elim
  | some b=>
   simp only[z1,z2] at p
   by_cases hs:(SeqAt.shaped a&&SeqAt.shaped b)=true
   ·rw[if_pos hs] at p
    obtain⟨as,ra⟩:=Gcu I rs 40 x v vv a rx rv z1
    obtain⟨bs,rb⟩:=Gcu I rs 40 y u uv b ry ru z2
    rw[Bool.and_eq_true] at hs
    exact SeqAt.compareNe_shaped ra rb hs.1 hs.2 hu ⟨.bl _,H,I,rfl,Gk.ok (R:=Rep X.K) p rs rfl⟩
   ·rw[if_neg hs] at p; exact p.elim
theorem Gn3(x y:D)(S:Sto)(e:XD)(S':Sto):eqD x y S≠.exc e S':=by
 unfold eqD
 split
 ·split<;>exact fun z=>nomatch z
 ·exact fun z=>nomatch z
theorem Gn4(x y:D)(S:Sto)(e:XD)(S':Sto):neD x y S≠.exc e S':=by
 unfold neD
 split
 ·split<;>exact fun z=>nomatch z
 ·exact fun z=>nomatch z
theorem Gt5{a b:Expr}{fa fb:Ev D}{pos:Pos}(hu:X.A.units+64<cLine)(ha:JE X XQ a fa)(hb:JE X XQ b fb):JE X XQ (.Compare a [.Eq] [b] pos) (o2 eqD fa fb):=Gie (Gn1 hu) Gn3 ha hb (nomark _)
theorem Gt6{a b:Expr}{fa fb:Ev D}{pos:Pos}(hu:X.A.units+64<cLine)(ha:JE X XQ a fa)(hb:JE X XQ b fb):JT X XQ (.Compare a [.Eq] [b] pos) (tb (o2 eqD fa fb)):=Gif (Gn1 hu) Gn3 ha hb (nomark _)
theorem Gt7{a b:Expr}{fa fb:Ev D}{pos:Pos}(hu:X.A.units+64<cLine)(ha:JE X XQ a fa)(hb:JE X XQ b fb):JE X XQ (.Compare a [.NotEq] [b] pos) (o2 neD fa fb):=Gie (Gn2 hu) Gn4 ha hb (nomark _)
theorem Gt8{a b:Expr}{fa fb:Ev D}{pos:Pos}(hu:X.A.units+64<cLine)(ha:JE X XQ a fa)(hb:JE X XQ b fb):JT X XQ (.Compare a [.NotEq] [b] pos) (tb (o2 neD fa fb)):=Gif (Gn2 hu) Gn4 ha hb (nomark _)
def i2(C:Int->Int->Bool)(g:Int->Int->D):D->D->Sto->Out D:=fun x y S=>match x,y with
 | .int i,.int j=>if C i j=true then .ok (g i j) S else .bad
 | _,_=>.bad
theorem Gcv{K:PySem.W.Frag}{C:Int->Int->Prop}{c:Int->Int->Bool}{g:Int->Int->V}{gd:Int->Int->D}(hc:∀ i j,c i j=true->C i j)(hg:∀ mp H i j,Rep K mp H (gd i j) (g i j)):OpD K (rI C g) (i2 c gd):=by
 intro XQ σ ρ mp H S x y v u Q rs rx ry p
 cases x with
 | int i=>
  cases y with
  | int j=>
   have p:Post K XQ σ ρ mp H (if c i j=true then .ok (gd i j) S else .bad) Q:=p
   by_cases h:c i j=true
   ·rw[if_pos h] at p
    exact⟨i,j,rx,ry,hc i j h,Gk.ok (R:=Rep K) p rs (hg mp H i j)⟩
   ·rw[if_neg h] at p; exact p.elim
  | _=>exact(show False from p).elim
 | _=>exact(show False from p).elim
theorem od_int0{K:PySem.W.Frag}{g:Int->Int->V}{gd:Int->Int->D}(hg:∀ mp H i j,Rep K mp H (gd i j) (g i j)):OpD K (rI0 g) (i2 (fun _ _=>true) gd):=by
 intro XQ σ ρ mp H S x y v u Q rs rx ry p
 obtain⟨i,j,h1,h2,_,h3⟩:=Gcv (C:=fun _ _=>True) (c:=fun _ _=>true) (fun _ _ _=>trivial) hg XQ σ ρ mp H S x y v u Q rs rx ry p
 exact⟨i,j,h1,h2,h3⟩
abbrev Gcw:=i2 (fun _ _=>true) fun i j=>.int (i-j)
abbrev Vl:=i2 (fun _ j=>decide (0<j)) fun i j=>.int (i%j)
abbrev Gcx:=i2 (fun i j=>decide (0<=j/\j<=1000000/\i.natAbs<2^64)) fun i j=>.int (i^j.toNat)
abbrev ltD:=i2 (fun _ _=>true) fun i j=>.bl (decide (i<j))
abbrev leD:=i2 (fun _ _=>true) fun i j=>.bl (decide (i<=j))
abbrev gtD:=i2 (fun _ _=>true) fun i j=>.bl (decide (j<i))
abbrev geD:=i2 (fun _ _=>true) fun i j=>.bl (decide (j<=i))
section
variable{a b:Expr}{fa fb:Ev D}{pos:Pos}
theorem Gqg(ha:JE X XQ a fa)(hb:JE X XQ b fb):JE X XQ (.BinOp a .Sub b pos) (o2 Gcw fa fb):=Gb5 Go6 (od_int0 fun _ _ _ _=>rfl) ha hb
theorem Gqh(ha:JE X XQ a fa)(hb:JE X XQ b fb):JE X XQ (.BinOp a .Mod b pos) (o2 Vl fa fb):=Gb5 Go8 (Gcv (fun _ _ h=>of_decide_eq_true h) fun _ _ _ _=>rfl) ha hb
theorem Gqi(ha:JE X XQ a fa)(hb:JE X XQ b fb):JE X XQ (.BinOp a .Pow b pos) (o2 Gcx fa fb):=Gb5 Go9 (Gcv (fun i j h=>(of_decide_eq_true h:0<=j/\j<=1000000/\i.natAbs<2^64)) fun _ _ _ _=>rfl) ha hb
theorem Gt9(ha:JE X XQ a fa)(hb:JE X XQ b fb):JE X XQ (.Compare a [.Lt] [b] pos) (o2 ltD fa fb):=Gh5 Gnq (od_int0 fun _ _ _ _=>rfl) ha hb (nomark _)
theorem Gua(ha:JE X XQ a fa)(hb:JE X XQ b fb):JT X XQ (.Compare a [.Lt] [b] pos) (tb (o2 ltD fa fb)):=Yq Gnq (od_int0 fun _ _ _ _=>rfl) ha hb (nomark _)
theorem Gub(ha:JE X XQ a fa)(hb:JE X XQ b fb):JT X XQ (.Compare a [.Gt] [b] pos) (tb (o2 gtD fa fb)):=Yq Gtm (od_int0 fun _ _ _ _=>rfl) ha hb (nomark _)
theorem Guc(ha:JE X XQ a fa)(hb:JE X XQ b fb):JT X XQ (.Compare a [.GtE] [b] pos) (tb (o2 geD fa fb)):=Yq Gtn (od_int0 fun _ _ _ _=>rfl) ha hb (nomark _)
end
def Gz(x y:D)(S:Sto):Out D:=match x,y with
 | .int i,.int j=>.ok (.int (i+j)) S
 | .str a,.str b=>if a.length+b.length<=1000000 then .ok (.str (a++b)) S else .bad
 | .lst i,.lst j=>match S[i]?,S[j]? with
  | some c,some e=>if(c.fz=false/\e.fz=false)/\c.xs.length+e.xs.length<=1000000 then .ok (.lst S.length) (S++[⟨false,c.xs++e.xs⟩]) else .bad
  | _,_=>.bad
 | .tup a,.tup b=>if a.length+b.length<=1000000 then .ok (.tup (a++b)) S else .bad
 | _,_=>.bad
def Gn5(K:PySem.W.Frag):R2:=fun x y H Q=>∃ a b ys,x=.ref a/\y=.ref b/\SqT K H a []/\SqT K H b ys/\Q (.ref b) H
theorem Gln:OpR X (binaryOp .Add) (Gn5 X.K):=by
 intro pins s σ H x y v u Q I rx ry ⟨a,b,ys,e1,e2,ha,hb,q⟩
 subst e1 e2
 cases rx; cases ry
 obtain⟨its,r1,p1,_⟩:=I.tuple ha
 obtain⟨its2,r2,p2,_⟩:=I.tuple hb
 have ei:=r1.nil_iff.mpr rfl
 subst ei
 obtain⟨⟨cls,dd,data,sl⟩,ho,hc,n,hd⟩:=id p1
 obtain⟨⟨cls2,dd2,data2,sl2⟩,ho2,hc2,n2,hd2⟩:=id p2
 simp only at hc hd hc2 hd2
 subst hc hd hc2 hd2
 exact concat_meets ⟨_,ho,rfl⟩ ⟨_,ho2,rfl⟩ noFill_tuple_add seq_tuple_add PySem.F.slot_tuple_add PySem.F.entry_tuple_add (PySem.F.args_tuple_add_2 _ _)
  (tuple_addW0 a b [].toArray its2.toArray n n2 dd dd2 sl sl2 (by rfl)) ⟨ho,ho2,⟨.ref b,H,I,rfl,q⟩⟩
def Gn6(K:PySem.W.Frag):R2:=fun x y H Q=>rI0 (fun i j=>.int (i+j)) x y H Q\/(∃ i j,x=.str i/\y=.str j/\i.length+j.length<=sizeLine/\Q (.str (i++j)) H)\/Gtv x y H Q\/Gnu K x y H Q\/Gn5 K x y H Q
theorem Glo:OpR X (binaryOp .Add) (Gn6 X.K):=Go5.or (Gej.or (Gpo.or (Gk2.or Gln)))
theorem Gqj{K:PySem.W.Frag}:OpD K (Gn6 K) Gz:=by
 intro XQ σ ρ mp H S x y v u Q rs rx ry p
 unfold Gz at p
 split at p
 ·exact .inl ⟨_,_,rx,ry,Gk.ok (R:=Rep K) p rs rfl⟩
 ·rename_i a b
  by_cases h:a.length+b.length<=1000000
  ·rw[if_pos h] at p
   exact .inr (.inl ⟨_,_,rx,ry,line_le h,Gk.ok (R:=Rep K) p rs rfl⟩)
  ·rw[if_neg h] at p; exact p.elim
 ·rename_i i j
  split at p
  ·rename_i c e zc ze
   by_cases h:(c.fz=false/\e.fz=false)/\c.xs.length+e.xs.length<=1000000
   ·rw[if_pos h] at p
    obtain⟨a1,xs,rfl,_,_,q1,f1⟩:=rs.items rx zc
    obtain⟨a2,ys,rfl,_,_,q2,f2⟩:=rs.items ry ze
    refine .inr (.inr (.inl ⟨a1,a2,xs,ys,rfl,rfl,f1 h.1.1,f2 h.1.2,by rw[q1.len,q2.len]; exact line_le h.2,fun q hq=>Vh p rs (q1.append q2) hq⟩))
   ·rw[if_neg h] at p; exact p.elim
  ·exact p.elim
 ·rename_i a b
  by_cases h:a.length+b.length<=1000000
  ·rw[if_pos h] at p
   obtain⟨a1,xs,rfl,s1,q1⟩:=Rep.tup rx
   obtain⟨a2,ys,rfl,s2,q2⟩:=Rep.tup ry
   have l1:=q1.len
   have l2:=q2.len
   by_cases he:xs=[]
   ·subst he
    have ea:a=[]:=by cases a with | nil=>rfl | cons _ _=>simp at l1
    subst ea
    exact .inr (.inr (.inr (.inr ⟨a1,a2,ys,rfl,rfl,s1,s2,Gk.ok (R:=Rep K) p rs ry⟩)))
   ·refine .inr (.inr (.inr (.inl ⟨a1,a2,xs,ys,rfl,rfl,s1,s2,he,by rw[l1,l2]; exact line_le h,fun z=>?_,fun _ q hq=>Wm p rs (q1.append q2) hq⟩)))
    subst z
    have eb:b=[]:=by cases b with | nil=>rfl | cons _ _=>simp at l2
    subst eb
    rw[List.append_nil] at p
    exact Gk.ok (R:=Rep K) p rs rx
  ·rw[if_neg h] at p; exact p.elim
 ·exact p.elim
theorem Gqk{a b:Expr}{fa fb:Ev D}{pos:Pos}(ha:JE X XQ a fa)(hb:JE X XQ b fb):JE X XQ (.BinOp a .Add b pos) (o2 Gz fa fb):=Gb5 Glo Gqj ha hb
def Kn(x y:D)(S:Sto):Out D:=match x,y with
 | .int i,.int j=>if(-(2^64)<i/\i<2^64)\/(-(2^64)<j/\j<2^64) then .ok (.int (i*j)) S else .bad
 | .lst i,.int k=>match S[i]? with
  | some c=>if c.fz=false/\(-1000000<=k/\k<=1000000)/\c.xs.length*k.toNat<=1000000 then .ok (.lst S.length) (S++[⟨false,(List.replicate k.toNat c.xs).flatten⟩]) else .bad
  | none=>.bad
 | .tup l,.int k=>if 0<l.length/\(2<=k/\k<=1000000)/\l.length*k.toNat<=1000000 then .ok (.tup (List.replicate k.toNat l).flatten) S else .bad
 | _,_=>.bad
def Gn7(K:PySem.W.Frag):R2:=fun x y H Q=>rI CMul (fun i j=>.int (i*j)) x y H Q\/Gtw x y H Q\/Gn0 K x y H Q
theorem Glp:OpR X (binaryOp .Mult) (Gn7 X.K):=Go7.or (Gpp.or Glm)
theorem RepL.flat{K:PySem.W.Frag}{mp:List Addr}{H:Hp}{l:List D}{vs:List V}(h:RepL K mp H l vs):∀ k:Nat,RepL K mp H (List.replicate k l).flatten (List.replicate k vs).flatten
 | 0=>RepL.nil
 | k+1=>by
  rw[List.replicate_succ,List.replicate_succ,List.flatten_cons,List.flatten_cons]
  exact RepL.append h (RepL.flat h k)
theorem Gql{K:PySem.W.Frag}:OpD K (Gn7 K) Kn:=by
 intro XQ σ ρ mp H S x y v u Q rs rx ry p
 unfold Kn at p
 split at p
 ·rename_i i j
  by_cases h:(-(2^64)<i/\i<2^64)\/(-(2^64)<j/\j<2^64)
  ·rw[if_pos h] at p
   exact .inl ⟨_,_,rx,ry,h,Gk.ok (R:=Rep K) p rs rfl⟩
  ·rw[if_neg h] at p; exact p.elim
 ·rename_i i k
  split at p
  ·rename_i c zc
   by_cases h:c.fz=false/\(-1000000<=k/\k<=1000000)/\c.xs.length*k.toNat<=1000000
   ·rw[if_pos h] at p
    obtain⟨a1,xs,rfl,_,_,q1,f1⟩:=rs.items rx zc
    exact .inr (.inl ⟨a1,k,xs,rfl,ry,f1 h.1,by omega,by omega,by rw[q1.len]; exact line_le h.2.2,fun q hq=>Vh p rs (q1.flat _) hq⟩)
   ·rw[if_neg h] at p; exact p.elim
  ·exact p.elim
 ·rename_i l k
  by_cases h:0<l.length/\(2<=k/\k<=1000000)/\l.length*k.toNat<=1000000
  ·rw[if_pos h] at p
   obtain⟨a1,xs,rfl,s1,q1⟩:=Rep.tup rx
   have hl:=q1.len
   exact .inr (.inr ⟨a1,k,xs,rfl,ry,s1,fun z=>by rw[z] at hl; simp at hl; omega,h.2.1.1,h.2.1.2,by rw[q1.len]; exact line_le h.2.2,fun q hq=>Wm p rs (q1.flat _) hq⟩)
  ·rw[if_neg h] at p; exact p.elim
 ·exact p.elim
theorem Gqm{a b:Expr}{fa fb:Ev D}{pos:Pos}(ha:JE X XQ a fa)(hb:JE X XQ b fb):JE X XQ (.BinOp a .Mult b pos) (o2 Kn fa fb):=Gb5 Glp Gql ha hb
def Gdp(x:D)(S:Sto):Out D:=match x with
 | .int i=>.ok (.int (-i)) S
 | _=>.bad
def getD(x y:D)(S:Sto):Out D:=match x,y with
 | .tup l,.int i=>match atI l i with
  | some d=>.ok d S
  | none=>.bad
 | .lst k,.int i=>match S[k]? with
  | some c=>match atI c.xs i with
   | some d=>.ok d S
   | none=>.bad
  | none=>.bad
 | .str z,.int i=>if z.length<=1000000 then(match atI z.cps.toList i with
  | some c=>.ok (.str ⟨#[c]⟩) S
  | none=>.bad) else .bad
 | _,_=>.bad
theorem RepL.atI{K:PySem.W.Frag}{mp:List Addr}{H:Hp}{l:List D}{vs:List V}{i:Int}{d:D}(h:RepL K mp H l vs)(e:L2.atI l i=some d):∃ v,L2.atI vs i=some v/\Rep K mp H d v:=by
 unfold L2.atI at e ⊢
 rw[h.len]
 cases z:ixN l.length i with
 | none=>rw[z] at e; cases e
 | some j=>
  rw[z] at e
  exact h.get e
theorem Gqn{K:PySem.W.Frag}:OpD K (rIx K) getD:=by
 intro XQ σ ρ mp H S x y v u Q rs rx ry p
 unfold getD at p
 split at p
 ·rename_i l i
  split at p
  ·rename_i d zd
   obtain⟨a,xs,rfl,sq,q⟩:=Rep.tup rx
   obtain⟨w,hw,rw'⟩:=q.atI zd
   exact .inr (.inl ⟨a,xs,i,w,rfl,ry,sq,hw,Gk.ok (R:=Rep K) p rs rw'⟩)
  ·exact p.elim
 ·rename_i k i
  split at p
  ·rename_i c zc
   split at p
   ·rename_i d zd
    obtain⟨a,xs,rfl,_,sq,q,_⟩:=rs.items rx zc
    obtain⟨w,hw,rw'⟩:=q.atI zd
    exact .inl ⟨a,xs,i,w,rfl,ry,sq,hw,Gk.ok (R:=Rep K) p rs rw'⟩
   ·exact p.elim
  ·exact p.elim
 ·rename_i z i
  by_cases h:z.length<=1000000
  ·rw[if_pos h] at p
   split at p
   ·rename_i c zc
    exact .inr (.inr ⟨z,i,c,rx,ry,line_le h,zc,Gk.ok (R:=Rep K) p rs rfl⟩)
   ·exact p.elim
  ·rw[if_neg h] at p; exact p.elim
 ·exact p.elim
theorem Gqo{a b:Expr}{fa fb:Ev D}{pos:Pos}(ha:JE X XQ a fa)(hb:JE X XQ b fb)(hs:Zs b:=by intro _ _; rfl):JE X XQ (.Subscript a b pos) (o2 getD fa fb):=Gtz Gpl Gqn ha hb hs
def Yr(x y z:D)(S:Sto):Option Sto:=match x,y with
 | .lst k,.int i=>match S[k]? with
  | some c=>match ixN c.xs.length i with
   | some j=>if c.fz=false then some (S.set k ⟨false,c.xs.set j z⟩) else none
   | none=>none
  | none=>none
 | _,_=>none
theorem Gqp{K:PySem.W.Frag}:Gt4 Gnv K Yr:=by
 intro mp H S S' x y z v u w Q rs rx ry rz e k
 unfold Yr at e
 split at e
 ·rename_i kk i
  split at e
  ·rename_i c zc
   split at e
   ·rename_i j zj
    by_cases hf:c.fz=false
    ·rw[if_pos hf] at e
     cases (Option.some.inj e)
     obtain⟨a,xs,rfl,ha,sq,q,f⟩:=rs.items rx zc
     have hH:=f hf
     obtain⟨af,rs'⟩:=rs.setL ha zc hf hH (q.set j rz)
     exact⟨a,xs,i,j,rfl,ry,hH,by rw[q.len]; exact zj,k _ af rs'⟩
    ·rw[if_neg hf] at e; cases e
   ·cases e
  ·cases e
 ·cases e
theorem Gig{ob ix e:Expr}{f fo fi:Ev D}{pos p2:Pos}(he:JE X XQ e f)(hob:JE X XQ ob fo)(hix:JE X XQ ix fi)
  (hs:swapsWithSole [.Subscript ob ix p2] e pos.line X.env=pure false:=by rfl) (hw:swappedStores [.Subscript ob ix p2] e X.env=pure none:=by rfl)
  (h1:(assignEach [.Subscript ob ix p2] X.env).map (·.2)=[assign (.Subscript ob ix p2) X.env]:=by rfl) (ha:∀ v,assign (.Subscript ob ix p2) X.env v=(do
   let ov <- holding [v] (eval ob X.env)
   let iv <- holding [v,ov] (eval ix X.env)
   standAt p2
   holding [v,ov,iv] (setItem ov iv v)
   release [v,ov,iv] []):=by intro _; rfl):JS X XQ (.Assign [.Subscript ob ix p2] e pos) (ss f fo fi Yr):=Gp8 Ghz Gqp he hob hix hs hw h1 ha
end
section
variable{X:Cx}{XQ:XW}
def BlD(K:PySem.W.Frag)(r:List V->Hp->VK->Prop)(o:List D->Sto->Out D):Prop:=
 ∀ (XQ:XW) (σ:L2.St) (ρ:Lc) (mp:List Addr) (H:Hp) (S:Sto) (xs:List D) (vs:List V) (Q:VK),RS K mp H S->RepL K mp H xs vs->Post K XQ σ ρ mp H (o xs S) Q->r vs H Q
def b1(o:List D->Sto->Out D)(f:Ev (List D)):Ev D:=fun ρ S=>(f ρ S).bind o
theorem cbR{r:List V->Hp->VK->Prop}{o:List D->Sto->Out D}{f:Ev (List D)}(hd:BlD X.K r o)(σ:L2.St)(H:Hp)(Q:VK)(h:rdE X.K XQ (b1 o f) σ H Q):tCB r (rdA X.K XQ f) σ H Q:=by
 obtain⟨mp,ρ,S,G,p⟩:=h
 exact bindP G p fun mp1 H1 xs S1 vs a1 G1 r1 p1=>hd XQ σ ρ mp1 H1 S1 xs vs Q G1.rs r1 p1
theorem Geu{id:String}{x:Str}{p pos:Pos}{e:Expr}{es:List Expr}{r:List V->Hp->VK->Prop}{o:List D->Sto->Out D}{f:Ev (List D)}(hc:Ui X (.builtin id) r)(hd:BlD X.K r o)(hg:Gl X x)(hm:X.mg x=none)(hv:bootBuiltins x=some (.builtin id))(ha:JA X XQ (e::es) f)(hn:x≠"__name__":=by decide)(hdb:(x==("__debug__":Str))=false:=by decide)
  (he:starEach (e::es) X.env=(false,eval e X.env)::starEach es X.env:=by rfl) (hpl:(backTo pos (starEach es X.env)).any (·.1)=false:=by rfl):JE X XQ (.Call (.Name x p) (e::es) [] pos) (b1 o f):=
 PE.mono (Xy hc hg hm hv ha hn hdb he hpl) (cbR hd)
theorem Gdq{T:String}{x:Str}{p pos:Pos}{e:Expr}{es:List Expr}{r:List V->Hp->VK->Prop}{o:List D->Sto->Out D}{f:Ev (List D)}(hc:Ui X (.type T) r)(hd:BlD X.K r o)(hg:Gl X x)(hm:X.mg x=none)(hv:bootBuiltins x=some (.type T))(ha:JA X XQ (e::es) f)(hn:x≠"__name__":=by decide)(hdb:(x==("__debug__":Str))=false:=by decide)
  (he:starEach (e::es) X.env=(false,eval e X.env)::starEach es X.env:=by rfl) (hpl:(backTo pos (starEach es X.env)).any (·.1)=false:=by rfl):JE X XQ (.Call (.Name x p) (e::es) [] pos) (b1 o f):=
 PE.mono (Ggl hc hg hm hv ha hn hdb he hpl) (cbR hd)
def lenD(xs:List D)(S:Sto):Out D:=match xs with
 | [.str z]=>if z.length<=1000000 then .ok (.int z.length) S else .bad
 | [.tup l]=>.ok (.int l.length) S
 | [.lst i]=>match S[i]? with
  | some c=>.ok (.int c.xs.length) S
  | none=>.bad
 | _=>.bad
theorem Gqq{K:PySem.W.Frag}:BlD K (fun xs H Q=>∃ x n,xs=[x]/\Gto K x H n/\Q (.int n) H) lenD:=by
 intro XQ σ ρ mp H S xs vs Q rs r p
 unfold lenD at p
 split at p
 ·rename_i z
  obtain⟨v,rfl,h⟩:=RepL.one r
  cases (show v=.str z from h)
  by_cases hz:z.length<=1000000
  ·rw[if_pos hz] at p
   exact⟨_,_,rfl,⟨line_le hz,rfl⟩,Gk.ok (R:=Rep K) p rs rfl⟩
  ·rw[if_neg hz] at p; exact p.elim
 ·rename_i l
  obtain⟨v,rfl,h⟩:=RepL.one r
  obtain⟨a,xs,rfl,sq,q⟩:=Rep.tup h
  exact⟨_,xs.length,rfl,.inr ⟨xs,sq,rfl⟩,Gk.ok (R:=Rep K) p rs (by rw[q.len]; rfl)⟩
 ·rename_i i
  obtain⟨v,rfl,h⟩:=RepL.one r
  split at p
  ·rename_i c zc
   obtain⟨a,xs,rfl,_,sq,q,_⟩:=rs.items h zc
   exact⟨_,xs.length,rfl,.inl ⟨xs,sq,rfl⟩,Gk.ok (R:=Rep K) p rs (by rw[q.len]; rfl)⟩
  ·exact p.elim
 ·exact p.elim
theorem Gqr{p pos:Pos}{e:Expr}{f:Ev (List D)}(hg:Gl X "len")(hm:X.mg "len"=none)(ha:JA X XQ [e] f)(he:starEach [e] X.env=(false,eval e X.env)::starEach [] X.env:=by rfl):JE X XQ (.Call (.Name "len" p) [e] [] pos) (b1 lenD f):=Geu Ghu Gqq hg hm PySem.boot_len ha (he:=he)
def Zg(xs:List D)(S:Sto):Out D:=match xs with
 | [.tup l]=>.ok (.lst S.length) (S++[⟨false,l⟩])
 | [.lst i]=>match S[i]? with
  | some c=>.ok (.lst S.length) (S++[⟨false,c.xs⟩])
  | none=>.bad
 | _=>.bad
theorem Glq{K:PySem.W.Frag}:BlD K (fun xs H Q=>∃ p ys,xs=[.ref p]/\(SqL K H p ys\/SqT K H p ys)/\∀ l,H l=none->Q (.ref l) (upd H l (.lst ys))) Zg:=by
 intro XQ σ ρ mp H S xs vs Q rs r p
 unfold Zg at p
 split at p
 ·obtain⟨v,rfl,h⟩:=RepL.one r
  obtain⟨a,xs,rfl,sq,q⟩:=Rep.tup h
  exact⟨a,xs,rfl,.inr sq,fun l hl=>Vh p rs q hl⟩
 ·obtain⟨v,rfl,h⟩:=RepL.one r
  split at p
  ·rename_i c zc
   obtain⟨a,xs,rfl,_,sq,q,_⟩:=rs.items h zc
   exact⟨a,xs,rfl,.inl sq,fun l hl=>Vh p rs q hl⟩
  ·exact p.elim
 ·exact p.elim
def Gbe(xs:List D)(S:Sto):Out D:=match xs with
 | [.tup l]=>.ok (.tup l) S
 | [.lst i]=>match S[i]? with
  | some c=>.ok (.tup c.xs) S
  | none=>.bad
 | _=>.bad
theorem Gih{K:PySem.W.Frag}:BlD K (fun xs H Q=>∃ p ys,xs=[.ref p]/\((SqL K H p ys/\∀ l,H l=none->Q (.ref l) (upd H l (.tup ys)))\/(SqT K H p ys/\Q (.ref p) H))) Gbe:=by
 intro XQ σ ρ mp H S xs vs Q rs r p
 unfold Gbe at p
 split at p
 ·obtain⟨v,rfl,h⟩:=RepL.one r
  obtain⟨a,xs,rfl,sq,q⟩:=Rep.tup h
  exact⟨a,xs,rfl,.inr ⟨sq,Gk.ok (R:=Rep K) p rs h⟩⟩
 ·obtain⟨v,rfl,h⟩:=RepL.one r
  split at p
  ·rename_i c zc
   obtain⟨a,xs,rfl,_,sq,q,_⟩:=rs.items h zc
   exact⟨a,xs,rfl,.inl ⟨sq,fun l hl=>Wm p rs q hl⟩⟩
  ·exact p.elim
 ·exact p.elim
theorem Glr{p pos:Pos}{e:Expr}{f:Ev (List D)}(hg:Gl X "list")(hm:X.mg "list"=none)(ha:JA X XQ [e] f)(he:starEach [e] X.env=(false,eval e X.env)::starEach [] X.env:=by rfl):JE X XQ (.Call (.Name "list" p) [e] [] pos) (b1 Zg f):=Gdq Gco Glq hg hm (by rfl) ha (he:=he)
theorem Gii{p pos:Pos}{e:Expr}{f:Ev (List D)}(hg:Gl X "tuple")(hm:X.mg "tuple"=none)(ha:JA X XQ [e] f)(he:starEach [e] X.env=(false,eval e X.env)::starEach [] X.env:=by rfl):JE X XQ (.Call (.Name "tuple" p) [e] [] pos) (b1 Gbe f):=Gdq Gbd Gih hg hm (by rfl) ha (he:=he)
def Ggs(xs:List D)(S:Sto):Out D:=match xs with
 | [.int i,.int j]=>.ok (.int (if j<i then j else i)) S
 | _=>.bad
theorem Gqs{K:PySem.W.Frag}:BlD K (fun xs H Q=>∃ i j,xs=[.int i,.int j]/\Q (.int (if j<i then j else i)) H) Ggs:=by
 intro XQ σ ρ mp H S xs vs Q rs r p
 unfold Ggs at p
 split at p
 ·rename_i i j
  obtain⟨v,w,rfl,h1,h2⟩:=RepL.two r
  cases (show v=.int i from h1); cases (show w=.int j from h2)
  exact⟨i,j,rfl,Gk.ok (R:=Rep K) p rs rfl⟩
 ·exact p.elim
theorem Gqt{p pos:Pos}{e e':Expr}{f:Ev (List D)}(hc:X.calm=true)(hg:Gl X "min")(hm:X.mg "min"=none)(ha:JA X XQ [e,e'] f)(he:starEach [e,e'] X.env=(false,eval e X.env)::starEach [e'] X.env:=by rfl)(hpl:(backTo pos (starEach [e'] X.env)).any (·.1)=false:=by rfl):JE X XQ (.Call (.Name "min" p) [e,e'] [] pos) (b1 Ggs f):=Geu (Ggj hc) Gqs hg hm (by rfl) ha (he:=he) (hpl:=hpl)
def Wo(x y:D)(S:Sto):Out D:=match x,y with
 | .non,.non=>.ok (.bl true) S
 | .bl _,.non=>.ok (.bl false) S
 | .int _,.non=>.ok (.bl false) S
 | .str _,.non=>.ok (.bl false) S
 | .tup _,.non=>.ok (.bl false) S
 | .lst _,.non=>.ok (.bl false) S
 | .exn _ _,.non=>.ok (.bl false) S
 | _,_=>.bad
def Qj(x y:D)(S:Sto):Out D:=match x,y with
 | .non,.non=>.ok (.bl false) S
 | .bl _,.non=>.ok (.bl true) S
 | .int _,.non=>.ok (.bl true) S
 | .str _,.non=>.ok (.bl true) S
 | .tup _,.non=>.ok (.bl true) S
 | .lst _,.non=>.ok (.bl true) S
 | .exn _ _,.non=>.ok (.bl true) S
 | _,_=>.bad
theorem Gqu{K:PySem.W.Frag}:OpD K (fun x y H Q=>y=.non/\Q (.bl (decide (x=.non))) H) Wo:=by
 intro XQ σ ρ mp H S x y v u Q rs rx ry p
 cases y with
 | non=>
  refine⟨ry,?_⟩
  cases x with
  | non=>cases (show v=.non from rx); exact Gk.ok (R:=Rep K) p rs (by rfl)
  | bl b=>cases (show v=.bl b from rx); exact Gk.ok (R:=Rep K) p rs (by rfl)
  | int b=>cases (show v=.int b from rx); exact Gk.ok (R:=Rep K) p rs (by rfl)
  | str b=>cases (show v=.str b from rx); exact Gk.ok (R:=Rep K) p rs (by rfl)
  | tup l=>obtain⟨a,xs,rfl,_⟩:=Rep.tup rx; exact Gk.ok (R:=Rep K) p rs (by rfl)
  | lst i=>obtain⟨a,rfl,_⟩:=(show ∃ a,v=.ref a/\mp[i]?=some a from rx); exact Gk.ok (R:=Rep K) p rs (by rfl)
  | exn c n=>obtain⟨a,dx,_,rfl,_⟩:=(show ∃ a dx p,v=.ref a/\(CN K c p/\XCl K p/\H a=some (XO a p dx))/\∀ i,n=some i->∃ d,dx=some d/\H d=some (XA d i) from rx); exact Gk.ok (R:=Rep K) p rs (by rfl)
  | fv c=>exact(show False from p).elim
 | _=>cases x<;>exact(show False from p).elim
theorem Gls{K:PySem.W.Frag}:OpD K (fun x y H Q=>y=.non/\Q (.bl (!decide (x=.non))) H) Qj:=by
 intro XQ σ ρ mp H S x y v u Q rs rx ry p
 cases y with
 | non=>
  refine⟨ry,?_⟩
  cases x with
  | non=>cases (show v=.non from rx); exact Gk.ok (R:=Rep K) p rs (by rfl)
  | bl b=>cases (show v=.bl b from rx); exact Gk.ok (R:=Rep K) p rs (by rfl)
  | int b=>cases (show v=.int b from rx); exact Gk.ok (R:=Rep K) p rs (by rfl)
  | str b=>cases (show v=.str b from rx); exact Gk.ok (R:=Rep K) p rs (by rfl)
  | tup l=>obtain⟨a,xs,rfl,_⟩:=Rep.tup rx; exact Gk.ok (R:=Rep K) p rs (by rfl)
  | lst i=>obtain⟨a,rfl,_⟩:=(show ∃ a,v=.ref a/\mp[i]?=some a from rx); exact Gk.ok (R:=Rep K) p rs (by rfl)
  | exn c n=>obtain⟨a,dx,_,rfl,_⟩:=(show ∃ a dx p,v=.ref a/\(CN K c p/\XCl K p/\H a=some (XO a p dx))/\∀ i,n=some i->∃ d,dx=some d/\H d=some (XA d i) from rx); exact Gk.ok (R:=Rep K) p rs (by rfl)
  | fv c=>exact(show False from p).elim
 | _=>cases x<;>exact(show False from p).elim
section
variable{a b:Expr}{fa fb:Ev D}{pos:Pos}
theorem Gqv(ha:JE X XQ a fa)(hb:JE X XQ b fb):JT X XQ (.Compare a [.Is] [b] pos) (tb (o2 Wo fa fb)):=Yq Gpb Gqu ha hb (nomark _)
theorem Glt(ha:JE X XQ a fa)(hb:JE X XQ b fb):JT X XQ (.Compare a [.IsNot] [b] pos) (tb (o2 Qj fa fb)):=Yq Gks Gls ha hb (nomark _)
end
def Uq(xs:List D)(lo hi:Option Int):List D:=(xs.drop (HT.sIx xs.length 0 lo)).take (HT.sIx xs.length xs.length hi-HT.sIx xs.length 0 lo)
theorem RepL.cut{K:PySem.W.Frag}{mp:List Addr}{H:Hp}{l:List D}{vs:List V}(h:RepL K mp H l vs)(lo hi:Option Int):RepL K mp H (Uq l lo hi) (Gdm vs lo hi):=by
 unfold Uq Gdm
 rw[h.len]
 exact(h.drop _).take _
def slD(x:D)(lo hi:Option Int)(S:Sto):Out D:=match x with
 | .tup l=>if HT.sIx l.length 0 lo=0/\HT.sIx l.length l.length hi=l.length then .bad else .ok (.tup (Uq l lo hi)) S
 | .lst i=>match S[i]? with
  | some c=>.ok (.lst S.length) (S++[⟨false,Uq c.xs lo hi⟩])
  | none=>.bad
 | _=>.bad
def sl(fe:Ev D)(fl fh:Ev (Option Int)):Ev D:=fun ρ S=>(fe ρ S).bind fun x S1=>(fl ρ S1).bind fun l S2=>(fh ρ S2).bind fun u S3=>slD x l u S3
def onone:Ev (Option Int):=fun _ S=>.ok none S
def osome(f:Ev D):Ev (Option Int):=fun ρ S=>(f ρ S).bind fun x S1=>match x with
 | .int i=>.ok (some i) S1
 | _=>.bad
theorem Glu:JO X XQ none onone:=PO.mono Gk0 fun σ H Q ⟨mp,ρ,S,G,p⟩=>Gk.ok (R:=kO) (show Gk X.K kO XQ σ ρ mp H (.ok none S) Q from p) G.rs rfl
theorem Glv{e:Expr}{f:Ev D}(h:JE X XQ e f):JO X XQ (some e) (osome f):=PO.mono (Gk1 h) fun σ H Q ⟨mp,ρ,S,G,p⟩=>bindP G p fun mp1 H1 x S1 v a1 G1 r1 p1=>by
 cases x with
 | int i=>exact⟨i,r1,Gk.ok (R:=kO) p1 G1.rs rfl⟩
 | _=>exact(show False from p1).elim
def MeD(K:PySem.W.Frag)(r:V->List V->Hp->VK->Prop)(o:D->List D->Sto->Out D):Prop:=
 ∀ (XQ:XW) (σ:L2.St) (ρ:Lc) (mp:List Addr) (H:Hp) (S:Sto) (x:D) (xs:List D) (v:V) (vs:List V) (Q:VK),RS K mp H S->Rep K mp H x v->RepL K mp H xs vs->Post K XQ σ ρ mp H (o x xs S) Q->r v vs H Q
def isLst(x:D)(S:Sto):Bool:=match x with
 | .lst i=>match S[i]? with
  | some _=>true
  | none=>false
 | _=>false
def mt(o:D->List D->Sto->Out D)(fo:Ev D)(f:Ev (List D)):Ev D:=fun ρ S=>(fo ρ S).bind fun x S1=>if isLst x S1=true then(f ρ S1).bind fun xs S2=>o x xs S2 else .bad
theorem Zt{id:String}{name:Str}{o e:Expr}{es:List Expr}{apos cpos:Pos}{r:V->List V->Hp->VK->Prop}{od:D->List D->Sto->Out D}{fo:Ev D}{f:Ev (List D)}(slot:Slot "list" name id)(hty:typeOf (.builtin id)=pure (.type "method_descriptor"))(hm:MtM X id r)(hd:MeD X.K r od)(ho:JE X XQ o fo)(ha:JA X XQ (e::es) f)
  (hbase:attributeBase o name X.env (eval o X.env)=eval o X.env:=by rfl)
  (hfew:((backTo cpos (starEach (e::es) X.env)).all (fun x=>!x.1)&&(backToKw cpos (keywordEach [] X.env)).all (fun x=>x.1.isSome)
   && decide ((e::es).length+([]:List Keyword).length+(if([]:List Keyword).isEmpty then 0 else 1)<30))=true:=by rfl)
  (hline:(apos.endLine==cpos.line)=true:=by rfl) (hs:starEach (e::es) X.env=(false,eval e X.env)::starEach es X.env:=by rfl) (hplain:(backTo cpos (starEach es X.env)).any (·.1)=false:=by rfl):
  JE X XQ (.Call (.Attribute o name apos) (e::es) [] cpos) (mt od fo f):=by
 refine PE.mono (Gh1 PySem.F.plainAttrs_list slot hty hm ho ha hbase hfew hline hs hplain) fun σ H Q ⟨mp,ρ,S,G,p⟩=>?_
 refine bindP G p fun mp1 H1 x S1 v a1 G1 r1 p1=>?_
 by_cases hl:isLst x S1=true
 ·rw[if_pos hl] at p1
  have ty:tyV X.K "list" v H1:=by
   cases x with
   | lst i=>
    cases zc:S1[i]? with
    | none=>simp[isLst,zc] at hl
    | some c=>
     obtain⟨a,xs,rfl,_,sq,_⟩:=G1.rs.items r1 zc
     exact .inl ⟨rfl,xs,sq⟩
   | _=>simp[isLst] at hl
  exact⟨ty,bindP G1 p1 fun mp2 H2 xs S2 vs a2 G2 r2 p2=>hd XQ σ ρ mp2 H2 S2 x xs v vs Q G2.rs (Rep.aft a2 _ _ r1) r2 p2⟩
 ·rw[if_neg hl] at p1; exact p1.elim
def Xr(x:D)(xs:List D)(S:Sto):Out D:=match x,xs with
 | .lst i,[d]=>match S[i]? with
  | some c=>if c.fz=false/\c.xs.length<1000000 then .ok .non (S.set i ⟨false,c.xs++[d]⟩) else .bad
  | none=>.bad
 | _,_=>.bad
theorem Gqw{K:PySem.W.Frag}:MeD K Gfn Xr:=by
 intro XQ σ ρ mp H S x xs v vs Q rs rx r p
 unfold Xr at p
 split at p
 ·rename_i i d
  split at p
  ·rename_i c zc
   by_cases hc:c.fz=false/\c.xs.length<1000000
   ·rw[if_pos hc] at p
    obtain⟨w,rfl,hw⟩:=RepL.one r
    obtain⟨a,ys,rfl,ha,sq,q,f⟩:=rs.items rx zc
    have hH:=f hc.1
    obtain⟨af,rs'⟩:=rs.setL ha zc hc.1 hH (RepL.append q (RepL.cons hw RepL.nil))
    exact⟨a,ys,w,rfl,rfl,hH,by rw[q.len]; exact Nat.lt_of_lt_of_le hc.2 (by decide),p mp _ _ af rs' rfl⟩
   ·rw[if_neg hc] at p; exact p.elim
  ·exact p.elim
 ·exact p.elim
theorem Ggt{o e:Expr}{apos cpos:Pos}{fo:Ev D}{f:Ev (List D)}(ho:JE X XQ o fo)(ha:JA X XQ [e] f)(hbase:attributeBase o "append" X.env (eval o X.env)=eval o X.env:=by rfl)
  (hfew:((backTo cpos (starEach [e] X.env)).all (fun x=>!x.1)&&(backToKw cpos (keywordEach [] X.env)).all (fun x=>x.1.isSome)
   && decide ([e].length+([]:List Keyword).length+(if([]:List Keyword).isEmpty then 0 else 1)<30))=true:=by rfl)
  (hline:(apos.endLine==cpos.line)=true:=by rfl) (hs:starEach [e] X.env=(false,eval e X.env)::starEach [] X.env:=by rfl):
  JE X XQ (.Call (.Attribute o "append" apos) [e] [] cpos) (mt Xr fo f):=Zt PySem.F.slot_list_append PySem.F.type_list_append Gb3 Gqw ho ha hbase hfew hline hs rfl
end
section
variable{X:Cx}{XQ:XW}
theorem Gqx{K:PySem.W.Frag}:UnD K (rU fun i=>.int (-i)) Gdp:=by
 intro XQ σ ρ mp H S x v Q rs rx p
 cases x with
 | int i=>exact⟨i,rx,Gk.ok (R:=Rep K) (show Post K XQ σ ρ mp H (.ok (.int (-i)) S) Q from p) rs rfl⟩
 | _=>exact(show False from p).elim
theorem Gqy{a:Expr}{fa:Ev D}{pos:Pos}(ha:JE X XQ a fa):JE X XQ (.UnaryOp .USub a pos) (o1 Gdp fa):=Gt0 Gpa Gqx ha
def ch(o o':D->D->Sto->Out D)(fa fb fc:Ev D):Ev D:=fun ρ S=>(fa ρ S).bind fun x S1=>(fb ρ S1).bind fun y S2=>(o x y S2).bind fun z S3=>match z with
 | .bl k=>if k=true then(fc ρ S3).bind fun w S4=>o' y w S4 else .ok (.bl false) S3
 | _=>.bad
theorem Gqz{K:PySem.W.Frag}{r r':R2}{o o':D->D->Sto->Out D}{fa fb fc:Ev D}(hd:OpD K r o)(hd':OpD K r' o')(σ:L2.St)(H:Hp)(Q:VK)(h:rdE K XQ (ch o o' fa fb fc) σ H Q):Ghr r r' (rdE K XQ fa) (rdE K XQ fb) (rdE K XQ fc) σ H Q:=by
 obtain⟨mp,ρ,S,G,p⟩:=h
 refine bindP G p fun mp1 H1 x S1 v a1 G1 r1 p1=>?_
 refine bindP G1 p1 fun mp2 H2 y S2 u a2 G2 r2 p2=>?_
 refine hd XQ σ ρ mp2 H2 S2 x y v u _ G2.rs (Rep.aft a2 _ _ r1) r2 ?_
 cases z:o x y S2 with
 | bad=>rw[z] at p2; exact p2
 | exc e S3=>rw[z] at p2; exact p2
 | ok d S3=>
  rw[z] at p2
  intro mp3 H3 zv a3 rs3 r3
  have p3:=Gk.aft p2 a3
  have G3:=G2.aft a3 rs3
  cases d with
  | bl k=>
   refine⟨k,r3,?_⟩
   cases k with
   | true=>exact(if_pos rfl).mpr (bindP (f:=fc) G3 (by simpa[Out.bind] using p3) fun mp4 H4 w S4 wv a4 G4 r4 p4=>hd' XQ σ ρ mp4 H4 S4 y w u wv Q G4.rs (Rep.aft (a3.trans a4) _ _ r2) r4 p4)
   | false=>exact(if_neg Bool.false_ne_true).mpr (Gk.ok (R:=Rep K) (d:=.bl false) (S:=S3) (by simpa[Out.bind] using p3) G3.rs rfl)
  | _=>exact(show False from p3).elim
theorem Gij{a b c:Expr}{op op':CmpOp}{r r':R2}{o o':D->D->Sto->Out D}{fa fb fc:Ev D}{pos:Pos}(ho:OpR X (compareOp op) r)(hd:OpD X.K r o)(ho':OpR X (compareOp op') r')(hd':OpD X.K r' o')(ha:JE X XQ a fa)(hb:JE X XQ b fb)(hc:JE X XQ c fc)
  (hm:lastMarks [op,op'] [b,c]=false:=by with_unfolding_all rfl):JT X XQ (.Compare a [op,op'] [b,c] pos) (tb (ch o o' fa fb fc)):=PT.mono (Ghs ho ho' ha hb hc hm) fun σ H Q h=>Gqz hd hd' σ H _ (Gh6 h)
theorem Gfq{K:PySem.W.Frag}:OpD K (rI0 fun i j=>.bl (decide (i<=j))) leD:=od_int0 fun _ _ _ _=>rfl
end
def XAt(a c:Addr)(h:Heap):Prop:=∃ oe,h.get? a=some oe/\oe.cls=.ref c/\∃ vs,oe.data=.fields vs
section
variable{prog:Program}{w:World}{A:Around}{E:Value->Shared->Prop}{h:Heap}{g:Array GenState}{d:Drawn}{t:Nat}{os:OsState}{a c:Addr}{o:Obj}{K:PySem.W.Frag}
theorem Gq0{M:Model}(x:XAt a c h):PySem.W.Looks M h (typeOf (.ref a)) (.ref c):=by
 obtain⟨oe,h1,h2,_⟩:=x
 exact h2▸(PySem.W.Looks.ld h1).andThen .now
theorem Gq1{tp:Value}{R:Result->Shared->Prop}(X:K.In h)(k:XCl K c)(x:XAt a c h)(hq:R (.ok (.ret (.ref c))) ⟨h,g,d,t,os⟩):
  codeAny (model prog w) A (.call (.builtin "getset_descriptor.__get__") ⟨[.builtin "object.__class__",.ref a,tp],[]⟩) R ⟨h,g,d,t,os⟩:=by
 obtain⟨oe,hx,hc,_⟩:=x
 have hT5:(⟨h,g,d,t,os⟩:Shared).TypeIs (.builtin "object.__class__") "getset_descriptor":=F.typeOf_object_class
 refine codeAny_call_builtin F.slot_gs_get.plain F.entry_gs_get (F.slot_gs_get.check _ _ _ _ _ _ _ _ hT5 (F.args_gs_get _ _ _) ?_)
 have L1:=fun(M:Model)=>PySem.W.looks_mroIn (M:=M) X k.ob
 have ow:=F.owner_object_class
 repeat (any_goals (first | assumption | (with_reducible refine wpAny_loadPart_at hx ?_; rw[hc]) | (rw[ow]; with_reducible refine(L1 _).here ?_) | wp_step))
 refine⟨Code.quiet_builtin _ (by decide +kernel),codeAny_builtin F.entry_object_class ?_⟩
 repeat (any_goals (first | assumption | (with_reducible refine wpAny_loadPart_at hx ?_; rw[hc]) | wp_step))
theorem Gdr{M:Model}{nameV:Value}{Q:Unit->Shared->Prop}(X:K.In h)(k:XCl K c)(x:XAt a c h)(hq:Q () ⟨h,g,d,t,os⟩):wpAny M A (checkBuiltinCall "BaseException.__getattribute__" ⟨[.ref a,nameV],[]⟩) Q E ⟨h,g,d,t,os⟩:=by
 obtain⟨oe,hx,hc,_⟩:=x
 have bk:builtinKind "BaseException.__getattribute__"=some .slot:=by decide +kernel
 have bs:splitId "BaseException.__getattribute__"=some ("BaseException","__getattribute__"):=by decide +kernel
 have ha:=F.args_bexc_ga (.ref a) nameV
 have L1:PySem.W.Looks M h (isSubtype (.ref c) (.type "BaseException")) true:=PySem.W.looks_subIn X k.be
 simp only[checkBuiltinCall,bk,bs]
 refine wpAny_bind ?_
 ·unfold isInstance
  repeat (first | (with_reducible refine wpAny_loadPart_at hx ?_; rw[hc]) | (with_reducible refine L1.here ?_) | wp_step)
  exact hq
theorem Gik{tk:Tok}{Q:Fin->Shared->Prop}(X:K.In h)(k:XCl K c)(x:XAt a c h)(hq:Q (.done (.ret (.ref c))) ⟨h,g,d,t,os⟩):
  wpAny (model prog w) A (Builtin.«object.__getattribute__» ⟨[.ref a,.str "__class__" tk],[]⟩) Q E ⟨h,g,d,t,os⟩:=by
 obtain⟨oe,hx,hc,hv⟩:=id x
 have hT5:(⟨h,g,d,t,os⟩:Shared).TypeIs (.builtin "object.__class__") "getset_descriptor":=F.typeOf_object_class
 have f5:=F.typeOf_object_class
 have f6:=F.slot_gs_get.lookup
 have f7:=F.slot_gs_set.lookup
 have L1:=fun(M:Model)=>PySem.W.looks_findIn (M:=M) X k.cl
 repeat (any_goals (first | assumption | (with_reducible refine wpAny_loadPart_at hx ?_; rw[hc]) | with_reducible refine(L1 _).here ?_ | wp_step))
 refine Gq1 X k x ?_
 repeat (any_goals (first | assumption | wp_step))
theorem Gud{tk:Tok}{fill expr:Bool}{Q:Value->Shared->Prop}(X:K.In h)(k:XCl K c)(x:XAt a c h)(hq:Q (.ref c) ⟨h,g,d,t,os⟩):
  wpAny (model prog w) A (getAttrBy (.ref a) (.str "__class__" tk) fill expr) Q E ⟨h,g,d,t,os⟩:=by
 obtain⟨oe,hx,hc,hv⟩:=id x
 have f3:=PySem.F.excAttr_ValueError.ga.bind (.ref a)
 have n0:(expr&&onTheHeap (Value.builtin "BaseException.__getattribute__"))=false:=by cases expr<;>rfl
 have n2:(Value.builtin "BaseException.__getattribute__"==Value.builtin "object.__getattribute__")=false:=by decide +kernel
 have n1:(onTheHeap (Value.ref c)&&Value.builtin "BaseException.__getattribute__"==Value.builtin "object.__getattribute__")=false:=by rw[n2]; rfl
 have L1:=fun(M:Model)=>PySem.W.looks_findIn (M:=M) X k.ga
 have L2:=fun(M:Model)=>PySem.W.looks_findIn (M:=M) X k.gt
 repeat (any_goals (first | assumption | (with_reducible refine wpAny_loadPart_at hx ?_; rw[hc]) | with_reducible refine(L1 _).here ?_ | with_reducible refine(L2 _).here ?_ | wp_step))
 refine codeAny_call_builtin PySem.F.excAttr_ValueError.ga.plain F.entry_bexc_ga (Gdr X k x (Gik X k x ?_))
 repeat (any_goals (first | assumption | wp_step))
theorem Glw{Q:Option Value->Shared->Prop}(X:K.In h)(k:XCl K c)(x:XAt a c h)(hq:Q (some (.ref c)) ⟨h,g,d,t+1,os⟩):wpAny (model prog w) A (getAttr? (.ref a) "__class__") Q E ⟨h,g,d,t,os⟩:=by
 unfold getAttr? getAttrBy?
 repeat (any_goals (first | assumption | with_reducible apply Gud X k x | wp_step))
end
theorem Gds{K:PySem.W.Frag}{a c:Addr}(k:XCl K c):PySem.W.KitX K (.ref a) (.ref c) (XAt a c) where
 ty:=fun _ _ _ x=>Gq0 x
 it:=fun _ _ X _=>by
  obtain⟨cd,hc⟩:=Option.isSome_iff_exists.mp k.cd
  unfold PySem.W.clsIn at hc
  split at hc
  ·rename_i c' d' cd' sl' ho
   intro A Q E s kp q
   unfold isType loadHead
   exact wpAny_bind (wpAny_loadPart (kp _ _ (X _ _ ho)) (wpAny_pure q))
  ·cases hc
 ne:=fun h tp dd its n sl X htp=>by
  obtain⟨cd,hc⟩:=Option.isSome_iff_exists.mp k.cd
  refine Bool.eq_false_iff.mpr fun q=>?_
  have e:c=tp:=Value.ref.inj (beq_iff_eq.mp q)
  subst e
  unfold PySem.W.clsIn at hc
  split at hc
  ·rename_i c' d' cd' sl' ho
   cases (X _ _ ho).symm.trans htp
  ·cases hc
 ca:=fun{prog w A E Q s} X x q=>by
  obtain⟨hh,g,d,t,os⟩:=s
  exact Glw X k x q
def tyN:D->String
 | .non=>"NoneType"
 | .bl _=>"bool"
 | .int _=>"int"
 | .str _=>"str"
 | .tup _=>"tuple"
 | .lst _=>"list"
 | .exn _ _=>"exn"
 | .fv _=>"fv"
def isT(T t:String):Bool:=t==T||(T=="int"&&t=="bool")
def isD(T:String)(x:D)(S:Sto):Out D:=match x with
 | .fv _=>.bad
 | _=>.ok (.bl (isT T (tyN x))) S
def Kit(K:PySem.W.Frag)(T:String):Prop:=T∈["bool","int","str","tuple","list"]/\∀ t∈["NoneType","bool","int","str","tuple","list"],PySem.W.kitOne K (.type t) (.type T)=some (isT T t)
theorem Glx{K:PySem.W.Frag}:Kit K "int":=by refine⟨by decide,?_⟩; intro t h; simp only[List.mem_cons,List.mem_nil_iff,or_false] at h; rcases h with rfl | rfl | rfl | rfl | rfl | rfl<;>first | rfl | decide +kernel | (with_unfolding_all rfl)
theorem Gil{K:PySem.W.Frag}:Kit K "bool":=by refine⟨by decide,?_⟩; intro t h; simp only[List.mem_cons,List.mem_nil_iff,or_false] at h; rcases h with rfl | rfl | rfl | rfl | rfl | rfl<;>first | rfl | decide +kernel | (with_unfolding_all rfl)
section
variable{X:Cx}{XQ:XW}
def Gwm(K:PySem.W.Frag)(T:String):List V->Hp->VK->Prop:=fun vs H Q=>∃ x t,vs=[x,.ty T]/\(match x with
 | .non=>t="NoneType" | .bl _=>t="bool" | .int _=>t="int" | .str _=>t="str"
 | .ref a=>(t="tuple"/\∃ xs,SqT K H a xs)\/(t="list"/\∃ xs,SqL K H a xs)\/(t="exn"/\∃ c dx,XCl K c/\H a=some (XO a c dx))
 | _=>False)/\Q (.bl (isT T t)) H
theorem Gn8{pins:List (Addr×Obj)}{σ:L2.St}{H:Hp}{s:Shared}{a c:Addr}{dx:Option Addr}(I:Inv X pins σ H s)(h:H a=some (XO a c dx)):XAt a c s.heap:=by
 obtain⟨⟨oe,h1,h2,_,h3⟩,_,_⟩:=(show Jm X.prog X.w H s.heap a (XO a c dx) from I.hok a _ h)
 exact⟨oe,h1,h2,h3⟩
theorem Gly{T:String}(h:T∈["bool","int","str","tuple","list"]):isT T "exn"=false:=by
 simp only[List.mem_cons,List.mem_nil_iff,or_false] at h
 rcases h with rfl | rfl | rfl | rfl | rfl<;>rfl
theorem Gim{T:String}(k:Kit X.K T):Ui X (.builtin "isinstance") (Gwm X.K T):=by
 intro pins s σ H xs us Q I r ⟨x,t,e,h,q⟩
 subst e
 obtain⟨u,w,rfl,ru,rw'⟩:=Vals.two r
 cases (show w=Value.type T from rw')
 have fin:∀ tk,EP X pins σ Q (.bool (isT T t)) { s with toks:=tk }:=fun tk=>⟨.bl _,H,I.tok tk,rfl,q⟩
 cases x with
 | non=>cases (show u=Value.none from ru); cases (show t="NoneType" from h); exact PySem.W.kia_one PySem.W.kitx_none I.kIn True.intro (k.2 _ (by decide)) (fun z=>nomatch z) fin
 | bl y=>cases (show u=Value.bool y from ru); cases (show t="bool" from h); exact PySem.W.kia_one PySem.W.kitx_bool I.kIn True.intro (k.2 _ (by decide)) (fun z=>nomatch z) fin
 | int i=>obtain⟨tk,e⟩:=(show ∃ t,u=Value.int i t from ru); cases e; cases (show t="int" from h); exact PySem.W.kia_one PySem.W.kitx_int I.kIn True.intro (k.2 _ (by decide)) (fun z=>nomatch z) fin
 | str y=>obtain⟨tk,e⟩:=(show ∃ t,u=Value.str y t from ru); cases e; cases (show t="str" from h); exact PySem.W.kia_one PySem.W.kitx_str I.kIn True.intro (k.2 _ (by decide)) (fun z=>nomatch z) fin
 | ref a=>
  cases (show u=Value.ref a from ru)
  rcases h with⟨rfl,xs,sq⟩ | ⟨rfl,xs,sq⟩ | ⟨rfl,c,dx,xc,hH⟩
  ·obtain⟨its,_,⟨o,h1,h2,_⟩,_⟩:=I.tuple sq
   exact PySem.W.kia_one PySem.W.kitx_tuple I.kIn ⟨o,h1,h2⟩ (k.2 _ (by decide)) (fun z=>nomatch z) fin
  ·obtain⟨its,_,⟨o,n,h1,h2,_⟩,_⟩:=I.list sq
   exact PySem.W.kia_one PySem.W.kitx_list I.kIn ⟨o,h1,h2⟩ (k.2 _ (by decide)) (fun z=>nomatch z) fin
  ·have xa:=Gn8 I hH
   have e:isT T "exn"=false:=Gly k.1
   rw[e] at fin
   exact PySem.W.kia_one (Gds xc) I.kIn xa (xc.bt T k.1) (fun z=>nomatch z) fin
 | _=>exact h.elim
theorem Gq2{T:String}{x:Str}{e:Expr}{f:Ev D}{p p2 pos:Pos}(k:Kit X.K T)(hv:bootBuiltins x=some (.type T))(hnx:x≠"__name__")(hdx:(x==("__debug__":Str))=false)(hg:Gl X "isinstance")(hm:X.mg "isinstance"=none)(hgt:Gl X x)(hmt:X.mg x=none)(he:JE X XQ e f)
  (hs:starEach [e,.Name x p2] X.env=(false,eval e X.env)::starEach [.Name x p2] X.env) (hpl:(backTo pos (starEach [.Name x p2] X.env)).any (·.1)=false) (hs2:starEach [.Name x p2] X.env=(false,eval (.Name x p2) X.env)::starEach [] X.env):
  JE X XQ (.Call (.Name "isinstance" p) [e,.Name x p2] [] pos) (o1 (isD T) f):=by
 refine PE.mono (Xy (Gim k) hg hm (by rfl) (Kc he (Kc (Gfj hgt hmt hv (v:=.ty T) rfl hnx hdx) pa_nil hs2) hs) (by decide) (by decide) hs hpl) fun σ H Q ⟨mp,ρ,S,G,q⟩=>?_
 refine bindP G q fun mp1 H1 d S1 v a1 G1 r1 p1=>?_
 have p2:(∃ c,d=.fv c)\/Post X.K XQ σ ρ mp1 H1 (.ok (.bl (isT T (tyN d))) S1) Q:=by cases d<;>first | exact .inr p1 | exact .inl ⟨_,rfl⟩
 rcases p2 with⟨c,rfl⟩ | p2
 ·exact(show False from p1).elim
 refine⟨v,tyN d,rfl,?_,Gk.ok (R:=Rep X.K) p2 G1.rs rfl⟩
 cases d with
 | non=>cases (show v=.non from r1); exact rfl
 | bl b=>cases (show v=.bl b from r1); exact rfl
 | int b=>cases (show v=.int b from r1); exact rfl
 | str b=>cases (show v=.str b from r1); exact rfl
 | tup l=>obtain⟨a,xs,rfl,sq,_⟩:=Rep.tup r1; exact .inl ⟨rfl,xs,sq⟩
 | lst i=>
  obtain⟨a,rfl,ha⟩:=(show ∃ a,v=.ref a/\mp1[i]?=some a from r1)
  have hl:i<S1.length:=by rw[<- G1.rs.len]; exact(List.getElem?_eq_some_iff.mp ha).1
  obtain⟨a2,xs,e2,_,sq,_⟩:=G1.rs.items r1 (List.getElem?_eq_getElem hl)
  cases e2
  exact .inr (.inl ⟨rfl,xs,sq⟩)
 | exn c n=>
  obtain⟨a,dx,q,rfl,⟨_,xc,hH⟩,_⟩:=(show ∃ a dx p,v=.ref a/\(CN X.K c p/\XCl X.K p/\H1 a=some (XO a p dx))/\∀ i,n=some i->∃ d,dx=some d/\H1 d=some (XA d i) from r1)
  exact .inr (.inr ⟨rfl,q,dx,xc,hH⟩)
 | fv c=>exact(show False from p1).elim
end
section
variable{X:Cx}{XQ:XW}
def Zh:List D->Option (List Bool)
 | []=>some []
 | .bl b::l=>match Zh l with
  | some r=>some (b::r)
  | none=>none
 | _::_=>none
def allD(xs:List D)(S:Sto):Out D:=match xs with
 | [.lst i]=>match S[i]? with
  | some c=>match Zh c.xs with
   | some bs=>.ok (.bl (bs.all id)) S
   | none=>.bad
  | none=>.bad
 | _=>.bad
theorem Gfr{K:PySem.W.Frag}{mp:List Addr}{H:Hp}:∀ {l:List D} {vs:List V} {bs:List Bool},RepL K mp H l vs->Zh l=some bs->vs=bs.map V.bl
 | [],vs,bs,h,e=>by cases (show vs=[] from h); cases (Option.some.inj e); rfl
 | .bl b::l,vs,bs,h,e=>by
  obtain⟨v,r,rfl,h1,h2⟩:=(show ∃ v r,vs=v::r/\Rep K mp H (.bl b) v/\RepL K mp H l r from h)
  cases (show v=.bl b from h1)
  cases z:Zh l with
  | none=>simp[Zh,z] at e
  | some q=>
   simp only[Zh,z] at e
   cases (Option.some.inj e)
   rw[Gfr h2 z]
   rfl
 | .non::l,vs,bs,h,e=>by cases e
 | .int _::l,vs,bs,h,e=>by cases e
 | .str _::l,vs,bs,h,e=>by cases e
 | .tup _::l,vs,bs,h,e=>by cases e
 | .lst _::l,vs,bs,h,e=>by cases e
theorem Gdt:∀ {bs:List Bool} {us:List Value},Vals (bs.map V.bl) us->us=bs.map Value.bool
 | [],us,h=>by cases h; rfl
 | b::r,us,h=>by
  cases h with
  | cons h1 h2=>
   cases (show _=Value.bool b from h1)
   rw[Gdt h2]
   rfl
theorem Ggu(bs:List Bool):((List.range bs.length).all fun i=>bs.getD i true)=bs.all id:=by
 rw[Bool.eq_iff_iff,List.all_eq_true,List.all_eq_true]
 constructor
 ·intro h b hb
  obtain⟨i,hi,e⟩:=List.getElem_of_mem hb
  have:=h i (List.mem_range.mpr hi)
  rw[List.getD_eq_getElem?_getD,List.getElem?_eq_getElem hi] at this
  simpa[e] using this
 ·intro h i hi
  have hi:=List.mem_range.mp hi
  rw[List.getD_eq_getElem?_getD,List.getElem?_eq_getElem hi]
  exact h _ (List.getElem_mem hi)
theorem Gcy(hc:X.calm=true):Ui X (.builtin "all") (fun xs H Q=>∃ (p:Addr) (bs:List Bool),xs=[.ref p]/\SqL X.K H p (bs.map V.bl)/\Q (.bl (bs.all id)) H):=by
 intro pins s σ H xs us Q I r ⟨p,bs,e,sq,q⟩
 subst e
 obtain⟨u,rfl,ru⟩:=r.one
 cases (show u=Value.ref p from ru)
 obtain⟨its,rv,pl,hz⟩:=I.list sq
 have ei:=Gdt rv
 subst ei
 have hl:=pl.isList
 refine call_all_walk (wpAny_pyIter_list hl ?_)
 have hne:p≠s.heap.objs.size:=by
  obtain⟨o,n,ho,_⟩:=pl
  exact Nat.ne_of_lt (Heap.lt_size ho)
 refine⟨s.heap.objs.size,[s.heap.objs.size,p],[s.heap.objs.size],_,_,_,fun i=>bs.getD i true,rfl,Walks.list (by exact I.ok.hd hc) s.heap.objs.size p hne (bs.map Value.bool).toArray,⟨⟨_,Heap.get?_push_size _ rfl,rfl,rfl⟩,hl.push _⟩,fun i v s' Q' E' hP hQ'=>?_,fun h' tk hk=>?_⟩
 ·have hP:(bs.map Value.bool)[i]?=some v:=by simpa using hP
  rw[List.getElem?_map] at hP
  cases z:bs[i]? with
  | none=>rw[z] at hP; cases hP
  | some b=>
   rw[z] at hP
   cases (Option.some.inj hP)
   refine wpAny_truthy_bool ?_
   have e:bs.getD i true=b:=by rw[List.getD_eq_getElem?_getD,z]; rfl
   have hQ2:Q' (bs.getD i true) s':=hQ'
   rw[e] at hQ2
   exact hQ2
 ·have hs:((List.range (bs.map Value.bool).toArray.size).all fun i=>bs.getD i true)=bs.all id:=by simpa using Ggu bs
  rw[hs]
  refine⟨.bl _,H,I.kept (h':=h') (t':=tk) fun b o e=>hk b o (fun z=>absurd (Heap.lt_size e) (by rw[show b=s.heap.objs.size from List.mem_singleton.mp z]; exact Nat.lt_irrefl _)) (Heap.get?_push_of_some _ e),rfl,q⟩
theorem Gq3{K:PySem.W.Frag}:BlD K (fun xs H Q=>∃ (p:Addr) (bs:List Bool),xs=[.ref p]/\SqL K H p (bs.map V.bl)/\Q (.bl (bs.all id)) H) allD:=by
 intro XQ σ ρ mp H S xs vs Q rs r p
 unfold allD at p
 split at p
 ·obtain⟨v,rfl,h⟩:=RepL.one r
  split at p
  ·rename_i c zc
   split at p
   ·rename_i bs zb
    obtain⟨a,xs,rfl,_,sq,q,_⟩:=rs.items h zc
    rw[Gfr q zb] at sq
    exact⟨a,bs,rfl,sq,Gk.ok (R:=Rep K) p rs rfl⟩
   ·exact p.elim
  ·exact p.elim
 ·exact p.elim
theorem Gq4{p pos:Pos}{e:Expr}{f:Ev (List D)}(hc:X.calm=true)(hg:Gl X "all")(hm:X.mg "all"=none)(ha:JA X XQ [e] f)(he:starEach [e] X.env=(false,eval e X.env)::starEach [] X.env:=by rfl):JE X XQ (.Call (.Name "all" p) [e] [] pos) (b1 allD f):=Geu (Gcy hc) Gq3 hg hm (by rfl) ha (he:=he)
end
end DL
namespace DL
open PySem
variable{es:List Expr}{env:PySem.Env}
theorem Gb{c j p}:starEach (.Constant c j p::es) env=(false,eval (.Constant c j p) env)::starEach es env:=rfl
theorem Gg{x p}:starEach (.Name x p::es) env=(false,eval (.Name x p) env)::starEach es env:=rfl
theorem Wp{a b p}:starEach (.Tuple a b p::es) env=(false,eval (.Tuple a b p) env)::starEach es env:=rfl
theorem Ya{a p}:starEach (.List a p::es) env=(false,eval (.List a p) env)::starEach es env:=rfl
theorem Ha{f a k p}:starEach (.Call f a k p::es) env=(false,eval (.Call f a k p) env)::starEach es env:=rfl
theorem Hd{a b p}:starEach (.Subscript a b p::es) env=(false,eval (.Subscript a b p) env)::starEach es env:=rfl
theorem Hl{a o b p}:starEach (.BinOp a o b p::es) env=(false,eval (.BinOp a o b p) env)::starEach es env:=rfl
theorem Gdu{a b c p}:starEach (.ListComp a b c p::es) env=(false,eval (.ListComp a b c p) env)::starEach es env:=rfl
end DL
namespace DL
open PySem PySem.Spec PyProof.Rows L2
variable{h:Heap}{x y qual:Str}{st:Stmt}{ps N N' sub:List Str}{f t:Ev (List D)}{osl:Array (Option Value)}{doc pm cdv ct v:Value}{fn:Fn}{j k n i:Nat}{p pos pos' py spos p2 apos cpos np hpos:Pos}{es ifs:List Expr}{P:Program}{s2:Shared}{H2 H H1:Hp}{C:Addr}{scope:Scope}{c:List (Str×Addr)}{fp mp:List Addr}{elt tg iter a b l o:Expr}{pk:List (Option Nat)}{fa fb fo:Ev D}{K:PySem.W.Frag}{w:World}{A:Around}{E:Value->Shared->Prop}{X:Cx}{pins:List (Addr×Obj)}{σ:L2.St}{tk:Tok}{vs xs:Array Value}{m:Str->Option Value}{XQ:XW}{bm:List Value}{pl:Sem Bool}{dx:Option Addr}{oI oe:Obj}{T:String}{φ:Heap->Prop}{fd:FuncData}{sp:Sp}{body:List Stmt}{fc:Ev Bool}
structure Cal(P:Program)(w:World)(K:PySem.W.Frag)(mg:Str->Option Value)(base:Heap)(x:Str)(ps:List Str)(fn:Fn)(j:Nat):Prop where
 ex:∃ f fd,FnOk P w K mg base CX0 j f fd ps (spD K ps.length fn)/\mg x=some (.ref f)/\PySem.W.keepIn K (.ref f)=true/\Binds K fd ps []
structure Dn(K:PySem.W.Frag)(mg:Str->Option Value)(x:Str)(st:Stmt)(ps:List Str):Prop where
 ex:∃ f fd,Fun K x x st f fd/\mg x=some (.ref f)/\Binds K fd ps []
section
variable{P:Program}{w:World}{K:PySem.W.Frag}{mg:Str->Option Value}{base:Heap}
theorem Gue{f:Addr}{oc:Value}{od an:Option Addr}{kV:Value}(X:K.In h)(G:h.Ns mainGlobals mg)(a:PySem.W.nsIn K mainGlobals x=some (some (.ref f)))(l:K.lookup f=some ⟨oc,od,.func (PySem.W.fnOf x x (Hx st) (Gx st) (Ge st) .none kV doc pm an cdv ct),osl⟩)(c:PySem.W.codeIn K cdv x=true)(k:PySem.W.keepIn K (.ref f)=true)(hb:∀ (kV doc pm:Value) (an:Option Addr) (cdv ct:Value) (us:List Value),us.length=ps.length->bindArgs (PySem.W.fnOf x x (Hx st) (Gx st) (Ge st) .none kV doc pm an cdv ct) ⟨us,[]⟩=pure (ps.zip us)):Dn K mg x st ps:=
 ⟨f,_,Gac l c k,PySem.W.mg_of X G a,(Gac (st:=st) l c k).binds hb⟩
theorem Gq5(N:List Str)(k:Nat)(b:Sv)(hfn:fn=fnB N.length b)(d:Dn K mg x st ps)(Sc:FnScope N ps (Ge st))(hb:∀ (f:Addr) (cdv:Value) (A:Around) (outer:List PySem.Env) (s:Shared) (H:Hp) (E:XK),Room k (A.deeper (envOfC x (Ge st) s.heap.objs.size f cdv))→
   JSs (Ko CX0 P w K mg base N x (Ge st) f cdv A outer s H E).nox XN (Gx st) b):Cal P w K mg base x ps fn (k+1):=by
 subst hfn
 obtain⟨f,fd,F,hm,hbi⟩:=d.ex
 exact⟨f,fd,Gny F Sc (hb f),hm,F.kp,hbi⟩
end
section
variable{X:Cx}{XQ:XW}
theorem Gq6{e:Expr}(C:Cal X.prog X.w X.K X.mg X.base x ps fn j)(hr:Room k X.A)(ha:JA X XQ (e::es) t)(hn:ps.length=n)(hj:j<=k:=by decide)(hg:Gl X x:=by rfl)(hdb:(x==("__debug__":Str))=false:=by decide)(he:starEach (e::es) X.env=(false,eval e X.env)::starEach es X.env:=by rfl)(hpl:(backTo pos (starEach es X.env)).any (·.1)=false:=by rfl):
  JE X XQ (.Call (.Name x p) (e::es) [] pos) (cl n (Gs fn) t):=by
 subst hn
 obtain⟨f,fd,F,hm,hk,hb⟩:=C.ex
 exact Glf F hr hj hg hm hk hb ha hdb he hpl
theorem Ur{v:V}{u:Value}{d:D}(hm:X.mg x=some u)(r:Hc v u)(rep:∀ mp H,Rep X.K mp H d v)(hg:Gl X x)(hd:(x==("__debug__":Str))=false):JE X XQ (.Name x pos) (cn d):=Wl (Gfi hg hm r hd) rep
def Hf(x:Str):Bool:=!(x==("__debug__":Str))&&!(x==("__classdict__":Str))
def okV(sc:Scope)(x:Str):Bool:=(match sc.names.lookup x with
 | some .local=>true
 | some .cell=>true
 | some .free=>true
 | _=>false)&&Hf x
def okL(sc:Scope)(x:Str):Bool:=match sc.names.lookup x with
 | some .local=>true
 | some .cell=>true
 | _=>false
def okG(sc:Scope)(x:Str):Bool:=(match sc.names.lookup x with
 | some .globalImplicit=>true
 | _=>false)&&Hf x
theorem Hf.of(h:Hf x=true):(x==("__debug__":Str))=false/\(x==("__classdict__":Str))=false:=by
 unfold Hf at h
 rw[Bool.and_eq_true] at h
 exact⟨by simpa using h.1,by simpa using h.2⟩
theorem okV.vis{sc:Scope}(h:okV sc x=true):Vis sc x/\Hf x=true:=by
 unfold okV at h
 rw[Bool.and_eq_true] at h
 refine⟨?_,h.2⟩
 have h:=h.1
 split at h
 ·rename_i e; exact .inl e
 ·rename_i e; exact .inr (.inl e)
 ·rename_i e; exact .inr (.inr e)
 ·cases h
theorem okL.loc{sc:Scope}(h:okL sc x=true):Loc sc x:=by
 unfold okL at h
 split at h
 ·rename_i e; exact .inl e
 ·rename_i e; exact .inr e
 ·cases h
theorem okG.gl{sc:Scope}(h:okG sc x=true):sc.names.lookup x=some .globalImplicit/\Hf x=true:=by
 unfold okG at h
 rw[Bool.and_eq_true] at h
 refine⟨?_,h.2⟩
 have h:=h.1
 split at h
 ·rename_i e; exact e
 ·cases h
structure OkV(sc:Scope)(x:Str):Prop where
 h:okV sc x=true
structure OkL(sc:Scope)(x:Str):Prop where
 h:okL sc x=true
structure OkC(sc:Scope)(x:Str):Prop where
 h:sc.names.lookup x=some .local
structure OkG(sc:Scope)(x:Str):Prop where
 h:okG sc x=true
theorem kdV{s:Scope}(h:okV s x=true:=by decide +kernel):OkV s x:=⟨h⟩
theorem kdL{s:Scope}(h:okL s x=true:=by decide +kernel):OkL s x:=⟨h⟩
theorem kdG{s:Scope}(h:okG s x=true:=by decide +kernel):OkG s x:=⟨h⟩
theorem kdS{P:List Str}{s:Scope}(a:s.kind=.function:=by rfl)(b:s.isCoroutine=false:=by rfl)(c:s.isGenerator=false:=by rfl)(d:N.Nodup:=by decide +kernel)(e:N.take P.length=P:=by rfl)(f:∀ x∈P,s.names.lookup x=some .local\/s.names.lookup x=some .cell:=by decide +kernel)(g:∀ y∈s.names,y.2≠.free:=by decide +kernel):FnScope N P s:=⟨a,b,c,d,e,f,g⟩
theorem jv(i:Nat)(h:OkV X.env.scope x)(hN:X.N[i]?=some x:=by rfl):JE X XQ (.Name x pos) (vr i):=Gh4 i hN (okV.vis h.h).1 (Hf.of (okV.vis h.h).2).1 (Hf.of (okV.vis h.h).2).2
theorem gl(h:OkG X.env.scope x):Gl X x:=(okG.gl h.h).1
theorem jgn(i:Nat)(hN:X.N.Nodup)(h:OkL X.env.scope x)(hi:X.N[i]?=some x:=by rfl)(hf:X.fn x=true:=by rfl):JG X (.Name x pos) (gn i):=Gcr i hN hi (okL.loc h.h) (.inl hf)
theorem jset(i:Nat){e:Expr}{f:Ev D}(hN:X.N.Nodup)(h:OkL X.env.scope x)(he:JE X XQ e f)(hi:X.N[i]?=some x:=by rfl)(hs:swapsWith e (some (.Name x pos')) pos.line X.env=pure false:=by rfl)(hf:X.fn x=true:=by rfl):
  JS X XQ (.Assign [.Name x pos'] e pos) (sa f (gn i)):=Gp7 i hN he hi (okL.loc h.h) hs (.inl hf)
theorem jown{e:Expr}(C:Cal X.prog X.w X.K X.mg X.base x ps fn j)(hr:Room k X.A)(hg:Gl X x)(hp:Hf x=true)(ha:JA X XQ (e::es) t)(hn:ps.length=n:=by rfl)(hj:j<=k:=by decide)(he:starEach (e::es) X.env=(false,eval e X.env)::starEach es X.env:=by rfl)(hpl:(backTo pos (starEach es X.env)).any (·.1)=false:=by rfl):
  JE X XQ (.Call (.Name x p) (e::es) [] pos) (cl n (Gs fn) t):=Gq6 C hr ha hn hj hg (Hf.of hp).1 he hpl
def Gin(sc:Scope)(x:Str):Bool:=(match sc.names.lookup x with
 | some .local=>true
 | some .cell=>true
 | some .free=>true
 | _=>false)&&Hf x
theorem Jc{scope:Scope}{env:PySem.Env}{x:Str}{k:NameKind}(hk:k≠.free):∀ (names:List (Str×NameKind)),names.lookup x=some k->(names.map fun(n,k)=>if(k==NameKind.free&&env.scope.kind==.function&&env.kindOf n==some .cell)=true then(n,NameKind.cell) else(n,k)).lookup x=some k
 | [],h=>by simp at h
 | (n,k')::r,h=>by
  rw[List.map_cons]
  by_cases hx:(x==n)=true
  ·rw[List.lookup_cons,hx] at h
   have:k'=k:=by simpa using h
   subst this
   have hb:(k'==NameKind.free)=false:=by simpa using hk
   simp only[hb,Bool.false_and,Bool.false_eq_true,if_false,List.lookup_cons,hx]
  ·have hx:(x==n)=false:=by simpa using hx
   rw[List.lookup_cons,hx] at h
   have:=Jc (scope:=scope) (env:=env) hk r h
   by_cases hq:(k'==NameKind.free&&env.scope.kind==.function&&env.kindOf n==some .cell)=true
   ·simpa only[hq,if_true,List.lookup_cons,hx] using this
   ·simpa only[hq,Bool.false_eq_true,if_false,List.lookup_cons,hx] using this
theorem Gcz(h:Gin scope x=true):Vis (blk X s2 H2 C scope c N' fp).env.scope x/\Hf x=true:=by
 unfold Gin at h
 rw[Bool.and_eq_true] at h
 refine⟨?_,h.2⟩
 have h:=h.1
 split at h
 ·rename_i e; exact .inl (lookup_relabel_local e)
 ·rename_i e; exact .inr (.inl (Jc (scope:=scope) (env:=X.env) (by decide) scope.names e))
 ·rename_i e; exact .inr (Ju (scope:=scope) (env:=X.env) scope.names e)
 ·cases h
theorem jvB(i:Nat)(h:Gin scope x=true)(hN:N'[i]?=some x:=by rfl):JE (blk X s2 H2 C scope c N' fp) XQ (.Name x pos) (vr i):=
 Gh4 i hN (Gcz h).1 (Hf.of (Gcz (X:=X) (s2:=s2) (H2:=H2) (C:=C) (c:=c) (N':=N') (fp:=fp) h).2).1 (Hf.of (Gcz (X:=X) (s2:=s2) (H2:=H2) (C:=C) (c:=c) (N':=N') (fp:=fp) h).2).2
theorem glB(h:okG scope x=true):Gl (blk X s2 H2 C scope c N' fp) x:=
 Jc (scope:=scope) (env:=X.env) (by decide) scope.names (okG.gl h).1
def Glz(sc:Scope)(x:Str):Bool:=match sc.names.lookup x with
 | some .local=>true
 | some .cell=>true
 | _=>false
theorem Gwn(i:Nat)(hN:N'.Nodup)(h:Glz scope x=true)(hi:N'[i]?=some x:=by rfl):JG (blk X s2 H2 C scope c N' fp) (.Name x pos) (gn i):=by
 unfold Glz at h
 split at h
 ·rename_i e
  exact Gcr i hN hi (.inl (lookup_relabel_local e)) (.inr (lookup_relabel_local e))
 ·rename_i e
  exact Gcr i hN hi (.inr (Jc (scope:=scope) (env:=X.env) (by decide) scope.names e)) (.inl (by show(scope.names.lookup x==some NameKind.cell)=true; rw[e]; rfl))
 ·cases h
theorem jcomp{sc:Scope}{f:Ev Src}{g:Tg}{t:Ev Bool}{e:Ev D}(hsc:X.env.scope=sc)(hNN:X.N=N)(ct:CompTab sc scope N N' pk)(hcm:X.calm=true)(hi:JI X XQ tg iter f)(hg:∀ cl s2 H2 C fp,JG (blk X s2 H2 C scope cl N' fp) tg g)(ht:∀ cl s2 H2 C fp,JTs (blk X s2 H2 C scope cl N' fp) XN ifs t)(he:∀ cl s2 H2 C fp,JE (blk X s2 H2 C scope cl N' fp) XN elt e)(hs:∀ x,foldedSetIterable iter X.env x=pure x:=by intro _; rfl):JE X XQ (.ListComp elt [⟨tg,iter,ifs,0⟩] scope pos) (cmp f pk g t e):=by
 subst hsc hNN
 exact Gll ct hcm hi hg ht he hs
theorem Gio(i:Nat){sc:Scope}{f:Ev Src}{g:Tg}{t:Ev Bool}{e:Ev D}(hsc:X.env.scope=sc)(hNN:X.N=N)(ct:CompTab sc scope N N' pk)(hcm:X.calm=true)(hi:JI X XQ tg iter f)(hg:∀ cl s2 H2 C fp,JG (blk X s2 H2 C scope cl N' fp) tg g)(ht:∀ cl s2 H2 C fp,JTs (blk X s2 H2 C scope cl N' fp) XN ifs t)(he:∀ cl s2 H2 C fp,JE (blk X s2 H2 C scope cl N' fp) XN elt e)(hN:X.N.Nodup)(hl:OkL X.env.scope y)(hsw:swapsWith (.ListComp elt [⟨tg,iter,ifs,0⟩] scope pos) (some (.Name y py)) spos.line X.env=pure true)(hy:X.N[i]?=some y:=by rfl)(hs:∀ x,foldedSetIterable iter X.env x=pure x:=by intro _; rfl)(hf:X.fn y=true:=by rfl):
  JS X XQ (.Assign [.Name y py] (.ListComp elt [⟨tg,iter,ifs,0⟩] scope pos) spos) (sa (cmp f pk g t e) (gn i)):=by
 subst hsc hNN
 exact Ges i ct hcm hi hg ht he hN hy (okL.loc hl.h) hsw hs (.inl hf)
end
section
variable{X:Cx}{XQ:XW}
theorem Gq7{j:Int}(h1:0<j)(h2:j<2^200):j.natAbs.log2<9000:=by
 have h3:j.natAbs<2^200:=by omega
 exact Nat.lt_of_lt_of_le ((Nat.log2_lt (by omega)).mpr h3) (by decide)
theorem Gip:OpR X (binaryOp .FloorDiv) (rI (fun _ j=>0<j/\j<2^200) fun i j=>.int (i / j)):=opI fun i j _ _ _ _ _ hc q=>by
 have h1:(0:Int)<j:=hc.1
 have h2:j<2^200:=hc.2
 exact floordiv_int (by omega) (by rw[Int.fdiv_eq_ediv_of_nonneg i (by omega)]; exact q) (.inl (PyProof.noPylong_of_log2 (Gq7 h1 h2)))
abbrev Yb:=i2 (fun _ j=>decide (0<j/\j<2^200)) fun i j=>.int (i / j)
theorem Gl0(ha:JE X XQ a fa)(hb:JE X XQ b fb):JE X XQ (.BinOp a .FloorDiv b pos) (o2 Yb fa fb):=Gb5 Gip (Gcv (fun _ j h=>(of_decide_eq_true h:0<j/\j<2^200)) fun _ _ _ _=>rfl) ha hb
def Gae:List D->Option (List Int)
 | []=>some []
 | .int i::r=>(Gae r).map (i::·)
 | _::_=>none
def Guf(x:D)(S:Sto):Option (List D):=match x with
 | .tup l=>some l
 | .lst i=>(S[i]?).map (·.xs)
 | _=>none
def Gwo(xs:List D)(S:Sto):Out D:=match xs with
 | [x]=>match (Guf x S).bind Gae with
  | some ns=>.ok (.int ns.sum) S
  | none=>.bad
 | _=>.bad
def Gwp(xs:List D)(S:Sto):Out D:=match xs with
 | [.int i,.int j]=>.ok (.int (if j>i then j else i)) S
 | _=>.bad
def sag(i:Nat)(g:Int->Int->Int)(f:Ev D):Sv:=fun ρ S=>match ρ[i]? with
 | some (some (.int a))=>bindS (f ρ S) ρ fun d S1=>match d with
  | .int b=>.nx (ρ.set i (some (.int (g a b)))) S1
  | _=>.bad
 | _=>.bad
theorem Gwq{g:Int->Int->Int}{f:Ev D}(E:Ends)(σ:L2.St)(H:Hp)(h:rdS K XQ (sag i g f) E σ H):Gth i (rdE K XQ f) (ipI g) E σ H:=by
 obtain⟨mp,ρ,S,G,p⟩:=h
 unfold sag at p
 split at p
 ·rename_i a z
  obtain⟨v,e1,r⟩:=G.loc i _ z
  cases (show v=.int a from r)
  refine⟨_,e1,bindSP G p fun mp1 H1 d S1 v a1 G1 r1 p1=>?_⟩
  cases d with
  | int b=>
   cases (show v=.int b from r1)
   exact⟨a,b,rfl,rfl,PostS.nx p1 (G1.set i rfl)⟩
  | _=>exact(show False from p1).elim
 ·exact p.elim
theorem Gq8(i:Nat){e:Expr}{f:Ev D}(hN:X.N.Nodup)(h:OkL X.env.scope x)(he:JE X XQ e f)(hi:X.N[i]?=some x:=by rfl)(hf:X.fn x=true:=by rfl):JS X XQ (.AugAssign (.Name x pos') .Add e pos) (sag i (fun a b=>a+b) f):=
 PS.mono (Go0 hN hi (okL.loc h.h) he Go1 (.inl hf)) Gwq
end
theorem Yc{prog:Program}{s:Shared}{t sl:Addr}{items:Array Value}{vl vu:Value}{lo hi:Option Int}{Q:Value->Shared->Prop}(ht:IsTup s.heap t items)(hs:s.heap.IsSliceOf sl vl vu .none)(pl:IsPart vl lo)(pu:IsPart vu hi)(hw:HT.sIx items.size 0 lo=0/\HT.sIx items.size items.size hi=items.size)(h:Q (.ref t) s):wpAny (model prog w) A (getItem (.ref t) (.ref sl)) Q E s:=by
 obtain⟨os,hos,hcs,hds⟩:=id hs
 have hTs:s.TypeIs (.ref sl) "slice":=⟨os,hos,hcs⟩
 unfold getItem
 try with_reducible refine wpAny_holding ?_
 first | refine wpAny_bind (wpAny_pure ?_) | skip
 refine wpAny_bind (wpAny_sequenceKey ht.typeIs (by decide) ?_)
 refine wpAny_bind (wpAny_callSpecial?_slot (name:=Str.ofString "__getitem__") ht.typeIs PyProof.Rows.slot_tuple_getitem
  (wpAny_call_entry PyProof.Rows.slot_tuple_getitem ht.typeIs entry_tuple_getitem ?_ (args_tuple_getitem _ _)))
 show wpAny _ _ (Builtin.Tuple.tupleItemsOf (.ref t) >>= _) _ _ s
 refine wpAny_bind (tupleItemsOf_ ht ?_)
 refine wpAny_bind (wpAny_typeOf hTs ?_)
 rw[if_pos (by decide)]
 refine wpAny_bind (HT.Vg hs pl pu ?_)
 show wpAny _ _ (if(((HT.sIx items.size 0 lo:Nat):Int)==0&&(1:Int)==1&&(HT.sIx items.size items.size hi-HT.sIx items.size 0 lo)==items.size)=true then _ else _) _ _ s
 rw[if_pos (by rw[hw.1,hw.2]; simp)]
 unfold Builtin.Tuple.tupleIsExact
 refine wpAny_bind (wpAny_bind (wpAny_typeOf ht.typeIs (wpAny_pure ?_)))
 rw[if_pos (by decide)]
 exact wpAny_bind (wpAny_rule (wpAny_pure ⟨_,rfl,wpAny_pure h⟩))
section
variable{X:Cx}{XQ:XW}
def Gwr(K:PySem.W.Frag):V->Option Int->Option Int->Hp->VK->Prop:=fun x lo hi H Q=>∃ a xs,x=.ref a/\SqT K H a xs/\(HT.sIx xs.length 0 lo=0/\HT.sIx xs.length xs.length hi=xs.length)/\Q (.ref a) H
theorem Gq9:SlR X (Gwr X.K):=by
 intro pins s σ H x v vl vu lo hi sl Q I rx hs pl pu h
 obtain⟨a,xs,rfl,hx,hw,q⟩:=h
 cases rx
 obtain⟨its,r,ht,hz⟩:=I.tuple hx
 have hlen:its.toArray.size=xs.length:=by rw[List.size_toArray]; exact r.length.symm
 refine⟨"tuple",_,PyProof.Rows.slot_tuple_getitem.lookup,ht.typeIs,?_⟩
 exact Yc ht hs pl pu (by rw[hlen]; exact hw) ⟨.ref a,H,I,rfl,q⟩
def Gev(x:D)(lo hi:Option Int)(S:Sto):Out D:=match x with
 | .tup l=>if HT.sIx l.length 0 lo=0/\HT.sIx l.length l.length hi=l.length then .ok (.tup l) S else .ok (.tup (Uq l lo hi)) S
 | .lst i=>match S[i]? with
  | some c=>.ok (.lst S.length) (S++[⟨false,Uq c.xs lo hi⟩])
  | none=>.bad
 | _=>.bad
def sl2(fe:Ev D)(fl fh:Ev (Option Int)):Ev D:=fun ρ S=>(fe ρ S).bind fun x S1=>(fl ρ S1).bind fun l S2=>(fh ρ S2).bind fun u S3=>Gev x l u S3
theorem Ggv{e:Expr}{lo hi:Option Expr}{fe:Ev D}{fl fh:Ev (Option Int)}(he:JE X XQ e fe)(hl:JO X XQ lo fl)(hh:JO X XQ hi fh):JE X XQ (.Subscript e (.Slice lo hi none p2) pos) (sl2 fe fl fh):=by
 refine PE.mono (Ghy ((Gk4.or Gpi).or Gq9) he hl hh) fun σ H Q ⟨mp,ρ,S,G,p⟩=>?_
 refine bindP G p fun mp1 H1 x S1 v a1 G1 r1 p1=>?_
 refine bindP G1 p1 fun mp2 H2 l S2 l' a2 G2 r2 p2=>?_
 refine bindP G2 p2 fun mp3 H3 u S3 u' a3 G3 r3 p3=>?_
 cases (show l'=l from r2)
 cases (show u'=u from r3)
 have r1:=Rep.aft (a2.trans a3) _ _ r1
 cases x with
 | tup ds=>
  have p3:Post X.K XQ σ ρ mp3 H3 (if HT.sIx ds.length 0 l=0/\HT.sIx ds.length ds.length u=ds.length then .ok (.tup ds) S3 else .ok (.tup (Uq ds l u)) S3) Q:=p3
  obtain⟨a,xs,rfl,sq,q⟩:=Rep.tup r1
  by_cases hw:HT.sIx ds.length 0 l=0/\HT.sIx ds.length ds.length u=ds.length
  ·rw[if_pos hw] at p3
   exact .inr ⟨a,xs,rfl,sq,by rw[q.len]; exact hw,Gk.ok (R:=Rep X.K) p3 G3.rs r1⟩
  ·rw[if_neg hw] at p3
   exact .inl (.inr ⟨a,xs,rfl,sq,by rw[q.len]; exact hw,fun t ht=>Wm p3 G3.rs (q.cut l u) ht⟩)
 | lst i=>
  have p3:Post X.K XQ σ ρ mp3 H3 (match S3[i]? with | some c=>.ok (.lst S3.length) (S3++[⟨false,Uq c.xs l u⟩]) | none=>.bad) Q:=p3
  cases zc:S3[i]? with
  | none=>rw[zc] at p3; exact p3.elim
  | some c=>
   rw[zc] at p3
   obtain⟨a,xs,rfl,_,sq,q,_⟩:=G3.rs.items r1 zc
   exact .inl (.inl ⟨a,xs,rfl,sq,fun t ht=>Vh p3 G3.rs (q.cut l u) ht⟩)
 | _=>exact(show False from p3).elim
end
section
variable{X:Cx}{XQ:XW}
def Ggw(xs:List D)(S:Sto):Out D:=match xs with
 | [.int i]=>if i.natAbs.log2<1920 then .ok (.str (toString i)) S else .bad
 | _=>.bad
theorem Gra:BlD K (fun xs H Q=>∃ i:Int,xs=[.int i]/\i.natAbs.log2<1920/\Q (.str (toString i)) H) Ggw:=by
 intro XQ σ ρ mp H S xs vs Q rs r p
 unfold Ggw at p
 split at p
 ·rename_i i
  obtain⟨v,rfl,h⟩:=RepL.one r
  cases (show v=.int i from h)
  by_cases hb:i.natAbs.log2<1920
  ·rw[if_pos hb] at p
   exact⟨i,rfl,hb,Gk.ok (R:=Rep K) p rs rfl⟩
  ·rw[if_neg hb] at p; exact p.elim
 ·exact p.elim
theorem Gl1{e:Expr}(hg:Gl X "str")(hm:X.mg "str"=none)(ha:JA X XQ [e] f)(he:starEach [e] X.env=(false,eval e X.env)::starEach [] X.env:=by rfl):JE X XQ (.Call (.Name "str" p) [e] [] pos) (b1 Ggw f):=Gdq Xx Gra hg hm (by rfl) ha (he:=he)
end
theorem turnedL{s:Shared}{g:Heap}{tk:Nat}{ch:List Addr}(I:Inv X pins σ H s)(k:∀ b o,b∉ch->s.heap.get? b=some o->g.get? b=some o)(hf:∀ b∈ch,Zx X pins H b):Inv X pins σ H { s with heap:=g,toks:=tk }:=by
 have nit:∀ b u,H b=some u->b∉ch:=fun b u e z=>by have:=(hf b z).1; rw[this] at e; cases e
 refine I.step (g':=s.gens) (d':=s.drawn) (ch:=ch) (fun b hb=>?_) (fun b o _ _ hc e _=>k b o hc e) (fun b o _ _ hc e _=>⟨o.slots,k b o hc e⟩) (fun _ _ _ _ n=>n)
  (fun b o hc e=>⟨o,k b o hc e⟩) (fun _ _ e=>e) (fun _ _ _ e=>e) (fun b ps e=>⟨#[],by rw[e]; simp⟩) (fun m hm=>?_) (fun b u e=>?_) I.bare
 ·obtain⟨f0,f1,f2,f3,f4,f5⟩:=hf b hb
  exact⟨f3,f1,f4,f5⟩
 ·obtain⟨o,es,ep,ho,r⟩:=hm
  exact⟨o,es,ep,k _ o (fun z=>(hf _ z).2.1 rfl) ho,r⟩
 ·refine(I.hok b u e).stay (fun c v hc q=>k c v ?_ q) (fun _ q=>q) fun _ _ q=>q
  rcases hc with z | z
  ·rw[z]; exact nit b u e
  ·exact nit c _ z
section
variable{prog:Program}{w:World}{A:Around}{E:Value->Shared->Prop}{s:Shared}
theorem Zu{j t:Addr}{y:Value}{Q:Value->Shared->Prop}(pit:s.heap.IsTupleIter j t k)(pt:s.heap.IsTuple t vs)(py:vs[k]?=some y)(fin:∀ g,g.IsTupleIter j t (k+1)->Heap.SameBut j s.heap g->Q y { s with heap:=g }):wpAny (model prog w) A (Builtin.SmallTypes.nextOf (.ref j)) Q E s:=by
 obtain⟨u,pu,pc,pd⟩:=id pit
 obtain⟨v,pv,_,m,pe⟩:=pt
 unfold Builtin.SmallTypes.nextOf
 refine wpAny_bind (wpAny_callSpecial?_slot (name:=Str.ofString "__next__") pit.typeIs F.slot_tuple_iterator_next (wpAny_call_entry F.slot_tuple_iterator_next pit.typeIs F.entry_tuple_iterator_next ?_ (F.args_tuple_iterator_next_1 _)))
 show wpAny _ _ (field (.ref j) 0 >>= _) _ _ s
 refine wpAny_bind (wpAny_field pu pd (x:=.ref t) rfl ?_)
 show wpAny _ _ (if(Value.ref t==Value.none)=true then _ else _) _ _ _
 rw[if_neg (by exact Bool.false_ne_true)]
 show wpAny _ _ (field (.ref j) 1 >>= _) _ _ s
 refine wpAny_bind (wpAny_field pu pd (x:=.int k 0) rfl ?_)
 show wpAny _ _ (seqItems? (.ref t) >>= _) _ _ _
 refine wpAny_bind (wpAny_seqItems pv pe ?_)
 simp only[Int.toNat_natCast,py]
 refine wpAny_bind (wpAny_setField pu pd (by simp) (wpAny_pure ⟨y,rfl,wpAny_pure (fin _ ?_ (Heap.SameBut.update ..))⟩))
 exact⟨_,Heap.get?_update_self _ pu (Obj.isFreed_of_fields (Obj.data_mapFields pd _)),(Obj.cls_mapFields ..).trans pc,by rw[Obj.data_mapFields pd]; simp[rawInt]⟩
theorem Gew{j t:Addr}{Q:Value->Shared->Prop}(no:A.handled=none)(pit:s.heap.IsTupleIter j t k)(pt:s.heap.IsTuple t vs)(py:vs[k]?=none)(fin:∀ g e,Heap.ExtBut j s.heap g->(∃ o,g.get? e=some o/\o.cls=.type "StopIteration")->E (.ref e) { s with heap:=g }):wpAny (model prog w) A (Builtin.SmallTypes.nextOf (.ref j)) Q E s:=by
 obtain⟨u,pu,pc,pd⟩:=id pit
 obtain⟨v,pv,_,m,pe⟩:=pt
 unfold Builtin.SmallTypes.nextOf
 refine wpAny_bind (wpAny_callSpecial?_slot (name:=Str.ofString "__next__") pit.typeIs F.slot_tuple_iterator_next (wpAny_call_entry F.slot_tuple_iterator_next pit.typeIs F.entry_tuple_iterator_next ?_ (F.args_tuple_iterator_next_1 _)))
 show wpAny _ _ (field (.ref j) 0 >>= _) _ _ s
 refine wpAny_bind (wpAny_field pu pd (x:=.ref t) rfl ?_)
 show wpAny _ _ (if(Value.ref t==Value.none)=true then _ else _) _ _ _
 rw[if_neg (by exact Bool.false_ne_true)]
 show wpAny _ _ (field (.ref j) 1 >>= _) _ _ s
 refine wpAny_bind (wpAny_field pu pd (x:=.int k 0) rfl ?_)
 show wpAny _ _ (seqItems? (.ref t) >>= _) _ _ _
 refine wpAny_bind (wpAny_seqItems pv pe ?_)
 simp only[Int.toNat_natCast,py]
 refine wpAny_bind (wpAny_rule (wpAny_bind (wpAny_setField pu pd (by simp) ?_)))
 show wpAny _ _ (newExc (.type "StopIteration") [] >>= _) _ _ (_:Shared)
 refine wpAny_bind ?_
 simp only[newExc,newTuple]
 refine wpAny_bind (wpAny_newObj_type ?_ (by size_fits))
 refine wpAny_bind (m:=firstArgMember _ _) (wpAny_of_eq (a:=Value.none) (by(first | rfl | (simp only[firstArgMember]; rfl))) ?_)
 refine wpAny_newObj_type ?_ (by size_fits)
 simp only[raiseNew]
 refine wpAny_bind (wpAny_handled ?_)
 first
  | rw[show A.in1.handled=none from no]
  | rw[no]
 refine wpAny_bind (wpAny_pure (wpAny_throw ?_))
 exact fin _ _ (((Heap.SameBut.update ..).extBut.push _).push _) ⟨_,Heap.get?_push_size _ rfl,rfl⟩
theorem Gl2{e j t:Addr}{y old:Value}{Q:Option Value->Shared->Prop}(pe:IsEnum s.heap e j k old)(pit:s.heap.IsTupleIter j t k)(pt:s.heap.IsTuple t vs)(py:vs[k]?=some y)(ne:e≠j)(fin:∀ g,IsEnumOut g e j ((k:Int)+1) y s.heap.objs.size->g.IsTupleIter j t (k+1)->g.get? s.heap.objs.size=some { cls:=.type "tuple",data:=.seq #[.int k s.toks,y] }→
   (∀ b o,b≠e->b≠j->s.heap.get? b=some o->g.get? b=some o)->Q (some (.ref s.heap.objs.size)) { s with heap:=g,toks:=s.toks+1 }):wpAny (model prog w) A (pyNext (.ref e)) Q E s:=by
 have ty:s.TypeIs (.ref e) "enumerate":=⟨_,pe,rfl⟩
 unfold pyNext
 refine wpAny_bind (wpAny_attempt (wpAny_callSpecial?_slot (name:=Str.ofString "__next__") ty F.slot_enumerate_next (wpAny_call_entry F.slot_enumerate_next ty F.entry_enumerate_next ?_ (F.args_enumerate_next_1 _))))
 obtain⟨hp,gs,dr,tk,os⟩:=s
 show wpAny _ _ (field (.ref e) 2 >>= _) _ _ (_:Shared)
 refine wpAny_bind (wpAny_field pe rfl (x:=.ref j) rfl ?_)
 refine wpAny_bind (Zu pit pt py fun g1 i1 b1=>?_)
 replace b1:Heap.SameBut j hp g1:=b1
 have q1:IsEnum g1 e j k old:=(b1.2 e ne).trans pe
 show wpAny _ _ (field (.ref e) 3 >>= _) _ _ ⟨g1,gs,dr,tk,os⟩
 refine wpAny_bind (wpAny_field q1 rfl (x:=rawInt k) rfl ?_)
 show wpAny _ _ (field (.ref e) 4 >>= _) _ _ ⟨g1,gs,dr,tk,os⟩
 refine wpAny_bind (wpAny_field q1 rfl (x:=.none) rfl ?_)
 show wpAny _ _ (mkInt k >>= _) _ _ ⟨g1,gs,dr,tk,os⟩
 refine wpAny_bind (wpAny_mkInt ?_)
 show wpAny _ _ (setField (.ref e) 3 (rawInt ((k:Int)+1)) >>= _) _ _ ⟨g1,gs,dr,tk+1,os⟩
 refine wpAny_bind (wpAny_setField_rec q1 (by simp) fun g2 q2 b2=>?_)
 replace b2:Heap.SameBut e g1 g2:=b2
 replace q2:IsEnum g2 e j ((k:Int)+1) old:=q2
 show wpAny _ _ (setField (.ref e) 4 .none >>= _) _ _ ⟨g2,gs,dr,tk+1,os⟩
 refine wpAny_bind (wpAny_setField_rec q2 (by simp) fun g3 q3 b3=>?_)
 replace b3:Heap.SameBut e g2 g3:=b3
 replace q3:IsEnum g3 e j ((k:Int)+1) old:=q3
 show wpAny _ _ (newTuple [.int k tk,y] >>= _) _ _ ⟨g3,gs,dr,tk+1,os⟩
 refine wpAny_bind (wpAny_newTuple ?_)
 have q4:IsEnum (g3.push { cls:=.type "tuple",data:=.seq #[.int k tk,y] }) e j ((k:Int)+1) old:=Heap.get?_push_of_some _ q3
 have sz:g3.objs.size=hp.objs.size:=by rw[b3.1,b2.1,b1.1]
 have el:e<hp.objs.size:=Heap.lt_size pe
 have t4:(g3.push { cls:=.type "tuple",data:=.seq #[.int k tk,y] }).get? hp.objs.size=some { cls:=.type "tuple",data:=.seq #[.int k tk,y] }:=by rw[<- sz]; exact Heap.get?_push_size _ rfl
 have k4:∀ b o,b≠e->b≠j->hp.get? b=some o->(g3.push { cls:=.type "tuple",data:=.seq #[.int k tk,y] }).get? b=some o:=fun b o z1 z2 z3=>
  Heap.get?_push_of_some _ (b3.extBut b o z1 (b2.extBut b o z1 (b1.extBut b o z2 z3)))
 have i4:(g3.push { cls:=.type "tuple",data:=.seq #[.int k tk,y] }).IsTupleIter j t (k+1):=by
  obtain⟨o,ho,r⟩:=(i1.extBut b2.extBut (Ne.symm ne)).extBut b3.extBut (Ne.symm ne)
  exact⟨o,Heap.get?_push_of_some _ ho,r⟩
 generalize g3.push { cls:=.type "tuple",data:=.seq #[.int k tk,y] }=g4 at *
 rw[sz]
 show wpAny _ _ (Builtin.SmallTypes.ownedTupleIsFree (.ref e) >>= _) _ _ ⟨g4,gs,dr,tk+1,os⟩
 refine wpAny_bind ?_
 unfold Builtin.SmallTypes.ownedTupleIsFree
 refine wpAny_bind (wpAny_field q4 rfl (x:=.none) rfl (wpAny_pure ?_))
 simp only[if_true]
 refine wpAny_bind (wpAny_rule ?_)
 refine wpAny_bind (wpAny_field q4 rfl (x:=old) rfl ?_)
 refine wpAny_bind (wpAny_setField_rec q4 (by simp) fun g5 q5 b5=>?_)
 replace b5:Heap.SameBut e g4 g5:=b5
 replace q5:IsEnum g5 e j ((k:Int)+1) y:=q5
 show wpAny _ _ (Builtin.SmallTypes.ownedTupleHandOut (.ref e) (.ref hp.objs.size) >>= _) _ _ ⟨g5,gs,dr,tk+1,os⟩
 refine wpAny_bind ?_
 unfold Builtin.SmallTypes.ownedTupleHandOut
 refine wpAny_bind (wpAny_setField_rec q5 (by simp) fun g6 q6 b6=>?_)
 replace b6:Heap.SameBut e g5 g6:=b6
 replace q6:IsEnumOut g6 e j ((k:Int)+1) y hp.objs.size:=q6
 refine wpAny_setField_rec q6 (by simp) fun g7 q7 b7=>?_
 replace b7:Heap.SameBut e g6 g7:=b7
 replace q7:IsEnumOut g7 e j ((k:Int)+1) y hp.objs.size:=q7
 refine wpAny_bind (wpAny_letGo (wpAny_pure ⟨_,rfl,wpAny_pure (fin g7 q7 ?_ ?_ ?_)⟩))
 ·exact((i4.extBut b5.extBut (Ne.symm ne)).extBut b6.extBut (Ne.symm ne)).extBut b7.extBut (Ne.symm ne)
 ·exact b7.extBut _ _ (Nat.ne_of_gt el) (b6.extBut _ _ (Nat.ne_of_gt el) (b5.extBut _ _ (Nat.ne_of_gt el) t4))
 ·exact fun b o z1 z2 z3=>b7.extBut b o z1 (b6.extBut b o z1 (b5.extBut b o z1 (k4 b o z1 z2 z3)))
theorem Grb{e j t:Addr}{old:Value}{Q:Option Value->Shared->Prop}(no:A.handled=none)(pe:IsEnum s.heap e j k old)(pit:s.heap.IsTupleIter j t k)(pt:s.heap.IsTuple t vs)(py:vs[k]?=none)(fin:∀ g,Heap.ExtBut j s.heap g->Q none { s with heap:=g }):wpAny (model prog w) A (pyNext (.ref e)) Q E s:=by
 have ty:s.TypeIs (.ref e) "enumerate":=⟨_,pe,rfl⟩
 unfold pyNext
 refine wpAny_bind (wpAny_attempt (wpAny_callSpecial?_slot (name:=Str.ofString "__next__") ty F.slot_enumerate_next (wpAny_call_entry F.slot_enumerate_next ty F.entry_enumerate_next ?_ (F.args_enumerate_next_1 _))))
 show wpAny _ _ (field (.ref e) 2 >>= _) _ _ (_:Shared)
 refine wpAny_bind (wpAny_field pe rfl (x:=.ref j) rfl ?_)
 refine wpAny_bind (Gew no pit pt py fun g x b1 ⟨o,ho,hc⟩=>?_)
 refine wpAny_bind (wpAny_isInstance (T:="StopIteration") (b:=true) ⟨o,ho,hc⟩ isSubtype_stop ?_)
 exact wpAny_pure (fin _ b1)
abbrev enG(g:Heap)(t:Addr):Heap:=g.push { cls:=.type "tuple_iterator",data:=.fields #[.ref t,.int 0 0] }
theorem Giq(t:Addr)(vs:Array Value)(n:Nat)(dd:Option Addr)(sl:Array (Option Value)):
  Meets (Builtin.«enumerate.__new__» ⟨[.type "enumerate",.ref t],[]⟩) (fun _ R s=>s.heap.get? t=some { cls:=.type "tuple",dict:=dd,data:=.seq vs n,slots:=sl }∧
   R (.ok (.ret (.ref (enG s.heap t).objs.size))) { s with heap:=(enG s.heap t).push { cls:=.type "enumerate",data:=.fields #[.none,.bool false,.ref s.heap.objs.size,rawInt 0,.none,.none] } }):=
 .of_wp fun prog w A R s h=>by
  obtain⟨hp,g,d,tk,os⟩:=s; obtain⟨hl,h⟩:=h
  have hsub:=sub_enumerate
  have hT:Heap.IsTuple (Shared.heap ⟨hp,g,d,tk,os⟩) t vs:=⟨_,hl,rfl,n,rfl⟩
  wp_walk using AutoSeq1.wpAny_loadPart' hl
  refine wpAny_stack_any fun st=>wpAny_pure ?_
  split
  ·rename_i c _ _ _ _ _
   cases (c==Value.type "enumerate")
   ·wp_walk using AutoSeq1.wpAny_loadPart' hl,wpAny_pyIter_tuple hT
    exact⟨_,rfl,h⟩
   ·wp_walk using AutoSeq1.wpAny_loadPart' hl,wpAny_pyIter_tuple hT
    exact⟨_,rfl,h⟩
  ·wp_walk using AutoSeq1.wpAny_loadPart' hl,wpAny_pyIter_tuple hT
   exact⟨_,rfl,h⟩
theorem Gl3{t:Addr}{Q:Value->Shared->Prop}(pt:s.heap.IsTuple t vs)(fin:∀ g,IsEnum g (s.heap.objs.size+1) s.heap.objs.size 0 .none->g.IsTupleIter s.heap.objs.size t 0->(∀ b o,s.heap.get? b=some o->g.get? b=some o)->Q (.ref (s.heap.objs.size+1)) { s with heap:=g }):
  wpAny (model prog w) A (call (.type "enumerate") [.ref t]) Q E s:=by
 obtain⟨⟨oc,od,odt,osl⟩,ho,hc,n,hd⟩:=pt
 cases (show oc=.type "tuple" from hc)
 cases (show odt=.seq vs n from hd)
 refine callType_new F.called_enumerate (by decide) (F.typeCall_enumerate_1 _) (F.newCall_enumerate_1 _) (fun obj=>F.args_object_init_2 obj _) F.entry_enumerate_new (Giq t vs n od osl) ⟨ho,?_⟩
 have hz:(enG s.heap t).objs.size=s.heap.objs.size+1:=Heap.size_push ..
 have he:IsEnum ((enG s.heap t).push { cls:=.type "enumerate",data:=.fields #[.none,.bool false,.ref s.heap.objs.size,rawInt 0,.none,.none] }) (s.heap.objs.size+1) s.heap.objs.size 0 .none:=by
  have:=Heap.get?_push_size (enG s.heap t) (o:={ cls:=.type "enumerate",data:=.fields #[.none,.bool false,.ref s.heap.objs.size,rawInt 0,.none,.none] }) rfl
  rw[hz] at this
  exact this
 show _/\_
 rw[hz]
 exact⟨⟨_,he,rfl⟩,fin _ he ⟨_,Heap.get?_push_of_some _ (Heap.get?_push_size _ rfl),rfl,rfl⟩ fun b o x=>Heap.get?_push_of_some _ (Heap.get?_push_of_some _ x)⟩
end
theorem Zi{s:Shared}{g:Heap}{tk:Nat}{ch:List Addr}{vs:List V}{us:List Value}(I:Inv X pins σ H s)(hn:H s.heap.objs.size=none)(hz:vs.length<=sizeLine)(rv:Vals vs us)(tt:g.get? s.heap.objs.size=some { cls:=.type "tuple",data:=.seq us.toArray })(k:∀ b o,b∉ch->s.heap.get? b=some o->g.get? b=some o)(hf:∀ b∈ch,Zx X pins H b)(ltf:∀ b∈ch,b≠s.heap.objs.size):
  Inv X pins σ (upd H s.heap.objs.size (.tup vs)) { s with heap:=g,toks:=tk }:=by
 have I1:Inv X pins σ (upd H s.heap.objs.size (.tup vs)) { s with heap:=s.heap.push { cls:=.type "tuple",data:=.seq us.toArray } }:=
  I.laid (t':=s.toks) (fun b o e=>Heap.get?_push_of_some _ e) (Nat.le_refl _) (show Jm X.prog X.w _ _ _ (.tup vs) from⟨hz,us,rv,IsTup.new _ _⟩)
 refine turnedL (ch:=ch) (s:={ s with heap:=s.heap.push { cls:=.type "tuple",data:=.seq us.toArray } }) I1 (fun b o hb e=>?_) fun b hb=>?_
 ·by_cases hs:b=s.heap.objs.size
  ·subst hs
   rw[Heap.get?_push_size _ rfl] at e
   cases e
   exact tt
  ·have:s.heap.get? b=some o:=by
    rcases Heap.get?_push_cases e with⟨z,_⟩ | z
    ·exact absurd z hs
    ·exact z
   exact k b o hb this
 ·obtain⟨f0,f⟩:=hf b hb
  exact⟨by rw[Gr (ltf b hb)]; exact f0,f⟩
def Ite(K:PySem.W.Frag)(a:Addr):It:=
 ⟨fun i H=>∃ xs x,SqT K H a xs/\xs[i]?=some x,fun i H x H'=>∃ y p,(∀ xs,SqT K H a xs->xs[i]?=some y)/\H p=none/\x=.ref p/\H'=upd H p (.tup [.int i,y]),fun i H=>∃ xs,SqT K H a xs/\xs.length<=i⟩
theorem Ggx{x1}(a it e:Addr)(ne:e≠it):
  Turn P w K (.Tuple es x1 pos) (Ite K a) [e,it] e (fun i h=>(∃ old,IsEnum h e it i old)/\h.IsTupleIter it a i) where
 mem:=by simp
 obj:=fun i h ⟨⟨old,st⟩,o,e1,c,d⟩ b hb=>by
  rcases List.mem_cons.mp hb with rfl | hb
  ·exact⟨_,st,fun v z=>by
    have z':Data.fields _=Data.cell v:=z
    cases z'⟩
  ·have eb:b=it:=by simpa using hb
   subst eb
   exact⟨o,e1,fun v z=>by rw[d] at z; cases z⟩
 keep:=fun i h h' ⟨⟨old,st⟩,ti⟩ k=>⟨⟨old,k e (by simp) _ st⟩,ti.at fun o e1=>k it (by simp) o e1⟩
 item:=by
  intro X hP hw hK hc i pins s σ H E I hf ⟨⟨old,st⟩,ti⟩ hg
  subst hP hw hK
  obtain⟨xs,x,hq,hx⟩:=hg
  obtain⟨its,rv,p,hz⟩:=I.tuple hq
  obtain⟨u,hu,ru⟩:=rv.get hx
  have hn:H s.heap.objs.size=none:=I.hok.fresh (Nat.le_refl _)
  refine Gl2 st ti (show s.heap.IsTuple a its.toArray from p) (y:=u) (by simpa using hu) ne fun g oe ti' tt kk=>?_
  refine⟨_,rfl,wpAny_letOwnedTupleGo_enum oe fun g2 e2 b2=>?_⟩
  have kk2:∀ b o,b∉[e,it]->s.heap.get? b=some o->g2.get? b=some o:=fun b o hb h1=>
   b2.extBut b o (fun z=>hb (by simp[z])) (kk b o (fun z=>hb (by simp[z])) (fun z=>hb (by simp[z])) h1)
  have el:s.heap.objs.size≠e:=Nat.ne_of_gt (Heap.lt_size st)
  have tt2:g2.get? s.heap.objs.size=some { cls:=.type "tuple",data:=.seq #[.int i s.toks,u] }:=b2.extBut _ _ el tt
  have ltf:∀ b∈[e,it],b≠s.heap.objs.size:=fun b hb=>by
   rcases List.mem_cons.mp hb with rfl | hb
   ·exact Ne.symm el
   ·have eb:b=it:=by simpa using hb
    subst eb
    obtain⟨o,e1,_⟩:=ti
    exact Nat.ne_of_lt (Heap.lt_size e1)
  have I2:Inv X pins σ (upd H s.heap.objs.size (.tup [.int i,x])) { s with heap:=g2,toks:=s.toks+1 }:=
   Zi I hn (by rw[sizeLine_eq]; simp only[List.length_cons,List.length_nil]; decide) (.cons ⟨s.toks,rfl⟩ (.cons ru .nil)) tt2 kk2 hf ltf
  exact⟨.ref s.heap.objs.size,_,I2,rfl,⟨x,_,fun ys hy=>by rw[I.tuple_inj hy hq]; exact hx,hn,rfl,rfl⟩,⟨⟨u,e2⟩,ti'.extBut b2.extBut (Ne.symm ne)⟩,fun b hb=>by
   rw[Gr (ltf b hb)]
   exact(hf b hb).1⟩
 done:=by
  intro X hP hw hK hc i pins s σ H E I hf ⟨⟨old,st⟩,ti⟩ hg
  subst hP hw hK
  obtain⟨xs,hq,hx⟩:=hg
  obtain⟨its,rv,p,hz⟩:=I.tuple hq
  have hl:=rv.length
  exact Grb (I.ok.hd hc) st ti (show s.heap.IsTuple a its.toArray from p) (by simp; omega) fun g eb=>⟨rfl,turnedL I (fun b o hb e1=>eb b o (fun z=>hb (by simp[z])) e1) hf⟩
 self:=fun _ _ _ _ _ ⟨⟨_,st⟩,_⟩ h=>wpAny_pyIter_enum st h
section
variable{X:Cx}{XQ:XW}
def Gws(K:PySem.W.Frag)(ta:TA):TI:=fun σ H R=>ta σ H fun xs H1=>∃ a,xs=[.ref a]/\(∃ ys,SqT K H1 a ys)/\R (Ite K a) H1
theorem Gl4{x1}{tp:Pos}{ta:TA}(hg:Gl X "enumerate")(hm:X.mg "enumerate"=none)(ha:PA X [a] ta)(hs:starEach [a] X.env=[(false,eval a X.env)]:=by rfl):
  PI X (.Tuple es x1 tp) (.Call (.Name "enumerate" p) [a] [] pos) (Gws X.K ta):=by
 intro pins s σ H R I h
 refine wpAny_Call_Name_kw (Wj I hg hm (by rfl) ?_ (by decide) (by decide))
 refine PyProof.Rows.callWith_type1 (thn (ha pos pins s σ H _ I h) fun us s1 ⟨vs,H1,I1,r1,q1⟩=>?_) hs rfl
 obtain⟨c,e,⟨ys,hq⟩,q⟩:=q1
 subst e
 obtain⟨u,rfl,rx⟩:=Zd r1
 cases rx
 obtain⟨its,rv,pt,hz⟩:=I1.tuple hq
 refine Gl3 (show s1.heap.IsTuple c its.toArray from pt) fun g e1 i1 kk=>?_
 refine wpAny_pyIter_enum e1 ?_
 have I2:Inv X pins σ H1 { s1 with heap:=g }:=I1.kept (t':=s1.toks) kk
 refine⟨s1.heap.objs.size+1,[s1.heap.objs.size+1,s1.heap.objs.size],_,_,H1,rfl,I2,Ggx c s1.heap.objs.size (s1.heap.objs.size+1) (Nat.succ_ne_self _),⟨⟨.none,e1⟩,i1⟩,fun b hb=>?_,q⟩
 have hb':s1.heap.objs.size<=b:=by
  rcases List.mem_cons.mp hb with rfl | hb
  ·exact Nat.le_succ _
  ·have eb:b=s1.heap.objs.size:=by simpa using hb
   exact Nat.le_of_eq eb.symm
 exact I1.fpOk hb' (I1.hok.fresh hb')
def ienumerate(f:Ev (List D)):Ev Src:=fun ρ S=>(f ρ S).bind fun ds S1=>match ds with
 | [.tup l]=>.ok ⟨fun k _=>(l[k]?).map fun d=>.tup [.int k,d],l.length+1⟩ S1
 | _=>.bad
theorem Grc{a:Addr}{xs:List V}{l:List D}(s:SqT K H a xs)(r:RepL K mp H l xs):Gep K mp H (Ite K a) (fun k _=>(l[k]?).map fun d=>.tup [.int k,d]):=by
 intro mp' H' S' af rs k
 have s':=af.tup _ _ s
 have r':=RepL.aft af _ _ r
 show match (l[k]?).map (fun d=>D.tup [.int k,d]) with
  | some d=>(Ite K a).go k H'/\∀ x H2,(Ite K a).yld k H' x H2->Aft K mp' H' mp' H2/\RS K mp' H2 S'/\Rep K mp' H2 d x
  | none=>(Ite K a).stop k H'
 cases z:l[k]? with
 | none=>
  refine⟨xs,s',?_⟩
  rw[r.len]
  exact List.getElem?_eq_none_iff.mp z
 | some d=>
  obtain⟨v,e,q⟩:=r'.get z
  refine⟨⟨xs,v,s',e⟩,fun x H2 ⟨y,p,h2,h3,h4,h5⟩=>?_⟩
  have h2:=h2 xs s'
  rw[e] at h2
  cases h2
  subst h4 h5
  have af2:Aft K mp' H' mp' (upd H' p (.tup [.int k,v])):=Ql h3
  exact⟨af2,rs.new h3,p,_,rfl,SqT.of Hu,RepL.cons rfl (RepL.cons (Rep.aft af2 _ _ q) RepL.nil)⟩
theorem Gc0{x1}{tp:Pos}(hg:Gl X "enumerate")(hm:X.mg "enumerate"=none)(ha:JA X XQ [a] f)(hs:starEach [a] X.env=[(false,eval a X.env)]:=by rfl):
  JI X XQ (.Tuple es x1 tp) (.Call (.Name "enumerate" p) [a] [] pos) (ienumerate f):=by
 refine PI.mono (Gl4 hg hm ha hs) fun σ H R ⟨mp,ρ,S,G,p⟩=>?_
 refine bindP G p fun mp1 H1 ds S1 vs a1 G1 r1 p1=>?_
 split at p1
 ·rename_i l
  obtain⟨v,rfl,h1⟩:=RepL.one r1
  obtain⟨c,xs,rfl,s,q⟩:=Rep.tup h1
  exact⟨c,rfl,⟨xs,s⟩,Gk.ok (R:=kI X.K) (d:=⟨fun k _=>(l[k]?).map fun d=>.tup [.int k,d],l.length+1⟩) (S:=S1) p1 G1.rs (Grc s q)⟩
 ·exact p1.elim
end
structure Za(z ti to' i j a b:Addr):Prop where
 q1:ti≠z
 q2:to'≠z
 q3:i≠z
 q4:j≠z
 q5:ti≠to'
 q6:ti≠i
 q7:ti≠j
 q8:to'≠i
 q9:to'≠j
 q10:i≠j
 q11:a≠z
 q12:a≠to'
 q13:a≠i
 q14:a≠j
 q15:b≠z
 q16:b≠to'
 q17:b≠i
 q18:b≠j
section
variable{prog:Program}{w:World}{A:Around}{E:Value->Shared->Prop}{s:Shared}
theorem Gl5{z ti to' i j a b:Addr}{ys:Array Value}{x y c d:Value}{Q:Option Value->Shared->Prop}(D:Za z ti to' i j a b)(pz:IsZip s.heap z ti to' .none)(pti:IsPair s.heap ti (.ref i) (.ref j))(pto:IsPair s.heap to' c d)(pi':s.heap.IsTupleIter i a k)(pj:s.heap.IsTupleIter j b k)(pa:s.heap.IsTuple a xs)(pb:s.heap.IsTuple b ys)(px:xs[k]?=some x)(py:ys[k]?=some y)(fin:∀ g,IsZip g z ti to' (rawInt s.heap.objs.size)->IsPair g to' x y->g.IsTupleIter i a (k+1)->g.IsTupleIter j b (k+1)->IsPair g s.heap.objs.size x y→
   (∀ b o,b≠z->b≠to'->b≠i->b≠j->s.heap.get? b=some o->g.get? b=some o)->Q (some (.ref s.heap.objs.size)) { s with heap:=g }):wpAny (model prog w) A (pyNext (.ref z)) Q E s:=by
 have ty:s.TypeIs (.ref z) "zip":=⟨_,pz,rfl⟩
 unfold pyNext
 refine wpAny_bind (wpAny_attempt (wpAny_callSpecial?_slot (name:=Str.ofString "__next__") ty F.slot_zip_next (wpAny_call_entry F.slot_zip_next ty F.entry_zip_next ?_ (F.args_zip_next_1 _))))
 show wpAny _ _ (field (.ref z) 2 >>= _) _ _ (_:Shared)
 refine wpAny_bind (wpAny_field pz rfl (x:=.bool false) rfl ?_)
 show wpAny _ _ (field (.ref z) 3 >>= _) _ _ (_:Shared)
 refine wpAny_bind (wpAny_field pz rfl (x:=.ref ti) rfl ?_)
 refine wpAny_bind (wpAny_seqItems pti rfl ?_)
 show wpAny _ _ (Builtin.SmallTypes.ownedTupleIsFree (.ref z) >>= _) _ _ (_:Shared)
 refine wpAny_bind ?_
 unfold Builtin.SmallTypes.ownedTupleIsFree
 refine wpAny_bind (wpAny_field pz rfl (x:=.none) rfl (wpAny_pure ?_))
 simp only[if_true]
 refine wpAny_bind (wpAny_rule ?_)
 refine wpAny_bind (wpAny_field pz rfl (x:=.ref to') rfl ?_)
 refine wpAny_bind (wpAny_setField_rec pz (by simp) fun g1 z1 b1=>?_)
 replace z1:IsZip g1 z ti to' .ellipsis:=z1
 refine wpAny_bind ?_
 simp only[List.zipIdx_cons,List.zipIdx_nil,List.forIn_cons,List.forIn_nil]
 refine wpAny_bind (wpAny_bind (wpAny_onRaise ?_))
 show wpAny _ _ (Builtin.SmallTypes.nextOf (.ref i) >>= _) _ _ (_:Shared)
 refine wpAny_bind (Zu (pi'.extBut b1.extBut D.q3) (pa.extBut b1.extBut D.q11) px fun g2 i2 b2=>wpAny_pure ?_)
 have o2:IsPair g2 to' c d:=b2.extBut _ _ D.q8 (b1.extBut _ _ D.q2 pto)
 refine wpAny_bind (wpAny_seqItems o2 rfl ?_)
 refine wpAny_bind (wpAny_updateSeq_pair o2 fun g3 o3 b3=>?_)
 replace o3:IsPair g3 to' x d:=o3
 refine wpAny_bind (wpAny_letGo (wpAny_pure ?_))
 refine wpAny_bind (wpAny_bind (wpAny_onRaise ?_))
 show wpAny _ _ (Builtin.SmallTypes.nextOf (.ref j) >>= _) _ _ (_:Shared)
 refine wpAny_bind (Zu (((pj.extBut b1.extBut D.q4).extBut b2.extBut D.q10.symm).extBut b3.extBut D.q9.symm) (((pb.extBut b1.extBut D.q15).extBut b2.extBut D.q17).extBut b3.extBut D.q16) py fun g4 j4 b4=>wpAny_pure ?_)
 have o4:IsPair g4 to' x d:=b4.extBut _ _ D.q9 o3
 refine wpAny_bind (wpAny_seqItems o4 rfl ?_)
 refine wpAny_bind (wpAny_updateSeq_pair o4 fun g5 o5 b5=>?_)
 replace o5:IsPair g5 to' x y:=o5
 refine wpAny_bind (wpAny_letGo (wpAny_pure (wpAny_pure ?_)))
 refine wpAny_bind (wpAny_seqItems o5 rfl ?_)
 refine wpAny_bind (wpAny_newTuple ?_)
 have sz:g5.objs.size=s.heap.objs.size:=by rw[b5.1,b4.1,b3.1,b2.1,b1.1]
 have z5:IsZip g5 z ti to' .ellipsis:=b5.extBut _ _ D.q2.symm (b4.extBut _ _ D.q4.symm (b3.extBut _ _ D.q2.symm (b2.extBut _ _ D.q3.symm z1)))
 have k5:∀ b o,b≠z->b≠to'->b≠i->b≠j->s.heap.get? b=some o->g5.get? b=some o:=fun b o c1 c2 c3 c4 e=>
  b5.extBut _ _ c2 (b4.extBut _ _ c4 (b3.extBut _ _ c2 (b2.extBut _ _ c3 (b1.extBut _ _ c1 e))))
 have i5:g5.IsTupleIter i a (k+1):=((i2.extBut b3.extBut D.q8.symm).extBut b4.extBut D.q10).extBut b5.extBut D.q8.symm
 have j5:g5.IsTupleIter j b (k+1):=j4.extBut b5.extBut D.q9.symm
 have zl:z<g5.objs.size:=Heap.lt_size z5
 show wpAny _ _ (Builtin.SmallTypes.ownedTupleHandOut (.ref z) (.ref g5.objs.size) >>= _) _ _ (_:Shared)
 refine wpAny_bind ?_
 unfold Builtin.SmallTypes.ownedTupleHandOut
 have z6:IsZip (g5.push { cls:=.type "tuple",data:=.seq #[x,y] }) z ti to' .ellipsis:=Heap.get?_push_of_some _ z5
 refine wpAny_bind (wpAny_setField_rec z6 (by simp) fun g7 z7 b7=>?_)
 replace z7:IsZip g7 z ti to' (rawInt g5.objs.size):=z7
 refine wpAny_setField_rec z7 (by simp) fun g8 z8 b8=>?_
 replace z8:IsZip g8 z ti to' (rawInt g5.objs.size):=z8
 have up:∀ b o,b≠z->g5.get? b=some o->g8.get? b=some o:=fun b o c1 e=>b8.extBut _ _ c1 (b7.extBut _ _ c1 (Heap.get?_push_of_some _ e))
 have t8:IsPair g8 g5.objs.size x y:=b8.extBut _ _ (Nat.ne_of_gt zl) (b7.extBut _ _ (Nat.ne_of_gt zl) (Heap.get?_push_size _ rfl))
 rw[sz] at z8 t8
 refine wpAny_pure ⟨_,rfl,wpAny_pure ?_⟩
 show Q (some (.ref g5.objs.size)) _
 rw[sz]
 exact fin g8 z8 (up _ _ D.q2 o5) (i5.at fun o e=>up _ o D.q3 e) (j5.at fun o e=>up _ o D.q4 e) t8 fun b o c1 c2 c3 c4 e=>up b o c1 (k5 b o c1 c2 c3 c4 e)
theorem Grd{z ti to' i j a b:Addr}{ys:Array Value}{c d:Value}{Q:Option Value->Shared->Prop}(no:A.handled=none)(D:Za z ti to' i j a b)(pz:IsZip s.heap z ti to' .none)(pti:IsPair s.heap ti (.ref i) (.ref j))(pto:IsPair s.heap to' c d)(pi':s.heap.IsTupleIter i a k)(pj:s.heap.IsTupleIter j b k)(pa:s.heap.IsTuple a xs)(pb:s.heap.IsTuple b ys)(pe:xs[k]?=none\/ys[k]?=none)(fin:∀ g,(∀ b o,b≠z->b≠to'->b≠i->b≠j->s.heap.get? b=some o->g.get? b=some o)->Q none { s with heap:=g }):wpAny (model prog w) A (pyNext (.ref z)) Q E s:=by
 have ty:s.TypeIs (.ref z) "zip":=⟨_,pz,rfl⟩
 have stop:∀ (g:Heap) (e:Addr),(∀ b o,b≠z->b≠to'->b≠i->b≠j->s.heap.get? b=some o->g.get? b=some o)->(∃ o,g.get? e=some o/\o.cls=.type "StopIteration")→
   wpAny (model prog w) A (do if <- isInstance (.ref e) (.type "StopIteration") then pure none else throw (.ref e)) Q E { s with heap:=g }:=fun g e h1 ⟨o,ho,hc⟩=>by
  refine wpAny_bind (wpAny_isInstance (T:="StopIteration") (b:=true) ⟨o,ho,hc⟩ isSubtype_stop ?_)
  exact wpAny_pure (fin _ h1)
 unfold pyNext
 refine wpAny_bind (wpAny_attempt (wpAny_callSpecial?_slot (name:=Str.ofString "__next__") ty F.slot_zip_next (wpAny_call_entry F.slot_zip_next ty F.entry_zip_next ?_ (F.args_zip_next_1 _))))
 show wpAny _ _ (field (.ref z) 2 >>= _) _ _ (_:Shared)
 refine wpAny_bind (wpAny_field pz rfl (x:=.bool false) rfl ?_)
 show wpAny _ _ (field (.ref z) 3 >>= _) _ _ (_:Shared)
 refine wpAny_bind (wpAny_field pz rfl (x:=.ref ti) rfl ?_)
 refine wpAny_bind (wpAny_seqItems pti rfl ?_)
 show wpAny _ _ (Builtin.SmallTypes.ownedTupleIsFree (.ref z) >>= _) _ _ (_:Shared)
 refine wpAny_bind ?_
 unfold Builtin.SmallTypes.ownedTupleIsFree
 refine wpAny_bind (wpAny_field pz rfl (x:=.none) rfl (wpAny_pure ?_))
 simp only[if_true]
 refine wpAny_bind (wpAny_rule ?_)
 refine wpAny_bind (wpAny_field pz rfl (x:=.ref to') rfl ?_)
 refine wpAny_bind (wpAny_setField_rec pz (by simp) fun g1 z1 b1=>?_)
 replace z1:IsZip g1 z ti to' .ellipsis:=z1
 refine wpAny_bind ?_
 simp only[List.zipIdx_cons,List.zipIdx_nil,List.forIn_cons,List.forIn_nil]
 refine wpAny_bind (wpAny_bind (wpAny_onRaise ?_))
 show wpAny _ _ (Builtin.SmallTypes.nextOf (.ref i) >>= _) _ _ (_:Shared)
 cases hx:xs[k]? with
 | none=>
  refine wpAny_bind (Gew no (pi'.extBut b1.extBut D.q3) (pa.extBut b1.extBut D.q11) hx fun g2 e b2 he=>?_)
  obtain⟨oe,hoe,hce⟩:=he
  have z2:IsZip g2 z ti to' .ellipsis:=b2 _ _ D.q3.symm z1
  have ez:e≠z:=fun x=>by subst x; rw[z2] at hoe; cases hoe; simp at hce
  refine wpAny_setField_rec z2 (by simp) fun g3 _ b3=>?_
  exact stop g3 e (fun b o c1 _ c3 _ x=>b3.extBut _ _ c1 (b2 _ _ c3 (b1.extBut _ _ c1 x))) ⟨oe,b3.extBut _ _ ez hoe,hce⟩
 | some x=>
  have hy:ys[k]?=none:=by
   rcases pe with h | h
   ·rw[hx] at h; cases h
   ·exact h
  refine wpAny_bind (Zu (pi'.extBut b1.extBut D.q3) (pa.extBut b1.extBut D.q11) hx fun g2 i2 b2=>wpAny_pure ?_)
  have o2:IsPair g2 to' c d:=b2.extBut _ _ D.q8 (b1.extBut _ _ D.q2 pto)
  refine wpAny_bind (wpAny_seqItems o2 rfl ?_)
  refine wpAny_bind (wpAny_updateSeq_pair o2 fun g3 o3 b3=>?_)
  refine wpAny_bind (wpAny_letGo (wpAny_pure ?_))
  refine wpAny_bind (wpAny_bind (wpAny_onRaise ?_))
  show wpAny _ _ (Builtin.SmallTypes.nextOf (.ref j) >>= _) _ _ (_:Shared)
  refine wpAny_bind (Gew no (((pj.extBut b1.extBut D.q4).extBut b2.extBut D.q10.symm).extBut b3.extBut D.q9.symm) (((pb.extBut b1.extBut D.q15).extBut b2.extBut D.q17).extBut b3.extBut D.q16) hy fun g4 e b4 he=>?_)
  obtain⟨oe,hoe,hce⟩:=he
  have z4:IsZip g4 z ti to' .ellipsis:=b4 _ _ D.q4.symm (b3.extBut _ _ D.q2.symm (b2.extBut _ _ D.q3.symm z1))
  have ez:e≠z:=fun x=>by subst x; rw[z4] at hoe; cases hoe; simp at hce
  refine wpAny_setField_rec z4 (by simp) fun g5 _ b5=>?_
  exact stop g5 e (fun b o c1 c2 c3 c4 x=>b5.extBut _ _ c1 (b4 _ _ c4 (b3.extBut _ _ c2 (b2.extBut _ _ c3 (b1.extBut _ _ c1 x))))) ⟨oe,b5.extBut _ _ ez hoe,hce⟩
abbrev zg1(g:Heap)(a:Addr):Heap:=g.push { cls:=.type "tuple_iterator",data:=.fields #[.ref a,.int 0 0] }
abbrev zg2(g:Heap)(a b:Addr):Heap:=(zg1 g a).push { cls:=.type "tuple_iterator",data:=.fields #[.ref b,.int 0 0] }
abbrev zg3(g:Heap)(a b:Addr):Heap:=(zg2 g a b).push { cls:=.type "tuple",data:=.seq #[.ref g.objs.size,.ref (zg1 g a).objs.size] }
abbrev zg4(g:Heap)(a b:Addr):Heap:=(zg3 g a b).push { cls:=.type "tuple",data:=.seq #[.none,.none] }
abbrev zg5(g:Heap)(a b:Addr):Heap:=(zg4 g a b).push { cls:=.type "zip",data:=.fields #[.none,.bool false,.bool false,.ref (zg2 g a b).objs.size,.ref (zg3 g a b).objs.size] }
theorem Gir(a b:Addr)(xs ys:Array Value):
  Meets (Builtin.«zip.__new__» ⟨[.type "zip",.ref a,.ref b],[]⟩) (fun _ R s=>s.heap.IsTuple a xs/\s.heap.IsTuple b ys/\R (.ok (.ret (.ref (zg4 s.heap a b).objs.size))) { s with heap:=zg5 s.heap a b }):=
 .of_wp fun prog w A R s h=>by
  obtain⟨hp,g,d,tk,os⟩:=s; obtain⟨ha,hb,h⟩:=h
  have hsub:=sub_zip
  have h1:Heap.IsTuple (Shared.heap ⟨hp,g,d,tk,os⟩) a xs:=ha
  have h2:Heap.IsTuple (Shared.heap ⟨zg1 hp a,g,d,tk,os⟩) b ys:=Heap.IsTuple.push hb _
  wp_walk using wpAny_pyIter_tuple h1,wpAny_pyIter_tuple h2
  exact⟨_,rfl,h⟩
theorem Gl6{a b:Addr}{ys:Array Value}{Q:Value->Shared->Prop}(pa:s.heap.IsTuple a xs)(pb:s.heap.IsTuple b ys)(fin:∀ g,IsZip g (s.heap.objs.size+4) (s.heap.objs.size+2) (s.heap.objs.size+3) .none->IsPair g (s.heap.objs.size+2) (.ref s.heap.objs.size) (.ref (s.heap.objs.size+1))->IsPair g (s.heap.objs.size+3) .none .none→
   g.IsTupleIter s.heap.objs.size a 0->g.IsTupleIter (s.heap.objs.size+1) b 0->(∀ c o,s.heap.get? c=some o->g.get? c=some o)->Q (.ref (s.heap.objs.size+4)) { s with heap:=g }):
  wpAny (model prog w) A (call (.type "zip") [.ref a,.ref b]) Q E s:=by
 refine callType_new F.called_zip (by decide) (F.typeCall_zip_2 _ _) (F.newCall_zip_2 _ _) (fun obj=>F.args_object_init_3 obj _ _) F.entry_zip_new (Gir a b xs ys) ⟨pa,pb,?_⟩
 have n1:(zg1 s.heap a).objs.size=s.heap.objs.size+1:=Heap.size_push ..
 have n2:(zg2 s.heap a b).objs.size=s.heap.objs.size+2:=by rw[Heap.size_push,n1]
 have n3:(zg3 s.heap a b).objs.size=s.heap.objs.size+3:=by rw[Heap.size_push,n2]
 have n4:(zg4 s.heap a b).objs.size=s.heap.objs.size+4:=by rw[Heap.size_push,n3]
 have g5:(zg5 s.heap a b).get? (zg4 s.heap a b).objs.size=some _:=Heap.get?_push_size _ rfl
 have g4:(zg5 s.heap a b).get? (zg3 s.heap a b).objs.size=some _:=Heap.get?_push_of_some _ (Heap.get?_push_size _ rfl)
 have g3:(zg5 s.heap a b).get? (zg2 s.heap a b).objs.size=some _:=Heap.get?_push_of_some _ (Heap.get?_push_of_some _ (Heap.get?_push_size _ rfl))
 have g2:(zg5 s.heap a b).get? (zg1 s.heap a).objs.size=some _:=Heap.get?_push_of_some _ (Heap.get?_push_of_some _ (Heap.get?_push_of_some _ (Heap.get?_push_size _ rfl)))
 have g1:(zg5 s.heap a b).get? s.heap.objs.size=some _:=Heap.get?_push_of_some _ (Heap.get?_push_of_some _ (Heap.get?_push_of_some _ (Heap.get?_push_of_some _ (Heap.get?_push_size _ rfl))))
 show _/\_
 rw[n2,n3,n4] at g5
 rw[n1,n2] at g3
 rw[n3] at g4
 rw[n1] at g2
 rw[n4]
 exact⟨⟨_,g5,rfl⟩,fin _ g5 g3 g4 ⟨_,g1,rfl,rfl⟩ ⟨_,g2,rfl,rfl⟩ fun c o x=>Heap.get?_push_of_some _ (Heap.get?_push_of_some _ (Heap.get?_push_of_some _ (Heap.get?_push_of_some _ (Heap.get?_push_of_some _ x))))⟩
end
def Itz(K:PySem.W.Frag)(a b:Addr):It:=
 ⟨fun k H=>∃ xs ys x y,SqT K H a xs/\SqT K H b ys/\xs[k]?=some x/\ys[k]?=some y,
  fun k H v H'=>∃ x y p,(∀ xs,SqT K H a xs->xs[k]?=some x)/\(∀ ys,SqT K H b ys->ys[k]?=some y)/\H p=none/\v=.ref p/\H'=upd H p (.tup [x,y]),
  fun k H=>∃ xs ys,SqT K H a xs/\SqT K H b ys/\(xs.length<=k\/ys.length<=k)⟩
def tnZ(z ti to' i j a b:Addr)(k:Nat)(h:Heap):Prop:=IsZip h z ti to' .none/\IsPair h ti (.ref i) (.ref j)/\(∃ c d,IsPair h to' c d)/\h.IsTupleIter i a k/\h.IsTupleIter j b k
theorem Gis{x1}(z ti to' i j a b:Addr)(D:Za z ti to' i j a b):
  Turn P w K (.Tuple es x1 pos) (Itz K a b) [z,ti,to',i,j] z (tnZ z ti to' i j a b) where
 mem:=by simp
 obj:=fun k h ⟨s1,s2,⟨c,d,s3⟩,⟨o4,e4,c4,d4⟩,o5,e5,c5,d5⟩ q hq=>by
  simp only[List.mem_cons,List.mem_nil_iff,or_false] at hq
  rcases hq with rfl | rfl | rfl | rfl | rfl
  ·exact⟨_,s1,fun v y=>nomatch (show Data.fields _=Data.cell v from y)⟩
  ·exact⟨_,s2,fun v y=>nomatch (show Data.seq _ _=Data.cell v from y)⟩
  ·exact⟨_,s3,fun v y=>nomatch (show Data.seq _ _=Data.cell v from y)⟩
  ·exact⟨o4,e4,fun v y=>by rw[d4] at y; cases y⟩
  ·exact⟨o5,e5,fun v y=>by rw[d5] at y; cases y⟩
 keep:=fun k h h' ⟨s1,s2,⟨c,d,s3⟩,s4,s5⟩ kk=>⟨kk z (by simp) _ s1,kk ti (by simp) _ s2,⟨c,d,kk to' (by simp) _ s3⟩,s4.at fun o e=>kk i (by simp) o e,s5.at fun o e=>kk j (by simp) o e⟩
 item:=by
  intro X hP hw hK hc k pins s σ H E I hf ⟨s1,s2,⟨c,d,s3⟩,s4,s5⟩ hg
  subst hP hw hK
  obtain⟨xs,ys,x,y,hqa,hqb,hx,hy⟩:=hg
  obtain⟨ita,rva,pa,_⟩:=I.tuple hqa
  obtain⟨itb,rvb,pb,_⟩:=I.tuple hqb
  obtain⟨u,hu,ru⟩:=rva.get hx
  obtain⟨v,hv,rv⟩:=rvb.get hy
  have hn:H s.heap.objs.size=none:=I.hok.fresh (Nat.le_refl _)
  refine Gl5 D s1 s2 s3 s4 s5 (show s.heap.IsTuple a ita.toArray from pa) (show s.heap.IsTuple b itb.toArray from pb) (x:=u) (y:=v) (by simpa using hu) (by simpa using hv) fun g t1 t2 t3 t4 t5 kk=>?_
  refine⟨_,rfl,wpAny_letOwnedTupleGo_zip t1 fun g2 e2 b2=>?_⟩
  have kk2:∀ q o,q∉[z,ti,to',i,j]->s.heap.get? q=some o->g2.get? q=some o:=fun q o hq h1=>
   b2.extBut q o (fun y=>hq (by simp[y])) (kk q o (fun y=>hq (by simp[y])) (fun y=>hq (by simp[y])) (fun y=>hq (by simp[y])) (fun y=>hq (by simp[y])) h1)
  have zl:s.heap.objs.size≠z:=Nat.ne_of_gt (Heap.lt_size s1)
  have tt2:g2.get? s.heap.objs.size=some { cls:=.type "tuple",data:=.seq [u,v].toArray }:=b2.extBut _ _ zl t5
  have ltf:∀ q∈[z,ti,to',i,j],q≠s.heap.objs.size:=fun q hq=>by
   simp only[List.mem_cons,List.mem_nil_iff,or_false] at hq
   rcases hq with rfl | rfl | rfl | rfl | rfl
   ·exact Ne.symm zl
   ·exact Nat.ne_of_lt (Heap.lt_size s2)
   ·exact Nat.ne_of_lt (Heap.lt_size s3)
   ·obtain⟨o,e1,_⟩:=s4; exact Nat.ne_of_lt (Heap.lt_size e1)
   ·obtain⟨o,e1,_⟩:=s5; exact Nat.ne_of_lt (Heap.lt_size e1)
  have I2:Inv X pins σ (upd H s.heap.objs.size (.tup [x,y])) { s with heap:=g2 }:=
   Zi (tk:=s.toks) I hn (by rw[sizeLine_eq]; simp only[List.length_cons,List.length_nil]; decide) (.cons ru (.cons rv .nil)) tt2 kk2 hf ltf
  have p2:IsPair g2 ti (.ref i) (.ref j):=b2.extBut _ _ D.q1 (kk ti _ D.q1 D.q5 D.q6 D.q7 s2)
  exact⟨.ref s.heap.objs.size,_,I2,rfl,⟨x,y,_,fun zs hz=>by rw[I.tuple_inj hz hqa]; exact hx,fun zs hz=>by rw[I.tuple_inj hz hqb]; exact hy,hn,rfl,rfl⟩,
   ⟨e2,p2,⟨_,_,b2.extBut _ _ D.q2 t2⟩,t3.extBut b2.extBut D.q3,t4.extBut b2.extBut D.q4⟩,fun q hq=>by
    rw[Gr (ltf q hq)]
    exact(hf q hq).1⟩
 done:=by
  intro X hP hw hK hc k pins s σ H E I hf ⟨s1,s2,⟨c,d,s3⟩,s4,s5⟩ hg
  subst hP hw hK
  obtain⟨xs,ys,hqa,hqb,hx⟩:=hg
  obtain⟨ita,rva,pa,_⟩:=I.tuple hqa
  obtain⟨itb,rvb,pb,_⟩:=I.tuple hqb
  have la:=rva.length
  have lb:=rvb.length
  refine Grd (I.ok.hd hc) D s1 s2 s3 s4 s5 (show s.heap.IsTuple a ita.toArray from pa) (show s.heap.IsTuple b itb.toArray from pb) ?_ fun g kk=>⟨rfl,turnedL I (fun q o hq e1=>kk q o (fun y=>hq (by simp[y])) (fun y=>hq (by simp[y])) (fun y=>hq (by simp[y])) (fun y=>hq (by simp[y])) e1) hf⟩
  rcases hx with h | h
  ·exact .inl (by simp; omega)
  ·exact .inr (by simp; omega)
 self:=fun _ _ _ _ _ ⟨st,_⟩ h=>wpAny_pyIter_zip st h
section
variable{X:Cx}{XQ:XW}
def Gwt(K:PySem.W.Frag)(ta:TA):TI:=fun σ H R=>ta σ H fun xs H1=>∃ a b,xs=[.ref a,.ref b]/\(∃ ys,SqT K H1 a ys)/\(∃ ys,SqT K H1 b ys)/\R (Itz K a b) H1
theorem Gre{x1}{tp:Pos}{ta:TA}(hg:Gl X "zip")(hm:X.mg "zip"=none)(ha:PA X [a,b] ta)(hs:starEach [a,b] X.env=(false,eval a X.env)::starEach [b] X.env:=by rfl)(hpl:(backTo pos (starEach [b] X.env)).any (·.1)=false:=by rfl):
  PI X (.Tuple es x1 tp) (.Call (.Name "zip" p) [a,b] [] pos) (Gwt X.K ta):=by
 intro pins s σ H R I h
 refine wpAny_Call_Name_kw (Wj I hg hm (by rfl) ?_ (by decide) (by decide))
 refine PyProof.Rows.callWith_type1 (thn (ha pos pins s σ H _ I h) fun us s1 ⟨vs,H1,I1,r1,q1⟩=>?_) hs hpl
 obtain⟨c,d,e,⟨ys,hqa⟩,⟨zs,hqb⟩,q⟩:=q1
 subst e
 obtain⟨u,u',rfl,rx,ry⟩:=Gns r1
 cases rx
 cases ry
 obtain⟨ita,_,pa,_⟩:=I1.tuple hqa
 obtain⟨itb,_,pb,_⟩:=I1.tuple hqb
 have ca:c<s1.heap.objs.size:=by obtain⟨o,e1,_⟩:=(show s1.heap.IsTuple c ita.toArray from pa); exact Heap.lt_size e1
 have cb:d<s1.heap.objs.size:=by obtain⟨o,e1,_⟩:=(show s1.heap.IsTuple d itb.toArray from pb); exact Heap.lt_size e1
 refine Gl6 (show s1.heap.IsTuple c ita.toArray from pa) (show s1.heap.IsTuple d itb.toArray from pb) fun g t1 t2 t3 t4 t5 kk=>?_
 refine wpAny_pyIter_zip t1 ?_
 have I2:Inv X pins σ H1 { s1 with heap:=g }:=I1.kept (t':=s1.toks) kk
 have far:∀ m n:Nat,m≠n->s1.heap.objs.size+m≠s1.heap.objs.size+n:=fun m n h z=>h (Nat.add_left_cancel z)
 have up:∀ (e:Addr) (n:Nat),e<s1.heap.objs.size->e≠s1.heap.objs.size+n:=fun e n h=>Nat.ne_of_lt (Nat.lt_of_lt_of_le h (Nat.le_add_right _ _))
 have D:Za (s1.heap.objs.size+4) (s1.heap.objs.size+2) (s1.heap.objs.size+3) s1.heap.objs.size (s1.heap.objs.size+1) c d:=
  ⟨far 2 4 (by decide),far 3 4 (by decide),far 0 4 (by decide),far 1 4 (by decide),far 2 3 (by decide),far 2 0 (by decide),far 2 1 (by decide),far 3 0 (by decide),far 3 1 (by decide),far 0 1 (by decide),up c 4 ca,up c 3 ca,up c 0 ca,up c 1 ca,up d 4 cb,up d 3 cb,up d 0 cb,up d 1 cb⟩
 refine⟨s1.heap.objs.size+4,[s1.heap.objs.size+4,s1.heap.objs.size+2,s1.heap.objs.size+3,s1.heap.objs.size,s1.heap.objs.size+1],_,_,H1,rfl,I2,Gis _ _ _ _ _ c d D,⟨t1,t2,⟨_,_,t3⟩,t4,t5⟩,fun q hq=>?_,q⟩
 have hb':s1.heap.objs.size<=q:=by
  simp only[List.mem_cons,List.mem_nil_iff,or_false] at hq
  rcases hq with rfl | rfl | rfl | rfl | rfl
  ·exact Nat.le_add_right _ _
  ·exact Nat.le_add_right _ _
  ·exact Nat.le_add_right _ _
  ·exact Nat.le_refl _
  ·exact Nat.le_add_right _ _
 exact I1.fpOk hb' (I1.hok.fresh hb')
def zipAt(l m:List D)(k:Nat):Option D:=match l[k]?,m[k]? with
 | some x,some y=>some (.tup [x,y])
 | _,_=>none
def izip(f:Ev (List D)):Ev Src:=fun ρ S=>(f ρ S).bind fun ds S1=>match ds with
 | [.tup l,.tup m]=>.ok ⟨fun k _=>zipAt l m k,l.length+1⟩ S1
 | _=>.bad
theorem Grf{a b:Addr}{xs ys:List V}{l m:List D}(s:SqT K H a xs)(r:RepL K mp H l xs)(s2:SqT K H b ys)(r2:RepL K mp H m ys):Gep K mp H (Itz K a b) (fun k _=>zipAt l m k):=by
 intro mp' H' S' af rs k
 have s':=af.tup _ _ s
 have r':=RepL.aft af _ _ r
 have s2':=af.tup _ _ s2
 have r2':=RepL.aft af _ _ r2
 show match zipAt l m k with
  | some d=>(Itz K a b).go k H'/\∀ x H2,(Itz K a b).yld k H' x H2->Aft K mp' H' mp' H2/\RS K mp' H2 S'/\Rep K mp' H2 d x
  | none=>(Itz K a b).stop k H'
 unfold zipAt
 cases z:l[k]? with
 | none=>
  refine⟨xs,ys,s',s2',.inl ?_⟩
  rw[r.len]
  exact List.getElem?_eq_none_iff.mp z
 | some d=>
  cases z2:m[k]? with
  | none=>
   refine⟨xs,ys,s',s2',.inr ?_⟩
   rw[r2.len]
   exact List.getElem?_eq_none_iff.mp z2
  | some d2=>
   obtain⟨v,e,q⟩:=r'.get z
   obtain⟨v2,e2,q2⟩:=r2'.get z2
   refine⟨⟨xs,ys,v,v2,s',s2',e,e2⟩,fun x H2 ⟨y,y2,p,h1,h2,h3,h4,h5⟩=>?_⟩
   have h1:=h1 xs s'
   have h2:=h2 ys s2'
   rw[e] at h1
   rw[e2] at h2
   cases h1
   cases h2
   subst h4 h5
   have af2:Aft K mp' H' mp' (upd H' p (.tup [v,v2])):=Ql h3
   exact⟨af2,rs.new h3,p,_,rfl,SqT.of Hu,RepL.cons (Rep.aft af2 _ _ q) (RepL.cons (Rep.aft af2 _ _ q2) RepL.nil)⟩
theorem Grg{x1}{tp:Pos}(hg:Gl X "zip")(hm:X.mg "zip"=none)(ha:JA X XQ [a,b] f)(hs:starEach [a,b] X.env=(false,eval a X.env)::starEach [b] X.env:=by rfl)(hpl:(backTo pos (starEach [b] X.env)).any (·.1)=false:=by rfl):
  JI X XQ (.Tuple es x1 tp) (.Call (.Name "zip" p) [a,b] [] pos) (izip f):=by
 refine PI.mono (Gre hg hm ha hs hpl) fun σ H R ⟨mp,ρ,S,G,p⟩=>?_
 refine bindP G p fun mp1 H1 ds S1 vs a1 G1 r1 p1=>?_
 split at p1
 ·rename_i l m
  obtain⟨v,v2,rfl,h1,h2⟩:=RepL.two r1
  obtain⟨c,xs,rfl,s,q⟩:=Rep.tup h1
  obtain⟨d,ys,rfl,s2,q2⟩:=Rep.tup h2
  exact⟨c,d,rfl,⟨xs,s⟩,⟨ys,s2⟩,Gk.ok (R:=kI X.K) (d:=⟨fun k _=>zipAt l m k,l.length+1⟩) (S:=S1) p1 G1.rs (Grf s q s2 q2)⟩
 ·exact p1.elim
end
section
variable{X:Cx}{XQ:XW}
def rvD(x:D)(st:Option Int)(S:Sto):Out D:=match x,st with
 | .tup l,some (-1)=>.ok (.tup l.reverse) S
 | _,_=>.bad
def rv(fe:Ev D)(fs:Ev (Option Int)):Ev D:=fun ρ S=>(fe ρ S).bind fun x S1=>(fs ρ S1).bind fun o S2=>rvD x o S2
end
def Gaf:D->Bool
 | .tup _=>false
 | .lst _=>false
 | .exn _ _=>false
 | .fv _=>false
 | _=>true
def toV:D->V
 | .bl b=>.bl b
 | .int i=>.int i
 | .str s=>.str s
 | _=>.non
def memD(x:D)(l:List D):Bool:=l.any fun y=>eqV (toV y) (toV x)
def Gag(y:D)(S:Sto):Option (List D):=match y with
 | .tup l=>some l
 | .lst i=>(S[i]?).map (·.xs)
 | _=>none
def Git(neg:Bool)(x y:D)(S:Sto):Out D:=match Gag y S with
 | some l=>if Gaf x=true/\l.all Gaf=true then .ok (.bl (if neg=true then !memD x l else memD x l)) S else .bad
 | none=>.bad
abbrev inD:=Git false
section
variable{K:PySem.W.Frag}{mp:List Addr}{H:Hp}
theorem Gdv{d:D}{v:V}(h:Rep K mp H d v)(f:Gaf d=true):v=toV d/\Wk v=true:=by
 cases d with
 | non=>cases (show v=.non from h); exact⟨rfl,rfl⟩
 | bl b=>cases (show v=.bl b from h); exact⟨rfl,rfl⟩
 | int i=>cases (show v=.int i from h); exact⟨rfl,rfl⟩
 | str s=>cases (show v=.str s from h); exact⟨rfl,rfl⟩
 | tup l=>cases f
 | lst i=>cases f
 | exn c n=>cases f
 | fv c=>cases f
theorem Gb6:∀ {l:List D} {vs:List V},RepL K mp H l vs->l.all Gaf=true->vs=l.map toV/\vs.all Wk=true
 | [],vs,h,_=>by cases (show vs=[] from h); exact⟨rfl,rfl⟩
 | d::l,vs,h,f=>by
  obtain⟨v,r,rfl,h1,h2⟩:=(show ∃ v r,vs=v::r/\Rep K mp H d v/\RepL K mp H l r from h)
  rw[List.all_cons,Bool.and_eq_true] at f
  obtain⟨a1,a2⟩:=Gdv h1 f.1
  obtain⟨b1,b2⟩:=Gb6 h2 f.2
  exact⟨by rw[List.map_cons,<- a1,<- b1],by rw[List.all_cons,a2,b2]; rfl⟩
theorem Gug(neg:Bool):OpD K (rIn K neg) (Git neg):=by
 intro XQ σ ρ mp H S x y v u Q rs rx ry p
 unfold Git at p
 cases z:Gag y S with
 | none=>rw[z] at p; exact p.elim
 | some l=>
  rw[z] at p
  by_cases h:Gaf x=true/\l.all Gaf=true
  ·simp only[if_pos h] at p
   obtain⟨a1,a2⟩:=Gdv rx h.1
   have fin:∀ xs,RepL K mp H l xs->xs.all Wk=true/\Q (.bl (if neg=true then !inV v xs else inV v xs)) H:=fun xs q=>by
    obtain⟨b1,b2⟩:=Gb6 q h.2
    refine⟨b2,?_⟩
    have e:inV v xs=memD x l:=by
     rw[a1,b1]
     unfold inV memD
     rw[List.any_map]
     rfl
    rw[e]
    exact Gk.ok (R:=Rep K) p rs rfl
   cases y with
   | tup l'=>
    cases (Option.some.inj z)
    obtain⟨a,xs,rfl,s1,q1⟩:=Rep.tup ry
    obtain⟨b2,q⟩:=fin xs q1
    exact⟨a,xs,rfl,.inr s1,a2,b2,q⟩
   | lst i=>
    cases e:S[i]? with
    | none=>rw[show Gag (.lst i) S=(S[i]?).map (·.xs) from rfl,e] at z; cases z
    | some c=>
     rw[show Gag (.lst i) S=(S[i]?).map (·.xs) from rfl,e] at z
     cases (Option.some.inj z)
     obtain⟨a,xs,rfl,_,sq,q1,_⟩:=rs.items ry e
     obtain⟨b2,q⟩:=fin xs q1
     exact⟨a,xs,rfl,.inl sq,a2,b2,q⟩
   | _=>cases z
  ·simp only[if_neg h] at p; exact p.elim
end
theorem Guh(ha:JE X XQ a fa)(hb:JE X XQ b fb)(hm:behindInMarks .In b=false:=by rfl):JT X XQ (.Compare a [.In] [b] pos) (tb (o2 inD fa fb)):=Yq Ggm (Gug false) ha hb hm
section
variable{X:Cx}{XQ:XW}
def Xs:List D->Option (List Str)
 | []=>some []
 | .str z::r=>(Xs r).map (z::·)
 | _::_=>none
theorem RepL.strs:∀ {l:List D} {vs:List V} {ns:List Str},RepL K mp H l vs->Xs l=some ns->vs=ns.map V.str
 | [],vs,ns,h,e=>by
  cases (show vs=[] from h)
  cases (Option.some.inj (show some []=some ns from e))
  rfl
 | d::l,vs,ns,h,e=>by
  obtain⟨v,r,rfl,h1,h2⟩:=h
  cases d with
  | str i=>
   have e:(Xs l).map (i::·)=some ns:=e
   cases z:Xs l with
   | none=>rw[z] at e; cases e
   | some ms=>
    rw[z] at e
    cases (Option.some.inj e)
    cases (show v=.str i from h1)
    rw[RepL.strs h2 z]
    rfl
  | _=>cases (show(none:Option (List Str))=some ns from e)
theorem Gb7:∀ {ys:List Str} {its:List Value},Vals (ys.map V.str) its->StrsAre its ys
 | [],_,.nil=>.nil
 | y::ys,_,.cons r t=>by
  obtain⟨tk,rfl⟩:=r
  exact .cons y tk (Gb7 t)
def Gn9(K:PySem.W.Frag):V->List V->Hp->VK->Prop:=fun x vs H Q=>∃ z a ys,x=.str z/\vs=[.ref a]/\SqL K H a (ys.map V.str)/\(ys.map (·.length)).sum+ys.length*z.length<=1000000/\Q (.str (Txt.join z ys)) H
theorem Gl7:MtM X "str.join" (Gn9 X.K):=by
 intro pins s σ H x vs v us Q I rx rv h
 obtain⟨z,a,ys,rfl,rfl,hs,hb,q⟩:=h
 obtain⟨t,rfl⟩:=rx
 obtain⟨u,rfl,ru⟩:=rv.one
 cases ru
 obtain⟨its,r,pl,_⟩:=I.list hs
 exact join_list pl.isList (by simpa using Gb7 r) (Nat.le_trans hb (by decide)) fun t' k=>⟨.str _,H,I.tok k,⟨t',rfl⟩,q⟩
def Xm(x:D)(xs:List D)(S:Sto):Out D:=match x,xs with
 | .str z,[.lst i]=>match S[i]? with
  | some c=>match Xs c.xs with
   | some ys=>if(ys.map (·.length)).sum+ys.length*z.length<=1000000 then .ok (.str (Txt.join z ys)) S else .bad
   | none=>.bad
  | none=>.bad
 | _,_=>.bad
theorem Gl8:MeD K (Gn9 K) Xm:=by
 intro XQ σ ρ mp H S x xs v vs Q rs rx r p
 unfold Xm at p
 split at p
 ·rename_i z i
  split at p
  ·rename_i c zc
   split at p
   ·rename_i ys zs
    by_cases hb:(ys.map (·.length)).sum+ys.length*z.length<=1000000
    ·rw[if_pos hb] at p
     obtain⟨w,rfl,hw⟩:=RepL.one r
     cases (show v=.str z from rx)
     obtain⟨a,us,rfl,ha,sq,q,f⟩:=rs.items hw zc
     rw[RepL.strs q zs] at sq
     exact⟨z,a,ys,rfl,rfl,sq,hb,Gk.ok (R:=Rep K) p rs rfl⟩
    ·rw[if_neg hb] at p; exact p.elim
   ·exact p.elim
  ·exact p.elim
 ·exact p.elim
def isStr:D->Bool
 | .str _=>true
 | _=>false
def mts(o:D->List D->Sto->Out D)(fo:Ev D)(f:Ev (List D)):Ev D:=fun ρ S=>(fo ρ S).bind fun x S1=>if isStr x=true then(f ρ S1).bind fun xs S2=>o x xs S2 else .bad
theorem Gl9{e:Expr}(ho:JE X XQ o fo)(ha:JA X XQ [e] f)(hbase:attributeBase o "join" X.env (eval o X.env)=eval o X.env:=by rfl)(hfew:((backTo cpos (starEach [e] X.env)).all (fun x=>!x.1)&&(backToKw cpos (keywordEach [] X.env)).all (fun x=>x.1.isSome)
   && decide ([e].length+([]:List Keyword).length+(if([]:List Keyword).isEmpty then 0 else 1)<30))=true:=by rfl)(hline:(apos.endLine==cpos.line)=true:=by rfl)(hs:starEach [e] X.env=(false,eval e X.env)::starEach [] X.env:=by rfl)(hplain:(backTo cpos (starEach [] X.env)).any (·.1)=false:=by rfl):
  JE X XQ (.Call (.Attribute o "join" apos) [e] [] cpos) (mts Xm fo f):=by
 refine PE.mono (Gh1 PySem.F.plainAttrs_str PySem.F.slot_str_join PySem.F.type_str_join Gl7 ho ha hbase hfew hline hs hplain) fun σ H Q ⟨mp,ρ,S,G,p⟩=>?_
 refine bindP G p fun mp1 H1 x S1 v a1 G1 r1 p1=>?_
 by_cases hl:isStr x=true
 ·rw[if_pos hl] at p1
  have ty:tyV X.K "str" v H1:=by
   cases x with
   | str z=>cases (show v=.str z from r1); exact rfl
   | _=>cases hl
  exact⟨ty,bindP G1 p1 fun mp2 H2 xs S2 vs a2 G2 r2 p2=>Gl8 XQ σ ρ mp2 H2 S2 x xs v vs Q G2.rs (Rep.aft a2 _ _ r1) r2 p2⟩
 ·rw[if_neg hl] at p1; exact p1.elim
inductive JFs(X:Cx)(XQ:XW):List Expr->List (Ev D)->Prop
 | nil:JFs X XQ [] []
 | cons {e:Expr} {f:Ev D} {es:List Expr} {fs:List (Ev D)}:JE X XQ e f->JFs X XQ es fs->JFs X XQ (e::es) (f::fs)
end
structure Zb(z ti to' i j l a b c:Addr):Prop where
 tz:ti≠z
 oz:to'≠z
 iz:i≠z
 jz:j≠z
 lz:l≠z
 t_o:ti≠to'
 t_i:ti≠i
 t_j:ti≠j
 t_l:ti≠l
 oi:to'≠i
 oj:to'≠j
 ol:to'≠l
 ij:i≠j
 il:i≠l
 jl:j≠l
 az:a≠z
 ao:a≠to'
 ai:a≠i
 aj:a≠j
 al:a≠l
 bz:b≠z
 bo:b≠to'
 bi:b≠i
 bj:b≠j
 bl:b≠l
 cz:c≠z
 co:c≠to'
 ci:c≠i
 cj:c≠j
 cl:c≠l
section
open Builtin Builtin.Str
variable{prog:Program}{w:World}{A:Around}{E:Value->Shared->Prop}{s:Shared}
theorem Ggy{t u:Tok}{Q:Value->Shared->Prop}(hy:(y.length==0)=false)(hq:∀ (l:List (Str×Tok)) (k:Nat),l.map (·.1)=Txt.split x y->Q (.ref s.heap.objs.size) { s with toks:=k,heap:=s.heap.push { cls:=.type "list",data:=.seq (strValues l).toArray } })(hsz:x.length<=sizeLine)(hsz2:(partsBetween x (occurrences x y 0 x.length (x.length+1)) y.length).length<=sizeLine):
  wpAny (model prog w) A (call (.builtin "str.split") [.str x t,.str y u]) Q E s:=by
 cases h1:(decide (x.length<y.length)||decide (strKind x<strKind y))
 ·cases hf:(occurrences x y 0 x.length (x.length+1)).isEmpty
  ·refine call_meets F.slot_str_split (typeIs_str _ _ _) F.entry_str_split (F.args_str_split_2 _ _) (meets_str_split_sep x y t u h1 hy hf hsz hsz2) ?_
   show wants Q E _ { s with toks:=_,heap:=s.heap.push { cls:=.type "list",data:=.seq (strsFrom s.toks (partsBetween x (occurrences x y 0 x.length (x.length+1)) y.length)).toArray } }
   rw[strsFrom_eq]
   exact hq (numbered s.toks _) _ ((numbered_texts _ _).trans ((if_neg (ne_true_of_eq_false h1)).trans (if_neg (ne_true_of_eq_false hf))).symm)
  ·exact call_meets F.slot_str_split (typeIs_str _ _ _) F.entry_str_split (F.args_str_split_2 _ _) (meets_str_split_not_found x y t u h1 hy hf)
    (hq [(x,t)] s.toks ((if_neg (ne_true_of_eq_false h1)).trans (if_pos hf)).symm)
 ·exact call_meets F.slot_str_split (typeIs_str _ _ _) F.entry_str_split (F.args_str_split_2 _ _) (meets_str_split_cannot_occur x y t u h1)
   (hq [(x,t)] s.toks (if_pos h1).symm)
theorem Gb8:∀ l:List (Str×Tok),Vals ((l.map (·.1)).map V.str) (strValues l)
 | []=>.nil
 | (x,t)::r=>.cons ⟨t,rfl⟩ (Gb8 r)
def Gex(x y:Str):Nat:=(partsBetween x (occurrences x y 0 x.length (x.length+1)) y.length).length
end
section
variable{X:Cx}{XQ:XW}
def Vm(z y:Str):Bool:=(!(y.length==0))&&(decide (z.length<=1000000)&&(decide (Gex z y<=1000000)&&decide ((Txt.split z y).length<=1000000)))
def Giu:V->List V->Hp->VK->Prop:=fun x vs H Q=>∃ z y,x=.str z/\vs=[.str y]/\Vm z y=true/\∀ a,H a=none->Q (.ref a) (upd H a (.lst ((Txt.split z y).map V.str)))
theorem Giv:MtM X "str.split" Giu:=by
 intro pins s σ H x vs v us Q I rx rv h
 obtain⟨z,y,rfl,rfl,hb,q⟩:=h
 obtain⟨t,rfl⟩:=rx
 obtain⟨u,rfl,ru⟩:=rv.one
 obtain⟨t2,rfl⟩:=ru
 unfold Vm at hb
 simp only[Bool.and_eq_true,decide_eq_true_eq,Bool.not_eq_true'] at hb
 obtain⟨b1,b2,b3,b4⟩:=hb
 have hf:H s.heap.objs.size=none:=I.hok.fresh (Nat.le_refl _)
 refine Ggy b1 (fun l k hl=>?_) (line_le b2) (line_le b3)
 refine⟨.ref s.heap.objs.size,upd H s.heap.objs.size (.lst ((Txt.split z y).map V.str)),I.laid (t':=k) (fun b u e=>Heap.get?_push_of_some _ e) (Nat.le_refl _) ?_,rfl,q _ hf⟩
 exact⟨by rw[List.length_map]; exact line_le b4,strValues l,0,by rw[<- hl]; exact Gb8 l,Heap.get?_push_size _ rfl⟩
def Wr(x:D)(xs:List D)(S:Sto):Out D:=match x,xs with
 | .str z,[.str y]=>if Vm z y=true then .ok (.lst S.length) (S++[⟨false,(Txt.split z y).map D.str⟩]) else .bad
 | _,_=>.bad
theorem Gdw{K:PySem.W.Frag}{mp:List Addr}{H:Hp}:∀ l:List Str,RepL K mp H (l.map D.str) (l.map V.str)
 | []=>RepL.nil
 | _::r=>RepL.cons rfl (Gdw r)
theorem Giw:MeD K Giu Wr:=by
 intro XQ σ ρ mp H S x xs v vs Q rs rx r p
 unfold Wr at p
 split at p
 ·rename_i z y
  by_cases hb:Vm z y=true
  ·rw[if_pos hb] at p
   obtain⟨w,rfl,hw⟩:=RepL.one r
   cases (show v=.str z from rx)
   cases (show w=.str y from hw)
   refine⟨z,y,rfl,rfl,hb,fun a ha=>?_⟩
   obtain⟨af,rs',la⟩:=rs.newL ha (Gdw (Txt.split z y))
   exact Gk.ok (R:=Rep K) (Gk.aft p af) rs' ⟨a,rfl,la⟩
  ·rw[if_neg hb] at p; exact p.elim
 ·exact p.elim
theorem Gix{e:Expr}(ho:JE X XQ o fo)(ha:JA X XQ [e] f)(hbase:attributeBase o "split" X.env (eval o X.env)=eval o X.env:=by rfl)(hfew:((backTo cpos (starEach [e] X.env)).all (fun x=>!x.1)&&(backToKw cpos (keywordEach [] X.env)).all (fun x=>x.1.isSome)
   && decide ([e].length+([]:List Keyword).length+(if([]:List Keyword).isEmpty then 0 else 1)<30))=true:=by rfl)(hline:(apos.endLine==cpos.line)=true:=by rfl)(hs:starEach [e] X.env=(false,eval e X.env)::starEach [] X.env:=by rfl)(hplain:(backTo cpos (starEach [] X.env)).any (·.1)=false:=by rfl):
  JE X XQ (.Call (.Attribute o "split" apos) [e] [] cpos) (mts Wr fo f):=by
 refine PE.mono (Gh1 PySem.F.plainAttrs_str PySem.F.slot_str_split PySem.F.type_str_split Giv ho ha hbase hfew hline hs hplain) fun σ H Q ⟨mp,ρ,S,G,p⟩=>?_
 refine bindP G p fun mp1 H1 x S1 v a1 G1 r1 p1=>?_
 by_cases hl:isStr x=true
 ·rw[if_pos hl] at p1
  have ty:tyV X.K "str" v H1:=by
   cases x with
   | str z=>cases (show v=.str z from r1); exact rfl
   | _=>cases hl
  exact⟨ty,bindP G1 p1 fun mp2 H2 xs S2 vs a2 G2 r2 p2=>Giw XQ σ ρ mp2 H2 S2 x xs v vs Q G2.rs (Rep.aft a2 _ _ r1) r2 p2⟩
 ·rw[if_neg hl] at p1; exact p1.elim
def istD(x y:D)(S:Sto):Out D:=match x,y with
 | .str i,.str j=>.ok (.bl (!(Builtin.Str.occurrences j i 0 j.length 1).isEmpty)) S
 | _,_=>.bad
theorem Grh:OpD K (fun x y H Q=>∃ i j,x=.str i/\y=.str j/\Q (.bl (!(Builtin.Str.occurrences j i 0 j.length 1).isEmpty)) H) istD:=by
 intro XQ σ ρ mp H S x y v u Q rs rx ry p
 unfold istD at p
 split at p
 ·rename_i i j
  cases (show v=.str i from rx)
  cases (show u=.str j from ry)
  exact⟨i,j,rfl,rfl,Gk.ok (R:=Rep K) p rs rfl⟩
 ·exact p.elim
variable{a b:Expr}{fa fb:Ev D}{pos:Pos}
theorem Gri(ha:JE X XQ a fa)(hb:JE X XQ b fb)(hm:behindInMarks .In b=false:=by rfl):JE X XQ (.Compare a [.In] [b] pos) (o2 istD fa fb):=Gh5 Ggi Grh ha hb hm
theorem Ggz:Ui X (.type "int") (fun xs H Q=>∃ z n,xs=[.str z]/\PySem.intText? z=some n/\z.length<=640/\Q (.int n) H):=by
 intro pins s σ H xs us Q I r h
 obtain⟨z,n,rfl,hn,hl,q⟩:=h
 obtain⟨u,rfl,t,rfl⟩:=Zd r
 exact PySem.W.KIN.call_text hn hl ⟨.int n,H,I.tok _,⟨_,rfl⟩,q⟩
def Zj(xs:List D)(S:Sto):Out D:=match xs with
 | [.str z]=>match PySem.intText? z with
  | some n=>if z.length<=640 then .ok (.int n) S else .bad
  | none=>.bad
 | _=>.bad
theorem Gma:BlD K (fun xs H Q=>∃ z n,xs=[.str z]/\PySem.intText? z=some n/\z.length<=640/\Q (.int n) H) Zj:=by
 intro XQ σ ρ mp H S xs vs Q rs r p
 unfold Zj at p
 split at p
 ·rename_i z
  split at p
  ·rename_i n hn
   by_cases hb:z.length<=640
   ·rw[if_pos hb] at p
    obtain⟨v,rfl,h⟩:=RepL.one r
    cases (show v=.str z from h)
    exact⟨z,n,rfl,hn,hb,Gk.ok (R:=Rep K) p rs rfl⟩
   ·rw[if_neg hb] at p; exact p.elim
  ·exact p.elim
 ·exact p.elim
theorem Gmb{pos:Pos}{e:Expr}(hg:Gl X "int")(hm:X.mg "int"=none)(ha:JA X XQ [e] f)(he:starEach [e] X.env=(false,eval e X.env)::starEach [] X.env:=by rfl):JE X XQ (.Call (.Name "int" p) [e] [] pos) (b1 Zj f):=Gdq Ggz Gma hg hm (by rfl) ha (he:=he)
end
def Its(z:Str):It:=⟨fun i _=>i<z.cps.size,fun i H x H'=>H'=H/\∃ c,z.cps[i]?=some c/\x=.str ⟨#[c]⟩,fun i _=>z.cps.size<=i⟩
theorem Gey(z:Str)(t:Tok)(it:Addr):Turn P w K tg (Its z) [it] it (fun i h=>h.IsStrIter it "str_ascii_iterator" z t i) where
 mem:=by simp
 obj:=fun i h st b hb=>by
  have e:b=it:=by simpa using hb
  subst e
  obtain⟨o,e,c,d⟩:=st
  exact⟨o,e,fun v z=>by rw[d] at z; cases z⟩
 keep:=fun i h h' ⟨o,e,r⟩ k=>⟨o,k it (by simp) o e,r⟩
 item:=by
  intro X hP hw hK hc i pins s σ H E I hf st hg
  subst hP hw hK
  have hg:i<z.cps.size:=hg
  obtain⟨f0,f1,f2,f3,f4,f5⟩:=hf it (by simp)
  refine wpAny_pyNext_ascii_item st (c:=z.cps[i]) (by simp[hg]) fun h' st' sb=>?_
  have I1:Inv X pins σ H { s with heap:=h',toks:=s.toks+1 }:=I.turned (t':=s.toks+1) (fun b o hb e=>(sb.2 b hb).trans e) f0 f1 f3 f4 f5
  obtain⟨o,e,c,d⟩:=id st'
  exact⟨_,rfl,Gdi (s:={ s with heap:=h',toks:=s.toks+1 }) e c d (by decide) ⟨.str ⟨#[z.cps[i]]⟩,H,I1,⟨_,rfl⟩,⟨rfl,z.cps[i],by simp[hg],rfl⟩,st',fun b hb=>(hf b hb).1⟩⟩
 done:=by
  intro X hP hw hK hc i pins s σ H E I hf st hg
  subst hP hw hK
  have hg:z.cps.size<=i:=hg
  obtain⟨f0,f1,f2,f3,f4,f5⟩:=hf it (by simp)
  exact wpAny_pyNext_ascii_end (I.ok.hd hc) st (by simp[hg]) fun h' eb=>⟨rfl,I.turned (t':=s.toks) (fun b o hb e=>eb b o hb e) f0 f1 f3 f4 f5⟩
 self:=fun _ _ _ _ _ st h=>wpAny_pyIter_striter_ascii st h
theorem Gg0(z:Str)(t:Tok)(it:Addr):Turn P w K tg (Its z) [it] it (fun i h=>h.IsStrIter it "str_iterator" z t i) where
 mem:=by simp
 obj:=fun i h st b hb=>by
  have e:b=it:=by simpa using hb
  subst e
  obtain⟨o,e,c,d⟩:=st
  exact⟨o,e,fun v z=>by rw[d] at z; cases z⟩
 keep:=fun i h h' ⟨o,e,r⟩ k=>⟨o,k it (by simp) o e,r⟩
 item:=by
  intro X hP hw hK hc i pins s σ H E I hf st hg
  subst hP hw hK
  have hg:i<z.cps.size:=hg
  obtain⟨f0,f1,f2,f3,f4,f5⟩:=hf it (by simp)
  refine wpAny_pyNext_wide_item st (c:=z.cps[i]) (by simp[hg]) fun h' st' sb=>?_
  have I1:Inv X pins σ H { s with heap:=h',toks:=s.toks+1 }:=I.turned (t':=s.toks+1) (fun b o hb e=>(sb.2 b hb).trans e) f0 f1 f3 f4 f5
  obtain⟨o,e,c,d⟩:=id st'
  exact⟨_,rfl,Gdi (s:={ s with heap:=h',toks:=s.toks+1 }) e c d (by decide) ⟨.str ⟨#[z.cps[i]]⟩,H,I1,⟨_,rfl⟩,⟨rfl,z.cps[i],by simp[hg],rfl⟩,st',fun b hb=>(hf b hb).1⟩⟩
 done:=by
  intro X hP hw hK hc i pins s σ H E I hf st hg
  subst hP hw hK
  have hg:z.cps.size<=i:=hg
  obtain⟨f0,f1,f2,f3,f4,f5⟩:=hf it (by simp)
  exact wpAny_pyNext_wide_end (I.ok.hd hc) st (by simp[hg]) fun h' eb=>⟨rfl,I.turned (t':=s.toks) (fun b o hb e=>eb b o hb e) f0 f1 f3 f4 f5⟩
 self:=fun _ _ _ _ _ st h=>wpAny_pyIter_striter_wide st h
section
variable{X:Cx}{XQ:XW}
def Gwu(tl:TE):TI:=fun σ H R=>tl σ H fun v H1=>∃ z,v=.str z/\R (Its z) H1
theorem Grj{tl:TE}(hl:PE X l tl):PI X tg l (Gwu tl):=by
 intro pins s σ H R I h
 refine thn (hl pins s σ H _ I h) fun v s1 ⟨x,H1,I1,r1,q1⟩=>?_
 obtain⟨z,e,q⟩:=q1
 subst e
 obtain⟨t,rfl⟩:=r1
 have fp:∀ b∈[s1.heap.objs.size],Zx X pins H1 b:=fun b hb=>by
  have e:b=s1.heap.objs.size:=by simpa using hb
  subst e
  exact I1.fpOk (Nat.le_refl _) (I1.hok.fresh (Nat.le_refl _))
 cases ha:z.cps.all (·<128)
 ·exact wpAny_pyIter_wide ha ⟨s1.heap.objs.size,[s1.heap.objs.size],_,_,H1,rfl,I1.kept (t':=s1.toks) fun b o e=>Heap.get?_push_of_some _ e,Gg0 z t _,⟨_,Heap.get?_push_size _ rfl,rfl,rfl⟩,fp,q⟩
 ·exact wpAny_pyIter_ascii ha ⟨s1.heap.objs.size,[s1.heap.objs.size],_,_,H1,rfl,I1.kept (t':=s1.toks) fun b o e=>Heap.get?_push_of_some _ e,Gey z t _,⟨_,Heap.get?_push_size _ rfl,rfl,rfl⟩,fp,q⟩
def Grk(z:Str):Src:=⟨fun k _=>(z.cps[k]?).map fun c=>.str ⟨#[c]⟩,z.cps.size+1⟩
def isrcS(f:Ev D):Ev Src:=fun ρ S=>(f ρ S).bind fun d S1=>match d with
 | .str z=>.ok (Grk z) S1
 | _=>.bad
theorem its_ok{z:Str}:Gep K mp H (Its z) (fun k _=>(z.cps[k]?).map fun c=>.str ⟨#[c]⟩):=by
 intro mp' H' S' af rs k
 show match (z.cps[k]?).map (fun c=>D.str ⟨#[c]⟩) with
  | some d=>(Its z).go k H'/\∀ x H2,(Its z).yld k H' x H2->Aft K mp' H' mp' H2/\RS K mp' H2 S'/\Rep K mp' H2 d x
  | none=>(Its z).stop k H'
 cases e:z.cps[k]? with
 | none=>exact Array.getElem?_eq_none_iff.mp e
 | some c=>
  refine⟨(Array.getElem?_eq_some_iff.mp e).1,fun x H2 ⟨h1,c',h2,h3⟩=>?_⟩
  rw[e] at h2
  cases h2
  subst h1 h3
  exact⟨.refl,rs,rfl⟩
theorem Grl{f:Ev D}(hl:JE X XQ l f):JI X XQ tg l (isrcS f):=by
 refine PI.mono (Grj hl) fun σ H R ⟨mp,ρ,S,G,p⟩=>?_
 refine bindP G p fun mp1 H1 d S1 v a1 G1 r1 p1=>?_
 split at p1
 ·rename_i z
  exact⟨z,r1,Gk.ok (R:=kI X.K) (d:=Grk z) (S:=S1) p1 G1.rs its_ok⟩
 ·exact p1.elim
end
section
variable{X:Cx}{XQ:XW}
def Gg1(x:D)(xs:List D)(S:Sto):Out D:=match x,xs with
 | .lst i,[.lst j]=>match S[i]?,S[j]? with
  | some c,some e=>if(c.fz=false/\e.fz=false)/\c.xs.length+e.xs.length<=1000000 then .ok .non (S.set i ⟨false,c.xs++e.xs⟩) else .bad
  | _,_=>.bad
 | _,_=>.bad
theorem Grm:MeD K Gfo Gg1:=by
 intro XQ σ ρ mp H S x xs v vs Q rs rx r p
 unfold Gg1 at p
 split at p
 ·rename_i i j
  split at p
  ·rename_i c e zc ze
   by_cases hc:(c.fz=false/\e.fz=false)/\c.xs.length+e.xs.length<=1000000
   ·rw[if_pos hc] at p
    obtain⟨w,rfl,hw⟩:=RepL.one r
    obtain⟨a,ys,rfl,ha,sq,q,f⟩:=rs.items rx zc
    obtain⟨b,zs,rfl,hb,sq2,q2,f2⟩:=rs.items hw ze
    have hH:=f hc.1.1
    have hB:=f2 hc.1.2
    obtain⟨af,rs'⟩:=rs.setL ha zc hc.1.1 hH (RepL.append q q2)
    exact⟨a,b,ys,zs,rfl,rfl,hH,hB,by rw[q.len,q2.len]; exact line_le hc.2,p mp _ _ af rs' rfl⟩
   ·rw[if_neg hc] at p; exact p.elim
  ·exact p.elim
 ·exact p.elim
theorem Gg2{e:Expr}(ho:JE X XQ o fo)(ha:JA X XQ [e] f)(hbase:attributeBase o "extend" X.env (eval o X.env)=eval o X.env:=by rfl)(hfew:((backTo cpos (starEach [e] X.env)).all (fun x=>!x.1)&&(backToKw cpos (keywordEach [] X.env)).all (fun x=>x.1.isSome)
   && decide ([e].length+([]:List Keyword).length+(if([]:List Keyword).isEmpty then 0 else 1)<30))=true:=by rfl)(hline:(apos.endLine==cpos.line)=true:=by rfl)(hs:starEach [e] X.env=(false,eval e X.env)::starEach [] X.env:=by rfl):
  JE X XQ (.Call (.Attribute o "extend" apos) [e] [] cpos) (mt Gg1 fo f):=Zt PySem.F.slot_list_extend PySem.F.type_list_extend Ggn Grm ho ha hbase hfew hline hs rfl
theorem Gg3:Ui X (.type "str") (fun xs H Q=>(∃ i:Int,xs=[.int i]/\i.natAbs.log2<1920/\Q (.str (toString i)) H)\/∃ z,xs=[.str z]/\Q (.str z) H):=by
 intro pins s σ H xs us Q I r h
 rcases h with h | ⟨z,rfl,q⟩
 ·exact Xx pins s σ H xs us Q I r h
 ·obtain⟨u,rfl,t,rfl⟩:=Zd r
  exact PySem.P.str_of_str ⟨.str z,H,I,⟨_,rfl⟩,q⟩
def Xn(xs:List D)(S:Sto):Out D:=match xs with
 | [.int i]=>if i.natAbs.log2<1920 then .ok (.str (toString i)) S else .bad
 | [.str z]=>.ok (.str z) S
 | _=>.bad
theorem Gmc:BlD K (fun xs H Q=>(∃ i:Int,xs=[.int i]/\i.natAbs.log2<1920/\Q (.str (toString i)) H)\/∃ z,xs=[.str z]/\Q (.str z) H) Xn:=by
 intro XQ σ ρ mp H S xs vs Q rs r p
 unfold Xn at p
 split at p
 ·rename_i i
  obtain⟨v,rfl,h⟩:=RepL.one r
  cases (show v=.int i from h)
  by_cases hb:i.natAbs.log2<1920
  ·rw[if_pos hb] at p
   exact .inl ⟨i,rfl,hb,Gk.ok (R:=Rep K) p rs rfl⟩
  ·rw[if_neg hb] at p; exact p.elim
 ·rename_i z
  obtain⟨v,rfl,h⟩:=RepL.one r
  cases (show v=.str z from h)
  exact .inr ⟨z,rfl,Gk.ok (R:=Rep K) p rs rfl⟩
 ·exact p.elim
theorem Gmd{e:Expr}(hg:Gl X "str")(hm:X.mg "str"=none)(ha:JA X XQ [e] f)(he:starEach [e] X.env=(false,eval e X.env)::starEach [] X.env:=by rfl):JE X XQ (.Call (.Name "str" p) [e] [] pos) (b1 Xn f):=Gdq Gg3 Gmc hg hm (by rfl) ha (he:=he)
end
structure XB(bm:List Value):Prop where
 v:bm.contains (.type "ValueError")=true
 a:bm.contains (.type "AttributeError")=false
 n:bm.contains (.type "NameError")=false
 b:bm.contains (.type "BaseException")=true
theorem XB.has(x:XB bm)(C:Addr):(Value.ref C::bm).contains (.type "ValueError")=true:=by rw[List.contains_cons,x.v,Bool.or_true]
theorem XB.noA(x:XB bm)(C:Addr):(Value.ref C::bm).contains (.type "AttributeError")=false:=by rw[List.contains_cons,x.a]; rfl
theorem XB.noN(x:XB bm)(C:Addr):(Value.ref C::bm).contains (.type "NameError")=false:=by rw[List.contains_cons,x.n]; rfl
abbrev FV:=PySem.F.excBase_ValueError
theorem Gme(K:PySem.W.Frag):PySem.W.findCls K (.type "ValueError") (.type "type") "__init__"=some (.val (.builtin "ValueError.__init__")):=by
 first
  | rfl
  | kernel_rfl
theorem Gmf{prog:Program}{s:Shared}{Q:Value×List Value->Shared->Prop}(X:K.In s.heap)(h:Q (.builtin "ValueError.__init__",[]) { s with toks:=s.toks+1 }):
  wpAny (model prog w) A (getMethod (.type "ValueError") (Str.ofString "__init__") pl) Q E s:=by
 have st:opaqueClassAbove (.type "ValueError")=pure none:=by unfold opaqueClassAbove; dsimp only; rw[show Manifest.isStub "ValueError"=false by decide +kernel]; rfl
 have ty:PySem.W.Looks (model prog w) s.heap (typeOf (.type "ValueError")) (.type "type"):=PySem.W.Looks.of_pure (by first | rfl | kernel_rfl)
 have ga:PySem.W.findIn K (.type "type") "__getattribute__"=some (some (.builtin "type.__getattribute__")):=PySem.W.type_tga
 unfold getMethod specialOf
 refine wpAny_bind (wpAny_bind (ty.here ((PySem.W.looks_findIn X ga).here ?_)))
 dsimp only
 rw[if_pos PySem.W.canon_tga]
 refine wpAny_bind (wpAny_mono (Q:=fun v=>Q (v,[])) (E:=E) ?_ (fun _ _ z=>wpAny_pure z) fun _ _ z=>z)
 refine PySem.W.cls_open X (PySem.W.Looks.of_pure st) ty ga (PySem.W.looks_hook X (r:=none) (by rfl)) (by show PySem.W.subIn K _ _=_; rfl) (Gme K) ?_
 refine wpAny_pure ?_
 show wpAny _ _ (handedOut _) _ _ _
 rw[PySem.W.handedOut_of (by rfl)]
 exact wpAny_pure h
section
variable{prog:Program}{w:World}{A:Around}{E:Value->Shared->Prop}{h:Heap}{g:Array GenState}{d:Drawn}{t:Nat}{os:OsState}
variable{nm q:Str}{C N:Addr}{bs bm:List Value}{hdct:Bool}{sn:List Str}{sub:List Value}{ab:Bool}{col:Option Bool}{dd:Option Addr}{k0 k1 k2 k3 k5:Option Value}
theorem Gmg{e:Addr}{t0:Addr}{Q:Value->Shared->Prop}(x:XB bm)(hC:h.get? C=some (excClassObj nm q C N bs bm hdct sn sub ab col dd k0 k1 k2 k3 k5 "ValueError.__new__"))(he:h.get? e=some { cls:=.ref C,dict:=dx,data:=.fields #[.ref t0,.none,.none,.none,.bool false,.none] })(hq:∀ h',h'.get? e=some { cls:=.ref C,dict:=dx,data:=.fields #[.ref h.objs.size,.none,.none,.none,.bool false,.none] }->(∀ b o,b≠e->h.get? b=some o->h'.get? b=some o)->h'.get? h.objs.size=some { cls:=.type "tuple",data:=.seq #[v] }->Q .none ⟨h',g,d,t,os⟩):
  wpAny (model prog w) A (call (.builtin "ValueError.__init__") [.ref e,v]) Q E ⟨h,g,d,t,os⟩:=by
 have hB:=x.has C
 refine wpAny_call (codeAny_call_builtin FV.init.plain FV.initEntry ?_)
 have chk:∀ {M:Model} {A:Around} {E:Value->Shared->Prop} {Q:Unit->Shared->Prop},Q () ⟨h,g,d,t,os⟩->wpAny M A (checkBuiltinCall "ValueError.__init__" ⟨[.ref e,v],[]⟩) Q E ⟨h,g,d,t,os⟩:=fun hQ=>by
  have ns:=FV.noStar
  simp only[checkBuiltinCall,FV.initKind,FV.initSplit,FV.initRow]
  repeat (first | with_reducible refine wpAny_loadPart_at he ?_ | with_reducible refine wpAny_loadPart_at hC ?_ | (with_reducible refine wpAny_isSubtype_exc hC ?_; rw[hB]) | wp_step)
  exact hQ
 refine chk ?_
 wp_walk
 have le:e≠h.objs.size:=Nat.ne_of_lt (Heap.lt_size he)
 refine hq _ ?_ (fun b o hb ho=>?_) ?_
 ·rw[Heap.get?_update_self _ (Heap.get?_push_of_some _ he) rfl]
  rfl
 ·rw[Heap.get?_update_other _ _ (Ne.symm hb)]
  exact Heap.get?_push_of_some _ ho
 ·rw[Heap.get?_update_other _ _ le]
  exact Heap.get?_push_size _ rfl
theorem Gdx{M:Model}{Q:Unit->Shared->Prop}(x:XB bm)(hC:h.get? C=some (excClassObj nm q C N bs bm hdct sn sub ab col dd k0 k1 k2 k3 k5 "ValueError.__new__"))(hq:Q () ⟨h,g,d,t,os⟩):
  wpAny M A (checkBuiltinCall "ValueError.__new__" ⟨[.ref C,v],[]⟩) Q E ⟨h,g,d,t,os⟩:=by
 have hB:=x.has C
 have ns:=FV.noStar
 simp only[checkBuiltinCall,FV.newKind,FV.newSplit,FV.newRow]
 repeat (first | refine wpAny_loadPart_at hC ?_ | (refine wpAny_isSubtype_exc hC ?_; rw[hB]) | refine wpAny_staticBase_exc hC ?_ | refine wpAny_madeBy_exc hC ?_ | simp only[bne_self_eq_false,Bool.false_eq_true,if_false] | wp_step)
 exact hq
theorem Gui{R:Result->Shared->Prop}(x:XB bm)(hC:h.get? C=some (excClassObj nm q C N bs bm hdct sn sub ab col dd k0 k1 k2 k3 k5 "ValueError.__new__"))(hq:R (.ok (.ret (.ref (h.objs.size+1)))) ⟨(h.push { cls:=.type "tuple",data:=.seq #[v] }).push { cls:=.ref C,data:=.fields #[.ref h.objs.size,.none,.none,.none,.bool false,.none] },g,d,t,os⟩):
  codeAny (model prog w) A (.builtin "ValueError.__new__" ⟨[.ref C,v],[]⟩) R ⟨h,g,d,t,os⟩:=by
 have he:=FV.ends
 have hB:=x.has C
 have hA:=x.noA C
 have hN:=x.noN C
 refine codeAny_builtinAt FV.entry ?_
 unfold Builtin.«BaseException.__new__»
 refine PySem.wpAt_bind ?_
 show PySem.wpAt _ _ _ (PySem.stack >>= _) _ _ _
 refine PySem.wpAt_bind (PySem.wpAt_stack fun p below=>PySem.wpAt_of_wpAny ?_)
 wp_walk
 refine PySem.wpAt_of_wpAny ?_
 rw[FV.owner]
 repeat (first | with_reducible refine wpAny_madeHere_exc FV.canon hC ?_ | with_reducible refine wpAny_loadPart_at hC ?_ | (with_reducible refine wpAny_isSubtype_exc hC ?_; first | rw[hB] | rw[hA] | rw[hN]) | wp_step)
 show R _ _
 rw[Heap.size_push]
 exact hq
theorem Grn{fI:Addr}{Q:Value->Shared->Prop}(x:XB bm)(X:K.In h)(hC:h.get? C=some (excClassObj nm q C N bs bm hdct sn sub ab col dd k0 k1 k2 k3 k5 "ValueError.__new__"))(hi:PySem.W.findIn K (.ref C) "__init__"=some (some (.ref fI)))(hfI:h.get? fI=some oI)(hfc:oI.cls=.type "function")(hq:∀ h' e,h.objs.size<=e->Heap.MadeExcOf h h' e (.ref C) [v]->wpAny (model prog w) (A.under (.builtin "type.__call__" ⟨[.ref C,v],[]⟩)) (call (.ref fI) [.ref e,v]) (fun r s'=>r=.none/\Q (.ref e) s') E ⟨h',g,d,t,os⟩):
  wpAny (model prog w) A (call (.ref C) [v]) Q E ⟨h,g,d,t,os⟩:=by
 have hB:=x.has C
 have hA:=x.noA C
 have hN:=x.noN C
 have f1:=tc_lookup
 have f2:=tc_bind (.ref C)
 have hT:(⟨h,g,d,t,os⟩:Shared).TypeIs (.ref C) "type":=⟨_,hC,rfl⟩
 refine wpAny_call (codeAny_of_tree ?_)
 show wpAny _ _ (callAny (.ref C) _) _ _ _
 repeat (any_goals (first | assumption | with_reducible refine wpAny_loadPart_at hC ?_ | wp_step))
 refine⟨rfl,?_⟩
 refine codeAny_call_builtin_at (Code.quiet_builtin _ (by decide +kernel)) entry_typeCall (wpAny_check_type_call_sub hC ?_)
 repeat (first | with_reducible refine wpAny_loadPart_at hC ?_ | with_reducible refine wpAny_madeBy_exc hC ?_ | wp_step)
 refine codeAny_call_builtin_code (Code.quiet_builtin _ FV.quiet) (Gdx x hC (Gui x hC ?_))
 show wpAny _ _ _ _ _ _
 have kp:∀ b o,h.get? b=some o->((h.push { cls:=.type "tuple",data:=.seq #[v] }).push { cls:=.ref C,data:=.fields #[.ref h.objs.size,.none,.none,.none,.bool false,.none] }).get? b=some o:=fun b o e=>Heap.get?_push_of_some _ (Heap.get?_push_of_some _ e)
 have he:((h.push { cls:=.type "tuple",data:=.seq #[v] }).push { cls:=.ref C,data:=.fields #[.ref h.objs.size,.none,.none,.none,.bool false,.none] }).get? (h.objs.size+1)=some { cls:=.ref C,data:=.fields #[.ref h.objs.size,.none,.none,.none,.bool false,.none] }:=by heap_get
 have ht:((h.push { cls:=.type "tuple",data:=.seq #[v] }).push { cls:=.ref C,data:=.fields #[.ref h.objs.size,.none,.none,.none,.bool false,.none] }).get? h.objs.size=some { cls:=.type "tuple",data:=.seq #[v] }:=Heap.get?_push_of_some _ (Heap.get?_push_size _ rfl)
 have hC1:=kp _ _ hC
 have hf1:=kp _ _ hfI
 have X1:=X.keeps kp
 have hcC:(Value.ref C::bm).contains (.ref C)=true:=by simp
 have done:=hq _ (h.objs.size+1) (Nat.le_succ _) ⟨kp,Heap.get?_none_of_le (Nat.le_succ _),h.objs.size,he,Heap.get?_none_of_le (Nat.le_refl _),ht⟩
 generalize (h.push { cls:=.type "tuple",data:=.seq #[v] }).push { cls:=.ref C,data:=.fields #[.ref h.objs.size,.none,.none,.none,.bool false,.none] }=h1 at *
 unfold isInstance
 repeat (first | with_reducible refine wpAny_loadPart_at he ?_ | (with_reducible refine wpAny_isSubtype_exc hC1 ?_; rw[hcC]) | wp_step)
 show wpAny _ _ (typeLookup (.ref C) _) _ _ _
 refine(PySem.W.looks_findIn X1 hi).here ?_
 refine wpAny_holding (wpAny_bind ?_)
 unfold bindSpecial
 refine wpAny_bind (wpAny_typeOf (T:="function") ⟨_,hf1,hfc⟩ ?_)
 rw[if_pos (by decide)]
 refine wpAny_pure (wpAny_bind (wpAny_mono done (fun r s' hr=>?_) fun _ _ x=>x))
 obtain⟨rfl,hQ⟩:=hr
 wp_walk
 exact hQ
end
section
variable{M:Model}{A:Around}{E:Value->Shared->Prop}{env:PySem.Env}
variable{nm q:Str}{C N:Addr}{bs bm:List Value}{hdct:Bool}{sn:List Str}{sub:List Value}{ab:Bool}{col:Option Bool}{dd:Option Addr}{k0 k1 k2 k3 k5:Option Value}{newId:String}
def Ws(h:Heap)(e C:Addr)(dx:Option Addr):Prop:=∃ t:Addr,h.get? e=some { cls:=.ref C,dict:=dx,data:=.fields #[.ref t,.none,.none,.none,.bool false,.none] }
theorem Zk{s:Shared}{x:Sem Value}{Q:Flow->Shared->Prop}(hb:XB bm)(hh:A.handled=none)
  (h:wpAny M A x (fun v s₁=>∃ e dx,v=.ref e/\s₁.heap.get? C=some (excClassObj nm q C N bs bm hdct sn sub ab col dd k0 k1 k2 k3 k5 newId)/\Ws s₁.heap e C dx/\E (.ref e) s₁) E s):
  wpAny M A (raiseStmt env (some x) none) Q E s:=by
 have hB:(Value.ref C::bm).contains (.type "BaseException")=true:=by rw[List.contains_cons,hb.b,Bool.or_true]
 unfold raiseStmt
 refine wpAny_bind (wpAny_mono h (fun v s₁ h₁=>?_) fun _ _ x=>x)
 obtain⟨e,dx,rfl,hC,⟨t,he⟩,hE⟩:=h₁
 obtain⟨hp,g,d,tk,os⟩:=s₁
 repeat (first | with_reducible refine wpAny_loadPart_at he ?_ | with_reducible refine wpAny_loadPart_at hC ?_ | (with_reducible refine wpAny_isSubtype_exc hC ?_; rw[hB]) | wp_step)
 exact wpAny_raiseNew_none hh hE
theorem Gmh{s:Shared}{e1:Expr}{Q:Flow->Shared->Prop}(hb:XB bm)(hh:A.handled=none)(h:wpAny M A (eval (.Name x np) env) (fun f s₁=>f=.ref C/\wpAny M A (spliced (backTo cpos (starEach (e1::es) env))) (fun vs s₂=>
   s₂.heap.get? C=some (excClassObj nm q C N bs bm hdct sn sub ab col dd k0 k1 k2 k3 k5 newId)/\wpAny M A (call (.ref C) vs) (fun v s₃=>∃ e dx,v=.ref e∧
    s₃.heap.get? C=some (excClassObj nm q C N bs bm hdct sn sub ab col dd k0 k1 k2 k3 k5 newId)/\Ws s₃.heap e C dx/\E (.ref e) s₃) E s₂) E s₁) E s)(he:starEach (e1::es) env=(false,eval e1 env)::starEach es env:=by rfl)(hpl:(backTo cpos (starEach es env)).any (·.1)=false:=by rfl):
  wpAny M A (exec (.Raise (some (.Call (.Name x np) (e1::es) [] cpos)) none pos) env) Q E s:=by
 have plain:(backTo cpos (starEach (e1::es) env)).any (·.1)=false:=by
  rw[he]
  show(false||(backTo cpos (starEach es env)).any (·.1))=false
  rw[hpl]; rfl
 rw[arm_exec_Raise]
 have key:wpAny M A (eval (.Call (.Name x np) (e1::es) [] cpos) env) (fun v s₁=>∃ e dx,v=.ref e/\s₁.heap.get? C=some (excClassObj nm q C N bs bm hdct sn sub ab col dd k0 k1 k2 k3 k5 newId)/\Ws s₁.heap e C dx/\E (.ref e) s₁) E s:=by
  refine wpAny_Call_ofName (wpAny_mono h (fun f s₁ h₁=>?_) fun _ _ x=>x)
  obtain⟨rfl,h₁⟩:=h₁
  unfold callWith
  have ev:wpAny M A (evalArgs (.ref C) true (backTo cpos (starEach (e1::es) env)) []) (fun a s₂=>a.kw=[]/\s₂.heap.get? C=some (excClassObj nm q C N bs bm hdct sn sub ab col dd k0 k1 k2 k3 k5 newId)/\wpAny M A (call (.ref C) a.pos) (fun v s₃=>∃ e dx,v=.ref e∧
    s₃.heap.get? C=some (excClassObj nm q C N bs bm hdct sn sub ab col dd k0 k1 k2 k3 k5 newId)/\Ws s₃.heap e C dx/\E (.ref e) s₃) E s₂) E s₁:=by
   rw[he] at h₁ ⊢
   exact PySem.Calls.evalArgs_plain (wpAny_mono h₁ (fun vs s₂ z=>⟨rfl,z⟩) fun _ _ x=>x)
  refine wpAny_bind (wpAny_holding (wpAny_mono ev (fun a s₂ h₂=>wpAny_bind (wpAny_standAt ?_)) fun _ _ x=>x))
  obtain⟨ap,ak⟩:=a
  obtain⟨hk,hC,h₂⟩:=h₂
  obtain rfl:ak=[]:=hk
  obtain⟨hp,g,d,tk,os⟩:=s₂
  simp only[plain]
  refine wpAny_bind (wpAny_keeperOf_exc hC ?_)
  exact wpAny_bind (wpAny_mono h₂ (fun r s₃ hr=>wpAny_bind (wpAny_holding (wpAny_point (wpAny_pure hr)))) fun _ _ x=>x)
 first
  | exact wpAny_bind (wpAny_standAt (Zk hb hh (wpAny_bind (wpAny_mono key (fun v s₃ h₃=>wpAny_bind (wpAny_standAt (wpAny_pure h₃))) fun _ _ x=>x))))
  | (simp only[evalOpt,Option.map]; exact wpAny_bind (wpAny_standAt (Zk hb hh (wpAny_bind (wpAny_mono key (fun v s₃ h₃=>wpAny_bind (wpAny_standAt (wpAny_pure h₃))) fun _ _ x=>x)))))
end
def FX(e C:Addr)(dx:Option Addr):HO:=.ext fun h=>Ws h e C dx
theorem Giy{e:Addr}(f:Ws h e C dx):Jm P w H h e (FX e C dx):=
 ⟨f,(let ⟨_,q⟩:=f; ⟨_,q⟩),fun _ _ ⟨t,q⟩ k=>⟨t,k _ q⟩⟩
theorem Giz{a:Addr}{o:HO}(h:H a=some o):upd H a o=H:=by
 funext b
 by_cases c:b=a
 ·subst c; rw[Hu,h]
 ·rw[Gr c]
structure KX(K:PySem.W.Frag)(C:Addr):Prop where
 ex:∃ nm q N bs bm hdct sn sub ab col dd k0 k1 k2 k3 k5,K.lookup C=some (excClassObj nm q C N bs bm hdct sn sub ab col dd k0 k1 k2 k3 k5 "ValueError.__new__")/\XB bm
section
variable{X:Cx}
def tVI(K:PySem.W.Frag)(t:TA):TE:=fun σ H Q=>t σ H fun vs H1=>∃ e v C dx,vs=[.ref e,v]/\H1 e=some (FX e C dx)/\KX K C/\Q .non H1
theorem Gi0{t:TA}(hg:Gl X "ValueError")(hm:X.mg "ValueError"=none)(ha:PA X [a,b] t)(ht:eval (.Call (.Attribute (.Name "ValueError" p) "__init__" apos) [a,b] [] pos) X.env=(do
   let ov <- eval (.Name "ValueError" p) X.env
   standAt apos.atName
   let (f,first) <- holding [ov] (getMethod ov "__init__" pl)
   callWith pos f first (backTo pos (starEach [a,b] X.env)) (backToKw pos (keywordEach [] X.env))))(hs:starEach [a,b] X.env=(false,eval a X.env)::starEach [b] X.env:=by rfl)(hpl:(backTo pos (starEach [b] X.env)).any (·.1)=false:=by rfl):
  PE X (.Call (.Attribute (.Name "ValueError" p) "__init__" apos) [a,b] [] pos) (tVI X.K t):=by
 intro pins s σ H Q I h
 refine PySem.W.methodCall_KW (pl:=pl) (Wj I hg hm (by rfl) ?_ (by decide) (by decide)) ht
 refine Gmf I.kIn ?_
 have hA:=ha pos pins { s with toks:=s.toks+1 } σ H _ (I.tok _) h
 show wpAny _ _ (callWith pos (.builtin "ValueError.__init__") [] (backTo pos (starEach [a,b] X.env)) _) _ _ _
 rw[hs] at hA ⊢
 refine Calls.callWith_builtin (by show(false||(backTo pos (starEach [b] X.env)).any (·.1))=false; rw[hpl]<;>rfl) (Calls.evalArgs_plain ?_)
 refine thn hA fun us s2 ⟨vs,H2,I2,r2,e,v,C,dx,ev,hH,kx,q⟩=>?_
 subst ev
 cases r2 with
 | cons ra rb=>
  cases rb with
  | cons rv rn=>
   cases rn
   cases ra
   obtain⟨nm,qn,N,bs,bm,hdct,sn,sub,ab,col,dd,k0,k1,k2,k3,k5,lk,xb⟩:=kx.ex
   have hC:=I2.kIn _ _ lk
   obtain⟨⟨t0,he⟩,_,_⟩:=(show Jm X.prog X.w H2 s2.heap e (FX e C dx) from I2.hok e _ hH)
   obtain⟨hp,g,d,tk,os⟩:=s2
   refine Gmg xb hC he fun h' e1 k1' _=>?_
   have I3:=I2.write (h':=h') (x:=e) (e:=e) (o:=FX e C dx) (t':=tk) (by rw[hH]; exact trivial) (.inl rfl) (fun b u hb hu=>k1' b u hb hu) ⟨_,e1⟩ (Giy ⟨_,e1⟩)
   rw[Giz hH] at I3
   exact⟨.non,H2,I3,rfl,q⟩
end
def spI(K:PySem.W.Frag):Sp:=fun vs H Q _=>∃ e v C dx,vs=[.ref e,v]/\H e=some (FX e C dx)/\KX K C/\Q .non H
def Ys(h:Heap)(e C:Addr)(dx:Option Addr):Prop:=∃ t c k u:Value,h.get? e=some { cls:=.ref C,dict:=dx,data:=.fields #[t,.none,c,k,u,.none] }/\(dx=none->c=.none)
theorem Ws.g{e:Addr}(f:Ws h e C dx):Ys h e C dx:=by
 obtain⟨t,q⟩:=f
 exact⟨_,_,_,_,q,fun _=>rfl⟩
def Gro(fl:Value)(h:Heap)(a T C:Addr)(dx:Option Addr):Prop:=∃ oe vs oT ts a0,h.get? a=some oe/\(oe.cls=.ref C/\oe.dict=dx/\vs[0]?=some a0/\(dx=none->vs[2]?=some .none))/\oe.data=.fields vs/\vs[1]?=some (.ref T)/\T≠a/\h.get? T=some oT/\oT.data=.fields ts/\ts[3]?=some fl
abbrev Fly:=Gro .none
section
variable{M:Model}{A:Around}{E:Value->Shared->Prop}{s:Shared}{Q:Unit->Shared->Prop}{env:PySem.Env}{outer:List PySem.Env}{L:Addr}{base:Heap}
theorem Gdy{l:List PySem.Env}{a:Addr}{o:Obj}(hl:h.FunFrames base l)(e:h.get? a=some o)(d:o.data=.fields vs):a∉frs l:=fun hm=>by
 obtain⟨_,o',e',nf⟩:=hl.mem hm
 rw[e] at e'
 cases e'
 exact nf vs d
structure Left(fs:List Addr)(no:List Addr)(h h':Heap):Prop where
 keep:∀ b o,b∉fs->b∉no->h.get? b=some o->h'.get? b=some o
 slot:∀ b o,b∈fs->h.get? b=some o->∃ sl,h'.get? b=some { o with slots:=sl }
theorem Gmi(f:Array Value->Array Value)(o:Obj):(Obj.mapFields f o).dict=o.dict:=by
 obtain⟨c,d,dt,sl⟩:=o
 cases dt<;>rfl
theorem Guj{e:Addr}{head a0:Value}{hn:Bool}(hfr:A.frames=some (env::outer))(hl:s.heap.FunFrames base (env::outer))(hf:env.frame=some L)(he:s.heap.get? e=some oe)(hc:oe.cls=.ref C/\oe.dict=dx)(hd:oe.data=.fields vs)(hz:1<vs.size)(h0:vs[0]?=some a0/\(dx=none->vs[2]?=some .none))(hq:∀ h' T,Gro (rawInt L) h' e T C dx->s.heap.get? T=none->Left (frs (env::outer)) [e] s.heap h'->Q () { s with heap:=h' }):
  wpAny M A (frameOf env >>= fun a=>entryPlaceOf L hn >>= fun pl=>EntryCells.newEntry head a .none (rawInt L) .none pl >>= fun b=>setField (.ref e) 1 b) Q E s:=by
 have nf:=Gdy hl he hd
 refine wpAny_bind (wpAny_frameOf_fun hfr hl hf fun h1 so=>wpAny_bind (wpAny_entryPlaceOf fun pl ip=>?_))
 obtain⟨sz,so1,so2⟩:=so
 have g1:h1.get? e=some oe:=(so1 e nf).trans he
 unfold EntryCells.newEntry newFields
 refine wpAny_bind (wpAny_newObj_type ?_ (ip.sizeOk5 _ _ _ _ _))
 generalize hT:({ cls:=.type "traceback",dict:=none,data:=.fields ([head,.ref L,.none,rawInt L,.none]++(if pl.isEmpty then List.replicate 6 Value.none else pl)).toArray }:Obj)=oT
 have g2:=Heap.get?_push_of_some (h:=h1) oT g1
 have nT:h1.objs.size≠e:=Nat.ne_of_gt (Heap.lt_size g1)
 refine wpAny_setField g2 hd hz ?_
 have d3:=Obj.data_mapFields hd (·.setIfInBounds 1 (Value.ref h1.objs.size))
 have g3:=Heap.get?_update_self (Obj.mapFields (·.setIfInBounds 1 (Value.ref h1.objs.size))) g2 (Obj.isFreed_of_fields d3)
 have t3:((h1.push oT).update e (Obj.mapFields (·.setIfInBounds 1 (Value.ref h1.objs.size)))).get? h1.objs.size=some oT:=(Heap.get?_update_other _ _ (Ne.symm nT)).trans (Heap.get?_push_size h1 (by rw[<- hT]; rfl))
 have kp:∀ b o,b≠e->h1.get? b=some o->((h1.push oT).update e (Obj.mapFields (·.setIfInBounds 1 (Value.ref h1.objs.size)))).get? b=some o:=fun b o hb q=>by
  rw[Heap.get?_update_other _ _ (Ne.symm hb)]
  exact Heap.get?_push_of_some _ q
 refine hq _ h1.objs.size ⟨_,_,oT,_,a0,g3,⟨(Obj.cls_mapFields _ _).trans hc.1,?_,?_⟩,d3,by simp[hz],nT,t3,by rw[<- hT],?_⟩ ?_ ⟨fun b o hb hn q=>kp b o (by simpa using hn) ((so1 b hb).trans q),fun b o hb q=>?_⟩
 ·rw[<- hc.2]
  exact Gmi _ _
 ·rw[Array.getElem?_setIfInBounds_ne (by decide),Array.getElem?_setIfInBounds_ne (by decide)]; exact h0
 ·first | (simp; done) | (rcases ip with rfl | ⟨_,_,_,_,_,_,_,rfl⟩<;>simp)
 ·exact Heap.get?_none_of_le (by rw[sz]; exact Nat.le_refl _)
 ·obtain⟨sl,q'⟩:=so2 b o q
  exact⟨sl,kp b _ (fun z=>nf (by rw[<- z]; exact hb)) q'⟩
theorem fltD{e T:Addr}{fl:Value}(f:Gro fl s.heap e T C dx)(hq:∀ h',Fly h' e T C dx->(∀ b o,b≠T->s.heap.get? b=some o->h'.get? b=some o)->Q () { s with heap:=h' }):wpAny M A (setFlight (.ref e) none) Q E s:=by
 obtain⟨oe,vs,oT,ts,a0,e1,e2,e3,e4,e5,e6,e7,e8⟩:=f
 have h3:3<ts.size:=(Array.getElem?_eq_some_iff.mp e8).1
 refine wpAny_setFlight_none e1 e3 e4 e6 e7 h3 (hq _ ⟨oe,vs,_,_,a0,by rw[Heap.get?_update_other _ _ e5]; exact e1,e2,e3,e4,e5,Heap.get?_update_self _ e6 (Obj.isFreed_of_fields (Obj.data_mapFields e7 _)),Obj.data_mapFields e7 _,by simp[h3]⟩ fun b o hb q=>by rw[Heap.get?_update_other _ _ (Ne.symm hb)]; exact q)
theorem Goa{e:Addr}(hfr:A.frames=some (env::outer))(hl:s.heap.FunFrames base (env::outer))(hf:env.frame=some L)(fx:Ys s.heap e C dx)(hq:∀ h' T,Fly h' e T C dx->s.heap.get? T=none->Left (frs (env::outer)) [e] s.heap h'->Q () { s with heap:=h' }):wpAny M A (noteFrame (.ref e) env) (fun _ s₂=>wpAny M A (setFlight (.ref e) none) Q E s₂) E s:=by
 obtain⟨t,c,k,u,he,hc⟩:=fx
 unfold noteFrame
 simp only[hf]
 refine wpAny_bind (wpAny_field he rfl rfl ?_)
 show wpAny M A (if(Value.none != Value.none)=true then _ else _) _ _ _
 rw[if_neg (show¬ ((Value.none != Value.none)=true) from by decide)]
 refine Guj hfr hl hf he ⟨rfl,rfl⟩ rfl (by simp) ⟨rfl,fun z=>by rw[hc z]; rfl⟩ fun h1 T f1 hT lf=>fltD (s:={ s with heap:=h1 }) f1 fun h' f2 kp=>hq h' T f2 hT ⟨fun b o hb hn q=>kp b o (fun z=>by rw[z,hT] at q; cases q) (lf.keep b o hb hn q),fun b o hb q=>?_⟩
 obtain⟨sl,q'⟩:=lf.slot b o hb q
 exact⟨sl,kp b _ (fun z=>by rw[z,hT] at q; cases q) q'⟩
theorem Gob{a T:Addr}(hfr:A.frames=some (env::outer))(hl:s.heap.FunFrames base (env::outer))(hf:env.frame=some L)(fl:Fly s.heap a T C dx)(hq:∀ h' T',Fly h' a T' C dx->(s.heap.get? T'=none\/T'=T)->Left (frs (env::outer)) [a,T] s.heap h'->Q () { s with heap:=h' }):wpAny M A (noteFrame (.ref a) env) (fun _ s₂=>wpAny M A (setFlight (.ref a) none) Q E s₂) E s:=by
 obtain⟨oe,vs,oT,ts,a0,e1,⟨c1,c2,c3⟩,e3,e4,e5,e6,e7,e8⟩:=fl
 have h3:3<ts.size:=(Array.getElem?_eq_some_iff.mp e8).1
 have nfT:=Gdy hl e6 e7
 unfold noteFrame
 simp only[hf]
 refine wpAny_bind (wpAny_field e1 e3 e4 ?_)
 rw[if_pos (show(Value.ref T != Value.none)=true from by simp)]
 refine wpAny_bind (wpAny_field e6 e7 e8 ?_)
 rw[if_neg (show¬ ((Value.none==rawInt L)=true) from by simp[rawInt])]
 refine wpAny_bind (wpAny_setField e6 e7 h3 ?_)
 have ot:∀ b,b≠T->(s.heap.update T (Obj.mapFields (·.setIfInBounds 3 Value.none))).get? b=s.heap.get? b:=fun b hb=>Heap.get?_update_other _ _ (Ne.symm hb)
 have tt:=Heap.get?_update_self (Obj.mapFields (·.setIfInBounds 3 Value.none)) e6 (Obj.isFreed_of_fields (Obj.data_mapFields e7 _))
 have hl2:(s.heap.update T (Obj.mapFields (·.setIfInBounds 3 Value.none))).FunFrames base (env::outer):=hl.of_keeps fun b o q nf=>⟨o,(ot b fun z=>by rw[z,e6] at q; cases q; exact nf ts e7).trans q,rfl⟩
 refine Guj (s:={ s with heap:=s.heap.update T (Obj.mapFields (·.setIfInBounds 3 Value.none)) }) hfr hl2 hf ((ot a (Ne.symm e5)).trans e1) ⟨c1,c2⟩ e3 (Array.getElem?_eq_some_iff.mp e4).1 c3 fun h1 T1 f1 hT lf=>fltD (s:={ s with heap:=h1 }) f1 fun h' f2 kp=>hq h' T1 f2 (.inl ?_) ⟨fun b o hb hn q=>?_,fun b o hb q=>?_⟩
 ·cases z:s.heap.get? T1 with
  | none=>rfl
  | some o=>
   by_cases c:T1=T
   ·rw[c] at hT
    rw[show(s.heap.update T (Obj.mapFields (·.setIfInBounds 3 Value.none))).get? T=_ from tt] at hT
    cases hT
   ·rw[show(s.heap.update T (Obj.mapFields (·.setIfInBounds 3 Value.none))).get? T1=_ from ot T1 c,z] at hT
    cases hT
 ·simp only[List.mem_cons,List.not_mem_nil,or_false,not_or] at hn
  have q1:(s.heap.update T (Obj.mapFields (·.setIfInBounds 3 Value.none))).get? b=some o:=(ot b hn.2).trans q
  exact kp b o (fun z=>by rw[z] at q1; rw[show _=none from hT] at q1; cases q1) (lf.keep b o hb (by simpa using hn.1) q1)
 ·have nb:b≠T:=fun z=>nfT (by rw[<- z]; exact hb)
  have q1:(s.heap.update T (Obj.mapFields (·.setIfInBounds 3 Value.none))).get? b=some o:=(ot b nb).trans q
  obtain⟨sl,q'⟩:=lf.slot b o hb q1
  exact⟨sl,kp b _ (fun z=>by rw[z] at q1; rw[show _=none from hT] at q1; cases q1) q'⟩
theorem Grp{e:Addr}(hfr:A.frames=some (env::outer))(hl:s.heap.FunFrames base (env::outer))(hf:env.frame=some L)(fx:Ys s.heap e C dx)(hq:∀ h' T,Fly h' e T C dx->s.heap.get? T=none->Left (frs (env::outer)) [e] s.heap h'->Q () { s with heap:=h' }):wpAny M A (leaving env (.ref e)) Q E s:=by
 unfold leaving
 exact wpAny_bind (Goa hfr hl hf fx hq)
theorem Grq{a T:Addr}(hfr:A.frames=some (env::outer))(hl:s.heap.FunFrames base (env::outer))(hf:env.frame=some L)(fl:Fly s.heap a T C dx)(hq:∀ h' T',Fly h' a T' C dx->(s.heap.get? T'=none\/T'=T)->Left (frs (env::outer)) [a,T] s.heap h'->Q () { s with heap:=h' }):wpAny M A (leaving env (.ref a)) Q E s:=by
 unfold leaving
 exact wpAny_bind (Gob hfr hl hf fl hq)
end
def del(H:Hp)(a:Addr):Hp:=fun b=>if b=a then none else H b
theorem Ky{a:Addr}:del H a a=none:=if_pos rfl
theorem Kr{a b:Addr}(h:b≠a):del H a b=H b:=if_neg h
theorem Gg4{a:Addr}{o:HO}(x:Jm P w H h a o):∃ u,h.get? a=some u:=by
 cases o with
 | lst xs=>obtain⟨_,_,_,_,e⟩:=x; exact⟨_,e⟩
 | tup xs=>obtain⟨_,_,_,ob,e,_⟩:=x; exact⟨_,e⟩
 | dK kvs=>obtain⟨_,_,_,_,o,_,_,e,_⟩:=x; exact⟨_,e⟩
 | dT kvs=>obtain⟨_,_,_,_,o,_,_,e,_⟩:=x; exact⟨_,e⟩
 | set S n=>obtain⟨o,_,_,_,e,_⟩:=x; exact⟨_,e⟩
 | ins C dx fs=>obtain⟨_,_,_,e,_⟩:=x; exact⟨_,e⟩
 | own y=>obtain⟨_,e⟩:=x; exact⟨_,e⟩
 | xd fs=>obtain⟨_,⟨_,_,_,e,_⟩,_⟩:=x; exact⟨_,e⟩
 | rng lo hi=>obtain⟨_,_,_,e⟩:=x; exact⟨_,e⟩
 | frz ob u=>obtain⟨e,_⟩:=x; exact⟨_,e⟩
 | tbl ps=>exact⟨_,(show h.get? a=some _ from x)⟩
 | met f y=>exact⟨_,(show h.get? a=some _ from x)⟩
 | ext φ=>obtain⟨_,⟨_,e⟩,_⟩:=x; exact⟨_,e⟩
theorem Yd{a:Addr}(k:HOk P w H h)(e:h.get? a=none):H a=none:=by
 cases z:H a with
 | none=>rfl
 | some o=>
  obtain⟨u,q⟩:=Gg4 (k a o z)
  rw[e] at q
  cases q
def CXe(P:Program)(w:World):CXT:=fun outer H s E e s'=>∃ a T C dx H',e=.ref a/\s'.os=s.os/\AllBare s'.gens/\Un (frs outer) [] H H' s.heap s'.heap/\HOk P w H' s'.heap/\Fly s'.heap a T C dx/\(H' a=none/\H' T=none)/\(s.heap.get? a=none/\s.heap.get? T=none)/\E (.ref C) dx H'
theorem hok_left{h':Heap}{fs no:List Addr}(k:HOk P w H h)(l:Left fs no h h')(hf:∀ b∈fs,H b=none)(hn:∀ b∈no,H b=none):HOk P w H h':=fun b o e=>by
 refine(k b o e).stay (fun c u hc q=>l.keep c u (fun z=>?_) (fun z=>?_) q) (fun _ q=>q) fun _ _ q=>q
 ·have:=hf c z
  rcases hc with rfl | hc
  ·rw[e] at this; cases this
  ·rw[hc] at this; cases this
 ·have:=hn c z
  rcases hc with rfl | hc
  ·rw[e] at this; cases this
  ·rw[hc] at this; cases this
theorem Gfs{a:Addr}(k:HOk P w H h)(ha:H a=some (.ext φ)):HOk P w (del H a) h:=fun b o e=>by
 have nb:b≠a:=fun z=>by rw[z,Ky] at e; cases e
 rw[Kr nb] at e
 refine(k b o e).stay (fun c u _ q=>q) (fun c q=>?_) fun c xs q=>?_
 ·rw[Kr (fun z=>by rw[z,ha] at q; cases q)]; exact q
 ·rw[Kr (fun z=>by rw[z,ha] at q; cases q)]; exact q
theorem Gft{fs no:List Addr}{L:Addr}{H':Hp}{h1 h2:Heap}(u:Un fs [] H H1 h h1)(l:Left (L::fs) no h1 h2)(hL:h.get? L=none)(hno:∀ b∈no,h.get? b=none)(fr:∀ b,H1 b=none->H' b=none)(tp:∀ b xs,H1 b=some (.tup xs)->H' b=some (.tup xs))(fz:∀ b o v,H1 b=some (.frz o v)->H' b=some (.frz o v))(tb:∀ b ps,H1 b=some (.tbl ps)->H' b=some (.tbl ps)):Un fs [] H H' h h2:=by
 have nL:∀ b o,h.get? b=some o->b≠L:=fun b o e z=>by rw[z,hL] at e; cases e
 have nN:∀ b o,h.get? b=some o->b∉no:=fun b o e z=>by rw[hno b z] at e; cases e
 refine⟨fun b o e n hb hx=>?_,fun b o e n hb hx=>?_,fun b o e n hx=>fr b (u.free b o e n hx),fun b o e hx=>?_,fun b xs e=>tp b xs (u.tups b xs e),fun b o v e=>fz b o v (u.frzs b o v e),fun b ps e=>?_⟩
 ·refine l.keep b o (fun z=>?_) (nN b o e) (u.keep b o e n hb hx)
  rcases List.mem_cons.mp z with z | z
  ·exact nL b o e z
  ·exact hb z
 ·obtain⟨sl,q⟩:=u.slot b o e n hb hx
  obtain⟨sl',q'⟩:=l.slot b _ (List.mem_cons_of_mem _ hb) q
  exact⟨sl',q'⟩
 ·obtain⟨o',q⟩:=u.there b o e hx
  by_cases c:b∈L::fs
  ·obtain⟨sl,q'⟩:=l.slot b o' c q
   exact⟨_,q'⟩
  ·exact⟨o',l.keep b o' c (nN b o e) q⟩
 ·obtain⟨more,q⟩:=u.tbls b ps e
  exact⟨more,tb b _ q⟩
section
variable{P:Program}{w:World}{K:PySem.W.Frag}{mg:Str->Option Value}{base:Heap}{N:List Str}{qual:Str}{scope:Scope}{f:Addr}{cd:Value}{A:Around}{outer:List PySem.Env}{s:Shared}{H:Hp}{E:XK}
theorem Wt{fs:List Addr}{H0:Hp}{h0 h1:Heap}{b:Addr}(u:Un fs [] H0 H1 h0 h1)(e:h1.get? b=none):h0.get? b=none:=by
 cases z:h0.get? b with
 | none=>rfl
 | some o=>
  obtain⟨o',q⟩:=u.there b o z (by simp)
  rw[e] at q
  cases q
theorem Gi1{s1:Shared}{e:Addr}(I:Inv (Ko (CXe P w) P w K mg base N qual scope f cd A outer s H E) pins σ H1 s1)(hH:H1 e=some (.ext φ))(fr:Ys s1.heap e C dx)(le:s.heap.get? e=none)(hE:E (.ref C) dx (del H1 e)):
  (Ko (CXe P w) P w K mg base N qual scope f cd A outer s H E).xe (.ref e) s1:=by
 show wpAny (model P w) _ (leaving (envOfC qual scope s.heap.objs.size f cd) (.ref e)) _ _ s1
 have hL:s.heap.get? s.heap.objs.size=none:=Heap.get?_none_of_le (Nat.le_refl _)
 refine Grp (base:=base) I.ok.frames I.stack rfl fr fun h' T fl hT lf=>?_
 have hT1:H1 T=none:=Yd I.hok hT
 have dn:∀ b,H1 b=none->del H1 e b=none:=fun b q=>by
  by_cases c:b=e
  ·rw[c,Ky]
  ·rw[Kr c]; exact q
 have ne_of_kind:∀ {b:Addr} {o:HO},H1 b=some o->o≠.ext φ->b≠e:=fun q n z=>n (by rw[z,hH] at q; exact(Option.some.inj q).symm)
 refine⟨e,T,C,dx,del H1 e,rfl,I.os,I.bare,Gft (L:=s.heap.objs.size) I.base lf hL (fun b hb=>?_) dn (fun b xs q=>?_) (fun b o v q=>?_) (fun b ps q=>?_),hok_left (Gfs I.hok hH) lf (fun b hb=>dn b (I.stkFree b hb)) (fun b hb=>?_),fl,⟨Ky,dn T hT1⟩,⟨le,Wt I.base hT⟩,hE⟩
 ·have:b=e:=by simpa using hb
  rw[this]; exact le
 ·rw[Kr (ne_of_kind q (by intro z; cases z))]; exact q
 ·rw[Kr (ne_of_kind q (by intro z; cases z))]; exact q
 ·rw[Kr (ne_of_kind q (by intro z; cases z))]; exact q
 ·have:b=e:=by simpa using hb
  rw[this]; exact Ky
theorem xe_on{s3:Shared}{e:Value}{E2:XK}(I:Inv (Ko (CXe P w) P w K mg base N qual scope f cd A outer s H E) pins σ H2 s2)(hx:CXe P w (Ko (CXe P w) P w K mg base N qual scope f cd A outer s H E).stack H2 s2 E2 e s3)(hE:∀ C dx H',E2 (.ref C) dx H'->E (.ref C) dx H'):
  (Ko (CXe P w) P w K mg base N qual scope f cd A outer s H E).xe e s3:=by
 obtain⟨a,T,C,dx,H',rfl,os,bare,un,hok,fly,⟨na,nT⟩,⟨oa,oT⟩,hE2⟩:=hx
 obtain⟨h3,g3,d3,t3,o3⟩:=s3
 obtain rfl:o3=s2.os:=os
 have I3:Inv (Ko (CXe P w) P w K mg base N qual scope f cd A outer s H E) pins σ H' { s2 with heap:=h3,gens:=g3,drawn:=d3,toks:=t3 }:=I.call (h':=h3) (g':=g3) (d':=d3) (t':=t3) (ch:=[]) un hok bare (fun b z=>absurd z (by simp))
 show wpAny (model P w) _ (leaving (envOfC qual scope s.heap.objs.size f cd) (.ref a)) _ _ _
 have hL:s.heap.get? s.heap.objs.size=none:=Heap.get?_none_of_le (Nat.le_refl _)
 have a0:s.heap.get? a=none:=Wt I.base oa
 have T0:s.heap.get? T=none:=Wt I.base oT
 refine Grq (base:=base) I3.ok.frames I3.stack rfl fly fun h' T' fl hT lf=>?_
 have nT':H' T'=none:=by
  rcases hT with hT | rfl
  ·exact Yd hok hT
  ·exact nT
 have oT':s.heap.get? T'=none:=by
  rcases hT with hT | rfl
  ·exact Wt I3.base hT
  ·exact T0
 refine⟨a,T',C,dx,H',rfl,I3.os,bare,Gft (L:=s.heap.objs.size) I3.base lf hL (fun b hb=>?_) (fun b q=>q) (fun b xs q=>q) (fun b o v q=>q) (fun b ps q=>q),hok_left hok lf (fun b hb=>I3.stkFree b hb) (fun b hb=>?_),fl,⟨na,nT'⟩,⟨a0,oT'⟩,hE _ _ _ hE2⟩
 ·simp only[List.mem_cons,List.not_mem_nil,or_false] at hb
  rcases hb with rfl | rfl
  ·exact a0
  ·exact T0
 ·simp only[List.mem_cons,List.not_mem_nil,or_false] at hb
  rcases hb with rfl | rfl
  ·exact na
  ·exact nT
end
def XF(H:Hp)(dx:Option Addr)(fl:Option Int):Prop:=(∀ i,fl=some i->∃ d,dx=some d/\H d=some (XA d i))/\(fl=none->dx=none)
def WX(K:PySem.W.Frag)(XQ:XW)(σ:L2.St)(C:Addr)(dx:Option Addr)(H:Hp):Prop:=∃ x mp ρ S,XF H dx x.fld/\CN K x.cls C/\XQ x mp H σ ρ S
structure XL(X:Cx)(XQ:XW):Prop where
 own:∀ (pins:List (Addr×Obj)) (σ:L2.St) (H:Hp) (s:Shared) (e C:Addr) (dx:Option Addr) (φ:Heap->Prop),Inv X pins σ H s->H e=some (.ext φ)->Ys s.heap e C dx->X.s₀.heap.get? e=none->WX X.K XQ σ C dx (del H e)->X.xe (.ref e) s
 cal:∀ (pins:List (Addr×Obj)) (σ:L2.St) (H:Hp) (s:Shared) (e:Value) (s':Shared) (E2:XK),Inv X pins σ H s->CXe X.prog X.w X.stack H s E2 e s'->(∀ C dx H',E2 (.ref C) dx H'->WX X.K XQ σ C dx H')->X.xe e s'
 pas:PassesOwn (model X.prog X.w) X.A X.env X.xe
 pat:∀ hd,PassesOwnAt (model X.prog X.w) (X.A.mark hd) X.A X.env X.xe
theorem XL.own1(L:XL X XQ)(pins:List (Addr×Obj))(σ:L2.St)(H:Hp)(s:Shared)(e C:Addr)(dx:Option Addr)(I:Inv X pins σ H s)(hH:H e=some (FX e C dx))(h0:X.s₀.heap.get? e=none)(w:WX X.K XQ σ C dx (del H e)):X.xe (.ref e) s:=by
 obtain⟨fr,_,_⟩:=(show Jm X.prog X.w H s.heap e (FX e C dx) from I.hok e _ hH)
 exact L.own pins σ H s e C dx _ I hH fr.g h0 w
def Guk(K:PySem.W.Frag)(mp:List Addr)(H:Hp)(o:Out D)(Q:VK)(E:XK):Prop:=
 match o with
 | .ok d S=>∀ mp' H' v,Aft K mp H mp' H'->RS K mp' H' S->Rep K mp' H' d v->Q v H'
 | .exc x S=>∃ C,CN K x.cls C/\∀ mp' H' dx,Aft K mp H mp' H'->RS K mp' H' S->XF H' dx x.fld->E (.ref C) dx H'
 | .bad=>False
def spX(K:PySem.W.Frag)(n:Nat)(fn:Fn):Sp:=fun vs H Q E=>∃ mp ds S,RS K mp H S/\RepL K mp H ds vs/\ds.length=n/\Guk K mp H (fn ds S) Q E
def XQd(K:PySem.W.Frag)(E:XK):XW:=fun x _ H _ _ _=>∃ C,CN K x.cls C/\∀ dx,XF H dx x.fld->E (.ref C) dx H
section
variable{P:Program}{w:World}{K:PySem.W.Frag}{mg:Str->Option Value}{base:Heap}
theorem Grr{f:Addr}{cd:Value}{outer:List PySem.Env}{s:Shared}{E:XK}:XL (Ko (CXe P w) P w K mg base N qual scope f cd A outer s H E) (XQd K E) where
 own:=fun pins σ H1 s1 e C dx φ I hH fr le ⟨x,mp,ρ,S,xf,hc,C',hc',hE⟩=>by
  cases CN.one hc hc'
  exact Gi1 I hH fr le (hE dx xf)
 cal:=fun pins σ H2 s2 e s3 E2 I hx hE=>xe_on I hx fun C dx H' q=>by
  obtain⟨x,mp,ρ,S,xf,hc,C',hc',hE⟩:=hE C dx H' q
  cases CN.one hc hc'
  exact hE dx xf
 pas:=PassesOwn.leaving
 pat:=fun _=>PassesOwnAt.leaving
theorem Fun.okX{CX:CXT}{f:Addr}(F:Fun K x qual st f fd)(S:FnScope N ps (Ge st))(len:∀ vs H Q E,sp vs H Q E->vs.length=ps.length)(hbody:∀ (cdv:Value) (A:Around) (outer:List PySem.Env) (s:Shared) (H:Hp) (vs:List V) (Q:VK) (E:XK),Room k (A.deeper (envOfC qual (Ge st) s.heap.objs.size f cdv))->sp vs H Q E→
   ∃ t,PSs (Ko CX P w K mg base N qual (Ge st) f cdv A outer s H E) (Gx st) t/\t { nx:=fun _ H'=>Q .non H',rt:=Q } (start N vs) H):FnOk P w K mg base CX (k+1) f fd ps sp:=by
 obtain⟨oc,od,kV,doc,pm,an,cdv,ct,osl,rfl,lk,hcd⟩:=F.ex
 exact Gnt lk hcd S len fun A outer s H vs Q E hr hsp=>hbody cdv A outer s H vs Q E hr hsp
theorem Grs{f:Addr}{b:Sv}(F:Fun K x qual st f fd)(Sc:FnScope N ps (Ge st))(hb:∀ (cdv:Value) (A:Around) (outer:List PySem.Env) (s:Shared) (H:Hp) (E:XK) (XQ:XW),Room k (A.deeper (envOfC qual (Ge st) s.heap.objs.size f cdv))->XL (Ko (CXe P w) P w K mg base N qual (Ge st) f cdv A outer s H E) XQ→
   JSs (Ko (CXe P w) P w K mg base N qual (Ge st) f cdv A outer s H E) XQ (Gx st) b):FnOk P w K mg base (CXe P w) (k+1) f fd ps (spX K ps.length (fnB N.length b)):=by
 refine Fun.okX F Sc (fun vs H Q E ⟨mp,ds,S,rs,r,hl,_⟩=>by rw[r.len]; exact hl) fun cdv A outer s H vs Q E hr ⟨mp,ds,S,rs,r,hl,p⟩=>?_
 refine⟨_,hb cdv A outer s H E (XQd K E) hr Grr,mp,_,S,Gdo rs r,?_⟩
 unfold fnB at p
 show PostS K _ mp H (b (ds.map some++List.replicate (N.length-ds.length) none) S) _
 cases z:b (ds.map some++List.replicate (N.length-ds.length) none) S with
 | rt d S'=>rw[z] at p; exact p
 | nx ρ' S'=>rw[z] at p; exact fun m h v af G=>p m h .non af G.rs rfl
 | bk ρ' S'=>rw[z] at p; exact p.elim
 | ct ρ' S'=>rw[z] at p; exact p.elim
 | exc x ρ' S'=>
  rw[z] at p
  obtain⟨C,hc,q⟩:=p
  exact fun m h v af G=>⟨C,hc,fun dx xf=>q m h dx af G.rs xf⟩
 | bad=>rw[z] at p; exact p.elim
structure CalX(P:Program)(w:World)(K:PySem.W.Frag)(mg:Str->Option Value)(base:Heap)(x:Str)(ps:List Str)(fn:Fn)(j:Nat):Prop where
 ex:∃ f fd,FnOk P w K mg base (CXe P w) j f fd ps (spX K ps.length fn)/\mg x=some (.ref f)/\PySem.W.keepIn K (.ref f)=true/\Binds K fd ps []
theorem Gmj(N:List Str)(k:Nat)(b:Sv)(hfn:fn=fnB N.length b)(d:Dn K mg x st ps)(Sc:FnScope N ps (Ge st))(hb:∀ (f:Addr) (cdv:Value) (A:Around) (outer:List PySem.Env) (s:Shared) (H:Hp) (E:XK) (XQ:XW),Room k (A.deeper (envOfC x (Ge st) s.heap.objs.size f cdv))->XL (Ko (CXe P w) P w K mg base N x (Ge st) f cdv A outer s H E) XQ→
   JSs (Ko (CXe P w) P w K mg base N x (Ge st) f cdv A outer s H E) XQ (Gx st) b):CalX P w K mg base x ps fn (k+1):=by
 subst hfn
 obtain⟨f,fd,F,hm,hbi⟩:=d.ex
 exact⟨f,fd,Grs F Sc (hb f),hm,F.kp,hbi⟩
end
section
variable{X:Cx}{XQ:XW}{k:Nat}{f:Addr}{fd:FuncData}{ps:List Str}{fn:Fn}{x:Str}{p pos:Pos}{e:Expr}{es:List Expr}
def Grt(sp:Sp)(Wx:L2.St->Addr->Option Addr->Hp->Prop)(t:TA):TE:=fun σ H Q=>t σ H fun vs H1=>sp vs H1 Q fun c dx H'=>∃ C,c=.ref C/\Wx σ C dx H'
theorem Gmk{Wx:L2.St->Addr->Option Addr->Hp->Prop}{s:Shared}{Q:VK}{us:List Value}{vs:List V}(F:FnOk X.prog X.w X.K X.mg X.base (CXe X.prog X.w) k f fd ps sp)(hr:Room k X.A)(hb:Binds X.K fd ps [])(hx:∀ (pins:List (Addr×Obj)) (σ:L2.St) (H:Hp) (s:Shared) (e:Value) (s':Shared) (E2:XK),Inv X pins σ H s->CXe X.prog X.w X.stack H s E2 e s'->(∀ C dx H',E2 (.ref C) dx H'->Wx σ C dx H')->X.xe e s')(I:Inv X pins σ H s)(r:Vals vs us)(h:sp vs H Q fun c dx H'=>∃ C,c=.ref C/\Wx σ C dx H'):wpAny (model X.prog X.w) X.A (call (.ref f) us) (EP X pins σ Q) X.xe s:=by
 have hl:us.length=ps.length:=by rw[<- r.length]; exact F.len _ _ _ _ h
 refine wpAny_call (codeAny_mono (F.run X.A X.stack s H ⟨us,[]⟩ us vs Q _ hr I.env0 (by have:=hb s us I.kIn (by simpa using hl); simpa using this) r h) fun r s' hq=>?_)
 cases r with
 | error e=>exact hx pins σ H s e s' (fun c dx H'=>∃ C,c=.ref C/\Wx σ C dx H') I hq fun C dx H' ⟨C',e1,q⟩=>by cases e1; exact q
 | ok fl=>
  cases fl with
  | ret u=>exact I.after hq
  | next=>exact False.elim hq
  | brk=>exact False.elim hq
  | cont=>exact False.elim hq
theorem Gi2{Wx:L2.St->Addr->Option Addr->Hp->Prop}{t:TA}(F:FnOk X.prog X.w X.K X.mg X.base (CXe X.prog X.w) k f fd ps sp)(hr:Room k X.A)(hg:Gl X x)(hm:X.mg x=some (.ref f))(hk:PySem.W.keepIn X.K (.ref f)=true)(hb:Binds X.K fd ps [])(hx:∀ (pins:List (Addr×Obj)) (σ:L2.St) (H:Hp) (s:Shared) (e:Value) (s':Shared) (E2:XK),Inv X pins σ H s->CXe X.prog X.w X.stack H s E2 e s'->(∀ C dx H',E2 (.ref C) dx H'->Wx σ C dx H')->X.xe e s')(ha:PA X (e::es) t)(hdb:(x==("__debug__":Str))=false:=by decide)(he:starEach (e::es) X.env=(false,eval e X.env)::starEach es X.env:=by rfl)(hpl:(backTo pos (starEach es X.env)).any (·.1)=false:=by rfl):
  PE X (.Call (.Name x p) (e::es) [] pos) (Grt sp Wx t):=by
 intro pins s σ H Q I h
 refine wpAny_Call_Name_kw (Xi I hg hm ?_ hdb)
 refine PySem.W.callWith_K (h₀:=X.base) I.ok.mod.kin hk (thn (ha pos pins s σ H _ I h) fun us s1 ⟨vs,H1,I1,r,q⟩=>⟨I1.kIn,?_⟩) he hpl
 exact Gmk F hr hb hx I1 r q
def gX(ys:List Str)(fn:Fn):Fn:=fun ds S=>match fn ds S with
 | .ok d S'=>.ok d S'
 | .exc x S'=>if x.cls∈ys then .exc x S' else .bad
 | .bad=>.bad
def XNs(K:PySem.W.Frag)(ys:List Str):Prop:=∀ y∈ys,∃ C,CN K y C/\XCl K C
theorem Gi3{ys:List Str}(xs:XNs X.K ys)(L:XL X XQ)(F:FnOk X.prog X.w X.K X.mg X.base (CXe X.prog X.w) j f fd ps (spX X.K ps.length fn))(hr:Room k X.A)(hj:j<=k)(hg:Gl X x)(hm:X.mg x=some (.ref f))(hk:PySem.W.keepIn X.K (.ref f)=true)(hb:Binds X.K fd ps [])(ha:JA X XQ (e::es) t)(hdb:(x==("__debug__":Str))=false:=by decide)(he:starEach (e::es) X.env=(false,eval e X.env)::starEach es X.env:=by rfl)(hpl:(backTo pos (starEach es X.env)).any (·.1)=false:=by rfl):
  JE X XQ (.Call (.Name x p) (e::es) [] pos) (cl ps.length (gX ys fn) t):=by
 refine PE.mono (Gi2 (Wx:=WX X.K XQ) (F.mono hj) hr hg hm hk hb L.cal ha hdb he hpl) fun σ H Q ⟨mp,ρ,S,G,p⟩=>?_
 refine bindP G p fun mp1 H1 ds S1 vs a1 G1 r1 p1=>?_
 by_cases hl:ds.length=ps.length
 ·rw[if_pos hl] at p1
  refine⟨mp1,ds,S1,G1.rs,r1,hl,?_⟩
  unfold gX at p1
  cases z:fn ds S1 with
  | ok d S'=>rw[z] at p1; exact p1
  | exc xx S'=>
   rw[z] at p1
   by_cases hi:xx.cls∈ys
   ·have p1:Gk X.K (Rep X.K) XQ σ ρ mp1 H1 (.exc xx S') Q:=by simpa only[if_pos hi] using p1
    obtain⟨C,hC,_⟩:=xs _ hi
    refine⟨C,hC,fun mp' H' dx af rs xf=>⟨C,rfl,xx,mp',ρ,S',xf,hC,p1 mp' H' af (G1.aft af rs)⟩⟩
   ·have p1:Gk X.K (Rep X.K) XQ σ ρ mp1 H1 .bad Q:=by simpa only[if_neg hi] using p1
    exact p1.elim
  | bad=>rw[z] at p1; exact p1.elim
 ·rw[if_neg hl] at p1; exact p1.elim
theorem Gul{ys:List Str}(xs:XNs X.K ys)(L:XL X XQ)(C:CalX X.prog X.w X.K X.mg X.base x ps fn j)(hr:Room k X.A)(hg:Gl X x)(hp:Hf x=true)(ha:JA X XQ (e::es) t)(hn:ps.length=n:=by rfl)(hj:j<=k:=by decide)(he:starEach (e::es) X.env=(false,eval e X.env)::starEach es X.env:=by rfl)(hpl:(backTo pos (starEach es X.env)).any (·.1)=false:=by rfl):
  JE X XQ (.Call (.Name x p) (e::es) [] pos) (cl n (gX ys fn) t):=by
 subst hn
 obtain⟨f,fd,F,hm,hk,hb⟩:=C.ex
 exact Gi3 xs L F hr hj hg hm hk hb ha (Hf.of hp).1 he hpl
structure ClX(P:Program)(w:World)(K:PySem.W.Frag)(mg:Str->Option Value)(base:Heap)(x:Str)(j:Nat):Prop where
 ex:∃ C f fd ps oI,mg x=some (.ref C)/\CN K x C/\KX K C/\PySem.W.findIn K (.ref C) "__init__"=some (some (.ref f))/\K.lookup f=some oI/\oI.cls=.type "function"/\FnOk P w K mg base CX0 j f fd ps (spI K)/\ps.length=2/\Binds K fd ps []
end
structure Plain(X:Cx):Prop where
 stk:X.stack=X.env::X.outer
 fr:X.env.frame=some X.env.locals
 ex:X.ex=[]
structure Landed(X:Cx)(pins:List (Addr×Obj))(σ:L2.St)(H:Hp)(a C:Addr)(dx:Option Addr)(s:Shared):Prop where
 ex:∃ T,Inv X pins σ H s/\Fly s.heap a T C dx/\(H a=none/\H T=none)/\(X.s₀.heap.get? a=none/\X.s₀.heap.get? T=none)/\∀ p∈X.pn++pins,p.1≠a/\p.1≠T
section
variable{X:Cx}{pins:List (Addr×Obj)}{σ:L2.St}{H:Hp}{s:Shared}{A:Around}{E:Value->Shared->Prop}{Q:Unit->Shared->Prop}{M:Model}
theorem Plain.old{b:Addr}(pl:Plain X)(I:Inv X pins σ H s)(e:s.heap.get? b=none):X.s₀.heap.get? b=none:=by
 have u:=I.base
 rw[pl.ex] at u
 exact Wt u e
theorem own_land{e:Addr}(pl:Plain X)(I:Inv X pins σ H s)(hH:H e=some (.ext φ))(fr:Ys s.heap e C dx)(le:X.s₀.heap.get? e=none)(hq:∀ s',Landed X pins σ (del H e) e C dx s'->Q () s'):
  wpAny M X.A (noteFrame (.ref e) X.env) (fun _ s₂=>wpAny M X.A (setFlight (.ref e) none) Q E s₂) E s:=by
 have hfr:X.A.frames=some (X.env::X.outer):=by rw[I.ok.frames,pl.stk]
 have hl:s.heap.FunFrames X.base (X.env::X.outer):=by rw[<- pl.stk]; exact I.stack
 refine Goa hfr hl pl.fr fr fun h' T fl hT lf=>hq _ ?_
 have dn:∀ b,H b=none->del H e b=none:=fun b q=>by
  by_cases c:b=e
  ·rw[c,Ky]
  ·rw[Kr c]; exact q
 have nk:∀ {b:Addr} {o:HO},H b=some o->o≠.ext φ->b≠e:=fun q n z=>n (by rw[z,hH] at q; exact(Option.some.inj q).symm)
 have ne0:∀ b,H b=none->b≠e:=fun b q z=>by rw[z,hH] at q; cases q
 rw[<- pl.stk] at lf
 have un:Un (frs X.stack) [] H (del H e) s.heap h':=⟨fun b o q n hb _=>lf.keep b o hb (fun z=>ne0 b n (by simpa using z)) q,fun b o q n hb _=>lf.slot b o hb q,fun b o q n _=>dn b n,fun b o q _=>by
   by_cases c:b∈frs X.stack
   ·obtain⟨sl,q'⟩:=lf.slot b o c q
    exact⟨_,q'⟩
   ·by_cases c2:b=e
    ·subst c2
     obtain⟨oe,_,_,_,_,z,_⟩:=fl
     exact⟨_,z⟩
    ·exact⟨o,lf.keep b o c (by simpa using c2) q⟩,
  fun b xs q=>by rw[Kr (nk q (by intro z; cases z))]; exact q,fun b o v q=>by rw[Kr (nk q (by intro z; cases z))]; exact q,fun b ps q=>⟨#[],by rw[Kr (nk q (by intro z; cases z)),q]; simp⟩⟩
 have hk:HOk X.prog X.w (del H e) h':=hok_left (Gfs I.hok hH) lf (fun b hb=>dn b (I.stkFree b hb)) (fun b hb=>by
  have:b=e:=by simpa using hb
  rw[this]; exact Ky)
 refine⟨T,?_,fl,⟨Ky,dn T (Yd I.hok hT)⟩,⟨le,pl.old I hT⟩,fun p hp=>?_⟩
 ·have J:=I.call (h':=h') (g':=s.gens) (d':=s.drawn) (t':=s.toks) (ch:=[]) un hk I.bare (fun b z=>absurd z (by simp))
  exact J
 ·obtain⟨q1,q2,_⟩:=I.pin p hp
  refine⟨ne0 _ q2,fun z=>?_⟩
  rw[z,hT] at q1
  cases q1
theorem call_land{E2:XK}{e:Value}{s':Shared}(pl:Plain X)(I:Inv X pins σ H s)(hx:CXe X.prog X.w X.stack H s E2 e s')(hq:∀ a C dx H' s'',e=.ref a->E2 (.ref C) dx H'->Landed X pins σ H' a C dx s''->Q () s''):
  wpAny M X.A (noteFrame e X.env) (fun _ s₂=>wpAny M X.A (setFlight e none) Q E s₂) E s':=by
 obtain⟨a,T,C,dx,H',rfl,os,bare,un,hok,fly,⟨na,nT⟩,⟨oa,oT⟩,hE2⟩:=hx
 obtain⟨h3,g3,d3,t3,o3⟩:=s'
 obtain rfl:o3=s.os:=os
 have I3:Inv X pins σ H' { s with heap:=h3,gens:=g3,drawn:=d3,toks:=t3 }:=I.call (h':=h3) (g':=g3) (d':=d3) (t':=t3) (ch:=[]) un hok bare (fun b z=>absurd z (by simp))
 have hfr:X.A.frames=some (X.env::X.outer):=by rw[I.ok.frames,pl.stk]
 have hl:h3.FunFrames X.base (X.env::X.outer):=by rw[<- pl.stk]; exact I3.stack
 refine Gob (s:={ s with heap:=h3,gens:=g3,drawn:=d3,toks:=t3 }) hfr hl pl.fr fly fun h' T' fl hT lf=>hq a C dx H' _ rfl hE2 ?_
 rw[<- pl.stk] at lf
 have nn:∀ b o,s.heap.get? b=some o->b∉[a,T]:=fun b o q z=>by
  simp only[List.mem_cons,List.not_mem_nil,or_false] at z
  rcases z with rfl | rfl
  ·rw[oa] at q; cases q
  ·rw[oT] at q; cases q
 have un2:Un (frs X.stack) [] H H' s.heap h':=⟨fun b o q n hb hx=>lf.keep b o hb (nn b o q) (un.keep b o q n hb hx),fun b o q n hb hx=>by
   obtain⟨sl,q1⟩:=un.slot b o q n hb hx
   obtain⟨sl',q2⟩:=lf.slot b _ hb q1
   exact⟨sl',q2⟩,un.free,fun b o q hx=>by
   obtain⟨o',q1⟩:=un.there b o q hx
   by_cases c:b∈frs X.stack
   ·obtain⟨sl,q2⟩:=lf.slot b o' c q1
    exact⟨_,q2⟩
   ·exact⟨o',lf.keep b o' c (nn b o q) q1⟩,un.tups,un.frzs,un.tbls⟩
 have nT':H' T'=none:=by
  rcases hT with hT | rfl
  ·exact Yd hok hT
  ·exact nT
 have oT':X.s₀.heap.get? T'=none:=by
  rcases hT with hT | rfl
  ·exact pl.old I3 hT
  ·exact pl.old I oT
 have hk:HOk X.prog X.w H' h':=hok_left hok lf (fun b hb=>I3.stkFree b hb) (fun b hb=>by
  simp only[List.mem_cons,List.not_mem_nil,or_false] at hb
  rcases hb with rfl | rfl
  ·exact na
  ·exact nT)
 refine⟨T',?_,fl,⟨na,nT'⟩,⟨pl.old I oa,oT'⟩,fun p hp=>?_⟩
 ·have J:=I.call (h':=h') (g':=g3) (d':=d3) (t':=t3) (ch:=[]) un2 hk bare (fun b z=>absurd z (by simp))
  exact J
 ·obtain⟨q1,q2,_⟩:=I.pin p hp
  obtain⟨q3,_,_⟩:=I3.pin p hp
  refine And.intro (fun z=>?_) (fun z=>?_)
  ·rw[z,oa] at q1; cases q1
  rcases hT with hT | rfl
  ·rw[z] at q3
   rw[show h3.get? T'=none from hT] at q3
   cases q3
  ·rw[z,oT] at q1; cases q1
end
section
variable{X:Cx}{pins:List (Addr×Obj)}{σ:L2.St}{H:Hp}{s:Shared}{A:Around}{E:Value->Shared->Prop}{Q:Unit->Shared->Prop}{M:Model}
theorem Gml{it:Addr}{h':Heap}(I:Inv X pins σ H s)(k:∀ b o,b≠it->s.heap.get? b=some o->h'.get? b=some o)(there:∃ o,h'.get? it=some o)(hn:H it=none)(hL:it≠X.env.locals)(h0:X.s₀.heap.get? it=none)(h2:∀ x c,X.env.cells.lookup x=some c->c≠it)(h3:∀ p∈X.pn++pins,p.1≠it):Inv X pins σ H { s with heap:=h' }:=by
 have n0:∀ b o,X.s₀.heap.get? b=some o->b≠it:=fun b o e z=>by rw[z,h0] at e; cases e
 have nit:∀ b u,H b=some u->b≠it:=fun b u e z=>by rw[z,hn] at e; cases e
 have ce:∀ x c,X.env.cells.lookup x=some c->∀ v,s.heap.IsCell c v->h'.IsCell c v:=fun x c e v ⟨o,ho,hd⟩=>⟨o,k c o (h2 x c e) ho,hd⟩
 refine⟨I.ok,I.os,I.bare,⟨fun b o e n hb hx=>k b o (n0 b o e) (I.base.keep b o e n hb hx),fun b o e n hb hx=>?_,I.base.free,fun b o e hx=>?_,I.base.tups,I.base.frzs,I.base.tbls⟩,?_,fun x c e=>?_,I.free,I.freeC,fun p hp=>?_,fun b u e=>?_,I.len⟩
 ·obtain⟨sl,q⟩:=I.base.slot b o e n hb hx
  exact⟨sl,k b _ (n0 b o e) q⟩
 ·obtain⟨o',q⟩:=I.base.there b o e hx
  exact⟨o',k b o' (n0 b o e) q⟩
 ·obtain⟨m,⟨o,es,ep,ho,r⟩,hl⟩:=I.loc
  refine⟨m,⟨o,es,ep,k _ o (Ne.symm hL) ho,r⟩,fun i x v e1 e2 e3=>?_⟩
  obtain⟨u,r,l⟩:=hl i x v e1 e2 e3
  refine⟨u,r,?_⟩
  rcases l with l | ⟨kk,c,e,z⟩
  ·exact .inl l
  ·exact .inr ⟨kk,c,e,ce x c e _ z⟩
 ·obtain⟨v,z⟩:=I.cell x c e
  exact⟨v,ce x c e v z⟩
 ·obtain⟨q1,q2,q3,q4,q5⟩:=I.pin p hp
  exact⟨k _ _ (h3 p hp) q1,q2,q3,q4,q5⟩
 ·refine(I.hok b u e).stay (fun c v hc q=>k c v ?_ q) (fun _ q=>q) fun _ _ q=>q
  rcases hc with z | z
  ·rw[z]; exact nit b u e
  ·exact nit c _ z
theorem Gi4{b:Addr}{o:Obj}(I:Inv X pins σ H s)(e:s.heap.get? b=some o)(d:o.data=.fields vs):b≠X.env.locals/\∀ x c,X.env.cells.lookup x=some c->c≠b:=by
 refine⟨fun z=>?_,fun x c hc z=>?_⟩
 ·obtain⟨m,⟨o',es,ep,ho,hd,_⟩,_⟩:=I.loc
  rw[<- z,e] at ho
  cases ho
  rw[d] at hd
  cases hd
 ·obtain⟨v,o',ho,hd⟩:=I.cell x c hc
  rw[z,e] at ho
  cases ho
  rw[d] at hd
  cases hd
theorem Landed.flight{a:Addr}(l:Landed X pins σ H a C dx s)(hq:∀ s',Landed X pins σ H a C dx s'->Q () s'):wpAny M A (setFlight (.ref a) none) Q E s:=by
 obtain⟨T,I,⟨oe,vs,oT,ts,a0,e1,e2,e3,e4,e5,e6,e7,e8⟩,⟨na,nT⟩,⟨oa,ot⟩,pn⟩:=l.ex
 have h3:3<ts.size:=(Array.getElem?_eq_some_iff.mp e8).1
 refine wpAny_setFlight_none e1 e3 e4 e6 e7 h3 (hq _ ⟨T,?_,?_,⟨na,nT⟩,⟨oa,ot⟩,pn⟩)
 ·have rn:=Gi4 I e6 e7
  exact Gml (it:=T) I (fun b o hb q=>by rw[Heap.get?_update_other _ _ (Ne.symm hb)]; exact q) ⟨_,Heap.get?_update_self _ e6 (Obj.isFreed_of_fields (Obj.data_mapFields e7 _))⟩ nT rn.1 ot rn.2 fun p hp=>(pn p hp).2
 ·exact⟨oe,vs,_,_,a0,by rw[Heap.get?_update_other _ _ e5]; exact e1,e2,e3,e4,e5,Heap.get?_update_self _ e6 (Obj.isFreed_of_fields (Obj.data_mapFields e7 _)),Obj.data_mapFields e7 _,by simp[h3]⟩
theorem Gdz{a:Addr}(I:Inv X pins σ H s)(hn:H a=none)(h0:X.s₀.heap.get? a=none)(hL:a≠X.env.locals)(h2:∀ x c,X.env.cells.lookup x=some c->c≠a)(h3:∀ p∈X.pn++pins,p.1≠a)(ok:φ s.heap)(th:∃ o,s.heap.get? a=some o)(st:∀ h1 h2:Heap,φ h1->(∀ o,h1.get? a=some o->h2.get? a=some o)->φ h2):Inv X pins σ (upd H a (.ext φ)) s:=by
 have n0:∀ b o,X.s₀.heap.get? b=some o->b≠a:=fun b o e z=>by rw[z,h0] at e; cases e
 have nk:∀ {b:Addr} {o:HO},H b=some o->b≠a:=fun e z=>by rw[z,hn] at e; cases e
 refine⟨I.ok,I.os,I.bare,⟨I.base.keep,I.base.slot,fun b o e n hx=>?_,I.base.there,fun b xs e=>?_,fun b o v e=>?_,fun b ps e=>?_⟩,I.loc,I.cell,?_,fun x c e=>?_,fun p hp=>?_,fun b o e=>?_,I.len⟩
 ·rw[Gr (n0 b o e)]; exact I.base.free b o e n hx
 ·have q:=I.base.tups b xs e
  rw[Gr (nk q)]; exact q
 ·have q:=I.base.frzs b o v e
  rw[Gr (nk q)]; exact q
 ·obtain⟨more,q⟩:=I.base.tbls b ps e
  exact⟨more,by rw[Gr (nk q)]; exact q⟩
 ·rw[Gr (Ne.symm hL)]; exact I.free
 ·rw[Gr (h2 x c e)]; exact I.freeC x c e
 ·obtain⟨q1,q2,q3,q4,q5⟩:=I.pin p hp
  exact⟨q1,by rw[Gr (h3 p hp)]; exact q2,q3,q4,q5⟩
 ·by_cases c:b=a
  ·subst c
   rw[Hu] at e
   cases e
   exact⟨ok,th,st⟩
  ·rw[Gr c] at e
   refine(I.hok b o e).stay (fun c u _ q=>q) (fun c q=>?_) fun c xs q=>?_
   ·rw[Gr (nk q)]; exact q
   ·rw[Gr (nk q)]; exact q
theorem Landed.know{a:Addr}(l:Landed X pins σ H a C dx s):H a=none/\Inv X pins σ (upd H a (XO a C dx)) s:=by
 obtain⟨T,I,⟨oe,vs,oT,ts,a0,e1,e2,e3,e4,e5,e6,e7,e8⟩,⟨na,nT⟩,⟨oa,ot⟩,pn⟩:=l.ex
 have rn:=Gi4 I e1 e3
 exact⟨na,Gdz I na oa rn.1 rn.2 (fun p hp=>(pn p hp).1) ⟨oe,e1,e2.1,e2.2.1,vs,e3⟩ ⟨oe,e1⟩ fun h1 h2 ⟨o,q1,q2⟩ k=>⟨o,k _ q1,q2⟩⟩
abbrev hnd(X:Cx)(a:Addr):Cx:={ X with A:=X.A.mark (some (.ref a)),calm:=false,xe:=fun _ _=>False }
theorem _root_.L2.Inv.hnd(I:Inv X pins σ H s)(a:Addr):Inv (DL.hnd X a) pins σ H s:=
 ⟨⟨I.ok.mod,I.ok.kind,I.ok.glob,I.ok.blt,I.ok.above,I.ok.inj,I.ok.has,I.ok.cab,(fun z=>nomatch z),I.ok.frames,I.ok.stk,I.ok.exf,I.ok.bs,I.ok.bsz,I.ok.noex,I.ok.exfs,I.ok.funs,I.ok.frf⟩,I.os,I.bare,I.base,I.loc,I.cell,I.free,I.freeC,I.pin,I.hok,I.len⟩
theorem _root_.L2.Inv.unhnd{a:Addr}(ok:X.Ok)(I:Inv (DL.hnd X a) pins σ H s):Inv X pins σ H s:=⟨ok,I.os,I.bare,I.base,I.loc,I.cell,I.free,I.freeC,I.pin,I.hok,I.len⟩
theorem Xj{n:Str}(I:Inv X pins σ H s)(hN:X.N.Nodup)(hi:X.N[i]?=some n)(hk:X.env.scope.names.lookup n=some .local)(hq:∀ s',Inv X pins (σ.set i none) H s'->Q () s'):
  wpAny M A (do bindName X.env n .none; unbindBehindTheSuite X.env n pos) Q E s:=by
 obtain⟨m,hn,hl⟩:=id I.loc
 have hcls:(X.env.scope.kind==.class||(X.env.scope.kind==.module&&X.env.locals != X.env.globals))=false:=by rw[I.ok.kind]; rfl
 refine wpAny_nameGoes_keeps hk hn hcls fun h' v hn' hs=>hq _ ?_
 obtain⟨oL,_,_,hoL,_⟩:=id hn
 have below:∀ b o,X.s₀.heap.get? b=some o->b≠X.env.locals:=fun b o e=>Nat.ne_of_lt (Nat.lt_of_lt_of_le (Heap.lt_size e) I.ok.above)
 refine⟨I.ok,I.os,I.bare,⟨fun b o e n hb hx=>(hs.2 b (below b o e)).trans (I.base.keep b o e n hb hx),fun b o e n hb hx=>?_,I.base.free,fun b o e hx=>?_,I.base.tups,I.base.frzs,I.base.tbls⟩,⟨_,hn',fun j y w e1 e2 e3=>?_⟩,fun y c e=>?_,I.free,I.freeC,fun p hp=>?_,fun b ob e=>?_,by simpa using I.len⟩
 ·obtain⟨sl,e1⟩:=I.base.slot b o e n hb hx
  exact⟨sl,(hs.2 b (below b o e)).trans e1⟩
 ·obtain⟨o',e1⟩:=I.base.there b o e hx
  exact⟨o',(hs.2 b (below b o e)).trans e1⟩
 ·by_cases hj:j=i
  ·subst hj
   rw[List.getElem?_set] at e2
   simp only[if_true] at e2
   split at e2<;>cases e2
  ·rw[List.getElem?_set_ne (Ne.symm hj)] at e2
   obtain⟨u',r',q⟩:=hl j y w e1 e2 e3
   refine⟨u',r',?_⟩
   rcases q with⟨k,e⟩ | ⟨k,c,e,z⟩
   ·refine .inl ⟨k,?_⟩
    have:y≠n:=fun e=>hj (Zw hN e1 (e▸hi))
    simp[this,e]
   ·exact .inr ⟨k,c,e,z.sameBut hs (I.cne y c e)⟩
 ·obtain⟨w,z⟩:=I.cell y c e
  exact⟨w,z.sameBut hs (I.cne y c e)⟩
 ·obtain⟨e,n,ne,nf,d⟩:=I.pin p hp
  exact⟨(hs.2 p.1 ne).trans e,n,ne,nf,d⟩
 ·refine(I.hok b ob e).stay (fun c w hc q=>(hs.2 c ?_).trans q) (fun _ q=>q) fun _ _ q=>q
  rintro rfl
  rcases hc with rfl | hc
  ·rw[I.free] at e; cases e
  ·rw[I.free] at hc; cases hc
end
abbrev trb(X:Cx)(pn:List (Addr×Obj))(xe:Value->Shared->Prop):Cx:={ X with pn:=pn,xe:=xe }
section
variable{X:Cx}{XQ:XW}{pins:List (Addr×Obj)}{σ:L2.St}{H:Hp}{s:Shared}{pn:List (Addr×Obj)}{xe:Value->Shared->Prop}
theorem _root_.L2.Inv.trb(I:Inv X pins σ H s):Inv (DL.trb X (X.pn++pins) xe) [] σ H s:=
 ⟨⟨I.ok.mod,I.ok.kind,I.ok.glob,I.ok.blt,I.ok.above,I.ok.inj,I.ok.has,I.ok.cab,I.ok.hd,I.ok.frames,I.ok.stk,I.ok.exf,I.ok.bs,I.ok.bsz,I.ok.noex,I.ok.exfs,I.ok.funs,I.ok.frf⟩,I.os,I.bare,I.base,I.loc,I.cell,I.free,I.freeC,fun p hp=>I.pin p (by simpa using hp),I.hok,I.len⟩
theorem _root_.L2.Inv.untrb{pins':List (Addr×Obj)}(ok:X.Ok)(I:Inv (DL.trb X (X.pn++pins) xe) pins' σ H s):Inv X pins σ H s:=
 ⟨ok,I.os,I.bare,I.base,I.loc,I.cell,I.free,I.freeC,fun p hp=>I.pin p (List.mem_append_left _ hp),I.hok,I.len⟩
theorem Landed.untrb{pins':List (Addr×Obj)}{a:Addr}(ok:X.Ok)(l:Landed (DL.trb X (X.pn++pins) xe) pins' σ H a C dx s):Landed X pins σ H a C dx s:=by
 obtain⟨T,I,f,n,o,p⟩:=l.ex
 exact⟨T,I.untrb ok,f,n,o,fun q hq=>p q (List.mem_append_left _ hq)⟩
theorem Plain.trb(pl:Plain X):Plain (trb X pn xe):=⟨pl.stk,pl.fr,pl.ex⟩
theorem Gd.unset{ρ:Lc}{S:Sto}(G:Gd K mp H σ ρ S)(i:Nat):Gd K mp H (σ.set i none) (ρ.set i none) S:=by
 refine⟨G.rs,by simp[G.len],fun j e h=>?_⟩
 by_cases hj:j=i
 ·subst hj
  rw[List.getElem?_set] at h
  simp only[if_true] at h
  split at h<;>cases h
 ·rw[List.getElem?_set_ne (Ne.symm hj)] at h ⊢
  exact G.loc j e h
def Ye(ys:List Str)(hh:XD->Sv)(fb:Sv):Sv:=fun ρ S=>match fb ρ S with
 | .nx ρ' S'=>.nx ρ' S'
 | .rt d S'=>.rt d S'
 | .bk ρ' S'=>.bk ρ' S'
 | .ct ρ' S'=>.ct ρ' S'
 | .exc x ρ' S'=>if x.cls∈ys then hh x ρ' S' else .bad
 | .bad=>.bad
theorem Gmm{hd:ExceptHandler}{ys:List Str}{hh:XD->Sv}{fb:Sv}(pl:Plain X)(hH:∀ (pins:List (Addr×Obj)) (σ:L2.St) (H:Hp) (s:Shared) (a C:Addr) (dx:Option Addr) (x:XD) (mp:List Addr) (ρ:Lc) (S:Sto) (D:Ends),x.cls∈ys->CN X.K x.cls C->XF H dx x.fld->Landed X pins σ H a C dx s->Gd X.K mp H σ ρ S->PostS X.K XQ mp H (hh x ρ S) D->wpAny (model X.prog X.w) X.A (handleBy (.ref a) X.env [hd]) (SP X pins D) X.xe s)(hb:∀ (pn:List (Addr×Obj)) (xe:Value->Shared->Prop) (XQ':XW),XL (trb X pn xe) XQ'->JSs (trb X pn xe) XQ' body fb):JS X XQ (.Try body [hd] [] [] pos) (Ye ys hh fb):=by
 intro pins s σ H D I ⟨mp,ρ,S,G,p⟩
 refine wpAny_Try_except ?_
 have ok:=I.ok
 let Eh:Value->Shared->Prop:=fun e s₁=>wpAny (model X.prog X.w) X.A (noteFrame e X.env) (fun _ s₂=>wpAny (model X.prog X.w) X.A (setFlight e none) (fun _ s₃=>wpAny (model X.prog X.w) X.A (handleBy e X.env [hd]) (SP X pins D) X.xe s₃) X.xe s₂) X.xe s₁
 let XQ':XW:=fun x mp H σ ρ S=>x.cls∈ys/\Gd X.K mp H σ ρ S/\PostS X.K XQ mp H (hh x ρ S) D
 have fin:∀ (pins':List (Addr×Obj)) (σ:L2.St) (H:Hp) (s:Shared) (a C:Addr) (dx:Option Addr),WX X.K XQ' σ C dx H->Landed (DL.trb X (X.pn++pins) Eh) pins' σ H a C dx s->wpAny (model X.prog X.w) X.A (handleBy (.ref a) X.env [hd]) (SP X pins D) X.xe s:=
  fun pins' σ H s a C dx ⟨x,mp,ρ,S,xf,hc,hm,G,p⟩ l=>hH pins σ H s a C dx x mp ρ S D hm hc xf (l.untrb ok) G p
 have L:XL (DL.trb X (X.pn++pins) Eh) XQ':=⟨fun pins' σ H s e C dx φ I hH fr le w=>own_land (X:=DL.trb X (X.pn++pins) Eh) pl.trb I hH fr le fun s' l=>fin pins' σ _ s' e C dx w l,
  fun pins' σ H s e s' E2 I hx hE=>call_land (X:=DL.trb X (X.pn++pins) Eh) pl.trb I hx fun a C dx H' s'' ea q l=>by
   subst ea
   exact fin pins' σ H' s'' a C dx (hE C dx H' q) l,
  PassesOwn.looking,fun _=>PassesOwnAt.looking⟩
 have post:PostS X.K XQ' mp H (fb ρ S) D:=by
  unfold Ye at p
  cases z:fb ρ S with
  | nx ρ' S'=>rw[z] at p; exact p
  | rt d S'=>rw[z] at p; exact p
  | bk ρ' S'=>rw[z] at p; exact p
  | ct ρ' S'=>rw[z] at p; exact p
  | bad=>rw[z] at p; exact p
  | exc x ρ' S'=>
   rw[z] at p
   by_cases hm:x.cls∈ys
   ·have p:PostS X.K XQ mp H (hh x ρ' S') D:=by simpa only[if_pos hm] using p
    exact fun mp' H' σ' af G'=>⟨hm,G',PostS.aft p af⟩
   ·have p:PostS X.K XQ mp H .bad D:=by simpa only[if_neg hm] using p
    exact p.elim
 refine wpAny_mono (hb (X.pn++pins) Eh XQ' L [] s σ H D I.trb ⟨mp,ρ,S,G,post⟩) (fun f s1 q=>?_) fun e s1 q=>q
 cases f with
 | next=>
  obtain⟨σ',H',I',q⟩:=q
  exact wpAny_execs_nil ⟨σ',H',I'.untrb ok,q⟩
 | brk=>
  obtain⟨σ',H',I',q⟩:=q
  exact⟨σ',H',I'.untrb ok,q⟩
 | cont=>
  obtain⟨σ',H',I',q⟩:=q
  exact⟨σ',H',I'.untrb ok,q⟩
 | ret u=>
  obtain⟨v,σ',H',I',r,q⟩:=q
  exact⟨v,σ',H',I'.untrb ok,r,q⟩
structure Cat(K:PySem.W.Frag)(mg:Str->Option Value)(c:Str)(ys:List Str):Prop where
 ex:∃ cs,mg c=some (.ref cs)/\∀ y∈ys,∃ C,CN K y C/\XCl K C/\PySem.W.exmOne K (.ref C) (.ref cs)=some true
def hdl(i:Nat)(fh:Sv)(x:XD):Sv:=fun ρ S=>match fh (ρ.set i (some (.exn x.cls x.fld))) S with
 | .nx ρ' S'=>.nx (ρ'.set i none) S'
 | .rt d S'=>.rt d S'
 | .bk ρ' S'=>.bk (ρ'.set i none) S'
 | .ct ρ' S'=>.ct (ρ'.set i none) S'
 | _=>.bad
theorem Gru{M:Model}{a T:Addr}(f:Fly h a T C dx):PySem.W.Looks M h (typeOf (.ref a)) (.ref C):=by
 obtain⟨oe,vs,_,_,_,h1,⟨h2,_⟩,_⟩:=f
 exact h2▸(PySem.W.Looks.ld h1).andThen .now
theorem Grv{c:Str}{ys:List Str}{a:Addr}{R:Result->Shared->Prop}(ct:Cat X.K X.mg c ys)(hg:Gl X c)(hp:Hf c=true)(hy:y∈ys)(hc:CN X.K y C)(l:Landed X pins σ H a C dx s)(hq:R (.ok .brk) s):
  XCl X.K C/\codeAny (model X.prog X.w) (X.A.mark (some (.ref a))) (.handlers (.ref a) [.ExceptHandler (some (.Name c np)) none [] hpos] X.env) R s:=by
 obtain⟨T,I,f,_⟩:=l.ex
 obtain⟨cs,hm,hk⟩:=ct.ex
 obtain⟨C',hc',xc,he⟩:=hk y hy
 cases CN.one hc hc'
 refine⟨xc,codeAny_handlers_test ?_⟩
 refine Xi (X:=hnd X a) (I.hnd a) hg hm ?_ (Hf.of hp).1
 exact(PySem.W.exm_one I.kIn (Gru f) he).here hq
theorem Gmn{c n:Str}{b0:Stmt}{suite:List Stmt}{ys:List Str}{fb fh:Sv}(pl:Plain X)(ct:Cat X.K X.mg c ys)(hg:Gl X c)(hp:Hf c=true)(hN:X.N.Nodup)(hi:X.N[i]?=some n)(hn:X.env.scope.names.lookup n=some .local)(hb:∀ (pn:List (Addr×Obj)) (xe:Value->Shared->Prop) (XQ':XW),XL (trb X pn xe) XQ'->JSs (trb X pn xe) XQ' body fb)(hs:∀ a,JSs (hnd X a) (fun _ _ _ _ _ _=>False) (b0::suite) fh):
  JS X XQ (.Try body [.ExceptHandler (some (.Name c np)) (some n) (b0::suite) hpos] [] [] pos) (Ye ys (hdl i fh) fb):=by
 refine Gmm pl (fun pins σ H s a C dx x mp ρ S D hy hc xf l G p=>?_) hb
 refine wpAny_handleBy_cons ?_ (by intro q; cases q)
 obtain⟨xc,hit⟩:=Grv (np:=np) (hpos:=hpos) (R:=fun r s₁=>match r with
   | .ok .brk=>codeAny (model X.prog X.w) (X.A.mark (some (.ref a))) (.handlers (.ref a) [.ExceptHandler none (some n) (b0::suite) hpos] X.env) (fun r s₂=>match r with
     | .ok f=>wpAny (model X.prog X.w) X.A (do bindName X.env n .none; unbindBehindTheSuite X.env n hpos) (fun _ s₃=>SP X pins D f s₃) X.xe s₂
     | .error x=>cameBackBy (model X.prog X.w) X.A X.env X.xe x s₂) s₁
   | .ok _=>wpAny (model X.prog X.w) X.A (handleBy (.ref a) X.env []) (SP X pins D) X.xe s₁
   | .error x=>cameBackBy (model X.prog X.w) X.A X.env X.xe x s₁) ct hg hp hy hc l (by
  refine codeAny_handlers_suite_as (l.flight fun s1 l1=>?_)
  obtain⟨na,I1⟩:=l1.know
  have ok:=I1.ok
  have af:Aft X.K mp H mp (upd H a (XO a C dx)):=Ql na
  have G1:Gd X.K mp (upd H a (XO a C dx)) σ ρ S:=G.aft af (G.rs.new na)
  have re:Rep X.K mp (upd H a (XO a C dx)) (.exn x.cls x.fld) (.ref a):=⟨a,dx,C,rfl,⟨hc,by
   obtain⟨cs,hm,hk⟩:=ct.ex
   obtain⟨C',hc',xc,he⟩:=hk x.cls hy
   cases CN.one hc hc'
   exact xc,Hu⟩,fun i z=>by
   obtain⟨d,e1,e2⟩:=xf.1 i z
   exact⟨d,e1,by rw[Gr (fun q=>by rw[q,na] at e2; cases e2)]; exact e2⟩⟩
  refine Xw (X:=hnd X a) (v:=.ref a) (I1.hnd a) hN hi (.inl hn) rfl (fun s2 I2=>?_) (.inr hn)
  refine wpAny_mono (hs a pins s2 _ _ { nx:=fun σ' H'=>D.nx (σ'.set i none) H',rt:=D.rt,bk:=fun σ' H'=>D.bk (σ'.set i none) H',ct:=fun σ' H'=>D.ct (σ'.set i none) H' } I2 ⟨mp,_,S,G1.set i re,?_⟩) (fun f s3 q=>?_) (fun e s3 q=>q.elim)
  ·have p:=PostS.aft p af
   unfold hdl at p
   cases z:fh (ρ.set i (some (.exn x.cls x.fld))) S with
   | nx ρ' S'=>rw[z] at p; exact fun mp' H' σ' a' G'=>p mp' H' _ a' (G'.unset i)
   | rt d S'=>rw[z] at p; exact p
   | bk ρ' S'=>rw[z] at p; exact fun mp' H' σ' a' G'=>p mp' H' _ a' (G'.unset i)
   | ct ρ' S'=>rw[z] at p; exact fun mp' H' σ' a' G'=>p mp' H' _ a' (G'.unset i)
   | exc x ρ' S'=>rw[z] at p; exact p.elim
   | bad=>rw[z] at p; exact p.elim
  ·cases f with
   | next=>
    obtain⟨σ',H',I',q⟩:=q
    exact Xj (I'.unhnd ok) hN hi hn fun s' J=>⟨_,H',J,q⟩
   | brk=>
    obtain⟨σ',H',I',q⟩:=q
    exact Xj (I'.unhnd ok) hN hi hn fun s' J=>⟨_,H',J,q⟩
   | cont=>
    obtain⟨σ',H',I',q⟩:=q
    exact Xj (I'.unhnd ok) hN hi hn fun s' J=>⟨_,H',J,q⟩
   | ret u=>
    obtain⟨v,σ',H',I',r,q⟩:=q
    exact Xj (I'.unhnd ok) hN hi hn fun s' J=>⟨v,_,H',J,r,q⟩)
 exact hit
end
def Jo(ys sub:List Str)(x:D)(S:Sto):Out D:=match x with
 | .exn y _=>if y∈ys then .ok (.bl (decide (y∈sub))) S else .bad
 | _=>.bad
structure Isx(K:PySem.W.Frag)(mg:Str->Option Value)(x:Str)(ys sub:List Str):Prop where
 ex:∃ cs,mg x=some (.ref cs)/\∀ y∈ys,∃ C,CN K y C/\PySem.W.kitOne K (.ref C) (.ref cs)=some (decide (y∈sub))
structure IsxB(K:PySem.W.Frag)(T:String)(ys sub:List Str):Prop where
 ex:∀ y∈ys,∃ C,CN K y C/\PySem.W.kitOne K (.ref C) (.type T)=some (decide (y∈sub))
section
variable{X:Cx}{XQ:XW}
def Gwv(K:PySem.W.Frag)(w:V)(c:Value):List V->Hp->VK->Prop:=fun vs H Q=>∃ a C dx b,vs=[.ref a,w]/\XCl K C/\H a=some (XO a C dx)/\PySem.W.kitOne K (.ref C) c=some b/\Q (.bl b) H
theorem Gd0{w:V}{c:Value}(hw:∀ u,Hc w u->u=c):Ui X (.builtin "isinstance") (Gwv X.K w c):=by
 intro pins s σ H xs us Q I r ⟨a,C,dx,b,e,xc,hH,hk,q⟩
 subst e
 obtain⟨u,w',rfl,ru,rw'⟩:=Vals.two r
 cases (show u=Value.ref a from ru)
 cases hw _ rw'
 exact PySem.W.kia_one (Gds xc) I.kIn (Gn8 I hH) hk (fun z=>nomatch z) fun tk=>⟨.bl b,H,I.tok tk,rfl,q⟩
theorem Grw{ys:List Str}{e:Expr}{f:Ev D}(k:Isx X.K X.mg x ys sub)(hg:Gl X "isinstance")(hm:X.mg "isinstance"=none)(hgt:Gl X x)(hp:Hf x=true)(he:JE X XQ e f)(hs:starEach [e,.Name x p2] X.env=(false,eval e X.env)::starEach [.Name x p2] X.env)(hpl:(backTo pos (starEach [.Name x p2] X.env)).any (·.1)=false)(hs2:starEach [.Name x p2] X.env=(false,eval (.Name x p2) X.env)::starEach [] X.env):
  JE X XQ (.Call (.Name "isinstance" p) [e,.Name x p2] [] pos) (o1 (Jo ys sub) f):=by
 obtain⟨cs,hmt,hk⟩:=k.ex
 refine PE.mono (Xy (Gd0 (w:=.ref cs) (c:=.ref cs) fun u h=>h) hg hm (by rfl) (Kc he (Kc (Gfi hgt hmt (v:=.ref cs) rfl (Hf.of hp).1) pa_nil hs2) hs) (by decide) (by decide) hs hpl) fun σ H Q ⟨mp,ρ,S,G,q⟩=>?_
 refine bindP G q fun mp1 H1 d S1 v a1 G1 r1 p1=>?_
 cases d with
 | exn y n=>
  obtain⟨a,dx,C,rfl,⟨hc,xc,hH⟩,_⟩:=(show ∃ a dx p,v=.ref a/\(CN X.K y p/\XCl X.K p/\H1 a=some (XO a p dx))/\∀ i,n=some i->∃ d,dx=some d/\H1 d=some (XA d i) from r1)
  by_cases hy:y∈ys
  ·have p1:Post X.K XQ σ ρ mp1 H1 (.ok (.bl (decide (y∈sub))) S1) Q:=by simpa only[Jo,if_pos hy] using p1
   obtain⟨C',hc',ko⟩:=hk y hy
   cases CN.one hc hc'
   exact⟨a,C,dx,_,rfl,xc,hH,ko,Gk.ok (R:=Rep X.K) p1 G1.rs rfl⟩
  ·have p1:Post X.K XQ σ ρ mp1 H1 .bad Q:=by simpa only[Jo,if_neg hy] using p1
   exact p1.elim
 | _=>exact p1.elim
theorem Gmo{ys:List Str}{e:Expr}{f:Ev D}(k:IsxB X.K T ys sub)(hv:bootBuiltins x=some (.type T))(hnx:x≠"__name__")(hg:Gl X "isinstance")(hm:X.mg "isinstance"=none)(hgt:Gl X x)(hmt:X.mg x=none)(hp:Hf x=true)(he:JE X XQ e f)(hs:starEach [e,.Name x p2] X.env=(false,eval e X.env)::starEach [.Name x p2] X.env)(hpl:(backTo pos (starEach [.Name x p2] X.env)).any (·.1)=false)(hs2:starEach [.Name x p2] X.env=(false,eval (.Name x p2) X.env)::starEach [] X.env):
  JE X XQ (.Call (.Name "isinstance" p) [e,.Name x p2] [] pos) (o1 (Jo ys sub) f):=by
 have hk:=k.ex
 refine PE.mono (Xy (Gd0 (w:=.ty T) (c:=.type T) fun u h=>h) hg hm (by rfl) (Kc he (Kc (Gfj hgt hmt hv (v:=.ty T) rfl hnx (Hf.of hp).1) pa_nil hs2) hs) (by decide) (by decide) hs hpl) fun σ H Q ⟨mp,ρ,S,G,q⟩=>?_
 refine bindP G q fun mp1 H1 d S1 v a1 G1 r1 p1=>?_
 cases d with
 | exn y n=>
  obtain⟨a,dx,C,rfl,⟨hc,xc,hH⟩,_⟩:=(show ∃ a dx p,v=.ref a/\(CN X.K y p/\XCl X.K p/\H1 a=some (XO a p dx))/\∀ i,n=some i->∃ d,dx=some d/\H1 d=some (XA d i) from r1)
  by_cases hy:y∈ys
  ·have p1:Post X.K XQ σ ρ mp1 H1 (.ok (.bl (decide (y∈sub))) S1) Q:=by simpa only[Jo,if_pos hy] using p1
   obtain⟨C',hc',ko⟩:=hk y hy
   cases CN.one hc hc'
   exact⟨a,C,dx,_,rfl,xc,hH,ko,Gk.ok (R:=Rep X.K) p1 G1.rs rfl⟩
  ·have p1:Post X.K XQ σ ρ mp1 H1 .bad Q:=by simpa only[Jo,if_neg hy] using p1
   exact p1.elim
 | _=>exact p1.elim
def Gbf:List D->Option (List Bool)
 | []=>some []
 | .bl b::r=>(Gbf r).map (b::·)
 | _::_=>none
theorem Gah:∀ {l:List D} {bs:List Bool},Gbf l=some bs->l=bs.map .bl
 | [],bs,h=>by cases h; rfl
 | d::r,bs,h=>by
  cases d with
  | bl b=>
   have h:(Gbf r).map (b::·)=some bs:=h
   cases z:Gbf r with
   | none=>rw[z] at h; cases h
   | some q=>rw[z] at h; cases h; rw[Gah z]; rfl
  | _=>cases h
theorem Gai{K:PySem.W.Frag}{mp:List Addr}{H:Hp}:∀ {bs:List Bool} {vs:List V},RepL K mp H (bs.map .bl) vs->vs=bs.map .bl
 | [],vs,h=>h
 | b::r,vs,h=>by
  obtain⟨v,q,e,h1,h2⟩:=(show ∃ v r',vs=v::r'/\Rep K mp H (.bl b) v/\RepL K mp H (r.map .bl) r' from h)
  cases (show v=.bl b from h1)
  rw[e,Gai h2]
  rfl
theorem Gaj:∀ {bs:List Bool} {us:List Value},Vals (bs.map V.bl) us->us=bs.map Value.bool
 | [],_,.nil=>rfl
 | b::r,_,.cons h t=>by
  rw[Gaj t]
  cases (show _=Value.bool b from h)
  rfl
theorem Gi5(b k:Bool):MeetsSeq.EqGives (.bool b) (.bool k) (b==k):=fun prog w A E s Q h=>PySem.SeqAt.EqAt.bool_bool b k prog w E Q h
def Gg5(k:Bool):Value->Bool
 | .bool b=>b==k
 | _=>false
theorem Gfu(bs:List Bool)(k:Bool):∀ y,y∈(bs.map Value.bool).toArray->MeetsSeq.EqGives y (.bool k) (Gg5 k y):=fun y hy=>by
 obtain⟨b,_,rfl⟩:=List.mem_map.mp (show y∈bs.map Value.bool from by simpa using hy)
 exact Gi5 b k
def Gum:V->List V->Hp->VK->Prop:=fun x vs H Q=>∃ (l:Addr) (bs:List Bool) (k:Bool),x=.ref l/\vs=[.bl k]/\H l=some (.lst (bs.map .bl))/\Q (.int (bs.countP (·==k):Nat)) H
theorem Grx:MtM X "list.count" Gum:=by
 intro pins s σ H x vs v us Q I rx rv ⟨l,bs,k,e1,e2,hH,q⟩
 subst e1 e2
 cases rx
 obtain⟨u,rfl,ru⟩:=Vals.one rv
 cases (show u=Value.bool k from ru)
 obtain⟨z,its,n,r,hl,e⟩:=I.lstM hH
 cases Gaj r
 refine call_meets PySem.F.slot_list_count ⟨_,e,rfl⟩ PySem.F.entry_list_count (PySem.F.args_list_count_2 _ _) (MeetsSeq.list_count l _ n (.bool k) (Gg5 k) (Gfu bs k)) ⟨e,.int _,H,I.tok _,⟨_,rfl⟩,?_⟩
 have ec:List.countP (Gg5 k) (List.map Value.bool bs).toArray.toList=bs.countP (·==k):=by
  rw[List.countP_map]; rfl
 rw[ec]
 exact q
def Gez(x:D)(xs:List D)(S:Sto):Out D:=match x,xs with
 | .lst i,[.bl k]=>match S[i]? with
  | some c=>if c.fz=false then(match Gbf c.xs with
   | some bs=>.ok (.int (bs.countP (·==k):Nat)) S
   | none=>.bad) else .bad
  | none=>.bad
 | _,_=>.bad
theorem Gry:MeD K Gum Gez:=by
 intro XQ σ ρ mp H S x xs v vs Q rs rx r p
 unfold Gez at p
 split at p
 ·rename_i i k
  split at p
  ·rename_i c zc
   by_cases hc:c.fz=false
   ·rw[if_pos hc] at p
    split at p
    ·rename_i bs zb
     obtain⟨w,rfl,hw⟩:=RepL.one r
     cases (show w=.bl k from hw)
     obtain⟨a,ys,rfl,ha,sq,q,f⟩:=rs.items rx zc
     rw[Gah zb] at q
     cases Gai q
     exact⟨a,bs,k,rfl,rfl,f hc,p mp H _ .refl rs rfl⟩
    ·exact p.elim
   ·rw[if_neg hc] at p; exact p.elim
  ·exact p.elim
 ·exact p.elim
def Gun:V->List V->Hp->VK->Prop:=fun x vs H Q=>∃ (l:Addr) (bs:List Bool) (k:Bool) (j:Nat),x=.ref l/\vs=[.bl k]/\H l=some (.lst (bs.map .bl))/\List.findIdx? (·==k) bs=some j/\Q (.int (j:Nat)) H
theorem Grz:MtM X "list.index" Gun:=by
 intro pins s σ H x vs v us Q I rx rv ⟨l,bs,k,j,e1,e2,hH,hj,q⟩
 subst e1 e2
 cases rx
 obtain⟨u,rfl,ru⟩:=Vals.one rv
 cases (show u=Value.bool k from ru)
 obtain⟨z,its,n,r,hl,e⟩:=I.lstM hH
 cases Gaj r
 rw[List.findIdx?_eq_some_iff_getElem] at hj
 obtain⟨h1,h2,h3⟩:=hj
 have z:bs.length<=sizeLine:=by simpa using z
 rw[sizeLine_eq] at z
 refine call_meets PySem.F.slot_list_index ⟨_,e,rfl⟩ PySem.F.entry_list_index (PySem.F.args_list_index_2 _ _) (MeetsSeq.list_index l _ n (.bool k) (Gg5 k) (Gfu bs k) j (by simpa using h1) (by omega) (by simpa[Gg5] using h2) (fun m hm hlt=>?_)) ⟨e,.int _,H,I.tok _,⟨_,rfl⟩,q⟩
 have:=h3 m hlt
 simpa[Gg5] using this
def Ge0(x:D)(xs:List D)(S:Sto):Out D:=match x,xs with
 | .lst i,[.bl k]=>match S[i]? with
  | some c=>if c.fz=false then(match Gbf c.xs with
   | some bs=>(match List.findIdx? (·==k) bs with
    | some j=>.ok (.int (j:Nat)) S
    | none=>.bad)
   | none=>.bad) else .bad
  | none=>.bad
 | _,_=>.bad
theorem Gr0:MeD K Gun Ge0:=by
 intro XQ σ ρ mp H S x xs v vs Q rs rx r p
 unfold Ge0 at p
 split at p
 ·rename_i i k
  split at p
  ·rename_i c zc
   by_cases hc:c.fz=false
   ·rw[if_pos hc] at p
    split at p
    ·rename_i bs zb
     split at p
     ·rename_i j zj
      obtain⟨w,rfl,hw⟩:=RepL.one r
      cases (show w=.bl k from hw)
      obtain⟨a,ys,rfl,ha,sq,q,f⟩:=rs.items rx zc
      rw[Gah zb] at q
      cases Gai q
      exact⟨a,bs,k,j,rfl,rfl,f hc,zj,p mp H _ .refl rs rfl⟩
     ·exact p.elim
    ·exact p.elim
   ·rw[if_neg hc] at p; exact p.elim
  ·exact p.elim
 ·exact p.elim
theorem Gi6{e:Expr}(ho:JE X XQ o fo)(ha:JA X XQ [e] f)(hbase:attributeBase o "count" X.env (eval o X.env)=eval o X.env:=by rfl)(hfew:((backTo cpos (starEach [e] X.env)).all (fun x=>!x.1)&&(backToKw cpos (keywordEach [] X.env)).all (fun x=>x.1.isSome)
   && decide ([e].length+([]:List Keyword).length+(if([]:List Keyword).isEmpty then 0 else 1)<30))=true:=by rfl)(hline:(apos.endLine==cpos.line)=true:=by rfl)(hs:starEach [e] X.env=(false,eval e X.env)::starEach [] X.env:=by rfl):
  JE X XQ (.Call (.Attribute o "count" apos) [e] [] cpos) (mt Gez fo f):=Zt PySem.F.slot_list_count PySem.F.type_list_count Grx Gry ho ha hbase hfew hline hs rfl
theorem Gi7{e:Expr}(ho:JE X XQ o fo)(ha:JA X XQ [e] f)(hbase:attributeBase o "index" X.env (eval o X.env)=eval o X.env:=by rfl)(hfew:((backTo cpos (starEach [e] X.env)).all (fun x=>!x.1)&&(backToKw cpos (keywordEach [] X.env)).all (fun x=>x.1.isSome)
   && decide ([e].length+([]:List Keyword).length+(if([]:List Keyword).isEmpty then 0 else 1)<30))=true:=by rfl)(hline:(apos.endLine==cpos.line)=true:=by rfl)(hs:starEach [e] X.env=(false,eval e X.env)::starEach [] X.env:=by rfl):
  JE X XQ (.Call (.Attribute o "index" apos) [e] [] cpos) (mt Ge0 fo f):=Zt PySem.F.slot_list_index PySem.F.type_list_index Grz Gr0 ho ha hbase hfew hline hs rfl
end
def Gr1(K:PySem.W.Frag)(c:Addr):Bool:=
 (PySem.W.findIn K (.ref c) "__getattribute__"==some (some (.builtin "BaseException.__getattribute__")))&&((PySem.W.findIn K (.ref c) "__getattr__"==some none)&&((PySem.W.findIn K (.ref c) "__class__"==some (some (.builtin "object.__class__")))
  && ((PySem.W.clsIn K c).isSome&&((PySem.W.mroIn K c (.type "object")==some true)&&((PySem.W.subIn K (.ref c) (.type "BaseException")==some true)&&["bool","int","str","tuple","list"].all fun T=>PySem.W.kitOne K (.ref c) (.type T)==some false)))))
theorem Gr2{c:Addr}(h:Gr1 K c=true):XCl K c:=by
 unfold Gr1 at h
 simp only[Bool.and_eq_true,beq_iff_eq,List.all_eq_true] at h
 obtain⟨h1,h2,h3,h4,h5,h6,h7⟩:=h
 exact⟨h1,h2,h3,h4,h5,h6,h7⟩
def xrowB(K:PySem.W.Frag)(cs:Addr)(l:List (Str×Addr))(p:Str×Addr):Bool:=
 (PySem.W.nsIn K mainGlobals p.1==some (some (.ref p.2)))&&(Gr1 K p.2&&((PySem.W.exmOne K (.ref p.2) (.ref cs)==some true)&&((PySem.W.kitOne K (.ref p.2) (.type "ValueError")==some true)&&l.all fun q=>PySem.W.kitOne K (.ref p.2) (.ref q.2)==some (decide (p.1∈[q.1])))))
def Gi8(K:PySem.W.Frag)(cs:Addr)(l m:List (Str×Addr)):Bool:=(l.all fun p=>xrowB K cs m p)&&m.all fun q=>PySem.W.nsIn K mainGlobals q.1==some (some (.ref q.2))
structure XT(K:PySem.W.Frag)(mg:Str->Option Value)(sup:Str)(ys ms:List Str):Prop where
 cat:Cat K mg sup ys
 isx:∀ x∈ms,Isx K mg x ys [x]
 val:IsxB K "ValueError" ys ys
 xns:XNs K ys
theorem Guo{mg:Str->Option Value}{sup:Str}{cs:Addr}{l m:List (Str×Addr)}(X:K.In h)(G:h.Ns mainGlobals mg)(a:PySem.W.nsIn K mainGlobals sup=some (some (.ref cs)))(t:Gi8 K cs l m=true):XT K mg sup (l.map (·.1)) (m.map (·.1)):=by
 unfold Gi8 at t
 rw[Bool.and_eq_true] at t
 obtain⟨t,tm⟩:=t
 have qm:∀ r∈m,CN K r.1 r.2:=fun r hr=>beq_iff_eq.mp (List.all_eq_true.mp tm r hr)
 have q:∀ p∈l,CN K p.1 p.2/\XCl K p.2/\PySem.W.exmOne K (.ref p.2) (.ref cs)=some true/\PySem.W.kitOne K (.ref p.2) (.type "ValueError")=some true/\∀ r∈m,PySem.W.kitOne K (.ref p.2) (.ref r.2)=some (decide (p.1∈[r.1])):=fun p hp=>by
  have z:=List.all_eq_true.mp t p hp
  unfold xrowB at z
  simp only[Bool.and_eq_true,beq_iff_eq,List.all_eq_true] at z
  obtain⟨h1,h2,h3,h4,h5⟩:=z
  exact⟨h1,Gr2 h2,h3,h4,h5⟩
 refine⟨⟨cs,PySem.W.mg_of X G a,fun y hy=>?_⟩,fun x hx=>?_,⟨fun y hy=>?_⟩,fun y hy=>?_⟩
 ·obtain⟨p,hp,rfl⟩:=List.mem_map.mp hy
  obtain⟨h1,h2,h3,h4,h5⟩:=q p hp
  exact⟨p.2,h1,h2,h3⟩
 ·obtain⟨r,hr,rfl⟩:=List.mem_map.mp hx
  refine⟨r.2,PySem.W.mg_of X G (qm r hr),fun y hy=>?_⟩
  obtain⟨p,hp,rfl⟩:=List.mem_map.mp hy
  obtain⟨h1,h2,h3,h4,h5⟩:=q p hp
  exact⟨p.2,h1,h5 r hr⟩
 ·obtain⟨p,hp,rfl⟩:=List.mem_map.mp hy
  obtain⟨h1,h2,h3,h4,h5⟩:=q p hp
  exact⟨p.2,h1,by rw[h4,decide_eq_true hy]⟩
 ·obtain⟨p,hp,rfl⟩:=List.mem_map.mp hy
  obtain⟨h1,h2,h3,h4,h5⟩:=q p hp
  exact⟨p.2,h1,h2⟩
def kxB(K:PySem.W.Frag)(C:Addr):Bool:=match K.lookup C with
 | some ⟨.type "type",_,.cls cd,sl⟩=>(match cd.mro,sl.toList with
  | .ref C'::bm,[_,_,_,_,some (.builtin n),_]=>C'==C&&(!cd.hasDel&&(n=="ValueError.__new__"&&(bm.contains (.type "ValueError")&&(!bm.contains (.type "AttributeError")&&(!bm.contains (.type "NameError")&&bm.contains (.type "BaseException"))))))
  | _,_=>false)
 | _=>false
theorem Gup(q:kxB K C=true):KX K C:=by
 unfold kxB at q
 split at q
 ·rename_i dd cd sl ho
  split at q
  ·rename_i C' bm k0 k1 k2 k3 n k5 hm hs
   simp only[Bool.and_eq_true,beq_iff_eq,Bool.not_eq_true'] at q
   obtain⟨rfl,hdel,hn,h1,h2,h3,h4⟩:=q
   subst hn
   obtain⟨nm,bs,mro,ns,qn,hd,sn,sub,ab,col,del⟩:=cd
   dsimp only at hm hdel
   subst hm hdel
   have hsl:sl=#[k0,k1,k2,k3,some (.builtin "ValueError.__new__"),k5]:=by
    obtain⟨l⟩:=sl
    simp only at hs
    rw[hs]
   subst hsl
   exact⟨nm,qn,ns,bs,bm,hd,sn,sub,ab,col,dd,k0,k1,k2,k3,k5,ho,⟨h1,h2,h3,h4⟩⟩
  ·cases q
 ·cases q
section
variable{P:Program}{w:World}{K:PySem.W.Frag}{mg:Str->Option Value}{base:Heap}
structure IniX(P:Program)(w:World)(K:PySem.W.Frag)(mg:Str->Option Value)(base:Heap)(f:Addr)(j:Nat):Prop where
 ex:∃ fd ps oI,K.lookup f=some oI/\oI.cls=.type "function"/\FnOk P w K mg base CX0 j f fd ps (spI K)/\ps.length=2/\Binds K fd ps []
abbrev Goc(K:PySem.W.Frag):TS:=Ghm (tVI K (Gdk (Gge 0) (Gdk (Gge 1) Gpe)))
theorem ini_mk{f:Addr}{od an:Option Addr}{kV:Value}(l:K.lookup f=some ⟨.type "function",od,.func (PySem.W.fnOf "__init__" "SummitError.__init__" (Hx st) (Gx st) (Ge st) .none kV doc pm an cdv ct),osl⟩)(c:PySem.W.codeIn K cdv "SummitError.__init__"=true)(k:PySem.W.keepIn K (.ref f)=true)(Sc:FnScope ["self","text"] ["self","text"] (Ge st))(hb:∀ (f:Addr) (cdv:Value) (A:Around) (outer:List PySem.Env) (s:Shared) (H:Hp) (E:XK),PSs (Ko CX0 P w K mg base ["self","text"] "SummitError.__init__" (Ge st) f cdv A outer s H E).nox (Gx st) (Goc K))(bi:∀ (kV doc pm:Value) (an:Option Addr) (cdv ct:Value) (us:List Value),us.length=2->bindArgs (PySem.W.fnOf "__init__" "SummitError.__init__" (Hx st) (Gx st) (Ge st) .none kV doc pm an cdv ct) ⟨us,[]⟩=pure ((["self","text"]:List Str).zip us)):IniX P w K mg base f 1:=by
 have F:=Gac (st:=st) l c k
 refine⟨_,["self","text"],_,l,rfl,?_,rfl,F.binds bi⟩
 refine Fun.ok F Sc (fun vs H Q E ⟨e,v,C,dx,ev,_⟩=>by rw[ev]; rfl) fun cdv A outer s H vs Q E hr ⟨e,v,C,dx,ev,hH,kx,q⟩=>?_
 refine⟨_,hb _ cdv A outer s H E,?_⟩
 subst ev
 exact⟨.ref e,rfl,v,rfl,e,v,C,dx,rfl,hH,kx,q⟩
end
section
variable{X:Cx}{XQ:XW}
def Gww(i j:Int):Prop:=(-1000000000000<=i/\i<=1000000000000) /\ -1000000000000<=j/\j<=1000000000000
instance {i j:Int}:Decidable (Gww i j):=inferInstanceAs (Decidable ((-1000000000000<=i/\i<=1000000000000) /\ -1000000000000<=j/\j<=1000000000000))
end
structure FvT(K:PySem.W.Frag)(mg:Str->Option Value)(x:Str):Prop where
 ex:∃ f,CN K x f/\mg x=some (.ref f)
section
variable{prog:Program}{w:World}{A:Around}{E:Value->Shared->Prop}{K:PySem.W.Frag}{h:Heap}{g:Array GenState}{d:Drawn}{t:Nat}{os:OsState}{a c dx:Addr}
theorem Gi9{Q:Fin->Shared->Prop}(X:K.In h)(k:XCl K c)(na:PySem.W.findIn K (.ref c) "at"=some none)(hx:h.get? a=some oe)(hc:oe.cls=.ref c)(hd:oe.dict=some dx)(hf:oe.data=.fields vs)(hh:PySem.W.hasDictIn K c=true)(hn:h.Ns dx m)(hm:m "at"=some v)(hq:Q (.done (.ret v)) ⟨h,g,d,t,os⟩):
  wpAny (model prog w) A (Builtin.«object.__getattribute__» ⟨[.ref a,.str "at" tk],[]⟩) Q E ⟨h,g,d,t,os⟩:=by
 have L1:=fun(M:Model)=>PySem.W.looks_findIn (M:=M) X na
 repeat (any_goals (first | assumption | (with_reducible refine wpAny_loadPart_at hx ?_; rw[hc]) | with_reducible refine(L1 _).here ?_ | wp_step))
 rw[hf]
 obtain⟨cd,hcl,hcd⟩:=PySem.W.any_some hh
 show wpAny _ _ (instanceDict a false) _ _ _
 unfold instanceDict
 refine wpAny_bind (wpAny_loadPart_at hx ?_)
 rw[hc]
 refine wpAny_bind ((PySem.W.looks_clsIn X hcl).here ?_)
 rw[hcd,hd]
 refine wpAny_pure ?_
 show wpAny _ _ (nsGet dx "at") _ _ _
 refine wpAny_nsGet hn ?_
 rw[hm]
 repeat (any_goals (first | assumption | wp_step))
theorem Guq{fill expr:Bool}{Q:Value->Shared->Prop}{n:Int}{tv:Tok}(X:K.In h)(k:XCl K c)(na:PySem.W.findIn K (.ref c) "at"=some none)(hh:PySem.W.hasDictIn K c=true)(hx:h.get? a=some oe)(hc:oe.cls=.ref c)(hd:oe.dict=some dx)(hf:oe.data=.fields vs)(hn:h.Ns dx m)(hm:m "at"=some (.int n tv))(hq:Q (.int n tv) ⟨h,g,d,t,os⟩):wpAny (model prog w) A (getAttrBy (.ref a) (.str "at" tk) fill expr) Q E ⟨h,g,d,t,os⟩:=by
 have f3:=PySem.F.excAttr_ValueError.ga.bind (.ref a)
 have n0:(expr&&onTheHeap (Value.builtin "BaseException.__getattribute__"))=false:=by cases expr<;>rfl
 have n2:(Value.builtin "BaseException.__getattribute__"==Value.builtin "object.__getattribute__")=false:=by decide +kernel
 have n1:(onTheHeap (Value.ref c)&&Value.builtin "BaseException.__getattribute__"==Value.builtin "object.__getattribute__")=false:=by rw[n2]; rfl
 have L1:=fun(M:Model)=>PySem.W.looks_findIn (M:=M) X k.ga
 have L2:=fun(M:Model)=>PySem.W.looks_findIn (M:=M) X k.gt
 have x:XAt a c h:=⟨oe,hx,hc,vs,hf⟩
 repeat (any_goals (first | assumption | (with_reducible refine wpAny_loadPart_at hx ?_; rw[hc]) | with_reducible refine(L1 _).here ?_ | with_reducible refine(L2 _).here ?_ | wp_step))
 refine codeAny_call_builtin PySem.F.excAttr_ValueError.ga.plain F.entry_bexc_ga (Gdr X k x (Gi9 X k na hx hc hd hf hh hn hm ?_))
 repeat (any_goals (first | assumption | wp_step))
theorem Gr3{expr:Bool}{Q:Value->Shared->Prop}{n:Int}{tv:Tok}(X:K.In h)(k:XCl K c)(na:PySem.W.findIn K (.ref c) "at"=some none)(hh:PySem.W.hasDictIn K c=true)(hx:h.get? a=some oe)(hc:oe.cls=.ref c)(hd:oe.dict=some dx)(hf:oe.data=.fields vs)(hn:h.Ns dx m)(hm:m "at"=some (.int n tv))(hq:Q (.int n tv) ⟨h,g,d,t+1,os⟩):wpAny (model prog w) A (getAttr (.ref a) "at" expr) Q E ⟨h,g,d,t,os⟩:=by
 unfold getAttr
 repeat (any_goals (first | assumption | with_reducible apply Guq X k na hh hx hc hd hf hn hm | wp_step))
end
def Xt:List Value->Bool
 | .ref _::r=>Xt r
 | l=>l==[.type "ValueError",.type "Exception",.type "BaseException",.type "object"]
abbrev VE4:List Value:=[.type "ValueError",.type "Exception",.type "BaseException",.type "object"]
theorem Gd1{r:List Value}(h:∀ a,v≠.ref a)(q:Xt (v::r)=true):v::r=VE4:=by
 cases v<;>first | exact beq_iff_eq.mp q | exact absurd rfl (h _)
theorem Gb9(self:Value):∀ (l:List Value),Xt l=true->refuseLoop self "__setattr__" l=pure ()
 | [],q=>by cases q
 | v::r,q=>by
  by_cases c:∃ a,v=.ref a
  ·obtain⟨a,rfl⟩:=c
   rw[refuseLoop_ref]
   exact Gb9 self r q
  ·rw[Gd1 (fun a z=>c ⟨a,z⟩) q]
   exact PySem.F.store_ValueError.passes self
theorem Gja:∀ (l:List Value),Xt l=true->l.contains (.type "object")=true
 | [],q=>by cases q
 | v::r,q=>by
  by_cases c:∃ a,v=.ref a
  ·obtain⟨a,rfl⟩:=c
   rw[List.contains_cons,Gja r q,Bool.or_true]
  ·rw[Gd1 (fun a z=>c ⟨a,z⟩) q]
   decide
section
variable{prog:Program}{w:World}{A:Around}{K:PySem.W.Frag}{s:Shared}{x C:Addr}{R:Result->Shared->Prop}
theorem Gmp{ox:Obj}{od:Option Obj}{nm:Str}(X:K.In s.heap)(J:PySem.W.InstAt s.heap x ox C od)(hp:(PySem.W.clsIn K C).any (fun cd=>Xt cd.mro)=true)(na:PySem.W.findIn K (.ref C) nm=some none)(hq:wpAny (model prog w) A.in1 (Builtin.ObjectAttr.storeInOwnDict (.ref x) (.ref C) (.str nm tk) nm v false)
   (fun fin s'=>match fin with | .done f=>R (.ok f) s' | .again c'=>c'.quiet=true/\codeAny (model prog w) A c' R s') (fun e s'=>R (.error e) s') s):
  codeAny (model prog w) A (.call (.builtin "object.__setattr__") ⟨[.ref x,.str nm tk,v],[]⟩) R s:=by
 obtain⟨cd,hcl,hve⟩:=PySem.W.any_some hp
 have hE:cd.mro.isEmpty=false:=by
  cases z:cd.mro with
  | nil=>rw[z] at hve; cases hve
  | cons _ _=>rfl
 have isO:PySem.W.Looks (model prog w) s.heap (isInstance (.ref x) (.type "object")) true:=J.type.andThen (PySem.W.looks_mroIn X (by unfold PySem.W.mroIn; rw[hcl,Option.bind_some,hE,if_neg Bool.false_ne_true,Gja _ hve]))
 have so:=PySem.F.store_object
 refine codeAny_call_builtin so.slot.plain so.entry (@PySem.W.check_slot (model prog w) _ _ s "object.__setattr__" "object" "__setattr__" (.ref x) [.str nm tk,v] [] _ so.kind so.split isO (so.args (.ref x) (.str nm tk) v) ?_)
 rw[PySem.W.osa_eq,refuse_eq]
 refine wpAny_bind (wpAny_bind (J.type.here (wpAny_bind (PySem.W.Looks.here ((PySem.W.looks_clsIn X hcl).andThen .now) ?_))))
 rw[Gb9 _ _ hve]
 exact wpAny_pure (wpAny_bind (J.type.here (wpAny_bind ((PySem.W.looks_findIn X na).here (wpAny_bind (wpAny_pure hq))))))
set_option maxHeartbeats 1000000 in
theorem Gmq{sl:Array (Option Value)}{nm:Str}{Q:Fin->Shared->Prop}(X:K.In s.heap)(hh:PySem.W.hasDictIn K C=true)(hx:s.heap.get? x=some ⟨.ref C,none,.fields vs,sl⟩)(hq:∀ h' tk',h'.get? x=some ⟨.ref C,some s.heap.objs.size,.fields vs,sl⟩->h'.Ns s.heap.objs.size (fun y=>if y=nm then some v else none)->(∀ b o,b≠x->s.heap.get? b=some o->h'.get? b=some o)->Q (.done (.ret .none)) { s with heap:=h',toks:=tk' }):
  wpAny (model prog w) A (Builtin.ObjectAttr.storeInOwnDict (.ref x) (.ref C) (.str nm tk) nm v false) Q E s:=by
 obtain⟨cd,hcl,hcd⟩:=PySem.W.any_some hh
 have nx:x≠s.heap.objs.size:=Nat.ne_of_lt (Heap.lt_size hx)
 have x1:(s.heap.push { cls:=.type "dict",data:=.dict #[] }).get? x=some ⟨.ref C,none,.fields vs,sl⟩:=Heap.get?_push_of_some _ hx
 have x2:=Heap.get?_update_self (fun o:Obj=>{ cls:=o.cls,dict:=some s.heap.objs.size,data:=o.data,slots:=o.slots }) x1 rfl
 have d2:((s.heap.push { cls:=.type "dict",data:=.dict #[] }).update x fun o=>{ cls:=o.cls,dict:=some s.heap.objs.size,data:=o.data,slots:=o.slots }).get? s.heap.objs.size=some { cls:=.type "dict",data:=.dict #[] }:=
  (Heap.get?_update_other _ _ nx).trans (Heap.get?_push_size s.heap rfl)
 have nd:((s.heap.push { cls:=.type "dict",data:=.dict #[] }).update x fun o=>{ cls:=o.cls,dict:=some s.heap.objs.size,data:=o.data,slots:=o.slots }).Ns s.heap.objs.size (fun _=>none):=⟨_,#[],_,d2,rfl,fun e he=>absurd he (by simp),fun _=>rfl⟩
 have kp:∀ b o,b≠x->s.heap.get? b=some o->((s.heap.push { cls:=.type "dict",data:=.dict #[] }).update x fun o=>{ cls:=o.cls,dict:=some s.heap.objs.size,data:=o.data,slots:=o.slots }).get? b=some o:=fun b o hb q=>(Heap.get?_update_other _ _ (Ne.symm hb)).trans (Heap.get?_push_of_some _ q)
 unfold Builtin.ObjectAttr.storeInOwnDict
 generalize hS:Builtin.ObjectAttr.storeInDict=F
 repeat (any_goals (first | with_reducible refine wpAny_loadPart_at hx ?_ | with_reducible refine(PySem.W.looks_clsIn X hcl).here ?_ | wp_step))
 subst hS
 show wpAny _ _ (Builtin.ObjectAttr.storeInDict s.heap.objs.size (.str nm tk) nm v) _ _ _
 unfold Builtin.ObjectAttr.storeInDict Builtin.ObjectAttr.newKeyGuard
 refine wpAny_bind (wpAny_pure (wpAny_bind (wpAny_nsSet1 (Heap.Ns1.of_empty nd) fun h' n' sb=>?_)))
 obtain⟨oD,eD,pD,hD,dD,cD⟩:=n'.count (PySem.Within.cons nm v PySem.Within.nil)
 refine wpAny_bind (wpAny_lookBehind hD (by rw[dD]; exact pastItsLine_dict (Nat.le_trans cD (by rw[List.length_cons,List.length_nil,sizeLine_eq]; omega))) ?_)
 refine wpAny_pure (hq h' _ ((sb.2 x nx).trans x2) ?_ fun b o hb q=>(sb.2 b (Nat.ne_of_lt (Heap.lt_size q))).trans (kp b o hb q))
 exact n'.ns
end
structure KA(K:PySem.W.Frag)(C:Addr):Prop where
 sa:PySem.W.findIn K (.ref C) "__setattr__"=some (some (.builtin "object.__setattr__"))
 ve:(PySem.W.clsIn K C).any (fun cd=>Xt cd.mro)=true
 na:PySem.W.findIn K (.ref C) "at"=some none
 hd:PySem.W.hasDictIn K C=true
section
variable{X:Cx}{pins:List (Addr×Obj)}{σ:L2.St}{H:Hp}{s:Shared}{C e:Addr}
theorem Gmr{d:Addr}{n:Int}(h1 h2:Heap)(q:∃ t,h1.Ns d fun y=>if y="at" then some (.int n t) else none)(k:∀ o,h1.get? d=some o->h2.get? d=some o):∃ t,h2.Ns d fun y=>if y="at" then some (.int n t) else none:=by
 obtain⟨t,o,es,ep,ho,r⟩:=q
 exact⟨t,o,es,ep,k _ ho,r⟩
theorem Gr4{n:Int}{t:Tok}{Q:Unit->Shared->Prop}(I:Inv X pins σ H s)(ka:KA X.K C)(hH:H e=some (FX e C none))(h:∀ s' d,H d=none->d≠e->Inv X pins σ (upd (upd H e (FX e C (some d))) d (XA d n)) s'->Q () s'):
  wpAny (model X.prog X.w) A (setAttr (.ref e) "at" (.int n t)) Q E s:=by
 obtain⟨⟨t0,he⟩,_,_⟩:=(show Jm X.prog X.w H s.heap e (FX e C none) from I.hok e _ hH)
 have J:PySem.W.InstAt s.heap e ⟨.ref C,none,.fields #[.ref t0,.none,.none,.none,.bool false,.none],#[]⟩ C none:=⟨he,rfl,rfl,trivial⟩
 refine PySem.W.set_plain I.kIn J ka.sa (Gmp (s:={ s with toks:=s.toks+1 }) I.kIn J ka.ve ka.na (Gmq (s:={ s with toks:=s.toks+1 }) I.kIn ka.hd he fun h' tk' g1 n1 kp=>?_))
 have hn:H s.heap.objs.size=none:=I.hok.fresh (Nat.le_refl _)
 have hdn:s.heap.get? s.heap.objs.size=none:=Heap.get?_none_of_le (Nat.le_refl _)
 have hne:s.heap.objs.size≠e:=Nat.ne_of_gt (Heap.lt_size he)
 have I1:=I.write (h':=h') (x:=e) (e:=e) (o:=FX e C (some s.heap.objs.size)) (t':=tk') (by rw[hH]; exact trivial) (.inl rfl) (fun b u hb hu=>kp b u hb hu) ⟨_,g1⟩ (Giy ⟨_,g1⟩)
 refine h _ s.heap.objs.size hn hne (Gdz (φ:=fun h=>∃ t,h.Ns s.heap.objs.size fun y=>if y="at" then some (.int n t) else none) I1 (by rw[Gr hne]; exact hn) (Heap.get?_none_of_le I.sz) (fun z=>?_) (fun x c hc z=>?_) (fun p hp z=>?_) ⟨t,n1⟩ (let ⟨o,_,_,q,_⟩:=n1; ⟨o,q⟩) Gmr)
 ·obtain⟨m,⟨o,es,ep,ho,_⟩,_⟩:=I.loc
  rw[<- z,hdn] at ho
  cases ho
 ·obtain⟨v,o,ho,_⟩:=I.cell x c hc
  rw[z,hdn] at ho
  cases ho
 ·obtain⟨q1,_⟩:=I.pin p hp
  rw[z,hdn] at q1
  cases q1
def sAt(K:PySem.W.Frag)(ta tv:TE):TS:=fun D σ H=>tv σ H fun y H1=>ta σ H1 fun x H2=>∃ e C n,x=.ref e/\y=.int n/\H2 e=some (FX e C none)/\KA K C/\∀ d,H2 d=none->d≠e->D.nx σ (upd (upd H2 e (FX e C (some d))) d (XA d n))
theorem Gur{value:Expr}{ta tv:TE}(ha:PE X o ta)(hv:PE X value tv)(hs:swapsWith value (some (.Attribute o "at" pos')) pos.line X.env=pure false:=by rfl):PS X (.Assign [.Attribute o "at" pos'] value pos) (sAt X.K ta tv):=by
 intro pins s σ H D I h
 refine plainObj_wpAny_Assign_Attribute (thn (hv pins s σ H _ I h) fun u s1 ⟨y,H1,I1,ry,q⟩=>thn (ha pins s1 σ H1 _ I1 q) fun ov s2 ⟨x,H2,I2,rx,e,C,n,ex,ey,hH,ka,q2⟩=>?_) hs
 subst ex ey
 obtain rfl:ov=Value.ref e:=rx
 obtain⟨t,rfl⟩:=(show ∃ t,u=Value.int n t from ry)
 exact Gr4 I2 ka hH fun s3 d hd hne I3=>⟨σ,_,I3,q2 d hd hne⟩
structure BaseI(K:PySem.W.Frag)(mg:Str->Option Value)(x:Str)(f:Addr):Prop where
 ex:∃ cs mc,mg x=some (.ref cs)/\PySem.W.readsIn K cs mc=true/\PySem.W.findCls K (.ref cs) mc "__init__"=some (.val (.ref f))/\PySem.W.specialIn K (.ref cs) "__getattribute__"=some (some (.builtin "type.__getattribute__"))/\PySem.W.keepIn K (.ref f)=true
theorem Gjb{f:Addr}{t:TA}(hg:Gl X x)(hdb:(x==("__debug__":Str))=false)(bi:BaseI X.K X.mg x f)(F:FnOk X.prog X.w X.K X.mg X.base CX0 j f fd ps (spI X.K))(hl:ps.length=2)(hr:Room k X.A)(hj:j<=k)(hb:Binds X.K fd ps [])(ha:PA X [a,b] t)(ht:eval (.Call (.Attribute (.Name x p) "__init__" apos) [a,b] [] pos) X.env=(do
   let ov <- eval (.Name x p) X.env
   standAt apos.atName
   let (f,first) <- holding [ov] (getMethod ov "__init__" pl)
   callWith pos f first (backTo pos (starEach [a,b] X.env)) (backToKw pos (keywordEach [] X.env))))(hs:starEach [a,b] X.env=(false,eval a X.env)::starEach [b] X.env:=by rfl)(hpl:(backTo pos (starEach [b] X.env)).any (·.1)=false:=by rfl):
  PE X (.Call (.Attribute (.Name x p) "__init__" apos) [a,b] [] pos) (tVI X.K t):=by
 intro pins s σ H Q I h
 obtain⟨cs,mc,hm,rd,fc,sg,kp⟩:=bi.ex
 refine PySem.W.methodCall_KW (pl:=pl) (Xi I hg hm ?_ hdb) ht
 refine PySem.W.method_cls I.kIn sg (PySem.W.cls_value I.kIn rd fc rfl ?_)
 have I0:Inv X pins σ H { s with toks:=s.toks+1 }:=I.tok _
 refine PySem.W.callWith_K (h₀:=X.base) I0.ok.mod.kin kp (thn (ha pos pins _ σ H _ I0 h) fun us s1 ⟨vs,H1,I1,r,e,v,C,dx,ev,hH,kx,q⟩=>⟨I1.kIn,?_⟩) hs hpl
 exact Ghv (dvs:=[]) (ds:=[]) (E:=E0) (F.mono hj) hr hb .nil (fun _ _ _ _ _ _ _ z=>z.elim) I1 r (by rw[List.append_nil]; exact⟨e,v,C,dx,ev,hH,kx,q⟩)
end
def spJ(K:PySem.W.Frag):Sp:=fun vs H Q _=>∃ e n C,vs=[.ref e,.int n]/\H e=some (FX e C none)/\(KX K C/\KA K C)/\∀ d,H d=none->d≠e->Q .non (upd (upd H e (FX e C (some d))) d (XA d n))
abbrev Gjc(K:PySem.W.Frag)(x:Str):TS:=Gte (Ghm (tVI K (Gdk (Gge 0) (Gdk (tC (.str x)) Gpe)))) (sAt K (Gge 0) (Gge 1))
section
variable{P:Program}{w:World}{K:PySem.W.Frag}{mg:Str->Option Value}{base:Heap}
structure IniJ(P:Program)(w:World)(K:PySem.W.Frag)(mg:Str->Option Value)(base:Heap)(f:Addr)(j:Nat):Prop where
 ex:∃ fd ps oI,K.lookup f=some oI/\oI.cls=.type "function"/\FnOk P w K mg base CX0 j f fd ps (spJ K)/\ps.length=2/\Binds K fd ps []
theorem inj_mk{q:Str}{f:Addr}{od an:Option Addr}{kV:Value}(k:Nat)(l:K.lookup f=some ⟨.type "function",od,.func (PySem.W.fnOf "__init__" q (Hx st) (Gx st) (Ge st) .none kV doc pm an cdv ct),osl⟩)(c:PySem.W.codeIn K cdv q=true)(kp:PySem.W.keepIn K (.ref f)=true)(Sc:FnScope ["self","at"] ["self","at"] (Ge st))(hb:∀ (f:Addr) (cdv:Value) (A:Around) (outer:List PySem.Env) (s:Shared) (H:Hp) (E:XK),Room k (A.deeper (envOfC q (Ge st) s.heap.objs.size f cdv))->PSs (Ko CX0 P w K mg base ["self","at"] q (Ge st) f cdv A outer s H E).nox (Gx st) (Gjc K x))(bi:∀ (kV doc pm:Value) (an:Option Addr) (cdv ct:Value) (us:List Value),us.length=2->bindArgs (PySem.W.fnOf "__init__" q (Hx st) (Gx st) (Ge st) .none kV doc pm an cdv ct) ⟨us,[]⟩=pure ((["self","at"]:List Str).zip us)):IniJ P w K mg base f (k+1):=by
 have F:=Gac (st:=st) l c kp
 refine⟨_,["self","at"],_,l,rfl,?_,rfl,F.binds bi⟩
 refine Fun.ok F Sc (fun vs H Q E ⟨e,n,C,ev,_⟩=>by rw[ev]; rfl) fun cdv A outer s H vs Q E hr ⟨e,n,C,ev,hH,⟨kx,ka⟩,q⟩=>?_
 refine⟨_,hb _ cdv A outer s H E hr,?_⟩
 subst ev
 exact⟨.ref e,rfl,e,.str x,C,none,rfl,hH,kx,.int n,rfl,.ref e,rfl,e,C,n,rfl,rfl,hH,ka,fun d hd hne=>q d hd hne⟩
end
section
variable{X:Cx}{pins:List (Addr×Obj)}{σ:L2.St}{H:Hp}{s:Shared}{C f:Addr}{fd:FuncData}{ps:List Str}{k:Nat}
theorem Gr5{n:Int}{u:Value}(kx:KX X.K C)(ka:KA X.K C)(hi:PySem.W.findIn X.K (.ref C) "__init__"=some (some (.ref f)))(lf:X.K.lookup f=some oI)(hfc:oI.cls=.type "function")(F:FnOk X.prog X.w X.K X.mg X.base CX0 k f fd ps (spJ X.K))(hl:ps.length=2)(hr:Room (k+1) X.A)(hb:Binds X.K fd ps [])(I:Inv X pins σ H s)(rv:Hc (.int n) u):
  wpAny (model X.prog X.w) X.A (call (.ref C) [u]) (fun r s'=>∃ e d,r=.ref e/\(H e=none/\H d=none/\d≠e/\X.s₀.heap.get? e=none)/\Inv X pins σ (upd (upd (upd H e (FX e C none)) e (FX e C (some d))) d (XA d n)) s') X.xe s:=by
 obtain⟨nm,qn,N,bs,bm,hdct,sn,sub,ab,col,dd,k0,k1,k2,k3,k5,lk,xb⟩:=kx.ex
 obtain⟨hp,g,d,tk,os⟩:=s
 refine Grn xb I.kIn (I.kIn _ _ lk) hi (I.kIn _ _ lf) hfc fun h' e le hm=>?_
 have hn:H e=none:=I.hok.fresh le
 have h0:X.s₀.heap.get? e=none:=Heap.get?_none_of_le (Nat.le_trans I.sz le)
 obtain⟨t,ht,_,_⟩:=hm.there
 have I1:Inv X pins σ (upd H e (FX e C none)) ⟨h',g,d,tk,os⟩:=I.laid (t':=tk) hm.keeps le (Giy ⟨t,ht⟩)
 refine wpAny_call (codeAny_mono (F.run (X.A.under (.builtin "type.__call__" ⟨[.ref C,u],[]⟩)) X.stack ⟨h',g,d,tk,os⟩ (upd H e (FX e C none)) ⟨[.ref e,u],[]⟩ [.ref e,u] [.ref e,.int n] (fun v' H'=>v'=.non/\∃ d,upd H e (FX e C none) d=none/\d≠e/\H'=upd (upd (upd H e (FX e C none)) e (FX e C (some d))) d (XA d n)) E0
  (hr.make C [u] []) (I1.env0.make C [u] []) (by have:=hb ⟨h',g,d,tk,os⟩ [.ref e,u] I1.kIn (by simpa using hl.symm); simpa using this) (.cons rfl (.cons rv .nil)) ⟨e,n,C,rfl,Hu,⟨kx,ka⟩,fun d hd hne=>⟨rfl,d,hd,hne,rfl⟩⟩) fun r s' hq=>?_)
 cases r with
 | error x=>exact hq.elim
 | ok fl=>
  cases fl with
  | ret u'=>
   obtain⟨v',H',I',r',e1,d,hd,hne,e2⟩:=I1.after hq
   subst e1 e2
   exact⟨r',e,d,rfl,⟨hn,by rw[Gr hne] at hd; exact hd,hne,h0⟩,I'⟩
  | next=>exact hq.elim
  | brk=>exact hq.elim
  | cont=>exact hq.elim
def tRj(C:Addr)(W:L2.St->Hp->Addr->Option Addr->Prop)(t:TA):TS:=fun _ σ H=>t σ H fun vs H1=>∃ n,vs=[.int n]/\∀ e d,H1 e=none->H1 d=none->d≠e->W σ (upd (upd (upd H1 e (FX e C none)) e (FX e C (some d))) d (XA d n)) e (some d)
theorem Gg6{W:L2.St->Hp->Addr->Option Addr->Prop}{t:TA}(hW:∀ (pins:List (Addr×Obj)) (σ:L2.St) (H:Hp) (e:Addr) (dx:Option Addr) (s':Shared),Inv X pins σ H s'->H e=some (FX e C dx)->X.s₀.heap.get? e=none->W σ H e dx->X.xe (.ref e) s')(hcm:X.calm=true)(hg:Gl X x)(hm:X.mg x=some (.ref C))(kx:KX X.K C)(ka:KA X.K C)(hi:PySem.W.findIn X.K (.ref C) "__init__"=some (some (.ref f)))(lf:X.K.lookup f=some oI)(hfc:oI.cls=.type "function")(F:FnOk X.prog X.w X.K X.mg X.base CX0 k f fd ps (spJ X.K))(hl:ps.length=2)(hr:Room (k+1) X.A)(hb:Binds X.K fd ps [])(ha:PA X [a] t)(hdb:(x==("__debug__":Str))=false:=by decide)(he:starEach [a] X.env=(false,eval a X.env)::starEach [] X.env:=by rfl)(hpl:(backTo cpos (starEach [] X.env)).any (·.1)=false:=by rfl):
  PS X (.Raise (some (.Call (.Name x np) [a] [] cpos)) none pos) (tRj C W t):=by
 intro pins s σ H D I h
 obtain⟨nm,qn,N,bs,bm,hdct,sn,sub,ab,col,dd,k0,k1,k2,k3,k5,lk,xb⟩:=id kx.ex
 refine Gmh (C:=C) (nm:=nm) (q:=qn) (N:=N) (bs:=bs) (bm:=bm) (hdct:=hdct) (sn:=sn) (sub:=sub) (ab:=ab) (col:=col) (dd:=dd) (k0:=k0) (k1:=k1) (k2:=k2) (k3:=k3) (k5:=k5) (newId:="ValueError.__new__") xb (I.ok.hd hcm) (Xi I hg hm ⟨rfl,?_⟩ hdb) he hpl
 refine thn (ha cpos pins s σ H _ I h) fun us s1 ⟨vs,H1,I1,r1,n,ev,q⟩=>⟨I1.kIn _ _ lk,?_⟩
 subst ev
 obtain⟨u,rfl,rv⟩:=Zd r1
 refine thn (Gr5 kx ka hi lf hfc F hl hr hb I1 rv) fun r s2 ⟨e,d,er,⟨hn,hd,hne,h0⟩,I2⟩=>?_
 subst er
 have hH:upd (upd (upd H1 e (FX e C none)) e (FX e C (some d))) d (XA d n) e=some (FX e C (some d)):=by rw[Gr (Ne.symm hne),Hu]
 obtain⟨fr,_,_⟩:=(show Jm X.prog X.w _ s2.heap e (FX e C (some d)) from I2.hok e _ hH)
 exact⟨e,some d,rfl,I2.kIn _ _ lk,fr,hW pins σ _ e (some d) s2 I2 hH h0 (q e d hn hd hne)⟩
def srj(y:Str)(f:Ev (List D)):Sv:=fun ρ S=>bindS (f ρ S) ρ fun ds S1=>match ds with
 | [.int n]=>.exc ⟨y,some n⟩ ρ S1
 | _=>.bad
structure ClJ(P:Program)(w:World)(K:PySem.W.Frag)(mg:Str->Option Value)(base:Heap)(x:Str)(j:Nat):Prop where
 ex:∃ C f fd ps oI,mg x=some (.ref C)/\CN K x C/\(KX K C/\KA K C)/\PySem.W.findIn K (.ref C) "__init__"=some (some (.ref f))/\K.lookup f=some oI/\oI.cls=.type "function"/\FnOk P w K mg base CX0 j f fd ps (spJ K)/\ps.length=2/\Binds K fd ps []
theorem Gg7(L:XL X XQ)(hcm:X.calm=true)(C:ClJ X.prog X.w X.K X.mg X.base x j)(hr:Room k X.A)(hg:Gl X x)(hp:Hf x=true)(ha:JA X XQ [a] t)(hj:j+1<=k:=by decide)(he:starEach [a] X.env=(false,eval a X.env)::starEach [] X.env:=by rfl)(hpl:(backTo cpos (starEach [] X.env)).any (·.1)=false:=by rfl):
  JS X XQ (.Raise (some (.Call (.Name x np) [a] [] cpos)) none pos) (srj x t):=by
 obtain⟨C,f,fd,ps,oI,hm,hc,⟨kx,ka⟩,hi,lf,hfc,F,hl,hb⟩:=C.ex
 refine PS.mono (Gg6 (W:=fun σ H e dx=>WX X.K XQ σ C dx (del H e)) (fun pins σ H e dx s' I hH h0 w=>L.own1 pins σ H s' e C dx I hH h0 w) hcm hg hm kx ka hi lf hfc F hl (hr.mono hj) hb ha (Hf.of hp).1 he hpl) fun E σ H ⟨mp,ρ,S,G,p⟩=>?_
 refine bindSP G p fun mp1 H1 ds S1 vs a1 G1 r1 p1=>?_
 split at p1
 ·rename_i n
  obtain⟨v,rfl,hv⟩:=RepL.one r1
  cases (show v=.int n from hv)
  refine⟨n,rfl,fun e d he hd hne=>⟨⟨x,some n⟩,mp1,ρ,S1,⟨fun i z=>⟨d,rfl,?_⟩,fun z=>nomatch z⟩,hc,?_⟩⟩
  ·cases z
   rw[Kr hne,Hu]
  ·have e1:del (upd (upd (upd H1 e (FX e C none)) e (FX e C (some d))) d (XA d n)) e=upd H1 d (XA d n):=by
    funext b
    by_cases c:b=e
    ·rw[c,Ky,Gr (Ne.symm hne),he]
    ·rw[Kr c]
     by_cases c2:b=d
     ·rw[c2,Hu,Hu]
     ·rw[Gr c2,Gr c2,Gr c,Gr c]
   rw[e1]
   exact p1 mp1 _ σ (Ql hd) (G1.aft (Ql hd) (G1.rs.new hd))
 ·exact p1.elim
def tAt(K:PySem.W.Frag)(ta:TE):TE:=fun σ H Q=>ta σ H fun x H1=>∃ a C d n,x=.ref a/\XCl K C/\H1 a=some (XO a C (some d))/\H1 d=some (XA d n)/\PySem.W.findIn K (.ref C) "at"=some none/\PySem.W.hasDictIn K C=true/\Q (.int n) H1
theorem Gus{e:Expr}{ta:TE}(he:PE X e ta)(hb:attributeBase e "at" X.env (eval e X.env)=eval e X.env):PE X (.Attribute e "at" pos) (tAt X.K ta):=by
 intro pins s σ H Q I h
 refine Gkv hb (thn (he pins s σ H _ I h) fun u s1 ⟨x,H1,I1,rx,a,C,d,n,ex,xc,ha,hd,na,hh,q⟩=>?_)
 subst ex
 obtain rfl:u=Value.ref a:=rx
 obtain⟨⟨oe,g1,g2,g3,vs,g4⟩,_,_⟩:=(show Jm X.prog X.w H1 s1.heap a (XO a C (some d)) from I1.hok a _ ha)
 obtain⟨⟨t,hn⟩,_,_⟩:=(show Jm X.prog X.w H1 s1.heap d (XA d n) from I1.hok d _ hd)
 obtain⟨hp,g,dr,tk,os⟩:=s1
 exact Gr3 I1.kIn xc na hh g1 g2 g3 g4 hn (if_pos rfl) ⟨.int n,H1,I1.tok _,⟨_,rfl⟩,q⟩
def atD(ms:List Str)(x:D)(S:Sto):Out D:=match x with
 | .exn y (some n)=>if y∈ms then .ok (.int n) S else .bad
 | _=>.bad
def AtC(K:PySem.W.Frag)(ms:List Str):Prop:=∀ y∈ms,∃ C,CN K y C/\PySem.W.findIn K (.ref C) "at"=some none/\PySem.W.hasDictIn K C=true
theorem Gut{e:Expr}{f:Ev D}{ms:List Str}(ac:AtC X.K ms)(he:JE X XQ e f)(hb:attributeBase e "at" X.env (eval e X.env)=eval e X.env:=by rfl):JE X XQ (.Attribute e "at" pos) (o1 (atD ms) f):=by
 refine PE.mono (Gus he hb) fun σ H Q ⟨mp,ρ,S,G,p⟩=>?_
 refine bindP G p fun mp1 H1 d S1 v a1 G1 r1 p1=>?_
 cases d with
 | exn y fl=>
  cases fl with
  | none=>exact p1.elim
  | some n=>
   by_cases hy:y∈ms
   ·have p1:Post X.K XQ σ ρ mp1 H1 (.ok (.int n) S1) Q:=by simpa only[atD,if_pos hy] using p1
    obtain⟨a,dx,C,rfl,⟨hc,xc,hH⟩,hfl⟩:=(show ∃ a dx p,v=.ref a/\(CN X.K y p/\XCl X.K p/\H1 a=some (XO a p dx))/\∀ i,some n=some i->∃ d,dx=some d/\H1 d=some (XA d i) from r1)
    obtain⟨d,rfl,hd⟩:=hfl n rfl
    obtain⟨C',hc',na,hh⟩:=ac y hy
    cases CN.one hc hc'
    exact⟨a,C,d,n,rfl,xc,hH,hd,na,hh,Gk.ok (R:=Rep X.K) p1 G1.rs rfl⟩
   ·have p1:Post X.K XQ σ ρ mp1 H1 .bad Q:=by simpa only[atD,if_neg hy] using p1
    exact p1.elim
 | _=>exact p1.elim
end
def atB(K:PySem.W.Frag)(l:List (Str×Addr)):Bool:=l.all fun p=>(PySem.W.nsIn K mainGlobals p.1==some (some (.ref p.2)))&&((PySem.W.findIn K (.ref p.2) "at"==some none)&&PySem.W.hasDictIn K p.2)
theorem Guu{l:List (Str×Addr)}(t:atB K l=true):AtC K (l.map (·.1)):=fun y hy=>by
 obtain⟨p,hp,rfl⟩:=List.mem_map.mp hy
 have z:=List.all_eq_true.mp t p hp
 simp only[Bool.and_eq_true,beq_iff_eq] at z
 exact⟨p.2,z.1,z.2.1,z.2.2⟩
def Gr6(K:PySem.W.Frag)(C f:Addr):Bool:=kxB K C&&((PySem.W.findIn K (.ref C) "__init__"==some (some (.ref f)))&&((PySem.W.findIn K (.ref C) "__setattr__"==some (some (.builtin "object.__setattr__")))&&(((PySem.W.clsIn K C).any fun cd=>Xt cd.mro)&&((PySem.W.findIn K (.ref C) "at"==some none)&&PySem.W.hasDictIn K C))))
theorem Gr7{mg:Str->Option Value}{base:Heap}{f:Addr}(X:K.In h)(G:h.Ns mainGlobals mg)(i:IniJ P w K mg base f j)(a:PySem.W.nsIn K mainGlobals x=some (some (.ref C)))(t:Gr6 K C f=true):ClJ P w K mg base x j:=by
 obtain⟨fd,ps,oI,l,c,F,n,b⟩:=i.ex
 unfold Gr6 at t
 simp only[Bool.and_eq_true,beq_iff_eq] at t
 exact⟨C,f,fd,ps,oI,PySem.W.mg_of X G a,a,⟨Gup t.1,⟨t.2.2.1,t.2.2.2.1,t.2.2.2.2.1,t.2.2.2.2.2⟩⟩,t.2.1,l,c,F,n,b⟩
section
variable{P:Program}{w:World}{A:Around}{E:Value->Shared->Prop}{env:PySem.Env}{s:Shared}
variable{nm q:Str}{C N:Addr}{bs bm:List Value}{hdct:Bool}{sn:List Str}{sub:List Value}{ab:Bool}{col:Option Bool}{dd:Option Addr}{k0 k1 k2 k3 k5:Option Value}{newId:String}
end
structure RoomQ(k:Nat)(A:Around):Prop where
 dp:A.depth+3*k+5<recursionLimit
 un:A.units+16*k+200<cLine
 gd:A.guards=some []
structure FnQ(P:Program)(w:World)(K:PySem.W.Frag)(mg:Str->Option Value)(base:Heap)(k:Nat)(f:Addr)(fd:FuncData)(ps:List Str)(sp:Sp):Prop where
 len:∀ vs H Q E,sp vs H Q E->vs.length=ps.length
 run:∀ (A:Around) (outer:List PySem.Env) (s:Shared) (H:Hp) (args:Args) (us:List Value) (vs:List V) (Q:VK) (E:XK),RoomQ k A->Env0 P w K mg base A outer s H->BindsTo s fd args (ps.zip us)->Vals vs us->sp vs H Q E→
  codeAny (model P w) A (.call (.ref f) args) (CR CX0 outer P w H s Q E) s
section
variable{P:Program}{w:World}{K:PySem.W.Frag}{mg:Str->Option Value}{base:Heap}
structure IniXQ(P:Program)(w:World)(K:PySem.W.Frag)(mg:Str->Option Value)(base:Heap)(f:Addr)(j:Nat):Prop where
 ex:∃ fd ps oI,K.lookup f=some oI/\oI.cls=.type "function"/\FnQ P w K mg base j f fd ps (spI K)/\ps.length=2/\Binds K fd ps []
structure IniJQ(P:Program)(w:World)(K:PySem.W.Frag)(mg:Str->Option Value)(base:Heap)(f:Addr)(j:Nat):Prop where
 ex:∃ fd ps oI,K.lookup f=some oI/\oI.cls=.type "function"/\FnQ P w K mg base j f fd ps (spJ K)/\ps.length=2/\Binds K fd ps []
end
section
variable{X:Cx}{pins:List (Addr×Obj)}{σ:L2.St}{H:Hp}{s:Shared}{C f:Addr}{fd:FuncData}{ps:List Str}{k:Nat}
structure ClJQ(P:Program)(w:World)(K:PySem.W.Frag)(mg:Str->Option Value)(base:Heap)(x:Str)(j:Nat):Prop where
 ex:∃ C f fd ps oI,mg x=some (.ref C)/\CN K x C/\(KX K C/\KA K C)/\PySem.W.findIn K (.ref C) "__init__"=some (some (.ref f))/\K.lookup f=some oI/\oI.cls=.type "function"/\FnQ P w K mg base j f fd ps (spJ K)/\ps.length=2/\Binds K fd ps []
end
abbrev hx(X:Cx)(a:Addr):Cx:={ X with A:=X.A.mark (some (.ref a)),calm:=false }
structure GE(X:Cx)(XQ:XW)(e:Expr)(f:Ev D):Prop where
 h:JE X XQ e f
structure GA(X:Cx)(XQ:XW)(es:List Expr)(f:Ev (List D)):Prop where
 h:JA X XQ es f
structure GT(X:Cx)(XQ:XW)(e:Expr)(f:Ev Bool):Prop where
 h:JT X XQ e f
structure GW(X:Cx)(XQ:XW)(e:Expr)(f:Ev Bool):Prop where
 h:JW X XQ e f
structure GO(X:Cx)(XQ:XW)(e:Option Expr)(f:Ev (Option Int)):Prop where
 h:JO X XQ e f
structure GS(X:Cx)(XQ:XW)(st:Stmt)(f:Sv):Prop where
 h:JS X XQ st f
structure GSs(X:Cx)(XQ:XW)(st:List Stmt)(f:Sv):Prop where
 h:JSs X XQ st f
structure GI(X:Cx)(XQ:XW)(tg it:Expr)(f:Ev Src):Prop where
 h:JI X XQ tg it f
structure GG(X:Cx)(tg:Expr)(g:Tg):Prop where
 h:JG X tg g
structure GGs(X:Cx)(ts:List Expr)(g:Tgs):Prop where
 h:JGs X ts g
structure GTs(Y:Cx)(XQ:XW)(ifs:List Expr)(t:Ev Bool):Prop where
 h:JTs Y XQ ifs t
theorem Guv{e:Expr}{f:Ev D}{ms:List Str}(ac:AtC X.K ms)(he:GE X XQ e f)(hb:attributeBase e "at" X.env (eval e X.env)=eval e X.env:=by rfl):GE X XQ (.Attribute e "at" pos) (o1 (atD ms) f):=⟨Gut ac he.h hb⟩
theorem Gr8{ys:List Str}{e:Expr}{f:Ev D}(k:Isx X.K X.mg x ys sub)(hg:Gl X "isinstance")(hm:X.mg "isinstance"=none)(hgt:Gl X x)(hp:Hf x=true)(he:GE X XQ e f)(hs:starEach [e,.Name x p2] X.env=(false,eval e X.env)::starEach [.Name x p2] X.env)(hpl:(backTo pos (starEach [.Name x p2] X.env)).any (·.1)=false)(hs2:starEach [.Name x p2] X.env=(false,eval (.Name x p2) X.env)::starEach [] X.env):GE X XQ (.Call (.Name "isinstance" p) [e,.Name x p2] [] pos) (o1 (Jo ys sub) f):=⟨Grw k hg hm hgt hp he.h hs hpl hs2⟩
theorem Gms{ys:List Str}{e:Expr}{f:Ev D}(k:IsxB X.K T ys sub)(hv:bootBuiltins x=some (.type T))(hnx:x≠"__name__")(hg:Gl X "isinstance")(hm:X.mg "isinstance"=none)(hgt:Gl X x)(hmt:X.mg x=none)(hp:Hf x=true)(he:GE X XQ e f)(hs:starEach [e,.Name x p2] X.env=(false,eval e X.env)::starEach [.Name x p2] X.env)(hpl:(backTo pos (starEach [.Name x p2] X.env)).any (·.1)=false)(hs2:starEach [.Name x p2] X.env=(false,eval (.Name x p2) X.env)::starEach [] X.env):GE X XQ (.Call (.Name "isinstance" p) [e,.Name x p2] [] pos) (o1 (Jo ys sub) f):=⟨Gmo k hv hnx hg hm hgt hmt hp he.h hs hpl hs2⟩
theorem Gjd{e:Expr}(ho:GE X XQ o fo)(ha:GA X XQ [e] f)(hbase:attributeBase o "count" X.env (eval o X.env)=eval o X.env:=by rfl)(hfew:((backTo cpos (starEach [e] X.env)).all (fun x=>!x.1)&&(backToKw cpos (keywordEach [] X.env)).all (fun x=>x.1.isSome)
   && decide ([e].length+([]:List Keyword).length+(if([]:List Keyword).isEmpty then 0 else 1)<30))=true:=by rfl)(hline:(apos.endLine==cpos.line)=true:=by rfl)(hs:starEach [e] X.env=(false,eval e X.env)::starEach [] X.env:=by rfl):GE X XQ (.Call (.Attribute o "count" apos) [e] [] cpos) (mt Gez fo f):=⟨Gi6 ho.h ha.h hbase hfew hline hs⟩
theorem Gje{e:Expr}(ho:GE X XQ o fo)(ha:GA X XQ [e] f)(hbase:attributeBase o "index" X.env (eval o X.env)=eval o X.env:=by rfl)(hfew:((backTo cpos (starEach [e] X.env)).all (fun x=>!x.1)&&(backToKw cpos (keywordEach [] X.env)).all (fun x=>x.1.isSome)
   && decide ([e].length+([]:List Keyword).length+(if([]:List Keyword).isEmpty then 0 else 1)<30))=true:=by rfl)(hline:(apos.endLine==cpos.line)=true:=by rfl)(hs:starEach [e] X.env=(false,eval e X.env)::starEach [] X.env:=by rfl):GE X XQ (.Call (.Attribute o "index" apos) [e] [] cpos) (mt Ge0 fo f):=⟨Gi7 ho.h ha.h hbase hfew hline hs⟩
theorem Gg8{e:Expr}(ho:GE X XQ o fo)(ha:GA X XQ [e] f)(hbase:attributeBase o "extend" X.env (eval o X.env)=eval o X.env:=by rfl)(hfew:((backTo cpos (starEach [e] X.env)).all (fun x=>!x.1)&&(backToKw cpos (keywordEach [] X.env)).all (fun x=>x.1.isSome)
   && decide ([e].length+([]:List Keyword).length+(if([]:List Keyword).isEmpty then 0 else 1)<30))=true:=by rfl)(hline:(apos.endLine==cpos.line)=true:=by rfl)(hs:starEach [e] X.env=(false,eval e X.env)::starEach [] X.env:=by rfl):GE X XQ (.Call (.Attribute o "extend" apos) [e] [] cpos) (mt Gg1 fo f):=⟨Gg2 ho.h ha.h hbase hfew hline hs⟩
theorem Gfv{e:Expr}(hg:Gl X "str")(hm:X.mg "str"=none)(ha:GA X XQ [e] f)(he:starEach [e] X.env=(false,eval e X.env)::starEach [] X.env:=by rfl):GE X XQ (.Call (.Name "str" p) [e] [] pos) (b1 Xn f):=⟨Gmd hg hm ha.h he⟩
theorem Gd2{e:Expr}(ho:GE X XQ o fo)(ha:GA X XQ [e] f)(hbase:attributeBase o "split" X.env (eval o X.env)=eval o X.env:=by rfl)(hfew:((backTo cpos (starEach [e] X.env)).all (fun x=>!x.1)&&(backToKw cpos (keywordEach [] X.env)).all (fun x=>x.1.isSome)
   && decide ([e].length+([]:List Keyword).length+(if([]:List Keyword).isEmpty then 0 else 1)<30))=true:=by rfl)(hline:(apos.endLine==cpos.line)=true:=by rfl)(hs:starEach [e] X.env=(false,eval e X.env)::starEach [] X.env:=by rfl)(hplain:(backTo cpos (starEach [] X.env)).any (·.1)=false:=by rfl):GE X XQ (.Call (.Attribute o "split" apos) [e] [] cpos) (mts Wr fo f):=⟨Gix ho.h ha.h hbase hfew hline hs hplain⟩
theorem Gr9(ha:GE X XQ a fa)(hb:GE X XQ b fb)(hm:behindInMarks .In b=false:=by rfl):GE X XQ (.Compare a [.In] [b] pos) (o2 istD fa fb):=⟨Gri ha.h hb.h hm⟩
theorem Gfw{e:Expr}(hg:Gl X "int")(hm:X.mg "int"=none)(ha:GA X XQ [e] f)(he:starEach [e] X.env=(false,eval e X.env)::starEach [] X.env:=by rfl):GE X XQ (.Call (.Name "int" p) [e] [] pos) (b1 Zj f):=⟨Gmb hg hm ha.h he⟩
theorem Gsa{f:Ev D}(hl:GE X XQ l f):GI X XQ tg l (isrcS f):=⟨Grl hl.h⟩
theorem Gc1{e:Expr}(ho:GE X XQ o fo)(ha:GA X XQ [e] f)(hbase:attributeBase o "join" X.env (eval o X.env)=eval o X.env:=by rfl)(hfew:((backTo cpos (starEach [e] X.env)).all (fun x=>!x.1)&&(backToKw cpos (keywordEach [] X.env)).all (fun x=>x.1.isSome)
   && decide ([e].length+([]:List Keyword).length+(if([]:List Keyword).isEmpty then 0 else 1)<30))=true:=by rfl)(hline:(apos.endLine==cpos.line)=true:=by rfl)(hs:starEach [e] X.env=(false,eval e X.env)::starEach [] X.env:=by rfl)(hplain:(backTo cpos (starEach [] X.env)).any (·.1)=false:=by rfl):GE X XQ (.Call (.Attribute o "join" apos) [e] [] cpos) (mts Xm fo f):=⟨Gl9 ho.h ha.h hbase hfew hline hs hplain⟩
theorem Ho{j pos}:GE X XQ (.Constant .none j pos) (cn .non):=⟨Gpr ⟩
theorem Gak{b:Bool}{j pos}:GE X XQ (.Constant (.bool b) j pos) (cn (.bl b)):=⟨Gty ⟩
theorem ge_int{i:Int}{j pos}:GE X XQ (.Constant (.int i) j pos) (cn (.int i)):=⟨Gpq ⟩
theorem Gh{j pos}:GE X XQ (.Constant (.str x) j pos) (cn (.str x)):=⟨Gps ⟩
theorem Gu(ha:GE X XQ a fa)(hb:GE X XQ b fb):GE X XQ (.BinOp a .Add b pos) (o2 Gz fa fb):=⟨Gqk ha.h hb.h⟩
theorem Ge1(ha:GE X XQ a fa)(hb:GE X XQ b fb):GE X XQ (.BinOp a .Sub b pos) (o2 Gcw fa fb):=⟨Gqg ha.h hb.h⟩
theorem Wu(ha:GE X XQ a fa)(hb:GE X XQ b fb):GE X XQ (.BinOp a .Mult b pos) (o2 Kn fa fb):=⟨Gqm ha.h hb.h⟩
theorem Wv(ha:GE X XQ a fa)(hb:GE X XQ b fb):GE X XQ (.BinOp a .Mod b pos) (o2 Vl fa fb):=⟨Gqh ha.h hb.h⟩
theorem Gc2(ha:GE X XQ a fa)(hb:GE X XQ b fb):GE X XQ (.BinOp a .FloorDiv b pos) (o2 Yb fa fb):=⟨Gl0 ha.h hb.h⟩
theorem Gsb(ha:GE X XQ a fa)(hb:GE X XQ b fb):GE X XQ (.BinOp a .Pow b pos) (o2 Gcx fa fb):=⟨Gqi ha.h hb.h⟩
theorem Gfx(ha:GE X XQ a fa)(hb:GE X XQ b fb):GE X XQ (.Compare a [.Lt] [b] pos) (o2 ltD fa fb):=⟨Gt9 ha.h hb.h⟩
theorem Zl(hu:X.A.units+64<cLine)(ha:GE X XQ a fa)(hb:GE X XQ b fb):GE X XQ (.Compare a [.Eq] [b] pos) (o2 eqD fa fb):=⟨Gt5 hu ha.h hb.h⟩
theorem Guw(hu:X.A.units+64<cLine)(ha:GE X XQ a fa)(hb:GE X XQ b fb):GE X XQ (.Compare a [.NotEq] [b] pos) (o2 neD fa fb):=⟨Gt7 hu ha.h hb.h⟩
theorem Yt{rest:List Expr}{f g:Ev D}(ha:GE X XQ a f)(hb:GE X XQ (.BoolOp .And (b::rest) pos) g):GE X XQ (.BoolOp .And (a::b::rest) pos) (va f g):=⟨Gp1 ha.h hb.h⟩
theorem Gux{rest:List Expr}{f g:Ev D}(ha:GE X XQ a f)(hb:GE X XQ (.BoolOp .Or (b::rest) pos) g):GE X XQ (.BoolOp .Or (a::b::rest) pos) (vo f g):=⟨Gt2 ha.h hb.h⟩
theorem Gal{op}{f:Ev D}(h:GE X XQ a f):GE X XQ (.BoolOp op [a] pos) f:=⟨Gp0 h.h⟩
theorem Gsc{f:Ev D}(ha:GE X XQ a f):GE X XQ (.UnaryOp .Not a pos) (vn f):=⟨Gp2 ha.h⟩
theorem Ge2(ha:GE X XQ a fa):GE X XQ (.UnaryOp .USub a pos) (o1 Gdp fa):=⟨Gqy ha.h⟩
theorem Ww{c:Expr}(hc:GT X XQ c fc)(ha:GE X XQ a fa)(hb:GE X XQ b fb):GE X XQ (.IfExp c a b pos) (ie fc fa fb):=⟨Gp3 hc.h ha.h hb.h⟩
theorem He(ha:GE X XQ a fa)(hb:GE X XQ b fb)(hs:Zs b:=by intro _ _; rfl):GE X XQ (.Subscript a b pos) (o2 getD fa fb):=⟨Gqo ha.h hb.h hs⟩
theorem Jr{e:Expr}{lo hi:Option Expr}{fe:Ev D}{fl fh:Ev (Option Int)}(he:GE X XQ e fe)(hl:GO X XQ lo fl)(hh:GO X XQ hi fh):GE X XQ (.Subscript e (.Slice lo hi none p2) pos) (sl2 fe fl fh):=⟨Ggv he.h hl.h hh.h⟩
theorem Gw(h:GA X XQ es f):GE X XQ (.List es pos) (ls f):=⟨Gpv h.h⟩
theorem Jf{x1}(h:GA X XQ es f):GE X XQ (.Tuple es x1 pos) (tp f):=⟨Gpu h.h⟩
theorem Gsd{e:Expr}{f:Ev D}(k:Kit X.K T)(hv:bootBuiltins x=some (.type T))(hnx:x≠"__name__")(hdx:(x==("__debug__":Str))=false)(hg:Gl X "isinstance")(hm:X.mg "isinstance"=none)(hgt:Gl X x)(hmt:X.mg x=none)(he:GE X XQ e f)(hs:starEach [e,.Name x p2] X.env=(false,eval e X.env)::starEach [.Name x p2] X.env)(hpl:(backTo pos (starEach [.Name x p2] X.env)).any (·.1)=false)(hs2:starEach [.Name x p2] X.env=(false,eval (.Name x p2) X.env)::starEach [] X.env):GE X XQ (.Call (.Name "isinstance" p) [e,.Name x p2] [] pos) (o1 (isD T) f):=⟨Gq2 k hv hnx hdx hg hm hgt hmt he.h hs hpl hs2⟩
theorem Ks{e:Expr}(hg:Gl X "len")(hm:X.mg "len"=none)(ha:GA X XQ [e] f)(he:starEach [e] X.env=(false,eval e X.env)::starEach [] X.env:=by rfl):GE X XQ (.Call (.Name "len" p) [e] [] pos) (b1 lenD f):=⟨Gqr hg hm ha.h he⟩
theorem Gmt{e:Expr}(hg:Gl X "list")(hm:X.mg "list"=none)(ha:GA X XQ [e] f)(he:starEach [e] X.env=(false,eval e X.env)::starEach [] X.env:=by rfl):GE X XQ (.Call (.Name "list" p) [e] [] pos) (b1 Zg f):=⟨Glr hg hm ha.h he⟩
theorem Yf{e:Expr}(hg:Gl X "tuple")(hm:X.mg "tuple"=none)(ha:GA X XQ [e] f)(he:starEach [e] X.env=(false,eval e X.env)::starEach [] X.env:=by rfl):GE X XQ (.Call (.Name "tuple" p) [e] [] pos) (b1 Gbe f):=⟨Gii hg hm ha.h he⟩
theorem Gse{e e':Expr}(hc:X.calm=true)(hg:Gl X "min")(hm:X.mg "min"=none)(ha:GA X XQ [e,e'] f)(he:starEach [e,e'] X.env=(false,eval e X.env)::starEach [e'] X.env:=by rfl)(hpl:(backTo pos (starEach [e'] X.env)).any (·.1)=false:=by rfl):GE X XQ (.Call (.Name "min" p) [e,e'] [] pos) (b1 Ggs f):=⟨Gqt hc hg hm ha.h he hpl⟩
theorem Gsf{e:Expr}(hc:X.calm=true)(hg:Gl X "all")(hm:X.mg "all"=none)(ha:GA X XQ [e] f)(he:starEach [e] X.env=(false,eval e X.env)::starEach [] X.env:=by rfl):GE X XQ (.Call (.Name "all" p) [e] [] pos) (b1 allD f):=⟨Gq4 hc hg hm ha.h he⟩
theorem Gmu{e:Expr}(hg:Gl X "str")(hm:X.mg "str"=none)(ha:GA X XQ [e] f)(he:starEach [e] X.env=(false,eval e X.env)::starEach [] X.env:=by rfl):GE X XQ (.Call (.Name "str" p) [e] [] pos) (b1 Ggw f):=⟨Gl1 hg hm ha.h he⟩
theorem Qu{e:Expr}(ho:GE X XQ o fo)(ha:GA X XQ [e] f)(hbase:attributeBase o "append" X.env (eval o X.env)=eval o X.env:=by rfl)(hfew:((backTo cpos (starEach [e] X.env)).all (fun x=>!x.1)&&(backToKw cpos (keywordEach [] X.env)).all (fun x=>x.1.isSome)
   && decide ([e].length+([]:List Keyword).length+(if([]:List Keyword).isEmpty then 0 else 1)<30))=true:=by rfl)(hline:(apos.endLine==cpos.line)=true:=by rfl)(hs:starEach [e] X.env=(false,eval e X.env)::starEach [] X.env:=by rfl):GE X XQ (.Call (.Attribute o "append" apos) [e] [] cpos) (mt Xr fo f):=⟨Ggt ho.h ha.h hbase hfew hline hs⟩
theorem Gca(ha:GE X XQ a fa)(hb:GE X XQ b fb):GT X XQ (.Compare a [.Lt] [b] pos) (tb (o2 ltD fa fb)):=⟨Gua ha.h hb.h⟩
theorem Gd3(ha:GE X XQ a fa)(hb:GE X XQ b fb):GT X XQ (.Compare a [.Gt] [b] pos) (tb (o2 gtD fa fb)):=⟨Gub ha.h hb.h⟩
theorem Guy(ha:GE X XQ a fa)(hb:GE X XQ b fb):GT X XQ (.Compare a [.GtE] [b] pos) (tb (o2 geD fa fb)):=⟨Guc ha.h hb.h⟩
theorem Ji(hu:X.A.units+64<cLine)(ha:GE X XQ a fa)(hb:GE X XQ b fb):GT X XQ (.Compare a [.Eq] [b] pos) (tb (o2 eqD fa fb)):=⟨Gt6 hu ha.h hb.h⟩
theorem Gam(hu:X.A.units+64<cLine)(ha:GE X XQ a fa)(hb:GE X XQ b fb):GT X XQ (.Compare a [.NotEq] [b] pos) (tb (o2 neD fa fb)):=⟨Gt8 hu ha.h hb.h⟩
theorem Yu(ha:GE X XQ a fa)(hb:GE X XQ b fb):GT X XQ (.Compare a [.Is] [b] pos) (tb (o2 Wo fa fb)):=⟨Gqv ha.h hb.h⟩
theorem Zv(ha:GE X XQ a fa)(hb:GE X XQ b fb):GT X XQ (.Compare a [.IsNot] [b] pos) (tb (o2 Qj fa fb)):=⟨Glt ha.h hb.h⟩
theorem Guz(ha:GE X XQ a fa)(hb:GE X XQ b fb)(hm:behindInMarks .In b=false:=by rfl):GT X XQ (.Compare a [.In] [b] pos) (tb (o2 inD fa fb)):=⟨Guh ha.h hb.h hm⟩
theorem Gd4{c:Expr}{op op':CmpOp}{r r':R2}{o o':D->D->Sto->Out D}{fc:Ev D}(ho:OpR X (compareOp op) r)(hd:OpD X.K r o)(ho':OpR X (compareOp op') r')(hd':OpD X.K r' o')(ha:GE X XQ a fa)(hb:GE X XQ b fb)(hc:GE X XQ c fc)(hm:lastMarks [op,op'] [b,c]=false:=by with_unfolding_all rfl):GT X XQ (.Compare a [op,op'] [b,c] pos) (tb (ch o o' fa fb fc)):=⟨Gij ho hd ho' hd' ha.h hb.h hc.h hm⟩
theorem Us{f:Ev Bool}(h:GT X XQ a f):GT X XQ (.UnaryOp .Not a pos) (tn f):=⟨Gpx h.h⟩
theorem Ut{e:Expr}{f:Ev D}(h:GE X XQ e f)(he:∀ whole,isTrue e X.env whole=(do let v <- whole; standAt e.pos; holding [v] (truthy v)):=by intro _; rfl):GT X XQ e (tt f):=⟨Gpw h.h he⟩
theorem Vn{f:Ev Bool}(h:GT X XQ a f):GW X XQ (.BoolOp .And [a] pos) f:=⟨Gla h.h⟩
theorem Gan{f:Ev Bool}(h:GT X XQ a f):GW X XQ (.BoolOp .Or [a] pos) f:=⟨Gpy h.h⟩
theorem Wy{rest:List Expr}{f g:Ev Bool}(h:GT X XQ a f)(hb:GW X XQ (.BoolOp .And (b::rest) pos) g):GW X XQ (.BoolOp .And (a::b::rest) pos) (ta f g):=⟨Gpz h.h hb.h⟩
theorem Gao{rest:List Expr}{f g:Ev Bool}(h:GT X XQ a f)(hb:GW X XQ (.BoolOp .Or (b::rest) pos) g):GW X XQ (.BoolOp .Or (a::b::rest) pos) (to f g):=⟨Gt1 h.h hb.h⟩
theorem Gc :GA X XQ [] an:=⟨Gpt ⟩
theorem Ga{e:Expr}{f:Ev D}{g:Ev (List D)}(ha:GE X XQ e f)(hr:GA X XQ es g)(hs:starEach (e::es) X.env=(false,eval e X.env)::starEach es X.env:=by rfl):GA X XQ (e::es) (ac f g):=⟨Gk6 ha.h hr.h hs⟩
theorem Qm :GO X XQ none onone:=⟨Glu ⟩
theorem Qn{e:Expr}{f:Ev D}(h:GE X XQ e f):GO X XQ (some e) (osome f):=⟨Glv h.h⟩
theorem Qv(hg:Gl X "range")(hm:X.mg "range"=none)(ha:GA X XQ [a] f)(hs:starEach [a] X.env=[(false,eval a X.env)]:=by rfl):GI X XQ tg (.Call (.Name "range" p) [a] [] pos) (ir1 f):=⟨Ggp hg hm ha.h hs⟩
theorem Gg9(hg:Gl X "range")(hm:X.mg "range"=none)(ha:GA X XQ [a,b] f)(hs:starEach [a,b] X.env=[(false,eval a X.env),(false,eval b X.env)]:=by rfl)(hs2:starEach [b] X.env=[(false,eval b X.env)]:=by rfl):GI X XQ tg (.Call (.Name "range" p) [a,b] [] pos) (ir2 f):=⟨Ggq hg hm ha.h hs hs2⟩
theorem Gjf{f:Ev D}(hl:GE X XQ l f):GI X XQ tg l (isrc f):=⟨Gqd hl.h⟩
theorem Gsg{x1}{tp:Pos}(hg:Gl X "zip")(hm:X.mg "zip"=none)(ha:GA X XQ [a,b] f)(hs:starEach [a,b] X.env=(false,eval a X.env)::starEach [b] X.env:=by rfl)(hpl:(backTo pos (starEach [b] X.env)).any (·.1)=false:=by rfl):GI X XQ (.Tuple es x1 tp) (.Call (.Name "zip" p) [a,b] [] pos) (izip f):=⟨Grg hg hm ha.h hs hpl⟩
theorem Gc3{x1}{tp:Pos}(hg:Gl X "enumerate")(hm:X.mg "enumerate"=none)(ha:GA X XQ [a] f)(hs:starEach [a] X.env=[(false,eval a X.env)]:=by rfl):GI X XQ (.Tuple es x1 tp) (.Call (.Name "enumerate" p) [a] [] pos) (ienumerate f):=⟨Gc0 hg hm ha.h hs⟩
theorem ggn(i:Nat)(hN:X.N.Nodup)(h:OkL X.env.scope x)(hi:X.N[i]?=some x:=by rfl)(hf:X.fn x=true:=by rfl):GG X (.Name x pos) (gn i):=⟨jgn i hN h hi hf⟩
theorem Gwx(i:Nat)(hN:N'.Nodup)(h:Glz scope x=true)(hi:N'[i]?=some x:=by rfl):GG (blk X s2 H2 C scope c N' fp) (.Name x pos) (gn i):=⟨Gwn i hN h hi⟩
theorem Yv{m:Nat}{k:Tgs}(hc:X.calm=true)(h:GGs X es k)(hn:(assignEach es X.env).length=n:=by rfl)(hst:(assignEach es X.env).findIdx? (·.1)=none:=by rfl):GG X (.Tuple es m pos) (gt k n):=⟨Gp5 hc h.h hn hst⟩
theorem Xk :GGs X [] gnil:=⟨Gle ⟩
theorem Jd{e:Expr}{g:Tg}{k:Tgs}(h1:GG X e g)(h2:GGs X es k)(hs:(assignEach (e::es) X.env).map (·.2)=assign e X.env::(assignEach es X.env).map (·.2):=by rfl):GGs X (e::es) (gcons g k):=⟨Gh9 h1.h h2.h hs⟩
theorem Gq :GSs X XQ [] skip:=⟨Glb ⟩
theorem Gf{rest:List Stmt}{f g:Sv}(h1:GS X XQ st f)(h2:GSs X XQ rest g):GSs X XQ (st::rest) (sq f g):=⟨Gh7 h1.h h2.h⟩
theorem Gi{f:Sv}(h1:GS X XQ st f):GSs X XQ [st] f:=⟨Glc h1.h⟩
theorem Gn{e:Expr}{f:Ev D}(he:GE X XQ e f):GS X XQ (.Return (some e) pos) (sret f):=⟨Gp4 he.h⟩
theorem Hg{c:Expr}{a b:List Stmt}{f g:Sv}(hc:GT X XQ c fc)(ha:GSs X XQ a f)(hb:GSs X XQ b g):GS X XQ (.If c a b pos) (sif fc f g):=⟨Gt3 hc.h ha.h hb.h⟩
theorem gset(i:Nat){e:Expr}{f:Ev D}(hN:X.N.Nodup)(h:OkL X.env.scope x)(he:GE X XQ e f)(hi:X.N[i]?=some x:=by rfl)(hs:swapsWith e (some (.Name x pos')) pos.line X.env=pure false:=by rfl)(hf:X.fn x=true:=by rfl):GS X XQ (.Assign [.Name x pos'] e pos) (sa f (gn i)):=⟨jset i hN h he.h hi hs hf⟩
theorem Gjg(i:Nat){sc:Scope}{f:Ev Src}{g:Tg}{t:Ev Bool}{e:Ev D}(hsc:X.env.scope=sc)(hNN:X.N=N)(ct:CompTab sc scope N N' pk)(hcm:X.calm=true)(hi:GI X XQ tg iter f)(hg:∀ cl s2 H2 C fp,GG (blk X s2 H2 C scope cl N' fp) tg g)(ht:∀ cl s2 H2 C fp,GTs (blk X s2 H2 C scope cl N' fp) XN ifs t)(he:∀ cl s2 H2 C fp,GE (blk X s2 H2 C scope cl N' fp) XN elt e)(hN:X.N.Nodup)(hl:OkL X.env.scope y)(hsw:swapsWith (.ListComp elt [⟨tg,iter,ifs,0⟩] scope pos) (some (.Name y py)) spos.line X.env=pure true)(hy:X.N[i]?=some y:=by rfl)(hs:∀ x,foldedSetIterable iter X.env x=pure x:=by intro _; rfl)(hf:X.fn y=true:=by rfl):GS X XQ (.Assign [.Name y py] (.ListComp elt [⟨tg,iter,ifs,0⟩] scope pos) spos) (sa (cmp f pk g t e) (gn i)):=⟨Gio i hsc hNN ct hcm hi.h (fun z0 z1 z2 z3 z4=>(hg z0 z1 z2 z3 z4).h) (fun z0 z1 z2 z3 z4=>(ht z0 z1 z2 z3 z4).h) (fun z0 z1 z2 z3 z4=>(he z0 z1 z2 z3 z4).h) hN hl hsw hy hs hf⟩
theorem Gc4{e:Expr}{f:Ev D}{g:Tg}(he:GE X XQ e f)(hg:GG X tg g)(hs:swapsWithSole [tg] e pos.line X.env=pure false:=by rfl)(hw:swappedStores [tg] e X.env=pure none:=by rfl)(h1:(assignEach [tg] X.env).map (·.2)=[assign tg X.env]:=by rfl):GS X XQ (.Assign [tg] e pos) (sa f g):=⟨Gp6 he.h hg.h hs hw h1⟩
theorem Gap{ob ix e:Expr}{f fi:Ev D}(he:GE X XQ e f)(hob:GE X XQ ob fo)(hix:GE X XQ ix fi)(hs:swapsWithSole [.Subscript ob ix p2] e pos.line X.env=pure false:=by rfl)(hw:swappedStores [.Subscript ob ix p2] e X.env=pure none:=by rfl)(h1:(assignEach [.Subscript ob ix p2] X.env).map (·.2)=[assign (.Subscript ob ix p2) X.env]:=by rfl)(ha:∀ v,assign (.Subscript ob ix p2) X.env v=(do
   let ov <- holding [v] (eval ob X.env)
   let iv <- holding [v,ov] (eval ix X.env)
   standAt p2
   holding [v,ov,iv] (setItem ov iv v)
   release [v,ov,iv] []):=by intro _; rfl):GS X XQ (.Assign [.Subscript ob ix p2] e pos) (ss f fo fi Yr):=⟨Gig he.h hob.h hix.h hs hw h1 ha⟩
theorem Vo{e:Expr}{f:Ev D}(he:GE X XQ e f)(hs:swapsWith e none pos.line X.env=pure false:=by rfl):GS X XQ (.Expr e pos) (sx f):=⟨Gld he.h hs⟩
theorem Xa{f:Ev Src}{g:Tg}{b:Sv}(hp:PassesOwn (model X.prog X.w) X.A X.env X.xe)(hc:X.calm=true)(hi:GI X XQ tg iter f)(hg:GG X tg g)(hb:GSs X XQ body b)(hs:∀ x,foldedSetIterable iter X.env x=pure x:=by intro _; rfl):GS X XQ (.For tg iter body [] pos) (sfor f g b):=⟨Gp9 hp hc hi.h hg.h hb.h hs⟩
theorem Gjh(fuel:Nat){c:Expr}{b:Sv}(hp:PassesOwn (model X.prog X.w) X.A X.env X.xe)(hc:GT X XQ c fc)(hb:GSs X XQ body b):GS X XQ (.While c body [] pos) (whN fc b fuel):=⟨Gib fuel hp hc.h hb.h⟩
theorem Gsh(i:Nat){e:Expr}{f:Ev D}(hN:X.N.Nodup)(h:OkL X.env.scope x)(he:GE X XQ e f)(hi:X.N[i]?=some x:=by rfl)(hf:X.fn x=true:=by rfl):GS X XQ (.AugAssign (.Name x pos') .Add e pos) (sag i (fun a b=>a+b) f):=⟨Gq8 i hN h he.h hi hf⟩
theorem gv(i:Nat)(h:OkV X.env.scope x)(hN:X.N[i]?=some x:=by rfl):GE X XQ (.Name x pos) (vr i):=⟨jv i h hN⟩
theorem gvB(i:Nat)(h:Gin scope x=true)(hN:N'[i]?=some x:=by rfl):GE (blk X s2 H2 C scope c N' fp) XQ (.Name x pos) (vr i):=⟨jvB i h hN⟩
theorem gown{e:Expr}(C:Cal X.prog X.w X.K X.mg X.base x ps fn j)(hr:Room k X.A)(hg:Gl X x)(hp:Hf x=true)(ha:GA X XQ (e::es) t)(hn:ps.length=n:=by rfl)(hj:j<=k:=by decide)(he:starEach (e::es) X.env=(false,eval e X.env)::starEach es X.env:=by rfl)(hpl:(backTo pos (starEach es X.env)).any (·.1)=false:=by rfl):GE X XQ (.Call (.Name x p) (e::es) [] pos) (cl n (Gs fn) t):=⟨jown C hr hg hp ha.h hn hj he hpl⟩
theorem gcomp{sc:Scope}{f:Ev Src}{g:Tg}{t:Ev Bool}{e:Ev D}(hsc:X.env.scope=sc)(hNN:X.N=N)(ct:CompTab sc scope N N' pk)(hcm:X.calm=true)(hi:GI X XQ tg iter f)(hg:∀ cl s2 H2 C fp,GG (blk X s2 H2 C scope cl N' fp) tg g)(ht:∀ cl s2 H2 C fp,GTs (blk X s2 H2 C scope cl N' fp) XN ifs t)(he:∀ cl s2 H2 C fp,GE (blk X s2 H2 C scope cl N' fp) XN elt e)(hs:∀ x,foldedSetIterable iter X.env x=pure x:=by intro _; rfl):GE X XQ (.ListComp elt [⟨tg,iter,ifs,0⟩] scope pos) (cmp f pk g t e):=⟨jcomp hsc hNN ct hcm hi.h (fun z0 z1 z2 z3 z4=>(hg z0 z1 z2 z3 z4).h) (fun z0 z1 z2 z3 z4=>(ht z0 z1 z2 z3 z4).h) (fun z0 z1 z2 z3 z4=>(he z0 z1 z2 z3 z4).h) hs⟩
theorem Gfy{Y:Cx}:GTs Y XQ [] ttrue:=⟨Glj ⟩
theorem Gfz{Y:Cx}{c:Expr}{t:Ev Bool}(h:GT Y XQ c t):GTs Y XQ [c] t:=⟨Glk h.h⟩
theorem GW.jt{e:Expr}{f:Ev Bool}(h:GW X XQ e f):GT X XQ e f:=⟨JW.jt h.h⟩
def Gf0:Stmt->List Stmt
 | .ClassDef _ _ _ b _ _ _ _ _ _ _=>b
 | _=>[]
section
variable{X:Cx}{XQ:XW}{k:Nat}{x:Str}{p pos:Pos}{e:Expr}{es:List Expr}
theorem Gu0{ys:List Str}(xs:XNs X.K ys)(L:XL X XQ)(C:CalX X.prog X.w X.K X.mg X.base x ps fn j)(hr:Room k X.A)(hg:Gl X x)(hp:Hf x=true)(ha:GA X XQ (e::es) t)(hn:ps.length=n:=by rfl)(hj:j<=k:=by decide)(he:starEach (e::es) X.env=(false,eval e X.env)::starEach es X.env:=by rfl)(hpl:(backTo pos (starEach es X.env)).any (·.1)=false:=by rfl):
  GE X XQ (.Call (.Name x p) (e::es) [] pos) (cl n (gX ys fn) t):=⟨Gul xs L C hr hg hp ha.h hn hj he hpl⟩
theorem Gha{pos:Pos}(L:XL X XQ)(hcm:X.calm=true)(C:ClJ X.prog X.w X.K X.mg X.base x j)(hr:Room k X.A)(hg:Gl X x)(hp:Hf x=true)(ha:GA X XQ [a] t)(hj:j+1<=k:=by decide)(he:starEach [a] X.env=(false,eval a X.env)::starEach [] X.env:=by rfl)(hpl:(backTo cpos (starEach [] X.env)).any (·.1)=false:=by rfl):
  GS X XQ (.Raise (some (.Call (.Name x np) [a] [] cpos)) none pos) (srj x t):=⟨Gg7 L hcm C hr hg hp ha.h hj he hpl⟩
theorem Gmv(i:Nat){c n:Str}{pos:Pos}{b0:Stmt}{suite:List Stmt}{ys:List Str}{fb fh:Sv}(pl:Plain X)(ct:Cat X.K X.mg c ys)(hg:Gl X c)(hp:Hf c=true)(hN:X.N.Nodup)(hn:OkC X.env.scope n)(hb:∀ (pn:List (Addr×Obj)) (xe:Value->Shared->Prop) (XQ':XW),XL (trb X pn xe) XQ'->GSs (trb X pn xe) XQ' body fb)(hs:∀ a,GSs (hnd X a) XN (b0::suite) fh)(hi:X.N[i]?=some n:=by rfl):
  GS X XQ (.Try body [.ExceptHandler (some (.Name c np)) (some n) (b0::suite) hpos] [] [] pos) (Ye ys (hdl i fh) fb):=⟨Gmn pl ct hg hp hN hi hn.h (fun a b c d=>(hb a b c d).h) fun a=>(hs a).h⟩
end
structure FH(K:PySem.W.Frag)(x:Str)(st:Stmt):Prop where
 ex:∃ (f:Addr) (oc:Value) (od an:Option Addr) (osl:Array (Option Value)) (kV doc pm cdv ct:Value),PySem.W.nsIn K mainGlobals x=some (some (.ref f))/\K.lookup f=some ⟨oc,od,.func (PySem.W.fnOf x x (Hx st) (Gx st) (Ge st) .none kV doc pm an cdv ct),osl⟩/\PySem.W.codeIn K cdv x=true/\PySem.W.keepIn K (.ref f)=true
section
variable{K:PySem.W.Frag}{mg:Str->Option Value}
theorem Gu1{f:Addr}{oc:Value}{od an:Option Addr}{kV:Value}(a:PySem.W.nsIn K mainGlobals x=some (some (.ref f)))(l:K.lookup f=some ⟨oc,od,.func (PySem.W.fnOf x x (Hx st) (Gx st) (Ge st) .none kV doc pm an cdv ct),osl⟩)(c:PySem.W.codeIn K cdv x=true)(k:PySem.W.keepIn K (.ref f)=true):FH K x st:=⟨f,oc,od,an,osl,kV,doc,pm,cdv,ct,a,l,c,k⟩
theorem FH.dn(F:FH K x st)(X:K.In h)(G:h.Ns mainGlobals mg)(hb:∀ (kV doc pm:Value) (an:Option Addr) (cdv ct:Value) (us:List Value),us.length=ps.length->bindArgs (PySem.W.fnOf x x (Hx st) (Gx st) (Ge st) .none kV doc pm an cdv ct) ⟨us,[]⟩=pure (ps.zip us)):Dn K mg x st ps:=by
 obtain⟨f,oc,od,an,osl,kV,doc,pm,cdv,ct,a,l,c,k⟩:=F.ex
 exact Gue X G a l c k hb
end
section
variable{K:PySem.W.Frag}{h:Heap}{mg:Str->Option Value}{x:Str}
theorem Yg{i:Int}{t:Tok}(X:K.In h)(G:h.Ns mainGlobals mg)(a:PySem.W.nsIn K mainGlobals x=some (some (.int i t))):∃ u v,mg x=some u/\Hc v u/\∀ mp H,Rep K mp H (.int i) v:=
 ⟨_,.int i,PySem.W.mg_of X G a,⟨t,rfl⟩,fun _ _=>rfl⟩
theorem Gc5{t:Tok}(X:K.In h)(G:h.Ns mainGlobals mg)(a:PySem.W.nsIn K mainGlobals x=some (some (.str y t))):∃ u v,mg x=some u/\Hc v u/\∀ mp H,Rep K mp H (.str y) v:=
 ⟨_,.str y,PySem.W.mg_of X G a,⟨t,rfl⟩,fun _ _=>rfl⟩
theorem Gji{p:Addr}{t:Tok}{sl:Array (Option Value)}(X:K.In h)(G:h.Ns mainGlobals mg)(a:PySem.W.nsIn K mainGlobals x=some (some (.ref p)))(l:K.lookup p=some { cls:=.type "tuple",dict:=none,data:=.seq #[.str y t] n,slots:=sl }):
  ∃ u v,mg x=some u/\Hc v u/\∀ mp H,Rep K mp H (.tup [.str y]) v:=
 ⟨_,.ref p,PySem.W.mg_of X G a,rfl,fun _ _=>⟨p,[.str y],rfl,.inr ⟨_,_,n,l,rfl,rfl,by rw[sizeLine_eq]; simp,.cons ⟨t,rfl⟩ .nil⟩,RepL.cons rfl RepL.nil⟩⟩
end
structure FnS(N P:List Str)(sc:Scope):Prop where
 s:FnScope N P sc
 v:N.all (okV sc)=true
 l:N.all (okL sc)=true
theorem kdF{P:List Str}{s:Scope}(a:s.kind=.function:=by rfl)(b:s.isCoroutine=false:=by rfl)(c:s.isGenerator=false:=by rfl)(d:N.Nodup:=by decide +kernel)(e:N.take P.length=P:=by rfl)(f:∀ x∈P,s.names.lookup x=some .local\/s.names.lookup x=some .cell:=by decide +kernel)(g:∀ y∈s.names,y.2≠.free:=by decide +kernel)(v:N.all (okV s)=true:=by decide +kernel)(l:N.all (okL s)=true:=by decide +kernel):FnS N P s:=⟨⟨a,b,c,d,e,f,g⟩,v,l⟩
theorem FnS.nd{P:List Str}{sc:Scope}(S:FnS N P sc):N.Nodup:=S.s.nd
theorem Gjj(h:N[i]?=some x):x∈N:=List.mem_of_getElem? h
theorem FnS.ov{P:List Str}{sc:Scope}(S:FnS N P sc)(h:N[i]?=some x):OkV sc x:=⟨List.all_eq_true.mp S.v x (Gjj h)⟩
theorem FnS.ol{P:List Str}{sc:Scope}(S:FnS N P sc)(h:N[i]?=some x):OkL sc x:=⟨List.all_eq_true.mp S.l x (Gjj h)⟩
theorem kdC{sc:Scope}(a:scope.kind=.function:=by rfl)(b:∀ y∈scope.names,y.2=.cell->scope.names.lookup y.1=some .cell:=by decide +kernel)(c:∀ y∈scope.names,y.2=.local->scope.names.lookup y.1=some .local:=by decide +kernel)(d:∀ y∈scope.names,y.2=.free->sc.names.lookup y.1=some .cell\/sc.names.lookup y.1=some .free:=by decide +kernel)(e:pk.length=N'.length:=by rfl)(f:((List.range N'.length).all fun i=>match pk[i]? with
  | some (some j)=>match N[j]?,N'[i]? with
   | some x,some y=>(x==y)&&((sc.names.lookup y==some NameKind.cell)||(sc.names.lookup y==some NameKind.free))&&(scope.names.lookup y==some NameKind.free)
   | _,_=>false
  | _=>true)=true:=by decide +kernel):CompTab sc scope N N' pk:=⟨a,b,c,d,e,f⟩
section
variable{X:Cx}{XQ:XW}{k:Nat}{x:Str}{p pos:Pos}{e:Expr}{es:List Expr}{P:List Str}{f:Ev D}
theorem gw(i:Nat)(S:FnS X.N P X.env.scope)(hN:X.N[i]?=some x:=by rfl):GE X XQ (.Name x pos) (vr i):=gv i (S.ov hN) hN
theorem gG(s:Scope)(h:okG s x=true:=by decide +kernel)(hs:X.env.scope=s:=by rfl):Gl X x:=gl ⟨hs▸h⟩
theorem ggw(i:Nat)(S:FnS X.N P X.env.scope)(hi:X.N[i]?=some x:=by rfl)(hf:X.fn x=true:=by rfl):GG X (.Name x pos) (gn i):=ggn i S.nd (S.ol hi) hi hf
theorem gsew(i:Nat)(S:FnS X.N P X.env.scope)(he:GE X XQ e f)(hi:X.N[i]?=some x:=by rfl)(hs:swapsWith e (some (.Name x pos')) pos.line X.env=pure false:=by rfl)(hf:X.fn x=true:=by rfl):
  GS X XQ (.Assign [.Name x pos'] e pos) (sa f (gn i)):=gset i S.nd (S.ol hi) he hi hs hf
theorem gsiw(i:Nat)(S:FnS X.N P X.env.scope)(he:GE X XQ e f)(hi:X.N[i]?=some x:=by rfl)(hf:X.fn x=true:=by rfl):GS X XQ (.AugAssign (.Name x pos') .Add e pos) (sag i (fun a b=>a+b) f):=Gsh i S.nd (S.ol hi) he hi hf
theorem gow(s:Scope)(C:Cal X.prog X.w X.K X.mg X.base x ps fn j)(hr:Room k X.A)(ha:GA X XQ (e::es) t)(hg:okG s x=true:=by decide +kernel)(hn:ps.length=n:=by rfl)(hj:j<=k:=by decide)(hs:X.env.scope=s:=by rfl)(he:starEach (e::es) X.env=(false,eval e X.env)::starEach es X.env:=by rfl)(hpl:(backTo pos (starEach es X.env)).any (·.1)=false:=by rfl):
  GE X XQ (.Call (.Name x p) (e::es) [] pos) (cl n (Gs fn) t):=gown C hr (gG s hg hs) (okG.gl hg).2 ha hn hj he hpl
theorem Gaq{ys:List Str}(s:Scope)(xs:XNs X.K ys)(L:XL X XQ)(C:CalX X.prog X.w X.K X.mg X.base x ps fn j)(hr:Room k X.A)(ha:GA X XQ (e::es) t)(hg:okG s x=true:=by decide +kernel)(hn:ps.length=n:=by rfl)(hj:j<=k:=by decide)(hs:X.env.scope=s:=by rfl)(he:starEach (e::es) X.env=(false,eval e X.env)::starEach es X.env:=by rfl)(hpl:(backTo pos (starEach es X.env)).any (·.1)=false:=by rfl):
  GE X XQ (.Call (.Name x p) (e::es) [] pos) (cl n (gX ys fn) t):=Gu0 xs L C hr (gG s hg hs) (okG.gl hg).2 ha hn hj he hpl
theorem Gd5(s:Scope)(L:XL X XQ)(C:ClJ X.prog X.w X.K X.mg X.base x j)(hr:Room k X.A)(ha:GA X XQ [a] t)(hg:okG s x=true:=by decide +kernel)(hcm:X.calm=true:=by rfl)(hj:j+1<=k:=by decide)(hs:X.env.scope=s:=by rfl)(he:starEach [a] X.env=(false,eval a X.env)::starEach [] X.env:=by rfl)(hpl:(backTo cpos (starEach [] X.env)).any (·.1)=false:=by rfl):
  GS X XQ (.Raise (some (.Call (.Name x np) [a] [] cpos)) none pos) (srj x t):=Gha L hcm C hr (gG s hg hs) (okG.gl hg).2 ha hj he hpl
theorem Kt{ys:List Str}(s:Scope)(k:Isx X.K X.mg x ys sub)(hm:X.mg "isinstance"=none)(he:GE X XQ e f)(hg:okG s "isinstance"=true:=by decide +kernel)(hg2:okG s x=true:=by decide +kernel)(h0:X.env.scope=s:=by rfl)(hs:starEach [e,.Name x p2] X.env=(false,eval e X.env)::starEach [.Name x p2] X.env:=by rfl)(hpl:(backTo pos (starEach [.Name x p2] X.env)).any (·.1)=false:=by rfl)(hs2:starEach [.Name x p2] X.env=(false,eval (.Name x p2) X.env)::starEach [] X.env:=by rfl):GE X XQ (.Call (.Name "isinstance" p) [e,.Name x p2] [] pos) (o1 (Jo ys sub) f):=Gr8 k (gG s hg h0) hm (gG s hg2 h0) (okG.gl hg2).2 he hs hpl hs2
theorem Gsi{ys:List Str}(s:Scope)(k:IsxB X.K T ys sub)(hm:X.mg "isinstance"=none)(hmt:X.mg x=none)(he:GE X XQ e f)(hv:bootBuiltins x=some (.type T):=by rfl)(hnx:x≠"__name__":=by decide +kernel)(hg:okG s "isinstance"=true:=by decide +kernel)(hg2:okG s x=true:=by decide +kernel)(h0:X.env.scope=s:=by rfl)(hs:starEach [e,.Name x p2] X.env=(false,eval e X.env)::starEach [.Name x p2] X.env:=by rfl)(hpl:(backTo pos (starEach [.Name x p2] X.env)).any (·.1)=false:=by rfl)(hs2:starEach [.Name x p2] X.env=(false,eval (.Name x p2) X.env)::starEach [] X.env:=by rfl):GE X XQ (.Call (.Name "isinstance" p) [e,.Name x p2] [] pos) (o1 (Jo ys sub) f):=Gms k hv hnx (gG s hg h0) hm (gG s hg2 h0) hmt (okG.gl hg2).2 he hs hpl hs2
theorem Gjk(g1:Gl X "isinstance")(g2:Gl X x)(k:Kit X.K T)(hm:X.mg "isinstance"=none)(hmt:X.mg x=none)(he:GE X XQ e f)(hv:bootBuiltins x=some (.type T):=by rfl)(hnx:x≠"__name__":=by decide +kernel)(hdx:(x==("__debug__":Str))=false:=by decide +kernel)(hs:starEach [e,.Name x p2] X.env=(false,eval e X.env)::starEach [.Name x p2] X.env:=by rfl)(hpl:(backTo pos (starEach [.Name x p2] X.env)).any (·.1)=false:=by rfl)(hs2:starEach [.Name x p2] X.env=(false,eval (.Name x p2) X.env)::starEach [] X.env:=by rfl):GE X XQ (.Call (.Name "isinstance" p) [e,.Name x p2] [] pos) (o1 (isD T) f):=Gsd k hv hnx hdx g1 hm g2 hmt he hs hpl hs2
theorem Gjl{sc:Scope}{f:Ev Src}{g:Tg}{t:Ev Bool}{e:Ev D}(S:FnS N P sc)(hi:GI X XQ tg iter f)(hg:∀ cl s2 H2 C fp,GG (blk X s2 H2 C scope cl N' fp) tg g)(ht:∀ cl s2 H2 C fp,GTs (blk X s2 H2 C scope cl N' fp) XN ifs t)(he:∀ cl s2 H2 C fp,GE (blk X s2 H2 C scope cl N' fp) XN elt e)(ct:CompTab sc scope N N' pk:=by exact kdC)(hsc:X.env.scope=sc:=by rfl)(hNN:X.N=N:=by rfl)(hcm:X.calm=true:=by rfl)(hs:∀ x,foldedSetIterable iter X.env x=pure x:=by intro _; rfl):GE X XQ (.ListComp elt [⟨tg,iter,ifs,0⟩] scope pos) (cmp f pk g t e):=gcomp hsc hNN ct hcm hi hg ht he hs
theorem Gu2(i:Nat){sc:Scope}{f:Ev Src}{g:Tg}{t:Ev Bool}{e:Ev D}(S:FnS N P sc)(hi:GI X XQ tg iter f)(hg:∀ cl s2 H2 C fp,GG (blk X s2 H2 C scope cl N' fp) tg g)(ht:∀ cl s2 H2 C fp,GTs (blk X s2 H2 C scope cl N' fp) XN ifs t)(he:∀ cl s2 H2 C fp,GE (blk X s2 H2 C scope cl N' fp) XN elt e)(ct:CompTab sc scope N N' pk:=by exact kdC)(hsc:X.env.scope=sc:=by rfl)(hNN:X.N=N:=by rfl)(hcm:X.calm=true:=by rfl)(hsw:swapsWith (.ListComp elt [⟨tg,iter,ifs,0⟩] scope pos) (some (.Name y py)) spos.line X.env=pure true:=by rfl)(hy:N[i]?=some y:=by rfl)(hs:∀ x,foldedSetIterable iter X.env x=pure x:=by intro _; rfl)(hf:X.fn y=true:=by rfl):GS X XQ (.Assign [.Name y py] (.ListComp elt [⟨tg,iter,ifs,0⟩] scope pos) spos) (sa (cmp f pk g t e) (gn i)):=
 Gjg i hsc hNN ct hcm hi hg ht he (hNN▸S.nd) (hsc▸S.ol hy) hsw (hNN▸hy) hs hf
section
variable{s2:Shared}{H2:Hp}{C:Addr}{scope:Scope}{c:List (Str×Addr)}{N':List Str}{fp:List Addr}
theorem Gcb(i:Nat)(h:Gin scope x=true:=by decide +kernel)(hN:N'[i]?=some x:=by rfl):GE (blk X s2 H2 C scope c N' fp) XQ (.Name x pos) (vr i):=gvB i h hN
theorem Gjm(h:okG scope x=true:=by decide +kernel):Gl (blk X s2 H2 C scope c N' fp) x:=glB h
theorem Gf1(i:Nat)(h:Glz scope x=true:=by decide +kernel)(hN:N'.Nodup:=by decide +kernel)(hi:N'[i]?=some x:=by rfl):GG (blk X s2 H2 C scope c N' fp) (.Name x pos) (gn i):=Gwx i hN h hi
theorem Gwy(Q:Cal X.prog X.w X.K X.mg X.base x ps fn j)(hr:Room k X.A)(ha:GA (blk X s2 H2 C scope c N' fp) XQ (e::es) t)(hg:okG scope x=true:=by decide +kernel)(hn:ps.length=n:=by rfl)(hj:j<=k:=by decide)(he:starEach (e::es) (blk X s2 H2 C scope c N' fp).env=(false,eval e (blk X s2 H2 C scope c N' fp).env)::starEach es (blk X s2 H2 C scope c N' fp).env:=by rfl)(hpl:(backTo pos (starEach es (blk X s2 H2 C scope c N' fp).env)).any (·.1)=false:=by rfl):
  GE (blk X s2 H2 C scope c N' fp) XQ (.Call (.Name x p) (e::es) [] pos) (cl n (Gs fn) t):=gown (X:=blk X s2 H2 C scope c N' fp) Q hr (glB hg) (okG.gl hg).2 ha hn hj he hpl
end
end
section
variable{P:Program}{w:World}{K:PySem.W.Frag}{mg:Str->Option Value}{base:Heap}{x:Str}{st:Stmt}{ps N:List Str}{fn:Fn}
abbrev GH(K:PySem.W.Frag)(mg:Str->Option Value):Prop:=∃ h:Heap,K.In h/\h.Ns mainGlobals mg
theorem calw{b:Sv}(k:Nat)(F:FH K x st)(g:GH K mg)(S:FnS N ps (Ge st))(hfn:fn=fnB N.length b)
  (hb:∀ (f:Addr) (cdv:Value) (A:Around) (outer:List PySem.Env) (s:Shared) (H:Hp) (E:XK),Room k (A.deeper (envOfC x (Ge st) s.heap.objs.size f cdv))→
   JSs (Ko CX0 P w K mg base N x (Ge st) f cdv A outer s H E).nox XN (Gx st) b)
  (ha:∀ (kV doc pm:Value) (an:Option Addr) (cdv ct:Value) (us:List Value),us.length=ps.length->bindArgs (PySem.W.fnOf x x (Hx st) (Gx st) (Ge st) .none kV doc pm an cdv ct) ⟨us,[]⟩=pure (ps.zip us):=by first | exact(fun _ _ _ _ _ _ us hl=>match us,hl with | [_],_=>rfl) | exact(fun _ _ _ _ _ _ us hl=>match us,hl with | [_,_],_=>rfl) | exact(fun _ _ _ _ _ _ us hl=>match us,hl with | [_,_,_],_=>rfl) | exact(fun _ _ _ _ _ _ us hl=>match us,hl with | [_,_,_,_],_=>rfl) | exact(fun _ _ _ _ _ _ us hl=>match us,hl with | [_,_,_,_,_],_=>rfl) | exact(fun _ _ _ _ _ _ us hl=>match us,hl with | [_,_,_,_,_,_],_=>rfl)):Cal P w K mg base x ps fn (k+1):=
 let ⟨_,X,G⟩:=g; Gq5 N k b hfn (F.dn X G ha) S.s hb
theorem calxw{b:Sv}(k:Nat)(F:FH K x st)(g:GH K mg)(S:FnS N ps (Ge st))(hfn:fn=fnB N.length b)
  (hb:∀ (f:Addr) (cdv:Value) (A:Around) (outer:List PySem.Env) (s:Shared) (H:Hp) (E:XK) (XQ:XW),Room k (A.deeper (envOfC x (Ge st) s.heap.objs.size f cdv))->XL (Ko (CXe P w) P w K mg base N x (Ge st) f cdv A outer s H E) XQ→
   JSs (Ko (CXe P w) P w K mg base N x (Ge st) f cdv A outer s H E) XQ (Gx st) b)
  (ha:∀ (kV doc pm:Value) (an:Option Addr) (cdv ct:Value) (us:List Value),us.length=ps.length->bindArgs (PySem.W.fnOf x x (Hx st) (Gx st) (Ge st) .none kV doc pm an cdv ct) ⟨us,[]⟩=pure (ps.zip us):=by first | exact(fun _ _ _ _ _ _ us hl=>match us,hl with | [_],_=>rfl) | exact(fun _ _ _ _ _ _ us hl=>match us,hl with | [_,_],_=>rfl) | exact(fun _ _ _ _ _ _ us hl=>match us,hl with | [_,_,_],_=>rfl) | exact(fun _ _ _ _ _ _ us hl=>match us,hl with | [_,_,_,_],_=>rfl) | exact(fun _ _ _ _ _ _ us hl=>match us,hl with | [_,_,_,_,_],_=>rfl) | exact(fun _ _ _ _ _ _ us hl=>match us,hl with | [_,_,_,_,_,_],_=>rfl)):CalX P w K mg base x ps fn (k+1):=
 let ⟨_,X,G⟩:=g; Gmj N k b hfn (F.dn X G ha) S.s hb
theorem FH.fnx{f:Addr}(F:FH K x st)(X:K.In h)(G:h.Ns mainGlobals mg)(hm:mg x=some (.ref f)):∃ od an osl kV doc pm cdv ct,∃ oc:Value,PySem.W.keepIn K (.ref f)=true/\PySem.W.codeIn K cdv x=true/\K.lookup f=some ⟨oc,od,.func (PySem.W.fnOf x x (Hx st) (Gx st) (Ge st) .none kV doc pm an cdv ct),osl⟩:=by
 obtain⟨f',oc,od,an,osl,kV,doc,pm,cdv,ct,a,l,c,k⟩:=F.ex
 have e:=hm.symm.trans (PySem.W.mg_of X G a)
 cases e
 exact⟨od,an,osl,kV,doc,pm,cdv,ct,oc,k,c,l⟩
end
end DL
namespace Law
open PySem PySem.Spec PyProof.Rows L2 DL
variable{X:Cx}{XQ:XW}{pos:Pos}{w:World}{K:PySem.W.Frag}{mg:Str->Option Value}
def top(i:Nat):Stmt:=PySem.Challenge.pw_summitwater_k04_no_canals_texts.main.body.getD i (.Pass ⟨0,0,0,0⟩)
abbrev Qz:Stmt:=top 26
abbrev Uu:Stmt:=top 25
abbrev Xu:Stmt:=top 33
abbrev Uv:Stmt:=top 29
abbrev Uw:Stmt:=top 35
abbrev Vp:Stmt:=top 34
abbrev Ua:Stmt:=top 32
abbrev Ux:Stmt:=top 30
abbrev Uy:Stmt:=top 28
abbrev Vq:Stmt:=top 31
abbrev Uz:Stmt:=top 27
abbrev Vr:Stmt:=top 37
abbrev Vs:Stmt:=top 38
abbrev Va:Stmt:=top 39
abbrev Vb:Stmt:=top 40
abbrev Vc:Stmt:=top 41
abbrev Vd:Stmt:=top 42
abbrev Vt:Stmt:=top 43
abbrev Ub:Stmt:=top 44
abbrev Xb:Stmt:=top 45
abbrev Ve:Stmt:=top 46
abbrev Qe:Stmt:=top 47
abbrev Vu:Stmt:=top 48
abbrev Vf:Stmt:=top 49
abbrev Gar:Stmt:=top 50
def c_CHAMBER:D:=(.tup [(.str "chamber")])
def c_DOWN:D:=(.str "down")
def c_END:D:=(.tup [(.str "end")])
def c_FIGURES:D:=(.str "0123456789")
def c_MOST_BRIM:D:=(.int 9)
def c_MOST_FIGURES:D:=(.int 16)
def c_MOST_PLACES:D:=(.int 13)
def c_MOST_PRICE:D:=(.int 99)
def c_MOST_ROOM:D:=(.int 4)
def c_UP:D:=(.str "up")
def ys:List Str:=["NoGate","Dry","Full","NoSpring","NoBarge","NoRoom","Uneven","Shallow","Falls","NoText","TooMany","NoLine"]
def ms:List Str:=["NoGate","Dry","Full","NoSpring","NoBarge","NoRoom","Uneven","Shallow","Falls","NoText","TooMany","NoLine"]
def ats:List Str:=["Falls","NoText"]
structure Hs(K:PySem.W.Frag):Prop where
 h_place_words:FH K "place_words" Qz
 h_canal_text:FH K "canal_text" Uu
 h_word_at:FH K "word_at" Xu
 h_may_follow:FH K "may_follow" Uv
 h_is_written:FH K "is_written" Uw
 h_number_of:FH K "number_of" Vp
 h_read_number:FH K "read_number" Ua
 h_read_pound:FH K "read_pound" Ux
 h_read_place:FH K "read_place" Uy
 h_read_gate:FH K "read_gate" Vq
 h_read_canal:FH K "read_canal" Uz
 h__law_tape:FH K "_law_tape" Vr
 h__law_draw:FH K "_law_draw" Vs
 h__law_pound:FH K "_law_pound" Va
 h__law_canal:FH K "_law_canal" Vb
 h__law_words:FH K "_law_words" Vc
 h__law_whole:FH K "_law_whole" Vd
 h__law_name:FH K "_law_name" Vt
 h__law_number:FH K "_law_number" Ub
 h__law_can:FH K "_law_can" Xb
 h__law_wrong:FH K "_law_wrong" Ve
 h__law_spoiled:FH K "_law_spoiled" Qe
 h__law_long:FH K "_law_long" Vu
 h__law_right:FH K "_law_right" Vf
 h_law:FH K "law" Gar
 z_ValueError:PySem.W.nsIn K mainGlobals "ValueError"=some none
 z_all:PySem.W.nsIn K mainGlobals "all"=some none
 z_bool:PySem.W.nsIn K mainGlobals "bool"=some none
 z_enumerate:PySem.W.nsIn K mainGlobals "enumerate"=some none
 z_int:PySem.W.nsIn K mainGlobals "int"=some none
 z_isinstance:PySem.W.nsIn K mainGlobals "isinstance"=some none
 z_len:PySem.W.nsIn K mainGlobals "len"=some none
 z_list:PySem.W.nsIn K mainGlobals "list"=some none
 z_min:PySem.W.nsIn K mainGlobals "min"=some none
 z_range:PySem.W.nsIn K mainGlobals "range"=some none
 z_str:PySem.W.nsIn K mainGlobals "str"=some none
 z_tuple:PySem.W.nsIn K mainGlobals "tuple"=some none
 z_zip:PySem.W.nsIn K mainGlobals "zip"=some none
structure Txt(K:PySem.W.Frag)(mg:Str->Option Value):Prop where
 b_ValueError:mg "ValueError"=none
 b_all:mg "all"=none
 b_bool:mg "bool"=none
 b_enumerate:mg "enumerate"=none
 b_int:mg "int"=none
 b_isinstance:mg "isinstance"=none
 b_len:mg "len"=none
 b_list:mg "list"=none
 b_min:mg "min"=none
 b_range:mg "range"=none
 b_str:mg "str"=none
 b_tuple:mg "tuple"=none
 b_zip:mg "zip"=none
 k_CHAMBER:∃ u v,mg "CHAMBER"=some u/\Hc v u/\∀ mp H,Rep K mp H c_CHAMBER v
 k_DOWN:∃ u v,mg "DOWN"=some u/\Hc v u/\∀ mp H,Rep K mp H c_DOWN v
 k_END:∃ u v,mg "END"=some u/\Hc v u/\∀ mp H,Rep K mp H c_END v
 k_FIGURES:∃ u v,mg "FIGURES"=some u/\Hc v u/\∀ mp H,Rep K mp H c_FIGURES v
 k_MOST_BRIM:∃ u v,mg "MOST_BRIM"=some u/\Hc v u/\∀ mp H,Rep K mp H c_MOST_BRIM v
 k_MOST_FIGURES:∃ u v,mg "MOST_FIGURES"=some u/\Hc v u/\∀ mp H,Rep K mp H c_MOST_FIGURES v
 k_MOST_PLACES:∃ u v,mg "MOST_PLACES"=some u/\Hc v u/\∀ mp H,Rep K mp H c_MOST_PLACES v
 k_MOST_PRICE:∃ u v,mg "MOST_PRICE"=some u/\Hc v u/\∀ mp H,Rep K mp H c_MOST_PRICE v
 k_MOST_ROOM:∃ u v,mg "MOST_ROOM"=some u/\Hc v u/\∀ mp H,Rep K mp H c_MOST_ROOM v
 k_UP:∃ u v,mg "UP"=some u/\Hc v u/\∀ mp H,Rep K mp H c_UP v
 xt:XT K mg "SummitError" ys ms
 atc:AtC K ats
theorem Txt.c_CHAMBER(T:Txt X.K X.mg)(hg:Gl X "CHAMBER"):GE X XQ (.Name "CHAMBER" pos) (cn c_CHAMBER):=let ⟨u,v,h1,h2,h3⟩:=T.k_CHAMBER; ⟨Ur h1 h2 h3 hg (by decide +kernel)⟩
theorem Txt.c_DOWN(T:Txt X.K X.mg)(hg:Gl X "DOWN"):GE X XQ (.Name "DOWN" pos) (cn c_DOWN):=let ⟨u,v,h1,h2,h3⟩:=T.k_DOWN; ⟨Ur h1 h2 h3 hg (by decide +kernel)⟩
theorem Txt.c_END(T:Txt X.K X.mg)(hg:Gl X "END"):GE X XQ (.Name "END" pos) (cn c_END):=let ⟨u,v,h1,h2,h3⟩:=T.k_END; ⟨Ur h1 h2 h3 hg (by decide +kernel)⟩
theorem Txt.c_FIGURES(T:Txt X.K X.mg)(hg:Gl X "FIGURES"):GE X XQ (.Name "FIGURES" pos) (cn c_FIGURES):=let ⟨u,v,h1,h2,h3⟩:=T.k_FIGURES; ⟨Ur h1 h2 h3 hg (by decide +kernel)⟩
theorem Txt.c_MOST_BRIM(T:Txt X.K X.mg)(hg:Gl X "MOST_BRIM"):GE X XQ (.Name "MOST_BRIM" pos) (cn c_MOST_BRIM):=let ⟨u,v,h1,h2,h3⟩:=T.k_MOST_BRIM; ⟨Ur h1 h2 h3 hg (by decide +kernel)⟩
theorem Txt.c_MOST_FIGURES(T:Txt X.K X.mg)(hg:Gl X "MOST_FIGURES"):GE X XQ (.Name "MOST_FIGURES" pos) (cn c_MOST_FIGURES):=let ⟨u,v,h1,h2,h3⟩:=T.k_MOST_FIGURES; ⟨Ur h1 h2 h3 hg (by decide +kernel)⟩
theorem Txt.c_MOST_PLACES(T:Txt X.K X.mg)(hg:Gl X "MOST_PLACES"):GE X XQ (.Name "MOST_PLACES" pos) (cn c_MOST_PLACES):=let ⟨u,v,h1,h2,h3⟩:=T.k_MOST_PLACES; ⟨Ur h1 h2 h3 hg (by decide +kernel)⟩
theorem Txt.c_MOST_PRICE(T:Txt X.K X.mg)(hg:Gl X "MOST_PRICE"):GE X XQ (.Name "MOST_PRICE" pos) (cn c_MOST_PRICE):=let ⟨u,v,h1,h2,h3⟩:=T.k_MOST_PRICE; ⟨Ur h1 h2 h3 hg (by decide +kernel)⟩
theorem Txt.c_MOST_ROOM(T:Txt X.K X.mg)(hg:Gl X "MOST_ROOM"):GE X XQ (.Name "MOST_ROOM" pos) (cn c_MOST_ROOM):=let ⟨u,v,h1,h2,h3⟩:=T.k_MOST_ROOM; ⟨Ur h1 h2 h3 hg (by decide +kernel)⟩
theorem Txt.c_UP(T:Txt X.K X.mg)(hg:Gl X "UP"):GE X XQ (.Name "UP" pos) (cn c_UP):=let ⟨u,v,h1,h2,h3⟩:=T.k_UP; ⟨Ur h1 h2 h3 hg (by decide +kernel)⟩
abbrev Kv:Stmt:=(Gf0 (top 9)).getD 0 (.Pass ⟨0,0,0,0⟩)
theorem sc_init:FnScope ["self","text"] ["self","text"] (Ge Kv):=kdS
theorem Gu3:OkG (Ge Kv) "ValueError":=⟨by decide +kernel⟩
theorem Gmw:OkV (Ge Kv) "self":=⟨by decide +kernel⟩
theorem Gmx:OkV (Ge Kv) "text":=⟨by decide +kernel⟩
theorem Ghb{P:Program}{base:Heap}(hm:mg "ValueError"=none)(f:Addr)(cdv:Value)(A:Around)(outer:List PySem.Env)(s:Shared)(H:Hp)(E:XK):PSs (Ko CX0 P w K mg base ["self","text"] "SummitError.__init__" (Ge Kv) f cdv A outer s H E).nox (Gx Kv) (Goc K):=by
 conv=>arg 2; whnf
 exact Gcj (Gck (Gi0 (gl Gu3) hm (Kc (Yn (i:=0) rfl (okV.vis Gmw.h).1) (Kc (Yn (i:=1) rfl (okV.vis Gmx.h).1) pa_nil)) rfl))
abbrev Hb:Stmt:=(Gf0 (top 10)).getD 0 (.Pass ⟨0,0,0,0⟩)
theorem sc_init_NoText:FnScope ["self","at"] ["self","at"] (Ge Hb):=kdS
theorem Ghc:OkG (Ge Hb) "SummitError":=⟨by decide +kernel⟩
theorem Xc:OkV (Ge Hb) "self":=⟨by decide +kernel⟩
theorem Gc6:OkV (Ge Hb) "at":=⟨by decide +kernel⟩
theorem Yw{P:Program}{base:Heap}{fi:Addr}(bI:BaseI K mg "SummitError" fi)(ini:IniX P w K mg base fi 1)(f:Addr)(cdv:Value)(A:Around)(outer:List PySem.Env)(s:Shared)(H:Hp)(E:XK)(hr:Room 2 (A.deeper (envOfC "NoText.__init__" (Ge Hb) s.heap.objs.size f cdv))):PSs (Ko CX0 P w K mg base ["self","at"] "NoText.__init__" (Ge Hb) f cdv A outer s H E).nox (Gx Hb) (Gjc K "the text writes nothing of the kind"):=by
 obtain⟨fd,ps,oI,l,c,F,n,b⟩:=ini.ex
 conv=>arg 2; whnf
 exact Gdh (Gck (Gjb (gl Ghc) (by decide) bI F n hr (by decide) b (Kc (Yn (i:=0) rfl (okV.vis Xc.h).1) (Kc Ghk pa_nil)) rfl)) (Gcj (Gur (Yn (i:=0) rfl (okV.vis Xc.h).1) (Yn (i:=1) rfl (okV.vis Gc6.h).1)))
structure All(P:Program)(w:World)(K:PySem.W.Frag)(mg:Str->Option Value)(base:Heap):Prop where
 h:Hs K
 g:GH K mg
 t:Txt K mg
 J_NoText:ClJ P w K mg base "NoText" 3
section
variable{P:Program}{w:World}{K:PySem.W.Frag}{mg:Str->Option Value}{base:Heap}
def Jv:Sv:=(sret (cmp (isrc (vr 0)) [none] (gn 0) (tb (o2 Qj (vr 0) (cn .non))) (b1 Xn (ac (vr 0) an))))
def Kw:Fn:=fnB 1 Jv
theorem Gas:FnS ["place"] ["place"] (Ge Qz):=kdF
abbrev z0:=Ge Qz
theorem Wi(Al:All P w K mg base):Cal P w K mg base "place_words" ["place"] Kw 1:=by
 have Sc:=Gas
 have T:=Al.t
 refine calw (b:=Jv) 0 Al.h.h_place_words Al.g Sc rfl fun _ _ _ _ _ _ _ hr=>?_
 conv=>arg 3; whnf
 refine GSs.h ?_
 exact(Gi (Gn (Gjl (N':=["part"]) (pk:=[none]) Sc (Gjf (gw 0 Sc)) (fun cl s2 H2 C fp=>(Gf1 0)) (fun cl s2 H2 C fp=>(Gfz (Zv (Gcb 0) Ho))) (fun cl s2 H2 C fp=>(Gfv Gjm T.b_str (Ga (Gcb 0) Gc Gg))))))
def Qf:Sv:=(sq (sx (mt Xr (vr 3) (ac (vr 4) an)))
  (sx (mt Gg1 (vr 3) (ac (cl 1 (Gs Kw) (ac (vr 5) an)) an))))
def Kd:Sv:=(sq (sa (vr 0) (gt (gcons (gn 1) (gcons (gn 2) gnil)) 2))
  (sq (sa (cl 1 (Gs Kw) (ac (o2 getD (vr 1) (cn (.int 0))) an)) (gn 3))
  (sq (sfor (izip (ac (vr 2) (ac (sl2 (vr 1) (osome (cn (.int 1))) onone) an))) (gt (gcons (gn 4) (gcons (gn 5) gnil)) 2) Qf)
  (sret (mts Xm (cn (.str " ")) (ac (vr 3) an))))))
def Vv:Fn:=fnB 6 Kd
theorem Gbg:FnS ["canal","places","gates","words","gate","place"] ["canal"] (Ge Uu):=kdF
abbrev z1:=Ge Uu
theorem Gat(Al:All P w K mg base):Cal P w K mg base "canal_text" ["canal"] Vv 2:=by
 have Sc:=Gbg
 have T:=Al.t
 refine calw (b:=Kd) 1 Al.h.h_canal_text Al.g Sc rfl fun _ _ _ _ _ _ _ hr=>?_
 conv=>arg 3; whnf
 refine GSs.h ?_
 exact(Gf (Gc4 (gw 0 Sc) (Yv rfl (Jd (ggw 1 Sc) (Jd (ggw 2 Sc) Xk))))
  (Gf (gsew 3 Sc (gow z1 (Wi Al) hr (Ga (He (gw 1 Sc) ge_int) Gc Hd)))
  (Gf (Xa PassesOwn.never rfl (Gsg (gG z1) T.b_zip (Ga (gw 2 Sc) (Ga (Jr (gw 1 Sc) (Qn ge_int) Qm) Gc Hd) Gg)) (Yv rfl (Jd (ggw 4 Sc) (Jd (ggw 5 Sc) Xk)))
  (Gf (Vo (Qu (gw 3 Sc) (Ga (gw 4 Sc) Gc Gg)))
  (Gi (Vo (Gg8 (gw 3 Sc) (Ga (gow z1 (Wi Al) hr (Ga (gw 5 Sc) Gc Gg)) Gc Ha))))))
  (Gi (Gn (Gc1 Gh (Ga (gw 3 Sc) Gc Gg)))))))
def Qw:Sv:=(sq (sif (tb (o2 eqD (vr 1) (b1 lenD (ac (vr 0) an))))
  (srj "NoText" (ac (vr 1) an))
  skip)
  (sret (o2 getD (vr 0) (vr 1))))
def Qx:Fn:=fnB 2 Qw
theorem Ge3:FnS ["words","at"] ["words","at"] (Ge Xu):=kdF
abbrev z2:=Ge Xu
theorem Xd(Al:All P w K mg base):CalX P w K mg base "word_at" ["words","at"] Qx 5:=by
 have Sc:=Ge3
 have T:=Al.t
 refine calxw (b:=Qw) 4 Al.h.h_word_at Al.g Sc rfl fun _ _ _ _ _ _ _ _ hr L=>?_
 conv=>arg 3; whnf
 refine GSs.h ?_
 exact(Gf (Hg (Ji hr.units (gw 1 Sc) (Ks (gG z2) T.b_len (Ga (gw 0 Sc) Gc Gg)))
  (Gi (Gd5 z2 L Al.J_NoText hr (Ga (gw 1 Sc) Gc Gg)))
  Gq)
  (Gi (Gn (He (gw 0 Sc) (gw 1 Sc)))))
def Hn:Sv:=(sq (sa (b1 lenD (ac (vr 1) an)) (gn 2))
  (sq (sif (tb (o2 eqD (vr 2) (cn (.int 0))))
  (sret (o2 eqD (vr 0) (cn (.str "end"))))
  skip)
  (sq (sif (tb (o2 eqD (vr 0) (cn (.str "chamber"))))
  (sret (o2 ltD (o2 Gz (vr 2) (cn (.int 1))) (cn c_MOST_PLACES)))
  skip)
  (sq (sif (tb (o2 neD (o2 getD (vr 1) (o1 Gdp (cn (.int 1)))) (cn c_CHAMBER)))
  (sret (cn (.bl false)))
  skip)
  (sq (sif (tb (o2 eqD (vr 0) (cn (.str "pound"))))
  (sret (o2 ltD (o2 Gz (vr 2) (cn (.int 2))) (cn c_MOST_PLACES)))
  skip)
  (sret (o2 eqD (vr 0) (cn (.str "end")))))))))
def Vw:Fn:=fnB 3 Hn
theorem Gbh:FnS ["word","ahead","number"] ["word","ahead"] (Ge Uv):=kdF
abbrev z3:=Ge Uv
theorem Gau(Al:All P w K mg base):Cal P w K mg base "may_follow" ["word","ahead"] Vw 1:=by
 have Sc:=Gbh
 have T:=Al.t
 refine calw (b:=Hn) 0 Al.h.h_may_follow Al.g Sc rfl fun _ _ _ _ _ _ _ hr=>?_
 conv=>arg 3; whnf
 refine GSs.h ?_
 exact(Gf (gsew 2 Sc (Ks (gG z3) T.b_len (Ga (gw 1 Sc) Gc Gg)))
  (Gf (Hg (Ji hr.units (gw 2 Sc) ge_int)
  (Gi (Gn (Zl hr.units (gw 0 Sc) Gh)))
  Gq)
  (Gf (Hg (Ji hr.units (gw 0 Sc) Gh)
  (Gi (Gn (Gfx (Gu (gw 2 Sc) ge_int) (T.c_MOST_PLACES (gG z3)))))
  Gq)
  (Gf (Hg (Gam hr.units (He (gw 1 Sc) (Ge2 ge_int)) (T.c_CHAMBER (gG z3)))
  (Gi (Gn Gak))
  Gq)
  (Gf (Hg (Ji hr.units (gw 0 Sc) Gh)
  (Gi (Gn (Gfx (Gu (gw 2 Sc) ge_int) (T.c_MOST_PLACES (gG z3)))))
  Gq)
  (Gi (Gn (Zl hr.units (gw 0 Sc) Gh))))))))
def Je:Sv:=(sq (sif (to (tn (tb (ch leD leD (cn (.int 1)) (b1 lenD (ac (vr 0) an)) (cn c_MOST_FIGURES)))) (tn (tt (b1 allD (ac (cmp (isrcS (vr 0)) [none] (gn 0) ttrue (o2 istD (vr 0) (cn c_FIGURES))) an)))))
  (sret (cn (.bl false)))
  skip)
  (sret (vo (o2 eqD (vr 0) (cn (.str "0"))) (o2 neD (o2 getD (vr 0) (cn (.int 0))) (cn (.str "0"))))))
def Vx:Fn:=fnB 1 Je
theorem Gbi:FnS ["word"] ["word"] (Ge Uw):=kdF
abbrev z4:=Ge Uw
theorem Gav(Al:All P w K mg base):Cal P w K mg base "is_written" ["word"] Vx 1:=by
 have Sc:=Gbi
 have T:=Al.t
 refine calw (b:=Je) 0 Al.h.h_is_written Al.g Sc rfl fun _ _ _ _ _ _ _ hr=>?_
 conv=>arg 3; whnf
 refine GSs.h ?_
 exact(Gf (Hg (GW.jt (Gao (Us (Gd4 Gfk Gfq Gfk Gfq ge_int (Ks (gG z4) T.b_len (Ga (gw 0 Sc) Gc Gg)) (T.c_MOST_FIGURES (gG z4)))) (Gan (Us (Ut (Gsf rfl (gG z4) T.b_all (Ga (Gjl (N':=["sign"]) (pk:=[none]) Sc (Gsa (gw 0 Sc)) (fun cl s2 H2 C fp=>(Gf1 0)) (fun cl s2 H2 C fp=>Gfy) (fun cl s2 H2 C fp=>(Gr9 (Gcb 0) (T.c_FIGURES Gjm)))) Gc Gdu)))))))
  (Gi (Gn Gak))
  Gq)
  (Gi (Gn (Gux (Zl hr.units (gw 0 Sc) Gh) (Gal (Guw hr.units (He (gw 0 Sc) ge_int) Gh))))))
def Kz:Sv:=(sq (sif (to (tn (tt (cl 1 (Gs Vx) (ac (vr 0) an)))) (tn (tb (ch leD leD (vr 1) (b1 Zj (ac (vr 0) an)) (vr 2)))))
  (sret (cn .non))
  skip)
  (sret (b1 Zj (ac (vr 0) an))))
def Uj:Fn:=fnB 3 Kz
theorem Gc7:FnS ["word","least","most"] ["word","least","most"] (Ge Vp):=kdF
abbrev z5:=Ge Vp
theorem Xp(Al:All P w K mg base):Cal P w K mg base "number_of" ["word","least","most"] Uj 2:=by
 have Sc:=Gc7
 have T:=Al.t
 refine calw (b:=Kz) 1 Al.h.h_number_of Al.g Sc rfl fun _ _ _ _ _ _ _ hr=>?_
 conv=>arg 3; whnf
 refine GSs.h ?_
 exact(Gf (Hg (GW.jt (Gao (Us (Ut (gow z5 (Gav Al) hr (Ga (gw 0 Sc) Gc Gg)))) (Gan (Us (Gd4 Gfk Gfq Gfk Gfq (gw 1 Sc) (Gfw (gG z5) T.b_int (Ga (gw 0 Sc) Gc Gg)) (gw 2 Sc))))))
  (Gi (Gn Ho))
  Gq)
  (Gi (Gn (Gfw (gG z5) T.b_int (Ga (gw 0 Sc) Gc Gg)))))
def Jg:Sv:=(sq (sa (cl 3 (Gs Uj) (ac (cl 2 (gX ys Qx) (ac (vr 0) (ac (vr 1) an))) (ac (vr 2) (ac (vr 3) an)))) (gn 4))
  (sq (sif (tb (o2 Wo (vr 4) (cn .non)))
  (srj "NoText" (ac (vr 1) an))
  skip)
  (sret (vr 4))))
def Jl:Fn:=fnB 5 Jg
theorem Gaw:FnS ["words","at","least","most","number"] ["words","at","least","most"] (Ge Ua):=kdF
abbrev z6:=Ge Ua
theorem Qg(Al:All P w K mg base):CalX P w K mg base "read_number" ["words","at","least","most"] Jl 6:=by
 have Sc:=Gaw
 have T:=Al.t
 refine calxw (b:=Jg) 5 Al.h.h_read_number Al.g Sc rfl fun _ _ _ _ _ _ _ _ hr L=>?_
 conv=>arg 3; whnf
 refine GSs.h ?_
 exact(Gf (gsew 4 Sc (gow z6 (Xp Al) hr (Ga (Gaq z6 T.xt.xns L (Xd Al) hr (Ga (gw 0 Sc) (Ga (gw 1 Sc) Gc Gg) Gg)) (Ga (gw 2 Sc) (Ga (gw 3 Sc) Gc Gg) Gg) Ha)))
  (Gf (Hg (Yu (gw 4 Sc) Ho)
  (Gi (Gd5 z6 L Al.J_NoText hr (Ga (gw 1 Sc) Gc Gg)))
  Gq)
  (Gi (Gn (gw 4 Sc)))))
def Hj:Sv:=(sq (sa (cl 4 (gX ys Jl) (ac (vr 0) (ac (vr 1) (ac (cn (.int 1)) (ac (cn c_MOST_BRIM) an))))) (gn 2))
  (sq (sa (cl 4 (gX ys Jl) (ac (vr 0) (ac (o2 Gz (vr 1) (cn (.int 1))) (ac (cn (.int 0)) (ac (vr 2) an))))) (gn 3))
  (sq (sa (cl 4 (gX ys Jl) (ac (vr 0) (ac (o2 Gz (vr 1) (cn (.int 2))) (ac (cn (.int 1)) (ac (cn c_MOST_ROOM) an))))) (gn 4))
  (sq (sa (o2 Gz (vr 1) (cn (.int 3))) (gn 5))
  (sq (sa (cn .non) (gn 6))
  (sq (sif (tb (o2 ltD (vr 5) (b1 lenD (ac (vr 0) an))))
  (sa (cl 3 (Gs Uj) (ac (o2 getD (vr 0) (vr 5)) (ac (cn (.int 0)) (ac (cn c_MOST_PRICE) an)))) (gn 6))
  skip)
  (sq (sif (tb (o2 Qj (vr 6) (cn .non)))
  (sag 5 (fun a b=>a+b) (cn (.int 1)))
  skip)
  (sret (tp (ac (tp (ac (cn (.str "pound")) (ac (vr 2) (ac (vr 3) (ac (vr 4) (ac (vr 6) an)))))) (ac (vr 5) an)))))))))))
def Qo:Fn:=fnB 7 Hj
theorem Gbj:FnS ["words","at","brim","deep","room","behind","price"] ["words","at"] (Ge Ux):=kdF
abbrev z7:=Ge Ux
theorem Gax(Al:All P w K mg base):CalX P w K mg base "read_pound" ["words","at"] Qo 7:=by
 have Sc:=Gbj
 have T:=Al.t
 refine calxw (b:=Hj) 6 Al.h.h_read_pound Al.g Sc rfl fun _ _ _ _ _ _ _ _ hr L=>?_
 conv=>arg 3; whnf
 refine GSs.h ?_
 exact(Gf (gsew 2 Sc (Gaq z7 T.xt.xns L (Qg Al) hr (Ga (gw 0 Sc) (Ga (gw 1 Sc) (Ga ge_int (Ga (T.c_MOST_BRIM (gG z7)) Gc Gg) Gb) Gg) Gg)))
  (Gf (gsew 3 Sc (Gaq z7 T.xt.xns L (Qg Al) hr (Ga (gw 0 Sc) (Ga (Gu (gw 1 Sc) ge_int) (Ga ge_int (Ga (gw 2 Sc) Gc Gg) Gb) Hl) Gg)))
  (Gf (gsew 4 Sc (Gaq z7 T.xt.xns L (Qg Al) hr (Ga (gw 0 Sc) (Ga (Gu (gw 1 Sc) ge_int) (Ga ge_int (Ga (T.c_MOST_ROOM (gG z7)) Gc Gg) Gb) Hl) Gg)))
  (Gf (gsew 5 Sc (Gu (gw 1 Sc) ge_int))
  (Gf (gsew 6 Sc Ho)
  (Gf (Hg (Gca (gw 5 Sc) (Ks (gG z7) T.b_len (Ga (gw 0 Sc) Gc Gg)))
  (Gi (gsew 6 Sc (gow z7 (Xp Al) hr (Ga (He (gw 0 Sc) (gw 5 Sc)) (Ga ge_int (Ga (T.c_MOST_PRICE (gG z7)) Gc Gg) Gb) Hd))))
  Gq)
  (Gf (Hg (Zv (gw 6 Sc) Ho)
  (Gi (gsiw 5 Sc ge_int))
  Gq)
  (Gi (Gn (Jf (Ga (Jf (Ga Gh (Ga (gw 2 Sc) (Ga (gw 3 Sc) (Ga (gw 4 Sc) (Ga (gw 6 Sc) Gc Gg) Gg) Gg) Gg) Gb)) (Ga (gw 5 Sc) Gc Gg) Wp)))))))))))
def Hq:Sv:=(sq (sa (cl 2 (gX ys Qx) (ac (vr 0) (ac (vr 1) an))) (gn 3))
  (sq (sif (tn (tt (cl 2 (Gs Vw) (ac (vr 3) (ac (vr 2) an)))))
  (srj "NoText" (ac (vr 1) an))
  skip)
  (sq (sif (tb (o2 eqD (vr 3) (cn (.str "pound"))))
  (sret (cl 2 (gX ys Qo) (ac (vr 0) (ac (o2 Gz (vr 1) (cn (.int 1))) an))))
  skip)
  (sret (tp (ac (tp (ac (vr 3) an)) (ac (o2 Gz (vr 1) (cn (.int 1))) an)))))))
def Js:Fn:=fnB 4 Hq
theorem Gbk:FnS ["words","at","ahead","word"] ["words","at","ahead"] (Ge Uy):=kdF
abbrev z8:=Ge Uy
theorem Xe(Al:All P w K mg base):CalX P w K mg base "read_place" ["words","at","ahead"] Js 8:=by
 have Sc:=Gbk
 have T:=Al.t
 refine calxw (b:=Hq) 7 Al.h.h_read_place Al.g Sc rfl fun _ _ _ _ _ _ _ _ hr L=>?_
 conv=>arg 3; whnf
 refine GSs.h ?_
 exact(Gf (gsew 3 Sc (Gaq z8 T.xt.xns L (Xd Al) hr (Ga (gw 0 Sc) (Ga (gw 1 Sc) Gc Gg) Gg)))
  (Gf (Hg (Us (Ut (gow z8 (Gau Al) hr (Ga (gw 3 Sc) (Ga (gw 2 Sc) Gc Gg) Gg))))
  (Gi (Gd5 z8 L Al.J_NoText hr (Ga (gw 1 Sc) Gc Gg)))
  Gq)
  (Gf (Hg (Ji hr.units (gw 3 Sc) Gh)
  (Gi (Gn (Gaq z8 T.xt.xns L (Gax Al) hr (Ga (gw 0 Sc) (Ga (Gu (gw 1 Sc) ge_int) Gc Hl) Gg))))
  Gq)
  (Gi (Gn (Jf (Ga (Jf (Ga (gw 3 Sc) Gc Gg)) (Ga (Gu (gw 1 Sc) ge_int) Gc Hl) Wp)))))))
def Jp:Sv:=(sq (sa (cl 2 (gX ys Qx) (ac (vr 0) (ac (vr 1) an))) (gn 2))
  (sq (sif (ta (tb (o2 neD (vr 2) (cn c_UP))) (tb (o2 neD (vr 2) (cn c_DOWN))))
  (srj "NoText" (ac (vr 1) an))
  skip)
  (sret (vr 2))))
def Ka:Fn:=fnB 3 Jp
theorem Gc8:FnS ["words","at","word"] ["words","at"] (Ge Vq):=kdF
abbrev z9:=Ge Vq
theorem Gbl(Al:All P w K mg base):CalX P w K mg base "read_gate" ["words","at"] Ka 6:=by
 have Sc:=Gc8
 have T:=Al.t
 refine calxw (b:=Jp) 5 Al.h.h_read_gate Al.g Sc rfl fun _ _ _ _ _ _ _ _ hr L=>?_
 conv=>arg 3; whnf
 refine GSs.h ?_
 exact(Gf (gsew 2 Sc (Gaq z9 T.xt.xns L (Xd Al) hr (Ga (gw 0 Sc) (Ga (gw 1 Sc) Gc Gg) Gg)))
  (Gf (Hg (GW.jt (Wy (Gam hr.units (gw 2 Sc) (T.c_UP (gG z9))) (Vn (Gam hr.units (gw 2 Sc) (T.c_DOWN (gG z9))))))
  (Gi (Gd5 z9 L Al.J_NoText hr (Ga (gw 1 Sc) Gc Gg)))
  Gq)
  (Gi (Gn (gw 2 Sc)))))
def Hk:Sv:=(sq (sx (mt Xr (vr 5) (ac (cl 2 (gX ys Ka) (ac (vr 1) (ac (vr 3) an))) an)))
  (sq (sa (cl 3 (gX ys Js) (ac (vr 1) (ac (o2 Gz (vr 3) (cn (.int 1))) (ac (vr 4) an)))) (gt (gcons (gn 2) (gcons (gn 3) gnil)) 2))
  (sx (mt Xr (vr 4) (ac (vr 2) an)))))
def Hy:Ev Bool:=(to (tb (o2 eqD (b1 lenD (ac (vr 4) an)) (cn (.int 1)))) (tb (o2 neD (o2 getD (vr 4) (o1 Gdp (cn (.int 1)))) (cn c_END))))
def Vy:Sv:=(sq (sa (mts Wr (vr 0) (ac (cn (.str " ")) an)) (gn 1))
  (sq (sa (cl 3 (gX ys Js) (ac (vr 1) (ac (cn (.int 0)) (ac (ls an) an)))) (gt (gcons (gn 2) (gcons (gn 3) gnil)) 2))
  (sq (sa (ls (ac (vr 2) an)) (gn 4))
  (sq (sa (ls an) (gn 5))
  (sq (whN Hy Hk 1000)
  (sq (sif (tb (o2 ltD (vr 3) (b1 lenD (ac (vr 1) an))))
  (srj "NoText" (ac (vr 3) an))
  skip)
  (sret (tp (ac (b1 Gbe (ac (vr 4) an)) (ac (b1 Gbe (ac (vr 5) an)) an))))))))))
def Ke:Fn:=fnB 6 Vy
theorem Gbm:FnS ["text","words","place","at","places","gates"] ["text"] (Ge Uz):=kdF
abbrev z10:=Ge Uz
theorem Gay(Al:All P w K mg base):CalX P w K mg base "read_canal" ["text"] Ke 9:=by
 have Sc:=Gbm
 have T:=Al.t
 refine calxw (b:=Vy) 8 Al.h.h_read_canal Al.g Sc rfl fun _ _ _ _ _ _ _ _ hr L=>?_
 conv=>arg 3; whnf
 refine GSs.h ?_
 exact(Gf (gsew 1 Sc (Gd2 (gw 0 Sc) (Ga Gh Gc Gb)))
  (Gf (Gc4 (Gaq z10 T.xt.xns L (Xe Al) hr (Ga (gw 1 Sc) (Ga ge_int (Ga (Gw Gc) Gc Ya) Gb) Gg)) (Yv rfl (Jd (ggw 2 Sc) (Jd (ggw 3 Sc) Xk))))
  (Gf (gsew 4 Sc (Gw (Ga (gw 2 Sc) Gc Gg)))
  (Gf (gsew 5 Sc (Gw Gc))
  (Gf (Gjh 1000 L.pas (GW.jt (Gao (Ji hr.units (Ks (gG z10) T.b_len (Ga (gw 4 Sc) Gc Gg)) ge_int) (Gan (Gam hr.units (He (gw 4 Sc) (Ge2 ge_int)) (T.c_END (gG z10))))))
  (Gf (Vo (Qu (gw 5 Sc) (Ga (Gaq z10 T.xt.xns L (Gbl Al) hr (Ga (gw 1 Sc) (Ga (gw 3 Sc) Gc Gg) Gg)) Gc Ha)))
  (Gf (Gc4 (Gaq z10 T.xt.xns L (Xe Al) hr (Ga (gw 1 Sc) (Ga (Gu (gw 3 Sc) ge_int) (Ga (gw 4 Sc) Gc Gg) Hl) Gg)) (Yv rfl (Jd (ggw 2 Sc) (Jd (ggw 3 Sc) Xk))))
  (Gi (Vo (Qu (gw 4 Sc) (Ga (gw 2 Sc) Gc Gg)))))))
  (Gf (Hg (Gca (gw 3 Sc) (Ks (gG z10) T.b_len (Ga (gw 1 Sc) Gc Gg)))
  (Gi (Gd5 z10 L Al.J_NoText hr (Ga (gw 3 Sc) Gc Gg)))
  Gq)
  (Gi (Gn (Jf (Ga (Yf (gG z10) T.b_tuple (Ga (gw 4 Sc) Gc Gg)) (Ga (Yf (gG z10) T.b_tuple (Ga (gw 5 Sc) Gc Gg)) Gc Ha) Ha))))))))))
def Qa:Sv:=(sret (ls (ac (b1 Zg (ac (sl2 (vr 0) onone (osome (cn (.int 63)))) an)) (ac (cn (.int 0)) (ac (cn (.int 0)) an)))))
def Xf:Fn:=fnB 1 Qa
theorem Gc9:FnS ["_law_script"] ["_law_script"] (Ge Vr):=kdF
abbrev z11:=Ge Vr
theorem Gbn(Al:All P w K mg base):Cal P w K mg base "_law_tape" ["_law_script"] Xf 1:=by
 have Sc:=Gc9
 have T:=Al.t
 refine calw (b:=Qa) 0 Al.h.h__law_tape Al.g Sc rfl fun _ _ _ _ _ _ _ hr=>?_
 conv=>arg 3; whnf
 refine GSs.h ?_
 exact(Gi (Gn (Gw (Ga (Gmt (gG z11) T.b_list (Ga (Jr (gw 0 Sc) Qm (Qn ge_int)) Gc Hd)) (Ga ge_int (Ga ge_int Gc Gb) Gb) Ha))))
def Jq:Sv:=(sq (sif (tb (o2 gtD (o2 getD (vr 0) (cn (.int 2))) (cn (.int 0))))
  (sq (sa (o2 Vl (o2 getD (vr 0) (cn (.int 2))) (vr 1)) (gn 2))
  (sq (ss (o2 Yb (o2 getD (vr 0) (cn (.int 2))) (vr 1)) (vr 0) (cn (.int 2)) Yr)
  (sret (vr 2))))
  skip)
  (sq (sa (o2 getD (vr 0) (cn (.int 1))) (gn 3))
  (sq (ss (o2 Gz (vr 3) (cn (.int 1))) (vr 0) (cn (.int 1)) Yr)
  (sq (sa (cn (.int 0)) (gn 4))
  (sq (sif (tb (o2 gtD (b1 lenD (ac (o2 getD (vr 0) (cn (.int 0))) an)) (cn (.int 0))))
  (sa (o2 getD (o2 getD (vr 0) (cn (.int 0))) (o2 Vl (vr 3) (b1 lenD (ac (o2 getD (vr 0) (cn (.int 0))) an)))) (gn 4))
  skip)
  (sq (sif (ta (tb (o2 ltD (vr 3) (b1 lenD (ac (o2 getD (vr 0) (cn (.int 0))) an)))) (tb (o2 geD (vr 4) (o2 Gcx (cn (.int 10)) (cn (.int 18))))))
  (sq (ss (o2 Yb (vr 4) (vr 1)) (vr 0) (cn (.int 2)) Yr)
  (sret (o2 Vl (vr 4) (vr 1))))
  skip)
  (sq (sa (o2 Vl (o2 Kn (o2 Gz (o2 Vl (vr 4) (cn (.int 1000003))) (cn (.int 1))) (o2 Gz (o2 Gz (o2 Kn (o2 Kn (cn (.int 7919)) (vr 3)) (vr 3)) (o2 Kn (cn (.int 104729)) (vr 3))) (cn (.int 12345)))) (cn (.int 2147483647))) (gn 5))
  (sq (sa (o2 Vl (o2 Gz (o2 Gz (o2 Kn (vr 5) (vr 5)) (o2 Kn (cn (.int 48271)) (vr 3))) (o2 Vl (vr 4) (cn (.int 65537)))) (cn (.int 2147483629))) (gn 5))
  (sret (o2 Vl (o2 Yb (vr 5) (cn (.int 8))) (vr 1)))))))))))
def Gj:Fn:=fnB 6 Jq
theorem Gda:FnS ["_law_tape_here","_law_many","_law_digit","_law_at","_law_cell","_law_mixed"] ["_law_tape_here","_law_many"] (Ge Vs):=kdF
abbrev z12:=Ge Vs
theorem Gm(Al:All P w K mg base):Cal P w K mg base "_law_draw" ["_law_tape_here","_law_many"] Gj 1:=by
 have Sc:=Gda
 have T:=Al.t
 refine calw (b:=Jq) 0 Al.h.h__law_draw Al.g Sc rfl fun _ _ _ _ _ _ _ hr=>?_
 conv=>arg 3; whnf
 refine GSs.h ?_
 exact(Gf (Hg (Gd3 (He (gw 0 Sc) ge_int) ge_int)
  (Gf (gsew 2 Sc (Wv (He (gw 0 Sc) ge_int) (gw 1 Sc)))
  (Gf (Gap (Gc2 (He (gw 0 Sc) ge_int) (gw 1 Sc)) (gw 0 Sc) ge_int)
  (Gi (Gn (gw 2 Sc)))))
  Gq)
  (Gf (gsew 3 Sc (He (gw 0 Sc) ge_int))
  (Gf (Gap (Gu (gw 3 Sc) ge_int) (gw 0 Sc) ge_int)
  (Gf (gsew 4 Sc ge_int)
  (Gf (Hg (Gd3 (Ks (gG z12) T.b_len (Ga (He (gw 0 Sc) ge_int) Gc Hd)) ge_int)
  (Gi (gsew 4 Sc (He (He (gw 0 Sc) ge_int) (Wv (gw 3 Sc) (Ks (gG z12) T.b_len (Ga (He (gw 0 Sc) ge_int) Gc Hd))))))
  Gq)
  (Gf (Hg (GW.jt (Wy (Gca (gw 3 Sc) (Ks (gG z12) T.b_len (Ga (He (gw 0 Sc) ge_int) Gc Hd))) (Vn (Guy (gw 4 Sc) (Gsb ge_int ge_int)))))
  (Gf (Gap (Gc2 (gw 4 Sc) (gw 1 Sc)) (gw 0 Sc) ge_int)
  (Gi (Gn (Wv (gw 4 Sc) (gw 1 Sc)))))
  Gq)
  (Gf (gsew 5 Sc (Wv (Wu (Gu (Wv (gw 4 Sc) ge_int) ge_int) (Gu (Gu (Wu (Wu ge_int (gw 3 Sc)) (gw 3 Sc)) (Wu ge_int (gw 3 Sc))) ge_int)) ge_int))
  (Gf (gsew 5 Sc (Wv (Gu (Gu (Wu (gw 5 Sc) (gw 5 Sc)) (Wu ge_int (gw 3 Sc))) (Wv (gw 4 Sc) ge_int)) ge_int))
  (Gi (Gn (Wv (Gc2 (gw 5 Sc) ge_int) (gw 1 Sc))))))))))))
def Vz:Sv:=(sq (sa (o2 getD (ls (ac (cn (.int 1)) (ac (cn (.int 2)) (ac (cn (.int 3)) (ac (o2 Gz (cn (.int 1)) (cl 2 (Gs Gj) (ac (vr 0) (ac (cn (.int 9)) an)))) an))))) (cl 2 (Gs Gj) (ac (vr 0) (ac (cn (.int 4)) an)))) (gn 1))
  (sq (sa (b1 Ggs (ac (vr 1) (ac (o2 getD (ls (ac (cn (.int 0)) (ac (cn (.int 0)) (ac (cn (.int 1)) (ac (cl 2 (Gs Gj) (ac (vr 0) (ac (cn (.int 10)) an))) an))))) (cl 2 (Gs Gj) (ac (vr 0) (ac (cn (.int 4)) an)))) an))) (gn 2))
  (sq (sa (o2 getD (ls (ac (cn (.int 1)) (ac (cn (.int 2)) (ac (o2 Gz (cn (.int 1)) (cl 2 (Gs Gj) (ac (vr 0) (ac (cn (.int 4)) an)))) an)))) (cl 2 (Gs Gj) (ac (vr 0) (ac (cn (.int 3)) an)))) (gn 3))
  (sq (sa (o2 getD (ls (ac (cn .non) (ac (cl 2 (Gs Gj) (ac (vr 0) (ac (cn (.int 100)) an))) (ac (o2 Gz (cn (.int 1)) (cl 2 (Gs Gj) (ac (vr 0) (ac (cn (.int 5)) an)))) (ac (cn (.int 0)) an))))) (cl 2 (Gs Gj) (ac (vr 0) (ac (cn (.int 4)) an)))) (gn 4))
  (sret (tp (ac (cn (.str "pound")) (ac (vr 1) (ac (vr 2) (ac (vr 3) (ac (vr 4) an)))))))))))
def Qp:Fn:=fnB 5 Vz
theorem Gbo:FnS ["_law_tape_here","_law_brim","_law_deep","_law_room","_law_price"] ["_law_tape_here"] (Ge Va):=kdF
abbrev z13:=Ge Va
theorem Gaz(Al:All P w K mg base):Cal P w K mg base "_law_pound" ["_law_tape_here"] Qp 2:=by
 have Sc:=Gbo
 have T:=Al.t
 refine calw (b:=Vz) 1 Al.h.h__law_pound Al.g Sc rfl fun _ _ _ _ _ _ _ hr=>?_
 conv=>arg 3; whnf
 refine GSs.h ?_
 exact(Gf (gsew 1 Sc (He (Gw (Ga ge_int (Ga ge_int (Ga ge_int (Ga (Gu ge_int (gow z13 (Gm Al) hr (Ga (gw 0 Sc) (Ga ge_int Gc Gb) Gg))) Gc Hl) Gb) Gb) Gb)) (gow z13 (Gm Al) hr (Ga (gw 0 Sc) (Ga ge_int Gc Gb) Gg))))
  (Gf (gsew 2 Sc (Gse rfl (gG z13) T.b_min (Ga (gw 1 Sc) (Ga (He (Gw (Ga ge_int (Ga ge_int (Ga ge_int (Ga (gow z13 (Gm Al) hr (Ga (gw 0 Sc) (Ga ge_int Gc Gb) Gg)) Gc Ha) Gb) Gb) Gb)) (gow z13 (Gm Al) hr (Ga (gw 0 Sc) (Ga ge_int Gc Gb) Gg))) Gc Hd) Gg)))
  (Gf (gsew 3 Sc (He (Gw (Ga ge_int (Ga ge_int (Ga (Gu ge_int (gow z13 (Gm Al) hr (Ga (gw 0 Sc) (Ga ge_int Gc Gb) Gg))) Gc Hl) Gb) Gb)) (gow z13 (Gm Al) hr (Ga (gw 0 Sc) (Ga ge_int Gc Gb) Gg))))
  (Gf (gsew 4 Sc (He (Gw (Ga Ho (Ga (gow z13 (Gm Al) hr (Ga (gw 0 Sc) (Ga ge_int Gc Gb) Gg)) (Ga (Gu ge_int (gow z13 (Gm Al) hr (Ga (gw 0 Sc) (Ga ge_int Gc Gb) Gg))) (Ga ge_int Gc Gb) Hl) Ha) Gb)) (gow z13 (Gm Al) hr (Ga (gw 0 Sc) (Ga ge_int Gc Gb) Gg))))
  (Gi (Gn (Jf (Ga Gh (Ga (gw 1 Sc) (Ga (gw 2 Sc) (Ga (gw 3 Sc) (Ga (gw 4 Sc) Gc Gg) Gg) Gg) Gg) Gb))))))))
def Hz:Sv:=(sq (sa (va (o2 ltD (cn (.int 0)) (vr 4)) (va (o2 ltD (vr 4) (o2 Gcw (vr 2) (cn (.int 1)))) (o2 eqD (o2 getD (vr 3) (o1 Gdp (cn (.int 1)))) (tp (ac (cn (.str "chamber")) an))))) (gn 5))
  (sif (ta (tt (vr 5)) (tb (o2 gtD (cl 2 (Gs Gj) (ac (vr 0) (ac (cn (.int 4)) an))) (cn (.int 0)))))
  (sx (mt Xr (vr 3) (ac (cl 1 (Gs Qp) (ac (vr 0) an)) an)))
  (sx (mt Xr (vr 3) (ac (tp (ac (cn (.str "chamber")) an)) an)))))
def Kf:Sv:=(sq (sa (o2 Gz (cn (.int 1)) (cl 2 (Gs Gj) (ac (vr 0) (ac (vr 1) an)))) (gn 2))
  (sq (sa (ls (ac (tp (ac (cn (.str "end")) an)) an)) (gn 3))
  (sq (sfor (ir1 (ac (vr 2) an)) (gn 4) Hz)
  (sq (sa (o2 Gz (cn (.int 1)) (cl 2 (Gs Gj) (ac (vr 0) (ac (vr 2) an)))) (gn 6))
  (sq (sa (o2 Gz (o2 Kn (ls (ac (cn (.str "up")) an)) (vr 6)) (o2 Kn (ls (ac (cn (.str "down")) an)) (o2 Gcw (o2 Gz (vr 2) (cn (.int 1))) (vr 6)))) (gn 7))
  (sq (sif (tb (o2 eqD (cl 2 (Gs Gj) (ac (vr 0) (ac (cn (.int 3)) an))) (cn (.int 0))))
  (sa (cmp (ir1 (ac (o2 Gz (vr 2) (cn (.int 1))) an)) [none,some 0] (gn 0) ttrue (o2 getD (ls (ac (cn (.str "up")) (ac (cn (.str "down")) an))) (cl 2 (Gs Gj) (ac (vr 1) (ac (cn (.int 2)) an))))) (gn 7))
  skip)
  (sret (tp (ac (b1 Gbe (ac (o2 Gz (vr 3) (ls (ac (tp (ac (cn (.str "end")) an)) an))) an)) (ac (b1 Gbe (ac (vr 7) an)) an))))))))))
def Qq:Fn:=fnB 8 Kf
theorem Gbp:FnS ["_law_tape_here","_law_most","_law_many","_law_places","_law_k","_law_amid","_law_top","_law_gates"] ["_law_tape_here","_law_most"] (Ge Vb):=kdF
abbrev z14:=Ge Vb
theorem Ga0(Al:All P w K mg base):Cal P w K mg base "_law_canal" ["_law_tape_here","_law_most"] Qq 3:=by
 have Sc:=Gbp
 have T:=Al.t
 refine calw (b:=Kf) 2 Al.h.h__law_canal Al.g Sc rfl fun _ _ _ _ _ _ _ hr=>?_
 conv=>arg 3; whnf
 refine GSs.h ?_
 exact(Gf (gsew 2 Sc (Gu ge_int (gow z14 (Gm Al) hr (Ga (gw 0 Sc) (Ga (gw 1 Sc) Gc Gg) Gg))))
  (Gf (gsew 3 Sc (Gw (Ga (Jf (Ga Gh Gc Gb)) Gc Wp)))
  (Gf (Xa PassesOwn.never rfl (Qv (gG z14) T.b_range (Ga (gw 2 Sc) Gc Gg)) (ggw 4 Sc)
  (Gf (gsew 5 Sc (Yt (Gfx ge_int (gw 4 Sc)) (Yt (Gfx (gw 4 Sc) (Ge1 (gw 2 Sc) ge_int)) (Gal (Zl hr.units (He (gw 3 Sc) (Ge2 ge_int)) (Jf (Ga Gh Gc Gb)))))))
  (Gi (Hg (GW.jt (Wy (Ut (gw 5 Sc)) (Vn (Gd3 (gow z14 (Gm Al) hr (Ga (gw 0 Sc) (Ga ge_int Gc Gb) Gg)) ge_int))))
  (Gi (Vo (Qu (gw 3 Sc) (Ga (gow z14 (Gaz Al) hr (Ga (gw 0 Sc) Gc Gg)) Gc Ha))))
  (Gi (Vo (Qu (gw 3 Sc) (Ga (Jf (Ga Gh Gc Gb)) Gc Wp))))))))
  (Gf (gsew 6 Sc (Gu ge_int (gow z14 (Gm Al) hr (Ga (gw 0 Sc) (Ga (gw 2 Sc) Gc Gg) Gg))))
  (Gf (gsew 7 Sc (Gu (Wu (Gw (Ga Gh Gc Gb)) (gw 6 Sc)) (Wu (Gw (Ga Gh Gc Gb)) (Ge1 (Gu (gw 2 Sc) ge_int) (gw 6 Sc)))))
  (Gf (Hg (Ji hr.units (gow z14 (Gm Al) hr (Ga (gw 0 Sc) (Ga ge_int Gc Gb) Gg)) ge_int)
  (Gi (Gu2 7 (N':=["_law_k","_law_tape_here"]) (pk:=[none,some 0]) Sc (Qv (gG z14) T.b_range (Ga (Gu (gw 2 Sc) ge_int) Gc Hl)) (fun cl s2 H2 C fp=>(Gf1 0)) (fun cl s2 H2 C fp=>Gfy) (fun cl s2 H2 C fp=>(He (Gw (Ga Gh (Ga Gh Gc Gb) Gb)) (Gwy (Gm Al) hr (Ga (Gcb 1) (Ga ge_int Gc Gb) Gg))))))
  Gq)
  (Gi (Gn (Jf (Ga (Yf (gG z14) T.b_tuple (Ga (Gu (gw 3 Sc) (Gw (Ga (Jf (Ga Gh Gc Gb)) Gc Wp))) Gc Hl)) (Ga (Yf (gG z14) T.b_tuple (Ga (gw 7 Sc) Gc Gg)) Gc Ha) Ha))))))))))
def Jx:Sv:=(sq (sif (tb (o2 gtD (vr 2) (cn (.int 0))))
  (sx (mt Xr (vr 1) (ac (o2 getD (o2 getD (vr 0) (cn (.int 1))) (o2 Gcw (vr 2) (cn (.int 1)))) an)))
  skip)
  (sa (o2 Gz (vr 1) (cmp (isrc (vr 3)) [none] (gn 0) (tb (o2 Qj (vr 0) (cn .non))) (b1 Xn (ac (vr 0) an)))) (gn 1)))
def Kg:Sv:=(sq (sa (ls an) (gn 1))
  (sq (sfor (ienumerate (ac (o2 getD (vr 0) (cn (.int 0))) an)) (gt (gcons (gn 2) (gcons (gn 3) gnil)) 2) Jx)
  (sret (vr 1))))
def Wa:Fn:=fnB 4 Kg
theorem Gbq:FnS ["_law_canal_here","_law_found","_law_k","_law_place"] ["_law_canal_here"] (Ge Vc):=kdF
abbrev z15:=Ge Vc
theorem Ga1(Al:All P w K mg base):Cal P w K mg base "_law_words" ["_law_canal_here"] Wa 1:=by
 have Sc:=Gbq
 have T:=Al.t
 refine calw (b:=Kg) 0 Al.h.h__law_words Al.g Sc rfl fun _ _ _ _ _ _ _ hr=>?_
 conv=>arg 3; whnf
 refine GSs.h ?_
 exact(Gf (gsew 1 Sc (Gw Gc))
  (Gf (Xa PassesOwn.never rfl (Gc3 (gG z15) T.b_enumerate (Ga (He (gw 0 Sc) ge_int) Gc Hd)) (Yv rfl (Jd (ggw 2 Sc) (Jd (ggw 3 Sc) Xk)))
  (Gf (Hg (Gd3 (gw 2 Sc) ge_int)
  (Gi (Vo (Qu (gw 1 Sc) (Ga (He (He (gw 0 Sc) ge_int) (Ge1 (gw 2 Sc) ge_int)) Gc Hd))))
  Gq)
  (Gi (gsew 1 Sc (Gu (gw 1 Sc) (Gjl (N':=["_law_part"]) (pk:=[none]) Sc (Gjf (gw 3 Sc)) (fun cl s2 H2 C fp=>(Gf1 0)) (fun cl s2 H2 C fp=>(Gfz (Zv (Gcb 0) Ho))) (fun cl s2 H2 C fp=>(Gfv Gjm T.b_str (Ga (Gcb 0) Gc Gg)))))))))
  (Gi (Gn (gw 1 Sc)))))
def Kh:Sv:=(sret (va (o1 (isD "int") (vr 0)) (vn (o1 (isD "bool") (vr 0)))))
def Wb:Fn:=fnB 1 Kh
theorem Gbr:FnS ["_law_thing"] ["_law_thing"] (Ge Vd):=kdF
abbrev z16:=Ge Vd
theorem Ga2(Al:All P w K mg base):Cal P w K mg base "_law_whole" ["_law_thing"] Wb 1:=by
 have Sc:=Gbr
 have T:=Al.t
 refine calw (b:=Kh) 0 Al.h.h__law_whole Al.g Sc rfl fun _ _ _ _ _ _ _ hr=>?_
 conv=>arg 3; whnf
 refine GSs.h ?_
 exact(Gi (Gn (Yt (Gjk (gG z16) (gG z16) Glx T.b_isinstance T.b_int (gw 0 Sc)) (Gal (Gsc (Gjk (gG z16) (gG z16) Gil T.b_isinstance T.b_bool (gw 0 Sc)))))))
def Qb:Sv:=(sq (sa (ls (ac (cn (.str "nogate")) (ac (cn (.str "dry")) (ac (cn (.str "full")) (ac (cn (.str "nospring")) (ac (cn (.str "nobarge")) (ac (cn (.str "noroom")) (ac (cn (.str "uneven")) (ac (cn (.str "shallow")) (ac (cn (.str "falls")) (ac (cn (.str "notext")) (ac (cn (.str "toomany")) (ac (cn (.str "noline")) an))))))))))))) (gn 1))
  (sq (sif (to (tb (o2 neD (b1 lenD (ac (vr 0) an)) (cn (.int 13)))) (to (tb (o2 neD (mt Gez (sl2 (vr 0) onone (osome (cn (.int 12)))) (ac (cn (.bl true)) an)) (cn (.int 1)))) (tn (tt (o2 getD (vr 0) (cn (.int 12)))))))
  (sret (cn (.str "unlike")))
  skip)
  (sret (o2 getD (vr 1) (mt Ge0 (vr 0) (ac (cn (.bl true)) an))))))
def Kb:Fn:=fnB 2 Qb
theorem Gdb:FnS ["_law_marks","_law_words_here"] ["_law_marks"] (Ge Vt):=kdF
abbrev z17:=Ge Vt
theorem Gbs(Al:All P w K mg base):Cal P w K mg base "_law_name" ["_law_marks"] Kb 1:=by
 have Sc:=Gdb
 have T:=Al.t
 refine calw (b:=Qb) 0 Al.h.h__law_name Al.g Sc rfl fun _ _ _ _ _ _ _ hr=>?_
 conv=>arg 3; whnf
 refine GSs.h ?_
 exact(Gf (gsew 1 Sc (Gw (Ga Gh (Ga Gh (Ga Gh (Ga Gh (Ga Gh (Ga Gh (Ga Gh (Ga Gh (Ga Gh (Ga Gh (Ga Gh (Ga Gh Gc Gb) Gb) Gb) Gb) Gb) Gb) Gb) Gb) Gb) Gb) Gb) Gb)))
  (Gf (Hg (GW.jt (Gao (Gam hr.units (Ks (gG z17) T.b_len (Ga (gw 0 Sc) Gc Gg)) ge_int) (Gao (Gam hr.units (Gjd (Jr (gw 0 Sc) Qm (Qn ge_int)) (Ga Gak Gc Gb)) ge_int) (Gan (Us (Ut (He (gw 0 Sc) ge_int)))))))
  (Gi (Gn Gh))
  Gq)
  (Gi (Gn (He (gw 1 Sc) (Gje (gw 0 Sc) (Ga Gak Gc Gb)))))))
def Ht:Sv:=(sif (tb (o2 eqD (vr 0) (b1 Ggw (ac (vr 3) an))))
  (sret (vr 3))
  skip)
def Jw:Sv:=(sq (sfor (ir2 (ac (vr 1) (ac (o2 Gz (vr 2) (cn (.int 1))) an))) (gn 3) Ht)
  (sret (cn .non)))
def Jh:Fn:=fnB 4 Jw
theorem Ga3:FnS ["_law_word","_law_low","_law_high","_law_k"] ["_law_word","_law_low","_law_high"] (Ge Ub):=kdF
abbrev z18:=Ge Ub
theorem Jy(Al:All P w K mg base):Cal P w K mg base "_law_number" ["_law_word","_law_low","_law_high"] Jh 1:=by
 have Sc:=Ga3
 have T:=Al.t
 refine calw (b:=Jw) 0 Al.h.h__law_number Al.g Sc rfl fun _ _ _ _ _ _ _ hr=>?_
 conv=>arg 3; whnf
 refine GSs.h ?_
 exact(Gf (Xa PassesOwn.never rfl (Gg9 (gG z18) T.b_range (Ga (gw 1 Sc) (Ga (Gu (gw 2 Sc) ge_int) Gc Hl) Gg)) (ggw 3 Sc)
  (Gi (Hg (Ji hr.units (gw 0 Sc) (Gmu (gG z18) T.b_str (Ga (gw 3 Sc) Gc Gg)))
  (Gi (Gn (gw 3 Sc)))
  Gq)))
  (Gi (Gn Ho)))
def Wc:Sv:=(sq (sa (vr 2) (gt (gcons (gn 3) (gcons (gn 4) (gcons (gn 5) (gcons (gn 6) gnil)))) 4))
  (sq (sa (o2 getD (vr 0) (vr 1)) (gn 7))
  (sq (sif (tb (o2 eqD (vr 3) (cn (.str "place"))))
  (sq (sif (tb (o2 eqD (vr 4) (cn (.int 0))))
  (sret (ie (tb (o2 eqD (vr 7) (cn (.str "end")))) (tp (ac (cn (.str "gate")) (ac (cn (.int 1)) (ac (cn (.str "end")) (ac (cn (.int 0)) an))))) (cn .non)))
  skip)
  (sq (sif (tb (o2 eqD (vr 7) (cn (.str "end"))))
  (sret (ie (ta (tb (o2 eqD (vr 5) (cn (.str "chamber")))) (tb (o2 gtD (vr 4) (cn (.int 1))))) (tp (ac (cn (.str "over")) (ac (o2 Gz (vr 4) (cn (.int 1))) (ac (cn (.str "end")) (ac (cn (.int 0)) an))))) (cn .non)))
  skip)
  (sq (sif (tb (o2 eqD (vr 7) (cn (.str "chamber"))))
  (sret (ie (tb (o2 ltD (vr 4) (cn (.int 12)))) (tp (ac (cn (.str "gate")) (ac (o2 Gz (vr 4) (cn (.int 1))) (ac (cn (.str "chamber")) (ac (cn (.int 0)) an))))) (cn .non)))
  skip)
  (sret (ie (ta (tb (o2 eqD (vr 7) (cn (.str "pound")))) (ta (tb (o2 eqD (vr 5) (cn (.str "chamber")))) (tb (o2 ltD (vr 4) (cn (.int 11)))))) (tp (ac (cn (.str "brim")) (ac (o2 Gz (vr 4) (cn (.int 1))) (ac (cn (.str "pound")) (ac (cn (.int 0)) an))))) (cn .non))))))
  skip)
  (sq (sif (tb (o2 eqD (vr 3) (cn (.str "brim"))))
  (sq (sa (cl 3 (Gs Jh) (ac (vr 7) (ac (cn (.int 1)) (ac (cn (.int 9)) an)))) (gn 8))
  (sret (ie (tb (o2 Wo (vr 8) (cn .non))) (cn .non) (tp (ac (cn (.str "deep")) (ac (vr 4) (ac (vr 5) (ac (vr 8) an))))))))
  skip)
  (sq (sif (tb (o2 eqD (vr 3) (cn (.str "deep"))))
  (sret (ie (tb (o2 Wo (cl 3 (Gs Jh) (ac (vr 7) (ac (cn (.int 0)) (ac (vr 6) an)))) (cn .non))) (cn .non) (tp (ac (cn (.str "room")) (ac (vr 4) (ac (vr 5) (ac (cn (.int 0)) an)))))))
  skip)
  (sq (sif (tb (o2 eqD (vr 3) (cn (.str "room"))))
  (sret (ie (tb (o2 Wo (cl 3 (Gs Jh) (ac (vr 7) (ac (cn (.int 1)) (ac (cn (.int 4)) an)))) (cn .non))) (cn .non) (tp (ac (cn (.str "price")) (ac (vr 4) (ac (vr 5) (ac (cn (.int 0)) an)))))))
  skip)
  (sq (sif (tb (o2 eqD (vr 3) (cn (.str "over"))))
  (sret (cn .non))
  skip)
  (sq (sif (tb (o2 inD (vr 7) (ls (ac (cn (.str "up")) (ac (cn (.str "down")) an)))))
  (sret (tp (ac (cn (.str "place")) (ac (vr 4) (ac (vr 5) (ac (cn (.int 0)) an))))))
  skip)
  (sq (sif (ta (tb (o2 eqD (vr 3) (cn (.str "price")))) (tb (o2 Qj (cl 3 (Gs Jh) (ac (vr 7) (ac (cn (.int 0)) (ac (cn (.int 99)) an)))) (cn .non))))
  (sret (tp (ac (cn (.str "gate")) (ac (vr 4) (ac (vr 5) (ac (cn (.int 0)) an))))))
  skip)
  (sret (cn .non)))))))))))
def Uc:Fn:=fnB 9 Wc
theorem Gd6:FnS ["_law_words_here","_law_at","_law_state","_law_due","_law_many","_law_last","_law_brim","_law_word","_law_found"] ["_law_words_here","_law_at","_law_state"] (Ge Xb):=kdF
abbrev z19:=Ge Xb
theorem Gdc(Al:All P w K mg base):Cal P w K mg base "_law_can" ["_law_words_here","_law_at","_law_state"] Uc 2:=by
 have Sc:=Gd6
 refine calw (b:=Wc) 1 Al.h.h__law_can Al.g Sc rfl fun _ _ _ _ _ _ _ hr=>?_
 conv=>arg 3; whnf
 refine GSs.h ?_
 exact(Gf (Gc4 (gw 2 Sc) (Yv rfl (Jd (ggw 3 Sc) (Jd (ggw 4 Sc) (Jd (ggw 5 Sc) (Jd (ggw 6 Sc) Xk))))))
  (Gf (gsew 7 Sc (He (gw 0 Sc) (gw 1 Sc)))
  (Gf (Hg (Ji hr.units (gw 3 Sc) Gh)
  (Gf (Hg (Ji hr.units (gw 4 Sc) ge_int)
  (Gi (Gn (Ww (Ji hr.units (gw 7 Sc) Gh) (Jf (Ga Gh (Ga ge_int (Ga Gh (Ga ge_int Gc Gb) Gb) Gb) Gb)) Ho)))
  Gq)
  (Gf (Hg (Ji hr.units (gw 7 Sc) Gh)
  (Gi (Gn (Ww (GW.jt (Wy (Ji hr.units (gw 5 Sc) Gh) (Vn (Gd3 (gw 4 Sc) ge_int)))) (Jf (Ga Gh (Ga (Gu (gw 4 Sc) ge_int) (Ga Gh (Ga ge_int Gc Gb) Gb) Hl) Gb)) Ho)))
  Gq)
  (Gf (Hg (Ji hr.units (gw 7 Sc) Gh)
  (Gi (Gn (Ww (Gca (gw 4 Sc) ge_int) (Jf (Ga Gh (Ga (Gu (gw 4 Sc) ge_int) (Ga Gh (Ga ge_int Gc Gb) Gb) Hl) Gb)) Ho)))
  Gq)
  (Gi (Gn (Ww (GW.jt (Wy (Ji hr.units (gw 7 Sc) Gh) (Wy (Ji hr.units (gw 5 Sc) Gh) (Vn (Gca (gw 4 Sc) ge_int))))) (Jf (Ga Gh (Ga (Gu (gw 4 Sc) ge_int) (Ga Gh (Ga ge_int Gc Gb) Gb) Hl) Gb)) Ho))))))
  Gq)
  (Gf (Hg (Ji hr.units (gw 3 Sc) Gh)
  (Gf (gsew 8 Sc (gow z19 (Jy Al) hr (Ga (gw 7 Sc) (Ga ge_int (Ga ge_int Gc Gb) Gb) Gg)))
  (Gi (Gn (Ww (Yu (gw 8 Sc) Ho) Ho (Jf (Ga Gh (Ga (gw 4 Sc) (Ga (gw 5 Sc) (Ga (gw 8 Sc) Gc Gg) Gg) Gg) Gb))))))
  Gq)
  (Gf (Hg (Ji hr.units (gw 3 Sc) Gh)
  (Gi (Gn (Ww (Yu (gow z19 (Jy Al) hr (Ga (gw 7 Sc) (Ga ge_int (Ga (gw 6 Sc) Gc Gg) Gb) Gg)) Ho) Ho (Jf (Ga Gh (Ga (gw 4 Sc) (Ga (gw 5 Sc) (Ga ge_int Gc Gb) Gg) Gg) Gb)))))
  Gq)
  (Gf (Hg (Ji hr.units (gw 3 Sc) Gh)
  (Gi (Gn (Ww (Yu (gow z19 (Jy Al) hr (Ga (gw 7 Sc) (Ga ge_int (Ga ge_int Gc Gb) Gb) Gg)) Ho) Ho (Jf (Ga Gh (Ga (gw 4 Sc) (Ga (gw 5 Sc) (Ga ge_int Gc Gb) Gg) Gg) Gb)))))
  Gq)
  (Gf (Hg (Ji hr.units (gw 3 Sc) Gh)
  (Gi (Gn Ho))
  Gq)
  (Gf (Hg (Guz (gw 7 Sc) (Gw (Ga Gh (Ga Gh Gc Gb) Gb)))
  (Gi (Gn (Jf (Ga Gh (Ga (gw 4 Sc) (Ga (gw 5 Sc) (Ga ge_int Gc Gb) Gg) Gg) Gb))))
  Gq)
  (Gf (Hg (GW.jt (Wy (Ji hr.units (gw 3 Sc) Gh) (Vn (Zv (gow z19 (Jy Al) hr (Ga (gw 7 Sc) (Ga ge_int (Ga ge_int Gc Gb) Gb) Gg)) Ho))))
  (Gi (Gn (Jf (Ga Gh (Ga (gw 4 Sc) (Ga (gw 5 Sc) (Ga ge_int Gc Gb) Gg) Gg) Gb))))
  Gq)
  (Gi (Gn Ho)))))))))))
def Ja:Sv:=(sq (sa (cl 3 (Gs Uc) (ac (vr 0) (ac (vr 2) (ac (vr 1) an)))) (gn 1))
  (sif (tb (o2 Wo (vr 1) (cn .non)))
  (sret (vr 2))
  skip))
def Qr:Sv:=(sq (sa (tp (ac (cn (.str "place")) (ac (cn (.int 0)) (ac (cn (.str "")) (ac (cn (.int 0)) an))))) (gn 1))
  (sq (sfor (ir1 (ac (b1 lenD (ac (vr 0) an)) an)) (gn 2) Ja)
  (sret (ie (tb (o2 eqD (o2 getD (vr 1) (cn (.int 0))) (cn (.str "over")))) (cn .non) (b1 lenD (ac (vr 0) an))))))
def Wd:Fn:=fnB 3 Qr
theorem Gbt:FnS ["_law_words_here","_law_state","_law_at"] ["_law_words_here"] (Ge Ve):=kdF
abbrev z20:=Ge Ve
theorem Ga4(Al:All P w K mg base):Cal P w K mg base "_law_wrong" ["_law_words_here"] Wd 3:=by
 have Sc:=Gbt
 have T:=Al.t
 refine calw (b:=Qr) 2 Al.h.h__law_wrong Al.g Sc rfl fun _ _ _ _ _ _ _ hr=>?_
 conv=>arg 3; whnf
 refine GSs.h ?_
 exact(Gf (gsew 1 Sc (Jf (Ga Gh (Ga ge_int (Ga Gh (Ga ge_int Gc Gb) Gb) Gb) Gb)))
  (Gf (Xa PassesOwn.never rfl (Qv (gG z20) T.b_range (Ga (Ks (gG z20) T.b_len (Ga (gw 0 Sc) Gc Gg)) Gc Ha)) (ggw 2 Sc)
  (Gf (gsew 1 Sc (gow z20 (Gdc Al) hr (Ga (gw 0 Sc) (Ga (gw 2 Sc) (Ga (gw 1 Sc) Gc Gg) Gg) Gg)))
  (Gi (Hg (Yu (gw 1 Sc) Ho)
  (Gi (Gn (gw 2 Sc)))
  Gq))))
  (Gi (Gn (Ww (Ji hr.units (He (gw 1 Sc) ge_int) Gh) Ho (Ks (gG z20) T.b_len (Ga (gw 0 Sc) Gc Gg)))))))
def Ud:Sv:=(sq (sa (ls (ac (cn (.str "")) (ac (cn (.str "up")) (ac (cn (.str "down")) (ac (cn (.str "end")) (ac (cn (.str "chamber")) (ac (cn (.str "pound")) (ac (cn (.str "0")) (ac (cn (.str "1")) (ac (cn (.str "3")) (ac (cn (.str "4")) (ac (cn (.str "5")) (ac (cn (.str "9")) (ac (cn (.str "10")) (ac (cn (.str "99")) (ac (cn (.str "100")) (ac (cn (.str "01")) (ac (cn (.str "00")) (ac (cn (.str "-1")) (ac (cn (.str "+1")) (ac (cn (.str "1_0")) (ac (cn (.str "1.")) (ac (cn (.str "x")) (ac (cn (.str "End")) (ac (cn (.str "ends")) (ac (cn (.str "up\n")) (ac (cn (.str "1\n")) (ac (cn (.str "\tend")) (ac (cn (.str "pound 1")) (ac (cn (.str "None")) (ac (cn (.str "a")) an))))))))))))))))))))))))))))))) (gn 2))
  (sq (sa (cl 2 (Gs Gj) (ac (vr 0) (ac (b1 lenD (ac (vr 1) an)) an))) (gn 3))
  (sq (sa (o2 getD (vr 2) (cl 2 (Gs Gj) (ac (vr 0) (ac (cn (.int 30)) an)))) (gn 4))
  (sq (sa (cl 2 (Gs Gj) (ac (vr 0) (ac (cn (.int 7)) an))) (gn 5))
  (sq (sa (sl2 (vr 1) onone (osome (vr 3))) (gn 6))
  (sq (sa (sl2 (vr 1) (osome (o2 Gz (vr 3) (cn (.int 1)))) onone) (gn 7))
  (sq (sif (tb (o2 ltD (vr 5) (cn (.int 2))))
  (sret (o2 Gz (o2 Gz (vr 6) (ls (ac (vr 4) an))) (vr 7)))
  skip)
  (sq (sif (tb (o2 eqD (vr 5) (cn (.int 2))))
  (sret (o2 Gz (o2 Gz (vr 6) (ls (ac (vr 4) an))) (sl2 (vr 1) (osome (vr 3)) onone)))
  skip)
  (sq (sif (tb (o2 eqD (vr 5) (cn (.int 3))))
  (sret (o2 Gz (o2 Gz (vr 6) (ls (ac (o2 getD (vr 1) (vr 3)) an))) (sl2 (vr 1) (osome (vr 3)) onone)))
  skip)
  (sq (sif (tb (o2 eqD (vr 5) (cn (.int 4))))
  (sret (o2 Gz (vr 6) (vr 7)))
  skip)
  (sq (sif (tb (o2 eqD (vr 5) (cn (.int 5))))
  (sret (o2 Gz (o2 Gz (o2 Gz (vr 6) (sl2 (vr 7) onone (osome (cn (.int 1))))) (ls (ac (o2 getD (vr 1) (vr 3)) an))) (sl2 (vr 7) (osome (cn (.int 1))) onone)))
  skip)
  (sret (vr 6)))))))))))))
def Hw:Fn:=fnB 8 Ud
theorem Zr:FnS ["_law_tape_here","_law_words_here","_law_odd","_law_at","_law_word","_law_way","_law_ahead","_law_behind"] ["_law_tape_here","_law_words_here"] (Ge Qe):=kdF
abbrev z21:=Ge Qe
theorem Vi(Al:All P w K mg base):Cal P w K mg base "_law_spoiled" ["_law_tape_here","_law_words_here"] Hw 2:=by
 have Sc:=Zr
 have T:=Al.t
 refine calw (b:=Ud) 1 Al.h.h__law_spoiled Al.g Sc rfl fun _ _ _ _ _ _ _ hr=>?_
 conv=>arg 3; whnf
 refine GSs.h ?_
 exact(Gf (gsew 2 Sc (Gw (Ga Gh (Ga Gh (Ga Gh (Ga Gh (Ga Gh (Ga Gh (Ga Gh (Ga Gh (Ga Gh (Ga Gh (Ga Gh (Ga Gh (Ga Gh (Ga Gh (Ga Gh (Ga Gh (Ga Gh (Ga Gh (Ga Gh (Ga Gh (Ga Gh (Ga Gh (Ga Gh (Ga Gh (Ga Gh (Ga Gh (Ga Gh (Ga Gh (Ga Gh (Ga Gh Gc Gb) Gb) Gb) Gb) Gb) Gb) Gb) Gb) Gb) Gb) Gb) Gb) Gb) Gb) Gb) Gb) Gb) Gb) Gb) Gb) Gb) Gb) Gb) Gb) Gb) Gb) Gb) Gb) Gb) Gb)))
  (Gf (gsew 3 Sc (gow z21 (Gm Al) hr (Ga (gw 0 Sc) (Ga (Ks (gG z21) T.b_len (Ga (gw 1 Sc) Gc Gg)) Gc Ha) Gg)))
  (Gf (gsew 4 Sc (He (gw 2 Sc) (gow z21 (Gm Al) hr (Ga (gw 0 Sc) (Ga ge_int Gc Gb) Gg))))
  (Gf (gsew 5 Sc (gow z21 (Gm Al) hr (Ga (gw 0 Sc) (Ga ge_int Gc Gb) Gg)))
  (Gf (gsew 6 Sc (Jr (gw 1 Sc) Qm (Qn (gw 3 Sc))))
  (Gf (gsew 7 Sc (Jr (gw 1 Sc) (Qn (Gu (gw 3 Sc) ge_int)) Qm))
  (Gf (Hg (Gca (gw 5 Sc) ge_int)
  (Gi (Gn (Gu (Gu (gw 6 Sc) (Gw (Ga (gw 4 Sc) Gc Gg))) (gw 7 Sc))))
  Gq)
  (Gf (Hg (Ji hr.units (gw 5 Sc) ge_int)
  (Gi (Gn (Gu (Gu (gw 6 Sc) (Gw (Ga (gw 4 Sc) Gc Gg))) (Jr (gw 1 Sc) (Qn (gw 3 Sc)) Qm))))
  Gq)
  (Gf (Hg (Ji hr.units (gw 5 Sc) ge_int)
  (Gi (Gn (Gu (Gu (gw 6 Sc) (Gw (Ga (He (gw 1 Sc) (gw 3 Sc)) Gc Hd))) (Jr (gw 1 Sc) (Qn (gw 3 Sc)) Qm))))
  Gq)
  (Gf (Hg (Ji hr.units (gw 5 Sc) ge_int)
  (Gi (Gn (Gu (gw 6 Sc) (gw 7 Sc))))
  Gq)
  (Gf (Hg (Ji hr.units (gw 5 Sc) ge_int)
  (Gi (Gn (Gu (Gu (Gu (gw 6 Sc) (Jr (gw 7 Sc) Qm (Qn ge_int))) (Gw (Ga (He (gw 1 Sc) (gw 3 Sc)) Gc Hd))) (Jr (gw 7 Sc) (Qn ge_int) Qm))))
  Gq)
  (Gi (Gn (gw 6 Sc))))))))))))))
def Ki:Sv:=(sa (o2 Gz (vr 1) (ls (ac (o2 getD (ls (ac (cn (.str "up")) (ac (cn (.str "down")) an))) (cl 2 (Gs Gj) (ac (vr 0) (ac (cn (.int 2)) an)))) (ac (cn (.str "chamber")) an)))) (gn 1))
def Kj:Sv:=(sa (o2 Gz (o2 Gz (vr 1) (ls (ac (cn (.str "up")) an))) (o2 getD (ls (ac (ls (ac (cn (.str "pound")) (ac (cn (.str "2")) (ac (cn (.str "1")) (ac (cn (.str "1")) an))))) (ac (ls (ac (cn (.str "chamber")) an)) (ac (ls (ac (cn (.str "end")) an)) (ac (ls (ac (cn (.str "chamber")) an)) an))))) (cl 2 (Gs Gj) (ac (vr 0) (ac (cn (.int 4)) an))))) (gn 1))
def Xg:Sv:=(sq (sa (ls (ac (cn (.str "end")) an)) (gn 1))
  (sq (sfor (ir1 (ac (o2 Gz (cn (.int 9)) (cl 2 (Gs Gj) (ac (vr 0) (ac (cn (.int 4)) an)))) an)) (gn 2) Ki)
  (sq (sfor (ir1 (ac (o2 Gz (cn (.int 1)) (cl 2 (Gs Gj) (ac (vr 0) (ac (cn (.int 3)) an)))) an)) (gn 2) Kj)
  (sret (vr 1)))))
def Qc:Fn:=fnB 3 Xg
theorem Gdd:FnS ["_law_tape_here","_law_found","_law_k"] ["_law_tape_here"] (Ge Vu):=kdF
abbrev z22:=Ge Vu
theorem Gbu(Al:All P w K mg base):Cal P w K mg base "_law_long" ["_law_tape_here"] Qc 2:=by
 have Sc:=Gdd
 have T:=Al.t
 refine calw (b:=Xg) 1 Al.h.h__law_long Al.g Sc rfl fun _ _ _ _ _ _ _ hr=>?_
 conv=>arg 3; whnf
 refine GSs.h ?_
 exact(Gf (gsew 1 Sc (Gw (Ga Gh Gc Gb)))
  (Gf (Xa PassesOwn.never rfl (Qv (gG z22) T.b_range (Ga (Gu ge_int (gow z22 (Gm Al) hr (Ga (gw 0 Sc) (Ga ge_int Gc Gb) Gg))) Gc Hl)) (ggw 2 Sc)
  (Gi (gsew 1 Sc (Gu (gw 1 Sc) (Gw (Ga (He (Gw (Ga Gh (Ga Gh Gc Gb) Gb)) (gow z22 (Gm Al) hr (Ga (gw 0 Sc) (Ga ge_int Gc Gb) Gg))) (Ga Gh Gc Gb) Hd))))))
  (Gf (Xa PassesOwn.never rfl (Qv (gG z22) T.b_range (Ga (Gu ge_int (gow z22 (Gm Al) hr (Ga (gw 0 Sc) (Ga ge_int Gc Gb) Gg))) Gc Hl)) (ggw 2 Sc)
  (Gi (gsew 1 Sc (Gu (Gu (gw 1 Sc) (Gw (Ga Gh Gc Gb))) (He (Gw (Ga (Gw (Ga Gh (Ga Gh (Ga Gh (Ga Gh Gc Gb) Gb) Gb) Gb)) (Ga (Gw (Ga Gh Gc Gb)) (Ga (Gw (Ga Gh Gc Gb)) (Ga (Gw (Ga Gh Gc Gb)) Gc Ya) Ya) Ya) Ya)) (gow z22 (Gm Al) hr (Ga (gw 0 Sc) (Ga ge_int Gc Gb) Gg)))))))
  (Gi (Gn (gw 1 Sc))))))
def Qh:Sv:=(sa (cl 1 (gX ys Ke) (ac (vr 0) an)) (gn 2))
def Qi:Sv:=(sq (sa (ls (ac (o1 (Jo ys ["NoGate"]) (vr 4)) (ac (o1 (Jo ys ["Dry"]) (vr 4)) (ac (o1 (Jo ys ["Full"]) (vr 4)) (ac (o1 (Jo ys ["NoSpring"]) (vr 4)) an))))) (gn 3))
  (sq (sa (o2 Gz (vr 3) (ls (ac (o1 (Jo ys ["NoBarge"]) (vr 4)) (ac (o1 (Jo ys ["NoRoom"]) (vr 4)) (ac (o1 (Jo ys ["Uneven"]) (vr 4)) an))))) (gn 3))
  (sq (sa (o2 Gz (vr 3) (ls (ac (o1 (Jo ys ["Shallow"]) (vr 4)) (ac (o1 (Jo ys ["Falls"]) (vr 4)) (ac (o1 (Jo ys ["NoText"]) (vr 4)) an))))) (gn 3))
  (sq (sa (o2 Gz (vr 3) (ls (ac (o1 (Jo ys ["TooMany"]) (vr 4)) (ac (o1 (Jo ys ["NoLine"]) (vr 4)) (ac (o1 (Jo ys ys) (vr 4)) an))))) (gn 3))
  (sif (tt (o1 (Jo ys ["NoText"]) (vr 4)))
  (sa (o1 (atD ats) (vr 4)) (gn 2))
  skip)))))
def We:Sv:=(sq (sa (cl 1 (Gs Wd) (ac (mts Wr (vr 0) (ac (cn (.str " ")) an)) an)) (gn 1))
  (sq (sa (cn .non) (gn 2))
  (sq (sa (ls an) (gn 3))
  (sq (Ye ys (hdl 4 Qi) Qh)
  (sq (sif (tb (o2 Wo (vr 1) (cn .non)))
  (sret (va (o2 eqD (vr 3) (ls an)) (o2 eqD (cl 1 (Gs Vv) (ac (vr 2) an)) (vr 0))))
  skip)
  (sret (va (o2 eqD (cl 1 (Gs Kb) (ac (vr 3) an)) (cn (.str "notext"))) (va (cl 1 (Gs Wb) (ac (vr 2) an)) (o2 eqD (vr 2) (vr 1))))))))))
def Jk:Fn:=fnB 5 We
theorem Gbv:FnS ["_law_text","_law_at","_law_found","_law_marks","e"] ["_law_text"] (Ge Vf):=kdF
abbrev z23:=Ge Vf
theorem Gu4:OkC z23 "e":=⟨by decide +kernel⟩
theorem Gbw:Hf "SummitError"=true:=by decide +kernel
theorem Kk(Al:All P w K mg base):Cal P w K mg base "_law_right" ["_law_text"] Jk 10:=by
 have Sc:=Gbv
 have T:=Al.t
 refine calw (b:=We) 9 Al.h.h__law_right Al.g Sc rfl fun _ _ _ _ _ _ _ hr=>?_
 conv=>arg 3; whnf
 refine GSs.h ?_
 exact(Gf (gsew 1 Sc (gow z23 (Ga4 Al) hr (Ga (Gd2 (gw 0 Sc) (Ga Gh Gc Gb)) Gc Ha)))
  (Gf (gsew 2 Sc Ho)
  (Gf (gsew 3 Sc (Gw Gc))
  (Gf (Gmv 4 ⟨rfl,rfl,rfl⟩ T.xt.cat (gG z23) Gbw Sc.nd Gu4 (fun pn xe XQ L=>(Gi (gsew 2 Sc (Gaq z23 T.xt.xns L (Gay Al) hr (Ga (gw 0 Sc) Gc Gg)))))
  (fun a=>(Gf (gsew 3 Sc (Gw (Ga (Kt z23 (T.xt.isx "NoGate" (by decide +kernel)) T.b_isinstance (gw 4 Sc)) (Ga (Kt z23 (T.xt.isx "Dry" (by decide +kernel)) T.b_isinstance (gw 4 Sc)) (Ga (Kt z23 (T.xt.isx "Full" (by decide +kernel)) T.b_isinstance (gw 4 Sc)) (Ga (Kt z23 (T.xt.isx "NoSpring" (by decide +kernel)) T.b_isinstance (gw 4 Sc)) Gc Ha) Ha) Ha) Ha)))
  (Gf (gsew 3 Sc (Gu (gw 3 Sc) (Gw (Ga (Kt z23 (T.xt.isx "NoBarge" (by decide +kernel)) T.b_isinstance (gw 4 Sc)) (Ga (Kt z23 (T.xt.isx "NoRoom" (by decide +kernel)) T.b_isinstance (gw 4 Sc)) (Ga (Kt z23 (T.xt.isx "Uneven" (by decide +kernel)) T.b_isinstance (gw 4 Sc)) Gc Ha) Ha) Ha))))
  (Gf (gsew 3 Sc (Gu (gw 3 Sc) (Gw (Ga (Kt z23 (T.xt.isx "Shallow" (by decide +kernel)) T.b_isinstance (gw 4 Sc)) (Ga (Kt z23 (T.xt.isx "Falls" (by decide +kernel)) T.b_isinstance (gw 4 Sc)) (Ga (Kt z23 (T.xt.isx "NoText" (by decide +kernel)) T.b_isinstance (gw 4 Sc)) Gc Ha) Ha) Ha))))
  (Gf (gsew 3 Sc (Gu (gw 3 Sc) (Gw (Ga (Kt z23 (T.xt.isx "TooMany" (by decide +kernel)) T.b_isinstance (gw 4 Sc)) (Ga (Kt z23 (T.xt.isx "NoLine" (by decide +kernel)) T.b_isinstance (gw 4 Sc)) (Ga (Gsi z23 T.xt.val T.b_isinstance T.b_ValueError (gw 4 Sc)) Gc Ha) Ha) Ha))))
  (Gi (Hg (Ut (Kt z23 (T.xt.isx "NoText" (by decide +kernel)) T.b_isinstance (gw 4 Sc)))
  (Gi (gsew 2 Sc (Guv T.atc (gw 4 Sc))))
  Gq))))))))
  (Gf (Hg (Yu (gw 1 Sc) Ho)
  (Gi (Gn (Yt (Zl hr.units (gw 3 Sc) (Gw Gc)) (Gal (Zl hr.units (gow z23 (Gat Al) hr (Ga (gw 2 Sc) Gc Gg)) (gw 0 Sc))))))
  Gq)
  (Gi (Gn (Yt (Zl hr.units (gow z23 (Gbs Al) hr (Ga (gw 3 Sc) Gc Gg)) Gh) (Yt (gow z23 (Ga2 Al) hr (Ga (gw 2 Sc) Gc Gg)) (Gal (Zl hr.units (gw 2 Sc) (gw 1 Sc))))))))))))
def Yh:Sv:=(sq (sa (cl 1 (Gs Wa) (ac (cl 2 (Gs Qq) (ac (vr 1) (ac (cn (.int 11)) an))) an)) (gn 3))
  (sq (sa (mts Xm (cn (.str " ")) (ac (vr 3) an)) (gn 4))
  (sq (sa (o2 getD (ls (ac (cn (.str " ")) (ac (cn (.str "\n")) (ac (cn (.str "\t")) (ac (cn (.str "  ")) (ac (cn (.str "\n\n")) (ac (cn (.str ";")) an))))))) (cl 2 (Gs Gj) (ac (vr 1) (ac (cn (.int 6)) an)))) (gn 5))
  (sq (sif (to (tn (tt (cl 1 (Gs Jk) (ac (vr 4) an)))) (to (tn (tt (cl 1 (Gs Jk) (ac (o2 Gz (vr 4) (vr 5)) an)))) (tn (tt (cl 1 (Gs Jk) (ac (o2 Gz (vr 5) (vr 4)) an))))))
  (sret (cn (.bl false)))
  skip)
  (sq (sif (tb (o2 eqD (vr 2) (cn (.int 7))))
  (sa (cl 1 (Gs Qc) (ac (vr 1) an)) (gn 3))
  (sa (cl 2 (Gs Hw) (ac (vr 1) (ac (vr 3) an))) (gn 3)))
  (sq (sif (ta (tb (o2 neD (vr 3) (ls an))) (tb (o2 eqD (cl 2 (Gs Gj) (ac (vr 1) (ac (cn (.int 3)) an))) (cn (.int 0)))))
  (sa (cl 2 (Gs Hw) (ac (vr 1) (ac (vr 3) an))) (gn 3))
  skip)
  (sif (tn (tt (cl 1 (Gs Jk) (ac (mts Xm (cn (.str " ")) (ac (vr 3) an)) an))))
  (sret (cn (.bl false)))
  skip)))))))
def Gd7:Sv:=(sq (sa (cl 1 (Gs Xf) (ac (vr 0) an)) (gn 1))
  (sq (sfor (ir1 (ac (cn (.int 8)) an)) (gn 2) Yh)
  (sret (cn (.bl true)))))
def Gcc:Fn:=fnB 6 Gd7
theorem Gsj:FnS ["_law_script","_law_tape_here","_law_k","_law_words_here","_law_text","_law_odd"] ["_law_script"] (Ge Gar):=kdF
abbrev z24:=Ge Gar
theorem Gmy(Al:All P w K mg base){f:Addr}{fd:FuncData}(F:Fun K "law" "law" Gar f fd):FnOk P w K mg base CX0 11 f fd ["_law_script"] (spD K 1 Gcc):=by
 have Sc:=Gsj
 have T:=Al.t
 refine Gny (b:=Gd7) F Sc.s fun cdv A outer s H E hr=>?_
 conv=>arg 3; whnf
 refine GSs.h ?_
 exact(Gf (gsew 1 Sc (gow z24 (Gbn Al) hr (Ga (gw 0 Sc) Gc Gg)))
  (Gf (Xa PassesOwn.never rfl (Qv (gG z24) T.b_range (Ga ge_int Gc Gb)) (ggw 2 Sc)
  (Gf (gsew 3 Sc (gow z24 (Ga1 Al) hr (Ga (gow z24 (Ga0 Al) hr (Ga (gw 1 Sc) (Ga ge_int Gc Gb) Gg)) Gc Ha)))
  (Gf (gsew 4 Sc (Gc1 Gh (Ga (gw 3 Sc) Gc Gg)))
  (Gf (gsew 5 Sc (He (Gw (Ga Gh (Ga Gh (Ga Gh (Ga Gh (Ga Gh (Ga Gh Gc Gb) Gb) Gb) Gb) Gb) Gb)) (gow z24 (Gm Al) hr (Ga (gw 1 Sc) (Ga ge_int Gc Gb) Gg))))
  (Gf (Hg (GW.jt (Gao (Us (Ut (gow z24 (Kk Al) hr (Ga (gw 4 Sc) Gc Gg)))) (Gao (Us (Ut (gow z24 (Kk Al) hr (Ga (Gu (gw 4 Sc) (gw 5 Sc)) Gc Hl)))) (Gan (Us (Ut (gow z24 (Kk Al) hr (Ga (Gu (gw 5 Sc) (gw 4 Sc)) Gc Hl))))))))
  (Gi (Gn Gak))
  Gq)
  (Gf (Hg (Ji hr.units (gw 2 Sc) ge_int)
  (Gi (gsew 3 Sc (gow z24 (Gbu Al) hr (Ga (gw 1 Sc) Gc Gg))))
  (Gi (gsew 3 Sc (gow z24 (Vi Al) hr (Ga (gw 1 Sc) (Ga (gw 3 Sc) Gc Gg) Gg)))))
  (Gf (Hg (GW.jt (Wy (Gam hr.units (gw 3 Sc) (Gw Gc)) (Vn (Ji hr.units (gow z24 (Gm Al) hr (Ga (gw 1 Sc) (Ga ge_int Gc Gb) Gg)) ge_int))))
  (Gi (gsew 3 Sc (gow z24 (Vi Al) hr (Ga (gw 1 Sc) (Ga (gw 3 Sc) Gc Gg) Gg))))
  Gq)
  (Gi (Hg (Us (Ut (gow z24 (Kk Al) hr (Ga (Gc1 Gh (Ga (gw 3 Sc) Gc Gg)) Gc Ha))))
  (Gi (Gn Gak))
  Gq)))))))))
  (Gi (Gn Gak))))
end
theorem Gsk{l:PySem.W.OpenLaw}{h:Heap}{fa:Addr}(X:K.In h)(G:h.Ns mainGlobals mg)(hfa:mg "law"=some (.ref fa))(HS:Hs K){kp_CHAMBER:Addr}{kt_CHAMBER:Tok}{kn_CHAMBER:Nat}{ks_CHAMBER:Array (Option Value)}(ka_CHAMBER:PySem.W.nsIn K mainGlobals "CHAMBER"=some (some (.ref kp_CHAMBER)))(kl_CHAMBER:K.lookup kp_CHAMBER=some { cls:=.type "tuple",dict:=none,data:=.seq #[.str "chamber" kt_CHAMBER] kn_CHAMBER,slots:=ks_CHAMBER }){kt_DOWN:Tok}(ka_DOWN:PySem.W.nsIn K mainGlobals "DOWN"=some (some (.str "down" kt_DOWN))){kp_END:Addr}{kt_END:Tok}{kn_END:Nat}{ks_END:Array (Option Value)}(ka_END:PySem.W.nsIn K mainGlobals "END"=some (some (.ref kp_END)))(kl_END:K.lookup kp_END=some { cls:=.type "tuple",dict:=none,data:=.seq #[.str "end" kt_END] kn_END,slots:=ks_END }){kt_FIGURES:Tok}(ka_FIGURES:PySem.W.nsIn K mainGlobals "FIGURES"=some (some (.str "0123456789" kt_FIGURES))){kt_MOST_BRIM:Tok}(ka_MOST_BRIM:PySem.W.nsIn K mainGlobals "MOST_BRIM"=some (some (.int 9 kt_MOST_BRIM))){kt_MOST_FIGURES:Tok}(ka_MOST_FIGURES:PySem.W.nsIn K mainGlobals "MOST_FIGURES"=some (some (.int 16 kt_MOST_FIGURES))){kt_MOST_PLACES:Tok}(ka_MOST_PLACES:PySem.W.nsIn K mainGlobals "MOST_PLACES"=some (some (.int 13 kt_MOST_PLACES))){kt_MOST_PRICE:Tok}(ka_MOST_PRICE:PySem.W.nsIn K mainGlobals "MOST_PRICE"=some (some (.int 99 kt_MOST_PRICE))){kt_MOST_ROOM:Tok}(ka_MOST_ROOM:PySem.W.nsIn K mainGlobals "MOST_ROOM"=some (some (.int 4 kt_MOST_ROOM))){kt_UP:Tok}(ka_UP:PySem.W.nsIn K mainGlobals "UP"=some (some (.str "up" kt_UP))){cc_SummitError:Addr}(ca_SummitError:PySem.W.nsIn K mainGlobals "SummitError"=some (some (.ref cc_SummitError))){cc_NoGate:Addr}(ca_NoGate:PySem.W.nsIn K mainGlobals "NoGate"=some (some (.ref cc_NoGate))){cc_Dry:Addr}(ca_Dry:PySem.W.nsIn K mainGlobals "Dry"=some (some (.ref cc_Dry))){cc_Full:Addr}(ca_Full:PySem.W.nsIn K mainGlobals "Full"=some (some (.ref cc_Full))){cc_NoSpring:Addr}(ca_NoSpring:PySem.W.nsIn K mainGlobals "NoSpring"=some (some (.ref cc_NoSpring))){cc_NoBarge:Addr}(ca_NoBarge:PySem.W.nsIn K mainGlobals "NoBarge"=some (some (.ref cc_NoBarge))){cc_NoRoom:Addr}(ca_NoRoom:PySem.W.nsIn K mainGlobals "NoRoom"=some (some (.ref cc_NoRoom))){cc_Uneven:Addr}(ca_Uneven:PySem.W.nsIn K mainGlobals "Uneven"=some (some (.ref cc_Uneven))){cc_Shallow:Addr}(ca_Shallow:PySem.W.nsIn K mainGlobals "Shallow"=some (some (.ref cc_Shallow))){cc_Falls:Addr}(ca_Falls:PySem.W.nsIn K mainGlobals "Falls"=some (some (.ref cc_Falls))){cc_NoText:Addr}(ca_NoText:PySem.W.nsIn K mainGlobals "NoText"=some (some (.ref cc_NoText))){cc_TooMany:Addr}(ca_TooMany:PySem.W.nsIn K mainGlobals "TooMany"=some (some (.ref cc_TooMany))){cc_NoLine:Addr}(ca_NoLine:PySem.W.nsIn K mainGlobals "NoLine"=some (some (.ref cc_NoLine)))(xtb:Gi8 K cc_SummitError [("NoGate",cc_NoGate),("Dry",cc_Dry),("Full",cc_Full),("NoSpring",cc_NoSpring),("NoBarge",cc_NoBarge),("NoRoom",cc_NoRoom),("Uneven",cc_Uneven),("Shallow",cc_Shallow),("Falls",cc_Falls),("NoText",cc_NoText),("TooMany",cc_TooMany),("NoLine",cc_NoLine)] [("NoGate",cc_NoGate),("Dry",cc_Dry),("Full",cc_Full),("NoSpring",cc_NoSpring),("NoBarge",cc_NoBarge),("NoRoom",cc_NoRoom),("Uneven",cc_Uneven),("Shallow",cc_Shallow),("Falls",cc_Falls),("NoText",cc_NoText),("TooMany",cc_TooMany),("NoLine",cc_NoLine)]=true)(atb:atB K [("Falls",cc_Falls),("NoText",cc_NoText)]=true){fi:Addr}{odI anI:Option Addr}{slI:Array (Option Value)}{kVI dcI pmI cdI ctI:Value}(iI:PySem.W.findIn K (.ref cc_SummitError) "__init__"=some (some (.ref fi)))(lI:K.lookup fi=some ⟨.type "function",odI,.func (PySem.W.fnOf "__init__" "SummitError.__init__" (Hx Kv) (Gx Kv) (Ge Kv) .none kVI dcI pmI anI cdI ctI),slI⟩)(cI:PySem.W.codeIn K cdI "SummitError.__init__"=true)(kI:PySem.W.keepIn K (.ref fi)=true)(rdI:PySem.W.readsIn K cc_SummitError (.type "type")=true)(fcI:PySem.W.findCls K (.ref cc_SummitError) (.type "type") "__init__"=some (.val (.ref fi)))(sgI:PySem.W.specialIn K (.ref cc_SummitError) "__getattribute__"=some (some (.builtin "type.__getattribute__"))){fj_NoText:Addr}{odJ_NoText anJ_NoText:Option Addr}{slJ_NoText:Array (Option Value)}{kVJ_NoText dcJ_NoText pmJ_NoText cdJ_NoText ctJ_NoText:Value}(iJ_NoText:PySem.W.findIn K (.ref cc_NoText) "__init__"=some (some (.ref fj_NoText)))(lJ_NoText:K.lookup fj_NoText=some ⟨.type "function",odJ_NoText,.func (PySem.W.fnOf "__init__" "NoText.__init__" (Hx Hb) (Gx Hb) (Ge Hb) .none kVJ_NoText dcJ_NoText pmJ_NoText anJ_NoText cdJ_NoText ctJ_NoText),slJ_NoText⟩)(cJ_NoText:PySem.W.codeIn K cdJ_NoText "NoText.__init__"=true)(kJ_NoText:PySem.W.keepIn K (.ref fj_NoText)=true)(cj_NoText:Gr6 K cc_NoText fj_NoText=true)
  : ∃ fd:FuncData,(∀ (s:Shared) (v:Value),BindsTo s fd ⟨[v],[]⟩ [("_law_script",v)])/\∀ base:Heap,K.In base->base.Ns mainGlobals mg->FnOk l.prog w K mg base CX0 11 fa fd ["_law_script"] (spD K 1 Gcc):=by
 obtain⟨_,_,_,_,_,_,_,_,_,k_law,c_law,l_law⟩:=HS.h_law.fnx X G hfa
 have F:=Gac (st:=Gar) l_law c_law k_law
 have T:Txt K mg:=⟨PySem.W.mg_none_of X G HS.z_ValueError,PySem.W.mg_none_of X G HS.z_all,PySem.W.mg_none_of X G HS.z_bool,PySem.W.mg_none_of X G HS.z_enumerate,PySem.W.mg_none_of X G HS.z_int,PySem.W.mg_none_of X G HS.z_isinstance,PySem.W.mg_none_of X G HS.z_len,PySem.W.mg_none_of X G HS.z_list,PySem.W.mg_none_of X G HS.z_min,PySem.W.mg_none_of X G HS.z_range,PySem.W.mg_none_of X G HS.z_str,PySem.W.mg_none_of X G HS.z_tuple,PySem.W.mg_none_of X G HS.z_zip,Gji X G ka_CHAMBER kl_CHAMBER,Gc5 X G ka_DOWN,Gji X G ka_END kl_END,Gc5 X G ka_FIGURES,Yg X G ka_MOST_BRIM,Yg X G ka_MOST_FIGURES,Yg X G ka_MOST_PLACES,Yg X G ka_MOST_PRICE,Yg X G ka_MOST_ROOM,Gc5 X G ka_UP,Guo X G ca_SummitError xtb,Guu atb⟩
 have hVE:mg "ValueError"=none:=PySem.W.mg_none_of X G HS.z_ValueError
 have ini:∀ base:Heap,IniX l.prog w K mg base fi 1:=fun base=>ini_mk (st:=Kv) lI cI kI sc_init (Ghb hVE) (fun _ _ _ _ _ _ us hl=>match us,hl with | [_,_],_=>rfl)
 have bI:BaseI K mg "SummitError" fi:=⟨cc_SummitError,.type "type",PySem.W.mg_of X G ca_SummitError,rdI,fcI,sgI,kI⟩
 have jni_NoText:∀ base:Heap,IniJ l.prog w K mg base fj_NoText 3:=fun base=>inj_mk (st:=Hb) 2 lJ_NoText cJ_NoText kJ_NoText sc_init_NoText (Yw bI (ini base)) (fun _ _ _ _ _ _ us hl=>match us,hl with | [_,_],_=>rfl)
 exact⟨_,fun s v=>.of_eq rfl,fun base _ _=>Gmy ⟨HS,⟨h,X,G⟩,T,Gr7 X G (jni_NoText base) ca_NoText cj_NoText⟩ F⟩
end Law
namespace WM
def stp(b l d:Int):Int:=min b (l+d)
def F(b:Int)(ds:List Int)(x:Int):Int:=ds.foldl (stp b) x
def AP(ds:List Int)(x:Int):Prop:=∀ j,1<=j->j<=ds.length->0<=x+(ds.take j).sum
inductive R where
 | dry (k:Nat) | lev (l:Int)
def R.bind(o:R)(g:Int->R):R:=match o with
 | .dry k=>.dry k
 | .lev l=>g l
def wl(b:Int):List Int->Nat->Int->R
 | [],_,x=>.lev x
 | d::r,k,x=>if stp b x d<0 then .dry k else wl b r (k+1) (stp b x d)
def most(b:Int)(ds:List Int):Int:=F b ds.tail b
def start(ds:List Int)(mn:Int):Int:=max 0 (-mn)
structure IsMin(ds:List Int)(mn:Int):Prop where
 le:∀ j,1<=j->j<=ds.length->mn<=(ds.take j).sum
 at':∃ j,1<=j/\j<=ds.length/\mn=(ds.take j).sum
end WM
namespace DL
open PySem PySem.Spec PyProof.Rows L2
variable{i:Int}{d:D}{f fa:Ev D}{k:Nat}
section
variable{ρ:Lc}{S:Sto}{α β:Type}
@[simp] theorem Gy{a:α}{g:α->Sto->Out β}:(Out.ok a S).bind g=g a S:=id rfl
@[simp] theorem Gu5{g:α->Sto->Out β}:(Out.bad:Out α).bind g=.bad:=id rfl
@[simp] theorem Hi{a:α}{g:α->Sto->OS}:bindS (Out.ok a S) ρ g=g a S:=id rfl
@[simp] theorem Gs6{g:α->Sto->OS}:bindS (Out.bad:Out α) ρ g=.bad:=id rfl
@[simp] theorem Zm{i:Nat}:vr i ρ S=match ρ[i]? with
 | some (some d)=>.ok d S
 | _=>.bad:=id rfl
@[simp] theorem Gcd:cn d ρ S=.ok d S:=id rfl
@[simp] theorem Zn:an ρ S=.ok [] S:=id rfl
@[simp] theorem Yi{g:Ev (List D)}:ac f g ρ S=(f ρ S).bind fun x S1=>(g ρ S1).bind fun xs S2=>.ok (x::xs) S2:=id rfl
@[simp] theorem Yj{o:D->D->Sto->Out D}{fb:Ev D}:o2 o fa fb ρ S=(fa ρ S).bind fun x S1=>(fb ρ S1).bind fun y S2=>o x y S2:=id rfl
@[simp] theorem Gu6{o:D->Sto->Out D}:o1 o fa ρ S=(fa ρ S).bind fun x S1=>o x S1:=id rfl
@[simp] theorem Gd8{o:List D->Sto->Out D}{f:Ev (List D)}:b1 o f ρ S=(f ρ S).bind o:=id rfl
@[simp] theorem Gw8{n:Nat}{fn:Fn}{t:Ev (List D)}:cl n fn t ρ S=(t ρ S).bind fun ds S1=>if ds.length=n then fn ds S1 else .bad:=id rfl
@[simp] theorem Gu7{fn:Fn}{ds:List D}:Gs fn ds S=match fn ds S with
 | .ok d S'=>.ok d S'
 | _=>.bad:=id rfl
@[simp] theorem Gf2:tb f ρ S=(f ρ S).bind fun x S1=>match x with
 | .bl b=>.ok b S1
 | _=>.bad:=id rfl
@[simp] theorem God:tt f ρ S=(f ρ S).bind fun x S1=>match Uh x S1 with
 | some b=>.ok b S1
 | none=>.bad:=id rfl
@[simp] theorem Gjn{f:Ev Bool}:tn f ρ S=(f ρ S).bind fun b S1=>.ok (!b) S1:=id rfl
@[simp] theorem Gu8{f g:Ev Bool}:ta f g ρ S=(f ρ S).bind fun b S1=>if b=true then g ρ S1 else .ok false S1:=id rfl
@[simp] theorem Gjo{f g:Ev Bool}:to f g ρ S=(f ρ S).bind fun b S1=>if b=true then .ok true S1 else g ρ S1:=id rfl
@[simp] theorem Gw9{g:Ev D}:va f g ρ S=(f ρ S).bind fun x S1=>match x with
 | .bl b=>if b=true then g ρ S1 else .ok (.bl false) S1
 | _=>.bad:=id rfl
@[simp] theorem Gxa{g:Ev D}:vo f g ρ S=(f ρ S).bind fun x S1=>match x with
 | .bl b=>if b=true then .ok (.bl true) S1 else g ρ S1
 | _=>.bad:=id rfl
@[simp] theorem Gxb:vn f ρ S=(f ρ S).bind fun x S1=>match x with
 | .bl b=>.ok (.bl (!b)) S1
 | _=>.bad:=id rfl
@[simp] theorem Gxc{c:Ev Bool}{g:Ev D}:ie c f g ρ S=(c ρ S).bind fun b S1=>if b=true then f ρ S1 else g ρ S1:=id rfl
@[simp] theorem Gu9{f:Ev (List D)}:tp f ρ S=(f ρ S).bind fun xs S1=>if xs.length<=1000000 then .ok (.tup xs) S1 else .bad:=id rfl
@[simp] theorem Gva{f:Ev (List D)}:ls f ρ S=(f ρ S).bind fun xs S1=>if xs.length<=1000000 then .ok (.lst S1.length) (S1++[⟨false,xs⟩]) else .bad:=id rfl
@[simp] theorem Gwz{fe:Ev D}{fl fh:Ev (Option Int)}:sl2 fe fl fh ρ S=(fe ρ S).bind fun x S1=>(fl ρ S1).bind fun l S2=>(fh ρ S2).bind fun u S3=>Gev x l u S3:=id rfl
@[simp] theorem Gvb:onone ρ S=.ok none S:=id rfl
@[simp] theorem Gvc:osome f ρ S=(f ρ S).bind fun x S1=>match x with
 | .int i=>.ok (some i) S1
 | _=>.bad:=id rfl
@[simp] theorem Gvd{o:D->List D->Sto->Out D}{fo:Ev D}{f:Ev (List D)}:mt o fo f ρ S=(fo ρ S).bind fun x S1=>if isLst x S1=true then(f ρ S1).bind fun xs S2=>o x xs S2 else .bad:=id rfl
@[simp] theorem Gve{o o':D->D->Sto->Out D}{fb fc:Ev D}:ch o o' fa fb fc ρ S=(fa ρ S).bind fun x S1=>(fb ρ S1).bind fun y S2=>(o x y S2).bind fun z S3=>match z with
 | .bl b=>if b=true then(fc ρ S3).bind fun w S4=>o' y w S4 else .ok (.bl false) S3
 | _=>.bad:=id rfl
@[simp] theorem Ga5{f g:Sv}:sq f g ρ S=match f ρ S with
 | .nx ρ' S'=>g ρ' S'
 | .rt d S'=>.rt d S'
 | .bk ρ' S'=>.bk ρ' S'
 | .ct ρ' S'=>.ct ρ' S'
 | .exc x ρ' S'=>.exc x ρ' S'
 | .bad=>.bad:=id rfl
@[simp] theorem Gd9{g:Tg}:sa f g ρ S=bindS (f ρ S) ρ fun d S1=>match g d ρ with
 | some ρ'=>.nx ρ' S1
 | none=>.bad:=id rfl
@[simp] theorem Gxd{i:Nat}:gn i d ρ=some (ρ.set i (some d)):=id rfl
@[simp] theorem Uk:sret f ρ S=bindS (f ρ S) ρ fun d S1=>.rt d S1:=id rfl
@[simp] theorem Gde{c:Ev Bool}{f g:Sv}:sif c f g ρ S=bindS (c ρ S) ρ fun b S1=>if b=true then f ρ S1 else g ρ S1:=id rfl
@[simp] theorem Gvf:sx f ρ S=bindS (f ρ S) ρ fun _ S1=>.nx ρ S1:=id rfl
@[simp] theorem Qs:skip ρ S=.nx ρ S:=id rfl
@[simp] theorem Gxe{fo fi:Ev D}{o:D->D->D->Sto->Option Sto}:ss f fo fi o ρ S=bindS (f ρ S) ρ fun d S1=>bindS (fo ρ S1) ρ fun x S2=>bindS (fi ρ S2) ρ fun y S3=>match o x y d S3 with
 | some S4=>.nx ρ S4
 | none=>.bad:=id rfl
@[simp] theorem Gw0{i:Nat}{g:Int->Int->Int}:sag i g f ρ S=match ρ[i]? with
 | some (some (.int a))=>bindS (f ρ S) ρ fun d S1=>match d with
  | .int b=>.nx (ρ.set i (some (.int (g a b)))) S1
  | _=>.bad
 | _=>.bad:=id rfl
@[simp] theorem Gmz:isrc f ρ S=(f ρ S).bind Gnw:=id rfl
@[simp] theorem Kx{f:Ev Src}{g:Tg}{b:Sv}:sfor f g b ρ S=bindS (f ρ S) ρ fun s S1=>Qd s.nxt g b s.fuel 0 ρ S1:=id rfl
section
variable{i j:Int}
@[simp] theorem Gsl:Gz (.int i) (.int j) S=.ok (.int (i+j)) S:=id rfl
@[simp] theorem Gjp:Gcw (.int i) (.int j) S=.ok (.int (i-j)) S:=id rfl
@[simp] theorem Gvg:Gdp (.int i) S=.ok (.int (-i)) S:=id rfl
theorem Goe(h1 : -(2^64)<j)(h2:j<2^64):Kn (.int i) (.int j) S=.ok (.int (i*j)) S:=by
 show(if(-(2^64)<i/\i<2^64)\/(-(2^64)<j/\j<2^64) then Out.ok (D.int (i*j)) S else .bad)=_
 rw[if_pos (.inr ⟨h1,h2⟩)]
theorem Gjq(h1 : -(2^64)<i)(h2:i<2^64):Kn (.int i) (.int j) S=.ok (.int (i*j)) S:=by
 show(if(-(2^64)<i/\i<2^64)\/(-(2^64)<j/\j<2^64) then Out.ok (D.int (i*j)) S else .bad)=_
 rw[if_pos (.inl ⟨h1,h2⟩)]
theorem Yx(h:0<j):Vl (.int i) (.int j) S=.ok (.int (i%j)) S:=by
 show(if decide (0<j)=true then Out.ok (D.int (i%j)) S else .bad)=_
 rw[if_pos (by simpa using h)]
theorem Ge4(h:0<j)(h2:j<2^200):Yb (.int i) (.int j) S=.ok (.int (i / j)) S:=by
 show(if decide (0<j/\j<2^200)=true then Out.ok (D.int (i / j)) S else .bad)=_
 rw[if_pos (decide_eq_true ⟨h,h2⟩)]
theorem Ge5{n:Nat}(h:(n:Int)<=1000000)(h2:i.natAbs<2^64):Gcx (.int i) (.int n) S=.ok (.int (i^n)) S:=by
 show(if decide (0<=(n:Int)/\(n:Int)<=1000000/\i.natAbs<2^64)=true then Out.ok (D.int (i^(n:Int).toNat)) S else .bad)=_
 rw[if_pos (decide_eq_true ⟨by omega,h,h2⟩)]
 rfl
@[simp] theorem Gxf:Gcx (.int 10) (.int 6) S=.ok (.int 1000000) S:=Ge5 (n:=6) (by decide) (by decide)
@[simp] theorem Gw1:Gcx (.int 10) (.int 15) S=.ok (.int 1000000000000000) S:=Ge5 (n:=15) (by decide) (by decide)
@[simp] theorem Gw2:Gcx (.int 10) (.int 18) S=.ok (.int 1000000000000000000) S:=Ge5 (n:=18) (by decide) (by decide)
@[simp] theorem Gxg:ltD (.int i) (.int j) S=.ok (.bl (decide (i<j))) S:=id rfl
@[simp] theorem Gvh:leD (.int i) (.int j) S=.ok (.bl (decide (i<=j))) S:=id rfl
@[simp] theorem Gvi:gtD (.int i) (.int j) S=.ok (.bl (decide (j<i))) S:=id rfl
@[simp] theorem Gxh:geD (.int i) (.int j) S=.ok (.bl (decide (j<=i))) S:=id rfl
@[simp] theorem Gw3:Ggs [.int i,.int j] S=.ok (.int (min i j)) S:=by
 show Out.ok (D.int (if j<i then j else i)) S=_
 congr 2
 omega
@[simp] theorem Gw4:Gwp [.int i,.int j] S=.ok (.int (max i j)) S:=by
 show Out.ok (D.int (if j>i then j else i)) S=_
 congr 2
 omega
@[simp] theorem Gvj:eqD (.int i) (.int j) S=.ok (.bl (decide (i=j))) S:=by
 simp only[eqD,toP]
 simp[SeqAt.shaped,PyData.eqv]
 rfl
@[simp] theorem Gxi:neD (.int i) (.int j) S=.ok (.bl (!decide (i=j))) S:=by
 simp only[neD,toP]
 simp[SeqAt.shaped,PyData.eqv]
 rfl
theorem Yk{x y:Str}(hx:PyData.strOk x=true)(hy:PyData.strOk y=true):eqD (.str x) (.str y) S=.ok (.bl (x==y)) S:=by
 simp only[eqD,toP]
 simp[SeqAt.shaped,PyData.eqv,PyData.canLay0,PyData.depth,hx,hy]
end
@[simp] theorem Gxj{l:List D}:lenD [.tup l] S=.ok (.int l.length) S:=id rfl
theorem Gjr{c:Cell}(h:S[k]?=some c):lenD [.lst k] S=.ok (.int c.xs.length) S:=by
 show(match S[k]? with | some c=>Out.ok (D.int c.xs.length) S | none=>.bad)=_
 rw[h]
theorem Qk{c:Cell}(h:S[k]?=some c)(e:atI c.xs i=some d):getD (.lst k) (.int i) S=.ok d S:=by
 show(match S[k]? with | some c=>(match atI c.xs i with | some d=>Out.ok d S | none=>.bad) | none=>.bad)=_
 rw[h]
 show(match atI c.xs i with | some d=>Out.ok d S | none=>.bad)=_
 rw[e]
theorem Gf3{l:List D}(e:atI l i=some d):getD (.tup l) (.int i) S=.ok d S:=by
 show(match atI l i with | some d=>Out.ok d S | none=>.bad)=_
 rw[e]
theorem Kl{α:Type}{l:List α}{d:α}(h0:0<=i)(e:l[i.toNat]?=some d):atI l i=some d:=by
 unfold atI ixN
 have:i.toNat<l.length:=(List.getElem?_eq_some_iff.mp e).1
 rw[if_pos h0,if_pos (by omega)]
 exact e
theorem Gjs{xs:List D}(h:S[k]?=some ⟨false,xs⟩)(h0:0<=i)(h1:i<xs.length):Yr (.lst k) (.int i) d S=some (S.set k ⟨false,xs.set i.toNat d⟩):=by
 show(match S[k]? with | some c=>(match ixN c.xs.length i with | some j=>if c.fz=false then some (S.set k ⟨false,c.xs.set j d⟩) else none | none=>none) | none=>none)=_
 rw[h]
 show(match ixN xs.length i with | some j=>if false=false then some (S.set k ⟨false,xs.set j d⟩) else none | none=>none)=_
 unfold ixN
 rw[if_pos h0,if_pos h1]
 rfl
@[simp] theorem Gxk{l:List Int}:Gwo [.tup (l.map D.int)] S=.ok (.int l.sum) S:=by
 have:∀ l:List Int,Gae (l.map D.int)=some l:=fun l=>by
  induction l with
  | nil=>rfl
  | cons a r ih=>show(Gae (r.map D.int)).map (a::·)=_; rw[ih]; rfl
 show(match (some (l.map D.int)).bind Gae with | some ns=>Out.ok (D.int ns.sum) S | none=>.bad)=_
 rw[Option.bind_some,this]
end
end DL
namespace SP
open PySem PySem.Spec PyProof.Rows L2 DL
open Builtin Builtin.Str StrLaws
theorem tl_app(a b:Str):(a++b).cps.toList=a.cps.toList++b.cps.toList:=by
 show(a.cps++b.cps).toList=_
 simp
theorem str_ext{a b:Str}(h:a.cps.toList=b.cps.toList):a=b:=by
 cases a; cases b
 congr 1
 exact Array.ext' h
theorem join_two{c:Nat}{x y:Str}{r:List Str}:(Str.join ⟨#[c]⟩ (x::y::r)).cps.toList=x.cps.toList++c::(Str.join ⟨#[c]⟩ (y::r)).cps.toList:=by
 show((x++(⟨#[c]⟩:Str))++Str.join ⟨#[c]⟩ (y::r)).cps.toList=_
 rw[tl_app,tl_app]
 simp
theorem split_ne(x y:Str):Txt.split x y≠[]:=by
 unfold Txt.split
 split
 ·simp
 ·split
  ·simp
  ·rw[partsBetween_eq]
   obtain⟨p,r,e⟩:=partsFrom_ne x y.length 0 (occurrences x y 0 x.length (x.length+1))
   rw[e]
   simp
theorem Ghd(x y:Str):Gex x y<=x.length+2:=by
 unfold Gex
 rw[partsBetween_eq]
 have h:∀ (cuts:List Nat) (a:Nat),(partsFrom x y.length a cuts).length=cuts.length+1:=by
  intro cuts
  induction cuts with
  | nil=>intro a; rfl
  | cons k r ih=>intro a; show(_::partsFrom x y.length _ r).length=_; rw[List.length_cons,ih]; rfl
 rw[h]
 have:=occ_length_le_len x y 0 x.length (x.length+1)
 omega
theorem okSplit_of{x y:Str}(h1:(y.length==0)=false)(h2:x.length<=100000)(h3:(Txt.split x y).length<=100000):Vm x y=true:=by
 unfold Vm
 have:=Ghd x y
 simp only[Bool.and_eq_true,decide_eq_true_eq,Bool.not_eq_true']
 exact⟨h1,by omega,by omega,by omega⟩
end SP
namespace Law
open PySem PySem.Spec PyProof.Rows L2 DL
variable{m:Int}{S S' S1 S2 S0:Sto}{d:D}{f:Sv}{ρ ρ':Lc}{t k q n a i:Nat}{c:Cell}{xs:List D}
def fin(o:OS):Out D:=match o with
 | .rt d S'=>.ok d S'
 | .nx _ S'=>.ok .non S'
 | .exc x _ S'=>.exc x S'
 | _=>.bad
theorem Hm{m:Nat}{b:Sv}{ds:List D}:fnB m b ds S=fin (b (ds.map some++List.replicate (m-ds.length) none) S):=id rfl
@[simp] theorem Gjt:fin (.rt d S)=.ok d S:=id rfl
theorem Go{g:Sv}(h:f ρ S=.nx ρ' S'):fin (sq f g ρ S)=fin (g ρ' S'):=by rw[Ga5,h]
theorem Jn{g:Sv}(h:f ρ S=.rt d S'):fin (sq f g ρ S)=.ok d S':=by rw[Ga5,h]; rfl
structure Dp(S:Sto)(t k:Nat)(n:Nat):Prop where
 ex:∃ (a b:Int) (xs:List Int),S[t]?=some ⟨false,[.lst k,.int a,.int b]⟩/\S[k]?=some ⟨false,xs.map D.int⟩/\0<=a/\a<=n
 ne:t≠k
structure Kp(S S':Sto)(t k:Nat):Prop where
 len:S.length<=S'.length
 get:∀ i,i<S.length->i≠t->i≠k->S'[i]?=S[i]?
theorem Kp.refl:Kp S S t k:=⟨Nat.le_refl _,fun _ _ _ _=>rfl⟩
theorem Kp.trans(a:Kp S S1 t k)(b:Kp S1 S2 t k):Kp S S2 t k:=⟨Nat.le_trans a.len b.len,fun i h h1 h2=>(b.get i (Nat.lt_of_lt_of_le h a.len) h1 h2).trans (a.get i h h1 h2)⟩
theorem Kp.set{j:Nat}(h:j=t\/j=k):Kp S (S.set j c) t k:=⟨by simp,fun i _ h1 h2=>by
 rw[List.getElem?_set_ne]
 rcases h with h | h
 ·rw[h]; exact Ne.symm h1
 ·rw[h]; exact Ne.symm h2⟩
theorem Kp.app:Kp S (S++[c]) t k:=⟨by simp,fun i h _ _=>by rw[List.getElem?_append_left h]⟩
theorem Kp.at(a:Kp S S' t k)(e:S[q]?=some c)(h1:q≠t)(h2:q≠k):S'[q]?=some c:=(a.get q (List.getElem?_eq_some_iff.mp e).1 h1 h2).trans e
theorem Gv:(S++[c])[S.length]?=some c:=by rw[List.getElem?_append_right (Nat.le_refl _)]; simp
theorem Jt{d:Cell}(e:S[q]?=some d):(S++[c])[q]?=some d:=by
 rw[List.getElem?_append_left (List.getElem?_eq_some_iff.mp e).1]; exact e
theorem Dp.app(h:Dp S t k n):Dp (S++[c]) t k n:=by
 obtain⟨⟨a,b,xs,e1,e2,h⟩,ne⟩:=h
 exact⟨⟨a,b,xs,Jt e1,Jt e2,h⟩,ne⟩
theorem Dp.lt(h:Dp S t k n):t<S.length/\k<S.length:=by
 obtain⟨⟨a,b,xs,e1,e2,h⟩,ne⟩:=h
 exact⟨(List.getElem?_eq_some_iff.mp e1).1,(List.getElem?_eq_some_iff.mp e2).1⟩
theorem Dp.set(h:Dp S t k n)(h1:q≠t)(h2:q≠k):Dp (S.set q c) t k n:=by
 obtain⟨⟨a,b,xs,e1,e2,h⟩,ne⟩:=h
 exact⟨⟨a,b,xs,by rw[List.getElem?_set_ne h1]; exact e1,by rw[List.getElem?_set_ne h2]; exact e2,h⟩,ne⟩
theorem Dp.mono{m:Nat}(h:Dp S t k n)(hm:n<=m):Dp S t k m:=by
 obtain⟨⟨a,b,xs,e1,e2,h0,h1⟩,ne⟩:=h
 exact⟨⟨a,b,xs,e1,e2,h0,by omega⟩,ne⟩
def Gsm:Sv:=(sq (sif (ta (tb (o2 ltD (vr 3) (b1 lenD (ac (o2 DL.getD (vr 0) (cn (.int 0))) an)))) (tb (o2 geD (vr 4) (o2 Gcx (cn (.int 10)) (cn (.int 18))))))
  (sq (ss (o2 Yb (vr 4) (vr 1)) (vr 0) (cn (.int 2)) Yr)
  (sret (o2 Vl (vr 4) (vr 1))))
  DL.skip)
  (sq (sa (o2 Vl (o2 Kn (o2 Gz (o2 Vl (vr 4) (cn (.int 1000003))) (cn (.int 1))) (o2 Gz (o2 Gz (o2 Kn (o2 Kn (cn (.int 7919)) (vr 3)) (vr 3)) (o2 Kn (cn (.int 104729)) (vr 3))) (cn (.int 12345)))) (cn (.int 2147483647))) (gn 5))
  (sq (sa (o2 Vl (o2 Gz (o2 Gz (o2 Kn (vr 5) (vr 5)) (o2 Kn (cn (.int 48271)) (vr 3))) (o2 Vl (vr 4) (cn (.int 65537)))) (cn (.int 2147483629))) (gn 5))
  (sret (o2 Vl (o2 Yb (vr 5) (cn (.int 8))) (vr 1))))))
theorem Gsn{a b c:Int}{xs:List Int}{g2:Option D}(e1:S[t]?=some ⟨false,[.lst k,.int (a+1),.int b]⟩)(e2:S[k]?=some ⟨false,xs.map D.int⟩)(ne:t≠k)(ha:0<=a)(han:a<=n)(hn:n<2^60)(hm:0<m)(hm2:m<2^200):
  ∃ r S',fin (Gsm [some (.lst t),some (.int m),g2,some (.int a),some (.int c),none] S)=.ok (.int r) S'/\0<=r/\r<m/\Dp S' t k (n+1)/\Kp S S' t k:=by
 have g0:DL.getD (.lst t) (.int 0) S=.ok (.lst k) S:=Qk e1 rfl
 have ln:lenD [.lst k] S=.ok (.int xs.length) S:=by rw[Gjr e2]; simp
 have lt:t<S.length:=(List.getElem?_eq_some_iff.mp e1).1
 have s2:Yr (.lst t) (.int 2) (.int (c / m)) S=some (S.set t ⟨false,[.lst k,.int (a+1),.int (c / m)]⟩):=Gjs e1 (by decide) (by simp)
 by_cases h:a<xs.length/\1000000000000000000<=c
 ·refine⟨c%m,S.set t ⟨false,[.lst k,.int (a+1),.int (c / m)]⟩,?_,Int.emod_nonneg _ (by omega),Int.emod_lt_of_pos _ hm,⟨⟨a+1,c / m,xs,List.getElem?_set_self lt,by rw[List.getElem?_set_ne ne]; exact e2,by omega,by omega⟩,ne⟩,Kp.set (.inl rfl)⟩
  unfold Gsm
  exact Jn (by simp[g0,ln,h.1,h.2,Ge4 hm hm2,s2,Yx hm])
 ·have sqr:∀ x:Int,Kn (.int (x%2147483647)) (.int (x%2147483647)) S=.ok (.int (x%2147483647*(x%2147483647))) S:=fun x=>Goe (by omega) (by omega)
  have m1:Kn (.int (7919*a)) (.int a) S=.ok (.int (7919*a*a)) S:=Goe (by omega) (by omega)
  have m2:∀ y:Int,Kn (.int (c%1000003+1)) (.int y) S=.ok (.int ((c%1000003+1)*y)) S:=fun y=>Gjq (by omega) (by omega)
  obtain⟨z,hz⟩:∃ z:Int,z=((c%1000003+1)*(7919*a*a+104729*a+12345))%2147483647:=⟨_,rfl⟩
  obtain⟨y,hy⟩:∃ y:Int,y=(z*z+48271*a+c%65537)%2147483629:=⟨_,rfl⟩
  have mz:Kn (.int z) (.int z) S=.ok (.int (z*z)) S:=by rw[hz]; exact sqr _
  have e1':sif (ta (tb (o2 ltD (vr 3) (b1 lenD (ac (o2 DL.getD (vr 0) (cn (.int 0))) an)))) (tb (o2 geD (vr 4) (o2 Gcx (cn (.int 10)) (cn (.int 18)))))) (sq (ss (o2 Yb (vr 4) (vr 1)) (vr 0) (cn (.int 2)) Yr) (sret (o2 Vl (vr 4) (vr 1)))) DL.skip [some (.lst t),some (.int m),g2,some (.int a),some (.int c),none] S=.nx [some (.lst t),some (.int m),g2,some (.int a),some (.int c),none] S:=by
   by_cases c1:a<xs.length
   ·have c2:¬ 1000000000000000000<=c:=fun z=>h ⟨c1,z⟩
    simp[g0,ln,c1,c2]
   ·simp[g0,ln,c1]
  refine⟨y / 8%m,S,?_,Int.emod_nonneg _ (by omega),Int.emod_lt_of_pos _ hm,⟨⟨a+1,b,xs,e1,e2,by omega,by omega⟩,ne⟩,.refl⟩
  unfold Gsm
  rw[Go e1']
  refine(Go (ρ':=[some (.lst t),some (.int m),g2,some (.int a),some (.int c),some (.int z)]) (S':=S) (by rw[hz]; simp[Yx,Gjq,m1,m2])).trans ?_
  refine(Go (ρ':=[some (.lst t),some (.int m),g2,some (.int a),some (.int c),some (.int y)]) (S':=S) (by rw[hy]; simp[Yx,Gjq,mz])).trans ?_
  simp[Ge4,Yx hm]
theorem Jj(h:Dp S t k n)(hn:n<2^60)(hm:0<m)(hm2:m<2^200):∃ r S',Gj [.lst t,.int m] S=.ok (.int r) S'/\0<=r/\r<m/\Dp S' t k (n+1)/\Kp S S' t k:=by
 obtain⟨⟨a,b,xs,e1,e2,ha,han⟩,ne⟩:=h
 have lt:t<S.length:=(List.getElem?_eq_some_iff.mp e1).1
 have g1:DL.getD (.lst t) (.int 1) S=.ok (.int a) S:=Qk e1 rfl
 have g2:DL.getD (.lst t) (.int 2) S=.ok (.int b) S:=Qk e1 rfl
 have s1:Yr (.lst t) (.int 1) (.int (a+1)) S=some (S.set t ⟨false,[.lst k,.int (a+1),.int b]⟩):=Gjs e1 (by decide) (by simp)
 have s2:Yr (.lst t) (.int 2) (.int (b / m)) S=some (S.set t ⟨false,[.lst k,.int a,.int (b / m)]⟩):=Gjs e1 (by decide) (by simp)
 have hf:∀ X,Gj [.lst t,.int m] S=X↔fin (Jq [some (.lst t),some (.int m),none,none,none,none] S)=X:=fun X=>by rw[show Gj [.lst t,.int m] S=fin (Jq [some (.lst t),some (.int m),none,none,none,none] S) from Hm (m:=6) (b:=Jq)]
 by_cases c:0<b
 ·refine⟨b%m,S.set t ⟨false,[.lst k,.int a,.int (b / m)]⟩,(hf _).mpr ?_,Int.emod_nonneg _ (by omega),Int.emod_lt_of_pos _ hm,⟨⟨a,b / m,xs,List.getElem?_set_self lt,by rw[List.getElem?_set_ne ne]; exact e2,ha,by omega⟩,ne⟩,Kp.set (.inl rfl)⟩
  unfold Jq
  exact Jn (by simp[g2,c,Yx hm,Ge4 hm hm2,s2])
 ·have e1':(S.set t ⟨false,[.lst k,.int (a+1),.int b]⟩)[t]?=some ⟨false,[.lst k,.int (a+1),.int b]⟩:=List.getElem?_set_self lt
  have e2':(S.set t ⟨false,[.lst k,.int (a+1),.int b]⟩)[k]?=some ⟨false,xs.map D.int⟩:=by rw[List.getElem?_set_ne ne]; exact e2
  have kp:Kp S (S.set t ⟨false,[.lst k,.int (a+1),.int b]⟩) t k:=Kp.set (.inl rfl)
  generalize S.set t ⟨false,[.lst k,.int (a+1),.int b]⟩=S1 at *
  have g0:DL.getD (.lst t) (.int 0) S1=.ok (.lst k) S1:=Qk e1' rfl
  have ln:lenD [.lst k] S1=.ok (.int xs.length) S1:=by rw[Gjr e2']; simp
  obtain⟨cl',ec⟩:∃ cl':Int,sif (tb (o2 gtD (b1 lenD (ac (o2 DL.getD (vr 0) (cn (.int 0))) an)) (cn (.int 0)))) (sa (o2 DL.getD (o2 DL.getD (vr 0) (cn (.int 0))) (o2 Vl (vr 3) (b1 lenD (ac (o2 DL.getD (vr 0) (cn (.int 0))) an)))) (gn 4)) DL.skip [some (.lst t),some (.int m),none,some (.int a),some (.int 0),none] S1=.nx [some (.lst t),some (.int m),none,some (.int a),some (.int cl'),none] S1:=by
   by_cases c2:0<xs.length
   ·have c3:(0:Int)<xs.length:=by omega
    have lti:(a%(xs.length:Int)).toNat<xs.length:=by
     have:=Int.emod_lt_of_pos a c3
     have:=Int.emod_nonneg a (by omega:(xs.length:Int)≠0)
     omega
    have gi:DL.getD (.lst k) (.int (a%(xs.length:Int))) S1=.ok (.int xs[(a%(xs.length:Int)).toNat]) S1:=Qk e2' (Kl (Int.emod_nonneg a (by omega)) (by simp[lti]))
    exact⟨xs[(a%(xs.length:Int)).toNat],by simp[g0,ln,c2,Yx c3,gi]⟩
   ·exact⟨0,by simp[g0,ln,c2]⟩
  obtain⟨r,S',h1,h2,h3,h4,h5⟩:=Gsn (c:=cl') (g2:=none) e1' e2' ne ha han hn hm hm2
  refine⟨r,S',(hf _).mpr ?_,h2,h3,h4,kp.trans h5⟩
  unfold Jq
  refine(Go (ρ':=[some (.lst t),some (.int m),none,none,none,none]) (S':=S) (by simp[g2,c])).trans ?_
  refine(Go (ρ':=[some (.lst t),some (.int m),none,some (.int a),none,none]) (S':=S) (by simp[g1])).trans ?_
  refine(Go (ρ':=[some (.lst t),some (.int m),none,some (.int a),none,none]) (S':=S1) (by simp[s1])).trans ?_
  refine(Go (ρ':=[some (.lst t),some (.int m),none,some (.int a),some (.int 0),none]) (S':=S1) (by simp)).trans ?_
  rw[Go ec]
  exact h1
theorem pick{r:Int}{x:D}(s:Kp (S++[⟨false,xs⟩]) S1 t k)(h:t<S.length/\k<S.length)(e:atI xs r=some x):DL.getD (.lst S.length) (.int r) S1=.ok x S1:=
 Qk (c:=⟨false,xs⟩) (s.at Gv (by omega) (by omega)) e
theorem Ul(h:Dp S t k n)(hn:n<2^60)(hm:m=xs.length)(h0:0<xs.length)(h1:xs.length<1000):∃ r x S1,Gj [.lst t,.int m] (S++[⟨false,xs⟩])=.ok (.int r) S1/\DL.getD (.lst S.length) (.int r) S1=.ok x S1/\x∈xs/\Dp S1 t k (n+1)/\Kp S S1 t k:=by
 obtain⟨r,S1,e1,r0,r1,d1,k1⟩:=Jj (m:=m) (h.app (c:=⟨false,xs⟩)) hn (by omega) (by omega)
 have hlt:r.toNat<xs.length:=by omega
 have ea:atI xs r=some xs[r.toNat]:=Kl r0 (by simp[hlt])
 exact⟨r,_,S1,e1,pick k1 h.lt ea,List.getElem_mem hlt,d1,Kp.app.trans k1⟩
inductive Pl where
 | e | c | p (br de ro:Int) (pr:D)
variable{p:Pl}
def Pl.toD:Pl->D
 | .e=>.tup [.str "end"]
 | .c=>.tup [.str "chamber"]
 | .p br de ro pr=>.tup [.str "pound",.int br,.int de,.int ro,pr]
def Pl.ok:Pl->Prop
 | .p br de ro pr=>1<=br/\br<=9/\0<=de/\de<=br/\1<=ro/\ro<=4/\(pr=.non\/∃ i,pr=.int i/\0<=i/\i<=99)
 | _=>True
theorem Gju(h:Dp S t k n)(hn:n<2^59):∃ br de ro pr S',Qp [.lst t] S=.ok (Pl.toD (.p br de ro pr)) S'/\Pl.ok (.p br de ro pr)/\Dp S' t k (n+9)/\Kp S S' t k:=by
 obtain⟨a1,S1,e1,a10,a11,d1,k1⟩:=Jj (m:=9) h (by omega) (by decide) (by decide)
 obtain⟨r2,x2,S2,e2,p2,m2,d2,k2⟩:=Ul (xs:=[.int 1,.int 2,.int 3,.int (1+a1)]) (m:=4) d1 (by omega) rfl (by simp) (by simp)
 obtain⟨br,hbr,br0,br1⟩:∃ i:Int,x2=.int i/\1<=i/\i<=9:=by
  simp only[List.mem_cons,List.mem_nil_iff,or_false] at m2
  rcases m2 with rfl | rfl | rfl | rfl
  ·exact⟨_,rfl,by decide,by decide⟩
  ·exact⟨_,rfl,by decide,by decide⟩
  ·exact⟨_,rfl,by decide,by decide⟩
  ·exact⟨_,rfl,by omega,by omega⟩
 subst hbr
 obtain⟨a3,S3,e3,a30,a31,d3,k3⟩:=Jj (m:=10) d2 (by omega) (by decide) (by decide)
 obtain⟨r4,x4,S4,e4,p4,m4,d4,k4⟩:=Ul (xs:=[.int 0,.int 0,.int 1,.int a3]) (m:=4) d3 (by omega) rfl (by simp) (by simp)
 obtain⟨de,hde,de0⟩:∃ i:Int,x4=.int i/\0<=i:=by
  simp only[List.mem_cons,List.mem_nil_iff,or_false] at m4
  rcases m4 with rfl | rfl | rfl | rfl
  ·exact⟨_,rfl,by decide⟩
  ·exact⟨_,rfl,by decide⟩
  ·exact⟨_,rfl,by decide⟩
  ·exact⟨_,rfl,a30⟩
 subst hde
 obtain⟨a5,S5,e5,a50,a51,d5,k5⟩:=Jj (m:=4) d4 (by omega) (by decide) (by decide)
 obtain⟨r6,x6,S6,e6,p6,m6,d6,k6⟩:=Ul (xs:=[.int 1,.int 2,.int (1+a5)]) (m:=3) d5 (by omega) rfl (by simp) (by simp)
 obtain⟨ro,hro,ro0,ro1⟩:∃ i:Int,x6=.int i/\1<=i/\i<=4:=by
  simp only[List.mem_cons,List.mem_nil_iff,or_false] at m6
  rcases m6 with rfl | rfl | rfl
  ·exact⟨_,rfl,by decide,by decide⟩
  ·exact⟨_,rfl,by decide,by decide⟩
  ·exact⟨_,rfl,by omega,by omega⟩
 subst hro
 obtain⟨a7,S7,e7,a70,a71,d7,k7⟩:=Jj (m:=100) d6 (by omega) (by decide) (by decide)
 obtain⟨a8,S8,e8,a80,a81,d8,k8⟩:=Jj (m:=5) d7 (by omega) (by decide) (by decide)
 obtain⟨r9,pr,S9,e9,p9,m9,d9,k9⟩:=Ul (xs:=[.non,.int a7,.int (1+a8),.int 0]) (m:=4) d8 (by omega) rfl (by simp) (by simp)
 have hpr:pr=.non\/∃ i:Int,pr=.int i/\0<=i/\i<=99:=by
  simp only[List.mem_cons,List.mem_nil_iff,or_false] at m9
  rcases m9 with rfl | rfl | rfl | rfl
  ·exact .inl rfl
  ·exact .inr ⟨_,rfl,by omega,by omega⟩
  ·exact .inr ⟨_,rfl,by omega,by omega⟩
  ·exact .inr ⟨_,rfl,by omega,by omega⟩
 refine⟨br,min br de,ro,pr,S9,?_,⟨br0,br1,by omega,by omega,ro0,ro1,hpr⟩,d9,k1.trans (k2.trans (k3.trans (k4.trans (k5.trans (k6.trans (k7.trans (k8.trans k9)))))))⟩
 simp[Qp,fnB,Vz,e1,e2,p2,e3,e4,p4,e5,e6,p6,e7,e8,e9,p9,Pl.toD]
theorem Gce(e:S[q]?=some ⟨false,xs⟩)(h:xs.length<1000000):Xr (.lst q) [d] S=.ok .non (S.set q ⟨false,xs++[d]⟩):=by
 simp only[Xr,e]
 simp[h]
theorem isL(e:S[q]?=some c):isLst (.lst q) S=true:=by simp only[isLst,e]
theorem Km{nxt:Nat->Sto->Option D}{g:Tg}{b:Sv}{l:List D}(I:Nat->Lc->Sto->Prop)(hn:∀ k ρ S,I k ρ S->nxt k S=l[k]?)(hs:∀ k d ρ S,l[k]?=some d->I k ρ S->∃ ρ1 ρ2 S2,g d ρ=some ρ1/\b ρ1 S=.nx ρ2 S2/\I (k+1) ρ2 S2):
  ∀ (n k:Nat) (ρ:Lc) (S:Sto),k<=l.length->I k ρ S->l.length<n+k->∃ ρ' S',Qd nxt g b n k ρ S=.nx ρ' S'/\I l.length ρ' S'
 | 0,k,ρ,S,h1,_,h2=>by omega
 | n+1,k,ρ,S,h1,hI,h2=>by
  unfold Qd
  rw[hn k ρ S hI]
  cases z:l[k]? with
  | none=>
   have:k=l.length:=by have:=List.getElem?_eq_none_iff.mp z; omega
   subst this
   exact⟨ρ,S,rfl,hI⟩
  | some d=>
   obtain⟨ρ1,ρ2,S2,h3,h4,h5⟩:=hs k d ρ S z hI
   have hk:k<l.length:=(List.getElem?_eq_some_iff.mp z).1
   obtain⟨ρ',S',h6,h7⟩:=Km I hn hs n (k+1) ρ2 S2 hk h5 (by omega)
   refine⟨ρ',S',?_,h7⟩
   simp only[h3,h4]
   exact h6
def Gm0(l:List D):Src:=⟨fun k _=>l[k]?,l.length+1⟩
theorem Gvk{l:List D}:l.length<(Gm0 l).fuel+0:=Nat.lt_succ_self _
theorem Wf:(rsrc 0 n).nxt k S=((List.range n).map fun k:Nat=>D.int (k:Int))[k]?:=by
 show(if k<n then some (D.int (0+k)) else none)=_
 rw[List.getElem?_map]
 by_cases c:k<n
 ·rw[if_pos c,List.getElem?_range c]; simp
 ·rw[if_neg c,List.getElem?_eq_none (by simp; omega)]; rfl
theorem Ga6(h:((List.range n).map fun k:Nat=>D.int (k:Int))[k]?=some d):k<n/\d=.int k:=by
 have hk:k<n:=by have:=(List.getElem?_eq_some_iff.mp h).1; simpa using this
 rw[List.getElem?_map,List.getElem?_range hk] at h
 exact⟨hk,(Option.some.inj h).symm⟩
theorem Yy{f:Ev (List D)}(h:f ρ S=.ok [.int n] S')(hn:n<=1000000):ir1 f ρ S=.ok (rsrc 0 n) S':=by
 unfold ir1
 rw[h]
 show(if -1000000000000<=(n:Int)/\(n:Int)<=1000000000000 then Out.ok (rsrc 0 (n:Int).toNat) S' else .bad)=_
 rw[if_pos (by omega)]; rfl
theorem Kp.setq(a:Kp S0 S t k)(h:S0.length<=q):Kp S0 (S.set q c) t k:=⟨by simp; exact a.len,fun i hi h1 h2=>by
 rw[List.getElem?_set_ne (by omega)]; exact a.get i hi h1 h2⟩
theorem Xv{j:Nat}{a b:List D}(h1:S[i]?=some ⟨false,a⟩)(h2:S[j]?=some ⟨false,b⟩)(h:a.length+b.length<=1000000):Gz (.lst i) (.lst j) S=.ok (.lst S.length) (S++[⟨false,a++b⟩]):=by
 simp only[Gz,h1,h2]
 simp[h]
theorem Gf4(e:S[i]?=some ⟨false,[d]⟩)(hn:n<=1000):Kn (.lst i) (.int n) S=.ok (.lst S.length) (S++[⟨false,List.replicate n d⟩]):=by
 have fl:∀ n:Nat,(List.replicate n [d]).flatten=List.replicate n d:=fun n=>by
  induction n with
  | zero=>rfl
  | succ n ih=>rw[List.replicate_succ,List.flatten_cons,ih]; rfl
 simp only[Kn,e]
 rw[if_pos (by simp; omega)]
 simp[fl]
theorem Gf5(e:S[q]?=some c):Gbe [.lst q] S=.ok (.tup c.xs) S:=by
 simp only[Gbe,e]
def Pl.isC:Pl->Bool
 | .c=>true
 | _=>false
def Pl.isE:Pl->Bool
 | .e=>true
 | _=>false
theorem stok(s:String):PyData.strOk (Str.ofString s)=true:=by
 unfold PyData.strOk
 have hc:∀ c:Char,c.toNat<1114112:=fun c=>by
  rcases c.valid with h | ⟨_,h⟩
  ·exact Nat.lt_of_lt_of_le h (by decide)
  ·exact h
 rw[Str.ofString_eq_toList]
 simp[hc]
theorem Gf6(h:p.ok):eqD p.toD (.tup [.str "chamber"]) S=.ok (.bl p.isC) S:=by
 have n1:(Str.ofString "end"==Str.ofString "chamber")=false:=by decide +kernel
 have n2:(Str.ofString "pound"==Str.ofString "chamber")=false:=by decide +kernel
 cases p with
 | e=>simp[Pl.toD,eqD,toP,Kq,SeqAt.shaped,PyData.canLay0,PyData.canLayAll0,PyData.depth,PyData.depthAll,stok,PyData.eqv,PyData.eqvAll,n1,Pl.isC]
 | c=>simp[Pl.toD,eqD,toP,Kq,SeqAt.shaped,PyData.canLay0,PyData.canLayAll0,PyData.depth,PyData.depthAll,stok,PyData.eqv,PyData.eqvAll,Pl.isC]
 | p br de ro pr=>
  obtain⟨_,_,_,_,_,_,h⟩:=h
  rcases h with rfl | ⟨i,rfl,_⟩
  ·simp[Pl.toD,eqD,toP,Kq,SeqAt.shaped,PyData.canLay0,PyData.canLayAll0,PyData.depth,PyData.depthAll,stok,PyData.eqv,PyData.eqvAll,n2,Pl.isC]
  ·simp[Pl.toD,eqD,toP,Kq,SeqAt.shaped,PyData.canLay0,PyData.canLayAll0,PyData.depth,PyData.depthAll,stok,PyData.eqv,PyData.eqvAll,n2,Pl.isC]
theorem Gso(h:p.ok):eqD p.toD (.tup [.str "end"]) S=.ok (.bl p.isE) S:=by
 have n1:(Str.ofString "chamber"==Str.ofString "end")=false:=by decide +kernel
 have n2:(Str.ofString "pound"==Str.ofString "end")=false:=by decide +kernel
 cases p with
 | e=>simp[Pl.toD,eqD,toP,Kq,SeqAt.shaped,PyData.canLay0,PyData.canLayAll0,PyData.depth,PyData.depthAll,stok,PyData.eqv,PyData.eqvAll,Pl.isE]
 | c=>simp[Pl.toD,eqD,toP,Kq,SeqAt.shaped,PyData.canLay0,PyData.canLayAll0,PyData.depth,PyData.depthAll,stok,PyData.eqv,PyData.eqvAll,n1,Pl.isE]
 | p br de ro pr=>
  obtain⟨_,_,_,_,_,_,h⟩:=h
  rcases h with rfl | ⟨i,rfl,_⟩
  ·simp[Pl.toD,eqD,toP,Kq,SeqAt.shaped,PyData.canLay0,PyData.canLayAll0,PyData.depth,PyData.depthAll,stok,PyData.eqv,PyData.eqvAll,n2,Pl.isE]
  ·simp[Pl.toD,eqD,toP,Kq,SeqAt.shaped,PyData.canLay0,PyData.canLayAll0,PyData.depth,PyData.depthAll,stok,PyData.eqv,PyData.eqvAll,n2,Pl.isE]
theorem Ge6{most many:Int}{ps:List Pl}{g4 g5:Option D}(hd:Dp S t k n)(hk:Kp S0 S t k)(hq:S0.length<=q)(hqt:q≠t)(hqk:q≠k)(hn:n<2^58)(eq':S[q]?=some ⟨false,ps.map Pl.toD⟩)(hp:∀ p∈ps,p.ok)(hne:ps≠[])(hl:ps.length<1000):
  ∃ p S' g5',Hz [some (.lst t),some (.int most),some (.int many),some (.lst q),some (.int i),g5,none,none] S=.nx [some (.lst t),some (.int most),some (.int many),some (.lst q),some (.int i),g5',none,none] S'/\Pl.ok p/\p.isE=false/\(p.isC=true\/((ps.getLast hne).isC=true/\(i:Int)<many-1))/\S'[q]?=some ⟨false,(ps++[p]).map Pl.toD⟩/\Dp S' t k (n+10)/\Kp S0 S' t k:=by
 have lq:q<S.length:=(List.getElem?_eq_some_iff.mp eq').1
 obtain⟨b,eb,hb⟩:∃ b:Bool,sa (va (o2 ltD (cn (.int 0)) (vr 4)) (va (o2 ltD (vr 4) (o2 Gcw (vr 2) (cn (.int 1)))) (o2 eqD (o2 DL.getD (vr 3) (o1 Gdp (cn (.int 1)))) (tp (ac (cn (.str "chamber")) an))))) (gn 5) [some (.lst t),some (.int most),some (.int many),some (.lst q),some (.int i),g5,none,none] S=.nx [some (.lst t),some (.int most),some (.int many),some (.lst q),some (.int i),some (.bl b),none,none] S/\(b=true->(ps.getLast hne).isC=true/\(i:Int)<many-1):=by
  have hlast:DL.getD (.lst q) (.int (-1)) S=.ok (Pl.toD (ps.getLast hne)) S:=by
   refine Qk eq' ?_
   have:0<ps.length:=List.length_pos_iff.mpr hne
   show(ixN (ps.map Pl.toD).length (-1)).bind (fun j=>(ps.map Pl.toD)[j]?)=_
   unfold ixN
   rw[if_neg (by decide),if_pos (by simp; omega),Option.bind_some]
   have:((-1:Int)+((ps.map Pl.toD).length:Nat)).toNat=ps.length-1:=by simp; omega
   rw[this,List.getElem?_map,List.getElem?_eq_getElem (by omega),List.getLast_eq_getElem]
   rfl
  have ec:=Gf6 (S:=S) (hp _ (List.getLast_mem hne))
  by_cases c1:0<i
  ·by_cases c2:(i:Int)<many-1
   ·exact⟨(ps.getLast hne).isC,by simp[c1,c2,hlast,ec],fun z=>⟨z,c2⟩⟩
   ·exact⟨false,by simp[c1,c2],fun z=>nomatch z⟩
  ·exact⟨false,by simp[c1],fun z=>nomatch z⟩
 have fin1:∀ (S1:Sto) (m:Nat),Dp S1 t k m->m<=n+1->Kp S0 S1 t k->S1[q]?=some ⟨false,ps.map Pl.toD⟩->∃ S',sx (mt Xr (vr 3) (ac (tp (ac (cn (.str "chamber")) an)) an)) [some (.lst t),some (.int most),some (.int many),some (.lst q),some (.int i),some (.bl b),none,none] S1=.nx [some (.lst t),some (.int most),some (.int many),some (.lst q),some (.int i),some (.bl b),none,none] S'/\S'[q]?=some ⟨false,(ps++[Pl.c]).map Pl.toD⟩/\Dp S' t k (n+10)/\Kp S0 S' t k:=by
  intro S1 m d1 hm k1 e1
  have ap:=Gce (d:=.tup [.str "chamber"]) e1 (by simp; omega)
  have lq1:q<S1.length:=(List.getElem?_eq_some_iff.mp e1).1
  refine⟨S1.set q ⟨false,ps.map Pl.toD++[.tup [.str "chamber"]]⟩,?_,?_,(d1.set hqt hqk).mono (by omega),k1.setq hq⟩
  ·simp[isL e1,ap]
  ·rw[List.getElem?_set_self lq1,List.map_append]; rfl
 cases b with
 | false=>
  obtain⟨S',e1,e2,e3,e4⟩:=fin1 S n hd (by omega) hk eq'
  refine⟨.c,S',some (.bl false),?_,trivial,rfl,.inl rfl,e2,e3,e4⟩
  unfold Hz
  rw[Ga5,eb]
  simp only[Gde,Gu8,God,Zm,Gy,List.getElem?_cons_zero,List.getElem?_cons_succ,Uh,Bool.false_eq_true,if_false,Hi]
  exact e1
 | true=>
  obtain⟨r,S1,e1,r0,r1,d1,k1⟩:=Jj (m:=4) hd (by omega) (by decide) (by decide)
  have q1:=k1.at eq' hqt hqk
  by_cases c:0<r
  ·obtain⟨br,de,ro,pr,S2,e2,ok2,d2,k2⟩:=Gju d1 (by omega)
   have q2:=k2.at q1 hqt hqk
   have ap:=Gce (d:=Pl.toD (.p br de ro pr)) q2 (by simp; omega)
   have lq2:q<S2.length:=(List.getElem?_eq_some_iff.mp q2).1
   refine⟨.p br de ro pr,S2.set q ⟨false,ps.map Pl.toD++[Pl.toD (.p br de ro pr)]⟩,some (.bl true),?_,ok2,rfl,.inr (hb rfl),?_,(d2.set hqt hqk).mono (by omega),((hk.trans k1).trans k2).setq hq⟩
   ·unfold Hz
    rw[Ga5,eb]
    simp[Uh,e1,c,isL q1,e2,ap]
   ·rw[List.getElem?_set_self lq2,List.map_append]; rfl
  ·obtain⟨S',e4,e5,e6,e7⟩:=fin1 S1 (n+1) d1 (by omega) (hk.trans k1) q1
   refine⟨.c,S',some (.bl true),?_,trivial,rfl,.inl rfl,e5,e6,e7⟩
   unfold Hz
   rw[Ga5,eb]
   have ct:ta (tt (vr 5)) (tb (o2 gtD (cl 2 (Gs Gj) (ac (vr 0) (ac (cn (.int 4)) an))) (cn (.int 0)))) [some (.lst t),some (.int most),some (.int many),some (.lst q),some (.int i),some (.bl true),none,none] S=.ok false S1:=by simp[Uh,e1,c]
   simp only[Gde,ct,Hi,Bool.false_eq_true,if_false]
   exact e4
theorem Gea{e:Ev D}(h:e ρ S=.ok d S2)(q:S2[a]?=some ⟨false,xs⟩)(hl:xs.length<1000000):cbody a ttrue e ρ S=.nx ρ (S2.set a ⟨false,xs++[d]⟩):=by
 show bindS (ttrue ρ S) ρ _=_
 show bindS (e ρ S) ρ _=_
 rw[h]
 simp only[Hi,q]
 rw[if_pos (by simp[hl])]
theorem Gjv{c:Ev Bool}{e:Ev D}(h:c ρ S=.ok false S2):cbody a c e ρ S=.nx ρ S2:=by
 unfold cbody
 rw[h]
 simp
theorem Gcf{c:Ev Bool}{e:Ev D}(hc:c ρ S=.ok true S1)(h:e ρ S1=.ok d S2)(q:S2[a]?=some ⟨false,xs⟩)(hl:xs.length<1000000):cbody a c e ρ S=.nx ρ (S2.set a ⟨false,xs++[d]⟩):=by
 unfold cbody
 rw[hc]
 simp only[Hi,if_true,h,q]
 rw[if_pos (by simp[hl])]
theorem Ge7{f:Ev Src}{pk:List (Option Nat)}{g:Tg}{c:Ev Bool}{e:Ev D}{s:Src}(h:f ρ S=.ok s S1)(l:Qd s.nxt g (cbody S1.length c e) s.fuel 0 (pkS pk ρ) (S1++[⟨false,[]⟩])=.nx ρ' S'):cmp f pk g c e ρ S=.ok (.lst S1.length) S':=by
 unfold cmp
 rw[h]
 simp only[Gy,l]
theorem ls1:ls (ac (cn d) an) ρ S=.ok (.lst S.length) (S++[⟨false,[d]⟩]):=by simp
def Adj(xs:List Pl):Prop:=∀ i a b,xs[i]?=some a->xs[i+1]?=some b->a.isC=true\/b.isC=true
theorem Adj.snoc{xs:List Pl}(h:Adj xs)(hne:xs≠[])(hp:p.isC=true\/(xs.getLast hne).isC=true):Adj (xs++[p]):=by
 intro i a b ha hb
 have h0:0<xs.length:=List.length_pos_iff.mpr hne
 by_cases c:i+1<xs.length
 ·rw[List.getElem?_append_left (by omega)] at ha
  rw[List.getElem?_append_left c] at hb
  exact h i a b ha hb
 ·have hl:=(List.getElem?_eq_some_iff.mp hb).1
  have e:i+1=xs.length:=by simp at hl; omega
  rw[e,List.getElem?_append_right (Nat.le_refl _)] at hb
  have hb:p=b:=by simpa using hb
  subst hb
  rw[List.getElem?_append_left (by omega)] at ha
  have:a=xs.getLast hne:=by
   rw[List.getLast_eq_getElem]
   have:=(List.getElem?_eq_some_iff.mp ha).2
   rw[<- this]
   congr 1
   omega
  rw[this]
  exact hp.symm
def GU(gs:List D)(m:Nat):Prop:=gs.length=m+1/\∀ g∈gs,g=.str "up"\/g=.str "down"
theorem Gjw{most:Int}(h:Dp S t k n)(hn:n<2^57)(hm0:1<=most)(hm1:most<=11):∃ (mid:List Pl) (gs:List D) (S':Sto),Qq [.lst t,.int most] S=.ok (.tup [.tup ((.e::(mid++[.e])).map Pl.toD),.tup gs]) S'/\(∀ p∈mid,p.ok/\p.isE=false)/\Adj (Pl.e::(mid++[Pl.e]))/\GU gs mid.length/\1<=mid.length/\mid.length<=11/\Dp S' t k (n+200)/\Kp S S' t k:=by
 obtain⟨r1,S1,e1,r10,r11,d1,k1⟩:=Jj (m:=most) h (by omega) (by omega) (by omega)
 obtain⟨mn,hmn⟩:∃ m:Nat,1+r1=m:=⟨(1+r1).toNat,by omega⟩
 have lt1:=d1.lt
 have d2:=d1.app (c:=⟨false,[.tup [.str "end"]]⟩)
 have q2:(S1++[(⟨false,[.tup [.str "end"]]⟩:Cell)])[S1.length]?=some ⟨false,[.tup [.str "end"]]⟩:=Gv
 have k2:Kp S1 (S1++[(⟨false,[.tup [.str "end"]]⟩:Cell)]) t k:=Kp.app
 generalize hS2:S1++[(⟨false,[.tup [.str "end"]]⟩:Cell)]=S2 at *
 obtain⟨ρ3,S3,ef,mid,g4,g5,eρ,q3,l3,ok3,wt3,d3,k3⟩:=Km (nxt:=(rsrc 0 mn).nxt) (g:=gn 4) (b:=Hz) (l:=(List.range mn).map fun k:Nat=>D.int (k:Int))
  (fun i ρ S'=>∃ mid g4 g5,ρ=[some (.lst t),some (.int most),some (.int mn),some (.lst S1.length),g4,g5,none,none]/\S'[S1.length]?=some ⟨false,(Pl.e::mid).map Pl.toD⟩/\mid.length=i/\(∀ p∈mid,p.ok/\p.isE=false)/\(Adj (Pl.e::mid)/\(mid.length=mn->0<mid.length->((Pl.e::mid).getLast (by simp)).isC=true))/\Dp S' t k (n+1+10*i)/\Kp S1 S' t k)
  (fun i _ S _=>Wf) (fun i d ρ S' hd ⟨mid,g4,g5,h1,h2,h3,h4,hw,h5,h6⟩=>by
   obtain⟨hi,rfl⟩:=Ga6 hd
   subst h1
   obtain⟨p,S'',g5',c1,c2,c3,cc,c4,c5,c6⟩:=Ge6 (S0:=S1) (q:=S1.length) (most:=most) (many:=mn) (i:=i) (g4:=g4) (g5:=g5) (ps:=.e::mid) h5 h6 (Nat.le_refl _) (by omega) (by omega) (by omega) h2 (fun p hp=>by
    rcases List.mem_cons.mp hp with rfl | hp
    ·trivial
    ·exact(h4 p hp).1) (by simp) (by simp; omega)
   refine⟨_,_,S'',rfl,c1,mid++[p],some (.int i),g5',rfl,c4,by simp[h3],fun p' hp'=>?_,⟨hw.1.snoc (by simp) (cc.imp id (fun z=>z.1)),fun hl _=>by rw[show(Pl.e::(mid++[p])).getLast (by simp)=p from List.getLast_concat (l:=Pl.e::mid)]; exact cc.resolve_right (fun z=>by have:=z.2; simp at hl; omega)⟩,c5.mono (by omega),c6⟩
   rcases List.mem_append.mp hp' with hp' | hp'
   ·exact h4 p' hp'
   ·have:p'=p:=by simpa using hp'
    subst this
    exact⟨c2,c3⟩) (mn+1) 0 [some (.lst t),some (.int most),some (.int mn),some (.lst S1.length),none,none,none,none] S2 (Nat.zero_le _) ⟨[],none,none,rfl,q2,rfl,(fun p hp=>by cases hp),⟨fun i a b ha hb=>by simp at hb,fun _ z=>absurd z (by simp)⟩,d2,k2⟩ (by simp)
 have hlen:((List.range mn).map fun k:Nat=>D.int (k:Int)).length=mn:=by simp
 rw[hlen] at l3 d3
 have hd3:n+1+10*mn<=n+111:=by omega
 obtain⟨r4,S4,e4,r40,r41,d4,k4⟩:=Jj (m:=mn) (d3.mono hd3) (by omega) (by omega) (by omega)
 obtain⟨tn,htn⟩:∃ m:Nat,1+r4=m:=⟨(1+r4).toNat,by omega⟩
 have q4:=k4.at q3 (by omega) (by omega)
 obtain⟨bn,hbn⟩:∃ m:Nat,(mn:Int)+1-tn=m:=⟨((mn:Int)+1-tn).toNat,by omega⟩
 obtain⟨gi,gs,S5,e5,q5,d5,k5,hgi,gu5⟩:∃ (gi:Nat) (gs:List D) (S5:Sto),o2 Gz (o2 Kn (ls (ac (cn (.str "up")) an)) (vr 6)) (o2 Kn (ls (ac (cn (.str "down")) an)) (o2 Gcw (o2 Gz (vr 2) (cn (.int 1))) (vr 6))) [some (.lst t),some (.int most),some (.int mn),some (.lst S1.length),g4,g5,some (.int tn),none] S4=.ok (.lst gi) S5/\S5[gi]?=some ⟨false,gs⟩/\Dp S5 t k (n+112)/\Kp S4 S5 t k/\S4.length<=gi/\GU gs mn:=by
  have m1:=Gf4 (S:=S4++[⟨false,[.str "up"]⟩]) (n:=tn) Gv (by omega)
  have a1:=Gv (S:=S4++[⟨false,[D.str "up"]⟩]) (c:=⟨false,List.replicate tn (.str "up")⟩)
  have D1:=(d4.app (c:=⟨false,[.str "up"]⟩)).app (c:=⟨false,List.replicate tn (.str "up")⟩)
  have K1:Kp S4 ((S4++[⟨false,[D.str "up"]⟩])++[⟨false,List.replicate tn (.str "up")⟩]) t k:=Kp.app.trans Kp.app
  generalize hA:(S4++[(⟨false,[.str "up"]⟩:Cell)]).length=A at *
  have hA4:S4.length<=A:=by rw[<- hA]; simp
  generalize (S4++[(⟨false,[.str "up"]⟩:Cell)])++[⟨false,List.replicate tn (.str "up")⟩]=T1 at *
  have m2:=Gf4 (S:=T1++[⟨false,[.str "down"]⟩]) (n:=bn) Gv (by omega)
  have a2:=Gv (S:=T1++[⟨false,[D.str "down"]⟩]) (c:=⟨false,List.replicate bn (.str "down")⟩)
  have a1':=Jt (c:=⟨false,List.replicate bn (.str "down")⟩) (Jt (c:=⟨false,[.str "down"]⟩) a1)
  have D2:=(D1.app (c:=⟨false,[.str "down"]⟩)).app (c:=⟨false,List.replicate bn (.str "down")⟩)
  have K2:Kp S4 ((T1++[⟨false,[D.str "down"]⟩])++[⟨false,List.replicate bn (.str "down")⟩]) t k:=(K1.trans Kp.app).trans Kp.app
  generalize hB:(T1++[(⟨false,[.str "down"]⟩:Cell)]).length=B at *
  generalize (T1++[(⟨false,[.str "down"]⟩:Cell)])++[⟨false,List.replicate bn (.str "down")⟩]=T2 at *
  have ad:=Xv a1' a2 (by simp; omega)
  refine⟨T2.length,List.replicate tn (.str "up")++List.replicate bn (.str "down"),T2++[⟨false,List.replicate tn (.str "up")++List.replicate bn (.str "down")⟩],?_,Gv,(D2.app).mono (by omega),K2.trans Kp.app,K2.len,⟨by simp; omega,fun g hg=>by
   rcases List.mem_append.mp hg with z | z
   ·exact .inl (List.eq_of_mem_replicate z)
   ·exact .inr (List.eq_of_mem_replicate z)⟩⟩
  simp only[Yj,ls1,Zm,Gcd,Gy,List.getElem?_cons_zero,List.getElem?_cons_succ,m1,Gsl,Gjp,hbn,m2,ad]
 obtain⟨r6,S6,e6,r60,r61,d6,k6⟩:=Jj (m:=3) d5 (by omega) (by decide) (by decide)
 have lt4:=d4.lt
 have k46:Kp S4 S6 t k:=k5.trans k6
 have q6:=k46.at q4 (by omega) (by omega)
 have gi6:=k6.at q5 (by omega) (by omega)
 obtain⟨gj,gs',S7,e7,q7,d7,k7,gu7⟩:∃ (gj:Nat) (gs':List D) (S7:Sto),sif (tb (o2 eqD (cl 2 (Gs Gj) (ac (vr 0) (ac (cn (.int 3)) an))) (cn (.int 0)))) (sa (cmp (ir1 (ac (o2 Gz (vr 2) (cn (.int 1))) an)) [none,some 0] (gn 0) ttrue (o2 DL.getD (ls (ac (cn (.str "up")) (ac (cn (.str "down")) an))) (cl 2 (Gs Gj) (ac (vr 1) (ac (cn (.int 2)) an))))) (gn 7)) DL.skip [some (.lst t),some (.int most),some (.int mn),some (.lst S1.length),g4,g5,some (.int tn),some (.lst gi)] S5=.nx [some (.lst t),some (.int most),some (.int mn),some (.lst S1.length),g4,g5,some (.int tn),some (.lst gj)] S7/\S7[gj]?=some ⟨false,gs'⟩/\Dp S7 t k (n+130)/\Kp S6 S7 t k/\GU gs' mn:=by
  by_cases c:r6=0
  ·have lt6:=d6.lt
   obtain⟨ρ',S7,el,g,gs',hρ,hq,hl,hu,hd,hk⟩:=Km (nxt:=(rsrc 0 (mn+1)).nxt) (g:=gn 0) (b:=cbody S6.length ttrue (o2 DL.getD (ls (ac (cn (.str "up")) (ac (cn (.str "down")) an))) (cl 2 (Gs Gj) (ac (vr 1) (ac (cn (.int 2)) an))))) (l:=(List.range (mn+1)).map fun k:Nat=>D.int (k:Int))
    (fun i ρ S'=>∃ g gs',ρ=[g,some (.lst t)]/\S'[S6.length]?=some ⟨false,gs'⟩/\gs'.length=i/\(∀ g∈gs',g=.str "up"\/g=.str "down")/\Dp S' t k (n+113+i)/\Kp S6 S' t k)
    (fun i _ S _=>Wf) (fun i d ρ S' hd ⟨g,gs',h1,h2,h3,hu,h4,h5⟩=>by
     obtain⟨hi,rfl⟩:=Ga6 hd
     subst h1
     obtain⟨r,x,S'',p1,p2,p3,p4,p5⟩:=Ul (xs:=[.str "up",.str "down"]) (m:=2) h4 (by omega) rfl (by simp) (by simp)
     have q'':=p5.at h2 (by omega) (by omega)
     have lq:S6.length<S''.length:=(List.getElem?_eq_some_iff.mp q'').1
     refine⟨_,_,_,rfl,Gea (d:=x) (S2:=S'') ?_ q'' (by omega),some (.int i),gs'++[x],rfl,List.getElem?_set_self lq,by simp[h3],(fun g hg=>by
      rcases List.mem_append.mp hg with z | z
      ·exact hu g z
      ·have:g=x:=by simpa using z
       subst this
       simpa using p3),(p4.set (by omega) (by omega)).mono (by omega),(h5.trans p5).setq (Nat.le_refl _)⟩
     simp[p1,p2]) (mn+1+1) 0 [none,some (.lst t)] (S6++[⟨false,[]⟩]) (Nat.zero_le _) ⟨none,[],rfl,Gv,rfl,(fun g hg=>by cases hg),d6.app,Kp.app⟩ (by simp)
   have hln:((List.range (mn+1)).map fun k:Nat=>D.int (k:Int)).length=mn+1:=by simp
   rw[hln] at hd hl
   have hc:=Ge7 (pk:=[none,some 0]) (ρ:=[some (.lst t),some (.int most),some (.int mn),some (.lst S1.length),g4,g5,some (.int tn),some (.lst gi)]) (S:=S6) (Yy (f:=ac (o2 Gz (vr 2) (cn (.int 1))) an) (n:=mn+1) (by simp) (by omega)) el
   exact⟨S6.length,gs',S7,by simp[e6,c,hc],hq,hd.mono (by omega),hk,⟨hl,hu⟩⟩
  ·exact⟨gi,gs,S6,by simp[e6,c],gi6,d6.mono (by omega),.refl,gu5⟩
 have lt6:=d6.lt
 have q7p:=k7.at q6 (by omega) (by omega)
 have ad:=Xv (Jt (c:=⟨false,[.tup [.str "end"]]⟩) q7p) (Gv (S:=S7) (c:=⟨false,[.tup [.str "end"]]⟩)) (by simp; omega)
 have tp1:=Gf5 (Gv (S:=S7++[⟨false,[D.tup [.str "end"]]⟩]) (c:=⟨false,(Pl.e::mid).map Pl.toD++[.tup [.str "end"]]⟩))
 have tp2:=Gf5 (Jt (c:=⟨false,(Pl.e::mid).map Pl.toD++[.tup [.str "end"]]⟩) (Jt (c:=⟨false,[.tup [.str "end"]]⟩) q7))
 refine⟨mid,gs',(S7++[⟨false,[.tup [.str "end"]]⟩])++[⟨false,(Pl.e::mid).map Pl.toD++[.tup [.str "end"]]⟩],?_,ok3,wt3.1.snoc (by simp) (.inr (wt3.2 (by omega) (by omega))),(by rw[l3]; exact gu7),by omega,by omega,(d7.app.app).mono (by omega),(((k1.trans k3).trans (k46.trans k7 |> fun z=>(k4.trans z))).trans Kp.app).trans Kp.app⟩
 have main:∀ fd:Fn,fd=Gj->True:=fun _ _=>trivial
 refine(Hm (m:=8) (b:=Kf)).trans ?_
 show fin (Kf [some (.lst t),some (.int most),none,none,none,none,none,none] S)=_
 unfold Kf
 refine(Go (ρ':=[some (.lst t),some (.int most),some (.int mn),none,none,none,none,none]) (S':=S1) (by rw[<- hmn]; simp[e1])).trans ?_
 refine(Go (ρ':=[some (.lst t),some (.int most),some (.int mn),some (.lst S1.length),none,none,none,none]) (S':=S2) (by rw[<- hS2]; simp)).trans ?_
 refine(Go (ρ':=ρ3) (S':=S3) ?_).trans ?_
 ·rw[Kx,Yy (n:=mn) (S':=S2) (by simp) (by omega)]
  exact ef
 rw[eρ]
 refine(Go (ρ':=[some (.lst t),some (.int most),some (.int mn),some (.lst S1.length),g4,g5,some (.int tn),none]) (S':=S4) (by rw[<- htn]; simp[e4])).trans ?_
 refine(Go (ρ':=[some (.lst t),some (.int most),some (.int mn),some (.lst S1.length),g4,g5,some (.int tn),some (.lst gi)]) (S':=S5) (by rw[Gd9,e5]; rfl)).trans ?_
 rw[Go e7]
 have lsE:ls (ac (tp (ac (cn (.str "end")) an)) an) [some (.lst t),some (.int most),some (.int mn),some (.lst S1.length),g4,g5,some (.int tn),some (.lst gj)] S7=.ok (.lst S7.length) (S7++[⟨false,[.tup [.str "end"]]⟩]):=by simp
 have v3:∀ S:Sto,vr 3 [some (.lst t),some (.int most),some (.int mn),some (.lst S1.length),g4,g5,some (.int tn),some (.lst gj)] S=.ok (.lst S1.length) S:=fun S=>by simp
 have v7:∀ S:Sto,vr 7 [some (.lst t),some (.int most),some (.int mn),some (.lst S1.length),g4,g5,some (.int tn),some (.lst gj)] S=.ok (.lst gj) S:=fun S=>by simp
 rw[Uk,Gu9,Yi,Gd8,Yi,Yj,v3,Gy,lsE,Gy,ad,Gy,Zn,Gy,Gy,tp1,Gy,Yi,Gd8,Yi,v7,Gy,Zn,Gy,Gy,tp2,Gy,Zn,Gy,Gy,Gy]
 rw[if_pos (by simp),Hi,Gjt]
 simp[Pl.toD]
structure Ex(S S':Sto):Prop where
 len:S.length<=S'.length
 get:∀ i,i<S.length->S'[i]?=S[i]?
theorem Ex.refl:Ex S S:=⟨Nat.le_refl _,fun _ _=>rfl⟩
theorem Ex.trans(a:Ex S S1)(b:Ex S1 S2):Ex S S2:=⟨Nat.le_trans a.len b.len,fun i h=>(b.get i (Nat.lt_of_lt_of_le h a.len)).trans (a.get i h)⟩
theorem Ex.app:Ex S (S++[c]):=⟨by simp,fun i h=>by rw[List.getElem?_append_left h]⟩
theorem Ex.setq(a:Ex S0 S)(h:S0.length<=q):Ex S0 (S.set q c):=⟨by simp; exact a.len,fun i hi=>by rw[List.getElem?_set_ne (by omega)]; exact a.get i hi⟩
theorem Ex.at(a:Ex S S')(e:S[q]?=some c):S'[q]?=some c:=(a.get q (List.getElem?_eq_some_iff.mp e).1).trans e
theorem Dp.ext(h:Dp S t k n)(x:Ex S S'):Dp S' t k n:=by
 obtain⟨⟨a,b,xs,e1,e2,h⟩,ne⟩:=h
 exact⟨⟨a,b,xs,x.at e1,x.at e2,h⟩,ne⟩
theorem Gf7:∀ bs:List Bool,Zh (bs.map D.bl)=some bs
 | []=>rfl
 | b::r=>by
  show(match Zh (r.map D.bl) with | some r=>some (b::r) | none=>none)=_
  rw[Gf7 r]
theorem Gvl{bs:List Bool}(e:S[i]?=some ⟨false,bs.map D.bl⟩):allD [.lst i] S=.ok (.bl (bs.all id)) S:=by
 simp only[allD,e,Gf7]
def isInt:D->Bool
 | .int _=>true
 | _=>false
theorem Gjx{x:D}{l:List D}:Gev (.tup (x::l)) (some 1) none S=.ok (.tup l) S:=by
 have e1:HT.sIx (x::l).length 0 (some 1)=1:=by
  have:=HT.Gky (x::l).length 0 1
  rw[show((1:Nat):Int)=1 from rfl] at this
  rw[this]
  simp
 show(if HT.sIx (x::l).length 0 (some 1)=0/\HT.sIx (x::l).length (x::l).length none=(x::l).length then Out.ok (D.tup (x::l)) S else .ok (.tup (DL.Uq (x::l) (some 1) none)) S)=_
 rw[if_neg (by rw[e1]; simp)]
 unfold DL.Uq
 rw[e1,HT.Ghw]
 simp
structure Gp(p:PyData)(b e:Nat):Prop where
 sh:p.showable=true
 nd:p.hasDict=false
 dp:p.depth<=e
 ok:PyData.strOk p.shown=true
 le:p.shown.length<=b
theorem Ue{c:Ev Bool}{g:Sv}(h:c ρ S=.ok true S1):sif c f g ρ S=f ρ S1:=by
 rw[Gde,h,Hi,if_pos rfl]
theorem Vj{c:Ev Bool}{g:Sv}(h:c ρ S=.ok false S1):sif c f g ρ S=g ρ S1:=by
 rw[Gde,h,Hi,if_neg (by decide)]
theorem Uf{g:Sv}(h:f ρ S=.nx ρ' S1):sq f g ρ S=g ρ' S1:=by rw[Ga5,h]
theorem Gsp{lo hi:Option Int}(e:S[q]?=some c):Gev (.lst q) lo hi S=.ok (.lst S.length) (S++[⟨false,DL.Uq c.xs lo hi⟩]):=by
 simp only[Gev,e]
theorem Gsq(e:S[q]?=some c):Zg [.lst q] S=.ok (.lst S.length) (S++[⟨false,c.xs⟩]):=by
 simp only[Zg,e]
theorem Gm1{ns:List Int}{lo hi:Option Int}:∃ ys:List Int,DL.Uq (ns.map D.int) lo hi=ys.map D.int:=
 ⟨(ns.drop (HT.sIx (ns.map D.int).length 0 lo)).take (HT.sIx (ns.map D.int).length (ns.map D.int).length hi-HT.sIx (ns.map D.int).length 0 lo),by unfold DL.Uq; rw[List.map_take,List.map_drop]⟩
theorem Gm2{fz:Bool}{ns:List Int}(e:S[q]?=some ⟨fz,ns.map D.int⟩):∃ (t k:Nat) (S':Sto),Xf [.lst q] S=.ok (.lst t) S'/\Dp S' t k 0:=by
 obtain⟨ys,hy⟩:=Gm1 (ns:=ns) (lo:=none) (hi:=some 63)
 have s1:Gev (.lst q) none (some 63) S=.ok (.lst S.length) (S++[⟨false,ys.map D.int⟩]):=by rw[Gsp e,hy]
 have q1:(S++[⟨false,ys.map D.int⟩])[S.length]?=some (⟨false,ys.map D.int⟩:Cell):=Gv
 generalize hS1:S++[⟨false,ys.map D.int⟩]=S1 at *
 have s3:Zg [.lst S.length] S1=.ok (.lst S1.length) (S1++[⟨false,ys.map D.int⟩]):=Gsq q1
 have q3:(S1++[⟨false,ys.map D.int⟩])[S1.length]?=some (⟨false,ys.map D.int⟩:Cell):=Gv
 have l3:(S1++[(⟨false,ys.map D.int⟩:Cell)]).length=S1.length+1:=by simp
 generalize hS3:S1++[⟨false,ys.map D.int⟩]=S3 at *
 refine⟨S3.length,S1.length,S3++[⟨false,[.lst S1.length,.int 0,.int 0]⟩],?_,⟨⟨0,0,ys,Gv,Jt q3,by decide,by decide⟩,by omega⟩⟩
 refine(Hm (m:=1) (b:=Qa)).trans ?_
 show fin (Qa [some (.lst q)] S)=_
 unfold Qa
 simp[s1,s3]
end Law
namespace Law
open PySem PySem.NumText PySem.Spec PyProof.Rows L2 DL
variable{i q lo n k j t N:Nat}{l:List D}{ρ ρ':Lc}{S S':Sto}{ps tl xs:List Pl}{z T y:Str}{b:Sv}{hi ai:Int}{p p0:Pl}{gs ws:List Str}{x2 x3:Option D}
def ts(i:Int):Str:=Str.ofString (toString i)
theorem Ghe:∀ n:Nat,n<1001->(Str.ofString (toString (n:Int))).length<=5:=by decide +kernel
theorem Ge8{i:Int}(h0:0<=i)(h1:i<=1000):(ts i).length<=5:=by
 obtain⟨n,rfl⟩:∃ n:Nat,i=n:=⟨i.toNat,by omega⟩
 exact Ghe n (by omega)
theorem lg{i:Int}(h:i.natAbs<2^200):i.natAbs.log2<1920:=by
 by_cases c:i.natAbs=0
 ·rw[c]; decide
 ·exact Nat.lt_of_lt_of_le ((Nat.log2_lt c).mpr h) (by decide)
theorem Geb:∀ ps:List Str,Xs (ps.map D.str)=some ps
 | []=>rfl
 | p::r=>by show(Xs (r.map D.str)).map (p::·)=_; rw[Geb r]; rfl
theorem Gjy{n:Nat}:∀ {ps:List Str},(∀ p∈ps,p.length<=n)->(ps.map (·.length)).sum<=n*ps.length
 | [],_=>by simp
 | p::r,h=>by
  have:=Gjy (ps:=r) fun q hq=>h q (List.mem_cons_of_mem _ hq)
  have:=h p List.mem_cons_self
  simp only[List.map_cons,List.sum_cons,List.length_cons,Nat.mul_add,Nat.mul_one]
  omega
theorem Gjz:(1001:Nat)<2^200:=by decide
theorem Gj0{s:Src}{fs:Ev Src}{pk:List (Option Nat)}{e:Ev D}(rest:Lc)(v:D->D)(hf:fs ρ S=.ok s S)(hn:∀ k (S':Sto),Ex S S'->s.nxt k S'=l[k]?)(hfu:l.length<s.fuel)(hp:pkS pk ρ=none::rest)(hl:l.length<1000)(he:∀ d∈l,∀ S':Sto,Ex S S'->∃ S'',e (some d::rest) S'=.ok (v d) S''/\Ex S' S''):
  ∃ S',cmp fs pk (gn 0) ttrue e ρ S=.ok (.lst S.length) S'/\S'[S.length]?=some ⟨false,l.map v⟩/\Ex S S':=by
 obtain⟨ρ',S',el,g,hρ,hq,hx⟩:=Km (nxt:=s.nxt) (g:=gn 0) (b:=cbody S.length ttrue e) (l:=l)
  (fun i ρ S'=>∃ g,ρ=g::rest/\S'[S.length]?=some ⟨false,(l.take i).map v⟩/\Ex S S')
  (fun k ρ S' ⟨_,_,_,h3⟩=>hn k S' h3) (fun i d ρ S' hd ⟨g,h1,h2,h3⟩=>by
   subst h1
   have hi:i<l.length:=(List.getElem?_eq_some_iff.mp hd).1
   obtain⟨S'',e1,e2⟩:=he d (List.mem_of_getElem? hd) S' h3
   have q'':=e2.at h2
   have lq:S.length<S''.length:=(List.getElem?_eq_some_iff.mp q'').1
   refine⟨_,_,_,rfl,Gea e1 q'' (by simp; omega),some d,rfl,?_,(h3.trans e2).setq (Nat.le_refl _)⟩
   rw[List.getElem?_set_self lq]
   have:l.take (i+1)=l.take i++[d]:=by rw[List.take_add_one,hd]; rfl
   rw[this]
   simp) s.fuel 0 (none::rest) (S++[⟨false,[]⟩]) (Nat.zero_le _) ⟨none,rfl,by simp[Gv],Ex.app⟩ (by omega)
 rw[List.take_length] at hq
 exact⟨S',Ge7 (pk:=pk) (ρ:=ρ) (S:=S) (f:=fs) (s:=s) (S1:=S) (g:=gn 0) (c:=ttrue) (e:=e) hf (by rw[hp]; exact el),hq,hx⟩
def wOk(z:Str)(n:Nat):Bool:=z.cps.toList.all (fun c=>decide (48<=c/\c<=57))&&(decide (1<=z.length/\z.length<=16)&&(PyData.strOk z&&((z=="0")==decide (n=0))&&(match z.cps.toList with
 | c::_=>decide (n=0)||!((⟨#[c]⟩:Str)=="0")
 | []=>false)))
theorem Gw5:∀ n:Nat,n<100->wOk (ts (n:Int)) n=true:=by decide +kernel
theorem Ga7(a b:Str):(a++b).length=a.length+b.length:=by
 show(a.cps++b.cps).size=a.cps.size+b.cps.size
 simp
theorem Ga8{c:Nat}:∀ ps:List Str,(∀ p∈ps,p.length<=17)->(Str.join ⟨#[c]⟩ ps).length<=18*ps.length
 | [],_=>by show 0<=_; omega
 | [x],h=>by show x.length<=_; have:=h x List.mem_cons_self; simp; omega
 | x::y::r,h=>by
  show((x++(⟨#[c]⟩:Str))++Str.join ⟨#[c]⟩ (y::r)).length<=_
  rw[Ga7,Ga7]
  have:=Ga8 (c:=c) (y::r) fun p hp=>h p (List.mem_cons_of_mem _ hp)
  have:=h x List.mem_cons_self
  have:(⟨#[c]⟩:Str).length=1:=rfl
  rw[List.length_cons]
  omega
theorem Ge9{ps:List Str}:Txt.join (" ":Str) ps=Str.join ⟨#[32]⟩ ps:=by
 have:((" ":String):Str)=(⟨#[32]⟩:Str):=by decide +kernel
 rw[this]
 exact StrLaws.glued_eq_join _ _
theorem Gm3{i:Int}(k:Nat)(hk:k≠45/\(k<48\/57<k)):k∉(ts i).cps.toList:=int_text_free' k hk i
def Wz(z:Str):Prop:=z.length<=20000/\∀ c∈z.cps.toList,c<128
theorem Wz.ok(h:Wz z):PyData.strOk z=true:=by
 show z.cps.all _=true
 rw[<- Array.all_toList,List.all_eq_true]
 intro c hc
 have:=h.2 c hc
 simp
 omega
theorem Gm4(s:String)(h:(decide ((Str.ofString s).length<=20000)&&(Str.ofString s).cps.toList.all fun c=>decide (c<128))=true):Wz (Str.ofString s):=by
 simp only[Bool.and_eq_true,List.all_eq_true,decide_eq_true_eq] at h
 exact h
theorem Gsr{i:Int}(h0:0<=i)(h1:i<=99):∀ c∈(ts i).cps.toList,48<=c/\c<=57:=by
 obtain⟨n,rfl⟩:∃ n:Nat,i=n:=⟨i.toNat,by omega⟩
 have w:=Gw5 n (by omega)
 unfold wOk at w
 simp only[Bool.and_eq_true,List.all_eq_true,decide_eq_true_eq] at w
 exact w.1
theorem Gvm{i:Int}(h0:0<=i)(h1:i<=99):Wz (ts i):=⟨by have:=Ge8 h0 (by omega:i<=1000); omega,fun c hc=>by have:=Gsr h0 h1 c hc; omega⟩
def isW(z:Str):Bool:=decide (1<=z.length/\z.length<=16)&&(z.cps.toList.all (fun c=>decide (48<=c/\c<=57))&&((z=="0")||(match z.cps.toList with
 | c::_=>!((⟨#[c]⟩:Str)=="0")
 | []=>false)))
theorem Gm5{c:Nat}:decide (c∈(Str.ofString "0123456789").cps.toList)=decide (48<=c/\c<=57):=by
 have h:(Str.ofString "0123456789").cps.toList=[48,49,50,51,52,53,54,55,56,57]:=by decide +kernel
 rw[h]
 refine decide_eq_decide.mpr ?_
 simp only[List.mem_cons,List.mem_nil_iff,or_false]
 omega
theorem Gm6(hz:Wz z):∃ S',Vx [.str z] S=.ok (.bl (isW z)) S'/\Ex S S':=by
 have k1:c_MOST_FIGURES=.int 16:=rfl
 have k2:c_FIGURES=.str "0123456789":=rfl
 have len:lenD [.str z] S=.ok (.int z.length) S:=if_pos (by have:=hz.1; omega)
 have a1:ch leD leD (cn (.int 1)) (b1 lenD (ac (vr 0) an)) (cn c_MOST_FIGURES) [some (.str z)] S=.ok (.bl (decide (1<=z.length/\z.length<=16))) S:=by
  rw[k1]
  simp only[Gve,Gcd,Gd8,Yi,Zn,Zm,List.getElem?_cons_zero,Gy,len,Gvh]
  by_cases d1:(1:Int)<=(z.length:Int)
  ·have d1':1<=z.length:=by omega
   by_cases d2:z.length<=16
   ·have d2':(z.length:Int)<=16:=by omega
    simp[d1,d2,d2',d1']
   ·have d2':¬ (z.length:Int)<=16:=by omega
    simp[d1,d2,d2',d1']
  ·have d1':¬ 1<=z.length:=by omega
   simp[d1,d1']
 by_cases c:1<=z.length/\z.length<=16
 ·rw[decide_eq_true c] at a1
  obtain⟨S1,e1,q1,x1⟩:=Gj0 (s:=Grk z) (l:=z.cps.toList.map fun c=>D.str ⟨#[c]⟩) (fs:=isrcS (vr 0)) (pk:=[none]) (e:=o2 istD (vr 0) (cn c_FIGURES)) (ρ:=[some (.str z)]) (S:=S) [] (fun d=>match d with | .str y=>.bl (y.cps.toList.all fun c=>decide (48<=c/\c<=57)) | _=>.non)
   (by show(vr 0 [some (.str z)] S).bind _=_; simp) (fun k S' _=>by show(z.cps[k]?).map _=_; simp) (by show _<z.cps.size+1; simp) rfl (by have:z.cps.size=z.length:=rfl; simp; omega) fun d hd S' _=>⟨S',by
    obtain⟨c,hc,rfl⟩:=List.mem_map.mp hd
    have:=StrLaws.found_one (Str.ofString "0123456789") c
    rw[Gm5] at this
    have e:istD (.str ⟨#[c]⟩) (.str "0123456789") S'=.ok (.bl (decide (48<=c/\c<=57))) S':=by
     show Out.ok (D.bl (!(Builtin.Str.occurrences (Str.ofString "0123456789") ⟨#[c]⟩ 0 (Str.ofString "0123456789").length 1).isEmpty)) S'=_
     rw[this]
    rw[k2]
    simp[e],.refl⟩
  have all:allD [.lst S.length] S1=.ok (.bl (z.cps.toList.all fun c=>decide (48<=c/\c<=57))) S1:=by
   have:(z.cps.toList.map fun c=>D.str ⟨#[c]⟩).map (fun d=>match d with | .str y=>D.bl (y.cps.toList.all fun c=>decide (48<=c/\c<=57)) | _=>.non)=((z.cps.toList.map fun c=>decide (48<=c/\c<=57))).map D.bl:=by simp
   rw[this] at q1
   rw[Gvl q1]
   simp
  have a2:b1 allD (ac (cmp (isrcS (vr 0)) [none] (gn 0) ttrue (o2 istD (vr 0) (cn c_FIGURES))) an) [some (.str z)] S=.ok (.bl (z.cps.toList.all fun c=>decide (48<=c/\c<=57))) S1:=by
   rw[Gd8,Yi,e1,Gy,Zn,Gy,Gy,all]
  refine⟨S1,?_,x1⟩
  refine(Hm (m:=1) (b:=Je)).trans ?_
  show fin (Je [some (.str z)] S)=_
  unfold Je
  have tst:∀ b:Bool,z.cps.toList.all (fun c=>decide (48<=c/\c<=57))=b->to (tn (tb (ch leD leD (cn (.int 1)) (b1 lenD (ac (vr 0) an)) (cn c_MOST_FIGURES)))) (tn (tt (b1 allD (ac (cmp (isrcS (vr 0)) [none] (gn 0) ttrue (o2 istD (vr 0) (cn c_FIGURES))) an)))) [some (.str z)] S=.ok (!b) S1:=fun b hb=>by
   rw[Gjo,Gjn,Gf2,a1]
   simp only[Gy,Bool.not_true,Bool.false_eq_true,if_false]
   rw[Gjn,God,a2,hb]
   simp[Uh]
  cases ha:z.cps.toList.all (fun c=>decide (48<=c/\c<=57)) with
  | false=>
   refine Jn ((Ue (S1:=S1) (tst false ha)).trans ?_)
   unfold isW
   rw[ha,decide_eq_true c]
   rfl
  | true=>
   refine(Go (ρ':=[some (.str z)]) (S':=S1) ((Vj (S1:=S1) (tst true ha)).trans Qs)).trans ?_
   have so:PyData.strOk (Str.ofString "0")=true:=stok "0"
   have eq0:eqD (.str z) (.str "0") S1=.ok (.bl (z=="0")) S1:=Yk hz.ok so
   cases hl:z.cps.toList with
   | nil=>
    have:z.cps.toList.length=z.length:=rfl
    rw[hl] at this
    simp at this
    omega
   | cons c0 r=>
    have gt:DL.getD (.str z) (.int 0) S1=.ok (.str ⟨#[c0]⟩) S1:=by
     show(if z.length<=1000000 then(match atI z.cps.toList 0 with | some c=>Out.ok (D.str ⟨#[c]⟩) S1 | none=>.bad) else .bad)=_
     rw[if_pos (by omega),hl,show atI (c0::r) 0=some c0 from Kl (by decide) rfl]
    have oc:PyData.strOk (⟨#[c0]⟩:Str)=true:=by
     have:=hz.2 c0 (by rw[hl]; exact List.mem_cons_self)
     show(#[c0]:Array Nat).all _=true
     simp
     omega
    have ne0:neD (.str ⟨#[c0]⟩) (.str "0") S1=.ok (.bl (!((⟨#[c0]⟩:Str)=="0"))) S1:=by
     simp only[neD,toP]
     simp[SeqAt.shaped,PyData.eqv,PyData.canLay0,PyData.depth,oc,so]
    have iw:isW z=((z=="0")||!((⟨#[c0]⟩:Str)=="0")):=by
     unfold isW
     rw[ha,decide_eq_true c,hl]
     rfl
    rw[iw]
    cases e:z=="0"<;>rw[e] at eq0<;>simp[eq0,gt,ne0,fin,Uh]
 ·rw[decide_eq_false c] at a1
  refine⟨S,?_,.refl⟩
  refine(Hm (m:=1) (b:=Je)).trans ?_
  show fin (Je [some (.str z)] S)=_
  unfold Je
  refine Jn ((Ue (S1:=S) (by rw[Gjo,Gjn,Gf2,a1]; rfl)).trans ?_)
  unfold isW
  rw[decide_eq_false c]
  rfl
def nv(z:Str):Int:=((digitsVal z.cps.toList:Nat):Int)
def nm(z:Str)(lo hi:Int):Option Int:=if isW z=true/\lo<=nv z/\nv z<=hi then some (nv z) else none
def od:Option Int->D
 | none=>.non
 | some v=>.int v
theorem Gdf(h:isW z=true):AllDigits z.cps.toList/\(1<=z.length/\z.length<=16)/\(z="0"\/∃ c r,z.cps.toList=c::r/\49<=c):=by
 unfold isW at h
 simp only[Bool.and_eq_true,List.all_eq_true,decide_eq_true_eq,Bool.or_eq_true,beq_iff_eq] at h
 obtain⟨h1,h2,h3⟩:=h
 refine⟨h2,h1,?_⟩
 rcases h3 with h3 | h3
 ·exact .inl h3
 ·cases hl:z.cps.toList with
  | nil=>rw[hl] at h3; cases h3
  | cons c r=>
   rw[hl] at h3
   refine .inr ⟨c,r,rfl,?_⟩
   have h4:=h2 c (by rw[hl]; exact List.mem_cons_self)
   by_cases e:c=48
   ·subst e
    have:((⟨#[48]⟩:Str)==Str.ofString "0")=true:=by decide +kernel
    have h3:(!((⟨#[48]⟩:Str)==Str.ofString "0"))=true:=h3
    rw[this] at h3
    cases h3
   ·omega
theorem Gm7(h:isW z=true):PySem.intText? z=some (nv z):=by
 obtain⟨h1,h2,_⟩:=Gdf h
 refine intText_digits h1 (fun e=>?_) (by omega)
 have:z.cps.toList.length=z.length:=rfl
 rw[e] at this
 simp at this
 omega
theorem Gm8(h:isW z=true):z=ts (nv z):=by
 obtain⟨h1,h2,h3⟩:=Gdf h
 have hl:z.cps.toList.length=z.length:=rfl
 refine SP.str_ext ?_
 show _=(Str.ofString (toString ((digitsVal z.cps.toList:Nat):Int))).cps.toList
 rw[PySem.W.KIN.signs_num]
 have:=toDigits_digitsVal (z.length-1) z.cps.toList (by omega) h1 (by
  rcases h3 with rfl | h3
  ·exact .inl (by decide +kernel)
  ·exact .inr h3)
 rw[this,List.map_map]
 have id':∀ l:List Nat,AllDigits l->l=l.map (Char.toNat∘Char.ofNat):=fun l=>by
  induction l with
  | nil=>intro _; rfl
  | cons c r ih=>
   intro h
   have hc:=h.head
   rw[List.map_cons,<- ih h.tail]
   congr 1
   have:∀ c:Nat,c<58->48<=c->c=(Char.toNat∘Char.ofNat) c:=by decide +kernel
   exact this c (by omega) hc.1
 exact id' _ h1
theorem Gfa{i:Int}(h0:0<=i)(h1:i<=99):isW (ts i)=true/\nv (ts i)=i:=by
 obtain⟨n,rfl⟩:∃ n:Nat,i=n:=⟨i.toNat,by omega⟩
 have:∀ n:Nat,n<100->(isW (ts (n:Int))&&decide (nv (ts (n:Int))=n))=true:=by decide +kernel
 have:=this n (by omega)
 simpa using this
theorem g0{a:D}:DL.getD (.tup (a::l)) (.int 0) S=.ok a S:=Gf3 (Kl (by decide) rfl)
theorem g1{a b:D}:DL.getD (.tup (a::b::l)) (.int 1) S=.ok b S:=Gf3 (Kl (by decide) rfl)
theorem Gj1{fz:Bool}{ps:List Str}(e:S[q]?=some ⟨fz,ps.map D.str⟩)(h:∀ p∈ps,p.length<=17)(hl:ps.length<=1000):Xm (.str " ") [.lst q] S=.ok (.str (Txt.join " " ps)) S:=by
 simp only[Xm,e,Geb]
 have:=Gjy h
 have e1:(" ":Str).length=1:=rfl
 rw[if_pos (by rw[e1]; omega)]
theorem Gf8{c:Nat}:∀ (ps:List Str) (p:Str),p∈ps->(∀ x∈p.cps.toList,x∈(Str.join ⟨#[c]⟩ ps).cps.toList)/\p.length<=(Str.join ⟨#[c]⟩ ps).length
 | [],p,h=>by cases h
 | [x],p,h=>by
  rw[List.mem_singleton.mp h]
  exact⟨fun _ h=>h,Nat.le_refl _⟩
 | x::y::r,p,h=>by
  have e:=SP.join_two (c:=c) (x:=x) (y:=y) (r:=r)
  have el:(Str.join ⟨#[c]⟩ (x::y::r)).length=x.length+1+(Str.join ⟨#[c]⟩ (y::r)).length:=by
   show(Str.join ⟨#[c]⟩ (x::y::r)).cps.toList.length=x.cps.toList.length+1+(Str.join ⟨#[c]⟩ (y::r)).cps.toList.length
   rw[e]
   simp
   omega
  rcases List.mem_cons.mp h with rfl | h
  ·exact⟨fun z hz=>by rw[e]; exact List.mem_append_left _ hz,by omega⟩
  ·obtain⟨a,b⟩:=Gf8 (y::r) p h
   exact⟨fun z hz=>by rw[e]; exact List.mem_append_right _ (List.mem_cons_of_mem _ (a z hz)),by omega⟩
theorem Gfb{c:Nat}:∀ ps:List Str,ps.length<=(Str.join ⟨#[c]⟩ ps).length+1
 | []=>by simp
 | [x]=>by simp
 | x::y::r=>by
  have e:=SP.join_two (c:=c) (x:=x) (y:=y) (r:=r)
  have el:(Str.join ⟨#[c]⟩ (x::y::r)).length=x.length+1+(Str.join ⟨#[c]⟩ (y::r)).length:=by
   show(Str.join ⟨#[c]⟩ (x::y::r)).cps.toList.length=x.cps.toList.length+1+(Str.join ⟨#[c]⟩ (y::r)).cps.toList.length
   rw[e]
   simp
   omega
  have:=Gfb (c:=c) (y::r)
  rw[List.length_cons]
  omega
theorem Gss(h:Wz T):∃ W:List Str,W≠[]/\(∀ z∈W,Wz z)/\W.length<=20001/\Txt.join " " W=T/\∀ S,Wr (.str T) [.str " "] S=.ok (.lst S.length) (S++[⟨false,W.map D.str⟩]):=by
 have e32:Str.ofString " "=(⟨#[32]⟩:Str):=by decide +kernel
 have j:=PySem.StrLaws.join_split T ⟨#[32]⟩
 refine⟨Txt.split T ⟨#[32]⟩,SP.split_ne _ _,fun z hz=>?_,?_,by rw[Ge9]; exact j,fun S=>?_⟩
 ·obtain⟨a,b⟩:=Gf8 (c:=32) _ z hz
  rw[j] at a b
  exact⟨Nat.le_trans b h.1,fun c hc=>h.2 c (a c hc)⟩
 ·have:=Gfb (c:=32) (Txt.split T ⟨#[32]⟩)
  rw[j] at this
  have:=h.1
  omega
 ·show(if Vm T (Str.ofString " ")=true then _ else _)=_
  have l:=Gfb (c:=32) (Txt.split T ⟨#[32]⟩)
  rw[j] at l
  have:=h.1
  rw[e32,if_pos (SP.okSplit_of (by decide) (by omega) (by omega))]
theorem Gj2{nxt:Nat->Sto->Option D}{g:Tg}{b:Sv}{l:List D}{k0:Nat}{d0 r:D}{P:Sto->Prop}(I:Nat->Lc->Sto->Prop)(h0:l[k0]?=some d0)(hn:∀ k ρ S,I k ρ S->nxt k S=l[k]?)(hs:∀ k d ρ S,k<k0->l[k]?=some d->I k ρ S->∃ ρ1 ρ2 S2,g d ρ=some ρ1/\b ρ1 S=.nx ρ2 S2/\I (k+1) ρ2 S2)
  (hx:∀ ρ S,I k0 ρ S->∃ ρ1 S2,g d0 ρ=some ρ1/\b ρ1 S=.rt r S2/\P S2):∀ (n k:Nat) (ρ:Lc) (S:Sto),k<=k0->I k ρ S->k0<n+k->∃ S',Qd nxt g b n k ρ S=.rt r S'/\P S'
 | 0,k,ρ,S,h1,_,h2=>by omega
 | n+1,k,ρ,S,h1,hI,h2=>by
  unfold Qd
  rw[hn k ρ S hI]
  by_cases c:k=k0
  ·subst c
   obtain⟨ρ1,S2,h3,h4,h5⟩:=hx ρ S hI
   rw[h0]
   simp only[h3,h4]
   exact⟨_,rfl,h5⟩
  ·have lt:k0<l.length:=(List.getElem?_eq_some_iff.mp h0).1
   have e:=List.getElem?_eq_getElem (l:=l) (i:=k) (by omega)
   generalize l[k]'(by omega)=d at e
   obtain⟨ρ1,ρ2,S2,h3,h4,h5⟩:=hs k d ρ S (by omega) e hI
   obtain⟨S',h6,h7⟩:=Gj2 I h0 hn hs hx n (k+1) ρ2 S2 (by omega) h5 (by omega)
   refine⟨S',?_,h7⟩
   rw[e]
   simp only[h3,h4]
   exact h6
theorem numof{lo:Int}(hz:Wz z):∃ S',Uj [.str z,.int lo,.int hi] S=.ok (od (nm z lo hi)) S'/\Ex S S':=by
 obtain⟨S1,e1,x1⟩:=Gm6 (S:=S) hz
 refine⟨S1,?_,x1⟩
 refine(Hm (m:=3) (b:=Kz)).trans ?_
 show fin (Kz [some (.str z),some (.int lo),some (.int hi)] S)=_
 unfold Kz nm
 cases h:isW z with
 | false=>
  rw[h] at e1
  rw[if_neg (by simp)]
  refine Jn ((Ue (S1:=S1) (by simp[e1,Uh])).trans ?_)
  rfl
 | true=>
  rw[h] at e1
  have rd:∀ S,Zj [.str z] S=.ok (.int (nv z)) S:=fun S=>by
   simp only[Zj]
   rw[Gm7 h]
   exact if_pos (by have:=(Gdf h).2.1; omega)
  by_cases c1:lo<=nv z
  ·by_cases c2:nv z<=hi
   ·rw[if_pos ⟨rfl,c1,c2⟩]
    refine(Go (ρ':=[some (.str z),some (.int lo),some (.int hi)]) (S':=S1) ((Vj (S1:=S1) ?_).trans Qs)).trans ?_
    ·simp[e1,Uh,rd,c1,c2]
    ·simp[rd,fin,od]
   ·rw[if_neg (fun q=>c2 q.2.2)]
    refine Jn ((Ue (S1:=S1) (by simp[e1,Uh,rd,c1,c2])).trans ?_)
    rfl
  ·rw[if_neg (fun q=>c1 q.2.1)]
   refine Jn ((Ue (S1:=S1) (by simp[e1,Uh,rd,c1])).trans ?_)
   rfl
theorem Xl{lo v:Int}(h:nm z lo hi=some v):z=ts v/\lo<=v/\v<=hi:=by
 unfold nm at h
 split at h
 ·rename_i c
  cases (Option.some.inj h)
  exact⟨Gm8 c.1,c.2⟩
 ·cases h
theorem Gvn{lo v:Int}(h0:0<=v)(h1:v<=99)(hl:lo<=v)(hh:v<=hi):nm (ts v) lo hi=some v:=by
 obtain⟨a,b⟩:=Gfa h0 h1
 unfold nm
 rw[if_pos ⟨a,by rw[b]; exact hl,by rw[b]; exact hh⟩,b]
theorem Gof{i:Int}(h0:0<=i)(h1:i<=99):Ggw [.int i] S=.ok (.str (ts i)) S:=by
 show(if i.natAbs.log2<1920 then Out.ok (D.str (ts i)) S else .bad)=_
 exact if_pos (lg (Nat.lt_trans (m:=1001) (by omega) Gjz))
theorem Gst{f:Ev (List D)}{a b:Int}(h:f ρ S=.ok [.int a,.int b] S')(h1 : -1000<=a)(h2:b<=1000)(h3:a<=1000)(h4 : -1000<=b):ir2 f ρ S=.ok (rsrc a (b-a).toNat) S':=by
 unfold ir2
 rw[h,Gy]
 simp only
 rw[if_pos (by omega)]
theorem Gec{a:Int}:(rsrc a n).nxt k S=((List.range n).map fun k:Nat=>D.int (a+k))[k]?:=by
 show(if k<n then some (D.int (a+k)) else none)=_
 rw[List.getElem?_map]
 by_cases c:k<n
 ·rw[if_pos c,List.getElem?_range c]; rfl
 ·rw[if_neg c,List.getElem?_eq_none (by simp; omega)]; rfl
theorem lnum{lo:Int}(hz:Wz z)(h0:0<=lo)(h1:hi<=99)(h2 : -1<=hi)(h3:lo<=99):Jh [.str z,.int lo,.int hi] S=.ok (od (nm z lo hi)) S:=by
 have ir:ir2 (ac (vr 1) (ac (o2 Gz (vr 2) (cn (.int 1))) an)) [some (.str z),some (.int lo),some (.int hi),none] S=.ok (rsrc lo (hi+1-lo).toNat) S:=Gst (by simp) (by omega) (by omega) (by omega) (by omega)
 have at':∀ {k:Nat} {d:D},((List.range (hi+1-lo).toNat).map fun k:Nat=>D.int (lo+k))[k]?=some d->d=.int (lo+k)/\lo+k<=hi:=fun{k d} hd=>by
  rw[List.getElem?_map] at hd
  cases hk:(List.range (hi+1-lo).toNat)[k]? with
  | none=>rw[hk] at hd; cases hd
  | some j=>
   rw[hk] at hd
   obtain⟨a1,a2⟩:=List.getElem?_eq_some_iff.mp hk
   rw[List.getElem_range] at a2
   subst a2
   rw[List.length_range] at a1
   exact⟨(Option.some.inj hd).symm,by omega⟩
 have eqs:∀ {v:Int},0<=v->v<=99->eqD (.str z) (.str (ts v)) S=.ok (.bl (z==ts v)) S:=fun{v} a b=>Yk hz.ok (Gvm a b).ok
 refine(Hm (m:=4) (b:=Jw)).trans ?_
 show fin (Jw [some (.str z),some (.int lo),some (.int hi),none] S)=_
 unfold Jw
 have no:∀ (k:Nat),lo+k<=hi->z≠ts (lo+k)->Ht [some (.str z),some (.int lo),some (.int hi),some (.int (lo+k))] S=.nx [some (.str z),some (.int lo),some (.int hi),some (.int (lo+k))] S:=fun k hk ne=>by
  unfold Ht
  rw[Vj (S1:=S) (by
   have e:=eqs (v:=lo+k) (by omega) (by omega)
   rw[show(z==ts (lo+k))=false by simpa using ne] at e
   simp[Gof (show 0<=lo+(k:Int) by omega) (by omega),e])]
  rfl
 cases hn:nm z lo hi with
 | none=>
  have nn:∀ k:Nat,lo+k<=hi->z≠ts (lo+k):=fun k hk e=>by
   rw[e,Gvn (by omega) (by omega) (by omega) hk] at hn
   cases hn
  obtain⟨ρ',S',ef,g,e1,e2⟩:=Km (nxt:=(rsrc lo (hi+1-lo).toNat).nxt) (g:=gn 3) (b:=Ht) (l:=(List.range (hi+1-lo).toNat).map fun k:Nat=>D.int (lo+k))
   (fun k ρ S'=>∃ g,ρ=[some (.str z),some (.int lo),some (.int hi),g]/\S'=S) (fun _ _ _ _=>Gec) (fun k d ρ S' hd ⟨g,a,b⟩=>by
    subst a b
    obtain⟨rfl,hk⟩:=at' hd
    exact⟨_,_,S',rfl,no k hk (nn k hk),_,rfl,rfl⟩) ((hi+1-lo).toNat+1) 0 [some (.str z),some (.int lo),some (.int hi),none] S (Nat.zero_le _) ⟨none,rfl,rfl⟩ (by simp)
  subst e1 e2
  refine(Go (by rw[Kx,ir,Hi]; exact ef)).trans ?_
  rfl
 | some v=>
  obtain⟨ez,v0,v1⟩:=Xl hn
  obtain⟨k0,hk0⟩:∃ k0:Nat,v=lo+k0:=⟨(v-lo).toNat,by omega⟩
  subst hk0
  obtain⟨S',ef,e1⟩:=Gj2 (nxt:=(rsrc lo (hi+1-lo).toNat).nxt) (g:=gn 3) (b:=Ht) (l:=(List.range (hi+1-lo).toNat).map fun k:Nat=>D.int (lo+k)) (k0:=k0) (d0:=.int (lo+k0)) (r:=.int (lo+k0)) (P:=fun S'=>S'=S)
   (fun k ρ S'=>∃ g,ρ=[some (.str z),some (.int lo),some (.int hi),g]/\S'=S) (by rw[List.getElem?_map,List.getElem?_range (by omega)]; rfl) (fun _ _ _ _=>Gec) (fun k d ρ S' hk hd ⟨g,a,b⟩=>by
    subst a b
    obtain⟨rfl,hk'⟩:=at' hd
    refine⟨_,_,S',rfl,no k hk' (fun e=>?_),_,rfl,rfl⟩
    have a:=(Gfa (show 0<=lo+(k:Int) by omega) (by omega)).2
    have b:=(Gfa (show 0<=lo+(k0:Int) by omega) (by omega)).2
    rw[<- e,ez] at a
    rw[b] at a
    omega) (fun ρ S' ⟨g,a,b⟩=>by
    subst a b
    refine⟨[some (.str z),some (.int lo),some (.int hi),some (.int (lo+k0))],S',rfl,?_,rfl⟩
    unfold Ht
    rw[Ue (S1:=S') (by
     have e:=eqs (v:=lo+k0) (by omega) (by omega)
     rw[show(z==ts (lo+k0))=true by simpa using ez] at e
     simp[Gof (show 0<=lo+(k0:Int) by omega) (by omega),e])]
    rfl) ((hi+1-lo).toNat+1) 0 [some (.str z),some (.int lo),some (.int hi),none] S (Nat.zero_le _) ⟨none,rfl,rfl⟩ (by omega)
  subst e1
  exact Jn (by rw[Kx,ir,Hi]; exact ef)
def wd:D->Option Str
 | .str z=>some z
 | .int i=>some (ts i)
 | _=>none
def okw(d:D):Prop:=d=.non\/(∃ z:Str,d=.str z)\/∃ i:Int,d=.int i/\0<=i/\i<=99
theorem Gsu{i:Int}(h0:0<=i)(h1:i<=99):Xn [.int i] S=.ok (.str (ts i)) S:=by
 show(if i.natAbs.log2<1920 then Out.ok (D.str (ts i)) S else .bad)=_
 exact if_pos (lg (Nat.lt_trans (m:=1001) (by omega) Gjz))
theorem Gj3{f:Ev D}(hf:f ρ S=.ok (.tup l) S)(hl:l.length<100)(hd:∀ d∈l,okw d):
  ∃ S',cmp (isrc f) [none] (gn 0) (tb (o2 Qj (vr 0) (cn .non))) (b1 Xn (ac (vr 0) an)) ρ S=.ok (.lst S.length) S'/\S'[S.length]?=some ⟨false,(l.filterMap wd).map D.str⟩/\Ex S S':=by
 obtain⟨ρ',S',el,g,hρ,hq,hx⟩:=Km (nxt:=(Gm0 l).nxt) (g:=gn 0) (b:=cbody S.length (tb (o2 Qj (vr 0) (cn .non))) (b1 Xn (ac (vr 0) an))) (l:=l)
  (fun i ρ S'=>∃ g,ρ=[g]/\S'[S.length]?=some ⟨false,((l.take i).filterMap wd).map D.str⟩/\Ex S S')
  (fun _ _ _ _=>rfl) (fun i d ρ S' hdi ⟨g,h1,h2,h3⟩=>by
   subst h1
   have hi:i<l.length:=(List.getElem?_eq_some_iff.mp hdi).1
   have tk:l.take (i+1)=l.take i++[d]:=by rw[List.take_add_one,hdi]; rfl
   have lq:S.length<S'.length:=(List.getElem?_eq_some_iff.mp h2).1
   have fl:(((l.take i).filterMap wd).map D.str).length<1000000:=by
    have:=List.length_filterMap_le wd (l.take i)
    rw[List.length_map]
    rw[List.length_take] at this
    omega
   rcases hd d (List.mem_of_getElem? hdi) with rfl | ⟨z,rfl⟩ | ⟨n,rfl,n0,n1⟩
   ·refine⟨[some .non],[some .non],S',rfl,Gjv ?_,some .non,rfl,?_,h3⟩
    ·have:∀ S:Sto,Qj .non .non S=.ok (.bl false) S:=fun S=>rfl
     simp[this]
    ·have fn:List.filterMap wd [D.non]=[]:=rfl
     rw[tk,List.filterMap_append,fn,List.append_nil]
     exact h2
   ·refine⟨[some (.str z)],[some (.str z)],_,rfl,Gcf (S1:=S') (S2:=S') (d:=.str z) ?_ ?_ h2 fl,some (.str z),rfl,?_,h3.setq (Nat.le_refl _)⟩
    ·have:∀ S:Sto,Qj (.str z) .non S=.ok (.bl true) S:=fun S=>rfl
     simp[this]
    ·have:∀ S:Sto,Xn [.str z] S=.ok (.str z) S:=fun S=>rfl
     simp[this]
    ·rw[List.getElem?_set_self lq,tk,List.filterMap_append]
     simp[wd]
   ·refine⟨[some (.int n)],[some (.int n)],_,rfl,Gcf (S1:=S') (S2:=S') (d:=.str (ts n)) ?_ ?_ h2 fl,some (.int n),rfl,?_,h3.setq (Nat.le_refl _)⟩
    ·have:∀ S:Sto,Qj (.int n) .non S=.ok (.bl true) S:=fun S=>rfl
     simp[this]
    ·simp[Gsu n0 n1]
    ·rw[List.getElem?_set_self lq,tk,List.filterMap_append]
     simp[wd]) (Gm0 l).fuel 0 [none] (S++[⟨false,[]⟩]) (Nat.zero_le _) ⟨none,rfl,by simp[Gv],Ex.app⟩ Gvk
 rw[List.take_length] at hq
 exact⟨S',Ge7 (pk:=[none]) (ρ:=ρ) (S:=S) (f:=isrc f) (s:=Gm0 l) (S1:=S) (g:=gn 0) (by rw[Gmz,hf]; rfl) el,hq,hx⟩
def its:Pl->List D
 | .e=>[.str "end"]
 | .c=>[.str "chamber"]
 | .p br de ro pr=>[.str "pound",.int br,.int de,.int ro,pr]
theorem Gfc:p.toD=.tup (its p):=by cases p<;>rfl
theorem its_ok(h:p.ok):(its p).length<100/\∀ d∈its p,okw d:=by
 cases p with
 | e=>exact⟨by decide,fun d hd=>by
   have:d=.str "end":=by simpa[its] using hd
   exact .inr (.inl ⟨_,this⟩)⟩
 | c=>exact⟨by decide,fun d hd=>by
   have:d=.str "chamber":=by simpa[its] using hd
   exact .inr (.inl ⟨_,this⟩)⟩
 | p br de ro pr=>
  obtain⟨a1,a2,a3,a4,a5,a6,a7⟩:=h
  refine⟨by simp[its],fun d hd=>?_⟩
  simp only[its,List.mem_cons,List.not_mem_nil,or_false] at hd
  rcases hd with rfl | rfl | rfl | rfl | rfl
  ·exact .inr (.inl ⟨_,rfl⟩)
  ·exact .inr (.inr ⟨_,rfl,by omega,by omega⟩)
  ·exact .inr (.inr ⟨_,rfl,by omega,by omega⟩)
  ·exact .inr (.inr ⟨_,rfl,by omega,by omega⟩)
  ·rcases a7 with rfl | ⟨i,rfl,i0,i1⟩
   ·exact .inl rfl
   ·exact .inr (.inr ⟨_,rfl,i0,i1⟩)
def pw(p:Pl):List Str:=(its p).filterMap wd
theorem Gcg(h:p.ok):∃ S',Kw [p.toD] S=.ok (.lst S.length) S'/\S'[S.length]?=some ⟨false,(pw p).map D.str⟩/\Ex S S':=by
 rw[Gfc]
 obtain⟨S',e,q,x⟩:=Gj3 (l:=its p) (f:=vr 0) (ρ:=[some (.tup (its p))]) (S:=S) (by simp) (its_ok h).1 (its_ok h).2
 refine⟨S',?_,q,x⟩
 refine(Hm (m:=1) (b:=Jv)).trans ?_
 show fin (Jv [some (.tup (its p))] S)=_
 unfold Jv
 rw[Uk,e]
 rfl
theorem Ga9:1<=(pw p).length/\(pw p).length<=5:=by
 cases p with
 | e=>exact⟨by decide,by decide⟩
 | c=>exact⟨by decide,by decide⟩
 | p br de ro pr=>
  have e:pw (.p br de ro pr)=[Str.ofString "pound",ts br,ts de,ts ro]++[pr].filterMap wd:=rfl
  have:=List.length_filterMap_le wd [pr]
  rw[e,List.length_append]
  simp only[List.length_cons,List.length_nil] at this ⊢
  omega
def Wg(z:Str):Prop:=z.length<=17/\32∉z.cps.toList/\PyData.strOk z=true
theorem Gj4(s:String)(h:(decide ((Str.ofString s).length<=17)&&decide (32∉(Str.ofString s).cps.toList))=true):Wg (Str.ofString s):=by
 rw[Bool.and_eq_true,decide_eq_true_eq,decide_eq_true_eq] at h
 exact⟨h.1,h.2,stok s⟩
theorem Gm9{i:Int}(h0:0<=i)(h1:i<=99):Wg (ts i):=⟨by have:=Ge8 h0 (by omega:i<=1000); omega,Gm3 32 ⟨by decide,by decide⟩,stok _⟩
theorem Gog(h:p.ok):∀ z∈pw p,Wg z:=fun z hz=>by
 obtain⟨d,hd,e⟩:=List.mem_filterMap.mp hz
 cases p with
 | e=>
  have:d=.str "end":=by simpa[its] using hd
  subst this
  cases (Option.some.inj e)
  exact Gj4 "end" (by decide +kernel)
 | c=>
  have:d=.str "chamber":=by simpa[its] using hd
  subst this
  cases (Option.some.inj e)
  exact Gj4 "chamber" (by decide +kernel)
 | p br de ro pr=>
  obtain⟨a1,a2,a3,a4,a5,a6,a7⟩:=h
  simp only[its,List.mem_cons,List.not_mem_nil,or_false] at hd
  rcases hd with rfl | rfl | rfl | rfl | rfl
  ·cases (Option.some.inj e); exact Gj4 "pound" (by decide +kernel)
  ·cases (Option.some.inj e); exact Gm9 (by omega) (by omega)
  ·cases (Option.some.inj e); exact Gm9 (by omega) (by omega)
  ·cases (Option.some.inj e); exact Gm9 (by omega) (by omega)
  ·rcases a7 with rfl | ⟨i,rfl,i0,i1⟩
   ·cases e
   ·cases (Option.some.inj e); exact Gm9 i0 i1
def tw(gs:List Str)(ps:List Pl):List Str:=(List.zipWith (fun g p=>g::pw p) gs ps).flatten
theorem Gf9{g:Str}(hg:gs[i]?=some g)(hp:ps[i]?=some p):tw (gs.take (i+1)) (ps.take (i+1))=tw (gs.take i) (ps.take i)++(g::pw p):=by
 unfold tw
 rw[List.take_add_one,List.take_add_one,hg,hp]
 have hl:(gs.take i).length=(ps.take i).length:=by
  have:=(List.getElem?_eq_some_iff.mp hg).1
  have:=(List.getElem?_eq_some_iff.mp hp).1
  rw[List.length_take,List.length_take]
  omega
 rw[List.zipWith_append hl]
 simp
def UDs(gs:List Str):Prop:=∀ g∈gs,g="up"\/g="down"
theorem Gvo{g:Str}(h:g="up"\/g="down"):Wg g:=by
 rcases h with rfl | rfl
 ·exact Gj4 "up" (by decide +kernel)
 ·exact Gj4 "down" (by decide +kernel)
theorem Gsv(gs:List Str)(ps:List Pl):(tw gs ps).length<=6*gs.length:=by
 unfold tw
 induction gs generalizing ps with
 | nil=>simp
 | cons g gs ih=>
  cases ps with
  | nil=>simp
  | cons p ps=>
   have:=ih ps
   have:=(Ga9 (p:=p)).2
   rw[List.zipWith_cons_cons,List.flatten_cons,List.length_append,List.length_cons,List.length_cons]
   omega
theorem Gvp(hg:UDs gs)(hp:∀ p∈ps,p.ok):∀ z∈tw gs ps,Wg z:=by
 unfold tw
 induction gs generalizing ps with
 | nil=>intro z hz; simp at hz
 | cons g gs ih=>
  cases ps with
  | nil=>intro z hz; simp at hz
  | cons p ps=>
   intro z hz
   rw[List.zipWith_cons_cons,List.flatten_cons,List.mem_append,List.mem_cons] at hz
   rcases hz with(rfl | hz) | hz
   ·exact Gvo (hg _ List.mem_cons_self)
   ·exact Gog (hp p List.mem_cons_self) z hz
   ·exact ih (fun g' h'=>hg g' (List.mem_cons_of_mem _ h')) (fun p' h'=>hp p' (List.mem_cons_of_mem _ h')) z hz
theorem Gna{m:List D}:zipAt l m k=(List.zipWith (fun a b=>D.tup [a,b]) l m)[k]?:=by
 rw[List.getElem?_zipWith]
 unfold zipAt
 cases l[k]?<;>cases m[k]?<;>rfl
def cnl(p0:Pl)(tl:List Pl)(gs:List Str):D:=.tup [.tup ((p0::tl).map Pl.toD),.tup (gs.map D.str)]
def words(p0:Pl)(tl:List Pl)(gs:List Str)(i:Nat):List Str:=pw p0++tw (gs.take i) (tl.take i)
theorem Yz(h:gs.length<=12):(words p0 tl gs i).length<=77:=by
 have:=(Ga9 (p:=p0)).2
 have:=Gsv (gs.take i) (tl.take i)
 rw[List.length_take] at this
 unfold words
 rw[List.length_append]
 omega
theorem Gj5(hp:∀ p∈p0::tl,p.ok)(hg:UDs gs):∀ z∈words p0 tl gs i,Wg z:=fun z hz=>by
 rcases List.mem_append.mp hz with hz | hz
 ·exact Gog (hp p0 List.mem_cons_self) z hz
 ·exact Gvp (fun g h=>hg g (List.mem_of_mem_take h)) (fun p h=>hp p (List.mem_cons_of_mem _ (List.mem_of_mem_take h))) z hz
theorem Gvq{a b:List D}(h1:S[i]?=some ⟨false,a⟩)(h2:S[j]?=some ⟨false,b⟩)(h:a.length+b.length<=1000000):Gg1 (.lst i) [.lst j] S=.ok .non (S.set i ⟨false,a++b⟩):=by
 show(match S[i]?,S[j]? with
  | some c,some e=>if(c.fz=false/\e.fz=false)/\c.xs.length+e.xs.length<=1000000 then Out.ok D.non (S.set i ⟨false,c.xs++e.xs⟩) else .bad
  | _,_=>.bad)=_
 rw[h1,h2]
 exact if_pos ⟨⟨rfl,rfl⟩,h⟩
theorem Gj6(hp:∀ p∈p0::tl,p.ok)(hg:UDs gs)(hl:gs.length=tl.length)(h12:gs.length<=12):
  ∃ S',Vv [cnl p0 tl gs] S=.ok (.str (Txt.join " " (words p0 tl gs gs.length))) S'/\Ex S S':=by
 obtain⟨S1,e1,q1,x1⟩:=Gcg (p:=p0) (S:=S) (hp p0 List.mem_cons_self)
 have wl:=fun i=>Yz (p0:=p0) (tl:=tl) (i:=i) h12
 have zl:(List.zipWith (fun a b=>D.tup [a,b]) (gs.map D.str) (tl.map Pl.toD)).length=gs.length:=by simp[hl]
 obtain⟨ρ2,S2,ef,y4,y5,eρ,q2,x2⟩:=Km (nxt:=fun k _=>zipAt (gs.map D.str) (tl.map Pl.toD) k) (g:=gt (gcons (gn 4) (gcons (gn 5) gnil)) 2) (b:=Qf) (l:=List.zipWith (fun a b=>D.tup [a,b]) (gs.map D.str) (tl.map Pl.toD))
  (fun i ρ S'=>∃ y4 y5,ρ=[some (cnl p0 tl gs),some (.tup ((p0::tl).map Pl.toD)),some (.tup (gs.map D.str)),some (.lst S.length),y4,y5]/\S'[S.length]?=some ⟨false,(words p0 tl gs i).map D.str⟩/\Ex S S')
  (fun _ _ _ _=>Gna) (fun i d ρ S' hd ⟨y4,y5,h1,h2,h3⟩=>by
   subst h1
   have hi:i<gs.length:=by have:=(List.getElem?_eq_some_iff.mp hd).1; omega
   obtain⟨g,eg⟩:∃ g,gs[i]?=some g:=⟨_,List.getElem?_eq_getElem hi⟩
   obtain⟨p,ep⟩:∃ p,tl[i]?=some p:=⟨_,List.getElem?_eq_getElem (by omega)⟩
   have ed:d=.tup [.str g,p.toD]:=by
    rw[List.getElem?_zipWith,List.getElem?_map,List.getElem?_map,eg,ep] at hd
    exact(Option.some.inj hd).symm
   subst ed
   have w1:=wl i
   have pk:=hp p (List.mem_cons_of_mem _ (List.mem_of_getElem? ep))
   have a1:=Gce (d:=.str g) h2 (by rw[List.length_map]; omega)
   have i1:=isL h2
   have lq:S.length<S'.length:=(List.getElem?_eq_some_iff.mp h2).1
   have h4:(S'.set S.length ⟨false,(words p0 tl gs i).map D.str++[.str g]⟩)[S.length]?=some ⟨false,(words p0 tl gs i).map D.str++[.str g]⟩:=List.getElem?_set_self lq
   have x4:Ex S (S'.set S.length ⟨false,(words p0 tl gs i).map D.str++[.str g]⟩):=h3.setq (Nat.le_refl _)
   generalize S'.set S.length ⟨false,(words p0 tl gs i).map D.str++[.str g]⟩=S4 at *
   obtain⟨S5,e5,q5,x5⟩:=Gcg (p:=p) (S:=S4) pk
   have h5:=x5.at h4
   have i5:=isL h4
   have pl:=(Ga9 (p:=p)).2
   have a5:=Gvq h5 q5 (by simp; omega)
   have lq5:S.length<S5.length:=(List.getElem?_eq_some_iff.mp h5).1
   refine⟨[some (cnl p0 tl gs),some (.tup ((p0::tl).map Pl.toD)),some (.tup (gs.map D.str)),some (.lst S.length),some (.str g),some p.toD],[some (cnl p0 tl gs),some (.tup ((p0::tl).map Pl.toD)),some (.tup (gs.map D.str)),some (.lst S.length),some (.str g),some p.toD],S5.set S.length ⟨false,((words p0 tl gs i).map D.str++[.str g])++(pw p).map D.str⟩,rfl,?_,some (.str g),some p.toD,rfl,?_,(x4.trans x5).setq (Nat.le_refl _)⟩
   ·generalize p.toD=pd at *
    generalize cnl p0 tl gs=cd at *
    generalize (p0::tl).map Pl.toD=pds at *
    unfold Qf
    refine(Uf (ρ':=[some cd,some (.tup pds),some (.tup (gs.map D.str)),some (.lst S.length),some (.str g),some pd]) (S1:=S4) (by simp[i1,a1])).trans ?_
    simp[i5,e5,a5]
   ·rw[List.getElem?_set_self lq5]
    unfold words
    rw[Gf9 eg ep]
    simp) (gs.length+1) 0 [some (cnl p0 tl gs),some (.tup ((p0::tl).map Pl.toD)),some (.tup (gs.map D.str)),some (.lst S.length),none,none] S1 (Nat.zero_le _) ⟨none,none,rfl,by simpa[words,tw] using q1,x1⟩ (by omega)
 subst eρ
 rw[zl] at q2
 have jl:=Gj1 q2 (fun z hz=>(Gj5 hp hg z hz).1) (by have:=wl gs.length; omega)
 refine⟨S2,?_,x2⟩
 have gp:∀ S:Sto,DL.getD (.tup ((p0::tl).map Pl.toD)) (.int 0) S=.ok p0.toD S:=fun S=>g0
 have sl:∀ S:Sto,Gev (.tup ((p0::tl).map Pl.toD)) (some 1) none S=.ok (.tup (tl.map Pl.toD)) S:=fun S=>Gjx
 refine(Hm (m:=6) (b:=Kd)).trans ?_
 show fin (Kd [some (cnl p0 tl gs),none,none,none,none,none] S)=_
 unfold Kd
 refine(Go (ρ':=[some (cnl p0 tl gs),some (.tup ((p0::tl).map Pl.toD)),some (.tup (gs.map D.str)),none,none,none]) (S':=S) (by simp[gt,gcons,gnil,cnl])).trans ?_
 generalize cnl p0 tl gs=cd at *
 generalize (p0::tl).map Pl.toD=pds at *
 generalize p0.toD=pd at *
 refine(Go (ρ':=[some cd,some (.tup pds),some (.tup (gs.map D.str)),some (.lst S.length),none,none]) (S':=S1) (by simp[gp,e1])).trans ?_
 refine(Go (ρ':=[some cd,some (.tup pds),some (.tup (gs.map D.str)),some (.lst S.length),y4,y5]) (S':=S2) ?_).trans ?_
 ·have ei:izip (ac (vr 2) (ac (sl2 (vr 1) (osome (cn (.int 1))) onone) an)) [some cd,some (.tup pds),some (.tup (gs.map D.str)),some (.lst S.length),none,none] S1=.ok ⟨fun k _=>zipAt (gs.map D.str) (tl.map Pl.toD) k,gs.length+1⟩ S1:=by
   simp[izip,sl]
  rw[Kx,ei]
  exact ef
 ·simp[mts,isStr,jl,fin]
def Gbx(p0:Pl)(tl:List Pl)(gs:List Str):Nat->List Str
 | 0=>[]
 | i+1=>words p0 tl gs i
theorem Gj7(h:gs.length<=12):(Gbx p0 tl gs i).length<=77:=by
 cases i with
 | zero=>simp[Gbx]
 | succ i=>exact Yz h
theorem Gj8{y2 y3:Option D}{S0:Sto}(hp:∀ p∈p0::tl,p.ok)(h12:gs.length<=12)(hl:gs.length=tl.length)(ep:(p0::tl)[i]?=some p)(hq:S[q]?=some ⟨false,(Gbx p0 tl gs i).map D.str⟩)(hx:Ex S0 S)(h0:S0.length<=q):
  ∃ q' S',Jx [some (cnl p0 tl gs),some (.lst q),some (.int i),some p.toD] S=.nx [some (cnl p0 tl gs),some (.lst q'),some (.int i),some p.toD] S'/\S'[q']?=some ⟨false,(Gbx p0 tl gs (i+1)).map D.str⟩/\Ex S0 S'/\S0.length<=q':=by
 have pk:=hp p (List.mem_of_getElem? ep)
 have wl:=Gj7 (p0:=p0) (tl:=tl) (i:=i) h12
 have pl:=(Ga9 (p:=p)).2
 obtain⟨S1,pre,e1,q1,x1,lpre,hpre⟩:∃ (S1:Sto) (pre:List Str),sif (tb (o2 gtD (vr 2) (cn (.int 0)))) (sx (mt Xr (vr 1) (ac (o2 DL.getD (o2 DL.getD (vr 0) (cn (.int 1))) (o2 Gcw (vr 2) (cn (.int 1)))) an))) DL.skip [some (cnl p0 tl gs),some (.lst q),some (.int i),some p.toD] S=.nx [some (cnl p0 tl gs),some (.lst q),some (.int i),some p.toD] S1/\S1[q]?=some ⟨false,pre.map D.str⟩/\Ex S0 S1/\pre.length<=78/\Gbx p0 tl gs (i+1)=pre++pw p:=by
  cases i with
  | zero=>
   have:p0=p:=by simpa using ep
   subst this
   exact⟨S,[],by simp,hq,hx,by simp,by simp[Gbx,words,tw]⟩
  | succ j=>
   have ep':tl[j]?=some p:=by simpa using ep
   have hj:j<gs.length:=by have:=(List.getElem?_eq_some_iff.mp ep').1; omega
   obtain⟨g,eg⟩:∃ g,gs[j]?=some g:=⟨_,List.getElem?_eq_getElem hj⟩
   have gg:∀ S:Sto,DL.getD (.tup (gs.map D.str)) (.int (((j+1:Nat):Int)-1)) S=.ok (.str g) S:=fun S=>Gf3 (Kl (by omega) (by rw[show(((j+1:Nat):Int)-1).toNat=j by omega,List.getElem?_map,eg]; rfl))
   have c1:∀ S:Sto,DL.getD (cnl p0 tl gs) (.int 1) S=.ok (.tup (gs.map D.str)) S:=fun S=>g1
   have a1:=Gce (d:=.str g) hq (by rw[List.length_map]; omega)
   have i1:=isL hq
   have lq:q<S.length:=(List.getElem?_eq_some_iff.mp hq).1
   refine⟨S.set q ⟨false,(Gbx p0 tl gs (j+1)).map D.str++[.str g]⟩,Gbx p0 tl gs (j+1)++[g],?_,?_,hx.setq h0,by simp; omega,?_⟩
   ·generalize cnl p0 tl gs=cd at *
    generalize p.toD=pd at *
    have hgt:(0:Int)<((j+1:Nat):Int):=by omega
    refine(Ue (S1:=S) (by simp only[Gf2,Yj,Zm,Gcd,List.getElem?_cons_zero,List.getElem?_cons_succ,Gy,Gvi,decide_eq_true hgt])).trans ?_
    simp only[Gvf,Gvd,Yi,Zn,Yj,Zm,Gcd,List.getElem?_cons_zero,List.getElem?_cons_succ,Gy,i1,if_true,c1,Gjp,gg,a1,Hi]
   ·rw[List.getElem?_set_self lq]; simp
   ·show words p0 tl gs (j+1)=_
    unfold Gbx words
    rw[Gf9 eg ep']
    simp
 rw[Gfc] at e1
 rw[Gfc]
 obtain⟨S2,e2,q2,x2⟩:=Gj3 (l:=its p) (f:=vr 3) (ρ:=[some (cnl p0 tl gs),some (.lst q),some (.int i),some (.tup (its p))]) (S:=S1) (by simp) (its_ok pk).1 (its_ok pk).2
 have q1':=x2.at q1
 have q2:S2[S1.length]?=some ⟨false,(pw p).map D.str⟩:=q2
 have ad:=Xv q1' q2 (by simp; omega)
 refine⟨S2.length,S2++[⟨false,pre.map D.str++(pw p).map D.str⟩],?_,?_,(x1.trans x2).trans Ex.app,?_⟩
 ·unfold Jx
  refine(Uf e1).trans ?_
  rw[Gd9,Yj]
  simp only[Zm,List.getElem?_cons_zero,List.getElem?_cons_succ,Gy]
  rw[e2,Gy]
  rw[ad]
  rfl
 ·rw[Gv,hpre,List.map_append]
 ·have:=(x1.trans x2).len
  exact this
theorem Ghf(hp:∀ p∈p0::tl,p.ok)(hl:gs.length=tl.length)(h12:gs.length<=12):
  ∃ q S',Wa [cnl p0 tl gs] S=.ok (.lst q) S'/\S'[q]?=some ⟨false,(words p0 tl gs gs.length).map D.str⟩/\Ex S S':=by
 have c0:∀ S:Sto,DL.getD (cnl p0 tl gs) (.int 0) S=.ok (.tup ((p0::tl).map Pl.toD)) S:=fun S=>g0
 have ml:(((p0::tl).map Pl.toD).mapIdx fun k d=>D.tup [.int k,d]).length=gs.length+1:=by simp[hl]
 obtain⟨ρ2,S2,ef,q,y2,y3,eρ,q2,x2,_⟩:=Km (nxt:=fun k _=>(((p0::tl).map Pl.toD)[k]?).map fun d=>D.tup [.int k,d]) (g:=gt (gcons (gn 2) (gcons (gn 3) gnil)) 2) (b:=Jx) (l:=((p0::tl).map Pl.toD).mapIdx fun k d=>D.tup [.int k,d])
  (fun i ρ S'=>∃ q y2 y3,ρ=[some (cnl p0 tl gs),some (.lst q),y2,y3]/\S'[q]?=some ⟨false,(Gbx p0 tl gs i).map D.str⟩/\Ex S S'/\S.length<=q)
  (fun k _ _ _=>by show((((p0::tl).map Pl.toD)[k]?).map fun d=>D.tup [.int k,d])=_; rw[List.getElem?_mapIdx]) (fun i d ρ S' hd ⟨q,y2,y3,h1,h2,h3,h4⟩=>by
   subst h1
   rw[List.getElem?_mapIdx,List.getElem?_map] at hd
   obtain⟨p,ep,ed⟩:∃ p,(p0::tl)[i]?=some p/\d=.tup [.int i,p.toD]:=by
    cases z:(p0::tl)[i]? with
    | none=>rw[z] at hd; cases hd
    | some p=>rw[z] at hd; exact⟨p,rfl,(Option.some.inj hd).symm⟩
   subst ed
   obtain⟨q',S'',c1,c2,c3,c4⟩:=Gj8 (S0:=S) (y2:=y2) (y3:=y3) hp h12 hl ep h2 h3 h4
   exact⟨_,_,S'',rfl,c1,q',_,_,rfl,c2,c3,c4⟩) (((p0::tl).map Pl.toD).length+1) 0 [some (cnl p0 tl gs),some (.lst S.length),none,none] (S++[⟨false,[]⟩]) (Nat.zero_le _) ⟨S.length,none,none,rfl,Gv,Ex.app,Nat.le_refl _⟩ (by simp)
 subst eρ
 rw[ml] at q2
 refine⟨q,S2,?_,q2,x2⟩
 refine(Hm (m:=4) (b:=Kg)).trans ?_
 show fin (Kg [some (cnl p0 tl gs),none,none,none] S)=_
 unfold Kg
 generalize cnl p0 tl gs=cd at *
 refine(Go (ρ':=[some cd,some (.lst S.length),none,none]) (S':=S++[⟨false,[]⟩]) (by simp)).trans ?_
 refine(Go (ρ':=[some cd,some (.lst q),y2,y3]) (S':=S2) ?_).trans ?_
 ·have ei:ienumerate (ac (o2 DL.getD (vr 0) (cn (.int 0))) an) [some cd,some (.lst S.length),none,none] (S++[⟨false,[]⟩])=.ok ⟨fun k _=>(((p0::tl).map Pl.toD)[k]?).map fun d=>D.tup [.int k,d],((p0::tl).map Pl.toD).length+1⟩ (S++[⟨false,[]⟩]):=by
   show(ac (o2 DL.getD (vr 0) (cn (.int 0))) an [some cd,some (.lst S.length),none,none] (S++[⟨false,[]⟩])).bind _=_
   simp only[Yi,Zn,Yj,Zm,Gcd,List.getElem?_cons_zero,Gy,c0]
  rw[Kx,ei]
  exact ef
 ·simp[fin]
theorem Gsw{a b:Char}(h:a.toNat=b.toNat):a=b:=by
 have:=congrArg Char.ofNat h
 rwa [Char.ofNat_toNat,Char.ofNat_toNat] at this
theorem Gj9:∀ {a b:List Char},a.map Char.toNat=b.map Char.toNat->a=b
 | [],[],_=>rfl
 | [],_::_,h=>by simp at h
 | _::_,[],h=>by simp at h
 | x::a,y::b,h=>by
  rw[List.map_cons,List.map_cons] at h
  obtain⟨h1,h2⟩:=List.cons.inj h
  rw[Gsw h1,Gj9 h2]
theorem Gka{s t:String}(h:Str.ofString s=Str.ofString t):s=t:=by
 rw[Str.ofString_eq_toList,Str.ofString_eq_toList] at h
 have h1:(s.toList.map Char.toNat).toArray=(t.toList.map Char.toNat).toArray:=congrArg Str.cps h
 have h2:=Gj9 (congrArg Array.toList h1)
 exact String.toList_inj.mp h2
theorem Gsx{s t:String}:(Str.ofString s==Str.ofString t)=decide (s=t):=by
 by_cases c:s=t
 ·subst c; simp
 ·rw[decide_eq_false c]
  exact beq_eq_false_iff_ne.mpr fun h=>c (Gka h)
theorem Um{s t:String}:(Str.ofString s=Str.ofString t)=(s=t):=propext ⟨Gka,fun h=>by rw[h]⟩
theorem ell{s t:String}:eqD (.str (Str.ofString s)) (.str (Str.ofString t)) S=.ok (.bl (decide (s=t))) S:=by
 rw[Yk (stok s) (stok t),Gsx]
inductive Q where
 | place | brim | deep | room | price | gate | over
def Q.s:Q->Str
 | .place=>"place"
 | .brim=>"brim"
 | .deep=>"deep"
 | .room=>"room"
 | .price=>"price"
 | .gate=>"gate"
 | .over=>"over"
structure St where
 q:Q
 n:Nat
 l:Str
 b:Int
def St.toD(s:St):D:=.tup [.str s.q.s,.int s.n,.str s.l,.int s.b]
def step(s:St)(z:Str):Option St:=match s.q with
 | .place=>if s.n=0 then(if z="end" then some ⟨.gate,1,"end",0⟩ else none)
  else if z="end" then(if s.l="chamber"/\1<s.n then some ⟨.over,s.n+1,"end",0⟩ else none)
  else if z="chamber" then(if s.n<12 then some ⟨.gate,s.n+1,"chamber",0⟩ else none)
  else if z="pound"/\s.l="chamber"/\s.n<11 then some ⟨.brim,s.n+1,"pound",0⟩ else none
 | .brim=>(nm z 1 9).map fun v=>⟨.deep,s.n,s.l,v⟩
 | .deep=>(nm z 0 s.b).map fun _=>⟨.room,s.n,s.l,0⟩
 | .room=>(nm z 1 4).map fun _=>⟨.price,s.n,s.l,0⟩
 | .over=>none
 | .gate=>if z="up"\/z="down" then some ⟨.place,s.n,s.l,0⟩ else none
 | .price=>if z="up"\/z="down" then some ⟨.place,s.n,s.l,0⟩ else(nm z 0 99).map fun _=>⟨.gate,s.n,s.l,0⟩
def so:Option St->D
 | none=>.non
 | some s=>s.toD
structure SOk(s:St):Prop where
 l:Wz s.l
 b0:0<=s.b
 b1:s.b<=99
theorem Gnb{s s':St}(h:SOk s)(e:step s z=some s'):SOk s':=by
 have w:∀ n (q:Q),SOk ⟨q,n,"end",0⟩/\SOk ⟨q,n,"chamber",0⟩/\SOk ⟨q,n,"pound",0⟩:=fun n q=>⟨⟨Gm4 "end" (by decide +kernel),Int.le_refl _,(by decide:(0:Int)<=99)⟩,⟨Gm4 "chamber" (by decide +kernel),Int.le_refl _,(by decide:(0:Int)<=99)⟩,Gm4 "pound" (by decide +kernel),Int.le_refl _,(by decide:(0:Int)<=99)⟩
 have k:∀ (q:Q),SOk ⟨q,s.n,s.l,0⟩:=fun q=>⟨h.l,Int.le_refl _,(by decide:(0:Int)<=99)⟩
 unfold step at e
 cases hq:s.q<;>rw[hq] at e<;>simp only at e
 ·split at e
  ·split at e
   ·cases e; exact(w _ _).1
   ·cases e
  ·split at e
   ·split at e
    ·cases e; exact(w _ _).1
    ·cases e
   ·split at e
    ·split at e
     ·cases e; exact(w _ _).2.1
     ·cases e
    ·split at e
     ·cases e; exact(w _ _).2.2
     ·cases e
 ·cases hn:nm z 1 9 with
  | none=>rw[hn] at e; cases e
  | some v=>
   rw[hn] at e
   cases e
   obtain⟨_,a,b⟩:=Xl hn
   exact⟨h.l,show 0<=v by omega,show v<=99 by omega⟩
 ·cases hn:nm z 0 s.b with
  | none=>rw[hn] at e; cases e
  | some v=>rw[hn] at e; cases e; exact k _
 ·cases hn:nm z 1 4 with
  | none=>rw[hn] at e; cases e
  | some v=>rw[hn] at e; cases e; exact k _
 ·split at e
  ·cases e; exact k _
  ·cases hn:nm z 0 99 with
   | none=>rw[hn] at e; cases e
   | some v=>rw[hn] at e; cases e; exact k _
 ·split at e
  ·cases e; exact k _
  ·cases e
 ·cases e
theorem Gvr(hz:Wz z):inD (.str z) (.lst S.length) (S++[⟨false,[.str "up",.str "down"]⟩])=.ok (.bl (decide (z="up"\/z="down"))) (S++[⟨false,[.str "up",.str "down"]⟩]):=by
 show Git false _ _ _=_
 have hi:Gag (.lst S.length) (S++[⟨false,[.str "up",.str "down"]⟩])=some [.str "up",.str "down"]:=by
  show((S++[⟨false,[.str "up",.str "down"]⟩])[S.length]?).map (·.xs)=_
  rw[Gv]; rfl
 unfold Git
 rw[hi]
 have e:memD (.str z) [.str "up",.str "down"]=decide (z="up"\/z="down"):=by
  show((Str.ofString "up"==z)||((Str.ofString "down"==z)||false))=_
  by_cases c1:z="up"
  ·simp[c1]
  ·by_cases c2:z="down"
   ·simp[c2]
   ·have d1:(Str.ofString "up"==z)=false:=beq_eq_false_iff_ne.mpr fun h=>c1 h.symm
    have d2:(Str.ofString "down"==z)=false:=beq_eq_false_iff_ne.mpr fun h=>c2 h.symm
    simp[c1,c2,d1,d2]
 simp[Gaf,e]
abbrev rk9(w a:Nat)(s:St)(z:Str)(x8:Option D):Lc:=[some (.lst w),some (.int a),some s.toD,some (.str s.q.s),some (.int s.n),some (.str s.l),some (.int s.b),some (.str z),x8]
theorem Gsy{w a:Nat}{W:List Str}{s:St}(hw:S[w]?=some ⟨false,W.map D.str⟩)(ha:W[a]?=some z)(hz:Wz z)(hs:SOk s):∃ S',Uc [.lst w,.int a,s.toD] S=.ok (so (step s z)) S'/\Ex S S':=by
 have gg:DL.getD (.lst w) (.int a) S=.ok (.str z) S:=Qk hw (Kl (by omega) (by rw[Int.toNat_natCast,List.getElem?_map,ha]; rfl))
 have ez:∀ (t:String) (S:Sto),eqD (.str z) (.str (Str.ofString t)) S=.ok (.bl (decide (z=Str.ofString t))) S:=fun t S=>by rw[Yk hz.ok (stok t)]; by_cases c:z=Str.ofString t<;>simp[c]
 have el:∀ (t:String) (S:Sto),eqD (.str s.l) (.str (Str.ofString t)) S=.ok (.bl (decide (s.l=Str.ofString t))) S:=fun t S=>by rw[Yk hs.l.ok (stok t)]; by_cases c:s.l=Str.ofString t<;>simp[c]
 have E:=((Hm (m:=9) (b:=Wc) (ds:=[.lst w,.int a,s.toD]) (S:=S)).trans (Go (ρ':=[some (.lst w),some (.int a),some s.toD,some (.str s.q.s),some (.int s.n),some (.str s.l),some (.int s.b),none,none]) (S':=S) rfl)).trans (Go (ρ':=rk9 w a s z none) (S':=S) (by simp[gg]))
 have isn:∀ (v:Int) (S:Sto),Wo (.int v) .non S=.ok (.bl false) S:=fun _ _=>rfl
 have isnn:∀ (S:Sto),Wo .non .non S=.ok (.bl true) S:=fun _=>rfl
 have nin:∀ (v:Int) (S:Sto),Qj (.int v) .non S=.ok (.bl true) S:=fun _ _=>rfl
 have ninn:∀ (S:Sto),Qj .non .non S=.ok (.bl false) S:=fun _=>rfl
 have num:∀ {lo hi:Int} (S:Sto),0<=lo->hi<=99 -> -1<=hi->lo<=99->Jh [.str z,.int lo,.int hi] S=.ok (od (nm z lo hi)) S:=fun S a b c d=>lnum hz a b c d
 have iu:=fun S=>Gvr (S:=S) hz
 obtain⟨sq',sn,sl,sb⟩:=s
 show ∃ S',fnB 9 Wc _ S=_/\_
 rw[E]
 clear E
 unfold step
 simp only[St.q,St.n,St.l,St.b] at *
 cases sq' with
 | place=>
  refine⟨S,?_,.refl⟩
  by_cases c0:sn=0
  ·subst c0
   by_cases c1:z="end"
   ·simp[ell,ez,c1,so,St.toD,Q.s,Um,fin]
   ·simp[ell,ez,c1,so,Q.s,fin]
  ·have c0':¬ (sn:Int)=0:=by omega
   by_cases c1:z="end"
   ·by_cases c2:sl="chamber"
    ·by_cases c3:1<sn
     ·have c3':(1:Int)<sn:=by omega
      simp[ell,ez,el,c0,c0',c1,c2,c3,c3',so,St.toD,Q.s,fin]
     ·have c3':¬ (1:Int)<sn:=by omega
      simp[ell,ez,el,c0,c0',c1,c2,c3,c3',so,Q.s,fin]
    ·simp[ell,ez,el,c0,c0',c1,c2,so,Q.s,fin]
   ·by_cases c2:z="chamber"
    ·by_cases c3:sn<12
     ·have c3':(sn:Int)<12:=by omega
      simp[ell,ez,el,c0,c0',c2,c3,c3',so,St.toD,Q.s,Um,fin]
     ·have c3':¬ (sn:Int)<12:=by omega
      simp[ell,ez,el,c0,c0',c2,c3,c3',so,Q.s,Um,fin]
    ·by_cases c3:z="pound"
     ·by_cases c4:sl="chamber"
      ·by_cases c5:sn<11
       ·have c5':(sn:Int)<11:=by omega
        simp[ell,ez,el,c0,c0',c3,c4,c5,c5',so,St.toD,Q.s,Um,fin]
       ·have c5':¬ (sn:Int)<11:=by omega
        simp[ell,ez,el,c0,c0',c3,c4,c5,c5',so,Q.s,Um,fin]
      ·simp[ell,ez,el,c0,c0',c3,c4,so,Q.s,Um,fin]
     ·simp[ell,ez,el,c0,c0',c1,c2,c3,so,Q.s,fin]
 | brim=>
  refine⟨S,?_,.refl⟩
  have e:=num (lo:=1) (hi:=9) S (by decide) (by decide) (by decide) (by decide)
  cases hn:nm z 1 9 with
  | none=>rw[hn] at e; simp[ell,Q.s,e,od,isnn,so,fin]
  | some v=>rw[hn] at e; simp[ell,Q.s,e,od,isn,so,St.toD,fin]
 | deep=>
  refine⟨S,?_,.refl⟩
  have e:=num (lo:=0) (hi:=sb) S (by decide) hs.b1 (by have:0<=sb:=hs.b0; omega) (by decide)
  cases hn:nm z 0 sb with
  | none=>rw[hn] at e; simp[ell,Q.s,e,od,isnn,so,fin]
  | some v=>rw[hn] at e; simp[ell,Q.s,e,od,isn,so,St.toD,fin]
 | room=>
  refine⟨S,?_,.refl⟩
  have e:=num (lo:=1) (hi:=4) S (by decide) (by decide) (by decide) (by decide)
  cases hn:nm z 1 4 with
  | none=>rw[hn] at e; simp[ell,Q.s,e,od,isnn,so,fin]
  | some v=>rw[hn] at e; simp[ell,Q.s,e,od,isn,so,St.toD,fin]
 | over=>exact⟨S,by simp[ell,Q.s,so,fin],.refl⟩
 | gate=>
  refine⟨S++[⟨false,[.str "up",.str "down"]⟩],?_,Ex.app⟩
  by_cases c:z="up"\/z="down"
  ·simp[ell,Q.s,iu,c,so,St.toD,fin]
  ·simp[ell,Q.s,iu,c,so,fin]
 | price=>
  refine⟨S++[⟨false,[.str "up",.str "down"]⟩],?_,Ex.app⟩
  by_cases c:z="up"\/z="down"
  ·simp[ell,Q.s,iu,c,so,St.toD,fin]
  ·have e:=num (lo:=0) (hi:=99) (S++[⟨false,[.str "up",.str "down"]⟩]) (by decide) (by decide) (by decide) (by decide)
   cases hn:nm z 0 99 with
   | none=>rw[hn] at e; simp[ell,Q.s,iu,c,e,od,ninn,so,fin]
   | some v=>rw[hn] at e; simp[ell,Q.s,iu,c,e,od,nin,so,St.toD,fin]
def wr(s:St):List Str->Nat->Option Nat
 | [],i=>match s.q with
  | .over=>none
  | _=>some i
 | z::r,i=>match step s z with
  | none=>some i
  | some s'=>wr s' r (i+1)
def on:Option Nat->D
 | none=>.non
 | some i=>.int i
theorem Qt{α:Type}{W:List α}{a:Nat}{z:α}{r:List α}(h:W.drop a=z::r):W[a]?=some z/\W.drop (a+1)=r/\a<W.length:=by
 have h0:(W.drop a)[0]?=some z:=by rw[h]; rfl
 rw[List.getElem?_drop,Nat.add_zero] at h0
 refine⟨h0,?_,(List.getElem?_eq_some_iff.mp h0).1⟩
 rw[<- List.drop_drop,h]
 rfl
theorem Wh{c:Cell}(e:S[q]?=some c):lenD [.lst q] S=.ok (.int c.xs.length) S:=by simp[lenD,e]
section
variable{w:Nat}{W:List Str}
theorem Ghg{nxt:Nat->Sto->Option D}{g:Tg}{ρ1 ρ2:Lc}{S2:Sto}{d:D}(h:nxt k S=some d)(h2:g d ρ=some ρ1)(h3:b ρ1 S=.nx ρ2 S2):Qd nxt g b (n+1) k ρ S=Qd nxt g b n (k+1) ρ2 S2:=by
 conv=>lhs; unfold Qd
 simp only[h,h2,h3]
theorem Ghh{nxt:Nat->Sto->Option D}{g:Tg}(h:nxt k S=none):Qd nxt g b (n+1) k ρ S=.nx ρ S:=by
 conv=>lhs; unfold Qd
 simp only[h]
theorem Gga(hW:∀ z∈W,Wz z):∀ (r:List Str) (k n:Nat) (s:St) (S:Sto) (x2:Option D),SOk s->W.drop k=r->k<=W.length->r.length<n->S[w]?=some ⟨false,W.map D.str⟩→
  ∃ S',Ex S S'/\((∃ i,wr s r k=some i/\Qd (rsrc 0 W.length).nxt (gn 2) Ja n k [some (.lst w),some s.toD,x2] S=.rt (.int i) S')∨
   ∃ s' y2,wr s r k=wr s' [] W.length/\Qd (rsrc 0 W.length).nxt (gn 2) Ja n k [some (.lst w),some s.toD,x2] S=.nx [some (.lst w),some s'.toD,y2] S')
 | [],k,n,s,S,x2,hs,hd,hk,hn,hw=>by
  obtain⟨n,rfl⟩:∃ m,n=m+1:=⟨n-1,by omega⟩
  have e:k=W.length:=by
   have:=congrArg List.length hd
   rw[List.length_drop] at this
   simp at this
   omega
  subst e
  exact⟨S,.refl,.inr ⟨s,x2,rfl,Ghh (by rw[Wf,List.getElem?_eq_none (by simp)])⟩⟩
 | z::r,k,n,s,S,x2,hs,hd,hk,hn,hw=>by
  obtain⟨n,rfl⟩:∃ m,n=m+1:=⟨n-1,by omega⟩
  obtain⟨ha,hd',hl⟩:=Qt hd
  obtain⟨S1,e1,x1⟩:=Gsy hw ha (hW z (List.mem_of_getElem? ha)) hs
  have nx:(rsrc 0 W.length).nxt k S=some (.int k):=by rw[Wf,List.getElem?_map,List.getElem?_range hl]; rfl
  have isn:∀ (s:St) (S:Sto),Wo s.toD .non S=.ok (.bl false) S:=fun _ _=>rfl
  have isnn:∀ (S:Sto),Wo .non .non S=.ok (.bl true) S:=fun _=>rfl
  cases hst:step s z with
  | none=>
   rw[hst] at e1
   have e1:Uc [.lst w,.int k,s.toD] S=.ok .non S1:=e1
   refine⟨S1,x1,.inl ⟨k,by simp[wr,hst],?_⟩⟩
   conv=>lhs; unfold Qd
   simp only[nx]
   simp[Ja,e1,isnn]
  | some s'=>
   rw[hst] at e1
   have e1:Uc [.lst w,.int k,s.toD] S=.ok s'.toD S1:=e1
   have b:Ja [some (.lst w),some s.toD,some (.int k)] S=.nx [some (.lst w),some s'.toD,some (.int k)] S1:=by
    simp[Ja,e1,isn]
   have st:=Ghg (g:=gn 2) (n:=n) (ρ:=[some (.lst w),some s.toD,x2]) nx rfl b
   have hwr:wr s (z::r) k=wr s' r (k+1):=by simp[wr,hst]
   obtain⟨S',x',h⟩:=Gga hW r (k+1) n s' S1 (some (.int k)) (Gnb hs hst) hd' hl (by simp at hn; omega) (x1.at hw)
   refine⟨S',x1.trans x',?_⟩
   rw[st,hwr]
   rcases h with⟨i,a,b⟩ | ⟨s2,y2,a,b⟩
   ·exact .inl ⟨i,a,b⟩
   ·exact .inr ⟨s2,y2,a,b⟩
def s0:St:=⟨.place,0,"",0⟩
theorem Gkb(hW:∀ z∈W,Wz z)(hl:W.length<=20001)(hw:S[w]?=some ⟨false,W.map D.str⟩):∃ S',Wd [.lst w] S=.ok (on (wr s0 W 0)) S'/\Ex S S':=by
 have k0:SOk s0:=⟨Gm4 "" (by decide +kernel),Int.le_refl _,(by decide:(0:Int)<=99)⟩
 obtain⟨S',x,h⟩:=Gga (w:=w) hW W 0 (W.length+1) s0 S none k0 rfl (Nat.zero_le _) (by omega) hw
 have E:=(Hm (m:=3) (b:=Qr) (ds:=[.lst w]) (S:=S)).trans (Go (ρ':=[some (.lst w),some s0.toD,none]) (S':=S) rfl)
 refine⟨S',?_,x⟩
 show fnB 3 Qr _ S=_
 rw[E]
 have ln:ir1 (ac (b1 lenD (ac (vr 0) an)) an) [some (.lst w),some s0.toD,none] S=.ok (rsrc 0 W.length) S:=Yy (by simp[Wh hw]) (by omega)
 rcases h with⟨i,a,b⟩ | ⟨s',y2,a,b⟩
 ·rw[a]
  exact Jn (by rw[Kx,ln,Hi]; exact b)
 ·rw[a]
  refine(Go (by rw[Kx,ln,Hi]; exact b)).trans ?_
  have gs:DL.getD s'.toD (.int 0) S'=.ok (.str s'.q.s) S':=Gf3 (Kl (by decide) rfl)
  have l':=Wh (x.at hw)
  rw[List.length_map] at l'
  cases hq:s'.q<;>rw[hq] at gs<;>simp[gs,ell,Q.s,l',wr,hq,on]
end
theorem Ggb:("NoText":Str)∈ys:=by decide +kernel
theorem Xh{f:Fn}{ds:List D}{d:D}(h:f ds S=.ok d S'):gX ys f ds S=.ok d S':=by simp only[gX,h]
theorem Uo{f:Fn}{ds:List D}(h:f ds S=.exc ⟨"NoText",some (j:Int)⟩ S'):gX ys f ds S=.exc ⟨"NoText",some (j:Int)⟩ S':=by simp only[gX,h,if_pos Ggb]
abbrev NT(j:Nat)(S:Sto):Out D:=.exc ⟨"NoText",some (j:Int)⟩ S
section
variable{w a:Nat}{W r:List Str}{S:Sto}
theorem Gba(hd:W.drop a=[])(ha:a<=W.length):a=W.length:=by
 have:=congrArg List.length hd
 rw[List.length_drop] at this
 simp at this
 omega
theorem wat(hw:S[w]?=some ⟨false,W.map D.str⟩)(h:W[a]?=some z):Qx [.lst w,.int a] S=.ok (.str z) S:=by
 have hl:a<W.length:=(List.getElem?_eq_some_iff.mp h).1
 have ln:=Wh hw
 rw[List.length_map] at ln
 have gg:DL.getD (.lst w) (.int a) S=.ok (.str z) S:=Qk hw (Kl (by omega) (by rw[Int.toNat_natCast,List.getElem?_map,h]; rfl))
 have hne:¬ (a:Int)=(W.length:Int):=by omega
 show fnB 2 Qw _ S=_
 rw[Hm]
 simp[Qw,ln,hne,gg,fin]
theorem Gfd(hw:S[w]?=some ⟨false,W.map D.str⟩)(h:a=W.length):Qx [.lst w,.int a] S=NT a S:=by
 have ln:=Wh hw
 rw[List.length_map] at ln
 subst h
 show fnB 2 Qw _ S=_
 rw[Hm]
 simp[Qw,ln,srj,fin]
theorem bind_exc {α β : Type} {x : XD} {S : Sto} {g : α → Sto → Out β} : (Out.exc x S : Out α).bind g = .exc x S := id rfl
theorem bindS_exc {α : Type} {x : XD} {S : Sto} {ρ : Lc} {g : α → Sto → OS} : bindS (Out.exc x S : Out α) ρ g = .exc x ρ S := id rfl
theorem Gdg(hai:ai=(a:Int))(hd:W.drop a=[])(ha:a<=W.length)(hw:S[w]?=some ⟨false,W.map D.str⟩)(lo hi:Int):Jl [.lst w,.int ai,.int lo,.int hi] S=NT a S:=by
 subst hai
 have e:=Uo (Gfd hw (Gba hd ha))
 show fnB 5 Jg _ S=_
 rw[Hm]
 simp[Jg,e,bind_exc,bindS_exc,fin]
theorem rnum(hai:ai=(a:Int))(hd:W.drop a=z::r)(hz:Wz z)(hw:S[w]?=some ⟨false,W.map D.str⟩)(lo hi:Int):∃ S',Ex S S'/\Jl [.lst w,.int ai,.int lo,.int hi] S=(match nm z lo hi with | none=>NT a S' | some v=>.ok (.int v) S'):=by
 subst hai
 have e:=Xh (wat hw (Qt hd).1)
 obtain⟨S',e2,x⟩:=numof (lo:=lo) (hi:=hi) (S:=S) hz
 refine⟨S',x,?_⟩
 have isn:∀ (v:Int) (S:Sto),Wo (.int v) .non S=.ok (.bl false) S:=fun _ _=>rfl
 have isnn:∀ (S:Sto),Wo .non .non S=.ok (.bl true) S:=fun _=>rfl
 show fnB 5 Jg _ S=_
 rw[Hm]
 cases hn:nm z lo hi with
 | none=>rw[hn] at e2; simp[Jg,e,e2,od,isnn,srj,fin]
 | some v=>rw[hn] at e2; simp[Jg,e,e2,od,isn,fin]
abbrev PO(w a:Nat)(S':Sto)(r:List Str)(W:List Str)(x:Out D):Prop:=(∃ j:Nat,x=NT j S'/\∀ n l,wr ⟨.brim,n,l,0⟩ r a=some j)∨
   ∃ br de ro pr r' a',Pl.ok (.p br de ro pr)/\Str.ofString "pound"::r=pw (.p br de ro pr)++r'/\W.drop a'=r'/\a'<=W.length/\a<a'/\x=.ok (.tup [Pl.toD (.p br de ro pr),.int (a':Nat)]) S'/\∀ n l,wr ⟨.brim,n,l,0⟩ r a=wr ⟨.gate,n,l,0⟩ r' a'
theorem rpound(hW:∀ z∈W,Wz z)(hd:W.drop a=r)(ha:a<=W.length)(hw:S[w]?=some ⟨false,W.map D.str⟩):∃ S',Ex S S'/\PO w a S' r W (Qo [.lst w,.int a] S):=by
 have k1:c_MOST_BRIM=.int 9:=rfl
 have k2:c_MOST_ROOM=.int 4:=rfl
 have k3:c_MOST_PRICE=.int 99:=rfl
 have E:Qo [.lst w,.int a] S=fin (Hj [some (.lst w),some (.int a),none,none,none,none,none] S):=Hm
 rw[E]
 clear E
 cases r with
 | nil=>
  have e:=Uo (Gdg rfl hd ha hw 1 9)
  exact⟨S,.refl,.inl ⟨a,by simp[Hj,k1,e,bindS_exc,fin],fun n l=>rfl⟩⟩
 | cons z1 r=>
 obtain⟨h1,d1,l1⟩:=Qt hd
 obtain⟨S1,x1,e1⟩:=rnum rfl hd (hW z1 (List.mem_of_getElem? h1)) hw 1 9
 cases n1:nm z1 1 9 with
 | none=>
  rw[n1] at e1
  have e1:=Uo e1
  exact⟨S1,x1,.inl ⟨a,by simp[Hj,k1,e1,bindS_exc,fin],fun n l=>by simp[wr,step,n1]⟩⟩
 | some br=>
 rw[n1] at e1
 have e1:=Xh e1
 obtain⟨t1,br0,br1⟩:=Xl n1
 have hw1:=x1.at hw
 cases r with
 | nil=>
  have e2:=Uo (Gdg (ai:=(a:Int)+1) (by omega) d1 l1 hw1 0 br)
  exact⟨S1,x1,.inl ⟨a+1,by simp only[Hj,k1]; simp[e1,e2,bindS_exc,fin],fun n l=>by simp[wr,step,n1]⟩⟩
 | cons z2 r=>
 obtain⟨h2,d2,l2⟩:=Qt d1
 obtain⟨S2,x2,e2⟩:=rnum (ai:=(a:Int)+1) (by omega) d1 (hW z2 (List.mem_of_getElem? h2)) hw1 0 br
 cases n2:nm z2 0 br with
 | none=>
  rw[n2] at e2
  have e2:=Uo e2
  exact⟨S2,x1.trans x2,.inl ⟨a+1,by simp only[Hj,k1]; simp[e1,e2,bindS_exc,fin],fun n l=>by simp[wr,step,n1,n2]⟩⟩
 | some de=>
 rw[n2] at e2
 have e2:=Xh e2
 obtain⟨t2,de0,de1⟩:=Xl n2
 have hw2:=x2.at hw1
 cases r with
 | nil=>
  have e3:=Uo (Gdg (ai:=(a:Int)+2) (by omega) d2 l2 hw2 1 4)
  exact⟨S2,x1.trans x2,.inl ⟨a+2,by simp only[Hj,k1,k2]; simp[e1,e2,e3,bindS_exc,fin]; omega,fun n l=>by simp[wr,step,n1,n2]⟩⟩
 | cons z3 r=>
 obtain⟨h3,d3,l3⟩:=Qt d2
 obtain⟨S3,x3,e3⟩:=rnum (ai:=(a:Int)+2) (by omega) d2 (hW z3 (List.mem_of_getElem? h3)) hw2 1 4
 cases n3:nm z3 1 4 with
 | none=>
  rw[n3] at e3
  have e3:=Uo e3
  exact⟨S3,(x1.trans x2).trans x3,.inl ⟨a+2,by simp only[Hj,k1,k2]; simp[e1,e2,e3,bindS_exc,fin]; omega,fun n l=>by simp[wr,step,n1,n2,n3]⟩⟩
 | some ro=>
 rw[n3] at e3
 have e3:=Xh e3
 obtain⟨t3,ro0,ro1⟩:=Xl n3
 have hw3:=x3.at hw2
 have ln:=Wh hw3
 rw[List.length_map] at ln
 have nin:∀ (v:Int) (S:Sto),Qj (.int v) .non S=.ok (.bl true) S:=fun _ _=>rfl
 have ninn:∀ (S:Sto),Qj .non .non S=.ok (.bl false) S:=fun _=>rfl
 have ok:∀ pr:D,(pr=.non\/∃ i,pr=.int i/\0<=i/\i<=99)->Pl.ok (.p br de ro pr):=fun pr h=>⟨br0,br1,de0,de1,ro0,ro1,h⟩
 cases r with
 | nil=>
  have:=Gba d3 l3
  have c:¬ (a:Int)+3<(W.length:Int):=by omega
  refine⟨S3,(x1.trans x2).trans x3,.inr ⟨br,de,ro,.non,[],a+3,ok _ (.inl rfl),by rw[t1,t2,t3]; rfl,d3,l3,by omega,by simp only[Hj,k1,k2]; simp[e1,e2,e3,ln,c,ninn,Pl.toD,fin],fun n l=>by simp[wr,step,n1,n2,n3]⟩⟩
 | cons z4 r=>
 obtain⟨h4,d4,l4⟩:=Qt d3
 have c:(a:Int)+3<(W.length:Int):=by omega
 have gg:DL.getD (.lst w) (.int ((a:Int)+3)) S3=.ok (.str z4) S3:=Qk hw3 (Kl (by omega) (by rw[show((a:Int)+3).toNat=a+3 by omega,List.getElem?_map,h4]; rfl))
 obtain⟨S4,e4,x4⟩:=numof (lo:=0) (hi:=99) (S:=S3) (hW z4 (List.mem_of_getElem? h4))
 have x:=((x1.trans x2).trans x3).trans x4
 cases n4:nm z4 0 99 with
 | none=>
  rw[n4] at e4
  refine⟨S4,x,.inr ⟨br,de,ro,.non,z4::r,a+3,ok _ (.inl rfl),by rw[t1,t2,t3]; rfl,d3,l3,by omega,by simp only[Hj,k1,k2,k3]; simp[e1,e2,e3,ln,c,gg,e4,od,ninn,Pl.toD,fin],fun n l=>by simp[wr,step,n1,n2,n3,n4]⟩⟩
 | some pr=>
  rw[n4] at e4
  obtain⟨t4,p0,p1⟩:=Xl n4
  have c4:(a:Int)+3+1=(a:Int)+4:=by omega
  have nud:¬ (z4="up"\/z4="down"):=fun h=>by
   have:(nm "up" 0 99).isNone=true/\(nm "down" 0 99).isNone=true:=by decide +kernel
   rcases h with h | h<;>rw[h] at n4<;>rw[n4] at this<;>simp at this
  refine⟨S4,x,.inr ⟨br,de,ro,.int pr,r,a+4,ok _ (.inr ⟨pr,rfl,p0,p1⟩),by rw[t1,t2,t3,t4]; rfl,d4,l4,by omega,by simp only[Hj,k1,k2,k3]; simp[e1,e2,e3,ln,c,gg,e4,od,nin,Pl.toD,sag,c4,fin],fun n l=>by simp[wr,step,n1,n2,n3,n4,nud]⟩⟩
end
theorem Ggc{α:Type}{l:List α}{a:α}:atI (l++[a]) (-1)=some a:=by
 show(ixN (l++[a]).length (-1)).bind (fun j=>(l++[a])[j]?)=_
 unfold ixN
 rw[if_neg (by decide),if_pos (by simp; omega),Option.bind_some]
 have:((-1:Int)+((l++[a]).length:Nat)).toNat=l.length:=by simp; omega
 rw[this,List.getElem?_append_right (Nat.le_refl _)]
 simp
theorem Yl{x y:D}{b:Bool}(h:eqD x y S=.ok (.bl b) S):neD x y S=.ok (.bl (!b)) S:=by
 unfold eqD at h
 unfold neD
 split at h
 ·rename_i p q hp hq
  by_cases hs:(SeqAt.shaped p&&SeqAt.shaped q)=true
  ·rw[if_pos hs] at h ⊢
   have:PyData.eqv p q=b:=by
    injection h with h1 _
    injection h1
   rw[this]
  ·rw[if_neg hs] at h
   cases h
 ·cases h
theorem nll{s t:String}:neD (.str (Str.ofString s)) (.str (Str.ofString t)) S=.ok (.bl (!decide (s=t))) S:=Yl ell
def w1:Pl->Str
 | .e=>"end"
 | .c=>"chamber"
 | .p _ _ _ _=>"pound"
theorem Gw6:(w1 p="chamber")=(p.isC=true):=by
 cases p<;>simp[w1,Pl.isC,Um]
def Zo(xs:List Pl):Bool:=match xs.getLast? with
 | some p=>p.isC
 | none=>false
def lw(xs:List Pl):Str:=match xs.getLast? with
 | some p=>w1 p
 | none=>""
theorem Gvs:(lw xs="chamber")=(Zo xs=true):=by
 unfold lw Zo
 cases xs.getLast? with
 | none=>simp[Um]
 | some p=>exact Gw6
def Gfe(z:Str)(xs:List Pl):Bool:=if xs=[] then decide (z="end") else if z="chamber" then decide (xs.length+1<13) else if Zo xs=false then false else if z="pound" then decide (xs.length+2<13) else decide (z="end")
section
variable{w a q:Nat}{W r:List Str}{S:Sto}{xs:List Pl}
theorem Gnc(hz:Wz z)(hx:∀ x∈xs,x.ok)(hq:S[q]?=some ⟨false,xs.map Pl.toD⟩):Vw [.str z,.lst q] S=.ok (.bl (Gfe z xs)) S:=by
 have k1:c_MOST_PLACES=.int 13:=rfl
 have k2:c_CHAMBER=.tup [.str "chamber"]:=rfl
 have ez:∀ (t:String) (S:Sto),eqD (.str z) (.str (Str.ofString t)) S=.ok (.bl (decide (z=Str.ofString t))) S:=fun t S=>by rw[Yk hz.ok (stok t)]; by_cases c:z=Str.ofString t<;>simp[c]
 have ln:=Wh hq
 rw[List.length_map] at ln
 show fnB 3 Hn _ S=_
 rw[Hm]
 unfold Gfe
 rcases List.eq_nil_or_concat xs with rfl | ⟨ys,y,e⟩
 ·by_cases c:z="end"<;>simp[Hn,ln,ez,c,ell,fin]
 ·have e:xs=ys++[y]:=by simpa using e
  have gl:DL.getD (.lst q) (.int (-1)) S=.ok y.toD S:=Qk hq (by rw[e,List.map_append]; exact Ggc)
  have nc:=Yl (Gf6 (S:=S) (hx y (by rw[e]; simp)))
  have lc:Zo xs=y.isC:=by unfold Zo; rw[e]; simp
  have l0:¬ (xs.length:Int)=0:=by rw[e]; simp; omega
  have n0:xs≠[]:=by rw[e]; simp
  rw[if_neg n0]
  by_cases c1:z="chamber"
  ·by_cases c2:xs.length+1<13
   ·have c2':(xs.length:Int)+1<13:=by omega
    simp only[Hn,k1,k2]
    simp[ln,ez,ell,c1,c2,c2',l0,n0,fin]
   ·have c2':¬ (xs.length:Int)+1<13:=by omega
    simp only[Hn,k1,k2]
    simp[ln,ez,ell,c1,c2,c2',l0,n0,fin]
  ·cases hy:y.isC with
   | false=>
    rw[hy] at nc lc
    simp only[Hn,k1,k2]
    simp[ln,ez,c1,l0,n0,gl,nc,lc,fin]
   | true=>
    rw[hy] at nc lc
    by_cases c3:z="pound"
    ·by_cases c2:xs.length+2<13
     ·have c2':(xs.length:Int)+2<13:=by omega
      simp only[Hn,k1,k2]
      simp[ln,ez,ell,Um,c3,c2,c2',l0,n0,gl,nc,lc,fin]
     ·have c2':¬ (xs.length:Int)+2<13:=by omega
      simp only[Hn,k1,k2]
      simp[ln,ez,ell,Um,c3,c2,c2',l0,n0,gl,nc,lc,fin]
    ·simp only[Hn,k1,k2]
     simp[ln,ez,c1,c3,l0,n0,gl,nc,lc,fin]
def sP(xs:List Pl):St:=⟨.place,xs.length,lw xs,0⟩
def sG(p:Pl)(xs:List Pl):St:=⟨if p.isE=true/\xs≠[] then .over else .gate,xs.length+1,w1 p,0⟩
structure Xo(xs:List Pl):Prop where
 ok:∀ x∈xs,x.ok
 hd:xs=[]\/∃ t,xs=.e::t
 le:xs.length<=12
theorem Gkc:step (sP xs) z=if xs.length=0 then(if z="end" then some ⟨.gate,1,"end",0⟩ else none) else if z="end" then(if lw xs="chamber"/\1<xs.length then some ⟨.over,xs.length+1,"end",0⟩ else none) else if z="chamber" then(if xs.length<12 then some ⟨.gate,xs.length+1,"chamber",0⟩ else none) else if z="pound"/\lw xs="chamber"/\xs.length<11 then some ⟨.brim,xs.length+1,"pound",0⟩ else none:=rfl
theorem Gsz(h:Gfe z xs=false):step (sP xs) z=none:=by
 unfold Gfe at h
 rw[Gkc]
 by_cases c0:xs=[]
 ·rw[if_pos c0] at h
  simp at h
  simp[c0,h]
 ·rw[if_neg c0] at h
  have n0:¬ xs.length=0:=fun q=>c0 (List.eq_nil_of_length_eq_zero q)
  rw[if_neg n0]
  by_cases c1:z="chamber"
  ·rw[if_pos c1] at h
   simp at h
   simp[c1,Um]
   omega
  ·rw[if_neg c1] at h
   by_cases c2:Zo xs=false
   ·have:¬ lw xs="chamber":=by rw[Gvs,c2]; simp
    simp[c1,this]
   ·rw[if_neg c2] at h
    by_cases c3:z="pound"
    ·rw[if_pos c3] at h
     simp at h
     have:¬ xs.length<11:=by omega
     simp[c3,Um,this]
    ·rw[if_neg c3] at h
     simp at h
     simp[c1,c3,h]
theorem Gnd(ho:Xo xs)(h:Gfe z xs=true):xs.length<13/\((z="end"/\step (sP xs) z=some (sG .e xs))\/(z="chamber"/\xs≠[]/\xs.length<12/\step (sP xs) z=some (sG .c xs))\/(z="pound"/\xs≠[]/\xs.length<12/\step (sP xs) z=some ⟨.brim,xs.length+1,"pound",0⟩)):=by
 unfold Gfe at h
 rw[Gkc]
 by_cases c0:xs=[]
 ·rw[if_pos c0] at h
  simp at h
  subst c0 h
  exact⟨by simp,.inl ⟨rfl,by simp[sG,w1]⟩⟩
 ·rw[if_neg c0] at h
  have n0:¬ xs.length=0:=fun q=>c0 (List.eq_nil_of_length_eq_zero q)
  rw[if_neg n0]
  by_cases c1:z="chamber"
  ·rw[if_pos c1] at h
   simp at h
   have c:xs.length<12:=by omega
   refine⟨by omega,.inr (.inl ⟨c1,c0,c,?_⟩)⟩
   simp[c1,Um,c,sG,w1,Pl.isE]
  ·rw[if_neg c1] at h
   by_cases c2:Zo xs=false
   ·rw[if_pos c2] at h; cases h
   ·rw[if_neg c2] at h
    have lc:Zo xs=true:=by simpa using c2
    have ll:lw xs="chamber":=by rw[Gvs]; exact lc
    by_cases c3:z="pound"
    ·rw[if_pos c3] at h
     simp at h
     have c:xs.length<11:=by omega
     refine⟨by omega,.inr (.inr ⟨c3,c0,by omega,?_⟩)⟩
     simp[c3,Um,c,ll]
    ·rw[if_neg c3] at h
     simp at h
     have n1:1<xs.length:=by
      rcases ho.hd with q | ⟨t,q⟩
      ·exact absurd q c0
      ·cases t with
       | nil=>rw[q] at lc; cases lc
       | cons b t=>rw[q]; simp
     refine⟨by have:=ho.le; omega,.inl ⟨h,by simp[h,ll,n1,sG,w1,Pl.isE,c0]⟩⟩
abbrev LO(xs:List Pl)(a:Nat)(S':Sto)(r W:List Str)(x:Out D):Prop:=(∃ j:Nat,x=NT j S'/\wr (sP xs) r a=some j)∨
   ∃ p r' a',p.ok/\r=pw p++r'/\W.drop a'=r'/\a'<=W.length/\x=.ok (.tup [p.toD,.int (a':Nat)]) S'/\wr (sP xs) r a=wr (sG p xs) r' a'/\(xs=[]->p=.e)/\(p.isE=false->xs.length<12)
theorem rplace(hai:ai=(a:Int))(ho:Xo xs)(hq:S[q]?=some ⟨false,xs.map Pl.toD⟩)(hW:∀ z∈W,Wz z)(hd:W.drop a=r)(ha:a<=W.length)(hw:S[w]?=some ⟨false,W.map D.str⟩):∃ S',Ex S S'/\LO xs a S' r W (Js [.lst w,.int ai,.lst q] S):=by
 subst hai
 have E:Js [.lst w,.int a,.lst q] S=fin (Hq [some (.lst w),some (.int a),some (.lst q),none] S):=Hm
 rw[E]
 clear E
 cases r with
 | nil=>
  have e:=Uo (Gfd hw (Gba hd ha))
  exact⟨S,.refl,.inl ⟨a,by simp[Hq,e,bindS_exc,fin],rfl⟩⟩
 | cons z r=>
 obtain⟨h1,d1,l1⟩:=Qt hd
 have hz:=hW z (List.mem_of_getElem? h1)
 have e:=Xh (wat hw h1)
 have m:=Gnc (S:=S) hz ho.ok hq
 have ez:∀ (t:String) (S:Sto),eqD (.str z) (.str (Str.ofString t)) S=.ok (.bl (decide (z=Str.ofString t))) S:=fun t S=>by rw[Yk hz.ok (stok t)]; by_cases c:z=Str.ofString t<;>simp[c]
 cases hm:Gfe z xs with
 | false=>
  rw[hm] at m
  exact⟨S,.refl,.inl ⟨a,by simp[Hq,e,m,Uh,srj,fin],by simp[wr,Gsz hm]⟩⟩
 | true=>
 rw[hm] at m
 obtain⟨l13,⟨rfl,st⟩ | ⟨rfl,n0,l12,st⟩ | ⟨rfl,n0,l12,st⟩⟩:=Gnd ho hm
 ·refine⟨S,.refl,.inr ⟨.e,r,a+1,trivial,rfl,d1,l1,by simp[Hq,e,m,Uh,ell,Pl.toD,fin],by simp[wr,st],fun _=>rfl,fun h=>by cases h⟩⟩
 ·refine⟨S,.refl,.inr ⟨.c,r,a+1,trivial,rfl,d1,l1,by simp[Hq,e,m,Uh,ell,Pl.toD,fin],by simp[wr,st],fun h=>absurd h n0,fun _=>l12⟩⟩
 ·obtain⟨S',x,h⟩:=rpound (a:=a+1) hW d1 l1 hw
  refine⟨S',x,?_⟩
  have c1:((a+1:Nat):Int)=(a:Int)+1:=by omega
  rw[c1] at h
  rcases h with⟨j,h1,h2⟩ | ⟨br,de,ro,pr,r',a',k,h1,h2,h3,h4,h5,h6⟩
  ·have e2:=Uo h1
   exact .inl ⟨j,by simp[Hq,e,m,Uh,ell,e2,bindS_exc,fin],by simp[wr,st,h2]⟩
  ·have e2:=Xh h5
   refine .inr ⟨.p br de ro pr,r',a',k,h1,h2,h3,by simp[Hq,e,m,Uh,ell,e2,fin],?_,fun h=>absurd h n0,fun _=>l12⟩
   have:sG (.p br de ro pr) xs=⟨.gate,xs.length+1,"pound",0⟩:=by simp[sG,Pl.isE,w1]
   rw[this]
   simp[wr,st,h6]
theorem rgate(hW:∀ z∈W,Wz z)(hd:W.drop a=r)(ha:a<=W.length)(hw:S[w]?=some ⟨false,W.map D.str⟩):(Ka [.lst w,.int a] S=NT a S/\∀ n l b,wr ⟨.gate,n,l,b⟩ r a=some a)\/∃ (g:Str) (r':List Str),(g="up"\/g="down")/\r=g::r'/\Ka [.lst w,.int a] S=.ok (.str g) S/\∀ n l b,wr ⟨.gate,n,l,b⟩ r a=wr ⟨.place,n,l,0⟩ r' (a+1):=by
 have k1:c_UP=.str "up":=rfl
 have k2:c_DOWN=.str "down":=rfl
 have E:Ka [.lst w,.int a] S=fin (Jp [some (.lst w),some (.int a),none] S):=Hm
 rw[E]
 clear E
 cases r with
 | nil=>
  have e:=Uo (Gfd hw (Gba hd ha))
  exact .inl ⟨by simp[Jp,e,bindS_exc,fin],fun n l b=>rfl⟩
 | cons z r=>
 obtain⟨h1,d1,l1⟩:=Qt hd
 have hz:=hW z (List.mem_of_getElem? h1)
 have e:=Xh (wat hw h1)
 have nz:∀ (t:String) (S:Sto),neD (.str z) (.str (Str.ofString t)) S=.ok (.bl (!decide (z=Str.ofString t))) S:=fun t S=>Yl (by rw[Yk hz.ok (stok t)]; by_cases c:z=Str.ofString t<;>simp[c])
 by_cases c1:z="up"
 ·exact .inr ⟨z,r,.inl c1,rfl,by simp only[Jp,k1,k2]; simp[e,nz,nll,c1,fin],fun n l b=>by simp[wr,step,c1]⟩
 ·by_cases c2:z="down"
  ·exact .inr ⟨z,r,.inr c2,rfl,by simp only[Jp,k1,k2]; simp[e,nz,nll,c2,fin],fun n l b=>by simp[wr,step,c2]⟩
  ·exact .inl ⟨by simp only[Jp,k1,k2]; simp[e,nz,c1,c2,srj,fin],fun n l b=>by simp[wr,step,c1,c2]⟩
end
theorem Gkd{c:Ev Bool}:whN c b (n+1) ρ S=bindS (c ρ S) ρ fun t S1=>if t=true then(match b ρ S1 with
    | .nx ρ2 S2=>whN c b n ρ2 S2
    | .ct ρ2 S2=>whN c b n ρ2 S2
    | .bk ρ2 S2=>.nx ρ2 S2
    | .rt d S2=>.rt d S2
    | .exc x ρ2 S2=>.exc x ρ2 S2
    | .bad=>.bad) else .nx ρ S1:=rfl
def Wds(tl:List Pl)(gs:List Str):List Str:=pw .e++tw gs tl
theorem Gke{g:Str}(h:gs.length=tl.length):Wds (tl++[p]) (gs++[g])=Wds tl gs++(g::pw p):=by
 unfold Wds tw
 rw[List.zipWith_append h,List.flatten_append,List.append_assoc]
 simp
theorem Ghi(h:gs.length=tl.length):words .e tl gs gs.length=Wds tl gs:=by
 unfold words Wds
 rw[List.take_length,h,List.take_length]
def done(tl:List Pl):Bool:=match tl.getLast? with
 | some p=>p.isE
 | none=>false
def sC(tl:List Pl):St:=⟨if done tl=true then .over else .gate,tl.length+1,lw (.e::tl),0⟩
theorem Gne:lw (xs++[p])=w1 p:=by unfold lw; simp
theorem Zc:done (xs++[p])=p.isE:=by unfold done; simp
theorem Gvt:sG p (.e::tl)=sC (tl++[p]):=by
 unfold sG sC
 rw[Zc,<- List.cons_append,Gne]
 simp
structure Lp(S0 S:Sto)(w qp qg:Nat)(W:List Str)(tl:List Pl)(gs:List Str)(a:Nat):Prop where
 hw:S[w]?=some ⟨false,W.map D.str⟩
 hp:S[qp]?=some ⟨false,(Pl.e::tl).map Pl.toD⟩
 hg:S[qg]?=some ⟨false,gs.map D.str⟩
 x:Ex S0 S
 gl:gs.length=tl.length
 ok:∀ p∈Pl.e::tl,p.ok
 ud:UDs gs
 tk:W=Wds tl gs++W.drop a
 al:a<=W.length
section
variable{S0:Sto}{w qp qg:Nat}{W:List Str}{td:D}
theorem rcond{x0 x1 x5:Option D}(ok:∀ p∈Pl.e::tl,p.ok)(hp:S[qp]?=some ⟨false,(Pl.e::tl).map Pl.toD⟩):Hy [x0,x1,x2,x3,some (.lst qp),x5] S=.ok (!done tl) S:=by
 have k:c_END=.tup [.str "end"]:=rfl
 have ln:=Wh hp
 rw[List.length_map] at ln
 rcases List.eq_nil_or_concat tl with rfl | ⟨ys,y,e⟩
 ·simp[Hy,ln,done]
 ·have e:tl=ys++[y]:=by simpa using e
  have gl:DL.getD (.lst qp) (.int (-1)) S=.ok y.toD S:=Qk hp (by rw[e,<- List.cons_append,List.map_append]; exact Ggc)
  have ne:=Yl (Gso (S:=S) (ok y (by rw[e]; simp)))
  have l0:¬ ((Pl.e::tl).length:Int)=1:=by rw[e]; simp; omega
  rw[e,Zc]
  simp only[Hy,k]
  simp only[Gjo,Gf2,Yj,Gd8,Yi,Zn,Zm,Gcd,Gu6,Gvg,List.getElem?_cons_succ,List.getElem?_cons_zero,Gy,ln,Gvj,decide_eq_false l0,gl,ne,Bool.false_eq_true,if_false]
theorem rloop(hW:∀ z∈W,Wz z)(hqp:S0.length<=qp)(hqg:S0.length<=qg)(n1:w≠qp)(n2:w≠qg)(n3:qp≠qg):∀ (m n:Nat) (tl:List Pl) (gs:List Str) (a:Nat) (S:Sto) (y2:Option D),Lp S0 S w qp qg W tl gs a->tl.length+m=12->(done tl=false->tl.length<=11)->m<n→
  ∃ S',Ex S0 S'/\((∃ (j:Nat) (ρ':Lc),whN Hy Hk n [some td,some (.lst w),y2,some (.int a),some (.lst qp),some (.lst qg)] S=.exc ⟨"NoText",some (j:Int)⟩ ρ' S'/\wr (sC tl) (W.drop a) a=some j)∨
   ∃ tl' gs' a' y2',done tl'=true/\Lp S0 S' w qp qg W tl' gs' a'/\tl'.length<=12/\whN Hy Hk n [some td,some (.lst w),y2,some (.int a),some (.lst qp),some (.lst qg)] S=.nx [some td,some (.lst w),y2',some (.int (a':Nat)),some (.lst qp),some (.lst qg)] S'/\wr (sC tl) (W.drop a) a=wr (sC tl') (W.drop a') a')
 | m,0,tl,gs,a,S,y2,L,hm,hd,hn=>absurd hn (by omega)
 | m,n+1,tl,gs,a,S,y2,L,hm,hd,hn=>by
  rw[Gkd,rcond L.ok L.hp]
  cases dn:done tl with
  | true=>exact⟨S,L.x,.inr ⟨tl,gs,a,y2,dn,L,by omega,rfl,rfl⟩⟩
  | false=>
  have l11:=hd dn
  obtain⟨m,rfl⟩:∃ k,m=k+1:=⟨m-1,by omega⟩
  have sc:sC tl=⟨.gate,tl.length+1,lw (.e::tl),0⟩:=by unfold sC; rw[dn]; rfl
  rw[sc]
  simp only[Hi,Bool.not_false,if_true]
  have i1:=isL L.hg
  rcases rgate (r:=W.drop a) hW rfl L.al L.hw with⟨eg,hr⟩ | ⟨g,r',ug,er,eg,hr⟩
  ·have eg:=Uo eg
   refine⟨S,L.x,.inl ⟨a,[some td,some (.lst w),y2,some (.int a),some (.lst qp),some (.lst qg)],?_,hr _ _ _⟩⟩
   have:Hk [some td,some (.lst w),y2,some (.int a),some (.lst qp),some (.lst qg)] S=.exc ⟨"NoText",some (a:Int)⟩ [some td,some (.lst w),y2,some (.int a),some (.lst qp),some (.lst qg)] S:=by
    simp[Hk,i1,eg,bind_exc,bindS_exc]
   rw[this]
  ·have eg:=Xh eg
   obtain⟨_,d1,l1⟩:=Qt er
   have gll:gs.length<=12:=by have:=L.gl; omega
   have a1:=Gce (d:=.str g) L.hg (by rw[List.length_map]; omega)
   have lg1:qg<S.length:=(List.getElem?_eq_some_iff.mp L.hg).1
   have w1':(S.set qg ⟨false,gs.map D.str++[.str g]⟩)[w]?=some ⟨false,W.map D.str⟩:=by rw[List.getElem?_set_ne (Ne.symm n2)]; exact L.hw
   have p1':(S.set qg ⟨false,gs.map D.str++[.str g]⟩)[qp]?=some ⟨false,(Pl.e::tl).map Pl.toD⟩:=by rw[List.getElem?_set_ne (Ne.symm n3)]; exact L.hp
   have g1':(S.set qg ⟨false,gs.map D.str++[.str g]⟩)[qg]?=some ⟨false,gs.map D.str++[.str g]⟩:=List.getElem?_set_self lg1
   have x1':Ex S0 (S.set qg ⟨false,gs.map D.str++[.str g]⟩):=L.x.setq hqg
   generalize S.set qg ⟨false,gs.map D.str++[.str g]⟩=S1 at *
   have b1:sx (mt Xr (vr 5) (ac (cl 2 (gX ys Ka) (ac (vr 1) (ac (vr 3) an))) an)) [some td,some (.lst w),y2,some (.int a),some (.lst qp),some (.lst qg)] S=.nx [some td,some (.lst w),y2,some (.int a),some (.lst qp),some (.lst qg)] S1:=by
    simp[i1,eg,a1]
   have ho:Xo (Pl.e::tl):=⟨L.ok,.inr ⟨tl,rfl⟩,by simp; omega⟩
   obtain⟨S2,x2,h⟩:=rplace (ai:=(a:Int)+1) (a:=a+1) (by omega) ho p1' hW d1 l1 w1'
   have hwr:wr ⟨.gate,tl.length+1,lw (.e::tl),0⟩ (W.drop a) a=wr (sP (.e::tl)) r' (a+1):=hr _ _ _
   rw[hwr]
   rcases h with⟨j,ep,hj⟩ | ⟨p,r2,a2,pk,e2,d2,l2,ep,hw2,_,lp12⟩
   ·have ep:=Uo ep
    refine⟨S2,x1'.trans x2,.inl ⟨j,[some td,some (.lst w),y2,some (.int a),some (.lst qp),some (.lst qg)],?_,hj⟩⟩
    have:Hk [some td,some (.lst w),y2,some (.int a),some (.lst qp),some (.lst qg)] S=.exc ⟨"NoText",some (j:Int)⟩ [some td,some (.lst w),y2,some (.int a),some (.lst qp),some (.lst qg)] S2:=by
     unfold Hk
     rw[Uf b1]
     simp[ep,bindS_exc]
    rw[this]
   ·have ep:=Xh ep
    have w2:=x2.at w1'
    have p2:=x2.at p1'
    have g2':=x2.at g1'
    have a2':=Gce (d:=p.toD) p2 (by rw[List.length_map]; simp; omega)
    have i2:=isL p2
    have lp2:qp<S2.length:=(List.getElem?_eq_some_iff.mp p2).1
    have pt:(Pl.e::(tl++[p])).map Pl.toD=(Pl.e::tl).map Pl.toD++[p.toD]:=by simp
    have L':Lp S0 (S2.set qp ⟨false,(Pl.e::tl).map Pl.toD++[p.toD]⟩) w qp qg W (tl++[p]) (gs++[g]) a2:=⟨by rw[List.getElem?_set_ne (Ne.symm n1)]; exact w2,by rw[List.getElem?_set_self lp2,pt],by rw[List.getElem?_set_ne n3,List.map_append]; exact g2',(x1'.trans x2).setq hqp,by simp[L.gl],fun z hz=>by
     rcases List.mem_cons.mp hz with rfl | hz
     ·trivial
     ·rcases List.mem_append.mp hz with hz | hz
      ·exact L.ok z (List.mem_cons_of_mem _ hz)
      ·rw[List.mem_singleton.mp hz]; exact pk,fun z hz=>by
     rcases List.mem_append.mp hz with hz | hz
     ·exact L.ud z hz
     ·rw[List.mem_singleton.mp hz]; exact ug,by
     rw[Gke L.gl,d2]
     have:=L.tk
     rw[er,e2] at this
     rw[List.append_assoc]
     simpa using this,l2⟩
    have bd:Hk [some td,some (.lst w),y2,some (.int a),some (.lst qp),some (.lst qg)] S=.nx [some td,some (.lst w),some p.toD,some (.int (a2:Nat)),some (.lst qp),some (.lst qg)] (S2.set qp ⟨false,(Pl.e::tl).map Pl.toD++[p.toD]⟩):=by
     unfold Hk
     rw[Uf b1]
     generalize p.toD=pd at *
     generalize (Pl.e::tl).map Pl.toD=xd at *
     rw[Uf (ρ':=[some td,some (.lst w),some pd,some (.int (a2:Nat)),some (.lst qp),some (.lst qg)]) (S1:=S2) (by simp[ep,gt,gcons,gnil])]
     simp[i2,a2']
    rw[bd]
    obtain⟨S',x',h⟩:=rloop hW hqp hqg n1 n2 n3 m n (tl++[p]) (gs++[g]) a2 _ (some p.toD) L' (by simp; omega) (fun dz=>by
     rw[Zc] at dz
     have:=lp12 dz
     simp at this ⊢
     omega) (by omega)
    refine⟨S',x',?_⟩
    rw[hw2,Gvt,<- d2]
    exact h
end
theorem rcanal{W:List Str}(h0:W≠[])(hW:∀ z∈W,Wz z)(hs:∀ S,Wr (.str T) [.str " "] S=.ok (.lst S.length) (S++[⟨false,W.map D.str⟩])):∃ S',Ex S S'/\((∃ j:Nat,Ke [.str T] S=NT j S'/\wr s0 W 0=some j)∨
  ∃ tl gs,Ke [.str T] S=.ok (cnl .e tl gs) S'/\wr s0 W 0=none/\W=Wds tl gs/\gs.length=tl.length/\gs.length<=12/\(∀ p∈Pl.e::tl,p.ok)/\UDs gs):=by
 have s1:=hs S
 have q1:(S++[(⟨false,W.map D.str⟩:Cell)])[S.length]?=some ⟨false,W.map D.str⟩:=Gv
 have x1:Ex S (S++[(⟨false,W.map D.str⟩:Cell)]):=Ex.app
 have n1:(S++[(⟨false,W.map D.str⟩:Cell)]).length=S.length+1:=by simp
 generalize S++[(⟨false,W.map D.str⟩:Cell)]=S1 at *
 have q1a:(S1++[(⟨false,[]⟩:Cell)])[S.length]?=some ⟨false,W.map D.str⟩:=Jt q1
 obtain⟨S2,x2,h⟩:=rplace (ai:=0) (a:=0) (xs:=[]) (q:=S1.length) (r:=W) (W:=W) (w:=S.length) (S:=S1++[(⟨false,[]⟩:Cell)]) rfl ⟨fun z hz=>by simp at hz,.inl rfl,by simp⟩ Gv hW rfl (Nat.zero_le _) q1a
 have xs2:Ex S1 S2:=Ex.app.trans x2
 have E:Ke [.str T] S=fin (Vy [some (.str T),none,none,none,none,none] S):=Hm
 have E:=E.trans (Go (ρ':=[some (.str T),some (.lst S.length),none,none,none,none]) (S':=S1) (by simp[mts,isStr,s1]))
 rw[E]
 clear E
 rcases h with⟨j,e2,hj⟩ | ⟨p,r',a,pk,er,d2,l2,e2,hw2,p0,_⟩
 ·have e2:=Uo e2
  exact⟨S2,x1.trans xs2,.inl ⟨j,by simp[e2,bindS_exc,fin],hj⟩⟩
 ·have:=p0 rfl
  subst this
  have e2:=Xh e2
  have q2:=xs2.at q1
  have l2':S1.length+1<=S2.length:=by have:=x2.len; simp at this; exact this
  have q3:((S2++[(⟨false,[Pl.toD .e]⟩:Cell)])++[(⟨false,[]⟩:Cell)])[S.length]?=some ⟨false,W.map D.str⟩:=Jt (Jt q2)
  have q4:((S2++[(⟨false,[Pl.toD .e]⟩:Cell)])++[(⟨false,[]⟩:Cell)])[S2.length]?=some ⟨false,[Pl.toD .e]⟩:=Jt Gv
  have q5:((S2++[(⟨false,[Pl.toD .e]⟩:Cell)])++[(⟨false,[]⟩:Cell)])[(S2++[(⟨false,[Pl.toD .e]⟩:Cell)]).length]?=some ⟨false,[]⟩:=Gv
  have n3:(S2++[(⟨false,[Pl.toD .e]⟩:Cell)]).length=S2.length+1:=by simp
  have x3:Ex S ((S2++[(⟨false,[Pl.toD .e]⟩:Cell)])++[(⟨false,[]⟩:Cell)]):=(x1.trans xs2).trans (Ex.app.trans Ex.app)
  rw[n3] at q5
  have L:Lp S ((S2++[(⟨false,[Pl.toD .e]⟩:Cell)])++[(⟨false,[]⟩:Cell)]) S.length S2.length (S2.length+1) W [] [] a:=⟨q3,q4,q5,x3,rfl,fun z hz=>by rw[List.mem_singleton.mp hz]; trivial,fun z hz=>by simp at hz,by rw[d2]; exact er,l2⟩
  have sg:sG .e []=sC []:=rfl
  rw[sg,<- d2] at hw2
  obtain⟨S',x',h⟩:=rloop (td:=.str T) hW (show S.length<=S2.length by omega) (show S.length<=S2.length+1 by omega) (show S.length≠S2.length by omega) (show S.length≠S2.length+1 by omega) (show S2.length≠S2.length+1 by omega) 12 1000 [] [] a _ (some (Pl.toD .e)) L rfl (fun _=>by simp) (by omega)
  have hw2:wr s0 W 0=_:=hw2
  rw[hw2]
  have E2:∀ {g:Sv},fin (sq (sa (cl 3 (gX ys Js) (ac (vr 1) (ac (cn (.int 0)) (ac (ls an) an)))) (gt (gcons (gn 2) (gcons (gn 3) gnil)) 2)) (sq (sa (ls (ac (vr 2) an)) (gn 4)) (sq (sa (ls an) (gn 5)) g)) [some (.str T),some (.lst S.length),none,none,none,none] S1)=fin (g [some (.str T),some (.lst S.length),some (Pl.toD .e),some (.int (a:Nat)),some (.lst S2.length),some (.lst (S2.length+1))] ((S2++[(⟨false,[Pl.toD .e]⟩:Cell)])++[(⟨false,[]⟩:Cell)])):=fun{g}=>by
   generalize Pl.toD .e=pd at *
   rw[Go (ρ':=[some (.str T),some (.lst S.length),some pd,some (.int (a:Nat)),none,none]) (S':=S2) (by simp[e2,gt,gcons,gnil])]
   rw[Go (ρ':=[some (.str T),some (.lst S.length),some pd,some (.int (a:Nat)),some (.lst S2.length),none]) (S':=S2++[(⟨false,[pd]⟩:Cell)]) (by simp)]
   rw[Go (ρ':=[some (.str T),some (.lst S.length),some pd,some (.int (a:Nat)),some (.lst S2.length),some (.lst (S2.length+1))]) (S':=(S2++[(⟨false,[pd]⟩:Cell)])++[(⟨false,[]⟩:Cell)]) (by simp)]
  rw[E2]
  rcases h with⟨j,ρ',ef,hj⟩ | ⟨tl,gs,a',y2,dn,L',l13,ef,hr⟩
  ·exact⟨S',x',.inl ⟨j,by rw[Ga5,ef]; rfl,hj⟩⟩
  ·rw[hr]
   have sc:sC tl=⟨.over,tl.length+1,lw (.e::tl),0⟩:=by unfold sC; rw[dn]; rfl
   rw[sc]
   have ln:=Wh L'.hw
   rw[List.length_map] at ln
   refine⟨S',x',?_⟩
   by_cases c:a'<W.length
   ·have c':(a':Int)<(W.length:Int):=by omega
    refine .inl ⟨a',?_,?_⟩
    ·rw[Go ef]
     simp[ln,c',srj,fin]
    ·cases hd:W.drop a' with
     | nil=>exact absurd (Gba hd L'.al) (by omega)
     | cons z r=>simp[wr,step]
   ·have c':¬ (a':Int)<(W.length:Int):=by omega
    have hd:W.drop a'=[]:=List.drop_of_length_le (by omega)
    have t1:=Gf5 L'.hp
    have t2:=Gf5 L'.hg
    refine .inr ⟨tl,gs,?_,?_,?_,L'.gl,by have:=L'.gl; omega,L'.ok,L'.ud⟩
    ·rw[Go ef]
     generalize hxd:(Pl.e::tl).map Pl.toD=xd at *
     have:cnl .e tl gs=.tup [.tup xd,.tup (gs.map D.str)]:=by rw[<- hxd]; rfl
     rw[this]
     simp[ln,c',t1,t2,fin]
    ·rw[hd]; rfl
    ·have:=L'.tk
     rw[hd,List.append_nil] at this
     exact this
def nwords:List D:=[.str "nogate",.str "dry",.str "full",.str "nospring",.str "nobarge",.str "noroom",.str "uneven",.str "shallow",.str "falls",.str "notext",.str "toomany",.str "noline"]
theorem Gnf{m:List D}{bs cs:List Bool}{w:D}(h:S[q]?=some ⟨false,m⟩)(hl:m.length=13)(h12:m[12]?=some (.bl true))(hb:Gbf m=some bs)(hc:Gbf (DL.Uq m none (some 12))=some cs)(hcnt:cs.countP (·==true)=1)(hidx:List.findIdx? (·==true) bs=some j)(hw:nwords[j]?=some w):
  ∃ S',Kb [.lst q] S=.ok w S'/\Ex S S':=by
 have e1:sa (ls (ac (cn (.str "nogate")) (ac (cn (.str "dry")) (ac (cn (.str "full")) (ac (cn (.str "nospring")) (ac (cn (.str "nobarge")) (ac (cn (.str "noroom")) (ac (cn (.str "uneven")) (ac (cn (.str "shallow")) (ac (cn (.str "falls")) (ac (cn (.str "notext")) (ac (cn (.str "toomany")) (ac (cn (.str "noline")) an))))))))))))) (gn 1) [some (.lst q),none] S=.nx [some (.lst q),some (.lst S.length)] (S++[⟨false,nwords⟩]):=by simp[nwords]
 have x1:Ex S (S++[⟨false,nwords⟩]):=Ex.app
 have w1:(S++[(⟨false,nwords⟩:Cell)])[S.length]?=some ⟨false,nwords⟩:=Gv
 have h1:=x1.at h
 generalize S++[(⟨false,nwords⟩:Cell)]=S1 at *
 have x2:Ex S1 (S1++[⟨false,DL.Uq m none (some 12)⟩]):=Ex.app
 have sl:=Gsp (lo:=none) (hi:=some 12) h1
 have c1:(S1++[(⟨false,DL.Uq m none (some 12)⟩:Cell)])[S1.length]?=some ⟨false,DL.Uq m none (some 12)⟩:=Gv
 have h2:=x2.at h1
 have w2:=x2.at w1
 have ln:lenD [.lst q] S1=.ok (.int 13) S1:=by rw[Gjr h1,hl]; rfl
 generalize hS2:S1++[(⟨false,DL.Uq m none (some 12)⟩:Cell)]=S2 at *
 have il:=isL c1
 have ct:Gez (.lst S1.length) [.bl true] S2=.ok (.int 1) S2:=by
  simp only[Gez,c1,hc]
  rw[if_pos trivial,hcnt]
  rfl
 have g12:DL.getD (.lst q) (.int 12) S2=.ok (.bl true) S2:=Qk h2 (Kl (by decide) h12)
 have ix:Ge0 (.lst q) [.bl true] S2=.ok (.int j) S2:=by
  simp only[Ge0,h2,hb,hidx]
  rw[if_pos trivial]
 have iq:=isL h2
 have gw:DL.getD (.lst S.length) (.int j) S2=.ok w S2:=Qk w2 (Kl (by omega) (by rw[Int.toNat_natCast]; exact hw))
 refine⟨S2,?_,x1.trans x2⟩
 refine(Hm (m:=2) (b:=Qb)).trans ?_
 show fin (Qb [some (.lst q),none] S)=_
 unfold Qb
 refine(Go e1).trans ?_
 refine(Go (ρ':=[some (.lst q),some (.lst S.length)]) (S':=S2) ?_).trans ?_
 ·simp[ln,sl,il,ct,g12,Uh]
 ·simp[iq,ix,gw]
def mks(y:Str):List D:=ys.map (fun x=>.bl (decide (y∈[x])))++[.bl (decide (y∈ys))]
def Gff(y:Str):D:=match (ys.zip nwords).lookup y with
 | some w=>w
 | none=>.non
def Gng(y:Str):List Bool:=ys.map (fun x=>decide (y∈[x]))++[decide (y∈ys)]
theorem Jz(j:Nat)(y:Str)(h:S[q]?=some ⟨false,mks y⟩)(h1:(mks y)[12]?=some (.bl true):=by kernel_rfl!)(h2:Gbf (mks y)=some (Gng y):=by kernel_rfl!)(h3:Gbf (DL.Uq (mks y) none (some 12))=some ((Gng y).take 12):=by kernel_rfl!)(h4:((Gng y).take 12).countP (·==true)=1:=by decide +kernel)(h5:List.findIdx? (·==true) (Gng y)=some j:=by kernel_rfl!)(h6:nwords[j]?=some (Gff y):=by kernel_rfl!):∃ S',Kb [.lst q] S=.ok (Gff y) S'/\Ex S S':=
 Gnf h rfl h1 h2 h3 h4 h5 h6
theorem Gs0(hy:y∈ys)(h:S[q]?=some ⟨false,mks y⟩):∃ S',Kb [.lst q] S=.ok (Gff y) S'/\Ex S S':=by
 simp only[ys,List.mem_cons,List.mem_nil_iff,or_false] at hy
 rcases hy with rfl | rfl | rfl | rfl | rfl | rfl | rfl | rfl | rfl | rfl | rfl | rfl
 ·exact Jz 0 _ h
 ·exact Jz 1 _ h
 ·exact Jz 2 _ h
 ·exact Jz 3 _ h
 ·exact Jz 4 _ h
 ·exact Jz 5 _ h
 ·exact Jz 6 _ h
 ·exact Jz 7 _ h
 ·exact Jz 8 _ h
 ·exact Jz 9 _ h
 ·exact Jz 10 _ h
 ·exact Jz 11 _ h
theorem Gs1{hh:XD->Sv}{fb:Sv}(h:fb ρ S=.nx ρ' S'):Ye ys hh fb ρ S=.nx ρ' S':=by simp only[Ye,h]
theorem Gnh{hh:XD->Sv}{fb:Sv}{x:XD}(h:fb ρ S=.exc x ρ' S')(hy:x.cls∈ys):Ye ys hh fb ρ S=hh x ρ' S':=by simp only[Ye,h,if_pos hy]
theorem Gs2{fh:Sv}{x:XD}(h:fh (ρ.set i (some (.exn x.cls x.fld))) S=.nx ρ' S'):hdl i fh x ρ S=.nx (ρ'.set i none) S':=by simp only[hdl,h]
theorem addls{E:Ev (List D)}{a xs:List D}(h6:ρ[3]?=some (some (.lst q)))(hq:S[q]?=some ⟨false,a⟩)(hE:E ρ S=.ok xs S)(hl:xs.length<=1000)(ha:a.length<=1000):
  sa (o2 Gz (vr 3) (ls E)) (gn 3) ρ S=.nx (ρ.set 3 (some (.lst (S.length+1)))) ((S++[⟨false,xs⟩])++[⟨false,a++xs⟩]):=by
 have e:Gz (.lst q) (.lst S.length) (S++[⟨false,xs⟩])=.ok (.lst (S++[(⟨false,xs⟩:Cell)]).length) ((S++[⟨false,xs⟩])++[⟨false,a++xs⟩]):=Xv (Jt hq) Gv (by omega)
 have h1:xs.length<=1000000:=by omega
 simp[h6,hE,h1] at e ⊢
 simp[e]
theorem Gvu{fl:Option Int}{sub:List Str}(hy:y∈ys):Jo ys sub (.exn y fl) S=.ok (.bl (decide (y∈sub))) S:=if_pos hy
theorem Gvv{n:Int}{x0 x1:Option D}(hy:y="NoText"):∃ q S',Qi [x0,x1,x2,x3,some (.exn y (some n))] S=.nx [x0,x1,some (.int n),some (.lst q),some (.exn y (some n))] S'/\S'[q]?=some ⟨false,mks y⟩/\Ex S S':=by
 have hi:y∈ys:=by rw[hy]; exact Ggb
 have i:=fun(sub:List Str) (S:Sto)=>Gvu (fl:=some n) (sub:=sub) (S:=S) hi
 have e1:sa (ls (ac (o1 (Jo ys ["NoGate"]) (vr 4)) (ac (o1 (Jo ys ["Dry"]) (vr 4)) (ac (o1 (Jo ys ["Full"]) (vr 4)) (ac (o1 (Jo ys ["NoSpring"]) (vr 4)) an))))) (gn 3) [x0,x1,x2,x3,some (.exn y (some n))] S=.nx [x0,x1,x2,some (.lst S.length),some (.exn y (some n))] (S++[⟨false,[.bl (decide (y∈(["NoGate"]:List Str))),.bl (decide (y∈(["Dry"]:List Str))),.bl (decide (y∈(["Full"]:List Str))),.bl (decide (y∈(["NoSpring"]:List Str)))]⟩]):=by
  simp[i]
 have x1':Ex S (S++[⟨false,[.bl (decide (y∈(["NoGate"]:List Str))),.bl (decide (y∈(["Dry"]:List Str))),.bl (decide (y∈(["Full"]:List Str))),.bl (decide (y∈(["NoSpring"]:List Str)))]⟩]):=Ex.app
 have q1:(S++[(⟨false,[.bl (decide (y∈(["NoGate"]:List Str))),.bl (decide (y∈(["Dry"]:List Str))),.bl (decide (y∈(["Full"]:List Str))),.bl (decide (y∈(["NoSpring"]:List Str)))]⟩:Cell)])[S.length]?=some ⟨false,[.bl (decide (y∈(["NoGate"]:List Str))),.bl (decide (y∈(["Dry"]:List Str))),.bl (decide (y∈(["Full"]:List Str))),.bl (decide (y∈(["NoSpring"]:List Str)))]⟩:=Gv
 generalize S++[(⟨false,[.bl (decide (y∈(["NoGate"]:List Str))),.bl (decide (y∈(["Dry"]:List Str))),.bl (decide (y∈(["Full"]:List Str))),.bl (decide (y∈(["NoSpring"]:List Str)))]⟩:Cell)]=S1 at *
 have stp:∀ {q:Nat} {m:List D} {S:Sto},S[q]?=some ⟨false,m⟩->m.length<=100->∀ (s1 s2 s3:List Str),∃ q' S',sa (o2 Gz (vr 3) (ls (ac (o1 (Jo ys s1) (vr 4)) (ac (o1 (Jo ys s2) (vr 4)) (ac (o1 (Jo ys s3) (vr 4)) an))))) (gn 3) [x0,x1,x2,some (.lst q),some (.exn y (some n))] S=.nx [x0,x1,x2,some (.lst q'),some (.exn y (some n))] S'/\S'[q']?=some ⟨false,m++[.bl (decide (y∈s1)),.bl (decide (y∈s2)),.bl (decide (y∈s3))]⟩/\Ex S S':=fun{q m S} hq hm s1 s2 s3=>by
  have ad:=addls (E:=ac (o1 (Jo ys s1) (vr 4)) (ac (o1 (Jo ys s2) (vr 4)) (ac (o1 (Jo ys s3) (vr 4)) an))) (ρ:=[x0,x1,x2,some (.lst q),some (.exn y (some n))]) (xs:=[.bl (decide (y∈s1)),.bl (decide (y∈s2)),.bl (decide (y∈s3))]) rfl hq (by simp[i]) (by simp) (by omega)
  refine⟨_,_,ad,?_,Ex.app.trans Ex.app⟩
  have:=Gv (S:=S++[(⟨false,[.bl (decide (y∈s1)),.bl (decide (y∈s2)),.bl (decide (y∈s3))]⟩:Cell)]) (c:=⟨false,m++[.bl (decide (y∈s1)),.bl (decide (y∈s2)),.bl (decide (y∈s3))]⟩)
  simpa using this
 obtain⟨q2,S2,e2,h2,x2'⟩:=stp q1 (by simp) ["NoBarge"] ["NoRoom"] ["Uneven"]
 obtain⟨q3,S3,e3,h3,x3'⟩:=stp h2 (by simp) ["Shallow"] ["Falls"] ["NoText"]
 obtain⟨q4,S4,e4,h4,x4'⟩:=stp h3 (by simp) ["TooMany"] ["NoLine"] ys
 refine⟨q4,S4,?_,h4,((x1'.trans x2').trans x3').trans x4'⟩
 unfold Qi
 rw[Uf e1,Uf e2,Uf e3,Uf e4]
 have fi:decide (y∈(["NoText"]:List Str))=true:=by rw[hy]; decide +kernel
 have tt1:∀ sub:List Str,tt (o1 (Jo ys sub) (vr 4)) [x0,x1,x2,some (.lst q4),some (.exn y (some n))] S4=.ok (decide (y∈sub)) S4:=fun sub=>by simp[i,Uh]
 rw[Ue (S1:=S4) (by rw[tt1,fi])]
 have:atD ats (.exn y (some n)) S4=.ok (.int n) S4:=if_pos (by rw[hy]; decide +kernel)
 simp[this]
theorem Gs3{p:Nat}(hp:S[p]?=some ⟨false,[]⟩)(hq:S[q]?=some ⟨false,[]⟩):eqD (.lst p) (.lst q) S=.ok (.bl true) S:=by
 have e:∀ i,S[i]?=some ⟨false,[]⟩->toP S 40 (.lst i)=some (.list []):=fun i h=>by
  show(match S[i]? with | some c=>(Kq (toP S 39) c.xs).map PyData.list | none=>none)=_
  rw[h]; rfl
 simp only[eqD,e p hp,e q hq]
 rfl
theorem Gni(h:S[q]?=some ⟨false,mks "NoText"⟩):∃ S',Kb [.lst q] S=.ok (.str "notext") S'/\Ex S S':=by
 obtain⟨S',e,x⟩:=Gs0 Ggb h
 refine⟨S',?_,x⟩
 rw[e]
 kernel_rfl!
theorem Gnj{n:Int}:Wb [.int n] S=.ok (.bl true) S:=by
 refine(Hm (m:=1) (b:=Kh)).trans ?_
 show fin (Kh [some (.int n)] S)=_
 unfold Kh
 rfl
theorem Ym(hT:Wz T):∃ S',Jk [.str T] S=.ok (.bl true) S'/\Ex S S':=by
 obtain⟨W,h0,hW,hl,jn,hs⟩:=Gss hT
 have x1:Ex S (S++[⟨false,W.map D.str⟩]):=Ex.app
 have q1:(S++[(⟨false,W.map D.str⟩:Cell)])[S.length]?=some ⟨false,W.map D.str⟩:=Gv
 have s1:=hs S
 generalize S++[(⟨false,W.map D.str⟩:Cell)]=S1 at x1 q1 s1
 obtain⟨S2,e2,x2⟩:=Gkb hW hl q1
 have x3:Ex S2 (S2++[⟨false,[]⟩]):=Ex.app
 have q3:(S2++[(⟨false,[]⟩:Cell)])[S2.length]?=some ⟨false,[]⟩:=Gv
 generalize hS3:S2++[(⟨false,[]⟩:Cell)]=S3 at x3 q3
 obtain⟨S4,x4,h⟩:=rcanal h0 hW hs (S:=S3)
 have isn:∀ (v:Int) (S:Sto),Wo (.int v) .non S=.ok (.bl false) S:=fun _ _=>rfl
 have isnn:∀ (S:Sto),Wo .non .non S=.ok (.bl true) S:=fun _=>rfl
 have E:Jk [.str T] S=fin (We [some (.str T),none,none,none,none] S):=Hm
 have E:=E.trans (Go (ρ':=[some (.str T),some (on (wr s0 W 0)),none,none,none]) (S':=S2) (by simp[mts,isStr,s1,e2]))
 have E:=E.trans (Go (ρ':=[some (.str T),some (on (wr s0 W 0)),some .non,none,none]) (S':=S2) (by simp))
 have E:=E.trans (Go (ρ':=[some (.str T),some (on (wr s0 W 0)),some .non,some (.lst S2.length),none]) (S':=S3) (by simp[<- hS3]))
 rw[E]
 clear E
 rcases h with⟨j,er,hj⟩ | ⟨tl,gs,er,hn,hw,gl,g12,ok,ud⟩
 ·rw[hj]
  have er:=Uo er
  obtain⟨q5,S5,e5,h5,x5⟩:=Gvv (y:="NoText") (n:=(j:Int)) (x0:=some (.str T)) (x1:=some (on (some j))) (x2:=some .non) (x3:=some (.lst S2.length)) (S:=S4) rfl
  obtain⟨S6,e6,x6⟩:=Gni h5
  refine⟨S6,?_,((((x1.trans x2).trans x3).trans x4).trans x5).trans x6⟩
  rw[Go (ρ':=[some (.str T),some (on (some j)),some (.int j),some (.lst q5),none]) (S':=S5) (by
   rw[Gnh (x:=⟨"NoText",some (j:Int)⟩) (ρ':=[some (.str T),some (on (some j)),some .non,some (.lst S2.length),none]) (S':=S4) (by simp[Qh,er,bindS_exc]) Ggb]
   exact Gs2 (ρ':=[some (.str T),some (on (some j)),some (.int j),some (.lst q5),some (.exn "NoText" (some (j:Int)))]) e5)]
  simp[on,isn,e6,ell,Gnj,fin]
 ·rw[hn]
  have er:=Xh er
  have x5:Ex S4 (S4++[⟨false,[]⟩]):=Ex.app
  have q5:(S4++[(⟨false,[]⟩:Cell)])[S4.length]?=some ⟨false,[]⟩:=Gv
  have eq5:=Gs3 (x5.at (x4.at q3)) q5
  generalize hS5:S4++[(⟨false,[]⟩:Cell)]=S5 at x5 q5 eq5
  obtain⟨S6,e6,x6⟩:=Gj6 (S:=S5) ok ud gl g12
  rw[Ghi gl,<- hw,jn] at e6
  have et:eqD (.str T) (.str T) S6=.ok (.bl true) S6:=by rw[Yk hT.ok hT.ok]; simp
  refine⟨S6,?_,((((x1.trans x2).trans x3).trans x4).trans x5).trans x6⟩
  rw[Go (ρ':=[some (.str T),some (on none),some (cnl .e tl gs),some (.lst S2.length),none]) (S':=S4) (Gs1 (by simp[Qh,er]))]
  generalize cnl .e tl gs=cd at *
  simp[on,isnn,hS5,eq5,e6,et,fin]
def Wq(z:Str):Prop:=z.length<=17/\∀ c∈z.cps.toList,c<128
def SL(S:Sto)(q n:Nat):Prop:=∃ ws:List Str,S[q]?=some ⟨false,ws.map D.str⟩/\ws.length<=n/\∀ z∈ws,Wq z
theorem SL.ext(h:SL S q n)(x:Ex S S'):SL S' q n:=let ⟨ws,a,b⟩:=h; ⟨ws,x.at a,b⟩
theorem SL.kp(h:SL S q n)(x:Kp S S' t k)(h1:q≠t)(h2:q≠k):SL S' q n:=let ⟨ws,a,b⟩:=h; ⟨ws,x.at a h1 h2,b⟩
theorem SL.mono{m:Nat}(h:SL S q n)(x:n<=m):SL S q m:=let ⟨ws,a,b,c⟩:=h; ⟨ws,a,Nat.le_trans b x,c⟩
def wqB(s:String):Bool:=decide ((Str.ofString s).length<=17)&&(Str.ofString s).cps.toList.all fun c=>decide (c<128)
theorem Ged{s:String}(h:wqB s=true):Wq (Str.ofString s):=by
 unfold wqB at h
 simp only[Bool.and_eq_true,List.all_eq_true,decide_eq_true_eq] at h
 exact h
theorem Gnk(h:∀ z∈ws,Wq z)(hl:ws.length<=1000):Wz (Txt.join " " ws):=by
 rw[Ge9]
 refine⟨by have:=Ga8 (c:=32) ws fun p hp=>(h p hp).1; omega,?_⟩
 have:∀ l:List Str,(∀ z∈l,Wq z)->∀ c∈(Str.join ⟨#[32]⟩ l).cps.toList,c<128:=fun l=>by
  induction l with
  | nil=>intro _ c hc; exact absurd hc (by show c∉([]:List Nat); simp)
  | cons x r ih=>
   cases r with
   | nil=>intro h; exact(h x List.mem_cons_self).2
   | cons y r=>
    intro h c hc
    rw[SP.join_two] at hc
    rcases List.mem_append.mp hc with hc | hc
    ·exact(h x List.mem_cons_self).2 c hc
    ·rcases List.mem_cons.mp hc with rfl | hc
     ·decide
     ·exact ih (fun z hz=>h z (List.mem_cons_of_mem _ hz)) c hc
 exact this ws h
theorem SL.join(h:SL S q n)(hn:n<=1000):∃ T,Xm (.str " ") [.lst q] S=.ok (.str T) S/\Wz T/\T.length<=18000:=by
 obtain⟨ws,a,b,c⟩:=h
 refine⟨_,Gj1 a (fun p hp=>(c p hp).1) (by omega),Gnk c (by omega),?_⟩
 rw[Ge9]
 have:=Ga8 (c:=32) ws fun p hp=>(c p hp).1
 omega
def GL(e:Ev D)(ρ:Lc)(S:Sto)(n lo:Nat):Prop:=∃ q S',e ρ S=.ok (.lst q) S'/\SL S' q n/\Ex S S'/\lo<=q
theorem Ug{e1 e2:Ev D}{m lo' lo2:Nat}(h1:GL e1 ρ S n lo)(h2:∀ S',Ex S S'->GL e2 ρ S' m lo')(hl:n+m<=1000)(hlo:lo2<=S.length):GL (o2 Gz e1 e2) ρ S (n+m) lo2:=by
 obtain⟨q1,S1,e1',⟨ws1,a1,b1,c1⟩,x1,_⟩:=h1
 obtain⟨q2,S2,e2',⟨ws2,a2,b2,c2⟩,x2,_⟩:=h2 S1 x1
 have ad:=Xv (x2.at a1) a2 (by simp only[List.length_map]; omega)
 refine⟨S2.length,S2++[⟨false,ws1.map D.str++ws2.map D.str⟩],by simp[e1',e2',ad],⟨ws1++ws2,by rw[Gv,List.map_append],by simp; omega,fun z hz=>?_⟩,(x1.trans x2).trans Ex.app,by have:=x1.len; have:=x2.len; omega⟩
 rcases List.mem_append.mp hz with h | h
 ·exact c1 z h
 ·exact c2 z h
theorem gl_sl{fl fh:Ev (Option Int)}{l h:Option Int}(hi:ρ[i]?=some (some (.lst q)))(s:SL S q n)(hl:fl ρ S=.ok l S)(hh:fh ρ S=.ok h S)(hlo:lo<=S.length):GL (sl2 (vr i) fl fh) ρ S n lo:=by
 obtain⟨ws,a,b,c⟩:=s
 have sl:=Gsp (lo:=l) (hi:=h) a
 have cut:∃ ws':List Str,DL.Uq (ws.map D.str) l h=ws'.map D.str/\ws'.length<=ws.length/\∀ z∈ws',z∈ws:=by
  unfold DL.Uq
  refine⟨_,by rw[<- List.map_drop,<- List.map_take],by simp; omega,fun z hz=>List.mem_of_mem_drop (List.mem_of_mem_take hz)⟩
 obtain⟨ws',e,l',m'⟩:=cut
 rw[e] at sl
 refine⟨S.length,S++[⟨false,ws'.map D.str⟩],by simp[hi,hl,hh,sl],⟨ws',Gv,by omega,fun z hz=>c z (m' z hz)⟩,Ex.app,hlo⟩
theorem Gkf(hi:ρ[i]?=some (some (.lst q)))(s:SL S q n)(hlo:lo<=q):GL (vr i) ρ S n lo:=⟨q,S,by simp[hi],s,.refl,hlo⟩
theorem Gfg{f:Ev D}(h:f ρ S=.ok (.str z) S)(hz:Wq z)(hlo:lo<=S.length):GL (ls (ac f an)) ρ S 1 lo:=⟨S.length,S++[⟨false,[.str z]⟩],by simp[h],⟨[z],Gv,by simp,fun y hy=>by rw[List.mem_singleton.mp hy]; exact hz⟩,Ex.app,hlo⟩
def Gbb:List String:=["","up","down","end","chamber","pound","0","1","3","4","5","9","10","99","100","01","00","-1","+1","1_0","1.","x","End","ends","up\n","1\n","\tend","pound 1","None","a"]
theorem Gs4:∀ s∈Gbb,wqB s=true:=by decide +kernel
abbrev rsp(t q qo:Nat)(at0:Int)(z:Str)(way:Int)(q6 q7:Nat):Lc:=[some (.lst t),some (.lst q),some (.lst qo),some (.int at0),some (.str z),some (.int way),some (.lst q6),some (.lst q7)]
theorem Gee(d:Dp S t k n)(hn:n<2^59)(sl:SL S q N)(hN:N<=240)(n0:∀ c,S[q]?=some c->0<c.xs.length)(h1:q≠t)(h2:q≠k):∃ q' S',Hw [.lst t,.lst q] S=.ok (.lst q') S'/\SL S' q' (3*N+1)/\Dp S' t k (n+3)/\S.length<=q':=by
 obtain⟨ws,a,b,c⟩:=sl
 have n0:=n0 _ a
 rw[List.length_map] at n0
 have lt:=d.lt
 have lq:q<S.length:=(List.getElem?_eq_some_iff.mp a).1
 have x1:Ex S (S++[⟨false,Gbb.map fun s=>D.str (Str.ofString s)⟩]):=Ex.app
 have o1:(S++[(⟨false,Gbb.map fun s=>D.str (Str.ofString s)⟩:Cell)])[S.length]?=some ⟨false,Gbb.map fun s=>D.str (Str.ofString s)⟩:=Gv
 have d1:Dp (S++[⟨false,Gbb.map fun s=>D.str (Str.ofString s)⟩]) t k n:=d.app
 have E:Hw [.lst t,.lst q] S=fin (Ud [some (.lst t),some (.lst q),none,none,none,none,none,none] S):=Hm
 have E:=E.trans (Go (ρ':=[some (.lst t),some (.lst q),some (.lst S.length),none,none,none,none,none]) (S':=S++[⟨false,Gbb.map fun s=>D.str (Str.ofString s)⟩]) rfl)
 generalize S++[(⟨false,Gbb.map fun s=>D.str (Str.ofString s)⟩:Cell)]=S1 at *
 have a1:=x1.at a
 have ln:=Wh a1
 rw[List.length_map] at ln
 obtain⟨at0,S2,e2,r20,r21,d2,k2⟩:=Jj (m:=(ws.length:Int)) d1 (by omega) (by omega) (by omega)
 have E:=E.trans (Go (ρ':=[some (.lst t),some (.lst q),some (.lst S.length),some (.int at0),none,none,none,none]) (S':=S2) (by simp[ln,e2]))
 have o2':=k2.at o1 (by omega) (by omega)
 have a2:=k2.at a1 h1 h2
 obtain⟨r3,S3,e3,r30,r31,d3,k3⟩:=Jj (m:=30) d2 (by omega) (by decide) (by decide)
 have o3:=k3.at o2' (by omega) (by omega)
 have a3:=k3.at a2 h1 h2
 have hr:r3.toNat<Gbb.length:=by show _<30; omega
 have g3:DL.getD (.lst S.length) (.int r3) S3=.ok (.str (Str.ofString Gbb[r3.toNat])) S3:=Qk o3 (Kl r30 (by rw[List.getElem?_map,List.getElem?_eq_getElem hr]; rfl))
 have hz:Wq (Str.ofString Gbb[r3.toNat]):=Ged (Gs4 _ (List.getElem_mem hr))
 generalize Str.ofString Gbb[r3.toNat]=z at g3 hz
 have E:=E.trans (Go (ρ':=[some (.lst t),some (.lst q),some (.lst S.length),some (.int at0),some (.str z),none,none,none]) (S':=S3) (by simp[e3,g3]))
 obtain⟨way,S4,e4,r40,r41,d4,k4⟩:=Jj (m:=7) d3 (by omega) (by decide) (by decide)
 have a4:=k4.at a3 h1 h2
 have E:=E.trans (Go (ρ':=[some (.lst t),some (.lst q),some (.lst S.length),some (.int at0),some (.str z),some (.int way),none,none]) (S':=S4) (by simp[e4]))
 have l4:S.length<=S4.length:=by have:=x1.len; have:=k2.len; have:=k3.len; have:=k4.len; omega
 have s4:SL S4 q N:=⟨ws,a4,b,c⟩
 obtain⟨q6,S6,e6,s6,x6,l6⟩:=gl_sl (i:=1) (n:=N) (lo:=S.length) (fl:=onone) (fh:=osome (vr 3)) (l:=none) (h:=some at0) (ρ:=[some (.lst t),some (.lst q),some (.lst S.length),some (.int at0),some (.str z),some (.int way),none,none]) rfl s4 (by simp) (by simp) l4
 have E:=E.trans (Go (ρ':=[some (.lst t),some (.lst q),some (.lst S.length),some (.int at0),some (.str z),some (.int way),some (.lst q6),none]) (S':=S6) (by rw[Gd9,e6]; rfl))
 obtain⟨q7,S7,e7,s7,x7,l7⟩:=gl_sl (i:=1) (n:=N) (lo:=S.length) (fl:=osome (o2 Gz (vr 3) (cn (.int 1)))) (fh:=onone) (l:=some (at0+1)) (h:=none) (ρ:=[some (.lst t),some (.lst q),some (.lst S.length),some (.int at0),some (.str z),some (.int way),some (.lst q6),none]) rfl (s4.ext x6) (by simp) (by simp) (by have:=x6.len; omega)
 have E:=E.trans (Go (ρ':=rsp t q S.length at0 z way q6 q7) (S':=S7) (by rw[Gd9,e7]; rfl))
 rw[E]
 clear E
 have at':ws[at0.toNat]?=some (ws[at0.toNat]'(by omega)):=List.getElem?_eq_getElem (by omega)
 have hy:Wq (ws[at0.toNat]'(by omega)):=c _ (List.getElem_mem (by omega))
 generalize ws[at0.toNat]'(by omega)=y at at' hy
 have s7':=(s4.ext x6).ext x7
 have s6':=s6.ext x7
 have l7':S.length<=S7.length:=by have:=x6.len; have:=x7.len; omega
 have gy:∀ S',Ex S7 S'->DL.getD (.lst q) (.int at0) S'=.ok (.str y) S':=fun S' x=>Qk (x.at (x7.at (x6.at a4))) (Kl r20 (by rw[List.getElem?_map,at']; rfl))
 have ok:∀ {e:Ev D} {m:Nat},GL e (rsp t q S.length at0 z way q6 q7) S7 m S.length->m<=3*N+1->∃ q' S',e (rsp t q S.length at0 z way q6 q7) S7=.ok (.lst q') S'/\SL S' q' (3*N+1)/\Dp S' t k (n+3)/\S.length<=q':=fun{e m} ⟨q',S',a,b,x,l⟩ hm=>⟨q',S',a,b.mono hm,(((d4.ext x6).ext x7).ext x),l⟩
 have v6:GL (vr 6) (rsp t q S.length at0 z way q6 q7) S7 N S.length:=Gkf rfl s6' l6
 have v7:∀ S',Ex S7 S'->GL (vr 7) (rsp t q S.length at0 z way q6 q7) S' N 0:=fun S' x=>Gkf rfl (s7.ext x) (Nat.zero_le _)
 have one:∀ S',Ex S7 S'->GL (ls (ac (vr 4) an)) (rsp t q S.length at0 z way q6 q7) S' 1 0:=fun S' x=>Gfg (z:=z) (by simp) hz (Nat.zero_le _)
 have own:∀ S',Ex S7 S'->GL (ls (ac (o2 DL.getD (vr 1) (vr 3)) an)) (rsp t q S.length at0 z way q6 q7) S' 1 0:=fun S' x=>Gfg (z:=y) (by simp[gy S' x]) hy (Nat.zero_le _)
 have tail:∀ S',Ex S7 S'->GL (sl2 (vr 1) (osome (vr 3)) onone) (rsp t q S.length at0 z way q6 q7) S' N 0:=fun S' x=>gl_sl (q:=q) rfl (s7'.ext x) (by simp; rfl) (by simp; rfl) (Nat.zero_le _)
 by_cases c1:way<2
 ·obtain⟨q',S',e,s,dd,l⟩:=ok (Ug (lo2:=S.length) (Ug (lo2:=0) v6 one (by omega) (Nat.zero_le _)) v7 (by omega) l7') (by omega)
  exact⟨q',S',Jn (by rw[Ue (S1:=S7) (by simp[c1])]; simp only[Uk,e,Hi]),s,dd,l⟩
 rw[Go (ρ':=rsp t q S.length at0 z way q6 q7) (S':=S7) ((Vj (S1:=S7) (by simp[c1])).trans Qs)]
 by_cases c2:way=2
 ·obtain⟨q',S',e,s,dd,l⟩:=ok (Ug (lo2:=S.length) (Ug (lo2:=0) v6 one (by omega) (Nat.zero_le _)) tail (by omega) l7') (by omega)
  exact⟨q',S',Jn (by rw[Ue (S1:=S7) (by simp[c2])]; simp only[Uk,e,Hi]),s,dd,l⟩
 rw[Go (ρ':=rsp t q S.length at0 z way q6 q7) (S':=S7) ((Vj (S1:=S7) (by simp[c2])).trans Qs)]
 by_cases c3:way=3
 ·obtain⟨q',S',e,s,dd,l⟩:=ok (Ug (lo2:=S.length) (Ug (lo2:=0) v6 own (by omega) (Nat.zero_le _)) tail (by omega) l7') (by omega)
  exact⟨q',S',Jn (by rw[Ue (S1:=S7) (by simp[c3])]; simp only[Uk,e,Hi]),s,dd,l⟩
 rw[Go (ρ':=rsp t q S.length at0 z way q6 q7) (S':=S7) ((Vj (S1:=S7) (by simp[c3])).trans Qs)]
 by_cases c4:way=4
 ·obtain⟨q',S',e,s,dd,l⟩:=ok (Ug (lo2:=S.length) v6 v7 (by omega) l7') (by omega)
  exact⟨q',S',Jn (by rw[Ue (S1:=S7) (by simp[c4])]; simp only[Uk,e,Hi]),s,dd,l⟩
 rw[Go (ρ':=rsp t q S.length at0 z way q6 q7) (S':=S7) ((Vj (S1:=S7) (by simp[c4])).trans Qs)]
 by_cases c5:way=5
 ·obtain⟨q',S',e,s,dd,l⟩:=ok (Ug (lo2:=S.length) (Ug (lo2:=0) (Ug (lo2:=0) v6 (fun S' x=>gl_sl (i:=7) (lo:=0) (q:=q7) (fl:=onone) (fh:=osome (cn (.int 1))) rfl (s7.ext x) (by simp; rfl) (by simp; rfl) (Nat.zero_le _)) (by omega) (Nat.zero_le _)) own (by omega) (Nat.zero_le _)) (fun S' x=>gl_sl (i:=7) (lo:=0) (q:=q7) (fl:=osome (cn (.int 1))) (fh:=onone) rfl (s7.ext x) (by simp; rfl) (by simp; rfl) (Nat.zero_le _)) (by omega) l7') (by omega)
  exact⟨q',S',Jn (by rw[Ue (S1:=S7) (by simp[c5])]; simp only[Uk,e,Hi]),s,dd,l⟩
 rw[Go (ρ':=rsp t q S.length at0 z way q6 q7) (S':=S7) ((Vj (S1:=S7) (by simp[c5])).trans Qs)]
 obtain⟨q',S',e,s,dd,l⟩:=ok v6 (by omega)
 exact⟨q',S',by simp only[Uk,e,Hi,Gjt],s,dd,l⟩
theorem Gw7{x:D}(h:x∈[D.str "up",.str "down"]):∃ z:Str,x=.str z/\Wq z:=by
 simp only[List.mem_cons,List.mem_nil_iff,or_false] at h
 rcases h with rfl | rfl
 ·exact⟨_,rfl,Ged (by decide +kernel)⟩
 ·exact⟨_,rfl,Ged (by decide +kernel)⟩
theorem Gvw(d:Dp S t k n)(hn:n<2^59)(s:SL S q N)(hN:N<=100)(h1:q≠t)(h2:q≠k):∃ q' S',Ki [some (.lst t),some (.lst q),x2] S=.nx [some (.lst t),some (.lst q'),x2] S'/\SL S' q' (N+2)/\Dp S' t k (n+1)/\S.length<=q':=by
 obtain⟨ws,a,b,c⟩:=s
 have lt:=d.lt
 obtain⟨r,x,S1,e1,g1,mx,d1,k1⟩:=Ul (xs:=[.str "up",.str "down"]) (m:=2) d (by omega) rfl (by decide) (by decide)
 obtain⟨z,rfl,hz⟩:=Gw7 mx
 have a1:=k1.at a h1 h2
 have x2':Ex S1 (S1++[⟨false,[.str z,.str "chamber"]⟩]):=Ex.app
 have q2:(S1++[(⟨false,[.str z,.str "chamber"]⟩:Cell)])[S1.length]?=some ⟨false,[.str z,.str "chamber"]⟩:=Gv
 have e2:∀ ρ:Lc,True:=fun _=>trivial
 generalize hS2:S1++[(⟨false,[.str z,.str "chamber"]⟩:Cell)]=S2 at *
 have ad:=Xv (x2'.at a1) q2 (by simp; omega)
 refine⟨S2.length,S2++[⟨false,ws.map D.str++[.str z,.str "chamber"]⟩],by simp[Ki,e1,g1,hS2,ad],⟨ws++[z,"chamber"],by rw[Gv,List.map_append]; rfl,by simp; omega,fun y hy=>?_⟩,(d1.ext x2').app,by have:=k1.len; have:=x2'.len; omega⟩
 rcases List.mem_append.mp hy with h | h
 ·exact c y h
 ·simp only[List.mem_cons,List.mem_nil_iff,or_false] at h
  rcases h with rfl | rfl
  ·exact hz
  ·exact Ged (by decide +kernel)
theorem Gef{l:List String}(h:S[q]?=some ⟨false,l.map fun s=>D.str (Str.ofString s)⟩)(hw:∀ s∈l,wqB s=true)(hl:l.length<=4):SL S q 4:=⟨l.map Str.ofString,by rw[h,List.map_map]; rfl,by simp; exact hl,fun z hz=>by
 obtain⟨s,hs,rfl⟩:=List.mem_map.mp hz
 exact Ged (hw s hs)⟩
theorem Gvx(d:Dp S t k n)(hn:n<2^59)(s:SL S q N)(hN:N<=100)(h1:q≠t)(h2:q≠k):∃ q' S',Kj [some (.lst t),some (.lst q),x2] S=.nx [some (.lst t),some (.lst q'),x2] S'/\SL S' q' (N+5)/\Dp S' t k (n+1)/\S.length<=q':=by
 have lt:=d.lt
 obtain⟨q1,S1,e1,s1,x1,l1⟩:=Ug (e2:=ls (ac (cn (.str "up")) an)) (lo2:=S.length) (Gkf (lo:=0) (i:=1) (ρ:=[some (.lst t),some (.lst q),x2]) rfl s (Nat.zero_le _)) (fun S' _=>Gfg (lo:=0) (z:="up") (by simp) (Ged (by decide +kernel)) (Nat.zero_le _)) (by omega) (Nat.le_refl _)
 have d1:=d.ext x1
 have e2:∀ ρ:Lc,ac (ls (ac (cn (.str "pound")) (ac (cn (.str "2")) (ac (cn (.str "1")) (ac (cn (.str "1")) an))))) (ac (ls (ac (cn (.str "chamber")) an)) (ac (ls (ac (cn (.str "end")) an)) (ac (ls (ac (cn (.str "chamber")) an)) an))) ρ S1=.ok [.lst S1.length,.lst (S1.length+1),.lst (S1.length+2),.lst (S1.length+3)] (S1++[⟨false,[.str "pound",.str "2",.str "1",.str "1"]⟩,⟨false,[.str "chamber"]⟩,⟨false,[.str "end"]⟩,⟨false,[.str "chamber"]⟩]):=fun ρ=>by simp
 have wq:∀ j:Nat,(S1++[(⟨false,[.str "pound",.str "2",.str "1",.str "1"]⟩:Cell),⟨false,[.str "chamber"]⟩,⟨false,[.str "end"]⟩,⟨false,[.str "chamber"]⟩])[S1.length+j]?=[(⟨false,[.str "pound",.str "2",.str "1",.str "1"]⟩:Cell),⟨false,[.str "chamber"]⟩,⟨false,[.str "end"]⟩,⟨false,[.str "chamber"]⟩][j]?:=fun j=>by
  rw[List.getElem?_append_right (by omega)]
  congr 1
  omega
 have x2':Ex S1 (S1++[(⟨false,[.str "pound",.str "2",.str "1",.str "1"]⟩:Cell),⟨false,[.str "chamber"]⟩,⟨false,[.str "end"]⟩,⟨false,[.str "chamber"]⟩]):=⟨by simp,fun i h=>by rw[List.getElem?_append_left h]⟩
 have p0:=Gef (l:=["pound","2","1","1"]) (wq 0) (by decide +kernel) (by decide)
 have p1:=Gef (l:=["chamber"]) (wq 1) (by decide +kernel) (by decide)
 have p2:=Gef (l:=["end"]) (wq 2) (by decide +kernel) (by decide)
 have p3:=Gef (l:=["chamber"]) (wq 3) (by decide +kernel) (by decide)
 have lt1:=d1.lt
 generalize S1++[(⟨false,[.str "pound",.str "2",.str "1",.str "1"]⟩:Cell),⟨false,[.str "chamber"]⟩,⟨false,[.str "end"]⟩,⟨false,[.str "chamber"]⟩]=S2 at *
 obtain⟨r,x,S3,e3,g3,mx,d3,k3⟩:=Ul (xs:=[.lst (S1.length+0),.lst (S1.length+1),.lst (S1.length+2),.lst (S1.length+3)]) (m:=4) (d1.ext x2') (by omega) rfl (by simp) (by simp)
 have s1':=(s1.ext x2').kp k3 (by omega) (by omega)
 obtain⟨q4,rfl,s4⟩:∃ q4,x=.lst q4/\SL S3 q4 4:=by
  simp only[List.mem_cons,List.mem_nil_iff,or_false] at mx
  rcases mx with rfl | rfl | rfl | rfl
  ·exact⟨_,rfl,p0.kp k3 (by omega) (by omega)⟩
  ·exact⟨_,rfl,p1.kp k3 (by omega) (by omega)⟩
  ·exact⟨_,rfl,p2.kp k3 (by omega) (by omega)⟩
  ·exact⟨_,rfl,p3.kp k3 (by omega) (by omega)⟩
 obtain⟨ws1,a1,b1',c1⟩:=s1'
 obtain⟨ws4,a4,b4,c4⟩:=s4
 have ad:=Xv a1 a4 (by simp only[List.length_map]; omega)
 refine⟨S3.length,S3++[⟨false,ws1.map D.str++ws4.map D.str⟩],?_,⟨ws1++ws4,by rw[Gv,List.map_append],by simp; omega,fun y hy=>?_⟩,d3.app,by have:=x1.len; have:=x2'.len; have:=k3.len; omega⟩
 ·have e4:o2 DL.getD (ls (ac (ls (ac (cn (.str "pound")) (ac (cn (.str "2")) (ac (cn (.str "1")) (ac (cn (.str "1")) an))))) (ac (ls (ac (cn (.str "chamber")) an)) (ac (ls (ac (cn (.str "end")) an)) (ac (ls (ac (cn (.str "chamber")) an)) an))))) (cl 2 (Gs Gj) (ac (vr 0) (ac (cn (.int 4)) an))) [some (.lst t),some (.lst q),x2] S1=.ok (.lst q4) S3:=by
   rw[Yj,Gva,e2]
   simp only[Nat.add_zero] at e3
   simp[e3,g3]
  unfold Kj
  rw[Gd9,Yj,e1,Gy,e4,Gy,ad]
  rfl
 ·rcases List.mem_append.mp hy with h | h
  ·exact c1 y h
  ·exact c4 y h
theorem Gnl(d:Dp S t k n)(hn:n<2^58):∃ q' S',Qc [.lst t] S=.ok (.lst q') S'/\SL S' q' 100/\Dp S' t k (n+30)/\S.length<=q':=by
 have lt:=d.lt
 have x1:Ex S (S++[⟨false,[.str "end"]⟩]):=Ex.app
 have s1:SL (S++[⟨false,[.str "end"]⟩]) S.length 4:=Gef (l:=["end"]) Gv (by decide +kernel) (by decide)
 have d1:Dp (S++[⟨false,[.str "end"]⟩]) t k n:=d.app
 have E:Qc [.lst t] S=fin (Xg [some (.lst t),none,none] S):=Hm
 have E:=E.trans (Go (ρ':=[some (.lst t),some (.lst S.length),none]) (S':=S++[⟨false,[.str "end"]⟩]) (by simp))
 generalize S++[(⟨false,[.str "end"]⟩:Cell)]=S1 at *
 obtain⟨r,S2,e2,r0,r1,d2,k2⟩:=Jj (m:=4) d1 (by omega) (by decide) (by decide)
 obtain⟨m,hm⟩:∃ m:Nat,9+r=m:=⟨(9+r).toNat,by omega⟩
 have i2:ir1 (ac (o2 Gz (cn (.int 9)) (cl 2 (Gs Gj) (ac (vr 0) (ac (cn (.int 4)) an)))) an) [some (.lst t),some (.lst S.length),none] S1=.ok (rsrc 0 m) S2:=Yy (by simp[e2,hm]) (by omega)
 have s2:=s1.kp k2 (by omega) (by omega)
 obtain⟨ρ3,S3,e3,q3,y3,eρ3,s3,d3,l3⟩:=Km (nxt:=(rsrc 0 m).nxt) (g:=gn 2) (b:=Ki) (l:=(List.range m).map fun k:Nat=>D.int (k:Int))
  (fun i ρ S'=>∃ q' y,ρ=[some (.lst t),some (.lst q'),y]/\SL S' q' (4+2*i)/\Dp S' t k (n+1+i)/\S.length<=q')
  (fun i _ S _=>Wf) (fun i dd ρ S' hd ⟨q',y,a,b,c,l⟩=>by
   obtain⟨hi,rfl⟩:=Ga6 hd
   subst a
   obtain⟨q2,S'',g1,g2,g3,g4⟩:=Gvw (x2:=some (.int i)) c (by omega) b (by omega) (by omega) (by omega)
   exact⟨_,_,S'',rfl,g1,q2,_,rfl,g2.mono (by omega),g3.mono (by omega),by have:=c.lt; have:=(List.getElem?_eq_some_iff.mp (Classical.choose_spec b).1).1; omega⟩) (m+1) 0 [some (.lst t),some (.lst S.length),none] S2 (Nat.zero_le _) ⟨_,_,rfl,s2,d2,Nat.le_refl _⟩ (by simp)
 subst eρ3
 have E:=E.trans (Go (by rw[Kx,i2,Hi]; exact e3))
 rw[List.length_map,List.length_range] at s3 d3
 obtain⟨r4,S4,e4,r40,r41,d4,k4⟩:=Jj (m:=3) d3 (by omega) (by decide) (by decide)
 obtain⟨m4,hm4⟩:∃ m:Nat,1+r4=m:=⟨(1+r4).toNat,by omega⟩
 have i4:ir1 (ac (o2 Gz (cn (.int 1)) (cl 2 (Gs Gj) (ac (vr 0) (ac (cn (.int 3)) an)))) an) [some (.lst t),some (.lst q3),y3] S3=.ok (rsrc 0 m4) S4:=Yy (by simp[e4,hm4]) (by omega)
 have s4:=s3.kp k4 (by omega) (by omega)
 obtain⟨ρ5,S5,e5,q5,y5,eρ5,s5,d5,l5⟩:=Km (nxt:=(rsrc 0 m4).nxt) (g:=gn 2) (b:=Kj) (l:=(List.range m4).map fun k:Nat=>D.int (k:Int))
  (fun i ρ S'=>∃ q' y,ρ=[some (.lst t),some (.lst q'),y]/\SL S' q' (4+2*m+5*i)/\Dp S' t k (n+1+m+1+i)/\S.length<=q')
  (fun i _ S _=>Wf) (fun i dd ρ S' hd ⟨q',y,a,b,c,l⟩=>by
   obtain⟨hi,rfl⟩:=Ga6 hd
   subst a
   obtain⟨q2,S'',g1,g2,g3,g4⟩:=Gvx (x2:=some (.int i)) c (by omega) b (by omega) (by omega) (by omega)
   exact⟨_,_,S'',rfl,g1,q2,_,rfl,g2.mono (by omega),g3.mono (by omega),by have:=c.lt; have:=(List.getElem?_eq_some_iff.mp (Classical.choose_spec b).1).1; omega⟩) (m4+1) 0 [some (.lst t),some (.lst q3),y3] S4 (Nat.zero_le _) ⟨_,_,rfl,s4,d4,l3⟩ (by simp)
 subst eρ5
 have E:=E.trans (Go (by rw[Kx,i4,Hi]; exact e5))
 rw[List.length_map,List.length_range] at s5 d5
 refine⟨q5,S5,?_,s5.mono (by omega),d5.mono (by omega),l5⟩
 rw[E]
 simp[fin]
theorem Gkg{S:Sto}{n:Nat}:∀ ws:List Str,Kq (toP S (n+1)) (ws.map D.str)=some (ws.map PyData.str)
 | []=>rfl
 | z::r=>by
  rw[List.map_cons,List.map_cons]
  have e:toP S (n+1) (.str z)=some (.str z):=rfl
  simp only[Kq,Gkg r,e]
theorem Gkh:∀ ws:List Str,(∀ z∈ws,Wq z)->PyData.canLayAll0 (ws.map .str)=true/\PyData.depthAll (ws.map .str)=0
 | [],_=>⟨rfl,rfl⟩
 | z::r,h=>by
  have hz:=h z List.mem_cons_self
  have o:PyData.strOk z=true:=Wz.ok ⟨by have:=hz.1; omega,hz.2⟩
  have i:=Gkh r fun y hy=>h y (List.mem_cons_of_mem _ hy)
  simp[PyData.canLayAll0,PyData.canLay0,PyData.depthAll,PyData.depth,i,o]
theorem Gvy{p:Nat}(hp:S[p]?=some ⟨false,ws.map D.str⟩)(hw:∀ z∈ws,Wq z)(hq:S[q]?=some ⟨false,[]⟩):neD (.lst p) (.lst q) S=.ok (.bl (!ws.isEmpty)) S:=by
 have e1:toP S 40 (.lst p)=some (.list (ws.map .str)):=by
  show(match S[p]? with | some c=>(Kq (toP S 39) c.xs).map PyData.list | none=>none)=_
  rw[hp]
  show(Kq (toP S 39) (ws.map D.str)).map PyData.list=_
  rw[Gkg]; rfl
 have e2:toP S 40 (.lst q)=some (.list []):=by
  show(match S[q]? with | some c=>(Kq (toP S 39) c.xs).map PyData.list | none=>none)=_
  rw[hq]; rfl
 simp only[neD,e1,e2]
 have dp:=Gkh ws hw
 rw[if_pos (by simp[SeqAt.shaped,PyData.canLay0,PyData.canLayAll0,dp.1,dp.2,PyData.depth,PyData.depthAll])]
 cases ws<;>rfl
theorem Gki(s:String)(h:wqB s=true):Wq (Str.ofString s):=Ged h
theorem Gnm{i:Int}(h0:0<=i)(h1:i<=99):Wq (ts i):=⟨by have:=Ge8 h0 (by omega:i<=1000); omega,(Gvm h0 h1).2⟩
theorem Gvz{g:Str}(h:g="up"\/g="down"):Wq g:=by
 rcases h with rfl | rfl
 ·exact Gki "up" (by decide +kernel)
 ·exact Gki "down" (by decide +kernel)
theorem Goh(h:p.ok):∀ z∈pw p,Wq z:=fun z hz=>by
 obtain⟨d,hd,e⟩:=List.mem_filterMap.mp hz
 cases p with
 | e=>
  have:d=.str "end":=by simpa[its] using hd
  subst this
  cases (Option.some.inj e)
  exact Gki "end" (by decide +kernel)
 | c=>
  have:d=.str "chamber":=by simpa[its] using hd
  subst this
  cases (Option.some.inj e)
  exact Gki "chamber" (by decide +kernel)
 | p br de ro pr=>
  obtain⟨a1,a2,a3,a4,a5,a6,a7⟩:=h
  simp only[its,List.mem_cons,List.not_mem_nil,or_false] at hd
  rcases hd with rfl | rfl | rfl | rfl | rfl
  ·cases (Option.some.inj e); exact Gki "pound" (by decide +kernel)
  ·cases (Option.some.inj e); exact Gnm (by omega) (by omega)
  ·cases (Option.some.inj e); exact Gnm (by omega) (by omega)
  ·cases (Option.some.inj e); exact Gnm (by omega) (by omega)
  ·rcases a7 with rfl | ⟨i,rfl,i0,i1⟩
   ·cases e
   ·cases (Option.some.inj e); exact Gnm i0 i1
theorem Gv0(hg:UDs gs)(hp:∀ p∈ps,p.ok):∀ z∈tw gs ps,Wq z:=by
 unfold tw
 induction gs generalizing ps with
 | nil=>intro z hz; simp at hz
 | cons g gs ih=>
  cases ps with
  | nil=>intro z hz; simp at hz
  | cons p ps=>
   intro z hz
   rw[List.zipWith_cons_cons,List.flatten_cons,List.mem_append,List.mem_cons] at hz
   rcases hz with(rfl | hz) | hz
   ·exact Gvz (hg _ List.mem_cons_self)
   ·exact Goh (hp p List.mem_cons_self) z hz
   ·exact ih (fun g' h'=>hg g' (List.mem_cons_of_mem _ h')) (fun p' h'=>hp p' (List.mem_cons_of_mem _ h')) z hz
theorem Gkj(hp:∀ p∈p0::tl,p.ok)(hg:UDs gs):∀ z∈words p0 tl gs i,Wq z:=fun z hz=>by
 rcases List.mem_append.mp hz with hz | hz
 ·exact Goh (hp p0 List.mem_cons_self) z hz
 ·exact Gv0 (fun g h=>hg g (List.mem_of_mem_take h)) (fun p h=>hp p (List.mem_cons_of_mem _ (List.mem_of_mem_take h))) z hz
theorem Gkk:∀ {gs:List D},(∀ g∈gs,g=.str "up"\/g=.str "down")->∃ ss:List Str,gs=ss.map D.str/\UDs ss
 | [],_=>⟨[],rfl,fun g hg=>by simp at hg⟩
 | g::gs,h=>by
  obtain⟨ss,e,u⟩:=Gkk (gs:=gs) fun z hz=>h z (List.mem_cons_of_mem _ hz)
  rcases h g List.mem_cons_self with rfl | rfl
  ·exact⟨"up"::ss,by rw[e]; rfl,fun z hz=>by
    rcases List.mem_cons.mp hz with rfl | hz
    ·exact .inl rfl
    ·exact u z hz⟩
  ·exact⟨"down"::ss,by rw[e]; rfl,fun z hz=>by
    rcases List.mem_cons.mp hz with rfl | hz
    ·exact .inr rfl
    ·exact u z hz⟩
theorem Goi{a b:Str}(h:a.length+b.length<=1000000):Gz (.str a) (.str b) S=.ok (.str (a++b)) S:=if_pos h
theorem Gkl{a b:Str}(ha:Wz a)(hb:Wz b)(h:a.length+b.length<=20000):Wz (a++b):=by
 refine⟨by rw[Ga7]; exact h,fun c hc=>?_⟩
 rw[SP.tl_app] at hc
 rcases List.mem_append.mp hc with h | h
 ·exact ha.2 c h
 ·exact hb.2 c h
def Gv1:List String:=[" ","\n","\t","  ","\n\n",";"]
theorem Gnn:∀ s∈Gv1,wqB s=true/\(Str.ofString s).length<=2:=by decide +kernel
theorem Dp.ne_str(d:Dp S t k n)(h:S[q]?=some ⟨false,(z::ws).map D.str⟩):q≠t/\q≠k:=by
 obtain⟨⟨a,b,xs,e1,e2,_⟩,_⟩:=d
 refine⟨fun e=>?_,fun e=>?_⟩
 ·rw[e,e1] at h
  cases h
 ·rw[e,e2] at h
  cases xs with
  | nil=>cases h
  | cons x xs=>cases h
theorem Gno{q0:Nat}{x4 x5:Option D}(d:Dp S t k n)(hn:n<2^56):∃ y3 y4 y5 S',Yh [some (.lst q0),some (.lst t),some (.int i),x3,x4,x5] S=.nx [some (.lst q0),some (.lst t),some (.int i),y3,y4,y5] S'/\Dp S' t k (n+300):=by
 obtain⟨mid,gd,S1,e1,hm,ha,hgu,h1,h2,d1,_⟩:=Gjw (most:=11) d (by omega) (by decide) (by decide)
 obtain⟨gs,eg,ud⟩:=Gkk hgu.2
 have gl:gs.length=mid.length+1:=by have:=hgu.1; rw[eg,List.length_map] at this; exact this
 have ok:∀ p∈Pl.e::(mid++[Pl.e]),p.ok:=fun p hp=>by
  rcases List.mem_cons.mp hp with rfl | hp
  ·trivial
  ·rcases List.mem_append.mp hp with hp | hp
   ·exact(hm p hp).1
   ·rw[List.mem_singleton.mp hp]; trivial
 have e1:Qq [.lst t,.int 11] S=.ok (cnl .e (mid++[.e]) gs) S1:=by rw[e1,eg]; rfl
 have gl2:gs.length=(mid++[Pl.e]).length:=by simp[gl]
 obtain⟨q,S2,e2,q2,x2'⟩:=Ghf (S:=S1) ok gl2 (by omega)
 have d2:=d1.ext x2'
 have wl:=Yz (p0:=.e) (tl:=mid++[.e]) (gs:=gs) (i:=gs.length) (by omega)
 have wq:=Gkj (p0:=.e) (tl:=mid++[.e]) (gs:=gs) (i:=gs.length) ok ud
 have w0:0<(words .e (mid++[.e]) gs gs.length).length:=by unfold words; rw[List.length_append]; have:=(Ga9 (p:=.e)).1; omega
 generalize words .e (mid++[.e]) gs gs.length=ws at q2 wl wq w0
 have nq:q≠t/\q≠k:=by
  cases ws with
  | nil=>simp at w0
  | cons z ws=>exact d2.ne_str q2
 have s2:SL S2 q 77:=⟨ws,q2,wl,wq⟩
 obtain⟨T,j2,hT,lT⟩:=s2.join (by decide)
 obtain⟨r,x,S3,e3,g3,mx,d3,k3⟩:=Ul (xs:=Gv1.map fun s=>D.str (Str.ofString s)) (m:=6) d2 (by omega) rfl (by decide) (by decide)
 obtain⟨z,rfl,hz,lz⟩:∃ z:Str,x=.str z/\Wz z/\z.length<=2:=by
  obtain⟨s,hs,rfl⟩:=List.mem_map.mp mx
  obtain⟨a,b⟩:=Gnn s hs
  have:=Ged a
  exact⟨_,rfl,⟨by omega,this.2⟩,b⟩
 obtain⟨S4,e4,x4'⟩:=Ym (S:=S3) hT
 obtain⟨S5,e5,x5'⟩:=Ym (S:=S4) (Gkl hT hz (by omega))
 obtain⟨S6,e6,x6'⟩:=Ym (S:=S5) (Gkl hz hT (by omega))
 have a1:=fun S=>Goi (S:=S) (show T.length+z.length<=1000000 by omega)
 have a2:=fun S=>Goi (S:=S) (show z.length+T.length<=1000000 by omega)
 have d6:=((d3.ext x4').ext x5').ext x6'
 have q6:=(x6'.at (x5'.at (x4'.at (k3.at q2 nq.1 nq.2))))
 have s6:SL S6 q 77:=⟨ws,q6,wl,wq⟩
 have lt6:=d6.lt
 have br:∃ q7 S7,sif (tb (o2 eqD (vr 2) (cn (.int 7)))) (sa (cl 1 (Gs Qc) (ac (vr 1) an)) (gn 3)) (sa (cl 2 (Gs Hw) (ac (vr 1) (ac (vr 3) an))) (gn 3)) [some (.lst q0),some (.lst t),some (.int i),some (.lst q),some (.str T),some (.str z)] S6=.nx [some (.lst q0),some (.lst t),some (.int i),some (.lst q7),some (.str T),some (.str z)] S7/\SL S7 q7 232/\Dp S7 t k (n+260)/\S6.length<=q7:=by
  by_cases c:(i:Int)=7
  ·obtain⟨q7,S7,e7,s7,d7,l7⟩:=Gnl d6 (by omega)
   exact⟨q7,S7,by rw[Ue (S1:=S6) (by simp[c])]; simp[e7],s7.mono (by omega),d7.mono (by omega),l7⟩
  ·obtain⟨q7,S7,e7,s7,d7,l7⟩:=Gee d6 (by omega) s6 (by decide) (fun c hc=>by rw[q6] at hc; cases hc; simpa using w0) nq.1 nq.2
   exact⟨q7,S7,by rw[Vj (S1:=S6) (by simp[c])]; simp[e7],s7.mono (by omega),d7.mono (by omega),l7⟩
 obtain⟨q7,S7,e7,⟨ws7,q7',wl7,wq7⟩,d7,l7⟩:=br
 have x8:Ex S7 (S7++[⟨false,[]⟩]):=Ex.app
 have n8:=Gvy (x8.at q7') wq7 Gv
 have d8:=d7.ext x8
 have q8:=x8.at q7'
 generalize hS8:S7++[(⟨false,[]⟩:Cell)]=S8 at x8 n8 d8 q8
 have lt7:=d7.lt
 obtain⟨r9,S9,e9,r90,r91,d9,k9⟩:=Jj (m:=3) d8 (by omega) (by decide) (by decide)
 have br:∃ qa Sa,sif (ta (tb (o2 neD (vr 3) (ls an))) (tb (o2 eqD (cl 2 (Gs Gj) (ac (vr 1) (ac (cn (.int 3)) an))) (cn (.int 0))))) (sa (cl 2 (Gs Hw) (ac (vr 1) (ac (vr 3) an))) (gn 3)) DL.skip [some (.lst q0),some (.lst t),some (.int i),some (.lst q7),some (.str T),some (.str z)] S7=.nx [some (.lst q0),some (.lst t),some (.int i),some (.lst qa),some (.str T),some (.str z)] Sa/\SL Sa qa 697/\Dp Sa t k (n+280):=by
  cases hw:ws7.isEmpty with
  | true=>
   rw[hw] at n8
   exact⟨q7,S8,by rw[Vj (S1:=S8) (by simp[hS8,n8])]; rfl,⟨ws7,q8,by omega,wq7⟩,d8.mono (by omega)⟩
  | false=>
   rw[hw] at n8
   have q9:=k9.at q8 (by omega) (by omega)
   by_cases c:r9=0
   ·obtain⟨qa,Sa,ea,sa',da,la⟩:=Gee d9 (by omega) ⟨ws7,q9,wl7,wq7⟩ (by decide) (fun c hc=>by rw[q9] at hc; cases hc; cases ws7 with | nil=>cases hw | cons _ _=>simp) (by omega) (by omega)
    exact⟨qa,Sa,by rw[Ue (S1:=S9) (by simp[hS8,n8,e9,c])]; simp[ea],sa'.mono (by omega),da.mono (by omega)⟩
   ·exact⟨q7,S9,by rw[Vj (S1:=S9) (by simp[hS8,n8,e9,c])]; rfl,⟨ws7,q9,by omega,wq7⟩,d9.mono (by omega)⟩
 obtain⟨qa,Sa,ea,sa',da⟩:=br
 obtain⟨U,jU,hU,_⟩:=sa'.join (by decide)
 obtain⟨Sb,eb,xb⟩:=Ym (S:=Sa) hU
 refine⟨some (.lst qa),some (.str T),some (.str z),Sb,?_,(da.ext xb).mono (by omega)⟩
 unfold Yh
 have e3:Gj [.lst t,.int 6] (S2++[⟨false,[.str " ",.str "\n",.str "\t",.str "  ",.str "\n\n",.str ";"]⟩])=.ok (.int r) S3:=e3
 generalize cnl .e (mid++[.e]) gs=cd at *
 rw[Uf (ρ':=[some (.lst q0),some (.lst t),some (.int i),some (.lst q),x4,x5]) (S1:=S2) (by simp[e1,e2])]
 rw[Uf (ρ':=[some (.lst q0),some (.lst t),some (.int i),some (.lst q),some (.str T),x5]) (S1:=S2) (by simp[mts,isStr,j2])]
 rw[Uf (ρ':=[some (.lst q0),some (.lst t),some (.int i),some (.lst q),some (.str T),some (.str z)]) (S1:=S3) (by simp[e3,g3])]
 rw[Uf (ρ':=[some (.lst q0),some (.lst t),some (.int i),some (.lst q),some (.str T),some (.str z)]) (S1:=S6) ((Vj (S1:=S6) (by simp[e4,a1,e5,a2,e6,Uh])).trans Qs)]
 rw[Uf e7,Uf ea]
 exact(Vj (S1:=Sb) (by simp[mts,isStr,jU,eb,Uh])).trans Qs
theorem Gs5{fz:Bool}{ns:List Int}(e:S[q]?=some ⟨fz,ns.map D.int⟩):∃ S',Gcc [.lst q] S=.ok (.bl true) S':=by
 obtain⟨t,k,S1,e1,d1⟩:=Gm2 e
 obtain⟨ρ2,S2,ef,y2,y3,y4,y5,eρ,d2⟩:=Km (nxt:=(rsrc 0 8).nxt) (g:=gn 2) (b:=Yh) (l:=(List.range 8).map fun k:Nat=>D.int (k:Int))
  (fun i ρ S'=>∃ y2 y3 y4 y5,ρ=[some (.lst q),some (.lst t),y2,y3,y4,y5]/\Dp S' t k (300*i))
  (fun i _ S _=>Wf) (fun i d ρ S' hd ⟨y2,y3,y4,y5,h1',h2'⟩=>by
   obtain⟨hi,rfl⟩:=Ga6 hd
   subst h1'
   obtain⟨z3,z4,z5,S'',c1,c2⟩:=Gno (q0:=q) (i:=i) (x3:=y3) (x4:=y4) (x5:=y5) h2' (by omega)
   exact⟨_,_,S'',rfl,c1,some (.int i),z3,z4,z5,rfl,c2.mono (by omega)⟩) (8+1) 0 [some (.lst q),some (.lst t),none,none,none,none] S1 (Nat.zero_le _) ⟨none,none,none,none,rfl,d1⟩ (by simp)
 subst eρ
 refine⟨S2,?_⟩
 refine(Hm (m:=6) (b:=Gd7)).trans ?_
 show fin (Gd7 [some (.lst q),none,none,none,none,none] S)=_
 unfold Gd7
 refine(Go (ρ':=[some (.lst q),some (.lst t),none,none,none,none]) (S':=S1) (by simp[e1])).trans ?_
 refine(Go (ρ':=[some (.lst q),some (.lst t),y2,y3,y4,y5]) (S':=S2) ?_).trans ?_
 ·rw[Kx,Yy (n:=8) (S':=S1) (by simp) (by omega)]
  exact ef
 simp
theorem Geg{K:PySem.W.Frag}{mp:List Addr}{H:Hp}:∀ ns:List Int,RepL K mp H (ns.map D.int) (ns.map V.int)
 | []=>RepL.nil
 | a::r=>RepL.cons rfl (Geg r)
theorem hsp(K:PySem.W.Frag)(H:Hp)(a:Addr)(ns:List Int)(hl:ns.length<=63)(hO:Only H)(hS:SqL K H a (ns.map V.int)):spD K 1 Gcc [.ref a] H (fun v _=>v=.bl true) fun _ _ _=>False:=by
 have hF:SqF K H a (ns.map V.int):=by
  rcases hS with(h | h) | h
  ·rcases hO a with z | ⟨o,xs,z⟩
   ·rw[z] at h; cases h
   ·rw[z] at h; cases h
  ·exact .inl h
  ·exact .inr h
 obtain⟨S',e⟩:=Gs5 (S:=[⟨true,ns.map D.int⟩]) (q:=0) (fz:=true) (ns:=ns) rfl
 refine⟨[a],[.lst 0],[⟨true,ns.map D.int⟩],⟨rfl,fun i b c h1 h2=>?_,fun i j b ci cj h1 h2 h3 h4 h5 h6=>?_⟩,RepL.cons ⟨a,rfl,rfl⟩ RepL.nil,rfl,?_⟩
 ·cases i with
  | zero=>
   cases (Option.some.inj h1)
   cases (Option.some.inj h2)
   exact⟨ns.map V.int,Geg ns,(if_pos rfl).mpr hF⟩
  | succ i=>simp at h1
 ·cases i with
  | zero=>cases (Option.some.inj h3); cases h5
  | succ i=>simp at h1
 ·show Gnx K [a] H (Gcc [.lst 0] [⟨true,ns.map D.int⟩]) _
  rw[e]
  exact fun mp' H' v _ _ h=>h
end Law
def PySem.W.Fast.tw7745948199028430823:Nat:=0
def PySem.W.Fast.tw11636129086217815854:Nat:=0
def PySem.W.Fast.tw11112739025944013001:Nat:=0
def PySem.W.Fast.tw16457789948548171831:Nat:=0
def PySem.W.Fast.tw13193680389485479599:Nat:=0
def PySem.W.Fast.tw12780741887099815708:Nat:=0
def PySem.W.Fast.tw7305442769627179863:Nat:=0
def PySem.W.Fast.tw4876888557697430481:Nat:=0
def PySem.W.Fast.tw10161996766648346673:Nat:=0
def PySem.W.Fast.tw16388134278226931210:Nat:=0
def PySem.W.Fast.tw3623670374418568182:Nat:=0
def PySem.W.Fast.tw797188880357060537:Nat:=0
def PySem.W.Fast.tw15643761260099209223:Nat:=0
def PySem.W.Fast.tw18340307756875996915:Nat:=0
def PySem.W.Fast.tw6565153829707491788:Nat:=0
def PySem.W.Fast.tw5990844390055808172:Nat:=0
def PySem.W.Fast.tw2839898059005370241:Nat:=0
def PySem.W.Fast.tw7014422822782178212:Nat:=0
def PySem.W.Fast.tw8602895274249638085:Nat:=0
def PySem.W.Fast.tw14312750887469156779:Nat:=0
def PySem.W.Fast.tw17751140533886020717:Nat:=0
def PySem.W.Fast.tw3343132300280982031:Nat:=0
def PySem.W.Fast.tw14908119691034000874:Nat:=0
def PySem.W.Fast.tw8177811491102397774:Nat:=0
def PySem.W.Fast.tw8051390264051757403:Nat:=0
def PySem.W.Fast.tw10797835480166162956:Nat:=0
def PySem.W.Fast.tw2225698401483569511:Nat:=0
def PySem.W.Fast.tw17907824144077645955:Nat:=0
def PySem.W.Fast.tw4197911459680396440:Nat:=0
def PySem.W.Fast.tw13887533260830359210:Nat:=0
def PySem.W.Fast.tw6304818997655450251:Nat:=0
def PySem.W.Fast.tw4273295847691004772:Nat:=0
def PySem.W.Fast.tw9119222153017389081:Nat:=0
def PySem.W.Fast.tw12232763583303760994:Nat:=0
def PySem.W.Fast.tw17585986705060946500:Nat:=0
def PySem.W.Fast.tw13579706404615124483:Nat:=0
def PySem.W.Fast.tw12495128874442612334:Nat:=0
def PySem.W.Fast.tw741132747175286614:Nat:=0
def PySem.W.Fast.tw17195536232714006140:Nat:=0
def PySem.W.Fast.tw4239146427561930342:Nat:=0
def PySem.W.Fast.tw7554141667601241895:Nat:=0
def PySem.W.Fast.tw1366592799203771957:Nat:=0
def PySem.W.Fast.tw10101865720067312583:Nat:=0
def PySem.W.Fast.tw8305836525965335058:Nat:=0
def PySem.W.Fast.tw16165954008866682362:Nat:=0
def PySem.W.Fast.tw1190930473598324242:Nat:=0
def PySem.W.Fast.tw9889912562576352722:Nat:=0
def PySem.W.Fast.tw1763999179777349706:Nat:=0
def PySem.W.Fast.tw11739131181560817247:Nat:=0
def PySem.W.Fast.tw15206327868056673383:Nat:=0
def PySem.W.Fast.tw3816514872559576780:Nat:=0
def PySem.W.Fast.tw15112048555618901494:Nat:=0
def PySem.W.Fast.tw12414067315230293515:Nat:=0
def PySem.W.Fast.tw13151361253454232149:Nat:=0
def PySem.W.Fast.tw18204260943436516044:Nat:=0
def PySem.W.Fast.tw235798234846616605:Nat:=0
def PySem.W.Fast.tw7667715991272190898:Nat:=0
def PySem.W.Fast.tw4360482126150744953:Nat:=0
def PySem.W.Fast.tw3884613877487172257:Nat:=0
def PySem.W.Fast.tw9897474394267024806:Nat:=0
def PySem.W.Fast.tw8546830898490575117:Nat:=0
def PySem.W.Fast.tw13397223451699966822:Nat:=0
def PySem.W.Fast.tw9849250042662414587:Nat:=0
def PySem.W.Fast.tw11844811950983556750:Nat:=0
def PySem.W.Fast.tw15241631281557050608:Nat:=0
def PySem.W.Fast.tw15536282544081959682:Nat:=0
def PySem.W.Fast.tw2988557693727501880:Nat:=0
def PySem.W.Fast.tw4771673437677993519:Nat:=0
def PySem.W.Fast.tw16371279918305989769:Nat:=0
def PySem.W.Fast.tw3942888592426205168:Nat:=0
def PySem.W.Fast.tw4217770520425432717:Nat:=0
def PySem.W.Fast.tw6941022833666376983:Nat:=0
def PySem.W.Fast.tw6664167412687561809:Nat:=0
def PySem.W.Fast.tw6999422094193060264:Nat:=0
def PySem.W.Fast.tw388131969654591150:Nat:=0
def PySem.W.Fast.tw9500606726057739586:Nat:=0
open PySem PySem.W PyProof.Rows
set_option maxHeartbeats 0 in
theorem PySem.Challenge.cw_summitwater_k04_no_canals_texts_holds : PySem.Challenge.rw_summitwater_k04_no_canals_texts.Holds := by
 w_on; o_law; k_head; (case hw=>w_witness2)
 k_fill
 refine L2.Gh3 (l:=PySem.Challenge.rw_summitwater_k04_no_canals_texts) (n:=63) (k:=11) (x:="_law_script") (CX:=L2.CX0) (sp:=fun K=>DL.spD K 1 Law.Gcc) rfl (by decide) rfl ⟨rfl,by decide,by decide,rfl⟩ (fun w h Y=>PySem.W.kIn_of Y) ?F Law.hsp (fun _ _ _ _ z=>z)
 case F=>
  intro w mg fa h KX G hmg
  refine' Law.Gsk KX G hmg ?HS ?x0 ?x1 ?x2 ?x3 ?x4 ?x5 ?x6 ?x7 ?x8 ?x9 ?x10 ?x11 ?x12 ?x13 ?x14 ?x15 ?x16 ?x17 ?x18 ?x19 ?x20 ?x21 ?x22 ?x23 ?x24 ?x25 ?x26 ?x27 ?x28 ?x29 ?x30 ?x31 ?x32 ?x33 ?x34 ?x35 ?x36 ?x37 ?x38
  (case HS=>constructor<;>first | (refine' DL.Gu1 ?a ?l ?c ?k; (case a=>k_is); (case l=>k_is); (case c=>k_is); (case k=>k_is)) | k_is)
  (case x0=>k_is)
  (case x1=>k_is)
  (case x2=>k_is)
  (case x3=>k_is)
  (case x4=>k_is)
  (case x5=>k_is)
  (case x6=>k_is)
  (case x7=>k_is)
  (case x8=>k_is)
  (case x9=>k_is)
  (case x10=>k_is)
  (case x11=>k_is)
  (case x12=>k_is)
  (case x13=>k_is)
  (case x14=>k_is)
  (case x15=>k_is)
  (case x16=>k_is)
  (case x17=>k_is)
  (case x18=>k_is)
  (case x19=>k_is)
  (case x20=>k_is)
  (case x21=>k_is)
  (case x22=>k_is)
  (case x23=>k_is)
  (case x24=>k_is)
  (case x25=>kernel_rfl!)
  (case x26=>kernel_rfl!)
  (case x27=>k_is)
  (case x28=>k_is)
  (case x29=>k_is)
  (case x30=>k_is)
  (case x31=>kernel_rfl!)
  (case x32=>k_is)
  (case x33=>k_is)
  (case x34=>k_is)
  (case x35=>k_is)
  (case x36=>k_is)
  (case x37=>k_is)
  (case x38=>kernel_rfl!)
