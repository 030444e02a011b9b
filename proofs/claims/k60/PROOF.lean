import PyProof.Rows.All
import Wide.All
import OpenK.AllK
import Wide.FinOn
import Lean
import PyProof.EqAt
import PyProof.EqKinds
import PyProof.TupleCall
import PyProof.FactsAll.tuple_2
import PyProof.ListMulRoad
import PyProof.ExcArgsOwn
import PyProof.ZipIter
import PyProof.EnumFor
import PyProof.Rows.StrJoin2
import PyProof.FString
import PyProof.StrBlockH
import PyProof.StrWalks
import PyProof.EnumMake
import KE.KIntText
import PyProof.CallStr
import PyProof.ExcInit
import PyProof.ExcClass3
import PyProof.ExcBaseAll.ValueError
import PyProof.NsDelKeeps
import KE.KTryMore
import PyProof.Rows.CountFlat
import PyProof.Rows.KernelRfl
import PyProof.ListRange
import PyProof.InstStoreFacts
import PyProof.Rows.InDataRows
import PyProof.DictTable
import PyProof.DictRoads
import PyProof.DictStraight
import PySem.Challenge.RW_summitwater_k60_rules_known
set_option maxHeartbeats 4000000
set_option Elab.async false
set_option linter.all false
set_option maxRecDepth 100000
namespace L2
open PySem PySem.Spec PyProof.Rows
variable{us:List Value}{x:Str}{u:Value}{a b:Addr}{P:Program}{w:World}{h base:Heap}{t' j k:Nat}{N ps:List Str}{M:Model}{A:Around}{E:Value->Shared->Prop}{pos:Pos}{pins:List (Addr×Obj)}{c tg:Expr}{K:PySem.W.Frag}{f:Value->Value->Sem Value}{body:List Stmt}{fp:List Addr}{op:CmpOp}{mg:Str->Option Value}
abbrev Key:=Sum Int Str
def Gmx:Key->Value->Bool
 | .inl k,v=>Value.isInt k v
 | .inr x,v=>Value.isStrOf x v
def Gtd(w:World):Key->Int
 | .inl k=>hashInt k
 | .inr x=>hashStr w x
theorem Jh:∀ {k:Key} {v:Value},Gmx k v=true->(∃ i t,k=Sum.inl i/\v=Value.int i t)\/(∃ x t,k=Sum.inr x/\v=Value.str x t)
 | .inl i,v,h=>by
  obtain⟨t,e⟩:=Value.isInt_shape (k:=i) (v:=v) h
  exact .inl ⟨i,t,rfl,e⟩
 | .inr x,v,h=>by
  obtain⟨t,e⟩:=Value.isStrOf_shape (x:=x) (v:=v) h
  exact .inr ⟨x,t,rfl,e⟩
theorem Gnt(a b:Int):decide ((Sum.inl a:Key)=Sum.inl b)=(a==b):=by
 by_cases e:a=b
 ·subst e; simp
 ·have h:¬ (Sum.inl a:Key)=Sum.inl b:=fun q=>e (Sum.inl.inj q)
  rw[decide_eq_false h]
  exact(beq_eq_false_iff_ne.mpr e).symm
theorem Gnu(a b:Str):decide ((Sum.inr a:Key)=Sum.inr b)=decide (a=b):=by
 by_cases e:a=b
 ·subst e; simp
 ·have h:¬ (Sum.inr a:Key)=Sum.inr b:=fun q=>e (Sum.inr.inj q)
  rw[decide_eq_false h,decide_eq_false e]
theorem Gnv(a:Int)(b:Str):decide ((Sum.inl a:Key)=Sum.inr b)=false:=decide_eq_false (fun q=>nomatch q)
theorem Gnw(a:Str)(b:Int):decide ((Sum.inr a:Key)=Sum.inl b)=false:=decide_eq_false (fun q=>nomatch q)
def Gdb(prog:Program)(w:World):PySem.KeyKind prog w Key where
 is:=Gmx
 hash:=Gtd w
 inj:=fun v a b ha hb=>by
  rcases Jh ha with⟨i,t,rfl,rfl⟩ | ⟨x,t,rfl,rfl⟩
  ·rcases Jh hb with⟨j,u,rfl,e⟩ | ⟨y,u,rfl,e⟩
   ·injection e with e1 _; rw[e1]
   ·exact nomatch e
  ·rcases Jh hb with⟨j,u,rfl,e⟩ | ⟨y,u,rfl,e⟩
   ·exact nomatch e
   ·injection e with e1 _; rw[e1]
 byValue:=fun k v h=>by
  rcases Jh h with⟨i,t,rfl,rfl⟩ | ⟨x,t,rfl,rfl⟩<;>rfl
 pyHash:=fun hv h=>by
  rcases Jh hv with⟨i,t,rfl,rfl⟩ | ⟨x,t,rfl,rfl⟩
  ·exact wpAny_pyHash_int h
  ·exact wpAny_pyHash_str h
 eqBool:=fun hu hv h=>by
  rcases Jh hu with⟨i,t,rfl,rfl⟩ | ⟨x,t,rfl,rfl⟩
  ·rcases Jh hv with⟨j,u,rfl,rfl⟩ | ⟨y,u,rfl,rfl⟩
   ·rw[Gnt] at h; exact wpAny_eqBool_int h
   ·rw[Gnv] at h; exact SeqAt.EqAt.int_str i t y u _ _ _ _ h
  ·rcases Jh hv with⟨j,u,rfl,rfl⟩ | ⟨y,u,rfl,rfl⟩
   ·rw[Gnw] at h; exact SeqAt.EqAt.str_int x t j u _ _ _ _ h
   ·rw[Gnu] at h; exact wpAny_eqBool_str h
 «strs»:=fun k x t v h=>by
  rcases Jh h with⟨i,u,rfl,e⟩ | ⟨y,u,rfl,e⟩
  ·exact nomatch e
  ·injection e with e1 _
   subst e1
   cases v<;>rfl
inductive V where
 | non | bl (b:Bool) | int (i:Int) | str (x:Str) | byt (b:Array UInt8) | flt (b:UInt64) | ref (a:Addr) | ty (n:String)
 deriving DecidableEq
variable{v:V}
def Hn:V->Value->Prop
 | .non,u=>u=Value.none
 | .bl b,u=>u=Value.bool b
 | .int i,u=>∃ t,u=Value.int i t
 | .str x,u=>∃ t,u=Value.str x t
 | .byt b,u=>∃ t,u=Value.bytes b t
 | .flt b,u=>∃ t,u=Value.float b t
 | .ref a,u=>u=Value.ref a
 | .ty n,u=>u=Value.type n
abbrev Vals:List V->List Value->Prop:=Paired Hn
theorem Vals.length{xs:List V}(r:Vals xs us):xs.length=us.length:=Paired.length r
theorem Vals.get:∀ {xs:List V} {us:List Value} {i:Nat} {x:V},Vals xs us->xs[i]?=some x->∃ u,us[i]?=some u/\Hn x u
 | _,_,_,_,.nil,e=>by simp at e
 | _,_,0,_,.cons r _,e=>by simp at e; subst e; exact⟨_,rfl,r⟩
 | _,_,i+1,x,.cons _ t,e=>by
  obtain⟨u,h1,h2⟩:=Vals.get (i:=i) (x:=x) t (by simpa using e)
  exact⟨u,by simpa using h1,h2⟩
theorem Vals.set{x:V}(r:Hn x u):∀ {xs:List V} {us:List Value} (i:Nat),Vals xs us->Vals (xs.set i x) (us.set i u)
 | _,_,_,.nil=>.nil
 | _,_,0,.cons _ t=>.cons r t
 | _,_,i+1,.cons q t=>.cons q (Vals.set r i t)
theorem Vals.append:∀ {xs ys:List V} {us ws:List Value},Vals xs us->Vals ys ws->Vals (xs++ys) (us++ws)
 | _,_,_,_,.nil,s=>s
 | _,_,_,_,.cons r t,s=>.cons r (Vals.append t s)
theorem Vals.take:∀ {xs:List V} {us:List Value} (n:Nat),Vals xs us->Vals (xs.take n) (us.take n)
 | _,_,0,_=>.nil
 | _,_,_+1,.nil=>.nil
 | _,_,n+1,.cons r t=>.cons r (Vals.take n t)
theorem Vals.drop:∀ {xs:List V} {us:List Value} (n:Nat),Vals xs us->Vals (xs.drop n) (us.drop n)
 | _,_,0,r=>r
 | _,_,_+1,.nil=>.nil
 | _,_,n+1,.cons _ t=>Vals.drop n t
def Grh:Option V->Option Value->Prop
 | some v,some u=>Hn v u
 | none,none=>True
 | _,_=>False
def KV{κ:Type}:List (κ×V)->List (κ×Value)->Prop:=Paired fun(p:κ×V) (q:κ×Value)=>p.1=q.1/\Hn p.2 q.2
def kV:Key->V
 | .inl i=>.int i
 | .inr x=>.str x
inductive HO where
 | lst (xs:List V)
 | tup (xs:List V)
 | dK (kvs:List (Key×V)) | dT (kvs:List (List Key×V))
 | set (S:Int->Bool) (n:Nat)
 | ins (C dx:Addr) (fs:List (Str×V))
 | own (x:Addr)
 | xd (fs:List (Str×V))
 | met (f x:Addr)
 | rng (lo hi:Int)
 | frz (o:Obj) (u:HO)
 | tbl (ps:Array Value)
 | ext (φ:Heap->Prop)
variable{o:HO}
abbrev Hp:=Addr->Option HO
variable{H:Hp}
def upd(H:Hp)(a:Addr)(o:HO):Hp:=fun b=>if b=a then some o else H b
theorem Xf:upd H a o a=some o:=by unfold upd; rw[if_pos rfl]
theorem Ho(h:b≠a):upd H a o b=H b:=by unfold upd; rw[if_neg h]
theorem Ggb{u:HO}(h:H a=some o)(h':H b=some u)(d:o≠u):a≠b:=by
 intro e; subst e; rw[h] at h'; exact d (Option.some.inj h')
theorem Ja(h:H a=some o)(h':H b=none):a≠b:=by
 intro e; subst e; rw[h] at h'; cases h'
section
variable(P:Program)(w:World)
def Ug(H:Hp)(h:Heap)(a:Addr):HO->Prop
 | .lst xs=>xs.length<=sizeLine/\∃ (its:List Value) (n:Nat),Vals xs its/\h.get? a=some { cls:=.type "list",data:=.seq its.toArray n }
 | .tup xs=>xs.length<=sizeLine/\∃ its:List Value,Vals xs its/\IsTup h a its.toArray
 | .dK kvs=>kvs.length<=sizeLine/\(a==sysModules)=false/\∃ vs,KV kvs vs/\h.DictOf (Gdb P w) a vs
 | .dT kvs=>kvs.length<=sizeLine/\(a==sysModules)=false/\∃ xs:List (List Key×Addr×Value),
   Paired (fun(p:List Key×V) (q:List Key×Addr×Value)=>p.1=q.1/\H q.2.1=some (.tup (p.1.map kV))/\Hn p.2 q.2.2) kvs xs∧
   ∃ o es ep,h.get? a=some o/\o.ExactDict/\o.data=.dict es ep/\es.toList=xs.map (entryOfKey (tupleKind (Gdb P w)))/\(xs.map (·.1)).Nodup
 | .set S n=>h.SetOf (intKind P w) a S n
 | .ins C dx fs=>H dx=some (.own a)/\fs.length<=1000/\dx≠a/\h.get? a=some (PySem.W.instObj C dx)∧
   ∃ mA,h.Ns1 dx mA/\(∀ f,Grh (fs.lookup f) (mA f))/\PySem.Within mA (fs.map (·.1))
 | .own _=>∃ o,h.get? a=some o
 | .xd fs=>∃ mA,h.Ns1 a mA/\∀ f,Grh (fs.lookup f) (mA f)
 | .rng lo hi=>∃ t u v,h.get? a=some { cls:=.type "range",data:=.fields #[.int lo t,.int hi u,.int 1 v] }
 | .frz o u=>h.get? a=some o/\Ug H h a u
 | .tbl ps=>h.get? a=some { cls:=.none,data:=.fields ps }
 | .met f x=>h.get? a=some (PySem.W.methodObj (.ref f) (.ref x))
 | .ext φ=>φ h/\(∃ o,h.get? a=some o)/\∀ h1 h2:Heap,φ h1->(∀ o,h1.get? a=some o->h2.get? a=some o)->φ h2
def HOk(H:Hp)(h:Heap):Prop:=∀ a o,H a=some o->Ug P w H h a o
end
section
variable{P:Program}{w:World}{H H':Hp}{h h':Heap}{a:Addr}{o:HO}
theorem Ug.lt(x:Ug P w H h a o):a<h.objs.size:=by
 cases o with
 | lst xs=>obtain⟨_,_,_,_,e⟩:=x; exact Heap.lt_size e
 | tup xs=>obtain⟨_,_,_,p⟩:=x; exact p.lt
 | dK kvs=>obtain⟨_,_,_,_,o,_,_,e,_⟩:=x; exact Heap.lt_size e
 | dT kvs=>obtain⟨_,_,_,_,o,_,_,e,_⟩:=x; exact Heap.lt_size e
 | set S n=>obtain⟨o,_,_,_,e,_⟩:=x; exact Heap.lt_size e
 | ins C dx fs=>obtain⟨_,_,_,e,_⟩:=x; exact Heap.lt_size e
 | own y=>obtain⟨_,e⟩:=x; exact Heap.lt_size e
 | xd fs=>obtain⟨_,⟨_,_,_,e,_⟩,_⟩:=x; exact Heap.lt_size e
 | rng lo hi=>obtain⟨_,_,_,e⟩:=x; exact Heap.lt_size e
 | frz ob u=>obtain⟨e,_⟩:=x; exact Heap.lt_size e
 | tbl ps=>exact Heap.lt_size (show h.get? a=some _ from x)
 | met f y=>exact Heap.lt_size (show h.get? a=some _ from x)
 | ext φ=>obtain⟨_,⟨_,e⟩,_⟩:=x; exact Heap.lt_size e
theorem Paired.mapP{α β:Type}{F G:α->β->Prop}:∀ {l₁:List α} {l₂:List β},Paired F l₁ l₂->(∀ a b,F a b->G a b)->Paired G l₁ l₂
 | _,_,.nil,_=>.nil
 | _,_,.cons r t,f=>.cons (f _ _ r) (Paired.mapP t f)
theorem Ug.stay(x:Ug P w H h a o)(k:∀ b u,(b=a\/H b=some (.own a))->h.get? b=some u->h'.get? b=some u)
  (ho:∀ b,H b=some (.own a)->H' b=some (.own a)) (ht:∀ b xs,H b=some (.tup xs)->H' b=some (.tup xs)):Ug P w H' h' a o:=by
 induction o with
 | lst xs=>obtain⟨z,its,n,r,e⟩:=x; exact⟨z,its,n,r,k _ _ (.inl rfl) e⟩
 | tup xs=>obtain⟨z,its,r,ob,e,c⟩:=x; exact⟨z,its,r,ob,k _ _ (.inl rfl) e,c⟩
 | dK kvs=>obtain⟨z,y,vs,r,ob,es,ep,e,c⟩:=x; exact⟨z,y,vs,r,ob,es,ep,k _ _ (.inl rfl) e,c⟩
 | dT kvs=>
  obtain⟨z,y,xs,r,ob,es,ep,e,c⟩:=x
  exact⟨z,y,xs,Paired.mapP r fun p q z=>⟨z.1,ht _ _ z.2.1,z.2.2⟩,ob,es,ep,k _ _ (.inl rfl) e,c⟩
 | set S n=>obtain⟨ob,es,ep,t,e,c⟩:=x; exact⟨ob,es,ep,t,k _ _ (.inl rfl) e,c⟩
 | ins C dx fs=>
  obtain⟨d,z,ne,e,mA,⟨od,es,ep,e2,c⟩,r⟩:=x
  exact⟨ho _ d,z,ne,k _ _ (.inl rfl) e,mA,⟨od,es,ep,k _ _ (.inr d) e2,c⟩,r⟩
 | own y=>obtain⟨ob,e⟩:=x; exact⟨ob,k _ _ (.inl rfl) e⟩
 | xd fs=>obtain⟨mA,⟨od,es,ep,e,c⟩,r⟩:=x; exact⟨mA,⟨od,es,ep,k _ _ (.inl rfl) e,c⟩,r⟩
 | rng lo hi=>obtain⟨t,u,v,e⟩:=x; exact⟨t,u,v,k _ _ (.inl rfl) e⟩
 | frz ob u ih=>obtain⟨e,q⟩:=x; exact⟨k _ _ (.inl rfl) e,ih q⟩
 | tbl ps=>
  have e:h.get? a=some { cls:=.none,data:=.fields ps }:=x
  show h'.get? a=some { cls:=.none,data:=.fields ps }
  exact k a _ (.inl rfl) e
 | met f y=>
  have e:h.get? a=some (PySem.W.methodObj (.ref f) (.ref y)):=x
  show h'.get? a=some (PySem.W.methodObj (.ref f) (.ref y))
  exact k a _ (.inl rfl) e
 | ext φ=>obtain⟨p,⟨o,e⟩,st⟩:=x; exact⟨st _ _ p fun o q=>k _ _ (.inl rfl) q,⟨o,k _ _ (.inl rfl) e⟩,st⟩
theorem HOk.lt(x:HOk P w H h)(e:H a=some o):a<h.objs.size:=(x a o e).lt
theorem HOk.fresh(x:HOk P w H h)(e:h.objs.size<=a):H a=none:=by
 cases q:H a with
 | none=>rfl
 | some u=>exact absurd (Nat.lt_of_lt_of_le (x.lt q) e) (Nat.lt_irrefl _)
theorem HOk.kept(x:HOk P w H h)(k:∀ b u,h.get? b=some u->h'.get? b=some u):HOk P w H h':=fun a o e=>
 (x a o e).stay (fun b u _ q=>k b u q) (fun _ q=>q) fun _ _ q=>q
theorem HOk.laid(x:HOk P w H h)(k:∀ b u,h.get? b=some u->h'.get? b=some u)(hp:h.objs.size<=a)(new:Ug P w (upd H a o) h' a o):HOk P w (upd H a o) h':=fun b u e=>by
 have hn:=x.fresh hp
 by_cases hb:b=a
 ·subst hb; rw[Xf] at e; cases e; exact new
 ·rw[Ho hb] at e
  exact(x b u e).stay (fun c v _ q=>k c v q) (fun c q=>by rw[Ho (Ja q hn)]; exact q) fun c xs q=>by rw[Ho (Ja q hn)]; exact q
end
def Rd(H:Hp)(a:Addr)(u:HO):Prop:=H a=some u\/∃ o,H a=some (.frz o u)
theorem Rd.ok{u:HO}(r:Rd H a u)(x:HOk P w H h):Ug P w H h a u:=by
 rcases r with r | ⟨o,r⟩
 ·exact x a u r
 ·obtain⟨_,q⟩:=x a _ r
  exact q
def Mut:Option HO->Prop
 | some (.lst _)=>True
 | some (.dK _)=>True
 | some (.dT _)=>True
 | some (.set _ _)=>True
 | some (.ins _ _ _)=>True
 | some (.ext _)=>True
 | _=>False
theorem HOk.write{h':Heap}{x e:Addr}{o':HO}(ok:HOk P w H h)(mu:Mut (H x))(he:e=x\/H e=some (.own x))(k:∀ b u,b≠e->h.get? b=some u->h'.get? b=some u)(heo:∃ u,h'.get? e=some u)(new:Ug P w (upd H x o') h' x o'):HOk P w (upd H x o') h':=fun b u q=>by
 have nown:∀ c y,H c=some (.own y)->c≠x:=fun c y r z=>by subst z; rw[r] at mu; exact mu
 have ntup:∀ c xs,H c=some (.tup xs)->c≠x:=fun c xs r z=>by subst z; rw[r] at mu; exact mu
 by_cases hb:b=x
 ·subst hb; rw[Xf] at q; cases q; exact new
 ·rw[Ho hb] at q
  by_cases hbe:b=e
  ·have q':H b=some (.own x):=by
    rcases he with z | z
    ·exact absurd (hbe.trans z) hb
    ·rw[hbe]; exact z
   rw[q] at q'; cases q'
   obtain⟨v,hv⟩:=heo
   exact⟨v,by rw[hbe]; exact hv⟩
  ·refine(ok b u q).stay (fun c v hc r=>k c v ?_ r) (fun c r=>by rw[Ho (nown c b r)]; exact r) fun c xs r=>by rw[Ho (ntup c xs r)]; exact r
   rcases hc with rfl | hc
   ·exact hbe
   ·rintro rfl
    rcases he with z | z
    ·exact nown c b hc z
    ·rw[hc] at z; cases z; exact hb rfl
structure Un(fs ex:List Addr)(H H':Hp)(h h':Heap):Prop where
 keep:∀ b o,h.get? b=some o->H b=none->b∉fs->b∉ex->h'.get? b=some o
 slot:∀ b o,h.get? b=some o->H b=none->b∈fs->b∉ex->∃ sl,h'.get? b=some { o with slots:=sl }
 free:∀ b o,h.get? b=some o->H b=none->b∉ex->H' b=none
 there:∀ b o,h.get? b=some o->b∉ex->∃ o',h'.get? b=some o'
 tups:∀ b xs,H b=some (.tup xs)->H' b=some (.tup xs)
 frzs:∀ b o u,H b=some (.frz o u)->H' b=some (.frz o u)
 tbls:∀ b ps,H b=some (.tbl ps)->∃ more,H' b=some (.tbl (ps++more))
section
variable{fs fs' ex ex':List Addr}{H H1 H2:Hp}{h h1 h2 h':Heap}{a x e:Addr}{o:HO}
theorem Un.any(u:Un fs ex H H1 h h1){ob:Obj}(q:h.get? b=some ob)(n:H b=none)(hx:b∉ex):∃ sl,h1.get? b=some { ob with slots:=sl }:=by
 by_cases hb:b∈fs
 ·exact u.slot b ob q n hb hx
 ·exact⟨ob.slots,u.keep b ob q n hb hx⟩
theorem Un.kept(k:∀ b u,h.get? b=some u->h'.get? b=some u):Un fs ex H H h h':=
 ⟨fun b ob q _ _ _=>k b ob q,fun b ob q _ _ _=>⟨ob.slots,k b ob q⟩,fun _ _ _ n _=>n,fun b ob q _=>⟨ob,k b ob q⟩,fun _ _ q=>q,fun _ _ _ q=>q,fun _ ps q=>⟨#[],by rw[q]; simp⟩⟩
theorem Un.refl:Un fs ex H H h h:=Un.kept fun _ _ q=>q
theorem Un.laid(k:∀ b u,h.get? b=some u->h'.get? b=some u)(hp:h.objs.size<=a)(hn:H a=none):Un fs ex H (upd H a o) h h' where
 keep:=fun b u q _ _ _=>k b u q
 slot:=fun b u q _ _ _=>⟨u.slots,k b u q⟩
 free:=fun b u q n _=>by rw[Ho (Nat.ne_of_lt (Nat.lt_of_lt_of_le (Heap.lt_size q) hp))]; exact n
 there:=fun b u q _=>⟨u,k b u q⟩
 tups:=fun b xs q=>by rw[Ho (Ja q hn)]; exact q
 frzs:=fun b u xs q=>by rw[Ho (Ja q hn)]; exact q
 tbls:=fun b ps q=>⟨#[],by rw[Ho (Ja q hn),q]; simp⟩
theorem Un.write(mu:Mut (H x))(he:e=x\/H e=some (.own x))(k:∀ b u,b≠e->h.get? b=some u->h'.get? b=some u)(heo:∃ u,h'.get? e=some u):Un fs ex H (upd H x o) h h':=by
 have hx:∀ b,H b=none->b≠x:=fun b n z=>by subst z; rw[n] at mu; exact mu
 have hb:∀ b,H b=none->b≠e:=fun b n z=>by
  subst z
  rcases he with r | r
  ·exact hx b n r
  ·rw[n] at r; cases r
 have hm:∀ b u,H b=some u->¬ Mut (some u)->b≠x:=fun b u q nm z=>by subst z; rw[q] at mu; exact nm mu
 refine⟨fun b u q n _ _=>k b u (hb b n) q,fun b u q n _ _=>⟨u.slots,k b u (hb b n) q⟩,fun b u q n _=>by rw[Ho (hx b n)]; exact n,fun b u q _=>?_,
  fun b xs q=>by rw[Ho (hm b _ q fun z=>z)]; exact q,fun b u xs q=>by rw[Ho (hm b _ q fun z=>z)]; exact q,fun b ps q=>⟨#[],by rw[Ho (hm b _ q fun z=>z),q]; simp⟩⟩
 by_cases hbe:b=e
 ·subst hbe; exact heo
 ·exact⟨u,k b u hbe q⟩
end
def trk(h:Heap)(H:Hp):List Addr:=(List.range h.objs.size).filter fun a=>(H a).isSome
def Gdc(h:Heap)(H:Hp):Heap:=PySem.W.hideAll h (trk h H)
theorem Gg7(h:Heap)(H:Hp):(Gdc h H).objs.size=h.objs.size:=PySem.W.hideAll_size _ _
theorem Ghu{o:Obj}(e:h.get? b=some o)(n:H b=none):(Gdc h H).get? b=some o:=
 PySem.W.hideAll_get _ e fun hm=>by
  have q:(H b).isSome=true:=(List.mem_filter.mp hm).2
  rw[n] at q; simp at q
theorem of_hidT{o:Obj}(e:(Gdc h H).get? b=some o):h.get? b=some o/\H b=none:=by
 have e':h.get? b=some o:=PySem.W.of_hideAll (trk h H) e
 refine⟨e',?_⟩
 cases q:H b with
 | none=>rfl
 | some x=>
  have hm:b∈trk h H:=List.mem_filter.mpr ⟨List.mem_range.mpr (Heap.lt_size e'),by simp[q]⟩
  have z:(Gdc h H).get? b=none:=PySem.W.hideAll_none (trk h H) hm
  rw[z] at e; cases e
def Gkj(g h:Heap)(L:Addr):List (Addr×Obj):=(List.range h.objs.size).filterMap fun a=>if a=L\/(g.get? a).isSome=true then none else(h.get? a).map fun o=>(a,o)
def rest(g h:Heap)(L d:Addr):List (Addr×Obj):=(Gkj g h L).filter fun p=>decide (p.1≠d)
structure Mod(K:PySem.W.Frag)(mg:Str->Option Value)(base:Heap):Prop where
 kin:K.In base
 glob:base.Ns mainGlobals mg
 blt:∃ mb,base.Ns builtinsNs mb/\∀ x:Str,x≠"__name__"->mb x=bootBuiltins x
 nolimit:base.NoLimit
structure Cx where
 prog:Program
 w:World
 K:PySem.W.Frag
 mg:Str->Option Value
 base:Heap
 A:Around
 N:List Str
 s₀:Shared
 H₀:Hp
 env:Env
 outer:List Env
 stack:List Env
 ex:List Addr
 fn:Str->Bool
 calm:Bool
 pn:List (Addr×Obj)
 xe:Value->Shared->Prop
variable{X:Cx}
def frs(l:List Env):List Addr:=l.filterMap (·.frame)
abbrev Cx.fs(X:Cx):List Addr:=frs X.outer
def Vis(sc:Scope)(x:Str):Prop:=sc.names.lookup x=some .local\/sc.names.lookup x=some .cell\/sc.names.lookup x=some .free
def Loc(sc:Scope)(x:Str):Prop:=sc.names.lookup x=some .local\/sc.names.lookup x=some .cell
def Look(env:Env)(h:Heap)(m:Str->Option Value)(x:Str)(u:Value):Prop:=
 (env.kindOf x=some .local/\m x=some u)\/((env.kindOf x=some .cell\/env.kindOf x=some .free)/\∃ c,env.cells.lookup x=some c/\h.IsCell c (some u))
structure Cx.Ok(X:Cx):Prop where
 mod:Mod X.K X.mg X.base
 kind:X.env.scope.kind=.function
 glob:X.env.globals=mainGlobals
 blt:X.env.builtins=builtinsNs
 above:X.s₀.heap.objs.size<=X.env.locals
 inj:∀ x y c,X.env.cells.lookup x=some c->X.env.cells.lookup y=some c->x=y
 has:∀ x,(X.env.kindOf x=some .cell\/X.env.kindOf x=some .free)->∃ c,X.env.cells.lookup x=some c
 cab:∀ x c,X.fn x=true->X.env.cells.lookup x=some c->X.s₀.heap.objs.size<=c
 hd:X.calm=true->X.A.handled=none
 frames:X.A.frames=some X.stack
 stk:X.stack=X.outer\/(X.stack=X.env::X.outer/\X.env.frame=some X.env.locals)
 exf:∀ b∈X.ex,b≠X.env.locals/\∀ x c,X.env.cells.lookup x=some c->c≠b
 bs:∀ b o,X.base.get? b=some o->X.s₀.heap.get? b=some o/\X.H₀ b=none
 bsz:X.base.objs.size<=X.s₀.heap.objs.size
 noex:∀ b o,X.base.get? b=some o->b∉X.ex
 exfs:∀ b∈X.ex,b∉X.fs
 funs:X.s₀.heap.FunFrames X.base X.outer
 frf:∀ b∈X.fs,X.H₀ b=none
structure Inv(X:Cx)(pins:List (Addr×Obj))(σ:List (Option V))(H:Hp)(s:Shared):Prop where
 ok:X.Ok
 os:s.os=X.s₀.os
 bare:AllBare s.gens
 base:Un X.fs X.ex X.H₀ H X.s₀.heap s.heap
 loc:∃ m,s.heap.Ns X.env.locals m/\∀ (i:Nat) (x:Str) (v:V),X.N[i]?=some x->σ[i]?=some (some v)->Vis X.env.scope x->∃ u,Hn v u/\Look X.env s.heap m x u
 cell:∀ x c,X.env.cells.lookup x=some c->∃ v,s.heap.IsCell c v
 free:H X.env.locals=none
 freeC:∀ x c,X.env.cells.lookup x=some c->H c=none
 pin:∀ p∈X.pn++pins,s.heap.get? p.1=some p.2/\H p.1=none/\p.1≠X.env.locals/\p.1∉X.fs/\∀ v,p.2.data≠.cell v
 hok:HOk X.prog X.w H s.heap
 len:σ.length=X.N.length
section
variable{X:Cx}{pins:List (Addr×Obj)}{σ:List (Option V)}{H H':Hp}{s:Shared}{h':Heap}
theorem Cx.Ok.nofr(ok:X.Ok){o:Obj}(e:X.base.get? b=some o):b∉X.fs:=fun hb=>by
 have:=(ok.funs.mem hb).1
 rw[e] at this; cases this
theorem Inv.bs(I:Inv X pins σ H s):∀ b o,X.base.get? b=some o->s.heap.get? b=some o/\H b=none:=fun b o e=>
 ⟨I.base.keep b o (I.ok.bs b o e).1 (I.ok.bs b o e).2 (I.ok.nofr e) (I.ok.noex b o e),I.base.free b o (I.ok.bs b o e).1 (I.ok.bs b o e).2 (I.ok.noex b o e)⟩
theorem Inv.bk(I:Inv X pins σ H s):∀ b o,X.base.get? b=some o->s.heap.get? b=some o:=fun b o e=>(I.bs b o e).1
theorem Inv.mod(I:Inv X pins σ H s):Mod X.K X.mg X.base:=I.ok.mod
theorem Inv.kIn(I:Inv X pins σ H s):X.K.In s.heap:=I.ok.mod.kin.keeps I.bk
theorem Inv.lt(I:Inv X pins σ H s):X.env.locals<s.heap.objs.size:=let ⟨_,hn,_⟩:=I.loc; hn.lt
theorem Inv.sz(I:Inv X pins σ H s):X.s₀.heap.objs.size<=s.heap.objs.size:=Nat.le_trans I.ok.above (Nat.le_of_lt I.lt)
theorem Inv.nofs(I:Inv X pins σ H s)(h:s.heap.objs.size<=a):a∉X.fs:=fun hb=>by
 obtain⟨_,o,ho,_⟩:=I.ok.funs.mem hb
 exact absurd (Nat.lt_of_lt_of_le (Heap.lt_size ho) (Nat.le_trans I.sz h)) (Nat.lt_irrefl _)
theorem Inv.cne(I:Inv X pins σ H s):∀ x c,X.env.cells.lookup x=some c->c≠X.env.locals:=fun x c e z=>by
 obtain⟨v,o,ho,hd⟩:=I.cell x c e
 obtain⟨m,⟨o',es,ep,ho',hd',_⟩,_⟩:=I.loc
 rw[z,ho'] at ho; cases ho; rw[hd'] at hd; cases hd
theorem Inv.funs(I:Inv X pins σ H s):s.heap.FunFrames X.base X.outer:=by
 have all:∀ (l:List Env),(∀ b∈frs l,b∈X.fs)->X.s₀.heap.FunFrames X.base l->s.heap.FunFrames X.base l:=by
  intro l
  induction l with
  | nil=>intro _ _; trivial
  | cons env r ih=>
   intro hs hl
   obtain⟨hk,⟨L,o,hf,hn,ho,hd⟩,hr⟩:=hl
   have hL:L∈X.fs:=hs L (by unfold frs; rw[List.filterMap_cons,hf]; exact List.mem_cons_self)
   obtain⟨sl,e⟩:=I.base.slot L o ho (I.ok.frf L hL) hL fun z=>I.ok.exfs L z hL
   exact⟨hk,⟨L,_,hf,hn,e,hd⟩,ih (fun b hb=>hs b (by unfold frs; rw[List.filterMap_cons,hf]; exact List.mem_cons_of_mem _ hb)) hr⟩
 exact all X.outer (fun _ hb=>hb) I.ok.funs
theorem Inv.stack(I:Inv X pins σ H s):s.heap.FunFrames X.base X.stack:=by
 rcases I.ok.stk with e | ⟨e,hf⟩
 ·rw[e]; exact I.funs
 ·rw[e]
  obtain⟨m,hn,_⟩:=I.loc
  refine .cons (by rw[I.ok.kind]; decide) hf hn ?_ I.funs
  exact Heap.get?_none_of_le (Nat.le_trans I.ok.bsz I.ok.above)
theorem Inv.stkSub(I:Inv X pins σ H s):∀ b∈frs X.stack,b∈X.env.locals::X.fs:=fun b hb=>by
 rcases I.ok.stk with e | ⟨e,hf⟩
 ·rw[e] at hb; exact List.mem_cons_of_mem _ hb
 ·rw[e] at hb
  unfold frs at hb
  rw[List.filterMap_cons,hf] at hb
  exact hb
theorem Inv.stkFree(I:Inv X pins σ H s):∀ b∈frs X.stack,H b=none:=fun b hb=>by
 rcases List.mem_cons.mp (I.stkSub b hb) with e | hb
 ·rw[e]; exact I.free
 ·obtain⟨_,o,ho,_⟩:=I.ok.funs.mem hb
  exact I.base.free b o ho (I.ok.frf b hb) fun z=>I.ok.exfs b z hb
theorem Inv.step{g':Array GenState}{d':Drawn}{ch:List Addr}(I:Inv X pins σ H s)(hch:∀ b∈ch,(b∈X.ex\/X.s₀.heap.objs.size<=b)/\b≠X.env.locals/\(∀ x c,X.env.cells.lookup x=some c->c≠b)/\∀ p∈X.pn++pins,p.1≠b)(keep:∀ b o,b≠X.env.locals->b∉X.fs->b∉ch->s.heap.get? b=some o->H b=none->h'.get? b=some o)(slot:∀ b o,b≠X.env.locals->b∈X.fs->b∉ch->s.heap.get? b=some o->H b=none->∃ sl,h'.get? b=some { o with slots:=sl })(free:∀ b o,b∉ch->s.heap.get? b=some o->H b=none->H' b=none)(there:∀ b o,b∉ch->s.heap.get? b=some o->∃ o',h'.get? b=some o')(tups:∀ b xs,H b=some (.tup xs)->H' b=some (.tup xs))(frzs:∀ b o u,H b=some (.frz o u)->H' b=some (.frz o u))(tbls:∀ b ps,H b=some (.tbl ps)->∃ more,H' b=some (.tbl (ps++more)))(ns:∀ m,s.heap.Ns X.env.locals m->h'.Ns X.env.locals m)(hok:HOk X.prog X.w H' h')(hg:AllBare g'):
  Inv X pins σ H' { s with heap:=h',gens:=g',drawn:=d',toks:=t' }:=by
 have neL:∀ b o,X.s₀.heap.get? b=some o->b≠X.env.locals:=fun b o e=>Nat.ne_of_lt (Nat.lt_of_lt_of_le (Heap.lt_size e) I.ok.above)
 have neC:∀ b o,X.s₀.heap.get? b=some o->b∉X.ex->b∉ch:=fun b o e hx hb=>by
  rcases(hch b hb).1 with z | z
  ·exact hx z
  ·exact absurd (Nat.lt_of_lt_of_le (Heap.lt_size e) z) (Nat.lt_irrefl _)
 have cellK:∀ x c,X.env.cells.lookup x=some c->∀ v,s.heap.IsCell c v->h'.IsCell c v:=fun x c e v ⟨o,ho,hd⟩=>by
  have nch:c∉ch:=fun z=>(hch c z).2.2.1 x c e rfl
  by_cases hc:c∈X.fs
  ·obtain⟨sl,q⟩:=slot c o (I.cne x c e) hc nch ho (I.freeC x c e)
   exact⟨_,q,hd⟩
  ·exact⟨o,keep c o (I.cne x c e) hc nch ho (I.freeC x c e),hd⟩
 refine⟨I.ok,I.os,hg,⟨fun b o e n hb hx=>?_,fun b o e n hb hx=>?_,fun b o e n hx=>?_,fun b o e hx=>?_,fun b xs e=>tups b xs (I.base.tups b xs e),fun b o xs e=>frzs b o xs (I.base.frzs b o xs e),fun b ps e=>?_⟩,?_,fun x c e=>?_,?_,fun x c e=>?_,fun p hp=>?_,hok,I.len⟩
 ·exact keep b o (neL b o e) hb (neC b o e hx) (I.base.keep b o e n hb hx) (I.base.free b o e n hx)
 ·obtain⟨sl,e1⟩:=I.base.slot b o e n hb hx
  obtain⟨sl',e2⟩:=slot b _ (neL b o e) hb (neC b o e hx) e1 (I.base.free b o e n hx)
  exact⟨sl',e2⟩
 ·obtain⟨o',e1⟩:=I.base.there b o e hx
  exact free b o' (neC b o e hx) e1 (I.base.free b o e n hx)
 ·obtain⟨o',e1⟩:=I.base.there b o e hx
  exact there b o' (neC b o e hx) e1
 ·obtain⟨m1,e1⟩:=I.base.tbls b ps e
  obtain⟨m2,e2⟩:=tbls b _ e1
  exact⟨m1++m2,by rw[e2,Array.append_assoc]⟩
 ·obtain⟨m,hn,hl⟩:=I.loc
  refine⟨m,ns m hn,fun i x v e1 e2 e3=>?_⟩
  obtain⟨u,r,l⟩:=hl i x v e1 e2 e3
  refine⟨u,r,?_⟩
  rcases l with l | ⟨k,c,e,z⟩
  ·exact .inl l
  ·exact .inr ⟨k,c,e,cellK x c e _ z⟩
 ·obtain⟨v,z⟩:=I.cell x c e
  exact⟨v,cellK x c e v z⟩
 ·obtain⟨m,⟨o,_,_,ho,_⟩,_⟩:=I.loc
  exact free _ o (fun z=>(hch _ z).2.1 rfl) ho I.free
 ·obtain⟨v,o,ho,hd⟩:=I.cell x c e
  exact free c o (fun z=>(hch c z).2.2.1 x c e rfl) ho (I.freeC x c e)
 ·obtain⟨e,n,ne,nf,d⟩:=I.pin p hp
  have nch:p.1∉ch:=fun z=>(hch p.1 z).2.2.2 p hp rfl
  exact⟨keep p.1 p.2 ne nf nch e n,free p.1 p.2 nch e n,ne,nf,d⟩
theorem Inv.un(I:Inv X pins σ H s)(u:Un X.fs [] H H' s.heap h')(hok:HOk X.prog X.w H' h'):Inv X pins σ H' { s with heap:=h',toks:=t' }:=by
 obtain⟨m,⟨o,es,ep,ho,r⟩,_⟩:=id I.loc
 obtain⟨sl,hL⟩:=u.any ho I.free (by simp)
 exact I.step (g':=s.gens) (d':=s.drawn) (ch:=[]) (fun _ z=>nomatch z) (fun b o _ hb _ e n=>u.keep b o e n hb (by simp)) (fun b o _ hb _ e n=>u.slot b o e n hb (by simp)) (fun b o _ e n=>u.free b o e n (by simp)) (fun b o _ e=>u.there b o e (by simp)) u.tups u.frzs u.tbls (fun m' hm=>by
  obtain⟨o',es',ep',ho',r'⟩:=hm
  rw[ho] at ho'; cases ho'
  exact⟨_,es',ep',hL,r'⟩) hok I.bare
theorem Inv.call{g':Array GenState}{d':Drawn}{ch:List Addr}(I:Inv X pins σ H s)(u:Un (frs X.stack) ch H H' s.heap h')(hok:HOk X.prog X.w H' h')(hg:AllBare g')(hch:∀ b∈ch,(b∈X.ex\/X.s₀.heap.objs.size<=b)/\b≠X.env.locals/\(∀ x c,X.env.cells.lookup x=some c->c≠b)/\∀ p∈X.pn++pins,p.1≠b):
  Inv X pins σ H' { s with heap:=h',gens:=g',drawn:=d',toks:=t' }:=by
 obtain⟨m,⟨o,es,ep,ho,r⟩,_⟩:=id I.loc
 obtain⟨sl,hL⟩:=u.any ho I.free fun z=>(hch _ z).2.1 rfl
 exact I.step (ch:=ch) hch (fun b o hL hb hc e n=>u.keep b o e n (fun z=>(List.mem_cons.mp (I.stkSub b z)).elim hL hb) hc) (fun b o _ _ hc e n=>u.any e n hc) (fun b o hc e n=>u.free b o e n hc) (fun b o hc e=>u.there b o e hc) u.tups u.frzs u.tbls (fun m' hm=>by
  obtain⟨o',es',ep',ho',r'⟩:=hm
  rw[ho] at ho'; cases ho'
  exact⟨_,es',ep',hL,r'⟩) hok hg
theorem Inv.turned{it:Addr}(I:Inv X pins σ H s)(k:∀ b o,b≠it->s.heap.get? b=some o->h'.get? b=some o)(hn:H it=none)(hL:it≠X.env.locals)(h1:it∈X.ex\/X.s₀.heap.objs.size<=it)(h2:∀ x c,X.env.cells.lookup x=some c->c≠it)(h3:∀ p∈X.pn++pins,p.1≠it):Inv X pins σ H { s with heap:=h',toks:=t' }:=by
 have nit:∀ b u,H b=some u->b≠it:=fun b u e z=>by rw[z,hn] at e; cases e
 refine I.step (g':=s.gens) (d':=s.drawn) (ch:=[it]) (fun b hb=>?_) (fun b o _ _ hc e _=>k b o (fun z=>hc (by simp[z])) e) (fun b o _ _ hc e _=>⟨o.slots,k b o (fun z=>hc (by simp[z])) e⟩) (fun _ _ _ _ n=>n)
  (fun b o hc e=>⟨o,k b o (fun z=>hc (by simp[z])) e⟩) (fun _ _ e=>e) (fun _ _ _ e=>e) (fun b ps e=>⟨#[],by rw[e]; simp⟩) (fun m hm=>?_) (fun b u e=>?_) I.bare
 ·have e:b=it:=by simpa using hb
  subst e
  exact⟨h1,hL,h2,h3⟩
 ·obtain⟨o,es,ep,ho,r⟩:=hm
  exact⟨o,es,ep,k _ o (Ne.symm hL) ho,r⟩
 ·refine(I.hok b u e).stay (fun c v hc q=>k c v ?_ q) (fun _ q=>q) fun _ _ q=>q
  rcases hc with z | z
  ·rw[z]; exact nit b u e
  ·exact nit c _ z
theorem Inv.tok(I:Inv X pins σ H s)(t:Nat):Inv X pins σ H { s with toks:=t }:=I.un (h':=s.heap) (t':=t) Un.refl I.hok
theorem Inv.kept(I:Inv X pins σ H s)(k:∀ b u,s.heap.get? b=some u->h'.get? b=some u):Inv X pins σ H { s with heap:=h',toks:=t' }:=I.un (Un.kept k) (I.hok.kept k)
theorem Inv.laid(I:Inv X pins σ H s)(k:∀ b u,s.heap.get? b=some u->h'.get? b=some u)(hp:s.heap.objs.size<=a)(new:Ug X.prog X.w (upd H a o) h' a o):
  Inv X pins σ (upd H a o) { s with heap:=h',toks:=t' }:=I.un (Un.laid k hp (I.hok.fresh hp)) (I.hok.laid k hp new)
theorem Inv.write{x e:Addr}(I:Inv X pins σ H s)(mu:Mut (H x))(he:e=x\/H e=some (.own x))(k:∀ b u,b≠e->s.heap.get? b=some u->h'.get? b=some u)(heo:∃ u,h'.get? e=some u)(new:Ug X.prog X.w (upd H x o) h' x o):Inv X pins σ (upd H x o) { s with heap:=h',toks:=t' }:=I.un (Un.write mu he k heo) (I.hok.write mu he k heo new)
theorem Inv.pins_of{pins':List (Addr×Obj)}(I:Inv X pins σ H s)(h:∀ p∈pins',s.heap.get? p.1=some p.2/\H p.1=none/\p.1≠X.env.locals/\p.1∉X.fs/\∀ v,p.2.data≠.cell v):Inv X pins' σ H s:=
 ⟨I.ok,I.os,I.bare,I.base,I.loc,I.cell,I.free,I.freeC,fun p hp=>(List.mem_append.mp hp).elim (fun z=>I.pin p (List.mem_append_left _ z)) (h p),I.hok,I.len⟩
theorem Gei(hN:N.Nodup){i:Nat}(a:N[i]?=some x)(b:N[j]?=some x):i=j:=by
 obtain⟨h1,e1⟩:=List.getElem?_eq_some_iff.mp a
 obtain⟨h2,e2⟩:=List.getElem?_eq_some_iff.mp b
 exact(List.getElem_inj hN).mp (e1.trans e2.symm)
theorem Gcs{i:Nat}{Q:Unit->Shared->Prop}(I:Inv X pins σ H s)(hN:X.N.Nodup)(hi:X.N[i]?=some x)(hx:Loc X.env.scope x)(r:Hn v u)(h:∀ s',Inv X pins (σ.set i (some v)) H s'->(∃ a,Heap.SameBut a s.heap s'.heap/\(a=X.env.locals\/X.env.cells.lookup x=some a))->Q () s')(hf:X.fn x=true\/X.env.scope.names.lookup x=some .local:=by first | exact .inl rfl | exact .inr rfl | assumption):wpAny M A (storeName X.env x u) Q E s:=by
 obtain⟨m,hn,hl⟩:=id I.loc
 have hcls:(X.env.scope.kind==.class||(X.env.scope.kind==.module&&X.env.locals != X.env.globals))=false:=by rw[I.ok.kind]; rfl
 have hiσ:i<σ.length:=by rw[I.len]; exact(List.getElem?_eq_some_iff.mp hi).1
 have cne:=I.cne
 have tracked:∀ {a:Addr} {h':Heap},(∃ o,s.heap.get? a=some o/\H a=none)->Heap.SameBut a s.heap h'->HOk X.prog X.w H h':=fun{a h'} ha hs b ob e=>by
  obtain⟨_,_,hfree⟩:=ha
  refine(I.hok b ob e).stay (fun c w' hc q=>(hs.2 c ?_).trans q) (fun _ q=>q) fun _ _ q=>q
  rintro rfl
  rcases hc with rfl | hc
  ·rw[hfree] at e; cases e
  ·rw[hfree] at hc; cases hc
 rcases hx with hk | hk
 ·refine wpAny_storeName_local hk hn (fun h' hn' hs=>?_) hcls
  obtain⟨oL,_,_,hoL,_⟩:=id hn
  refine h _ ⟨I.ok,I.os,I.bare,⟨fun b o e n hb hx=>?_,fun b o e n hb hx=>?_,I.base.free,fun b o e hx=>?_,I.base.tups,I.base.frzs,I.base.tbls⟩,⟨_,hn',fun j y v' e1 e2 e3=>?_⟩,fun y c e=>?_,I.free,I.freeC,fun p hp=>?_,tracked ⟨oL,hoL,I.free⟩ hs,by simpa using I.len⟩ ⟨_,hs,.inl rfl⟩
  ·exact(hs.2 b (Nat.ne_of_lt (Nat.lt_of_lt_of_le (Heap.lt_size e) I.ok.above))).trans (I.base.keep b o e n hb hx)
  ·obtain⟨sl,e1⟩:=I.base.slot b o e n hb hx
   exact⟨sl,(hs.2 b (Nat.ne_of_lt (Nat.lt_of_lt_of_le (Heap.lt_size e) I.ok.above))).trans e1⟩
  ·obtain⟨o',e1⟩:=I.base.there b o e hx
   exact⟨o',(hs.2 b (Nat.ne_of_lt (Nat.lt_of_lt_of_le (Heap.lt_size e) I.ok.above))).trans e1⟩
  ·by_cases hj:j=i
   ·subst hj
    rw[hi] at e1; cases e1
    rw[List.getElem?_set_self hiσ] at e2
    cases e2
    exact⟨u,r,.inl ⟨hk,by simp⟩⟩
   ·rw[List.getElem?_set_ne (Ne.symm hj)] at e2
    obtain⟨u',r',q⟩:=hl j y v' e1 e2 e3
    refine⟨u',r',?_⟩
    rcases q with⟨k,e⟩ | ⟨k,c,e,z⟩
    ·refine .inl ⟨k,?_⟩
     have:y≠x:=fun e=>hj (Gei hN e1 (e▸hi))
     simp[this,e]
    ·exact .inr ⟨k,c,e,z.sameBut hs (cne y c e)⟩
  ·obtain⟨w',z⟩:=I.cell y c e
   exact⟨w',z.sameBut hs (cne y c e)⟩
  ·obtain⟨e,n,ne,nf,d⟩:=I.pin p hp
   exact⟨(hs.2 p.1 ne).trans e,n,ne,nf,d⟩
 ·have hfn:X.fn x=true:=by
   rcases hf with z | z
   ·exact z
   ·rw[z] at hk; cases hk
  obtain⟨c,hc⟩:=I.ok.has x (.inl hk)
  obtain⟨w',z⟩:=I.cell x c hc
  refine wpAny_storeName_cell I.ok.kind hk hc z (fun h' hc' hs=>?_)
  obtain⟨oc,hoc,hocd⟩:=id z
  refine h { s with heap:=h' } ⟨I.ok,I.os,I.bare,⟨fun b o e n hb hx=>?_,fun b o e n hb hx=>?_,I.base.free,fun b o e hx=>?_,I.base.tups,I.base.frzs,I.base.tbls⟩,⟨m,hn.sameBut hs (Ne.symm (cne x c hc)),fun j y v' e1 e2 e3=>?_⟩,fun y c' e=>?_,I.free,I.freeC,fun p hp=>?_,tracked ⟨oc,hoc,I.freeC x c hc⟩ hs,by simpa using I.len⟩ ⟨c,hs,.inr hc⟩
  ·exact(hs.2 b (Nat.ne_of_lt (Nat.lt_of_lt_of_le (Heap.lt_size e) (I.ok.cab x c hfn hc)))).trans (I.base.keep b o e n hb hx)
  ·obtain⟨sl,e1⟩:=I.base.slot b o e n hb hx
   exact⟨sl,(hs.2 b (Nat.ne_of_lt (Nat.lt_of_lt_of_le (Heap.lt_size e) (I.ok.cab x c hfn hc)))).trans e1⟩
  ·obtain⟨o',e1⟩:=I.base.there b o e hx
   exact⟨o',(hs.2 b (Nat.ne_of_lt (Nat.lt_of_lt_of_le (Heap.lt_size e) (I.ok.cab x c hfn hc)))).trans e1⟩
  ·by_cases hj:j=i
   ·subst hj
    rw[hi] at e1; cases e1
    rw[List.getElem?_set_self hiσ] at e2
    cases e2
    exact⟨u,r,.inr ⟨.inl hk,c,hc,hc'⟩⟩
   ·rw[List.getElem?_set_ne (Ne.symm hj)] at e2
    obtain⟨u',r',q⟩:=hl j y v' e1 e2 e3
    refine⟨u',r',?_⟩
    rcases q with q | ⟨k,c',e,z'⟩
    ·exact .inl q
    ·refine .inr ⟨k,c',e,z'.sameBut hs ?_⟩
     rintro rfl
     exact hj (Gei hN e1 (I.ok.inj _ _ _ e hc▸hi))
  ·by_cases hcc:c'=c
   ·subst hcc; exact⟨_,hc'⟩
   ·obtain⟨w2,z2⟩:=I.cell y c' e
    exact⟨w2,z2.sameBut hs hcc⟩
  ·obtain⟨e,n,ne,nf,d⟩:=I.pin p hp
   refine⟨(hs.2 p.1 ?_).trans e,n,ne,nf,d⟩
   intro q
   rw[q,hoc] at e
   have q':oc=p.2:=Option.some.inj e
   exact d w' (by rw[<- q']; exact hocd)
theorem Gej{i:Nat}{Q:Unit->Shared->Prop}(I:Inv X pins σ H s)(hN:X.N.Nodup)(hi:X.N[i]?=some x)(hx:Loc X.env.scope x)(r:Hn v u)(h:∀ s',Inv X pins (σ.set i (some v)) H s'->Q () s')(hf:X.fn x=true\/X.env.scope.names.lookup x=some .local:=by first | exact .inl rfl | exact .inr rfl | assumption):wpAny M A (storeName X.env x u) Q E s:=
 Gcs I hN hi hx r (fun s' I' _=>h s' I') hf
theorem Inv.call'{s':Shared}{ch:List Addr}(I:Inv X pins σ H s)(ho:s'.os=s.os)(u:Un (frs X.stack) ch H H' s.heap s'.heap)(hok:HOk X.prog X.w H' s'.heap)(hg:AllBare s'.gens)
  (hch:∀ b∈ch,(b∈X.ex\/X.s₀.heap.objs.size<=b)/\b≠X.env.locals/\(∀ x c,X.env.cells.lookup x=some c->c≠b)/\∀ p∈X.pn++pins,p.1≠b):Inv X pins σ H' s':=by
 obtain⟨h',g',d',t',o'⟩:=s'
 have e:o'=s.os:=ho
 subst e
 exact I.call (g':=g') (t':=t') (d':=d') u hok hg hch
end
abbrev XK:=Value->Option Addr->Hp->Prop
abbrev St:=List (Option V)
variable{σ:St}
abbrev VK:=V->Hp->Prop
abbrev TE:=St->Hp->VK->Prop
abbrev TT:=St->Hp->(Bool->Hp->Prop)->Prop
abbrev TA:=St->Hp->(List V->Hp->Prop)->Prop
structure Ends where
 nx:St->Hp->Prop
 rt:VK
 bk:St->Hp->Prop:=fun _ _=>False
 ct:St->Hp->Prop:=fun _ _=>False
abbrev TS:=Ends->St->Hp->Prop
def EP(X:Cx)(pins:List (Addr×Obj))(σ:St)(Q:VK)(u:Value)(s':Shared):Prop:=∃ v H',Inv X pins σ H' s'/\Hn v u/\Q v H'
def TP(X:Cx)(pins:List (Addr×Obj))(σ:St)(Q:Bool->Hp->Prop)(b:Bool)(s':Shared):Prop:=∃ H',Inv X pins σ H' s'/\Q b H'
def AP(X:Cx)(pins:List (Addr×Obj))(σ:St)(Q:List V->Hp->Prop)(us:List Value)(s':Shared):Prop:=∃ vs H',Inv X pins σ H' s'/\Vals vs us/\Q vs H'
def SP(X:Cx)(pins:List (Addr×Obj))(D:Ends)(f:Flow)(s':Shared):Prop:=
 match f with
 | .next=>∃ σ' H',Inv X pins σ' H' s'/\D.nx σ' H'
 | .brk=>∃ σ' H',Inv X pins σ' H' s'/\D.bk σ' H'
 | .cont=>∃ σ' H',Inv X pins σ' H' s'/\D.ct σ' H'
 | .ret u=>∃ v σ' H',Inv X pins σ' H' s'/\Hn v u/\D.rt v H'
def PE(X:Cx)(e:Expr)(t:TE):Prop:=
 ∀ (pins:List (Addr×Obj)) (s:Shared) (σ:St) (H:Hp) (Q:VK),Inv X pins σ H s->t σ H Q->wpAny (model X.prog X.w) X.A (eval e X.env) (EP X pins σ Q) X.xe s
def PT(X:Cx)(e:Expr)(t:TT):Prop:=
 ∀ (pins:List (Addr×Obj)) (s:Shared) (σ:St) (H:Hp) (Q:Bool->Hp->Prop),Inv X pins σ H s->t σ H Q->wpAny (model X.prog X.w) X.A (isTrue e X.env (eval e X.env)) (TP X pins σ Q) X.xe s
def PW(X:Cx)(e:Expr)(t:TT):Prop:=
 ∀ (whole:Sem Value) (pins:List (Addr×Obj)) (s:Shared) (σ:St) (H:Hp) (Q:Bool->Hp->Prop),Inv X pins σ H s->t σ H Q->wpAny (model X.prog X.w) X.A (isTrue e X.env whole) (TP X pins σ Q) X.xe s
theorem PW.pt{e:Expr}{t:TT}(h:PW X e t):PT X e t:=h _
def PA(X:Cx)(es:List Expr)(t:TA):Prop:=
 ∀ (pos:Pos) (pins:List (Addr×Obj)) (s:Shared) (σ:St) (H:Hp) (Q:List V->Hp->Prop),Inv X pins σ H s->t σ H Q->wpAny (model X.prog X.w) X.A (spliced (backTo pos (starEach es X.env))) (AP X pins σ Q) X.xe s
def PS(X:Cx)(st:Stmt)(t:TS):Prop:=
 ∀ (pins:List (Addr×Obj)) (s:Shared) (σ:St) (H:Hp) (D:Ends),Inv X pins σ H s->t D σ H->wpAny (model X.prog X.w) X.A (exec st X.env) (SP X pins D) X.xe s
def PSs(X:Cx)(st:List Stmt)(t:TS):Prop:=
 ∀ (pins:List (Addr×Obj)) (s:Shared) (σ:St) (H:Hp) (D:Ends),Inv X pins σ H s->t D σ H->wpAny (model X.prog X.w) X.A (execs st X.env) (SP X pins D) X.xe s
theorem thn{α:Type}{t:Sem α}{Q Q':α->Shared->Prop}{s:Shared}(h:wpAny M A t Q E s)(hQ:∀ a s,Q a s->Q' a s):wpAny M A t Q' E s:=wpAny_mono h hQ fun _ _ x=>x
section
variable{X:Cx}
def Gte(i:Nat):TE:=fun σ H Q=>∃ v,σ[i]?=some (some v)/\Q v H
def tC(v:V):TE:=fun _ H Q=>Q v H
theorem Gnx{i:Nat}(hN:X.N[i]?=some x)(hv:Vis X.env.scope x)(hd:(x==("__debug__":Str))=false:=by decide)(hcd:(x==("__classdict__":Str))=false:=by decide):PE X (.Name x pos) (Gte i):=by
 intro pins s σ H Q I h
 obtain⟨v,e,h⟩:=h
 obtain⟨m,hn,hl⟩:=I.loc
 obtain⟨u,r,l⟩:=hl i x v hN e hv
 have fin:EP X pins σ Q u s:=⟨v,H,I,r,h⟩
 rcases l with⟨hk,hm⟩ | ⟨hk,c,hc,hcell⟩
 ·exact wpAny_Name (wpAny_loadName_local I.ok.kind hk hn hm fin) hd
 ·rcases hk with hk | hk
  ·exact wpAny_Name (wpAny_loadName_cell I.ok.kind hk hc hcell fin) hd
  ·exact wpAny_Name (wpAny_loadName_free I.ok.kind hk hc hcell fin hcd) hd
theorem Gny{i j pos}:PE X (.Constant (.int i) j pos) (tC (.int i)):=fun _ _ _ H _ I h=>wpAny_Constant_int ⟨.int i,H,I.tok _,⟨_,rfl⟩,h⟩
theorem Gri{b j pos}:PE X (.Constant (.bool b) j pos) (tC (.bl b)):=fun _ _ _ H _ I h=>Constant_bool ⟨.bl b,H,I,rfl,h⟩
theorem Gnz{j pos}:PE X (.Constant .none j pos) (tC .non):=fun _ _ _ H _ I h=>Constant_none ⟨.non,H,I,rfl,h⟩
theorem Gn0{x j pos}:PE X (.Constant (.str x) j pos) (tC (.str x)):=fun _ _ _ H _ I h=>Calls.Constant_str ⟨.str x,H,I.tok _,⟨_,rfl⟩,h⟩
def Gl(X:Cx)(x:Str):Prop:=X.env.kindOf x=some .globalImplicit
theorem Ggc{s:Shared}{Q:Value->Shared->Prop}(I:Inv X pins σ H s)(hg:Gl X x)(hm:X.mg x=some u)(h:Q u s)(hd:(x==("__debug__":Str))=false:=by decide):wpAny (model X.prog X.w) X.A (eval (.Name x pos) X.env) Q E s:=
 Calls.Name_function_global I.ok.kind hg (Calls.loadGlobal_global (by rw[I.ok.glob]; exact I.mod.glob.keeps I.bk) hm h) hd
theorem Ga6{s:Shared}{Q:Value->Shared->Prop}(I:Inv X pins σ H s)(hg:Gl X x)(hm:X.mg x=none)(hv:bootBuiltins x=some u)(h:Q u s)(hn:x≠"__name__":=by decide)(hd:(x==("__debug__":Str))=false:=by decide):wpAny (model X.prog X.w) X.A (eval (.Name x pos) X.env) Q E s:=by
 obtain⟨mb,h1,h2⟩:=I.mod.blt
 exact Calls.Name_function_global I.ok.kind hg (Calls.loadGlobal_builtin (by rw[I.ok.glob]; exact I.mod.glob.keeps I.bk) hm (by rw[I.ok.blt]; exact h1.keeps I.bk) ((h2 x hn).trans hv) h) hd
theorem Gkk(hg:Gl X x)(hm:X.mg x=some u)(r:Hn v u)(hd:(x==("__debug__":Str))=false:=by decide):PE X (.Name x pos) (tC v):=
 fun _ _ _ H _ I h=>Ggc I hg hm ⟨v,H,I,r,h⟩ hd
theorem Gkl(hg:Gl X x)(hm:X.mg x=none)(hv:bootBuiltins x=some u)(r:Hn v u)(hn:x≠"__name__":=by decide)(hd:(x==("__debug__":Str))=false:=by decide):PE X (.Name x pos) (tC v):=
 fun _ _ _ H _ I h=>Ga6 I hg hm hv ⟨v,H,I,r,h⟩ hn hd
variable{a b:Expr}{ta tb:TE}{pos:Pos}
variable{tA tB':TT}{rest:List Expr}
def Gtf(t u:TT):TT:=fun σ H Q=>t σ H fun c H1=>if c=true then u σ H1 Q else Q false H1
def tOr(t u:TT):TT:=fun σ H Q=>t σ H fun c H1=>if c=true then Q true H1 else u σ H1 Q
def Gtg(t:TT):TT:=fun σ H Q=>t σ H fun c H1=>Q (!c) H1
theorem Gkm(ha:PT X a tA):PW X (.BoolOp .And [a] pos) tA:=by
 intro wh pins s σ H Q I h
 refine isTrue_and (thn (ha pins s σ H Q I h) fun c s1 e=>?_)
 cases c with
 | true=>exact isTrue_and_nil e
 | false=>exact e
theorem Gn1(ha:PT X a tA):PW X (.BoolOp .Or [a] pos) tA:=by
 intro wh pins s σ H Q I h
 refine isTrue_or (thn (ha pins s σ H Q I h) fun c s1 e=>?_)
 cases c with
 | false=>exact isTrue_or_nil e
 | true=>exact e
theorem Gn2(ha:PT X a tA)(hb:PW X (.BoolOp .And (b::rest) pos) tB'):PW X (.BoolOp .And (a::b::rest) pos) (Gtf tA tB'):=by
 intro wh pins s σ H Q I h
 refine isTrue_and (thn (ha pins s σ H _ I h) fun c s1 ⟨H1,I1,q1⟩=>?_)
 cases c with
 | true=>exact hb wh pins s1 σ H1 Q I1 q1
 | false=>exact⟨H1,I1,q1⟩
theorem Grj(ha:PT X a tA)(hb:PW X (.BoolOp .Or (b::rest) pos) tB'):PW X (.BoolOp .Or (a::b::rest) pos) (tOr tA tB'):=by
 intro wh pins s σ H Q I h
 refine isTrue_or (thn (ha pins s σ H _ I h) fun c s1 ⟨H1,I1,q1⟩=>?_)
 cases c with
 | true=>exact⟨H1,I1,q1⟩
 | false=>exact hb wh pins s1 σ H1 Q I1 q1
theorem Gn3(ha:PT X a tA):PT X (.UnaryOp .Not a pos) (Gtg tA):=by
 intro pins s σ H Q I h
 exact isTrue_not (ha pins s σ H (fun c H1=>Q (!c) H1) I h)
def Grk(ta tb:TE):TE:=fun σ H Q=>ta σ H fun x H1=>∃ c,x=.bl c/\if c=true then tb σ H1 Q else Q (.bl false) H1
def Grl(ta:TE):TE:=fun σ H Q=>ta σ H fun x H1=>∃ c,x=.bl c/\Q (.bl (!c)) H1
theorem Gn4{op}{t:TE}(h:PE X a t):PE X (.BoolOp op [a] pos) t:=fun pins s σ H Q I hw=>BoolOp_one (h pins s σ H Q I hw)
theorem Gn5(ha:PE X a ta)(hb:PE X (.BoolOp .And (b::rest) pos) tb):PE X (.BoolOp .And (a::b::rest) pos) (Grk ta tb):=by
 intro pins s σ H Q I h
 refine BoolOp_and (thn (ha pins s σ H _ I h) fun v s1 ⟨x,H1,I1,r1,q1⟩=>?_)
 obtain⟨c,rfl,q1⟩:=q1
 cases r1
 refine wpAny_truthy_bool ?_
 cases c with
 | true=>exact hb pins s1 σ H1 Q I1 q1
 | false=>exact⟨.bl false,H1,I1,rfl,q1⟩
theorem Gn6(ha:PE X a ta):PE X (.UnaryOp .Not a pos) (Grl ta):=by
 intro pins s σ H Q I h
 refine UnaryOp_ (thn (ha pins s σ H _ I h) fun v s1 ⟨x,H1,I1,r1,q1⟩=>?_)
 obtain⟨c,rfl,q1⟩:=q1
 cases r1
 exact not_of (wpAny_truthy_bool ⟨.bl (!c),H1,I1,rfl,q1⟩)
def tIf(t:TT)(ta tb:TE):TE:=fun σ H Q=>t σ H fun c H1=>if c=true then ta σ H1 Q else tb σ H1 Q
theorem Ghv(hc:PT X c tA)(ha:PE X a ta)(hb:PE X b tb):PE X (.IfExp c a b pos) (tIf tA ta tb):=by
 intro pins s σ H Q I h
 refine wpAny_IfExp (thn (hc pins s σ H _ I h) fun d s1 ⟨H1,I1,q1⟩=>?_)
 cases d with
 | true=>exact ha pins s1 σ H1 Q I1 q1
 | false=>exact hb pins s1 σ H1 Q I1 q1
end
def SqL(K:PySem.W.Frag)(H:Hp)(a:Addr)(xs:List V):Prop:=
 Rd H a (.lst xs)∨
  ∃ (o:Obj) (its:Array Value) (n:Nat),K.lookup a=some o/\o.cls=.type "list"/\o.dict=none/\o.data=.seq its n/\its.size<=sizeLine/\Vals xs its.toList
def SqT(K:PySem.W.Frag)(H:Hp)(a:Addr)(xs:List V):Prop:=
 Rd H a (.tup xs)∨
  ∃ (o:Obj) (its:Array Value) (n:Nat),K.lookup a=some o/\o.cls=.type "tuple"/\o.data=.seq its n/\its.size<=sizeLine/\Vals xs its.toList
def Gth:Value->Option V
 | .none=>some .non
 | .bool b=>some (.bl b)
 | .int i _=>some (.int i)
 | .str x _=>some (.str x)
 | .bytes b _=>some (.byt b)
 | .float b _=>some (.flt b)
 | .ref a=>some (.ref a)
 | .type n=>some (.ty n)
 | _=>none
theorem Hn.abs{x:V}(r:Hn x u):Gth u=some x:=by
 cases x with
 | non=>cases r; rfl
 | bl _=>cases r; rfl
 | int _=>obtain⟨t,rfl⟩:=r; rfl
 | str _=>obtain⟨t,rfl⟩:=r; rfl
 | byt _=>obtain⟨t,rfl⟩:=r; rfl
 | flt _=>obtain⟨t,rfl⟩:=r; rfl
 | ref _=>cases r; rfl
 | ty _=>cases r; rfl
theorem Hn.inj{x y:V}(r:Hn x u)(q:Hn y u):x=y:=Option.some.inj (r.abs.symm.trans q.abs)
theorem Vals.inj:∀ {xs ys:List V} {us:List Value},Vals xs us->Vals ys us->xs=ys
 | _,_,_,.nil,.nil=>rfl
 | _,_,_,.cons r t,.cons r' t'=>by rw[r.inj r',Vals.inj t t']
section
variable{X:Cx}{pins:List (Addr×Obj)}{σ:St}{H:Hp}{s:Shared}{a:Addr}{xs ys:List V}
theorem SqL.of(h:H a=some (.lst xs)):SqL K H a xs:=.inl (.inl h)
theorem SqT.of(h:H a=some (.tup xs)):SqT K H a xs:=.inl (.inl h)
theorem Inv.list(I:Inv X pins σ H s)(h:SqL X.K H a xs):∃ its:List Value,Vals xs its/\PlainL s.heap a its.toArray/\xs.length<=sizeLine:=by
 rcases h with h | ⟨o,its,n,hk,hc,hd,hs,hz,r⟩
 ·obtain⟨z,its,n,r,e⟩:=h.ok I.hok
  exact⟨its,r,⟨_,n,e,rfl,rfl,rfl⟩,z⟩
 ·refine⟨its.toList,r,⟨o,n,I.kIn a o hk,hc,hd,by simpa using hs⟩,?_⟩
  have e:=r.length
  simp only[Array.length_toList] at e
  omega
theorem Inv.tuple(I:Inv X pins σ H s)(h:SqT X.K H a xs):∃ its:List Value,Vals xs its/\IsTup s.heap a its.toArray/\xs.length<=sizeLine:=by
 rcases h with h | ⟨o,its,n,hk,hc,hs,hz,r⟩
 ·obtain⟨z,its,r,p⟩:=h.ok I.hok
  exact⟨its,r,p,z⟩
 ·refine⟨its.toList,r,⟨o,I.kIn a o hk,hc,n,by simpa using hs⟩,?_⟩
  have e:=r.length
  simp only[Array.length_toList] at e
  omega
theorem Inv.list_inj(I:Inv X pins σ H s)(h:SqL X.K H a xs)(h':SqL X.K H a ys):xs=ys:=by
 obtain⟨its,r,⟨o,n,e,_,_,d⟩,_⟩:=I.list h
 obtain⟨its',r',⟨o',n',e',_,_,d'⟩,_⟩:=I.list h'
 rw[e] at e'; cases e'
 rw[d] at d'
 injection d' with d1 _
 have:its=its':=by simpa using congrArg Array.toList d1
 subst this
 exact r.inj r'
theorem Inv.tuple_inj(I:Inv X pins σ H s)(h:SqT X.K H a xs)(h':SqT X.K H a ys):xs=ys:=by
 obtain⟨its,r,⟨o,e,_,n,d⟩,_⟩:=I.tuple h
 obtain⟨its',r',⟨o',e',_,n',d'⟩,_⟩:=I.tuple h'
 rw[e] at e'; cases e'
 rw[d] at d'
 injection d' with d1 _
 have:its=its':=by simpa using congrArg Array.toList d1
 subst this
 exact r.inj r'
end
abbrev Cx.wish(X:Cx)(E:Value->Shared->Prop):Cx:={ X with xe:=E }
abbrev Cx.nox(X:Cx):Cx:=X.wish fun _ _=>False
theorem Cx.Ok.wish(ok:X.Ok)(E:Value->Shared->Prop):(X.wish E).Ok:=
 ⟨ok.mod,ok.kind,ok.glob,ok.blt,ok.above,ok.inj,ok.has,ok.cab,ok.hd,ok.frames,ok.stk,ok.exf,ok.bs,ok.bsz,ok.noex,ok.exfs,ok.funs,ok.frf⟩
theorem Cx.Ok.unwish(ok:(X.wish E).Ok):X.Ok:=
 ⟨ok.mod,ok.kind,ok.glob,ok.blt,ok.above,ok.inj,ok.has,ok.cab,ok.hd,ok.frames,ok.stk,ok.exf,ok.bs,ok.bsz,ok.noex,ok.exfs,ok.funs,ok.frf⟩
section
variable{X:Cx}{pins:List (Addr×Obj)}{σ:St}{H:Hp}{s:Shared}{E:Value->Shared->Prop}
theorem Inv.wish(I:Inv X pins σ H s)(E:Value->Shared->Prop):Inv (X.wish E) pins σ H s:=⟨I.ok.wish E,I.os,I.bare,I.base,I.loc,I.cell,I.free,I.freeC,I.pin,I.hok,I.len⟩
theorem Inv.unwish(I:Inv (X.wish E) pins σ H s):Inv X pins σ H s:=⟨I.ok.unwish,I.os,I.bare,I.base,I.loc,I.cell,I.free,I.freeC,I.pin,I.hok,I.len⟩
theorem SP.unwish{D:Ends}{f:Flow}{s':Shared}(h:SP (X.wish E) pins D f s'):SP X pins D f s':=by
 cases f with
 | next=>obtain⟨σ',H',I,q⟩:=h; exact⟨σ',H',I.unwish,q⟩
 | brk=>obtain⟨σ',H',I,q⟩:=h; exact⟨σ',H',I.unwish,q⟩
 | cont=>obtain⟨σ',H',I,q⟩:=h; exact⟨σ',H',I.unwish,q⟩
 | ret u=>obtain⟨v,σ',H',I,r,q⟩:=h; exact⟨v,σ',H',I.unwish,r,q⟩
theorem PSs.nox{st:List Stmt}{t:TS}(h:PSs X.nox st t):PSs X st t:=fun pins s σ H D I hw=>
 wpAny_mono (h pins s σ H D (I.wish _) hw) (fun _ _ q=>q.unwish) fun _ _ z=>False.elim z
end
section
variable{X:Cx}{st:Stmt}{rest:List Stmt}{t u:TS}{e:Expr}{te:TE}{pos:Pos}
def Grm:TS:=fun D σ H=>D.nx σ H
def Gti(t u:TS):TS:=fun D σ H=>t { D with nx:=u D } σ H
theorem Gkn:PSs X [] Grm:=fun _ _ σ H _ I h=>wpAny_execs_nil ⟨σ,H,I,h⟩
theorem Ghw(h1:PS X st t)(h2:PSs X rest u):PSs X (st::rest) (Gti t u):=by
 intro pins s σ H D I h
 refine wpAny_execs_cons (thn (h1 pins s σ H { D with nx:=u D } I h) fun f s1 q=>?_)
 cases f with
 | next=>
  obtain⟨σ',H',I',q⟩:=q
  exact h2 pins s1 σ' H' D I' q
 | ret v=>exact q
 | brk=>exact q
 | cont=>exact q
theorem Gko(h1:PS X st t):PSs X [st] t:=by
 intro pins s σ H D I h
 refine wpAny_execs_cons (thn (h1 pins s σ H D I h) fun f s1 q=>?_)
 cases f with
 | next=>exact wpAny_execs_nil q
 | ret v=>exact q
 | brk=>exact q
 | cont=>exact q
theorem Inv.quiet{s:Shared}(I:Inv X pins σ H s):interactive X.env=false:=by simp[interactive,I.ok.kind]
def Grn(te:TE):TS:=fun D σ H=>te σ H fun _ H1=>D.nx σ H1
theorem Gkp(he:PE X e te)(hs:swapsWith e none pos.line X.env=pure false:=by rfl):PS X (.Expr e pos) (Grn te):=by
 intro pins s σ H D I h
 exact wpAny_Expr_any (thn (he pins s σ H _ I h) fun v s1 ⟨x,H1,I1,r1,q1⟩=>⟨σ,H1,I1,q1⟩) I.quiet hs
def Gtj(te:TE):TS:=fun D σ H=>te σ H D.rt
theorem Gn7(he:PE X e te):PS X (.Return (some e) pos) (Gtj te):=by
 intro pins s σ H D I h
 exact wpAny_Return_some (thn (he pins s σ H _ I h) fun v s1 ⟨x,H1,I1,r1,q1⟩=>⟨x,σ,H1,I1,r1,q1⟩)
def Gtk(c:TT)(t u:TS):TS:=fun D σ H=>c σ H fun b H1=>if b=true then t D σ H1 else u D σ H1
theorem Gro{a b:List Stmt}{tc:TT}(hc:PT X c tc)(ha:PSs X a t)(hb:PSs X b u):PS X (.If c a b pos) (Gtk tc t u):=by
 intro pins s σ H D I h
 refine wpAny_If (thn (hc pins s σ H _ I h) fun d s1 ⟨H1,I1,q1⟩=>?_)
 cases d with
 | true=>exact ha pins s1 σ H1 D I1 q1
 | false=>exact hb pins s1 σ H1 D I1 q1
end
abbrev TG:=V->St->Hp->(St->Hp->Prop)->Prop
abbrev TGs:=List V->St->Hp->(St->Hp->Prop)->Prop
def PG(X:Cx)(target:Expr)(t:TG):Prop:=
 ∀ (pins:List (Addr×Obj)) (s:Shared) (σ:St) (H:Hp) (v:V) (u:Value) (Q:St->Hp->Prop),Inv X pins σ H s->Hn v u->t v σ H Q→
  wpAny (model X.prog X.w) X.A (assign target X.env u) (fun _ s'=>∃ σ' H',Inv X pins σ' H' s'/\Q σ' H') X.xe s
def PGs(X:Cx)(ts:List Expr)(t:TGs):Prop:=
 ∀ (pins:List (Addr×Obj)) (s:Shared) (σ:St) (H:Hp) (vs:List V) (us:List Value) (Q:St->Hp->Prop),Inv X pins σ H s->Vals vs us->t vs σ H Q→
  wpAny (model X.prog X.w) X.A (assignInOrder ((assignEach ts X.env).map (·.2)) us) (fun _ s'=>∃ σ' H',Inv X pins σ' H' s'/\Q σ' H') X.xe s
abbrev Ghx:=V->V->V->Hp->(Hp->Prop)->Prop
def Gn8(X:Cx)(t:Ghx):Prop:=
 ∀ (pins:List (Addr×Obj)) (s:Shared) (σ:St) (H:Hp) (o i v:V) (ov iv u:Value) (Q:Hp->Prop),Inv X pins σ H s->Hn o ov->Hn i iv->Hn v u->t o i v H Q→
  wpAny (model X.prog X.w) X.A (setItem ov iv u) (fun _ s'=>∃ H',Inv X pins σ H' s'/\Q H') X.xe s
section
variable{X:Cx}{pos:Pos}
def gName(i:Nat):TG:=fun v σ H Q=>Q (σ.set i (some v)) H
theorem Gkq{i:Nat}(hN:X.N.Nodup)(hi:X.N[i]?=some x)(hx:Loc X.env.scope x)(hf:X.fn x=true\/X.env.scope.names.lookup x=some .local:=by first | exact .inl rfl | exact .inr rfl | assumption):PG X (.Name x pos) (gName i):=by
 intro pins s σ H v u Q I r h
 exact wpAny_assign_Name (Gej I hN hi hx r (fun s' I'=>⟨_,H,I',h⟩) hf)
def Gtl:TGs:=fun vs σ H Q=>vs=[]/\Q σ H
def Grp(t:TG)(u:TGs):TGs:=fun vs σ H Q=>∃ v r,vs=v::r/\t v σ H fun σ' H'=>u r σ' H' Q
theorem Gkr:PGs X [] Gtl:=by
 intro pins s σ H vs us Q I r h
 obtain⟨e,h⟩:=h
 subst e
 cases r
 exact assignInOrder_nil ⟨σ,H,I,h⟩
theorem Ghy{e:Expr}{es:List Expr}{t:TG}{u:TGs}(h1:PG X e t)(h2:PGs X es u)
  (hs:(assignEach (e::es) X.env).map (·.2)=assign e X.env::(assignEach es X.env).map (·.2):=by rfl):PGs X (e::es) (Grp t u):=by
 intro pins s σ H vs us Q I r h
 obtain⟨v,vr,e1,h⟩:=h
 subst e1
 cases r with
 | cons r rr=>
  rw[hs]
  refine assignInOrder_cons (thn (h1 pins s σ H _ _ _ I r h) fun _ s1 ⟨σ1,H1,I1,q1⟩=>?_)
  exact h2 pins s1 σ1 H1 _ _ Q I1 rr q1
def Gtm(K:PySem.W.Frag)(n:Nat)(t:TGs):TG:=fun v σ H Q=>∃ a xs,v=.ref a/\SqT K H a xs/\xs.length=n/\t xs σ H Q
theorem Gn9{es:List Expr}{t:TGs}{n:Nat}(hc:X.calm=true)(h:PGs X es t)(hn:(assignEach es X.env).length=n:=by rfl)(hst:(assignEach es X.env).findIdx? (·.1)=none:=by rfl):PG X (.Tuple es k pos) (Gtm X.K n t):=by
 intro pins s σ H v u Q I r hw
 obtain⟨a,xs,e1,hq,hl,hw⟩:=hw
 subst e1
 cases r
 obtain⟨its,rv,ht,hz⟩:=I.tuple hq
 refine assign_Tuple_tuple (I.ok.hd hc) ht (by simp[hn,<- hl,rv.length]) hst fun h' hx=>?_
 have I1:Inv X pins σ H { s with heap:=h' }:=I.kept (t':=s.toks) fun b o e=>hx b o (Nat.ne_of_lt (Heap.lt_size e)) e
 exact h pins _ σ H xs _ Q I1 (by simpa using rv) hw
def Gtn(to ti:TE)(t:Ghx):TG:=fun v σ H Q=>to σ H fun o H1=>ti σ H1 fun i H2=>t o i v H2 fun H3=>Q σ H3
theorem Goa{o i:Expr}{to ti:TE}{t:Ghx}(ho:PE X o to)(hi:PE X i ti)(hs:Gn8 X t)
  (ha:∀ v,assign (.Subscript o i pos) X.env v=(do
   let ov <- holding [v] (eval o X.env)
   let iv <- holding [v,ov] (eval i X.env)
   standAt pos
   holding [v,ov,iv] (setItem ov iv v)
   release [v,ov,iv] []):=by intro _; rfl):PG X (.Subscript o i pos) (Gtn to ti t):=by
 intro pins s σ H v u Q I r h
 rw[ha]
 refine wpAny_bind (wpAny_holding (thn (ho pins s σ H _ I h) fun ov s1 ⟨x,H1,I1,r1,q1⟩=>?_))
 refine wpAny_bind (wpAny_holding (thn (hi pins s1 σ H1 _ I1 q1) fun iv s2 ⟨y,H2,I2,r2,q2⟩=>?_))
 refine wpAny_bind (wpAny_standAt (wpAny_bind (wpAny_holding (thn (hs pins s2 σ H2 x y v ov iv u _ I2 r1 r2 r q2) fun _ s3 ⟨H3,I3,q3⟩=>?_))))
 exact wpAny_release ⟨σ,H3,I3,q3⟩
def Gks(te:TE)(g:TG):TS:=fun D σ H=>te σ H fun x H1=>g x σ H1 D.nx
theorem Ghz{e:Expr}{te:TE}{g:TG}(he:PE X e te)(hg:PG X tg g)(hs:swapsWithSole [tg] e pos.line X.env=pure false:=by rfl)(hw:swappedStores [tg] e X.env=pure none:=by rfl)(h1:(assignEach [tg] X.env).map (·.2)=[assign tg X.env]:=by rfl):PS X (.Assign [tg] e pos) (Gks te g):=by
 intro pins s σ H D I h
 refine wpAny_Assign_stores (thn (he pins s σ H _ I h) fun v s1 ⟨x,H1,I1,r1,q1⟩=>?_) hs hw
 rw[h1]
 exact thn (hg pins s1 σ H1 x v _ I1 r1 q1) fun _ s2 q=>q
theorem Gob{i:Nat}{e:Expr}{te:TE}{pos':Pos}(hN:X.N.Nodup)(hi:X.N[i]?=some x)(hx:Loc X.env.scope x)(he:PE X e te)(hs:swapsWith e (some (.Name x pos')) pos.line X.env=pure false:=by rfl)(hf:X.fn x=true\/X.env.scope.names.lookup x=some .local:=by first | exact .inl rfl | exact .inr rfl | assumption):
  PS X (.Assign [.Name x pos'] e pos) (Gks te (gName i)):=by
 intro pins s σ H D I h
 refine wpAny_Assign_Name (thn (he pins s σ H _ I h) fun v s1 ⟨y,H1,I1,r1,q1⟩=>?_) hs
 exact Gej I1 hN hi hx r1 (fun s2 I2=>⟨_,H1,I2,q1⟩) hf
end
section
variable{X:Cx}{pos:Pos}
def Goc(c:TT)(tb:TS):TS:=fun D σ H=>∃ W:Nat->St->Hp->Prop,(∃ m,W m σ H)/\∀ m σ H,W m σ H→
 c σ H fun b H1=>if b=true then ∃ N:St->Hp->Prop,(∀ σ' H',N σ' H'->∃ m',m'<m/\W m' σ' H')/\tb { D with nx:=N,ct:=N,bk:=D.nx } σ H1 else D.nx σ H1
theorem Gh0{tc:TT}{tb:TS}(hp:PassesOwn (model X.prog X.w) X.A X.env X.xe)(hc:PT X c tc)(hb:PSs X body tb):PS X (.While c body [] pos) (Goc tc tb):=by
 intro pins s σ H D I h
 obtain⟨W,⟨m0,w0⟩,turn⟩:=h
 refine wpAny_While (codeAny_whileLoop (fun n s'=>∃ σ' H',Inv X pins σ' H' s'/\W n σ' H') ?_ m0 ⟨σ,H,I,w0⟩)
 rintro n s1 ⟨σ1,H1,I1,w1⟩
 refine wpAny_passesOwn hp (thn (hc pins s1 σ1 H1 _ I1 (turn n σ1 H1 w1)) fun b s2 ⟨H2,I2,q2⟩=>?_)
 cases b with
 | true=>
  obtain⟨N,hN,q2⟩:=q2
  rw[if_pos rfl]
  refine wpAny_passesOwn hp (thn (hb pins s2 σ1 H2 _ I2 q2) fun f s3 q3=>?_)
  cases f with
  | next=>
   obtain⟨σ3,H3,I3,n3⟩:=q3
   obtain⟨m',hm,w3⟩:=hN σ3 H3 n3
   exact⟨m',hm,σ3,H3,I3,w3⟩
  | cont=>
   obtain⟨σ3,H3,I3,n3⟩:=q3
   obtain⟨m',hm,w3⟩:=hN σ3 H3 n3
   exact⟨m',hm,σ3,H3,I3,w3⟩
  | brk=>exact q3
  | ret v=>exact q3
 | false=>
  rw[if_neg Bool.false_ne_true]
  exact wpAny_execs_nil ⟨σ1,H2,I2,q2⟩
end
structure It where
 go:Nat->Hp->Prop
 yld:Nat->Hp->V->Hp->Prop
 stop:Nat->Hp->Prop
def Gek(X:Cx)(pins:List (Addr×Obj))(H:Hp)(b:Addr):Prop:=
 H b=none/\b≠X.env.locals/\b∉X.fs/\(b∈X.ex\/X.s₀.heap.objs.size<=b)/\(∀ x c,X.env.cells.lookup x=some c->c≠b)/\∀ p∈X.pn++pins,p.1≠b
theorem Inv.fpOk{H':Hp}{s:Shared}(I:Inv X pins σ H s)(hb:s.heap.objs.size<=b)(hn:H' b=none):Gek X pins H' b:=by
 refine⟨hn,Nat.ne_of_gt (Nat.lt_of_lt_of_le I.lt hb),I.nofs hb,.inr (Nat.le_trans I.sz hb),fun x c e z=>?_,fun p hp z=>?_⟩
 ·obtain⟨v,q⟩:=I.cell x c e
  exact absurd (Nat.lt_of_lt_of_le q.lt (by rw[z]; exact hb)) (Nat.lt_irrefl _)
 ·exact absurd (Nat.lt_of_lt_of_le (Heap.lt_size (I.pin p hp).1) (by rw[z]; exact hb)) (Nat.lt_irrefl _)
structure Turn(P:Program)(w:World)(K:PySem.W.Frag)(tg:Expr)(J:It)(fp:List Addr)(it:Addr)(tn:Nat->Heap->Prop):Prop where
 mem:it∈fp
 obj:∀ i h,tn i h->∀ b∈fp,∃ o,h.get? b=some o/\∀ v,o.data≠.cell v
 keep:∀ i h h',tn i h->(∀ b∈fp,∀ o,h.get? b=some o->h'.get? b=some o)->tn i h'
 item:∀ (X:Cx),X.prog=P->X.w=w->X.K=K->X.calm=true->∀ (i:Nat) (pins:List (Addr×Obj)) (s:Shared) (σ:St) (H:Hp) (E:Value->Shared->Prop),Inv X pins σ H s->(∀ b∈fp,Gek X pins H b)->tn i s.heap->J.go i H→
  wpAny (model P w) X.A (pyNext (.ref it)) (fun r s1=>∃ u,r=some u∧
   wpAny (model P w) X.A (letOwnedTupleGo tg (.ref it) u) (fun _ s2=>∃ x H',Inv X pins σ H' s2/\Hn x u/\J.yld i H x H'/\tn (i+1) s2.heap/\∀ b∈fp,H' b=none) E s1) E s
 done:∀ (X:Cx),X.prog=P->X.w=w->X.K=K->X.calm=true->∀ (i:Nat) (pins:List (Addr×Obj)) (s:Shared) (σ:St) (H:Hp) (E:Value->Shared->Prop),Inv X pins σ H s->(∀ b∈fp,Gek X pins H b)->tn i s.heap->J.stop i H→
  wpAny (model P w) X.A (pyNext (.ref it)) (fun r s1=>r=none/\Inv X pins σ H s1) E s
 self:∀ (A:Around) (i:Nat) (s:Shared) (Q:Value->Shared->Prop) (E:Value->Shared->Prop),tn i s.heap->Q (.ref it) s->wpAny (model P w) A (pyIter (.ref it)) Q E s
abbrev TI:=St->Hp->(It->Hp->Prop)->Prop
def PIE(X:Cx)(pins:List (Addr×Obj))(σ:St)(tg:Expr)(R:It->Hp->Prop)(itv:Value)(s2:Shared):Prop:=
 ∃ (it:Addr) (fp:List Addr) (tn:Nat->Heap->Prop) (J:It) (H':Hp),itv=.ref it/\Inv X pins σ H' s2/\Turn X.prog X.w X.K tg J fp it tn/\tn 0 s2.heap/\(∀ b∈fp,Gek X pins H' b)/\R J H'
def PI(X:Cx)(tg iter:Expr)(wi:TI):Prop:=
 ∀ (pins:List (Addr×Obj)) (s:Shared) (σ:St) (H:Hp) (R:It->Hp->Prop),Inv X pins σ H s->wi σ H R→
  wpAny (model X.prog X.w) X.A (eval iter X.env) (fun v s1=>wpAny (model X.prog X.w) X.A (pyIter v) (PIE X pins σ tg R) X.xe s1) X.xe s
theorem Gh1{s:Shared}{it:Addr}{o:Obj}{n:String}{vs:Array Value}{Q:Unit->Shared->Prop}(ho:s.heap.get? it=some o)(hc:o.cls=.type n)(hd:o.data=.fields vs)(hn:["enumerate","zip","dict_itemiterator","dict_reverseitemiterator","odict_iterator","itertools.zip_longest","itertools.pairwise"].contains n=false)(hQ:Q () s):wpAny M A (letOwnedTupleGo tg (.ref it) u) Q E s:=by
 unfold letOwnedTupleGo
 cases tg<;>first
  | exact wpAny_pure hQ
  | (cases u<;>first
    | exact wpAny_pure hQ
    | (refine wpAny_bind (wpAny_load ho ?_)
       rw[hc,hd]
       show wpAny M A (if(["enumerate","zip","dict_itemiterator","dict_reverseitemiterator","odict_iterator","itertools.zip_longest","itertools.pairwise"].contains n&&vs[0]?==some (rawInt _))=true then _ else _) Q E s
       rw[if_neg (by intro h; rw[hn,Bool.false_and] at h; cases h)]
       exact wpAny_pure hQ))
def Itl(K:PySem.W.Frag)(a:Addr):It:=
 ⟨fun i H=>∃ xs x,SqL K H a xs/\xs[i]?=some x,fun i H x H'=>H'=H/\∀ xs,SqL K H a xs->xs[i]?=some x,fun i H=>∃ xs,SqL K H a xs/\xs.length<=i⟩
def Itt(K:PySem.W.Frag)(a:Addr):It:=
 ⟨fun i H=>∃ xs x,SqT K H a xs/\xs[i]?=some x,fun i H x H'=>H'=H/\∀ xs,SqT K H a xs->xs[i]?=some x,fun i H=>∃ xs,SqT K H a xs/\xs.length<=i⟩
def Itr(lo:Int)(n:Nat):It:=⟨fun i _=>i<n,fun i H x H'=>H'=H/\x=.int (lo+i),fun i _=>n<=i⟩
theorem turn_list(a it:Addr):Turn P w K tg (Itl K a) [it] it (fun i h=>h.IsListIter it a i) where
 mem:=by simp
 obj:=fun i h st b hb=>by
  have e:b=it:=by simpa using hb
  subst e
  obtain⟨o,e,c,d⟩:=st
  exact⟨o,e,fun v z=>by rw[d] at z; cases z⟩
 keep:=fun i h h' st k=>st.at fun o e=>k it (by simp) o e
 item:=by
  intro X hP hw hK hc i pins s σ H E I hf st hg
  subst hP hw hK
  obtain⟨xs,x,hq,hx⟩:=hg
  obtain⟨its,rv,p,hz⟩:=I.list hq
  obtain⟨u,hu,ru⟩:=rv.get hx
  obtain⟨f0,f1,f2,f3,f4,f5⟩:=hf it (by simp)
  refine wpAny_pyNext_list_item st p.isList (x:=u) (by simpa using hu) fun h' st' sb=>?_
  have I1:Inv X pins σ H { s with heap:=h' }:=I.turned (t':=s.toks) (fun b o hb e=>(sb.2 b hb).trans e) f0 f1 f3 f4 f5
  obtain⟨o,e,c,d⟩:=id st'
  exact⟨u,rfl,Gh1 (s:={ s with heap:=h' }) e c d (by decide) ⟨x,H,I1,ru,⟨rfl,fun ys hy=>by rw[I.list_inj hy hq]; exact hx⟩,st',fun b hb=>(hf b hb).1⟩⟩
 done:=by
  intro X hP hw hK hc i pins s σ H E I hf st hg
  subst hP hw hK
  obtain⟨xs,hq,hx⟩:=hg
  obtain⟨its,rv,p,hz⟩:=I.list hq
  obtain⟨f0,f1,f2,f3,f4,f5⟩:=hf it (by simp)
  have hl:=rv.length
  exact wpAny_pyNext_list_end (I.ok.hd hc) st p.isList (by simp; omega) fun h' eb=>⟨rfl,I.turned (t':=s.toks) (fun b o hb e=>eb b o hb e) f0 f1 f3 f4 f5⟩
 self:=fun _ _ _ _ _ st h=>wpAny_pyIter_listiter st h
theorem turn_tuple(a it:Addr):Turn P w K tg (Itt K a) [it] it (fun i h=>h.IsTupleIter it a i) where
 mem:=by simp
 obj:=fun i h st b hb=>by
  have e:b=it:=by simpa using hb
  subst e
  obtain⟨o,e,c,d⟩:=st
  exact⟨o,e,fun v z=>by rw[d] at z; cases z⟩
 keep:=fun i h h' st k=>st.at fun o e=>k it (by simp) o e
 item:=by
  intro X hP hw hK hc i pins s σ H E I hf st hg
  subst hP hw hK
  obtain⟨xs,x,hq,hx⟩:=hg
  obtain⟨its,rv,p,hz⟩:=I.tuple hq
  obtain⟨u,hu,ru⟩:=rv.get hx
  obtain⟨f0,f1,f2,f3,f4,f5⟩:=hf it (by simp)
  refine wpAny_pyNext_tuple_item st (show s.heap.IsTuple a its.toArray from p) (x:=u) (by simpa using hu) fun h' st' sb=>?_
  have I1:Inv X pins σ H { s with heap:=h' }:=I.turned (t':=s.toks) (fun b o hb e=>(sb.2 b hb).trans e) f0 f1 f3 f4 f5
  obtain⟨o,e,c,d⟩:=id st'
  exact⟨u,rfl,Gh1 (s:={ s with heap:=h' }) e c d (by decide) ⟨x,H,I1,ru,⟨rfl,fun ys hy=>by rw[I.tuple_inj hy hq]; exact hx⟩,st',fun b hb=>(hf b hb).1⟩⟩
 done:=by
  intro X hP hw hK hc i pins s σ H E I hf st hg
  subst hP hw hK
  obtain⟨xs,hq,hx⟩:=hg
  obtain⟨its,rv,p,hz⟩:=I.tuple hq
  obtain⟨f0,f1,f2,f3,f4,f5⟩:=hf it (by simp)
  have hl:=rv.length
  exact wpAny_pyNext_tuple_end (I.ok.hd hc) st (show s.heap.IsTuple a its.toArray from p) (by simp; omega) fun h' eb=>⟨rfl,I.turned (t':=s.toks) (fun b o hb e=>eb b o hb e) f0 f1 f3 f4 f5⟩
 self:=fun _ _ _ _ _ st h=>wpAny_pyIter_tupleiter st h
theorem turn_range(it:Addr)(lo:Int)(n:Nat):Turn P w K tg (Itr lo n) [it] it (fun i h=>IsRangeIter h it (lo+(i:Nat)*1) ((n:Int)-(i:Nat)) 1) where
 mem:=by simp
 obj:=fun i h st b hb=>by
  have e:b=it:=by simpa using hb
  subst e
  exact⟨_,st,fun v z=>by
   have z':Data.fields _=Data.cell v:=z
   cases z'⟩
 keep:=fun i h h' st k=>k it (by simp) _ st
 item:=by
  intro X hP hw hK hc i pins s σ H E I hf st hg
  subst hP hw hK
  obtain⟨f0,f1,f2,f3,f4,f5⟩:=hf it (by simp)
  have W:=Walks.range (prog:=X.prog) (w:=X.w) (I.ok.hd hc) it lo 1 n
  refine W.item i s _ _ hg st fun v h' tk hv st' kk=>?_
  obtain⟨t,rfl⟩:=hv
  have I1:Inv X pins σ H { s with heap:=h',toks:=tk }:=I.turned (fun b o hb e=>kk b o (by simpa using hb) e) f0 f1 f3 f4 f5
  refine⟨_,rfl,Gh1 (s:={ s with heap:=h',toks:=tk }) (n:="range_iterator") st' rfl rfl (by decide) ⟨.int (lo+i),H,I1,⟨t,?_⟩,⟨rfl,rfl⟩,st',fun b hb=>(hf b hb).1⟩⟩
  rw[Int.mul_one]
 done:=by
  intro X hP hw hK hc i pins s σ H E I hf st hg
  subst hP hw hK
  obtain⟨f0,f1,f2,f3,f4,f5⟩:=hf it (by simp)
  exact wpAny_pyNext_range_end (I.ok.hd hc) st (by have:n<=i:=hg; omega) fun h' eb=>⟨rfl,I.turned (t':=s.toks) (fun b o hb e=>eb b o hb e) f0 f1 f3 f4 f5⟩
 self:=fun _ _ _ _ _ st h=>wpAny_pyIter_rangeiter st h
section
variable{X:Cx}{tg:Expr}
theorem Gh2{s:Shared}{R:It->Hp->Prop}{lo hi:Int}{t u v:Tok}{tk:Nat}(I:Inv X pins σ H s)(h1 : -(2^62)<=lo)(h2:lo<2^62)(h3 : -(2^62)<=hi)(h4:hi<2^62)(q:R (Itr lo (hi-lo).toNat) H):wpAny (model X.prog X.w) X.A (pyIter (.ref s.heap.objs.size)) (PIE X pins σ tg R) E { s with heap:=s.heap.push { cls:=.type "range",data:=.fields #[.int lo t,.int hi u,.int 1 v] },toks:=tk }:=by
 refine wpAny_pyIter_range (IsRange.new ..) (small_one h1 h2 h3 h4) ?_
 have I1:Inv X pins σ H { s with heap:=s.heap.push { cls:=.type "range",data:=.fields #[.int lo t,.int hi u,.int 1 v] },toks:=tk }:=I.kept fun b o e=>Heap.get?_push_of_some _ e
 refine⟨(s.heap.push { cls:=.type "range",data:=.fields #[.int lo t,.int hi u,.int 1 v] }).objs.size,[(s.heap.push { cls:=.type "range",data:=.fields #[.int lo t,.int hi u,.int 1 v] }).objs.size],_,_,H,rfl,
  I1.kept (t':=tk) fun b o e=>Heap.get?_push_of_some _ e,turn_range _ lo (hi-lo).toNat,?_,fun b hb=>?_,q⟩
 ·have e1:lo+((0:Nat):Int)*1=lo:=by simp
  have e2:(((hi-lo).toNat:Nat):Int)-((0:Nat):Int)=Builtin.Range.rangeSize lo hi 1:=by rw[rangeSize_one]; split<;>omega
  show IsRangeIter _ _ (lo+((0:Nat):Int)*1) ((((hi-lo).toNat:Nat):Int)-((0:Nat):Int)) 1
  rw[e1,e2]
  exact Heap.get?_push_size _ rfl
 ·have e:b=(s.heap.push { cls:=.type "range",data:=.fields #[.int lo t,.int hi u,.int 1 v] }).objs.size:=by simpa using hb
  subst e
  exact I1.fpOk (Nat.le_refl _) (I1.hok.fresh (Nat.le_refl _))
def Grq(ta:TA):TI:=fun σ H R=>ta σ H fun vs H1=>∃ j:Int,vs=[.int j] /\ -(2^62)<=j/\j<2^62/\R (Itr 0 j.toNat) H1
theorem Gg8{a:Expr}{ta:TA}{p:Pos}(hg:Gl X "range")(hm:X.mg "range"=none)(ha:PA X [a] ta)(hs:starEach [a] X.env=[(false,eval a X.env)]:=by rfl):PI X tg (.Call (.Name "range" p) [a] [] pos) (Grq ta):=by
 intro pins s σ H R I h
 refine Call_ (Ga6 I hg hm boot_range (PyProof.Rows.callWith_type1 (thn (ha pos pins s σ H _ I h) fun us s1 ⟨vs,H1,I1,r1,q1⟩=>?_) hs rfl))
 obtain⟨j,e,q1,q2,q⟩:=q1
 subst e
 cases r1 with
 | cons r rr=>
  cases rr
  obtain⟨t,rfl⟩:=r
  exact call_range_1 (Gh2 I1 (by omega) (by omega) q1 q2 (by simpa using q))
def Gto(wi:TI)(g:TG)(tb:TS):TS:=fun D σ H=>wi σ H fun J H1=>∃ W:Nat->Nat->St->Hp->Prop,(∃ m,W 0 m σ H1)/\∀ i m σ H,W i m σ H→
 (J.stop i H/\D.nx σ H)\/(J.go i H/\∃ N:St->Hp->Prop,(∀ σ' H',N σ' H'->∃ m',m'<m/\W (i+1) m' σ' H')/\∀ x H',J.yld i H x H'->g x σ H' fun σ2 H2=>tb { D with nx:=N,ct:=N,bk:=D.nx } σ2 H2)
def Ga7(fp:List Addr)(h:Heap):List (Addr×Obj):=fp.filterMap fun b=>(h.get? b).map fun o=>(b,o)
theorem Wf{o:Obj}(hb:b∈fp)(e:h.get? b=some o):(b,o)∈Ga7 fp h:=List.mem_filterMap.mpr ⟨b,hb,by rw[e]; rfl⟩
theorem Gg9{p:Addr×Obj}(hp:p∈Ga7 fp h):p.1∈fp/\h.get? p.1=some p.2:=by
 obtain⟨b,hb,e⟩:=List.mem_filterMap.mp hp
 cases q:h.get? b with
 | none=>rw[q] at e; cases e
 | some o=>
  rw[q] at e
  have e':(b,o)=p:=Option.some.inj e
  subst e'
  exact⟨hb,q⟩
theorem Inv.pinned{s:Shared}(I:Inv X pins σ H s)(hf:∀ b∈fp,Gek X pins H b)(ho:∀ b∈fp,∃ o,s.heap.get? b=some o/\∀ v,o.data≠.cell v):Inv X (pins++Ga7 fp s.heap) σ H s:=
 I.pins_of fun p hp=>(List.mem_append.mp hp).elim (fun z=>I.pin p (List.mem_append_right _ z)) fun z=>by
  obtain⟨hb,e⟩:=Gg9 z
  obtain⟨f0,f1,f2,_⟩:=hf p.1 hb
  obtain⟨o,e',d⟩:=ho p.1 hb
  rw[e] at e'; cases e'
  exact⟨e,f0,f1,f2,d⟩
theorem Inv.unpinned{pl:List (Addr×Obj)}{s:Shared}(I:Inv X (pins++pl) σ H s):Inv X pins σ H s:=I.pins_of fun p hp=>I.pin p (List.mem_append_right _ (List.mem_append_left _ hp))
theorem God{iter:Expr}{wi:TI}{g:TG}{tb:TS}(hp:PassesOwn (model X.prog X.w) X.A X.env X.xe)(hc:X.calm=true)(hi:PI X tg iter wi)(hg:PG X tg g)(hb:PSs X body tb)(hs:∀ x,foldedSetIterable iter X.env x=pure x:=by intro _; rfl):PS X (.For tg iter body [] pos) (Gto wi g tb):=by
 intro pins s σ H D I h
 refine wpAny_For (thn (hi pins s σ H _ I h) fun v s1 h1=>thn h1 fun itv s2 h2=>?_) hs
 obtain⟨it,fp,tn,J,H2,e,I2,T,st2,f2,W,⟨m0,w0⟩,turn⟩:=h2
 subst e
 have stat:∀ {H':Hp},(∀ b∈fp,H' b=none)->∀ b∈fp,Gek X pins H' b:=fun hn b hb=>⟨hn b hb,(f2 b hb).2⟩
 refine codeAny_forLoop_any (fun n s'=>∃ i σ' H',Inv X pins σ' H' s'/\tn i s'.heap/\(∀ b∈fp,H' b=none)/\W i n σ' H') ?_ m0 ⟨0,σ,H2,I2,st2,fun b hb=>(f2 b hb).1,w0⟩
 rintro n s3 ⟨i,σ3,H3,I3,st3,fr3,w3⟩
 rcases turn i n σ3 H3 w3 with⟨stop,qn⟩ | ⟨go,N,hN,step⟩
 ·refine wpAny_passesOwn hp (thn (T.done X rfl rfl rfl hc i pins s3 σ3 H3 X.xe I3 (stat fr3) st3 stop) fun r s4 ⟨hr,I4⟩=>?_)
  subst hr
  exact wpAny_execs_nil ⟨σ3,H3,I4,qn⟩
 ·refine wpAny_passesOwn hp (thn (T.item X rfl rfl rfl hc i pins s3 σ3 H3 X.xe I3 (stat fr3) st3 go) fun r s4 ⟨u,hr,h4⟩=>?_)
  subst hr
  refine wpAny_passesOwn hp (thn h4 fun _ s5 ⟨x,H5,I5,r5,y5,st5,fr5⟩=>?_)
  have I5':=I5.pinned (stat fr5) (T.obj _ _ st5)
  refine wpAny_passesOwn hp (thn (hg _ s5 σ3 H5 x u _ I5' r5 (step x H5 y5)) fun _ s6 ⟨σ6,H6,I6,q6⟩=>?_)
  refine wpAny_passesOwn hp (thn (hb _ s6 σ6 H6 _ I6 q6) fun f s7 q7=>?_)
  have again:∀ {σ7:St} {H7:Hp},Inv X (pins++Ga7 fp s5.heap) σ7 H7 s7->N σ7 H7->∃ m,m<n/\∃ i σ' H',Inv X pins σ' H' s7/\tn i s7.heap/\(∀ b∈fp,H' b=none)/\W i m σ' H':=fun{σ7 H7} I7 n7=>by
   obtain⟨m',hm,w7⟩:=hN σ7 H7 n7
   refine⟨m',hm,i+1,σ7,H7,I7.unpinned,T.keep _ _ _ st5 fun b hb o e=>(I7.pin (b,o) (List.mem_append_right _ (List.mem_append_right _ (Wf hb e)))).1,fun b hb=>?_,w7⟩
   obtain⟨o,e,d⟩:=T.obj _ _ st5 b hb
   exact(I7.pin (b,o) (List.mem_append_right _ (List.mem_append_right _ (Wf hb e)))).2.1
  cases f with
  | next=>obtain⟨σ7,H7,I7,n7⟩:=q7; exact again I7 n7
  | cont=>obtain⟨σ7,H7,I7,n7⟩:=q7; exact again I7 n7
  | brk=>obtain⟨σ7,H7,I7,q7⟩:=q7; exact⟨σ7,H7,I7.unpinned,q7⟩
  | ret v=>obtain⟨x7,σ7,H7,I7,r7,q7⟩:=q7; exact⟨x7,σ7,H7,I7.unpinned,r7,q7⟩
end
abbrev R2:=V->V->Hp->VK->Prop
variable{r:R2}
def OpR(X:Cx)(f:Value->Value->Sem Value)(r:R2):Prop:=
 ∀ (pins:List (Addr×Obj)) (s:Shared) (σ:St) (H:Hp) (x y:V) (v u:Value) (Q:VK),Inv X pins σ H s->Hn x v->Hn y u->r x y H Q→
  wpAny (model X.prog X.w) X.A (f v u) (EP X pins σ Q) X.xe s
def UnR(X:Cx)(f:Value->Sem Value)(r:V->Hp->VK->Prop):Prop:=
 ∀ (pins:List (Addr×Obj)) (s:Shared) (σ:St) (H:Hp) (x:V) (v:Value) (Q:VK),Inv X pins σ H s->Hn x v->r x H Q→
  wpAny (model X.prog X.w) X.A (f v) (EP X pins σ Q) X.xe s
def Xg(X:Cx)(f:Value)(r:List V->Hp->VK->Prop):Prop:=
 ∀ (pins:List (Addr×Obj)) (s:Shared) (σ:St) (H:Hp) (xs:List V) (us:List Value) (Q:VK),Inv X pins σ H s->Vals xs us->r xs H Q→
  wpAny (model X.prog X.w) X.A (call f us) (EP X pins σ Q) X.xe s
def Gtp(X:Cx)(r:V->Hp->(Bool->Hp->Prop)->Prop):Prop:=
 ∀ (pins:List (Addr×Obj)) (s:Shared) (σ:St) (H:Hp) (x:V) (v:Value) (Q:Bool->Hp->Prop),Inv X pins σ H s->Hn x v->r x H Q→
  wpAny (model X.prog X.w) X.A (truthy v) (TP X pins σ Q) X.xe s
def tOp(r:R2)(ta tb:TE):TE:=fun σ H Q=>ta σ H fun x H1=>tb σ H1 fun y H2=>r x y H2 Q
def tUn(r:V->Hp->VK->Prop)(ta:TE):TE:=fun σ H Q=>ta σ H fun x H1=>r x H1 Q
def rI(C:Int->Int->Prop)(g:Int->Int->V):R2:=fun x y H Q=>∃ i j,x=.int i/\y=.int j/\C i j/\Q (g i j) H
def rI0(g:Int->Int->V):R2:=fun x y H Q=>∃ i j,x=.int i/\y=.int j/\Q (g i j) H
def rU(g:Int->V):V->Hp->VK->Prop:=fun x H Q=>∃ i,x=.int i/\Q (g i) H
section
variable{X:Cx}{a b c:Expr}{ta tb tc:TE}{pos:Pos}
theorem Goe(ha:PE X a ta)(hb:PE X b tb){s:Shared}{R:V->V->Hp->Prop}(I:Inv X pins σ H s)(h:ta σ H fun x H1=>tb σ H1 fun y H2=>R x y H2){Q:Value->Shared->Prop}(hf:∀ v u s2 x y H2,Inv X pins σ H2 s2->Hn x v->Hn y u->R x y H2->wpAny (model X.prog X.w) X.A (f v u) Q X.xe s2):
  wpAny (model X.prog X.w) X.A (eval a X.env) (fun v s₁=>wpAny (model X.prog X.w) X.A (eval b X.env) (fun u s₂=>wpAny (model X.prog X.w) X.A (f v u) Q X.xe s₂) X.xe s₁) X.xe s:=by
 refine thn (ha pins s σ H _ I h) fun v s1 ⟨x,H1,I1,r1,q1⟩=>?_
 refine thn (hb pins s1 σ H1 _ I1 q1) fun u s2 ⟨y,H2,I2,r2,q2⟩=>?_
 exact hf v u s2 x y H2 I2 r1 r2 q2
theorem Grr{op:Operator}(ho:OpR X (binaryOp op) r)(ha:PE X a ta)(hb:PE X b tb):PE X (.BinOp a op b pos) (tOp r ta tb):=by
 intro pins s σ H Q I h
 exact wpAny_BinOp (Goe ha hb I h fun v u s2 x y H2 I2 rx ry q=>ho pins s2 σ H2 x y v u Q I2 rx ry q)
theorem Grs{op:UnaryOp}{r:V->Hp->VK->Prop}(ho:UnR X (unaryOp op) r)(ha:PE X a ta):PE X (.UnaryOp op a pos) (tUn r ta):=by
 intro pins s σ H Q I h
 exact UnaryOp_ (thn (ha pins s σ H _ I h) fun v s1 ⟨x,H1,I1,r1,q1⟩=>ho pins s1 σ H1 x v Q I1 r1 q1)
theorem opI{C:Int->Int->Prop}{g:Int->Int->Int}(rule:∀ (i j:Int) (t u:Tok) (s:Shared) (Q:Value->Shared->Prop) (E:Value->Shared->Prop),C i j->Q (.int (g i j) s.toks) { s with toks:=s.toks+1 }->wpAny (model X.prog X.w) X.A (f (.int i t) (.int j u)) Q E s):
  OpR X f (rI C fun i j=>.int (g i j)):=by
 intro pins s σ H x y v u Q I rx ry h
 obtain⟨i,j,rfl,rfl,hc,q⟩:=h
 obtain⟨t,rfl⟩:=rx
 obtain⟨t',rfl⟩:=ry
 exact rule i j t t' s _ _ hc ⟨.int (g i j),H,I.tok _,⟨_,rfl⟩,q⟩
theorem opI0{g:Int->Int->Int}(rule:∀ (i j:Int) (t u:Tok) (s:Shared) (Q:Value->Shared->Prop) (E:Value->Shared->Prop),Q (.int (g i j) s.toks) { s with toks:=s.toks+1 }->wpAny (model X.prog X.w) X.A (f (.int i t) (.int j u)) Q E s):
  OpR X f (rI0 fun i j=>.int (g i j)):=by
 intro pins s σ H x y v u Q I rx ry h
 obtain⟨i,j,rfl,rfl,q⟩:=h
 obtain⟨t,rfl⟩:=rx
 obtain⟨t',rfl⟩:=ry
 exact rule i j t t' s _ _ ⟨.int (g i j),H,I.tok _,⟨_,rfl⟩,q⟩
theorem opB0{g:Int->Int->Bool}(rule:∀ (i j:Int) (t u:Tok) (s:Shared) (Q:Value->Shared->Prop) (E:Value->Shared->Prop),Q (.bool (g i j)) s->wpAny (model X.prog X.w) X.A (f (.int i t) (.int j u)) Q E s):
  OpR X f (rI0 fun i j=>.bl (g i j)):=by
 intro pins s σ H x y v u Q I rx ry h
 obtain⟨i,j,rfl,rfl,q⟩:=h
 obtain⟨t,rfl⟩:=rx
 obtain⟨t',rfl⟩:=ry
 exact rule i j t t' s _ _ ⟨.bl (g i j),H,I,rfl,q⟩
def Gtq(i j:Int):Prop:=0<=j/\j<=1000000/\i.natAbs<2^64
def CMul(i j:Int):Prop:=(-(2^64)<i/\i<2^64)\/(-(2^64)<j/\j<2^64)
theorem CMul.ok{i j:Int}(h:CMul i j):IntMulOk i j:=by
 rcases h with⟨h1,h2⟩ | ⟨h1,h2⟩
 ·exact .of_left (intBits_le_64 h1 h2)
 ·exact .of_right (intBits_le_64 h1 h2)
theorem Gof:OpR X (binaryOp .Add) (rI0 fun i j=>.int (i+j)):=opI0 fun _ _ _ _ _ _ _ q=>add_int q
theorem Gog:OpR X (binaryOp .Sub) (rI0 fun i j=>.int (i-j)):=opI0 fun _ _ _ _ _ _ _ q=>sub_int q
theorem Goh:OpR X (binaryOp .Mult) (rI CMul fun i j=>.int (i*j)):=opI fun _ _ _ _ _ _ _ hc q=>mul_int q hc.ok
theorem Goi:OpR X (binaryOp .Mod) (rI (fun _ j=>0<j) fun i j=>.int (i%j)):=opI fun i j _ _ _ _ _ hc q=>by
 have h1:(0:Int)<j:=hc
 exact mod_int' (by omega) (by rw[Int.fmod_eq_emod_of_nonneg i (by omega)]; exact q)
theorem Goj:OpR X (binaryOp .Pow) (rI Gtq fun i j=>.int (i^j.toNat)):=opI fun _ _ _ _ _ _ _ hc q=>pow_int_small hc.1 hc.2.1 hc.2.2 q
theorem unI{f:Value->Sem Value}{g:Int->Int}
  (rule:∀ (i:Int) (t:Tok) (s:Shared) (Q:Value->Shared->Prop) (E:Value->Shared->Prop),Q (.int (g i) s.toks) { s with toks:=s.toks+1 }->wpAny (model X.prog X.w) X.A (f (.int i t)) Q E s):
  UnR X f (rU fun i=>.int (g i)):=by
 intro pins s σ H x v Q I rx h
 obtain⟨i,rfl,q⟩:=h
 obtain⟨t,rfl⟩:=rx
 exact rule i t s _ _ ⟨.int (g i),H,I.tok _,⟨_,rfl⟩,q⟩
theorem Gok:UnR X (unaryOp .USub) (rU fun i=>.int (-i)):=unI fun _ _ _ _ _ q=>neg_int q
end
section
variable{X:Cx}{a b c:Expr}{ta tb tc:TE}{pos:Pos}
theorem Gol{s:Shared}{Q:VK}{k k':Bool}(I:Inv X pins σ H s)(q:Q (.bl k) H)(e:k=k'):EP X pins σ Q (.bool k') s:=by
 subst e
 exact⟨.bl k,H,I,rfl,q⟩
theorem Gmy:OpR X (compareOp .Lt) (rI0 fun i j=>.bl (decide (i<j))):=opB0 fun _ _ _ _ _ _ _ q=>lt_int q
theorem Gh3:OpR X (compareOp .LtE) (rI0 fun i j=>.bl (decide (i<=j))):=opB0 fun _ _ _ _ _ _ _ q=>le_int q
theorem Grt:OpR X (compareOp .Gt) (rI0 fun i j=>.bl (decide (j<i))):=opB0 fun _ _ _ _ _ _ _ q=>gt_int q
theorem Gru:OpR X (compareOp .GtE) (rI0 fun i j=>.bl (decide (j<=i))):=opB0 fun _ _ _ _ _ _ _ q=>ge_int q
theorem Gkt:OpR X (compareOp .IsNot) (fun x y H Q=>y=.non/\Q (.bl (!decide (x=.non))) H):=by
 intro pins s σ H x y v u Q I rx ry h
 obtain⟨rfl,q⟩:=h
 cases ry
 refine isnot_none_gen (Gol I q ?_)
 cases x<;>first
  | (cases rx; rfl)
  | (obtain⟨t,rfl⟩:=rx; rfl)
theorem OpR.or{r':R2}(h:OpR X f r)(h':OpR X f r'):OpR X f (fun x y H Q=>r x y H Q\/r' x y H Q):=by
 intro pins s σ H x y v u Q I rx ry q
 rcases q with q | q
 ·exact h pins s σ H x y v u Q I rx ry q
 ·exact h' pins s σ H x y v u Q I rx ry q
theorem nomark(b:Expr)(h:op≠.In:=by decide)(h2:op≠.NotIn:=by decide):behindInMarks op b=false:=by
 have e1:(op==CmpOp.In)=false:=by cases op<;>first | rfl | exact absurd rfl h
 have e2:(op==CmpOp.NotIn)=false:=by cases op<;>first | rfl | exact absurd rfl h2
 cases b<;>simp[behindInMarks,e1,e2]
theorem Gku(ho:OpR X (compareOp op) r)(ha:PE X a ta)(hb:PE X b tb)(hm:behindInMarks op b=false):PE X (.Compare a [op] [b] pos) (tOp r ta tb):=by
 intro pins s σ H Q I h
 exact wpAny_Compare1 (Goe ha hb I h fun v u s2 x y H2 I2 rx ry q=>ho pins s2 σ H2 x y v u Q I2 rx ry q) hm
def Grv(t:TE):TT:=fun σ H Q=>t σ H fun x H'=>∃ k,x=.bl k/\Q k H'
theorem Gkv(ho:OpR X (compareOp op) r)(ha:PE X a ta)(hb:PE X b tb)(hm:behindInMarks op b=false):PT X (.Compare a [op] [b] pos) (Grv (tOp r ta tb)):=by
 intro pins s σ H Q I h
 refine wpAny_isTrue_Compare1 (thn (ha pins s σ H _ I h) fun v s1 ⟨x,H1,I1,r1,q1⟩=>thn (hb pins s1 σ H1 _ I1 q1) fun u s2 ⟨y,H2,I2,r2,q2⟩=>
  thn (ho pins s2 σ H2 x y v u _ I2 r1 r2 q2) fun c s3 ⟨z,H3,I3,r3,k,e,q3⟩=>?_) hm
 subst e
 cases r3
 exact wpAny_truthy_bool ⟨H3,I3,q3⟩
def Gh4(r r':R2)(ta tb tc:TE):TE:=fun σ H Q=>ta σ H fun x H1=>tb σ H1 fun y H2=>r x y H2 fun z H3=>∃ k,z=.bl k∧
 (if k=true then tc σ H3 fun w' H4=>r' y w' H4 Q else Q (.bl false) H3)
theorem Gh5{op':CmpOp}{r':R2}(ho:OpR X (compareOp op) r)(ho':OpR X (compareOp op') r')(ha:PE X a ta)(hb:PE X b tb)(hc:PE X c tc)(hm:lastMarks [op,op'] [b,c]=false:=by with_unfolding_all rfl):PE X (.Compare a [op,op'] [b,c] pos) (Gh4 r r' ta tb tc):=by
 intro pins s σ H Q I h
 refine Compare_chain (thn (ha pins s σ H _ I h) fun v s1 ⟨x,H1,I1,r1,q1⟩=>chain_link (thn (hb pins s1 σ H1 _ I1 q1) fun u s2 ⟨y,H2,I2,r2,q2⟩=>
  thn (ho pins s2 σ H2 x y v u _ I2 r1 r2 q2) fun d s3 ⟨z,H3,I3,r3,k,e,q3⟩=>?_)) hm
 subst e
 cases r3
 refine wpAny_truthy_bool ?_
 cases k with
 | false=>exact ite_ff ⟨.bl false,H3,I3,rfl,q3⟩
 | true=>exact ite_tt (chain_last (thn (hc pins s3 σ H3 _ I3 q3) fun w' s4 ⟨z',H4,I4,r4,q4⟩=>ho' pins s4 σ H4 y z' u w' Q I4 r2 r4 q4))
def Gom(K:PySem.W.Frag)(x:V)(H:Hp)(k:Bool):Prop:=
 match x with
 | .non=>k=false
 | .bl b=>k=b
 | .int i=>k=(i != 0)
 | .str y=>y.length<=sizeLine/\k=((y.length:Int) != 0)
 | .byt y=>y.size<=sizeLine/\k=((y.size:Int) != 0)
 | .ref p=>(∃ xs,SqL K H p xs/\k=!xs.isEmpty)\/(∃ xs,SqT K H p xs/\k=!xs.isEmpty)\/∃ kvs,H p=some (.dK kvs)/\k=!kvs.isEmpty
 | _=>False
theorem Gfm{κ:Type}{kvs:List (κ×V)}{vs:List (κ×Value)}(r:KV kvs vs):(!vs.isEmpty)=!kvs.isEmpty:=by
 cases r<;>rfl
theorem Ga8{xs:List V}{its:List Value}(r:Vals xs its):(!its.toArray.isEmpty)=!xs.isEmpty:=by
 cases r<;>simp
theorem Gab:(sizeLine:Nat)<2^63:=by rw[sizeLine_eq]; decide
theorem Gon:Gtp X (fun x H Q=>∃ k,Gom X.K x H k/\Q k H):=by
 intro pins s σ H x v Q I rx h
 obtain⟨k,e,q⟩:=h
 have hl:=Gab
 have hs:sizeLine=16777216:=sizeLine_eq
 cases x with
 | non=>
  cases rx
  have e':k=false:=e
  subst e'
  exact truthy_none ⟨H,I,q⟩
 | bl b=>
  cases rx
  have e':k=b:=e
  subst e'
  exact wpAny_truthy_bool ⟨H,I,q⟩
 | int i=>
  obtain⟨t,rfl⟩:=rx
  have e':k=(i != 0):=e
  subst e'
  exact PySem.P.truthy_int ⟨H,I,q⟩
 | str y=>
  obtain⟨t,rfl⟩:=rx
  obtain⟨hy,e'⟩:y.length<=sizeLine/\k=((y.length:Int) != 0):=e
  subst e'
  exact PySem.P.truthy_str (by omega) ⟨H,I.tok _,q⟩
 | byt y=>
  obtain⟨t,rfl⟩:=rx
  obtain⟨hy,e'⟩:y.size<=sizeLine/\k=((y.size:Int) != 0):=e
  subst e'
  exact PySem.W.truthy_bytes (by omega) ⟨H,I.tok _,q⟩
 | ref p=>
  cases rx
  have e':(∃ xs,SqL X.K H p xs/\k=!xs.isEmpty)\/(∃ xs,SqT X.K H p xs/\k=!xs.isEmpty)\/∃ kvs,H p=some (.dK kvs)/\k=!kvs.isEmpty:=e
  rcases e' with⟨xs,hx,e'⟩ | ⟨xs,hx,e'⟩ | ⟨kvs,hx,e'⟩
  ·subst e'
   obtain⟨its,r,pl,hz⟩:=I.list hx
   have hlen:=r.length
   exact wpAny_truthy_list pl.isList (by simp only[List.size_toArray]; omega) ⟨H,I.tok _,by rw[Ga8 r]; exact q⟩
  ·subst e'
   obtain⟨its,r,pl,hz⟩:=I.tuple hx
   have hlen:=r.length
   exact truthy_tuple pl (by simp only[List.size_toArray]; omega) ⟨H,I.tok _,by rw[Ga8 r]; exact q⟩
  ·subst e'
   obtain⟨hz,hS,vs,r,m⟩:kvs.length<=sizeLine/\(p==sysModules)=false/\∃ vs,KV kvs vs/\s.heap.DictOf (Gdb X.prog X.w) p vs:=I.hok p _ hx
   have hlen:kvs.length=vs.length:=Paired.length r
   exact wpAny_truthy_dict hS m (by omega) ⟨H,I.tok _,by rw[Gfm r]; exact q⟩
 | _=>exact(show False from e).elim
theorem Gh6(ha:PE X a ta)(he:∀ whole,isTrue a X.env whole=(do let v <- whole; standAt a.pos; holding [v] (truthy v))):
  PT X a (fun σ H Q=>ta σ H fun x H'=>∃ k,Gom X.K x H' k/\Q k H'):=by
 intro pins s σ H Q I h
 exact isTrue_plain (thn (ha pins s σ H _ I h) fun v s1 ⟨x,H1,I1,r1,q1⟩=>Gon pins s1 σ H1 x v Q I1 r1 q1) (he _)
theorem Gfn:OpR X (binaryOp .Add) (fun x y H Q=>∃ i j,x=.str i/\y=.str j/\i.length+j.length<=sizeLine/\Q (.str (i++j)) H):=by
 intro pins s σ H x y v u Q I rx ry h
 obtain⟨i,j,rfl,rfl,hz,q⟩:=h
 obtain⟨t,rfl⟩:=rx
 obtain⟨t',rfl⟩:=ry
 exact add_str (fun t' tk=>⟨.str (i++j),H,I.tok _,⟨_,rfl⟩,q⟩) hz
theorem Gel{x:V}(r:Vals [x] us):∃ u,us=[u]/\Hn x u:=by
 cases r with
 | cons r1 r2=>cases r2; exact⟨_,rfl,r1⟩
theorem Grw{x y:V}(r:Vals [x,y] us):∃ u w',us=[u,w']/\Hn x u/\Hn y w':=by
 cases r with
 | cons r1 r2=>
  cases r2 with
  | cons r3 r4=>cases r4; exact⟨_,_,rfl,r1,r3⟩
theorem Gha(hc:X.calm=true):Xg X (.builtin "min") (fun xs H Q=>∃ i j,xs=[.int i,.int j]/\Q (.int (if j<i then j else i)) H):=by
 intro pins s σ H xs us Q I r h
 obtain⟨i,j,rfl,q⟩:=h
 obtain⟨u,w',rfl,⟨t,rfl⟩,⟨t',rfl⟩⟩:=Grw r
 refine min_two_ints (I.ok.hd hc) fun h' tk k=>⟨_,H,I.kept k,?_,q⟩
 by_cases hj:j<i
 ·rw[if_pos hj,if_pos hj]; exact⟨_,rfl⟩
 ·rw[if_neg hj,if_neg hj]; exact⟨_,rfl⟩
theorem Ghb:Xg X (.type "int") (fun xs H Q=>(∃ i,xs=[.int i]/\Q (.int i) H)\/∃ k,xs=[.bl k]/\Q (.int (if k then 1 else 0)) H):=by
 intro pins s σ H xs us Q I r h
 rcases h with⟨i,rfl,q⟩ | ⟨k,rfl,q⟩
 ·obtain⟨u,rfl,t,rfl⟩:=Gel r
  exact call_int_int ⟨.int i,H,I,⟨_,rfl⟩,q⟩
 ·obtain⟨u,rfl,r1⟩:=Gel r
  cases r1
  exact call_int_bool ⟨.int (if k then 1 else 0),H,I.tok _,⟨_,rfl⟩,q⟩
def Grx(K:PySem.W.Frag)(x:V)(H:Hp)(n:Nat):Prop:=
 match x with
 | .str y=>y.length<=sizeLine/\n=y.length
 | .byt y=>y.size<=sizeLine/\n=y.size
 | .ref p=>(∃ xs,SqL K H p xs/\n=xs.length)\/∃ xs,SqT K H p xs/\n=xs.length
 | _=>False
theorem Gh7:Xg X (.builtin "len") (fun xs H Q=>∃ x n,xs=[x]/\Grx X.K x H n/\Q (.int n) H):=by
 intro pins s σ H xs us Q I r h
 obtain⟨x,n,rfl,e,q⟩:=h
 obtain⟨u,rfl,rx⟩:=Gel r
 have hl:=Gab
 have hs:sizeLine=16777216:=sizeLine_eq
 cases x with
 | str y=>
  obtain⟨t,rfl⟩:=rx
  obtain⟨hy,e'⟩:y.length<=sizeLine/\n=y.length:=e
  subst e'
  exact len_str (by omega) ⟨.int _,H,I.tok _,⟨_,rfl⟩,q⟩
 | byt y=>
  obtain⟨t,rfl⟩:=rx
  obtain⟨hy,e'⟩:y.size<=sizeLine/\n=y.size:=e
  subst e'
  exact PySem.W.len_bytes (by omega) ⟨.int _,H,I.tok _,⟨_,rfl⟩,q⟩
 | ref p=>
  cases rx
  have e':(∃ xs,SqL X.K H p xs/\n=xs.length)\/∃ xs,SqT X.K H p xs/\n=xs.length:=e
  rcases e' with⟨xs,hx,e'⟩ | ⟨xs,hx,e'⟩
  ·subst e'
   obtain⟨its,r',pl,hz⟩:=I.list hx
   have hlen:=r'.length
   exact Calls.call_len_list pl.isList (by simp only[List.size_toArray]; omega) ⟨.int xs.length,H,I.tok _,⟨_,by simp only[List.size_toArray]; rw[hlen]⟩,q⟩
  ·subst e'
   obtain⟨its,r',pl,hz⟩:=I.tuple hx
   have hlen:=r'.length
   exact len_tuple pl (by simp only[List.size_toArray]; omega) ⟨.int xs.length,H,I.tok _,⟨_,by simp only[List.size_toArray]; rw[hlen]⟩,q⟩
 | _=>exact(show False from e).elim
end
structure ObjM(h:Heap)(x dx C:Addr)(mA:Str->Option Value):Prop where
 obj:h.get? x=some (PySem.W.instObj C dx)
 ns:h.Ns1 dx mA
 ne:dx≠x
structure Cls(K:PySem.W.Frag)(C:Addr):Prop where
 pg:PySem.W.plainGet K C Str.empty=true
 hd:PySem.W.hasDictIn K C=true
 po:PySem.W.plainOver K C=true
 sa:PySem.W.findIn K (.ref C) "__setattr__"=some (some (.builtin "object.__setattr__"))
structure Con(K:PySem.W.Frag)(C:Addr)(f:Str)(v:V)(u:Value):Prop where
 at_:PySem.W.findIn K (.ref C) f=some (some u)
 rel:Hn v u
 get:PySem.W.specialIn K u "__get__"=some none
 cp:PySem.W.copiedNames.contains f=false
structure Meth(K:PySem.W.Frag)(C:Addr)(m:Str)(f:Addr):Prop where
 at_:PySem.W.findIn K (.ref C) m=some (some (.ref f))
 fn:PySem.W.isFn K (.ref f)=true
 kp:PySem.W.keepIn K (.ref f)=true
section
variable{X:Cx}{pins:List (Addr×Obj)}{σ:St}{H:Hp}{s:Shared}{A:Around}{E:Value->Shared->Prop}{Q:Value->Shared->Prop}{c:Value}{b:Bool}
inductive TyOf(K:PySem.W.Frag)(H:Hp):V->Value->Prop where
 | non:TyOf K H .non (.type "NoneType")
 | bl (x:Bool):TyOf K H (.bl x) (.type "bool")
 | int (i:Int):TyOf K H (.int i) (.type "int")
 | str (x:Str):TyOf K H (.str x) (.type "str")
 | flt (x:UInt64):TyOf K H (.flt x) (.type "float")
 | lst {a:Addr} {xs:List V} (e:H a=some (.lst xs)):TyOf K H (.ref a) (.type "list")
 | frz {a:Addr} {o:Obj} {xs:List V} (e:H a=some (.frz o (.lst xs))):TyOf K H (.ref a) (.type "list")
 | tup {a:Addr} {xs:List V} (e:H a=some (.tup xs)):TyOf K H (.ref a) (.type "tuple")
 | dK {a:Addr} {kvs:List (Key×V)} (e:H a=some (.dK kvs)):TyOf K H (.ref a) (.type "dict")
 | dT {a:Addr} {kvs:List (List Key×V)} (e:H a=some (.dT kvs)):TyOf K H (.ref a) (.type "dict")
 | ins {a C dx:Addr} {fs:List (Str×V)} (e:H a=some (.ins C dx fs)) (cl:Cls K C) (ha:PySem.W.findIn K (.ref C) "__class__"=some (some (.builtin "object.__class__")))
   (hn:PySem.W.specialIn K (.builtin "object.__class__") "__get__"=some (some (.builtin "getset_descriptor.__get__"))) (htk:PySem.W.takesIn K (.builtin "object.__class__")=some true)
   (hm:PySem.W.mroIn K C (.type "object")=some true):TyOf K H (.ref a) (.ref C)
end
structure Room(k:Nat)(A:Around):Prop where
 hd:A.handled=none
 dp:A.depth+3*k+5<recursionLimit
 un:A.units+16*k+200<cLine
 gd:A.guards=some []
theorem Room.mono(r:Room k A)(h:j<=k):Room j A:=⟨r.hd,by have:=r.dp; omega,by have:=r.un; omega,r.gd⟩
theorem Room.deeper(r:Room (k+1) A)(env:Env):Room k (A.deeper env):=
 ⟨r.hd,by have:=r.dp; show A.depth+1+3*k+5<_; omega,by have:=r.un; show A.units+3+16*k+200<_; omega,by first | exact r.gd | (simpa[Around.deeper] using r.gd)⟩
theorem Room.depth(r:Room k A):A.depth<recursionLimit:=by have:=r.dp; omega
theorem Room.units(r:Room k A):A.units+64<cLine:=by have:=r.un; omega
def Gtr:TA:=fun _ H Q=>Q [] H
def Gry(ta:TE)(tr:TA):TA:=fun σ H Q=>ta σ H fun x H1=>tr σ H1 fun xs H2=>Q (x::xs) H2
section
variable{X:Cx}{e:Expr}{es:List Expr}{te:TE}{t:TA}{pos:Pos}
theorem Gh8:PA X [] Gtr:=fun _ _ _ _ H Q I h=>Calls.spliced_nil ⟨[],H,I,.nil,h⟩
theorem Gdd(ha:PE X e te)(hr:PA X es t)(hs:starEach (e::es) X.env=(false,eval e X.env)::starEach es X.env:=by rfl):PA X (e::es) (Gry te t):=by
 intro pos pins s σ H Q I h
 rw[hs]
 show wpAny _ _ (spliced ((false,eval e X.env)::backTo pos (starEach es X.env))) _ _ s
 refine Calls.spliced_cons (thn (ha pins s σ H _ I h) fun u s1 ⟨x,H1,I1,r1,q1⟩=>?_)
 exact thn (hr pos pins s1 σ H1 _ I1 q1) fun us s2 ⟨xs,H2,I2,r2,q2⟩=>⟨x::xs,H2,I2,.cons r1 r2,q2⟩
def Gts(t:TA):TE:=fun σ H Q=>t σ H fun xs H1=>xs.length<=sizeLine/\∀ p,H1 p=none->Q (.ref p) (upd H1 p (.tup xs))
def Gtt(t:TA):TE:=fun σ H Q=>t σ H fun xs H1=>xs.length<=sizeLine/\∀ p,H1 p=none->Q (.ref p) (upd H1 p (.lst xs))
theorem Goo{x1}(h:PA X es t):PE X (.Tuple es x1 pos) (Gts t):=by
 intro pins s σ H Q I hq
 refine wpAny_Tuple_spliced (thn (h pos pins s σ H _ I hq) fun us s1 ⟨xs,H1,I1,r,z,q⟩=>⟨by rw[<- r.length]; exact z,?_⟩)
 have hf:H1 s1.heap.objs.size=none:=I1.hok.fresh (Nat.le_refl _)
 refine⟨.ref s1.heap.objs.size,upd H1 s1.heap.objs.size (.tup xs),I1.laid (t':=s1.toks) (fun b u e=>Heap.get?_push_of_some _ e) (Nat.le_refl _) ?_,rfl,q _ hf⟩
 exact⟨z,us,r,⟨_,Heap.get?_push_size _ rfl,rfl,_,rfl⟩⟩
theorem Gop(h:PA X es t):PE X (.List es pos) (Gtt t):=by
 intro pins s σ H Q I hq
 refine wpAny_List_spliced (thn (h pos pins s σ H _ I hq) fun us s1 ⟨xs,H1,I1,r,z,q⟩=>⟨by rw[<- r.length]; exact z,?_⟩)
 have hf:H1 s1.heap.objs.size=none:=I1.hok.fresh (Nat.le_refl _)
 refine⟨.ref s1.heap.objs.size,upd H1 s1.heap.objs.size (.lst xs),I1.laid (t':=s1.toks) (fun b u e=>Heap.get?_push_of_some _ e) (Nat.le_refl _) ?_,rfl,q _ hf⟩
 exact⟨z,us,0,r,Heap.get?_push_size _ rfl⟩
end
abbrev Sp:=List V->Hp->VK->XK->Prop
abbrev CXT:=List Env->Hp->Shared->XK->Value->Shared->Prop
variable{CX:CXT}
structure Env0(P:Program)(w:World)(K:PySem.W.Frag)(mg:Str->Option Value)(base:Heap)(A:Around)(outer:List Env)(s:Shared)(H:Hp):Prop where
 frames:A.frames=some outer
 mod:Mod K mg base
 bs:∀ b o,base.get? b=some o->s.heap.get? b=some o/\H b=none
 bsz:base.objs.size<=s.heap.objs.size
 funs:s.heap.FunFrames base outer
 frf:∀ b∈frs outer,H b=none
 hok:HOk P w H s.heap
 bare:AllBare s.gens
def CE(outer:List Env)(P:Program)(w:World)(H:Hp)(s:Shared)(Q:VK)(u:Value)(s':Shared):Prop:=
 ∃ v H',s'.os=s.os/\AllBare s'.gens/\Un (frs outer) [] H H' s.heap s'.heap/\HOk P w H' s'.heap/\Hn v u/\Q v H'
def CR(CX:CXT)(outer:List Env)(P:Program)(w:World)(H:Hp)(s:Shared)(Q:VK)(E:XK)(r:Result)(s':Shared):Prop:=
 match r with
 | .ok (.ret u)=>CE outer P w H s Q u s'
 | .ok _=>False
 | .error e=>CX outer H s E e s'
structure FnOk(P:Program)(w:World)(K:PySem.W.Frag)(mg:Str->Option Value)(base:Heap)(CX:CXT)(k:Nat)(f:Addr)(fd:FuncData)(ps:List Str)(sp:Sp):Prop where
 len:∀ vs H Q E,sp vs H Q E->vs.length=ps.length
 run:∀ (A:Around) (outer:List Env) (s:Shared) (H:Hp) (args:Args) (us:List Value) (vs:List V) (Q:VK) (E:XK),Room k A->Env0 P w K mg base A outer s H->BindsTo s fd args (ps.zip us)->Vals vs us->sp vs H Q E→
  codeAny (model P w) A (.call (.ref f) args) (CR CX outer P w H s Q E) s
theorem FnOk.mono{f:Addr}{fd:FuncData}{sp:Sp}(F:FnOk P w K mg base CX j f fd ps sp)(h:j<=k):
  FnOk P w K mg base CX k f fd ps sp:=⟨F.len,fun A outer s H args us vs Q E hr=>F.run A outer s H args us vs Q E (hr.mono h)⟩
section
variable{X:Cx}{pins:List (Addr×Obj)}{σ:St}{H:Hp}{s s':Shared}
theorem Inv.env0(I:Inv X pins σ H s):Env0 X.prog X.w X.K X.mg X.base X.A X.stack s H:=
 ⟨I.ok.frames,I.ok.mod,I.bs,Nat.le_trans I.ok.bsz I.sz,I.stack,I.stkFree,I.hok,I.bare⟩
theorem Inv.after{Q:VK}(I:Inv X pins σ H s)(h:CE X.stack X.prog X.w H s Q u s'):EP X pins σ Q u s':=by
 obtain⟨v,H',os,bare,un,hok,r,q⟩:=h
 obtain⟨hh,g,d,t,os'⟩:=s'
 obtain rfl:os'=s.os:=os
 exact⟨v,H',I.call (h':=hh) (g':=g) (d':=d) (t':=t) (ch:=[]) un hok bare (fun b z=>absurd z (by simp)),r,q⟩
end
def Grz(sp:Sp)(dvs:List V)(E:XK)(t:TA):TE:=fun σ H Q=>t σ H fun vs H1=>sp (vs++dvs) H1 Q E
def Binds(K:PySem.W.Frag)(fd:FuncData)(ps:List Str)(ds:List Value):Prop:=
 ∀ (s:Shared) (us:List Value),K.In s.heap->(us++ds).length=ps.length->BindsTo s fd ⟨us,[]⟩ (ps.zip (us++ds))
theorem Binds.all{fd:FuncData}(h:∀ us:List Value,us.length=ps.length->bindArgs fd ⟨us,[]⟩=pure (ps.zip us)):Binds K fd ps []:=fun s us _ hl=>by
 rw[List.append_nil] at hl ⊢
 exact .of_eq (h us hl)
def Passes(CX:CXT)(X:Cx)(E:XK):Prop:=∀ (pins:List (Addr×Obj)) (σ:St) (H:Hp) (s:Shared) (e:Value) (s':Shared),Inv X pins σ H s->CX X.stack H s E e s'->X.xe e s'
section
variable{X:Cx}{CX:CXT}{k:Nat}{f C:Addr}{fd:FuncData}{ps:List Str}{sp:Sp}{dvs:List V}{ds:List Value}{E:XK}{x m:Str}{p pos apos:Pos}{e o:Expr}{es:List Expr}{ta:TE}{t:TA}
theorem Goq{s:Shared}{Q:VK}{vs:List V}(F:FnOk X.prog X.w X.K X.mg X.base CX k f fd ps sp)(hr:Room k X.A)(hb:Binds X.K fd ps ds)(hd:Vals dvs ds)(hx:Passes CX X E)(I:Inv X pins σ H s)(r:Vals vs us)(h:sp (vs++dvs) H Q E):wpAny (model X.prog X.w) X.A (call (.ref f) us) (EP X pins σ Q) X.xe s:=by
 have r2:Vals (vs++dvs) (us++ds):=r.append hd
 have hl:(us++ds).length=ps.length:=by rw[<- r2.length]; exact F.len _ _ _ _ h
 refine wpAny_call (codeAny_mono (F.run X.A X.stack s H ⟨us,[]⟩ (us++ds) (vs++dvs) Q E hr I.env0 (hb s us I.kIn hl) r2 h) fun r s' hq=>?_)
 cases r with
 | error e=>exact hx pins σ H s e s' I hq
 | ok fl=>
  cases fl with
  | ret u=>exact I.after hq
  | next=>exact False.elim hq
  | brk=>exact False.elim hq
  | cont=>exact False.elim hq
theorem Gkw(F:FnOk X.prog X.w X.K X.mg X.base CX k f fd ps sp)(hr:Room k X.A)(hg:Gl X x)(hm:X.mg x=some (.ref f))(hk:PySem.W.keepIn X.K (.ref f)=true)(hb:Binds X.K fd ps ds)(hd:Vals dvs ds)(hx:Passes CX X E)
  (ha:PA X (e::es) t) (hdb:(x==("__debug__":Str))=false:=by decide) (he:starEach (e::es) X.env=(false,eval e X.env)::starEach es X.env:=by rfl) (hpl:(backTo pos (starEach es X.env)).any (·.1)=false:=by rfl):
  PE X (.Call (.Name x p) (e::es) [] pos) (Grz sp dvs E t):=by
 intro pins s σ H Q I h
 refine wpAny_Call_Name_kw (Ggc I hg hm ?_ hdb)
 refine PySem.W.callWith_K (h₀:=X.base) I.ok.mod.kin hk (thn (ha pos pins s σ H _ I h) fun us s1 ⟨vs,H1,I1,r,q⟩=>⟨I1.kIn,?_⟩) he hpl
 exact Goq F hr hb hd hx I1 r q
structure Mk(K:PySem.W.Frag)(C f:Addr):Prop where
 makes:PySem.W.makesIn K C=true
 init:PySem.W.findIn K (.ref C) "__init__"=some (some (.ref f))
 fn:PySem.W.isFn K (.ref f)=true
 kp:PySem.W.keepIn K (.ref C)=true
end
section
variable{X:Cx}{CX:CXT}{k:Nat}{f C:Addr}{fd:FuncData}{ps ks:List Str}{sp:Sp}{E:XK}{x m:Str}{p pos apos kpos:Pos}{e o:Expr}{es:List Expr}{kws:List Keyword}{te ta:TE}{t tk:TA}{nm:Option Str}
structure KBinds(K:PySem.W.Frag)(fd:FuncData)(ps ks:List Str)(g:List Value->List Value->List Value)(gV:List V->List V->List V):Prop where
 to:∀ (s:Shared) (us ws:List Value),K.In s.heap->(g us ws).length=ps.length->BindsTo s fd ⟨us,ks.zip ws⟩ (ps.zip (g us ws))
 rel:∀ {vs:List V} {us:List Value} {zs:List V} {ws:List Value},Vals vs us->Vals zs ws->Vals (gV vs zs) (g us ws)
variable{g:List Value->List Value->List Value}{gV:List V->List V->List V}
end
structure FnScope(N P:List Str)(sc:Scope):Prop where
 kind:sc.kind=.function
 co:sc.isCoroutine=false
 gen:sc.isGenerator=false
 nd:N.Nodup
 pre:N.take P.length=P
 par:∀ x∈P,sc.names.lookup x=some .local\/sc.names.lookup x=some .cell
 nofree:∀ y∈sc.names,y.2≠.free
theorem Gct{kindOf:Str->Option NameKind}{x:Str}:∀ {binds:List (Str×Value)} {m:Str->Option Value},(∀ v,(x,v)∉binds)->bindL kindOf binds m x=m x
 | [],_,_=>rfl
 | (n,v)::r,m,h=>by
  unfold bindL
  rw[Gct fun w hw=>h w (List.mem_cons_of_mem _ hw)]
  split
  ·have:x≠n:=by rintro rfl; exact h v List.mem_cons_self
   simp[this]
  ·rfl
theorem Gcu{kindOf:Str->Option NameKind}{x:Str}:∀ {binds:List (Str×Value)} {m:Str->Option Value},(∀ v,(x,v)∉binds)->bindC kindOf binds m x=m x
 | [],_,_=>rfl
 | (n,v)::r,m,h=>by
  unfold bindC
  rw[Gcu fun w hw=>h w (List.mem_cons_of_mem _ hw)]
  split
  ·rfl
  ·have:x≠n:=by rintro rfl; exact h v List.mem_cons_self
   simp[this]
theorem Gcv{kindOf:Str->Option NameKind}{x:Str}{v:Value}:∀ {P:List Str} {vs:List Value} {i:Nat} {m:Str->Option Value},P.Nodup->P[i]?=some x->vs[i]?=some v->kindOf x=some .local→
  bindL kindOf (P.zip vs) m x=some v
 | [],_,_,_,_,h,_,_=>by simp at h
 | _::_,[],_,_,_,_,h,_=>by simp at h
 | p::P,w::vs,0,m,nd,h1,h2,hk=>by
  simp at h1 h2; subst h1; subst h2
  show bindL kindOf ((p,w)::P.zip vs) m p=_
  unfold bindL
  rw[Gct fun v hv=>(List.nodup_cons.mp nd).1 (List.of_mem_zip hv).1,if_pos hk]
  simp
 | p::P,w::vs,i+1,m,nd,h1,h2,hk=>by
  show bindL kindOf ((p,w)::P.zip vs) m x=_
  unfold bindL
  exact Gcv (i:=i) (List.nodup_cons.mp nd).2 (by simpa using h1) (by simpa using h2) hk
theorem Gcw{kindOf:Str->Option NameKind}{x:Str}{v:Value}:∀ {P:List Str} {vs:List Value} {i:Nat} {m:Str->Option Value},P.Nodup->P[i]?=some x->vs[i]?=some v->kindOf x≠some .local→
  bindC kindOf (P.zip vs) m x=some v
 | [],_,_,_,_,h,_,_=>by simp at h
 | _::_,[],_,_,_,_,h,_=>by simp at h
 | p::P,w::vs,0,m,nd,h1,h2,hk=>by
  simp at h1 h2; subst h1; subst h2
  show bindC kindOf ((p,w)::P.zip vs) m p=_
  unfold bindC
  rw[Gcu fun v hv=>(List.nodup_cons.mp nd).1 (List.of_mem_zip hv).1,if_neg hk]
  simp
 | p::P,w::vs,i+1,m,nd,h1,h2,hk=>by
  show bindC kindOf ((p,w)::P.zip vs) m x=_
  unfold bindC
  exact Gcw (i:=i) (List.nodup_cons.mp nd).2 (by simpa using h1) (by simpa using h2) hk
def start(N:List Str)(vs:List V):St:=vs.map some++List.replicate (N.length-vs.length) none
def Gde(CX:CXT)(P:Program)(w:World)(K:PySem.W.Frag)(mg:Str->Option Value)(base:Heap)(N:List Str)(qual:Str)(scope:Scope)(f:Addr)(cd:Value)(A:Around)(outer:List Env)(s:Shared)(H:Hp)(E:XK):Cx where
 prog:=P
 w:=w
 K:=K
 mg:=mg
 base:=base
 A:=A.deeper (envOfC qual scope s.heap.objs.size f cd)
 N:=N
 s₀:=s
 H₀:=H
 env:=envOfC qual scope s.heap.objs.size f cd
 outer:=outer
 stack:=envOfC qual scope s.heap.objs.size f cd::outer
 ex:=[]
 calm:=true
 fn:=fun _=>true
 pn:=[]
 xe:=fun e s'=>wpAny (model P w) (A.deeper (envOfC qual scope s.heap.objs.size f cd)) (leaving (envOfC qual scope s.heap.objs.size f cd) e) (fun _ s''=>CX outer H s E e s'') (fun e' s''=>CX outer H s E e' s'') s'
theorem Gem{sc:Scope}{n:Nat}(h:sc.names.lookup x=some .cell):∃ c,(cellsFrom n sc.names []).lookup x=some c:=by
 have q:=PySem.W.cellsFrom_some sc.names n [] (.inl h)
 exact Option.isSome_iff_exists.mp q
theorem Ghc{qual:Str}{scope:Scope}{f:Addr}{cd:Value}{outer:List Env}{s s1:Shared}{E:XK}{vs:List V}(S:FnScope N ps scope)(hd:A.handled=none)(e0:Env0 P w K mg base A outer s H)(hl:vs.length=ps.length)(r:Vals vs us)(x:InCallC s s.heap.objs.size (bindL (envOfC qual scope s.heap.objs.size f cd).kindOf (ps.zip us) fun _=>none) (cellsFrom (s.heap.objs.size+1) scope.names []) (bindC (envOfC qual scope s.heap.objs.size f cd).kindOf (ps.zip us) fun _=>none) s1):
  Inv (Gde CX P w K mg base N qual scope f cd A outer s H E) [] (start N vs) H s1:=by
 have hpl:ps.length<=N.length:=by have:=congrArg List.length S.pre; rw[List.length_take] at this; omega
 obtain⟨h1,tk,rfl,hk⟩:=x.done
 have noA:∀ b:Addr,b∉(Gde CX P w K mg base N qual scope f cd A outer s H E).ex:=fun b z=>absurd (show b∈([]:List Addr) from z) (by simp)
 refine⟨⟨e0.mod,S.kind,rfl,rfl,Nat.le_refl _,fun y z c h1 h2=>?_,fun y hy=>?_,fun y c _ h=>?_,fun _=>hd,Around.frames_deeper e0.frames,.inr ⟨rfl,rfl⟩,fun b z=>absurd z (noA b),e0.bs,e0.bsz,fun b _ _=>noA b,fun b z=>absurd z (noA b),e0.funs,e0.frf⟩,
  rfl,e0.bare,Un.kept hk,⟨_,x.toInCall.ns,fun i y v h1 h2 h3=>?_⟩,fun y c h=>⟨_,x.cell y c h⟩,e0.hok.fresh (Nat.le_refl _),fun y c h=>?_,fun p hp=>absurd (show p∈([]:List (Addr×Obj)) from hp) (by simp),e0.hok.kept hk,?_⟩
 ·exact name_of_addr x.apart (PySem.mem_of_lookup h1) (PySem.mem_of_lookup h2)
 ·have hy:scope.names.lookup y=some .cell\/scope.names.lookup y=some .free:=hy
  rcases hy with hy | hy
  ·exact Gem hy
  ·exact absurd rfl (S.nofree _ (PySem.mem_of_lookup hy))
 ·exact Nat.le_of_lt (x.above y c (PySem.mem_of_lookup h))
 ·have hi:i<vs.length:=by
   unfold start at h2
   by_cases hi:i<vs.length
   ·exact hi
   ·rw[List.getElem?_append_right (by simpa using hi)] at h2
    rw[List.getElem?_replicate] at h2
    split at h2<;>cases h2
  have ha:vs[i]?=some v:=by
   unfold start at h2
   rw[List.getElem?_append_left (by simpa using hi),List.getElem?_map] at h2
   cases e:vs[i]? with
   | none=>rw[e] at h2; cases h2
   | some a=>rw[e] at h2; cases h2; rfl
  obtain⟨u,hu,rv⟩:=r.get ha
  have hp:ps[i]?=some y:=by
   rw[<- S.pre,List.getElem?_take_of_lt (by omega)]; exact h1
  have ndP:ps.Nodup:=by rw[<- S.pre]; exact S.nd.sublist (List.take_sublist _ _)
  refine⟨u,rv,?_⟩
  rcases S.par y (List.mem_of_getElem? hp) with k | k
  ·exact .inl ⟨k,Gcv ndP hp hu k⟩
  ·obtain⟨c,e⟩:=Gem (n:=s.heap.objs.size+1) k
   refine .inr ⟨.inl k,c,e,?_⟩
   have q:=x.cell y c e
   rw[Gcw ndP hp hu (by show scope.names.lookup y≠_; rw[k]; decide)] at q
   exact q
 ·exact e0.hok.fresh (Nat.le_of_lt (x.above y c (PySem.mem_of_lookup h)))
 ·unfold start
  show _=N.length
  rw[List.length_append,List.length_map,List.length_replicate]
  omega
theorem Gr0{f:Addr}{name qual:Str}{params:Arguments}{scope:Scope}{dV kV doc pm cdv ct oc:Value}{an od:Option Addr}{osl:Array (Option Value)}{sp:Sp}(lk:K.lookup f=some ⟨oc,od,.func (PySem.W.fnOf name qual params body scope dV kV doc pm an cdv ct),osl⟩)(hcd:PySem.W.codeIn K cdv qual=true)(S:FnScope N ps scope)(len:∀ vs H Q E,sp vs H Q E->vs.length=ps.length)(hbody:∀ (A:Around) (outer:List Env) (s:Shared) (H:Hp) (vs:List V) (Q:VK) (E:XK),Room k (A.deeper (envOfC qual scope s.heap.objs.size f cdv))->sp vs H Q E→
   ∃ t,PSs (Gde CX P w K mg base N qual scope f cdv A outer s H E) body t/\t { nx:=fun _ H'=>Q .non H',rt:=Q } (start N vs) H):
  FnOk P w K mg base CX (k+1) f (PySem.W.fnOf name qual params body scope dV kV doc pm an cdv ct) ps sp:=by
 refine⟨len,fun A outer s H args us vs Q E hr e0 hb r hsp=>?_⟩
 have hl:=len _ _ _ _ hsp
 have KX:K.In s.heap:=e0.mod.kin.keeps fun b o e=>(e0.bs b o e).1
 have lim:s.heap.NoLimit:=e0.mod.nolimit.keeps fun b o e=>(e0.bs b o e).1
 have hkind:∀ y∈ps.zip us,scope.names.lookup y.1=some .local\/(scope.names.lookup y.1=some .cell/\((cellsFrom (s.heap.objs.size+1) scope.names []).lookup y.1).isSome=true):=fun⟨n,v⟩ hy=>by
  rcases S.par n (List.of_mem_zip hy).1 with q | q
  ·exact .inl q
  ·exact .inr ⟨q,PySem.W.cellsFrom_some _ _ _ (.inl q)⟩
 refine codeAny_call_function hr.depth (KX _ _ lk) rfl S.co S.gen rfl (PySem.W.codeRec_of KX hcd) (hb _ _ _ _ ?_)
 refine wpAny_newFunctionEnv_cells S.kind hkind fun env he s1 x=>?_
 subst he
 refine⟨lim.keeps x.toInCall.keep,codeAny_func ?_⟩
 obtain⟨t,ht,hq⟩:=hbody A outer s H vs Q E (hr.deeper _) hsp
 have I:Inv (Gde CX P w K mg base N qual scope f cdv A outer s H E) [] (start N vs) H s1:=Ghc S hr.hd e0 hl r x
 refine wpAny_mono (ht [] s1 (start N vs) H _ I hq) (fun fl s' hs=>?_) fun e s' hs=>hs
 have fin:∀ {σ':St} {H':Hp} {v:V} {u:Value},Inv (Gde CX P w K mg base N qual scope f cdv A outer s H E) [] σ' H' s'->Hn v u->Q v H'->CE outer P w H s Q u s':=
  fun{σ' H' v u} J rv q=>⟨v,H',J.os,J.bare,J.base,J.hok,rv,q⟩
 cases fl with
 | ret u=>
  obtain⟨v,σ',H',J,rv,q⟩:=hs
  exact fin J rv q
 | next=>
  obtain⟨σ',H',J,q⟩:=hs
  exact fin (v:=V.non) (u:=Value.none) J rfl q
 | brk=>
  obtain⟨_,_,_,q⟩:=hs
  exact False.elim q
 | cont=>
  obtain⟨_,_,_,q⟩:=hs
  exact False.elim q
section
variable{X:Cx}{x:Str}{p pos:Pos}{e:Expr}{es:List Expr}{t:TA}{id T:String}{r:List V->Hp->VK->Prop}
def tCB(r:List V->Hp->VK->Prop)(t:TA):TE:=fun σ H Q=>t σ H fun vs H1=>r vs H1 Q
theorem Gen(hc:Xg X (.builtin id) r)(hg:Gl X x)(hm:X.mg x=none)(hv:bootBuiltins x=some (.builtin id))(ha:PA X (e::es) t)(hn:x≠"__name__":=by decide)(hdb:(x==("__debug__":Str))=false:=by decide)
  (he:starEach (e::es) X.env=(false,eval e X.env)::starEach es X.env:=by rfl) (hpl:(backTo pos (starEach es X.env)).any (·.1)=false:=by rfl):PE X (.Call (.Name x p) (e::es) [] pos) (tCB r t):=by
 intro pins s σ H Q I h
 refine wpAny_Call_Name_kw (Ga6 I hg hm hv ?_ hn hdb)
 exact PyProof.Rows.callWith_builtin1 (thn (ha pos pins s σ H _ I h) fun us s1 ⟨vs,H1,I1,r1,q1⟩=>hc pins s1 σ H1 vs us Q I1 r1 q1) he hpl
theorem Ghd(hc:Xg X (.type T) r)(hg:Gl X x)(hm:X.mg x=none)(hv:bootBuiltins x=some (.type T))(ha:PA X (e::es) t)(hn:x≠"__name__":=by decide)(hdb:(x==("__debug__":Str))=false:=by decide)
  (he:starEach (e::es) X.env=(false,eval e X.env)::starEach es X.env:=by rfl) (hpl:(backTo pos (starEach es X.env)).any (·.1)=false:=by rfl):PE X (.Call (.Name x p) (e::es) [] pos) (tCB r t):=by
 intro pins s σ H Q I h
 refine wpAny_Call_Name_kw (Ga6 I hg hm hv ?_ hn hdb)
 exact PyProof.Rows.callWith_type1 (thn (ha pos pins s σ H _ I h) fun us s1 ⟨vs,H1,I1,r1,q1⟩=>hc pins s1 σ H1 vs us Q I1 r1 q1) he hpl
end
end L2
namespace HT
open PySem PyProof.Rows
section
open PySem.SeqAt
open PySem.AutoSeq1 (wpAny_loadPart')
open PySem.MeetsSeq PySem.MeetsSeq2 PySem.MeetsSeq3
end
section
variable{prog:Program}{w:World}{A:Around}{E:Value->Shared->Prop}{s:Shared}
theorem Gkx{t b:Addr}{vs ws:List Value}{Q:Value->Shared->Prop}(ht:IsTup s.heap t vs.toArray)(hb:IsTup s.heap b ws.toArray)(hv:vs≠[])
  (h1:ws=[]->Q (.ref t) s) (h2:ws≠[]->Q (.ref s.heap.objs.size) { s with heap:=s.heap.push { cls:=.type "tuple",data:=.seq (vs++ws).toArray } })
  (hsz:vs.length+ws.length<=sizeLine):wpAny (model prog w) A (binaryOp .Add (.ref t) (.ref b)) Q E s:=by
 obtain⟨⟨cls,dd,data,sl⟩,ho,hc,n,hd⟩:=id ht
 obtain⟨⟨cls2,dd2,data2,sl2⟩,ho2,hc2,n2,hd2⟩:=id hb
 simp only at hc hd hc2 hd2
 subst hc hd hc2 hd2
 have e:vs.toArray++ws.toArray=(vs++ws).toArray:=by simp
 by_cases hw:ws=[]
 ·exact concat_meets ⟨_,ho,rfl⟩ ⟨_,ho2,rfl⟩ noFill_tuple_add seq_tuple_add PySem.F.slot_tuple_add PySem.F.entry_tuple_add (PySem.F.args_tuple_add_2 _ _)
   (tuple_addW1 t b vs.toArray ws.toArray n n2 dd dd2 sl sl2 (by simpa using hv) (by simp[hw])) ⟨ho,ho2,h1 hw⟩
 ·refine concat_meets ⟨_,ho,rfl⟩ ⟨_,ho2,rfl⟩ noFill_tuple_add seq_tuple_add PySem.F.slot_tuple_add PySem.F.entry_tuple_add (PySem.F.args_tuple_add_2 _ _)
   (tuple_addW2 t b vs.toArray ws.toArray n n2 dd dd2 sl sl2 (by simpa using hv) (by simpa using hw) (by rw[List.size_toArray,List.size_toArray]; exact hsz)) ⟨ho,ho2,?_⟩
  rw[e]
  exact h2 hw
def sIx(n d:Nat):Option Int->Nat
 | none=>d
 | some v=>if v<0 then(v+(n:Int)).toNat else min v.toNat n
theorem Ze(n d:Nat):sIx n d none=d:=rfl
theorem Ggd(n d k:Nat):sIx n d (some (k:Int))=min k n:=by
 show(if(k:Int)<0 then((k:Int)+(n:Int)).toNat else min (k:Int).toNat n)=min k n
 rw[if_neg (by omega),Int.toNat_natCast]
theorem Gor(n d:Nat)(hd:d<=n)(o:Option Int):sIx n d o<=n:=by
 cases o with
 | none=>exact hd
 | some v=>
  show(if v<0 then(v+(n:Int)).toNat else min v.toNat n)<=n
  by_cases hv:v<0
  ·rw[if_pos hv]; omega
  ·rw[if_neg hv]; exact Nat.min_le_right _ _
theorem Gge(v:Int)(n d:Nat):(if v<0 then max (v+(n:Int)) 0 else min v (n:Int))=((sIx n d (some v):Nat):Int):=by
 show(if v<0 then max (v+(n:Int)) 0 else min v (n:Int))=(((if v<0 then(v+(n:Int)).toNat else min v.toNat n):Nat):Int)
 by_cases hv:v<0
 ·simp only[if_pos hv]; omega
 ·simp only[if_neg hv]; omega
theorem Gfo(lo hi:Option Int)(n:Nat):Builtin.Slice.sliceAdjust lo hi 1 (n:Int)=(((sIx n 0 lo:Nat):Int),((sIx n n hi:Nat):Int)):=by
 have h1:¬ ((1:Int)<0):=by omega
 unfold Builtin.Slice.sliceAdjust
 simp only[h1,if_false]
 refine Prod.ext ?_ ?_
 ·cases lo with
  | none=>rfl
  | some v=>exact Gge v n 0
 ·cases hi with
  | none=>rfl
  | some v=>exact Gge v n n
theorem Gfp(i j:Nat):Builtin.Slice.slicePlaces (i:Int) (j:Int) 1=j-i:=by
 unfold Builtin.Slice.slicePlaces
 have h1:(1:Int)>0:=by omega
 simp only[h1,if_true,Int.ediv_one]
 split<;>omega
theorem Ga9{v:Value}{o:Option Int}{Q:Option Int->Shared->Prop}(p:IsPart v o)(h:Q o s):wpAny (model prog w) A (Builtin.Slice.slicePartIndex v) Q E s:=by
 cases p with
 | none=>exact slicePart_none h
 | int i t=>exact slicePart_int h
theorem Vv{sl:Addr}{vl vu:Value}{lo hi:Option Int}{n:Nat}{Q:Int×Int×Nat->Shared->Prop}(hs:s.heap.IsSliceOf sl vl vu .none)(pl:IsPart vl lo)(pu:IsPart vu hi)
  (h:Q (((sIx n 0 lo:Nat):Int),1,sIx n n hi-sIx n 0 lo) s):wpAny (model prog w) A (Builtin.Slice.sliceApplied (.ref sl) (pure (n:Int))) Q E s:=by
 obtain⟨os,hos,hcs,hds⟩:=id hs
 unfold Builtin.Slice.sliceApplied Builtin.Slice.sliceFields
 refine wpAny_bind (wpAny_bind (wpAny_field hos hds (x:=vl) rfl (wpAny_bind (wpAny_field hos hds (x:=vu) rfl (wpAny_bind (wpAny_field hos hds (x:=.none) rfl (wpAny_pure ?_)))))))
 refine wpAny_bind (slicePart_none ?_)
 show wpAny _ _ (if((1:Int)==0)=true then _ else _) _ _ s
 rw[if_neg (by decide)]
 refine wpAny_bind (Ga9 pl (wpAny_bind (Ga9 pu (wpAny_bind (wpAny_pure ?_)))))
 show wpAny _ _ (match Builtin.Slice.sliceAdjust lo hi 1 (n:Int) with | (lo,hi)=>pure (lo,(1:Int),Builtin.Slice.slicePlaces lo hi 1)) _ _ s
 rw[Gfo lo hi n]
 show wpAny _ _ (pure (((sIx n 0 lo:Nat):Int),(1:Int),Builtin.Slice.slicePlaces ((sIx n 0 lo:Nat):Int) ((sIx n n hi:Nat):Int) 1)) _ _ s
 rw[Gfp]
 exact wpAny_pure h
theorem Gh9(xs:Array Value)(i k:Nat):((List.range k).filterMap fun(m:Nat)=>xs[((i:Int)+(m:Int)*1).toNat]?).toArray=((xs.toList.drop i).take k).toArray:=by
 have e:(fun(m:Nat)=>xs[((i:Int)+(m:Int)*1).toNat]?)=fun m=>xs[i+m]?:=by
  funext m
  have:((i:Int)+(m:Int)*1).toNat=i+m:=by omega
  rw[this]
 rw[e]
 have:=pick_run xs i k
 rw[List.filterMap_map] at this
 have e2:((fun x=>xs[x]?)∘fun x=>i+x)=fun m=>xs[i+m]?:=rfl
 rw[e2] at this
 rw[this]
theorem Zf{t sl:Addr}{items:Array Value}{vl vu:Value}{lo hi:Option Int}{Q:Value->Shared->Prop}(ht:IsTup s.heap t items)(hs:s.heap.IsSliceOf sl vl vu .none)(pl:IsPart vl lo)(pu:IsPart vu hi)
  (hw:¬ (sIx items.size 0 lo=0/\sIx items.size items.size hi=items.size))
  (h:Q (.ref s.heap.objs.size) { s with heap:=s.heap.push { cls:=.type "tuple",data:=.seq ((items.toList.drop (sIx items.size 0 lo)).take (sIx items.size items.size hi-sIx items.size 0 lo)).toArray } })
  (hsz:items.size<=sizeLine):wpAny (model prog w) A (getItem (.ref t) (.ref sl)) Q E s:=by
 have htake:sizeOk (.seq ((items.toList.drop (sIx items.size 0 lo)).take (sIx items.size items.size hi-sIx items.size 0 lo)).toArray):=by
  show((items.toList.drop (sIx items.size 0 lo)).take (sIx items.size items.size hi-sIx items.size 0 lo)).toArray.size<=sizeLine
  rw[List.size_toArray,List.length_take,List.length_drop,Array.length_toList]
  omega
 have hj:sIx items.size items.size hi<=items.size:=Gor _ _ (Nat.le_refl _) hi
 obtain⟨os,hos,hcs,hds⟩:=id hs
 have hTs:s.TypeIs (.ref sl) "slice":=⟨os,hos,hcs⟩
 unfold getItem
 try with_reducible refine wpAny_holding ?_
 first | refine wpAny_bind (wpAny_pure ?_) | skip
 refine wpAny_bind (wpAny_sequenceKey ht.typeIs (by decide) ?_)
 refine wpAny_bind (wpAny_callSpecial?_slot (name:=Str.ofString "__getitem__") ht.typeIs PyProof.Rows.slot_tuple_getitem
  (wpAny_call_entry PyProof.Rows.slot_tuple_getitem ht.typeIs entry_tuple_getitem ?_ (args_tuple_getitem _ _)))
 show wpAny _ _ (Builtin.Tuple.tupleItemsOf (.ref t) >>= _) _ _ s
 refine wpAny_bind (tupleItemsOf_ ht ?_)
 refine wpAny_bind (wpAny_typeOf hTs ?_)
 rw[if_pos (by decide)]
 refine wpAny_bind (Vv hs pl pu ?_)
 have hno:¬ ((((sIx items.size 0 lo:Nat):Int)==0&&(1:Int)==1&&(sIx items.size items.size hi-sIx items.size 0 lo)==items.size)=true):=by
  intro q
  rw[Bool.and_eq_true,Bool.and_eq_true] at q
  have q1:((sIx items.size 0 lo:Nat):Int)=0:=eq_of_beq q.1.1
  have q2:sIx items.size items.size hi-sIx items.size 0 lo=items.size:=eq_of_beq q.2
  exact hw ⟨by omega,by omega⟩
 show wpAny _ _ (if(((sIx items.size 0 lo:Nat):Int)==0&&(1:Int)==1&&(sIx items.size items.size hi-sIx items.size 0 lo)==items.size)=true then _ else _) _ _ s
 rw[if_neg hno,Gh9]
 first
  | exact wpAny_bind (m:=Builtin.Tuple.tupleExact _) (wpAny_newObj_type (wpAny_pure ⟨_,rfl,wpAny_pure h⟩) htake)
  | exact wpAny_bind (m:=Builtin.Tuple.tupleExact _) (wpAny_newObj_type (wpAny_bind (wpAny_pure (wpAny_pure ⟨_,rfl,wpAny_pure h⟩))) htake)
  | exact wpAny_bind (wpAny_bind (m:=Builtin.Tuple.tupleExact _) (wpAny_newObj_type (wpAny_pure (wpAny_pure ⟨_,rfl,wpAny_pure h⟩)) htake))
  | exact wpAny_bind (wpAny_bind (m:=Builtin.Tuple.tupleExact _) (wpAny_newObj_type (wpAny_pure ⟨_,rfl,wpAny_pure h⟩) htake))
end
end HT
namespace L2
open PySem PySem.Spec PyProof.Rows
variable{xs:List V}{n:Nat}{pins:List (Addr×Obj)}{σ:St}{H:Hp}{its:List Value}
abbrev TO:=St->Hp->(Option Int->Hp->Prop)->Prop
def PO(X:Cx)(e:Option Expr)(t:TO):Prop:=
 ∀ (pins:List (Addr×Obj)) (s:Shared) (σ:St) (H:Hp) (Q:Option Int->Hp->Prop),Inv X pins σ H s->t σ H Q→
  wpAny (model X.prog X.w) X.A (evalPart e X.env) (fun u s'=>∃ o H',Inv X pins σ H' s'/\IsPart u o/\Q o H') X.xe s
def Gky:TO:=fun _ H Q=>Q none H
def Gr1(t:TE):TO:=fun σ H Q=>t σ H fun x H1=>∃ i,x=.int i/\Q (some i) H1
section
variable{X:Cx}{e:Expr}{te:TE}{lo hi:Option Expr}{tl th:TO}{pos p2:Pos}
theorem Gkz:PO X none Gky:=by
 intro pins s σ H Q I h
 rw[evalPart_none]
 exact wpAny_pure ⟨none,H,I,.none,h⟩
theorem Gk0(h:PE X e te):PO X (some e) (Gr1 te):=by
 intro pins s σ H Q I hw
 rw[evalPart_some]
 refine thn (h pins s σ H _ I hw) fun u s1 ⟨x,H1,I1,r1,q1⟩=>?_
 obtain⟨i,rfl,q⟩:=q1
 obtain⟨t,rfl⟩:=r1
 exact⟨some i,H1,I1,.int i t,q⟩
def SlR(X:Cx)(r:V->Option Int->Option Int->Hp->VK->Prop):Prop:=
 ∀ (pins:List (Addr×Obj)) (s:Shared) (σ:St) (H:Hp) (x:V) (v vl vu:Value) (lo hi:Option Int) (sl:Addr) (Q:VK),Inv X pins σ H s->Hn x v->s.heap.IsSliceOf sl vl vu .none->IsPart vl lo->IsPart vu hi->r x lo hi H Q→
  ∃ T id,typeLookup (.type T) "__getitem__"=pure (some (.builtin id))/\s.TypeIs v T/\wpAny (model X.prog X.w) X.A (getItem v (.ref sl)) (EP X pins σ Q) X.xe s
theorem SlR.or{r r':V->Option Int->Option Int->Hp->VK->Prop}(h:SlR X r)(h':SlR X r'):SlR X (fun x lo hi H Q=>r x lo hi H Q\/r' x lo hi H Q):=by
 intro pins s σ H x v vl vu lo hi sl Q I rx hs pl pu q
 rcases q with q | q
 ·exact h pins s σ H x v vl vu lo hi sl Q I rx hs pl pu q
 ·exact h' pins s σ H x v vl vu lo hi sl Q I rx hs pl pu q
def tSl(r:V->Option Int->Option Int->Hp->VK->Prop)(te:TE)(tl th:TO):TE:=fun σ H Q=>te σ H fun x H1=>tl σ H1 fun l H2=>th σ H2 fun u H3=>r x l u H3 Q
theorem Gia{r:V->Option Int->Option Int->Hp->VK->Prop}(hr:SlR X r)(he:PE X e te)(hl:PO X lo tl)(hu:PO X hi th):PE X (.Subscript e (.Slice lo hi none p2) pos) (tSl r te tl th):=by
 intro pins s σ H Q I h
 refine Subscript_ (thn (he pins s σ H _ I h) fun v s1 ⟨x,H1,I1,r1,q1⟩=>?_)
 refine wpAny_Slice (thn (hl pins s1 σ H1 _ I1 q1) fun vl s2 ⟨l,H2,I2,pl,q2⟩=>thn (hu pins s2 σ H2 _ I2 q2) fun vu s3 ⟨u,H3,I3,pu,q3⟩=>?_)
 rw[evalPart_none]
 refine wpAny_pure ?_
 have I4:Inv X pins σ H3 { s3 with heap:=s3.heap.push { cls:=.type "slice",data:=.fields #[vl,vu,.none] } }:=I3.kept (t':=s3.toks) fun b ob q=>Heap.get?_push_of_some _ q
 obtain⟨T,id,hT,ht,hg⟩:=hr pins { s3 with heap:=s3.heap.push { cls:=.type "slice",data:=.fields #[vl,vu,.none] } } σ H3 x v vl vu l u s3.heap.objs.size Q I4 r1 (Heap.IsSliceOf.new ..) pl pu q3
 show wpAny (model X.prog X.w) X.A (subscriptTail e (.Slice lo hi none p2) v (.ref s3.heap.objs.size)) (EP X pins σ Q) X.xe { s3 with heap:=s3.heap.push { cls:=.type "slice",data:=.fields #[vl,vu,.none] } }
 exact tail_any (ops:=[.ref s3.heap.objs.size,v]) ht hT hg (by with_unfolding_all rfl)
def Geo(xs:List V)(lo hi:Option Int):List V:=(xs.drop (HT.sIx xs.length 0 lo)).take (HT.sIx xs.length xs.length hi-HT.sIx xs.length 0 lo)
theorem Gak(xs:List V)(lo hi:Option Int):(Geo xs lo hi).length<=xs.length:=by
 unfold Geo
 rw[List.length_take,List.length_drop]
 omega
def Gtu(K:PySem.W.Frag):V->Option Int->Option Int->Hp->VK->Prop:=fun x lo hi H Q=>∃ a xs,x=.ref a/\SqT K H a xs∧
 ¬ (HT.sIx xs.length 0 lo=0/\HT.sIx xs.length xs.length hi=xs.length)/\∀ p,H p=none->Q (.ref p) (upd H p (.tup (Geo xs lo hi)))
theorem Gos:SlR X (Gtu X.K):=by
 intro pins s σ H x v vl vu lo hi sl Q I rx hs pl pu h
 obtain⟨a,xs,rfl,hx,hw,q⟩:=h
 cases rx
 obtain⟨its,r,ht,hz⟩:=I.tuple hx
 have hlen:its.toArray.size=xs.length:=by rw[List.size_toArray]; exact r.length.symm
 refine⟨"tuple",_,PyProof.Rows.slot_tuple_getitem.lookup,ht.typeIs,?_⟩
 refine HT.Zf ht hs pl pu (by rw[hlen]; exact hw) ?_ (by rw[hlen]; exact hz)
 rw[hlen]
 refine⟨.ref s.heap.objs.size,_,I.laid (t':=s.toks) (o:=.tup (Geo xs lo hi)) (fun b ob q=>Heap.get?_push_of_some _ q) (Nat.le_refl _) ?_,rfl,q _ (I.hok.fresh (Nat.le_refl _))⟩
 exact⟨Nat.le_trans (Gak xs lo hi) hz,_,(r.drop (HT.sIx xs.length 0 lo)).take (HT.sIx xs.length xs.length hi-HT.sIx xs.length 0 lo),IsTup.new _ _⟩
def Gmz(K:PySem.W.Frag):R2:=fun x y H Q=>∃ a b xs ys,x=.ref a/\y=.ref b/\SqT K H a xs/\SqT K H b ys/\xs≠[]/\xs.length+ys.length<=sizeLine∧
 (ys=[]->Q (.ref a) H)/\(ys≠[]->∀ p,H p=none->Q (.ref p) (upd H p (.tup (xs++ys))))
theorem Vals.nil_iff{us:List Value}(r:Vals xs us):us=[]↔xs=[]:=by
 cases r with
 | nil=>simp
 | cons _ _=>simp
theorem Gk1:OpR X (binaryOp .Add) (Gmz X.K):=by
 intro pins s σ H x y v u Q I rx ry h
 obtain⟨a,b,xs,ys,rfl,rfl,ha,hb,hx,hz,q1,q2⟩:=h
 cases rx
 cases ry
 obtain⟨its,r1,p1,_⟩:=I.tuple ha
 obtain⟨its2,r2,p2,_⟩:=I.tuple hb
 refine HT.Gkx p1 p2 (fun z=>hx (r1.nil_iff.mp z)) (fun z=>⟨.ref a,H,I,rfl,q1 (r2.nil_iff.mp z)⟩) (fun z=>?_) (by rw[<- r1.length,<- r2.length]; exact hz)
 refine⟨.ref s.heap.objs.size,_,I.laid (t':=s.toks) (o:=.tup (xs++ys)) (fun b ob q=>Heap.get?_push_of_some _ q) (Nat.le_refl _) ?_,rfl,q2 (fun w=>z (r2.nil_iff.mpr w)) _ (I.hok.fresh (Nat.le_refl _))⟩
 exact⟨by rw[List.length_append]; exact hz,_,r1.append r2,IsTup.new _ _⟩
end
def ixN(n:Nat)(i:Int):Option Nat:=if 0<=i then(if i<n then some i.toNat else none) else if -(n:Int)<=i then some (i+n).toNat else none
def atI{α:Type}(xs:List α)(i:Int):Option α:=(ixN xs.length i).bind fun j=>xs[j]?
theorem Ggf{i:Int}{j:Nat}(h:ixN n i=some j):seqIndex? i n=some j/\j<n /\ -(n:Int)<=i/\i<n:=by
 unfold ixN at h
 by_cases h0:0<=i
 ·rw[if_pos h0] at h
  by_cases h1:i<n
  ·rw[if_pos h1] at h
   have e:i.toNat=j:=Option.some.inj h
   exact⟨by rw[seqIndex_of h0 h1,e],by omega,by omega,h1⟩
  ·rw[if_neg h1] at h; cases h
 ·rw[if_neg h0] at h
  by_cases h1 : -(n:Int)<=i
  ·rw[if_pos h1] at h
   have e:(i+n).toNat=j:=Option.some.inj h
   exact⟨by rw[seqIndex_neg (by omega) h1,e],by omega,h1,by omega⟩
  ·rw[if_neg h1] at h; cases h
theorem Gdf{α:Type}{xs:List α}{i:Int}{v:α}(h:atI xs i=some v):∃ j,seqIndex? i xs.length=some j/\xs[j]?=some v/\j<xs.length /\ -(xs.length:Int)<=i/\i<xs.length:=by
 unfold atI at h
 cases e:ixN xs.length i with
 | none=>rw[e] at h; cases h
 | some j=>
  rw[e] at h
  obtain⟨h1,h2,h3,h4⟩:=Ggf e
  exact⟨j,h1,h,h2,h3,h4⟩
def Ga0(b:Expr):Prop:=∀ o i,subscripted b false o i=operate [o,i] (getItem o i)
def IxR(X:Cx)(r:R2):Prop:=
 ∀ (value slice:Expr) (pins:List (Addr×Obj)) (s:Shared) (σ:St) (H:Hp) (x y:V) (v u:Value) (Q:VK),Inv X pins σ H s->Hn x v->Hn y u->r x y H Q→
  subscripted slice false v u=operate [v,u] (getItem v u)->wpAny (model X.prog X.w) X.A (subscriptTail value slice v u) (EP X pins σ Q) X.xe s
def MtR(X:Cx)(id:String)(r:V->List V->Hp->VK->Prop):Prop:=
 ∀ (pins:List (Addr×Obj)) (s:Shared) (σ:St) (H:Hp) (x:V) (xs:List V) (v:Value) (us:List Value) (Q:VK),Inv X pins σ H s->Hn x v->Vals xs us->r x xs H Q→
  wpAny (model X.prog X.w) X.A (call (.builtin id) (v::us)) (EP X pins σ Q) X.xe s
section
variable{X:Cx}{a b:Expr}{ta tb:TE}{pos:Pos}
theorem IxR.or{r r':R2}(h:IxR X r)(h':IxR X r'):IxR X (fun x y H Q=>r x y H Q\/r' x y H Q):=by
 intro value slice pins s σ H x y v u Q I rx ry q hs
 rcases q with q | q
 ·exact h value slice pins s σ H x y v u Q I rx ry q hs
 ·exact h' value slice pins s σ H x y v u Q I rx ry q hs
theorem Gr2{r:R2}(hr:IxR X r)(ha:PE X a ta)(hb:PE X b tb)(hs:Ga0 b):PE X (.Subscript a b pos) (tOp r ta tb):=by
 intro pins s σ H Q I h
 exact Subscript_ (Goe ha hb I h fun v u s2 x y H2 I2 rx ry q=>hr a b pins s2 σ H2 x y v u Q I2 rx ry q (hs _ _))
def Gr3(K:PySem.W.Frag):R2:=fun x y H Q=>∃ p xs i v,x=.ref p/\y=.int i/\SqL K H p xs/\atI xs i=some v/\Q v H
def Gr4(K:PySem.W.Frag):R2:=fun x y H Q=>∃ p xs i v,x=.ref p/\y=.int i/\SqT K H p xs/\atI xs i=some v/\Q v H
def Gr5:R2:=fun x y H Q=>∃ z i c,x=.str z/\y=.int i/\z.length<=sizeLine/\atI z.cps.toList i=some c/\Q (.str ⟨#[c]⟩) H
theorem Gk2:IxR X (Gr3 X.K):=by
 intro value slice pins s σ H x y v u Q I rx ry h hs
 obtain⟨p,xs,i,z,rfl,rfl,hq,he,q⟩:=h
 cases rx
 obtain⟨t,rfl⟩:=ry
 obtain⟨its,r,pl,hz⟩:=I.list hq
 obtain⟨j,h1,h2,h3,h4,h5⟩:=Gdf he
 obtain⟨w,ew,rw'⟩:=r.get h2
 have hl:=r.length
 have hn:=Gab
 have fin:EP X pins σ Q w s:=⟨z,H,I,rw',q⟩
 by_cases h0:0<=i
 ·have hj:i.toNat=j:=by
   rw[seqIndex_of h0 h5] at h1
   exact Option.some.inj h1
  exact item_listR pl.isList h0 (by omega) (by rw[hj]; simpa using ew) fin hs
 ·have hj:(i+(its.toArray.size:Int)).toNat=j:=by
   rw[seqIndex_neg (by omega) h4] at h1
   rw[List.size_toArray,<- hl]
   exact Option.some.inj h1
  exact subscriptTail_builtinR (x:=w) pl.isList.typeIs slot_list_getitem.lookup
   (wpAny_getItem_list_neg (Q:=fun r s'=>r=w/\EP X pins σ Q r s') pl.isList (by omega) (by rw[List.size_toArray]<;>omega) (by omega) (by rw[hj]; simpa using ew) ⟨rfl,fin⟩) hs
theorem Got:IxR X (Gr4 X.K):=by
 intro value slice pins s σ H x y v u Q I rx ry h hs
 obtain⟨p,xs,i,z,rfl,rfl,hq,he,q⟩:=h
 cases rx
 obtain⟨t,rfl⟩:=ry
 obtain⟨its,r,pl,hz⟩:=I.tuple hq
 obtain⟨j,h1,h2,h3,h4,h5⟩:=Gdf he
 obtain⟨w,ew,rw'⟩:=r.get h2
 have hl:=r.length
 have hn:=Gab
 have fin:EP X pins σ Q w s:=⟨z,H,I,rw',q⟩
 exact subscriptTail_builtinR (x:=w) pl.typeIs slot_tuple_getitem.lookup
  (getItem_tuple (j:=j) (Q:=fun r s'=>r=w/\EP X pins σ Q r s') pl (by omega) (by omega) (by rw[List.size_toArray,<- hl]; exact h1) (by simpa using ew) ⟨rfl,fin⟩) hs
theorem Gou:IxR X Gr5:=by
 intro value slice pins s σ H x y v u Q I rx ry h hs
 obtain⟨z,i,c,rfl,rfl,hz,he,q⟩:=h
 obtain⟨t,rfl⟩:=rx
 obtain⟨t',rfl⟩:=ry
 obtain⟨j,h1,h2,h3,h4,h5⟩:=Gdf he
 have hl:z.cps.toList.length=z.length:=by simp[Str.length]
 rw[hl] at h1 h4 h5
 have hn:=Gab
 exact tail_any (typeIs_str s z t) slot_str_getitem.lookup (getItem_str (c:=c) (by
  have e1:decide (i < -(2^63:Int))=false:=decide_eq_false (by omega)
  have e2:decide (i≥2^63)=false:=decide_eq_false (by omega)
  rw[e1,e2,Bool.or_false]) (by rw[h1]; simpa using h2) ⟨.str ⟨#[c]⟩,H,I.tok _,⟨_,rfl⟩,q⟩) hs
def rIx(K:PySem.W.Frag):R2:=fun x y H Q=>Gr3 K x y H Q\/Gr4 K x y H Q\/Gr5 x y H Q
theorem Gov:IxR X (rIx X.K):=Gk2.or (Got.or Gou)
theorem Gfq(its:List Value)(n j:Nat)(u:Value):Obj.mapSeq (·.setIfInBounds j u) { cls:=.type "list",data:=.seq its.toArray n }={ cls:=.type "list",data:=.seq (its.set j u).toArray n }:=by
 simp[Obj.mapSeq]
theorem Inv.lst{s:Shared}{p:Addr}(I:Inv X pins σ H s)(h:H p=some (.lst xs)):
  ∃ (its:List Value) (n:Nat),Vals xs its/\s.heap.get? p=some { cls:=.type "list",data:=.seq its.toArray n }/\xs.length<=sizeLine:=by
 obtain⟨z,its,n,r,e⟩:=I.hok p _ h
 exact⟨its,n,r,e,z⟩
theorem Inv.lstUpd{s:Shared}{p:Addr}{ys:List V}{its':List Value}{n':Nat}{f:Obj->Obj}(I:Inv X pins σ H s)(h:H p=some (.lst xs))(ho:s.heap.get? p=some { cls:=.type "list",data:=.seq its.toArray n })(hf:f { cls:=.type "list",data:=.seq its.toArray n }={ cls:=.type "list",data:=.seq its'.toArray n' })(r:Vals ys its')(hz:ys.length<=sizeLine)(t:Nat):
  Inv X pins σ (upd H p (.lst ys)) { s with heap:=s.heap.update p f,toks:=t }:=by
 have e:(s.heap.update p f).get? p=some { cls:=.type "list",data:=.seq its'.toArray n' }:=by
  rw[Heap.get?_update_self f ho (by rw[hf]<;>rfl),hf]
 refine I.write (x:=p) (e:=p) (by rw[h]; trivial) (.inl rfl) (fun b u hb q=>(Heap.get?_update_other _ _ (Ne.symm hb)).trans q) ⟨_,e⟩ ?_
 exact⟨hz,its',n',r,e⟩
def Gm0:V->V->V->Hp->(Hp->Prop)->Prop:=fun o i v H Q=>∃ p xs k j,o=.ref p/\i=.int k/\H p=some (.lst xs)/\ixN xs.length k=some j/\Q (upd H p (.lst (xs.set j v)))
theorem Gib:Gn8 X Gm0:=by
 intro pins s σ H o i v ov iv u Q I ro ri rv h
 obtain⟨p,xs,k,j,rfl,rfl,hp,hj,q⟩:=h
 cases ro
 obtain⟨t,rfl⟩:=ri
 obtain⟨its,n,r,ho,hz⟩:=I.lst hp
 obtain⟨h1,h2,h3,h4⟩:=Ggf hj
 have hl:=r.length
 have hn:=Gab
 have I':Inv X pins σ (upd H p (.lst (xs.set j v))) { s with heap:=s.heap.update p (Obj.mapSeq (·.setIfInBounds j u)) }:=
  I.lstUpd hp ho (Gfq its n j u) (r.set rv j) (by rw[List.length_set]; exact hz) s.toks
 by_cases h0:0<=k
 ·have hk:k.toNat=j:=by
   rw[seqIndex_of h0 h4] at h1
   exact Option.some.inj h1
  exact PySem.W.ki_setAt ho h0 (by omega) (by rw[List.size_toArray,<- hl]; exact h4) (by rw[hk]; exact⟨_,I',q⟩)
 ·have hk:(k+(its.toArray.size:Int)).toNat=j:=by
   rw[seqIndex_neg (by omega) h3] at h1
   rw[List.size_toArray,<- hl]
   exact Option.some.inj h1
  exact PySem.W.ki_setBack ho (by omega) (by rw[List.size_toArray,<- hl]; exact h3) (by omega) (by rw[hk]; exact⟨_,I',q⟩)
theorem Gdg(lo hi:Option Int)(n:Nat):(sliceBounds lo hi none n).1=((HT.sIx n 0 lo:Nat):Int)/\(sliceBounds lo hi none n).2.1=((HT.sIx n n hi:Nat):Int)/\(sliceBounds lo hi none n).2.2=1:=by
 refine⟨?_,?_,rfl⟩
 ·cases lo with
  | none=>simp[sliceBounds,HT.sIx]
  | some i=>
   simp only[sliceBounds,HT.sIx,Option.getD_none,show(1:Int)>0 by decide,if_true]
   by_cases h:i<0
   ·simp only[h,if_true]<;>omega
   ·simp only[h,if_false]<;>omega
 ·cases hi with
  | none=>simp[sliceBounds,HT.sIx]
  | some i=>
   simp only[sliceBounds,HT.sIx,Option.getD_none,show(1:Int)>0 by decide,if_true]
   by_cases h:i<0
   ·simp only[h,if_true]<;>omega
   ·simp only[h,if_false]<;>omega
theorem Gce(its:List Value)(lo hi:Option Int):slicePick its.toArray lo hi none=((its.drop (HT.sIx its.length 0 lo)).take (HT.sIx its.length its.length hi-HT.sIx its.length 0 lo)).toArray:=by
 obtain⟨h1,h2,h3⟩:=Gdg lo hi its.toArray.size
 unfold slicePick
 rw[h1,h2,h3]
 simp only[sliceRange_one,pick_run,List.size_toArray]<;>rfl
def Gtv(K:PySem.W.Frag):V->Option Int->Option Int->Hp->VK->Prop:=fun x lo hi H Q=>∃ a xs,x=.ref a/\SqL K H a xs/\∀ p,H p=none->Q (.ref p) (upd H p (.lst (Geo xs lo hi)))
theorem Gk3:SlR X (Gtv X.K):=by
 intro pins s σ H x v vl vu lo hi sl Q I rx hs pl pu h
 obtain⟨a,xs,rfl,hx,q⟩:=h
 cases rx
 obtain⟨its,r,ht,hz⟩:=I.list hx
 have hlen:=r.length
 refine⟨"list",_,slot_list_getitem.lookup,ht.isList.typeIs,?_⟩
 refine wpAny_getItem_list_slice ht.isList hs pl pu .none (by simp) ?_ (by rw[List.size_toArray]<;>omega)
 rw[Gce,<- hlen]
 refine⟨.ref s.heap.objs.size,_,I.laid (t':=s.toks) (o:=.lst (Geo xs lo hi)) (fun b ob q=>Heap.get?_push_of_some _ q) (Nat.le_refl _) ?_,rfl,q _ (I.hok.fresh (Nat.le_refl _))⟩
 exact⟨Nat.le_trans (Gak xs lo hi) hz,_,0,(r.drop (HT.sIx xs.length 0 lo)).take (HT.sIx xs.length xs.length hi-HT.sIx xs.length 0 lo),Heap.get?_push_size _ rfl⟩
theorem Gdh:Xg X (.type "list") (fun xs H Q=>∃ p ys,xs=[.ref p]/\(SqL X.K H p ys\/SqT X.K H p ys)/\∀ l,H l=none->Q (.ref l) (upd H l (.lst ys))):=by
 intro pins s σ H xs us Q I r h
 obtain⟨p,ys,rfl,hq,q⟩:=h
 obtain⟨u,rfl,rx⟩:=Gel r
 cases rx
 have fin:∀ (its:List Value),Vals ys its->ys.length<=sizeLine->∀ (h':Heap) (c':Nat),(∀ b o',s.heap.get? b=some o'->h'.get? b=some o')→
   h'.get? s.heap.objs.size=some { cls:=.type "list",dict:=none,data:=.seq its.toArray c',slots:=#[] }->EP X pins σ Q (.ref s.heap.objs.size) { s with heap:=h' }:=fun its r' hz h' c' kp e=>
  ⟨.ref s.heap.objs.size,_,I.laid (t':=s.toks) kp (Nat.le_refl _) (show Ug X.prog X.w _ h' _ (.lst ys) from⟨hz,its,c',r',e⟩),rfl,q _ (I.hok.fresh (Nat.le_refl _))⟩
 rcases hq with hq | hq
 ·obtain⟨its,r',pl,hz⟩:=I.list hq
  have hlen:=r'.length
  obtain⟨o,ho,hc,n,hd⟩:=pl.isList
  exact call_list_seq p (.inl rfl) ho hc hd (fun h' c' kp e=>fin its r' hz h' c' kp e) (by simp only[List.size_toArray]<;>omega)
 ·obtain⟨its,r',pl,hz⟩:=I.tuple hq
  have hlen:=r'.length
  obtain⟨o,ho,hc,n,hd⟩:=pl
  exact call_list_seq p (.inr rfl) ho hc hd (fun h' c' kp e=>fin its r' hz h' c' kp e) (by simp only[List.size_toArray]<;>omega)
theorem Gcf:Xg X (.type "tuple") (fun xs H Q=>∃ p ys,xs=[.ref p]/\((SqL X.K H p ys/\∀ l,H l=none->Q (.ref l) (upd H l (.tup ys)))\/(SqT X.K H p ys/\Q (.ref p) H))):=by
 intro pins s σ H xs us Q I r h
 obtain⟨p,ys,rfl,h⟩:=h
 obtain⟨u,rfl,rx⟩:=Gel r
 cases rx
 rcases h with⟨hq,q⟩ | ⟨hq,q⟩
 ·obtain⟨its,r',pl,hz⟩:=I.list hq
  have hlen:=r'.length
  refine call_tuple_list pl.isList (fun h' kp=>?_) (by simp only[List.size_toArray]<;>omega)
  have I1:Inv X pins σ H { s with heap:=h' }:=I.kept (t':=s.toks) kp
  have I2:Inv X pins σ (upd H h'.objs.size (.tup ys)) { s with heap:=h'.push { cls:=.type "tuple",data:=.seq its.toArray } }:=
   I1.laid (t':=s.toks) (fun b o e=>Heap.get?_push_of_some _ e) (Nat.le_refl _) (show Ug X.prog X.w _ _ _ (.tup ys) from⟨hz,its,r',IsTup.new _ _⟩)
  exact⟨.ref h'.objs.size,_,I2,rfl,q _ (I1.hok.fresh (Nat.le_refl _))⟩
 ·obtain⟨its,r',pl,hz⟩:=I.tuple hq
  exact call_tuple_same pl ⟨.ref p,H,I,rfl,q⟩
def tyV(K:PySem.W.Frag)(T:String)(x:V)(H:Hp):Prop:=match x with
 | .str _=>T="str"
 | .int _=>T="int"
 | .ref p=>(T="list"/\∃ xs,SqL K H p xs)\/(T="tuple"/\∃ o,K.lookup p=some o/\o.cls=.type "tuple"/\o.dict=none)∨
   (T="dict"/\((∃ kvs,H p=some (.dK kvs))\/∃ kvs,H p=some (.dT kvs)))\/(T="set"/\∃ S n,H p=some (.set S n))
 | _=>False
theorem Gow{s:Shared}{T:String}{x:V}{v:Value}(I:Inv X pins σ H s)(r:Hn x v)(ty:tyV X.K T x H):
  s.TypeIs v T/\∀ a,v=.ref a->∃ ob,s.heap.get? a=some ob/\ob.dict=none:=by
 cases x with
 | str z=>
  obtain⟨t,rfl⟩:=r
  cases (show T="str" from ty)
  exact⟨typeIs_str s z t,fun _ e=>nomatch e⟩
 | int i=>
  obtain⟨t,rfl⟩:=r
  cases (show T="int" from ty)
  exact⟨typeIs_int s i t,fun _ e=>nomatch e⟩
 | ref p=>
  cases r
  rcases ty with⟨rfl,xs,hq⟩ | ⟨rfl,o,hk,hc,hd⟩ | ⟨rfl,hk⟩ | ⟨rfl,S,n,hk⟩
  ·obtain⟨its,_,pl,_⟩:=I.list hq
   refine⟨pl.isList.typeIs,fun a e=>?_⟩
   cases e
   obtain⟨o,n,e,c,hd,_⟩:=pl
   exact⟨o,e,hd⟩
  ·refine⟨⟨o,I.kIn p o hk,hc⟩,fun a e=>?_⟩
   cases e
   exact⟨o,I.kIn _ o hk,hd⟩
  ·have z:∃ o,s.heap.get? p=some o/\o.ExactDict:=by
    rcases hk with⟨kvs,hk⟩ | ⟨kvs,hk⟩
    ·obtain⟨_,_,_,_,o,_,_,e,ex,_⟩:=I.hok p _ hk
     exact⟨o,e,ex⟩
    ·obtain⟨_,_,_,_,o,_,_,e,ex,_⟩:=I.hok p _ hk
     exact⟨o,e,ex⟩
   obtain⟨o,e,ex⟩:=z
   refine⟨⟨o,e,ex.1⟩,fun a e2=>?_⟩
   cases e2
   exact⟨o,e,ex.2.1⟩
  ·obtain⟨o,_,_,_,e,ex,_⟩:=I.hok p _ hk
   refine⟨⟨o,e,ex.1⟩,fun a e2=>?_⟩
   cases e2
   exact⟨o,e,ex.2.1⟩
 | _=>exact False.elim ty
def tBM(K:PySem.W.Frag)(T:String)(r:V->List V->Hp->VK->Prop)(to:TE)(t:TA):TE:=fun σ H Q=>to σ H fun x H1=>tyV K T x H1/\t σ H1 fun xs H2=>r x xs H2 Q
variable{o e:Expr}{es:List Expr}{to:TE}{t:TA}{name:Str}{apos cpos:Pos}{T id:String}{r:V->List V->Hp->VK->Prop}
theorem Gm1(pa:PlainAttrs T)(slot:Slot T name id)(hty:typeOf (.builtin id)=pure (.type "method_descriptor"))(hm:MtR X id r)(ho:PE X o to)(ha:PA X (e::es) t)
  (hbase:attributeBase o name X.env (eval o X.env)=eval o X.env:=by rfl)
  (hfew:((backTo cpos (starEach (e::es) X.env)).all (fun x=>!x.1)&&(backToKw cpos (keywordEach [] X.env)).all (fun x=>x.1.isSome)
   && decide ((e::es).length+([]:List Keyword).length+(if([]:List Keyword).isEmpty then 0 else 1)<30))=true:=by rfl)
  (hline:(apos.endLine==cpos.line)=true:=by rfl) (hs:starEach (e::es) X.env=(false,eval e X.env)::starEach es X.env:=by rfl) (hplain:(backTo cpos (starEach es X.env)).any (·.1)=false:=by rfl):
  PE X (.Call (.Attribute o name apos) (e::es) [] cpos) (tBM X.K T r to t):=by
 intro pins s σ H Q I h
 refine wpAny_Call_method_late hbase hfew hline rfl (thn (ho pins s σ H _ I h) fun v s1 ⟨x,H1,I1,r1,ty,q1⟩=>?_)
 obtain⟨h1,h2⟩:=Gow I1 r1 ty
 refine⟨T,id,pa,slot,hty,h1,h2,?_⟩
 have hA:=ha cpos pins s1 σ H1 _ I1 q1
 rw[hs] at hA ⊢
 refine Calls.callWith_builtin (by show(false||(backTo cpos (starEach es X.env)).any (·.1))=false; rw[hplain]<;>rfl) (Calls.evalArgs_plain ?_)
 exact thn hA fun us s2 ⟨vs,H2,I2,r2,q2⟩=>hm pins s2 σ H2 x vs v us Q I2 r1 r2 q2
end
def MtM(X:Cx)(id:String)(r:V->List V->Hp->VK->Prop):Prop:=
 ∀ (pins:List (Addr×Obj)) (s:Shared) (σ:St) (H:Hp) (x:V) (xs:List V) (v:Value) (us:List Value) (Q:VK),Inv X pins σ H s->Hn x v->Vals xs us->r x xs H Q→
  wpAny (model X.prog X.w) X.A (call (.builtin id) (v::us)) (EP X pins σ Q) X.xe s
theorem Vals.one:∀ {x:V} {us:List Value},Vals [x] us->∃ u,us=[u]/\Hn x u
 | _,_,.cons r .nil=>⟨_,rfl,r⟩
theorem Vals.two:∀ {x y:V} {us:List Value},Vals [x,y] us->∃ u v,us=[u,v]/\Hn x u/\Hn y v
 | _,_,_,.cons r (.cons q .nil)=>⟨_,_,rfl,r,q⟩
theorem Vals.eraseIdx:∀ {xs:List V} {us:List Value} (i:Nat),Vals xs us->Vals (xs.eraseIdx i) (us.eraseIdx i)
 | _,_,_,.nil=>.nil
 | _,_,0,.cons _ t=>t
 | _,_,i+1,.cons r t=>.cons r (Vals.eraseIdx i t)
theorem Vals.rep{us:List Value}(h:Vals xs us):∀ k:Nat,Vals (List.replicate k xs).flatten (List.replicate k us).flatten
 | 0=>.nil
 | k+1=>by
  rw[List.replicate_succ,List.replicate_succ,List.flatten_cons,List.flatten_cons]
  exact Vals.append h (Vals.rep h k)
theorem Gcx{α:Type}:∀ (l:List α) (i:Nat),(l.eraseIdx i).length<=l.length
 | [],_=>Nat.le_refl _
 | _::_,0=>Nat.le_succ _
 | _::r,i+1=>Nat.succ_le_succ (Gcx r i)
theorem Gac(its:List Value):∀ (k:Nat) (acc:List Value),
  List.foldl (fun x1 x2=>x1++x2) acc.toArray (List.replicate k its.toArray)=(acc++(List.replicate k its).flatten).toArray
 | 0,acc=>by simp
 | k+1,acc=>by
  have e:acc.toArray++its.toArray=(acc++its).toArray:=by simp
  have e2:(acc++its)++(List.replicate k its).flatten=acc++(List.replicate (k+1) its).flatten:=by
   rw[List.replicate_succ,List.flatten_cons,List.append_assoc]
  rw[<- e2,<- Gac its k (acc++its),<- e,List.replicate_succ,List.foldl_cons]
section
variable{X:Cx}{pins:List (Addr×Obj)}{σ:St}{H:Hp}{s:Shared}{l b:Addr}{xs ys zs:List V}
theorem Inv.lset{its':List Value}{f:Array Value->Array Value}{t':Nat}(I:Inv X pins σ H s)(hH:H l=some (.lst xs))(e:s.heap.get? l=some { cls:=.type "list",data:=.seq its.toArray n })(hf:f its.toArray=its'.toArray)(hv:Vals ys its')(hz:ys.length<=sizeLine):
  Inv X pins σ (upd H l (.lst ys)) { s with heap:=s.heap.update l (Obj.mapSeq f),toks:=t' }:=by
 have q:=PySem.IsL.update e f
 rw[hf] at q
 refine I.write (x:=l) (e:=l) (by rw[hH]; exact trivial) (.inl rfl) (fun b' u hb hu=>(Heap.get?_update_other s.heap (Obj.mapSeq f) (Ne.symm hb)).trans hu) ⟨_,q⟩ ?_
 exact⟨hz,its',_,hv,q⟩
theorem Inv.lnew{t':Nat}(I:Inv X pins σ H s)(hv:Vals ys its)(hz:ys.length<=sizeLine):
  Inv X pins σ (upd H s.heap.objs.size (.lst ys)) { s with heap:=s.heap.push { cls:=.type "list",data:=.seq its.toArray },toks:=t' }:=
 I.laid (fun _ _ q=>Heap.get?_push_of_some _ q) (Nat.le_refl _) ⟨hz,its,0,hv,Heap.get?_push_size _ rfl⟩
theorem Inv.fresh(I:Inv X pins σ H s):H s.heap.objs.size=none:=I.hok.fresh (Nat.le_refl _)
theorem Inv.lstM(I:Inv X pins σ H s)(hH:H l=some (.lst xs)):xs.length<=sizeLine/\∃ (its:List Value) (n:Nat),Vals xs its/\xs.length=its.length/\s.heap.get? l=some { cls:=.type "list",data:=.seq its.toArray n }:=by
 obtain⟨z,its,n,r,e⟩:=I.hok l _ hH
 exact⟨z,its,n,r,r.length,e⟩
theorem Gic(h:n<=sizeLine):Builtin.List.listTooLong n=false:=by
 unfold Builtin.List.listTooLong
 exact decide_eq_false (by omega)
end
section
variable{X:Cx}
def Ggg:V->List V->Hp->VK->Prop:=fun x vs H Q=>∃ l xs y,x=.ref l/\vs=[y]/\H l=some (.lst xs)/\xs.length<sizeLine/\Q .non (upd H l (.lst (xs++[y])))
theorem Gcy:MtM X "list.append" Ggg:=by
 intro pins s σ H x vs v us Q I rx rv h
 obtain⟨l,xs,y,rfl,rfl,hH,hz,q⟩:=h
 cases rx
 obtain⟨u,rfl,ru⟩:=rv.one
 obtain⟨z,its,n,r,hl,e⟩:=I.lstM hH
 refine call_meets F.slot_list_append ⟨_,e,rfl⟩ F.entry_list_append (F.args_list_append_2 _ _) (PySem.list_append l its.toArray n u (by rw[List.size_toArray]; omega)) ⟨e,?_⟩
 refine⟨.non,_,I.lset (its':=its++[u]) hH e (by simp) (r.append (.cons ru .nil)) ?_,rfl,q⟩
 rw[List.length_append,List.length_singleton]
 omega
def Gid:V->List V->Hp->VK->Prop:=fun x vs H Q=>∃ l xs i k y,x=.ref l/\vs=[.int i]/\H l=some (.lst xs) /\ -(2^63)<=i/\i<2^63/\seqIndex? i xs.length=some k/\xs[k]?=some y/\Q y (upd H l (.lst (xs.eraseIdx k)))
theorem Gie:MtM X "list.pop" Gid:=by
 intro pins s σ H x vs v us Q I rx rv h
 obtain⟨l,xs,i,k,y,rfl,rfl,hH,h1,h2,hk,hy,q⟩:=h
 cases rx
 obtain⟨u,rfl,ru⟩:=rv.one
 obtain⟨t,rfl⟩:=ru
 obtain⟨z,its,n,r,hl,e⟩:=I.lstM hH
 obtain⟨w,hw,rw'⟩:=r.get hy
 refine call_meets F.slot_list_pop ⟨_,e,rfl⟩ F.entry_list_pop (F.args_list_pop_2 _ _)
  (MeetsSeq.list_pop_at l its.toArray n i t k w (fitsIndex_both h1 h2) (by rw[List.size_toArray,<- hl]; exact hk) (by rw[<- Array.getElem?_toList]; exact hw) (by rw[List.size_toArray]; omega)) ⟨e,?_⟩
 refine⟨y,_,I.lset (its':=its.eraseIdx k) hH e ?_ (r.eraseIdx k) ?_,rw',q⟩
 ·show its.toArray.eraseIdxIfInBounds k=(its.eraseIdx k).toArray
  rw[List.eraseIdxIfInBounds_toArray]
 ·have:=Gcx xs k
  omega
def Gr6:R2:=fun x y H Q=>∃ l b xs zs,x=.ref l/\y=.ref b/\H l=some (.lst xs)/\H b=some (.lst zs)/\xs.length+zs.length<=sizeLine/\∀ p,H p=none->Q (.ref p) (upd H p (.lst (xs++zs)))
theorem Gox:OpR X (binaryOp .Add) Gr6:=by
 intro pins s σ H x y v u Q I rx ry h
 obtain⟨l,b,xs,zs,rfl,rfl,hH,hB,hz,q⟩:=h
 cases rx
 cases ry
 obtain⟨z,its,n,r,hl,e⟩:=I.lstM hH
 obtain⟨z2,its2,n2,r2,hl2,e2⟩:=I.lstM hB
 refine PySem.P.add_list e e2 ?_ (by rw[List.size_toArray,List.size_toArray]; omega)
 have ea:its.toArray++its2.toArray=(its++its2).toArray:=by simp
 rw[ea]
 exact⟨.ref _,_,I.lnew (t':=s.toks) (r.append r2) (by rw[List.length_append]; omega),rfl,q _ I.fresh⟩
def Gr7:R2:=fun x y H Q=>∃ l k xs,x=.ref l/\y=.int k/\H l=some (.lst xs) /\ -(2^63)<=k/\k<2^63/\xs.length*k.toNat<=sizeLine∧
 ∀ p,H p=none->Q (.ref p) (upd H p (.lst (List.replicate k.toNat xs).flatten))
theorem Gdi{α:Type}(xs:List α)(k:Nat):(List.replicate k xs).flatten.length=k*xs.length:=by
 induction k with
 | zero=>simp
 | succ k ih=>rw[List.replicate_succ,List.flatten_cons,List.length_append,ih,Nat.succ_mul,Nat.add_comm]
theorem Goy:OpR X (binaryOp .Mult) Gr7:=by
 intro pins s σ H x y v u Q I rx ry h
 obtain⟨l,k,xs,rfl,rfl,hH,h1,h2,hz,q⟩:=h
 cases rx
 obtain⟨t,rfl⟩:=ry
 obtain⟨z,its,n,r,hl,e⟩:=I.lstM hH
 have hlen:its.toArray.size*k.toNat<=sizeLine:=by rw[List.size_toArray,<- hl]; exact hz
 have hcap:¬ its.toArray.size*k.toNat>(2^63-1) / 8:=by
  have:(sizeLine:Nat)<=(2^63-1) / 8:=by decide
  omega
 have hfit:¬ (!Builtin.List.listFitsIndex k)=true:=by
  rw[fitsIndex_both h1 h2]
  exact Bool.false_ne_true
 have hlong:¬ Builtin.List.listTooLong (its.toArray.size*k.toNat)=true:=by
  rw[Gic hlen]
  exact Bool.false_ne_true
 have hnew:List.foldl (fun x1 x2=>x1++x2) #[] (List.replicate (if its.toArray.isEmpty=true then 0 else k.toNat) its.toArray)=(List.replicate k.toNat its).flatten.toArray:=by
  have f0:∀ m:Nat,List.foldl (fun x1 x2=>x1++x2) #[] (List.replicate m its.toArray)=(List.replicate m its).flatten.toArray:=fun m=>by
   have:=Gac its m []
   rw[List.nil_append] at this
   exact this
  rw[f0]
  cases its with
  | nil=>simp
  | cons a r'=>rw[if_neg (by simp)]
 refine wpAny_binaryOp_repeat_ref (T:="list") (U:="int") (by decide) ⟨_,e,rfl⟩ (fun s'=>typeIs_int s' k t) noFill_list_mul F.fills_int_mul F.slot_int_rmul repeat_list F.slot_int_index.lookup
  (call_meets F.slot_int_rmul (typeIs_int s k t) F.entry_int_rmul (F.args_int_rmul_2 _ _) (int___rmul___int_list k t l its.toArray n)
   ⟨e,rfl,⟨_,e,rfl⟩,call_meets F.slot_list_mul ⟨_,e,rfl⟩ F.entry_list_mul (F.args_list_mul_2 _ _) (AutoListH.list___mul___list_int_3 l its.toArray n k t hfit hcap hlong) ⟨e,?_⟩⟩)
 rw[hnew]
 exact⟨.ref _,_,I.lnew (t':=s.toks) (r.rep k.toNat) (by rw[Gdi,Nat.mul_comm]; exact hz),rfl,q _ I.fresh⟩
end
end L2
namespace Att
open PySem PySem.W PySem.Calls PyProof.Rows
theorem Gaq{P:Params}{h:Heap}:∀ (ns:List Int) (vs:List Value),WellAll P h vs (ns.map WData.int)->IntsAre vs ns:=by
 intro ns
 induction ns with
 | nil=>
  intro vs w
  rw[List.map_nil] at w
  cases w
  exact .nil
 | cons n ns ih=>
  intro vs w
  rw[List.map_cons] at w
  cases w with
  | cons a b=>
   cases a
   exact .cons _ _ (ih _ b)
theorem Ghe{l:OpenLaw}{n:Nat}(hn:l.most=some n){P:Params}{h:Heap}{args:List WData}{vals:List Value}
  (hpre:l.row.toRowW.claim.pre args=true) (hwl:WellAll P h vals args):
  ∃ a vs ns,vals=[Value.ref a]/\args=[WData.list (ns.map WData.int)]/\h.get? a=some { cls:=.type "list",data:=.seq vs.toArray }/\IntsAre vs ns/\ns.length<=n:=by
 have hsh:WShape.hasAll [] args [.list .int]=true:=(pre_splitW hpre).1
 have hc:l.pre.holds [] { args:=args }=true:=(pre_splitW hpre).2
 obtain⟨d,r,rfl,h1,h2⟩:=hasAllW_cons hsh
 obtain rfl:=hasAllW_nil h2
 obtain⟨xs,rfl,h3⟩:=hasW_list h1
 obtain⟨ns,rfl⟩:=items_int h3
 have hlen:ns.length<=n:=by
  unfold OpenLaw.pre at hc
  have h4:(WTm.not (.lt (.lit (.int (n:Int))) (.len (.arg 0)))).holds [] { args:=[.list (ns.map .int)] }=true:=by
   have h4:=(holds_andW hc).1
   rw[hn] at h4
   exact h4
  have h5:=condW_of h4 (w_not (w_lt w_lit (w_len_list (w_arg rfl))))
  rw[List.length_map] at h5
  refine Nat.le_of_not_lt fun q=>?_
  have q':(n:Int)<((ns.length:Nat):Int):=by omega
  first
   | (rw[decide_eq_true q'] at h5; exact absurd h5 (by decide))
   | (simp at h5; omega)
 cases hwl with
 | cons w1 w2=>
  cases w2
  cases w1 with
  | list ho hall=>exact⟨_,_,ns,rfl,rfl,ho,Gaq ns _ hall,hlen⟩
theorem post_true(l:OpenLaw)(args:List WData):l.row.toRowW.claim.post args (.bool true) args=true:=
 postW_of (r:=l.row.toRowW) (X:=(true==true))
  (show WShape.has [] (.bool true) .bool=true by first | rfl | decide | simp[WShape.has,WShape.arms,WShape.armsAll])
  (show(WTm.eq .res (.lit (.bool true))).value [] { args:=args,res:=some (.bool true),after:=args }=some (.bool (true==true)) from w_eq_bool (w_res rfl) w_lit) rfl
theorem attach_call{l:OpenLaw}{n:Nat}{q:Program}{loose:List Str}{XP:(Str->Option Value)->Heap->Prop}{YP:World->Heap->Prop}{d:DefRec}
  (hn:l.most=some n) (hdf:d.params.defaults=[])
  (call:∀ (w:World) (s₀ s₁:Shared) (mg mb:Str->Option Value) (fa:Addr) (o:Obj) (pm cd doc:Value) (a:Addr) (vs:List Value) (ns:List Int),
   Ground q loose [] XP w s₀ mg mb s₁.heap->YP w s₁.heap→
   s₁.heap.get? fa=some o->o.data=.func (docDef d.name d.params d.body d.scope pm cd doc)->s₁.heap.CodeRec cd d.name->mg d.name=some (.ref fa)→
   s₁.heap.get? a=some { cls:=.type "list",data:=.seq vs.toArray }->IntsAre vs ns->ns.length<=n->s₁.gens=#[]→
   codeAny (model l.prog w) callerA (.call (.ref fa) ⟨[.ref a],[]⟩) (fun r s'=>r=.ok (.ret (.bool true))/\OldK s₁.heap s'.heap/\s'.os=s₁.os/\AllBare s'.gens) s₁):
  WalkO q loose XP YP l.row.toRowW d [] (fun f vs=>PySem.call f vs):=by
 intro w s₀ s₁ mg mb G Y fa o pm cd doc dV kV ho hd hcd hD hmg hg args vals as hpre hlay hrd hwl hlo
 obtain rfl:dV=.none:=Dflts.none hD hdf
 obtain rfl:kV=.none:=Dflts.noKw hD
 obtain⟨a,vs,ns,rfl,rfl,hobj,hints,hlen⟩:=Ghe hn hpre hwl
 refine enter_call (codeAny_mono (call w s₀ s₁ mg mb fa o pm cd doc a vs ns G Y ho (fd_plain hd) hcd hmg hobj hints hlen hg) fun r s' hq=>?_)
 obtain⟨rfl,h2,h3,h4⟩:=hq
 exact⟨.inl ⟨.bool true,.bool true,[],rfl,fun _=>rfl,.bool true,post_true l _,fun _=>⟨List.Pairwise.nil,fun _ hm=>(nomatch hm)⟩⟩,h2,h3,h4⟩
end Att
namespace L2
open PySem PySem.Spec PyProof.Rows
variable{k:Nat}{fd:FuncData}{x qual:Str}{st:Stmt}{f:Addr}
theorem Gcz:∀ {vs:List Value} {ns:List Int},IntsAre vs ns->Vals (ns.map V.int) vs
 | _,_,.nil=>.nil
 | _,_,.cons n t h=>.cons ⟨t,rfl⟩ (Gcz h)
def Only(H:Hp):Prop:=∀ b,H b=none\/∃ o xs,H b=some (.frz o (.lst xs))
theorem Gif{P:Program}{w:World}{K:PySem.W.Frag}{mg mb:Str->Option Value}{CX:CXT}{fa a:Addr}{sp:Sp}{s₁:Shared}{vs:List Value}{ns:List Int}(KX:K.In s₁.heap)(hns:s₁.heap.Ns mainGlobals mg)(hb:s₁.heap.Ns builtinsNs mb)(hbb:∀ x:Str,x≠"__name__"->mb x=bootBuiltins x)(hlim:s₁.heap.NoLimit)(hg:s₁.gens=#[])(ha:s₁.heap.get? a=some { cls:=.type "list",data:=.seq vs.toArray })(hi:IntsAre vs ns)(hl:ns.length<=sizeLine)(hr:Room k callerA)(F:∀ base:Heap,K.In base->base.Ns mainGlobals mg->FnOk P w K mg base CX k fa fd [x] sp)(hbind:∀ (s:Shared) (u:Value),BindsTo s fd ⟨[u],[]⟩ [(x,u)])(hsp:∀ H:Hp,Only H->SqL K H a (ns.map V.int)->sp [.ref a] H (fun v _=>v=.bl true) fun _ _ _=>False)(hCX:∀ H e s',CX [] H s₁ (fun _ _ _=>False) e s'->False):
  codeAny (model P w) callerA (.call (.ref fa) ⟨[.ref a],[]⟩) (fun r s'=>r=.ok (.ret (.bool true))/\OldK s₁.heap s'.heap/\s'.os=s₁.os/\AllBare s'.gens) s₁:=by
 have rv:=Gcz hi
 have lenV:=hi.length
 have core:∀ H:Hp,Only H->SqL K H a (ns.map V.int)->HOk P w H s₁.heap->(∀ b,H b≠none->b=a)->(H a≠none->K.lookup a=none)→
   codeAny (model P w) callerA (.call (.ref fa) ⟨[.ref a],[]⟩) (fun r s'=>r=.ok (.ret (.bool true))/\OldK s₁.heap s'.heap/\s'.os=s₁.os/\AllBare s'.gens) s₁:=by
  intro H hO hS hok hA hK
  have base_of:∀ {b:Addr} {o:Obj},s₁.heap.get? b=some o->H b=none->(Gdc s₁.heap H).get? b=some o:=fun e n=>Ghu e n
  have noA:∀ {b:Addr} {o:Obj} {es:Array DictEntry} {ep:Nat},s₁.heap.get? b=some o->o.data=.dict es ep->H b=none:=fun{b o es ep} e d=>by
   cases q:H b with
   | none=>rfl
   | some u=>
    have e':b=a:=hA b (by rw[q]; simp)
    subst e'
    rw[ha] at e; cases e
    have d':Data.seq vs.toArray _=Data.dict es ep:=d
    cases d'
  have nsK:∀ {b:Addr} {m:Str->Option Value},s₁.heap.Ns b m->(Gdc s₁.heap H).Ns b m:=fun{b m} ⟨o,es,ep,e,d,r⟩=>⟨o,es,ep,base_of e (noA e d),d,r⟩
  have hKb:K.In (Gdc s₁.heap H):=fun b o e=>base_of (KX b o e) (by
   cases q:H b with
   | none=>rfl
   | some u=>
    have e':b=a:=hA b (by rw[q]; simp)
    subst e'
    rw[hK (by rw[q]; simp)] at e; cases e)
  have hM:Mod K mg (Gdc s₁.heap H):=⟨hKb,nsK hns,⟨mb,nsK hb,hbb⟩,let ⟨mc,h1,h2⟩:=hlim; ⟨mc,nsK h1,h2⟩⟩
  have e0:Env0 P w K mg (Gdc s₁.heap H) callerA [] s₁ H:=⟨rfl,hM,fun b o e=>of_hidT e,Nat.le_of_eq (Gg7 _ _),trivial,fun b hb=>absurd (show b∈([]:List Addr) from hb) (by simp),hok,.of_eq hg⟩
  refine codeAny_mono ((F _ hKb (nsK hns)).run callerA [] s₁ H ⟨[.ref a],[]⟩ [.ref a] [.ref a] _ _ hr e0 (hbind s₁ (.ref a)) (.cons rfl .nil) (hsp H hO hS)) fun r s' h=>?_
  cases r with
  | error e=>exact(hCX H e s' h).elim
  | ok fl=>
   cases fl with
   | next=>exact False.elim h
   | brk=>exact False.elim h
   | cont=>exact False.elim h
   | ret u=>
    obtain⟨v,H',os,bare,un,hok',r',q⟩:=h
    have q':v=.bl true:=q
    subst q'
    obtain rfl:u=Value.bool true:=r'
    refine⟨rfl,OldK.of_keep fun b o e=>?_,os,bare⟩
    cases q:H b with
    | none=>exact un.keep b o e q (by intro z; exact absurd (show b∈([]:List Addr) from z) (by simp)) (by simp)
    | some u=>
     rcases hO b with z | ⟨ob,xs,z⟩
     ·rw[q] at z; cases z
     ·have z2:=un.frzs b ob _ z
      obtain⟨e1,_⟩:=hok b _ z
      obtain⟨e2,_⟩:=hok' b _ z2
      rw[e] at e1; cases e1
      exact e2
 cases hk:K.lookup a with
 | some o=>
  have e:=KX a o hk
  rw[ha] at e
  cases e
  refine core (fun _=>none) (fun _=>.inl rfl) (.inr ⟨_,vs.toArray,_,hk,rfl,rfl,rfl,by rw[List.size_toArray,lenV]; exact hl,by simpa using rv⟩) (fun b u z=>by have z':(none:Option HO)=some u:=z; cases z') (fun b z=>absurd rfl z) fun z=>absurd rfl z
 | none=>
  refine core (fun b=>if b=a then some (.frz { cls:=.type "list",data:=.seq vs.toArray } (.lst (ns.map V.int))) else none) (fun b=>?_) (.inl (.inr ⟨{ cls:=.type "list",data:=.seq vs.toArray },if_pos rfl⟩)) (fun b u z=>?_) (fun b z=>?_) fun _=>hk
  ·by_cases hb:b=a
   ·exact .inr ⟨_,_,if_pos hb⟩
   ·exact .inl (if_neg hb)
  ·by_cases hb:b=a
   ·have z':=(if_pos hb).symm.trans z
    cases z'
    subst hb
    exact⟨ha,by rw[List.length_map]; exact hl,vs,_,rv,ha⟩
   ·have z':=(if_neg hb).symm.trans z
    cases z'
  ·by_cases hb:b=a
   ·exact hb
   ·exact absurd (if_neg hb) z
theorem Gk4{l:PySem.W.OpenLaw}{n:Nat}{q:Program}{loose:List Str}{XP:(Str->Option Value)->Heap->Prop}{YP:World->Heap->Prop}{d:DefRec}{K:Params->PySem.W.Frag}{CX:World->CXT}{sp:World->Sp}(hn:l.most=some n)(hn2:n<=sizeLine)(hdf:d.params.defaults=[])(hr:Room k callerA)(hY:∀ (w:World) (h:Heap),YP w h->(K w.params).In h)(F:∀ (w:World) (mg:Str->Option Value) (fa:Addr) (h:Heap),(K w.params).In h->h.Ns mainGlobals mg->mg d.name=some (.ref fa)→
   ∃ fd:FuncData,(∀ (s:Shared) (u:Value),BindsTo s fd ⟨[u],[]⟩ [(x,u)])∧
    ∀ base:Heap,(K w.params).In base->base.Ns mainGlobals mg->FnOk l.prog w (K w.params) mg base (CX w) k fa fd [x] (sp w))(hsp:∀ (w:World) (H:Hp) (a:Addr) (ns:List Int),ns.length<=n->Only H->SqL (K w.params) H a (ns.map V.int)->sp w [.ref a] H (fun v _=>v=.bl true) fun _ _ _=>False)(hCX:∀ (w:World) (H:Hp) (s:Shared) (e:Value) (s':Shared),CX w [] H s (fun _ _ _=>False) e s'->False):
  PySem.W.WalkO q loose XP YP l.row.toRowW d [] (fun f vs=>PySem.call f vs):=by
 refine Att.attach_call hn hdf fun w s₀ s₁ mg mb fa o pm cd doc a vs ns G Y ho hd hcd hmg hobj hints hlen hg=>?_
 have KX:=hY w _ Y
 obtain⟨fd,hb,hF⟩:=F w mg fa _ KX G.T.g hmg
 exact Gif KX G.T.g G.T.b G.T.builtins G.T.nolimit hg hobj hints (Nat.le_trans hlen hn2) hr hF hb (fun H hO hS=>hsp w H a ns hlen hO hS) fun H e s'=>hCX w H s₁ e s'
theorem Gig{l:PySem.W.OpenLaw}{n:Nat}{q:Program}{loose:List Str}{XP:(Str->Option Value)->Heap->Prop}{YP:World->Heap->Prop}{d:DefRec}{K:Params->PySem.W.Frag}{CX:CXT}{sp:PySem.W.Frag->Sp}(hn:l.most=some n)(hn2:n<=sizeLine)(hdf:d.params.defaults=[])(hr:Room k callerA)(hY:∀ (w:World) (h:Heap),YP w h->(K w.params).In h)(F:∀ (w:World) (mg:Str->Option Value) (fa:Addr) (h:Heap),(K w.params).In h->h.Ns mainGlobals mg->mg d.name=some (.ref fa)→
   ∃ fd:FuncData,(∀ (s:Shared) (u:Value),BindsTo s fd ⟨[u],[]⟩ [(x,u)])∧
    ∀ base:Heap,(K w.params).In base->base.Ns mainGlobals mg->FnOk l.prog w (K w.params) mg base CX k fa fd [x] (sp (K w.params)))(hsp:∀ (K:PySem.W.Frag) (H:Hp) (a:Addr) (ns:List Int),ns.length<=n->Only H->SqL K H a (ns.map V.int)->sp K [.ref a] H (fun v _=>v=.bl true) fun _ _ _=>False)(hCX:∀ (H:Hp) (s:Shared) (e:Value) (s':Shared),CX [] H s (fun _ _ _=>False) e s'->False):
  PySem.W.WalkO q loose XP YP l.row.toRowW d [] (fun f vs=>PySem.call f vs):=
 Gk4 (K:=K) (CX:=fun _=>CX) (sp:=fun w=>sp (K w.params)) hn hn2 hdf hr hY F (fun w H a ns h1 h2 h3=>hsp (K w.params) H a ns h1 h2 h3) fun _ H s e s'=>hCX H s e s'
def Kw(s:Stmt):Arguments:=match s with
 | .FunctionDef _ a _ _ _ _ _ _ _ _=>a
 | _=>{ posonlyargs:=[],args:=[],vararg:=none,kwonlyargs:=[],kw_defaults:=[],kwarg:=none,defaults:=[] }
def Jq(s:Stmt):List Stmt:=match s with
 | .FunctionDef _ _ b _ _ _ _ _ _ _=>b
 | _=>[]
def Gj(s:Stmt):Scope:=match s with
 | .FunctionDef _ _ _ _ _ _ sc _ _ _=>sc
 | _=>{ kind:=.function,names:=[],isGenerator:=false,isCoroutine:=false }
abbrev CX0:CXT:=fun _ _ _ _ _ _=>False
abbrev E0:XK:=fun _ _ _=>False
theorem Gr8{X:Cx}:Passes CX0 X E0:=fun _ _ _ _ _ _ _ h=>h.elim
structure Fun(K:PySem.W.Frag)(x qual:Str)(st:Stmt)(f:Addr)(fd:FuncData):Prop where
 ex:∃ (oc:Value) (od:Option Addr) (kV doc pm:Value) (an:Option Addr) (cdv ct:Value) (osl:Array (Option Value)),
  fd=PySem.W.fnOf x qual (Kw st) (Jq st) (Gj st) .none kV doc pm an cdv ct/\K.lookup f=some ⟨oc,od,.func fd,osl⟩/\PySem.W.codeIn K cdv qual=true
 kp:PySem.W.keepIn K (.ref f)=true
section
variable{P:Program}{w:World}{K:PySem.W.Frag}{mg:Str->Option Value}{base:Heap}
theorem Fun.ok{N ps:List Str}{sp:Sp}(F:Fun K x qual st f fd)(S:FnScope N ps (Gj st))(len:∀ vs H Q E,sp vs H Q E->vs.length=ps.length)(hbody:∀ (cdv:Value) (A:Around) (outer:List Env) (s:Shared) (H:Hp) (vs:List V) (Q:VK) (E:XK),Room k (A.deeper (envOfC qual (Gj st) s.heap.objs.size f cdv))->sp vs H Q E→
   ∃ t,PSs (Gde CX0 P w K mg base N qual (Gj st) f cdv A outer s H E).nox (Jq st) t/\t { nx:=fun _ H'=>Q .non H',rt:=Q } (start N vs) H):FnOk P w K mg base CX0 (k+1) f fd ps sp:=by
 obtain⟨oc,od,kV,doc,pm,an,cdv,ct,osl,rfl,lk,hcd⟩:=F.ex
 refine Gr0 lk hcd S len fun A outer s H vs Q E hr hsp=>?_
 obtain⟨t,h,q⟩:=hbody cdv A outer s H vs Q E hr hsp
 exact⟨t,h.nox,q⟩
theorem Fun.binds{ps:List Str}(F:Fun K x qual st f fd)(h:∀ (kV doc pm:Value) (an:Option Addr) (cdv ct:Value) (us:List Value),us.length=ps.length->bindArgs (PySem.W.fnOf x qual (Kw st) (Jq st) (Gj st) .none kV doc pm an cdv ct) ⟨us,[]⟩=pure (ps.zip us)):Binds K fd ps []:=by
 obtain⟨oc,od,kV,doc,pm,an,cdv,ct,osl,rfl,lk,hcd⟩:=F.ex
 exact .all (h kV doc pm an cdv ct)
theorem Gfr{oc:Value}{od an:Option Addr}{osl:Array (Option Value)}{kV doc pm cdv ct:Value}(l:K.lookup f=some ⟨oc,od,.func (PySem.W.fnOf x qual (Kw st) (Jq st) (Gj st) .none kV doc pm an cdv ct),osl⟩)(c:PySem.W.codeIn K cdv qual=true)(k:PySem.W.keepIn K (.ref f)=true):Fun K x qual st f (PySem.W.fnOf x qual (Kw st) (Jq st) (Gj st) .none kV doc pm an cdv ct):=⟨⟨oc,od,kV,doc,pm,an,cdv,ct,osl,rfl,l,c⟩,k⟩
end
end L2
namespace DL
open PySem PySem.Spec PyProof.Rows L2
inductive D where
 | non | bl (b:Bool) | int (i:Int) | str (x:Str) | tup (l:List D) | lst (i:Nat) | exn (c:Str) (n:Option Int) | fv (x:Str)
structure Cell where
 fz:Bool
 xs:List D
abbrev Sto:=List Cell
abbrev Lc:=List (Option D)
structure XD where
 cls:Str
 fld:Option Int
inductive Out(α:Type) where
 | ok (a:α) (S:Sto)
 | exc (x:XD) (S:Sto)
 | bad
def Out.bind{α β:Type}(o:Out α)(g:α->Sto->Out β):Out β:=
 match o with
 | .ok a S=>g a S
 | .exc x S=>.exc x S
 | .bad=>.bad
structure XCl(K:PySem.W.Frag)(c:Addr):Prop where
 ga:PySem.W.findIn K (.ref c) "__getattribute__"=some (some (.builtin "BaseException.__getattribute__"))
 gt:PySem.W.findIn K (.ref c) "__getattr__"=some none
 cl:PySem.W.findIn K (.ref c) "__class__"=some (some (.builtin "object.__class__"))
 cd:(PySem.W.clsIn K c).isSome=true
 ob:PySem.W.mroIn K c (.type "object")=some true
 be:PySem.W.subIn K (.ref c) (.type "BaseException")=some true
 bt:∀ T∈["bool","int","str","tuple","list"],PySem.W.kitOne K (.ref c) (.type T)=some false
def CN(K:PySem.W.Frag)(y:Str)(c:Addr):Prop:=PySem.W.nsIn K mainGlobals y=some (some (.ref c))
def XO(a c:Addr)(dx:Option Addr):HO:=.ext fun h=>∃ oe,h.get? a=some oe/\oe.cls=.ref c/\oe.dict=dx/\∃ vs,oe.data=.fields vs
def XA(d:Addr)(n:Int):HO:=.ext fun h=>∃ t,h.Ns d fun y=>if y="at" then some (.int n t) else none
mutual
def Rep(K:PySem.W.Frag)(mp:List Addr)(H:Hp):D->V->Prop
 | .non,v=>v=.non
 | .bl b,v=>v=.bl b
 | .int i,v=>v=.int i
 | .str x,v=>v=.str x
 | .tup l,v=>∃ a xs,v=.ref a/\SqT K H a xs/\RepL K mp H l xs
 | .lst i,v=>∃ a,v=.ref a/\mp[i]?=some a
 | .exn c n,v=>∃ a dx p,v=.ref a/\(CN K c p/\XCl K p/\H a=some (XO a p dx))/\∀ i,n=some i->∃ d,dx=some d/\H d=some (XA d i)
 | .fv x,v=>∃ a,v=.ref a/\CN K x a
def RepL(K:PySem.W.Frag)(mp:List Addr)(H:Hp):List D->List V->Prop
 | [],vs=>vs=[]
 | d::l,vs=>∃ v r,vs=v::r/\Rep K mp H d v/\RepL K mp H l r
end
structure Aft(K:PySem.W.Frag)(mp:List Addr)(H:Hp)(mp':List Addr)(H':Hp):Prop where
 pre:∀ (i:Nat) (a:Addr),mp[i]?=some a->mp'[i]?=some a
 tup:∀ a xs,SqT K H a xs->SqT K H' a xs
 ext:∀ a φ,H a=some (.ext φ)->H' a=some (.ext φ)
theorem Aft.refl{K:PySem.W.Frag}{mp:List Addr}{H:Hp}:Aft K mp H mp H:=⟨fun _ _ h=>h,fun _ _ h=>h,fun _ _ h=>h⟩
theorem Aft.trans{K:PySem.W.Frag}{mp mp1 mp2:List Addr}{H H1 H2:Hp}(a:Aft K mp H mp1 H1)(b:Aft K mp1 H1 mp2 H2):Aft K mp H mp2 H2:=
 ⟨fun i x h=>b.pre i x (a.pre i x h),fun x xs h=>b.tup x xs (a.tup x xs h),fun x f h=>b.ext x f (a.ext x f h)⟩
mutual
theorem Rep.aft{K:PySem.W.Frag}{mp mp':List Addr}{H H':Hp}(a:Aft K mp H mp' H'):∀ (d:D) (v:V),Rep K mp H d v->Rep K mp' H' d v
 | .non,v,h=>h
 | .bl _,v,h=>h
 | .int _,v,h=>h
 | .str _,v,h=>h
 | .tup l,v,h=>by
  obtain⟨p,xs,e,s,r⟩:=(show ∃ a xs,v=.ref a/\SqT K H a xs/\RepL K mp H l xs from h)
  exact⟨p,xs,e,a.tup _ _ s,RepL.aft a l xs r⟩
 | .lst i,v,h=>by
  obtain⟨p,e,s⟩:=(show ∃ a,v=.ref a/\mp[i]?=some a from h)
  exact⟨p,e,a.pre _ _ s⟩
 | .exn c n,v,h=>by
  obtain⟨p,dx,q,e,⟨s0,s1,s⟩,r⟩:=(show ∃ a dx p,v=.ref a/\(CN K c p/\XCl K p/\H a=some (XO a p dx))/\∀ i,n=some i->∃ d,dx=some d/\H d=some (XA d i) from h)
  exact⟨p,dx,q,e,⟨s0,s1,a.ext _ _ s⟩,fun i z=>let ⟨d,z1,z2⟩:=r i z; ⟨d,z1,a.ext _ _ z2⟩⟩
 | .fv x,v,h=>h
theorem RepL.aft{K:PySem.W.Frag}{mp mp':List Addr}{H H':Hp}(a:Aft K mp H mp' H'):∀ (l:List D) (vs:List V),RepL K mp H l vs->RepL K mp' H' l vs
 | [],vs,h=>h
 | d::l,vs,h=>by
  obtain⟨v,r,e,h1,h2⟩:=(show ∃ v r,vs=v::r/\Rep K mp H d v/\RepL K mp H l r from h)
  exact⟨v,r,e,Rep.aft a d v h1,RepL.aft a l r h2⟩
end
section
variable{K:PySem.W.Frag}{mp:List Addr}{H:Hp}
theorem RepL.nil:RepL K mp H [] []:=rfl
theorem RepL.cons{d:D}{v:V}{l:List D}{r:List V}(h:Rep K mp H d v)(t:RepL K mp H l r):RepL K mp H (d::l) (v::r):=⟨v,r,rfl,h,t⟩
theorem RepL.len:∀ {l:List D} {vs:List V},RepL K mp H l vs->vs.length=l.length
 | [],vs,h=>by cases (show vs=[] from h); rfl
 | d::l,vs,h=>by
  obtain⟨v,r,e,h1,h2⟩:=h
  subst e
  simp[RepL.len h2]
theorem RepL.get:∀ {l:List D} {vs:List V} {i:Nat} {d:D},RepL K mp H l vs->l[i]?=some d->∃ v,vs[i]?=some v/\Rep K mp H d v
 | [],_,_,_,_,e=>by simp at e
 | d::l,vs,0,_,h,e=>by
  obtain⟨v,r,q,h1,h2⟩:=h
  subst q
  simp at e
  subst e
  exact⟨v,rfl,h1⟩
 | d::l,vs,i+1,x,h,e=>by
  obtain⟨v,r,q,h1,h2⟩:=h
  subst q
  obtain⟨v',a,b⟩:=RepL.get (i:=i) (d:=x) h2 (by simpa using e)
  exact⟨v',by simpa using a,b⟩
theorem RepL.append:∀ {l m:List D} {vs ws:List V},RepL K mp H l vs->RepL K mp H m ws->RepL K mp H (l++m) (vs++ws)
 | [],m,vs,ws,h,g=>by cases (show vs=[] from h); exact g
 | d::l,m,vs,ws,h,g=>by
  obtain⟨v,r,q,h1,h2⟩:=h
  subst q
  exact⟨v,r++ws,rfl,h1,RepL.append h2 g⟩
theorem RepL.take:∀ {l:List D} {vs:List V} (n:Nat),RepL K mp H l vs->RepL K mp H (l.take n) (vs.take n)
 | [],vs,n,h=>by cases (show vs=[] from h); simp; exact RepL.nil
 | d::l,vs,0,h=>by simp; exact RepL.nil
 | d::l,vs,n+1,h=>by
  obtain⟨v,r,q,h1,h2⟩:=h
  subst q
  simpa using RepL.cons h1 (RepL.take n h2)
theorem RepL.drop:∀ {l:List D} {vs:List V} (n:Nat),RepL K mp H l vs->RepL K mp H (l.drop n) (vs.drop n)
 | [],vs,n,h=>by cases (show vs=[] from h); simp; exact RepL.nil
 | d::l,vs,0,h=>by simpa using h
 | d::l,vs,n+1,h=>by
  obtain⟨v,r,q,h1,h2⟩:=h
  subst q
  simpa using RepL.drop n h2
theorem RepL.set:∀ {l:List D} {vs:List V} {d:D} {v:V} (n:Nat),RepL K mp H l vs->Rep K mp H d v->RepL K mp H (l.set n d) (vs.set n v)
 | [],vs,d,v,n,h,g=>by cases (show vs=[] from h); simp; exact RepL.nil
 | x::l,vs,d,v,0,h,g=>by
  obtain⟨v',r,q,h1,h2⟩:=h
  subst q
  simpa using RepL.cons g h2
 | x::l,vs,d,v,n+1,h,g=>by
  obtain⟨v',r,q,h1,h2⟩:=h
  subst q
  simpa using RepL.cons h1 (RepL.set n h2 g)
end
def SqF(K:PySem.W.Frag)(H:Hp)(a:Addr)(xs:List V):Prop:=
 (∃ o,H a=some (.frz o (.lst xs)))∨
  ∃ (o:Obj) (its:Array Value) (n:Nat),K.lookup a=some o/\o.cls=.type "list"/\o.dict=none/\o.data=.seq its n/\its.size<=sizeLine/\Vals xs its.toList
theorem SqF.sq{K:PySem.W.Frag}{H:Hp}{a:Addr}{xs:List V}(h:SqF K H a xs):SqL K H a xs:=by
 rcases h with h | h
 ·exact .inl (.inr h)
 ·exact .inr h
def Gdj(K:PySem.W.Frag)(mp:List Addr)(H:Hp)(a:Addr)(c:Cell):Prop:=
 ∃ xs,RepL K mp H c.xs xs/\(if c.fz=true then SqF K H a xs else H a=some (.lst xs))
structure RS(K:PySem.W.Frag)(mp:List Addr)(H:Hp)(S:Sto):Prop where
 len:mp.length=S.length
 cell:∀ (i:Nat) (a:Addr) (c:Cell),mp[i]?=some a->S[i]?=some c->Gdj K mp H a c
 inj:∀ (i j:Nat) (a:Addr) (ci cj:Cell),mp[i]?=some a->mp[j]?=some a->S[i]?=some ci->S[j]?=some cj->ci.fz=false->cj.fz=false->i=j
structure Gd(K:PySem.W.Frag)(mp:List Addr)(H:Hp)(σ:L2.St)(ρ:Lc)(S:Sto):Prop where
 rs:RS K mp H S
 len:σ.length=ρ.length
 loc:∀ (i:Nat) (d:D),ρ[i]?=some (some d)->∃ v,σ[i]?=some (some v)/\Rep K mp H d v
theorem Gd.aft{K:PySem.W.Frag}{mp mp':List Addr}{H H':Hp}{σ:L2.St}{ρ:Lc}{S S':Sto}(g:Gd K mp H σ ρ S)(a:Aft K mp H mp' H')(r:RS K mp' H' S'):Gd K mp' H' σ ρ S':=
 ⟨r,g.len,fun i d h=>let ⟨v,e,q⟩:=g.loc i d h; ⟨v,e,q.aft a⟩⟩
abbrev XW:=XD->List Addr->Hp->L2.St->Lc->Sto->Prop
abbrev RL(α β:Type):=List Addr->Hp->α->β->Prop
def Gx{α β:Type}(K:PySem.W.Frag)(R:RL α β)(XQ:XW)(σ:L2.St)(ρ:Lc)(mp:List Addr)(H:Hp)(o:Out α)(Q:β->Hp->Prop):Prop:=
 match o with
 | .ok d S=>∀ mp' H' v,Aft K mp H mp' H'->RS K mp' H' S->R mp' H' d v->Q v H'
 | .exc x S=>∀ mp' H',Aft K mp H mp' H'->Gd K mp' H' σ ρ S->XQ x mp' H' σ ρ S
 | .bad=>False
theorem Gx.aft{α β:Type}{K:PySem.W.Frag}{R:RL α β}{XQ:XW}{σ:L2.St}{ρ:Lc}{mp mp':List Addr}{H H':Hp}{o:Out α}{Q:β->Hp->Prop}(p:Gx K R XQ σ ρ mp H o Q)(a:Aft K mp H mp' H'):Gx K R XQ σ ρ mp' H' o Q:=by
 cases o with
 | ok d S=>exact fun m h v b=>p m h v (a.trans b)
 | exc x S=>exact fun m h b=>p m h (a.trans b)
 | bad=>exact p
theorem Gx.ok{α β:Type}{K:PySem.W.Frag}{R:RL α β}{XQ:XW}{σ:L2.St}{ρ:Lc}{mp:List Addr}{H:Hp}{d:α}{S:Sto}{v:β}{Q:β->Hp->Prop}(p:Gx K R XQ σ ρ mp H (.ok d S) Q)(r:RS K mp H S)(h:R mp H d v):Q v H:=p mp H v .refl r h
abbrev Post(K:PySem.W.Frag)(XQ:XW):=Gx (β:=V) K (Rep K) XQ
abbrev Ev(α:Type):=Lc->Sto->Out α
def rdG{α β:Type}(K:PySem.W.Frag)(R:RL α β)(XQ:XW)(f:Ev α):L2.St->Hp->(β->Hp->Prop)->Prop:=fun σ H Q=>∃ mp ρ S,Gd K mp H σ ρ S/\Gx K R XQ σ ρ mp H (f ρ S) Q
def kB:RL Bool Bool:=fun _ _ a b=>b=a
def kO:RL (Option Int) (Option Int):=fun _ _ a b=>b=a
abbrev rdE(K:PySem.W.Frag)(XQ:XW)(f:Ev D):TE:=rdG K (Rep K) XQ f
abbrev rdA(K:PySem.W.Frag)(XQ:XW)(f:Ev (List D)):TA:=rdG K (RepL K) XQ f
abbrev rdT(K:PySem.W.Frag)(XQ:XW)(f:Ev Bool):TT:=rdG K kB XQ f
abbrev rdO(K:PySem.W.Frag)(XQ:XW)(f:Ev (Option Int)):TO:=rdG K kO XQ f
def JE(X:Cx)(XQ:XW)(e:Expr)(f:Ev D):Prop:=PE X e (rdE X.K XQ f)
def JA(X:Cx)(XQ:XW)(es:List Expr)(f:Ev (List D)):Prop:=PA X es (rdA X.K XQ f)
def JT(X:Cx)(XQ:XW)(e:Expr)(f:Ev Bool):Prop:=PT X e (rdT X.K XQ f)
def JW(X:Cx)(XQ:XW)(e:Expr)(f:Ev Bool):Prop:=PW X e (rdT X.K XQ f)
def JO(X:Cx)(XQ:XW)(e:Option Expr)(f:Ev (Option Int)):Prop:=PO X e (rdO X.K XQ f)
theorem PE.mono{X:Cx}{e:Expr}{t t':TE}(h:PE X e t)(m:∀ σ H Q,t' σ H Q->t σ H Q):PE X e t':=fun pins s σ H Q I q=>h pins s σ H Q I (m σ H Q q)
theorem PT.mono{X:Cx}{e:Expr}{t t':TT}(h:PT X e t)(m:∀ σ H Q,t' σ H Q->t σ H Q):PT X e t':=fun pins s σ H Q I q=>h pins s σ H Q I (m σ H Q q)
theorem PW.mono{X:Cx}{e:Expr}{t t':TT}(h:PW X e t)(m:∀ σ H Q,t' σ H Q->t σ H Q):PW X e t':=fun wh pins s σ H Q I q=>h wh pins s σ H Q I (m σ H Q q)
theorem PO.mono{X:Cx}{e:Option Expr}{t t':TO}(h:PO X e t)(m:∀ σ H Q,t' σ H Q->t σ H Q):PO X e t':=fun pins s σ H Q I q=>h pins s σ H Q I (m σ H Q q)
theorem PA.mono{X:Cx}{e:List Expr}{t t':TA}(h:PA X e t)(m:∀ σ H Q,t' σ H Q->t σ H Q):PA X e t':=fun pos pins s σ H Q I q=>h pos pins s σ H Q I (m σ H Q q)
theorem PS.mono{X:Cx}{e:Stmt}{t t':TS}(h:PS X e t)(m:∀ D σ H,t' D σ H->t D σ H):PS X e t':=fun pins s σ H D I q=>h pins s σ H D I (m D σ H q)
theorem PSs.mono{X:Cx}{e:List Stmt}{t t':TS}(h:PSs X e t)(m:∀ D σ H,t' D σ H->t D σ H):PSs X e t':=fun pins s σ H D I q=>h pins s σ H D I (m D σ H q)
theorem bindP{α β γ δ:Type}{K:PySem.W.Frag}{R:RL α β}{R':RL γ δ}{XQ:XW}{mp:List Addr}{H:Hp}{σ:L2.St}{ρ:Lc}{S:Sto}{f:Ev α}{g:α->Sto->Out γ}{Q:δ->Hp->Prop}{Q1:β->Hp->Prop}(G:Gd K mp H σ ρ S)(p:Gx K R' XQ σ ρ mp H ((f ρ S).bind g) Q)
  (k:∀ mp1 H1 d S1 v,Aft K mp H mp1 H1->Gd K mp1 H1 σ ρ S1->R mp1 H1 d v->Gx K R' XQ σ ρ mp1 H1 (g d S1) Q->Q1 v H1):rdG K R XQ f σ H Q1:=by
 refine⟨mp,ρ,S,G,?_⟩
 cases e:f ρ S with
 | ok d S1=>
  rw[e] at p
  exact fun mp1 H1 v a rs r=>k mp1 H1 d S1 v a (G.aft a rs) r (Gx.aft p a)
 | exc x S1=>rw[e] at p; exact p
 | bad=>rw[e] at p; exact p
def vr(i:Nat):Ev D:=fun ρ S=>match ρ[i]? with
 | some (some d)=>.ok d S
 | _=>.bad
def cn(d:D):Ev D:=fun _ S=>.ok d S
section
variable{X:Cx}{XQ:XW}
theorem Gih(i:Nat){x:Str}{pos:Pos}(hN:X.N[i]?=some x:=by rfl)(hv:Vis X.env.scope x:=by first | exact Or.inl rfl | exact Or.inr (Or.inl rfl) | exact Or.inr (Or.inr rfl))(hd:(x==("__debug__":Str))=false:=by decide)
  (hcd:(x==("__classdict__":Str))=false:=by decide):JE X XQ (.Name x pos) (vr i):=by
 refine PE.mono (Gnx hN hv hd hcd) fun σ H Q ⟨mp,ρ,S,G,p⟩=>?_
 unfold vr at p
 cases e:ρ[i]? with
 | none=>rw[e] at p; exact p.elim
 | some o=>
  rw[e] at p
  cases o with
  | none=>exact p.elim
  | some d=>
   obtain⟨v,h1,h2⟩:=G.loc i d e
   exact⟨v,h1,Gx.ok p G.rs h2⟩
theorem Xh{e:Expr}{d:D}{v:V}(h:PE X e (tC v))(r:∀ mp H,Rep X.K mp H d v):JE X XQ e (cn d):=
 PE.mono h fun σ H Q ⟨mp,ρ,S,G,p⟩=>Gx.ok p G.rs (r mp H)
theorem Goz{i:Int}{j pos}:JE X XQ (.Constant (.int i) j pos) (cn (.int i)):=Xh Gny fun _ _=>rfl
theorem Gr9{b:Bool}{j pos}:JE X XQ (.Constant (.bool b) j pos) (cn (.bl b)):=Xh Gri fun _ _=>rfl
theorem Go0{j pos}:JE X XQ (.Constant .none j pos) (cn .non):=Xh Gnz fun _ _=>rfl
theorem Go1{x:Str}{j pos}:JE X XQ (.Constant (.str x) j pos) (cn (.str x)):=Xh Gn0 fun _ _=>rfl
def an:Ev (List D):=fun _ S=>.ok [] S
def ac(f:Ev D)(g:Ev (List D)):Ev (List D):=fun ρ S=>(f ρ S).bind fun x S1=>(g ρ S1).bind fun xs S2=>.ok (x::xs) S2
theorem Go2:JA X XQ [] an:=PA.mono Gh8 fun σ H Q ⟨mp,ρ,S,G,p⟩=>Gx.ok p G.rs RepL.nil
theorem Gk5{e:Expr}{es:List Expr}{f:Ev D}{g:Ev (List D)}(ha:JE X XQ e f)(hr:JA X XQ es g)(hs:starEach (e::es) X.env=(false,eval e X.env)::starEach es X.env:=by rfl):JA X XQ (e::es) (ac f g):=by
 refine PA.mono (Gdd ha hr hs) fun σ H Q ⟨mp,ρ,S,G,p⟩=>?_
 refine bindP G p fun mp1 H1 x S1 v a1 G1 r1 p1=>?_
 refine bindP G1 p1 fun mp2 H2 xs S2 vs a2 G2 r2 p2=>?_
 exact Gx.ok p2 G2.rs (RepL.cons (Rep.aft a2 _ _ r1) r2)
theorem Ga1{K:PySem.W.Frag}{mp:List Addr}{H:Hp}{p:Addr}{o:HO}(h:H p=none):Aft K mp H mp (upd H p o):=by
 refine⟨fun _ _ e=>e,fun a xs s=>?_,fun a φ s=>by rw[Ho (Ja s h)]; exact s⟩
 rcases s with(s | ⟨ob,s⟩) | s
 ·exact .inl (.inl (by rw[Ho (Ja s h)]; exact s))
 ·exact .inl (.inr ⟨ob,by rw[Ho (Ja s h)]; exact s⟩)
 ·exact .inr s
theorem Gk6{K:PySem.W.Frag}{H:Hp}{p a:Addr}{o:HO}{xs:List V}(h:H p=none)(s:SqF K H a xs):SqF K (upd H p o) a xs:=by
 rcases s with⟨ob,s⟩ | s
 ·exact .inl ⟨ob,by rw[Ho (Ja s h)]; exact s⟩
 ·exact .inr s
theorem Gdj.new{K:PySem.W.Frag}{mp mp':List Addr}{H:Hp}{p a:Addr}{o:HO}{c:Cell}(h:H p=none)(af:Aft K mp H mp' (upd H p o))(q:Gdj K mp H a c):Gdj K mp' (upd H p o) a c:=by
 obtain⟨xs,r,e⟩:=q
 refine⟨xs,RepL.aft af _ _ r,?_⟩
 cases z:c.fz with
 | true=>rw[z] at e; exact(if_pos rfl).mpr (Gk6 h ((if_pos rfl).mp e))
 | false=>
  rw[z,if_neg Bool.false_ne_true] at e
  rw[if_neg Bool.false_ne_true,Ho (Ja e h)]
  exact e
theorem RS.new{K:PySem.W.Frag}{mp:List Addr}{H:Hp}{S:Sto}{p:Addr}{o:HO}(r:RS K mp H S)(h:H p=none):RS K mp (upd H p o) S:=
 ⟨r.len,fun i a c e1 e2=>(r.cell i a c e1 e2).new h (Ga1 h),r.inj⟩
theorem RS.newL{K:PySem.W.Frag}{mp:List Addr}{H:Hp}{S:Sto}{p:Addr}{ds:List D}{vs:List V}(r:RS K mp H S)(h:H p=none)(q:RepL K mp H ds vs):
  Aft K mp H (mp++[p]) (upd H p (.lst vs))/\RS K (mp++[p]) (upd H p (.lst vs)) (S++[⟨false,ds⟩])/\(mp++[p])[S.length]?=some p:=by
 have af:Aft K mp H (mp++[p]) (upd H p (.lst vs)):=⟨fun i a e=>by rw[List.getElem?_append_left (List.getElem?_eq_some_iff.mp e).1]; exact e,(Ga1 (mp:=mp) h).tup,(Ga1 (K:=K) (mp:=mp) h).ext⟩
 have hl:=r.len
 have lastp:(mp++[p])[S.length]?=some p:=by rw[<- hl]; simp
 refine⟨af,⟨by simp[hl],fun i a c e1 e2=>?_,fun i j a ci cj e1 e2 e3 e4 f1 f2=>?_⟩,lastp⟩
 ·by_cases hi:i<S.length
  ·rw[List.getElem?_append_left (by omega)] at e1
   rw[List.getElem?_append_left hi] at e2
   exact(r.cell i a c e1 e2).new h af
  ·have hi':i=S.length:=by
    have:=(List.getElem?_eq_some_iff.mp e2).1
    simp at this
    omega
   subst hi'
   rw[lastp] at e1
   cases e1
   simp at e2
   subst e2
   exact⟨vs,RepL.aft af _ _ q,by simp[Xf]⟩
 ·have old:∀ (i:Nat) (a:Addr) (c:Cell),i<S.length->(mp++[p])[i]?=some a->(S++[⟨false,ds⟩])[i]?=some c->c.fz=false->mp[i]?=some a/\S[i]?=some c/\a≠p:=fun i a c hi e1 e2 f=>by
   rw[List.getElem?_append_left (by omega)] at e1
   rw[List.getElem?_append_left hi] at e2
   refine⟨e1,e2,?_⟩
   obtain⟨xs,_,e⟩:=r.cell i a c e1 e2
   rw[f,if_neg Bool.false_ne_true] at e
   exact Ja e h
  have hi:=(List.getElem?_eq_some_iff.mp e3).1
  have hj:=(List.getElem?_eq_some_iff.mp e4).1
  simp at hi hj
  by_cases hi':i<S.length
  ·obtain⟨o1,o2,o3⟩:=old i a ci hi' e1 e3 f1
   by_cases hj':j<S.length
   ·obtain⟨u1,u2,u3⟩:=old j a cj hj' e2 e4 f2
    exact r.inj i j a ci cj o1 u1 o2 u2 f1 f2
   ·have:j=S.length:=by omega
    subst this
    rw[lastp] at e2
    cases e2
    exact absurd rfl o3
  ·have:i=S.length:=by omega
   subst this
   rw[lastp] at e1
   cases e1
   by_cases hj':j<S.length
   ·obtain⟨u1,u2,u3⟩:=old j _ cj hj' e2 e4 f2
    exact absurd rfl u3
   ·omega
theorem RS.setL{K:PySem.W.Frag}{mp:List Addr}{H:Hp}{S:Sto}{i:Nat}{a:Addr}{c:Cell}{xs vs:List V}{ds:List D}(r:RS K mp H S)(hi:mp[i]?=some a)(hc:S[i]?=some c)(hf:c.fz=false)(ha:H a=some (.lst xs))(q:RepL K mp H ds vs):
  Aft K mp H mp (upd H a (.lst vs))/\RS K mp (upd H a (.lst vs)) (S.set i ⟨false,ds⟩):=by
 have af:Aft K mp H mp (upd H a (.lst vs)):=by
  refine⟨fun _ _ e=>e,fun b ys s=>?_,fun b φ s=>by rw[Ho (Ggb s ha (by intro z; cases z))]; exact s⟩
  rcases s with(s | ⟨ob,s⟩) | s
  ·exact .inl (.inl (by rw[Ho (Ggb s ha (by intro z; cases z))]; exact s))
  ·exact .inl (.inr ⟨ob,by rw[Ho (Ggb s ha (by intro z; cases z))]; exact s⟩)
  ·exact .inr s
 refine⟨af,⟨by simp[r.len],fun j b cj e1 e2=>?_,fun j k b cj ck e1 e2 e3 e4 f1 f2=>?_⟩⟩
 ·by_cases hj:j=i
  ·subst hj
   rw[hi] at e1
   cases e1
   rw[List.getElem?_set_self (List.getElem?_eq_some_iff.mp hc).1] at e2
   cases e2
   exact⟨vs,RepL.aft af _ _ q,by simp[Xf]⟩
  ·rw[List.getElem?_set_ne (Ne.symm hj)] at e2
   obtain⟨ys,h1,h2⟩:=r.cell j b cj e1 e2
   refine⟨ys,RepL.aft af _ _ h1,?_⟩
   cases z:cj.fz with
   | true=>
    rw[z] at h2
    have h2:SqF K H b ys:=(if_pos rfl).mp h2
    refine(if_pos rfl).mpr ?_
    rcases h2 with⟨ob,s⟩ | s
    ·exact .inl ⟨ob,by rw[Ho (Ggb s ha (by intro z; cases z))]; exact s⟩
    ·exact .inr s
   | false=>
    rw[z,if_neg Bool.false_ne_true] at h2
    rw[if_neg Bool.false_ne_true]
    have hb:b≠a:=fun hb=>by
     subst hb
     exact hj (r.inj j i b cj c e1 hi e2 hc z hf)
    rw[Ho hb]
    exact h2
 ·have fz:∀ (j:Nat) (cj:Cell),(S.set i ⟨false,ds⟩)[j]?=some cj->cj.fz=false->∃ c',S[j]?=some c'/\c'.fz=false:=fun j cj e f=>by
   by_cases hj:j=i
   ·subst hj
    exact⟨c,hc,hf⟩
   ·rw[List.getElem?_set_ne (Ne.symm hj)] at e
    exact⟨cj,e,f⟩
  obtain⟨c1,g1,g2⟩:=fz j cj e3 f1
  obtain⟨c2,g3,g4⟩:=fz k ck e4 f2
  exact r.inj j k b c1 c2 e1 e2 g1 g3 g2 g4
theorem RS.items{K:PySem.W.Frag}{mp:List Addr}{H:Hp}{S:Sto}{i:Nat}{c:Cell}{v:V}(r:RS K mp H S)(h:Rep K mp H (.lst i) v)(e:S[i]?=some c):∃ a xs,v=.ref a/\mp[i]?=some a/\SqL K H a xs/\RepL K mp H c.xs xs/\(c.fz=false->H a=some (.lst xs)):=by
 obtain⟨a,ev,ea⟩:=(show ∃ a,v=.ref a/\mp[i]?=some a from h)
 obtain⟨xs,q,z⟩:=r.cell i a c ea e
 cases f:c.fz with
 | true=>rw[f] at z; exact⟨a,xs,ev,ea,((if_pos rfl).mp z:SqF K H a xs).sq,q,fun w=>nomatch w⟩
 | false=>rw[f,if_neg Bool.false_ne_true] at z; exact⟨a,xs,ev,ea,SqL.of z,q,fun _=>z⟩
theorem Rep.tup{K:PySem.W.Frag}{mp:List Addr}{H:Hp}{l:List D}{v:V}(h:Rep K mp H (.tup l) v):∃ a xs,v=.ref a/\SqT K H a xs/\RepL K mp H l xs:=h
def OpD(K:PySem.W.Frag)(r:R2)(o:D->D->Sto->Out D):Prop:=
 ∀ (XQ:XW) (σ:L2.St) (ρ:Lc) (mp:List Addr) (H:Hp) (S:Sto) (x y:D) (v u:V) (Q:VK),RS K mp H S->Rep K mp H x v->Rep K mp H y u->Post K XQ σ ρ mp H (o x y S) Q->r v u H Q
def o2(o:D->D->Sto->Out D)(fa fb:Ev D):Ev D:=fun ρ S=>(fa ρ S).bind fun x S1=>(fb ρ S1).bind fun y S2=>o x y S2
theorem Gk7{r:R2}{o:D->D->Sto->Out D}{fa fb:Ev D}(hd:OpD X.K r o):∀ σ H Q,rdE X.K XQ (o2 o fa fb) σ H Q->tOp r (rdE X.K XQ fa) (rdE X.K XQ fb) σ H Q:=by
 intro σ H Q ⟨mp,ρ,S,G,p⟩
 refine bindP G p fun mp1 H1 x S1 v a1 G1 r1 p1=>?_
 refine bindP G1 p1 fun mp2 H2 y S2 u a2 G2 r2 p2=>?_
 exact hd XQ σ ρ mp2 H2 S2 x y v u Q G2.rs (Rep.aft a2 _ _ r1) r2 p2
theorem Gc0{a b:Expr}{fa fb:Ev D}{op:Operator}{r:R2}{o:D->D->Sto->Out D}{pos:Pos}(ho:OpR X (binaryOp op) r)(hd:OpD X.K r o)(ha:JE X XQ a fa)(hb:JE X XQ b fb):JE X XQ (.BinOp a op b pos) (o2 o fa fb):=
 PE.mono (Grr ho ha hb) (Gk7 hd)
theorem Gfs{a b:Expr}{fa fb:Ev D}{op:CmpOp}{r:R2}{o:D->D->Sto->Out D}{pos:Pos}(ho:OpR X (compareOp op) r)(hd:OpD X.K r o)(ha:JE X XQ a fa)(hb:JE X XQ b fb)(hm:behindInMarks op b=false):JE X XQ (.Compare a [op] [b] pos) (o2 o fa fb):=
 PE.mono (Gku ho ha hb hm) (Gk7 hd)
theorem Gsa{a b:Expr}{fa fb:Ev D}{r:R2}{o:D->D->Sto->Out D}{pos:Pos}(hr:IxR X r)(hd:OpD X.K r o)(ha:JE X XQ a fa)(hb:JE X XQ b fb)(hs:Ga0 b):JE X XQ (.Subscript a b pos) (o2 o fa fb):=
 PE.mono (Gr2 hr ha hb hs) (Gk7 hd)
def UnD(K:PySem.W.Frag)(r:V->Hp->VK->Prop)(o:D->Sto->Out D):Prop:=
 ∀ (XQ:XW) (σ:L2.St) (ρ:Lc) (mp:List Addr) (H:Hp) (S:Sto) (x:D) (v:V) (Q:VK),RS K mp H S->Rep K mp H x v->Post K XQ σ ρ mp H (o x S) Q->r v H Q
def o1(o:D->Sto->Out D)(fa:Ev D):Ev D:=fun ρ S=>(fa ρ S).bind fun x S1=>o x S1
theorem Gsb{a:Expr}{fa:Ev D}{op:UnaryOp}{r:V->Hp->VK->Prop}{o:D->Sto->Out D}{pos:Pos}(ho:UnR X (unaryOp op) r)(hd:UnD X.K r o)(ha:JE X XQ a fa):JE X XQ (.UnaryOp op a pos) (o1 o fa):=by
 refine PE.mono (Grs ho ha) fun σ H Q ⟨mp,ρ,S,G,p⟩=>?_
 exact bindP G p fun mp1 H1 x S1 v a1 G1 r1 p1=>hd XQ σ ρ mp1 H1 S1 x v Q G1.rs r1 p1
def tp(f:Ev (List D)):Ev D:=fun ρ S=>(f ρ S).bind fun xs S1=>if xs.length<=1000000 then .ok (.tup xs) S1 else .bad
def ls(f:Ev (List D)):Ev D:=fun ρ S=>(f ρ S).bind fun xs S1=>if xs.length<=1000000 then .ok (.lst S1.length) (S1++[⟨false,xs⟩]) else .bad
theorem line_le{n:Nat}(h:n<=1000000):n<=sizeLine:=Nat.le_trans h (by decide)
theorem Xi{K:PySem.W.Frag}{σ:L2.St}{ρ:Lc}{mp:List Addr}{H:Hp}{S:Sto}{ds:List D}{vs:List V}{Q:VK}{p:Addr}(po:Post K XQ σ ρ mp H (.ok (.tup ds) S) Q)(r:RS K mp H S)(q:RepL K mp H ds vs)(h:H p=none):Q (.ref p) (upd H p (.tup vs)):=by
 have af:Aft K mp H mp (upd H p (.tup vs)):=Ga1 h
 exact po mp _ _ af (r.new h) ⟨p,vs,rfl,SqT.of Xf,RepL.aft af _ _ q⟩
theorem Vw{K:PySem.W.Frag}{σ:L2.St}{ρ:Lc}{mp:List Addr}{H:Hp}{S:Sto}{ds:List D}{vs:List V}{Q:VK}{p:Addr}(po:Post K XQ σ ρ mp H (.ok (.lst S.length) (S++[⟨false,ds⟩])) Q)(r:RS K mp H S)(q:RepL K mp H ds vs)(h:H p=none):Q (.ref p) (upd H p (.lst vs)):=by
 obtain⟨af,rs,e⟩:=r.newL h q
 exact po _ _ _ af rs ⟨p,rfl,e⟩
theorem Go3{es:List Expr}{f:Ev (List D)}{x1}{pos:Pos}(h:JA X XQ es f):JE X XQ (.Tuple es x1 pos) (tp f):=by
 refine PE.mono (Goo h) fun σ H Q ⟨mp,ρ,S,G,p⟩=>?_
 refine bindP G p fun mp1 H1 xs S1 vs a1 G1 r1 p1=>?_
 by_cases hl:xs.length<=1000000
 ·rw[if_pos hl] at p1
  exact⟨by rw[r1.len]; exact line_le hl,fun q hq=>Xi p1 G1.rs r1 hq⟩
 ·rw[if_neg hl] at p1; exact p1.elim
theorem Go4{es:List Expr}{f:Ev (List D)}{pos:Pos}(h:JA X XQ es f):JE X XQ (.List es pos) (ls f):=by
 refine PE.mono (Gop h) fun σ H Q ⟨mp,ρ,S,G,p⟩=>?_
 refine bindP G p fun mp1 H1 xs S1 vs a1 G1 r1 p1=>?_
 by_cases hl:xs.length<=1000000
 ·rw[if_pos hl] at p1
  exact⟨by rw[r1.len]; exact line_le hl,fun q hq=>Vw p1 G1.rs r1 hq⟩
 ·rw[if_neg hl] at p1; exact p1.elim
def Kg:D->Sto->Option Bool
 | .non,_=>some false
 | .bl b,_=>some b
 | .int i,_=>some (i != 0)
 | .str y,_=>if y.length<=1000000 then some ((y.length:Int) != 0) else none
 | .tup l,_=>some (!l.isEmpty)
 | .lst i,S=>match S[i]? with
  | some c=>some (!c.xs.isEmpty)
  | none=>none
 | .exn _ _,_=>none
 | .fv _,_=>none
def tt(f:Ev D):Ev Bool:=fun ρ S=>(f ρ S).bind fun x S1=>match Kg x S1 with
 | some b=>.ok b S1
 | none=>.bad
theorem RepL.empty{K:PySem.W.Frag}{mp:List Addr}{H:Hp}{l:List D}{vs:List V}(h:RepL K mp H l vs):(!l.isEmpty)=!vs.isEmpty:=by
 have e:=h.len
 cases l<;>cases vs<;>simp_all
theorem Gk8{K:PySem.W.Frag}{mp:List Addr}{H:Hp}{S:Sto}{x:D}{v:V}{b:Bool}(r:RS K mp H S)(h:Rep K mp H x v)(e:Kg x S=some b):Gom K v H b:=by
 cases x with
 | non=>cases (show v=.non from h); exact(Option.some.inj e).symm
 | bl c=>cases (show v=.bl c from h); exact(Option.some.inj e).symm
 | int i=>cases (show v=.int i from h); exact(Option.some.inj e).symm
 | str y=>
  cases (show v=.str y from h)
  have e:(if y.length<=1000000 then some ((y.length:Int) != 0) else none)=some b:=e
  by_cases hl:y.length<=1000000
  ·rw[if_pos hl] at e; exact⟨line_le hl,(Option.some.inj e).symm⟩
  ·rw[if_neg hl] at e; cases e
 | tup l=>
  obtain⟨a,xs,rfl,s,q⟩:=Rep.tup h
  exact .inr (.inl ⟨xs,s,by rw[<- q.empty]; exact(Option.some.inj e).symm⟩)
 | lst i=>
  have e:(match S[i]? with | some c=>some (!c.xs.isEmpty) | none=>none)=some b:=e
  cases z:S[i]? with
  | none=>rw[z] at e; cases e
  | some c=>
   rw[z] at e
   obtain⟨a,xs,rfl,_,s,q,_⟩:=r.items h z
   exact .inl ⟨xs,s,by rw[<- q.empty]; exact(Option.some.inj e).symm⟩
 | exn c n=>cases (show(none:Option Bool)=some b from e)
 | fv c=>cases (show(none:Option Bool)=some b from e)
theorem Go5{e:Expr}{f:Ev D}(h:JE X XQ e f)(he:∀ whole,isTrue e X.env whole=(do let v <- whole; standAt e.pos; holding [v] (truthy v)):=by intro _; rfl):JT X XQ e (tt f):=by
 refine PT.mono (Gh6 h he) fun σ H Q ⟨mp,ρ,S,G,p⟩=>?_
 refine bindP G p fun mp1 H1 x S1 v a1 G1 r1 p1=>?_
 cases z:Kg x S1 with
 | none=>rw[z] at p1; exact p1.elim
 | some b=>
  rw[z] at p1
  exact⟨b,Gk8 G1.rs r1 z,Gx.ok p1 G1.rs rfl⟩
def tb(f:Ev D):Ev Bool:=fun ρ S=>(f ρ S).bind fun x S1=>match x with
 | .bl b=>.ok b S1
 | _=>.bad
theorem Gm2{K:PySem.W.Frag}{f:Ev D}{σ:L2.St}{H:Hp}{Q:Bool->Hp->Prop}(h:rdT K XQ (tb f) σ H Q):rdE K XQ f σ H fun x H1=>∃ k,x=.bl k/\Q k H1:=by
 obtain⟨mp,ρ,S,G,p⟩:=h
 refine bindP G p fun mp1 H1 x S1 v a1 G1 r1 p1=>?_
 cases x with
 | bl b=>exact⟨b,r1,Gx.ok p1 G1.rs rfl⟩
 | _=>exact p1.elim
theorem Gft{a b:Expr}{fa fb:Ev D}{op:CmpOp}{r:R2}{o:D->D->Sto->Out D}{pos:Pos}(ho:OpR X (compareOp op) r)(hd:OpD X.K r o)(ha:JE X XQ a fa)(hb:JE X XQ b fb)(hm:behindInMarks op b=false):JT X XQ (.Compare a [op] [b] pos) (tb (o2 o fa fb)):=
 PT.mono (Gkv ho ha hb hm) fun σ H Q h=>Gk7 hd σ H _ (Gm2 h)
def tn(f:Ev Bool):Ev Bool:=fun ρ S=>(f ρ S).bind fun b S1=>.ok (!b) S1
def ta(f g:Ev Bool):Ev Bool:=fun ρ S=>(f ρ S).bind fun b S1=>if b=true then g ρ S1 else .ok false S1
def to(f g:Ev Bool):Ev Bool:=fun ρ S=>(f ρ S).bind fun b S1=>if b=true then .ok true S1 else g ρ S1
theorem Go6{a:Expr}{f:Ev Bool}{pos:Pos}(h:JT X XQ a f):JT X XQ (.UnaryOp .Not a pos) (tn f):=
 PT.mono (Gn3 h) fun σ H Q ⟨mp,ρ,S,G,p⟩=>bindP G p fun mp1 H1 b S1 c a1 G1 r1 p1=>by
  cases (show c=b from r1)
  exact Gx.ok p1 G1.rs rfl
theorem Gk9{a:Expr}{f:Ev Bool}{pos:Pos}(h:JT X XQ a f):JW X XQ (.BoolOp .And [a] pos) f:=Gkm h
theorem Go7{a:Expr}{f:Ev Bool}{pos:Pos}(h:JT X XQ a f):JW X XQ (.BoolOp .Or [a] pos) f:=Gn1 h
theorem Go8{a b:Expr}{rest:List Expr}{f g:Ev Bool}{pos:Pos}(h:JT X XQ a f)(hb:JW X XQ (.BoolOp .And (b::rest) pos) g):JW X XQ (.BoolOp .And (a::b::rest) pos) (ta f g):=
 PW.mono (Gn2 h hb) fun σ H Q ⟨mp,ρ,S,G,p⟩=>bindP G p fun mp1 H1 b S1 c a1 G1 r1 p1=>by
  cases (show c=b from r1)
  cases b with
  | true=>exact(if_pos rfl).mpr ⟨mp1,ρ,S1,G1,by simpa using p1⟩
  | false=>exact(if_neg Bool.false_ne_true).mpr (Gx.ok (R:=kB) (d:=false) (S:=S1) (by simpa using p1) G1.rs rfl)
theorem Gsc{a b:Expr}{rest:List Expr}{f g:Ev Bool}{pos:Pos}(h:JT X XQ a f)(hb:JW X XQ (.BoolOp .Or (b::rest) pos) g):JW X XQ (.BoolOp .Or (a::b::rest) pos) (to f g):=
 PW.mono (Grj h hb) fun σ H Q ⟨mp,ρ,S,G,p⟩=>bindP G p fun mp1 H1 b S1 c a1 G1 r1 p1=>by
  cases (show c=b from r1)
  cases b with
  | false=>exact(if_neg Bool.false_ne_true).mpr ⟨mp1,ρ,S1,G1,by simpa using p1⟩
  | true=>exact(if_pos rfl).mpr (Gx.ok (R:=kB) (d:=true) (S:=S1) (by simpa using p1) G1.rs rfl)
theorem JW.jt{e:Expr}{f:Ev Bool}(h:JW X XQ e f):JT X XQ e f:=PW.pt h
def va(f g:Ev D):Ev D:=fun ρ S=>(f ρ S).bind fun x S1=>match x with
 | .bl b=>if b=true then g ρ S1 else .ok (.bl false) S1
 | _=>.bad
def vo(f g:Ev D):Ev D:=fun ρ S=>(f ρ S).bind fun x S1=>match x with
 | .bl b=>if b=true then .ok (.bl true) S1 else g ρ S1
 | _=>.bad
def vn(f:Ev D):Ev D:=fun ρ S=>(f ρ S).bind fun x S1=>match x with
 | .bl b=>.ok (.bl (!b)) S1
 | _=>.bad
theorem Go9{a:Expr}{op}{f:Ev D}{pos:Pos}(h:JE X XQ a f):JE X XQ (.BoolOp op [a] pos) f:=Gn4 h
theorem Gpa{a b:Expr}{rest:List Expr}{f g:Ev D}{pos:Pos}(ha:JE X XQ a f)(hb:JE X XQ (.BoolOp .And (b::rest) pos) g):JE X XQ (.BoolOp .And (a::b::rest) pos) (va f g):=
 PE.mono (Gn5 ha hb) fun σ H Q ⟨mp,ρ,S,G,p⟩=>bindP G p fun mp1 H1 x S1 v a1 G1 r1 p1=>by
  cases x with
  | bl b=>
   refine⟨b,r1,?_⟩
   cases b with
   | true=>exact(if_pos rfl).mpr ⟨mp1,ρ,S1,G1,by simpa using p1⟩
   | false=>exact(if_neg Bool.false_ne_true).mpr (Gx.ok (R:=Rep X.K) (d:=.bl false) (S:=S1) (by simpa using p1) G1.rs rfl)
  | _=>exact p1.elim
theorem Gpb{a:Expr}{f:Ev D}{pos:Pos}(ha:JE X XQ a f):JE X XQ (.UnaryOp .Not a pos) (vn f):=
 PE.mono (Gn6 ha) fun σ H Q ⟨mp,ρ,S,G,p⟩=>bindP G p fun mp1 H1 x S1 v a1 G1 r1 p1=>by
  cases x with
  | bl b=>exact⟨b,r1,Gx.ok p1 G1.rs rfl⟩
  | _=>exact p1.elim
def ie(c:Ev Bool)(f g:Ev D):Ev D:=fun ρ S=>(c ρ S).bind fun b S1=>if b=true then f ρ S1 else g ρ S1
theorem Gpc{a b c:Expr}{fc:Ev Bool}{fa fb:Ev D}{pos:Pos}(hc:JT X XQ c fc)(ha:JE X XQ a fa)(hb:JE X XQ b fb):JE X XQ (.IfExp c a b pos) (ie fc fa fb):=
 PE.mono (Ghv hc ha hb) fun σ H Q ⟨mp,ρ,S,G,p⟩=>bindP G p fun mp1 H1 b S1 c a1 G1 r1 p1=>by
  cases (show c=b from r1)
  cases b with
  | true=>exact(if_pos rfl).mpr ⟨mp1,ρ,S1,G1,by simpa using p1⟩
  | false=>exact(if_neg Bool.false_ne_true).mpr ⟨mp1,ρ,S1,G1,by simpa using p1⟩
end
inductive OS where
 | nx (ρ:Lc) (S:Sto) | rt (d:D) (S:Sto) | bk (ρ:Lc) (S:Sto) | ct (ρ:Lc) (S:Sto) | exc (x:XD) (ρ:Lc) (S:Sto) | bad
abbrev Sv:=Lc->Sto->OS
def PostS(K:PySem.W.Frag)(XQ:XW)(mp:List Addr)(H:Hp)(o:OS)(E:Ends):Prop:=
 match o with
 | .nx ρ S=>∀ mp' H' σ',Aft K mp H mp' H'->Gd K mp' H' σ' ρ S->E.nx σ' H'
 | .rt d S=>∀ mp' H' v,Aft K mp H mp' H'->RS K mp' H' S->Rep K mp' H' d v->E.rt v H'
 | .bk ρ S=>∀ mp' H' σ',Aft K mp H mp' H'->Gd K mp' H' σ' ρ S->E.bk σ' H'
 | .ct ρ S=>∀ mp' H' σ',Aft K mp H mp' H'->Gd K mp' H' σ' ρ S->E.ct σ' H'
 | .exc x ρ S=>∀ mp' H' σ',Aft K mp H mp' H'->Gd K mp' H' σ' ρ S->XQ x mp' H' σ' ρ S
 | .bad=>False
theorem PostS.aft{K:PySem.W.Frag}{XQ:XW}{mp mp':List Addr}{H H':Hp}{o:OS}{E:Ends}(p:PostS K XQ mp H o E)(a:Aft K mp H mp' H'):PostS K XQ mp' H' o E:=by
 cases o with
 | nx ρ S=>exact fun m h v b=>p m h v (a.trans b)
 | rt d S=>exact fun m h v b=>p m h v (a.trans b)
 | bk ρ S=>exact fun m h v b=>p m h v (a.trans b)
 | ct ρ S=>exact fun m h v b=>p m h v (a.trans b)
 | exc x ρ S=>exact fun m h v b=>p m h v (a.trans b)
 | bad=>exact p
def rdS(K:PySem.W.Frag)(XQ:XW)(f:Sv):TS:=fun E σ H=>∃ mp ρ S,Gd K mp H σ ρ S/\PostS K XQ mp H (f ρ S) E
def JS(X:Cx)(XQ:XW)(st:Stmt)(f:Sv):Prop:=PS X st (rdS X.K XQ f)
def JSs(X:Cx)(XQ:XW)(st:List Stmt)(f:Sv):Prop:=PSs X st (rdS X.K XQ f)
def bindS{α:Type}(o:Out α)(ρ:Lc)(k:α->Sto->OS):OS:=
 match o with
 | .ok a S=>k a S
 | .exc x S=>.exc x ρ S
 | .bad=>.bad
theorem bindSP{α β:Type}{K:PySem.W.Frag}{R:RL α β}{XQ:XW}{mp:List Addr}{H:Hp}{σ:L2.St}{ρ:Lc}{S:Sto}{f:Ev α}{g:α->Sto->OS}{E:Ends}{Q1:β->Hp->Prop}(G:Gd K mp H σ ρ S)(p:PostS K XQ mp H (bindS (f ρ S) ρ g) E)
  (k:∀ mp1 H1 d S1 v,Aft K mp H mp1 H1->Gd K mp1 H1 σ ρ S1->R mp1 H1 d v->PostS K XQ mp1 H1 (g d S1) E->Q1 v H1):rdG K R XQ f σ H Q1:=by
 refine⟨mp,ρ,S,G,?_⟩
 cases e:f ρ S with
 | ok d S1=>
  rw[e] at p
  exact fun mp1 H1 v a rs r=>k mp1 H1 d S1 v a (G.aft a rs) r (PostS.aft p a)
 | exc x S1=>rw[e] at p; exact fun m h b c=>p m h σ b c
 | bad=>rw[e] at p; exact p
def skip:Sv:=fun ρ S=>.nx ρ S
def sq(f g:Sv):Sv:=fun ρ S=>match f ρ S with
 | .nx ρ' S'=>g ρ' S'
 | .rt d S'=>.rt d S'
 | .bk ρ' S'=>.bk ρ' S'
 | .ct ρ' S'=>.ct ρ' S'
 | .exc x ρ' S'=>.exc x ρ' S'
 | .bad=>.bad
section
variable{X:Cx}{XQ:XW}
theorem PostS.nx{K:PySem.W.Frag}{mp:List Addr}{H:Hp}{σ:L2.St}{ρ:Lc}{S:Sto}{E:Ends}(p:PostS K XQ mp H (.nx ρ S) E)(G:Gd K mp H σ ρ S):E.nx σ H:=p mp H σ .refl G
theorem PostS.rt{K:PySem.W.Frag}{mp:List Addr}{H:Hp}{d:D}{v:V}{S:Sto}{E:Ends}(p:PostS K XQ mp H (.rt d S) E)(r:RS K mp H S)(h:Rep K mp H d v):E.rt v H:=p mp H v .refl r h
theorem Gla:JSs X XQ [] skip:=PSs.mono Gkn fun E σ H ⟨mp,ρ,S,G,p⟩=>PostS.nx p G
theorem Gii{st:Stmt}{rest:List Stmt}{f g:Sv}(h1:JS X XQ st f)(h2:JSs X XQ rest g):JSs X XQ (st::rest) (sq f g):=by
 refine PSs.mono (Ghw h1 h2) fun E σ H ⟨mp,ρ,S,G,p⟩=>⟨mp,ρ,S,G,?_⟩
 unfold sq at p
 cases e:f ρ S with
 | nx ρ' S'=>rw[e] at p; exact fun m h v a G'=>⟨m,ρ',S',G',PostS.aft p a⟩
 | rt d S'=>rw[e] at p; exact p
 | bk ρ' S'=>rw[e] at p; exact p
 | ct ρ' S'=>rw[e] at p; exact p
 | exc x ρ' S'=>rw[e] at p; exact p
 | bad=>rw[e] at p; exact p
theorem Glb{st:Stmt}{f:Sv}(h1:JS X XQ st f):JSs X XQ [st] f:=Gko h1
def sx(f:Ev D):Sv:=fun ρ S=>bindS (f ρ S) ρ fun _ S1=>.nx ρ S1
theorem Glc{e:Expr}{f:Ev D}{pos:Pos}(he:JE X XQ e f)(hs:swapsWith e none pos.line X.env=pure false:=by rfl):JS X XQ (.Expr e pos) (sx f):=
 PS.mono (Gkp he hs) fun E σ H ⟨mp,ρ,S,G,p⟩=>bindSP G p fun mp1 H1 d S1 v a1 G1 r1 p1=>PostS.nx p1 G1
def sret(f:Ev D):Sv:=fun ρ S=>bindS (f ρ S) ρ fun d S1=>.rt d S1
theorem Gpd{e:Expr}{f:Ev D}{pos:Pos}(he:JE X XQ e f):JS X XQ (.Return (some e) pos) (sret f):=
 PS.mono (Gn7 he) fun E σ H ⟨mp,ρ,S,G,p⟩=>bindSP G p fun mp1 H1 d S1 v a1 G1 r1 p1=>PostS.rt p1 G1.rs r1
def sif(c:Ev Bool)(f g:Sv):Sv:=fun ρ S=>bindS (c ρ S) ρ fun b S1=>if b=true then f ρ S1 else g ρ S1
theorem Gsd{c:Expr}{a b:List Stmt}{fc:Ev Bool}{f g:Sv}{pos:Pos}(hc:JT X XQ c fc)(ha:JSs X XQ a f)(hb:JSs X XQ b g):JS X XQ (.If c a b pos) (sif fc f g):=
 PS.mono (Gro hc ha hb) fun E σ H ⟨mp,ρ,S,G,p⟩=>bindSP G p fun mp1 H1 b S1 c a1 G1 r1 p1=>by
  cases (show c=b from r1)
  cases b with
  | true=>exact(if_pos rfl).mpr ⟨mp1,ρ,S1,G1,by simpa using p1⟩
  | false=>exact(if_neg Bool.false_ne_true).mpr ⟨mp1,ρ,S1,G1,by simpa using p1⟩
theorem Gd.set{K:PySem.W.Frag}{mp:List Addr}{H:Hp}{σ:L2.St}{ρ:Lc}{S:Sto}{d:D}{v:V}(G:Gd K mp H σ ρ S)(i:Nat)(r:Rep K mp H d v):Gd K mp H (σ.set i (some v)) (ρ.set i (some d)) S:=by
 refine⟨G.rs,by simp[G.len],fun j e h=>?_⟩
 by_cases hj:j=i
 ·subst hj
  have hl:j<ρ.length:=by
   have:=(List.getElem?_eq_some_iff.mp h).1
   simpa using this
  rw[List.getElem?_set_self hl] at h
  cases h
  exact⟨v,by rw[List.getElem?_set_self (by rw[G.len]; exact hl)],r⟩
 ·rw[List.getElem?_set_ne (Ne.symm hj)] at h ⊢
  exact G.loc j e h
abbrev Tg:=D->Lc->Option Lc
def Gij(K:PySem.W.Frag)(g:Tg):TG:=fun v σ H Q=>∃ mp ρ S d ρ',Gd K mp H σ ρ S/\Rep K mp H d v/\g d ρ=some ρ'/\∀ σ',Gd K mp H σ' ρ' S->Q σ' H
def JG(X:Cx)(tg:Expr)(g:Tg):Prop:=PG X tg (Gij X.K g)
theorem PG.mono{X:Cx}{e:Expr}{t t':TG}(h:PG X e t)(m:∀ v σ H Q,t' v σ H Q->t v σ H Q):PG X e t':=fun pins s σ H v u Q I r q=>h pins s σ H v u Q I r (m v σ H Q q)
def gn(i:Nat):Tg:=fun d ρ=>some (ρ.set i (some d))
theorem Gdk(i:Nat){x:Str}{pos:Pos}(hN:X.N.Nodup)(hi:X.N[i]?=some x:=by rfl)(hx:Loc X.env.scope x:=by first | exact Or.inl rfl | exact Or.inr rfl)(hf:X.fn x=true\/X.env.scope.names.lookup x=some .local:=by first | exact .inl rfl | exact .inr rfl | assumption):JG X (.Name x pos) (gn i):=
 PG.mono (Gkq hN hi hx hf) fun v σ H Q ⟨mp,ρ,S,d,ρ',G,r,e,k⟩=>by
  cases (Option.some.inj e)
  exact k _ (G.set i r)
abbrev Tgs:=List D->Lc->Option Lc
def Gtw(K:PySem.W.Frag)(g:Tgs):TGs:=fun vs σ H Q=>∃ mp ρ S ds ρ',Gd K mp H σ ρ S/\RepL K mp H ds vs/\g ds ρ=some ρ'/\∀ σ',Gd K mp H σ' ρ' S->Q σ' H
def JGs(X:Cx)(ts:List Expr)(g:Tgs):Prop:=PGs X ts (Gtw X.K g)
theorem PGs.mono{X:Cx}{e:List Expr}{t t':TGs}(h:PGs X e t)(m:∀ v σ H Q,t' v σ H Q->t v σ H Q):PGs X e t':=fun pins s σ H v u Q I r q=>h pins s σ H v u Q I r (m v σ H Q q)
def gnil:Tgs:=fun ds ρ=>match ds with
 | []=>some ρ
 | _::_=>none
def gcons(g:Tg)(k:Tgs):Tgs:=fun ds ρ=>match ds with
 | []=>none
 | d::r=>(g d ρ).bind fun ρ'=>k r ρ'
theorem Gld:JGs X [] gnil:=PGs.mono Gkr fun vs σ H Q ⟨mp,ρ,S,ds,ρ',G,r,e,k⟩=>by
 cases ds with
 | nil=>
  cases (show some ρ=some ρ' from e)
  exact⟨r,k _ G⟩
 | cons _ _=>cases (show(none:Option Lc)=some ρ' from e)
theorem Gik{e:Expr}{es:List Expr}{g:Tg}{k:Tgs}(h1:JG X e g)(h2:JGs X es k)
  (hs:(assignEach (e::es) X.env).map (·.2)=assign e X.env::(assignEach es X.env).map (·.2):=by rfl):JGs X (e::es) (gcons g k):=
 PGs.mono (Ghy h1 h2 hs) fun vs σ H Q ⟨mp,ρ,S,ds,ρ',G,r,e,q⟩=>by
  cases ds with
  | nil=>cases (show(none:Option Lc)=some ρ' from e)
  | cons d ds=>
   have e:(g d ρ).bind (fun ρ'=>k ds ρ')=some ρ':=e
   obtain⟨v,vr,ev,h3,h4⟩:=(show ∃ v r,vs=v::r/\Rep X.K mp H d v/\RepL X.K mp H ds r from r)
   cases z:g d ρ with
   | none=>rw[z] at e; cases e
   | some ρ1=>
    rw[z] at e
    exact⟨v,vr,ev,mp,ρ,S,d,ρ1,G,h3,z,fun σ1 G1=>⟨mp,ρ1,S,ds,ρ',G1,h4,e,q⟩⟩
def gt(k:Tgs)(n:Nat):Tg:=fun d ρ=>match d with
 | .tup ds=>if ds.length=n then k ds ρ else none
 | _=>none
theorem Gpe{es:List Expr}{m:Nat}{k:Tgs}{n:Nat}{pos:Pos}(hc:X.calm=true)(h:JGs X es k)
  (hn:(assignEach es X.env).length=n:=by rfl) (hst:(assignEach es X.env).findIdx? (·.1)=none:=by rfl):JG X (.Tuple es m pos) (gt k n):=
 PG.mono (Gn9 hc h hn hst) fun v σ H Q ⟨mp,ρ,S,d,ρ',G,r,e,q⟩=>by
  cases d with
  | tup ds=>
   have e:(if ds.length=n then k ds ρ else none)=some ρ':=e
   obtain⟨a,xs,ev,sq,rl⟩:=Rep.tup r
   by_cases hl:ds.length=n
   ·rw[if_pos hl] at e
    exact⟨a,xs,ev,sq,by rw[rl.len]; exact hl,mp,ρ,S,ds,ρ',G,rl,e,q⟩
   ·rw[if_neg hl] at e; cases e
  | _=>cases (show(none:Option Lc)=some ρ' from e)
def sa(f:Ev D)(g:Tg):Sv:=fun ρ S=>bindS (f ρ S) ρ fun d S1=>match g d ρ with
 | some ρ'=>.nx ρ' S1
 | none=>.bad
theorem Gtx{K:PySem.W.Frag}{f:Ev D}{g:Tg}(E:Ends)(σ:L2.St)(H:Hp)(h:rdS K XQ (sa f g) E σ H):Gks (rdE K XQ f) (Gij K g) E σ H:=by
 obtain⟨mp,ρ,S,G,p⟩:=h
 refine bindSP G p fun mp1 H1 d S1 v a1 G1 r1 p1=>?_
 cases z:g d ρ with
 | none=>rw[z] at p1; exact p1.elim
 | some ρ'=>
  rw[z] at p1
  exact⟨mp1,ρ,S1,d,ρ',G1,r1,z,fun σ' G'=>PostS.nx p1 G'⟩
theorem Gpf{tg e:Expr}{f:Ev D}{g:Tg}{pos:Pos}(he:JE X XQ e f)(hg:JG X tg g)(hs:swapsWithSole [tg] e pos.line X.env=pure false:=by rfl)(hw:swappedStores [tg] e X.env=pure none:=by rfl)
  (h1:(assignEach [tg] X.env).map (·.2)=[assign tg X.env]:=by rfl):JS X XQ (.Assign [tg] e pos) (sa f g):=
 PS.mono (Ghz he hg hs hw h1) Gtx
theorem Gpg(i:Nat){x:Str}{e:Expr}{f:Ev D}{pos pos':Pos}(hN:X.N.Nodup)(he:JE X XQ e f)(hi:X.N[i]?=some x:=by rfl)(hx:Loc X.env.scope x:=by first | exact Or.inl rfl | exact Or.inr rfl)(hs:swapsWith e (some (.Name x pos')) pos.line X.env=pure false:=by rfl)
  (hf:X.fn x=true\/X.env.scope.names.lookup x=some .local:=by first | exact .inl rfl | exact .inr rfl | assumption):JS X XQ (.Assign [.Name x pos'] e pos) (sa f (gn i)):=
 PS.mono (Gob hN hi hx he hs hf) fun E σ H ⟨mp,ρ,S,G,p⟩=>bindSP G p fun mp1 H1 d S1 v a1 G1 r1 p1=>PostS.nx p1 (G1.set i r1)
def Gse(t:Ghx)(K:PySem.W.Frag)(o:D->D->D->Sto->Option Sto):Prop:=
 ∀ (mp:List Addr) (H:Hp) (S S':Sto) (x y z:D) (v u w:V) (Q:Hp->Prop),RS K mp H S->Rep K mp H x v->Rep K mp H y u->Rep K mp H z w->o x y z S=some S'->(∀ H',Aft K mp H mp H'->RS K mp H' S'->Q H')->t v u w H Q
def ss(f fo fi:Ev D)(o:D->D->D->Sto->Option Sto):Sv:=fun ρ S=>bindS (f ρ S) ρ fun d S1=>bindS (fo ρ S1) ρ fun x S2=>bindS (fi ρ S2) ρ fun y S3=>match o x y d S3 with
 | some S4=>.nx ρ S4
 | none=>.bad
theorem Gph{ob ix e:Expr}{f fo fi:Ev D}{t:Ghx}{o:D->D->D->Sto->Option Sto}{pos p2:Pos}(hset:Gn8 X t)(ho:Gse t X.K o)(he:JE X XQ e f)(hob:JE X XQ ob fo)(hix:JE X XQ ix fi)
  (hs:swapsWithSole [.Subscript ob ix p2] e pos.line X.env=pure false:=by rfl) (hw:swappedStores [.Subscript ob ix p2] e X.env=pure none:=by rfl)
  (h1:(assignEach [.Subscript ob ix p2] X.env).map (·.2)=[assign (.Subscript ob ix p2) X.env]:=by rfl) (ha:∀ v,assign (.Subscript ob ix p2) X.env v=(do
   let ov <- holding [v] (eval ob X.env)
   let iv <- holding [v,ov] (eval ix X.env)
   standAt p2
   holding [v,ov,iv] (setItem ov iv v)
   release [v,ov,iv] []):=by intro _; rfl):JS X XQ (.Assign [.Subscript ob ix p2] e pos) (ss f fo fi o):=by
 refine PS.mono (Ghz he (Goa hob hix hset ha) hs hw h1) fun E σ H ⟨mp,ρ,S,G,p⟩=>?_
 refine bindSP G p fun mp1 H1 d S1 v a1 G1 r1 p1=>?_
 refine bindSP G1 p1 fun mp2 H2 x S2 vx a2 G2 r2 p2=>?_
 refine bindSP G2 p2 fun mp3 H3 y S3 vy a3 G3 r3 p3=>?_
 cases z:o x y d S3 with
 | none=>rw[z] at p3; exact p3.elim
 | some S4=>
  rw[z] at p3
  exact ho mp3 H3 S3 S4 x y d vx vy v _ G3.rs (Rep.aft a3 _ _ r2) r3 (Rep.aft (a2.trans a3) _ _ r1) z fun H' af rs=>p3 mp3 H' σ af (G3.aft af rs)
structure Src where
 nxt:Nat->Sto->Option D
 fuel:Nat
def Gle(K:PySem.W.Frag)(mp0:List Addr)(H0:Hp)(J:It)(nxt:Nat->Sto->Option D):Prop:=
 ∀ (mp:List Addr) (H:Hp) (S:Sto),Aft K mp0 H0 mp H->RS K mp H S->∀ k,match nxt k S with
  | some d=>J.go k H/\∀ x H',J.yld k H x H'->Aft K mp H mp H'/\RS K mp H' S/\Rep K mp H' d x
  | none=>J.stop k H
def kI(K:PySem.W.Frag):RL Src It:=fun mp H s J=>Gle K mp H J s.nxt
abbrev rdI(K:PySem.W.Frag)(XQ:XW)(f:Ev Src):TI:=rdG K (kI K) XQ f
def JI(X:Cx)(XQ:XW)(tg iter:Expr)(f:Ev Src):Prop:=PI X tg iter (rdI X.K XQ f)
theorem PI.mono{X:Cx}{tg e:Expr}{t t':TI}(h:PI X tg e t)(m:∀ σ H Q,t' σ H Q->t σ H Q):PI X tg e t':=fun pins s σ H Q I q=>h pins s σ H Q I (m σ H Q q)
def Vk(nxt:Nat->Sto->Option D)(g:Tg)(b:Sv):Nat->Nat->Sv
 | 0,_,_,_=>.bad
 | n+1,k,ρ,S=>match nxt k S with
  | none=>.nx ρ S
  | some d=>match g d ρ with
   | none=>.bad
   | some ρ1=>match b ρ1 S with
    | .nx ρ2 S2=>Vk nxt g b n (k+1) ρ2 S2
    | .ct ρ2 S2=>Vk nxt g b n (k+1) ρ2 S2
    | .bk ρ2 S2=>.nx ρ2 S2
    | .rt d S2=>.rt d S2
    | .exc x ρ2 S2=>.exc x ρ2 S2
    | .bad=>.bad
def sfor(f:Ev Src)(g:Tg)(b:Sv):Sv:=fun ρ S=>bindS (f ρ S) ρ fun s S1=>Vk s.nxt g b s.fuel 0 ρ S1
theorem Gpi{tg iter:Expr}{body:List Stmt}{f:Ev Src}{g:Tg}{b:Sv}{pos:Pos}(hp:PassesOwn (model X.prog X.w) X.A X.env X.xe)(hc:X.calm=true)(hi:JI X XQ tg iter f)(hg:JG X tg g)(hb:JSs X XQ body b)
  (hs:∀ x,foldedSetIterable iter X.env x=pure x:=by intro _; rfl):JS X XQ (.For tg iter body [] pos) (sfor f g b):=by
 refine PS.mono (God hp hc hi hg hb hs) fun E σ H ⟨mp,ρ,S,G,p⟩=>?_
 refine bindSP G p fun mp1 H1 s S1 J a1 G1 j1 p1=>?_
 refine⟨fun i m σ' H'=>∃ mp' ρ' S',Aft X.K mp1 H1 mp' H'/\Gd X.K mp' H' σ' ρ' S'/\PostS X.K XQ mp' H' (Vk s.nxt g b m i ρ' S') E,⟨s.fuel,mp1,ρ,S1,.refl,G1,p1⟩,?_⟩
 rintro i m σ' H' ⟨mp',ρ',S',a',G',p'⟩
 cases m with
 | zero=>exact(show False from p').elim
 | succ n=>
  have j:=j1 mp' H' S' a' G'.rs i
  unfold Vk at p'
  cases z:s.nxt i S' with
  | none=>
   rw[z] at j p'
   exact .inl ⟨j,PostS.nx p' G'⟩
  | some d=>
   rw[z] at j p'
   obtain⟨j1,j2⟩:=j
   refine .inr ⟨j1,fun σ2 H2=>∃ mp2 ρ2 S2,Aft X.K mp1 H1 mp2 H2/\Gd X.K mp2 H2 σ2 ρ2 S2/\PostS X.K XQ mp2 H2 (Vk s.nxt g b n (i+1) ρ2 S2) E,fun σ2 H2 q=>⟨n,Nat.lt_succ_self n,q⟩,fun x H2 y=>?_⟩
   obtain⟨a2,r2,x2⟩:=j2 x H2 y
   have G2:=G'.aft a2 r2
   cases zg:g d ρ' with
   | none=>simp only[zg] at p'; exact p'.elim
   | some ρ1=>
    simp only[zg] at p'
    refine⟨mp',ρ',S',d,ρ1,G2,x2,zg,fun σ3 G3=>⟨mp',ρ1,S',G3,?_⟩⟩
    have p2:=PostS.aft p' a2
    cases zb:b ρ1 S' with
    | nx ρ2 S2=>simp only[zb] at p2; exact fun m h v af G4=>⟨m,ρ2,S2,(a'.trans a2).trans af,G4,PostS.aft p2 af⟩
    | ct ρ2 S2=>simp only[zb] at p2; exact fun m h v af G4=>⟨m,ρ2,S2,(a'.trans a2).trans af,G4,PostS.aft p2 af⟩
    | bk ρ2 S2=>simp only[zb] at p2; exact p2
    | rt d S2=>simp only[zb] at p2; exact p2
    | exc x ρ2 S2=>simp only[zb] at p2; exact p2
    | bad=>simp only[zb] at p2; exact p2
def Gc1:D->Sto->Out Src
 | .tup l,S=>.ok ⟨fun k _=>l[k]?,l.length+1⟩ S
 | .lst i,S=>match S[i]? with
  | some c=>.ok ⟨fun k S=>(S[i]?).bind fun c=>c.xs[k]?,c.xs.length+1⟩ S
  | none=>.bad
 | _,_=>.bad
end
section
variable{X:Cx}{XQ:XW}
def Gty(K:PySem.W.Frag)(tl:TE):TI:=fun σ H R=>tl σ H fun x H1=>∃ a,x=.ref a/\(((∃ xs,SqL K H1 a xs)/\R (Itl K a) H1)\/((∃ xs,SqT K H1 a xs)/\R (Itt K a) H1))
theorem Gpj{tg l:Expr}{tl:TE}(hl:PE X l tl):PI X tg l (Gty X.K tl):=by
 intro pins s σ H R I h
 refine thn (hl pins s σ H _ I h) fun v s1 ⟨x,H1,I1,r1,q1⟩=>?_
 obtain⟨a,e,q⟩:=q1
 subst e
 cases r1
 rcases q with⟨⟨xs,hq⟩,q⟩ | ⟨⟨xs,hq⟩,q⟩
 ·obtain⟨its,rv,p,hz⟩:=I1.list hq
  refine wpAny_pyIter_list p.isList ?_
  refine⟨s1.heap.objs.size,[s1.heap.objs.size],_,_,H1,rfl,I1.kept (t':=s1.toks) fun b o e=>Heap.get?_push_of_some _ e,turn_list a _,⟨_,Heap.get?_push_size _ rfl,rfl,rfl⟩,fun b hb=>?_,q⟩
  have e:b=s1.heap.objs.size:=by simpa using hb
  subst e
  exact I1.fpOk (Nat.le_refl _) (I1.hok.fresh (Nat.le_refl _))
 ·obtain⟨its,rv,p,hz⟩:=I1.tuple hq
  refine wpAny_pyIter_tuple (show s1.heap.IsTuple a its.toArray from p) ?_
  refine⟨s1.heap.objs.size,[s1.heap.objs.size],_,_,H1,rfl,I1.kept (t':=s1.toks) fun b o e=>Heap.get?_push_of_some _ e,turn_tuple a _,⟨_,Heap.get?_push_size _ rfl,rfl,rfl⟩,fun b hb=>?_,q⟩
  have e:b=s1.heap.objs.size:=by simpa using hb
  subst e
  exact I1.fpOk (Nat.le_refl _) (I1.hok.fresh (Nat.le_refl _))
def isrc(f:Ev D):Ev Src:=fun ρ S=>(f ρ S).bind Gc1
theorem Gpk{K:PySem.W.Frag}{mp:List Addr}{H:Hp}{a:Addr}{xs:List V}{l:List D}(s:SqT K H a xs)(r:RepL K mp H l xs):Gle K mp H (Itt K a) (fun k _=>l[k]?):=by
 intro mp' H' S' af rs k
 show match l[k]? with
  | some d=>(Itt K a).go k H'/\∀ x H2,(Itt K a).yld k H' x H2->Aft K mp' H' mp' H2/\RS K mp' H2 S'/\Rep K mp' H2 d x
  | none=>(Itt K a).stop k H'
 cases z:l[k]? with
 | none=>
  refine⟨xs,af.tup _ _ s,?_⟩
  rw[r.len]
  exact List.getElem?_eq_none_iff.mp z
 | some d=>
  have r':=RepL.aft af _ _ r
  obtain⟨v,e,q⟩:=r'.get z
  refine⟨⟨xs,v,af.tup _ _ s,e⟩,fun x H2 ⟨h1,h2⟩=>?_⟩
  subst h1
  have e2:=h2 xs (af.tup _ _ s)
  rw[e] at e2
  cases e2
  exact⟨.refl,rs,q⟩
theorem Gpl{K:PySem.W.Frag}{mp:List Addr}{H:Hp}{a:Addr}{i:Nat}(hi:mp[i]?=some a):Gle K mp H (Itl K a) (fun k S=>(S[i]?).bind fun c=>c.xs[k]?):=by
 intro mp' H' S' af rs k
 have hi':=af.pre i a hi
 have hl:i<S'.length:=by rw[<- rs.len]; exact(List.getElem?_eq_some_iff.mp hi').1
 have hc:S'[i]?=some S'[i]:=List.getElem?_eq_getElem hl
 obtain⟨a2,xs,e1,e2,sq,r,_⟩:=rs.items (v:=.ref a) ⟨a,rfl,hi'⟩ hc
 cases e1
 simp only[hc,Option.bind_some]
 cases z:(S'[i]).xs[k]? with
 | none=>
  refine⟨xs,sq,?_⟩
  rw[r.len]
  exact List.getElem?_eq_none_iff.mp z
 | some d=>
  obtain⟨v,e,q⟩:=r.get z
  refine⟨⟨xs,v,sq,e⟩,fun x H2 ⟨h1,h2⟩=>?_⟩
  subst h1
  have e2:=h2 xs sq
  rw[e] at e2
  cases e2
  exact⟨.refl,rs,q⟩
theorem Gpm{tg l:Expr}{f:Ev D}(hl:JE X XQ l f):JI X XQ tg l (isrc f):=by
 refine PI.mono (Gpj hl) fun σ H R ⟨mp,ρ,S,G,p⟩=>?_
 refine bindP G p fun mp1 H1 d S1 v a1 G1 r1 p1=>?_
 cases d with
 | tup ds=>
  obtain⟨a,xs,rfl,s,q⟩:=Rep.tup r1
  exact⟨a,rfl,.inr ⟨⟨xs,s⟩,Gx.ok (R:=kI X.K) (d:=⟨fun k _=>ds[k]?,ds.length+1⟩) (S:=S1) p1 G1.rs (Gpk s q)⟩⟩
 | lst i=>
  have p1:Gx X.K (kI X.K) XQ σ ρ mp1 H1 (match S1[i]? with | some c=>.ok ⟨fun k S=>(S[i]?).bind fun c=>c.xs[k]?,c.xs.length+1⟩ S1 | none=>.bad) R:=p1
  cases z:S1[i]? with
  | none=>rw[z] at p1; exact p1.elim
  | some c=>
   rw[z] at p1
   obtain⟨a,xs,rfl,ha,s,q,_⟩:=G1.rs.items r1 z
   exact⟨a,rfl,.inl ⟨⟨xs,s⟩,Gx.ok (R:=kI X.K) (d:=⟨fun k S=>(S[i]?).bind fun c=>c.xs[k]?,c.xs.length+1⟩) (S:=S1) p1 G1.rs (Gpl ha)⟩⟩
 | _=>exact(show False from p1).elim
def rsrc(lo:Int)(n:Nat):Src:=⟨fun k _=>if k<n then some (.int (lo+k)) else none,n+1⟩
theorem Gpn{K:PySem.W.Frag}{mp:List Addr}{H:Hp}{lo:Int}{n:Nat}:Gle K mp H (Itr lo n) (rsrc lo n).nxt:=by
 intro mp' H' S' af rs k
 show match (if k<n then some (D.int (lo+k)) else none) with
  | some d=>(Itr lo n).go k H'/\∀ x H2,(Itr lo n).yld k H' x H2->Aft K mp' H' mp' H2/\RS K mp' H2 S'/\Rep K mp' H2 d x
  | none=>(Itr lo n).stop k H'
 by_cases h:k<n
 ·rw[if_pos h]
  refine⟨h,fun x H2 ⟨h1,h2⟩=>?_⟩
  subst h1 h2
  exact⟨.refl,rs,rfl⟩
 ·rw[if_neg h]
  exact Nat.not_lt.mp h
def ir1(f:Ev (List D)):Ev Src:=fun ρ S=>(f ρ S).bind fun ds S1=>match ds with
 | [.int j]=>if -1000000000000<=j/\j<=1000000000000 then .ok (rsrc 0 j.toNat) S1 else .bad
 | _=>.bad
theorem RepL.one{K:PySem.W.Frag}{mp:List Addr}{H:Hp}{d:D}{vs:List V}(h:RepL K mp H [d] vs):∃ v,vs=[v]/\Rep K mp H d v:=by
 obtain⟨v,r,rfl,h1,h2⟩:=h
 cases (show r=[] from h2)
 exact⟨v,rfl,h1⟩
theorem RepL.two{K:PySem.W.Frag}{mp:List Addr}{H:Hp}{d e:D}{vs:List V}(h:RepL K mp H [d,e] vs):∃ v w,vs=[v,w]/\Rep K mp H d v/\Rep K mp H e w:=by
 obtain⟨v,r,rfl,h1,h2⟩:=h
 obtain⟨w,rfl,h3⟩:=RepL.one h2
 exact⟨v,w,rfl,h1,h3⟩
theorem Ghf{tg a:Expr}{f:Ev (List D)}{p pos:Pos}(hg:Gl X "range")(hm:X.mg "range"=none)(ha:JA X XQ [a] f)(hs:starEach [a] X.env=[(false,eval a X.env)]:=by rfl):JI X XQ tg (.Call (.Name "range" p) [a] [] pos) (ir1 f):=by
 refine PI.mono (Gg8 hg hm ha hs) fun σ H R ⟨mp,ρ,S,G,p⟩=>?_
 refine bindP G p fun mp1 H1 ds S1 vs a1 G1 r1 p1=>?_
 split at p1
 ·rename_i j
  by_cases hb : -1000000000000<=j/\j<=1000000000000
  ·rw[if_pos hb] at p1
   obtain⟨v,rfl,h1⟩:=RepL.one r1
   cases (show v=.int j from h1)
   refine⟨j,rfl,by omega,by omega,Gx.ok (R:=kI X.K) (d:=rsrc 0 j.toNat) (S:=S1) p1 G1.rs Gpn⟩
  ·rw[if_neg hb] at p1; exact p1.elim
 ·exact p1.elim
def whN(c:Ev Bool)(b:Sv):Nat->Sv
 | 0,_,_=>.bad
 | n+1,ρ,S=>bindS (c ρ S) ρ fun t S1=>if t=true then(match b ρ S1 with
    | .nx ρ2 S2=>whN c b n ρ2 S2
    | .ct ρ2 S2=>whN c b n ρ2 S2
    | .bk ρ2 S2=>.nx ρ2 S2
    | .rt d S2=>.rt d S2
    | .exc x ρ2 S2=>.exc x ρ2 S2
    | .bad=>.bad) else .nx ρ S1
theorem Gil(fuel:Nat){c:Expr}{body:List Stmt}{fc:Ev Bool}{b:Sv}{pos:Pos}(hp:PassesOwn (model X.prog X.w) X.A X.env X.xe)(hc:JT X XQ c fc)(hb:JSs X XQ body b):JS X XQ (.While c body [] pos) (whN fc b fuel):=by
 refine PS.mono (Gh0 hp hc hb) fun E σ H ⟨mp,ρ,S,G,p⟩=>?_
 refine⟨fun m σ' H'=>∃ mp' ρ' S',Gd X.K mp' H' σ' ρ' S'/\PostS X.K XQ mp' H' (whN fc b m ρ' S') E,⟨fuel,mp,ρ,S,G,p⟩,?_⟩
 rintro m σ' H' ⟨mp',ρ',S',G',p'⟩
 cases m with
 | zero=>exact(show False from p').elim
 | succ n=>
  refine bindSP G' p' fun mp1 H1 t S1 t' a1 G1 r1 p1=>?_
  cases (show t'=t from r1)
  cases t with
  | false=>exact(if_neg Bool.false_ne_true).mpr (PostS.nx (by simpa using p1) G1)
  | true=>
   refine(if_pos rfl).mpr ⟨fun σ2 H2=>∃ mp2 ρ2 S2,Gd X.K mp2 H2 σ2 ρ2 S2/\PostS X.K XQ mp2 H2 (whN fc b n ρ2 S2) E,fun σ2 H2 q=>⟨n,Nat.lt_succ_self n,q⟩,⟨mp1,ρ',S1,G1,?_⟩⟩
   simp only[if_true] at p1
   cases zb:b ρ' S1 with
   | nx ρ2 S2=>simp only[zb] at p1; exact fun m h v af G4=>⟨m,ρ2,S2,G4,PostS.aft p1 af⟩
   | ct ρ2 S2=>simp only[zb] at p1; exact fun m h v af G4=>⟨m,ρ2,S2,G4,PostS.aft p1 af⟩
   | bk ρ2 S2=>simp only[zb] at p1; exact p1
   | rt d S2=>simp only[zb] at p1; exact p1
   | exc x ρ2 S2=>simp only[zb] at p1; exact p1
   | bad=>simp only[zb] at p1; exact p1
end
abbrev Fn:=List D->Sto->Out D
def Gm3(K:PySem.W.Frag)(mp:List Addr)(H:Hp)(o:Out D)(Q:VK):Prop:=
 match o with
 | .ok d S=>∀ mp' H' v,Aft K mp H mp' H'->RS K mp' H' S->Rep K mp' H' d v->Q v H'
 | _=>False
def spD(K:PySem.W.Frag)(n:Nat)(fn:Fn):Sp:=fun vs H Q _=>∃ mp ds S,RS K mp H S/\RepL K mp H ds vs/\ds.length=n/\Gm3 K mp H (fn ds S) Q
def fnB(m:Nat)(b:Sv):Fn:=fun ds S=>match b (ds.map some++List.replicate (m-ds.length) none) S with
 | .rt d S'=>.ok d S'
 | .nx _ S'=>.ok .non S'
 | .exc x _ S'=>.exc x S'
 | _=>.bad
theorem Gim{K:PySem.W.Frag}{mp:List Addr}{H:Hp}{S:Sto}{N:List Str}{ds:List D}{vs:List V}(r:RS K mp H S)(h:RepL K mp H ds vs):Gd K mp H (start N vs) (ds.map some++List.replicate (N.length-ds.length) none) S:=by
 have hl:=h.len
 refine⟨r,by simp[L2.start,hl],fun i d e=>?_⟩
 by_cases hi:i<ds.length
 ·rw[List.getElem?_append_left (by simpa using hi),List.getElem?_map] at e
  cases z:ds[i]? with
  | none=>rw[z] at e; cases e
  | some d'=>
   rw[z] at e
   cases e
   obtain⟨v,e1,q⟩:=h.get z
   refine⟨v,?_,q⟩
   unfold L2.start
   rw[List.getElem?_append_left (by simp[hl]; exact hi),List.getElem?_map,e1]
   rfl
 ·rw[List.getElem?_append_right (by simpa using hi),List.getElem?_replicate] at e
  split at e
  ·cases e
  ·cases e
theorem Gm4{P:Program}{w:World}{K:PySem.W.Frag}{mg:Str->Option Value}{base:Heap}{x qual:Str}{st:Stmt}{f:Addr}{fd:FuncData}{N ps:List Str}{k:Nat}{b:Sv}(F:Fun K x qual st f fd)(Sc:FnScope N ps (Gj st))(hb:∀ (cdv:Value) (A:Around) (outer:List PySem.Env) (s:Shared) (H:Hp) (E:XK),Room k (A.deeper (envOfC qual (Gj st) s.heap.objs.size f cdv))→
   JSs (Gde CX0 P w K mg base N qual (Gj st) f cdv A outer s H E).nox (fun _ _ _ _ _ _=>False) (Jq st) b):FnOk P w K mg base CX0 (k+1) f fd ps (spD K ps.length (fnB N.length b)):=by
 refine F.ok Sc (fun vs H Q E ⟨mp,ds,S,rs,r,hl,_⟩=>by rw[r.len]; exact hl) fun cdv A outer s H vs Q E hr ⟨mp,ds,S,rs,r,hl,p⟩=>?_
 refine⟨_,hb cdv A outer s H E hr,mp,_,S,Gim rs r,?_⟩
 unfold fnB at p
 show PostS K _ mp H (b (ds.map some++List.replicate (N.length-ds.length) none) S) _
 cases z:b (ds.map some++List.replicate (N.length-ds.length) none) S with
 | rt d S'=>rw[z] at p; exact p
 | nx ρ' S'=>rw[z] at p; exact fun m h v af G=>p m h .non af G.rs rfl
 | bk ρ' S'=>rw[z] at p; exact p.elim
 | ct ρ' S'=>rw[z] at p; exact p.elim
 | exc x ρ' S'=>rw[z] at p; exact p.elim
 | bad=>rw[z] at p; exact p.elim
section
variable{X:Cx}{XQ:XW}{k:Nat}{f:Addr}{fd:FuncData}{ps:List Str}{fn:Fn}{x:Str}{p pos:Pos}{e:Expr}{es:List Expr}{t:Ev (List D)}
def cl(n:Nat)(fn:Fn)(t:Ev (List D)):Ev D:=fun ρ S=>(t ρ S).bind fun ds S1=>if ds.length=n then fn ds S1 else .bad
def Gn(fn:Fn):Fn:=fun ds S=>match fn ds S with
 | .ok d S'=>.ok d S'
 | _=>.bad
theorem Glf{j:Nat}(F:FnOk X.prog X.w X.K X.mg X.base CX0 j f fd ps (spD X.K ps.length fn))(hr:Room k X.A)(hj:j<=k)(hg:Gl X x)(hm:X.mg x=some (.ref f))(hk:PySem.W.keepIn X.K (.ref f)=true)(hb:Binds X.K fd ps [])
  (ha:JA X XQ (e::es) t) (hdb:(x==("__debug__":Str))=false:=by decide) (he:starEach (e::es) X.env=(false,eval e X.env)::starEach es X.env:=by rfl) (hpl:(backTo pos (starEach es X.env)).any (·.1)=false:=by rfl):
  JE X XQ (.Call (.Name x p) (e::es) [] pos) (cl ps.length (Gn fn) t):=by
 refine PE.mono (Gkw (F.mono hj) hr hg hm hk hb .nil (Gr8) ha hdb he hpl) fun σ H Q ⟨mp,ρ,S,G,p⟩=>?_
 refine bindP G p fun mp1 H1 ds S1 vs a1 G1 r1 p1=>?_
 by_cases hl:ds.length=ps.length
 ·rw[if_pos hl] at p1
  refine⟨mp1,ds,S1,G1.rs,by rw[List.append_nil]; exact r1,hl,?_⟩
  unfold Gn at p1
  cases z:fn ds S1 with
  | ok d S'=>rw[z] at p1; exact p1
  | exc x S'=>rw[z] at p1; exact p1.elim
  | bad=>rw[z] at p1; exact p1.elim
 ·rw[if_neg hl] at p1; exact p1.elim
end
theorem Gdl{prog:Program}{w:World}{A:Around}{R:Result->Shared->Prop}{s:Shared}{elt target iter:Expr}{ifs:List Expr}{scope:Scope}{pos:Pos}{it acc:Value}{env:PySem.Env}(I:Nat->Shared->Prop)(turn:∀ n s,I n s->wpAny (model prog w) A (pyNext it) (fun r s₁=>match r with
   | none=>R (.ok .next) s₁
   | some v=>wpAny (model prog w) A (letOwnedTupleGo target it v) (fun _ s₁=>wpAny (model prog w) A (assign target env v) (fun _ s₂=>
     wpAny (model prog w) A (forIn ifs true fun c r=>if r=true then do let ok <- isTrue c env (eval c env); pure (ForInStep.yield ok) else pure (ForInStep.yield r)) (fun ok s₃=>
      if ok=true then wpAny (model prog w) A (eval elt env) (fun x s₄=>
       wpAny (model prog w) A (call (.builtin "list.append") [acc,x]) (fun _ s₅=>∃ m,m<n/\I m s₅) (fun _ _=>False) s₄) (fun _ _=>False) s₃
      else ∃ m,m<n/\I m s₃) (fun _ _=>False) s₂) (fun _ _=>False) s₁) (fun _ _=>False) s₁) (fun _ _=>False) s)(n:Nat)(h:I n s):
  codeAny (model prog w) A (.compLoop (.ListComp elt [⟨target,iter,ifs,0⟩] scope pos) 0 it acc env) R s:=by
 have noE:∀ {α:Type} {m:Sem α} {Q:α->Shared->Prop} {E':Value->Shared->Prop} {s:Shared},wpAny (model prog w) A m Q (fun _ _=>False) s->wpAny (model prog w) A m Q E' s:=fun h=>wpAny_mono h (fun _ _ q=>q) fun _ _ z=>z.elim
 refine codeAny_loop rfl I (fun n s hI=>?_) n h
 show wpAny _ A ((compTurn (.ListComp elt [⟨target,iter,ifs,0⟩] scope pos) 0 it acc env).onRaise (fun x=>do noteFrame x env; theTreesLotGoes x)) _ _ s
 refine wpAny_noted ?_
 rw[compTurn_list]
 refine wpAny_bind (wpAny_standAt (wpAny_bind (noE (wpAny_mono (turn n s hI) (fun r s₁ h₁=>?_) fun _ _ z=>z))))
 cases r with
 | none=>exact wpAny_pure h₁
 | some v=>
  refine wpAny_bind (noE (wpAny_mono h₁ (fun _ s₁ h₁=>?_) fun _ _ z=>z))
  refine wpAny_bind (noE (wpAny_mono h₁ (fun _ s₂ h₂=>wpAny_bind (noE (wpAny_mono h₂ (fun ok s₃ h₃=>?_) fun _ _ z=>z))) fun _ _ z=>z))
  cases ok with
  | false=>exact wpAny_pure ⟨rfl,h₃⟩
  | true=>
   exact wpAny_bind (wpAny_bind (noE (wpAny_mono h₃ (fun x s₄ h₄=>wpAny_bind (noE (wpAny_mono h₄ (fun _ s₅ h₅=>wpAny_pure (wpAny_pure ⟨rfl,h₅⟩)) fun _ _ z=>z))) fun _ _ z=>z)))
def blk(X:Cx)(s2:Shared)(H2:Hp)(C:Addr)(scope:Scope)(cl:List (Str×Addr))(N':List Str)(fp:List Addr):Cx:=
 { X with N:=N',s₀:=s2,H₀:=H2,env:=compEnvC scope cl C X.env,outer:=X.stack,ex:=fp,fn:=fun x=>scope.names.lookup x==some NameKind.cell,pn:=[],xe:=fun _ _=>False }
structure CompSc(X:Cx)(scope:Scope)(cl:List (Str×Addr))(N':List Str)(pk:List (Option Nat)):Prop where
 kind:scope.kind=.function
 cell:∀ y∈scope.names,y.2=.cell->scope.names.lookup y.1=some .cell
 names:∀ y∈scope.names,y.2=.local->scope.names.lookup y.1=some .local
 clos:closureFor scope X.env=pure cl
 sub:∀ x c,cl.lookup x=some c->X.env.cells.lookup x=some c
 has:∀ x,((relabel scope X.env).names.lookup x=some .cell\/(relabel scope X.env).names.lookup x=some .free)->(x,NameKind.cell)∈scope.names\/∃ c,cl.lookup x=some c
 len:pk.length=N'.length
 take:∀ (i j:Nat) (x:Str),pk[i]?=some (some j)->N'[i]?=some x->X.N[j]?=some x/\(X.env.kindOf x=some .cell\/X.env.kindOf x=some .free)/\((relabel scope X.env).names.lookup x=some .cell\/(relabel scope X.env).names.lookup x=some .free)/\scope.names.lookup x=some .free
def pkS{α:Type}(pk:List (Option Nat))(σ:List (Option α)):List (Option α):=pk.map fun o=>o.bind fun j=>(σ[j]?).bind id
def PTs(Y:Cx)(ifs:List Expr)(t:TT):Prop:=
 ∀ (pins:List (Addr×Obj)) (s:Shared) (σ:L2.St) (H:Hp) (Q:Bool->Hp->Prop),Inv Y pins σ H s->t σ H Q→
  wpAny (model Y.prog Y.w) Y.A (forIn ifs true fun c r=>if r=true then do let ok <- isTrue c Y.env (eval c Y.env); pure (ForInStep.yield ok) else pure (ForInStep.yield r)) (TP Y pins σ Q) Y.xe s
theorem Glg{Y:Cx}:PTs Y [] (fun _ H Q=>Q true H):=fun _ _ _ H _ I h=>wpAny_tests_nil ⟨H,I,h⟩
theorem Glh{Y:Cx}{c:Expr}{t:TT}(h:PT Y c t):PTs Y [c] t:=fun pins s σ H Q I q=>wpAny_tests_one (h pins s σ H Q I q)
def Gin(wi:TI)(pk:List (Option Nat))(g:TG)(tt:TT)(te:TE):TE:=fun σ H Q=>wi σ H fun J H1=>∀ a,H1 a=none->∃ W:Nat->Nat->L2.St->Hp->Prop,(∃ m,W 0 m (pkS pk σ) (upd H1 a (.lst [])))/\∀ i m σ' H',W i m σ' H'→
 (J.stop i H'/\Q (.ref a) H')\/(J.go i H'/\∀ x H2,J.yld i H' x H2->g x σ' H2 fun σ3 H3=>tt σ3 H3 fun b H4=>if b=true then te σ3 H4 fun v H5=>∃ xs,H5 a=some (.lst xs)/\xs.length<sizeLine/\∃ m',m'<m/\W (i+1) m' σ3 (upd H5 a (.lst (xs++[v])))
  else ∃ m',m'<m/\W (i+1) m' σ3 H4)
theorem Gio{P:Program}{w:World}{H:Hp}{h h':Heap}{C:Addr}(k:HOk P w H h)(hn:H C=none)(hs:Heap.SameBut C h h'):HOk P w H h':=fun b ob e=>by
 refine(k b ob e).stay (fun c w' hc q=>(hs.2 c ?_).trans q) (fun _ q=>q) fun _ _ q=>q
 rintro rfl
 rcases hc with rfl | hc
 ·rw[hn] at e; cases e
 ·rw[hn] at hc; cases hc
theorem Hy:∀ (names:List (Str×NameKind)) (n:Nat) (acc:List (Str×Addr)),cellsFrom n names acc=cellsFrom n names []++acc
 | [],_,_=>rfl
 | (x,k)::r,n,acc=>by
  unfold cellsFrom
  by_cases hk:(k==NameKind.cell)=true
  ·rw[if_pos hk,if_pos hk,Hy r (n+1) ((x,n)::acc),Hy r (n+1) [(x,n)],List.append_assoc]
   rfl
  ·rw[if_neg hk,if_neg hk,Hy r n acc]
theorem Vl:∀ (names:List (Str×NameKind)) (n:Nat) (x:Str) (c:Addr),(x,c)∈cellsFrom n names []->(x,NameKind.cell)∈names
 | [],_,_,_,h=>by simp[cellsFrom] at h
 | (y,k)::r,n,x,c,h=>by
  unfold cellsFrom at h
  by_cases hk:(k==NameKind.cell)=true
  ·rw[if_pos hk,Hy] at h
   rcases List.mem_append.mp h with h | h
   ·exact List.mem_cons_of_mem _ (Vl r (n+1) x c h)
   ·have:x=y:=by simpa using(List.mem_singleton.mp h▸rfl:(x,c).1=(y,n).1)
    have hk:k=.cell:=by simpa using hk
    subst this hk
    exact List.mem_cons_self
  ·rw[if_neg hk] at h
   exact List.mem_cons_of_mem _ (Vl r n x c h)
theorem Uh{x:Str}:∀ (a b:List (Str×Addr)),(a++b).lookup x=match a.lookup x with
  | some c=>some c
  | none=>b.lookup x
 | [],_=>rfl
 | (y,c)::r,b=>by
  rw[List.cons_append,List.lookup_cons,List.lookup_cons]
  cases h:x==y with
  | true=>rfl
  | false=>exact Uh r b
theorem Qn:∀ (names:List (Str×NameKind)) (n:Nat) (x:Str),(x,NameKind.cell)∈names->∃ c,(cellsFrom n names []).lookup x=some c
 | [],_,_,h=>by simp at h
 | (y,k)::r,n,x,h=>by
  unfold cellsFrom
  by_cases hx:(x,NameKind.cell)∈r
  ·by_cases hk:(k==NameKind.cell)=true
   ·rw[if_pos hk,Hy,Uh]
    obtain⟨c,hc⟩:=Qn r (n+1) x hx
    rw[hc]; exact⟨c,rfl⟩
   ·rw[if_neg hk]
    exact Qn r n x hx
  ·rcases List.mem_cons.mp h with h | h
   ·cases h
    rw[if_pos (by rfl),Hy,Uh]
    cases e:(cellsFrom (n+1) r []).lookup y with
    | some c=>exact⟨c,rfl⟩
    | none=>exact⟨n,by simp[List.lookup_cons]⟩
   ·exact absurd h hx
theorem Gar{M:Model}{A:Around}{E:Value->Shared->Prop}{s:Shared}{scope:Scope}{globals:Addr}{cl:List (Str×Addr)}{qual:Str}{env:PySem.Env}{Q:PySem.Env->Shared->Prop}
  (hQ:∀ h',h'=pushCells (s.heap.push { cls:=.type "dict",data:=.dict #[] }) scope.names→
   Q { scope:=scope,locals:=s.heap.objs.size,globals:=globals,cells:=cellsFrom (s.heap.objs.size+1) scope.names cl,qual:=qual,func:=none,code:=env.code,frame:=env.frame,builtins:=env.builtins } { s with heap:=h' }):
  wpAny M A (newFunctionEnv scope globals cl [] qual none .none (some env)) Q E s:=by
 simp only[newFunctionEnv,Option.isSome_some,if_true]
 refine wpAny_bind (wpAny_alloc ?_)
 refine wpAny_bind (wpAny_layCells _ (fun name kind cells=>by cases hkc:kind==NameKind.cell<;>simp[hkc]) _ _ _ _ ?_)
 rw[show({ s with heap:=s.heap.push { cls:=.type "dict",data:=.dict #[] } }:Shared).heap.objs.size=s.heap.objs.size+1 from Heap.size_push ..]
 rw[List.forIn_nil]
 exact wpAny_bind (wpAny_pure (wpAny_pure (hQ _ rfl)))
section
variable{X:Cx}
theorem Gba{elt tg iter:Expr}{ifs:List Expr}{scope:Scope}{pos:Pos}{cl:List (Str×Addr)}{N':List Str}{pk:List (Option Nat)}{g:TG}{tt:TT}{te:TE}(cs:CompSc X scope cl N' pk)(hcm:X.calm=true)
  (hg:∀ cl s2 H2 C fp,PG (blk X s2 H2 C scope cl N' fp) tg g) (ht:∀ cl s2 H2 C fp,PTs (blk X s2 H2 C scope cl N' fp) ifs tt) (he:∀ cl s2 H2 C fp,PE (blk X s2 H2 C scope cl N' fp) elt te)
  {pins:List (Addr×Obj)} {σ:L2.St} {H2:Hp} {s2:Shared} {it:Addr} {fp:List Addr} {tn:Nat->Heap->Prop} {J:It} (I2:Inv X pins σ H2 s2) (T:Turn X.prog X.w X.K tg J fp it tn) (st2:tn 0 s2.heap) (f2:∀ b∈fp,Gek X pins H2 b)
  {Q:VK} (hQ:∀ a,H2 a=none->∃ W:Nat->Nat->L2.St->Hp->Prop,(∃ m,W 0 m (pkS pk σ) (upd H2 a (.lst [])))/\∀ i m σ' H',W i m σ' H'→
   (J.stop i H'/\Q (.ref a) H')\/(J.go i H'/\∀ x H3,J.yld i H' x H3->g x σ' H3 fun σ3 H3=>tt σ3 H3 fun b H4=>if b=true then te σ3 H4 fun v H5=>∃ xs,H5 a=some (.lst xs)/\xs.length<sizeLine/\∃ m',m'<m/\W (i+1) m' σ3 (upd H5 a (.lst (xs++[v])))
    else ∃ m',m'<m/\W (i+1) m' σ3 H4)) {E:Value->Shared->Prop} {RR:Value->Addr->Result->Shared->Prop}
  (hRR:∀ D C s' (H':Hp),Q (.ref D) H'->(∃ m,s'.heap.Ns C m)->Inv X pins σ H' s'->H' C=none->s2.heap.objs.size<=C->RR (.ref D) C (.ok .next) s'):
  wpAny (model X.prog X.w) X.A (newList []) (fun acc s₃=>wpAny (model X.prog X.w) X.A (newFunctionEnv scope X.env.globals cl [] X.env.qual none .none (some X.env)) (fun cenv s₄=>
   codeAny (model X.prog X.w) X.A (.compStart (.ListComp elt [⟨tg,iter,ifs,0⟩] scope pos) 0 (.ref it) acc { cenv with scope:=relabel scope X.env }) (RR acc cenv.locals) s₄) E s₃) E s2:=by
 have hD:H2 s2.heap.objs.size=none:=I2.hok.fresh (Nat.le_refl _)
 obtain⟨W,⟨m0,w0⟩,turn⟩:=hQ s2.heap.objs.size hD
 refine wpAny_newObj_type (Gar (fun h₁ hh₁=>?_))
 dsimp only at hh₁ ⊢
 generalize hHh:s2.heap.push { cls:=.type "list",dict:=none,data:=.seq ([]:List Value).toArray }=Hh at hh₁ ⊢
 have hC:Hh.objs.size=s2.heap.objs.size+1:=by rw[<- hHh,Heap.size_push]
 have hDC:s2.heap.objs.size≠Hh.objs.size:=by rw[hC]; exact Nat.ne_of_lt (Nat.lt_succ_self _)
 have hCle:s2.heap.objs.size<=Hh.objs.size:=by rw[hC]; exact Nat.le_succ _
 have below:∀ b,b<s2.heap.objs.size->b≠Hh.objs.size/\b≠s2.heap.objs.size:=fun b hb=>⟨by rw[hC]; exact Nat.ne_of_lt (Nat.lt_succ_of_lt hb),Nat.ne_of_lt hb⟩
 have hns₁:h₁.Ns Hh.objs.size (fun _=>none):=by rw[hh₁]; exact(Heap.Ns.new Hh (.type "dict")).keeps (pushCells_keeps _ _)
 have old0:∀ b o,Hh.get? b=some o->h₁.get? b=some o:=fun b o e=>by rw[hh₁]; exact pushCells_keeps _ _ b o (Heap.get?_push_of_some _ e)
 have old:∀ b o,s2.heap.get? b=some o->h₁.get? b=some o:=fun b o e=>old0 b o (by rw[<- hHh]; exact Heap.get?_push_of_some _ e)
 have hacc:h₁.get? s2.heap.objs.size=some { cls:=.type "list",dict:=none,data:=.seq ([]:List Value).toArray }:=old0 _ _ (by rw[<- hHh]; exact Heap.get?_push_size _ rfl)
 have own:=cellsFrom_ok scope.names (Hh.push { cls:=.type "dict",data:=.dict #[] }) (Hh.objs.size+1) [] ⟨fun _ _ hm=>(nomatch hm),List.Pairwise.nil⟩ (by rw[Heap.size_push]; exact Nat.le_refl _)
 rw[Heap.size_push,<- hh₁] at own
 generalize hcs:cellsFrom (Hh.objs.size+1) scope.names cl=cs' at *
 have csl:∀ x c,cs'.lookup x=some c->((x,c)∈cellsFrom (Hh.objs.size+1) scope.names []/\h₁.IsCell c none/\Hh.objs.size+1<=c/\scope.names.lookup x=some .cell)\/((x,NameKind.cell)∉scope.names/\X.env.cells.lookup x=some c):=fun x c h=>by
  rw[<- hcs,Hy,Uh] at h
  cases e:(cellsFrom (Hh.objs.size+1) scope.names []).lookup x with
  | some c'=>
   rw[e] at h
   cases h
   have m:=mem_of_lookup e
   exact .inl ⟨m,(own.empty x c m).1,(own.empty x c m).2,cs.cell (x,.cell) (Vl _ _ _ _ m) rfl⟩
  | none=>
   rw[e] at h
   refine .inr ⟨fun hm=>?_,cs.sub x c h⟩
   obtain⟨c',q⟩:=Qn scope.names (Hh.objs.size+1) x hm
   rw[e] at q; cases q
 have cshas:∀ x,((relabel scope X.env).names.lookup x=some .cell\/(relabel scope X.env).names.lookup x=some .free)->∃ c,cs'.lookup x=some c:=fun x h=>by
  rw[<- hcs,Hy,Uh]
  cases e:(cellsFrom (Hh.objs.size+1) scope.names []).lookup x with
  | some c=>exact⟨c,rfl⟩
  | none=>
   rcases cs.has x h with hm | hm
   ·obtain⟨c',q⟩:=Qn scope.names (Hh.objs.size+1) x hm
    rw[e] at q; cases q
   ·exact hm
 have lts:∀ x c,X.env.cells.lookup x=some c->c<s2.heap.objs.size:=fun x c h=>by
  obtain⟨v,o,ho,hd⟩:=I2.cell x c h
  exact Heap.lt_size ho
 let Y:=blk X s2 H2 Hh.objs.size scope cs' N' fp
 have fpLt:∀ b∈fp,b<s2.heap.objs.size:=fun b hb=>by
  obtain⟨o,e,_⟩:=T.obj _ _ st2 b hb
  exact Heap.lt_size e
 have okY:Y.Ok:=by
  refine⟨I2.ok.mod,(by show(relabel scope X.env).kind=.function; exact cs.kind),I2.ok.glob,I2.ok.blt,hCle,fun x y c h1 h2=>?_,cshas,(fun x c z h=>by
   rcases csl x c h with⟨_,_,q,_⟩ | ⟨q,_⟩
   ·show s2.heap.objs.size<=c
    rw[hC] at q; omega
   ·have z:scope.names.lookup x=some .cell:=by simpa[Y,blk] using z
    exact absurd (mem_of_lookup z) q),I2.ok.hd,I2.ok.frames,.inl rfl,fun b hb=>⟨Nat.ne_of_lt (by rw[show Y.env.locals=Hh.objs.size from rfl,hC]; exact Nat.lt_succ_of_lt (fpLt b hb)),fun x c h=>by
   rcases csl x c h with⟨_,_,q,_⟩ | ⟨_,q⟩
   ·exact fun z=>absurd (Nat.lt_of_lt_of_le (fpLt b hb) (Nat.le_trans (by rw[hC]; omega) (z▸q))) (Nat.lt_irrefl _)
   ·exact(f2 b hb).2.2.2.2.1 x c q⟩,I2.bs,Nat.le_trans I2.ok.bsz I2.sz,fun b o e hb=>?_,fun b hb hs=>?_,I2.stack,I2.stkFree⟩
  ·rcases csl x c h1 with⟨m1,_,q1,_⟩ | ⟨_,q1⟩<;>rcases csl y c h2 with⟨m2,_,q2,_⟩ | ⟨_,q2⟩
   ·exact name_of_addr own.apart m1 m2
   ·exact absurd (Nat.lt_of_lt_of_le (lts y c q2) (Nat.le_trans (by rw[hC]; omega) q1)) (Nat.lt_irrefl _)
   ·exact absurd (Nat.lt_of_lt_of_le (lts x c q1) (Nat.le_trans (by rw[hC]; omega) q2)) (Nat.lt_irrefl _)
   ·exact I2.ok.inj x y c q1 q2
  ·rcases(f2 b hb).2.2.2.1 with z | z
   ·exact I2.ok.noex b o e z
   ·exact absurd (Nat.lt_of_lt_of_le (Heap.lt_size e) (Nat.le_trans I2.ok.bsz z)) (Nat.lt_irrefl _)
  ·rcases List.mem_cons.mp (I2.stkSub b hs) with z | z
   ·exact(f2 b hb).2.1 z
   ·exact(f2 b hb).2.2.1 z
 have hokY:HOk X.prog X.w (upd H2 s2.heap.objs.size (.lst [])) h₁:=I2.hok.laid old (Nat.le_refl _) ⟨by decide,[],0,.nil,hacc⟩
 have IY:∀ tk,Inv Y [] (pkS pk σ) (upd H2 s2.heap.objs.size (.lst [])) { s2 with heap:=h₁,toks:=tk }:=fun tk=>by
  refine⟨okY,rfl,I2.bare,?_,⟨_,hns₁,fun i x v h1 h2 h3=>?_⟩,fun x c h=>?_,?_,fun x c h=>?_,fun p hp=>absurd (show p∈([]:List (Addr×Obj)) from hp) (by simp),hokY,by show(pkS pk σ).length=N'.length; rw[<- cs.len]; simp[pkS]⟩
  ·exact Un.laid old (Nat.le_refl _) hD
  ·unfold pkS at h2
   rw[List.getElem?_map] at h2
   cases e:pk[i]? with
   | none=>rw[e] at h2; cases h2
   | some o=>
    rw[e] at h2
    cases o with
    | none=>cases h2
    | some j=>
     have h2:(σ[j]?).bind id=some v:=Option.some.inj h2
     have h2:σ[j]?=some (some v):=by
      cases z:σ[j]? with
      | none=>rw[z] at h2; cases h2
      | some q=>
       rw[z] at h2
       have h2:q=some v:=h2
       rw[h2]
     obtain⟨n1,n2,n3,n4⟩:=cs.take i j x e h1
     obtain⟨m,_,hl⟩:=I2.loc
     have vis:Vis X.env.scope x:=by
      rcases n2 with n2 | n2
      ·exact .inr (.inl n2)
      ·exact .inr (.inr n2)
     obtain⟨u,r,l⟩:=hl j x v n1 h2 vis
     refine⟨u,r,.inr ⟨n3,?_⟩⟩
     rcases l with⟨k,_⟩ | ⟨_,c,hc,⟨o,ho,hd⟩⟩
     ·rcases n2 with n2 | n2<;>rw[k] at n2<;>cases n2
     ·obtain⟨c',hc'⟩:=cshas x n3
      rcases csl x c' hc' with⟨_,_,_,q⟩ | ⟨_,e2⟩
      ·rw[n4] at q; cases q
      rw[hc] at e2
      cases e2
      exact⟨c,hc',o,old c o ho,hd⟩
  ·rcases csl x c h with⟨_,q,_,_⟩ | ⟨_,q⟩
   ·exact⟨none,q⟩
   obtain⟨v,o,ho,hd⟩:=I2.cell x c q
   exact⟨v,o,old c o ho,hd⟩
  ·show upd H2 s2.heap.objs.size (.lst []) Hh.objs.size=none
   rw[Ho (Ne.symm hDC)]
   exact I2.hok.fresh hCle
  ·rcases csl x c h with⟨_,_,z,_⟩ | ⟨_,z⟩
   ·show upd H2 s2.heap.objs.size (.lst []) c=none
    have z:s2.heap.objs.size+2<=c:=by rw[hC] at z; exact z
    rw[Ho (Nat.ne_of_gt (by omega:s2.heap.objs.size<c))]
    exact I2.hok.fresh (by omega)
   have q:=I2.freeC x c z
   obtain⟨v,o,ho,hd⟩:=I2.cell x c z
   show upd H2 s2.heap.objs.size (.lst []) c=none
   rw[Ho (below c (Heap.lt_size ho)).2]
   exact q
 have stat:∀ {H':Hp},(∀ b∈fp,H' b=none)->∀ b∈fp,Gek Y [] H' b:=fun hn b hb=>
  ⟨hn b hb,(okY.exf b hb).1,okY.exfs b hb,.inl hb,(okY.exf b hb).2,fun p hp=>absurd (show p∈([]:List (Addr×Obj)) from hp) (by simp)⟩
 have fin:∀ (H':Hp) (σ':L2.St) (s':Shared),Inv Y [] σ' H' s'->∀ h',Heap.SameBut Hh.objs.size s'.heap h'->Inv X pins σ H' { s' with heap:=h' }:=fun H' σ' s' I' h' hs=>by
  have sub:∀ b o,s2.heap.get? b=some o->b≠Hh.objs.size:=fun b o e=>(below b (Heap.lt_size e)).1
  have un:Un (frs X.stack) fp H2 H' s2.heap s'.heap:=I'.base
  refine I2.call' (ch:=fp) I'.os ⟨fun b o e n hb hx=>(hs.2 b (sub b o e)).trans (un.keep b o e n hb hx),fun b o e n hb hx=>?_,un.free,fun b o e hx=>?_,un.tups,un.frzs,un.tbls⟩ (Gio I'.hok I'.free hs) I'.bare fun b hb=>⟨(f2 b hb).2.2.2.1,(f2 b hb).2.1,(f2 b hb).2.2.2.2.1,(f2 b hb).2.2.2.2.2⟩
  ·obtain⟨sl,q⟩:=un.slot b o e n hb hx
   exact⟨sl,(hs.2 b (sub b o e)).trans q⟩
  ·obtain⟨o',q⟩:=un.there b o e hx
   exact⟨o',(hs.2 b (sub b o e)).trans q⟩
 have loop:∀ s3:Shared,(∃ tk,s3={ s2 with heap:=h₁,toks:=tk })→
   codeAny (model X.prog X.w) X.A (.compLoop (.ListComp elt [⟨tg,iter,ifs,0⟩] scope pos) 0 (.ref it) (.ref s2.heap.objs.size) (compEnvC scope cs' Hh.objs.size X.env)) (RR (.ref s2.heap.objs.size) Hh.objs.size) s3:=by
  rintro s3 ⟨tk,rfl⟩
  refine Gdl (fun n s'=>∃ i σ' H',Inv Y [] σ' H' s'/\tn i s'.heap/\(∀ b∈fp,H' b=none)/\W i n σ' H') ?_ m0 ⟨0,_,_,IY tk,T.keep _ _ _ st2 (fun b _ o e=>old b o e),fun b hb=>by rw[Ho (below b (fpLt b hb)).2]; exact(f2 b hb).1,w0⟩
  rintro n s4 ⟨i,σ4,H4,I4,st4,fr4,w4⟩
  rcases turn i n σ4 H4 w4 with⟨stop,qn⟩ | ⟨go,step⟩
  ·refine wpAny_mono (T.done Y rfl rfl rfl hcm i [] s4 σ4 H4 (fun _ _=>False) I4 (stat fr4) st4 stop) (fun r s5 ⟨hr,I5⟩=>?_) fun _ _ z=>z
   subst hr
   obtain⟨m,hn,_⟩:=I5.loc
   exact hRR _ _ s5 H4 qn ⟨m,hn⟩ (fin H4 σ4 s5 I5 s5.heap (.refl ..)) I5.free hCle
  ·refine wpAny_mono (T.item Y rfl rfl rfl hcm i [] s4 σ4 H4 (fun _ _=>False) I4 (stat fr4) st4 go) (fun r s5 ⟨u,hr,h5⟩=>?_) fun _ _ z=>z
   subst hr
   refine wpAny_mono h5 (fun _ s6 ⟨x,H6,I6,r6,y6,st6,fr6⟩=>?_) fun _ _ z=>z
   have I6':=I6.pinned (stat fr6) (T.obj _ _ st6)
   refine wpAny_mono (hg cs' s2 H2 Hh.objs.size fp _ s6 σ4 H6 x u _ I6' r6 (step x H6 y6)) (fun _ s7 ⟨σ7,H7,I7,q7⟩=>?_) fun _ _ z=>z
   refine wpAny_mono (ht cs' s2 H2 Hh.objs.size fp _ s7 σ7 H7 _ I7 q7) (fun ok s8 ⟨H8,I8,q8⟩=>?_) fun _ _ z=>z
   have back:∀ {σ9:L2.St} {H9:Hp} {s9:Shared},Inv Y ([]++Ga7 fp s6.heap) σ9 H9 s9->Inv Y [] σ9 H9 s9/\tn (i+1) s9.heap/\∀ b∈fp,H9 b=none:=fun{σ9 H9 s9} I9=>
    ⟨I9.unpinned,T.keep _ _ _ st6 fun b hb o e=>(I9.pin (b,o) (List.mem_append_right _ (List.mem_append_right _ (Wf hb e)))).1,fun b hb=>by
     obtain⟨o,e,d⟩:=T.obj _ _ st6 b hb
     exact(I9.pin (b,o) (List.mem_append_right _ (List.mem_append_right _ (Wf hb e)))).2.1⟩
   cases ok with
   | false=>
    obtain⟨m',hm,w'⟩:=(if_neg Bool.false_ne_true).mp q8
    obtain⟨b1,b2,b3⟩:=back I8
    exact(if_neg Bool.false_ne_true).mpr ⟨m',hm,i+1,σ7,H8,b1,b2,b3,w'⟩
   | true=>
    refine(if_pos rfl).mpr ?_
    refine wpAny_mono (he cs' s2 H2 Hh.objs.size fp _ s8 σ7 H8 _ I8 ((if_pos rfl).mp q8)) (fun ux s9 ⟨v,H9,I9,r9,xs,ex,hx,m',hm,w'⟩=>?_) fun _ _ z=>z
    refine wpAny_mono (Gcy (X:=Y) _ s9 σ7 H9 (.ref s2.heap.objs.size) [v] (.ref s2.heap.objs.size) [ux] (fun _ H'=>H'=upd H9 s2.heap.objs.size (.lst (xs++[v]))) I9 rfl (.cons r9 .nil) ⟨_,xs,v,rfl,rfl,ex,hx,rfl⟩) (fun _ s10 ⟨_,H10,I10,_,e10⟩=>?_) fun _ _ z=>z
    subst e10
    obtain⟨b1,b2,b3⟩:=back I10
    exact⟨m',hm,i+1,σ7,_,b1,b2,b3,w'⟩
 exact codeAny_compStart_list (loop _ ⟨_,rfl⟩) (T.self _ 0 _ _ _ (T.keep _ _ _ st2 fun b _ o e=>old b o e) (loop _ ⟨_,rfl⟩))
theorem Ggh{pins:List (Addr×Obj)}{σ σ2:L2.St}{H2 H':Hp}{s2 s':Shared}{C:Addr}{h':Heap}(I2:Inv X pins σ2 H2 s2)(I:Inv X pins σ H' s')(hn:H' C=none)(hC:s2.heap.objs.size<=C)(hs:Heap.SameBut C s'.heap h'):Inv X pins σ H' { s' with heap:=h' }:=by
 refine I.turned (t':=s'.toks) (it:=C) (fun b o hb e=>(hs.2 b hb).trans e) hn (fun z=>?_) (.inr (Nat.le_trans I2.sz hC)) (fun x c h z=>?_) fun p hp z=>?_
 ·exact absurd (Nat.lt_of_lt_of_le I2.lt (by rw[<- z]; exact hC)) (Nat.lt_irrefl _)
 ·obtain⟨v,q⟩:=I2.cell x c h
  exact absurd (Nat.lt_of_lt_of_le q.lt (by rw[z]; exact hC)) (Nat.lt_irrefl _)
 ·exact absurd (Nat.lt_of_lt_of_le (Heap.lt_size (I2.pin p hp).1) (by rw[z]; exact hC)) (Nat.lt_irrefl _)
theorem Yq{env:PySem.Env}:∀ (names:List (Str×NameKind)) (acc:List (Str×Addr)),(∀ x∈names,x.2=.free->∃ c,env.cells.lookup x.1=some c)->(∀ x c,acc.lookup x=some c->env.cells.lookup x=some c)→
  ∃ cl,(forIn names acc fun x cs=>(if(x.2==NameKind.free)=true then do let c <- cellOf env x.1; pure (ForInStep.yield ((x.1,c)::cs)) else pure (ForInStep.yield cs):Sem _))=pure cl/\(∀ x c,cl.lookup x=some c->env.cells.lookup x=some c)∧
   (∀ x,(∃ c,acc.lookup x=some c)\/(x,NameKind.free)∈names->∃ c,cl.lookup x=some c)
 | [],acc,_,ha=>⟨acc,rfl,ha,fun x h=>by
   rcases h with h | h
   ·exact h
   ·simp at h⟩
 | (n,k)::r,acc,hn,ha=>by
  have hr:∀ x∈r,x.2=.free->∃ c,env.cells.lookup x.1=some c:=fun x hx=>hn x (List.mem_cons_of_mem _ hx)
  by_cases hk:k=.free
  ·subst hk
   obtain⟨c,hc⟩:=hn (n,.free) List.mem_cons_self rfl
   obtain⟨cl,e,h1,h2⟩:=Yq r ((n,c)::acc) hr (fun x c' h=>by
    rw[List.lookup_cons] at h
    by_cases hx:(x==n)=true
    ·rw[hx] at h
     cases h
     have:x=n:=by simpa using hx
     rw[this]; exact hc
    ·have hx:(x==n)=false:=by simpa using hx
     rw[hx] at h
     exact ha x c' h)
   refine⟨cl,?_,h1,fun x h=>h2 x ?_⟩
   ·rw[List.forIn_cons]
    simp only[beq_self_eq_true,if_true]
    have q:cellOf env n=pure c:=by unfold cellOf; rw[hc]
    rw[q]
    exact e
   ·rcases h with⟨c',h⟩ | h
    ·left
     rw[List.lookup_cons]
     by_cases hx:(x==n)=true
     ·rw[hx]; exact⟨c,rfl⟩
     ·have hx:(x==n)=false:=by simpa using hx
      rw[hx]; exact⟨c',h⟩
    ·rcases List.mem_cons.mp h with h | h
     ·left
      cases h
      exact⟨c,by rw[List.lookup_cons,beq_self_eq_true]⟩
     ·exact .inr h
  ·have hb:(k==NameKind.free)=false:=by simpa using hk
   obtain⟨cl,e,h1,h2⟩:=Yq r acc hr ha
   refine⟨cl,?_,h1,fun x h=>h2 x ?_⟩
   ·rw[List.forIn_cons]
    simp only[hb,Bool.false_eq_true,if_false]
    exact e
   ·rcases h with h | h
    ·exact .inl h
    ·rcases List.mem_cons.mp h with h | h
     ·cases h; exact absurd rfl hk
     ·exact .inr h
theorem Gfu{env:PySem.Env}{scope:Scope}(hn:∀ x∈scope.names,x.2=.free->∃ c,env.cells.lookup x.1=some c):∃ cl,closureFor scope env=pure cl/\(∀ x c,cl.lookup x=some c->env.cells.lookup x=some c)/\(∀ x,(x,NameKind.free)∈scope.names->∃ c,cl.lookup x=some c):=by
 obtain⟨cl,e,h1,h2⟩:=Yq (env:=env) scope.names [] hn (fun x c h=>by simp at h)
 refine⟨cl,?_,h1,fun x h=>h2 x (.inr h)⟩
 unfold closureFor
 have e2:(forIn scope.names ([]:List (Str×Addr)) fun x r=>(match x with
   | (name,kind)=>if(kind==NameKind.free)=true then do let c <- cellOf env name; pure (ForInStep.yield ((name,c)::r)) else pure (ForInStep.yield r):Sem _))=pure cl:=e
 first
  | exact congrArg (fun m=>m >>= fun cs=>pure cs) e2
  | (show(do let cs <- forIn scope.names ([]:List (Str×Addr)) fun x r=>_; pure cs)=_; rw[e2]; rfl)
structure CompTab(sc scope:Scope)(N N':List Str)(pk:List (Option Nat)):Prop where
 kind:scope.kind=.function
 cell:∀ y∈scope.names,y.2=.cell->scope.names.lookup y.1=some .cell
 names:∀ y∈scope.names,y.2=.local->scope.names.lookup y.1=some .local
 free:∀ y∈scope.names,y.2=.free->sc.names.lookup y.1=some .cell\/sc.names.lookup y.1=some .free
 len:pk.length=N'.length
 take:((List.range N'.length).all fun i=>match pk[i]? with
  | some (some j)=>match N[j]?,N'[i]? with
   | some x,some y=>(x==y)&&((sc.names.lookup y==some NameKind.cell)||(sc.names.lookup y==some NameKind.free))&&(scope.names.lookup y==some NameKind.free)
   | _,_=>false
  | _=>true)=true
theorem Xj{scope:Scope}{env:PySem.Env}{x:Str}:∀ (names:List (Str×NameKind)),((names.map fun(n,k)=>if(k==NameKind.free&&env.scope.kind==.function&&env.kindOf n==some .cell)=true then(n,NameKind.cell) else(n,k)).lookup x=some .cell∨
   (names.map fun(n,k)=>if(k==NameKind.free&&env.scope.kind==.function&&env.kindOf n==some .cell)=true then(n,NameKind.cell) else(n,k)).lookup x=some .free)->(x,NameKind.cell)∈names\/(x,NameKind.free)∈names
 | [],h=>by simp at h
 | (n,k)::r,h=>by
  rw[List.map_cons] at h
  by_cases hx:(x==n)=true
  ·have e:x=n:=by simpa using hx
   subst e
   by_cases hq:(k==NameKind.free&&env.scope.kind==.function&&env.kindOf x==some .cell)=true
   ·have:k=.free:=by
     rw[Bool.and_eq_true,Bool.and_eq_true] at hq
     simpa using hq.1.1
    subst this
    exact .inr List.mem_cons_self
   ·simp only[hq,Bool.false_eq_true,if_false,List.lookup_cons,beq_self_eq_true] at h
    rcases h with h | h
    ·have:k=.cell:=by simpa using h
     subst this
     exact .inl List.mem_cons_self
    ·have:k=.free:=by simpa using h
     subst this
     exact .inr List.mem_cons_self
  ·have hx:(x==n)=false:=by simpa using hx
   refine(Xj (scope:=scope) (env:=env) r ?_).imp (List.mem_cons_of_mem _) (List.mem_cons_of_mem _)
   by_cases hq:(k==NameKind.free&&env.scope.kind==.function&&env.kindOf n==some .cell)=true
   ·simpa only[hq,if_true,List.lookup_cons,hx] using h
   ·simpa only[hq,Bool.false_eq_true,if_false,List.lookup_cons,hx] using h
theorem Kh{scope:Scope}{env:PySem.Env}{x:Str}:∀ (names:List (Str×NameKind)),names.lookup x=some .free->((names.map fun(n,k)=>if(k==NameKind.free&&env.scope.kind==.function&&env.kindOf n==some .cell)=true then(n,NameKind.cell) else(n,k)).lookup x=some .cell∨
   (names.map fun(n,k)=>if(k==NameKind.free&&env.scope.kind==.function&&env.kindOf n==some .cell)=true then(n,NameKind.cell) else(n,k)).lookup x=some .free)
 | [],h=>by simp at h
 | (n,k)::r,h=>by
  rw[List.map_cons]
  by_cases hx:(x==n)=true
  ·rw[List.lookup_cons,hx] at h
   have:k=.free:=by simpa using h
   subst this
   by_cases hq:(NameKind.free==NameKind.free&&env.scope.kind==.function&&env.kindOf n==some .cell)=true
   ·left; simp only[hq,if_true,List.lookup_cons,hx]
   ·right; simp only[hq,Bool.false_eq_true,if_false,List.lookup_cons,hx]
  ·have hx:(x==n)=false:=by simpa using hx
   rw[List.lookup_cons,hx] at h
   have:=Kh (scope:=scope) (env:=env) r h
   by_cases hq:(k==NameKind.free&&env.scope.kind==.function&&env.kindOf n==some .cell)=true
   ·simpa only[hq,if_true,List.lookup_cons,hx] using this
   ·simpa only[hq,Bool.false_eq_true,if_false,List.lookup_cons,hx] using this
theorem CompTab.sc{scope:Scope}{N':List Str}{pk:List (Option Nat)}(t:CompTab X.env.scope scope X.N N' pk)(ok:X.Ok):∃ cl,CompSc X scope cl N' pk:=by
 obtain⟨cl,e,h1,h2⟩:=Gfu (env:=X.env) (scope:=scope) fun x hx hf=>ok.has x.1 (t.free x hx hf)
 refine⟨cl,t.kind,t.cell,t.names,e,h1,fun x h=>(Xj (scope:=scope) (env:=X.env) scope.names h).imp id (h2 x),t.len,fun i j x hp hn=>?_⟩
 have hi:i<N'.length:=(List.getElem?_eq_some_iff.mp hn).1
 have q:=List.all_eq_true.mp t.take i (List.mem_range.mpr hi)
 simp only[hp,hn] at q
 cases hj:X.N[j]? with
 | none=>simp[hj] at q
 | some y=>
  simp only[hj,Bool.and_eq_true,Bool.or_eq_true,beq_iff_eq] at q
  obtain⟨⟨e1,e2⟩,e3⟩:=q
  subst e1
  exact⟨rfl,e2,Kh (scope:=scope) (env:=X.env) scope.names e3,e3⟩
theorem Gli{elt tg iter:Expr}{ifs:List Expr}{scope:Scope}{pos:Pos}{N':List Str}{pk:List (Option Nat)}{wi:TI}{g:TG}{tt:TT}{te:TE}(ct:CompTab X.env.scope scope X.N N' pk)(hcm:X.calm=true)(hi:PI X tg iter wi)
  (hg:∀ cl s2 H2 C fp,PG (blk X s2 H2 C scope cl N' fp) tg g) (ht:∀ cl s2 H2 C fp,PTs (blk X s2 H2 C scope cl N' fp) ifs tt) (he:∀ cl s2 H2 C fp,PE (blk X s2 H2 C scope cl N' fp) elt te)
  (hs:∀ x,foldedSetIterable iter X.env x=pure x:=by intro _; rfl):PE X (.ListComp elt [⟨tg,iter,ifs,0⟩] scope pos) (Gin wi pk g tt te):=by
 intro pins s σ H Q I h
 obtain⟨cl,cs⟩:=ct.sc I.ok
 rw[eval_ListComp]
 refine wpAny_comprehension_free (use:=none) rfl hs cs.clos cs.kind cs.names (thn (hi pins s σ H _ I h) fun x s1 h1=>thn h1 fun itv s2 h2=>?_)
 obtain⟨it,fp,tn,J,H2,e,I2,T,st2,f2,hQ⟩:=h2
 subst e
 refine Gba cs hcm hg ht he I2 T st2 f2 hQ (RR:=fun acc C=>compPost (model X.prog X.w) X.A X.xe none (EP X pins σ Q) acc C) fun D C s' H' q hn inv hf hC=>?_
 obtain⟨m,hn⟩:=hn
 exact⟨m,hn,fun h' hs'=>⟨.ref D,H',Ggh I2 inv hf hC hs',rfl,q⟩⟩
theorem Gfv{i:Nat}{y:Str}{py spos:Pos}{elt tg iter:Expr}{ifs:List Expr}{scope:Scope}{pos:Pos}{N':List Str}{pk:List (Option Nat)}{wi:TI}{g:TG}{tt:TT}{te:TE}(ct:CompTab X.env.scope scope X.N N' pk)(hcm:X.calm=true)(hi:PI X tg iter wi)
  (hg:∀ cl s2 H2 C fp,PG (blk X s2 H2 C scope cl N' fp) tg g) (ht:∀ cl s2 H2 C fp,PTs (blk X s2 H2 C scope cl N' fp) ifs tt) (he:∀ cl s2 H2 C fp,PE (blk X s2 H2 C scope cl N' fp) elt te)
  (hN:X.N.Nodup) (hy:X.N[i]?=some y) (hx:Loc X.env.scope y) (hsw:swapsWith (.ListComp elt [⟨tg,iter,ifs,0⟩] scope pos) (some (.Name y py)) spos.line X.env=pure true)
  (hs:∀ x,foldedSetIterable iter X.env x=pure x:=by intro _; rfl) (hf:X.fn y=true\/X.env.scope.names.lookup y=some .local:=by first | exact .inl rfl | exact .inr rfl | assumption):
  PS X (.Assign [.Name y py] (.ListComp elt [⟨tg,iter,ifs,0⟩] scope pos) spos) (Gks (Gin wi pk g tt te) (gName i)):=by
 intro pins s σ H E I h
 obtain⟨cl,cs⟩:=ct.sc I.ok
 rw[exec_Assign_Name_used _ _ _ _ hsw]
 refine wpAny_bind (wpAny_standAt (wpAny_bind ?_))
 show wpAny _ X.A (do let _ <- comprehension (.ListComp elt [⟨tg,iter,ifs,0⟩] scope pos) scope X.env _ (newList []) false (eval iter X.env) (some (assign (.Name y py) X.env))) _ _ s
 refine wpAny_bind (wpAny_mono (wpAny_comprehension_free (use:=some (assign (.Name y py) X.env)) (Q:=fun _ s'=>SP X pins E .next s') rfl hs cs.clos cs.kind cs.names
  (thn (hi pins s σ H _ I h) fun x s1 h1=>thn h1 fun itv s2 h2=>?_)) (fun _ s' hq=>wpAny_pure (wpAny_pure hq)) fun _ _ e=>e)
 obtain⟨it,fp,tn,J,H2,e,I2,T,st2,f2,hQ⟩:=h2
 subst e
 refine Gba cs hcm hg ht he I2 T st2 f2 (Q:=fun x H1=>gName i x σ H1 E.nx) hQ (RR:=fun acc C=>compPost (model X.prog X.w) X.A X.xe (some (assign (.Name y py) X.env)) (fun _ s'=>SP X pins E .next s') acc C) fun D C s' H' q hn inv hfr hC=>?_
 obtain⟨m,hn⟩:=hn
 show wpAny _ X.A (assign (.Name y py) X.env (.ref D)) _ _ _
 refine wpAny_assign_Name (Gcs inv hN hy hx (v:=.ref D) rfl (fun s'' I'' hch=>?_) hf)
 obtain⟨a,hsb,ha⟩:=hch
 have hCa:C≠a:=by
  rcases ha with ha | ha
  ·rintro rfl
   exact absurd (Nat.lt_of_lt_of_le I2.lt (by rw[<- ha]; exact hC)) (Nat.lt_irrefl _)
  ·rintro rfl
   obtain⟨v,z⟩:=I2.cell y _ ha
   exact absurd (Nat.lt_of_lt_of_le z.lt hC) (Nat.lt_irrefl _)
 exact⟨m,hn.sameBut hsb hCa,fun h' hs'=>⟨_,H',Ggh I2 I'' hfr hC hs',q⟩⟩
abbrev XN:XW:=fun _ _ _ _ _ _=>False
def cbody(a:Nat)(t:Ev Bool)(e:Ev D):Sv:=fun ρ S=>bindS (t ρ S) ρ fun b S1=>if b=true then bindS (e ρ S1) ρ fun d S2=>(match S2[a]? with
  | some c=>if c.fz=false/\c.xs.length<1000000 then .nx ρ (S2.set a ⟨false,c.xs++[d]⟩) else .bad
  | none=>.bad) else .nx ρ S1
def cmp(f:Ev Src)(pk:List (Option Nat))(g:Tg)(t:Ev Bool)(e:Ev D):Ev D:=fun ρ S=>(f ρ S).bind fun src S1=>match Vk src.nxt g (cbody S1.length t e) src.fuel 0 (pkS pk ρ) (S1++[⟨false,[]⟩]) with
 | .nx _ S'=>.ok (.lst S1.length) S'
 | _=>.bad
def Gal(K:PySem.W.Frag)(XQ:XW)(σ:L2.St)(ρ:Lc)(a:Nat)(mp:List Addr)(H:Hp)(o:OS)(Q:VK):Prop:=match o with
 | .nx _ S=>Post K XQ σ ρ mp H (.ok (.lst a) S) Q
 | _=>False
theorem Gal.aft{K:PySem.W.Frag}{XQ:XW}{σ:L2.St}{ρ:Lc}{a:Nat}{mp mp':List Addr}{H H':Hp}{o:OS}{Q:VK}(p:Gal K XQ σ ρ a mp H o Q)(af:Aft K mp H mp' H'):Gal K XQ σ ρ a mp' H' o Q:=by
 cases o with
 | nx r S=>exact Gx.aft (show Post K XQ σ ρ mp H (.ok (.lst a) S) Q from p) af
 | _=>exact p
theorem Gd.pick{K:PySem.W.Frag}{mp:List Addr}{H:Hp}{σ:L2.St}{ρ:Lc}{S:Sto}(G:Gd K mp H σ ρ S)(pk:List (Option Nat)):Gd K mp H (pkS pk σ) (pkS pk ρ) S:=by
 refine⟨G.rs,by simp[pkS],fun i d h=>?_⟩
 unfold pkS at h ⊢
 rw[List.getElem?_map] at h ⊢
 cases e:pk[i]? with
 | none=>rw[e] at h; cases h
 | some o=>
  rw[e] at h
  cases o with
  | none=>cases h
  | some j=>
   have h:(ρ[j]?).bind id=some d:=Option.some.inj h
   have h:ρ[j]?=some (some d):=by
    cases z:ρ[j]? with
    | none=>rw[z] at h; cases h
    | some q=>
     rw[z] at h
     have h:q=some d:=h
     rw[h]
   obtain⟨v,e1,r⟩:=G.loc j d h
   refine⟨v,?_,r⟩
   show some ((σ[j]?).bind id)=some (some v)
   rw[e1]
   rfl
def JTs(Y:Cx)(XQ:XW)(ifs:List Expr)(t:Ev Bool):Prop:=PTs Y ifs (rdT Y.K XQ t)
def ttrue:Ev Bool:=fun _ S=>.ok true S
theorem Glj{Y:Cx}{XQ:XW}:JTs Y XQ [] ttrue:=fun pins s σ H Q I ⟨mp,ρ,S,G,p⟩=>Glg pins s σ H Q I (Gx.ok (show Gx Y.K kB XQ σ ρ mp H (.ok true S) Q from p) G.rs rfl)
theorem Glk{Y:Cx}{XQ:XW}{c:Expr}{t:Ev Bool}(h:JT Y XQ c t):JTs Y XQ [c] t:=Glh h
theorem Gm5{K:PySem.W.Frag}{XQ:XW}{f:Ev Src}{pk:List (Option Nat)}{g:Tg}{t:Ev Bool}{e:Ev D}(σ:L2.St)(H:Hp)(Q:VK)(h:rdE K XQ (cmp f pk g t e) σ H Q):Gin (rdI K XQ f) pk (Gij K g) (rdT K XN t) (rdE K XN e) σ H Q:=by
 obtain⟨mp,ρ,S,G,p⟩:=h
 refine bindP G p fun mp1 H1 src S1 J a1 G1 j1 p1=>?_
 intro a ha
 obtain⟨af,rs,la⟩:=G1.rs.newL ha (RepL.nil:RepL K mp1 H1 [] [])
 have p1:Gal K XQ σ ρ S1.length (mp1++[a]) (upd H1 a (.lst [])) (Vk src.nxt g (cbody S1.length t e) src.fuel 0 (pkS pk ρ) (S1++[⟨false,[]⟩])) Q:=by
  cases z:Vk src.nxt g (cbody S1.length t e) src.fuel 0 (pkS pk ρ) (S1++[⟨false,[]⟩]) with
  | nx r S'=>rw[z] at p1; exact Gx.aft p1 af
  | rt d S'=>rw[z] at p1; exact p1
  | bk r S'=>rw[z] at p1; exact p1
  | ct r S'=>rw[z] at p1; exact p1
  | exc x r S'=>rw[z] at p1; exact p1
  | bad=>rw[z] at p1; exact p1
 refine⟨fun i m σ' H'=>∃ mp' ρ' S',Aft K mp1 H1 mp' H'/\Gd K mp' H' σ' ρ' S'/\mp'[S1.length]?=some a/\Gal K XQ σ ρ S1.length mp' H' (Vk src.nxt g (cbody S1.length t e) m i ρ' S') Q,⟨src.fuel,_,_,_,af,(G1.pick pk).aft af rs,la,p1⟩,?_⟩
 rintro i m σ' H' ⟨mp',ρ',S',a',G',la',p'⟩
 cases m with
 | zero=>exact(show False from p').elim
 | succ n=>
  have j:=j1 mp' H' S' a' G'.rs i
  unfold Vk at p'
  cases z:src.nxt i S' with
  | none=>
   rw[z] at j p'
   exact .inl ⟨j,Gx.ok (show Post K XQ σ ρ mp' H' (.ok (.lst S1.length) S') Q from p') G'.rs ⟨a,rfl,la'⟩⟩
  | some d=>
   rw[z] at j p'
   obtain⟨j1,j2⟩:=j
   refine .inr ⟨j1,fun x H2 y=>?_⟩
   obtain⟨a2,r2,x2⟩:=j2 x H2 y
   have G2:=G'.aft a2 r2
   cases zg:g d ρ' with
   | none=>simp only[zg] at p'; exact p'.elim
   | some ρ1=>
    simp only[zg] at p'
    refine⟨mp',ρ',S',d,ρ1,G2,x2,zg,fun σ3 G3=>⟨mp',ρ1,S',G3,?_⟩⟩
    have p2:=Gal.aft p' a2
    unfold cbody at p2
    cases zt:t ρ1 S' with
    | exc x S2=>simp only[zt,bindS] at p2; exact p2.elim
    | bad=>simp only[zt,bindS] at p2; exact p2.elim
    | ok b S2=>
     simp only[zt,bindS] at p2
     intro mp3 H3 b' a3 rs3 e3
     cases (show b'=b from e3)
     have G4:=G3.aft a3 rs3
     cases b with
     | false=>
      simp only[Bool.false_eq_true,if_false] at p2
      exact(if_neg Bool.false_ne_true).mpr ⟨n,Nat.lt_succ_self n,mp3,ρ1,S2,(a'.trans a2).trans a3,G4,a3.pre _ _ la',Gal.aft p2 a3⟩
     | true=>
      simp only[if_true] at p2
      refine(if_pos rfl).mpr ⟨mp3,ρ1,S2,G4,?_⟩
      cases ze:e ρ1 S2 with
      | exc x S3=>simp only[ze] at p2; exact p2.elim
      | bad=>simp only[ze] at p2; exact p2.elim
      | ok d2 S3=>
       simp only[ze] at p2
       intro mp4 H4 v a4 rs4 r4
       have la4:=a4.pre _ _ (a3.pre _ _ la')
       have G5:=G4.aft a4 rs4
       cases zc:S3[S1.length]? with
       | none=>simp only[zc] at p2; exact p2.elim
       | some c=>
        simp only[zc] at p2
        by_cases hc:c.fz=false/\c.xs.length<1000000
        ·rw[if_pos hc] at p2
         obtain⟨a5,xs,e5,h5,s5,r5,f5⟩:=rs4.items (v:=.ref a) ⟨a,rfl,la4⟩ zc
         cases e5
         have h5:=f5 hc.1
         obtain⟨af6,rs6⟩:=rs4.setL la4 zc hc.1 h5 (RepL.append r5 (RepL.cons r4 RepL.nil))
         refine⟨xs,h5,?_,n,Nat.lt_succ_self n,mp4,ρ1,_,(((a'.trans a2).trans a3).trans a4).trans af6,G5.aft af6 rs6,la4,Gal.aft p2 ((a3.trans a4).trans af6)⟩
         rw[r5.len]
         exact Nat.lt_of_lt_of_le hc.2 (by decide)
        ·rw[if_neg hc] at p2; exact p2.elim
variable{XQ:XW}
theorem Gll{elt tg iter:Expr}{ifs:List Expr}{scope:Scope}{pos:Pos}{N':List Str}{pk:List (Option Nat)}{f:Ev Src}{g:Tg}{t:Ev Bool}{e:Ev D}(ct:CompTab X.env.scope scope X.N N' pk)(hcm:X.calm=true)(hi:JI X XQ tg iter f)
  (hg:∀ cl s2 H2 C fp,JG (blk X s2 H2 C scope cl N' fp) tg g) (ht:∀ cl s2 H2 C fp,JTs (blk X s2 H2 C scope cl N' fp) XN ifs t) (he:∀ cl s2 H2 C fp,JE (blk X s2 H2 C scope cl N' fp) XN elt e)
  (hs:∀ x,foldedSetIterable iter X.env x=pure x:=by intro _; rfl):JE X XQ (.ListComp elt [⟨tg,iter,ifs,0⟩] scope pos) (cmp f pk g t e):=
 PE.mono (Gli (g:=Gij X.K g) (tt:=rdT X.K XN t) (te:=rdE X.K XN e) ct hcm hi hg ht he hs) Gm5
theorem Gfw(i:Nat){y:Str}{py spos:Pos}{elt tg iter:Expr}{ifs:List Expr}{scope:Scope}{pos:Pos}{N':List Str}{pk:List (Option Nat)}{f:Ev Src}{g:Tg}{t:Ev Bool}{e:Ev D}(ct:CompTab X.env.scope scope X.N N' pk)(hcm:X.calm=true)(hi:JI X XQ tg iter f)
  (hg:∀ cl s2 H2 C fp,JG (blk X s2 H2 C scope cl N' fp) tg g) (ht:∀ cl s2 H2 C fp,JTs (blk X s2 H2 C scope cl N' fp) XN ifs t) (he:∀ cl s2 H2 C fp,JE (blk X s2 H2 C scope cl N' fp) XN elt e)
  (hN:X.N.Nodup) (hy:X.N[i]?=some y:=by rfl) (hx:Loc X.env.scope y:=by first | exact Or.inl rfl | exact Or.inr rfl) (hsw:swapsWith (.ListComp elt [⟨tg,iter,ifs,0⟩] scope pos) (some (.Name y py)) spos.line X.env=pure true:=by rfl)
  (hs:∀ x,foldedSetIterable iter X.env x=pure x:=by intro _; rfl) (hf:X.fn y=true\/X.env.scope.names.lookup y=some .local:=by first | exact .inl rfl | exact .inr rfl | assumption):
  JS X XQ (.Assign [.Name y py] (.ListComp elt [⟨tg,iter,ifs,0⟩] scope pos) spos) (sa (cmp f pk g t e) (gn i)):=by
 refine PS.mono (Gfv (g:=Gij X.K g) (tt:=rdT X.K XN t) (te:=rdE X.K XN e) ct hcm hi hg ht he hN hy hx hsw hs hf) fun E σ H ⟨mp,ρ,S,G,p⟩=>Gm5 σ H _ ?_
 exact bindSP G p fun mp1 H1 d S1 v a1 G1 r1 p1=>PostS.nx p1 (G1.set i r1)
end
theorem Ghg:fillsNumberSlot (.type "tuple") "mul"=pure false:=
 PySem.fillsNumberSlot_seq (id:="tuple.__mul__") (r:=some (.builtin "tuple.__rmul__")) F.slot_tuple_mul.lookup (by decide +kernel) F.slot_tuple_rmul.lookup (by decide +kernel)
theorem Gfx:seqRepeat? (.type "tuple")=pure (some (.builtin "tuple.__mul__")):=by
 unfold seqRepeat?
 rw[PySem.seqSlot_of (T:="tuple") (name:="__mul__") (id:="tuple.__mul__") F.slot_tuple_mul.lookup (by decide +kernel),PySem.seqSlot_of (T:="tuple") (name:="__rmul__") (id:="tuple.__rmul__") F.slot_tuple_rmul.lookup (by decide +kernel)]
 rfl
theorem Gpo(x:Int)(t:Tok)(l:Addr)(xs:Array Value)(n:Nat)(d:Option Addr)(sl:Array (Option Value)):
  Meets (Builtin.«int.__rmul__» ⟨[.int x t,.ref l],[]⟩) (fun _ R s=>s.heap.get? l=some { cls:=.type "tuple",dict:=d,data:=.seq xs n,slots:=sl }/\R (.ok (.ret Value.notImplemented)) s):=
 .of_wp fun prog w A R s h=>by obtain⟨hp,g,d,tk,os⟩:=s; obtain⟨hl,h⟩:=h; wp_walk; exact⟨_,rfl,h⟩
theorem Gpp(x:Int)(t:Tok)(l:Addr)(xs:Array Value)(n:Nat)(d:Option Addr)(sl:Array (Option Value))(c0:¬ (decide (x < -2^63)||decide (x≥2^63))=true)(c1:¬ (xs.isEmpty||x==1)=true)(c2:¬ (decide (x<=0)||xs.isEmpty)=true)(c3:¬ (xs.size:Int)*x>(2^63-1) / 8)(c4:¬ Builtin.Tuple.tupleTooMany ((xs.size:Int)*x)=true)(c5:(List.foldl (fun x1 x2=>x1++x2) #[] (List.replicate x.toNat xs)).size<=sizeLine):
  Meets (Builtin.«tuple.__mul__» ⟨[.ref l,.int x t],[]⟩) (fun _ R s=>s.heap.get? l=some { cls:=.type "tuple",dict:=d,data:=.seq xs n,slots:=sl }/\R (.ok (.ret (Value.ref s.heap.objs.size))) { s with heap:=s.heap.push { cls:=Value.type "tuple",data:=Data.seq (List.foldl (fun x1 x2=>x1++x2) #[] (List.replicate x.toNat xs)) },toks:=s.toks }):=
 .of_wp fun prog w A R s h=>by
  obtain⟨hp,g,d,tk,os⟩:=s; obtain⟨hl,h⟩:=h
  wp_walk
  refine wpAny_ite_false (decide_eq_false c0) ?_
  wp_walk using wpAny_loadPart' hl
  refine wpAny_ite_false (decide_eq_false c3) ?_
  wp_walk
  exact⟨_,rfl,h⟩
section
variable{X:Cx}
def Gm6(K:PySem.W.Frag):R2:=fun x y H Q=>∃ a k xs,x=.ref a/\y=.int k/\SqT K H a xs/\xs≠[]/\2<=k/\k<=1000000/\xs.length*k.toNat<=sizeLine/\∀ p,H p=none->Q (.ref p) (upd H p (.tup (List.replicate k.toNat xs).flatten))
theorem Glm:OpR X (binaryOp .Mult) (Gm6 X.K):=by
 intro pins s σ H x y v u Q I rx ry ⟨a,k,xs,e1,e2,ha,hne,k2,k3,hz,q⟩
 subst e1 e2
 cases rx
 obtain⟨t,rfl⟩:=ry
 obtain⟨its,r1,p1,_⟩:=I.tuple ha
 obtain⟨⟨cls,dd,data,sl⟩,ho,hc,n,hd⟩:=id p1
 simp only at hc hd
 subst hc hd
 have hl:xs.length=its.length:=r1.length
 have hne':its≠[]:=fun z=>hne (r1.nil_iff.mp z)
 have hie:its.toArray.isEmpty=false:=by
  cases its with
  | nil=>exact absurd rfl hne'
  | cons _ _=>rfl
 have hnew:List.foldl (fun x1 x2=>x1++x2) #[] (List.replicate k.toNat its.toArray)=(List.replicate k.toNat its).flatten.toArray:=by
  have:=Gac its k.toNat []
  rw[List.nil_append] at this
  exact this
 have hsz:(its.toArray.size:Int)*k<=(sizeLine:Int):=by
  rw[List.size_toArray,<- hl]
  have h1:((xs.length*k.toNat:Nat):Int)<=(sizeLine:Int):=by exact_mod_cast hz
  rw[Int.natCast_mul,Int.toNat_of_nonneg (by omega)] at h1
  exact h1
 have hsl:(sizeLine:Int)<=(2^63-1) / 8:=by decide
 refine wpAny_binaryOp_repeat_ref (T:="tuple") (U:="int") (by decide) ⟨_,ho,rfl⟩ (fun s'=>typeIs_int s' k t) Ghg F.fills_int_mul F.slot_int_rmul Gfx F.slot_int_index.lookup
  (call_meets F.slot_int_rmul (typeIs_int s k t) F.entry_int_rmul (F.args_int_rmul_2 _ _) (Gpo k t a its.toArray n dd sl)
   ⟨ho,rfl,⟨_,ho,rfl⟩,call_meets F.slot_tuple_mul ⟨_,ho,rfl⟩ F.entry_tuple_mul (F.args_tuple_mul_2 _ _) (Gpp k t a its.toArray n dd sl ?c0 ?c1 ?c2 ?c3 ?c4 ?c5) ⟨ho,?_⟩⟩)
 case c0=>simp; omega
 case c1=>rw[hie]; simp; omega
 case c2=>rw[hie]; simp; omega
 case c3=>omega
 case c4=>unfold Builtin.Tuple.tupleTooMany; simp; omega
 case c5=>rw[hnew,List.size_toArray,Gdi,<- hl,Nat.mul_comm]; exact hz
 rw[hnew]
 refine⟨.ref s.heap.objs.size,_,I.laid (t':=s.toks) (o:=.tup (List.replicate k.toNat xs).flatten) (fun b ob q=>Heap.get?_push_of_some _ q) (Nat.le_refl _) ?_,rfl,q _ (I.hok.fresh (Nat.le_refl _))⟩
 exact⟨by rw[Gdi,Nat.mul_comm]; exact hz,_,r1.rep k.toNat,IsTup.new _ _⟩
end
def Hq{α β:Type}(f:α->Option β):List α->Option (List β)
 | []=>some []
 | x::l=>match f x,Hq f l with
  | some y,some ys=>some (y::ys)
  | _,_=>none
def toP(S:Sto):Nat->D->Option PyData
 | 0,_=>none
 | n+1,d=>match d with
  | .non=>some .none
  | .bl b=>some (.bool b)
  | .int i=>some (.int i)
  | .str x=>some (.str x)
  | .tup l=>(Hq (toP S n) l).map .tuple
  | .lst i=>match S[i]? with
   | some c=>(Hq (toP S n) c.xs).map .list
   | none=>none
  | .exn _ _=>none
  | .fv _=>none
section
variable{X:Cx}{pins:List (Addr×Obj)}{σ:L2.St}{H:Hp}{s:Shared}{mp:List Addr}{S:Sto}
theorem Gdm{f:D->Option PyData}{K:PySem.W.Frag}(hf:∀ (d:D) (v:V) (u:Value) (p:PyData),Rep K mp H d v->Hn v u->f d=some p->∃ as,Reads s.heap u p as):∀ (l:List D) (vs:List V) (us:List Value) (ps:List PyData),RepL K mp H l vs->Vals vs us->Hq f l=some ps->∃ as,ReadsAll s.heap us ps as
 | [],vs,us,ps,h,r,e=>by
  cases (show vs=[] from h); cases r
  cases (Option.some.inj e)
  exact⟨_,.nil⟩
 | d::l,vs,us,ps,h,r,e=>by
  obtain⟨v,vr,rfl,h1,h2⟩:=(show ∃ v r,vs=v::r/\Rep K mp H d v/\RepL K mp H l r from h)
  cases r with
  | cons r1 r2=>
   cases z1:f d with
   | none=>simp only[Hq,z1] at e; cases e
   | some p=>
    cases z2:Hq f l with
    | none=>simp only[Hq,z1,z2] at e; cases e
    | some qs=>
     simp only[Hq,z1,z2] at e
     cases (Option.some.inj e)
     obtain⟨as,ra⟩:=hf d v _ p h1 r1 z1
     obtain⟨bs,rb⟩:=Gdm hf l vr _ qs h2 r2 z2
     exact⟨_,.cons ra rb⟩
theorem Yr(I:Inv X pins σ H s)(rs:RS X.K mp H S):∀ (n:Nat) (d:D) (v:V) (u:Value) (p:PyData),Rep X.K mp H d v->Hn v u->toP S n d=some p->∃ as,Reads s.heap u p as:=by
 intro n
 induction n with
 | zero=>intro d v u p h r e; cases e
 | succ n ih=>
  intro d v u p h r e
  cases d with
  | non=>
   cases (show v=.non from h); cases (show u=Value.none from r)
   cases (Option.some.inj e)
   exact⟨_,.none⟩
  | bl b=>
   cases (show v=.bl b from h); cases (show u=Value.bool b from r)
   cases (Option.some.inj e)
   exact⟨_,.bool b⟩
  | int i=>
   cases (show v=.int i from h); obtain⟨t,rfl⟩:=(show ∃ t,u=Value.int i t from r)
   cases (Option.some.inj e)
   exact⟨_,.int i t⟩
  | str x=>
   cases (show v=.str x from h); obtain⟨t,rfl⟩:=(show ∃ t,u=Value.str x t from r)
   cases (Option.some.inj e)
   exact⟨_,.str x t⟩
  | tup l=>
   obtain⟨a,xs,rfl,sq,q⟩:=Rep.tup h
   cases (show u=Value.ref a from r)
   obtain⟨its,rv,⟨o,ho,hc,k,hd⟩,_⟩:=I.tuple sq
   have e:(Hq (toP S n) l).map PyData.tuple=some p:=e
   cases z:Hq (toP S n) l with
   | none=>rw[z] at e; cases e
   | some ps=>
    rw[z] at e
    cases (Option.some.inj e)
    obtain⟨as,ra⟩:=Gdm ih l xs its ps q rv z
    exact⟨as,.tuple ho hc hd (by simpa using ra)⟩
  | lst i=>
   have e:(match S[i]? with | some c=>(Hq (toP S n) c.xs).map PyData.list | none=>none)=some p:=e
   cases zc:S[i]? with
   | none=>rw[zc] at e; cases e
   | some c=>
    rw[zc] at e
    obtain⟨a,xs,rfl,_,sq,q,_⟩:=rs.items h zc
    cases (show u=Value.ref a from r)
    obtain⟨its,rv,⟨o,k,ho,hc,_,hd⟩,_⟩:=I.list sq
    have e:(Hq (toP S n) c.xs).map PyData.list=some p:=e
    cases z:Hq (toP S n) c.xs with
    | none=>rw[z] at e; cases e
    | some ps=>
     rw[z] at e
     cases (Option.some.inj e)
     obtain⟨as,ra⟩:=Gdm ih c.xs xs its ps q rv z
     exact⟨_,.list ho hc hd (by simpa using ra)⟩
  | exn c n=>cases (show(none:Option PyData)=some p from e)
  | fv c=>cases (show(none:Option PyData)=some p from e)
end
def eqD(x y:D)(S:Sto):Out D:=match toP S 40 x,toP S 40 y with
 | some p,some q=>if(SeqAt.shaped p&&SeqAt.shaped q)=true then .ok (.bl (PyData.eqv p q)) S else .bad
 | _,_=>.bad
def neD(x y:D)(S:Sto):Out D:=match toP S 40 x,toP S 40 y with
 | some p,some q=>if(SeqAt.shaped p&&SeqAt.shaped q)=true then .ok (.bl (!PyData.eqv p q)) S else .bad
 | _,_=>.bad
section
variable{X:Cx}{XQ:XW}
def OpX(X:Cx)(f:Value->Value->Sem Value)(o:D->D->Sto->Out D):Prop:=
 ∀ (pins:List (Addr×Obj)) (s:Shared) (σ:L2.St) (ρ:Lc) (XQ:XW) (mp:List Addr) (H:Hp) (S:Sto) (x y:D) (v u:V) (vv uv:Value) (Q:VK),Inv X pins σ H s->RS X.K mp H S->Rep X.K mp H x v->Rep X.K mp H y u->Hn v vv->Hn u uv->Post X.K XQ σ ρ mp H (o x y S) Q→
  (∀ (e:XD) (S':Sto),o x y S≠.exc e S')->wpAny (model X.prog X.w) X.A (f vv uv) (EP X pins σ Q) X.xe s
theorem Gip{a b:Expr}{op:CmpOp}{fa fb:Ev D}{o:D->D->Sto->Out D}{pos:Pos}(ho:OpX X (compareOp op) o)(hno:∀ x y S e S',o x y S≠.exc e S')(ha:JE X XQ a fa)(hb:JE X XQ b fb)(hm:behindInMarks op b=false):JE X XQ (.Compare a [op] [b] pos) (o2 o fa fb):=by
 intro pins s σ H Q I ⟨mp,ρ,S,G,p⟩
 refine wpAny_Compare1 (thn (ha pins s σ H _ I (bindP G p fun mp1 H1 x S1 v a1 G1 r1 p1=>(⟨mp1,ρ,S1,x,G1,r1,p1⟩:∃ mp1 ρ S1 x,Gd X.K mp1 H1 σ ρ S1/\Rep X.K mp1 H1 x v/\Post X.K XQ σ ρ mp1 H1 ((fb ρ S1).bind fun y S2=>o x y S2) Q))) fun vv s1 ⟨v,H1,I1,rv,mp1,ρ1,S1,x,G1,r1,p1⟩=>?_) hm
 refine thn (hb pins s1 σ H1 _ I1 (bindP G1 p1 fun mp2 H2 y S2 u a2 G2 r2 p2=>(⟨mp2,ρ1,S2,x,y,v,G2,Rep.aft a2 _ _ r1,r2,rfl,p2⟩:∃ mp2 ρ S2 x y v',Gd X.K mp2 H2 σ ρ S2/\Rep X.K mp2 H2 x v'/\Rep X.K mp2 H2 y u/\v'=v/\Post X.K XQ σ ρ mp2 H2 (o x y S2) Q))) fun uv s2 ⟨u,H2,I2,ru,mp2,ρ2,S2,x2,y,v',G2,rx,ry,ev,p2⟩=>?_
 subst ev
 exact ho pins s2 σ ρ2 XQ mp2 H2 S2 x2 y _ u vv uv Q I2 G2.rs rx ry rv ru p2 (hno _ _ _)
theorem Gfy{a b:Expr}{op:CmpOp}{fa fb:Ev D}{o:D->D->Sto->Out D}{pos:Pos}(ho:OpX X (compareOp op) o)(hno:∀ x y S e S',o x y S≠.exc e S')(ha:JE X XQ a fa)(hb:JE X XQ b fb)(hm:behindInMarks op b=false):JT X XQ (.Compare a [op] [b] pos) (tb (o2 o fa fb)):=by
 intro pins s σ H Q I h
 obtain⟨mp,ρ,S,G,p⟩:=Gm2 h
 refine wpAny_isTrue_Compare1 (thn (ha pins s σ H _ I (bindP G p fun mp1 H1 x S1 v a1 G1 r1 p1=>(⟨mp1,ρ,S1,x,G1,r1,p1⟩:∃ mp1 ρ S1 x,Gd X.K mp1 H1 σ ρ S1/\Rep X.K mp1 H1 x v/\Post X.K XQ σ ρ mp1 H1 ((fb ρ S1).bind fun y S2=>o x y S2) (fun x H1=>∃ k,x=.bl k/\Q k H1)))) fun vv s1 ⟨v,H1,I1,rv,mp1,ρ1,S1,x,G1,r1,p1⟩=>?_) hm
 refine thn (hb pins s1 σ H1 _ I1 (bindP G1 p1 fun mp2 H2 y S2 u a2 G2 r2 p2=>(⟨mp2,ρ1,S2,x,y,v,G2,Rep.aft a2 _ _ r1,r2,rfl,p2⟩:∃ mp2 ρ S2 x y v',Gd X.K mp2 H2 σ ρ S2/\Rep X.K mp2 H2 x v'/\Rep X.K mp2 H2 y u/\v'=v/\Post X.K XQ σ ρ mp2 H2 (o x y S2) (fun x H1=>∃ k,x=.bl k/\Q k H1)))) fun uv s2 ⟨u,H2,I2,ru,mp2,ρ2,S2,x2,y,v',G2,rx,ry,ev,p2⟩=>?_
 subst ev
 refine thn (ho pins s2 σ ρ2 XQ mp2 H2 S2 x2 y _ u vv uv _ I2 G2.rs rx ry rv ru p2 (hno _ _ _)) fun c s3 ⟨z,H3,I3,r3,k,e,q3⟩=>?_
 subst e
 cases r3
 exact wpAny_truthy_bool ⟨H3,I3,q3⟩
theorem Gm7(hu:X.A.units+64<cLine):OpX X (compareOp .Eq) eqD:=by
 intro pins s σ ρ XQ mp H S x y v u vv uv Q I rs rx ry rv ru p _
 unfold eqD at p
 cases z1:toP S 40 x with
 | none=>simp only[z1] at p; exact p.elim
 | some a=>
  cases z2:toP S 40 y with
  | none=>simp only[z1,z2] at p; exact p.elim
  | some b=>
   simp only[z1,z2] at p
   by_cases hs:(SeqAt.shaped a&&SeqAt.shaped b)=true
   ·rw[if_pos hs] at p
    obtain⟨as,ra⟩:=Yr I rs 40 x v vv a rx rv z1
    obtain⟨bs,rb⟩:=Yr I rs 40 y u uv b ry ru z2
    rw[Bool.and_eq_true] at hs
    exact SeqAt.compareEq_shaped ra rb hs.1 hs.2 hu ⟨.bl _,H,I,rfl,Gx.ok (R:=Rep X.K) p rs rfl⟩
   ·rw[if_neg hs] at p; exact p.elim
theorem Gsf(hu:X.A.units+64<cLine):OpX X (compareOp .NotEq) neD:=by
 intro pins s σ ρ XQ mp H S x y v u vv uv Q I rs rx ry rv ru p _
 unfold neD at p
 cases z1:toP S 40 x with
 | none=>simp only[z1] at p; exact p.elim
 | some a=>
  cases z2:toP S 40 y with
  | none=>simp only[z1,z2] at p; exact p.elim
  | some b=>
   simp only[z1,z2] at p
   by_cases hs:(SeqAt.shaped a&&SeqAt.shaped b)=true
   ·rw[if_pos hs] at p
    obtain⟨as,ra⟩:=Yr I rs 40 x v vv a rx rv z1
    obtain⟨bs,rb⟩:=Yr I rs 40 y u uv b ry ru z2
    rw[Bool.and_eq_true] at hs
    exact SeqAt.compareNe_shaped ra rb hs.1 hs.2 hu ⟨.bl _,H,I,rfl,Gx.ok (R:=Rep X.K) p rs rfl⟩
   ·rw[if_neg hs] at p; exact p.elim
theorem Gm8(x y:D)(S:Sto)(e:XD)(S':Sto):eqD x y S≠.exc e S':=by
 unfold eqD
 split
 ·split<;>exact fun z=>nomatch z
 ·exact fun z=>nomatch z
theorem Gsg(x y:D)(S:Sto)(e:XD)(S':Sto):neD x y S≠.exc e S':=by
 unfold neD
 split
 ·split<;>exact fun z=>nomatch z
 ·exact fun z=>nomatch z
theorem Gsh{a b:Expr}{fa fb:Ev D}{pos:Pos}(hu:X.A.units+64<cLine)(ha:JE X XQ a fa)(hb:JE X XQ b fb):JE X XQ (.Compare a [.Eq] [b] pos) (o2 eqD fa fb):=Gip (Gm7 hu) Gm8 ha hb (nomark _)
theorem Gsi{a b:Expr}{fa fb:Ev D}{pos:Pos}(hu:X.A.units+64<cLine)(ha:JE X XQ a fa)(hb:JE X XQ b fb):JT X XQ (.Compare a [.Eq] [b] pos) (tb (o2 eqD fa fb)):=Gfy (Gm7 hu) Gm8 ha hb (nomark _)
theorem Gsj{a b:Expr}{fa fb:Ev D}{pos:Pos}(hu:X.A.units+64<cLine)(ha:JE X XQ a fa)(hb:JE X XQ b fb):JT X XQ (.Compare a [.NotEq] [b] pos) (tb (o2 neD fa fb)):=Gfy (Gsf hu) Gsg ha hb (nomark _)
def i2(C:Int->Int->Bool)(g:Int->Int->D):D->D->Sto->Out D:=fun x y S=>match x,y with
 | .int i,.int j=>if C i j=true then .ok (g i j) S else .bad
 | _,_=>.bad
theorem Gdn{K:PySem.W.Frag}{C:Int->Int->Prop}{c:Int->Int->Bool}{g:Int->Int->V}{gd:Int->Int->D}(hc:∀ i j,c i j=true->C i j)(hg:∀ mp H i j,Rep K mp H (gd i j) (g i j)):OpD K (rI C g) (i2 c gd):=by
 intro XQ σ ρ mp H S x y v u Q rs rx ry p
 cases x with
 | int i=>
  cases y with
  | int j=>
   have p:Post K XQ σ ρ mp H (if c i j=true then .ok (gd i j) S else .bad) Q:=p
   by_cases h:c i j=true
   ·rw[if_pos h] at p
    exact⟨i,j,rx,ry,hc i j h,Gx.ok (R:=Rep K) p rs (hg mp H i j)⟩
   ·rw[if_neg h] at p; exact p.elim
  | _=>exact(show False from p).elim
 | _=>exact(show False from p).elim
theorem od_int0{K:PySem.W.Frag}{g:Int->Int->V}{gd:Int->Int->D}(hg:∀ mp H i j,Rep K mp H (gd i j) (g i j)):OpD K (rI0 g) (i2 (fun _ _=>true) gd):=by
 intro XQ σ ρ mp H S x y v u Q rs rx ry p
 obtain⟨i,j,h1,h2,_,h3⟩:=Gdn (C:=fun _ _=>True) (c:=fun _ _=>true) (fun _ _ _=>trivial) hg XQ σ ρ mp H S x y v u Q rs rx ry p
 exact⟨i,j,h1,h2,h3⟩
abbrev Ui:=i2 (fun _ _=>true) fun i j=>.int (i-j)
abbrev Wg:=i2 (fun _ j=>decide (0<j)) fun i j=>.int (i%j)
abbrev Xk:=i2 (fun i j=>decide (0<=j/\j<=1000000/\i.natAbs<2^64)) fun i j=>.int (i^j.toNat)
abbrev ltD:=i2 (fun _ _=>true) fun i j=>.bl (decide (i<j))
abbrev leD:=i2 (fun _ _=>true) fun i j=>.bl (decide (i<=j))
abbrev gtD:=i2 (fun _ _=>true) fun i j=>.bl (decide (j<i))
abbrev geD:=i2 (fun _ _=>true) fun i j=>.bl (decide (j<=i))
section
variable{a b:Expr}{fa fb:Ev D}{pos:Pos}
theorem Gpq(ha:JE X XQ a fa)(hb:JE X XQ b fb):JE X XQ (.BinOp a .Sub b pos) (o2 Ui fa fb):=Gc0 Gog (od_int0 fun _ _ _ _=>rfl) ha hb
theorem Gpr(ha:JE X XQ a fa)(hb:JE X XQ b fb):JE X XQ (.BinOp a .Mod b pos) (o2 Wg fa fb):=Gc0 Goi (Gdn (fun _ _ h=>of_decide_eq_true h) fun _ _ _ _=>rfl) ha hb
theorem Gps(ha:JE X XQ a fa)(hb:JE X XQ b fb):JE X XQ (.BinOp a .Pow b pos) (o2 Xk fa fb):=Gc0 Goj (Gdn (fun i j h=>(of_decide_eq_true h:0<=j/\j<=1000000/\i.natAbs<2^64)) fun _ _ _ _=>rfl) ha hb
theorem Gsk(ha:JE X XQ a fa)(hb:JE X XQ b fb):JE X XQ (.Compare a [.Lt] [b] pos) (o2 ltD fa fb):=Gfs Gmy (od_int0 fun _ _ _ _=>rfl) ha hb (nomark _)
theorem Gsl(ha:JE X XQ a fa)(hb:JE X XQ b fb):JE X XQ (.Compare a [.LtE] [b] pos) (o2 leD fa fb):=Gfs Gh3 (od_int0 fun _ _ _ _=>rfl) ha hb (nomark _)
theorem Gsm(ha:JE X XQ a fa)(hb:JE X XQ b fb):JE X XQ (.Compare a [.GtE] [b] pos) (o2 geD fa fb):=Gfs Gru (od_int0 fun _ _ _ _=>rfl) ha hb (nomark _)
theorem Gsn(ha:JE X XQ a fa)(hb:JE X XQ b fb):JT X XQ (.Compare a [.Lt] [b] pos) (tb (o2 ltD fa fb)):=Gft Gmy (od_int0 fun _ _ _ _=>rfl) ha hb (nomark _)
theorem Gso(ha:JE X XQ a fa)(hb:JE X XQ b fb):JT X XQ (.Compare a [.Gt] [b] pos) (tb (o2 gtD fa fb)):=Gft Grt (od_int0 fun _ _ _ _=>rfl) ha hb (nomark _)
end
def Hg(x y:D)(S:Sto):Out D:=match x,y with
 | .int i,.int j=>.ok (.int (i+j)) S
 | .str a,.str b=>if a.length+b.length<=1000000 then .ok (.str (a++b)) S else .bad
 | .lst i,.lst j=>match S[i]?,S[j]? with
  | some c,some e=>if(c.fz=false/\e.fz=false)/\c.xs.length+e.xs.length<=1000000 then .ok (.lst S.length) (S++[⟨false,c.xs++e.xs⟩]) else .bad
  | _,_=>.bad
 | .tup a,.tup b=>if a.length+b.length<=1000000 then .ok (.tup (a++b)) S else .bad
 | _,_=>.bad
def Gm9(K:PySem.W.Frag):R2:=fun x y H Q=>∃ a b ys,x=.ref a/\y=.ref b/\SqT K H a []/\SqT K H b ys/\Q (.ref b) H
theorem Gln:OpR X (binaryOp .Add) (Gm9 X.K):=by
 intro pins s σ H x y v u Q I rx ry ⟨a,b,ys,e1,e2,ha,hb,q⟩
 subst e1 e2
 cases rx; cases ry
 obtain⟨its,r1,p1,_⟩:=I.tuple ha
 obtain⟨its2,r2,p2,_⟩:=I.tuple hb
 have ei:=r1.nil_iff.mpr rfl
 subst ei
 obtain⟨⟨cls,dd,data,sl⟩,ho,hc,n,hd⟩:=id p1
 obtain⟨⟨cls2,dd2,data2,sl2⟩,ho2,hc2,n2,hd2⟩:=id p2
 simp only at hc hd hc2 hd2
 subst hc hd hc2 hd2
 exact concat_meets ⟨_,ho,rfl⟩ ⟨_,ho2,rfl⟩ noFill_tuple_add seq_tuple_add PySem.F.slot_tuple_add PySem.F.entry_tuple_add (PySem.F.args_tuple_add_2 _ _)
  (tuple_addW0 a b [].toArray its2.toArray n n2 dd dd2 sl sl2 (by rfl)) ⟨ho,ho2,⟨.ref b,H,I,rfl,q⟩⟩
def Gna(K:PySem.W.Frag):R2:=fun x y H Q=>rI0 (fun i j=>.int (i+j)) x y H Q\/(∃ i j,x=.str i/\y=.str j/\i.length+j.length<=sizeLine/\Q (.str (i++j)) H)\/Gr6 x y H Q\/Gmz K x y H Q\/Gm9 K x y H Q
theorem Glo:OpR X (binaryOp .Add) (Gna X.K):=Gof.or (Gfn.or (Gox.or (Gk1.or Gln)))
theorem Gpt{K:PySem.W.Frag}:OpD K (Gna K) Hg:=by
 intro XQ σ ρ mp H S x y v u Q rs rx ry p
 unfold Hg at p
 split at p
 ·exact .inl ⟨_,_,rx,ry,Gx.ok (R:=Rep K) p rs rfl⟩
 ·rename_i a b
  by_cases h:a.length+b.length<=1000000
  ·rw[if_pos h] at p
   exact .inr (.inl ⟨_,_,rx,ry,line_le h,Gx.ok (R:=Rep K) p rs rfl⟩)
  ·rw[if_neg h] at p; exact p.elim
 ·rename_i i j
  split at p
  ·rename_i c e zc ze
   by_cases h:(c.fz=false/\e.fz=false)/\c.xs.length+e.xs.length<=1000000
   ·rw[if_pos h] at p
    obtain⟨a1,xs,rfl,_,_,q1,f1⟩:=rs.items rx zc
    obtain⟨a2,ys,rfl,_,_,q2,f2⟩:=rs.items ry ze
    refine .inr (.inr (.inl ⟨a1,a2,xs,ys,rfl,rfl,f1 h.1.1,f2 h.1.2,by rw[q1.len,q2.len]; exact line_le h.2,fun q hq=>Vw p rs (q1.append q2) hq⟩))
   ·rw[if_neg h] at p; exact p.elim
  ·exact p.elim
 ·rename_i a b
  by_cases h:a.length+b.length<=1000000
  ·rw[if_pos h] at p
   obtain⟨a1,xs,rfl,s1,q1⟩:=Rep.tup rx
   obtain⟨a2,ys,rfl,s2,q2⟩:=Rep.tup ry
   have l1:=q1.len
   have l2:=q2.len
   by_cases he:xs=[]
   ·subst he
    have ea:a=[]:=by cases a with | nil=>rfl | cons _ _=>simp at l1
    subst ea
    exact .inr (.inr (.inr (.inr ⟨a1,a2,ys,rfl,rfl,s1,s2,Gx.ok (R:=Rep K) p rs ry⟩)))
   ·refine .inr (.inr (.inr (.inl ⟨a1,a2,xs,ys,rfl,rfl,s1,s2,he,by rw[l1,l2]; exact line_le h,fun z=>?_,fun _ q hq=>Xi p rs (q1.append q2) hq⟩)))
    subst z
    have eb:b=[]:=by cases b with | nil=>rfl | cons _ _=>simp at l2
    subst eb
    rw[List.append_nil] at p
    exact Gx.ok (R:=Rep K) p rs rx
  ·rw[if_neg h] at p; exact p.elim
 ·exact p.elim
theorem Gpu{a b:Expr}{fa fb:Ev D}{pos:Pos}(ha:JE X XQ a fa)(hb:JE X XQ b fb):JE X XQ (.BinOp a .Add b pos) (o2 Hg fa fb):=Gc0 Glo Gpt ha hb
def Jr(x y:D)(S:Sto):Out D:=match x,y with
 | .int i,.int j=>if(-(2^64)<i/\i<2^64)\/(-(2^64)<j/\j<2^64) then .ok (.int (i*j)) S else .bad
 | .lst i,.int k=>match S[i]? with
  | some c=>if c.fz=false/\(-1000000<=k/\k<=1000000)/\c.xs.length*k.toNat<=1000000 then .ok (.lst S.length) (S++[⟨false,(List.replicate k.toNat c.xs).flatten⟩]) else .bad
  | none=>.bad
 | .tup l,.int k=>if 0<l.length/\(2<=k/\k<=1000000)/\l.length*k.toNat<=1000000 then .ok (.tup (List.replicate k.toNat l).flatten) S else .bad
 | _,_=>.bad
def Gnb(K:PySem.W.Frag):R2:=fun x y H Q=>rI CMul (fun i j=>.int (i*j)) x y H Q\/Gr7 x y H Q\/Gm6 K x y H Q
theorem Glp:OpR X (binaryOp .Mult) (Gnb X.K):=Goh.or (Goy.or Glm)
theorem RepL.flat{K:PySem.W.Frag}{mp:List Addr}{H:Hp}{l:List D}{vs:List V}(h:RepL K mp H l vs):∀ k:Nat,RepL K mp H (List.replicate k l).flatten (List.replicate k vs).flatten
 | 0=>RepL.nil
 | k+1=>by
  rw[List.replicate_succ,List.replicate_succ,List.flatten_cons,List.flatten_cons]
  exact RepL.append h (RepL.flat h k)
theorem Gpv{K:PySem.W.Frag}:OpD K (Gnb K) Jr:=by
 intro XQ σ ρ mp H S x y v u Q rs rx ry p
 unfold Jr at p
 split at p
 ·rename_i i j
  by_cases h:(-(2^64)<i/\i<2^64)\/(-(2^64)<j/\j<2^64)
  ·rw[if_pos h] at p
   exact .inl ⟨_,_,rx,ry,h,Gx.ok (R:=Rep K) p rs rfl⟩
  ·rw[if_neg h] at p; exact p.elim
 ·rename_i i k
  split at p
  ·rename_i c zc
   by_cases h:c.fz=false/\(-1000000<=k/\k<=1000000)/\c.xs.length*k.toNat<=1000000
   ·rw[if_pos h] at p
    obtain⟨a1,xs,rfl,_,_,q1,f1⟩:=rs.items rx zc
    exact .inr (.inl ⟨a1,k,xs,rfl,ry,f1 h.1,by omega,by omega,by rw[q1.len]; exact line_le h.2.2,fun q hq=>Vw p rs (q1.flat _) hq⟩)
   ·rw[if_neg h] at p; exact p.elim
  ·exact p.elim
 ·rename_i l k
  by_cases h:0<l.length/\(2<=k/\k<=1000000)/\l.length*k.toNat<=1000000
  ·rw[if_pos h] at p
   obtain⟨a1,xs,rfl,s1,q1⟩:=Rep.tup rx
   have hl:=q1.len
   exact .inr (.inr ⟨a1,k,xs,rfl,ry,s1,fun z=>by rw[z] at hl; simp at hl; omega,h.2.1.1,h.2.1.2,by rw[q1.len]; exact line_le h.2.2,fun q hq=>Xi p rs (q1.flat _) hq⟩)
  ·rw[if_neg h] at p; exact p.elim
 ·exact p.elim
theorem Gpw{a b:Expr}{fa fb:Ev D}{pos:Pos}(ha:JE X XQ a fa)(hb:JE X XQ b fb):JE X XQ (.BinOp a .Mult b pos) (o2 Jr fa fb):=Gc0 Glp Gpv ha hb
def Ghh(x:D)(S:Sto):Out D:=match x with
 | .int i=>.ok (.int (-i)) S
 | _=>.bad
def getD(x y:D)(S:Sto):Out D:=match x,y with
 | .tup l,.int i=>match atI l i with
  | some d=>.ok d S
  | none=>.bad
 | .lst k,.int i=>match S[k]? with
  | some c=>match atI c.xs i with
   | some d=>.ok d S
   | none=>.bad
  | none=>.bad
 | .str z,.int i=>if z.length<=1000000 then(match atI z.cps.toList i with
  | some c=>.ok (.str ⟨#[c]⟩) S
  | none=>.bad) else .bad
 | _,_=>.bad
theorem RepL.atI{K:PySem.W.Frag}{mp:List Addr}{H:Hp}{l:List D}{vs:List V}{i:Int}{d:D}(h:RepL K mp H l vs)(e:L2.atI l i=some d):∃ v,L2.atI vs i=some v/\Rep K mp H d v:=by
 unfold L2.atI at e ⊢
 rw[h.len]
 cases z:ixN l.length i with
 | none=>rw[z] at e; cases e
 | some j=>
  rw[z] at e
  exact h.get e
theorem Gpx{K:PySem.W.Frag}:OpD K (rIx K) getD:=by
 intro XQ σ ρ mp H S x y v u Q rs rx ry p
 unfold getD at p
 split at p
 ·rename_i l i
  split at p
  ·rename_i d zd
   obtain⟨a,xs,rfl,sq,q⟩:=Rep.tup rx
   obtain⟨w,hw,rw'⟩:=q.atI zd
   exact .inr (.inl ⟨a,xs,i,w,rfl,ry,sq,hw,Gx.ok (R:=Rep K) p rs rw'⟩)
  ·exact p.elim
 ·rename_i k i
  split at p
  ·rename_i c zc
   split at p
   ·rename_i d zd
    obtain⟨a,xs,rfl,_,sq,q,_⟩:=rs.items rx zc
    obtain⟨w,hw,rw'⟩:=q.atI zd
    exact .inl ⟨a,xs,i,w,rfl,ry,sq,hw,Gx.ok (R:=Rep K) p rs rw'⟩
   ·exact p.elim
  ·exact p.elim
 ·rename_i z i
  by_cases h:z.length<=1000000
  ·rw[if_pos h] at p
   split at p
   ·rename_i c zc
    exact .inr (.inr ⟨z,i,c,rx,ry,line_le h,zc,Gx.ok (R:=Rep K) p rs rfl⟩)
   ·exact p.elim
  ·rw[if_neg h] at p; exact p.elim
 ·exact p.elim
theorem Gpy{a b:Expr}{fa fb:Ev D}{pos:Pos}(ha:JE X XQ a fa)(hb:JE X XQ b fb)(hs:Ga0 b:=by intro _ _; rfl):JE X XQ (.Subscript a b pos) (o2 getD fa fb):=Gsa Gov Gpx ha hb hs
def Ys(x y z:D)(S:Sto):Option Sto:=match x,y with
 | .lst k,.int i=>match S[k]? with
  | some c=>match ixN c.xs.length i with
   | some j=>if c.fz=false then some (S.set k ⟨false,c.xs.set j z⟩) else none
   | none=>none
  | none=>none
 | _,_=>none
theorem Gpz{K:PySem.W.Frag}:Gse Gm0 K Ys:=by
 intro mp H S S' x y z v u w Q rs rx ry rz e k
 unfold Ys at e
 split at e
 ·rename_i kk i
  split at e
  ·rename_i c zc
   split at e
   ·rename_i j zj
    by_cases hf:c.fz=false
    ·rw[if_pos hf] at e
     cases (Option.some.inj e)
     obtain⟨a,xs,rfl,ha,sq,q,f⟩:=rs.items rx zc
     have hH:=f hf
     obtain⟨af,rs'⟩:=rs.setL ha zc hf hH (q.set j rz)
     exact⟨a,xs,i,j,rfl,ry,hH,by rw[q.len]; exact zj,k _ af rs'⟩
    ·rw[if_neg hf] at e; cases e
   ·cases e
  ·cases e
 ·cases e
theorem Giq{ob ix e:Expr}{f fo fi:Ev D}{pos p2:Pos}(he:JE X XQ e f)(hob:JE X XQ ob fo)(hix:JE X XQ ix fi)
  (hs:swapsWithSole [.Subscript ob ix p2] e pos.line X.env=pure false:=by rfl) (hw:swappedStores [.Subscript ob ix p2] e X.env=pure none:=by rfl)
  (h1:(assignEach [.Subscript ob ix p2] X.env).map (·.2)=[assign (.Subscript ob ix p2) X.env]:=by rfl) (ha:∀ v,assign (.Subscript ob ix p2) X.env v=(do
   let ov <- holding [v] (eval ob X.env)
   let iv <- holding [v,ov] (eval ix X.env)
   standAt p2
   holding [v,ov,iv] (setItem ov iv v)
   release [v,ov,iv] []):=by intro _; rfl):JS X XQ (.Assign [.Subscript ob ix p2] e pos) (ss f fo fi Ys):=Gph Gib Gpz he hob hix hs hw h1 ha
end
section
variable{X:Cx}{XQ:XW}
def BlD(K:PySem.W.Frag)(r:List V->Hp->VK->Prop)(o:List D->Sto->Out D):Prop:=
 ∀ (XQ:XW) (σ:L2.St) (ρ:Lc) (mp:List Addr) (H:Hp) (S:Sto) (xs:List D) (vs:List V) (Q:VK),RS K mp H S->RepL K mp H xs vs->Post K XQ σ ρ mp H (o xs S) Q->r vs H Q
def b1(o:List D->Sto->Out D)(f:Ev (List D)):Ev D:=fun ρ S=>(f ρ S).bind o
theorem cbR{r:List V->Hp->VK->Prop}{o:List D->Sto->Out D}{f:Ev (List D)}(hd:BlD X.K r o)(σ:L2.St)(H:Hp)(Q:VK)(h:rdE X.K XQ (b1 o f) σ H Q):tCB r (rdA X.K XQ f) σ H Q:=by
 obtain⟨mp,ρ,S,G,p⟩:=h
 exact bindP G p fun mp1 H1 xs S1 vs a1 G1 r1 p1=>hd XQ σ ρ mp1 H1 S1 xs vs Q G1.rs r1 p1
theorem Gfz{id:String}{x:Str}{p pos:Pos}{e:Expr}{es:List Expr}{r:List V->Hp->VK->Prop}{o:List D->Sto->Out D}{f:Ev (List D)}(hc:Xg X (.builtin id) r)(hd:BlD X.K r o)(hg:Gl X x)(hm:X.mg x=none)(hv:bootBuiltins x=some (.builtin id))(ha:JA X XQ (e::es) f)(hn:x≠"__name__":=by decide)(hdb:(x==("__debug__":Str))=false:=by decide)
  (he:starEach (e::es) X.env=(false,eval e X.env)::starEach es X.env:=by rfl) (hpl:(backTo pos (starEach es X.env)).any (·.1)=false:=by rfl):JE X XQ (.Call (.Name x p) (e::es) [] pos) (b1 o f):=
 PE.mono (Gen hc hg hm hv ha hn hdb he hpl) (cbR hd)
theorem Gir{T:String}{x:Str}{p pos:Pos}{e:Expr}{es:List Expr}{r:List V->Hp->VK->Prop}{o:List D->Sto->Out D}{f:Ev (List D)}(hc:Xg X (.type T) r)(hd:BlD X.K r o)(hg:Gl X x)(hm:X.mg x=none)(hv:bootBuiltins x=some (.type T))(ha:JA X XQ (e::es) f)(hn:x≠"__name__":=by decide)(hdb:(x==("__debug__":Str))=false:=by decide)
  (he:starEach (e::es) X.env=(false,eval e X.env)::starEach es X.env:=by rfl) (hpl:(backTo pos (starEach es X.env)).any (·.1)=false:=by rfl):JE X XQ (.Call (.Name x p) (e::es) [] pos) (b1 o f):=
 PE.mono (Ghd hc hg hm hv ha hn hdb he hpl) (cbR hd)
def Gz(xs:List D)(S:Sto):Out D:=match xs with
 | [.str z]=>if z.length<=1000000 then .ok (.int z.length) S else .bad
 | [.tup l]=>.ok (.int l.length) S
 | [.lst i]=>match S[i]? with
  | some c=>.ok (.int c.xs.length) S
  | none=>.bad
 | _=>.bad
theorem Gp0{K:PySem.W.Frag}:BlD K (fun xs H Q=>∃ x n,xs=[x]/\Grx K x H n/\Q (.int n) H) Gz:=by
 intro XQ σ ρ mp H S xs vs Q rs r p
 unfold Gz at p
 split at p
 ·rename_i z
  obtain⟨v,rfl,h⟩:=RepL.one r
  cases (show v=.str z from h)
  by_cases hz:z.length<=1000000
  ·rw[if_pos hz] at p
   exact⟨_,_,rfl,⟨line_le hz,rfl⟩,Gx.ok (R:=Rep K) p rs rfl⟩
  ·rw[if_neg hz] at p; exact p.elim
 ·rename_i l
  obtain⟨v,rfl,h⟩:=RepL.one r
  obtain⟨a,xs,rfl,sq,q⟩:=Rep.tup h
  exact⟨_,xs.length,rfl,.inr ⟨xs,sq,rfl⟩,Gx.ok (R:=Rep K) p rs (by rw[q.len]; rfl)⟩
 ·rename_i i
  obtain⟨v,rfl,h⟩:=RepL.one r
  split at p
  ·rename_i c zc
   obtain⟨a,xs,rfl,_,sq,q,_⟩:=rs.items h zc
   exact⟨_,xs.length,rfl,.inl ⟨xs,sq,rfl⟩,Gx.ok (R:=Rep K) p rs (by rw[q.len]; rfl)⟩
  ·exact p.elim
 ·exact p.elim
theorem Gp1{p pos:Pos}{e:Expr}{f:Ev (List D)}(hg:Gl X "len")(hm:X.mg "len"=none)(ha:JA X XQ [e] f)(he:starEach [e] X.env=(false,eval e X.env)::starEach [] X.env:=by rfl):JE X XQ (.Call (.Name "len" p) [e] [] pos) (b1 Gz f):=Gfz Gh7 Gp0 hg hm PySem.boot_len ha (he:=he)
def Xe(xs:List D)(S:Sto):Out D:=match xs with
 | [.tup l]=>.ok (.lst S.length) (S++[⟨false,l⟩])
 | [.lst i]=>match S[i]? with
  | some c=>.ok (.lst S.length) (S++[⟨false,c.xs⟩])
  | none=>.bad
 | _=>.bad
theorem Glq{K:PySem.W.Frag}:BlD K (fun xs H Q=>∃ p ys,xs=[.ref p]/\(SqL K H p ys\/SqT K H p ys)/\∀ l,H l=none->Q (.ref l) (upd H l (.lst ys))) Xe:=by
 intro XQ σ ρ mp H S xs vs Q rs r p
 unfold Xe at p
 split at p
 ·obtain⟨v,rfl,h⟩:=RepL.one r
  obtain⟨a,xs,rfl,sq,q⟩:=Rep.tup h
  exact⟨a,xs,rfl,.inr sq,fun l hl=>Vw p rs q hl⟩
 ·obtain⟨v,rfl,h⟩:=RepL.one r
  split at p
  ·rename_i c zc
   obtain⟨a,xs,rfl,_,sq,q,_⟩:=rs.items h zc
   exact⟨a,xs,rfl,.inl sq,fun l hl=>Vw p rs q hl⟩
  ·exact p.elim
 ·exact p.elim
def Gad(xs:List D)(S:Sto):Out D:=match xs with
 | [.tup l]=>.ok (.tup l) S
 | [.lst i]=>match S[i]? with
  | some c=>.ok (.tup c.xs) S
  | none=>.bad
 | _=>.bad
theorem Gis{K:PySem.W.Frag}:BlD K (fun xs H Q=>∃ p ys,xs=[.ref p]/\((SqL K H p ys/\∀ l,H l=none->Q (.ref l) (upd H l (.tup ys)))\/(SqT K H p ys/\Q (.ref p) H))) Gad:=by
 intro XQ σ ρ mp H S xs vs Q rs r p
 unfold Gad at p
 split at p
 ·obtain⟨v,rfl,h⟩:=RepL.one r
  obtain⟨a,xs,rfl,sq,q⟩:=Rep.tup h
  exact⟨a,xs,rfl,.inr ⟨sq,Gx.ok (R:=Rep K) p rs h⟩⟩
 ·obtain⟨v,rfl,h⟩:=RepL.one r
  split at p
  ·rename_i c zc
   obtain⟨a,xs,rfl,_,sq,q,_⟩:=rs.items h zc
   exact⟨a,xs,rfl,.inl ⟨sq,fun l hl=>Xi p rs q hl⟩⟩
  ·exact p.elim
 ·exact p.elim
theorem Glr{p pos:Pos}{e:Expr}{f:Ev (List D)}(hg:Gl X "list")(hm:X.mg "list"=none)(ha:JA X XQ [e] f)(he:starEach [e] X.env=(false,eval e X.env)::starEach [] X.env:=by rfl):JE X XQ (.Call (.Name "list" p) [e] [] pos) (b1 Xe f):=Gir Gdh Glq hg hm (by rfl) ha (he:=he)
theorem Git{p pos:Pos}{e:Expr}{f:Ev (List D)}(hg:Gl X "tuple")(hm:X.mg "tuple"=none)(ha:JA X XQ [e] f)(he:starEach [e] X.env=(false,eval e X.env)::starEach [] X.env:=by rfl):JE X XQ (.Call (.Name "tuple" p) [e] [] pos) (b1 Gad f):=Gir Gcf Gis hg hm (by rfl) ha (he:=he)
def Gbb(xs:List D)(S:Sto):Out D:=match xs with
 | [.int i,.int j]=>.ok (.int (if j<i then j else i)) S
 | _=>.bad
theorem Gp2{K:PySem.W.Frag}:BlD K (fun xs H Q=>∃ i j,xs=[.int i,.int j]/\Q (.int (if j<i then j else i)) H) Gbb:=by
 intro XQ σ ρ mp H S xs vs Q rs r p
 unfold Gbb at p
 split at p
 ·rename_i i j
  obtain⟨v,w,rfl,h1,h2⟩:=RepL.two r
  cases (show v=.int i from h1); cases (show w=.int j from h2)
  exact⟨i,j,rfl,Gx.ok (R:=Rep K) p rs rfl⟩
 ·exact p.elim
theorem Gp3{p pos:Pos}{e e':Expr}{f:Ev (List D)}(hc:X.calm=true)(hg:Gl X "min")(hm:X.mg "min"=none)(ha:JA X XQ [e,e'] f)(he:starEach [e,e'] X.env=(false,eval e X.env)::starEach [e'] X.env:=by rfl)(hpl:(backTo pos (starEach [e'] X.env)).any (·.1)=false:=by rfl):JE X XQ (.Call (.Name "min" p) [e,e'] [] pos) (b1 Gbb f):=Gfz (Gha hc) Gp2 hg hm (by rfl) ha (he:=he) (hpl:=hpl)
def Ghi(xs:List D)(S:Sto):Out D:=match xs with
 | [.int i]=>.ok (.int i) S
 | [.bl b]=>.ok (.int (if b then 1 else 0)) S
 | _=>.bad
theorem Gp4{K:PySem.W.Frag}:BlD K (fun xs H Q=>(∃ i,xs=[.int i]/\Q (.int i) H)\/∃ k,xs=[.bl k]/\Q (.int (if k then 1 else 0)) H) Ghi:=by
 intro XQ σ ρ mp H S xs vs Q rs r p
 unfold Ghi at p
 split at p
 ·rename_i i
  obtain⟨v,rfl,h⟩:=RepL.one r
  cases (show v=.int i from h)
  exact .inl ⟨i,rfl,Gx.ok (R:=Rep K) p rs rfl⟩
 ·rename_i b
  obtain⟨v,rfl,h⟩:=RepL.one r
  cases (show v=.bl b from h)
  exact .inr ⟨b,rfl,Gx.ok (R:=Rep K) p rs rfl⟩
 ·exact p.elim
theorem Gls{p pos:Pos}{e:Expr}{f:Ev (List D)}(hg:Gl X "int")(hm:X.mg "int"=none)(ha:JA X XQ [e] f)(he:starEach [e] X.env=(false,eval e X.env)::starEach [] X.env:=by rfl):JE X XQ (.Call (.Name "int" p) [e] [] pos) (b1 Ghi f):=Gir Ghb Gp4 hg hm (by rfl) ha (he:=he)
def Gu4(x y:D)(S:Sto):Out D:=match x,y with
 | .non,.non=>.ok (.bl true) S
 | .bl _,.non=>.ok (.bl false) S
 | .int _,.non=>.ok (.bl false) S
 | .str _,.non=>.ok (.bl false) S
 | .tup _,.non=>.ok (.bl false) S
 | .lst _,.non=>.ok (.bl false) S
 | .exn _ _,.non=>.ok (.bl false) S
 | _,_=>.bad
def Xl(x y:D)(S:Sto):Out D:=match x,y with
 | .non,.non=>.ok (.bl false) S
 | .bl _,.non=>.ok (.bl true) S
 | .int _,.non=>.ok (.bl true) S
 | .str _,.non=>.ok (.bl true) S
 | .tup _,.non=>.ok (.bl true) S
 | .lst _,.non=>.ok (.bl true) S
 | .exn _ _,.non=>.ok (.bl true) S
 | _,_=>.bad
theorem Glt{K:PySem.W.Frag}:OpD K (fun x y H Q=>y=.non/\Q (.bl (!decide (x=.non))) H) Xl:=by
 intro XQ σ ρ mp H S x y v u Q rs rx ry p
 cases y with
 | non=>
  refine⟨ry,?_⟩
  cases x with
  | non=>cases (show v=.non from rx); exact Gx.ok (R:=Rep K) p rs (by rfl)
  | bl b=>cases (show v=.bl b from rx); exact Gx.ok (R:=Rep K) p rs (by rfl)
  | int b=>cases (show v=.int b from rx); exact Gx.ok (R:=Rep K) p rs (by rfl)
  | str b=>cases (show v=.str b from rx); exact Gx.ok (R:=Rep K) p rs (by rfl)
  | tup l=>obtain⟨a,xs,rfl,_⟩:=Rep.tup rx; exact Gx.ok (R:=Rep K) p rs (by rfl)
  | lst i=>obtain⟨a,rfl,_⟩:=(show ∃ a,v=.ref a/\mp[i]?=some a from rx); exact Gx.ok (R:=Rep K) p rs (by rfl)
  | exn c n=>obtain⟨a,dx,_,rfl,_⟩:=(show ∃ a dx p,v=.ref a/\(CN K c p/\XCl K p/\H a=some (XO a p dx))/\∀ i,n=some i->∃ d,dx=some d/\H d=some (XA d i) from rx); exact Gx.ok (R:=Rep K) p rs (by rfl)
  | fv c=>exact(show False from p).elim
 | _=>cases x<;>exact(show False from p).elim
theorem Glu{a b:Expr}{fa fb:Ev D}{pos:Pos}(ha:JE X XQ a fa)(hb:JE X XQ b fb):JT X XQ (.Compare a [.IsNot] [b] pos) (tb (o2 Xl fa fb)):=Gft Gkt Glt ha hb (nomark _)
def Vx(xs:List D)(lo hi:Option Int):List D:=(xs.drop (HT.sIx xs.length 0 lo)).take (HT.sIx xs.length xs.length hi-HT.sIx xs.length 0 lo)
theorem RepL.cut{K:PySem.W.Frag}{mp:List Addr}{H:Hp}{l:List D}{vs:List V}(h:RepL K mp H l vs)(lo hi:Option Int):RepL K mp H (Vx l lo hi) (Geo vs lo hi):=by
 unfold Vx Geo
 rw[h.len]
 exact(h.drop _).take _
def slD(x:D)(lo hi:Option Int)(S:Sto):Out D:=match x with
 | .tup l=>if HT.sIx l.length 0 lo=0/\HT.sIx l.length l.length hi=l.length then .bad else .ok (.tup (Vx l lo hi)) S
 | .lst i=>match S[i]? with
  | some c=>.ok (.lst S.length) (S++[⟨false,Vx c.xs lo hi⟩])
  | none=>.bad
 | _=>.bad
def sl(fe:Ev D)(fl fh:Ev (Option Int)):Ev D:=fun ρ S=>(fe ρ S).bind fun x S1=>(fl ρ S1).bind fun l S2=>(fh ρ S2).bind fun u S3=>slD x l u S3
def onone:Ev (Option Int):=fun _ S=>.ok none S
def osome(f:Ev D):Ev (Option Int):=fun ρ S=>(f ρ S).bind fun x S1=>match x with
 | .int i=>.ok (some i) S1
 | _=>.bad
theorem Glv:JO X XQ none onone:=PO.mono Gkz fun σ H Q ⟨mp,ρ,S,G,p⟩=>Gx.ok (R:=kO) (show Gx X.K kO XQ σ ρ mp H (.ok none S) Q from p) G.rs rfl
theorem Glw{e:Expr}{f:Ev D}(h:JE X XQ e f):JO X XQ (some e) (osome f):=PO.mono (Gk0 h) fun σ H Q ⟨mp,ρ,S,G,p⟩=>bindP G p fun mp1 H1 x S1 v a1 G1 r1 p1=>by
 cases x with
 | int i=>exact⟨i,r1,Gx.ok (R:=kO) p1 G1.rs rfl⟩
 | _=>exact(show False from p1).elim
def MeD(K:PySem.W.Frag)(r:V->List V->Hp->VK->Prop)(o:D->List D->Sto->Out D):Prop:=
 ∀ (XQ:XW) (σ:L2.St) (ρ:Lc) (mp:List Addr) (H:Hp) (S:Sto) (x:D) (xs:List D) (v:V) (vs:List V) (Q:VK),RS K mp H S->Rep K mp H x v->RepL K mp H xs vs->Post K XQ σ ρ mp H (o x xs S) Q->r v vs H Q
def isLst(x:D)(S:Sto):Bool:=match x with
 | .lst i=>match S[i]? with
  | some _=>true
  | none=>false
 | _=>false
def mt(o:D->List D->Sto->Out D)(fo:Ev D)(f:Ev (List D)):Ev D:=fun ρ S=>(fo ρ S).bind fun x S1=>if isLst x S1=true then(f ρ S1).bind fun xs S2=>o x xs S2 else .bad
theorem Gdo{id:String}{name:Str}{o e:Expr}{es:List Expr}{apos cpos:Pos}{r:V->List V->Hp->VK->Prop}{od:D->List D->Sto->Out D}{fo:Ev D}{f:Ev (List D)}(slot:Slot "list" name id)(hty:typeOf (.builtin id)=pure (.type "method_descriptor"))(hm:MtM X id r)(hd:MeD X.K r od)(ho:JE X XQ o fo)(ha:JA X XQ (e::es) f)
  (hbase:attributeBase o name X.env (eval o X.env)=eval o X.env:=by rfl)
  (hfew:((backTo cpos (starEach (e::es) X.env)).all (fun x=>!x.1)&&(backToKw cpos (keywordEach [] X.env)).all (fun x=>x.1.isSome)
   && decide ((e::es).length+([]:List Keyword).length+(if([]:List Keyword).isEmpty then 0 else 1)<30))=true:=by rfl)
  (hline:(apos.endLine==cpos.line)=true:=by rfl) (hs:starEach (e::es) X.env=(false,eval e X.env)::starEach es X.env:=by rfl) (hplain:(backTo cpos (starEach es X.env)).any (·.1)=false:=by rfl):
  JE X XQ (.Call (.Attribute o name apos) (e::es) [] cpos) (mt od fo f):=by
 refine PE.mono (Gm1 PySem.F.plainAttrs_list slot hty hm ho ha hbase hfew hline hs hplain) fun σ H Q ⟨mp,ρ,S,G,p⟩=>?_
 refine bindP G p fun mp1 H1 x S1 v a1 G1 r1 p1=>?_
 by_cases hl:isLst x S1=true
 ·rw[if_pos hl] at p1
  have ty:tyV X.K "list" v H1:=by
   cases x with
   | lst i=>
    cases zc:S1[i]? with
    | none=>simp[isLst,zc] at hl
    | some c=>
     obtain⟨a,xs,rfl,_,sq,_⟩:=G1.rs.items r1 zc
     exact .inl ⟨rfl,xs,sq⟩
   | _=>simp[isLst] at hl
  exact⟨ty,bindP G1 p1 fun mp2 H2 xs S2 vs a2 G2 r2 p2=>hd XQ σ ρ mp2 H2 S2 x xs v vs Q G2.rs (Rep.aft a2 _ _ r1) r2 p2⟩
 ·rw[if_neg hl] at p1; exact p1.elim
def Yi(x:D)(xs:List D)(S:Sto):Out D:=match x,xs with
 | .lst i,[d]=>match S[i]? with
  | some c=>if c.fz=false/\c.xs.length<1000000 then .ok .non (S.set i ⟨false,c.xs++[d]⟩) else .bad
  | none=>.bad
 | _,_=>.bad
theorem Gp5{K:PySem.W.Frag}:MeD K Ggg Yi:=by
 intro XQ σ ρ mp H S x xs v vs Q rs rx r p
 unfold Yi at p
 split at p
 ·rename_i i d
  split at p
  ·rename_i c zc
   by_cases hc:c.fz=false/\c.xs.length<1000000
   ·rw[if_pos hc] at p
    obtain⟨w,rfl,hw⟩:=RepL.one r
    obtain⟨a,ys,rfl,ha,sq,q,f⟩:=rs.items rx zc
    have hH:=f hc.1
    obtain⟨af,rs'⟩:=rs.setL ha zc hc.1 hH (RepL.append q (RepL.cons hw RepL.nil))
    exact⟨a,ys,w,rfl,rfl,hH,by rw[q.len]; exact Nat.lt_of_lt_of_le hc.2 (by decide),p mp _ _ af rs' rfl⟩
   ·rw[if_neg hc] at p; exact p.elim
  ·exact p.elim
 ·exact p.elim
theorem Ghj{o e:Expr}{apos cpos:Pos}{fo:Ev D}{f:Ev (List D)}(ho:JE X XQ o fo)(ha:JA X XQ [e] f)(hbase:attributeBase o "append" X.env (eval o X.env)=eval o X.env:=by rfl)
  (hfew:((backTo cpos (starEach [e] X.env)).all (fun x=>!x.1)&&(backToKw cpos (keywordEach [] X.env)).all (fun x=>x.1.isSome)
   && decide ([e].length+([]:List Keyword).length+(if([]:List Keyword).isEmpty then 0 else 1)<30))=true:=by rfl)
  (hline:(apos.endLine==cpos.line)=true:=by rfl) (hs:starEach [e] X.env=(false,eval e X.env)::starEach [] X.env:=by rfl):
  JE X XQ (.Call (.Attribute o "append" apos) [e] [] cpos) (mt Yi fo f):=Gdo PySem.F.slot_list_append PySem.F.type_list_append Gcy Gp5 ho ha hbase hfew hline hs rfl
end
section
variable{X:Cx}{XQ:XW}
theorem Gp6{K:PySem.W.Frag}:UnD K (rU fun i=>.int (-i)) Ghh:=by
 intro XQ σ ρ mp H S x v Q rs rx p
 cases x with
 | int i=>exact⟨i,rx,Gx.ok (R:=Rep K) (show Post K XQ σ ρ mp H (.ok (.int (-i)) S) Q from p) rs rfl⟩
 | _=>exact(show False from p).elim
theorem Gp7{a:Expr}{fa:Ev D}{pos:Pos}(ha:JE X XQ a fa):JE X XQ (.UnaryOp .USub a pos) (o1 Ghh fa):=Gsb Gok Gp6 ha
def ch(o o':D->D->Sto->Out D)(fa fb fc:Ev D):Ev D:=fun ρ S=>(fa ρ S).bind fun x S1=>(fb ρ S1).bind fun y S2=>(o x y S2).bind fun z S3=>match z with
 | .bl k=>if k=true then(fc ρ S3).bind fun w S4=>o' y w S4 else .ok (.bl false) S3
 | _=>.bad
theorem Gp8{K:PySem.W.Frag}{r r':R2}{o o':D->D->Sto->Out D}{fa fb fc:Ev D}(hd:OpD K r o)(hd':OpD K r' o')(σ:L2.St)(H:Hp)(Q:VK)(h:rdE K XQ (ch o o' fa fb fc) σ H Q):Gh4 r r' (rdE K XQ fa) (rdE K XQ fb) (rdE K XQ fc) σ H Q:=by
 obtain⟨mp,ρ,S,G,p⟩:=h
 refine bindP G p fun mp1 H1 x S1 v a1 G1 r1 p1=>?_
 refine bindP G1 p1 fun mp2 H2 y S2 u a2 G2 r2 p2=>?_
 refine hd XQ σ ρ mp2 H2 S2 x y v u _ G2.rs (Rep.aft a2 _ _ r1) r2 ?_
 cases z:o x y S2 with
 | bad=>rw[z] at p2; exact p2
 | exc e S3=>rw[z] at p2; exact p2
 | ok d S3=>
  rw[z] at p2
  intro mp3 H3 zv a3 rs3 r3
  have p3:=Gx.aft p2 a3
  have G3:=G2.aft a3 rs3
  cases d with
  | bl k=>
   refine⟨k,r3,?_⟩
   cases k with
   | true=>exact(if_pos rfl).mpr (bindP (f:=fc) G3 (by simpa[Out.bind] using p3) fun mp4 H4 w S4 wv a4 G4 r4 p4=>hd' XQ σ ρ mp4 H4 S4 y w u wv Q G4.rs (Rep.aft (a3.trans a4) _ _ r2) r4 p4)
   | false=>exact(if_neg Bool.false_ne_true).mpr (Gx.ok (R:=Rep K) (d:=.bl false) (S:=S3) (by simpa[Out.bind] using p3) G3.rs rfl)
  | _=>exact(show False from p3).elim
theorem Giu{a b c:Expr}{op op':CmpOp}{r r':R2}{o o':D->D->Sto->Out D}{fa fb fc:Ev D}{pos:Pos}(ho:OpR X (compareOp op) r)(hd:OpD X.K r o)(ho':OpR X (compareOp op') r')(hd':OpD X.K r' o')(ha:JE X XQ a fa)(hb:JE X XQ b fb)(hc:JE X XQ c fc)
  (hm:lastMarks [op,op'] [b,c]=false:=by with_unfolding_all rfl):JE X XQ (.Compare a [op,op'] [b,c] pos) (ch o o' fa fb fc):=PE.mono (Gh5 ho ho' ha hb hc hm) (Gp8 hd hd')
theorem Gnc{K:PySem.W.Frag}:OpD K (rI0 fun i j=>.bl (decide (i<=j))) leD:=od_int0 fun _ _ _ _=>rfl
end
def XAt(a c:Addr)(h:Heap):Prop:=∃ oe,h.get? a=some oe/\oe.cls=.ref c/\∃ vs,oe.data=.fields vs
section
variable{prog:Program}{w:World}{A:Around}{E:Value->Shared->Prop}{h:Heap}{g:Array GenState}{d:Drawn}{t:Nat}{os:OsState}{a c:Addr}{o:Obj}{K:PySem.W.Frag}
theorem Gp9{M:Model}(x:XAt a c h):PySem.W.Looks M h (typeOf (.ref a)) (.ref c):=by
 obtain⟨oe,h1,h2,_⟩:=x
 exact h2▸(PySem.W.Looks.ld h1).andThen .now
theorem Gqa{tp:Value}{R:Result->Shared->Prop}(X:K.In h)(k:XCl K c)(x:XAt a c h)(hq:R (.ok (.ret (.ref c))) ⟨h,g,d,t,os⟩):
  codeAny (model prog w) A (.call (.builtin "getset_descriptor.__get__") ⟨[.builtin "object.__class__",.ref a,tp],[]⟩) R ⟨h,g,d,t,os⟩:=by
 obtain⟨oe,hx,hc,_⟩:=x
 have hT5:(⟨h,g,d,t,os⟩:Shared).TypeIs (.builtin "object.__class__") "getset_descriptor":=F.typeOf_object_class
 refine codeAny_call_builtin F.slot_gs_get.plain F.entry_gs_get (F.slot_gs_get.check _ _ _ _ _ _ _ _ hT5 (F.args_gs_get _ _ _) ?_)
 have L1:=fun(M:Model)=>PySem.W.looks_mroIn (M:=M) X k.ob
 have ow:=F.owner_object_class
 repeat (any_goals (first | assumption | (with_reducible refine wpAny_loadPart_at hx ?_; rw[hc]) | (rw[ow]; with_reducible refine(L1 _).here ?_) | wp_step))
 refine⟨Code.quiet_builtin _ (by decide +kernel),codeAny_builtin F.entry_object_class ?_⟩
 repeat (any_goals (first | assumption | (with_reducible refine wpAny_loadPart_at hx ?_; rw[hc]) | wp_step))
theorem Giv{M:Model}{nameV:Value}{Q:Unit->Shared->Prop}(X:K.In h)(k:XCl K c)(x:XAt a c h)(hq:Q () ⟨h,g,d,t,os⟩):wpAny M A (checkBuiltinCall "BaseException.__getattribute__" ⟨[.ref a,nameV],[]⟩) Q E ⟨h,g,d,t,os⟩:=by
 obtain⟨oe,hx,hc,_⟩:=x
 have bk:builtinKind "BaseException.__getattribute__"=some .slot:=by decide +kernel
 have bs:splitId "BaseException.__getattribute__"=some ("BaseException","__getattribute__"):=by decide +kernel
 have ha:=F.args_bexc_ga (.ref a) nameV
 have L1:PySem.W.Looks M h (isSubtype (.ref c) (.type "BaseException")) true:=PySem.W.looks_subIn X k.be
 simp only[checkBuiltinCall,bk,bs]
 refine wpAny_bind ?_
 ·unfold isInstance
  repeat (first | (with_reducible refine wpAny_loadPart_at hx ?_; rw[hc]) | (with_reducible refine L1.here ?_) | wp_step)
  exact hq
theorem Giw{tk:Tok}{Q:Fin->Shared->Prop}(X:K.In h)(k:XCl K c)(x:XAt a c h)(hq:Q (.done (.ret (.ref c))) ⟨h,g,d,t,os⟩):
  wpAny (model prog w) A (Builtin.«object.__getattribute__» ⟨[.ref a,.str "__class__" tk],[]⟩) Q E ⟨h,g,d,t,os⟩:=by
 obtain⟨oe,hx,hc,hv⟩:=id x
 have hT5:(⟨h,g,d,t,os⟩:Shared).TypeIs (.builtin "object.__class__") "getset_descriptor":=F.typeOf_object_class
 have f5:=F.typeOf_object_class
 have f6:=F.slot_gs_get.lookup
 have f7:=F.slot_gs_set.lookup
 have L1:=fun(M:Model)=>PySem.W.looks_findIn (M:=M) X k.cl
 repeat (any_goals (first | assumption | (with_reducible refine wpAny_loadPart_at hx ?_; rw[hc]) | with_reducible refine(L1 _).here ?_ | wp_step))
 refine Gqa X k x ?_
 repeat (any_goals (first | assumption | wp_step))
theorem Gsp{tk:Tok}{fill expr:Bool}{Q:Value->Shared->Prop}(X:K.In h)(k:XCl K c)(x:XAt a c h)(hq:Q (.ref c) ⟨h,g,d,t,os⟩):
  wpAny (model prog w) A (getAttrBy (.ref a) (.str "__class__" tk) fill expr) Q E ⟨h,g,d,t,os⟩:=by
 obtain⟨oe,hx,hc,hv⟩:=id x
 have f3:=PySem.F.excAttr_ValueError.ga.bind (.ref a)
 have n0:(expr&&onTheHeap (Value.builtin "BaseException.__getattribute__"))=false:=by cases expr<;>rfl
 have n2:(Value.builtin "BaseException.__getattribute__"==Value.builtin "object.__getattribute__")=false:=by decide +kernel
 have n1:(onTheHeap (Value.ref c)&&Value.builtin "BaseException.__getattribute__"==Value.builtin "object.__getattribute__")=false:=by rw[n2]; rfl
 have L1:=fun(M:Model)=>PySem.W.looks_findIn (M:=M) X k.ga
 have L2:=fun(M:Model)=>PySem.W.looks_findIn (M:=M) X k.gt
 repeat (any_goals (first | assumption | (with_reducible refine wpAny_loadPart_at hx ?_; rw[hc]) | with_reducible refine(L1 _).here ?_ | with_reducible refine(L2 _).here ?_ | wp_step))
 refine codeAny_call_builtin PySem.F.excAttr_ValueError.ga.plain F.entry_bexc_ga (Giv X k x (Giw X k x ?_))
 repeat (any_goals (first | assumption | wp_step))
theorem Glx{Q:Option Value->Shared->Prop}(X:K.In h)(k:XCl K c)(x:XAt a c h)(hq:Q (some (.ref c)) ⟨h,g,d,t+1,os⟩):wpAny (model prog w) A (getAttr? (.ref a) "__class__") Q E ⟨h,g,d,t,os⟩:=by
 unfold getAttr? getAttrBy?
 repeat (any_goals (first | assumption | with_reducible apply Gsp X k x | wp_step))
end
theorem Gix{K:PySem.W.Frag}{a c:Addr}(k:XCl K c):PySem.W.KitX K (.ref a) (.ref c) (XAt a c) where
 ty:=fun _ _ _ x=>Gp9 x
 it:=fun _ _ X _=>by
  obtain⟨cd,hc⟩:=Option.isSome_iff_exists.mp k.cd
  unfold PySem.W.clsIn at hc
  split at hc
  ·rename_i c' d' cd' sl' ho
   intro A Q E s kp q
   unfold isType loadHead
   exact wpAny_bind (wpAny_loadPart (kp _ _ (X _ _ ho)) (wpAny_pure q))
  ·cases hc
 ne:=fun h tp dd its n sl X htp=>by
  obtain⟨cd,hc⟩:=Option.isSome_iff_exists.mp k.cd
  refine Bool.eq_false_iff.mpr fun q=>?_
  have e:c=tp:=Value.ref.inj (beq_iff_eq.mp q)
  subst e
  unfold PySem.W.clsIn at hc
  split at hc
  ·rename_i c' d' cd' sl' ho
   cases (X _ _ ho).symm.trans htp
  ·cases hc
 ca:=fun{prog w A E Q s} X x q=>by
  obtain⟨hh,g,d,t,os⟩:=s
  exact Glx X k x q
def tyN:D->String
 | .non=>"NoneType"
 | .bl _=>"bool"
 | .int _=>"int"
 | .str _=>"str"
 | .tup _=>"tuple"
 | .lst _=>"list"
 | .exn _ _=>"exn"
 | .fv _=>"fv"
def isT(T t:String):Bool:=t==T||(T=="int"&&t=="bool")
def isD(T:String)(x:D)(S:Sto):Out D:=match x with
 | .fv _=>.bad
 | _=>.ok (.bl (isT T (tyN x))) S
def Kit(K:PySem.W.Frag)(T:String):Prop:=T∈["bool","int","str","tuple","list"]/\∀ t∈["NoneType","bool","int","str","tuple","list"],PySem.W.kitOne K (.type t) (.type T)=some (isT T t)
theorem Ggi{K:PySem.W.Frag}:Kit K "int":=by refine⟨by decide,?_⟩; intro t h; simp only[List.mem_cons,List.mem_nil_iff,or_false] at h; rcases h with rfl | rfl | rfl | rfl | rfl | rfl<;>first | rfl | decide +kernel | (with_unfolding_all rfl)
theorem Gbc{K:PySem.W.Frag}:Kit K "bool":=by refine⟨by decide,?_⟩; intro t h; simp only[List.mem_cons,List.mem_nil_iff,or_false] at h; rcases h with rfl | rfl | rfl | rfl | rfl | rfl<;>first | rfl | decide +kernel | (with_unfolding_all rfl)
theorem Ks{K:PySem.W.Frag}:Kit K "tuple":=by refine⟨by decide,?_⟩; intro t h; simp only[List.mem_cons,List.mem_nil_iff,or_false] at h; rcases h with rfl | rfl | rfl | rfl | rfl | rfl<;>first | rfl | decide +kernel | (with_unfolding_all rfl)
theorem Ggj{K:PySem.W.Frag}:Kit K "str":=by refine⟨by decide,?_⟩; intro t h; simp only[List.mem_cons,List.mem_nil_iff,or_false] at h; rcases h with rfl | rfl | rfl | rfl | rfl | rfl<;>first | rfl | decide +kernel | (with_unfolding_all rfl)
section
variable{X:Cx}{XQ:XW}
def Gtz(K:PySem.W.Frag)(T:String):List V->Hp->VK->Prop:=fun vs H Q=>∃ x t,vs=[x,.ty T]/\(match x with
 | .non=>t="NoneType" | .bl _=>t="bool" | .int _=>t="int" | .str _=>t="str"
 | .ref a=>(t="tuple"/\∃ xs,SqT K H a xs)\/(t="list"/\∃ xs,SqL K H a xs)\/(t="exn"/\∃ c dx,XCl K c/\H a=some (XO a c dx))
 | _=>False)/\Q (.bl (isT T t)) H
theorem Gsq{pins:List (Addr×Obj)}{σ:L2.St}{H:Hp}{s:Shared}{a c:Addr}{dx:Option Addr}(I:Inv X pins σ H s)(h:H a=some (XO a c dx)):XAt a c s.heap:=by
 obtain⟨⟨oe,h1,h2,_,h3⟩,_,_⟩:=(show Ug X.prog X.w H s.heap a (XO a c dx) from I.hok a _ h)
 exact⟨oe,h1,h2,h3⟩
theorem Gly{T:String}(h:T∈["bool","int","str","tuple","list"]):isT T "exn"=false:=by
 simp only[List.mem_cons,List.mem_nil_iff,or_false] at h
 rcases h with rfl | rfl | rfl | rfl | rfl<;>rfl
theorem Giy{T:String}(k:Kit X.K T):Xg X (.builtin "isinstance") (Gtz X.K T):=by
 intro pins s σ H xs us Q I r ⟨x,t,e,h,q⟩
 subst e
 obtain⟨u,w,rfl,ru,rw'⟩:=Vals.two r
 cases (show w=Value.type T from rw')
 have fin:∀ tk,EP X pins σ Q (.bool (isT T t)) { s with toks:=tk }:=fun tk=>⟨.bl _,H,I.tok tk,rfl,q⟩
 cases x with
 | non=>cases (show u=Value.none from ru); cases (show t="NoneType" from h); exact PySem.W.kia_one PySem.W.kitx_none I.kIn True.intro (k.2 _ (by decide)) (fun z=>nomatch z) fin
 | bl y=>cases (show u=Value.bool y from ru); cases (show t="bool" from h); exact PySem.W.kia_one PySem.W.kitx_bool I.kIn True.intro (k.2 _ (by decide)) (fun z=>nomatch z) fin
 | int i=>obtain⟨tk,e⟩:=(show ∃ t,u=Value.int i t from ru); cases e; cases (show t="int" from h); exact PySem.W.kia_one PySem.W.kitx_int I.kIn True.intro (k.2 _ (by decide)) (fun z=>nomatch z) fin
 | str y=>obtain⟨tk,e⟩:=(show ∃ t,u=Value.str y t from ru); cases e; cases (show t="str" from h); exact PySem.W.kia_one PySem.W.kitx_str I.kIn True.intro (k.2 _ (by decide)) (fun z=>nomatch z) fin
 | ref a=>
  cases (show u=Value.ref a from ru)
  rcases h with⟨rfl,xs,sq⟩ | ⟨rfl,xs,sq⟩ | ⟨rfl,c,dx,xc,hH⟩
  ·obtain⟨its,_,⟨o,h1,h2,_⟩,_⟩:=I.tuple sq
   exact PySem.W.kia_one PySem.W.kitx_tuple I.kIn ⟨o,h1,h2⟩ (k.2 _ (by decide)) (fun z=>nomatch z) fin
  ·obtain⟨its,_,⟨o,n,h1,h2,_⟩,_⟩:=I.list sq
   exact PySem.W.kia_one PySem.W.kitx_list I.kIn ⟨o,h1,h2⟩ (k.2 _ (by decide)) (fun z=>nomatch z) fin
  ·have xa:=Gsq I hH
   have e:isT T "exn"=false:=Gly k.1
   rw[e] at fin
   exact PySem.W.kia_one (Gix xc) I.kIn xa (xc.bt T k.1) (fun z=>nomatch z) fin
 | _=>exact h.elim
theorem Gqb{T:String}{x:Str}{e:Expr}{f:Ev D}{p p2 pos:Pos}(k:Kit X.K T)(hv:bootBuiltins x=some (.type T))(hnx:x≠"__name__")(hdx:(x==("__debug__":Str))=false)(hg:Gl X "isinstance")(hm:X.mg "isinstance"=none)(hgt:Gl X x)(hmt:X.mg x=none)(he:JE X XQ e f)
  (hs:starEach [e,.Name x p2] X.env=(false,eval e X.env)::starEach [.Name x p2] X.env) (hpl:(backTo pos (starEach [.Name x p2] X.env)).any (·.1)=false) (hs2:starEach [.Name x p2] X.env=(false,eval (.Name x p2) X.env)::starEach [] X.env):
  JE X XQ (.Call (.Name "isinstance" p) [e,.Name x p2] [] pos) (o1 (isD T) f):=by
 refine PE.mono (Gen (Giy k) hg hm (by rfl) (Gdd he (Gdd (Gkl hgt hmt hv (v:=.ty T) rfl hnx hdx) Gh8 hs2) hs) (by decide) (by decide) hs hpl) fun σ H Q ⟨mp,ρ,S,G,q⟩=>?_
 refine bindP G q fun mp1 H1 d S1 v a1 G1 r1 p1=>?_
 have p2:(∃ c,d=.fv c)\/Post X.K XQ σ ρ mp1 H1 (.ok (.bl (isT T (tyN d))) S1) Q:=by cases d<;>first | exact .inr p1 | exact .inl ⟨_,rfl⟩
 rcases p2 with⟨c,rfl⟩ | p2
 ·exact(show False from p1).elim
 refine⟨v,tyN d,rfl,?_,Gx.ok (R:=Rep X.K) p2 G1.rs rfl⟩
 cases d with
 | non=>cases (show v=.non from r1); exact rfl
 | bl b=>cases (show v=.bl b from r1); exact rfl
 | int b=>cases (show v=.int b from r1); exact rfl
 | str b=>cases (show v=.str b from r1); exact rfl
 | tup l=>obtain⟨a,xs,rfl,sq,_⟩:=Rep.tup r1; exact .inl ⟨rfl,xs,sq⟩
 | lst i=>
  obtain⟨a,rfl,ha⟩:=(show ∃ a,v=.ref a/\mp1[i]?=some a from r1)
  have hl:i<S1.length:=by rw[<- G1.rs.len]; exact(List.getElem?_eq_some_iff.mp ha).1
  obtain⟨a2,xs,e2,_,sq,_⟩:=G1.rs.items r1 (List.getElem?_eq_getElem hl)
  cases e2
  exact .inr (.inl ⟨rfl,xs,sq⟩)
 | exn c n=>
  obtain⟨a,dx,q,rfl,⟨_,xc,hH⟩,_⟩:=(show ∃ a dx p,v=.ref a/\(CN X.K c p/\XCl X.K p/\H1 a=some (XO a p dx))/\∀ i,n=some i->∃ d,dx=some d/\H1 d=some (XA d i) from r1)
  exact .inr (.inr ⟨rfl,q,dx,xc,hH⟩)
 | fv c=>exact(show False from p1).elim
end
section
variable{X:Cx}{XQ:XW}
def Gam:List D->Option (List Bool)
 | []=>some []
 | .bl b::l=>match Gam l with
  | some r=>some (b::r)
  | none=>none
 | _::_=>none
def Gbd(xs:List D)(S:Sto):Out D:=match xs with
 | [.lst i]=>match S[i]? with
  | some c=>match Gam c.xs with
   | some bs=>.ok (.bl (bs.all id)) S
   | none=>.bad
  | none=>.bad
 | _=>.bad
theorem Ggk{K:PySem.W.Frag}{mp:List Addr}{H:Hp}:∀ {l:List D} {vs:List V} {bs:List Bool},RepL K mp H l vs->Gam l=some bs->vs=bs.map V.bl
 | [],vs,bs,h,e=>by cases (show vs=[] from h); cases (Option.some.inj e); rfl
 | .bl b::l,vs,bs,h,e=>by
  obtain⟨v,r,rfl,h1,h2⟩:=(show ∃ v r,vs=v::r/\Rep K mp H (.bl b) v/\RepL K mp H l r from h)
  cases (show v=.bl b from h1)
  cases z:Gam l with
  | none=>simp[Gam,z] at e
  | some q=>
   simp only[Gam,z] at e
   cases (Option.some.inj e)
   rw[Ggk h2 z]
   rfl
 | .non::l,vs,bs,h,e=>by cases e
 | .int _::l,vs,bs,h,e=>by cases e
 | .str _::l,vs,bs,h,e=>by cases e
 | .tup _::l,vs,bs,h,e=>by cases e
 | .lst _::l,vs,bs,h,e=>by cases e
theorem Gep:∀ {bs:List Bool} {us:List Value},Vals (bs.map V.bl) us->us=bs.map Value.bool
 | [],us,h=>by cases h; rfl
 | b::r,us,h=>by
  cases h with
  | cons h1 h2=>
   cases (show _=Value.bool b from h1)
   rw[Gep h2]
   rfl
theorem Ghk(bs:List Bool):((List.range bs.length).all fun i=>bs.getD i true)=bs.all id:=by
 rw[Bool.eq_iff_iff,List.all_eq_true,List.all_eq_true]
 constructor
 ·intro h b hb
  obtain⟨i,hi,e⟩:=List.getElem_of_mem hb
  have:=h i (List.mem_range.mpr hi)
  rw[List.getD_eq_getElem?_getD,List.getElem?_eq_getElem hi] at this
  simpa[e] using this
 ·intro h i hi
  have hi:=List.mem_range.mp hi
  rw[List.getD_eq_getElem?_getD,List.getElem?_eq_getElem hi]
  exact h _ (List.getElem_mem hi)
theorem Gdp(hc:X.calm=true):Xg X (.builtin "all") (fun xs H Q=>∃ (p:Addr) (bs:List Bool),xs=[.ref p]/\SqL X.K H p (bs.map V.bl)/\Q (.bl (bs.all id)) H):=by
 intro pins s σ H xs us Q I r ⟨p,bs,e,sq,q⟩
 subst e
 obtain⟨u,rfl,ru⟩:=r.one
 cases (show u=Value.ref p from ru)
 obtain⟨its,rv,pl,hz⟩:=I.list sq
 have ei:=Gep rv
 subst ei
 have hl:=pl.isList
 refine call_all_walk (wpAny_pyIter_list hl ?_)
 have hne:p≠s.heap.objs.size:=by
  obtain⟨o,n,ho,_⟩:=pl
  exact Nat.ne_of_lt (Heap.lt_size ho)
 refine⟨s.heap.objs.size,[s.heap.objs.size,p],[s.heap.objs.size],_,_,_,fun i=>bs.getD i true,rfl,Walks.list (by exact I.ok.hd hc) s.heap.objs.size p hne (bs.map Value.bool).toArray,⟨⟨_,Heap.get?_push_size _ rfl,rfl,rfl⟩,hl.push _⟩,fun i v s' Q' E' hP hQ'=>?_,fun h' tk hk=>?_⟩
 ·have hP:(bs.map Value.bool)[i]?=some v:=by simpa using hP
  rw[List.getElem?_map] at hP
  cases z:bs[i]? with
  | none=>rw[z] at hP; cases hP
  | some b=>
   rw[z] at hP
   cases (Option.some.inj hP)
   refine wpAny_truthy_bool ?_
   have e:bs.getD i true=b:=by rw[List.getD_eq_getElem?_getD,z]; rfl
   have hQ2:Q' (bs.getD i true) s':=hQ'
   rw[e] at hQ2
   exact hQ2
 ·have hs:((List.range (bs.map Value.bool).toArray.size).all fun i=>bs.getD i true)=bs.all id:=by simpa using Ghk bs
  rw[hs]
  refine⟨.bl _,H,I.kept (h':=h') (t':=tk) fun b o e=>hk b o (fun z=>absurd (Heap.lt_size e) (by rw[show b=s.heap.objs.size from List.mem_singleton.mp z]; exact Nat.lt_irrefl _)) (Heap.get?_push_of_some _ e),rfl,q⟩
theorem Gqc{K:PySem.W.Frag}:BlD K (fun xs H Q=>∃ (p:Addr) (bs:List Bool),xs=[.ref p]/\SqL K H p (bs.map V.bl)/\Q (.bl (bs.all id)) H) Gbd:=by
 intro XQ σ ρ mp H S xs vs Q rs r p
 unfold Gbd at p
 split at p
 ·obtain⟨v,rfl,h⟩:=RepL.one r
  split at p
  ·rename_i c zc
   split at p
   ·rename_i bs zb
    obtain⟨a,xs,rfl,_,sq,q,_⟩:=rs.items h zc
    rw[Ggk q zb] at sq
    exact⟨a,bs,rfl,sq,Gx.ok (R:=Rep K) p rs rfl⟩
   ·exact p.elim
  ·exact p.elim
 ·exact p.elim
theorem Gqd{p pos:Pos}{e:Expr}{f:Ev (List D)}(hc:X.calm=true)(hg:Gl X "all")(hm:X.mg "all"=none)(ha:JA X XQ [e] f)(he:starEach [e] X.env=(false,eval e X.env)::starEach [] X.env:=by rfl):JE X XQ (.Call (.Name "all" p) [e] [] pos) (b1 Gbd f):=Gfz (Gdp hc) Gqc hg hm (by rfl) ha (he:=he)
def spar(i j:Nat)(f:Ev (List D)):Sv:=fun ρ S=>bindS (f ρ S) ρ fun ds S1=>match ds with
 | [d,e]=>.nx ((ρ.set i (some d)).set j (some e)) S1
 | _=>.bad
end
section
variable{X:Cx}{XQ:XW}
def Gnd(X:Cx)(id:String)(o:List D->Sto->Out D):Prop:=
 ∀ (pins:List (Addr×Obj)) (s:Shared) (σ:L2.St) (ρ:Lc) (XQ:XW) (mp:List Addr) (H:Hp) (S:Sto) (ds:List D) (vs:List V) (us:List Value) (Q:VK),Inv X pins σ H s->RS X.K mp H S->RepL X.K mp H ds vs->Vals vs us->Post X.K XQ σ ρ mp H (o ds S) Q→
  (∀ (e:XD) (S':Sto),o ds S≠.exc e S')->wpAny (model X.prog X.w) X.A (call (.builtin id) us) (EP X pins σ Q) X.xe s
theorem Glz{id:String}{x:Str}{p pos:Pos}{e:Expr}{es:List Expr}{o:List D->Sto->Out D}{f:Ev (List D)}(hc:Gnd X id o)(hno:∀ ds S e S',o ds S≠.exc e S')(hg:Gl X x)(hm:X.mg x=none)(hv:bootBuiltins x=some (.builtin id))(ha:JA X XQ (e::es) f)(hn:x≠"__name__":=by decide)(hdb:(x==("__debug__":Str))=false:=by decide)
  (he:starEach (e::es) X.env=(false,eval e X.env)::starEach es X.env:=by rfl) (hpl:(backTo pos (starEach es X.env)).any (·.1)=false:=by rfl):JE X XQ (.Call (.Name x p) (e::es) [] pos) (b1 o f):=by
 intro pins s σ H Q I ⟨mp,ρ,S,G,q⟩
 refine wpAny_Call_Name_kw (Ga6 I hg hm hv ?_ hn hdb)
 refine PyProof.Rows.callWith_builtin1 (thn (ha pos pins s σ H _ I (bindP G q fun mp1 H1 ds S1 vs a1 G1 r1 p1=>(⟨mp1,ρ,S1,ds,G1,r1,p1⟩:∃ mp1 ρ S1 ds,Gd X.K mp1 H1 σ ρ S1/\RepL X.K mp1 H1 ds vs/\Post X.K XQ σ ρ mp1 H1 (o ds S1) Q))) fun us s1 ⟨vs,H1,I1,rv,mp1,ρ1,S1,ds,G1,r1,p1⟩=>?_) he hpl
 exact hc pins s1 σ ρ1 XQ mp1 H1 S1 ds vs us Q I1 G1.rs r1 rv p1 (hno _ _)
def Zg(xs:List D)(S:Sto):Out D:=match xs with
 | [.non]=>.ok (.str "None") S
 | [.bl b]=>.ok (.str (if b then "True" else "False")) S
 | [.int i]=>if i.natAbs.log2<1920 then .ok (.str (toString i)) S else .bad
 | [.str x]=>if(reprText x).length<=1000000 then .ok (.str (reprText x)) S else .bad
 | [d]=>match toP S 40 d with
  | some p=>if(p.showable&&!p.hasDict&&decide (p.depth<=60))=true/\p.shown.length<=1000000 then .ok (.str p.shown) S else .bad
  | none=>.bad
 | _=>.bad
theorem Gl0(ds:List D)(S:Sto)(e:XD)(S':Sto):Zg ds S≠.exc e S':=by
 unfold Zg
 split<;>(try split)<;>(try split)<;>exact fun z=>nomatch z
theorem Gl1{k:Nat}(hr:Room k X.A):Gnd X "repr" Zg:=by
 intro pins s σ ρ XQ mp H S ds vs us Q I rs r rv p hno
 clear hno
 have big:∀ (d:D) (v:V) (a:Addr) (u:Value),Rep X.K mp H d v->v=.ref a->Hn v u->Post X.K XQ σ ρ mp H (match toP S 40 d with
   | some p=>if(p.showable&&!p.hasDict&&decide (p.depth<=60))=true/\p.shown.length<=1000000 then .ok (.str p.shown) S else .bad
   | none=>.bad) Q->wpAny (model X.prog X.w) X.A (call (.builtin "repr") [u]) (EP X pins σ Q) X.xe s:=by
  intro d v a u rd ev ru p
  subst ev
  cases z:toP S 40 d with
  | none=>rw[z] at p; exact p.elim
  | some q=>
   rw[z] at p
   by_cases h:(q.showable&&!q.hasDict&&decide (q.depth<=60))=true/\q.shown.length<=1000000
   ·have p:Post X.K XQ σ ρ mp H (.ok (.str q.shown) S) Q:=by simpa only[if_pos h] using p
    obtain⟨as,ra⟩:=Yr I rs 40 d _ u q rd ru z
    cases (show u=Value.ref a from ru)
    have h1:=h.1
    rw[Bool.and_eq_true,Bool.and_eq_true] at h1
    have hd:q.depth<=60:=of_decide_eq_true h1.2
    have hu:=hr.units
    refine repr_of_reads' ra h1.1.1 (fun z=>by rw[z] at h1; simp at h1) hr.gd (by omega) (fun _ _ e=>e) (fun h' u' tk hk=>?_) (line_le h.2)
    exact⟨.str q.shown,H,I.kept (h':=h') (t':=tk) hk,⟨_,rfl⟩,Gx.ok p rs rfl⟩
   ·simp only[if_neg h] at p; exact p.elim
 unfold Zg at p
 split at p
 ·obtain⟨v,rfl,h⟩:=RepL.one r
  obtain⟨u,rfl,ru⟩:=Vals.one rv
  cases (show v=.non from h); cases (show u=Value.none from ru)
  exact PySem.P.repr_of_none ⟨.str "None",H,I.tok _,⟨_,rfl⟩,Gx.ok (R:=Rep X.K) p rs rfl⟩
 ·rename_i b
  obtain⟨v,rfl,h⟩:=RepL.one r
  obtain⟨u,rfl,ru⟩:=Vals.one rv
  cases (show v=.bl b from h); cases (show u=Value.bool b from ru)
  exact PySem.P.repr_of_bool ⟨.str _,H,I.tok _,⟨_,rfl⟩,Gx.ok (R:=Rep X.K) p rs (by cases b<;>rfl)⟩
 ·rename_i i
  obtain⟨v,rfl,h⟩:=RepL.one r
  obtain⟨u,rfl,ru⟩:=Vals.one rv
  cases (show v=.int i from h); obtain⟨t,rfl⟩:=(show ∃ t,u=Value.int i t from ru)
  by_cases hi:i.natAbs.log2<1920
  ·rw[if_pos hi] at p
   exact PySem.P.repr_of_int hi ⟨.str _,H,I.tok _,⟨_,rfl⟩,Gx.ok (R:=Rep X.K) p rs rfl⟩
  ·rw[if_neg hi] at p; exact p.elim
 ·rename_i x
  obtain⟨v,rfl,h⟩:=RepL.one r
  obtain⟨u,rfl,ru⟩:=Vals.one rv
  cases (show v=.str x from h); obtain⟨t,rfl⟩:=(show ∃ t,u=Value.str x t from ru)
  by_cases hi:(reprText x).length<=1000000
  ·rw[if_pos hi] at p
   exact PySem.P.repr_of_str ⟨.str _,H,I.tok _,⟨_,rfl⟩,Gx.ok (R:=Rep X.K) p rs rfl⟩ (line_le hi)
  ·rw[if_neg hi] at p; exact p.elim
 ·rename_i d n1 n2 n3 n4
  obtain⟨v,rfl,h⟩:=RepL.one r
  obtain⟨u,rfl,ru⟩:=Vals.one rv
  cases d with
  | non=>exact absurd rfl n1
  | bl b=>exact absurd rfl (n2 b)
  | int i=>exact absurd rfl (n3 i)
  | str x=>exact absurd rfl (n4 x)
  | tup l=>obtain⟨a,xs,ev,_⟩:=Rep.tup h; exact big _ v a u h ev ru p
  | lst i=>obtain⟨a,ev,_⟩:=(show ∃ a,v=.ref a/\mp[i]?=some a from h); exact big _ v a u h ev ru p
  | exn c n=>obtain⟨a,dx,_,ev,_⟩:=(show ∃ a dx p,v=.ref a/\(CN X.K c p/\XCl X.K p/\H a=some (XO a p dx))/\∀ i,n=some i->∃ d,dx=some d/\H d=some (XA d i) from h); exact big _ v a u h ev ru p
  | fv c=>obtain⟨a,ev,_⟩:=(show ∃ a,v=.ref a/\CN X.K c a from h); exact big _ v a u h ev ru p
 ·exact p.elim
theorem Gl2{k:Nat}{p pos:Pos}{e:Expr}{f:Ev (List D)}(hr:Room k X.A)(hg:Gl X "repr")(hm:X.mg "repr"=none)(ha:JA X XQ [e] f)(he:starEach [e] X.env=(false,eval e X.env)::starEach [] X.env:=by rfl):JE X XQ (.Call (.Name "repr" p) [e] [] pos) (b1 Zg f):=Glz (Gl1 hr) Gl0 hg hm (by rfl) ha (he:=he)
end
section
variable{X:Cx}{XQ:XW}
def Geq(x:D)(xs:List D)(S:Sto):Out D:=match x,xs with
 | .lst k,[.int i]=>match S[k]? with
  | some c=>if c.fz=false/\0<=i/\i<=1000000 then(match c.xs[i.toNat]? with
   | some d=>.ok d (S.set k ⟨false,c.xs.eraseIdx i.toNat⟩)
   | none=>.bad) else .bad
  | none=>.bad
 | _,_=>.bad
theorem RepL.erase{K:PySem.W.Frag}{mp:List Addr}{H:Hp}:∀ {l:List D} {vs:List V} (n:Nat),RepL K mp H l vs->RepL K mp H (l.eraseIdx n) (vs.eraseIdx n)
 | [],vs,n,h=>by cases (show vs=[] from h); exact RepL.nil
 | d::l,vs,0,h=>by
  obtain⟨v,r,q,h1,h2⟩:=h
  subst q
  exact h2
 | d::l,vs,n+1,h=>by
  obtain⟨v,r,q,h1,h2⟩:=h
  subst q
  exact RepL.cons h1 (RepL.erase n h2)
theorem Gqe{K:PySem.W.Frag}:MeD K Gid Geq:=by
 intro XQ σ ρ mp H S x xs v vs Q rs rx r p
 unfold Geq at p
 split at p
 ·rename_i k i
  split at p
  ·rename_i c zc
   by_cases hc:c.fz=false/\0<=i/\i<=1000000
   ·rw[if_pos hc] at p
    split at p
    ·rename_i d zd
     obtain⟨w,rfl,hw⟩:=RepL.one r
     cases (show w=.int i from hw)
     obtain⟨a,ys,rfl,ha,sq,q,f⟩:=rs.items rx zc
     have hH:=f hc.1
     obtain⟨y,hy,ry⟩:=q.get zd
     obtain⟨af,rs'⟩:=rs.setL ha zc hc.1 hH (q.erase i.toNat)
     have hl:i.toNat<ys.length:=(List.getElem?_eq_some_iff.mp hy).1
     exact⟨a,ys,i,i.toNat,y,rfl,rfl,hH,by omega,by omega,seqIndex_of hc.2.1 (by omega),hy,p mp _ _ af rs' (Rep.aft af _ _ ry)⟩
    ·exact p.elim
   ·rw[if_neg hc] at p; exact p.elim
  ·exact p.elim
 ·exact p.elim
def Gsr:V->List V->Hp->VK->Prop:=fun x vs H Q=>∃ l xs i y,x=.ref l/\vs=[.int i,y]/\H l=some (.lst xs)/\0<=i/\i<2^63/\xs.length<sizeLine/\Q .non (upd H l (.lst (xs.take (min i.toNat xs.length)++y::xs.drop (min i.toNat xs.length))))
theorem Gqf:MtM X "list.insert" Gsr:=by
 intro pins s σ H x vs v us Q I rx rv h
 obtain⟨l,xs,i,y,rfl,rfl,hH,h1,h2,hz,q⟩:=h
 cases rx
 obtain⟨ui,uy,rfl,ri,ry⟩:=rv.two
 obtain⟨t,rfl⟩:=ri
 obtain⟨z,its,n,r,hl,e⟩:=I.lstM hH
 have hlt:¬ i<0:=by omega
 refine call_meets F.slot_list_insert ⟨_,e,rfl⟩ F.entry_list_insert (F.args_list_insert_3 _ _ _)
  (PySem.AutoListH.list_insert_list_int_val_1 l its.toArray n i t uy (by rw[fitsIndex_of h1 h2]; decide) (by rw[List.size_toArray]; omega)) ⟨e,?_⟩
 refine⟨.non,_,I.lset (its':=its.take (min i.toNat xs.length)++uy::its.drop (min i.toNat xs.length)) hH e ?_ ((r.take _).append (.cons ry (r.drop _))) ?_,rfl,q⟩
 ·simp only[hlt,if_false,List.size_toArray,<- hl]
  apply Array.ext'
  simp[hl]
  exact List.take_of_length_le (by simp)
 ·rw[List.length_append,List.length_cons,List.length_take,List.length_drop]
  omega
def Gas(x:D)(xs:List D)(S:Sto):Out D:=match x,xs with
 | .lst k,[.int i,d]=>match S[k]? with
  | some c=>if c.fz=false/\(0<=i/\i<=1000000)/\c.xs.length<1000000 then .ok .non (S.set k ⟨false,c.xs.take (min i.toNat c.xs.length)++d::c.xs.drop (min i.toNat c.xs.length)⟩) else .bad
  | none=>.bad
 | _,_=>.bad
theorem Gqg{K:PySem.W.Frag}:MeD K Gsr Gas:=by
 intro XQ σ ρ mp H S x xs v vs Q rs rx r p
 unfold Gas at p
 split at p
 ·rename_i k i d
  split at p
  ·rename_i c zc
   by_cases hc:c.fz=false/\(0<=i/\i<=1000000)/\c.xs.length<1000000
   ·rw[if_pos hc] at p
    obtain⟨w,w2,rfl,hw,hw2⟩:=RepL.two r
    cases (show w=.int i from hw)
    obtain⟨a,ys,rfl,ha,sq,q,f⟩:=rs.items rx zc
    have hH:=f hc.1
    have l1:=q.len
    rw[<- l1] at p
    obtain⟨af,rs'⟩:=rs.setL ha zc hc.1 hH (RepL.append (q.take (min i.toNat ys.length)) (RepL.cons hw2 (q.drop (min i.toNat ys.length))))
    exact⟨a,ys,i,w2,rfl,rfl,hH,hc.2.1.1,by omega,by rw[l1]; exact Nat.lt_of_lt_of_le hc.2.2 (by decide),p mp _ _ af rs' rfl⟩
   ·rw[if_neg hc] at p; exact p.elim
  ·exact p.elim
 ·exact p.elim
theorem Gqh{o e:Expr}{apos cpos:Pos}{fo:Ev D}{f:Ev (List D)}(ho:JE X XQ o fo)(ha:JA X XQ [e] f)(hbase:attributeBase o "pop" X.env (eval o X.env)=eval o X.env:=by rfl)
  (hfew:((backTo cpos (starEach [e] X.env)).all (fun x=>!x.1)&&(backToKw cpos (keywordEach [] X.env)).all (fun x=>x.1.isSome)
   && decide ([e].length+([]:List Keyword).length+(if([]:List Keyword).isEmpty then 0 else 1)<30))=true:=by rfl)
  (hline:(apos.endLine==cpos.line)=true:=by rfl) (hs:starEach [e] X.env=(false,eval e X.env)::starEach [] X.env:=by rfl):
  JE X XQ (.Call (.Attribute o "pop" apos) [e] [] cpos) (mt Geq fo f):=Gdo PySem.F.slot_list_pop PySem.F.type_list_pop Gie Gqe ho ha hbase hfew hline hs rfl
theorem Ghl{o e e':Expr}{apos cpos:Pos}{fo:Ev D}{f:Ev (List D)}(ho:JE X XQ o fo)(ha:JA X XQ [e,e'] f)(hbase:attributeBase o "insert" X.env (eval o X.env)=eval o X.env:=by rfl)
  (hfew:((backTo cpos (starEach [e,e'] X.env)).all (fun x=>!x.1)&&(backToKw cpos (keywordEach [] X.env)).all (fun x=>x.1.isSome)
   && decide ([e,e'].length+([]:List Keyword).length+(if([]:List Keyword).isEmpty then 0 else 1)<30))=true:=by rfl)
  (hline:(apos.endLine==cpos.line)=true:=by rfl) (hs:starEach [e,e'] X.env=(false,eval e X.env)::starEach [e'] X.env:=by rfl) (hpl:(backTo cpos (starEach [e'] X.env)).any (·.1)=false:=by rfl):
  JE X XQ (.Call (.Attribute o "insert" apos) [e,e'] [] cpos) (mt Gas fo f):=Gdo PySem.F.slot_list_insert PySem.F.type_list_insert Gqf Gqg ho ha hbase hfew hline hs hpl
end
end DL
namespace DL
open PySem
variable{es:List Expr}{env:PySem.Env}
theorem Gb{c j p}:starEach (.Constant c j p::es) env=(false,eval (.Constant c j p) env)::starEach es env:=rfl
theorem Ge{x p}:starEach (.Name x p::es) env=(false,eval (.Name x p) env)::starEach es env:=rfl
theorem Gk{a b p}:starEach (.Tuple a b p::es) env=(false,eval (.Tuple a b p) env)::starEach es env:=rfl
theorem Yc{a p}:starEach (.List a p::es) env=(false,eval (.List a p) env)::starEach es env:=rfl
theorem Gv{f a k p}:starEach (.Call f a k p::es) env=(false,eval (.Call f a k p) env)::starEach es env:=rfl
theorem Gp{a b p}:starEach (.Subscript a b p::es) env=(false,eval (.Subscript a b p) env)::starEach es env:=rfl
theorem Gu{a o b p}:starEach (.BinOp a o b p::es) env=(false,eval (.BinOp a o b p) env)::starEach es env:=rfl
theorem Gf0{a o b p}:starEach (.Compare a o b p::es) env=(false,eval (.Compare a o b p) env)::starEach es env:=rfl
theorem Vy{a b c p}:starEach (.IfExp a b c p::es) env=(false,eval (.IfExp a b c p) env)::starEach es env:=rfl
theorem Jo{a b c p}:starEach (.ListComp a b c p::es) env=(false,eval (.ListComp a b c p) env)::starEach es env:=rfl
end DL
namespace DL
open PySem PySem.Spec PyProof.Rows L2
variable{h:Heap}{x y:Str}{st:Stmt}{ps N P N':List Str}{f:Ev (List D)}{fn:Fn}{j k n:Nat}{p pos pos' py spos p2 apos cpos:Pos}{es ifs:List Expr}{t fc:Ev Bool}{s2:Shared}{H2:Hp}{C:Addr}{scope:Scope}{c:List (Str×Addr)}{fp:List Addr}{elt tg iter a b o:Expr}{pk:List (Option Nat)}{g:Tg}{fa fb fo:Ev D}{K:PySem.W.Frag}{mg:Str->Option Value}{X:Cx}{XQ:XW}
structure Cal(P:Program)(w:World)(K:PySem.W.Frag)(mg:Str->Option Value)(base:Heap)(x:Str)(ps:List Str)(fn:Fn)(j:Nat):Prop where
 ex:∃ f fd,FnOk P w K mg base CX0 j f fd ps (spD K ps.length fn)/\mg x=some (.ref f)/\PySem.W.keepIn K (.ref f)=true/\Binds K fd ps []
structure Dn(K:PySem.W.Frag)(mg:Str->Option Value)(x:Str)(st:Stmt)(ps:List Str):Prop where
 ex:∃ f fd,Fun K x x st f fd/\mg x=some (.ref f)/\Binds K fd ps []
section
variable{P:Program}{w:World}{K:PySem.W.Frag}{mg:Str->Option Value}{base:Heap}
theorem Gss{f:Addr}{oc:Value}{od an:Option Addr}{osl:Array (Option Value)}{kV doc pm cdv ct:Value}(X:K.In h)(G:h.Ns mainGlobals mg)(a:PySem.W.nsIn K mainGlobals x=some (some (.ref f)))(l:K.lookup f=some ⟨oc,od,.func (PySem.W.fnOf x x (Kw st) (Jq st) (Gj st) .none kV doc pm an cdv ct),osl⟩)(c:PySem.W.codeIn K cdv x=true)(k:PySem.W.keepIn K (.ref f)=true)(hb:∀ (kV doc pm:Value) (an:Option Addr) (cdv ct:Value) (us:List Value),us.length=ps.length->bindArgs (PySem.W.fnOf x x (Kw st) (Jq st) (Gj st) .none kV doc pm an cdv ct) ⟨us,[]⟩=pure (ps.zip us)):Dn K mg x st ps:=
 ⟨f,_,Gfr l c k,PySem.W.mg_of X G a,(Gfr (st:=st) l c k).binds hb⟩
theorem Gqi(N:List Str)(k:Nat)(b:Sv)(hfn:fn=fnB N.length b)(d:Dn K mg x st ps)(Sc:FnScope N ps (Gj st))(hb:∀ (f:Addr) (cdv:Value) (A:Around) (outer:List PySem.Env) (s:Shared) (H:Hp) (E:XK),Room k (A.deeper (envOfC x (Gj st) s.heap.objs.size f cdv))→
   JSs (Gde CX0 P w K mg base N x (Gj st) f cdv A outer s H E).nox XN (Jq st) b):Cal P w K mg base x ps fn (k+1):=by
 subst hfn
 obtain⟨f,fd,F,hm,hbi⟩:=d.ex
 exact⟨f,fd,Gm4 F Sc (hb f),hm,F.kp,hbi⟩
end
section
variable{X:Cx}{XQ:XW}
theorem Gqj{e:Expr}{t:Ev (List D)}(C:Cal X.prog X.w X.K X.mg X.base x ps fn j)(hr:Room k X.A)(ha:JA X XQ (e::es) t)(hn:ps.length=n)(hj:j<=k:=by decide)(hg:Gl X x:=by rfl)(hdb:(x==("__debug__":Str))=false:=by decide)(he:starEach (e::es) X.env=(false,eval e X.env)::starEach es X.env:=by rfl)(hpl:(backTo pos (starEach es X.env)).any (·.1)=false:=by rfl):
  JE X XQ (.Call (.Name x p) (e::es) [] pos) (cl n (Gn fn) t):=by
 subst hn
 obtain⟨f,fd,F,hm,hk,hb⟩:=C.ex
 exact Glf F hr hj hg hm hk hb ha hdb he hpl
theorem Gbe{v:V}{u:Value}{d:D}(hm:X.mg x=some u)(r:Hn v u)(rep:∀ mp H,Rep X.K mp H d v)(hg:Gl X x)(hd:(x==("__debug__":Str))=false):JE X XQ (.Name x pos) (cn d):=Xh (Gkk hg hm r hd) rep
def Ki(x:Str):Bool:=!(x==("__debug__":Str))&&!(x==("__classdict__":Str))
def okV(sc:Scope)(x:Str):Bool:=(match sc.names.lookup x with
 | some .local=>true
 | some .cell=>true
 | some .free=>true
 | _=>false)&&Ki x
def okL(sc:Scope)(x:Str):Bool:=match sc.names.lookup x with
 | some .local=>true
 | some .cell=>true
 | _=>false
def okG(sc:Scope)(x:Str):Bool:=(match sc.names.lookup x with
 | some .globalImplicit=>true
 | _=>false)&&Ki x
theorem Ki.of(h:Ki x=true):(x==("__debug__":Str))=false/\(x==("__classdict__":Str))=false:=by
 unfold Ki at h
 rw[Bool.and_eq_true] at h
 exact⟨by simpa using h.1,by simpa using h.2⟩
theorem okV.vis{sc:Scope}(h:okV sc x=true):Vis sc x/\Ki x=true:=by
 unfold okV at h
 rw[Bool.and_eq_true] at h
 refine⟨?_,h.2⟩
 have h:=h.1
 split at h
 ·rename_i e; exact .inl e
 ·rename_i e; exact .inr (.inl e)
 ·rename_i e; exact .inr (.inr e)
 ·cases h
theorem okL.loc{sc:Scope}(h:okL sc x=true):Loc sc x:=by
 unfold okL at h
 split at h
 ·rename_i e; exact .inl e
 ·rename_i e; exact .inr e
 ·cases h
theorem okG.gl{sc:Scope}(h:okG sc x=true):sc.names.lookup x=some .globalImplicit/\Ki x=true:=by
 unfold okG at h
 rw[Bool.and_eq_true] at h
 refine⟨?_,h.2⟩
 have h:=h.1
 split at h
 ·rename_i e; exact e
 ·cases h
structure OkV(sc:Scope)(x:Str):Prop where
 h:okV sc x=true
structure OkL(sc:Scope)(x:Str):Prop where
 h:okL sc x=true
structure OkC(sc:Scope)(x:Str):Prop where
 h:sc.names.lookup x=some .local
structure OkG(sc:Scope)(x:Str):Prop where
 h:okG sc x=true
theorem kdV{s:Scope}(h:okV s x=true:=by decide +kernel):OkV s x:=⟨h⟩
theorem kdL{s:Scope}(h:okL s x=true:=by decide +kernel):OkL s x:=⟨h⟩
theorem kdG{s:Scope}(h:okG s x=true:=by decide +kernel):OkG s x:=⟨h⟩
theorem kdS{s:Scope}(a:s.kind=.function:=by rfl)(b:s.isCoroutine=false:=by rfl)(c:s.isGenerator=false:=by rfl)(d:N.Nodup:=by decide +kernel)(e:N.take P.length=P:=by rfl)(f:∀ x∈P,s.names.lookup x=some .local\/s.names.lookup x=some .cell:=by decide +kernel)(g:∀ y∈s.names,y.2≠.free:=by decide +kernel):FnScope N P s:=⟨a,b,c,d,e,f,g⟩
theorem jv(i:Nat)(h:OkV X.env.scope x)(hN:X.N[i]?=some x:=by rfl):JE X XQ (.Name x pos) (vr i):=Gih i hN (okV.vis h.h).1 (Ki.of (okV.vis h.h).2).1 (Ki.of (okV.vis h.h).2).2
theorem gl(h:OkG X.env.scope x):Gl X x:=(okG.gl h.h).1
theorem jgn(i:Nat)(hN:X.N.Nodup)(h:OkL X.env.scope x)(hi:X.N[i]?=some x:=by rfl)(hf:X.fn x=true:=by rfl):JG X (.Name x pos) (gn i):=Gdk i hN hi (okL.loc h.h) (.inl hf)
theorem jset(i:Nat){e:Expr}{f:Ev D}(hN:X.N.Nodup)(h:OkL X.env.scope x)(he:JE X XQ e f)(hi:X.N[i]?=some x:=by rfl)(hs:swapsWith e (some (.Name x pos')) pos.line X.env=pure false:=by rfl)(hf:X.fn x=true:=by rfl):
  JS X XQ (.Assign [.Name x pos'] e pos) (sa f (gn i)):=Gpg i hN he hi (okL.loc h.h) hs (.inl hf)
theorem jown{e:Expr}{t:Ev (List D)}(C:Cal X.prog X.w X.K X.mg X.base x ps fn j)(hr:Room k X.A)(hg:Gl X x)(hp:Ki x=true)(ha:JA X XQ (e::es) t)(hn:ps.length=n:=by rfl)(hj:j<=k:=by decide)(he:starEach (e::es) X.env=(false,eval e X.env)::starEach es X.env:=by rfl)(hpl:(backTo pos (starEach es X.env)).any (·.1)=false:=by rfl):
  JE X XQ (.Call (.Name x p) (e::es) [] pos) (cl n (Gn fn) t):=Gqj C hr ha hn hj hg (Ki.of hp).1 he hpl
def Giz(sc:Scope)(x:Str):Bool:=(match sc.names.lookup x with
 | some .local=>true
 | some .cell=>true
 | some .free=>true
 | _=>false)&&Ki x
theorem Ji{scope:Scope}{env:PySem.Env}{x:Str}{k:NameKind}(hk:k≠.free):∀ (names:List (Str×NameKind)),names.lookup x=some k->(names.map fun(n,k)=>if(k==NameKind.free&&env.scope.kind==.function&&env.kindOf n==some .cell)=true then(n,NameKind.cell) else(n,k)).lookup x=some k
 | [],h=>by simp at h
 | (n,k')::r,h=>by
  rw[List.map_cons]
  by_cases hx:(x==n)=true
  ·rw[List.lookup_cons,hx] at h
   have:k'=k:=by simpa using h
   subst this
   have hb:(k'==NameKind.free)=false:=by simpa using hk
   simp only[hb,Bool.false_and,Bool.false_eq_true,if_false,List.lookup_cons,hx]
  ·have hx:(x==n)=false:=by simpa using hx
   rw[List.lookup_cons,hx] at h
   have:=Ji (scope:=scope) (env:=env) hk r h
   by_cases hq:(k'==NameKind.free&&env.scope.kind==.function&&env.kindOf n==some .cell)=true
   ·simpa only[hq,if_true,List.lookup_cons,hx] using this
   ·simpa only[hq,Bool.false_eq_true,if_false,List.lookup_cons,hx] using this
theorem Gdq(h:Giz scope x=true):Vis (blk X s2 H2 C scope c N' fp).env.scope x/\Ki x=true:=by
 unfold Giz at h
 rw[Bool.and_eq_true] at h
 refine⟨?_,h.2⟩
 have h:=h.1
 split at h
 ·rename_i e; exact .inl (lookup_relabel_local e)
 ·rename_i e; exact .inr (.inl (Ji (scope:=scope) (env:=X.env) (by decide) scope.names e))
 ·rename_i e; exact .inr (Kh (scope:=scope) (env:=X.env) scope.names e)
 ·cases h
theorem jvB(i:Nat)(h:Giz scope x=true)(hN:N'[i]?=some x:=by rfl):JE (blk X s2 H2 C scope c N' fp) XQ (.Name x pos) (vr i):=
 Gih i hN (Gdq h).1 (Ki.of (Gdq (X:=X) (s2:=s2) (H2:=H2) (C:=C) (c:=c) (N':=N') (fp:=fp) h).2).1 (Ki.of (Gdq (X:=X) (s2:=s2) (H2:=H2) (C:=C) (c:=c) (N':=N') (fp:=fp) h).2).2
theorem glB(h:okG scope x=true):Gl (blk X s2 H2 C scope c N' fp) x:=
 Ji (scope:=scope) (env:=X.env) (by decide) scope.names (okG.gl h).1
def Gl3(sc:Scope)(x:Str):Bool:=match sc.names.lookup x with
 | some .local=>true
 | some .cell=>true
 | _=>false
theorem Gt0(i:Nat)(hN:N'.Nodup)(h:Gl3 scope x=true)(hi:N'[i]?=some x:=by rfl):JG (blk X s2 H2 C scope c N' fp) (.Name x pos) (gn i):=by
 unfold Gl3 at h
 split at h
 ·rename_i e
  exact Gdk i hN hi (.inl (lookup_relabel_local e)) (.inr (lookup_relabel_local e))
 ·rename_i e
  exact Gdk i hN hi (.inr (Ji (scope:=scope) (env:=X.env) (by decide) scope.names e)) (.inl (by show(scope.names.lookup x==some NameKind.cell)=true; rw[e]; rfl))
 ·cases h
theorem jcomp{sc:Scope}{f:Ev Src}{e:Ev D}(hsc:X.env.scope=sc)(hNN:X.N=N)(ct:CompTab sc scope N N' pk)(hcm:X.calm=true)(hi:JI X XQ tg iter f)(hg:∀ cl s2 H2 C fp,JG (blk X s2 H2 C scope cl N' fp) tg g)(ht:∀ cl s2 H2 C fp,JTs (blk X s2 H2 C scope cl N' fp) XN ifs t)(he:∀ cl s2 H2 C fp,JE (blk X s2 H2 C scope cl N' fp) XN elt e)(hs:∀ x,foldedSetIterable iter X.env x=pure x:=by intro _; rfl):JE X XQ (.ListComp elt [⟨tg,iter,ifs,0⟩] scope pos) (cmp f pk g t e):=by
 subst hsc hNN
 exact Gll ct hcm hi hg ht he hs
theorem Gi0(i:Nat){sc:Scope}{f:Ev Src}{e:Ev D}(hsc:X.env.scope=sc)(hNN:X.N=N)(ct:CompTab sc scope N N' pk)(hcm:X.calm=true)(hi:JI X XQ tg iter f)(hg:∀ cl s2 H2 C fp,JG (blk X s2 H2 C scope cl N' fp) tg g)(ht:∀ cl s2 H2 C fp,JTs (blk X s2 H2 C scope cl N' fp) XN ifs t)(he:∀ cl s2 H2 C fp,JE (blk X s2 H2 C scope cl N' fp) XN elt e)(hN:X.N.Nodup)(hl:OkL X.env.scope y)(hsw:swapsWith (.ListComp elt [⟨tg,iter,ifs,0⟩] scope pos) (some (.Name y py)) spos.line X.env=pure true)(hy:X.N[i]?=some y:=by rfl)(hs:∀ x,foldedSetIterable iter X.env x=pure x:=by intro _; rfl)(hf:X.fn y=true:=by rfl):
  JS X XQ (.Assign [.Name y py] (.ListComp elt [⟨tg,iter,ifs,0⟩] scope pos) spos) (sa (cmp f pk g t e) (gn i)):=by
 subst hsc hNN
 exact Gfw i ct hcm hi hg ht he hN hy (okL.loc hl.h) hsw hs (.inl hf)
end
section
variable{X:Cx}{XQ:XW}
theorem Gqk{j:Int}(h1:0<j)(h2:j<2^200):j.natAbs.log2<9000:=by
 have h3:j.natAbs<2^200:=by omega
 exact Nat.lt_of_lt_of_le ((Nat.log2_lt (by omega)).mpr h3) (by decide)
theorem Gi1:OpR X (binaryOp .FloorDiv) (rI (fun _ j=>0<j/\j<2^200) fun i j=>.int (i / j)):=opI fun i j _ _ _ _ _ hc q=>by
 have h1:(0:Int)<j:=hc.1
 have h2:j<2^200:=hc.2
 exact floordiv_int (by omega) (by rw[Int.fdiv_eq_ediv_of_nonneg i (by omega)]; exact q) (.inl (PyProof.noPylong_of_log2 (Gqk h1 h2)))
abbrev Gc2:=i2 (fun _ j=>decide (0<j/\j<2^200)) fun i j=>.int (i / j)
theorem Gl4(ha:JE X XQ a fa)(hb:JE X XQ b fb):JE X XQ (.BinOp a .FloorDiv b pos) (o2 Gc2 fa fb):=Gc0 Gi1 (Gdn (fun _ j h=>(of_decide_eq_true h:0<j/\j<2^200)) fun _ _ _ _=>rfl) ha hb
def Gbf:List D->Option (List Int)
 | []=>some []
 | .int i::r=>(Gbf r).map (i::·)
 | _::_=>none
def Gst(x:D)(S:Sto):Option (List D):=match x with
 | .tup l=>some l
 | .lst i=>(S[i]?).map (·.xs)
 | _=>none
def Gt1(xs:List D)(S:Sto):Out D:=match xs with
 | [x]=>match (Gst x S).bind Gbf with
  | some ns=>.ok (.int ns.sum) S
  | none=>.bad
 | _=>.bad
def Gt2(xs:List D)(S:Sto):Out D:=match xs with
 | [.int i,.int j]=>.ok (.int (if j>i then j else i)) S
 | _=>.bad
def sag(i:Nat)(g:Int->Int->Int)(f:Ev D):Sv:=fun ρ S=>match ρ[i]? with
 | some (some (.int a))=>bindS (f ρ S) ρ fun d S1=>match d with
  | .int b=>.nx (ρ.set i (some (.int (g a b)))) S1
  | _=>.bad
 | _=>.bad
end
theorem Zh{prog:Program}{w:World}{A:Around}{E:Value->Shared->Prop}{s:Shared}{t sl:Addr}{items:Array Value}{vl vu:Value}{lo hi:Option Int}{Q:Value->Shared->Prop}(ht:IsTup s.heap t items)(hs:s.heap.IsSliceOf sl vl vu .none)(pl:IsPart vl lo)(pu:IsPart vu hi)(hw:HT.sIx items.size 0 lo=0/\HT.sIx items.size items.size hi=items.size)(h:Q (.ref t) s):wpAny (model prog w) A (getItem (.ref t) (.ref sl)) Q E s:=by
 obtain⟨os,hos,hcs,hds⟩:=id hs
 have hTs:s.TypeIs (.ref sl) "slice":=⟨os,hos,hcs⟩
 unfold getItem
 try with_reducible refine wpAny_holding ?_
 first | refine wpAny_bind (wpAny_pure ?_) | skip
 refine wpAny_bind (wpAny_sequenceKey ht.typeIs (by decide) ?_)
 refine wpAny_bind (wpAny_callSpecial?_slot (name:=Str.ofString "__getitem__") ht.typeIs PyProof.Rows.slot_tuple_getitem
  (wpAny_call_entry PyProof.Rows.slot_tuple_getitem ht.typeIs entry_tuple_getitem ?_ (args_tuple_getitem _ _)))
 show wpAny _ _ (Builtin.Tuple.tupleItemsOf (.ref t) >>= _) _ _ s
 refine wpAny_bind (tupleItemsOf_ ht ?_)
 refine wpAny_bind (wpAny_typeOf hTs ?_)
 rw[if_pos (by decide)]
 refine wpAny_bind (HT.Vv hs pl pu ?_)
 show wpAny _ _ (if(((HT.sIx items.size 0 lo:Nat):Int)==0&&(1:Int)==1&&(HT.sIx items.size items.size hi-HT.sIx items.size 0 lo)==items.size)=true then _ else _) _ _ s
 rw[if_pos (by rw[hw.1,hw.2]; simp)]
 unfold Builtin.Tuple.tupleIsExact
 refine wpAny_bind (wpAny_bind (wpAny_typeOf ht.typeIs (wpAny_pure ?_)))
 rw[if_pos (by decide)]
 exact wpAny_bind (wpAny_rule (wpAny_pure ⟨_,rfl,wpAny_pure h⟩))
section
variable{X:Cx}{XQ:XW}
def Gt3(K:PySem.W.Frag):V->Option Int->Option Int->Hp->VK->Prop:=fun x lo hi H Q=>∃ a xs,x=.ref a/\SqT K H a xs/\(HT.sIx xs.length 0 lo=0/\HT.sIx xs.length xs.length hi=xs.length)/\Q (.ref a) H
theorem Gql:SlR X (Gt3 X.K):=by
 intro pins s σ H x v vl vu lo hi sl Q I rx hs pl pu h
 obtain⟨a,xs,rfl,hx,hw,q⟩:=h
 cases rx
 obtain⟨its,r,ht,hz⟩:=I.tuple hx
 have hlen:its.toArray.size=xs.length:=by rw[List.size_toArray]; exact r.length.symm
 refine⟨"tuple",_,PyProof.Rows.slot_tuple_getitem.lookup,ht.typeIs,?_⟩
 exact Zh ht hs pl pu (by rw[hlen]; exact hw) ⟨.ref a,H,I,rfl,q⟩
def Gdr(x:D)(lo hi:Option Int)(S:Sto):Out D:=match x with
 | .tup l=>if HT.sIx l.length 0 lo=0/\HT.sIx l.length l.length hi=l.length then .ok (.tup l) S else .ok (.tup (Vx l lo hi)) S
 | .lst i=>match S[i]? with
  | some c=>.ok (.lst S.length) (S++[⟨false,Vx c.xs lo hi⟩])
  | none=>.bad
 | _=>.bad
def sl2(fe:Ev D)(fl fh:Ev (Option Int)):Ev D:=fun ρ S=>(fe ρ S).bind fun x S1=>(fl ρ S1).bind fun l S2=>(fh ρ S2).bind fun u S3=>Gdr x l u S3
theorem Ghm{e:Expr}{lo hi:Option Expr}{fe:Ev D}{fl fh:Ev (Option Int)}(he:JE X XQ e fe)(hl:JO X XQ lo fl)(hh:JO X XQ hi fh):JE X XQ (.Subscript e (.Slice lo hi none p2) pos) (sl2 fe fl fh):=by
 refine PE.mono (Gia ((Gk3.or Gos).or Gql) he hl hh) fun σ H Q ⟨mp,ρ,S,G,p⟩=>?_
 refine bindP G p fun mp1 H1 x S1 v a1 G1 r1 p1=>?_
 refine bindP G1 p1 fun mp2 H2 l S2 l' a2 G2 r2 p2=>?_
 refine bindP G2 p2 fun mp3 H3 u S3 u' a3 G3 r3 p3=>?_
 cases (show l'=l from r2)
 cases (show u'=u from r3)
 have r1:=Rep.aft (a2.trans a3) _ _ r1
 cases x with
 | tup ds=>
  have p3:Post X.K XQ σ ρ mp3 H3 (if HT.sIx ds.length 0 l=0/\HT.sIx ds.length ds.length u=ds.length then .ok (.tup ds) S3 else .ok (.tup (Vx ds l u)) S3) Q:=p3
  obtain⟨a,xs,rfl,sq,q⟩:=Rep.tup r1
  by_cases hw:HT.sIx ds.length 0 l=0/\HT.sIx ds.length ds.length u=ds.length
  ·rw[if_pos hw] at p3
   exact .inr ⟨a,xs,rfl,sq,by rw[q.len]; exact hw,Gx.ok (R:=Rep X.K) p3 G3.rs r1⟩
  ·rw[if_neg hw] at p3
   exact .inl (.inr ⟨a,xs,rfl,sq,by rw[q.len]; exact hw,fun t ht=>Xi p3 G3.rs (q.cut l u) ht⟩)
 | lst i=>
  have p3:Post X.K XQ σ ρ mp3 H3 (match S3[i]? with | some c=>.ok (.lst S3.length) (S3++[⟨false,Vx c.xs l u⟩]) | none=>.bad) Q:=p3
  cases zc:S3[i]? with
  | none=>rw[zc] at p3; exact p3.elim
  | some c=>
   rw[zc] at p3
   obtain⟨a,xs,rfl,_,sq,q,_⟩:=G3.rs.items r1 zc
   exact .inl (.inl ⟨a,xs,rfl,sq,fun t ht=>Vw p3 G3.rs (q.cut l u) ht⟩)
 | _=>exact(show False from p3).elim
end
structure Za(z ti to' i j a b:Addr):Prop where
 q1:ti≠z
 q2:to'≠z
 q3:i≠z
 q4:j≠z
 q5:ti≠to'
 q6:ti≠i
 q7:ti≠j
 q8:to'≠i
 q9:to'≠j
 q10:i≠j
 q11:a≠z
 q12:a≠to'
 q13:a≠i
 q14:a≠j
 q15:b≠z
 q16:b≠to'
 q17:b≠i
 q18:b≠j
section
variable{X:Cx}{XQ:XW}
def rvD(x:D)(st:Option Int)(S:Sto):Out D:=match x,st with
 | .tup l,some (-1)=>.ok (.tup l.reverse) S
 | _,_=>.bad
def rv(fe:Ev D)(fs:Ev (Option Int)):Ev D:=fun ρ S=>(fe ρ S).bind fun x S1=>(fs ρ S1).bind fun o S2=>rvD x o S2
end
section
variable{X:Cx}{XQ:XW}
def Yt:List D->Option (List Str)
 | []=>some []
 | .str z::r=>(Yt r).map (z::·)
 | _::_=>none
theorem RepL.strs{mp:List Addr}{H:Hp}:∀ {l:List D} {vs:List V} {ns:List Str},RepL K mp H l vs->Yt l=some ns->vs=ns.map V.str
 | [],vs,ns,h,e=>by
  cases (show vs=[] from h)
  cases (Option.some.inj (show some []=some ns from e))
  rfl
 | d::l,vs,ns,h,e=>by
  obtain⟨v,r,rfl,h1,h2⟩:=h
  cases d with
  | str i=>
   have e:(Yt l).map (i::·)=some ns:=e
   cases z:Yt l with
   | none=>rw[z] at e; cases e
   | some ms=>
    rw[z] at e
    cases (Option.some.inj e)
    cases (show v=.str i from h1)
    rw[RepL.strs h2 z]
    rfl
  | _=>cases (show(none:Option (List Str))=some ns from e)
theorem Gc3:∀ {ys:List Str} {its:List Value},Vals (ys.map V.str) its->StrsAre its ys
 | [],_,.nil=>.nil
 | y::ys,_,.cons r t=>by
  obtain⟨tk,rfl⟩:=r
  exact .cons y tk (Gc3 t)
def Gne(K:PySem.W.Frag):V->List V->Hp->VK->Prop:=fun x vs H Q=>∃ z a ys,x=.str z/\vs=[.ref a]/\SqL K H a (ys.map V.str)/\(ys.map (·.length)).sum+ys.length*z.length<=1000000/\Q (.str (Txt.join z ys)) H
theorem Gl5:MtM X "str.join" (Gne X.K):=by
 intro pins s σ H x vs v us Q I rx rv h
 obtain⟨z,a,ys,rfl,rfl,hs,hb,q⟩:=h
 obtain⟨t,rfl⟩:=rx
 obtain⟨u,rfl,ru⟩:=rv.one
 cases ru
 obtain⟨its,r,pl,_⟩:=I.list hs
 exact join_list pl.isList (by simpa using Gc3 r) (Nat.le_trans hb (by decide)) fun t' k=>⟨.str _,H,I.tok k,⟨t',rfl⟩,q⟩
def Gbg(x:D)(xs:List D)(S:Sto):Out D:=match x,xs with
 | .str z,[.lst i]=>match S[i]? with
  | some c=>match Yt c.xs with
   | some ys=>if(ys.map (·.length)).sum+ys.length*z.length<=1000000 then .ok (.str (Txt.join z ys)) S else .bad
   | none=>.bad
  | none=>.bad
 | _,_=>.bad
theorem Gl6:MeD K (Gne K) Gbg:=by
 intro XQ σ ρ mp H S x xs v vs Q rs rx r p
 unfold Gbg at p
 split at p
 ·rename_i z i
  split at p
  ·rename_i c zc
   split at p
   ·rename_i ys zs
    by_cases hb:(ys.map (·.length)).sum+ys.length*z.length<=1000000
    ·rw[if_pos hb] at p
     obtain⟨w,rfl,hw⟩:=RepL.one r
     cases (show v=.str z from rx)
     obtain⟨a,us,rfl,ha,sq,q,f⟩:=rs.items hw zc
     rw[RepL.strs q zs] at sq
     exact⟨z,a,ys,rfl,rfl,sq,hb,Gx.ok (R:=Rep K) p rs rfl⟩
    ·rw[if_neg hb] at p; exact p.elim
   ·exact p.elim
  ·exact p.elim
 ·exact p.elim
def isStr:D->Bool
 | .str _=>true
 | _=>false
def mts(o:D->List D->Sto->Out D)(fo:Ev D)(f:Ev (List D)):Ev D:=fun ρ S=>(fo ρ S).bind fun x S1=>if isStr x=true then(f ρ S1).bind fun xs S2=>o x xs S2 else .bad
theorem Gl7{e:Expr}(ho:JE X XQ o fo)(ha:JA X XQ [e] f)(hbase:attributeBase o "join" X.env (eval o X.env)=eval o X.env:=by rfl)(hfew:((backTo cpos (starEach [e] X.env)).all (fun x=>!x.1)&&(backToKw cpos (keywordEach [] X.env)).all (fun x=>x.1.isSome)
   && decide ([e].length+([]:List Keyword).length+(if([]:List Keyword).isEmpty then 0 else 1)<30))=true:=by rfl)(hline:(apos.endLine==cpos.line)=true:=by rfl)(hs:starEach [e] X.env=(false,eval e X.env)::starEach [] X.env:=by rfl)(hplain:(backTo cpos (starEach [] X.env)).any (·.1)=false:=by rfl):
  JE X XQ (.Call (.Attribute o "join" apos) [e] [] cpos) (mts Gbg fo f):=by
 refine PE.mono (Gm1 PySem.F.plainAttrs_str PySem.F.slot_str_join PySem.F.type_str_join Gl5 ho ha hbase hfew hline hs hplain) fun σ H Q ⟨mp,ρ,S,G,p⟩=>?_
 refine bindP G p fun mp1 H1 x S1 v a1 G1 r1 p1=>?_
 by_cases hl:isStr x=true
 ·rw[if_pos hl] at p1
  have ty:tyV X.K "str" v H1:=by
   cases x with
   | str z=>cases (show v=.str z from r1); exact rfl
   | _=>cases hl
  exact⟨ty,bindP G1 p1 fun mp2 H2 xs S2 vs a2 G2 r2 p2=>Gl6 XQ σ ρ mp2 H2 S2 x xs v vs Q G2.rs (Rep.aft a2 _ _ r1) r2 p2⟩
 ·rw[if_neg hl] at p1; exact p1.elim
inductive JFs(X:Cx)(XQ:XW):List Expr->List (Ev D)->Prop
 | nil:JFs X XQ [] []
 | cons {e:Expr} {f:Ev D} {es:List Expr} {fs:List (Ev D)}:JE X XQ e f->JFs X XQ es fs->JFs X XQ (e::es) (f::fs)
end
theorem Gl8{P:Program}{w:World}{base:Heap}(d:Dn K mg x st ps):Cal P w K mg base x ps (fun _ _=>.bad) j:=by
 obtain⟨f,fd,F,hm,hb⟩:=d.ex
 exact⟨f,fd,⟨fun vs H Q E ⟨mp,ds,S,_,_,_,p⟩=>(show False from p).elim,fun A outer s H args us vs Q E _ _ _ _ ⟨mp,ds,S,_,_,_,p⟩=>(show False from p).elim⟩,hm,F.kp,hb⟩
structure Zb(z ti to' i j l a b c:Addr):Prop where
 tz:ti≠z
 oz:to'≠z
 iz:i≠z
 jz:j≠z
 lz:l≠z
 t_o:ti≠to'
 t_i:ti≠i
 t_j:ti≠j
 t_l:ti≠l
 oi:to'≠i
 oj:to'≠j
 ol:to'≠l
 ij:i≠j
 il:i≠l
 jl:j≠l
 az:a≠z
 ao:a≠to'
 ai:a≠i
 aj:a≠j
 al:a≠l
 bz:b≠z
 bo:b≠to'
 bi:b≠i
 bj:b≠j
 bl:b≠l
 cz:c≠z
 co:c≠to'
 ci:c≠i
 cj:c≠j
 cl:c≠l
section
open Builtin Builtin.Str
variable{prog:Program}{w:World}{A:Around}{E:Value->Shared->Prop}{s:Shared}
end
section
variable{X:Cx}{XQ:XW}
variable{a b:Expr}{fa fb:Ev D}{pos:Pos}
end
structure XB(bm:List Value):Prop where
 v:bm.contains (.type "ValueError")=true
 a:bm.contains (.type "AttributeError")=false
 n:bm.contains (.type "NameError")=false
 b:bm.contains (.type "BaseException")=true
section
variable{prog:Program}{w:World}{A:Around}{E:Value->Shared->Prop}{h:Heap}{g:Array GenState}{d:Drawn}{t:Nat}{os:OsState}
variable{nm q:Str}{C N:Addr}{bs bm:List Value}{hdct:Bool}{sn:List Str}{sub:List Value}{ab:Bool}{col:Option Bool}{dd:Option Addr}{k0 k1 k2 k3 k5:Option Value}
end
section
variable{M:Model}{A:Around}{E:Value->Shared->Prop}{env:PySem.Env}
variable{nm q:Str}{C N:Addr}{bs bm:List Value}{hdct:Bool}{sn:List Str}{sub:List Value}{ab:Bool}{col:Option Bool}{dd:Option Addr}{k0 k1 k2 k3 k5:Option Value}{newId:String}
def Gqm(h:Heap)(e C:Addr)(dx:Option Addr):Prop:=∃ t:Addr,h.get? e=some { cls:=.ref C,dict:=dx,data:=.fields #[.ref t,.none,.none,.none,.bool false,.none] }
end
def FX(e C:Addr)(dx:Option Addr):HO:=.ext fun h=>Gqm h e C dx
structure KX(K:PySem.W.Frag)(C:Addr):Prop where
 ex:∃ nm q N bs bm hdct sn sub ab col dd k0 k1 k2 k3 k5,K.lookup C=some (excClassObj nm q C N bs bm hdct sn sub ab col dd k0 k1 k2 k3 k5 "ValueError.__new__")/\XB bm
def spI(K:PySem.W.Frag):Sp:=fun vs H Q _=>∃ e v C dx,vs=[.ref e,v]/\H e=some (FX e C dx)/\KX K C/\Q .non H
def Gqn(h:Heap)(e C:Addr)(dx:Option Addr):Prop:=∃ t c k u:Value,h.get? e=some { cls:=.ref C,dict:=dx,data:=.fields #[t,.none,c,k,u,.none] }/\(dx=none->c=.none)
def Gt4(fl:Value)(h:Heap)(a T C:Addr)(dx:Option Addr):Prop:=∃ oe vs oT ts a0,h.get? a=some oe/\(oe.cls=.ref C/\oe.dict=dx/\vs[0]?=some a0/\(dx=none->vs[2]?=some .none))/\oe.data=.fields vs/\vs[1]?=some (.ref T)/\T≠a/\h.get? T=some oT/\oT.data=.fields ts/\ts[3]?=some fl
abbrev Fly:=Gt4 .none
section
variable{M:Model}{A:Around}{E:Value->Shared->Prop}{s:Shared}{Q:Unit->Shared->Prop}{env:PySem.Env}{outer:List PySem.Env}{L:Addr}{base:Heap}
structure Left(fs:List Addr)(no:List Addr)(h h':Heap):Prop where
 keep:∀ b o,b∉fs->b∉no->h.get? b=some o->h'.get? b=some o
 slot:∀ b o,b∈fs->h.get? b=some o->∃ sl,h'.get? b=some { o with slots:=sl }
end
def del(H:Hp)(a:Addr):Hp:=fun b=>if b=a then none else H b
def CXe(P:Program)(w:World):CXT:=fun outer H s E e s'=>∃ a T C dx H',e=.ref a/\s'.os=s.os/\AllBare s'.gens/\Un (frs outer) [] H H' s.heap s'.heap/\HOk P w H' s'.heap/\Fly s'.heap a T C dx/\(H' a=none/\H' T=none)/\(s.heap.get? a=none/\s.heap.get? T=none)/\E (.ref C) dx H'
def XF(H:Hp)(dx:Option Addr)(fl:Option Int):Prop:=(∀ i,fl=some i->∃ d,dx=some d/\H d=some (XA d i))/\(fl=none->dx=none)
def WX(K:PySem.W.Frag)(XQ:XW)(σ:L2.St)(C:Addr)(dx:Option Addr)(H:Hp):Prop:=∃ x mp ρ S,XF H dx x.fld/\CN K x.cls C/\XQ x mp H σ ρ S
structure XL(X:Cx)(XQ:XW):Prop where
 own:∀ (pins:List (Addr×Obj)) (σ:L2.St) (H:Hp) (s:Shared) (e C:Addr) (dx:Option Addr) (φ:Heap->Prop),Inv X pins σ H s->H e=some (.ext φ)->Gqn s.heap e C dx->X.s₀.heap.get? e=none->WX X.K XQ σ C dx (del H e)->X.xe (.ref e) s
 cal:∀ (pins:List (Addr×Obj)) (σ:L2.St) (H:Hp) (s:Shared) (e:Value) (s':Shared) (E2:XK),Inv X pins σ H s->CXe X.prog X.w X.stack H s E2 e s'->(∀ C dx H',E2 (.ref C) dx H'->WX X.K XQ σ C dx H')->X.xe e s'
 pas:PassesOwn (model X.prog X.w) X.A X.env X.xe
 pat:∀ hd,PassesOwnAt (model X.prog X.w) (X.A.mark hd) X.A X.env X.xe
def Gsu(K:PySem.W.Frag)(mp:List Addr)(H:Hp)(o:Out D)(Q:VK)(E:XK):Prop:=
 match o with
 | .ok d S=>∀ mp' H' v,Aft K mp H mp' H'->RS K mp' H' S->Rep K mp' H' d v->Q v H'
 | .exc x S=>∃ C,CN K x.cls C/\∀ mp' H' dx,Aft K mp H mp' H'->RS K mp' H' S->XF H' dx x.fld->E (.ref C) dx H'
 | .bad=>False
def spX(K:PySem.W.Frag)(n:Nat)(fn:Fn):Sp:=fun vs H Q E=>∃ mp ds S,RS K mp H S/\RepL K mp H ds vs/\ds.length=n/\Gsu K mp H (fn ds S) Q E
section
variable{P:Program}{w:World}{K:PySem.W.Frag}{mg:Str->Option Value}{base:Heap}
structure CalX(P:Program)(w:World)(K:PySem.W.Frag)(mg:Str->Option Value)(base:Heap)(x:Str)(ps:List Str)(fn:Fn)(j:Nat):Prop where
 ex:∃ f fd,FnOk P w K mg base (CXe P w) j f fd ps (spX K ps.length fn)/\mg x=some (.ref f)/\PySem.W.keepIn K (.ref f)=true/\Binds K fd ps []
end
section
variable{X:Cx}{XQ:XW}{k:Nat}{f:Addr}{fd:FuncData}{ps:List Str}{fn:Fn}{x:Str}{p pos:Pos}{e:Expr}{es:List Expr}
def XNs(K:PySem.W.Frag)(ys:List Str):Prop:=∀ y∈ys,∃ C,CN K y C/\XCl K C
structure ClX(P:Program)(w:World)(K:PySem.W.Frag)(mg:Str->Option Value)(base:Heap)(x:Str)(j:Nat):Prop where
 ex:∃ C f fd ps oI,mg x=some (.ref C)/\CN K x C/\KX K C/\PySem.W.findIn K (.ref C) "__init__"=some (some (.ref f))/\K.lookup f=some oI/\oI.cls=.type "function"/\FnOk P w K mg base CX0 j f fd ps (spI K)/\ps.length=2/\Binds K fd ps []
end
structure Plain(X:Cx):Prop where
 stk:X.stack=X.env::X.outer
 fr:X.env.frame=some X.env.locals
 ex:X.ex=[]
structure Landed(X:Cx)(pins:List (Addr×Obj))(σ:L2.St)(H:Hp)(a C:Addr)(dx:Option Addr)(s:Shared):Prop where
 ex:∃ T,Inv X pins σ H s/\Fly s.heap a T C dx/\(H a=none/\H T=none)/\(X.s₀.heap.get? a=none/\X.s₀.heap.get? T=none)/\∀ p∈X.pn++pins,p.1≠a/\p.1≠T
section
variable{X:Cx}{XQ:XW}{pins:List (Addr×Obj)}{σ:L2.St}{H:Hp}{s:Shared}{pn:List (Addr×Obj)}{xe:Value->Shared->Prop}
structure Cat(K:PySem.W.Frag)(mg:Str->Option Value)(c:Str)(ys:List Str):Prop where
 ex:∃ cs,mg c=some (.ref cs)/\∀ y∈ys,∃ C,CN K y C/\XCl K C/\PySem.W.exmOne K (.ref C) (.ref cs)=some true
end
structure Isx(K:PySem.W.Frag)(mg:Str->Option Value)(x:Str)(ys sub:List Str):Prop where
 ex:∃ cs,mg x=some (.ref cs)/\∀ y∈ys,∃ C,CN K y C/\PySem.W.kitOne K (.ref C) (.ref cs)=some (decide (y∈sub))
structure IsxB(K:PySem.W.Frag)(T:String)(ys sub:List Str):Prop where
 ex:∀ y∈ys,∃ C,CN K y C/\PySem.W.kitOne K (.ref C) (.type T)=some (decide (y∈sub))
structure XT(K:PySem.W.Frag)(mg:Str->Option Value)(sup:Str)(ys ms:List Str):Prop where
 cat:Cat K mg sup ys
 isx:∀ x∈ms,Isx K mg x ys [x]
 val:IsxB K "ValueError" ys ys
 xns:XNs K ys
section
variable{P:Program}{w:World}{K:PySem.W.Frag}{mg:Str->Option Value}{base:Heap}
structure IniX(P:Program)(w:World)(K:PySem.W.Frag)(mg:Str->Option Value)(base:Heap)(f:Addr)(j:Nat):Prop where
 ex:∃ fd ps oI,K.lookup f=some oI/\oI.cls=.type "function"/\FnOk P w K mg base CX0 j f fd ps (spI K)/\ps.length=2/\Binds K fd ps []
end
section
variable{X:Cx}{XQ:XW}
def Gt5(i j:Int):Prop:=(-1000000000000<=i/\i<=1000000000000) /\ -1000000000000<=j/\j<=1000000000000
instance {i j:Int}:Decidable (Gt5 i j):=inferInstanceAs (Decidable ((-1000000000000<=i/\i<=1000000000000) /\ -1000000000000<=j/\j<=1000000000000))
end
structure FvT(K:PySem.W.Frag)(mg:Str->Option Value)(x:Str):Prop where
 ex:∃ f,CN K x f/\mg x=some (.ref f)
def Gi2:List Value->Bool
 | .ref _::r=>Gi2 r
 | l=>l==[.type "ValueError",.type "Exception",.type "BaseException",.type "object"]
structure KA(K:PySem.W.Frag)(C:Addr):Prop where
 sa:PySem.W.findIn K (.ref C) "__setattr__"=some (some (.builtin "object.__setattr__"))
 ve:(PySem.W.clsIn K C).any (fun cd=>Gi2 cd.mro)=true
 na:PySem.W.findIn K (.ref C) "at"=some none
 hd:PySem.W.hasDictIn K C=true
section
variable{X:Cx}{pins:List (Addr×Obj)}{σ:L2.St}{H:Hp}{s:Shared}{C e:Addr}
structure BaseI(K:PySem.W.Frag)(mg:Str->Option Value)(x:Str)(f:Addr):Prop where
 ex:∃ cs mc,mg x=some (.ref cs)/\PySem.W.readsIn K cs mc=true/\PySem.W.findCls K (.ref cs) mc "__init__"=some (.val (.ref f))/\PySem.W.specialIn K (.ref cs) "__getattribute__"=some (some (.builtin "type.__getattribute__"))/\PySem.W.keepIn K (.ref f)=true
end
def spJ(K:PySem.W.Frag):Sp:=fun vs H Q _=>∃ e n C,vs=[.ref e,.int n]/\H e=some (FX e C none)/\(KX K C/\KA K C)/\∀ d,H d=none->d≠e->Q .non (upd (upd H e (FX e C (some d))) d (XA d n))
section
variable{P:Program}{w:World}{K:PySem.W.Frag}{mg:Str->Option Value}{base:Heap}
structure IniJ(P:Program)(w:World)(K:PySem.W.Frag)(mg:Str->Option Value)(base:Heap)(f:Addr)(j:Nat):Prop where
 ex:∃ fd ps oI,K.lookup f=some oI/\oI.cls=.type "function"/\FnOk P w K mg base CX0 j f fd ps (spJ K)/\ps.length=2/\Binds K fd ps []
end
section
variable{X:Cx}{pins:List (Addr×Obj)}{σ:L2.St}{H:Hp}{s:Shared}{C f:Addr}{fd:FuncData}{ps:List Str}{k:Nat}
structure ClJ(P:Program)(w:World)(K:PySem.W.Frag)(mg:Str->Option Value)(base:Heap)(x:Str)(j:Nat):Prop where
 ex:∃ C f fd ps oI,mg x=some (.ref C)/\CN K x C/\(KX K C/\KA K C)/\PySem.W.findIn K (.ref C) "__init__"=some (some (.ref f))/\K.lookup f=some oI/\oI.cls=.type "function"/\FnOk P w K mg base CX0 j f fd ps (spJ K)/\ps.length=2/\Binds K fd ps []
end
section
variable{P:Program}{w:World}{A:Around}{E:Value->Shared->Prop}{env:PySem.Env}{s:Shared}
variable{nm q:Str}{C N:Addr}{bs bm:List Value}{hdct:Bool}{sn:List Str}{sub:List Value}{ab:Bool}{col:Option Bool}{dd:Option Addr}{k0 k1 k2 k3 k5:Option Value}{newId:String}
end
structure RoomQ(k:Nat)(A:Around):Prop where
 dp:A.depth+3*k+5<recursionLimit
 un:A.units+16*k+200<cLine
 gd:A.guards=some []
structure FnQ(P:Program)(w:World)(K:PySem.W.Frag)(mg:Str->Option Value)(base:Heap)(k:Nat)(f:Addr)(fd:FuncData)(ps:List Str)(sp:Sp):Prop where
 len:∀ vs H Q E,sp vs H Q E->vs.length=ps.length
 run:∀ (A:Around) (outer:List PySem.Env) (s:Shared) (H:Hp) (args:Args) (us:List Value) (vs:List V) (Q:VK) (E:XK),RoomQ k A->Env0 P w K mg base A outer s H->BindsTo s fd args (ps.zip us)->Vals vs us->sp vs H Q E→
  codeAny (model P w) A (.call (.ref f) args) (CR CX0 outer P w H s Q E) s
section
variable{P:Program}{w:World}{K:PySem.W.Frag}{mg:Str->Option Value}{base:Heap}
structure IniXQ(P:Program)(w:World)(K:PySem.W.Frag)(mg:Str->Option Value)(base:Heap)(f:Addr)(j:Nat):Prop where
 ex:∃ fd ps oI,K.lookup f=some oI/\oI.cls=.type "function"/\FnQ P w K mg base j f fd ps (spI K)/\ps.length=2/\Binds K fd ps []
structure IniJQ(P:Program)(w:World)(K:PySem.W.Frag)(mg:Str->Option Value)(base:Heap)(f:Addr)(j:Nat):Prop where
 ex:∃ fd ps oI,K.lookup f=some oI/\oI.cls=.type "function"/\FnQ P w K mg base j f fd ps (spJ K)/\ps.length=2/\Binds K fd ps []
end
section
variable{X:Cx}{pins:List (Addr×Obj)}{σ:L2.St}{H:Hp}{s:Shared}{C f:Addr}{fd:FuncData}{ps:List Str}{k:Nat}
structure ClJQ(P:Program)(w:World)(K:PySem.W.Frag)(mg:Str->Option Value)(base:Heap)(x:Str)(j:Nat):Prop where
 ex:∃ C f fd ps oI,mg x=some (.ref C)/\CN K x C/\(KX K C/\KA K C)/\PySem.W.findIn K (.ref C) "__init__"=some (some (.ref f))/\K.lookup f=some oI/\oI.cls=.type "function"/\FnQ P w K mg base j f fd ps (spJ K)/\ps.length=2/\Binds K fd ps []
end
abbrev hx(X:Cx)(a:Addr):Cx:={ X with A:=X.A.mark (some (.ref a)),calm:=false }
structure GE(X:Cx)(XQ:XW)(e:Expr)(f:Ev D):Prop where
 h:JE X XQ e f
structure GA(X:Cx)(XQ:XW)(es:List Expr)(f:Ev (List D)):Prop where
 h:JA X XQ es f
structure GT(X:Cx)(XQ:XW)(e:Expr)(f:Ev Bool):Prop where
 h:JT X XQ e f
structure GW(X:Cx)(XQ:XW)(e:Expr)(f:Ev Bool):Prop where
 h:JW X XQ e f
structure GO(X:Cx)(XQ:XW)(e:Option Expr)(f:Ev (Option Int)):Prop where
 h:JO X XQ e f
structure GS(X:Cx)(XQ:XW)(st:Stmt)(f:Sv):Prop where
 h:JS X XQ st f
structure GSs(X:Cx)(XQ:XW)(st:List Stmt)(f:Sv):Prop where
 h:JSs X XQ st f
structure GI(X:Cx)(XQ:XW)(tg it:Expr)(f:Ev Src):Prop where
 h:JI X XQ tg it f
structure GG(X:Cx)(tg:Expr)(g:Tg):Prop where
 h:JG X tg g
structure GGs(X:Cx)(ts:List Expr)(g:Tgs):Prop where
 h:JGs X ts g
structure GTs(Y:Cx)(XQ:XW)(ifs:List Expr)(t:Ev Bool):Prop where
 h:JTs Y XQ ifs t
theorem Ga2{e:Expr}(ho:GE X XQ o fo)(ha:GA X XQ [e] f)(hbase:attributeBase o "join" X.env (eval o X.env)=eval o X.env:=by rfl)(hfew:((backTo cpos (starEach [e] X.env)).all (fun x=>!x.1)&&(backToKw cpos (keywordEach [] X.env)).all (fun x=>x.1.isSome)
   && decide ([e].length+([]:List Keyword).length+(if([]:List Keyword).isEmpty then 0 else 1)<30))=true:=by rfl)(hline:(apos.endLine==cpos.line)=true:=by rfl)(hs:starEach [e] X.env=(false,eval e X.env)::starEach [] X.env:=by rfl)(hplain:(backTo cpos (starEach [] X.env)).any (·.1)=false:=by rfl):GE X XQ (.Call (.Attribute o "join" apos) [e] [] cpos) (mts Gbg fo f):=⟨Gl7 ho.h ha.h hbase hfew hline hs hplain⟩
theorem Jz{j pos}:GE X XQ (.Constant .none j pos) (cn .non):=⟨Go0 ⟩
theorem Jy{b:Bool}{j pos}:GE X XQ (.Constant (.bool b) j pos) (cn (.bl b)):=⟨Gr9 ⟩
theorem ge_int{i:Int}{j pos}:GE X XQ (.Constant (.int i) j pos) (cn (.int i)):=⟨Goz ⟩
theorem Gi{j pos}:GE X XQ (.Constant (.str x) j pos) (cn (.str x)):=⟨Go1 ⟩
theorem Ha(ha:GE X XQ a fa)(hb:GE X XQ b fb):GE X XQ (.BinOp a .Add b pos) (o2 Hg fa fb):=⟨Gpu ha.h hb.h⟩
theorem Jl(ha:GE X XQ a fa)(hb:GE X XQ b fb):GE X XQ (.BinOp a .Sub b pos) (o2 Ui fa fb):=⟨Gpq ha.h hb.h⟩
theorem Jb(ha:GE X XQ a fa)(hb:GE X XQ b fb):GE X XQ (.BinOp a .Mult b pos) (o2 Jr fa fb):=⟨Gpw ha.h hb.h⟩
theorem Vm(ha:GE X XQ a fa)(hb:GE X XQ b fb):GE X XQ (.BinOp a .Mod b pos) (o2 Wg fa fb):=⟨Gpr ha.h hb.h⟩
theorem Ggl(ha:GE X XQ a fa)(hb:GE X XQ b fb):GE X XQ (.BinOp a .FloorDiv b pos) (o2 Gc2 fa fb):=⟨Gl4 ha.h hb.h⟩
theorem Wh(ha:GE X XQ a fa)(hb:GE X XQ b fb):GE X XQ (.BinOp a .Pow b pos) (o2 Xk fa fb):=⟨Gps ha.h hb.h⟩
theorem Gnf(ha:GE X XQ a fa)(hb:GE X XQ b fb):GE X XQ (.Compare a [.Lt] [b] pos) (o2 ltD fa fb):=⟨Gsk ha.h hb.h⟩
theorem Gng(ha:GE X XQ a fa)(hb:GE X XQ b fb):GE X XQ (.Compare a [.LtE] [b] pos) (o2 leD fa fb):=⟨Gsl ha.h hb.h⟩
theorem Gsv(ha:GE X XQ a fa)(hb:GE X XQ b fb):GE X XQ (.Compare a [.GtE] [b] pos) (o2 geD fa fb):=⟨Gsm ha.h hb.h⟩
theorem Ggm(hu:X.A.units+64<cLine)(ha:GE X XQ a fa)(hb:GE X XQ b fb):GE X XQ (.Compare a [.Eq] [b] pos) (o2 eqD fa fb):=⟨Gsh hu ha.h hb.h⟩
theorem Jx{rest:List Expr}{f g:Ev D}(ha:GE X XQ a f)(hb:GE X XQ (.BoolOp .And (b::rest) pos) g):GE X XQ (.BoolOp .And (a::b::rest) pos) (va f g):=⟨Gpa ha.h hb.h⟩
theorem Uj{op}{f:Ev D}(h:GE X XQ a f):GE X XQ (.BoolOp op [a] pos) f:=⟨Go9 h.h⟩
theorem Gi3{f:Ev D}(ha:GE X XQ a f):GE X XQ (.UnaryOp .Not a pos) (vn f):=⟨Gpb ha.h⟩
theorem Gqo(ha:GE X XQ a fa):GE X XQ (.UnaryOp .USub a pos) (o1 Ghh fa):=⟨Gp7 ha.h⟩
theorem Qv{c:Expr}(hc:GT X XQ c fc)(ha:GE X XQ a fa)(hb:GE X XQ b fb):GE X XQ (.IfExp c a b pos) (ie fc fa fb):=⟨Gpc hc.h ha.h hb.h⟩
theorem Gr(ha:GE X XQ a fa)(hb:GE X XQ b fb)(hs:Ga0 b:=by intro _ _; rfl):GE X XQ (.Subscript a b pos) (o2 getD fa fb):=⟨Gpy ha.h hb.h hs⟩
theorem Kt{e:Expr}{lo hi:Option Expr}{fe:Ev D}{fl fh:Ev (Option Int)}(he:GE X XQ e fe)(hl:GO X XQ lo fl)(hh:GO X XQ hi fh):GE X XQ (.Subscript e (.Slice lo hi none p2) pos) (sl2 fe fl fh):=⟨Ghm he.h hl.h hh.h⟩
theorem Gy(h:GA X XQ es f):GE X XQ (.List es pos) (ls f):=⟨Go4 h.h⟩
theorem Go{x1}(h:GA X XQ es f):GE X XQ (.Tuple es x1 pos) (tp f):=⟨Go3 h.h⟩
theorem Gqp{T:String}{e:Expr}{f:Ev D}(k:Kit X.K T)(hv:bootBuiltins x=some (.type T))(hnx:x≠"__name__")(hdx:(x==("__debug__":Str))=false)(hg:Gl X "isinstance")(hm:X.mg "isinstance"=none)(hgt:Gl X x)(hmt:X.mg x=none)(he:GE X XQ e f)(hs:starEach [e,.Name x p2] X.env=(false,eval e X.env)::starEach [.Name x p2] X.env)(hpl:(backTo pos (starEach [.Name x p2] X.env)).any (·.1)=false)(hs2:starEach [.Name x p2] X.env=(false,eval (.Name x p2) X.env)::starEach [] X.env):GE X XQ (.Call (.Name "isinstance" p) [e,.Name x p2] [] pos) (o1 (isD T) f):=⟨Gqb k hv hnx hdx hg hm hgt hmt he.h hs hpl hs2⟩
theorem Hf{e:Expr}(hg:Gl X "len")(hm:X.mg "len"=none)(ha:GA X XQ [e] f)(he:starEach [e] X.env=(false,eval e X.env)::starEach [] X.env:=by rfl):GE X XQ (.Call (.Name "len" p) [e] [] pos) (b1 Gz f):=⟨Gp1 hg hm ha.h he⟩
theorem Gds{e:Expr}(hg:Gl X "list")(hm:X.mg "list"=none)(ha:GA X XQ [e] f)(he:starEach [e] X.env=(false,eval e X.env)::starEach [] X.env:=by rfl):GE X XQ (.Call (.Name "list" p) [e] [] pos) (b1 Xe f):=⟨Glr hg hm ha.h he⟩
theorem Ky{e:Expr}(hg:Gl X "tuple")(hm:X.mg "tuple"=none)(ha:GA X XQ [e] f)(he:starEach [e] X.env=(false,eval e X.env)::starEach [] X.env:=by rfl):GE X XQ (.Call (.Name "tuple" p) [e] [] pos) (b1 Gad f):=⟨Git hg hm ha.h he⟩
theorem Gi4{e e':Expr}(hc:X.calm=true)(hg:Gl X "min")(hm:X.mg "min"=none)(ha:GA X XQ [e,e'] f)(he:starEach [e,e'] X.env=(false,eval e X.env)::starEach [e'] X.env:=by rfl)(hpl:(backTo pos (starEach [e'] X.env)).any (·.1)=false:=by rfl):GE X XQ (.Call (.Name "min" p) [e,e'] [] pos) (b1 Gbb f):=⟨Gp3 hc hg hm ha.h he hpl⟩
theorem Gl9{e:Expr}(hg:Gl X "int")(hm:X.mg "int"=none)(ha:GA X XQ [e] f)(he:starEach [e] X.env=(false,eval e X.env)::starEach [] X.env:=by rfl):GE X XQ (.Call (.Name "int" p) [e] [] pos) (b1 Ghi f):=⟨Gls hg hm ha.h he⟩
theorem Ggn{e:Expr}(hr:Room k X.A)(hg:Gl X "repr")(hm:X.mg "repr"=none)(ha:GA X XQ [e] f)(he:starEach [e] X.env=(false,eval e X.env)::starEach [] X.env:=by rfl):GE X XQ (.Call (.Name "repr" p) [e] [] pos) (b1 Zg f):=⟨Gl2 hr hg hm ha.h he⟩
theorem Gf1{e:Expr}(hc:X.calm=true)(hg:Gl X "all")(hm:X.mg "all"=none)(ha:GA X XQ [e] f)(he:starEach [e] X.env=(false,eval e X.env)::starEach [] X.env:=by rfl):GE X XQ (.Call (.Name "all" p) [e] [] pos) (b1 Gbd f):=⟨Gqd hc hg hm ha.h he⟩
theorem Uf{e:Expr}(ho:GE X XQ o fo)(ha:GA X XQ [e] f)(hbase:attributeBase o "append" X.env (eval o X.env)=eval o X.env:=by rfl)(hfew:((backTo cpos (starEach [e] X.env)).all (fun x=>!x.1)&&(backToKw cpos (keywordEach [] X.env)).all (fun x=>x.1.isSome)
   && decide ([e].length+([]:List Keyword).length+(if([]:List Keyword).isEmpty then 0 else 1)<30))=true:=by rfl)(hline:(apos.endLine==cpos.line)=true:=by rfl)(hs:starEach [e] X.env=(false,eval e X.env)::starEach [] X.env:=by rfl):GE X XQ (.Call (.Attribute o "append" apos) [e] [] cpos) (mt Yi fo f):=⟨Ghj ho.h ha.h hbase hfew hline hs⟩
theorem Yd{e e':Expr}(ho:GE X XQ o fo)(ha:GA X XQ [e,e'] f)(hbase:attributeBase o "insert" X.env (eval o X.env)=eval o X.env:=by rfl)(hfew:((backTo cpos (starEach [e,e'] X.env)).all (fun x=>!x.1)&&(backToKw cpos (keywordEach [] X.env)).all (fun x=>x.1.isSome)
   && decide ([e,e'].length+([]:List Keyword).length+(if([]:List Keyword).isEmpty then 0 else 1)<30))=true:=by rfl)(hline:(apos.endLine==cpos.line)=true:=by rfl)(hs:starEach [e,e'] X.env=(false,eval e X.env)::starEach [e'] X.env:=by rfl)(hpl:(backTo cpos (starEach [e'] X.env)).any (·.1)=false:=by rfl):GE X XQ (.Call (.Attribute o "insert" apos) [e,e'] [] cpos) (mt Gas fo f):=⟨Ghl ho.h ha.h hbase hfew hline hs hpl⟩
theorem Gqq{e:Expr}(ho:GE X XQ o fo)(ha:GA X XQ [e] f)(hbase:attributeBase o "pop" X.env (eval o X.env)=eval o X.env:=by rfl)(hfew:((backTo cpos (starEach [e] X.env)).all (fun x=>!x.1)&&(backToKw cpos (keywordEach [] X.env)).all (fun x=>x.1.isSome)
   && decide ([e].length+([]:List Keyword).length+(if([]:List Keyword).isEmpty then 0 else 1)<30))=true:=by rfl)(hline:(apos.endLine==cpos.line)=true:=by rfl)(hs:starEach [e] X.env=(false,eval e X.env)::starEach [] X.env:=by rfl):GE X XQ (.Call (.Attribute o "pop" apos) [e] [] cpos) (mt Geq fo f):=⟨Gqh ho.h ha.h hbase hfew hline hs⟩
theorem Gi5{c:Expr}{op op':CmpOp}{r r':R2}{o o':D->D->Sto->Out D}{fc:Ev D}(ho:OpR X (compareOp op) r)(hd:OpD X.K r o)(ho':OpR X (compareOp op') r')(hd':OpD X.K r' o')(ha:GE X XQ a fa)(hb:GE X XQ b fb)(hc:GE X XQ c fc)(hm:lastMarks [op,op'] [b,c]=false:=by with_unfolding_all rfl):GE X XQ (.Compare a [op,op'] [b,c] pos) (ch o o' fa fb fc):=⟨Giu ho hd ho' hd' ha.h hb.h hc.h hm⟩
theorem Vz(ha:GE X XQ a fa)(hb:GE X XQ b fb):GT X XQ (.Compare a [.Lt] [b] pos) (tb (o2 ltD fa fb)):=⟨Gsn ha.h hb.h⟩
theorem Wa(ha:GE X XQ a fa)(hb:GE X XQ b fb):GT X XQ (.Compare a [.Gt] [b] pos) (tb (o2 gtD fa fb)):=⟨Gso ha.h hb.h⟩
theorem Jj(hu:X.A.units+64<cLine)(ha:GE X XQ a fa)(hb:GE X XQ b fb):GT X XQ (.Compare a [.Eq] [b] pos) (tb (o2 eqD fa fb)):=⟨Gsi hu ha.h hb.h⟩
theorem Ger(hu:X.A.units+64<cLine)(ha:GE X XQ a fa)(hb:GE X XQ b fb):GT X XQ (.Compare a [.NotEq] [b] pos) (tb (o2 neD fa fb)):=⟨Gsj hu ha.h hb.h⟩
theorem Ggo(ha:GE X XQ a fa)(hb:GE X XQ b fb):GT X XQ (.Compare a [.IsNot] [b] pos) (tb (o2 Xl fa fb)):=⟨Glu ha.h hb.h⟩
theorem Qw{f:Ev Bool}(h:GT X XQ a f):GT X XQ (.UnaryOp .Not a pos) (tn f):=⟨Go6 h.h⟩
theorem Qi{e:Expr}{f:Ev D}(h:GE X XQ e f)(he:∀ whole,isTrue e X.env whole=(do let v <- whole; standAt e.pos; holding [v] (truthy v)):=by intro _; rfl):GT X XQ e (tt f):=⟨Go5 h.h he⟩
theorem Ye{f:Ev Bool}(h:GT X XQ a f):GW X XQ (.BoolOp .And [a] pos) f:=⟨Gk9 h.h⟩
theorem Yu{f:Ev Bool}(h:GT X XQ a f):GW X XQ (.BoolOp .Or [a] pos) f:=⟨Go7 h.h⟩
theorem Xm{rest:List Expr}{f g:Ev Bool}(h:GT X XQ a f)(hb:GW X XQ (.BoolOp .And (b::rest) pos) g):GW X XQ (.BoolOp .And (a::b::rest) pos) (ta f g):=⟨Go8 h.h hb.h⟩
theorem Xn{rest:List Expr}{f g:Ev Bool}(h:GT X XQ a f)(hb:GW X XQ (.BoolOp .Or (b::rest) pos) g):GW X XQ (.BoolOp .Or (a::b::rest) pos) (to f g):=⟨Gsc h.h hb.h⟩
theorem Gc :GA X XQ [] an:=⟨Go2 ⟩
theorem Ga{e:Expr}{f:Ev D}{g:Ev (List D)}(ha:GE X XQ e f)(hr:GA X XQ es g)(hs:starEach (e::es) X.env=(false,eval e X.env)::starEach es X.env:=by rfl):GA X XQ (e::es) (ac f g):=⟨Gk5 ha.h hr.h hs⟩
theorem Va :GO X XQ none onone:=⟨Glv ⟩
theorem Vb{e:Expr}{f:Ev D}(h:GE X XQ e f):GO X XQ (some e) (osome f):=⟨Glw h.h⟩
theorem He(hg:Gl X "range")(hm:X.mg "range"=none)(ha:GA X XQ [a] f)(hs:starEach [a] X.env=[(false,eval a X.env)]:=by rfl):GI X XQ tg (.Call (.Name "range" p) [a] [] pos) (ir1 f):=⟨Ghf hg hm ha.h hs⟩
theorem Wi{l:Expr}{f:Ev D}(hl:GE X XQ l f):GI X XQ tg l (isrc f):=⟨Gpm hl.h⟩
theorem ggn(i:Nat)(hN:X.N.Nodup)(h:OkL X.env.scope x)(hi:X.N[i]?=some x:=by rfl)(hf:X.fn x=true:=by rfl):GG X (.Name x pos) (gn i):=⟨jgn i hN h hi hf⟩
theorem Gt6(i:Nat)(hN:N'.Nodup)(h:Gl3 scope x=true)(hi:N'[i]?=some x:=by rfl):GG (blk X s2 H2 C scope c N' fp) (.Name x pos) (gn i):=⟨Gt0 i hN h hi⟩
theorem Gae{m:Nat}{k:Tgs}(hc:X.calm=true)(h:GGs X es k)(hn:(assignEach es X.env).length=n:=by rfl)(hst:(assignEach es X.env).findIdx? (·.1)=none:=by rfl):GG X (.Tuple es m pos) (gt k n):=⟨Gpe hc h.h hn hst⟩
theorem Yf :GGs X [] gnil:=⟨Gld ⟩
theorem Jm{e:Expr}{k:Tgs}(h1:GG X e g)(h2:GGs X es k)(hs:(assignEach (e::es) X.env).map (·.2)=assign e X.env::(assignEach es X.env).map (·.2):=by rfl):GGs X (e::es) (gcons g k):=⟨Gik h1.h h2.h hs⟩
theorem Hb :GSs X XQ [] skip:=⟨Gla ⟩
theorem Gg{rest:List Stmt}{f g:Sv}(h1:GS X XQ st f)(h2:GSs X XQ rest g):GSs X XQ (st::rest) (sq f g):=⟨Gii h1.h h2.h⟩
theorem Gm{f:Sv}(h1:GS X XQ st f):GSs X XQ [st] f:=⟨Glb h1.h⟩
theorem Gs{e:Expr}{f:Ev D}(he:GE X XQ e f):GS X XQ (.Return (some e) pos) (sret f):=⟨Gpd he.h⟩
theorem Hj{c:Expr}{a b:List Stmt}{f g:Sv}(hc:GT X XQ c fc)(ha:GSs X XQ a f)(hb:GSs X XQ b g):GS X XQ (.If c a b pos) (sif fc f g):=⟨Gsd hc.h ha.h hb.h⟩
theorem gset(i:Nat){e:Expr}{f:Ev D}(hN:X.N.Nodup)(h:OkL X.env.scope x)(he:GE X XQ e f)(hi:X.N[i]?=some x:=by rfl)(hs:swapsWith e (some (.Name x pos')) pos.line X.env=pure false:=by rfl)(hf:X.fn x=true:=by rfl):GS X XQ (.Assign [.Name x pos'] e pos) (sa f (gn i)):=⟨jset i hN h he.h hi hs hf⟩
theorem Gi6(i:Nat){sc:Scope}{f:Ev Src}{e:Ev D}(hsc:X.env.scope=sc)(hNN:X.N=N)(ct:CompTab sc scope N N' pk)(hcm:X.calm=true)(hi:GI X XQ tg iter f)(hg:∀ cl s2 H2 C fp,GG (blk X s2 H2 C scope cl N' fp) tg g)(ht:∀ cl s2 H2 C fp,GTs (blk X s2 H2 C scope cl N' fp) XN ifs t)(he:∀ cl s2 H2 C fp,GE (blk X s2 H2 C scope cl N' fp) XN elt e)(hN:X.N.Nodup)(hl:OkL X.env.scope y)(hsw:swapsWith (.ListComp elt [⟨tg,iter,ifs,0⟩] scope pos) (some (.Name y py)) spos.line X.env=pure true)(hy:X.N[i]?=some y:=by rfl)(hs:∀ x,foldedSetIterable iter X.env x=pure x:=by intro _; rfl)(hf:X.fn y=true:=by rfl):GS X XQ (.Assign [.Name y py] (.ListComp elt [⟨tg,iter,ifs,0⟩] scope pos) spos) (sa (cmp f pk g t e) (gn i)):=⟨Gi0 i hsc hNN ct hcm hi.h (fun z0 z1 z2 z3 z4=>(hg z0 z1 z2 z3 z4).h) (fun z0 z1 z2 z3 z4=>(ht z0 z1 z2 z3 z4).h) (fun z0 z1 z2 z3 z4=>(he z0 z1 z2 z3 z4).h) hN hl hsw hy hs hf⟩
theorem Gaf{e:Expr}{f:Ev D}(he:GE X XQ e f)(hg:GG X tg g)(hs:swapsWithSole [tg] e pos.line X.env=pure false:=by rfl)(hw:swappedStores [tg] e X.env=pure none:=by rfl)(h1:(assignEach [tg] X.env).map (·.2)=[assign tg X.env]:=by rfl):GS X XQ (.Assign [tg] e pos) (sa f g):=⟨Gpf he.h hg.h hs hw h1⟩
theorem Gbh{ob ix e:Expr}{f fi:Ev D}(he:GE X XQ e f)(hob:GE X XQ ob fo)(hix:GE X XQ ix fi)(hs:swapsWithSole [.Subscript ob ix p2] e pos.line X.env=pure false:=by rfl)(hw:swappedStores [.Subscript ob ix p2] e X.env=pure none:=by rfl)(h1:(assignEach [.Subscript ob ix p2] X.env).map (·.2)=[assign (.Subscript ob ix p2) X.env]:=by rfl)(ha:∀ v,assign (.Subscript ob ix p2) X.env v=(do
   let ov <- holding [v] (eval ob X.env)
   let iv <- holding [v,ov] (eval ix X.env)
   standAt p2
   holding [v,ov,iv] (setItem ov iv v)
   release [v,ov,iv] []):=by intro _; rfl):GS X XQ (.Assign [.Subscript ob ix p2] e pos) (ss f fo fi Ys):=⟨Giq he.h hob.h hix.h hs hw h1 ha⟩
theorem Qo{e:Expr}{f:Ev D}(he:GE X XQ e f)(hs:swapsWith e none pos.line X.env=pure false:=by rfl):GS X XQ (.Expr e pos) (sx f):=⟨Glc he.h hs⟩
theorem Uk{body:List Stmt}{f:Ev Src}{b:Sv}(hp:PassesOwn (model X.prog X.w) X.A X.env X.xe)(hc:X.calm=true)(hi:GI X XQ tg iter f)(hg:GG X tg g)(hb:GSs X XQ body b)(hs:∀ x,foldedSetIterable iter X.env x=pure x:=by intro _; rfl):GS X XQ (.For tg iter body [] pos) (sfor f g b):=⟨Gpi hp hc hi.h hg.h hb.h hs⟩
theorem Gi7(fuel:Nat){c:Expr}{body:List Stmt}{b:Sv}(hp:PassesOwn (model X.prog X.w) X.A X.env X.xe)(hc:GT X XQ c fc)(hb:GSs X XQ body b):GS X XQ (.While c body [] pos) (whN fc b fuel):=⟨Gil fuel hp hc.h hb.h⟩
theorem gv(i:Nat)(h:OkV X.env.scope x)(hN:X.N[i]?=some x:=by rfl):GE X XQ (.Name x pos) (vr i):=⟨jv i h hN⟩
theorem gvB(i:Nat)(h:Giz scope x=true)(hN:N'[i]?=some x:=by rfl):GE (blk X s2 H2 C scope c N' fp) XQ (.Name x pos) (vr i):=⟨jvB i h hN⟩
theorem gown{e:Expr}{t:Ev (List D)}(C:Cal X.prog X.w X.K X.mg X.base x ps fn j)(hr:Room k X.A)(hg:Gl X x)(hp:Ki x=true)(ha:GA X XQ (e::es) t)(hn:ps.length=n:=by rfl)(hj:j<=k:=by decide)(he:starEach (e::es) X.env=(false,eval e X.env)::starEach es X.env:=by rfl)(hpl:(backTo pos (starEach es X.env)).any (·.1)=false:=by rfl):GE X XQ (.Call (.Name x p) (e::es) [] pos) (cl n (Gn fn) t):=⟨jown C hr hg hp ha.h hn hj he hpl⟩
theorem gcomp{sc:Scope}{f:Ev Src}{e:Ev D}(hsc:X.env.scope=sc)(hNN:X.N=N)(ct:CompTab sc scope N N' pk)(hcm:X.calm=true)(hi:GI X XQ tg iter f)(hg:∀ cl s2 H2 C fp,GG (blk X s2 H2 C scope cl N' fp) tg g)(ht:∀ cl s2 H2 C fp,GTs (blk X s2 H2 C scope cl N' fp) XN ifs t)(he:∀ cl s2 H2 C fp,GE (blk X s2 H2 C scope cl N' fp) XN elt e)(hs:∀ x,foldedSetIterable iter X.env x=pure x:=by intro _; rfl):GE X XQ (.ListComp elt [⟨tg,iter,ifs,0⟩] scope pos) (cmp f pk g t e):=⟨jcomp hsc hNN ct hcm hi.h (fun z0 z1 z2 z3 z4=>(hg z0 z1 z2 z3 z4).h) (fun z0 z1 z2 z3 z4=>(ht z0 z1 z2 z3 z4).h) (fun z0 z1 z2 z3 z4=>(he z0 z1 z2 z3 z4).h) hs⟩
theorem Je{Y:Cx}:GTs Y XQ [] ttrue:=⟨Glj ⟩
theorem Gma{Y:Cx}{c:Expr}(h:GT Y XQ c t):GTs Y XQ [c] t:=⟨Glk h.h⟩
theorem GW.jt{e:Expr}{f:Ev Bool}(h:GW X XQ e f):GT X XQ e f:=⟨JW.jt h.h⟩
structure FH(K:PySem.W.Frag)(x:Str)(st:Stmt):Prop where
 ex:∃ (f:Addr) (oc:Value) (od an:Option Addr) (osl:Array (Option Value)) (kV doc pm cdv ct:Value),PySem.W.nsIn K mainGlobals x=some (some (.ref f))/\K.lookup f=some ⟨oc,od,.func (PySem.W.fnOf x x (Kw st) (Jq st) (Gj st) .none kV doc pm an cdv ct),osl⟩/\PySem.W.codeIn K cdv x=true/\PySem.W.keepIn K (.ref f)=true
section
variable{K:PySem.W.Frag}{mg:Str->Option Value}
theorem Gsw{f:Addr}{oc:Value}{od an:Option Addr}{osl:Array (Option Value)}{kV doc pm cdv ct:Value}(a:PySem.W.nsIn K mainGlobals x=some (some (.ref f)))(l:K.lookup f=some ⟨oc,od,.func (PySem.W.fnOf x x (Kw st) (Jq st) (Gj st) .none kV doc pm an cdv ct),osl⟩)(c:PySem.W.codeIn K cdv x=true)(k:PySem.W.keepIn K (.ref f)=true):FH K x st:=⟨f,oc,od,an,osl,kV,doc,pm,cdv,ct,a,l,c,k⟩
theorem FH.dn(F:FH K x st)(X:K.In h)(G:h.Ns mainGlobals mg)(hb:∀ (kV doc pm:Value) (an:Option Addr) (cdv ct:Value) (us:List Value),us.length=ps.length->bindArgs (PySem.W.fnOf x x (Kw st) (Jq st) (Gj st) .none kV doc pm an cdv ct) ⟨us,[]⟩=pure (ps.zip us)):Dn K mg x st ps:=by
 obtain⟨f,oc,od,an,osl,kV,doc,pm,cdv,ct,a,l,c,k⟩:=F.ex
 exact Gss X G a l c k hb
end
theorem Gdt{i:Int}{t:Tok}(X:K.In h)(G:h.Ns mainGlobals mg)(a:PySem.W.nsIn K mainGlobals x=some (some (.int i t))):∃ u v,mg x=some u/\Hn v u/\∀ mp H,Rep K mp H (.int i) v:=
 ⟨_,.int i,PySem.W.mg_of X G a,⟨t,rfl⟩,fun _ _=>rfl⟩
structure FnS(N P:List Str)(sc:Scope):Prop where
 s:FnScope N P sc
 v:N.all (okV sc)=true
 l:N.all (okL sc)=true
theorem kdF{s:Scope}(a:s.kind=.function:=by rfl)(b:s.isCoroutine=false:=by rfl)(c:s.isGenerator=false:=by rfl)(d:N.Nodup:=by decide +kernel)(e:N.take P.length=P:=by rfl)(f:∀ x∈P,s.names.lookup x=some .local\/s.names.lookup x=some .cell:=by decide +kernel)(g:∀ y∈s.names,y.2≠.free:=by decide +kernel)(v:N.all (okV s)=true:=by decide +kernel)(l:N.all (okL s)=true:=by decide +kernel):FnS N P s:=⟨⟨a,b,c,d,e,f,g⟩,v,l⟩
theorem FnS.nd{sc:Scope}(S:FnS N P sc):N.Nodup:=S.s.nd
theorem Gi8{i:Nat}(h:N[i]?=some x):x∈N:=List.mem_of_getElem? h
theorem FnS.ov{sc:Scope}{i:Nat}(S:FnS N P sc)(h:N[i]?=some x):OkV sc x:=⟨List.all_eq_true.mp S.v x (Gi8 h)⟩
theorem FnS.ol{sc:Scope}{i:Nat}(S:FnS N P sc)(h:N[i]?=some x):OkL sc x:=⟨List.all_eq_true.mp S.l x (Gi8 h)⟩
theorem kdC{sc:Scope}(a:scope.kind=.function:=by rfl)(b:∀ y∈scope.names,y.2=.cell->scope.names.lookup y.1=some .cell:=by decide +kernel)(c:∀ y∈scope.names,y.2=.local->scope.names.lookup y.1=some .local:=by decide +kernel)(d:∀ y∈scope.names,y.2=.free->sc.names.lookup y.1=some .cell\/sc.names.lookup y.1=some .free:=by decide +kernel)(e:pk.length=N'.length:=by rfl)(f:((List.range N'.length).all fun i=>match pk[i]? with
  | some (some j)=>match N[j]?,N'[i]? with
   | some x,some y=>(x==y)&&((sc.names.lookup y==some NameKind.cell)||(sc.names.lookup y==some NameKind.free))&&(scope.names.lookup y==some NameKind.free)
   | _,_=>false
  | _=>true)=true:=by decide +kernel):CompTab sc scope N N' pk:=⟨a,b,c,d,e,f⟩
section
variable{X:Cx}{XQ:XW}{k:Nat}{x:Str}{p pos:Pos}{e:Expr}{es:List Expr}{P:List Str}{f:Ev D}
theorem gw(i:Nat)(S:FnS X.N P X.env.scope)(hN:X.N[i]?=some x:=by rfl):GE X XQ (.Name x pos) (vr i):=gv i (S.ov hN) hN
theorem gG(s:Scope)(h:okG s x=true:=by decide +kernel)(hs:X.env.scope=s:=by rfl):Gl X x:=gl ⟨hs▸h⟩
theorem ggw(i:Nat)(S:FnS X.N P X.env.scope)(hi:X.N[i]?=some x:=by rfl)(hf:X.fn x=true:=by rfl):GG X (.Name x pos) (gn i):=ggn i S.nd (S.ol hi) hi hf
theorem gsew(i:Nat)(S:FnS X.N P X.env.scope)(he:GE X XQ e f)(hi:X.N[i]?=some x:=by rfl)(hs:swapsWith e (some (.Name x pos')) pos.line X.env=pure false:=by rfl)(hf:X.fn x=true:=by rfl):
  GS X XQ (.Assign [.Name x pos'] e pos) (sa f (gn i)):=gset i S.nd (S.ol hi) he hi hs hf
theorem gow{t:Ev (List D)}(s:Scope)(C:Cal X.prog X.w X.K X.mg X.base x ps fn j)(hr:Room k X.A)(ha:GA X XQ (e::es) t)(hg:okG s x=true:=by decide +kernel)(hn:ps.length=n:=by rfl)(hj:j<=k:=by decide)(hs:X.env.scope=s:=by rfl)(he:starEach (e::es) X.env=(false,eval e X.env)::starEach es X.env:=by rfl)(hpl:(backTo pos (starEach es X.env)).any (·.1)=false:=by rfl):
  GE X XQ (.Call (.Name x p) (e::es) [] pos) (cl n (Gn fn) t):=gown C hr (gG s hg hs) (okG.gl hg).2 ha hn hj he hpl
theorem Kq{T:String}(g1:Gl X "isinstance")(g2:Gl X x)(k:Kit X.K T)(hm:X.mg "isinstance"=none)(hmt:X.mg x=none)(he:GE X XQ e f)(hv:bootBuiltins x=some (.type T):=by rfl)(hnx:x≠"__name__":=by decide +kernel)(hdx:(x==("__debug__":Str))=false:=by decide +kernel)(hs:starEach [e,.Name x p2] X.env=(false,eval e X.env)::starEach [.Name x p2] X.env:=by rfl)(hpl:(backTo pos (starEach [.Name x p2] X.env)).any (·.1)=false:=by rfl)(hs2:starEach [.Name x p2] X.env=(false,eval (.Name x p2) X.env)::starEach [] X.env:=by rfl):GE X XQ (.Call (.Name "isinstance" p) [e,.Name x p2] [] pos) (o1 (isD T) f):=Gqp k hv hnx hdx g1 hm g2 hmt he hs hpl hs2
theorem Zi{sc:Scope}{f:Ev Src}{e:Ev D}(S:FnS N P sc)(hi:GI X XQ tg iter f)(hg:∀ cl s2 H2 C fp,GG (blk X s2 H2 C scope cl N' fp) tg g)(ht:∀ cl s2 H2 C fp,GTs (blk X s2 H2 C scope cl N' fp) XN ifs t)(he:∀ cl s2 H2 C fp,GE (blk X s2 H2 C scope cl N' fp) XN elt e)(ct:CompTab sc scope N N' pk:=by exact kdC)(hsc:X.env.scope=sc:=by rfl)(hNN:X.N=N:=by rfl)(hcm:X.calm=true:=by rfl)(hs:∀ x,foldedSetIterable iter X.env x=pure x:=by intro _; rfl):GE X XQ (.ListComp elt [⟨tg,iter,ifs,0⟩] scope pos) (cmp f pk g t e):=gcomp hsc hNN ct hcm hi hg ht he hs
theorem Yj(i:Nat){sc:Scope}{f:Ev Src}{e:Ev D}(S:FnS N P sc)(hi:GI X XQ tg iter f)(hg:∀ cl s2 H2 C fp,GG (blk X s2 H2 C scope cl N' fp) tg g)(ht:∀ cl s2 H2 C fp,GTs (blk X s2 H2 C scope cl N' fp) XN ifs t)(he:∀ cl s2 H2 C fp,GE (blk X s2 H2 C scope cl N' fp) XN elt e)(ct:CompTab sc scope N N' pk:=by exact kdC)(hsc:X.env.scope=sc:=by rfl)(hNN:X.N=N:=by rfl)(hcm:X.calm=true:=by rfl)(hsw:swapsWith (.ListComp elt [⟨tg,iter,ifs,0⟩] scope pos) (some (.Name y py)) spos.line X.env=pure true:=by rfl)(hy:N[i]?=some y:=by rfl)(hs:∀ x,foldedSetIterable iter X.env x=pure x:=by intro _; rfl)(hf:X.fn y=true:=by rfl):GS X XQ (.Assign [.Name y py] (.ListComp elt [⟨tg,iter,ifs,0⟩] scope pos) spos) (sa (cmp f pk g t e) (gn i)):=
 Gi6 i hsc hNN ct hcm hi hg ht he (hNN▸S.nd) (hsc▸S.ol hy) hsw (hNN▸hy) hs hf
section
variable{s2:Shared}{H2:Hp}{C:Addr}{scope:Scope}{c:List (Str×Addr)}{N':List Str}{fp:List Addr}
theorem Hv(i:Nat)(h:Giz scope x=true:=by decide +kernel)(hN:N'[i]?=some x:=by rfl):GE (blk X s2 H2 C scope c N' fp) XQ (.Name x pos) (vr i):=gvB i h hN
theorem Gnh(h:okG scope x=true:=by decide +kernel):Gl (blk X s2 H2 C scope c N' fp) x:=glB h
theorem Kz(i:Nat)(h:Gl3 scope x=true:=by decide +kernel)(hN:N'.Nodup:=by decide +kernel)(hi:N'[i]?=some x:=by rfl):GG (blk X s2 H2 C scope c N' fp) (.Name x pos) (gn i):=Gt6 i hN h hi
theorem Zj{t:Ev (List D)}(Q:Cal X.prog X.w X.K X.mg X.base x ps fn j)(hr:Room k X.A)(ha:GA (blk X s2 H2 C scope c N' fp) XQ (e::es) t)(hg:okG scope x=true:=by decide +kernel)(hn:ps.length=n:=by rfl)(hj:j<=k:=by decide)(he:starEach (e::es) (blk X s2 H2 C scope c N' fp).env=(false,eval e (blk X s2 H2 C scope c N' fp).env)::starEach es (blk X s2 H2 C scope c N' fp).env:=by rfl)(hpl:(backTo pos (starEach es (blk X s2 H2 C scope c N' fp).env)).any (·.1)=false:=by rfl):
  GE (blk X s2 H2 C scope c N' fp) XQ (.Call (.Name x p) (e::es) [] pos) (cl n (Gn fn) t):=gown (X:=blk X s2 H2 C scope c N' fp) Q hr (glB hg) (okG.gl hg).2 ha hn hj he hpl
end
end
section
variable{P:Program}{w:World}{K:PySem.W.Frag}{mg:Str->Option Value}{base:Heap}{x:Str}{st:Stmt}{ps N:List Str}{fn:Fn}
abbrev GH(K:PySem.W.Frag)(mg:Str->Option Value):Prop:=∃ h:Heap,K.In h/\h.Ns mainGlobals mg
theorem calw{b:Sv}(k:Nat)(F:FH K x st)(g:GH K mg)(S:FnS N ps (Gj st))(hfn:fn=fnB N.length b)
  (hb:∀ (f:Addr) (cdv:Value) (A:Around) (outer:List PySem.Env) (s:Shared) (H:Hp) (E:XK),Room k (A.deeper (envOfC x (Gj st) s.heap.objs.size f cdv))→
   JSs (Gde CX0 P w K mg base N x (Gj st) f cdv A outer s H E).nox XN (Jq st) b)
  (ha:∀ (kV doc pm:Value) (an:Option Addr) (cdv ct:Value) (us:List Value),us.length=ps.length->bindArgs (PySem.W.fnOf x x (Kw st) (Jq st) (Gj st) .none kV doc pm an cdv ct) ⟨us,[]⟩=pure (ps.zip us):=by first | exact(fun _ _ _ _ _ _ us hl=>match us,hl with | [_],_=>rfl) | exact(fun _ _ _ _ _ _ us hl=>match us,hl with | [_,_],_=>rfl) | exact(fun _ _ _ _ _ _ us hl=>match us,hl with | [_,_,_],_=>rfl) | exact(fun _ _ _ _ _ _ us hl=>match us,hl with | [_,_,_,_],_=>rfl) | exact(fun _ _ _ _ _ _ us hl=>match us,hl with | [_,_,_,_,_],_=>rfl) | exact(fun _ _ _ _ _ _ us hl=>match us,hl with | [_,_,_,_,_,_],_=>rfl)):Cal P w K mg base x ps fn (k+1):=
 let ⟨_,X,G⟩:=g; Gqi N k b hfn (F.dn X G ha) S.s hb
theorem FH.fnx{f:Addr}(F:FH K x st)(X:K.In h)(G:h.Ns mainGlobals mg)(hm:mg x=some (.ref f)):∃ od an osl kV doc pm cdv ct,∃ oc:Value,PySem.W.keepIn K (.ref f)=true/\PySem.W.codeIn K cdv x=true/\K.lookup f=some ⟨oc,od,.func (PySem.W.fnOf x x (Kw st) (Jq st) (Gj st) .none kV doc pm an cdv ct),osl⟩:=by
 obtain⟨f',oc,od,an,osl,kV,doc,pm,cdv,ct,a,l,c,k⟩:=F.ex
 have e:=hm.symm.trans (PySem.W.mg_of X G a)
 cases e
 exact⟨od,an,osl,kV,doc,pm,cdv,ct,oc,k,c,l⟩
end
def Gcg(neg:Bool)(x y:D)(S:Sto):Out D:=match toP S 40 x,toP S 40 y with
 | some p,some (.list l)=>if(SeqAt.shaped p&&SeqAt.shaped (.list l))=true then .ok (.bl (if neg=true then !(l.any fun z=>PyData.eqv z p) else l.any fun z=>PyData.eqv z p)) S else .bad
 | some p,some (.tuple l)=>if(SeqAt.shaped p&&SeqAt.shaped (.tuple l))=true then .ok (.bl (if neg=true then !(l.any fun z=>PyData.eqv z p) else l.any fun z=>PyData.eqv z p)) S else .bad
 | _,_=>.bad
abbrev inP:=Gcg false
abbrev Gqr:=Gcg true
section
variable{X:Cx}{XQ:XW}{a b:Expr}{fa fb:Ev D}{pos:Pos}
theorem Gi9(neg:Bool)(hu:X.A.units+65<cLine):OpX X (compareOp (if neg=true then .NotIn else .In)) (Gcg neg):=by
 intro pins s σ ρ XQ mp H S x y v u vv uv Q I rs rx ry rv ru p _
 unfold Gcg at p
 cases z1:toP S 40 x with
 | none=>simp only[z1] at p; exact p.elim
 | some a=>
  cases z2:toP S 40 y with
  | none=>simp only[z1,z2] at p; exact p.elim
  | some b=>
   simp only[z1,z2] at p
   obtain⟨as,ra⟩:=Yr I rs 40 x v vv a rx rv z1
   obtain⟨bs,rb⟩:=Yr I rs 40 y u uv b ry ru z2
   cases b with
   | list l=>
    simp only at p
    by_cases hs:(SeqAt.shaped a&&SeqAt.shaped (.list l))=true
    ·rw[if_pos hs] at p
     rw[Bool.and_eq_true] at hs
     cases neg
     ·exact SeqAt.in_list_reads rb ra (SeqAt.canLay_of_shaped hs.2) (SeqAt.canLay_of_shaped hs.1) (room_in_shaped hs.1 hu) ⟨.bl _,H,I,rfl,Gx.ok (R:=Rep X.K) p rs rfl⟩
     ·exact SeqAt.notIn_list_reads rb ra (SeqAt.canLay_of_shaped hs.2) (SeqAt.canLay_of_shaped hs.1) (room_in_shaped hs.1 hu) ⟨.bl _,H,I,rfl,Gx.ok (R:=Rep X.K) p rs rfl⟩
    ·rw[if_neg hs] at p; exact p.elim
   | tuple l=>
    simp only at p
    by_cases hs:(SeqAt.shaped a&&SeqAt.shaped (.tuple l))=true
    ·rw[if_pos hs] at p
     rw[Bool.and_eq_true] at hs
     cases neg
     ·exact SeqAt.in_tuple_reads rb ra (SeqAt.canLay_of_shaped hs.2) (SeqAt.canLay_of_shaped hs.1) (room_in_shaped hs.1 hu) ⟨.bl _,H,I,rfl,Gx.ok (R:=Rep X.K) p rs rfl⟩
     ·exact SeqAt.notIn_tuple_reads rb ra (SeqAt.canLay_of_shaped hs.2) (SeqAt.canLay_of_shaped hs.1) (room_in_shaped hs.1 hu) ⟨.bl _,H,I,rfl,Gx.ok (R:=Rep X.K) p rs rfl⟩
    ·rw[if_neg hs] at p; exact p.elim
   | _=>exact p.elim
theorem Gja(neg:Bool)(x y:D)(S:Sto)(e:XD)(S':Sto):Gcg neg x y S≠.exc e S':=by
 unfold Gcg
 split
 ·split<;>exact fun z=>nomatch z
 ·split<;>exact fun z=>nomatch z
 ·exact fun z=>nomatch z
theorem Gdu(hr:Room k X.A)(ha:GE X XQ a fa)(hb:GE X XQ b fb)(hm:behindInMarks .In b=false:=by rfl):GE X XQ (.Compare a [.In] [b] pos) (o2 inP fa fb):=⟨Gip (Gi9 false (by have:=hr.un; omega)) (Gja false) ha.h hb.h hm⟩
theorem Gmb(hr:Room k X.A)(ha:GE X XQ a fa)(hb:GE X XQ b fb)(hm:behindInMarks .NotIn b=false:=by rfl):GT X XQ (.Compare a [.NotIn] [b] pos) (tb (o2 Gqr fa fb)):=⟨Gfy (Gi9 true (by have:=hr.un; omega)) (Gja true) ha.h hb.h hm⟩
end
theorem Ggp{p:Addr}{sl:Array (Option Value)}{y1 y2 y3 y4:Str}{t1 t2 t3 t4:Tok}(X:K.In h)(G:h.Ns mainGlobals mg)(a:PySem.W.nsIn K mainGlobals x=some (some (.ref p)))(l:K.lookup p=some { cls:=.type "tuple",dict:=none,data:=.seq #[.str y1 t1,.str y2 t2,.str y3 t3,.str y4 t4] n,slots:=sl }):
  ∃ u v,mg x=some u/\Hn v u/\∀ mp H,Rep K mp H (.tup [.str y1,.str y2,.str y3,.str y4]) v:=
 ⟨_,.ref p,PySem.W.mg_of X G a,rfl,fun _ _=>⟨p,[.str y1,.str y2,.str y3,.str y4],rfl,.inr ⟨_,_,n,l,rfl,rfl,by rw[sizeLine_eq]; simp,.cons ⟨t1,rfl⟩ (.cons ⟨t2,rfl⟩ (.cons ⟨t3,rfl⟩ (.cons ⟨t4,rfl⟩ .nil)))⟩,RepL.cons rfl (RepL.cons rfl (RepL.cons rfl (RepL.cons rfl RepL.nil)))⟩⟩
section
variable{X:Cx}{XQ:XW}
def mt0(o:D->List D->Sto->Out D)(fo:Ev D):Ev D:=fun ρ S=>(fo ρ S).bind fun x S1=>if isLst x S1=true then o x [] S1 else .bad
@[simp] theorem Gt7{o:D->List D->Sto->Out D}{ρ:Lc}{S:Sto}:mt0 o fo ρ S=(fo ρ S).bind fun x S1=>if isLst x S1=true then o x [] S1 else .bad:=id rfl
end
inductive DP:List (Option Expr)->List Expr->List (Str×D)->Prop
 | nil:DP [] [] []
 | i {k:Str} {i:Int} {j j' p p'} {ks vs l}:DP ks vs l->DP (some (.Constant (.str k) j p)::ks) (.Constant (.int i) j' p'::vs) ((k,.int i)::l)
 | s {k x:Str} {j j' p p'} {ks vs l}:DP ks vs l->DP (some (.Constant (.str k) j p)::ks) (.Constant (.str x) j' p'::vs) ((k,.str x)::l)
def dsub(l:List (Str×D))(fb:Ev D):Ev D:=fun ρ S=>(fb ρ S).bind fun y S1=>match y with
 | .str k=>match l.lookup k with
  | some (.int i)=>.ok (.int i) S1
  | some (.str x)=>.ok (.str x) S1
  | _=>.bad
 | _=>.bad
@[simp] theorem Gtb{l:List (Str×D)}{ρ:Lc}{S:Sto}:dsub l fb ρ S=(fb ρ S).bind fun y S1=>match y with
 | .str k=>match l.lookup k with
  | some (.int i)=>.ok (.int i) S1
  | some (.str x)=>.ok (.str x) S1
  | _=>.bad
 | _=>.bad:=id rfl
end DL
namespace Law
open PySem PySem.Spec PyProof.Rows L2 DL
variable{X:Cx}{XQ:XW}{pos:Pos}
def top(i:Nat):Stmt:=PySem.Challenge.pw_summitwater_k60_rules_known.main.body.getD i (.Pass ⟨0,0,0,0⟩)
abbrev Xo:Stmt:=top 1
abbrev Vn:Stmt:=top 2
abbrev Xp:Stmt:=top 3
abbrev Xq:Stmt:=top 6
abbrev Yv:Stmt:=top 7
abbrev Gag:Stmt:=top 16
abbrev Xr:Stmt:=top 15
abbrev Ul:Stmt:=top 14
abbrev Yw:Stmt:=top 13
abbrev Yk:Stmt:=top 18
abbrev Wj:Stmt:=top 19
abbrev Wk:Stmt:=top 20
abbrev Vo:Stmt:=top 21
abbrev Um:Stmt:=top 22
abbrev Vp:Stmt:=top 23
abbrev Uo:Stmt:=top 24
abbrev Wl:Stmt:=top 25
abbrev Xs:Stmt:=top 26
abbrev Gan:Stmt:=top 27
abbrev Zk:Stmt:=top 28
abbrev Yl:Stmt:=top 29
abbrev Qj:Stmt:=top 30
abbrev Zl:Stmt:=top 31
abbrev Wm:Stmt:=top 32
abbrev Wn:Stmt:=top 33
abbrev Up:Stmt:=top 34
abbrev Vq:Stmt:=top 35
abbrev Uq:Stmt:=top 36
abbrev Qx:Stmt:=top 37
abbrev Xt:Stmt:=top 38
abbrev Gbi:Stmt:=top 39
def c_ASK_WORDS:D:=(.tup [(.str "least"),(.str "most"),(.str "right"),(.str "left")])
def c_MOST_ASKED:D:=(.int 9)
def c_MOST_ASKS:D:=(.int 4)
def c_MOST_ROWS:D:=(.int 12)
def c_WORDS:D:=(.tup [(.str "let"),(.str "feed"),(.str "right"),(.str "left")])
structure Hs(K:PySem.W.Frag):Prop where
 h_is_whole:FH K "is_whole" Xo
 h_is_between:FH K "is_between" Vn
 h_is_tuple:FH K "is_tuple" Xp
 h_deeds_of:FH K "deeds_of" Xq
 h_is_deed:FH K "is_deed" Yv
 h_is_ask:FH K "is_ask" Gag
 h_are_asks:FH K "are_asks" Xr
 h_is_rule_row:FH K "is_rule_row" Ul
 h_is_rule:FH K "is_rule" Yw
 h__law_mixed:FH K "_law_mixed" Yk
 h__law_tape:FH K "_law_tape" Wj
 h__law_take:FH K "_law_take" Wk
 h__law_large:FH K "_law_large" Vo
 h__law_places:FH K "_law_places" Um
 h__law_canal:FH K "_law_canal" Vp
 h__law_greedy:FH K "_law_greedy" Uo
 h__law_rule:FH K "_law_rule" Wl
 h__law_any:FH K "_law_any" Xs
 h__law_put:FH K "_law_put" Gan
 h__law_asks:FH K "_law_asks" Zk
 h__law_deeds:FH K "_law_deeds" Yl
 h__law_odd_rows:FH K "_law_odd_rows" Qj
 h__law_with:FH K "_law_with" Zl
 h__law_edge:FH K "_law_edge" Wm
 h__law_else:FH K "_law_else" Wn
 h__law_things:FH K "_law_things" Up
 h__law_below:FH K "_law_below" Vq
 h__law_is_ask:FH K "_law_is_ask" Uq
 h__law_is_deed:FH K "_law_is_deed" Qx
 h__law_due:FH K "_law_due" Xt
 h_law:FH K "law" Gbi
 z_all:PySem.W.nsIn K mainGlobals "all"=some none
 z_bool:PySem.W.nsIn K mainGlobals "bool"=some none
 z_int:PySem.W.nsIn K mainGlobals "int"=some none
 z_isinstance:PySem.W.nsIn K mainGlobals "isinstance"=some none
 z_len:PySem.W.nsIn K mainGlobals "len"=some none
 z_list:PySem.W.nsIn K mainGlobals "list"=some none
 z_min:PySem.W.nsIn K mainGlobals "min"=some none
 z_range:PySem.W.nsIn K mainGlobals "range"=some none
 z_repr:PySem.W.nsIn K mainGlobals "repr"=some none
 z_str:PySem.W.nsIn K mainGlobals "str"=some none
 z_tuple:PySem.W.nsIn K mainGlobals "tuple"=some none
structure Txt(K:PySem.W.Frag)(mg:Str->Option Value):Prop where
 b_all:mg "all"=none
 b_bool:mg "bool"=none
 b_int:mg "int"=none
 b_isinstance:mg "isinstance"=none
 b_len:mg "len"=none
 b_list:mg "list"=none
 b_min:mg "min"=none
 b_range:mg "range"=none
 b_repr:mg "repr"=none
 b_str:mg "str"=none
 b_tuple:mg "tuple"=none
 k_ASK_WORDS:∃ u v,mg "ASK_WORDS"=some u/\Hn v u/\∀ mp H,Rep K mp H c_ASK_WORDS v
 k_MOST_ASKED:∃ u v,mg "MOST_ASKED"=some u/\Hn v u/\∀ mp H,Rep K mp H c_MOST_ASKED v
 k_MOST_ASKS:∃ u v,mg "MOST_ASKS"=some u/\Hn v u/\∀ mp H,Rep K mp H c_MOST_ASKS v
 k_MOST_ROWS:∃ u v,mg "MOST_ROWS"=some u/\Hn v u/\∀ mp H,Rep K mp H c_MOST_ROWS v
 k_WORDS:∃ u v,mg "WORDS"=some u/\Hn v u/\∀ mp H,Rep K mp H c_WORDS v
theorem Txt.c_ASK_WORDS(T:Txt X.K X.mg)(hg:Gl X "ASK_WORDS"):GE X XQ (.Name "ASK_WORDS" pos) (cn c_ASK_WORDS):=let ⟨u,v,h1,h2,h3⟩:=T.k_ASK_WORDS; ⟨Gbe h1 h2 h3 hg (by decide +kernel)⟩
theorem Txt.c_MOST_ASKED(T:Txt X.K X.mg)(hg:Gl X "MOST_ASKED"):GE X XQ (.Name "MOST_ASKED" pos) (cn c_MOST_ASKED):=let ⟨u,v,h1,h2,h3⟩:=T.k_MOST_ASKED; ⟨Gbe h1 h2 h3 hg (by decide +kernel)⟩
theorem Txt.c_MOST_ASKS(T:Txt X.K X.mg)(hg:Gl X "MOST_ASKS"):GE X XQ (.Name "MOST_ASKS" pos) (cn c_MOST_ASKS):=let ⟨u,v,h1,h2,h3⟩:=T.k_MOST_ASKS; ⟨Gbe h1 h2 h3 hg (by decide +kernel)⟩
theorem Txt.c_MOST_ROWS(T:Txt X.K X.mg)(hg:Gl X "MOST_ROWS"):GE X XQ (.Name "MOST_ROWS" pos) (cn c_MOST_ROWS):=let ⟨u,v,h1,h2,h3⟩:=T.k_MOST_ROWS; ⟨Gbe h1 h2 h3 hg (by decide +kernel)⟩
theorem Txt.c_WORDS(T:Txt X.K X.mg)(hg:Gl X "WORDS"):GE X XQ (.Name "WORDS" pos) (cn c_WORDS):=let ⟨u,v,h1,h2,h3⟩:=T.k_WORDS; ⟨Gbe h1 h2 h3 hg (by decide +kernel)⟩
structure All(P:Program)(w:World)(K:PySem.W.Frag)(mg:Str->Option Value)(base:Heap):Prop where
 h:Hs K
 g:GH K mg
 t:Txt K mg
section
variable{P:Program}{w:World}{K:PySem.W.Frag}{mg:Str->Option Value}{base:Heap}
def Yx:Sv:=(sret (va (o1 (isD "int") (vr 0)) (vn (o1 (isD "bool") (vr 0)))))
def Ur:Fn:=fnB 1 Yx
theorem Ges:FnS ["thing"] ["thing"] (Gj Xo):=kdF
abbrev z0:=Gj Xo
theorem Zm(Al:All P w K mg base):Cal P w K mg base "is_whole" ["thing"] Ur 1:=by
 have Sc:=Ges
 have T:=Al.t
 refine calw (b:=Yx) 0 Al.h.h_is_whole Al.g Sc rfl fun _ _ _ _ _ _ _ hr=>?_
 conv=>arg 3; whnf
 refine GSs.h ?_
 exact(Gm (Gs (Jx (Kq (gG z0) (gG z0) Ggi T.b_isinstance T.b_int (gw 0 Sc)) (Uj (Gi3 (Kq (gG z0) (gG z0) Gbc T.b_isinstance T.b_bool (gw 0 Sc)))))))
def Wo:Sv:=(sret (va (cl 1 (Gn Ur) (ac (vr 0) an)) (ch leD leD (vr 1) (vr 0) (vr 2))))
def Kc:Fn:=fnB 3 Wo
theorem Gch:FnS ["thing","least","most"] ["thing","least","most"] (Gj Vn):=kdF
abbrev z1:=Gj Vn
theorem Xu(Al:All P w K mg base):Cal P w K mg base "is_between" ["thing","least","most"] Kc 2:=by
 have Sc:=Gch
 refine calw (b:=Wo) 1 Al.h.h_is_between Al.g Sc rfl fun _ _ _ _ _ _ _ hr=>?_
 conv=>arg 3; whnf
 refine GSs.h ?_
 exact(Gm (Gs (Jx (gow z1 (Zm Al) hr (Ga (gw 0 Sc) Gc Ge)) (Uj (Gi5 Gh3 Gnc Gh3 Gnc (gw 1 Sc) (gw 0 Sc) (gw 2 Sc))))))
def Us:Sv:=(sret (va (o1 (isD "tuple") (vr 0)) (o2 eqD (b1 Gz (ac (vr 0) an)) (vr 1))))
def Jc:Fn:=fnB 2 Us
theorem Get:FnS ["thing","many"] ["thing","many"] (Gj Xp):=kdF
abbrev z2:=Gj Xp
theorem Wp(Al:All P w K mg base):Cal P w K mg base "is_tuple" ["thing","many"] Jc 1:=by
 have Sc:=Get
 have T:=Al.t
 refine calw (b:=Us) 0 Al.h.h_is_tuple Al.g Sc rfl fun _ _ _ _ _ _ _ hr=>?_
 conv=>arg 3; whnf
 refine GSs.h ?_
 exact(Gm (Gs (Jx (Kq (gG z2) (gG z2) Ks T.b_isinstance T.b_tuple (gw 0 Sc)) (Uj (Ggm hr.units (Hf (gG z2) T.b_len (Ga (gw 0 Sc) Gc Ge)) (gw 1 Sc))))))
def Yy:Sv:=(sq (sa (vr 0) (gt (gcons (gn 1) (gcons (gn 2) gnil)) 2))
  (sq (sa (cmp (ir1 (ac (b1 Gz (ac (vr 2) an)) an)) [none] (gn 0) ttrue (tp (ac (cn (.str "let")) (ac (vr 0) an)))) (gn 3))
  (sq (sa (cmp (ir1 (ac (b1 Gz (ac (vr 1) an)) an)) [none] (gn 0) ttrue (tp (ac (cn (.str "feed")) (ac (vr 0) an)))) (gn 4))
  (sq (sa (cmp (ir1 (ac (b1 Gz (ac (vr 2) an)) an)) [none] (gn 0) ttrue (tp (ac (cn (.str "right")) (ac (vr 0) an)))) (gn 5))
  (sq (sa (cmp (ir1 (ac (b1 Gz (ac (vr 2) an)) an)) [none] (gn 0) ttrue (tp (ac (cn (.str "left")) (ac (vr 0) an)))) (gn 6))
  (sret (o2 Hg (o2 Hg (o2 Hg (vr 3) (vr 4)) (vr 5)) (vr 6))))))))
def Wq:Fn:=fnB 7 Yy
theorem Geu:FnS ["canal","places","gates","lets","feeds","rights","lefts"] ["canal"] (Gj Xq):=kdF
abbrev z3:=Gj Xq
theorem Gdv(Al:All P w K mg base):Cal P w K mg base "deeds_of" ["canal"] Wq 1:=by
 have Sc:=Geu
 have T:=Al.t
 refine calw (b:=Yy) 0 Al.h.h_deeds_of Al.g Sc rfl fun _ _ _ _ _ _ _ hr=>?_
 conv=>arg 3; whnf
 refine GSs.h ?_
 exact(Gg (Gaf (gw 0 Sc) (Gae rfl (Jm (ggw 1 Sc) (Jm (ggw 2 Sc) Yf))))
  (Gg (Yj 3 (N':=["gate"]) (pk:=[none]) Sc (He (gG z3) T.b_range (Ga (Hf (gG z3) T.b_len (Ga (gw 2 Sc) Gc Ge)) Gc Gv)) (fun cl s2 H2 C fp=>(Kz 0)) (fun cl s2 H2 C fp=>Je) (fun cl s2 H2 C fp=>(Go (Ga Gi (Ga (Hv 0) Gc Ge) Gb))))
  (Gg (Yj 4 (N':=["place"]) (pk:=[none]) Sc (He (gG z3) T.b_range (Ga (Hf (gG z3) T.b_len (Ga (gw 1 Sc) Gc Ge)) Gc Gv)) (fun cl s2 H2 C fp=>(Kz 0)) (fun cl s2 H2 C fp=>Je) (fun cl s2 H2 C fp=>(Go (Ga Gi (Ga (Hv 0) Gc Ge) Gb))))
  (Gg (Yj 5 (N':=["gate"]) (pk:=[none]) Sc (He (gG z3) T.b_range (Ga (Hf (gG z3) T.b_len (Ga (gw 2 Sc) Gc Ge)) Gc Gv)) (fun cl s2 H2 C fp=>(Kz 0)) (fun cl s2 H2 C fp=>Je) (fun cl s2 H2 C fp=>(Go (Ga Gi (Ga (Hv 0) Gc Ge) Gb))))
  (Gg (Yj 6 (N':=["gate"]) (pk:=[none]) Sc (He (gG z3) T.b_range (Ga (Hf (gG z3) T.b_len (Ga (gw 2 Sc) Gc Ge)) Gc Gv)) (fun cl s2 H2 C fp=>(Kz 0)) (fun cl s2 H2 C fp=>Je) (fun cl s2 H2 C fp=>(Go (Ga Gi (Ga (Hv 0) Gc Ge) Gb))))
  (Gm (Gs (Ha (Ha (Ha (gw 3 Sc) (gw 4 Sc)) (gw 5 Sc)) (gw 6 Sc)))))))))
def Yg:Sv:=(sret (va (cl 2 (Gn Jc) (ac (vr 0) (ac (cn (.int 2)) an))) (va (o2 inP (o2 getD (vr 0) (cn (.int 0))) (cn c_WORDS)) (cl 1 (Gn Ur) (ac (o2 getD (vr 0) (cn (.int 1))) an)))))
def Wb:Fn:=fnB 1 Yg
theorem Gf2:FnS ["thing"] ["thing"] (Gj Yv):=kdF
abbrev z4:=Gj Yv
theorem Gev(Al:All P w K mg base):Cal P w K mg base "is_deed" ["thing"] Wb 2:=by
 have Sc:=Gf2
 have T:=Al.t
 refine calw (b:=Yg) 1 Al.h.h_is_deed Al.g Sc rfl fun _ _ _ _ _ _ _ hr=>?_
 conv=>arg 3; whnf
 refine GSs.h ?_
 exact(Gm (Gs (Jx (gow z4 (Wp Al) hr (Ga (gw 0 Sc) (Ga ge_int Gc Gb) Ge)) (Jx (Gdu hr (Gr (gw 0 Sc) ge_int) (T.c_WORDS (gG z4))) (Uj (gow z4 (Zm Al) hr (Ga (Gr (gw 0 Sc) ge_int) Gc Gp)))))))
def Zn:Sv:=(sq (sif (tn (tt (cl 2 (Gn Jc) (ac (vr 1) (ac (cn (.int 3)) an)))))
  (sret (cn (.bl false)))
  skip)
  (sq (sa (vr 1) (gt (gcons (gn 2) (gcons (gn 3) (gcons (gn 4) gnil))) 3))
  (sret (va (o2 inP (vr 2) (cn c_ASK_WORDS)) (va (cl 3 (Gn Kc) (ac (vr 3) (ac (cn (.int 0)) (ac (o2 Ui (b1 Gz (ac (o2 getD (vr 0) (cn (.int 0))) an)) (cn (.int 1))) an)))) (cl 3 (Gn Kc) (ac (vr 4) (ac (cn (.int 0)) (ac (cn c_MOST_ASKED) an)))))))))
def Ut:Fn:=fnB 5 Zn
theorem Ghn:FnS ["canal","thing","word","place","number"] ["canal","thing"] (Gj Gag):=kdF
abbrev z5:=Gj Gag
theorem Gf3(Al:All P w K mg base):Cal P w K mg base "is_ask" ["canal","thing"] Ut 3:=by
 have Sc:=Ghn
 have T:=Al.t
 refine calw (b:=Zn) 2 Al.h.h_is_ask Al.g Sc rfl fun _ _ _ _ _ _ _ hr=>?_
 conv=>arg 3; whnf
 refine GSs.h ?_
 exact(Gg (Hj (Qw (Qi (gow z5 (Wp Al) hr (Ga (gw 1 Sc) (Ga ge_int Gc Gb) Ge))))
  (Gm (Gs Jy))
  Hb)
  (Gg (Gaf (gw 1 Sc) (Gae rfl (Jm (ggw 2 Sc) (Jm (ggw 3 Sc) (Jm (ggw 4 Sc) Yf)))))
  (Gm (Gs (Jx (Gdu hr (gw 2 Sc) (T.c_ASK_WORDS (gG z5))) (Jx (gow z5 (Xu Al) hr (Ga (gw 3 Sc) (Ga ge_int (Ga (Jl (Hf (gG z5) T.b_len (Ga (Gr (gw 0 Sc) ge_int) Gc Gp)) ge_int) Gc Gu) Gb) Ge)) (Uj (gow z5 (Xu Al) hr (Ga (gw 4 Sc) (Ga ge_int (Ga (T.c_MOST_ASKED (gG z5)) Gc Ge) Gb) Ge)))))))))
def Uu:Sv:=(sret (va (o1 (isD "tuple") (vr 1)) (va (o2 leD (b1 Gz (ac (vr 1) an)) (cn c_MOST_ASKS)) (b1 Gbd (ac (cmp (isrc (vr 1)) [none,some 0] (gn 0) ttrue (cl 2 (Gn Ut) (ac (vr 1) (ac (vr 0) an)))) an)))))
def Wr:Fn:=fnB 2 Uu
theorem Gew:FnS ["canal","thing"] ["canal","thing"] (Gj Xr):=kdF
abbrev z6:=Gj Xr
theorem Gdw(Al:All P w K mg base):Cal P w K mg base "are_asks" ["canal","thing"] Wr 4:=by
 have Sc:=Gew
 have T:=Al.t
 refine calw (b:=Uu) 3 Al.h.h_are_asks Al.g Sc rfl fun _ _ _ _ _ _ _ hr=>?_
 conv=>arg 3; whnf
 refine GSs.h ?_
 exact(Gm (Gs (Jx (Kq (gG z6) (gG z6) Ks T.b_isinstance T.b_tuple (gw 1 Sc)) (Jx (Gng (Hf (gG z6) T.b_len (Ga (gw 1 Sc) Gc Ge)) (T.c_MOST_ASKS (gG z6))) (Uj (Gf1 rfl (gG z6) T.b_all (Ga (Zi (N':=["ask","canal"]) (pk:=[none,some 0]) Sc (Wi (gw 1 Sc)) (fun cl s2 H2 C fp=>(Kz 0)) (fun cl s2 H2 C fp=>Je) (fun cl s2 H2 C fp=>(Zj (Gf3 Al) hr (Ga (Hv 1) (Ga (Hv 0) Gc Ge) Ge)))) Gc Jo)))))))
def Ju:Sv:=(sq (sif (tn (tt (cl 2 (Gn Jc) (ac (vr 1) (ac (cn (.int 2)) an)))))
  (sret (cn (.bl false)))
  skip)
  (sq (sa (vr 1) (gt (gcons (gn 2) (gcons (gn 3) gnil)) 2))
  (sret (va (cl 2 (Gn Wr) (ac (vr 0) (ac (vr 2) an))) (va (cl 1 (Gn Wb) (ac (vr 3) an)) (o2 inP (vr 3) (cl 1 (Gn Wq) (ac (vr 0) an))))))))
def Jv:Fn:=fnB 4 Ju
theorem Gbj:FnS ["canal","thing","asks","deed"] ["canal","thing"] (Gj Ul):=kdF
abbrev z7:=Gj Ul
theorem Gat(Al:All P w K mg base):Cal P w K mg base "is_rule_row" ["canal","thing"] Jv 5:=by
 have Sc:=Gbj
 refine calw (b:=Ju) 4 Al.h.h_is_rule_row Al.g Sc rfl fun _ _ _ _ _ _ _ hr=>?_
 conv=>arg 3; whnf
 refine GSs.h ?_
 exact(Gg (Hj (Qw (Qi (gow z7 (Wp Al) hr (Ga (gw 1 Sc) (Ga ge_int Gc Gb) Ge))))
  (Gm (Gs Jy))
  Hb)
  (Gg (Gaf (gw 1 Sc) (Gae rfl (Jm (ggw 2 Sc) (Jm (ggw 3 Sc) Yf))))
  (Gm (Gs (Jx (gow z7 (Gdw Al) hr (Ga (gw 0 Sc) (Ga (gw 2 Sc) Gc Ge) Ge)) (Jx (gow z7 (Gev Al) hr (Ga (gw 3 Sc) Gc Ge)) (Uj (Gdu hr (gw 3 Sc) (gow z7 (Gdv Al) hr (Ga (gw 0 Sc) Gc Ge))))))))))
def Wc:Sv:=(sret (va (o1 (isD "tuple") (vr 1)) (va (o2 leD (b1 Gz (ac (vr 1) an)) (cn c_MOST_ROWS)) (b1 Gbd (ac (cmp (isrc (vr 1)) [none,some 0] (gn 0) ttrue (cl 2 (Gn Jv) (ac (vr 1) (ac (vr 0) an)))) an)))))
def Yh:Fn:=fnB 2 Wc
theorem Gf4:FnS ["canal","thing"] ["canal","thing"] (Gj Yw):=kdF
abbrev z8:=Gj Yw
theorem Gex(Al:All P w K mg base):Cal P w K mg base "is_rule" ["canal","thing"] Yh 6:=by
 have Sc:=Gf4
 have T:=Al.t
 refine calw (b:=Wc) 5 Al.h.h_is_rule Al.g Sc rfl fun _ _ _ _ _ _ _ hr=>?_
 conv=>arg 3; whnf
 refine GSs.h ?_
 exact(Gm (Gs (Jx (Kq (gG z8) (gG z8) Ks T.b_isinstance T.b_tuple (gw 1 Sc)) (Jx (Gng (Hf (gG z8) T.b_len (Ga (gw 1 Sc) Gc Ge)) (T.c_MOST_ROWS (gG z8))) (Uj (Gf1 rfl (gG z8) T.b_all (Ga (Zi (N':=["row","canal"]) (pk:=[none,some 0]) Sc (Wi (gw 1 Sc)) (fun cl s2 H2 C fp=>(Kz 0)) (fun cl s2 H2 C fp=>Je) (fun cl s2 H2 C fp=>(Zj (Gat Al) hr (Ga (Hv 1) (Ga (Hv 0) Gc Ge) Ge)))) Gc Jo)))))))
def Ws:Sv:=(sq (sa (o2 Wg (o2 Jr (o2 Hg (o2 Hg (o2 Wg (vr 0) (cn (.int 1000000007))) (o2 Jr (cn (.int 40692)) (vr 1))) (cn (.int 1))) (cn (.int 48271))) (cn (.int 2147483647))) (gn 2))
  (sq (sa (o2 Wg (o2 Jr (vr 2) (vr 2)) (cn (.int 998244353))) (gn 2))
  (sret (o2 Gc2 (o2 Wg (o2 Hg (o2 Jr (vr 2) (cn (.int 69621))) (o2 Jr (cn (.int 7919)) (vr 1))) (cn (.int 1000000007))) (cn (.int 7))))))
def Js:Fn:=fnB 3 Ws
theorem Gci:FnS ["cell","turn","stir"] ["cell","turn"] (Gj Yk):=kdF
theorem Xv(Al:All P w K mg base):Cal P w K mg base "_law_mixed" ["cell","turn"] Js 1:=by
 have Sc:=Gci
 refine calw (b:=Ws) 0 Al.h.h__law_mixed Al.g Sc rfl fun _ _ _ _ _ _ _ hr=>?_
 conv=>arg 3; whnf
 refine GSs.h ?_
 exact(Gg (gsew 2 Sc (Vm (Jb (Ha (Ha (Vm (gw 0 Sc) ge_int) (Jb ge_int (gw 1 Sc))) ge_int) ge_int) ge_int))
  (Gg (gsew 2 Sc (Vm (Jb (gw 2 Sc) (gw 2 Sc)) ge_int))
  (Gm (Gs (Ggl (Vm (Ha (Jb (gw 2 Sc) ge_int) (Jb ge_int (gw 1 Sc))) ge_int) ge_int)))))
def Uv:Sv:=(sa (o2 Wg (o2 Hg (o2 Jr (vr 1) (cn (.int 69621))) (vr 2)) (cn (.int 2147483647))) (gn 1))
def Qr:Sv:=(sq (sa (cn (.int 0)) (gn 1))
  (sq (sfor (isrc (sl2 (vr 0) onone (osome (cn (.int 63))))) (gn 2) Uv)
  (sret (ls (ac (b1 Xe (ac (sl2 (vr 0) onone (osome (cn (.int 63)))) an)) (ac (cn (.int 0)) (ac (vr 1) (ac (cn (.int 0)) an))))))))
def Xw:Fn:=fnB 3 Qr
theorem Gdx:FnS ["script","seed","cell"] ["script"] (Gj Wj):=kdF
abbrev z10:=Gj Wj
theorem Gcj(Al:All P w K mg base):Cal P w K mg base "_law_tape" ["script"] Xw 1:=by
 have Sc:=Gdx
 have T:=Al.t
 refine calw (b:=Qr) 0 Al.h.h__law_tape Al.g Sc rfl fun _ _ _ _ _ _ _ hr=>?_
 conv=>arg 3; whnf
 refine GSs.h ?_
 exact(Gg (gsew 1 Sc ge_int)
  (Gg (Uk PassesOwn.never rfl (Wi (Kt (gw 0 Sc) Va (Vb ge_int))) (ggw 2 Sc)
  (Gm (gsew 1 Sc (Vm (Ha (Jb (gw 1 Sc) ge_int) (gw 2 Sc)) ge_int))))
  (Gm (Gs (Gy (Ga (Gds (gG z10) T.b_list (Ga (Kt (gw 0 Sc) Va (Vb ge_int)) Gc Gp)) (Ga ge_int (Ga (gw 1 Sc) (Ga ge_int Gc Gb) Ge) Gb) Gv))))))
def Gao:Sv:=(sq (ss (o2 Hg (o2 getD (vr 0) (cn (.int 3))) (cn (.int 1))) (vr 0) (cn (.int 3)) Ys)
  (sq (sif (ta (tb (o2 eqD (o2 getD (vr 0) (cn (.int 1))) (cn (.int 0)))) (tb (o2 gtD (b1 Gz (ac (o2 getD (vr 0) (cn (.int 0))) an)) (cn (.int 0)))))
  (sq (sa (mt Geq (o2 getD (vr 0) (cn (.int 0))) (ac (cn (.int 0)) an)) (gn 2))
  (sq (sif (tb (o2 ltD (vr 2) (o2 Xk (cn (.int 10)) (cn (.int 18)))))
  (sret (o2 Wg (cl 2 (Gn Js) (ac (vr 2) (ac (o2 getD (vr 0) (cn (.int 3))) an))) (vr 1)))
  skip)
  (ss (vr 2) (vr 0) (cn (.int 1)) Ys)))
  skip)
  (sq (sif (tb (o2 gtD (o2 getD (vr 0) (cn (.int 1))) (cn (.int 0))))
  (sq (sa (o2 Wg (o2 getD (vr 0) (cn (.int 1))) (vr 1)) (gn 3))
  (sq (ss (o2 Gc2 (o2 getD (vr 0) (cn (.int 1))) (vr 1)) (vr 0) (cn (.int 1)) Ys)
  (sret (vr 3))))
  skip)
  (sret (o2 Wg (cl 2 (Gn Js) (ac (o2 getD (vr 0) (cn (.int 2))) (ac (o2 getD (vr 0) (cn (.int 3))) an))) (vr 1))))))
def Gh:Fn:=fnB 4 Gao
theorem Gdy:FnS ["tape","many","cell","found"] ["tape","many"] (Gj Wk):=kdF
abbrev z11:=Gj Wk
theorem Gf(Al:All P w K mg base):Cal P w K mg base "_law_take" ["tape","many"] Gh 2:=by
 have Sc:=Gdy
 have T:=Al.t
 refine calw (b:=Gao) 1 Al.h.h__law_take Al.g Sc rfl fun _ _ _ _ _ _ _ hr=>?_
 conv=>arg 3; whnf
 refine GSs.h ?_
 exact(Gg (Gbh (Ha (Gr (gw 0 Sc) ge_int) ge_int) (gw 0 Sc) ge_int)
  (Gg (Hj (GW.jt (Xm (Jj hr.units (Gr (gw 0 Sc) ge_int) ge_int) (Ye (Wa (Hf (gG z11) T.b_len (Ga (Gr (gw 0 Sc) ge_int) Gc Gp)) ge_int))))
  (Gg (gsew 2 Sc (Gqq (Gr (gw 0 Sc) ge_int) (Ga ge_int Gc Gb)))
  (Gg (Hj (Vz (gw 2 Sc) (Wh ge_int ge_int))
  (Gm (Gs (Vm (gow z11 (Xv Al) hr (Ga (gw 2 Sc) (Ga (Gr (gw 0 Sc) ge_int) Gc Gp) Ge)) (gw 1 Sc))))
  Hb)
  (Gm (Gbh (gw 2 Sc) (gw 0 Sc) ge_int))))
  Hb)
  (Gg (Hj (Wa (Gr (gw 0 Sc) ge_int) ge_int)
  (Gg (gsew 3 Sc (Vm (Gr (gw 0 Sc) ge_int) (gw 1 Sc)))
  (Gg (Gbh (Ggl (Gr (gw 0 Sc) ge_int) (gw 1 Sc)) (gw 0 Sc) ge_int)
  (Gm (Gs (gw 3 Sc)))))
  Hb)
  (Gm (Gs (Vm (gow z11 (Xv Al) hr (Ga (Gr (gw 0 Sc) ge_int) (Ga (Gr (gw 0 Sc) ge_int) Gc Gp) Gp)) (gw 1 Sc)))))))
def Qy:Sv:=(sq (sa (o2 Hg (o2 Jr (vr 2) (o2 Xk (cn (.int 10)) (cn (.int 6)))) (cl 2 (Gn Gh) (ac (vr 0) (ac (o2 Xk (cn (.int 10)) (cn (.int 6))) an)))) (gn 2))
  (sa (o2 Jr (vr 3) (o2 Xk (cn (.int 10)) (cn (.int 6)))) (gn 3)))
def Km:Ev Bool:=(tb (o2 ltD (vr 3) (vr 1)))
def Wt:Sv:=(sq (sa (cn (.int 0)) (gn 2))
  (sq (sa (cn (.int 1)) (gn 3))
  (sq (whN Km Qy 1000)
  (sret (o2 Wg (vr 2) (vr 1))))))
def Qa:Fn:=fnB 4 Wt
theorem Gck:FnS ["tape","many","found","size"] ["tape","many"] (Gj Vo):=kdF
abbrev z12:=Gj Vo
theorem Ka(Al:All P w K mg base):Cal P w K mg base "_law_large" ["tape","many"] Qa 3:=by
 have Sc:=Gck
 refine calw (b:=Wt) 2 Al.h.h__law_large Al.g Sc rfl fun _ _ _ _ _ _ _ hr=>?_
 conv=>arg 3; whnf
 refine GSs.h ?_
 exact(Gg (gsew 2 Sc ge_int)
  (Gg (gsew 3 Sc ge_int)
  (Gg (Gi7 1000 PassesOwn.never (Vz (gw 3 Sc) (gw 1 Sc))
  (Gg (gsew 2 Sc (Ha (Jb (gw 2 Sc) (Wh ge_int ge_int)) (gow z12 (Gf Al) hr (Ga (gw 0 Sc) (Ga (Wh ge_int ge_int) Gc Gu) Ge))))
  (Gm (gsew 3 Sc (Jb (gw 3 Sc) (Wh ge_int ge_int))))))
  (Gm (Gs (Vm (gw 2 Sc) (gw 1 Sc)))))))
def Kd:Sv:=(sif (ta (tb (o2 eqD (o2 getD (vr 2) (o1 Ghh (cn (.int 1)))) (tp (ac (cn (.str "chamber")) an)))) (ta (tb (o2 ltD (vr 3) (o2 Ui (vr 1) (cn (.int 1))))) (tb (o2 gtD (cl 2 (Gn Gh) (ac (vr 0) (ac (cn (.int 3)) an))) (cn (.int 0))))))
  (sq (sa (o2 Hg (cn (.int 1)) (cl 2 (Gn Gh) (ac (vr 0) (ac (cn (.int 9)) an)))) (gn 4))
  (sq (sa (cl 2 (Gn Gh) (ac (vr 0) (ac (o2 Hg (vr 4) (cn (.int 1))) an))) (gn 5))
  (sq (sa (o2 Hg (cn (.int 1)) (cl 2 (Gn Gh) (ac (vr 0) (ac (cn (.int 4)) an)))) (gn 6))
  (sq (sa (cl 2 (Gn Gh) (ac (vr 0) (ac (cn (.int 134)) an))) (gn 7))
  (sx (mt Yi (vr 2) (ac (tp (ac (cn (.str "pound")) (ac (vr 4) (ac (vr 5) (ac (vr 6) (ac (ie (tb (o2 ltD (vr 7) (cn (.int 100)))) (vr 7) (cn .non)) an)))))) an)))))))
  (sx (mt Yi (vr 2) (ac (tp (ac (cn (.str "chamber")) an)) an))))
def Kl:Sv:=(sq (sa (ls (ac (tp (ac (cn (.str "end")) an)) an)) (gn 2))
  (sq (sfor (ir1 (ac (vr 1) an)) (gn 3) Kd)
  (sret (b1 Gad (ac (o2 Hg (vr 2) (ls (ac (tp (ac (cn (.str "end")) an)) an))) an)))))
def Vr:Fn:=fnB 8 Kl
theorem Gbk:FnS ["tape","many","places","at","brim","deep","room","price"] ["tape","many"] (Gj Um):=kdF
abbrev z13:=Gj Um
theorem Gau(Al:All P w K mg base):Cal P w K mg base "_law_places" ["tape","many"] Vr 3:=by
 have Sc:=Gbk
 have T:=Al.t
 refine calw (b:=Kl) 2 Al.h.h__law_places Al.g Sc rfl fun _ _ _ _ _ _ _ hr=>?_
 conv=>arg 3; whnf
 refine GSs.h ?_
 exact(Gg (gsew 2 Sc (Gy (Ga (Go (Ga Gi Gc Gb)) Gc Gk)))
  (Gg (Uk PassesOwn.never rfl (He (gG z13) T.b_range (Ga (gw 1 Sc) Gc Ge)) (ggw 3 Sc)
  (Gm (Hj (GW.jt (Xm (Jj hr.units (Gr (gw 2 Sc) (Gqo ge_int)) (Go (Ga Gi Gc Gb))) (Xm (Vz (gw 3 Sc) (Jl (gw 1 Sc) ge_int)) (Ye (Wa (gow z13 (Gf Al) hr (Ga (gw 0 Sc) (Ga ge_int Gc Gb) Ge)) ge_int)))))
  (Gg (gsew 4 Sc (Ha ge_int (gow z13 (Gf Al) hr (Ga (gw 0 Sc) (Ga ge_int Gc Gb) Ge))))
  (Gg (gsew 5 Sc (gow z13 (Gf Al) hr (Ga (gw 0 Sc) (Ga (Ha (gw 4 Sc) ge_int) Gc Gu) Ge)))
  (Gg (gsew 6 Sc (Ha ge_int (gow z13 (Gf Al) hr (Ga (gw 0 Sc) (Ga ge_int Gc Gb) Ge))))
  (Gg (gsew 7 Sc (gow z13 (Gf Al) hr (Ga (gw 0 Sc) (Ga ge_int Gc Gb) Ge)))
  (Gm (Qo (Uf (gw 2 Sc) (Ga (Go (Ga Gi (Ga (gw 4 Sc) (Ga (gw 5 Sc) (Ga (gw 6 Sc) (Ga (Qv (Vz (gw 7 Sc) ge_int) (gw 7 Sc) Jz) Gc Vy) Ge) Ge) Ge) Gb)) Gc Gk))))))))
  (Gm (Qo (Uf (gw 2 Sc) (Ga (Go (Ga Gi Gc Gb)) Gc Gk)))))))
  (Gm (Gs (Ky (gG z13) T.b_tuple (Ga (Ha (gw 2 Sc) (Gy (Ga (Go (Ga Gi Gc Gb)) Gc Gk))) Gc Gu))))))
def Qz:Sv:=(sq (sa (o2 ltD (vr 6) (vr 3)) (gn 7))
  (sq (sif (tb (o2 eqD (vr 4) (cn (.int 0))))
  (sa (o2 eqD (cl 2 (Gn Gh) (ac (vr 0) (ac (cn (.int 2)) an))) (cn (.int 1))) (gn 7))
  skip)
  (sx (mt Yi (vr 5) (ac (ie (tt (vr 7)) (cn (.str "up")) (cn (.str "down"))) an)))))
def Qb:Sv:=(sq (sa (o2 Hg (cn (.int 1)) (cl 2 (Gn Gh) (ac (vr 0) (ac (o2 getD (ls (ac (cn (.int 1)) (ac (cn (.int 4)) (ac (cn (.int 11)) an)))) (cl 2 (Gn Gh) (ac (vr 0) (ac (cn (.int 3)) an)))) an)))) (gn 1))
  (sq (sa (cl 2 (Gn Vr) (ac (vr 0) (ac (vr 1) an))) (gn 2))
  (sq (sa (cl 2 (Gn Gh) (ac (vr 0) (ac (o2 Hg (vr 1) (cn (.int 2))) an))) (gn 3))
  (sq (sa (cl 2 (Gn Gh) (ac (vr 0) (ac (cn (.int 2)) an))) (gn 4))
  (sq (sa (ls an) (gn 5))
  (sq (sfor (ir1 (ac (o2 Hg (vr 1) (cn (.int 1))) an)) (gn 6) Qz)
  (sret (tp (ac (vr 2) (ac (b1 Gad (ac (vr 5) an)) an))))))))))
def Ud:Fn:=fnB 8 Qb
theorem Gcl:FnS ["tape","many","places","top","hill","gates","gate","up"] ["tape"] (Gj Vp):=kdF
abbrev z14:=Gj Vp
theorem Gbl(Al:All P w K mg base):Cal P w K mg base "_law_canal" ["tape"] Ud 4:=by
 have Sc:=Gcl
 have T:=Al.t
 refine calw (b:=Qb) 3 Al.h.h__law_canal Al.g Sc rfl fun _ _ _ _ _ _ _ hr=>?_
 conv=>arg 3; whnf
 refine GSs.h ?_
 exact(Gg (gsew 1 Sc (Ha ge_int (gow z14 (Gf Al) hr (Ga (gw 0 Sc) (Ga (Gr (Gy (Ga ge_int (Ga ge_int (Ga ge_int Gc Gb) Gb) Gb)) (gow z14 (Gf Al) hr (Ga (gw 0 Sc) (Ga ge_int Gc Gb) Ge))) Gc Gp) Ge))))
  (Gg (gsew 2 Sc (gow z14 (Gau Al) hr (Ga (gw 0 Sc) (Ga (gw 1 Sc) Gc Ge) Ge)))
  (Gg (gsew 3 Sc (gow z14 (Gf Al) hr (Ga (gw 0 Sc) (Ga (Ha (gw 1 Sc) ge_int) Gc Gu) Ge)))
  (Gg (gsew 4 Sc (gow z14 (Gf Al) hr (Ga (gw 0 Sc) (Ga ge_int Gc Gb) Ge)))
  (Gg (gsew 5 Sc (Gy Gc))
  (Gg (Uk PassesOwn.never rfl (He (gG z14) T.b_range (Ga (Ha (gw 1 Sc) ge_int) Gc Gu)) (ggw 6 Sc)
  (Gg (gsew 7 Sc (Gnf (gw 6 Sc) (gw 3 Sc)))
  (Gg (Hj (Jj hr.units (gw 4 Sc) ge_int)
  (Gm (gsew 7 Sc (Ggm hr.units (gow z14 (Gf Al) hr (Ga (gw 0 Sc) (Ga ge_int Gc Gb) Ge)) ge_int)))
  Hb)
  (Gm (Qo (Uf (gw 5 Sc) (Ga (Qv (Qi (gw 7 Sc)) Gi Gi) Gc Vy)))))))
  (Gm (Gs (Go (Ga (gw 2 Sc) (Ga (Ky (gG z14) T.b_tuple (Ga (gw 5 Sc) Gc Ge)) Gc Gv) Ge))))))))))
def Qk:Sv:=(sq (sx (mt Gas (vr 2) (ac (cl 2 (Gn Gh) (ac (vr 0) (ac (o2 Hg (b1 Gz (ac (vr 2) an)) (cn (.int 1))) an))) (ac (tp (ac (cn (.str "right")) (ac (vr 5) an))) an))))
  (sq (sif (tb (o2 eqD (vr 4) (cn (.int 1))))
  (sx (mt Gas (vr 2) (ac (cl 2 (Gn Gh) (ac (vr 0) (ac (o2 Hg (b1 Gz (ac (vr 2) an)) (cn (.int 1))) an))) (ac (tp (ac (cn (.str "left")) (ac (vr 5) an))) an))))
  skip)
  (sx (mt Gas (vr 3) (ac (cl 2 (Gn Gh) (ac (vr 0) (ac (o2 Hg (b1 Gz (ac (vr 3) an)) (cn (.int 1))) an))) (ac (tp (ac (cn (.str "let")) (ac (vr 5) an))) an))))))
def Ql:Sv:=(sif (ta (tb (o2 eqD (o2 getD (o2 getD (o2 getD (vr 1) (cn (.int 0))) (vr 6)) (cn (.int 0))) (cn (.str "pound")))) (tb (o2 Xl (o2 getD (o2 getD (o2 getD (vr 1) (cn (.int 0))) (vr 6)) (cn (.int 4))) (cn .non))))
  (sx (mt Gas (vr 3) (ac (cl 2 (Gn Gh) (ac (vr 0) (ac (o2 Hg (b1 Gz (ac (vr 3) an)) (cn (.int 1))) an))) (ac (tp (ac (cn (.str "feed")) (ac (vr 6) an))) an))))
  skip)
def Vs:Sv:=(sq (sa (ls an) (gn 2))
  (sq (sa (ls an) (gn 3))
  (sq (sa (cl 2 (Gn Gh) (ac (vr 0) (ac (cn (.int 2)) an))) (gn 4))
  (sq (sfor (ir1 (ac (b1 Gz (ac (o2 getD (vr 1) (cn (.int 1))) an)) an)) (gn 5) Qk)
  (sq (sfor (ir1 (ac (b1 Gz (ac (o2 getD (vr 1) (cn (.int 0))) an)) an)) (gn 6) Ql)
  (sret (b1 Gad (ac (cmp (isrc (sl2 (o2 Hg (vr 2) (vr 3)) onone (osome (cn (.int 12))))) [none] (gn 0) ttrue (tp (ac (tp an) (ac (vr 0) an)))) an))))))))
def Qp:Fn:=fnB 7 Vs
theorem Gbm:FnS ["tape","canal","moves","waters","both","gate","at"] ["tape","canal"] (Gj Uo):=kdF
abbrev z15:=Gj Uo
theorem Gav(Al:All P w K mg base):Cal P w K mg base "_law_greedy" ["tape","canal"] Qp 3:=by
 have Sc:=Gbm
 have T:=Al.t
 refine calw (b:=Vs) 2 Al.h.h__law_greedy Al.g Sc rfl fun _ _ _ _ _ _ _ hr=>?_
 conv=>arg 3; whnf
 refine GSs.h ?_
 exact(Gg (gsew 2 Sc (Gy Gc))
  (Gg (gsew 3 Sc (Gy Gc))
  (Gg (gsew 4 Sc (gow z15 (Gf Al) hr (Ga (gw 0 Sc) (Ga ge_int Gc Gb) Ge)))
  (Gg (Uk PassesOwn.never rfl (He (gG z15) T.b_range (Ga (Hf (gG z15) T.b_len (Ga (Gr (gw 1 Sc) ge_int) Gc Gp)) Gc Gv)) (ggw 5 Sc)
  (Gg (Qo (Yd (gw 2 Sc) (Ga (gow z15 (Gf Al) hr (Ga (gw 0 Sc) (Ga (Ha (Hf (gG z15) T.b_len (Ga (gw 2 Sc) Gc Ge)) ge_int) Gc Gu) Ge)) (Ga (Go (Ga Gi (Ga (gw 5 Sc) Gc Ge) Gb)) Gc Gk) Gv)))
  (Gg (Hj (Jj hr.units (gw 4 Sc) ge_int)
  (Gm (Qo (Yd (gw 2 Sc) (Ga (gow z15 (Gf Al) hr (Ga (gw 0 Sc) (Ga (Ha (Hf (gG z15) T.b_len (Ga (gw 2 Sc) Gc Ge)) ge_int) Gc Gu) Ge)) (Ga (Go (Ga Gi (Ga (gw 5 Sc) Gc Ge) Gb)) Gc Gk) Gv))))
  Hb)
  (Gm (Qo (Yd (gw 3 Sc) (Ga (gow z15 (Gf Al) hr (Ga (gw 0 Sc) (Ga (Ha (Hf (gG z15) T.b_len (Ga (gw 3 Sc) Gc Ge)) ge_int) Gc Gu) Ge)) (Ga (Go (Ga Gi (Ga (gw 5 Sc) Gc Ge) Gb)) Gc Gk) Gv)))))))
  (Gg (Uk PassesOwn.never rfl (He (gG z15) T.b_range (Ga (Hf (gG z15) T.b_len (Ga (Gr (gw 1 Sc) ge_int) Gc Gp)) Gc Gv)) (ggw 6 Sc)
  (Gm (Hj (GW.jt (Xm (Jj hr.units (Gr (Gr (Gr (gw 1 Sc) ge_int) (gw 6 Sc)) ge_int) Gi) (Ye (Ggo (Gr (Gr (Gr (gw 1 Sc) ge_int) (gw 6 Sc)) ge_int) Jz))))
  (Gm (Qo (Yd (gw 3 Sc) (Ga (gow z15 (Gf Al) hr (Ga (gw 0 Sc) (Ga (Ha (Hf (gG z15) T.b_len (Ga (gw 3 Sc) Gc Ge)) ge_int) Gc Gu) Ge)) (Ga (Go (Ga Gi (Ga (gw 6 Sc) Gc Ge) Gb)) Gc Gk) Gv))))
  Hb)))
  (Gm (Gs (Ky (gG z15) T.b_tuple (Ga (Zi (N':=["deed"]) (pk:=[none]) Sc (Wi (Kt (Ha (gw 2 Sc) (gw 3 Sc)) Va (Vb ge_int))) (fun cl s2 H2 C fp=>(Kz 0)) (fun cl s2 H2 C fp=>Je) (fun cl s2 H2 C fp=>(Go (Ga (Go Gc) (Ga (Hv 0) Gc Ge) Gk)))) Gc Jo)))))))))
def Kb:Sv:=(sq (sa (o2 getD (ls (ac (cn (.str "least")) (ac (cn (.str "most")) (ac (cn (.str "right")) (ac (cn (.str "left")) an))))) (cl 2 (Gn Gh) (ac (vr 0) (ac (cn (.int 4)) an)))) (gn 11))
  (sq (sa (cl 2 (Gn Gh) (ac (vr 0) (ac (o2 getD (ls (ac (cn (.int 2)) (ac (cn (.int 10)) an))) (cl 2 (Gn Gh) (ac (vr 0) (ac (cn (.int 2)) an)))) an))) (gn 12))
  (sx (mt Yi (vr 9) (ac (tp (ac (vr 11) (ac (cl 2 (Gn Gh) (ac (vr 0) (ac (o2 Hg (vr 4) (cn (.int 1))) an))) (ac (vr 12) an)))) an)))))
def Qc:Sv:=(sq (sa (ls an) (gn 9))
  (sq (sfor (ir1 (ac (o2 Jr (cl 2 (Gn Gh) (ac (vr 0) (ac (cn (.int 5)) an))) (o2 Wg (vr 3) (cn (.int 2)))) an)) (gn 10) Kb)
  (sq (sa (o2 getD (ls (ac (cn (.str "let")) (ac (cn (.str "right")) (ac (cn (.str "left")) (ac (cn (.str "feed")) an))))) (cl 2 (Gn Gh) (ac (vr 0) (ac (cn (.int 4)) an)))) (gn 11))
  (sq (sa (cl 2 (Gn Gh) (ac (vr 0) (ac (o2 Hg (vr 4) (b1 Ghi (ac (o2 eqD (vr 11) (cn (.str "feed"))) an))) an))) (gn 6))
  (sq (sif (ta (tb (o2 eqD (vr 11) (cn (.str "feed")))) (ta (tb (o2 neD (vr 5) (ls an))) (tb (o2 gtD (cl 2 (Gn Gh) (ac (vr 0) (ac (cn (.int 4)) an))) (cn (.int 0))))))
  (sa (o2 getD (vr 5) (cl 2 (Gn Gh) (ac (vr 0) (ac (b1 Gz (ac (vr 5) an)) an)))) (gn 6))
  skip)
  (sx (mt Yi (vr 7) (ac (tp (ac (b1 Gad (ac (vr 9) an)) (ac (tp (ac (vr 11) (ac (vr 6) an))) an))) an))))))))
def Xx:Sv:=(sq (sa (cl 2 (Gn Gh) (ac (vr 0) (ac (cn (.int 3)) an))) (gn 3))
  (sq (sif (ta (tb (o2 eqD (vr 3) (cn (.int 2)))) (to (tb (o2 eqD (vr 2) (cn (.int 12)))) (tb (o2 ltD (b1 Gz (ac (o2 getD (vr 1) (cn (.int 0))) an)) (cn (.int 6))))))
  (sret (cl 2 (Gn Qp) (ac (vr 0) (ac (vr 1) an))))
  skip)
  (sq (sa (o2 Ui (b1 Gz (ac (o2 getD (vr 1) (cn (.int 0))) an)) (cn (.int 1))) (gn 4))
  (sq (sa (cmp (ir1 (ac (vr 4) an)) [none,some 1] (gn 0) (ta (tb (o2 eqD (o2 getD (o2 getD (o2 getD (vr 1) (cn (.int 0))) (vr 0)) (cn (.int 0))) (cn (.str "pound")))) (tb (o2 Xl (o2 getD (o2 getD (o2 getD (vr 1) (cn (.int 0))) (vr 0)) (cn (.int 4))) (cn .non)))) (vr 0)) (gn 5))
  (sq (sa (ls an) (gn 7))
  (sq (sfor (ir1 (ac (cl 2 (Gn Gh) (ac (vr 0) (ac (o2 Hg (vr 2) (cn (.int 1))) an))) an)) (gn 8) Qc)
  (sret (b1 Gad (ac (vr 7) an)))))))))
def Vc:Fn:=fnB 13 Xx
theorem Gdz:FnS ["tape","canal","most","way","last","springs","at","rows","k","asks","j","word","number"] ["tape","canal","most"] (Gj Wl):=kdF
abbrev z16:=Gj Wl
theorem Gcm(Al:All P w K mg base):Cal P w K mg base "_law_rule" ["tape","canal","most"] Vc 4:=by
 have Sc:=Gdz
 have T:=Al.t
 refine calw (b:=Xx) 3 Al.h.h__law_rule Al.g Sc rfl fun _ _ _ _ _ _ _ hr=>?_
 conv=>arg 3; whnf
 refine GSs.h ?_
 exact(Gg (gsew 3 Sc (gow z16 (Gf Al) hr (Ga (gw 0 Sc) (Ga ge_int Gc Gb) Ge)))
  (Gg (Hj (GW.jt (Xm (Jj hr.units (gw 3 Sc) ge_int) (Ye (GW.jt (Xn (Jj hr.units (gw 2 Sc) ge_int) (Yu (Vz (Hf (gG z16) T.b_len (Ga (Gr (gw 1 Sc) ge_int) Gc Gp)) ge_int)))))))
  (Gm (Gs (gow z16 (Gav Al) hr (Ga (gw 0 Sc) (Ga (gw 1 Sc) Gc Ge) Ge))))
  Hb)
  (Gg (gsew 4 Sc (Jl (Hf (gG z16) T.b_len (Ga (Gr (gw 1 Sc) ge_int) Gc Gp)) ge_int))
  (Gg (Yj 5 (N':=["at","canal"]) (pk:=[none,some 1]) Sc (He (gG z16) T.b_range (Ga (gw 4 Sc) Gc Ge)) (fun cl s2 H2 C fp=>(Kz 0)) (fun cl s2 H2 C fp=>(Gma (GW.jt (Xm (Jj hr.units (Gr (Gr (Gr (Hv 1) ge_int) (Hv 0)) ge_int) Gi) (Ye (Ggo (Gr (Gr (Gr (Hv 1) ge_int) (Hv 0)) ge_int) Jz)))))) (fun cl s2 H2 C fp=>(Hv 0)))
  (Gg (gsew 7 Sc (Gy Gc))
  (Gg (Uk PassesOwn.never rfl (He (gG z16) T.b_range (Ga (gow z16 (Gf Al) hr (Ga (gw 0 Sc) (Ga (Ha (gw 2 Sc) ge_int) Gc Gu) Ge)) Gc Gv)) (ggw 8 Sc)
  (Gg (gsew 9 Sc (Gy Gc))
  (Gg (Uk PassesOwn.never rfl (He (gG z16) T.b_range (Ga (Jb (gow z16 (Gf Al) hr (Ga (gw 0 Sc) (Ga ge_int Gc Gb) Ge)) (Vm (gw 3 Sc) ge_int)) Gc Gu)) (ggw 10 Sc)
  (Gg (gsew 11 Sc (Gr (Gy (Ga Gi (Ga Gi (Ga Gi (Ga Gi Gc Gb) Gb) Gb) Gb)) (gow z16 (Gf Al) hr (Ga (gw 0 Sc) (Ga ge_int Gc Gb) Ge))))
  (Gg (gsew 12 Sc (gow z16 (Gf Al) hr (Ga (gw 0 Sc) (Ga (Gr (Gy (Ga ge_int (Ga ge_int Gc Gb) Gb)) (gow z16 (Gf Al) hr (Ga (gw 0 Sc) (Ga ge_int Gc Gb) Ge))) Gc Gp) Ge)))
  (Gm (Qo (Uf (gw 9 Sc) (Ga (Go (Ga (gw 11 Sc) (Ga (gow z16 (Gf Al) hr (Ga (gw 0 Sc) (Ga (Ha (gw 4 Sc) ge_int) Gc Gu) Ge)) (Ga (gw 12 Sc) Gc Ge) Gv) Ge)) Gc Gk)))))))
  (Gg (gsew 11 Sc (Gr (Gy (Ga Gi (Ga Gi (Ga Gi (Ga Gi Gc Gb) Gb) Gb) Gb)) (gow z16 (Gf Al) hr (Ga (gw 0 Sc) (Ga ge_int Gc Gb) Ge))))
  (Gg (gsew 6 Sc (gow z16 (Gf Al) hr (Ga (gw 0 Sc) (Ga (Ha (gw 4 Sc) (Gl9 (gG z16) T.b_int (Ga (Ggm hr.units (gw 11 Sc) Gi) Gc Gf0))) Gc Gu) Ge)))
  (Gg (Hj (GW.jt (Xm (Jj hr.units (gw 11 Sc) Gi) (Xm (Ger hr.units (gw 5 Sc) (Gy Gc)) (Ye (Wa (gow z16 (Gf Al) hr (Ga (gw 0 Sc) (Ga ge_int Gc Gb) Ge)) ge_int)))))
  (Gm (gsew 6 Sc (Gr (gw 5 Sc) (gow z16 (Gf Al) hr (Ga (gw 0 Sc) (Ga (Hf (gG z16) T.b_len (Ga (gw 5 Sc) Gc Ge)) Gc Gv) Ge)))))
  Hb)
  (Gm (Qo (Uf (gw 7 Sc) (Ga (Go (Ga (Ky (gG z16) T.b_tuple (Ga (gw 9 Sc) Gc Ge)) (Ga (Go (Ga (gw 11 Sc) (Ga (gw 6 Sc) Gc Ge) Ge)) Gc Gk) Gv)) Gc Gk))))))))))
  (Gm (Gs (Ky (gG z16) T.b_tuple (Ga (gw 7 Sc) Gc Ge))))))))))
def Hr(fr:Fn):Sv:=(sq (sa (cl 2 (Gn Gh) (ac (vr 0) (ac (ie (tb (o2 gtD (vr 1) (cn (.int 0)))) (cn (.int 9)) (cn (.int 5))) an))) (gn 2))
  (sq (sif (tb (o2 eqD (vr 2) (cn (.int 0))))
  (sret (o2 getD (ls (ac (cn .non) (ac (cn (.bl true)) (ac (cn (.bl false)) an)))) (cl 2 (Gn Gh) (ac (vr 0) (ac (cn (.int 3)) an)))))
  skip)
  (sq (sif (tb (o2 ltD (vr 2) (cn (.int 3))))
  (sret (o2 Jr (cl 2 (Gn Qa) (ac (vr 0) (ac (o2 getD (ls (ac (cn (.int 4)) (ac (cn (.int 15)) (ac (o2 Xk (cn (.int 10)) (cn (.int 50))) an)))) (cl 2 (Gn Gh) (ac (vr 0) (ac (cn (.int 3)) an)))) an))) (o2 Ui (cn (.int 1)) (o2 Jr (cn (.int 2)) (cl 2 (Gn Gh) (ac (vr 0) (ac (cn (.int 2)) an)))))))
  skip)
  (sq (sif (tb (o2 eqD (vr 2) (cn (.int 3))))
  (sret (o2 getD (ls (ac (cn (.str "least")) (ac (cn (.str "most")) (ac (cn (.str "right")) (ac (cn (.str "left")) (ac (cn (.str "let")) (ac (cn (.str "feed")) (ac (cn (.str "end")) (ac (cn (.str "a")) an))))))))) (cl 2 (Gn Gh) (ac (vr 0) (ac (cn (.int 8)) an)))))
  skip)
  (sq (sif (tb (o2 eqD (vr 2) (cn (.int 4))))
  (sret (mts Gbg (cn (.str "")) (ac (cmp (ir1 (ac (cl 2 (Gn Gh) (ac (vr 0) (ac (cn (.int 6)) an))) an)) [none,some 0] (gn 0) ttrue (o2 getD (cn (.str "leftmostighrd 01")) (cl 2 (Gn Gh) (ac (vr 1) (ac (cn (.int 16)) an))))) an)))
  skip)
  (sq (sa (cmp (ir1 (ac (cl 2 (Gn Gh) (ac (vr 0) (ac (cn (.int 5)) an))) an)) [none,some 0,some 1] (gn 0) ttrue (cl 2 (Gn fr) (ac (vr 1) (ac (o2 Ui (vr 2) (cn (.int 1))) an)))) (gn 3))
  (sret (ie (tb (o2 ltD (vr 2) (cn (.int 7)))) (b1 Gad (ac (vr 3) an)) (vr 3)))))))))
def Wu:Fn:=fun _ _=>.bad
def Wv:Fn:=fnB 4 (Hr Wu)
def Ww:Fn:=fnB 4 (Hr Wv)
def Wx:Fn:=fnB 4 (Hr Ww)
def Zo:Fn:=fnB 4 (Hr Wx)
def Wy:Fn:=Zo
theorem Vd:FnS ["tape","deep","way","parts"] ["tape","deep"] (Gj Xs):=kdF
abbrev z17:=Gj Xs
theorem Gbn(Al:All P w K mg base):Cal P w K mg base "_law_any" ["tape","deep"] Wu 4:=let ⟨_,X,G⟩:=Al.g; Gl8 (Al.h.h__law_any.dn X G fun _ _ _ _ _ _ us hl=>match us,hl with | [_,_],_=>rfl)
theorem Gbo(Al:All P w K mg base):Cal P w K mg base "_law_any" ["tape","deep"] Wv 5:=by
 have Sc:=Vd
 have T:=Al.t
 have C_REC:=Gbn Al
 refine calw (b:=Hr Wu) 4 Al.h.h__law_any Al.g Sc rfl fun _ _ _ _ _ _ _ hr=>?_
 conv=>arg 3; whnf
 refine GSs.h ?_
 exact(Gg (gsew 2 Sc (gow z17 (Gf Al) hr (Ga (gw 0 Sc) (Ga (Qv (Wa (gw 1 Sc) ge_int) ge_int ge_int) Gc Vy) Ge)))
  (Gg (Hj (Jj hr.units (gw 2 Sc) ge_int)
  (Gm (Gs (Gr (Gy (Ga Jz (Ga Jy (Ga Jy Gc Gb) Gb) Gb)) (gow z17 (Gf Al) hr (Ga (gw 0 Sc) (Ga ge_int Gc Gb) Ge)))))
  Hb)
  (Gg (Hj (Vz (gw 2 Sc) ge_int)
  (Gm (Gs (Jb (gow z17 (Ka Al) hr (Ga (gw 0 Sc) (Ga (Gr (Gy (Ga ge_int (Ga ge_int (Ga (Wh ge_int ge_int) Gc Gu) Gb) Gb)) (gow z17 (Gf Al) hr (Ga (gw 0 Sc) (Ga ge_int Gc Gb) Ge))) Gc Gp) Ge)) (Jl ge_int (Jb ge_int (gow z17 (Gf Al) hr (Ga (gw 0 Sc) (Ga ge_int Gc Gb) Ge)))))))
  Hb)
  (Gg (Hj (Jj hr.units (gw 2 Sc) ge_int)
  (Gm (Gs (Gr (Gy (Ga Gi (Ga Gi (Ga Gi (Ga Gi (Ga Gi (Ga Gi (Ga Gi (Ga Gi Gc Gb) Gb) Gb) Gb) Gb) Gb) Gb) Gb)) (gow z17 (Gf Al) hr (Ga (gw 0 Sc) (Ga ge_int Gc Gb) Ge)))))
  Hb)
  (Gg (Hj (Jj hr.units (gw 2 Sc) ge_int)
  (Gm (Gs (Ga2 Gi (Ga (Zi (N':=["k","tape"]) (pk:=[none,some 0]) Sc (He (gG z17) T.b_range (Ga (gow z17 (Gf Al) hr (Ga (gw 0 Sc) (Ga ge_int Gc Gb) Ge)) Gc Gv)) (fun cl s2 H2 C fp=>(Kz 0)) (fun cl s2 H2 C fp=>Je) (fun cl s2 H2 C fp=>(Gr Gi (Zj (Gf Al) hr (Ga (Hv 1) (Ga ge_int Gc Gb) Ge))))) Gc Jo))))
  Hb)
  (Gg (Yj 3 (N':=["k","tape","deep"]) (pk:=[none,some 0,some 1]) Sc (He (gG z17) T.b_range (Ga (gow z17 (Gf Al) hr (Ga (gw 0 Sc) (Ga ge_int Gc Gb) Ge)) Gc Gv)) (fun cl s2 H2 C fp=>(Kz 0)) (fun cl s2 H2 C fp=>Je) (fun cl s2 H2 C fp=>(Zj C_REC hr (Ga (Hv 1) (Ga (Jl (Hv 2) ge_int) Gc Gu) Ge))))
  (Gm (Gs (Qv (Vz (gw 2 Sc) ge_int) (Ky (gG z17) T.b_tuple (Ga (gw 3 Sc) Gc Ge)) (gw 3 Sc))))))))))
theorem Gbp(Al:All P w K mg base):Cal P w K mg base "_law_any" ["tape","deep"] Ww 6:=by
 have Sc:=Vd
 have T:=Al.t
 have C_REC:=Gbo Al
 refine calw (b:=Hr Wv) 5 Al.h.h__law_any Al.g Sc rfl fun _ _ _ _ _ _ _ hr=>?_
 conv=>arg 3; whnf
 refine GSs.h ?_
 exact(Gg (gsew 2 Sc (gow z17 (Gf Al) hr (Ga (gw 0 Sc) (Ga (Qv (Wa (gw 1 Sc) ge_int) ge_int ge_int) Gc Vy) Ge)))
  (Gg (Hj (Jj hr.units (gw 2 Sc) ge_int)
  (Gm (Gs (Gr (Gy (Ga Jz (Ga Jy (Ga Jy Gc Gb) Gb) Gb)) (gow z17 (Gf Al) hr (Ga (gw 0 Sc) (Ga ge_int Gc Gb) Ge)))))
  Hb)
  (Gg (Hj (Vz (gw 2 Sc) ge_int)
  (Gm (Gs (Jb (gow z17 (Ka Al) hr (Ga (gw 0 Sc) (Ga (Gr (Gy (Ga ge_int (Ga ge_int (Ga (Wh ge_int ge_int) Gc Gu) Gb) Gb)) (gow z17 (Gf Al) hr (Ga (gw 0 Sc) (Ga ge_int Gc Gb) Ge))) Gc Gp) Ge)) (Jl ge_int (Jb ge_int (gow z17 (Gf Al) hr (Ga (gw 0 Sc) (Ga ge_int Gc Gb) Ge)))))))
  Hb)
  (Gg (Hj (Jj hr.units (gw 2 Sc) ge_int)
  (Gm (Gs (Gr (Gy (Ga Gi (Ga Gi (Ga Gi (Ga Gi (Ga Gi (Ga Gi (Ga Gi (Ga Gi Gc Gb) Gb) Gb) Gb) Gb) Gb) Gb) Gb)) (gow z17 (Gf Al) hr (Ga (gw 0 Sc) (Ga ge_int Gc Gb) Ge)))))
  Hb)
  (Gg (Hj (Jj hr.units (gw 2 Sc) ge_int)
  (Gm (Gs (Ga2 Gi (Ga (Zi (N':=["k","tape"]) (pk:=[none,some 0]) Sc (He (gG z17) T.b_range (Ga (gow z17 (Gf Al) hr (Ga (gw 0 Sc) (Ga ge_int Gc Gb) Ge)) Gc Gv)) (fun cl s2 H2 C fp=>(Kz 0)) (fun cl s2 H2 C fp=>Je) (fun cl s2 H2 C fp=>(Gr Gi (Zj (Gf Al) hr (Ga (Hv 1) (Ga ge_int Gc Gb) Ge))))) Gc Jo))))
  Hb)
  (Gg (Yj 3 (N':=["k","tape","deep"]) (pk:=[none,some 0,some 1]) Sc (He (gG z17) T.b_range (Ga (gow z17 (Gf Al) hr (Ga (gw 0 Sc) (Ga ge_int Gc Gb) Ge)) Gc Gv)) (fun cl s2 H2 C fp=>(Kz 0)) (fun cl s2 H2 C fp=>Je) (fun cl s2 H2 C fp=>(Zj C_REC hr (Ga (Hv 1) (Ga (Jl (Hv 2) ge_int) Gc Gu) Ge))))
  (Gm (Gs (Qv (Vz (gw 2 Sc) ge_int) (Ky (gG z17) T.b_tuple (Ga (gw 3 Sc) Gc Ge)) (gw 3 Sc))))))))))
theorem Gbq(Al:All P w K mg base):Cal P w K mg base "_law_any" ["tape","deep"] Wx 7:=by
 have Sc:=Vd
 have T:=Al.t
 have C_REC:=Gbp Al
 refine calw (b:=Hr Ww) 6 Al.h.h__law_any Al.g Sc rfl fun _ _ _ _ _ _ _ hr=>?_
 conv=>arg 3; whnf
 refine GSs.h ?_
 exact(Gg (gsew 2 Sc (gow z17 (Gf Al) hr (Ga (gw 0 Sc) (Ga (Qv (Wa (gw 1 Sc) ge_int) ge_int ge_int) Gc Vy) Ge)))
  (Gg (Hj (Jj hr.units (gw 2 Sc) ge_int)
  (Gm (Gs (Gr (Gy (Ga Jz (Ga Jy (Ga Jy Gc Gb) Gb) Gb)) (gow z17 (Gf Al) hr (Ga (gw 0 Sc) (Ga ge_int Gc Gb) Ge)))))
  Hb)
  (Gg (Hj (Vz (gw 2 Sc) ge_int)
  (Gm (Gs (Jb (gow z17 (Ka Al) hr (Ga (gw 0 Sc) (Ga (Gr (Gy (Ga ge_int (Ga ge_int (Ga (Wh ge_int ge_int) Gc Gu) Gb) Gb)) (gow z17 (Gf Al) hr (Ga (gw 0 Sc) (Ga ge_int Gc Gb) Ge))) Gc Gp) Ge)) (Jl ge_int (Jb ge_int (gow z17 (Gf Al) hr (Ga (gw 0 Sc) (Ga ge_int Gc Gb) Ge)))))))
  Hb)
  (Gg (Hj (Jj hr.units (gw 2 Sc) ge_int)
  (Gm (Gs (Gr (Gy (Ga Gi (Ga Gi (Ga Gi (Ga Gi (Ga Gi (Ga Gi (Ga Gi (Ga Gi Gc Gb) Gb) Gb) Gb) Gb) Gb) Gb) Gb)) (gow z17 (Gf Al) hr (Ga (gw 0 Sc) (Ga ge_int Gc Gb) Ge)))))
  Hb)
  (Gg (Hj (Jj hr.units (gw 2 Sc) ge_int)
  (Gm (Gs (Ga2 Gi (Ga (Zi (N':=["k","tape"]) (pk:=[none,some 0]) Sc (He (gG z17) T.b_range (Ga (gow z17 (Gf Al) hr (Ga (gw 0 Sc) (Ga ge_int Gc Gb) Ge)) Gc Gv)) (fun cl s2 H2 C fp=>(Kz 0)) (fun cl s2 H2 C fp=>Je) (fun cl s2 H2 C fp=>(Gr Gi (Zj (Gf Al) hr (Ga (Hv 1) (Ga ge_int Gc Gb) Ge))))) Gc Jo))))
  Hb)
  (Gg (Yj 3 (N':=["k","tape","deep"]) (pk:=[none,some 0,some 1]) Sc (He (gG z17) T.b_range (Ga (gow z17 (Gf Al) hr (Ga (gw 0 Sc) (Ga ge_int Gc Gb) Ge)) Gc Gv)) (fun cl s2 H2 C fp=>(Kz 0)) (fun cl s2 H2 C fp=>Je) (fun cl s2 H2 C fp=>(Zj C_REC hr (Ga (Hv 1) (Ga (Jl (Hv 2) ge_int) Gc Gu) Ge))))
  (Gm (Gs (Qv (Vz (gw 2 Sc) ge_int) (Ky (gG z17) T.b_tuple (Ga (gw 3 Sc) Gc Ge)) (gw 3 Sc))))))))))
theorem Gbr(Al:All P w K mg base):Cal P w K mg base "_law_any" ["tape","deep"] Zo 8:=by
 have Sc:=Vd
 have T:=Al.t
 have C_REC:=Gbq Al
 refine calw (b:=Hr Wx) 7 Al.h.h__law_any Al.g Sc rfl fun _ _ _ _ _ _ _ hr=>?_
 conv=>arg 3; whnf
 refine GSs.h ?_
 exact(Gg (gsew 2 Sc (gow z17 (Gf Al) hr (Ga (gw 0 Sc) (Ga (Qv (Wa (gw 1 Sc) ge_int) ge_int ge_int) Gc Vy) Ge)))
  (Gg (Hj (Jj hr.units (gw 2 Sc) ge_int)
  (Gm (Gs (Gr (Gy (Ga Jz (Ga Jy (Ga Jy Gc Gb) Gb) Gb)) (gow z17 (Gf Al) hr (Ga (gw 0 Sc) (Ga ge_int Gc Gb) Ge)))))
  Hb)
  (Gg (Hj (Vz (gw 2 Sc) ge_int)
  (Gm (Gs (Jb (gow z17 (Ka Al) hr (Ga (gw 0 Sc) (Ga (Gr (Gy (Ga ge_int (Ga ge_int (Ga (Wh ge_int ge_int) Gc Gu) Gb) Gb)) (gow z17 (Gf Al) hr (Ga (gw 0 Sc) (Ga ge_int Gc Gb) Ge))) Gc Gp) Ge)) (Jl ge_int (Jb ge_int (gow z17 (Gf Al) hr (Ga (gw 0 Sc) (Ga ge_int Gc Gb) Ge)))))))
  Hb)
  (Gg (Hj (Jj hr.units (gw 2 Sc) ge_int)
  (Gm (Gs (Gr (Gy (Ga Gi (Ga Gi (Ga Gi (Ga Gi (Ga Gi (Ga Gi (Ga Gi (Ga Gi Gc Gb) Gb) Gb) Gb) Gb) Gb) Gb) Gb)) (gow z17 (Gf Al) hr (Ga (gw 0 Sc) (Ga ge_int Gc Gb) Ge)))))
  Hb)
  (Gg (Hj (Jj hr.units (gw 2 Sc) ge_int)
  (Gm (Gs (Ga2 Gi (Ga (Zi (N':=["k","tape"]) (pk:=[none,some 0]) Sc (He (gG z17) T.b_range (Ga (gow z17 (Gf Al) hr (Ga (gw 0 Sc) (Ga ge_int Gc Gb) Ge)) Gc Gv)) (fun cl s2 H2 C fp=>(Kz 0)) (fun cl s2 H2 C fp=>Je) (fun cl s2 H2 C fp=>(Gr Gi (Zj (Gf Al) hr (Ga (Hv 1) (Ga ge_int Gc Gb) Ge))))) Gc Jo))))
  Hb)
  (Gg (Yj 3 (N':=["k","tape","deep"]) (pk:=[none,some 0,some 1]) Sc (He (gG z17) T.b_range (Ga (gow z17 (Gf Al) hr (Ga (gw 0 Sc) (Ga ge_int Gc Gb) Ge)) Gc Gv)) (fun cl s2 H2 C fp=>(Kz 0)) (fun cl s2 H2 C fp=>Je) (fun cl s2 H2 C fp=>(Zj C_REC hr (Ga (Hv 1) (Ga (Jl (Hv 2) ge_int) Gc Gu) Ge))))
  (Gm (Gs (Qv (Vz (gw 2 Sc) ge_int) (Ky (gG z17) T.b_tuple (Ga (gw 3 Sc) Gc Ge)) (gw 3 Sc))))))))))
theorem Gd0(Al:All P w K mg base):Cal P w K mg base "_law_any" ["tape","deep"] Wy 8:=Gbr Al
def Uw:Sv:=(sret (o2 Hg (o2 Hg (sl2 (vr 0) onone (osome (vr 1))) (tp (ac (vr 2) an))) (sl2 (vr 0) (osome (o2 Hg (vr 1) (cn (.int 1)))) onone)))
def Hl:Fn:=fnB 3 Uw
theorem Gey:FnS ["rows","at","what"] ["rows","at","what"] (Gj Gan):=kdF
theorem Qd(Al:All P w K mg base):Cal P w K mg base "_law_put" ["rows","at","what"] Hl 1:=by
 have Sc:=Gey
 refine calw (b:=Uw) 0 Al.h.h__law_put Al.g Sc rfl fun _ _ _ _ _ _ _ hr=>?_
 conv=>arg 3; whnf
 refine GSs.h ?_
 exact(Gm (Gs (Ha (Ha (Kt (gw 0 Sc) Va (Vb (gw 1 Sc))) (Go (Ga (gw 2 Sc) Gc Ge))) (Kt (gw 0 Sc) (Vb (Ha (gw 1 Sc) ge_int)) Va))))
def Xy:Sv:=(sq (sa (ls (ac (tp (ac (cn (.str "least")) (ac (vr 0) (ac (cn (.int 9)) an)))) (ac (tp (ac (cn (.str "most")) (ac (cn (.int 0)) (ac (cn (.int 0)) an)))) (ac (tp (ac (cn (.str "right")) (ac (cn (.int 0)) (ac (cn (.int 1)) an)))) (ac (tp (ac (cn (.str "left")) (ac (vr 0) (ac (cn (.int 0)) an)))) (ac (tp (ac (cn (.str "least")) (ac (o2 Hg (vr 0) (cn (.int 1))) (ac (cn (.int 1)) an)))) an)))))) (gn 1))
  (sq (sa (o2 Hg (vr 1) (ls (ac (tp (ac (cn (.str "most")) (ac (o2 Ui (cn (.int 0)) (cn (.int 1))) (ac (cn (.int 1)) an)))) (ac (tp (ac (cn (.str "left")) (ac (o2 Hg (vr 0) (cn (.int 1))) (ac (cn (.int 0)) an)))) (ac (tp (ac (cn (.str "least")) (ac (cn (.int 0)) (ac (cn (.int 10)) an)))) (ac (tp (ac (cn (.str "right")) (ac (cn (.int 0)) (ac (o2 Ui (cn (.int 0)) (cn (.int 1))) an)))) (ac (tp (ac (cn (.str "lest")) (ac (cn (.int 0)) (ac (cn (.int 1)) an)))) an))))))) (gn 1))
  (sq (sa (o2 Hg (vr 1) (ls (ac (tp (ac (cn (.str "least")) (ac (cn (.int 0)) an))) (ac (tp (ac (cn (.str "least")) (ac (cn (.int 0)) (ac (cn (.int 1)) (ac (cn (.int 1)) an))))) (ac (ls (ac (cn (.str "least")) (ac (cn (.int 0)) (ac (cn (.int 1)) an)))) (ac (tp (ac (cn (.str "least")) (ac (cn (.bl true)) (ac (cn (.int 1)) an)))) (ac (tp (ac (cn (.str "least")) (ac (cn (.int 0)) (ac (cn (.bl false)) an)))) an))))))) (gn 1))
  (sq (sa (o2 Hg (vr 1) (ls (ac (tp (ac (cn (.str "right")) (ac (cn (.int 1)) (ac (cn (.bl true)) an)))) (ac (tp (ac (cn .non) (ac (cn (.int 0)) (ac (cn (.int 1)) an)))) (ac (tp (ac (cn (.str "left")) (ac (cn .non) (ac (cn (.int 1)) an)))) (ac (tp (ac (cn (.str "left")) (ac (cn (.int 0)) (ac (cn (.str "1")) an)))) (ac (tp (ac (tp (ac (cn (.str "least")) an)) (ac (cn (.int 0)) (ac (cn (.int 1)) an)))) an))))))) (gn 1))
  (sret (o2 Hg (vr 1) (ls (ac (cn (.str "least")) (ac (cn .non) (ac (tp an) (ac (tp (ac (ls (ac (cn (.str "least")) an)) (ac (cn (.int 0)) (ac (cn (.int 1)) an)))) an)))))))))))
def Qs:Fn:=fnB 2 Xy
theorem Gd1:FnS ["last","some"] ["last"] (Gj Zk):=kdF
theorem Gcn(Al:All P w K mg base):Cal P w K mg base "_law_asks" ["last"] Qs 1:=by
 have Sc:=Gd1
 refine calw (b:=Xy) 0 Al.h.h__law_asks Al.g Sc rfl fun _ _ _ _ _ _ _ hr=>?_
 conv=>arg 3; whnf
 refine GSs.h ?_
 exact(Gg (gsew 1 Sc (Gy (Ga (Go (Ga Gi (Ga (gw 0 Sc) (Ga ge_int Gc Gb) Ge) Gb)) (Ga (Go (Ga Gi (Ga ge_int (Ga ge_int Gc Gb) Gb) Gb)) (Ga (Go (Ga Gi (Ga ge_int (Ga ge_int Gc Gb) Gb) Gb)) (Ga (Go (Ga Gi (Ga (gw 0 Sc) (Ga ge_int Gc Gb) Ge) Gb)) (Ga (Go (Ga Gi (Ga (Ha (gw 0 Sc) ge_int) (Ga ge_int Gc Gb) Gu) Gb)) Gc Gk) Gk) Gk) Gk) Gk)))
  (Gg (gsew 1 Sc (Ha (gw 1 Sc) (Gy (Ga (Go (Ga Gi (Ga (Jl ge_int ge_int) (Ga ge_int Gc Gb) Gu) Gb)) (Ga (Go (Ga Gi (Ga (Ha (gw 0 Sc) ge_int) (Ga ge_int Gc Gb) Gu) Gb)) (Ga (Go (Ga Gi (Ga ge_int (Ga ge_int Gc Gb) Gb) Gb)) (Ga (Go (Ga Gi (Ga ge_int (Ga (Jl ge_int ge_int) Gc Gu) Gb) Gb)) (Ga (Go (Ga Gi (Ga ge_int (Ga ge_int Gc Gb) Gb) Gb)) Gc Gk) Gk) Gk) Gk) Gk))))
  (Gg (gsew 1 Sc (Ha (gw 1 Sc) (Gy (Ga (Go (Ga Gi (Ga ge_int Gc Gb) Gb)) (Ga (Go (Ga Gi (Ga ge_int (Ga ge_int (Ga ge_int Gc Gb) Gb) Gb) Gb)) (Ga (Gy (Ga Gi (Ga ge_int (Ga ge_int Gc Gb) Gb) Gb)) (Ga (Go (Ga Gi (Ga Jy (Ga ge_int Gc Gb) Gb) Gb)) (Ga (Go (Ga Gi (Ga ge_int (Ga Jy Gc Gb) Gb) Gb)) Gc Gk) Gk) Yc) Gk) Gk))))
  (Gg (gsew 1 Sc (Ha (gw 1 Sc) (Gy (Ga (Go (Ga Gi (Ga ge_int (Ga Jy Gc Gb) Gb) Gb)) (Ga (Go (Ga Jz (Ga ge_int (Ga ge_int Gc Gb) Gb) Gb)) (Ga (Go (Ga Gi (Ga Jz (Ga ge_int Gc Gb) Gb) Gb)) (Ga (Go (Ga Gi (Ga ge_int (Ga Gi Gc Gb) Gb) Gb)) (Ga (Go (Ga (Go (Ga Gi Gc Gb)) (Ga ge_int (Ga ge_int Gc Gb) Gb) Gk)) Gc Gk) Gk) Gk) Gk) Gk))))
  (Gm (Gs (Ha (gw 1 Sc) (Gy (Ga Gi (Ga Jz (Ga (Go Gc) (Ga (Go (Ga (Gy (Ga Gi Gc Gb)) (Ga ge_int (Ga ge_int Gc Gb) Gb) Yc)) Gc Gk) Gk) Gb) Gb)))))))))
def Wz:Sv:=(sq (sa (ls (ac (tp (ac (cn (.str "let")) (ac (o2 Ui (vr 0) (cn (.int 1))) an))) (ac (tp (ac (cn (.str "feed")) (ac (vr 0) an))) (ac (tp (ac (cn (.str "feed")) (ac (cn (.int 0)) an))) (ac (tp (ac (cn (.str "right")) (ac (cn (.int 0)) an))) (ac (tp (ac (cn (.str "left")) (ac (o2 Ui (vr 0) (cn (.int 1))) an))) (ac (tp (ac (cn (.str "let")) (ac (vr 0) an))) an))))))) (gn 1))
  (sq (sa (o2 Hg (vr 1) (ls (ac (tp (ac (cn (.str "right")) (ac (vr 0) an))) (ac (tp (ac (cn (.str "left")) (ac (vr 0) an))) (ac (tp (ac (cn (.str "left")) (ac (o2 Ui (cn (.int 0)) (cn (.int 1))) an))) (ac (tp (ac (cn (.str "feed")) (ac (o2 Hg (vr 0) (cn (.int 1))) an))) (ac (tp (ac (cn (.str "feed")) (ac (o2 Ui (cn (.int 0)) (cn (.int 1))) an))) an))))))) (gn 1))
  (sq (sa (o2 Hg (vr 1) (ls (ac (tp (ac (cn (.str "stay")) (ac (cn (.int 0)) an))) (ac (ls (ac (cn (.str "let")) (ac (cn (.int 0)) an))) (ac (tp (ac (cn (.str "let")) an)) (ac (tp (ac (cn (.str "let")) (ac (cn (.int 0)) (ac (cn (.int 0)) an)))) (ac (tp (ac (cn (.str "let")) (ac (cn (.bl false)) an))) (ac (tp (ac (cn (.str "feed")) (ac (cn (.bl true)) an))) (ac (tp (ac (cn (.str "let")) (ac (cn .non) an))) an))))))))) (gn 1))
  (sret (o2 Hg (vr 1) (ls (ac (tp (ac (cn .non) (ac (cn (.int 0)) an))) (ac (tp (ac (cn (.str "let")) (ac (cn (.str "0")) an))) (ac (cn .non) (ac (cn (.str "let")) (ac (tp an) (ac (tp (ac (ls (ac (cn (.str "let")) an)) (ac (cn (.int 0)) an))) an))))))))))))
def Qe:Fn:=fnB 2 Wz
theorem Gco:FnS ["last","some"] ["last"] (Gj Yl):=kdF
theorem Gbs(Al:All P w K mg base):Cal P w K mg base "_law_deeds" ["last"] Qe 1:=by
 have Sc:=Gco
 refine calw (b:=Wz) 0 Al.h.h__law_deeds Al.g Sc rfl fun _ _ _ _ _ _ _ hr=>?_
 conv=>arg 3; whnf
 refine GSs.h ?_
 exact(Gg (gsew 1 Sc (Gy (Ga (Go (Ga Gi (Ga (Jl (gw 0 Sc) ge_int) Gc Gu) Gb)) (Ga (Go (Ga Gi (Ga (gw 0 Sc) Gc Ge) Gb)) (Ga (Go (Ga Gi (Ga ge_int Gc Gb) Gb)) (Ga (Go (Ga Gi (Ga ge_int Gc Gb) Gb)) (Ga (Go (Ga Gi (Ga (Jl (gw 0 Sc) ge_int) Gc Gu) Gb)) (Ga (Go (Ga Gi (Ga (gw 0 Sc) Gc Ge) Gb)) Gc Gk) Gk) Gk) Gk) Gk) Gk)))
  (Gg (gsew 1 Sc (Ha (gw 1 Sc) (Gy (Ga (Go (Ga Gi (Ga (gw 0 Sc) Gc Ge) Gb)) (Ga (Go (Ga Gi (Ga (gw 0 Sc) Gc Ge) Gb)) (Ga (Go (Ga Gi (Ga (Jl ge_int ge_int) Gc Gu) Gb)) (Ga (Go (Ga Gi (Ga (Ha (gw 0 Sc) ge_int) Gc Gu) Gb)) (Ga (Go (Ga Gi (Ga (Jl ge_int ge_int) Gc Gu) Gb)) Gc Gk) Gk) Gk) Gk) Gk))))
  (Gg (gsew 1 Sc (Ha (gw 1 Sc) (Gy (Ga (Go (Ga Gi (Ga ge_int Gc Gb) Gb)) (Ga (Gy (Ga Gi (Ga ge_int Gc Gb) Gb)) (Ga (Go (Ga Gi Gc Gb)) (Ga (Go (Ga Gi (Ga ge_int (Ga ge_int Gc Gb) Gb) Gb)) (Ga (Go (Ga Gi (Ga Jy Gc Gb) Gb)) (Ga (Go (Ga Gi (Ga Jy Gc Gb) Gb)) (Ga (Go (Ga Gi (Ga Jz Gc Gb) Gb)) Gc Gk) Gk) Gk) Gk) Gk) Yc) Gk))))
  (Gm (Gs (Ha (gw 1 Sc) (Gy (Ga (Go (Ga Jz (Ga ge_int Gc Gb) Gb)) (Ga (Go (Ga Gi (Ga Gi Gc Gb) Gb)) (Ga Jz (Ga Gi (Ga (Go Gc) (Ga (Go (Ga (Gy (Ga Gi Gc Gb)) (Ga ge_int Gc Gb) Yc)) Gc Gk) Gk) Gb) Gb) Gk) Gk))))))))
def Ua:Sv:=(sq (sa (ls (ac (ls (ac (vr 0) (ac (vr 1) an))) (ac (tp (ac (vr 0) an)) (ac (tp (ac (vr 0) (ac (vr 1) (ac (vr 1) an)))) (ac (tp (ac (b1 Xe (ac (vr 0) an)) (ac (vr 1) an))) (ac (tp (ac (o2 Jr (tp (ac (tp (ac (cn (.str "least")) (ac (cn (.int 0)) (ac (cn (.int 0)) an)))) an)) (cn (.int 5))) (ac (vr 1) an))) an)))))) (gn 2))
  (sret (o2 Hg (vr 2) (ls (ac (tp (ac (o2 Jr (tp (ac (tp (ac (cn (.str "least")) (ac (cn (.int 0)) (ac (cn (.int 0)) an)))) an)) (cn (.int 4))) (ac (vr 1) an))) (ac (tp (ac (cn .non) (ac (vr 1) an))) (ac (tp (ac (vr 1) (ac (vr 0) an))) (ac (vr 1) (ac (cn .non) (ac (tp an) an))))))))))
def Jt:Fn:=fnB 3 Ua
theorem Gah:FnS ["asks","deed","some"] ["asks","deed"] (Gj Qj):=kdF
abbrev z21:=Gj Qj
theorem Ve(Al:All P w K mg base):Cal P w K mg base "_law_odd_rows" ["asks","deed"] Jt 1:=by
 have Sc:=Gah
 have T:=Al.t
 refine calw (b:=Ua) 0 Al.h.h__law_odd_rows Al.g Sc rfl fun _ _ _ _ _ _ _ hr=>?_
 conv=>arg 3; whnf
 refine GSs.h ?_
 exact(Gg (gsew 2 Sc (Gy (Ga (Gy (Ga (gw 0 Sc) (Ga (gw 1 Sc) Gc Ge) Ge)) (Ga (Go (Ga (gw 0 Sc) Gc Ge)) (Ga (Go (Ga (gw 0 Sc) (Ga (gw 1 Sc) (Ga (gw 1 Sc) Gc Ge) Ge) Ge)) (Ga (Go (Ga (Gds (gG z21) T.b_list (Ga (gw 0 Sc) Gc Ge)) (Ga (gw 1 Sc) Gc Ge) Gv)) (Ga (Go (Ga (Jb (Go (Ga (Go (Ga Gi (Ga ge_int (Ga ge_int Gc Gb) Gb) Gb)) Gc Gk)) ge_int) (Ga (gw 1 Sc) Gc Ge) Gu)) Gc Gk) Gk) Gk) Gk) Yc)))
  (Gm (Gs (Ha (gw 2 Sc) (Gy (Ga (Go (Ga (Jb (Go (Ga (Go (Ga Gi (Ga ge_int (Ga ge_int Gc Gb) Gb) Gb)) Gc Gk)) ge_int) (Ga (gw 1 Sc) Gc Ge) Gu)) (Ga (Go (Ga Jz (Ga (gw 1 Sc) Gc Ge) Gb)) (Ga (Go (Ga (gw 1 Sc) (Ga (gw 0 Sc) Gc Ge) Ge)) (Ga (gw 1 Sc) (Ga Jz (Ga (Go Gc) Gc Gk) Gb) Ge) Gk) Gk) Gk))))))
def Xz:Sv:=(sret (sl2 (o2 Hg (o2 Hg (sl2 (vr 0) onone (osome (vr 1))) (tp (ac (vr 2) an))) (sl2 (vr 0) (osome (vr 1)) onone)) onone (osome (vr 3))))
def Jp:Fn:=fnB 4 Xz
theorem Gd2:FnS ["rows","at","row","most"] ["rows","at","row","most"] (Gj Zl):=kdF
theorem Ym(Al:All P w K mg base):Cal P w K mg base "_law_with" ["rows","at","row","most"] Jp 1:=by
 have Sc:=Gd2
 refine calw (b:=Xz) 0 Al.h.h__law_with Al.g Sc rfl fun _ _ _ _ _ _ _ hr=>?_
 conv=>arg 3; whnf
 refine GSs.h ?_
 exact(Gm (Gs (Kt (Ha (Ha (Kt (gw 0 Sc) Va (Vb (gw 1 Sc))) (Go (Ga (gw 2 Sc) Gc Ge))) (Kt (gw 0 Sc) (Vb (gw 1 Sc)) Va)) Va (Vb (gw 3 Sc)))))
def Vf:Sv:=(sq (sif (tb (o2 eqD (cl 2 (Gn Gh) (ac (vr 0) (ac (cn (.int 4)) an))) (cn (.int 0))))
  (sret (o2 Jr (cl 2 (Gn Qa) (ac (vr 0) (ac (o2 Xk (cn (.int 10)) (cn (.int 50))) an))) (o2 Ui (cn (.int 1)) (o2 Jr (cn (.int 2)) (cl 2 (Gn Gh) (ac (vr 0) (ac (cn (.int 2)) an)))))))
  skip)
  (sret (o2 Ui (cl 2 (Gn Gh) (ac (vr 0) (ac (o2 Hg (vr 1) (cn (.int 4))) an))) (cn (.int 1)))))
def Hz:Fn:=fnB 2 Vf
theorem Gd3:FnS ["tape","most"] ["tape","most"] (Gj Wm):=kdF
abbrev z23:=Gj Wm
theorem Vt(Al:All P w K mg base):Cal P w K mg base "_law_edge" ["tape","most"] Hz 4:=by
 have Sc:=Gd3
 refine calw (b:=Vf) 3 Al.h.h__law_edge Al.g Sc rfl fun _ _ _ _ _ _ _ hr=>?_
 conv=>arg 3; whnf
 refine GSs.h ?_
 exact(Gg (Hj (Jj hr.units (gow z23 (Gf Al) hr (Ga (gw 0 Sc) (Ga ge_int Gc Gb) Ge)) ge_int)
  (Gm (Gs (Jb (gow z23 (Ka Al) hr (Ga (gw 0 Sc) (Ga (Wh ge_int ge_int) Gc Gu) Ge)) (Jl ge_int (Jb ge_int (gow z23 (Gf Al) hr (Ga (gw 0 Sc) (Ga ge_int Gc Gb) Ge)))))))
  Hb)
  (Gm (Gs (Jl (gow z23 (Gf Al) hr (Ga (gw 0 Sc) (Ga (Ha (gw 1 Sc) ge_int) Gc Gu) Ge)) ge_int))))
def Vg:Sv:=(sq (sa (cl 2 (Gn Wy) (ac (vr 0) (ac (cn (.int 3)) an))) (gn 2))
  (sq (sa (cl 2 (Gn Gh) (ac (vr 0) (ac (cn (.int 8)) an))) (gn 3))
  (sq (sif (tb (o2 eqD (vr 3) (cn (.int 0))))
  (sret (vr 2))
  skip)
  (sq (sa (ie (tb (o2 gtD (b1 Gz (ac (vr 1) an)) (cn (.int 0)))) (vr 1) (tp (ac (tp (ac (tp an) (ac (tp (ac (cn (.str "let")) (ac (cn (.int 0)) an))) an))) an))) (gn 1))
  (sq (sa (cl 2 (Gn Gh) (ac (vr 0) (ac (b1 Gz (ac (vr 1) an)) an))) (gn 4))
  (sq (sa (o2 getD (vr 1) (vr 4)) (gt (gcons (gn 5) (gcons (gn 6) gnil)) 2))
  (sq (sa (ie (tb (o2 gtD (b1 Gz (ac (vr 5) an)) (cn (.int 0)))) (vr 5) (tp (ac (tp (ac (cn (.str "most")) (ac (cn (.int 0)) (ac (cn (.int 9)) an)))) an))) (gn 5))
  (sq (sa (cl 2 (Gn Gh) (ac (vr 0) (ac (b1 Gz (ac (vr 5) an)) an))) (gn 7))
  (sq (sa (tp (ac (cl 3 (Gn Hl) (ac (vr 5) (ac (vr 7) (ac (cl 3 (Gn Hl) (ac (o2 getD (vr 5) (vr 7)) (ac (cl 2 (Gn Gh) (ac (vr 0) (ac (cn (.int 3)) an))) (ac (vr 2) an)))) an)))) (ac (vr 6) an))) (gn 8))
  (sq (sif (tb (o2 eqD (vr 3) (cn (.int 1))))
  (sa (vr 2) (gn 8))
  (sif (tb (o2 eqD (vr 3) (cn (.int 2))))
  (sa (tp (ac (vr 2) (ac (vr 6) an))) (gn 8))
  (sif (tb (o2 eqD (vr 3) (cn (.int 3))))
  (sa (tp (ac (vr 5) (ac (vr 2) an))) (gn 8))
  (sif (tb (o2 eqD (vr 3) (cn (.int 4))))
  (sa (tp (ac (vr 5) (ac (cl 3 (Gn Hl) (ac (vr 6) (ac (cl 2 (Gn Gh) (ac (vr 0) (ac (cn (.int 2)) an))) (ac (vr 2) an)))) an))) (gn 8))
  (sif (tb (o2 eqD (vr 3) (cn (.int 5))))
  (sa (tp (ac (cl 3 (Gn Hl) (ac (vr 5) (ac (vr 7) (ac (vr 2) an)))) (ac (vr 6) an))) (gn 8))
  skip)))))
  (sret (cl 3 (Gn Hl) (ac (vr 1) (ac (vr 4) (ac (vr 8) an)))))))))))))))
def Qt:Fn:=fnB 9 Vg
theorem Gd4:FnS ["tape","rule","what","way","at","asks","deed","k","row"] ["tape","rule"] (Gj Wn):=kdF
abbrev z24:=Gj Wn
theorem Gcp(Al:All P w K mg base):Cal P w K mg base "_law_else" ["tape","rule"] Qt 9:=by
 have Sc:=Gd4
 have T:=Al.t
 refine calw (b:=Vg) 8 Al.h.h__law_else Al.g Sc rfl fun _ _ _ _ _ _ _ hr=>?_
 conv=>arg 3; whnf
 refine GSs.h ?_
 exact(Gg (gsew 2 Sc (gow z24 (Gd0 Al) hr (Ga (gw 0 Sc) (Ga ge_int Gc Gb) Ge)))
  (Gg (gsew 3 Sc (gow z24 (Gf Al) hr (Ga (gw 0 Sc) (Ga ge_int Gc Gb) Ge)))
  (Gg (Hj (Jj hr.units (gw 3 Sc) ge_int)
  (Gm (Gs (gw 2 Sc)))
  Hb)
  (Gg (gsew 1 Sc (Qv (Wa (Hf (gG z24) T.b_len (Ga (gw 1 Sc) Gc Ge)) ge_int) (gw 1 Sc) (Go (Ga (Go (Ga (Go Gc) (Ga (Go (Ga Gi (Ga ge_int Gc Gb) Gb)) Gc Gk) Gk)) Gc Gk))))
  (Gg (gsew 4 Sc (gow z24 (Gf Al) hr (Ga (gw 0 Sc) (Ga (Hf (gG z24) T.b_len (Ga (gw 1 Sc) Gc Ge)) Gc Gv) Ge)))
  (Gg (Gaf (Gr (gw 1 Sc) (gw 4 Sc)) (Gae rfl (Jm (ggw 5 Sc) (Jm (ggw 6 Sc) Yf))))
  (Gg (gsew 5 Sc (Qv (Wa (Hf (gG z24) T.b_len (Ga (gw 5 Sc) Gc Ge)) ge_int) (gw 5 Sc) (Go (Ga (Go (Ga Gi (Ga ge_int (Ga ge_int Gc Gb) Gb) Gb)) Gc Gk))))
  (Gg (gsew 7 Sc (gow z24 (Gf Al) hr (Ga (gw 0 Sc) (Ga (Hf (gG z24) T.b_len (Ga (gw 5 Sc) Gc Ge)) Gc Gv) Ge)))
  (Gg (gsew 8 Sc (Go (Ga (gow z24 (Qd Al) hr (Ga (gw 5 Sc) (Ga (gw 7 Sc) (Ga (gow z24 (Qd Al) hr (Ga (Gr (gw 5 Sc) (gw 7 Sc)) (Ga (gow z24 (Gf Al) hr (Ga (gw 0 Sc) (Ga ge_int Gc Gb) Ge)) (Ga (gw 2 Sc) Gc Ge) Gv) Gp)) Gc Gv) Ge) Ge)) (Ga (gw 6 Sc) Gc Ge) Gv)))
  (Gg (Hj (Jj hr.units (gw 3 Sc) ge_int)
  (Gm (gsew 8 Sc (gw 2 Sc)))
  (Gm (Hj (Jj hr.units (gw 3 Sc) ge_int)
  (Gm (gsew 8 Sc (Go (Ga (gw 2 Sc) (Ga (gw 6 Sc) Gc Ge) Ge))))
  (Gm (Hj (Jj hr.units (gw 3 Sc) ge_int)
  (Gm (gsew 8 Sc (Go (Ga (gw 5 Sc) (Ga (gw 2 Sc) Gc Ge) Ge))))
  (Gm (Hj (Jj hr.units (gw 3 Sc) ge_int)
  (Gm (gsew 8 Sc (Go (Ga (gw 5 Sc) (Ga (gow z24 (Qd Al) hr (Ga (gw 6 Sc) (Ga (gow z24 (Gf Al) hr (Ga (gw 0 Sc) (Ga ge_int Gc Gb) Ge)) (Ga (gw 2 Sc) Gc Ge) Gv) Ge)) Gc Gv) Ge))))
  (Gm (Hj (Jj hr.units (gw 3 Sc) ge_int)
  (Gm (gsew 8 Sc (Go (Ga (gow z24 (Qd Al) hr (Ga (gw 5 Sc) (Ga (gw 7 Sc) (Ga (gw 2 Sc) Gc Ge) Ge) Ge)) (Ga (gw 6 Sc) Gc Ge) Gv))))
  Hb)))))))))
  (Gm (Gs (gow z24 (Qd Al) hr (Ga (gw 1 Sc) (Ga (gw 4 Sc) (Ga (gw 8 Sc) Gc Ge) Ge) Ge))))))))))))))
def Ke:Sv:=(sx (mt Yi (vr 6) (ac (tp (ac (cl 4 (Gn Jp) (ac (vr 4) (ac (cl 2 (Gn Gh) (ac (vr 0) (ac (o2 Hg (b1 Gbb (ac (b1 Gz (ac (vr 4) an)) (ac (cn (.int 3)) an))) (cn (.int 1))) an))) (ac (vr 9) (ac (cn (.int 4)) an))))) (ac (vr 5) an))) an)))
def Kf:Sv:=(sq (sa (o2 getD (ls (ac (cn (.str "least")) (ac (cn (.str "most")) (ac (cn (.str "right")) (ac (cn (.str "left")) an))))) (cl 2 (Gn Gh) (ac (vr 0) (ac (cn (.int 4)) an)))) (gn 8))
  (sq (sfor (isrc (ls (ac (o2 getD (cl 1 (Gn Qs) (ac (vr 3) an)) (cl 2 (Gn Gh) (ac (vr 0) (ac (cn (.int 24)) an)))) (ac (tp (ac (vr 8) (ac (cl 2 (Gn Hz) (ac (vr 0) (ac (vr 3) an))) (ac (cl 2 (Gn Hz) (ac (vr 0) (ac (cn (.int 9)) an))) an)))) an)))) (gn 9) Ke)
  (sq (sa (o2 getD (ls (ac (cn (.str "let")) (ac (cn (.str "right")) (ac (cn (.str "left")) (ac (cn (.str "feed")) an))))) (cl 2 (Gn Gh) (ac (vr 0) (ac (cn (.int 4)) an)))) (gn 8))
  (sa (o2 Hg (vr 6) (ls (ac (tp (ac (vr 4) (ac (o2 getD (cl 1 (Gn Qe) (ac (vr 3) an)) (cl 2 (Gn Gh) (ac (vr 0) (ac (cn (.int 24)) an)))) an))) (ac (tp (ac (vr 4) (ac (tp (ac (vr 8) (ac (cl 2 (Gn Hz) (ac (vr 0) (ac (vr 3) an))) an))) an))) an)))) (gn 6)))))
def Vu:Sv:=(sq (sa (o2 Ui (b1 Gz (ac (o2 getD (vr 1) (cn (.int 0))) an)) (cn (.int 1))) (gn 3))
  (sq (sa (tp (ac (tp an) (ac (tp (ac (cn (.str "let")) (ac (cn (.int 0)) an))) an))) (gt (gcons (gn 4) (gcons (gn 5) gnil)) 2))
  (sq (sif (tb (o2 gtD (b1 Gz (ac (vr 2) an)) (cn (.int 0))))
  (sa (o2 getD (vr 2) (cl 2 (Gn Gh) (ac (vr 0) (ac (b1 Gz (ac (vr 2) an)) an)))) (gt (gcons (gn 4) (gcons (gn 5) gnil)) 2))
  skip)
  (sq (sa (ls (ac (o2 getD (cl 2 (Gn Jt) (ac (vr 4) (ac (vr 5) an))) (cl 2 (Gn Gh) (ac (vr 0) (ac (cn (.int 11)) an)))) (ac (o2 getD (cl 2 (Gn Jt) (ac (vr 4) (ac (vr 5) an))) (cl 2 (Gn Gh) (ac (vr 0) (ac (cn (.int 11)) an)))) an))) (gn 6))
  (sq (sfor (ir1 (ac (cn (.int 2)) an)) (gn 7) Kf)
  (sq (sa (cmp (isrc (vr 6)) [none,some 2,some 0] (gn 0) ttrue (cl 4 (Gn Jp) (ac (vr 1) (ac (cl 2 (Gn Gh) (ac (vr 2) (ac (o2 Hg (b1 Gbb (ac (b1 Gz (ac (vr 1) an)) (ac (cn (.int 11)) an))) (cn (.int 1))) an))) (ac (vr 0) (ac (cn (.int 12)) an)))))) (gn 10))
  (sq (sa (o2 Hg (vr 10) (cmp (ir1 (ac (cn (.int 6)) an)) [none,some 0,some 2] (gn 0) ttrue (cl 2 (Gn Qt) (ac (vr 1) (ac (vr 2) an))))) (gn 10))
  (sq (sa (o2 Hg (vr 10) (ls (ac (vr 2) (ac (b1 Xe (ac (vr 2) an)) (ac (tp (ac (vr 2) an)) (ac (o2 Jr (tp (ac (tp (ac (vr 4) (ac (vr 5) an))) an)) (cn (.int 12))) (ac (o2 Jr (tp (ac (tp (ac (vr 4) (ac (vr 5) an))) an)) (cn (.int 13))) (ac (tp an) (ac (ls an) an))))))))) (gn 10))
  (sret (o2 Hg (vr 10) (ls (ac (o2 Hg (vr 2) (tp (ac (cn .non) an))) (ac (cn .non) (ac (cn (.bl true)) (ac (cn (.int 0)) (ac (cn (.str "")) (ac (cn (.str "let")) an)))))))))))))))))
def Qq:Fn:=fnB 11 Vu
theorem Gbt:FnS ["tape","canal","rule","last","asks","deed","rows","k","word","ask","things"] ["tape","canal","rule"] (Gj Up):=kdF
abbrev z25:=Gj Up
theorem Gaw(Al:All P w K mg base):Cal P w K mg base "_law_things" ["tape","canal","rule"] Qq 10:=by
 have Sc:=Gbt
 have T:=Al.t
 refine calw (b:=Vu) 9 Al.h.h__law_things Al.g Sc rfl fun _ _ _ _ _ _ _ hr=>?_
 conv=>arg 3; whnf
 refine GSs.h ?_
 exact(Gg (gsew 3 Sc (Jl (Hf (gG z25) T.b_len (Ga (Gr (gw 1 Sc) ge_int) Gc Gp)) ge_int))
  (Gg (Gaf (Go (Ga (Go Gc) (Ga (Go (Ga Gi (Ga ge_int Gc Gb) Gb)) Gc Gk) Gk)) (Gae rfl (Jm (ggw 4 Sc) (Jm (ggw 5 Sc) Yf))))
  (Gg (Hj (Wa (Hf (gG z25) T.b_len (Ga (gw 2 Sc) Gc Ge)) ge_int)
  (Gm (Gaf (Gr (gw 2 Sc) (gow z25 (Gf Al) hr (Ga (gw 0 Sc) (Ga (Hf (gG z25) T.b_len (Ga (gw 2 Sc) Gc Ge)) Gc Gv) Ge))) (Gae rfl (Jm (ggw 4 Sc) (Jm (ggw 5 Sc) Yf)))))
  Hb)
  (Gg (gsew 6 Sc (Gy (Ga (Gr (gow z25 (Ve Al) hr (Ga (gw 4 Sc) (Ga (gw 5 Sc) Gc Ge) Ge)) (gow z25 (Gf Al) hr (Ga (gw 0 Sc) (Ga ge_int Gc Gb) Ge))) (Ga (Gr (gow z25 (Ve Al) hr (Ga (gw 4 Sc) (Ga (gw 5 Sc) Gc Ge) Ge)) (gow z25 (Gf Al) hr (Ga (gw 0 Sc) (Ga ge_int Gc Gb) Ge))) Gc Gp) Gp)))
  (Gg (Uk PassesOwn.never rfl (He (gG z25) T.b_range (Ga ge_int Gc Gb)) (ggw 7 Sc)
  (Gg (gsew 8 Sc (Gr (Gy (Ga Gi (Ga Gi (Ga Gi (Ga Gi Gc Gb) Gb) Gb) Gb)) (gow z25 (Gf Al) hr (Ga (gw 0 Sc) (Ga ge_int Gc Gb) Ge))))
  (Gg (Uk PassesOwn.never rfl (Wi (Gy (Ga (Gr (gow z25 (Gcn Al) hr (Ga (gw 3 Sc) Gc Ge)) (gow z25 (Gf Al) hr (Ga (gw 0 Sc) (Ga ge_int Gc Gb) Ge))) (Ga (Go (Ga (gw 8 Sc) (Ga (gow z25 (Vt Al) hr (Ga (gw 0 Sc) (Ga (gw 3 Sc) Gc Ge) Ge)) (Ga (gow z25 (Vt Al) hr (Ga (gw 0 Sc) (Ga ge_int Gc Gb) Ge)) Gc Gv) Gv) Ge)) Gc Gk) Gp))) (ggw 9 Sc)
  (Gm (Qo (Uf (gw 6 Sc) (Ga (Go (Ga (gow z25 (Ym Al) hr (Ga (gw 4 Sc) (Ga (gow z25 (Gf Al) hr (Ga (gw 0 Sc) (Ga (Ha (Gi4 rfl (gG z25) T.b_min (Ga (Hf (gG z25) T.b_len (Ga (gw 4 Sc) Gc Ge)) (Ga ge_int Gc Gb) Gv)) ge_int) Gc Gu) Ge)) (Ga (gw 9 Sc) (Ga ge_int Gc Gb) Ge) Gv) Ge)) (Ga (gw 5 Sc) Gc Ge) Gv)) Gc Gk)))))
  (Gg (gsew 8 Sc (Gr (Gy (Ga Gi (Ga Gi (Ga Gi (Ga Gi Gc Gb) Gb) Gb) Gb)) (gow z25 (Gf Al) hr (Ga (gw 0 Sc) (Ga ge_int Gc Gb) Ge))))
  (Gm (gsew 6 Sc (Ha (gw 6 Sc) (Gy (Ga (Go (Ga (gw 4 Sc) (Ga (Gr (gow z25 (Gbs Al) hr (Ga (gw 3 Sc) Gc Ge)) (gow z25 (Gf Al) hr (Ga (gw 0 Sc) (Ga ge_int Gc Gb) Ge))) Gc Gp) Ge)) (Ga (Go (Ga (gw 4 Sc) (Ga (Go (Ga (gw 8 Sc) (Ga (gow z25 (Vt Al) hr (Ga (gw 0 Sc) (Ga (gw 3 Sc) Gc Ge) Ge)) Gc Gv) Ge)) Gc Gk) Ge)) Gc Gk) Gk)))))))))
  (Gg (Yj 10 (N':=["row","rule","tape"]) (pk:=[none,some 2,some 0]) Sc (Wi (gw 6 Sc)) (fun cl s2 H2 C fp=>(Kz 0)) (fun cl s2 H2 C fp=>Je) (fun cl s2 H2 C fp=>(Zj (Ym Al) hr (Ga (Hv 1) (Ga (Zj (Gf Al) hr (Ga (Hv 2) (Ga (Ha (Gi4 rfl Gnh T.b_min (Ga (Hf Gnh T.b_len (Ga (Hv 1) Gc Ge)) (Ga ge_int Gc Gb) Gv)) ge_int) Gc Gu) Ge)) (Ga (Hv 0) (Ga ge_int Gc Gb) Ge) Gv) Ge))))
  (Gg (gsew 10 Sc (Ha (gw 10 Sc) (Zi (N':=["k","tape","rule"]) (pk:=[none,some 0,some 2]) Sc (He (gG z25) T.b_range (Ga ge_int Gc Gb)) (fun cl s2 H2 C fp=>(Kz 0)) (fun cl s2 H2 C fp=>Je) (fun cl s2 H2 C fp=>(Zj (Gcp Al) hr (Ga (Hv 1) (Ga (Hv 2) Gc Ge) Ge))))))
  (Gg (gsew 10 Sc (Ha (gw 10 Sc) (Gy (Ga (gw 2 Sc) (Ga (Gds (gG z25) T.b_list (Ga (gw 2 Sc) Gc Ge)) (Ga (Go (Ga (gw 2 Sc) Gc Ge)) (Ga (Jb (Go (Ga (Go (Ga (gw 4 Sc) (Ga (gw 5 Sc) Gc Ge) Ge)) Gc Gk)) ge_int) (Ga (Jb (Go (Ga (Go (Ga (gw 4 Sc) (Ga (gw 5 Sc) Gc Ge) Ge)) Gc Gk)) ge_int) (Ga (Go Gc) (Ga (Gy Gc) Gc Yc) Gk) Gu) Gu) Gk) Gv) Ge))))
  (Gm (Gs (Ha (gw 10 Sc) (Gy (Ga (Ha (gw 2 Sc) (Go (Ga Jz Gc Gb))) (Ga Jz (Ga Jy (Ga ge_int (Ga Gi (Ga Gi Gc Gb) Gb) Gb) Gb) Gb) Gu)))))))))))))
def Xa:Sv:=(sret (va (o1 (isD "int") (vr 0)) (va (vn (o1 (isD "bool") (vr 0))) (va (o2 geD (vr 0) (cn (.int 0))) (o2 ltD (vr 0) (vr 1))))))
def Hx:Fn:=fnB 2 Xa
theorem Gcq:FnS ["thing","many"] ["thing","many"] (Gj Vq):=kdF
abbrev z26:=Gj Vq
theorem Qf(Al:All P w K mg base):Cal P w K mg base "_law_below" ["thing","many"] Hx 1:=by
 have Sc:=Gcq
 have T:=Al.t
 refine calw (b:=Xa) 0 Al.h.h__law_below Al.g Sc rfl fun _ _ _ _ _ _ _ hr=>?_
 conv=>arg 3; whnf
 refine GSs.h ?_
 exact(Gm (Gs (Jx (Kq (gG z26) (gG z26) Ggi T.b_isinstance T.b_int (gw 0 Sc)) (Jx (Gi3 (Kq (gG z26) (gG z26) Gbc T.b_isinstance T.b_bool (gw 0 Sc))) (Jx (Gsv (gw 0 Sc) ge_int) (Uj (Gnf (gw 0 Sc) (gw 1 Sc))))))))
def Jw:Sv:=(sq (sif (to (tn (tt (o1 (isD "tuple") (vr 1)))) (to (tb (o2 neD (b1 Gz (ac (vr 1) an)) (cn (.int 3)))) (tn (tt (o1 (isD "str") (o2 getD (vr 1) (cn (.int 0))))))))
  (sret (cn (.bl false)))
  skip)
  (sq (sif (tb (o2 Gqr (o2 getD (vr 1) (cn (.int 0))) (ls (ac (cn (.str "least")) (ac (cn (.str "most")) (ac (cn (.str "right")) (ac (cn (.str "left")) an)))))))
  (sret (cn (.bl false)))
  skip)
  (sret (va (cl 2 (Gn Hx) (ac (o2 getD (vr 1) (cn (.int 1))) (ac (b1 Gz (ac (o2 getD (vr 0) (cn (.int 0))) an)) an))) (cl 2 (Gn Hx) (ac (o2 getD (vr 1) (cn (.int 2))) (ac (cn (.int 10)) an)))))))
def Jk:Fn:=fnB 2 Jw
theorem Gbu:FnS ["canal","thing"] ["canal","thing"] (Gj Uq):=kdF
abbrev z27:=Gj Uq
theorem Gax(Al:All P w K mg base):Cal P w K mg base "_law_is_ask" ["canal","thing"] Jk 2:=by
 have Sc:=Gbu
 have T:=Al.t
 refine calw (b:=Jw) 1 Al.h.h__law_is_ask Al.g Sc rfl fun _ _ _ _ _ _ _ hr=>?_
 conv=>arg 3; whnf
 refine GSs.h ?_
 exact(Gg (Hj (GW.jt (Xn (Qw (Qi (Kq (gG z27) (gG z27) Ks T.b_isinstance T.b_tuple (gw 1 Sc)))) (Xn (Ger hr.units (Hf (gG z27) T.b_len (Ga (gw 1 Sc) Gc Ge)) ge_int) (Yu (Qw (Qi (Kq (gG z27) (gG z27) Ggj T.b_isinstance T.b_str (Gr (gw 1 Sc) ge_int))))))))
  (Gm (Gs Jy))
  Hb)
  (Gg (Hj (Gmb hr (Gr (gw 1 Sc) ge_int) (Gy (Ga Gi (Ga Gi (Ga Gi (Ga Gi Gc Gb) Gb) Gb) Gb)))
  (Gm (Gs Jy))
  Hb)
  (Gm (Gs (Jx (gow z27 (Qf Al) hr (Ga (Gr (gw 1 Sc) ge_int) (Ga (Hf (gG z27) T.b_len (Ga (Gr (gw 0 Sc) ge_int) Gc Gp)) Gc Gv) Gp)) (Uj (gow z27 (Qf Al) hr (Ga (Gr (gw 1 Sc) ge_int) (Ga ge_int Gc Gb) Gp))))))))
def Jd:Sv:=(sq (sif (to (tn (tt (o1 (isD "tuple") (vr 1)))) (to (tb (o2 neD (b1 Gz (ac (vr 1) an)) (cn (.int 2)))) (tn (tt (o1 (isD "str") (o2 getD (vr 1) (cn (.int 0))))))))
  (sret (cn (.bl false)))
  skip)
  (sq (sif (tb (o2 eqD (o2 getD (vr 1) (cn (.int 0))) (cn (.str "feed"))))
  (sret (cl 2 (Gn Hx) (ac (o2 getD (vr 1) (cn (.int 1))) (ac (b1 Gz (ac (o2 getD (vr 0) (cn (.int 0))) an)) an))))
  skip)
  (sret (va (o2 inP (o2 getD (vr 1) (cn (.int 0))) (ls (ac (cn (.str "let")) (ac (cn (.str "right")) (ac (cn (.str "left")) an))))) (cl 2 (Gn Hx) (ac (o2 getD (vr 1) (cn (.int 1))) (ac (b1 Gz (ac (o2 getD (vr 0) (cn (.int 1))) an)) an)))))))
def Qg:Fn:=fnB 2 Jd
theorem Gay:FnS ["canal","thing"] ["canal","thing"] (Gj Qx):=kdF
abbrev z28:=Gj Qx
theorem Gai(Al:All P w K mg base):Cal P w K mg base "_law_is_deed" ["canal","thing"] Qg 2:=by
 have Sc:=Gay
 have T:=Al.t
 refine calw (b:=Jd) 1 Al.h.h__law_is_deed Al.g Sc rfl fun _ _ _ _ _ _ _ hr=>?_
 conv=>arg 3; whnf
 refine GSs.h ?_
 exact(Gg (Hj (GW.jt (Xn (Qw (Qi (Kq (gG z28) (gG z28) Ks T.b_isinstance T.b_tuple (gw 1 Sc)))) (Xn (Ger hr.units (Hf (gG z28) T.b_len (Ga (gw 1 Sc) Gc Ge)) ge_int) (Yu (Qw (Qi (Kq (gG z28) (gG z28) Ggj T.b_isinstance T.b_str (Gr (gw 1 Sc) ge_int))))))))
  (Gm (Gs Jy))
  Hb)
  (Gg (Hj (Jj hr.units (Gr (gw 1 Sc) ge_int) Gi)
  (Gm (Gs (gow z28 (Qf Al) hr (Ga (Gr (gw 1 Sc) ge_int) (Ga (Hf (gG z28) T.b_len (Ga (Gr (gw 0 Sc) ge_int) Gc Gp)) Gc Gv) Gp))))
  Hb)
  (Gm (Gs (Jx (Gdu hr (Gr (gw 1 Sc) ge_int) (Gy (Ga Gi (Ga Gi (Ga Gi Gc Gb) Gb) Gb))) (Uj (gow z28 (Qf Al) hr (Ga (Gr (gw 1 Sc) ge_int) (Ga (Hf (gG z28) T.b_len (Ga (Gr (gw 0 Sc) ge_int) Gc Gp)) Gc Gv) Gp))))))))
def Ht:Sv:=(sq (sif (to (tn (tt (o1 (isD "tuple") (vr 2)))) (to (tb (o2 neD (b1 Gz (ac (vr 2) an)) (cn (.int 2)))) (to (tn (tt (o1 (isD "tuple") (o2 getD (vr 2) (cn (.int 0)))))) (tb (o2 gtD (b1 Gz (ac (o2 getD (vr 2) (cn (.int 0))) an)) (cn (.int 4)))))))
  (sret (cn (.bl false)))
  skip)
  (sif (to (tn (tt (b1 Gbd (ac (cmp (isrc (o2 getD (vr 2) (cn (.int 0)))) [none,some 0] (gn 0) ttrue (cl 2 (Gn Jk) (ac (vr 1) (ac (vr 0) an)))) an)))) (tn (tt (cl 2 (Gn Qg) (ac (vr 0) (ac (o2 getD (vr 2) (cn (.int 1))) an))))))
  (sret (cn (.bl false)))
  skip))
def Ux:Sv:=(sq (sif (to (tn (tt (o1 (isD "tuple") (vr 1)))) (tb (o2 gtD (b1 Gz (ac (vr 1) an)) (cn (.int 12)))))
  (sret (cn (.bl false)))
  skip)
  (sq (sfor (isrc (vr 1)) (gn 2) Ht)
  (sret (cn (.bl true)))))
def Xb:Fn:=fnB 3 Ux
theorem Gez:FnS ["canal","thing","row"] ["canal","thing"] (Gj Xt):=kdF
abbrev z29:=Gj Xt
theorem Gd5(Al:All P w K mg base):Cal P w K mg base "_law_due" ["canal","thing"] Xb 3:=by
 have Sc:=Gez
 have T:=Al.t
 refine calw (b:=Ux) 2 Al.h.h__law_due Al.g Sc rfl fun _ _ _ _ _ _ _ hr=>?_
 conv=>arg 3; whnf
 refine GSs.h ?_
 exact(Gg (Hj (GW.jt (Xn (Qw (Qi (Kq (gG z29) (gG z29) Ks T.b_isinstance T.b_tuple (gw 1 Sc)))) (Yu (Wa (Hf (gG z29) T.b_len (Ga (gw 1 Sc) Gc Ge)) ge_int))))
  (Gm (Gs Jy))
  Hb)
  (Gg (Uk PassesOwn.never rfl (Wi (gw 1 Sc)) (ggw 2 Sc)
  (Gg (Hj (GW.jt (Xn (Qw (Qi (Kq (gG z29) (gG z29) Ks T.b_isinstance T.b_tuple (gw 2 Sc)))) (Xn (Ger hr.units (Hf (gG z29) T.b_len (Ga (gw 2 Sc) Gc Ge)) ge_int) (Xn (Qw (Qi (Kq (gG z29) (gG z29) Ks T.b_isinstance T.b_tuple (Gr (gw 2 Sc) ge_int)))) (Yu (Wa (Hf (gG z29) T.b_len (Ga (Gr (gw 2 Sc) ge_int) Gc Gp)) ge_int))))))
  (Gm (Gs Jy))
  Hb)
  (Gm (Hj (GW.jt (Xn (Qw (Qi (Gf1 rfl (gG z29) T.b_all (Ga (Zi (N':=["ask","canal"]) (pk:=[none,some 0]) Sc (Wi (Gr (gw 2 Sc) ge_int)) (fun cl s2 H2 C fp=>(Kz 0)) (fun cl s2 H2 C fp=>Je) (fun cl s2 H2 C fp=>(Zj (Gax Al) hr (Ga (Hv 1) (Ga (Hv 0) Gc Ge) Ge)))) Gc Jo)))) (Yu (Qw (Qi (gow z29 (Gai Al) hr (Ga (gw 0 Sc) (Ga (Gr (gw 2 Sc) ge_int) Gc Gp) Ge)))))))
  (Gm (Gs Jy))
  Hb))))
  (Gm (Gs Jy))))
def Gbv:Sv:=(sq (sa (cl 2 (Gn Yh) (ac (vr 2) (ac (vr 5) an))) (gn 6))
  (sif (to (tn (tt (o1 (isD "bool") (vr 6)))) (tb (o2 neD (vr 6) (cl 2 (Gn Xb) (ac (vr 2) (ac (vr 5) an))))))
  (sret (cn (.bl false)))
  skip))
def Gjb:Sv:=(sq (sa (cl 1 (Gn Xw) (ac (vr 0) an)) (gn 1))
  (sq (sa (cl 1 (Gn Ud) (ac (vr 1) an)) (gn 2))
  (sq (sa (cl 3 (Gn Qq) (ac (vr 1) (ac (vr 2) (ac (cl 3 (Gn Vc) (ac (vr 1) (ac (vr 2) (ac (cn (.int 12)) an)))) an)))) (gn 3))
  (sq (sa (b1 Zg (ac (vr 3) an)) (gn 4))
  (sq (sfor (isrc (vr 3)) (gn 5) Gbv)
  (sret (o2 eqD (b1 Zg (ac (vr 3) an)) (vr 4))))))))
def Gbw:Fn:=fnB 7 Gjb
theorem Gqs:FnS ["script","tape","canal","things","before","thing","found"] ["script"] (Gj Gbi):=kdF
abbrev z30:=Gj Gbi
theorem Gmc(Al:All P w K mg base){f:Addr}{fd:FuncData}(F:Fun K "law" "law" Gbi f fd):FnOk P w K mg base CX0 11 f fd ["script"] (spD K 1 Gbw):=by
 have Sc:=Gqs
 have T:=Al.t
 refine Gm4 (b:=Gjb) F Sc.s fun cdv A outer s H E hr=>?_
 conv=>arg 3; whnf
 refine GSs.h ?_
 exact(Gg (gsew 1 Sc (gow z30 (Gcj Al) hr (Ga (gw 0 Sc) Gc Ge)))
  (Gg (gsew 2 Sc (gow z30 (Gbl Al) hr (Ga (gw 1 Sc) Gc Ge)))
  (Gg (gsew 3 Sc (gow z30 (Gaw Al) hr (Ga (gw 1 Sc) (Ga (gw 2 Sc) (Ga (gow z30 (Gcm Al) hr (Ga (gw 1 Sc) (Ga (gw 2 Sc) (Ga ge_int Gc Gb) Ge) Ge)) Gc Gv) Ge) Ge)))
  (Gg (gsew 4 Sc (Ggn hr (gG z30) T.b_repr (Ga (gw 3 Sc) Gc Ge)))
  (Gg (Uk PassesOwn.never rfl (Wi (gw 3 Sc)) (ggw 5 Sc)
  (Gg (gsew 6 Sc (gow z30 (Gex Al) hr (Ga (gw 2 Sc) (Ga (gw 5 Sc) Gc Ge) Ge)))
  (Gm (Hj (GW.jt (Xn (Qw (Qi (Kq (gG z30) (gG z30) Gbc T.b_isinstance T.b_bool (gw 6 Sc)))) (Yu (Ger hr.units (gw 6 Sc) (gow z30 (Gd5 Al) hr (Ga (gw 2 Sc) (Ga (gw 5 Sc) Gc Ge) Ge))))))
  (Gm (Gs Jy))
  Hb))))
  (Gm (Gs (Ggm hr.units (Ggn hr (gG z30) T.b_repr (Ga (gw 3 Sc) Gc Ge)) (gw 4 Sc)))))))))
end
theorem Gqt{l:PySem.W.OpenLaw}{w:World}{K:PySem.W.Frag}{h:Heap}{mg:Str->Option Value}{fa:Addr}(X:K.In h)(G:h.Ns mainGlobals mg)(hfa:mg "law"=some (.ref fa))(HS:Hs K)
  {kp_ASK_WORDS:Addr} {kt0_ASK_WORDS kt1_ASK_WORDS kt2_ASK_WORDS kt3_ASK_WORDS:Tok} {kn_ASK_WORDS:Nat} {ks_ASK_WORDS:Array (Option Value)} (ka_ASK_WORDS:PySem.W.nsIn K mainGlobals "ASK_WORDS"=some (some (.ref kp_ASK_WORDS))) (kl_ASK_WORDS:K.lookup kp_ASK_WORDS=some { cls:=.type "tuple",dict:=none,data:=.seq #[.str "least" kt0_ASK_WORDS,.str "most" kt1_ASK_WORDS,.str "right" kt2_ASK_WORDS,.str "left" kt3_ASK_WORDS] kn_ASK_WORDS,slots:=ks_ASK_WORDS })
  {kt_MOST_ASKED:Tok} (ka_MOST_ASKED:PySem.W.nsIn K mainGlobals "MOST_ASKED"=some (some (.int 9 kt_MOST_ASKED)))
  {kt_MOST_ASKS:Tok} (ka_MOST_ASKS:PySem.W.nsIn K mainGlobals "MOST_ASKS"=some (some (.int 4 kt_MOST_ASKS)))
  {kt_MOST_ROWS:Tok} (ka_MOST_ROWS:PySem.W.nsIn K mainGlobals "MOST_ROWS"=some (some (.int 12 kt_MOST_ROWS)))
  {kp_WORDS:Addr} {kt0_WORDS kt1_WORDS kt2_WORDS kt3_WORDS:Tok} {kn_WORDS:Nat} {ks_WORDS:Array (Option Value)} (ka_WORDS:PySem.W.nsIn K mainGlobals "WORDS"=some (some (.ref kp_WORDS))) (kl_WORDS:K.lookup kp_WORDS=some { cls:=.type "tuple",dict:=none,data:=.seq #[.str "let" kt0_WORDS,.str "feed" kt1_WORDS,.str "right" kt2_WORDS,.str "left" kt3_WORDS] kn_WORDS,slots:=ks_WORDS })
  : ∃ fd:FuncData,(∀ (s:Shared) (v:Value),BindsTo s fd ⟨[v],[]⟩ [("script",v)])/\∀ base:Heap,K.In base->base.Ns mainGlobals mg->FnOk l.prog w K mg base CX0 11 fa fd ["script"] (spD K 1 Gbw):=by
 obtain⟨_,_,_,_,_,_,_,_,_,k_law,c_law,l_law⟩:=HS.h_law.fnx X G hfa
 have F:=Gfr (st:=Gbi) l_law c_law k_law
 have T:Txt K mg:=⟨PySem.W.mg_none_of X G HS.z_all,PySem.W.mg_none_of X G HS.z_bool,PySem.W.mg_none_of X G HS.z_int,PySem.W.mg_none_of X G HS.z_isinstance,PySem.W.mg_none_of X G HS.z_len,PySem.W.mg_none_of X G HS.z_list,PySem.W.mg_none_of X G HS.z_min,PySem.W.mg_none_of X G HS.z_range,PySem.W.mg_none_of X G HS.z_repr,PySem.W.mg_none_of X G HS.z_str,PySem.W.mg_none_of X G HS.z_tuple,Ggp X G ka_ASK_WORDS kl_ASK_WORDS,Gdt X G ka_MOST_ASKED,Gdt X G ka_MOST_ASKS,Gdt X G ka_MOST_ROWS,Ggp X G ka_WORDS kl_WORDS⟩
 exact⟨_,fun s v=>.of_eq rfl,fun base _ _=>Gmc ⟨HS,⟨h,X,G⟩,T⟩ F⟩
end Law
namespace WM
def stp(b l d:Int):Int:=min b (l+d)
def F(b:Int)(ds:List Int)(x:Int):Int:=ds.foldl (stp b) x
def AP(ds:List Int)(x:Int):Prop:=∀ j,1<=j->j<=ds.length->0<=x+(ds.take j).sum
inductive R where
 | dry (k:Nat) | lev (l:Int)
def R.bind(o:R)(g:Int->R):R:=match o with
 | .dry k=>.dry k
 | .lev l=>g l
def wl(b:Int):List Int->Nat->Int->R
 | [],_,x=>.lev x
 | d::r,k,x=>if stp b x d<0 then .dry k else wl b r (k+1) (stp b x d)
def most(b:Int)(ds:List Int):Int:=F b ds.tail b
def start(ds:List Int)(mn:Int):Int:=max 0 (-mn)
structure IsMin(ds:List Int)(mn:Int):Prop where
 le:∀ j,1<=j->j<=ds.length->mn<=(ds.take j).sum
 at':∃ j,1<=j/\j<=ds.length/\mn=(ds.take j).sum
end WM
namespace DL
open PySem PySem.Spec PyProof.Rows L2
variable{d:D}{f g fa:Ev D}{k:Nat}
section
variable{ρ:Lc}{S:Sto}{α β:Type}
@[simp] theorem Hi{a:α}{g:α->Sto->Out β}:(Out.ok a S).bind g=g a S:=id rfl
@[simp] theorem Gsx{g:α->Sto->Out β}:(Out.bad:Out α).bind g=.bad:=id rfl
@[simp] theorem Qu{a:α}{g:α->Sto->OS}:bindS (Out.ok a S) ρ g=g a S:=id rfl
@[simp] theorem Grf{g:α->Sto->OS}:bindS (Out.bad:Out α) ρ g=.bad:=id rfl
@[simp] theorem Ya{i:Nat}:vr i ρ S=match ρ[i]? with
 | some (some d)=>.ok d S
 | _=>.bad:=id rfl
@[simp] theorem Gjc:cn d ρ S=.ok d S:=id rfl
@[simp] theorem Gbx:an ρ S=.ok [] S:=id rfl
@[simp] theorem Yn{g:Ev (List D)}:ac f g ρ S=(f ρ S).bind fun x S1=>(g ρ S1).bind fun xs S2=>.ok (x::xs) S2:=id rfl
@[simp] theorem Gc4{o:D->D->Sto->Out D}{fb:Ev D}:o2 o fa fb ρ S=(fa ρ S).bind fun x S1=>(fb ρ S1).bind fun y S2=>o x y S2:=id rfl
@[simp] theorem Gul{o:D->Sto->Out D}:o1 o fa ρ S=(fa ρ S).bind fun x S1=>o x S1:=id rfl
@[simp] theorem Gni{o:List D->Sto->Out D}{f:Ev (List D)}:b1 o f ρ S=(f ρ S).bind o:=id rfl
@[simp] theorem Gjd{n:Nat}{fn:Fn}{t:Ev (List D)}:cl n fn t ρ S=(t ρ S).bind fun ds S1=>if ds.length=n then fn ds S1 else .bad:=id rfl
@[simp] theorem Gby{fn:Fn}{ds:List D}:Gn fn ds S=match fn ds S with
 | .ok d S'=>.ok d S'
 | _=>.bad:=id rfl
@[simp] theorem Gum:tb f ρ S=(f ρ S).bind fun x S1=>match x with
 | .bl b=>.ok b S1
 | _=>.bad:=id rfl
@[simp] theorem Gje:tt f ρ S=(f ρ S).bind fun x S1=>match Kg x S1 with
 | some b=>.ok b S1
 | none=>.bad:=id rfl
@[simp] theorem Gjf{f:Ev Bool}:tn f ρ S=(f ρ S).bind fun b S1=>.ok (!b) S1:=id rfl
@[simp] theorem Gun{f g:Ev Bool}:ta f g ρ S=(f ρ S).bind fun b S1=>if b=true then g ρ S1 else .ok false S1:=id rfl
@[simp] theorem Gjg{f g:Ev Bool}:to f g ρ S=(f ρ S).bind fun b S1=>if b=true then .ok true S1 else g ρ S1:=id rfl
@[simp] theorem Guo:va f g ρ S=(f ρ S).bind fun x S1=>match x with
 | .bl b=>if b=true then g ρ S1 else .ok (.bl false) S1
 | _=>.bad:=id rfl
@[simp] theorem Gup:vo f g ρ S=(f ρ S).bind fun x S1=>match x with
 | .bl b=>if b=true then .ok (.bl true) S1 else g ρ S1
 | _=>.bad:=id rfl
@[simp] theorem Guq:vn f ρ S=(f ρ S).bind fun x S1=>match x with
 | .bl b=>.ok (.bl (!b)) S1
 | _=>.bad:=id rfl
@[simp] theorem Gur{c:Ev Bool}:ie c f g ρ S=(c ρ S).bind fun b S1=>if b=true then f ρ S1 else g ρ S1:=id rfl
@[simp] theorem Gjh{f:Ev (List D)}:tp f ρ S=(f ρ S).bind fun xs S1=>if xs.length<=1000000 then .ok (.tup xs) S1 else .bad:=id rfl
@[simp] theorem Gnj{f:Ev (List D)}:ls f ρ S=(f ρ S).bind fun xs S1=>if xs.length<=1000000 then .ok (.lst S1.length) (S1++[⟨false,xs⟩]) else .bad:=id rfl
@[simp] theorem Gqu{fe:Ev D}{fl fh:Ev (Option Int)}:sl2 fe fl fh ρ S=(fe ρ S).bind fun x S1=>(fl ρ S1).bind fun l S2=>(fh ρ S2).bind fun u S3=>Gdr x l u S3:=id rfl
@[simp] theorem Gji:onone ρ S=.ok none S:=id rfl
@[simp] theorem Gjj:osome f ρ S=(f ρ S).bind fun x S1=>match x with
 | .int i=>.ok (some i) S1
 | _=>.bad:=id rfl
@[simp] theorem Gsy{o:D->List D->Sto->Out D}{fo:Ev D}{f:Ev (List D)}:mt o fo f ρ S=(fo ρ S).bind fun x S1=>if isLst x S1=true then(f ρ S1).bind fun xs S2=>o x xs S2 else .bad:=id rfl
@[simp] theorem Gus{o o':D->D->Sto->Out D}{fb fc:Ev D}:ch o o' fa fb fc ρ S=(fa ρ S).bind fun x S1=>(fb ρ S1).bind fun y S2=>(o x y S2).bind fun z S3=>match z with
 | .bl b=>if b=true then(fc ρ S3).bind fun w S4=>o' y w S4 else .ok (.bl false) S3
 | _=>.bad:=id rfl
@[simp] theorem Gbz{f g:Sv}:sq f g ρ S=match f ρ S with
 | .nx ρ' S'=>g ρ' S'
 | .rt d S'=>.rt d S'
 | .bk ρ' S'=>.bk ρ' S'
 | .ct ρ' S'=>.ct ρ' S'
 | .exc x ρ' S'=>.exc x ρ' S'
 | .bad=>.bad:=id rfl
@[simp] theorem Qh{g:Tg}:sa f g ρ S=bindS (f ρ S) ρ fun d S1=>match g d ρ with
 | some ρ'=>.nx ρ' S1
 | none=>.bad:=id rfl
@[simp] theorem Gsz{i:Nat}:gn i d ρ=some (ρ.set i (some d)):=id rfl
@[simp] theorem Vh:sret f ρ S=bindS (f ρ S) ρ fun d S1=>.rt d S1:=id rfl
@[simp] theorem Gjk{c:Ev Bool}{f g:Sv}:sif c f g ρ S=bindS (c ρ S) ρ fun b S1=>if b=true then f ρ S1 else g ρ S1:=id rfl
@[simp] theorem Gs0:sx f ρ S=bindS (f ρ S) ρ fun _ S1=>.nx ρ S1:=id rfl
@[simp] theorem Gtc:skip ρ S=.nx ρ S:=id rfl
@[simp] theorem Gut{fo fi:Ev D}{o:D->D->D->Sto->Option Sto}:ss f fo fi o ρ S=bindS (f ρ S) ρ fun d S1=>bindS (fo ρ S1) ρ fun x S2=>bindS (fi ρ S2) ρ fun y S3=>match o x y d S3 with
 | some S4=>.nx ρ S4
 | none=>.bad:=id rfl
@[simp] theorem Gt8{i:Nat}{g:Int->Int->Int}:sag i g f ρ S=match ρ[i]? with
 | some (some (.int a))=>bindS (f ρ S) ρ fun d S1=>match d with
  | .int b=>.nx (ρ.set i (some (.int (g a b)))) S1
  | _=>.bad
 | _=>.bad:=id rfl
@[simp] theorem Ggq:isrc f ρ S=(f ρ S).bind Gc1:=id rfl
@[simp] theorem Vi{f:Ev Src}{g:Tg}{b:Sv}:sfor f g b ρ S=bindS (f ρ S) ρ fun s S1=>Vk s.nxt g b s.fuel 0 ρ S1:=id rfl
section
variable{i j:Int}
@[simp] theorem Gqv:Hg (.int i) (.int j) S=.ok (.int (i+j)) S:=id rfl
@[simp] theorem Gqw:Ui (.int i) (.int j) S=.ok (.int (i-j)) S:=id rfl
@[simp] theorem Guu:Ghh (.int i) S=.ok (.int (-i)) S:=id rfl
theorem Gb0(h1 : -(2^64)<j)(h2:j<2^64):Jr (.int i) (.int j) S=.ok (.int (i*j)) S:=by
 show(if(-(2^64)<i/\i<2^64)\/(-(2^64)<j/\j<2^64) then Out.ok (D.int (i*j)) S else .bad)=_
 rw[if_pos (.inr ⟨h1,h2⟩)]
theorem Gjl(h1 : -(2^64)<i)(h2:i<2^64):Jr (.int i) (.int j) S=.ok (.int (i*j)) S:=by
 show(if(-(2^64)<i/\i<2^64)\/(-(2^64)<j/\j<2^64) then Out.ok (D.int (i*j)) S else .bad)=_
 rw[if_pos (.inl ⟨h1,h2⟩)]
theorem Yz(h:0<j):Wg (.int i) (.int j) S=.ok (.int (i%j)) S:=by
 show(if decide (0<j)=true then Out.ok (D.int (i%j)) S else .bad)=_
 rw[if_pos (by simpa using h)]
theorem Gjm(h:0<j)(h2:j<2^200):Gc2 (.int i) (.int j) S=.ok (.int (i / j)) S:=by
 show(if decide (0<j/\j<2^200)=true then Out.ok (D.int (i / j)) S else .bad)=_
 rw[if_pos (decide_eq_true ⟨h,h2⟩)]
theorem Gb1{n:Nat}(h:(n:Int)<=1000000)(h2:i.natAbs<2^64):Xk (.int i) (.int n) S=.ok (.int (i^n)) S:=by
 show(if decide (0<=(n:Int)/\(n:Int)<=1000000/\i.natAbs<2^64)=true then Out.ok (D.int (i^(n:Int).toNat)) S else .bad)=_
 rw[if_pos (decide_eq_true ⟨by omega,h,h2⟩)]
 rfl
@[simp] theorem Guv:Xk (.int 10) (.int 6) S=.ok (.int 1000000) S:=Gb1 (n:=6) (by decide) (by decide)
@[simp] theorem Gt9:Xk (.int 10) (.int 15) S=.ok (.int 1000000000000000) S:=Gb1 (n:=15) (by decide) (by decide)
@[simp] theorem Gua:Xk (.int 10) (.int 18) S=.ok (.int 1000000000000000000) S:=Gb1 (n:=18) (by decide) (by decide)
@[simp] theorem Guw:ltD (.int i) (.int j) S=.ok (.bl (decide (i<j))) S:=id rfl
@[simp] theorem Gux:leD (.int i) (.int j) S=.ok (.bl (decide (i<=j))) S:=id rfl
@[simp] theorem Guy:gtD (.int i) (.int j) S=.ok (.bl (decide (j<i))) S:=id rfl
@[simp] theorem Guz:geD (.int i) (.int j) S=.ok (.bl (decide (j<=i))) S:=id rfl
@[simp] theorem Gub:Gbb [.int i,.int j] S=.ok (.int (min i j)) S:=by
 show Out.ok (D.int (if j<i then j else i)) S=_
 congr 2
 omega
@[simp] theorem Guc:Gt2 [.int i,.int j] S=.ok (.int (max i j)) S:=by
 show Out.ok (D.int (if j>i then j else i)) S=_
 congr 2
 omega
@[simp] theorem Gu0:eqD (.int i) (.int j) S=.ok (.bl (decide (i=j))) S:=by
 simp only[eqD,toP]
 simp[SeqAt.shaped,PyData.eqv]
 rfl
@[simp] theorem Gu1:neD (.int i) (.int j) S=.ok (.bl (!decide (i=j))) S:=by
 simp only[neD,toP]
 simp[SeqAt.shaped,PyData.eqv]
 rfl
theorem Gjn{x y:Str}(hx:PyData.strOk x=true)(hy:PyData.strOk y=true):eqD (.str x) (.str y) S=.ok (.bl (x==y)) S:=by
 simp only[eqD,toP]
 simp[SeqAt.shaped,PyData.eqv,PyData.canLay0,PyData.depth,hx,hy]
end
@[simp] theorem Gu2{l:List D}:Gz [.tup l] S=.ok (.int l.length) S:=id rfl
theorem Gjo{c:Cell}(h:S[k]?=some c):Gz [.lst k] S=.ok (.int c.xs.length) S:=by
 show(match S[k]? with | some c=>Out.ok (D.int c.xs.length) S | none=>.bad)=_
 rw[h]
theorem Uc{c:Cell}{i:Int}(h:S[k]?=some c)(e:atI c.xs i=some d):getD (.lst k) (.int i) S=.ok d S:=by
 show(match S[k]? with | some c=>(match atI c.xs i with | some d=>Out.ok d S | none=>.bad) | none=>.bad)=_
 rw[h]
 show(match atI c.xs i with | some d=>Out.ok d S | none=>.bad)=_
 rw[e]
theorem Gap{l:List D}{i:Int}(e:atI l i=some d):getD (.tup l) (.int i) S=.ok d S:=by
 show(match atI l i with | some d=>Out.ok d S | none=>.bad)=_
 rw[e]
theorem Kr{α:Type}{l:List α}{i:Int}{d:α}(h0:0<=i)(e:l[i.toNat]?=some d):atI l i=some d:=by
 unfold atI ixN
 have:i.toNat<l.length:=(List.getElem?_eq_some_iff.mp e).1
 rw[if_pos h0,if_pos (by omega)]
 exact e
theorem Gjp{xs:List D}{i:Int}(h:S[k]?=some ⟨false,xs⟩)(h0:0<=i)(h1:i<xs.length):Ys (.lst k) (.int i) d S=some (S.set k ⟨false,xs.set i.toNat d⟩):=by
 show(match S[k]? with | some c=>(match ixN c.xs.length i with | some j=>if c.fz=false then some (S.set k ⟨false,c.xs.set j d⟩) else none | none=>none) | none=>none)=_
 rw[h]
 show(match ixN xs.length i with | some j=>if false=false then some (S.set k ⟨false,xs.set j d⟩) else none | none=>none)=_
 unfold ixN
 rw[if_pos h0,if_pos h1]
 rfl
@[simp] theorem Gu3{l:List Int}:Gt1 [.tup (l.map D.int)] S=.ok (.int l.sum) S:=by
 have:∀ l:List Int,Gbf (l.map D.int)=some l:=fun l=>by
  induction l with
  | nil=>rfl
  | cons a r ih=>show(Gbf (r.map D.int)).map (a::·)=_; rw[ih]; rfl
 show(match (some (l.map D.int)).bind Gbf with | some ns=>Out.ok (D.int ns.sum) S | none=>.bad)=_
 rw[Option.bind_some,this]
end
end DL
namespace Law
open PySem PySem.Spec PyProof.Rows L2 DL
variable{c:Cell}{t m b k j n q a n':Nat}{S S1 S2 S' S0:Sto}{ds xs l:List D}{d x cd:D}{ρ ρ':Lc}{f g:Sv}{p:D->Prop}{hi:Option Int}{ns:List Int}{fz:Bool}{x6 x8 x10:Option D}{pk:List (Option Nat)}{α:Type}{w:Str}{ws:List Str}
theorem Ge0{c t:Int}:∃ r,Js [.int c,.int t] S=.ok (.int r) S:=by
 have sqr:∀ x:Int,Jr (.int (x%2147483647)) (.int (x%2147483647)) S=.ok (.int (x%2147483647*(x%2147483647))) S:=fun x=>Gb0 (by omega) (by omega)
 simp[Js,fnB,Ws,Yz,Gb0,Gjl,Gjm,sqr]
def Gd6:Sv:=sif (ta (tb (o2 eqD (o2 DL.getD (vr 0) (cn (.int 1))) (cn (.int 0)))) (tb (o2 gtD (b1 Gz (ac (o2 DL.getD (vr 0) (cn (.int 0))) an)) (cn (.int 0)))))
  (sq (sa (mt Geq (o2 DL.getD (vr 0) (cn (.int 0))) (ac (cn (.int 0)) an)) (gn 2))
  (sq (sif (tb (o2 ltD (vr 2) (o2 Xk (cn (.int 10)) (cn (.int 18)))))
  (sret (o2 Wg (cl 2 (Gn Js) (ac (vr 2) (ac (o2 DL.getD (vr 0) (cn (.int 3))) an))) (vr 1)))
  DL.skip)
  (ss (vr 2) (vr 0) (cn (.int 1)) Ys)))
  DL.skip
def Gho:Sv:=(sq (sif (tb (o2 gtD (o2 DL.getD (vr 0) (cn (.int 1))) (cn (.int 0))))
  (sq (sa (o2 Wg (o2 DL.getD (vr 0) (cn (.int 1))) (vr 1)) (gn 3))
  (sq (ss (o2 Gc2 (o2 DL.getD (vr 0) (cn (.int 1))) (vr 1)) (vr 0) (cn (.int 1)) Ys)
  (sret (vr 3))))
  DL.skip)
  (sret (o2 Wg (cl 2 (Gn Js) (ac (o2 DL.getD (vr 0) (cn (.int 2))) (ac (o2 DL.getD (vr 0) (cn (.int 3))) an))) (vr 1))))
def fin(o:OS):Out D:=match o with
 | .rt d S'=>.ok d S'
 | .nx _ S'=>.ok .non S'
 | .exc x _ S'=>.exc x S'
 | _=>.bad
theorem Hm{b:Sv}:fnB m b ds S=fin (b (ds.map some++List.replicate (m-ds.length) none) S):=rfl
@[simp] theorem Gjq:fin (.rt d S)=.ok d S:=rfl
structure Tp(S:Sto)(t k:Nat):Prop where
 ex:∃ (a sd n:Int) (xs:List Int),S[t]?=some ⟨false,[.lst k,.int a,.int sd,.int n]⟩/\S[k]?=some ⟨false,xs.map D.int⟩
 ne:t≠k
structure Sm(S S':Sto)(t k:Nat):Prop where
 len:S'.length=S.length
 get:∀ i,i≠t->i≠k->S'[i]?=S[i]?
theorem Sm.refl:Sm S S t k:=⟨rfl,fun _ _ _=>rfl⟩
theorem Sm.trans(a:Sm S S1 t k)(b:Sm S1 S2 t k):Sm S S2 t k:=⟨b.len.trans a.len,fun i h1 h2=>(b.get i h1 h2).trans (a.get i h1 h2)⟩
theorem Sm.set(h:j=t\/j=k):Sm S (S.set j c) t k:=⟨by simp,fun i h1 h2=>by
 rw[List.getElem?_set_ne]
 rcases h with h | h
 ·rw[h]; exact Ne.symm h1
 ·rw[h]; exact Ne.symm h2⟩
theorem Ga3{m:Int}(h:Tp S t k)(hm:0<m)(hm2:m<2^200):∃ r S',Gh [.lst t,.int m] S=.ok (.int r) S'/\0<=r/\r<m/\Tp S' t k/\Sm S S' t k:=by
 obtain⟨⟨a,sd,n,xs,e1,e2⟩,ne⟩:=h
 have lt:t<S.length:=(List.getElem?_eq_some_iff.mp e1).1
 have lk:k<S.length:=(List.getElem?_eq_some_iff.mp e2).1
 have g3:getD (.lst t) (.int 3) S=.ok (.int n) S:=Uc e1 rfl
 have s3:Ys (.lst t) (.int 3) (.int (n+1)) S=some (S.set t ⟨false,[.lst k,.int a,.int sd,.int (n+1)]⟩):=Gjp e1 (by decide) (by simp)
 have e1':(S.set t ⟨false,[.lst k,.int a,.int sd,.int (n+1)]⟩)[t]?=some ⟨false,[.lst k,.int a,.int sd,.int (n+1)]⟩:=List.getElem?_set_self lt
 have e2':(S.set t ⟨false,[.lst k,.int a,.int sd,.int (n+1)]⟩)[k]?=some ⟨false,xs.map D.int⟩:=by rw[List.getElem?_set_ne ne]; exact e2
 have sm1:Sm S (S.set t ⟨false,[.lst k,.int a,.int sd,.int (n+1)]⟩) t k:=Sm.set (.inl rfl)
 generalize hS1:S.set t ⟨false,[.lst k,.int a,.int sd,.int (n+1)]⟩=S1 at *
 have lt':t<S1.length:=(List.getElem?_eq_some_iff.mp e1').1
 have lk':k<S1.length:=(List.getElem?_eq_some_iff.mp e2').1
 have g0:getD (.lst t) (.int 0) S1=.ok (.lst k) S1:=Uc e1' rfl
 have g1:getD (.lst t) (.int 1) S1=.ok (.int a) S1:=Uc e1' rfl
 have g2:getD (.lst t) (.int 2) S1=.ok (.int sd) S1:=Uc e1' rfl
 have g3':getD (.lst t) (.int 3) S1=.ok (.int (n+1)) S1:=Uc e1' rfl
 have ln:Gz [.lst k] S1=.ok (.int xs.length) S1:=by rw[Gjo e2']; simp
 have rest:∀ (S2:Sto) (a2:Int) (q:Option D),S2[t]?=some ⟨false,[.lst k,.int a2,.int sd,.int (n+1)]⟩->(∃ ys:List Int,S2[k]?=some ⟨false,ys.map D.int⟩)->Sm S S2 t k->∃ r S',fin (Gho [some (.lst t),some (.int m),q,none] S2)=.ok (.int r) S'/\0<=r/\r<m/\Tp S' t k/\Sm S S' t k:=by
  intro S2 a2 q h1 h2 sm
  have h0:DL.getD (.lst t) (.int 1) S2=.ok (.int a2) S2:=Uc h1 rfl
  have h02:DL.getD (.lst t) (.int 2) S2=.ok (.int sd) S2:=Uc h1 rfl
  have h03:DL.getD (.lst t) (.int 3) S2=.ok (.int (n+1)) S2:=Uc h1 rfl
  have hs:∀ d,Ys (.lst t) (.int 1) d S2=some (S2.set t ⟨false,[.lst k,d,.int sd,.int (n+1)]⟩):=fun d=>Gjp h1 (by decide) (by simp)
  have lt2:t<S2.length:=(List.getElem?_eq_some_iff.mp h1).1
  by_cases c:0<a2
  ·refine⟨a2%m,S2.set t ⟨false,[.lst k,.int (a2 / m),.int sd,.int (n+1)]⟩,?_,Int.emod_nonneg _ (by omega),Int.emod_lt_of_pos _ hm,⟨?_,ne⟩,sm.trans (Sm.set (.inl rfl))⟩
   ·simp[Gho,h0,c,Yz hm,Gjm hm hm2,hs]
   ·obtain⟨ys,h2⟩:=h2
    exact⟨_,_,_,ys,List.getElem?_set_self lt2,by rw[List.getElem?_set_ne ne]; exact h2⟩
  ·obtain⟨r,hr⟩:=Ge0 (c:=sd) (t:=n+1) (S:=S2)
   refine⟨r%m,S2,?_,Int.emod_nonneg _ (by omega),Int.emod_lt_of_pos _ hm,⟨?_,ne⟩,sm⟩
   ·simp[Gho,h0,h02,h03,c,hr,Yz hm]
   ·obtain⟨ys,h2⟩:=h2
    exact⟨_,_,_,ys,h1,h2⟩
 show ∃ r S',fnB 4 (sq (ss (o2 Hg (o2 DL.getD (vr 0) (cn (.int 3))) (cn (.int 1))) (vr 0) (cn (.int 3)) Ys) (sq Gd6 Gho)) [.lst t,.int m] S=.ok (.int r) S'/\_
 rw[Hm,Gbz]
 have st1:ss (o2 Hg (o2 DL.getD (vr 0) (cn (.int 3))) (cn (.int 1))) (vr 0) (cn (.int 3)) Ys ([D.lst t,D.int m].map some++List.replicate (4-[D.lst t,D.int m].length) none) S=.nx [some (.lst t),some (.int m),none,none] S1:=by
  simp[g3,s3]
 rw[st1]
 by_cases c:a=0/\0<xs.length
 ·obtain⟨c1,c2⟩:=c
  cases xs with
  | nil=>simp at c2
  | cons x ys=>
   have pp:Geq (.lst k) [.int 0] S1=.ok (.int x) (S1.set k ⟨false,ys.map D.int⟩):=by
    simp only[Geq,e2']
    simp
   have il:isLst (.lst k) S1=true:=by simp only[isLst,e2']
   have q1:(S1.set k ⟨false,ys.map D.int⟩)[t]?=some ⟨false,[.lst k,.int a,.int sd,.int (n+1)]⟩:=by rw[List.getElem?_set_ne (Ne.symm ne)]; exact e1'
   have q2:(S1.set k ⟨false,ys.map D.int⟩)[k]?=some ⟨false,ys.map D.int⟩:=List.getElem?_set_self lk'
   have sm2:Sm S (S1.set k ⟨false,ys.map D.int⟩) t k:=sm1.trans (Sm.set (.inr rfl))
   generalize hS2:S1.set k ⟨false,ys.map D.int⟩=S2 at *
   have g3'':DL.getD (.lst t) (.int 3) S2=.ok (.int (n+1)) S2:=Uc q1 rfl
   by_cases c3:x<1000000000000000000
   ·obtain⟨r,hr⟩:=Ge0 (c:=x) (t:=n+1) (S:=S2)
    refine⟨r%m,S2,?_,Int.emod_nonneg _ (by omega),Int.emod_lt_of_pos _ hm,⟨⟨_,_,_,ys,q1,q2⟩,ne⟩,sm2⟩
    simp[Gd6,g0,g1,c1,ln,il,pp,c3,g3'',hr,Yz hm]
   ·have lt2:t<S2.length:=(List.getElem?_eq_some_iff.mp q1).1
    have hs:Ys (.lst t) (.int 1) (.int x) S2=some (S2.set t ⟨false,[.lst k,.int x,.int sd,.int (n+1)]⟩):=Gjp q1 (by decide) (by simp)
    obtain⟨r,S',h1,h2,h3,h4,h5⟩:=rest (S2.set t ⟨false,[.lst k,.int x,.int sd,.int (n+1)]⟩) x (some (.int x)) (List.getElem?_set_self lt2) ⟨ys,by rw[List.getElem?_set_ne ne]; exact q2⟩ (sm2.trans (Sm.set (.inl rfl)))
    refine⟨r,S',?_,h2,h3,h4,h5⟩
    rw[<- h1]
    have st2:Gd6 [some (.lst t),some (.int m),none,none] S1=.nx [some (.lst t),some (.int m),some (.int x),none] (S2.set t ⟨false,[.lst k,.int x,.int sd,.int (n+1)]⟩):=by
     simp[Gd6,g0,g1,c1,ln,il,pp,c3,hs]
    show fin (sq Gd6 Gho [some (.lst t),some (.int m),none,none] S1)=_
    rw[Gbz,st2]
 ·obtain⟨r,S',h1,h2,h3,h4,h5⟩:=rest S1 a none e1' ⟨xs,e2'⟩ sm1
  refine⟨r,S',?_,h2,h3,h4,h5⟩
  rw[<- h1]
  have st2:Gd6 [some (.lst t),some (.int m),none,none] S1=.nx [some (.lst t),some (.int m),none,none] S1:=by
   by_cases ca:a=0
   ·have:¬ 0<xs.length:=fun z=>c ⟨ca,z⟩
    simp[Gd6,g0,g1,ca,ln,this]
   ·simp[Gd6,g1,ca]
  show fin (sq Gd6 Gho [some (.lst t),some (.int m),none,none] S1)=_
  rw[Gbz,st2]
theorem Gjr{c:Ev Bool}{b:Sv}:whN c b (n+1) ρ S=bindS (c ρ S) ρ fun t S1=>if t=true then(match b ρ S1 with
    | .nx ρ2 S2=>whN c b n ρ2 S2
    | .ct ρ2 S2=>whN c b n ρ2 S2
    | .bk ρ2 S2=>.nx ρ2 S2
    | .rt d S2=>.rt d S2
    | .exc x ρ2 S2=>.exc x ρ2 S2
    | .bad=>.bad) else .nx ρ S1:=rfl
theorem Tp.app(h:Tp S t k):Tp (S++[c]) t k:=by
 obtain⟨⟨a,sd,n,xs,e1,e2⟩,ne⟩:=h
 have lt:t<S.length:=(List.getElem?_eq_some_iff.mp e1).1
 have lk:k<S.length:=(List.getElem?_eq_some_iff.mp e2).1
 exact⟨⟨a,sd,n,xs,by rw[List.getElem?_append_left lt]; exact e1,by rw[List.getElem?_append_left lk]; exact e2⟩,ne⟩
theorem Tp.lt(h:Tp S t k):t<S.length/\k<S.length:=by
 obtain⟨⟨a,sd,n,xs,e1,e2⟩,ne⟩:=h
 exact⟨(List.getElem?_eq_some_iff.mp e1).1,(List.getElem?_eq_some_iff.mp e2).1⟩
theorem Tp.set(h:Tp S t k)(h1:q≠t)(h2:q≠k):Tp (S.set q c) t k:=by
 obtain⟨⟨a,sd,n,xs,e1,e2⟩,ne⟩:=h
 exact⟨⟨a,sd,n,xs,by rw[List.getElem?_set_ne h1]; exact e1,by rw[List.getElem?_set_ne h2]; exact e2⟩,ne⟩
theorem Gb2{t k:Nat}{m:Int}:∀ (n j:Nat) (S:Sto) (fnd sz:Int),Tp S t k->0<sz->m<=sz*1000000^n->n<j→
  ∃ f' z' S',whN Km Qy j [some (.lst t),some (.int m),some (.int fnd),some (.int sz)] S=.nx [some (.lst t),some (.int m),some (.int f'),some (.int z')] S'/\Tp S' t k/\Sm S S' t k
 | n,0,S,fnd,sz,_,_,_,h=>absurd h (Nat.not_lt_zero _)
 | n,j+1,S,fnd,sz,h,h0,hm,hj=>by
  rw[Gjr]
  by_cases c:sz<m
  ·cases n with
   | zero=>simp at hm; omega
   | succ n=>
    obtain⟨r,S1,e,_,_,t1,s1⟩:=Ga3 (m:=1000000) h (by decide) (by decide)
    obtain⟨f',z',S2,e2,t2,s2⟩:=Gb2 n j S1 (fnd*1000000+r) (sz*1000000) t1 (by omega) (by rw[Int.pow_succ] at hm; rw[Int.mul_assoc,Int.mul_comm 1000000]; exact hm) (by omega)
    refine⟨f',z',S2,?_,t2,s1.trans s2⟩
    rw[<- e2]
    simp[Km,c,Qy,Gb0,e]
  ·exact⟨fnd,sz,S,by simp[Km,c],h,.refl⟩
theorem Ge1{m:Int}(h:Tp S t k)(hm:0<m)(hm2:m<2^200):∃ r S',Qa [.lst t,.int m] S=.ok (.int r) S'/\0<=r/\r<m/\Tp S' t k/\Sm S S' t k:=by
 obtain⟨f',z',S',e,t1,s1⟩:=Gb2 (m:=m) 40 1000 S 0 1 h (by decide) (by have:(2:Int)^200<=1*1000000^40:=(by decide); omega) (by decide)
 refine⟨f'%m,S',?_,Int.emod_nonneg _ (by omega),Int.emod_lt_of_pos _ hm,t1,s1⟩
 simp[Qa,fnB,Wt,e,Yz hm]
structure Kp(S S':Sto)(t k:Nat):Prop where
 len:S.length<=S'.length
 get:∀ i,i<S.length->i≠t->i≠k->S'[i]?=S[i]?
theorem Kp.refl:Kp S S t k:=⟨Nat.le_refl _,fun _ _ _ _=>rfl⟩
theorem Kp.trans(a:Kp S S1 t k)(b:Kp S1 S2 t k):Kp S S2 t k:=⟨Nat.le_trans a.len b.len,fun i h h1 h2=>(b.get i (Nat.lt_of_lt_of_le h a.len) h1 h2).trans (a.get i h h1 h2)⟩
theorem Kp.app:Kp S (S++[c]) t k:=⟨by simp,fun i h _ _=>by rw[List.getElem?_append_left h]⟩
theorem Kp.at(a:Kp S S' t k)(e:S[q]?=some c)(h1:q≠t)(h2:q≠k):S'[q]?=some c:=(a.get q (List.getElem?_eq_some_iff.mp e).1 h1 h2).trans e
theorem Hc:(S++[c])[S.length]?=some c:=by rw[List.getElem?_append_right (Nat.le_refl _)]; simp
theorem Zp{d:Cell}(e:S[q]?=some d):(S++[c])[q]?=some d:=by
 rw[List.getElem?_append_left (List.getElem?_eq_some_iff.mp e).1]; exact e
theorem Gw(h:f ρ S=.nx ρ' S'):fin (sq f g ρ S)=fin (g ρ' S'):=by rw[Gbz,h]
theorem Ga4(h:f ρ S=.rt d S'):fin (sq f g ρ S)=.ok d S':=by rw[Gbz,h]; rfl
theorem Sm.kp(s:Sm S S' t k):Kp S S' t k:=⟨Nat.le_of_eq s.len.symm,fun i _ h1 h2=>s.get i h1 h2⟩
theorem draw{m:Int}(h:Tp S t k)(hm:0<m)(hm2:m<2^200):∃ r S',Gh [.lst t,.int m] S=.ok (.int r) S'/\0<=r/\r<m/\Tp S' t k/\Kp S S' t k:=by
 obtain⟨r,S',e,a,b,c,d⟩:=Ga3 h hm hm2
 exact⟨r,S',e,a,b,c,d.kp⟩
theorem pick{r:Int}(s:Kp (S++[⟨false,xs⟩]) S1 t k)(h:t<S.length/\k<S.length)(e:atI xs r=some x):DL.getD (.lst S.length) (.int r) S1=.ok x S1:=
 Uc (c:=⟨false,xs⟩) (s.at Hc (by omega) (by omega)) e
theorem Ue{m:Int}(h:Tp S t k)(hm:m=xs.length)(h0:0<xs.length)(h1:xs.length<1000):∃ r x S1,Gh [.lst t,.int m] (S++[⟨false,xs⟩])=.ok (.int r) S1/\DL.getD (.lst S.length) (.int r) S1=.ok x S1/\x∈xs/\Tp S1 t k/\Kp S S1 t k:=by
 obtain⟨r,S1,e1,r0,r1,d1,k1⟩:=draw (m:=m) (h.app (c:=⟨false,xs⟩)) (by omega) (by omega)
 have hlt:r.toNat<xs.length:=by omega
 have ea:atI xs r=some xs[r.toNat]:=Kr r0 (by simp[hlt])
 exact⟨r,_,S1,e1,pick k1 h.lt ea,List.getElem_mem hlt,d1,Kp.app.trans k1⟩
inductive Pl where
 | e | c | p (br de ro:Int) (pr:D)
def Pl.toD:Pl->D
 | .e=>.tup [.str "end"]
 | .c=>.tup [.str "chamber"]
 | .p br de ro pr=>.tup [.str "pound",.int br,.int de,.int ro,pr]
def Pl.ok:Pl->Prop
 | .p br de ro pr=>1<=br/\br<=9/\0<=de/\de<=br/\1<=ro/\ro<=4/\(pr=.non\/∃ i,pr=.int i/\0<=i/\i<=99)
 | _=>True
theorem Gc5(e:S[q]?=some ⟨false,xs⟩)(h:xs.length<1000000):Yi (.lst q) [d] S=.ok .non (S.set q ⟨false,xs++[d]⟩):=by
 simp only[Yi,e]
 simp[h]
theorem isL(e:S[q]?=some c):isLst (.lst q) S=true:=by simp only[isLst,e]
theorem Jf{nxt:Nat->Sto->Option D}{g:Tg}{b:Sv}{l:List D}(I:Nat->Lc->Sto->Prop)(hn:∀ k ρ S,I k ρ S->nxt k S=l[k]?)(hs:∀ k d ρ S,l[k]?=some d->I k ρ S->∃ ρ1 ρ2 S2,g d ρ=some ρ1/\b ρ1 S=.nx ρ2 S2/\I (k+1) ρ2 S2):
  ∀ (n k:Nat) (ρ:Lc) (S:Sto),k<=l.length->I k ρ S->l.length<n+k->∃ ρ' S',Vk nxt g b n k ρ S=.nx ρ' S'/\I l.length ρ' S'
 | 0,k,ρ,S,h1,_,h2=>by omega
 | n+1,k,ρ,S,h1,hI,h2=>by
  unfold Vk
  rw[hn k ρ S hI]
  cases z:l[k]? with
  | none=>
   have:k=l.length:=by have:=List.getElem?_eq_none_iff.mp z; omega
   subst this
   exact⟨ρ,S,rfl,hI⟩
  | some d=>
   obtain⟨ρ1,ρ2,S2,h3,h4,h5⟩:=hs k d ρ S z hI
   have hk:k<l.length:=(List.getElem?_eq_some_iff.mp z).1
   obtain⟨ρ',S',h6,h7⟩:=Jf I hn hs n (k+1) ρ2 S2 hk h5 (by omega)
   refine⟨ρ',S',?_,h7⟩
   simp only[h3,h4]
   exact h6
def Gf5(l:List D):Src:=⟨fun k _=>l[k]?,l.length+1⟩
def Zc(i n:Nat):Src:=⟨fun k S=>(S[i]?).bind fun c=>c.xs[k]?,n+1⟩
theorem Ge2{i:Nat}(e:S[i]?=some c):Gc1 (.lst i) S=.ok (Zc i c.xs.length) S:=by
 simp only[Gc1,e]
 rfl
theorem Gnk:l.length<(Gf5 l).fuel+0:=Nat.lt_succ_self _
theorem Kn:(rsrc 0 n).nxt k S=((List.range n).map fun k:Nat=>D.int (k:Int))[k]?:=by
 show(if k<n then some (D.int (0+k)) else none)=_
 rw[List.getElem?_map]
 by_cases c:k<n
 ·rw[if_pos c,List.getElem?_range c]; simp
 ·rw[if_neg c,List.getElem?_eq_none (by simp; omega)]; rfl
theorem Uy(h:((List.range n).map fun k:Nat=>D.int (k:Int))[k]?=some d):k<n/\d=.int k:=by
 have hk:k<n:=by have:=(List.getElem?_eq_some_iff.mp h).1; simpa using this
 rw[List.getElem?_map,List.getElem?_range hk] at h
 exact⟨hk,(Option.some.inj h).symm⟩
theorem Ub{f:Ev (List D)}(h:f ρ S=.ok [.int n] S')(hn:n<=1000000):ir1 f ρ S=.ok (rsrc 0 n) S':=by
 unfold ir1
 rw[h]
 show(if -1000000000000<=(n:Int)/\(n:Int)<=1000000000000 then Out.ok (rsrc 0 (n:Int).toNat) S' else .bad)=_
 rw[if_pos (by omega)]; rfl
theorem Kp.setq(a:Kp S0 S t k)(h:S0.length<=q):Kp S0 (S.set q c) t k:=⟨by simp; exact a.len,fun i hi h1 h2=>by
 rw[List.getElem?_set_ne (by omega)]; exact a.get i hi h1 h2⟩
theorem Kp.appq(a:Kp S0 S t k):Kp S0 (S++[c]) t k:=a.trans Kp.app
theorem Yb{i:Nat}{a b:List D}(h1:S[i]?=some ⟨false,a⟩)(h2:S[j]?=some ⟨false,b⟩)(h:a.length+b.length<=1000000):Hg (.lst i) (.lst j) S=.ok (.lst S.length) (S++[⟨false,a++b⟩]):=by
 simp only[Hg,h1,h2]
 simp[h]
theorem Gc6(e:S[q]?=some c):Gad [.lst q] S=.ok (.tup c.xs) S:=by
 simp only[Gad,e]
def Pl.isC:Pl->Bool
 | .c=>true
 | _=>false
def Pl.isE:Pl->Bool
 | .e=>true
 | _=>false
theorem stok(s:String):PyData.strOk (Str.ofString s)=true:=by
 unfold PyData.strOk
 have hc:∀ c:Char,c.toNat<1114112:=fun c=>by
  rcases c.valid with h | ⟨_,h⟩
  ·exact Nat.lt_of_lt_of_le h (by decide)
  ·exact h
 rw[Str.ofString_eq_toList]
 simp[hc]
theorem Gmd{p:Pl}(h:p.ok):eqD p.toD (.tup [.str "chamber"]) S=.ok (.bl p.isC) S:=by
 have n1:(Str.ofString "end"==Str.ofString "chamber")=false:=by decide +kernel
 have n2:(Str.ofString "pound"==Str.ofString "chamber")=false:=by decide +kernel
 cases p with
 | e=>simp[Pl.toD,eqD,toP,Hq,SeqAt.shaped,PyData.canLay0,PyData.canLayAll0,PyData.depth,PyData.depthAll,stok,PyData.eqv,PyData.eqvAll,n1,Pl.isC]
 | c=>simp[Pl.toD,eqD,toP,Hq,SeqAt.shaped,PyData.canLay0,PyData.canLayAll0,PyData.depth,PyData.depthAll,stok,PyData.eqv,PyData.eqvAll,Pl.isC]
 | p br de ro pr=>
  obtain⟨_,_,_,_,_,_,h⟩:=h
  rcases h with rfl | ⟨i,rfl,_⟩
  ·simp[Pl.toD,eqD,toP,Hq,SeqAt.shaped,PyData.canLay0,PyData.canLayAll0,PyData.depth,PyData.depthAll,stok,PyData.eqv,PyData.eqvAll,n2,Pl.isC]
  ·simp[Pl.toD,eqD,toP,Hq,SeqAt.shaped,PyData.canLay0,PyData.canLayAll0,PyData.depth,PyData.depthAll,stok,PyData.eqv,PyData.eqvAll,n2,Pl.isC]
theorem Gqx{l:List Int}(h:(l.map D.int)[k]?=some d):∃ i,d=.int i/\l[k]?=some i:=by
 rw[List.getElem?_map] at h
 cases z:l[k]? with
 | none=>rw[z] at h; cases h
 | some i=>rw[z] at h; cases h; exact⟨i,rfl,rfl⟩
theorem Gqy{lo:Option Int}(e:S[q]?=some c):Gdr (.lst q) lo hi S=.ok (.lst S.length) (S++[⟨false,DL.Vx c.xs lo hi⟩]):=by
 simp only[Gdr,e]
theorem Gqz(e:S[q]?=some c):Xe [.lst q] S=.ok (.lst S.length) (S++[⟨false,c.xs⟩]):=by
 simp only[Xe,e]
theorem Gme{lo:Option Int}:∃ ys:List Int,DL.Vx (ns.map D.int) lo hi=ys.map D.int:=
 ⟨(ns.drop (HT.sIx (ns.map D.int).length 0 lo)).take (HT.sIx (ns.map D.int).length (ns.map D.int).length hi-HT.sIx (ns.map D.int).length 0 lo),by unfold DL.Vx; rw[List.map_take,List.map_drop]⟩
theorem Gmf(e:S[q]?=some ⟨fz,ns.map D.int⟩):∃ (t k:Nat) (S':Sto),Xw [.lst q] S=.ok (.lst t) S'/\Tp S' t k:=by
 obtain⟨ys,hy⟩:=Gme (ns:=ns) (lo:=none) (hi:=some 63)
 have s1:Gdr (.lst q) none (some 63) S=.ok (.lst S.length) (S++[⟨false,ys.map D.int⟩]):=by rw[Gqy e,hy]
 have q1:(S++[⟨false,ys.map D.int⟩])[S.length]?=some (⟨false,ys.map D.int⟩:Cell):=Hc
 have e1:=Zp (c:=⟨false,ys.map D.int⟩) e
 generalize hS1:S++[⟨false,ys.map D.int⟩]=S1 at *
 have hsrc:Gc1 (.lst S.length) S1=.ok (Zc S.length (ys.map D.int).length) S1:=Ge2 q1
 obtain⟨ρ',S',ef,sd,g,e2,e3⟩:=Jf (nxt:=(Zc S.length (ys.map D.int).length).nxt) (g:=gn 2) (b:=Uv) (l:=ys.map D.int) (fun k ρ S'=>∃ sd g,ρ=[some (.lst q),some (.int sd),g]/\S'=S1)
  (fun k ρ S2 ⟨_,_,_,h⟩=>by
   subst h
   show(S2[S.length]?).bind (fun c=>c.xs[k]?)=_
   rw[q1]; rfl) (fun k d ρ S2 hd ⟨sd,g,h1,h2⟩=>by
   obtain⟨i,rfl,_⟩:=Gqx hd
   subst h1 h2
   exact⟨_,[some (.lst q),some (.int ((sd*69621+i)%2147483647)),some (.int i)],_,rfl,by simp[Uv,Gb0,Yz],_,_,rfl,rfl⟩) (Zc S.length (ys.map D.int).length).fuel 0 [some (.lst q),some (.int 0),none] S1 (Nat.zero_le _) ⟨0,none,rfl,rfl⟩ (Nat.lt_succ_self _)
 subst e2 e3
 have s2:Gdr (.lst q) none (some 63) S'=.ok (.lst S'.length) (S'++[⟨false,ys.map D.int⟩]):=by rw[Gqy e1,hy]
 have q2:(S'++[⟨false,ys.map D.int⟩])[S'.length]?=some (⟨false,ys.map D.int⟩:Cell):=Hc
 generalize hS2:S'++[⟨false,ys.map D.int⟩]=S2 at *
 have s3:=Gqz q2
 have q3:(S2++[⟨false,ys.map D.int⟩])[S2.length]?=some (⟨false,ys.map D.int⟩:Cell):=Hc
 have l3:(S2++[(⟨false,ys.map D.int⟩:Cell)]).length=S2.length+1:=by simp
 have s3:Xe [.lst S'.length] S2=.ok (.lst S2.length) (S2++[⟨false,ys.map D.int⟩]):=s3
 generalize hS3:S2++[⟨false,ys.map D.int⟩]=S3 at *
 refine⟨S3.length,S2.length,S3++[⟨false,[.lst S2.length,.int 0,.int sd,.int 0]⟩],?_,⟨⟨0,sd,0,ys,Hc,Zp q3⟩,by omega⟩⟩
 refine(Hm (m:=3) (b:=Qr)).trans ?_
 show fin (Qr [some (.lst q),none,none] S)=_
 unfold Qr
 refine(Gw (ρ':=[some (.lst q),some (.int 0),none]) (S':=S) (by simp)).trans ?_
 refine(Gw (ρ':=[some (.lst q),some (.int sd),g]) (S':=S') ?_).trans ?_
 ·simp[s1,hsrc,-List.length_map]
  exact ef
 ·simp[s2,s3]
theorem Gc7{c:Ev Bool}(h:c ρ S=.ok true S1):sif c f g ρ S=f ρ S1:=by
 rw[Gjk,h,Qu,if_pos rfl]
theorem Ge3{c:Ev Bool}(h:c ρ S=.ok false S1):sif c f g ρ S=g ρ S1:=by
 rw[Gjk,h,Qu,if_neg (by decide)]
theorem Ku(h:f ρ S=.nx ρ' S1):sq f g ρ S=g ρ' S1:=by rw[Gbz,h]
theorem Ge4{many:Int}{ps:List Pl}{i:Nat}{x4 x5 x7:Option D}(hd:Tp S t k)(hk:Kp S0 S t k)(hq:S0.length<=q)(hqt:q≠t)(hqk:q≠k)(eq':S[q]?=some ⟨false,ps.map Pl.toD⟩)(hp:∀ p∈ps,p.ok)(hne:ps≠[])(hl:ps.length<1000):
  ∃ p S' y4 y5 y6 y7,Kd [some (.lst t),some (.int many),some (.lst q),some (.int i),x4,x5,x6,x7] S=.nx [some (.lst t),some (.int many),some (.lst q),some (.int i),y4,y5,y6,y7] S'/\Pl.ok p/\p.isE=false/\S'[q]?=some ⟨false,(ps++[p]).map Pl.toD⟩/\Tp S' t k/\Kp S0 S' t k:=by
 have hlast:DL.getD (.lst q) (.int (-1)) S=.ok (Pl.toD (ps.getLast hne)) S:=by
  refine Uc eq' ?_
  have:0<ps.length:=List.length_pos_iff.mpr hne
  show(ixN (ps.map Pl.toD).length (-1)).bind (fun j=>(ps.map Pl.toD)[j]?)=_
  unfold ixN
  rw[if_neg (by decide),if_pos (by simp; omega),Option.bind_some]
  have:((-1:Int)+((ps.map Pl.toD).length:Nat)).toNat=ps.length-1:=by simp; omega
  rw[this,List.getElem?_map,List.getElem?_eq_getElem (by omega),List.getLast_eq_getElem]
  rfl
 have ec:=Gmd (S:=S) (hp _ (List.getLast_mem hne))
 obtain⟨b,S1,et,d1,k1⟩:∃ (b:Bool) (S1:Sto),ta (tb (o2 eqD (o2 DL.getD (vr 2) (o1 Ghh (cn (.int 1)))) (tp (ac (cn (.str "chamber")) an)))) (ta (tb (o2 ltD (vr 3) (o2 Ui (vr 1) (cn (.int 1))))) (tb (o2 gtD (cl 2 (Gn Gh) (ac (vr 0) (ac (cn (.int 3)) an))) (cn (.int 0))))) [some (.lst t),some (.int many),some (.lst q),some (.int i),x4,x5,x6,x7] S=.ok b S1/\Tp S1 t k/\Kp S S1 t k:=by
  cases c1:(ps.getLast hne).isC with
  | false=>rw[c1] at ec; exact⟨false,S,by simp[hlast,ec],hd,.refl⟩
  | true=>
   rw[c1] at ec
   by_cases c2:(i:Int)<many-1
   ·obtain⟨r,S1,e1,r0,r1,d1,k1⟩:=draw (m:=3) hd (by decide) (by decide)
    exact⟨decide (0<r),S1,by simp[hlast,ec,c2,e1],d1,k1⟩
   ·exact⟨false,S,by simp[hlast,ec,c2],hd,.refl⟩
 have q1:=k1.at eq' hqt hqk
 unfold Kd
 cases b with
 | false=>
  rw[Ge3 et]
  have ap:=Gc5 (d:=.tup [.str "chamber"]) q1 (by simp; omega)
  have lq:q<S1.length:=(List.getElem?_eq_some_iff.mp q1).1
  refine⟨.c,S1.set q ⟨false,ps.map Pl.toD++[.tup [.str "chamber"]]⟩,x4,x5,x6,x7,by simp[isL q1,ap],trivial,rfl,?_,d1.set hqt hqk,(hk.trans k1).setq hq⟩
  rw[List.getElem?_set_self lq,List.map_append]; rfl
 | true=>
  rw[Gc7 et]
  obtain⟨a,S2,e2,a0,a1,d2,k2⟩:=draw (m:=9) d1 (by decide) (by decide)
  obtain⟨b,S3,e3,b0,b1,d3,k3⟩:=draw (m:=1+a+1) d2 (by omega) (by omega)
  obtain⟨c,S4,e4,c0,c1,d4,k4⟩:=draw (m:=4) d3 (by decide) (by decide)
  obtain⟨e,S5,e5,p0,p1,d5,k5⟩:=draw (m:=134) d4 (by decide) (by decide)
  have q5:=(((k2.trans k3).trans k4).trans k5).at q1 hqt hqk
  have lq:q<S5.length:=(List.getElem?_eq_some_iff.mp q5).1
  obtain⟨pr,epr,hpr⟩:∃ pr:D,ie (tb (o2 ltD (vr 7) (cn (.int 100)))) (vr 7) (cn .non) [some (.lst t),some (.int many),some (.lst q),some (.int i),some (.int (1+a)),some (.int b),some (.int (1+c)),some (.int e)] S5=.ok pr S5/\(pr=.non\/∃ i:Int,pr=.int i/\0<=i/\i<=99):=by
   by_cases h:e<100
   ·exact⟨.int e,by simp[h],.inr ⟨e,rfl,p0,by omega⟩⟩
   ·exact⟨.non,by simp[h],.inl rfl⟩
  have ap:=Gc5 (d:=Pl.toD (.p (1+a) b (1+c) pr)) q5 (by simp; omega)
  refine⟨.p (1+a) b (1+c) pr,S5.set q ⟨false,ps.map Pl.toD++[Pl.toD (.p (1+a) b (1+c) pr)]⟩,some (.int (1+a)),some (.int b),some (.int (1+c)),some (.int e),?_,⟨by omega,by omega,b0,by omega,by omega,by omega,hpr⟩,rfl,?_,d5.set hqt hqk,((((( hk.trans k1).trans k2).trans k3).trans k4).trans k5).setq hq⟩
  ·rw[Ku (ρ':=[some (.lst t),some (.int many),some (.lst q),some (.int i),some (.int (1+a)),x5,x6,x7]) (S1:=S2) (by simp[e2])]
   rw[Ku (ρ':=[some (.lst t),some (.int many),some (.lst q),some (.int i),some (.int (1+a)),some (.int b),x6,x7]) (S1:=S3) (by simp[e3])]
   rw[Ku (ρ':=[some (.lst t),some (.int many),some (.lst q),some (.int i),some (.int (1+a)),some (.int b),some (.int (1+c)),x7]) (S1:=S4) (by simp[e4])]
   rw[Ku (ρ':=[some (.lst t),some (.int many),some (.lst q),some (.int i),some (.int (1+a)),some (.int b),some (.int (1+c)),some (.int e)]) (S1:=S5) (by simp[e5])]
   rw[Gs0,Gsy,Ya]
   simp only[List.getElem?_cons_zero,List.getElem?_cons_succ,Hi,isL q5,if_true,Yn,Gjh,Gjc,Ya,epr,Gbx,List.length_cons,List.length_nil]
   rw[if_pos (by decide),Hi,Hi]
   have ap':Yi (.lst q) [.tup [.str "pound",.int (1+a),.int b,.int (1+c),pr]] S5=.ok .non (S5.set q ⟨false,ps.map Pl.toD++[Pl.toD (.p (1+a) b (1+c) pr)]⟩):=ap
   rw[ap',Qu]
  ·rw[List.getElem?_set_self lq,List.map_append]; rfl
theorem Ghp{mn:Nat}(h:Tp S t k)(hm:mn<=11):∃ (mid:List Pl) (S':Sto),Vr [.lst t,.int mn] S=.ok (.tup ((.e::(mid++[.e])).map Pl.toD)) S'/\(∀ p∈mid,p.ok/\p.isE=false)/\mid.length=mn/\Tp S' t k/\Kp S S' t k:=by
 have lt:=h.lt
 have q2:(S++[(⟨false,[.tup [.str "end"]]⟩:Cell)])[S.length]?=some ⟨false,[.tup [.str "end"]]⟩:=Hc
 have h2:=h.app (c:=⟨false,[.tup [.str "end"]]⟩)
 have k2:Kp S (S++[(⟨false,[.tup [.str "end"]]⟩:Cell)]) t k:=Kp.app
 generalize hS2:S++[(⟨false,[.tup [.str "end"]]⟩:Cell)]=S2 at *
 obtain⟨ρ3,S3,ef,mid,x3,x4,x5,x6,x7,eρ,q3,l3,ok3,d3,k3⟩:=Jf (nxt:=(rsrc 0 mn).nxt) (g:=gn 3) (b:=Kd) (l:=(List.range mn).map fun k:Nat=>D.int (k:Int))
  (fun i ρ S'=>∃ mid x3 x4 x5 x6 x7,ρ=[some (.lst t),some (.int mn),some (.lst S.length),x3,x4,x5,x6,x7]/\S'[S.length]?=some ⟨false,(Pl.e::mid).map Pl.toD⟩/\mid.length=i/\(∀ p∈mid,p.ok/\p.isE=false)/\Tp S' t k/\Kp S S' t k)
  (fun i _ S _=>Kn) (fun i d ρ S' hd ⟨mid,x3,x4,x5,x6,x7,h1,h2,h3,h4,h5,h6⟩=>by
   obtain⟨hi,rfl⟩:=Uy hd
   subst h1
   obtain⟨p,S'',y4,y5,y6,y7,c1,c2,c3,c4,c5,c6⟩:=Ge4 (S0:=S) (q:=S.length) (many:=mn) (i:=i) (x4:=x4) (x5:=x5) (x6:=x6) (x7:=x7) (ps:=.e::mid) h5 h6 (Nat.le_refl _) (by omega) (by omega) h2 (fun p hp=>by
    rcases List.mem_cons.mp hp with rfl | hp
    ·trivial
    ·exact(h4 p hp).1) (by simp) (by simp; omega)
   refine⟨_,_,S'',rfl,c1,mid++[p],some (.int i),y4,y5,y6,y7,rfl,c4,by simp[h3],fun p' hp'=>?_,c5,c6⟩
   rcases List.mem_append.mp hp' with hp' | hp'
   ·exact h4 p' hp'
   ·have:p'=p:=by simpa using hp'
    subst this
    exact⟨c2,c3⟩) (mn+1) 0 [some (.lst t),some (.int mn),some (.lst S.length),none,none,none,none,none] S2 (Nat.zero_le _) ⟨[],none,none,none,none,none,rfl,q2,rfl,(fun p hp=>by cases hp),h2,k2⟩ (by simp)
 have hlen:((List.range mn).map fun k:Nat=>D.int (k:Int)).length=mn:=by simp
 rw[hlen] at l3
 subst eρ
 have lsE:ls (ac (tp (ac (cn (.str "end")) an)) an) [some (.lst t),some (.int mn),some (.lst S.length),x3,x4,x5,x6,x7] S3=.ok (.lst S3.length) (S3++[⟨false,[.tup [.str "end"]]⟩]):=by simp
 have ad:=Yb (Zp (c:=⟨false,[.tup [.str "end"]]⟩) q3) (Hc (S:=S3) (c:=⟨false,[.tup [.str "end"]]⟩)) (by simp; omega)
 have tp1:=Gc6 (Hc (S:=S3++[⟨false,[D.tup [.str "end"]]⟩]) (c:=⟨false,(Pl.e::mid).map Pl.toD++[.tup [.str "end"]]⟩))
 refine⟨mid,(S3++[⟨false,[.tup [.str "end"]]⟩])++[⟨false,(Pl.e::mid).map Pl.toD++[.tup [.str "end"]]⟩],?_,ok3,l3,(d3.app).app,(k3.trans Kp.app).trans Kp.app⟩
 refine(Hm (m:=8) (b:=Kl)).trans ?_
 show fin (Kl [some (.lst t),some (.int mn),none,none,none,none,none,none] S)=_
 unfold Kl
 refine(Gw (ρ':=[some (.lst t),some (.int mn),some (.lst S.length),none,none,none,none,none]) (S':=S2) (by rw[<- hS2]; simp)).trans ?_
 refine(Gw (ρ':=[some (.lst t),some (.int mn),some (.lst S.length),x3,x4,x5,x6,x7]) (S':=S3) ?_).trans ?_
 ·rw[Vi,Ub (n:=mn) (S':=S2) (by simp) (by omega)]
  exact ef
 rw[Vh,Gni,Yn,Gc4]
 simp only[Ya,List.getElem?_cons_zero,List.getElem?_cons_succ,Hi,lsE,ad,Gbx,tp1,Qu,Gjq]
 simp[Pl.toD]
theorem Gjs(h:Tp S t k):∃ (mid:List Pl) (gl:List D) (S':Sto),Ud [.lst t] S=.ok (.tup [.tup ((.e::(mid++[.e])).map Pl.toD),.tup gl]) S'/\(∀ p∈mid,p.ok/\p.isE=false)/\1<=mid.length/\mid.length<=11/\gl.length=mid.length+1/\(∀ g∈gl,g=.str "up"\/g=.str "down")/\Tp S' t k:=by
 obtain⟨r1,x1,S1,e1,p1,m1,d1,k1⟩:=Ue (xs:=[.int 1,.int 4,.int 11]) (m:=3) h rfl (by simp) (by simp)
 obtain⟨m,hm,hm0,hm1⟩:∃ i:Int,x1=.int i/\1<=i/\i<=11:=by
  simp only[List.mem_cons,List.not_mem_nil,or_false] at m1
  rcases m1 with rfl | rfl | rfl
  ·exact⟨_,rfl,by decide,by decide⟩
  ·exact⟨_,rfl,by decide,by decide⟩
  ·exact⟨_,rfl,by decide,by decide⟩
 subst hm
 obtain⟨r2,S2,e2,r20,r21,d2,k2⟩:=draw (m:=m) d1 (by omega) (by omega)
 obtain⟨mn,hmn⟩:∃ m:Nat,1+r2=m:=⟨(1+r2).toNat,by omega⟩
 obtain⟨mid,S3,e3,ok3,l3,d3,k3⟩:=Ghp (mn:=mn) d2 (by omega)
 obtain⟨r4,S4,e4,r40,r41,d4,k4⟩:=draw (m:=(mn:Int)+2) d3 (by omega) (by omega)
 obtain⟨r5,S5,e5,r50,r51,d5,k5⟩:=draw (m:=2) d4 (by decide) (by decide)
 have lt5:=d5.lt
 have h6:=d5.app (c:=⟨false,[]⟩)
 have q6:(S5++[(⟨false,[]⟩:Cell)])[S5.length]?=some ⟨false,[]⟩:=Hc
 generalize hS6:S5++[(⟨false,[]⟩:Cell)]=S6 at *
 obtain⟨ρ7,S7,ef,gl,x6,x7,eρ,q7,l7,u7,d7⟩:=Jf (nxt:=(rsrc 0 (mn+1)).nxt) (g:=gn 6) (b:=Qz) (l:=(List.range (mn+1)).map fun k:Nat=>D.int (k:Int))
  (fun i ρ S'=>∃ gl x6 x7,ρ=[some (.lst t),some (.int mn),some (.tup ((.e::(mid++[.e])).map Pl.toD)),some (.int r4),some (.int r5),some (.lst S5.length),x6,x7]/\S'[S5.length]?=some ⟨false,gl⟩/\gl.length=i/\(∀ g∈gl,g=.str "up"\/g=.str "down")/\Tp S' t k)
  (fun i _ S _=>Kn) (fun i d ρ S' hd ⟨gl,x6,x7,h1,h2,h3,h5,h4⟩=>by
   obtain⟨hi,rfl⟩:=Uy hd
   subst h1
   obtain⟨b,S'',eb,d'',q''⟩:∃ (b:Bool) (S'':Sto),sq (sa (o2 ltD (vr 6) (vr 3)) (gn 7)) (sif (tb (o2 eqD (vr 4) (cn (.int 0)))) (sa (o2 eqD (cl 2 (Gn Gh) (ac (vr 0) (ac (cn (.int 2)) an))) (cn (.int 1))) (gn 7)) DL.skip) [some (.lst t),some (.int mn),some (.tup ((.e::(mid++[.e])).map Pl.toD)),some (.int r4),some (.int r5),some (.lst S5.length),some (.int i),x7] S'=.nx [some (.lst t),some (.int mn),some (.tup ((.e::(mid++[.e])).map Pl.toD)),some (.int r4),some (.int r5),some (.lst S5.length),some (.int i),some (.bl b)] S''/\Tp S'' t k/\S''[S5.length]?=some ⟨false,gl⟩:=by
    by_cases c:r5=0
    ·obtain⟨r,S'',er,_,_,d'',k''⟩:=draw (m:=2) h4 (by decide) (by decide)
     exact⟨decide (r=1),S'',by simp[c,er],d'',k''.at h2 (by omega) (by omega)⟩
    ·exact⟨decide ((i:Int)<r4),S',by simp[c],h4,h2⟩
   have lq:S5.length<S''.length:=(List.getElem?_eq_some_iff.mp q'').1
   have ap:=fun x=>Gc5 (d:=.str x) q'' (by omega)
   refine⟨_,[some (.lst t),some (.int mn),some (.tup ((.e::(mid++[.e])).map Pl.toD)),some (.int r4),some (.int r5),some (.lst S5.length),some (.int i),some (.bl b)],S''.set S5.length ⟨false,gl++[.str (if b then "up" else "down")]⟩,rfl,?_,gl++[.str (if b then "up" else "down")],some (.int i),some (.bl b),rfl,List.getElem?_set_self lq,by simp[h3],(fun g hg=>by
    rcases List.mem_append.mp hg with hg | hg
    ·exact h5 g hg
    ·rw[List.mem_singleton.mp hg]; cases b
     ·exact .inr rfl
     ·exact .inl rfl),d''.set (by omega) (by omega)⟩
   have as:∀ (f g h:Sv) (ρ:Lc) (S:Sto),sq f (sq g h) ρ S=sq (sq f g) h ρ S:=fun f g h ρ S=>by
    simp only[Gbz]
    cases f ρ S<;>rfl
   unfold Qz
   rw[as]
   refine(Ku (ρ':=[some (.lst t),some (.int mn),some (.tup ((.e::(mid++[.e])).map Pl.toD)),some (.int r4),some (.int r5),some (.lst S5.length),some (.int i),some (.bl b)]) (S1:=S'') eb).trans ?_
   cases b<;>simp[isL q'',Kg,ap]) (mn+1+1) 0 [some (.lst t),some (.int mn),some (.tup ((.e::(mid++[.e])).map Pl.toD)),some (.int r4),some (.int r5),some (.lst S5.length),none,none] S6 (Nat.zero_le _) ⟨[],none,none,rfl,q6,rfl,(fun g hg=>by cases hg),h6⟩ (by simp)
 subst eρ
 have tp1:=Gc6 q7
 refine⟨mid,gl,S7,?_,ok3,by omega,by omega,by simp at l7; omega,u7,d7⟩
 refine(Hm (m:=8) (b:=Qb)).trans ?_
 show fin (Qb [some (.lst t),none,none,none,none,none,none,none] S)=_
 unfold Qb
 refine(Gw (ρ':=[some (.lst t),some (.int mn),none,none,none,none,none,none]) (S':=S2) (by rw[<- hmn]; simp[e1,p1,e2])).trans ?_
 refine(Gw (ρ':=[some (.lst t),some (.int mn),some (.tup ((.e::(mid++[.e])).map Pl.toD)),none,none,none,none,none]) (S':=S3) (by simp only[Qh,Gjd,Yn,Ya,Gbx,List.getElem?_cons_zero,List.getElem?_cons_succ,Hi,List.length_cons,List.length_nil,Nat.reduceAdd,if_true,Gby,e3,Qu]; rfl)).trans ?_
 refine(Gw (ρ':=[some (.lst t),some (.int mn),some (.tup ((.e::(mid++[.e])).map Pl.toD)),some (.int r4),none,none,none,none]) (S':=S4) (by simp[e4])).trans ?_
 refine(Gw (ρ':=[some (.lst t),some (.int mn),some (.tup ((.e::(mid++[.e])).map Pl.toD)),some (.int r4),some (.int r5),none,none,none]) (S':=S5) (by simp[e5])).trans ?_
 refine(Gw (ρ':=[some (.lst t),some (.int mn),some (.tup ((.e::(mid++[.e])).map Pl.toD)),some (.int r4),some (.int r5),some (.lst S5.length),none,none]) (S':=S6) (by rw[<- hS6]; simp)).trans ?_
 refine(Gw (ρ':=[some (.lst t),some (.int mn),some (.tup ((.e::(mid++[.e])).map Pl.toD)),some (.int r4),some (.int r5),some (.lst S5.length),x6,x7]) (S':=S7) ?_).trans ?_
 ·rw[Vi,Ub (n:=mn+1) (S':=S6) (by simp) (by omega)]
  exact ef
 rw[Vh,Gjh,Yn]
 simp[tp1]
structure Ex(S S':Sto):Prop where
 len:S.length<=S'.length
 get:∀ i,i<S.length->S'[i]?=S[i]?
theorem Ex.refl:Ex S S:=⟨Nat.le_refl _,fun _ _=>rfl⟩
theorem Ex.trans(a:Ex S S1)(b:Ex S1 S2):Ex S S2:=⟨Nat.le_trans a.len b.len,fun i h=>(b.get i (Nat.lt_of_lt_of_le h a.len)).trans (a.get i h)⟩
theorem Ex.app:Ex S (S++[c]):=⟨by simp,fun i h=>by rw[List.getElem?_append_left h]⟩
theorem Ex.setq(a:Ex S0 S)(h:S0.length<=q):Ex S0 (S.set q c):=⟨by simp; exact a.len,fun i hi=>by rw[List.getElem?_set_ne (by omega)]; exact a.get i hi⟩
theorem Ex.at(a:Ex S S')(e:S[q]?=some c):S'[q]?=some c:=(a.get q (List.getElem?_eq_some_iff.mp e).1).trans e
theorem Tp.ext(h:Tp S t k)(x:Ex S S'):Tp S' t k:=by
 obtain⟨⟨a,b,c,xs,e1,e2⟩,ne⟩:=h
 exact⟨⟨a,b,c,xs,x.at e1,x.at e2⟩,ne⟩
theorem Wd{e:Ev D}(h:e ρ S=.ok d S2)(q:S2[a]?=some ⟨false,xs⟩)(hl:xs.length<1000000):cbody a ttrue e ρ S=.nx ρ (S2.set a ⟨false,xs++[d]⟩):=by
 show bindS (ttrue ρ S) ρ _=_
 show bindS (e ρ S) ρ _=_
 rw[h]
 simp only[Qu,q]
 rw[if_pos (by simp[hl])]
theorem Zd{f:Ev Src}{g:Tg}{c:Ev Bool}{e:Ev D}{s:Src}(h:f ρ S=.ok s S1)(l:Vk s.nxt g (cbody S1.length c e) s.fuel 0 (pkS pk ρ) (S1++[⟨false,[]⟩])=.nx ρ' S'):cmp f pk g c e ρ S=.ok (.lst S1.length) S':=by
 unfold cmp
 rw[h]
 simp only[Hi,l]
theorem p0e:DL.getD (.tup (d::l)) (.int 0) S=.ok d S:=Gap (Kr (by decide) rfl)
theorem p1e{e:D}:DL.getD (.tup (e::d::l)) (.int 1) S=.ok d S:=Gap (Kr (by decide) rfl)
theorem Ggr:∀ bs:List Bool,Gam (bs.map D.bl)=some bs
 | []=>rfl
 | b::r=>by
  show(match Gam (r.map D.bl) with | some r=>some (b::r) | none=>none)=_
  rw[Ggr r]
theorem Gs1{i:Nat}{bs:List Bool}(e:S[i]?=some ⟨false,bs.map D.bl⟩):Gbd [.lst i] S=.ok (.bl (bs.all id)) S:=by
 simp only[Gbd,e,Ggr]
theorem Gb3{e:Ev D}{f:Ev D}(rest:Lc)(v:D->Bool)(hf:f ρ S=.ok (.tup l) S)(hp:pkS pk ρ=none::rest)(hl:l.length<1000)(he:∀ d∈l,∀ S':Sto,Ex S S'->∃ S'',e (some d::rest) S'=.ok (.bl (v d)) S''/\Ex S' S''):
  ∃ S',(cmp (isrc f) pk (gn 0) ttrue e ρ S).bind (fun x S1=>Gbd [x] S1)=.ok (.bl (l.all v)) S'/\Ex S S':=by
 obtain⟨ρ',S',el,g,hρ,hq,hx⟩:=Jf (nxt:=(Gf5 l).nxt) (g:=gn 0) (b:=cbody S.length ttrue e) (l:=l)
  (fun i ρ S'=>∃ g,ρ=g::rest/\S'[S.length]?=some ⟨false,((l.take i).map v).map D.bl⟩/\Ex S S')
  (fun _ _ _ _=>rfl) (fun i d ρ S' hd ⟨g,h1,h2,h3⟩=>by
   subst h1
   have hi:i<l.length:=(List.getElem?_eq_some_iff.mp hd).1
   obtain⟨S'',e1,e2⟩:=he d (List.mem_of_getElem? hd) S' h3
   have q'':=e2.at h2
   have lq:S.length<S''.length:=(List.getElem?_eq_some_iff.mp q'').1
   refine⟨_,_,_,rfl,Wd e1 q'' (by simp; omega),some d,rfl,?_,(h3.trans e2).setq (Nat.le_refl _)⟩
   rw[List.getElem?_set_self lq]
   have:l.take (i+1)=l.take i++[d]:=by rw[List.take_add_one,hd]; rfl
   rw[this]
   simp) (Gf5 l).fuel 0 (none::rest) (S++[⟨false,[]⟩]) (Nat.zero_le _) ⟨none,rfl,by simp[Hc],Ex.app⟩ Gnk
 rw[List.take_length] at hq
 have hc:=Zd (pk:=pk) (ρ:=ρ) (S:=S) (f:=isrc f) (s:=Gf5 l) (S1:=S) (by rw[Ggq,hf]; rfl) (by rw[hp]; exact el)
 refine⟨S',?_,hx⟩
 rw[hc,Hi,Gs1 hq]
 simp[List.all_map]
theorem Ge5{S:Sto}{n:Nat}:∀ L:List Int,Hq (toP S (n+1)) (L.map D.int)=some (L.map PyData.int)
 | []=>rfl
 | i::L=>by
  have:=Ge5 (S:=S) (n:=n) L
  rw[List.map_cons,List.map_cons]
  simp only[Hq,this]
  rfl
theorem Ge6:∀ L:List Int,PyData.canLayAll0 (L.map .int)=true
 | []=>rfl
 | i::L=>by simp[PyData.canLayAll0,PyData.canLay0,Ge6 L]
theorem Ge7:∀ L:List Int,PyData.depthAll (L.map .int)=0
 | []=>rfl
 | i::L=>by simp[PyData.depthAll,PyData.depth,Ge7 L]
theorem Ge8:∀ L M:List Int,PyData.eqvAll (L.map .int) (M.map .int)=decide (L=M)
 | [],[]=>by simp[PyData.eqvAll]
 | [],j::M=>by simp[PyData.eqvAll]
 | i::L,[]=>by simp[PyData.eqvAll]
 | i::L,j::M=>by
  simp only[List.map_cons,PyData.eqvAll,PyData.eqv,Ge8 L M]
  by_cases h1:i=j<;>by_cases h2:L=M<;>simp[h1,h2]
theorem Gb4{a b:List D}(h:a.length+b.length<=1000000):Hg (.tup a) (.tup b) S=.ok (.tup (a++b)) S:=by
 show(if a.length+b.length<=1000000 then Out.ok (D.tup (a++b)) S else .bad)=_
 rw[if_pos h]
theorem Xc{a b:Str}(h1:PyData.strOk a=true)(h2:PyData.strOk b=true):PyData.strOk (a++b)=true:=by
 unfold PyData.strOk at *
 show((a.cps++b.cps).all fun x=>decide (x<1114112))=true
 rw[Array.all_append,h1,h2]
 rfl
theorem Gjt:Xe [.tup l] S=.ok (.lst S.length) (S++[⟨false,l⟩]):=id rfl
theorem Gd7:Gdr (.tup l) none (some (n:Int)) S=.ok (.tup (l.take n)) S:=by
 have e2:HT.sIx l.length l.length (some (n:Int))=min n l.length:=HT.Ggd l.length l.length n
 show(if HT.sIx l.length 0 none=0/\HT.sIx l.length l.length (some (n:Int))=l.length then Out.ok (D.tup l) S else .ok (.tup (DL.Vx l none (some (n:Int)))) S)=_
 rw[e2,HT.Ze]
 by_cases c:min n l.length=l.length
 ·rw[if_pos ⟨rfl,c⟩,List.take_of_length_le (by omega)]
 ·rw[if_neg (fun z=>c z.2)]
  unfold DL.Vx
  rw[e2,HT.Ze,List.drop_zero,Nat.sub_zero]
  have:min n l.length=n:=by omega
  rw[this]
theorem Ge9:Gdr (.tup l) (some (n:Int)) none S=.ok (.tup (l.drop n)) S:=by
 have e2:HT.sIx l.length 0 (some (n:Int))=min n l.length:=HT.Ggd l.length 0 n
 show(if HT.sIx l.length 0 (some (n:Int))=0/\HT.sIx l.length l.length none=l.length then Out.ok (D.tup l) S else .ok (.tup (DL.Vx l (some (n:Int)) none)) S)=_
 rw[e2,HT.Ze]
 by_cases c:min n l.length=0
 ·rw[if_pos ⟨c,rfl⟩]
  rcases(by omega:n=0\/l.length=0) with z | z
  ·rw[z]; rfl
  ·rw[List.length_eq_zero_iff.mp z]; simp
 ·rw[if_neg (fun z=>c z.1)]
  unfold DL.Vx
  rw[e2,HT.Ze]
  by_cases h:n<=l.length
  ·have:min n l.length=n:=by omega
   rw[this,List.take_of_length_le (by simp)]
  ·have:min n l.length=l.length:=by omega
   rw[this,List.drop_of_length_le (Nat.le_refl _),List.drop_of_length_le (by omega)]
   simp
def plc(mid:List Pl):List Pl:=.e::(mid++[.e])
theorem Gmg{mid:List Pl}:(plc mid).length=mid.length+2:=by simp[plc]
theorem Gq0{mid:List Pl}(h:∀ p∈mid,p.ok/\p.isE=false):∀ p∈plc mid,p.ok:=fun p hp=>by
 unfold plc at hp
 rcases List.mem_cons.mp hp with rfl | hp
 ·trivial
 ·rcases List.mem_append.mp hp with hp | hp
  ·exact(h p hp).1
  ·have:p=.e:=by simpa using hp
   subst this
   trivial
def gd(u:Bool):D:=.str (if u=true then "up" else "down")
def cD(ps:List Pl)(us:List Bool):D:=.tup [.tup (ps.map Pl.toD),.tup (us.map gd)]
theorem Gfa:∀ {gs:List D},(∀ g∈gs,g=.str "up"\/g=.str "down")->∃ us:List Bool,gs=us.map gd
 | [],_=>⟨[],rfl⟩
 | g::r,h=>by
  obtain⟨us,e⟩:=Gfa (gs:=r) fun z hz=>h z (List.mem_cons_of_mem _ hz)
  rcases h g List.mem_cons_self with rfl | rfl
  ·exact⟨true::us,by rw[e]; rfl⟩
  ·exact⟨false::us,by rw[e]; rfl⟩
theorem Gq1{a b:Char}(h:a.toNat=b.toNat):a=b:=by
 have:=congrArg Char.ofNat h
 rwa [Char.ofNat_toNat,Char.ofNat_toNat] at this
theorem Gju:∀ {a b:List Char},a.map Char.toNat=b.map Char.toNat->a=b
 | [],[],_=>rfl
 | [],_::_,h=>by simp at h
 | _::_,[],h=>by simp at h
 | x::a,y::b,h=>by
  rw[List.map_cons,List.map_cons] at h
  obtain⟨h1,h2⟩:=List.cons.inj h
  rw[Gq1 h1,Gju h2]
theorem Gf6{s t:String}(h:Str.ofString s=Str.ofString t):s=t:=by
 rw[Str.ofString_eq_toList,Str.ofString_eq_toList] at h
 have h1:(s.toList.map Char.toNat).toArray=(t.toList.map Char.toNat).toArray:=congrArg Str.cps h
 exact String.toList_inj.mp (Gju (congrArg Array.toList h1))
theorem Gs2{s t:String}:(Str.ofString s=Str.ofString t)=(s=t):=propext ⟨Gf6,fun h=>by rw[h]⟩
theorem ell{s t:String}:eqD (.str (Str.ofString s)) (.str (Str.ofString t)) S=.ok (.bl (decide (s=t))) S:=by
 rw[Gjn (stok s) (stok t)]
 by_cases c:s=t
 ·subst c; simp
 ·rw[decide_eq_false c]
  congr 2
  exact beq_eq_false_iff_ne.mpr fun h=>c (Gf6 h)
section
variable{ps:List Pl}{us:List Bool}{S:Sto}{k:Nat}{p:Pl}{u:Bool}
theorem cd0:DL.getD (cD ps us) (.int 0) S=.ok (.tup (ps.map Pl.toD)) S:=p0e
theorem cd1:DL.getD (cD ps us) (.int 1) S=.ok (.tup (us.map gd)) S:=p1e
theorem gP(h:ps[k]?=some p):DL.getD (.tup (ps.map Pl.toD)) (.int k) S=.ok p.toD S:=Gap (Kr (by omega) (by rw[Int.toNat_natCast,List.getElem?_map,h]; rfl))
end
@[simp] theorem Gu5{g:Tgs}:gt g n (.tup ds) ρ=if ds.length=n then g ds ρ else none:=id rfl
@[simp] theorem Gu6{g:Tg}{c:Tgs}:gcons g c (d::ds) ρ=(g d ρ).bind fun ρ'=>c ds ρ':=id rfl
@[simp] theorem Gu7:gnil [] ρ=some ρ:=id rfl
@[simp] theorem Gud{i:Nat}{f:Ev (List D)}:spar i j f ρ S=bindS (f ρ S) ρ fun ds S1=>match ds with
 | [d,e]=>.nx ((ρ.set i (some d)).set j (some e)) S1
 | _=>.bad:=id rfl
@[simp] theorem Gs3{β:Type}{x:XD}{g:α->Sto->Out β}:(Out.exc x S:Out α).bind g=.exc x S:=id rfl
@[simp] theorem Grg{x:XD}{g:α->Sto->OS}:bindS (Out.exc x S:Out α) ρ g=.exc x ρ S:=id rfl
theorem Yo{l:List α}{i:Nat}(h:i<l.length):∃ a,l[i]?=some a:=⟨l[i],List.getElem?_eq_getElem h⟩
theorem Kj{l:List α}{i:Nat}{a:α}(h:l[i]?=some a):a∈l:=List.mem_iff_getElem?.mpr ⟨i,h⟩
def wd(rt:Bool):Str:=if rt=true then "right" else "left"
def dd(w:Str)(k:Nat):D:=.tup [.str w,.int k]
structure Can(ps:List Pl)(us:List Bool)(m:Nat):Prop where
 ok:∀ p∈ps,p.ok
 len:ps.length=m+1
 gts:us.length=m
 m1:2<=m
 m2:m<=12
 e0:ps[0]?=some .e
 em:ps[m]?=some .e
structure Row where
 as:List (Str×Nat×Int)
 w:Str
 k:Nat
def Hk(a:Str×Nat×Int):D:=.tup [.str a.1,.int a.2.1,.int a.2.2]
def Hd(r:Row):D:=.tup [.tup (r.as.map Hk),dd r.w r.k]
def Gf7(n:Nat)(a:Str×Nat×Int):Prop:=(a.1="least"\/a.1="most"\/∃ rt,a.1=wd rt)/\a.2.1<n/\0<=a.2.2/\a.2.2<=9
structure RowG(n:Nat)(r:Row):Prop where
 as:∀ a∈r.as,Gf7 n a
 few:r.as.length<=4
 dd:(r.w="let"/\r.k+1<n)\/(r.w="feed"/\r.k<n)\/((∃ rt,r.w=wd rt)/\r.k+1<n)
@[simp] theorem Gue:Gc1 (.tup l) S=.ok (Gf5 l) S:=id rfl
theorem Gnl{b:Bool}:Ghi [.bl b] S=.ok (.int (if b then 1 else 0)) S:=id rfl
theorem Ggs{ps:List Pl}{us:List Bool}{i c:Nat}{p:Pl}(jp:p.ok)(hp:ps[i]?=some p)(r1:ρ[a]?=some (some (cD ps us)))(r2:ρ[c]?=some (some (.int i))):
  ∃ bb,(ta (tb (o2 eqD (o2 DL.getD (o2 DL.getD (o2 DL.getD (vr a) (cn (.int 0))) (vr c)) (cn (.int 0))) (cn (.str "pound")))) (tb (o2 Xl (o2 DL.getD (o2 DL.getD (o2 DL.getD (vr a) (cn (.int 0))) (vr c)) (cn (.int 4))) (cn .non)))) ρ S=.ok bb S:=by
 have g0:=cd0 (ps:=ps) (us:=us) (S:=S)
 have gp:=gP (S:=S) hp
 have g4:∀ {a b c d e:D},DL.getD (.tup [a,b,c,d,e]) (.int 4) S=.ok e S:=Gap (Kr (by decide) rfl)
 cases p with
 | e=>exact⟨false,by simp[r1,r2,g0,gp,Pl.toD,p0e,ell]⟩
 | c=>exact⟨false,by simp[r1,r2,g0,gp,Pl.toD,p0e,ell]⟩
 | p br de ro pr=>
  obtain⟨_,_,_,_,_,_,h⟩:=jp
  rcases h with rfl | ⟨x,rfl,_⟩
  ·have:Xl .non .non S=.ok (.bl false) S:=rfl
   exact⟨false,by simp[r1,r2,g0,gp,Pl.toD,p0e,g4,ell,this]⟩
  ·have:Xl (.int x) .non S=.ok (.bl true) S:=rfl
   exact⟨true,by simp[r1,r2,g0,gp,Pl.toD,p0e,g4,ell,this]⟩
theorem Gmh{lo:Option Int}:(DL.Vx l lo hi).length<=l.length:=by unfold DL.Vx; simp; omega
theorem Gmi{lo:Option Int}(h:d∈DL.Vx l lo hi):d∈l:=List.mem_of_mem_drop (List.mem_of_mem_take h)
theorem Ggt{f:Ev Src}{s:Src}{e:Ev D}(rest:Lc)(v:D->D)(hf:f ρ S=.ok s S1)(hn:∀ k S',Ex S1 S'->s.nxt k S'=xs[k]?)(hu:xs.length<s.fuel)(hp:pkS pk ρ=none::rest)(hl:xs.length<100000)(he:∀ d∈xs,∀ S':Sto,Ex S1 S'->∃ S'',e (some d::rest) S'=.ok (v d) S''/\Ex S' S''):
  ∃ S',cmp f pk (gn 0) ttrue e ρ S=.ok (.lst S1.length) S'/\S'[S1.length]?=some ⟨false,xs.map v⟩/\Ex S1 S':=by
 obtain⟨ρ',S',el,g,hρ,hq,hx⟩:=Jf (nxt:=s.nxt) (g:=gn 0) (b:=cbody S1.length ttrue e) (l:=xs)
  (fun i ρ S'=>∃ g,ρ=g::rest/\S'[S1.length]?=some ⟨false,(xs.take i).map v⟩/\Ex S1 S')
  (fun k _ S' ⟨_,_,_,hx⟩=>hn k S' hx) (fun i d ρ S' hd ⟨g,h1,h2,h3⟩=>by
   subst h1
   have hi:i<xs.length:=(List.getElem?_eq_some_iff.mp hd).1
   obtain⟨S'',e1,e2⟩:=he d (List.mem_of_getElem? hd) S' h3
   have q'':=e2.at h2
   have lq:S1.length<S''.length:=(List.getElem?_eq_some_iff.mp q'').1
   refine⟨_,_,_,rfl,Wd e1 q'' (by simp; omega),some d,rfl,?_,(h3.trans e2).setq (Nat.le_refl _)⟩
   rw[List.getElem?_set_self lq]
   have:xs.take (i+1)=xs.take i++[d]:=by rw[List.take_add_one,hd]; rfl
   rw[this]
   simp) s.fuel 0 (none::rest) (S1++[⟨false,[]⟩]) (Nat.zero_le _) ⟨none,rfl,by simp[Hc],Ex.app⟩ (by omega)
 rw[List.take_length] at hq
 exact⟨S',Zd hf (by rw[hp]; exact el),hq,hx⟩
theorem Ggu{n:Nat}:∀ {l:List D},(∀ d∈l,∃ w k,d=dd w k/\((w="let"/\k+1<n)\/(w="feed"/\k<n)\/((∃ rt,w=wd rt)/\k+1<n)))->∃ rows:List Row,l.map (fun d=>D.tup [.tup [],d])=rows.map Hd/\(∀ r∈rows,RowG n r)/\rows.length=l.length
 | [],_=>⟨[],rfl,by simp,rfl⟩
 | d::l,h=>by
  obtain⟨rows,e,g,n'⟩:=Ggu (l:=l) fun d hd=>h d (List.mem_cons_of_mem _ hd)
  obtain⟨w,k,rfl,hk⟩:=h d List.mem_cons_self
  refine⟨⟨[],w,k⟩::rows,by rw[List.map_cons,e]; rfl,fun r hr=>?_,by simp[n']⟩
  rcases List.mem_cons.mp hr with rfl | hr
  ·exact⟨by simp,by simp,hk⟩
  ·exact g r hr
def ddG(n:Nat)(w:Str)(k:Nat):Prop:=(w="let"/\k+1<n)\/(w="feed"/\k<n)\/((∃ rt,w=wd rt)/\k+1<n)
def dG(n:Nat)(d:D):Prop:=∃ w k,d=dd w k/\ddG n w k
theorem Gs4{i:Int}(e:S[q]?=some ⟨false,xs⟩)(h0:0<=i)(h1:i<=1000000)(hl:xs.length<1000):∃ ys,Gas (.lst q) [.int i,d] S=.ok .non (S.set q ⟨false,ys⟩)/\ys.length=xs.length+1/\∀ z∈ys,z=d\/z∈xs:=by
 refine⟨xs.take (min i.toNat xs.length)++d::xs.drop (min i.toNat xs.length),?_,?_,fun z hz=>?_⟩
 ·simp only[Gas,e]
  rw[if_pos ⟨trivial,⟨h0,h1⟩,by omega⟩]
 ·simp; omega
 ·rcases List.mem_append.mp hz with h | h
  ·exact .inr (List.mem_of_mem_take h)
  ·rcases List.mem_cons.mp h with h | h
   ·exact .inl h
   ·exact .inr (List.mem_of_mem_drop h)
def Gfb(i j:Nat)(w:Str):Sv:=sx (mt Gas (vr i) (ac (cl 2 (Gn Gh) (ac (vr 0) (ac (o2 Hg (b1 Gz (ac (vr i) an)) (cn (.int 1))) an))) (ac (tp (ac (cn (.str w)) (ac (vr j) an))) an)))
section
variable{S:Sto}{t k m:Nat}{ps:List Pl}{us:List Bool}
theorem Zq{i g:Nat}(d:Tp S t k)(hq:S[q]?=some ⟨false,xs⟩)(nt:q≠t)(nk:q≠k)(hl:xs.length<1000)(r0:ρ[0]?=some (some (.lst t)))(ri:ρ[i]?=some (some (.lst q)))(rj:ρ[j]?=some (some (.int g))):
  ∃ ys S',Gfb i j w ρ S=.nx ρ S'/\Tp S' t k/\S'[q]?=some ⟨false,ys⟩/\ys.length=xs.length+1/\(∀ z∈ys,z=dd w g\/z∈xs)/\S'.length=S.length/\∀ c,c≠q->c≠t->c≠k->S'[c]?=S[c]?:=by
 obtain⟨r,S1,e1,r1,r2,d1,sm⟩:=Ga3 (m:=(xs.length:Int)+1) d (by omega) (by omega)
 have q1:S1[q]?=some ⟨false,xs⟩:=(sm.get q nt nk).trans hq
 obtain⟨ys,e2,ly,hy⟩:=Gs4 (d:=dd w g) q1 r1 (by omega) hl
 have lq:q<S1.length:=(List.getElem?_eq_some_iff.mp q1).1
 have ln:=Gjo hq
 have il:=isL hq
 refine⟨ys,S1.set q ⟨false,ys⟩,?_,d1.set nt nk,List.getElem?_set_self lq,ly,hy,by simp[sm.len],fun c h1 h2 h3=>by rw[List.getElem?_set_ne (Ne.symm h1)]; exact sm.get c h2 h3⟩
 have e2:Gas (.lst q) [.int r,.tup [.str w,.int g]] S1=_:=e2
 simp only at ln
 simp[Gfb,r0,ri,rj,ln,il,e1,e2]
theorem Ghq(d:Tp S t k)(C:Can ps us m):∃ (rows:List Row) (S':Sto),Qp [.lst t,cD ps us] S=.ok (.tup (rows.map Hd)) S'/\(∀ r∈rows,RowG ps.length r)/\rows.length<=100/\Tp S' t k:=by
 have lt:=d.lt
 have m2:=C.m2
 have gts:=C.gts
 have len:=C.len
 obtain⟨b,S1,e1,b0,b1',d1,sm1⟩:=Ga3 (m:=2) ((d.app (c:=⟨false,[]⟩)).app (c:=⟨false,[]⟩)) (by decide) (by decide)
 have c0:S1[S.length]?=some ⟨false,[]⟩:=by rw[sm1.get _ (by omega) (by omega)]; simp
 have c1:S1[S.length+1]?=some ⟨false,[]⟩:=by rw[sm1.get _ (by omega) (by omega)]; simp
 obtain⟨ρ2,S2,ef,xs,ys,x5,rfl,d2,p0,p1,l0,l1,g0,g1⟩:=Jf (nxt:=(rsrc 0 m).nxt) (g:=gn 5) (b:=Qk) (l:=(List.range m).map fun k:Nat=>D.int (k:Int))
  (fun i ρ S'=>∃ xs ys x5,ρ=[some (.lst t),some (cD ps us),some (.lst S.length),some (.lst (S.length+1)),some (.int b),x5,none]/\Tp S' t k/\S'[S.length]?=some ⟨false,xs⟩/\S'[S.length+1]?=some ⟨false,ys⟩/\xs.length<=2*i/\ys.length<=i/\(∀ z∈xs,dG (m+1) z)/\∀ z∈ys,dG (m+1) z)
  (fun i _ S _=>Kn) (fun i dt ρ S' hd ⟨xs,ys,x5,e,d',p0,p1,l0,l1,g0,g1⟩=>by
   obtain⟨hi,rfl⟩:=Uy hd
   subst e
   refine⟨[some (.lst t),some (cD ps us),some (.lst S.length),some (.lst (S.length+1)),some (.int b),some (.int i),none],[some (.lst t),some (cD ps us),some (.lst S.length),some (.lst (S.length+1)),some (.int b),some (.int i),none],?_⟩
   obtain⟨xs1,S3,f1,d3,a1,n1,h1,y1,o1'⟩:=Zq (i:=2) (j:=5) (g:=i) (w:="right") (ρ:=[some (.lst t),some (cD ps us),some (.lst S.length),some (.lst (S.length+1)),some (.int b),some (.int i),none]) d' p0 (by omega) (by omega) (by omega) rfl rfl rfl
   have hm:∀ z∈xs1,dG (m+1) z:=fun z hz=>by
    rcases h1 z hz with rfl | hz
    ·exact⟨_,_,rfl,.inr (.inr ⟨⟨true,rfl⟩,by omega⟩)⟩
    ·exact g0 z hz
   obtain⟨xs2,S4,f2,d4,a2,n2,h2,o2'⟩:∃ xs2 S4,sif (tb (o2 eqD (vr 4) (cn (.int 1)))) (Gfb 2 5 "left") DL.skip [some (.lst t),some (cD ps us),some (.lst S.length),some (.lst (S.length+1)),some (.int b),some (.int i),none] S3=.nx [some (.lst t),some (cD ps us),some (.lst S.length),some (.lst (S.length+1)),some (.int b),some (.int i),none] S4/\Tp S4 t k/\S4[S.length]?=some ⟨false,xs2⟩/\xs2.length<=xs1.length+1/\(∀ z∈xs2,dG (m+1) z)/\S4[S.length+1]?=S3[S.length+1]?:=by
    by_cases c:b=1
    ·obtain⟨xs2,S4,f2,d4,a2,n2,h2,y2,o2'⟩:=Zq (i:=2) (j:=5) (g:=i) (w:="left") (ρ:=[some (.lst t),some (cD ps us),some (.lst S.length),some (.lst (S.length+1)),some (.int b),some (.int i),none]) d3 a1 (by omega) (by omega) (by omega) rfl rfl rfl
     refine⟨xs2,S4,by rw[Gc7 (S1:=S3) (by simp[c])]; exact f2,d4,a2,by omega,fun z hz=>?_,o2' _ (by omega) (by omega) (by omega)⟩
     rcases h2 z hz with rfl | hz
     ·exact⟨_,_,rfl,.inr (.inr ⟨⟨false,rfl⟩,by omega⟩)⟩
     ·exact hm z hz
    ·exact⟨xs1,S3,by rw[Ge3 (S1:=S3) (by simp[c])]; rfl,d3,a1,by omega,hm,rfl⟩
   have p1':S4[S.length+1]?=some ⟨false,ys⟩:=by rw[o2',o1' _ (by omega) (by omega) (by omega)]; exact p1
   obtain⟨ys1,S5,f3,d5,a3,n3,h3,y3,o3'⟩:=Zq (i:=3) (j:=5) (g:=i) (w:="let") (ρ:=[some (.lst t),some (cD ps us),some (.lst S.length),some (.lst (S.length+1)),some (.int b),some (.int i),none]) d4 p1' (by omega) (by omega) (by omega) rfl rfl rfl
   refine⟨S5,rfl,?_,xs2,ys1,some (.int i),rfl,d5,by rw[o3' _ (by omega) (by omega) (by omega)]; exact a2,a3,by omega,by omega,h2,fun z hz=>?_⟩
   ·show sq (Gfb 2 5 "right") (sq (sif (tb (o2 eqD (vr 4) (cn (.int 1)))) (Gfb 2 5 "left") DL.skip) (Gfb 3 5 "let")) _ S'=_
    rw[Ku f1,Ku f2,f3]
   ·rcases h3 z hz with rfl | hz
    ·exact⟨_,_,rfl,.inl ⟨rfl,by omega⟩⟩
    ·exact g1 z hz)
  (m+1) 0 [some (.lst t),some (cD ps us),some (.lst S.length),some (.lst (S.length+1)),some (.int b),none,none] S1 (Nat.zero_le _) ⟨[],[],none,rfl,d1,c0,c1,by simp,by simp,by simp,by simp⟩ (by simp)
 simp only[List.length_map,List.length_range] at l0 l1
 obtain⟨ρ3,S3,ef2,ys3,x6,rfl,d3,p03,p13,l13,g13⟩:=Jf (nxt:=(rsrc 0 (m+1)).nxt) (g:=gn 6) (b:=Ql) (l:=(List.range (m+1)).map fun k:Nat=>D.int (k:Int))
  (fun i ρ S'=>∃ ys x6,ρ=[some (.lst t),some (cD ps us),some (.lst S.length),some (.lst (S.length+1)),some (.int b),x5,x6]/\Tp S' t k/\S'[S.length]?=some ⟨false,xs⟩/\S'[S.length+1]?=some ⟨false,ys⟩/\ys.length<=m+i/\∀ z∈ys,dG (m+1) z)
  (fun i _ S _=>Kn) (fun i dt ρ S' hd ⟨ys,x6,e,d',p0,p1,l1,g1⟩=>by
   obtain⟨hi,rfl⟩:=Uy hd
   subst e
   obtain⟨p,hp⟩:=Yo (show i<ps.length by omega)
   have g0:=cd0 (ps:=ps) (us:=us) (S:=S')
   have gp:=gP (S:=S') hp
   refine⟨[some (.lst t),some (cD ps us),some (.lst S.length),some (.lst (S.length+1)),some (.int b),x5,some (.int i)],[some (.lst t),some (cD ps us),some (.lst S.length),some (.lst (S.length+1)),some (.int b),x5,some (.int i)],?_⟩
   have tst:∃ bb,(ta (tb (o2 eqD (o2 DL.getD (o2 DL.getD (o2 DL.getD (vr 1) (cn (.int 0))) (vr 6)) (cn (.int 0))) (cn (.str "pound")))) (tb (o2 Xl (o2 DL.getD (o2 DL.getD (o2 DL.getD (vr 1) (cn (.int 0))) (vr 6)) (cn (.int 4))) (cn .non)))) [some (.lst t),some (cD ps us),some (.lst S.length),some (.lst (S.length+1)),some (.int b),x5,some (.int i)] S'=.ok bb S':=Ggs (ρ:=[some (.lst t),some (cD ps us),some (.lst S.length),some (.lst (S.length+1)),some (.int b),x5,some (.int i)]) (C.ok p (Kj hp)) hp rfl rfl
   obtain⟨bb,tst⟩:=tst
   cases bb
   ·exact⟨S',rfl,by show sif _ (Gfb 3 6 "feed") DL.skip _ _=_; rw[Ge3 tst]; rfl,ys,some (.int i),rfl,d',p0,p1,by omega,g1⟩
   ·obtain⟨ys1,S5,f3,d5,a3,n3,h3,y3,o3'⟩:=Zq (i:=3) (j:=6) (g:=i) (w:="feed") (ρ:=[some (.lst t),some (cD ps us),some (.lst S.length),some (.lst (S.length+1)),some (.int b),x5,some (.int i)]) d' p1 (by omega) (by omega) (by omega) rfl rfl rfl
    refine⟨S5,rfl,by show sif _ (Gfb 3 6 "feed") DL.skip _ _=_; rw[Gc7 tst]; exact f3,ys1,some (.int i),rfl,d5,by rw[o3' _ (by omega) (by omega) (by omega)]; exact p0,a3,by omega,fun z hz=>?_⟩
    rcases h3 z hz with rfl | hz
    ·exact⟨_,_,rfl,.inr (.inl ⟨rfl,by omega⟩)⟩
    ·exact g1 z hz)
  (m+1+1) 0 [some (.lst t),some (cD ps us),some (.lst S.length),some (.lst (S.length+1)),some (.int b),x5,none] S2 (Nat.zero_le _) ⟨ys,none,rfl,d2,p0,p1,by omega,g1⟩ (by simp)
 simp only[List.length_map,List.length_range] at l13
 have ad:=Yb p03 p13 (by omega)
 have sl:=Gqy (lo:=none) (hi:=some 12) (Hc (S:=S3) (c:=⟨false,xs++ys3⟩))
 generalize hS4:S3++[(⟨false,xs++ys3⟩:Cell)]=S4 at *
 have d4:Tp S4 t k:=by rw[<- hS4]; exact d3.app
 simp only at sl
 have cl0:=Gmh (l:=xs++ys3) (lo:=none) (hi:=some 12)
 have cm:∀ d∈DL.Vx (xs++ys3) none (some 12),dG (m+1) d:=fun d hd=>by
  rcases List.mem_append.mp (Gmi hd) with h | h
  ·exact g0 d h
  ·exact g13 d h
 generalize DL.Vx (xs++ys3) none (some 12)=zs at *
 have c5:(S4++[(⟨false,zs⟩:Cell)])[S4.length]?=some ⟨false,zs⟩:=Hc
 have d5:Tp (S4++[(⟨false,zs⟩:Cell)]) t k:=d4.app
 generalize S4++[(⟨false,zs⟩:Cell)]=S5 at *
 rw[List.length_append] at cl0
 obtain⟨S6,cm1,c6,ex6⟩:=Ggt (f:=isrc (sl2 (o2 Hg (vr 2) (vr 3)) onone (osome (cn (.int 12))))) (s:=Zc S4.length zs.length) (xs:=zs) (pk:=[none]) (e:=tp (ac (tp an) (ac (vr 0) an))) (ρ:=[some (.lst t),some (cD ps us),some (.lst S.length),some (.lst (S.length+1)),some (.int b),x5,x6]) (S:=S3) (S1:=S5) [] (fun d=>.tup [.tup [],d])
  (by simp[ad,sl,Ge2 c5]) (fun k S' hx=>by simp[Zc,hx.at c5]) (Nat.lt_succ_self _) rfl (by omega) (fun d _ S' _=>⟨S',by simp,Ex.refl⟩)
 obtain⟨rows,er,gr,nr⟩:=Ggu (n:=m+1) (l:=zs) cm
 refine⟨rows,S6,?_,by rw[len]; exact gr,by omega,d5.ext ex6⟩
 have tu:=Gc6 c6
 rw[er] at tu
 have ln:Gz [.tup (us.map gd)] S1=.ok (.int m) S1:=by simp[Gz,gts]
 have ln2:Gz [.tup (ps.map Pl.toD)] S2=.ok (.int ((m:Int)+1)) S2:=by simp[Gz,len]
 have i1:=Ub (f:=ac (b1 Gz (ac (o2 DL.getD (vr 1) (cn (.int 1))) an)) an) (ρ:=[some (.lst t),some (cD ps us),some (.lst S.length),some (.lst (S.length+1)),some (.int b),none,none]) (S:=S1) (S':=S1) (n:=m) (by simp[cd1,gts,Gz]) (by omega)
 have i2:=Ub (f:=ac (b1 Gz (ac (o2 DL.getD (vr 1) (cn (.int 0))) an)) an) (ρ:=[some (.lst t),some (cD ps us),some (.lst S.length),some (.lst (S.length+1)),some (.int b),x5,none]) (S:=S2) (S':=S2) (n:=m+1) (by simp[cd0,len,Gz]) (by omega)
 have ef:Vk (rsrc 0 m).nxt (gn 5) Qk (rsrc 0 m).fuel 0 _ S1=_:=ef
 have ef2:Vk (rsrc 0 (m+1)).nxt (gn 6) Ql (rsrc 0 (m+1)).fuel 0 _ S2=_:=ef2
 unfold Qp
 rw[Hm]
 simp only[Vs]
 generalize cD ps us=cd at *
 simp at e1
 simp[e1,Vi,i1,i2,ef,ef2,cm1,tu,fin]
end
def Jn(t c5 c7:Nat)(cd:D)(mo wy:Int)(m:Nat)(x6 x8 x9 x10 x11 x12:Option D):Lc:=[some (.lst t),some cd,some (.int mo),some (.int wy),some (.int m),some (.lst c5),x6,some (.lst c7),x8,x9,x10,x11,x12]
theorem wd4(h:x∈[D.str "least",.str "most",.str "right",.str "left"]):∃ w:Str,x=.str w/\(w="least"\/w="most"\/∃ rt,w=wd rt):=by
 simp only[List.mem_cons,List.not_mem_nil,or_false] at h
 rcases h with rfl | rfl | rfl | rfl
 ·exact⟨_,rfl,.inl rfl⟩
 ·exact⟨_,rfl,.inr (.inl rfl)⟩
 ·exact⟨_,rfl,.inr (.inr ⟨true,rfl⟩)⟩
 ·exact⟨_,rfl,.inr (.inr ⟨false,rfl⟩)⟩
theorem Gnm{L:List Int}(h:S[q]?=some ⟨false,L.map D.int⟩):toP S 40 (.lst q)=some (.list (L.map .int)):=by
 show(match S[q]? with | some c=>(Hq (toP S 39) c.xs).map PyData.list | none=>none)=_
 rw[h]
 show(Hq (toP S 39) (L.map D.int)).map PyData.list=_
 rw[Ge5]; rfl
theorem Guf{r:Nat}{L M:List Int}(h:S[q]?=some ⟨false,L.map D.int⟩)(h2:S[r]?=some ⟨false,M.map D.int⟩):neD (.lst q) (.lst r) S=.ok (.bl (!decide (L=M))) S:=by
 simp only[neD,Gnm h,Gnm h2]
 rw[if_pos (by simp[SeqAt.shaped,PyData.canLay0,PyData.canLayAll0,Ge6,PyData.depth,PyData.depthAll,Ge7])]
 simp only[PyData.eqv,Ge8]
theorem Gmj{c5 c7:Nat}{mo wy:Int}{x11 x12:Option D}(d0:Tp S t k)(d:Tp S1 t k)(hk:Kp S S1 t k)(ha:S.length<=a)(hq:S1[a]?=some ⟨false,[]⟩)(hn:n<=4)(hm:m<=12):∃ (as:List (Str×Nat×Int)) (S':Sto) (y10 y11 y12:Option D),Vk (rsrc 0 n).nxt (gn 10) Kb (rsrc 0 n).fuel 0 (Jn t c5 c7 cd mo wy m x6 x8 (some (.lst a)) x10 x11 x12) S1=.nx (Jn t c5 c7 cd mo wy m x6 x8 (some (.lst a)) y10 y11 y12) S'/\Tp S' t k/\Kp S S' t k/\S'[a]?=some ⟨false,as.map Hk⟩/\as.length=n/\∀ y∈as,Gf7 (m+1) y:=by
 have lt:=d0.lt
 obtain⟨ρ',S',ef,as,y10,y11,y12,rfl,h1,h2,h3,h4,h5⟩:=Jf (nxt:=(rsrc 0 n).nxt) (g:=gn 10) (b:=Kb) (l:=(List.range n).map fun k:Nat=>D.int (k:Int))
  (fun i ρ S'=>∃ (as:List (Str×Nat×Int)) (y10 y11 y12:Option D),ρ=Jn t c5 c7 cd mo wy m x6 x8 (some (.lst a)) y10 y11 y12/\Tp S' t k/\Kp S S' t k/\S'[a]?=some ⟨false,as.map Hk⟩/\as.length=i/\∀ y∈as,Gf7 (m+1) y)
  (fun i _ S _=>Kn) (fun i dt ρ S1 hd ⟨as,y10,y11,y12,e,d1,k1,q1,l1,g1⟩=>by
   obtain⟨hi,rfl⟩:=Uy hd
   subst e
   obtain⟨r2,x2,S2,e2,p2,m2,d2,k2⟩:=Ue (xs:=[.str "least",.str "most",.str "right",.str "left"]) (m:=4) d1 rfl (by simp) (by simp)
   obtain⟨w,rfl,hw⟩:=wd4 m2
   obtain⟨r3,x3,S3,e3,p3,m3,d3,k3⟩:=Ue (xs:=[.int 2,.int 10]) (m:=2) d2 rfl (by simp) (by simp)
   obtain⟨y,rfl,y0,y1⟩:∃ y:Int,x3=.int y/\1<=y/\y<=10:=by
    simp only[List.mem_cons,List.not_mem_nil,or_false] at m3
    rcases m3 with rfl | rfl
    ·exact⟨_,rfl,by decide,by decide⟩
    ·exact⟨_,rfl,by decide,by decide⟩
   obtain⟨r4,S4,e4,r40,r41,d4,k4⟩:=draw (m:=y) d3 (by omega) (by omega)
   obtain⟨r5,S5,e5,r50,r51,d5,k5⟩:=draw (m:=(m:Int)+1) d4 (by omega) (by omega)
   obtain⟨j,rfl⟩:∃ j:Nat,r5=j:=⟨r5.toNat,by omega⟩
   have q4:S4[a]?=some ⟨false,as.map Hk⟩:=k4.at (k3.at (k2.at q1 (by omega) (by omega)) (by omega) (by omega)) (by omega) (by omega)
   have q5:S5[a]?=some ⟨false,as.map Hk⟩:=k5.at q4 (by omega) (by omega)
   have ap:=Gc5 (d:=Hk (w,j,r4)) q5 (by simp; omega)
   have ap:Yi (.lst a) [.tup [.str w,.int j,.int r4]] S5=_:=ap
   have lq:a<S5.length:=(List.getElem?_eq_some_iff.mp q5).1
   refine⟨_,Jn t c5 c7 cd mo wy m x6 x8 (some (.lst a)) (some (.int i)) (some (.str w)) (some (.int r4)),S5.set a ⟨false,as.map Hk++[Hk (w,j,r4)]⟩,rfl,?_,as++[(w,j,r4)],some (.int i),some (.str w),some (.int r4),rfl,d5.set (by omega) (by omega),((((k1.trans k2).trans k3).trans k4).trans k5).setq ha,by rw[List.getElem?_set_self lq]; simp,by simp[l1],fun y hy=>?_⟩
   ·simp[Kb,Jn,e2,p2,e3,p3,e4,isL q4,e5,ap]
   ·rcases List.mem_append.mp hy with hy | hy
    ·exact g1 y hy
    ·cases List.mem_singleton.mp hy
     exact⟨hw,by simp only; omega,by simp only; omega,by simp only; omega⟩)
  (rsrc 0 n).fuel 0 (Jn t c5 c7 cd mo wy m x6 x8 (some (.lst a)) x10 x11 x12) S1 (Nat.zero_le _) ⟨[],x10,x11,x12,rfl,d,hk,hq,rfl,by simp⟩ (by simp[rsrc])
 exact⟨as,S',y10,y11,y12,ef,h1,h2,h3,by simpa using h4,h5⟩
theorem Gug(h:x∈[D.str "let",.str "right",.str "left",.str "feed"]):x=.str "feed"\/∃ w:Str,x=.str w/\(∀ S,eqD (.str w) (.str "feed") S=.ok (.bl false) S)/\∀ n k,k+1<n->ddG n w k:=by
 simp only[List.mem_cons,List.not_mem_nil,or_false] at h
 rcases h with rfl | rfl | rfl | rfl
 ·exact .inr ⟨_,rfl,fun S=>by simp[ell],fun n k h=>.inl ⟨rfl,h⟩⟩
 ·exact .inr ⟨_,rfl,fun S=>by simp[ell],fun n k h=>.inr (.inr ⟨⟨true,rfl⟩,h⟩)⟩
 ·exact .inr ⟨_,rfl,fun S=>by simp[ell],fun n k h=>.inr (.inr ⟨⟨false,rfl⟩,h⟩)⟩
 ·exact .inl rfl
theorem Gmk{c5 c7:Nat}{mo wy:Int}{x9 x11 x12:Option D}{sp:List Int}{rows:List Row}(d:Tp S t k)(m1:2<=m)(m2:m<=12)(w0:0<=wy)(q5:S[c5]?=some ⟨false,sp.map D.int⟩)(hsp:∀ x∈sp,0<=x/\x<m)(lsp:sp.length<1000)(q7:S[c7]?=some ⟨false,rows.map Hd⟩)(n1:c5≠t)(n2:c5≠k)(n3:c7≠t)(n4:c7≠k)(n5:c5≠c7)(lr:rows.length<1000):
  ∃ (r:Row) (S':Sto) (y6 y9 y10 y11 y12:Option D),Qc (Jn t c5 c7 cd mo wy m x6 x8 x9 x10 x11 x12) S=.nx (Jn t c5 c7 cd mo wy m y6 x8 y9 y10 y11 y12) S'/\Tp S' t k/\S'[c5]?=some ⟨false,sp.map D.int⟩/\S'[c7]?=some ⟨false,(rows++[r]).map Hd⟩/\RowG (m+1) r:=by
 have lt:=d.lt
 have l5:c5<S.length:=(List.getElem?_eq_some_iff.mp q5).1
 have l7:c7<S.length:=(List.getElem?_eq_some_iff.mp q7).1
 obtain⟨r1,S1,e1,r10,r11,d1,k1⟩:=draw (m:=5) (d.app (c:=⟨false,[]⟩)) (by decide) (by decide)
 have qa:S1[S.length]?=some ⟨false,[]⟩:=k1.at Hc (by omega) (by omega)
 obtain⟨n,hn⟩:∃ n:Nat,r1*(wy%2)=n:=⟨(r1*(wy%2)).toNat,by rcases(by omega:wy%2=0\/wy%2=1) with h | h<;>rw[h]<;>omega⟩
 have n4':n<=4:=by rcases(by omega:wy%2=0\/wy%2=1) with h | h<;>rw[h] at hn<;>omega
 obtain⟨as,S2,y10,y11,y12,ef,d2,k2,qs,la,ga⟩:=Gmj (S:=S) (c5:=c5) (c7:=c7) (cd:=cd) (mo:=mo) (wy:=wy) (x6:=x6) (x8:=x8) (x10:=x10) (x11:=x11) (x12:=x12) (n:=n) d d1 (Kp.app.trans k1) (Nat.le_refl _) qa n4' m2
 obtain⟨r3,x3,S3,e3,p3,m3,d3,k3⟩:=Ue (xs:=[.str "let",.str "right",.str "left",.str "feed"]) (m:=4) d2 rfl (by simp) (by simp)
 have k23:=k2.trans k3
 have qs3:S3[S.length]?=some ⟨false,as.map Hk⟩:=k3.at qs (by omega) (by omega)
 have mm:Jr (.int r1) (.int (wy%2)) S1=.ok (.int n) S1:=by rw[Gb0 (by omega) (by omega),hn]
 have mw:Wg (.int wy) (.int 2) S1=.ok (.int (wy%2)) S1:=Yz (by decide)
 have i1:=Ub (f:=ac (o2 Jr (cl 2 (Gn Gh) (ac (vr 0) (ac (cn (.int 5)) an))) (o2 Wg (vr 3) (cn (.int 2)))) an) (ρ:=Jn t c5 c7 cd mo wy m x6 x8 (some (.lst S.length)) x10 x11 x12) (S:=S++[⟨false,[]⟩]) (S':=S1) (n:=n) (by simp[Jn,e1,mw,mm]) (by omega)
 have tail:∀ (w:Str) (j:Nat) (S5:Sto),ddG (m+1) w j->Tp S5 t k->Kp S S5 t k->S5[S.length]?=some ⟨false,as.map Hk⟩->∃ (r:Row) (S':Sto),sx (mt Yi (vr 7) (ac (tp (ac (b1 Gad (ac (vr 9) an)) (ac (tp (ac (vr 11) (ac (vr 6) an))) an))) an)) (Jn t c5 c7 cd mo wy m (some (.int j)) x8 (some (.lst S.length)) y10 (some (.str w)) y12) S5=.nx (Jn t c5 c7 cd mo wy m (some (.int j)) x8 (some (.lst S.length)) y10 (some (.str w)) y12) S'/\Tp S' t k/\S'[c5]?=some ⟨false,sp.map D.int⟩/\S'[c7]?=some ⟨false,(rows++[r]).map Hd⟩/\RowG (m+1) r:=fun w j S5 hd d5 k5 q5'=>by
  have q7':=k5.at q7 n3 n4
  have lq:c7<S5.length:=(List.getElem?_eq_some_iff.mp q7').1
  have tu:=Gc6 q5'
  have ap:=Gc5 (d:=Hd ⟨as,w,j⟩) q7' (by simp; omega)
  have ap:Yi (.lst c7) [.tup [.tup (as.map Hk),.tup [.str w,.int j]]] S5=_:=ap
  simp only at tu
  refine⟨⟨as,w,j⟩,S5.set c7 ⟨false,rows.map Hd++[Hd ⟨as,w,j⟩]⟩,by simp[Jn,isL q7',tu,ap],d5.set n3 n4,by rw[List.getElem?_set_ne (Ne.symm n5)]; exact k5.at q5 n1 n2,by rw[List.getElem?_set_self lq]; simp,⟨ga,by show as.length<=4; omega,hd⟩⟩
 have pre:∀ f:Sv,sq (sa (ls an) (gn 9)) (sq (sfor (ir1 (ac (o2 Jr (cl 2 (Gn Gh) (ac (vr 0) (ac (cn (.int 5)) an))) (o2 Wg (vr 3) (cn (.int 2)))) an)) (gn 10) Kb) (sq (sa (o2 DL.getD (ls (ac (cn (.str "let")) (ac (cn (.str "right")) (ac (cn (.str "left")) (ac (cn (.str "feed")) an))))) (cl 2 (Gn Gh) (ac (vr 0) (ac (cn (.int 4)) an)))) (gn 11)) f)) (Jn t c5 c7 cd mo wy m x6 x8 x9 x10 x11 x12) S=f (Jn t c5 c7 cd mo wy m x6 x8 (some (.lst S.length)) y10 (some x3) y12) S3:=fun f=>by
  rw[Ku (ρ':=Jn t c5 c7 cd mo wy m x6 x8 (some (.lst S.length)) x10 x11 x12) (S1:=S++[⟨false,[]⟩]) (by simp[Jn])]
  rw[Ku (ρ':=Jn t c5 c7 cd mo wy m x6 x8 (some (.lst S.length)) y10 y11 y12) (S1:=S2) (by rw[Vi,i1]; exact ef)]
  rw[Ku (ρ':=Jn t c5 c7 cd mo wy m x6 x8 (some (.lst S.length)) y10 (some x3) y12) (S1:=S3) (by simp[Jn,e3,p3])]
 unfold Qc
 rw[pre]
 rcases Gug m3 with rfl | ⟨w,rfl,we,wg⟩
 ·obtain⟨r4,S4,e4,r40,r41,d4,k4⟩:=draw (m:=(m:Int)+1) d3 (by omega) (by omega)
  obtain⟨j,rfl⟩:∃ j:Nat,r4=j:=⟨r4.toNat,by omega⟩
  have k24:=k23.trans k4
  have qs4:S4[S.length]?=some ⟨false,as.map Hk⟩:=k4.at qs3 (by omega) (by omega)
  rw[Ku (ρ':=Jn t c5 c7 cd mo wy m (some (.int j)) x8 (some (.lst S.length)) y10 (some (.str "feed")) y12) (S1:=S4) (by simp[Jn,ell,Gnl,e4])]
  have q54:=k24.at q5 n1 n2
  have ne:neD (.lst c5) (.lst S4.length) (S4++[⟨false,[]⟩])=.ok (.bl (!decide (sp=[]))) (S4++[⟨false,[]⟩]):=Guf (M:=[]) ((Kp.app (t:=t) (k:=k)).at q54 n1 n2) Hc
  by_cases c:sp=[]
  ·obtain⟨r,S',f1,f2⟩:=tail "feed" j (S4++[⟨false,[]⟩]) (.inr (.inl ⟨rfl,by omega⟩)) d4.app k24.appq (Kp.app.at (t:=t) (k:=k) qs4 (by omega) (by omega))
   refine⟨r,S',some (.int j),some (.lst S.length),y10,some (.str "feed"),y12,?_,f2⟩
   ·rw[Ku (ρ':=Jn t c5 c7 cd mo wy m (some (.int j)) x8 (some (.lst S.length)) y10 (some (.str "feed")) y12) (S1:=S4++[⟨false,[]⟩]) (by simp[Jn,ell,ne,c])]
    exact f1
  ·obtain⟨r5,S5,e5,r50,r51,d5,k5⟩:=draw (m:=4) (d4.app (c:=⟨false,[]⟩)) (by decide) (by decide)
   have k25:=(k24.appq (c:=⟨false,[]⟩)).trans k5
   have qs5:S5[S.length]?=some ⟨false,as.map Hk⟩:=k5.at ((Kp.app (t:=t) (k:=k)).at qs4 (by omega) (by omega)) (by omega) (by omega)
   by_cases c2:0<r5
   ·have q55:=k25.at q5 n1 n2
    have ln:=Gjo q55
    simp only[List.length_map] at ln
    have lp:0<sp.length:=List.length_pos_iff.mpr c
    obtain⟨r6,S6,e6,r60,r61,d6,k6⟩:=draw (m:=(sp.length:Int)) d5 (by omega) (by omega)
    have q56:=k6.at q55 n1 n2
    obtain⟨v,hv⟩:=Yo (show r6.toNat<sp.length by omega)
    have gv:DL.getD (.lst c5) (.int r6) S6=.ok (.int v) S6:=Uc q56 (Kr r60 (by rw[List.getElem?_map,hv]; rfl))
    have hv2:=hsp v (Kj hv)
    obtain⟨j2,rfl⟩:∃ j:Nat,v=j:=⟨v.toNat,by omega⟩
    obtain⟨r,S',f1,f2⟩:=tail "feed" j2 S6 (.inr (.inl ⟨rfl,by omega⟩)) d6 (k25.trans k6) (k6.at qs5 (by omega) (by omega))
    refine⟨r,S',some (.int j2),some (.lst S.length),y10,some (.str "feed"),y12,?_,f2⟩
    ·rw[Ku (ρ':=Jn t c5 c7 cd mo wy m (some (.int j2)) x8 (some (.lst S.length)) y10 (some (.str "feed")) y12) (S1:=S6) (by simp[Jn,ell,ne,c,e5,c2,ln,e6,gv])]
     exact f1
   ·obtain⟨r,S',f1,f2⟩:=tail "feed" j S5 (.inr (.inl ⟨rfl,by omega⟩)) d5 k25 qs5
    refine⟨r,S',some (.int j),some (.lst S.length),y10,some (.str "feed"),y12,?_,f2⟩
    ·rw[Ku (ρ':=Jn t c5 c7 cd mo wy m (some (.int j)) x8 (some (.lst S.length)) y10 (some (.str "feed")) y12) (S1:=S5) (by simp[Jn,ell,ne,c,e5,c2])]
     exact f1
 ·obtain⟨r4,S4,e4,r40,r41,d4,k4⟩:=draw (m:=(m:Int)) d3 (by omega) (by omega)
  obtain⟨j,rfl⟩:∃ j:Nat,r4=j:=⟨r4.toNat,by omega⟩
  obtain⟨r,S',f1,f2⟩:=tail w j S4 (wg _ _ (by omega)) d4 (k23.trans k4) (k4.at qs3 (by omega) (by omega))
  refine⟨r,S',some (.int j),some (.lst S.length),y10,some (.str w),y12,?_,f2⟩
  ·rw[Ku (ρ':=Jn t c5 c7 cd mo wy m (some (.int j)) x8 (some (.lst S.length)) y10 (some (.str w)) y12) (S1:=S4) (by simp[Jn,we,Gnl,e4])]
   rw[Ku (ρ':=Jn t c5 c7 cd mo wy m (some (.int j)) x8 (some (.lst S.length)) y10 (some (.str w)) y12) (S1:=S4) (by simp[Jn,we])]
   exact f1
section
variable{S:Sto}{t k m:Nat}{ps:List Pl}{us:List Bool}{mo:Int}
theorem Gf8(C:Can ps us m){f:Ev Src}(hf:f ρ S=.ok (rsrc 0 m) S)(hp:pkS [none,some 1] ρ=[none,some (cD ps us)]):
  ∃ (sp:List Int) (S':Sto),cmp f [none,some 1] (gn 0) (ta (tb (o2 eqD (o2 DL.getD (o2 DL.getD (o2 DL.getD (vr 1) (cn (.int 0))) (vr 0)) (cn (.int 0))) (cn (.str "pound")))) (tb (o2 Xl (o2 DL.getD (o2 DL.getD (o2 DL.getD (vr 1) (cn (.int 0))) (vr 0)) (cn (.int 4))) (cn .non)))) (vr 0) ρ S=.ok (.lst S.length) S'/\S'[S.length]?=some ⟨false,sp.map D.int⟩/\(∀ x∈sp,0<=x/\x<m)/\sp.length<=m/\Ex S S':=by
 have m2:=C.m2
 have len:=C.len
 obtain⟨ρ',S',ef,g,sp,rfl,q,b,l,ex⟩:=Jf (nxt:=(rsrc 0 m).nxt) (g:=gn 0) (b:=cbody S.length (ta (tb (o2 eqD (o2 DL.getD (o2 DL.getD (o2 DL.getD (vr 1) (cn (.int 0))) (vr 0)) (cn (.int 0))) (cn (.str "pound")))) (tb (o2 Xl (o2 DL.getD (o2 DL.getD (o2 DL.getD (vr 1) (cn (.int 0))) (vr 0)) (cn (.int 4))) (cn .non)))) (vr 0)) (l:=(List.range m).map fun k:Nat=>D.int (k:Int))
  (fun i ρ S'=>∃ (g:Option D) (sp:List Int),ρ=[g,some (cD ps us)]/\S'[S.length]?=some ⟨false,sp.map D.int⟩/\(∀ x∈sp,0<=x/\x<m)/\sp.length<=i/\Ex S S')
  (fun i _ S _=>Kn) (fun i dt ρ S1 hd ⟨g,sp,e,q,b,l,ex⟩=>by
   obtain⟨hi,rfl⟩:=Uy hd
   subst e
   obtain⟨p,hp⟩:=Yo (show i<ps.length by omega)
   obtain⟨bb,tst⟩:=Ggs (S:=S1) (us:=us) (a:=1) (c:=0) (ρ:=[some (.int i),some (cD ps us)]) (C.ok p (Kj hp)) hp rfl rfl
   have lq:S.length<S1.length:=(List.getElem?_eq_some_iff.mp q).1
   cases bb
   ·refine⟨[some (.int i),some (cD ps us)],[some (.int i),some (cD ps us)],S1,rfl,?_,some (.int i),sp,rfl,q,b,by omega,ex⟩
    show bindS _ _ _=_
    rw[tst]; rfl
   ·refine⟨[some (.int i),some (cD ps us)],[some (.int i),some (cD ps us)],S1.set S.length ⟨false,sp.map D.int++[.int i]⟩,rfl,?_,some (.int i),sp++[(i:Int)],rfl,by rw[List.getElem?_set_self lq]; simp,fun x hx=>?_,by simp; omega,ex.setq (Nat.le_refl _)⟩
    ·show bindS _ _ _=_
     rw[tst]
     simp[q]
     omega
    ·rcases List.mem_append.mp hx with hx | hx
     ·exact b x hx
     ·rw[List.mem_singleton.mp hx]; omega)
  (rsrc 0 m).fuel 0 [none,some (cD ps us)] (S++[⟨false,[]⟩]) (Nat.zero_le _) ⟨none,[],rfl,by simp[Hc],by simp,by simp,Ex.app⟩ (by simp[rsrc])
 exact⟨sp,S',Zd hf (by rw[hp]; exact ef),q,b,by simpa using l,ex⟩
theorem Gml(d:Tp S t k)(C:Can ps us m)(h0:0<=mo)(h1:mo<=12):∃ (rows:List Row) (S':Sto),Vc [.lst t,cD ps us,.int mo] S=.ok (.tup (rows.map Hd)) S'/\(∀ r∈rows,RowG ps.length r)/\rows.length<=100/\Tp S' t k:=by
 have m1:=C.m1
 have m2:=C.m2
 have len:=C.len
 obtain⟨wy,S1,e1,w0,w1,d1,k1⟩:=draw (m:=3) d (by decide) (by decide)
 have g0:=fun S=>cd0 (ps:=ps) (us:=us) (S:=S)
 have ln:∀ S,Gz [.tup (ps.map Pl.toD)] S=.ok (.int ((m:Int)+1)) S:=fun S=>by simp[Gz,len]
 unfold Vc
 rw[Hm]
 simp only[Xx]
 by_cases c:wy=2/\(mo=12\/(m:Int)+1<6)
 ·obtain⟨rows,S2,e2,g2,n2,d2⟩:=Ghq d1 C
  refine⟨rows,S2,?_,g2,n2,d2⟩
  generalize cD ps us=cd at *
  obtain⟨c1,c2⟩:=c
  by_cases c3:mo=12
  ·simp[e1,c1,c3,e2,fin]
  ·have c4:(m:Int)+1<6:=by omega
   simp[e1,c1,c3,g0,ln,c4,e2,fin]
 have no:(ta (tb (o2 eqD (vr 3) (cn (.int 2)))) (DL.to (tb (o2 eqD (vr 2) (cn (.int 12)))) (tb (o2 ltD (b1 Gz (ac (o2 DL.getD (vr 1) (cn (.int 0))) an)) (cn (.int 6)))))) [some (.lst t),some (cD ps us),some (.int mo),some (.int wy),none,none,none,none,none,none,none,none,none] S1=.ok false S1:=by
  by_cases c1:wy=2
  ·have c3:mo≠12:=fun h=>c ⟨c1,.inl h⟩
   have c4:¬ (m:Int)+1<6:=fun h=>c ⟨c1,.inr h⟩
   simp[c1,c3,g0,ln,c4]
  ·simp[c1]
 obtain⟨sp,S2,e2,q2,b2,l2,x2⟩:=Gf8 (S:=S1) C (f:=ir1 (ac (vr 4) an)) (ρ:=[some (.lst t),some (cD ps us),some (.int mo),some (.int wy),some (.int m),none,none,none,none,none,none,none,none]) (Ub (by simp) (by omega)) rfl
 have d2:=d1.ext x2
 have lt:=d1.lt
 have l12:S1.length<S2.length:=(List.getElem?_eq_some_iff.mp q2).1
 obtain⟨r3,S3,e3,r30,r31,d3,k3⟩:=draw (m:=mo+1) (d2.app (c:=⟨false,[]⟩)) (by omega) (by omega)
 obtain⟨n,rfl⟩:∃ n:Nat,r3=n:=⟨r3.toNat,by omega⟩
 have q53:S3[S1.length]?=some ⟨false,sp.map D.int⟩:=k3.at (Ex.app.at q2) (by omega) (by omega)
 have q73:S3[S2.length]?=some ⟨false,[]⟩:=k3.at Hc (by omega) (by omega)
 obtain⟨ρ',S',ef,rows,x6,x8,x9,x10,x11,x12,rfl,d4,q54,q74,l4,g4⟩:=Jf (nxt:=(rsrc 0 n).nxt) (g:=gn 8) (b:=Qc) (l:=(List.range n).map fun k:Nat=>D.int (k:Int))
  (fun i ρ S'=>∃ (rows:List Row) (x6 x8 x9 x10 x11 x12:Option D),ρ=Jn t S1.length S2.length (cD ps us) mo wy m x6 x8 x9 x10 x11 x12/\Tp S' t k/\S'[S1.length]?=some ⟨false,sp.map D.int⟩/\S'[S2.length]?=some ⟨false,rows.map Hd⟩/\rows.length=i/\∀ r∈rows,RowG (m+1) r)
  (fun i _ S _=>Kn) (fun i dt ρ S1' hd ⟨rows,x6,x8,x9,x10,x11,x12,e,d',q5,q7,l,g⟩=>by
   obtain⟨hi,rfl⟩:=Uy hd
   subst e
   obtain⟨r,S',y6,y9,y10,y11,y12,f1,f2,f3,f4,f5⟩:=Gmk (cd:=cD ps us) (mo:=mo) (x6:=x6) (x8:=some (.int i)) (x9:=x9) (x10:=x10) (x11:=x11) (x12:=x12) d' m1 m2 w0 q5 b2 (by omega) q7 (by omega) (by omega) (by omega) (by omega) (by omega) (by omega)
   refine⟨_,_,S',rfl,f1,rows++[r],y6,some (.int i),y9,y10,y11,y12,rfl,f2,f3,f4,by simp[l],fun r' hr=>?_⟩
   rcases List.mem_append.mp hr with hr | hr
   ·exact g r' hr
   ·rw[List.mem_singleton.mp hr]; exact f5)
  (rsrc 0 n).fuel 0 (Jn t S1.length S2.length (cD ps us) mo wy m none none none none none none) S3 (Nat.zero_le _) ⟨[],none,none,none,none,none,none,rfl,d3,q53,q73,rfl,by simp⟩ (by simp[rsrc])
 simp only[List.length_map,List.length_range] at l4
 refine⟨rows,S',?_,by rw[len]; exact g4,by omega,d4⟩
 have tu:=Gc6 q74
 simp only at tu
 have i3:=Ub (f:=ac (cl 2 (Gn Gh) (ac (vr 0) (ac (o2 Hg (vr 2) (cn (.int 1))) an))) an) (ρ:=Jn t S1.length S2.length (cD ps us) mo wy m none none none none none none) (S:=S2++[⟨false,[]⟩]) (S':=S3) (n:=n) (by simp[Jn,e3]) (by omega)
 refine(Gw (ρ':=[some (.lst t),some (cD ps us),some (.int mo),some (.int wy),none,none,none,none,none,none,none,none,none]) (S':=S1) (by simp[e1])).trans ?_
 refine(Gw (ρ':=[some (.lst t),some (cD ps us),some (.int mo),some (.int wy),none,none,none,none,none,none,none,none,none]) (S':=S1) (by rw[Ge3 no]; rfl)).trans ?_
 refine(Gw (ρ':=[some (.lst t),some (cD ps us),some (.int mo),some (.int wy),some (.int m),none,none,none,none,none,none,none,none]) (S':=S1) (by simp[g0,ln])).trans ?_
 refine(Gw (ρ':=[some (.lst t),some (cD ps us),some (.int mo),some (.int wy),some (.int m),some (.lst S1.length),none,none,none,none,none,none,none]) (S':=S2) (by rw[Qh,e2]; rfl)).trans ?_
 refine(Gw (ρ':=Jn t S1.length S2.length (cD ps us) mo wy m none none none none none none) (S':=S2++[⟨false,[]⟩]) (by simp[Jn])).trans ?_
 refine(Gw (ρ':=Jn t S1.length S2.length (cD ps us) mo wy m x6 x8 x9 x10 x11 x12) (S':=S') (by rw[Vi,i3]; exact ef)).trans ?_
 simp[Jn,tu,fin]
end
structure Kx(lo:Nat->Prop)(S S':Sto):Prop where
 len:S.length<=S'.length
 get:∀ i,lo i->i<S.length->S'[i]?=S[i]?
def ge(n:Nat):Nat->Prop:=fun i=>n<=i
def Pc(t k c:Nat):Nat->Prop:=fun i=>i≠t/\i≠k/\i≠c
theorem Kx.refl{lo:Nat->Prop}:Kx lo S S:=⟨Nat.le_refl _,fun _ _ _=>rfl⟩
theorem Kx.trans{lo:Nat->Prop}(a:Kx lo S S1)(b:Kx lo S1 S2):Kx lo S S2:=⟨Nat.le_trans a.len b.len,fun i h h2=>(b.get i h (Nat.lt_of_lt_of_le h2 a.len)).trans (a.get i h h2)⟩
theorem Kx.kpn{lo:Nat}(h:Kp S S' t k)(ht:t<lo)(hk:k<lo):Kx (ge lo) S S':=⟨h.len,fun i (hi:lo<=i) hl=>h.get i hl (by omega) (by omega)⟩
theorem Kx.kp{c:Nat}(h:Kp S S' t k):Kx (Pc t k c) S S':=⟨h.len,fun i hi hl=>h.get i hl hi.1 hi.2.1⟩
theorem Kx.ex{lo:Nat->Prop}(h:Ex S S'):Kx lo S S':=⟨h.len,fun i _ hl=>h.get i hl⟩
theorem Kx.setn{lo:Nat}(h:q<lo):Kx (ge lo) S (S.set q c):=⟨by simp,fun i (hi:lo<=i) hl=>List.getElem?_set_ne (by omega)⟩
theorem Kx.setc:Kx (Pc t k q) S (S.set q c):=⟨by simp,fun i hi hl=>List.getElem?_set_ne (Ne.symm hi.2.2)⟩
theorem Kx.app{lo:Nat->Prop}:Kx lo S (S++[c]):=.ex .app
theorem Kx.lo{lo lo':Nat->Prop}(h:Kx lo S S')(hl:∀ i,i<S.length->lo' i->lo i):Kx lo' S S':=⟨h.len,fun i hi h2=>h.get i (hl i h2 hi) h2⟩
theorem Kx.at{lo:Nat->Prop}(h:Kx lo S S')(e:S[q]?=some c)(hq:lo q):S'[q]?=some c:=(h.get q hq (List.getElem?_eq_some_iff.mp e).1).trans e
structure Gq(p:PyData)(e:Nat):Prop where
 sh:p.showable=true
 nd:p.hasDict=false
 dp:p.depth<=e
 ok:PyData.strOk p.shown=true
 lay:p.canLay0=true
theorem Gq.mono{p:PyData}{e e':Nat}(h:Gq p e)(h2:e<=e'):Gq p e':=⟨h.sh,h.nd,Nat.le_trans h.dp h2,h.ok,h.lay⟩
def Shx(lo:Nat->Prop)(S:Sto)(d:D)(b e:Nat):Prop:=∃ p,(∀ S',Kx lo S S'->∀ n,e<n->toP S' n d=some p)/\Gq p e/\p.shown.length<=b
def Shs(lo:Nat->Prop)(S:Sto)(l:List D)(tot e:Nat):Prop:=∃ ps,(∀ S',Kx lo S S'->∀ n,e<n->Hq (toP S' n) l=some ps)/\ps.length=l.length/\(∀ p∈ps,Gq p e)/\(ps.map fun p=>p.shown.length).sum<=tot
section
variable{lo lo':Nat->Prop}{S S1:Sto}{d x:D}{b b' e e' tot tot':Nat}{l m:List D}
theorem Shx.mono(h:Shx lo S d b e)(h1:b<=b')(h2:e<=e'):Shx lo S d b' e':=by
 obtain⟨p,a,g,hl⟩:=h
 exact⟨p,fun S' x n hn=>a S' x n (by omega),g.mono h2,Nat.le_trans hl h1⟩
theorem Shx.to(h:Shx lo S d b e)(x:Kx lo S S1):Shx lo S1 d b e:=by
 obtain⟨p,a,g⟩:=h
 exact⟨p,fun S' x' n hn=>a S' (x.trans x') n hn,g⟩
theorem Shx.low(h:Shx lo S d b e)(hl:∀ i,i<S.length->lo i->lo' i):Shx lo' S d b e:=by
 obtain⟨p,a,g⟩:=h
 exact⟨p,fun S' x' n hn=>a S' (x'.lo hl) n hn,g⟩
theorem Shs.mono(h:Shs lo S l tot e)(h1:tot<=tot')(h2:e<=e'):Shs lo S l tot' e':=by
 obtain⟨ps,a,hl,g,ht⟩:=h
 exact⟨ps,fun S' x n hn=>a S' x n (by omega),hl,fun p hp=>(g p hp).mono h2,Nat.le_trans ht h1⟩
theorem Shs.low(h:Shs lo S l tot e)(hl:∀ i,i<S.length->lo i->lo' i):Shs lo' S l tot e:=by
 obtain⟨ps,a,g⟩:=h
 exact⟨ps,fun S' x' n hn=>a S' (x'.lo hl) n hn,g⟩
theorem Ko:Shs lo S [] 0 e:=⟨[],fun _ _ _ _=>rfl,rfl,(fun p hp=>by cases hp),by simp⟩
theorem Hu(h:Shx lo S x b e)(hs:Shs lo S l tot e):Shs lo S (x::l) (b+tot) e:=by
 obtain⟨p,a,g,hb⟩:=h
 obtain⟨ps,a2,hl,g2,ht⟩:=hs
 refine⟨p::ps,fun S' x' n hn=>by simp only[Hq,a S' x' n hn,a2 S' x' n hn],by simp[hl],fun q hq=>?_,by simp only[List.map_cons,List.sum_cons]; omega⟩
 rcases List.mem_cons.mp hq with rfl | hq
 ·exact g
 ·exact g2 q hq
theorem mapO_app{α β:Type}{f:α->Option β}:∀ {l m:List α} {ys zs:List β},Hq f l=some ys->Hq f m=some zs->Hq f (l++m)=some (ys++zs)
 | [],m,ys,zs,h1,h2=>by cases (Option.some.inj h1); exact h2
 | x::l,m,ys,zs,h1,h2=>by
  simp only[Hq] at h1
  split at h1
  ·rename_i y r e1 e2
   cases h1
   show Hq f (x::(l++m))=some (y::(r++zs))
   simp only[Hq,e1,mapO_app e2 h2]
  ·cases h1
theorem Gd8(h:Shs lo S l tot e)(h2:Shs lo S m tot' e):Shs lo S (l++m) (tot+tot') e:=by
 obtain⟨ps,a,hl,g,ht⟩:=h
 obtain⟨qs,a2,hl2,g2,ht2⟩:=h2
 refine⟨ps++qs,fun S' x' n hn=>mapO_app (a S' x' n hn) (a2 S' x' n hn),by simp[hl,hl2],fun p hp=>?_,by simp only[List.map_append,List.sum_append]; omega⟩
 rcases List.mem_append.mp hp with hp | hp
 ·exact g p hp
 ·exact g2 p hp
theorem Jg:∀ {l:List D},(∀ d∈l,Shx lo S d b e)->Shs lo S l (b*l.length) e
 | [],_=>Ko
 | x::l,h=>by
  have:=Hu (h x List.mem_cons_self) (Jg fun d hd=>h d (List.mem_cons_of_mem _ hd))
  exact this.mono (by rw[List.length_cons,Nat.mul_add]; omega) (Nat.le_refl _)
theorem Gfc:∀ ts:List Str,(Str.join ", " ts).length<=(ts.map (·.length)).sum+2*ts.length
 | []=>Nat.le_of_eq (by rfl)
 | [x]=>by show x.length<=_; simp
 | x::y::r=>by
  have:=Gfc (y::r)
  show(x++", "++Str.join ", " (y::r)).length<=_
  rw[Str.length_append,Str.length_append]
  have e2:((", ":String):Str).length=2:=rfl
  rw[e2]
  simp only[List.map_cons,List.sum_cons,List.length_cons] at this ⊢
  omega
theorem Gfd:∀ ts:List Str,(∀ t∈ts,PyData.strOk t=true)->PyData.strOk (Str.join ", " ts)=true
 | [],_=>by decide +kernel
 | [x],h=>h x List.mem_cons_self
 | x::y::r,h=>by
  show PyData.strOk (x++", "++Str.join ", " (y::r))=true
  exact Xc (Xc (h x List.mem_cons_self) (stok _)) (Gfd (y::r) fun t ht=>h t (List.mem_cons_of_mem _ ht))
theorem Gfe:∀ (ts:List Str) (k:Nat) (acc:Str),(textFrom k acc ts).length<=acc.length+(ts.map (·.length)).sum+2*ts.length
 | [],k,acc=>by show acc.length<=_; simp
 | t::ts,k,acc=>by
  have e2:∀ b:Bool,(((if b=true then ", " else "":String):Str)).length<=2:=fun b=>by cases b<;>decide +kernel
  have h:=Gfe ts (k+1) (acc++((if k>0 then ", " else "":String):Str)++t)
  refine Nat.le_trans h ?_
  have:=e2 (decide (k>0))
  rw[Str.length_append,Str.length_append]
  simp only[List.map_cons,List.sum_cons,List.length_cons]
  by_cases c:k>0
  ·rw[decide_eq_true c] at this; simp only[if_true] at this; rw[if_pos c]; omega
  ·rw[decide_eq_false c] at this; simp only[Bool.false_eq_true,if_false] at this; rw[if_neg c]; omega
theorem Gff:∀ (ts:List Str) (k:Nat) (acc:Str),PyData.strOk acc=true->(∀ t∈ts,PyData.strOk t=true)->PyData.strOk (textFrom k acc ts)=true
 | [],k,acc,h,_=>h
 | t::ts,k,acc,h,ht=>Gff ts (k+1) _ (Xc (Xc h (stok _)) (ht t List.mem_cons_self)) fun u hu=>ht u (List.mem_cons_of_mem _ hu)
theorem all_map:∀ ps:List PyData,PyData.shownAll ps=ps.map PyData.shown
 | []=>rfl
 | p::r=>by show p.shown::PyData.shownAll r=_; rw[all_map r]; rfl
theorem Gf9{e:Nat}:∀ {ps:List PyData},(∀ p∈ps,Gq p e)->PyData.showableAll ps=true/\PyData.hasDictAll ps=false/\PyData.depthAll ps<=e/\PyData.canLayAll0 ps=true
 | [],_=>⟨rfl,rfl,Nat.zero_le _,rfl⟩
 | p::r,h=>by
  have hp:=h p List.mem_cons_self
  obtain⟨a1,a2,a3,a4⟩:=Gf9 (ps:=r) fun q hq=>h q (List.mem_cons_of_mem _ hq)
  refine⟨?_,?_,?_,?_⟩
  ·show(p.showable&&PyData.showableAll r)=true; rw[hp.sh,a1]; rfl
  ·show(p.hasDict||PyData.hasDictAll r)=false; rw[hp.nd,a2]; rfl
  ·show max p.depth (PyData.depthAll r)<=e; exact Nat.max_le.mpr ⟨hp.dp,a3⟩
  ·show(p.canLay0&&PyData.canLayAll0 r)=true; rw[hp.lay,a4]; rfl
theorem Gq2{ps:List PyData}(h:∀ p∈ps,Gq p e):Gq (.tuple ps) (e+1)/\(PyData.tuple ps).shown.length<=(ps.map fun p=>p.shown.length).sum+2*ps.length+3:=by
 obtain⟨a1,a2,a3,a4⟩:=Gf9 h
 have hs:∀ t∈ps.map PyData.shown,PyData.strOk t=true:=fun t ht=>by obtain⟨p,hp,rfl⟩:=List.mem_map.mp ht; exact(h p hp).ok
 refine⟨⟨by simpa[PyData.showable] using a1,by simpa[PyData.hasDict] using a2,by simp only[PyData.depth]; omega,?_,by simpa[PyData.canLay0] using a4⟩,?_⟩
 ·show PyData.strOk (tupleText (PyData.shownAll ps))=true
  rw[all_map]
  unfold tupleText
  exact Xc (Xc (stok _) (Gfd _ hs)) (stok _)
 ·show(tupleText (PyData.shownAll ps)).length<=_
  rw[all_map]
  unfold tupleText
  rw[Str.length_append,Str.length_append]
  have h1:=Gfc (ps.map PyData.shown)
  rw[List.map_map,List.length_map] at h1
  have e1:(("(":String):Str).length=1:=rfl
  have e2:∀ b:Bool,(((if b=true then ",)" else ")":String):Str)).length<=2:=fun b=>by cases b<;>decide +kernel
  have:=e2 ((ps.map PyData.shown).length==1)
  rw[e1]
  have h1:(Str.join ", " (ps.map PyData.shown)).length<=(ps.map fun p=>p.shown.length).sum+2*ps.length:=h1
  omega
theorem Gq3{ps:List PyData}(h:∀ p∈ps,Gq p e):Gq (.list ps) (e+1)/\(PyData.list ps).shown.length<=(ps.map fun p=>p.shown.length).sum+2*ps.length+3:=by
 obtain⟨a1,a2,a3,a4⟩:=Gf9 h
 have hs:∀ t∈ps.map PyData.shown,PyData.strOk t=true:=fun t ht=>by obtain⟨p,hp,rfl⟩:=List.mem_map.mp ht; exact(h p hp).ok
 refine⟨⟨by simpa[PyData.showable] using a1,by simpa[PyData.hasDict] using a2,by simp only[PyData.depth]; omega,?_,by simpa[PyData.canLay0] using a4⟩,?_⟩
 ·show PyData.strOk (listText (PyData.shownAll ps))=true
  rw[all_map]
  unfold listText
  exact Xc (Gff _ 0 _ (stok _) hs) (stok _)
 ·show(listText (PyData.shownAll ps)).length<=_
  rw[all_map]
  unfold listText
  rw[Str.length_append]
  have h1:=Gfe (ps.map PyData.shown) 0 "["
  rw[List.map_map,List.length_map] at h1
  have e1:(("[":String):Str).length=1:=rfl
  have e2:(("]":String):Str).length=1:=rfl
  rw[e1] at h1
  rw[e2]
  have h1:(textFrom 0 "[" (ps.map PyData.shown)).length<=1+(ps.map fun p=>p.shown.length).sum+2*ps.length:=h1
  omega
theorem Hw(h:Shs lo S l tot e):Shx lo S (.tup l) (tot+2*l.length+3) (e+1):=by
 obtain⟨ps,a,hl,g,ht⟩:=h
 obtain⟨g1,g2⟩:=Gq2 g
 refine⟨.tuple ps,fun S' x n hn=>?_,g1,by omega⟩
 obtain⟨m,rfl⟩:∃ m,n=m+1:=⟨n-1,by omega⟩
 show(Hq (toP S' m) l).map PyData.tuple=_
 rw[a S' x m (by omega)]
 rfl
theorem Xd(hq:S[q]?=some ⟨fz,l⟩)(h:Shs lo S l tot e)(hlo:lo q):Shx lo S (.lst q) (tot+2*l.length+3) (e+1):=by
 obtain⟨ps,a,hl,g,ht⟩:=h
 obtain⟨g1,g2⟩:=Gq3 g
 refine⟨.list ps,fun S' x n hn=>?_,g1,by omega⟩
 obtain⟨m,rfl⟩:∃ m,n=m+1:=⟨n-1,by omega⟩
 show(match S'[q]? with | some c=>(Hq (toP S' m) c.xs).map PyData.list | none=>none)=_
 rw[x.at hq hlo]
 show(Hq (toP S' m) l).map PyData.list=_
 rw[a S' x m (by omega)]
 rfl
theorem Zr{P:PyData}(h:∀ (S':Sto) m,toP S' (m+1) d=some P)(g:Gq P 0)(hb:P.shown.length<=b):Shx lo S d b 0:=⟨P,fun S' _ n hn=>by obtain⟨m,rfl⟩:∃ m,n=m+1:=⟨n-1,by omega⟩; exact h S' m,g,hb⟩
theorem Gmm(s:String):(Str.ofString s).length=s.toList.length:=by
 rw[Str.ofString_eq_toList]
 show(Array.size _)=_
 simp
theorem Gmn{i:Int}(h:i.natAbs<10^60):(Str.ofString (toString i)).length<=61:=by
 rw[Gmm]
 cases i with
 | ofNat m=>
  show(Nat.repr m).toList.length<=61
  have:=(Nat.length_toDigits_le_iff (b:=10) (n:=m) (k:=60) (by decide) (by decide)).mpr h
  simp only[Nat.repr,String.toList_ofList]
  omega
 | negSucc m=>
  show("-"++Nat.repr (m+1)).toList.length<=61
  have:=(Nat.length_toDigits_le_iff (b:=10) (n:=m+1) (k:=60) (by decide) (by decide)).mpr h
  simp only[Nat.repr,String.toList_append,String.toList_ofList,List.length_append]
  have:("-":String).toList.length=1:=rfl
  omega
theorem Gd9{i:Int}(h:i.natAbs<10^60):Shx lo S (.int i) 61 0:=by
 refine Zr (P:=.int i) (fun _ _=>rfl) ⟨?_,rfl,Nat.le_refl _,?_,rfl⟩ ?_
 ·show decide (i.natAbs.log2<1920)=true
  refine decide_eq_true ?_
  by_cases c:i.natAbs=0
  ·rw[c]; decide
  ·refine Nat.lt_of_lt_of_le ((Nat.log2_lt c).mpr (show i.natAbs<2^200 from Nat.lt_trans h (by decide))) (by decide)
 ·show PyData.strOk (Str.ofString (toString i))=true; exact stok _
 ·show(Str.ofString (toString i)).length<=61; exact Gmn h
theorem Ghr:∀ n:Nat,n<1001->(Str.ofString (toString (n:Int))).length<=5:=by decide +kernel
theorem Qm{i:Int}(h0:0<=i)(h1:i<=1000):Shx lo S (.int i) 5 0:=by
 have big:(1001:Nat)<10^60:=by decide
 obtain⟨p,a,g,_⟩:=Gd9 (lo:=lo) (S:=S) (i:=i) (by omega)
 have:p=.int i:=by have:=a S .refl 1 (by decide); exact(Option.some.inj this).symm
 subst this
 refine⟨.int i,a,g,?_⟩
 obtain⟨n,rfl⟩:∃ n:Nat,i=n:=⟨i.toNat,by omega⟩
 exact Ghr n (by omega)
theorem Gea{v:Bool}:Shx lo S (.bl v) 61 0:=by
 refine Zr (P:=.bool v) (fun _ _=>rfl) ⟨rfl,rfl,Nat.le_refl _,?_,rfl⟩ ?_
 ·cases v<;>decide +kernel
 ·cases v<;>decide +kernel
theorem Zs:Shx lo S .non 61 0:=Zr (P:=.none) (fun _ _=>rfl) ⟨rfl,rfl,Nat.le_refl _,by decide +kernel,rfl⟩ (by decide +kernel)
theorem Zt{s:Str}(h0:PyData.strOk s=true)(h:PyData.strOk (reprText s)=true)(hl:(reprText s).length<=61):Shx lo S (.str s) 61 0:=Zr (P:=.str s) (fun _ _=>rfl) ⟨rfl,rfl,Nat.le_refl _,h,h0⟩ hl
theorem Shx.lown(h:Shx (ge n) S d b e)(hl:n'<=n):Shx (ge n') S d b e:=h.low fun i _ hi=>Nat.le_trans hl hi
theorem Shs.lown(h:Shs (ge n) S l tot e)(hl:n'<=n):Shs (ge n') S l tot e:=h.low fun i _ hi=>Nat.le_trans hl hi
theorem mapO_take{α β:Type}{f:α->Option β}:∀ {l:List α} {ys:List β} (n:Nat),Hq f l=some ys->Hq f (l.take n)=some (ys.take n)
 | [],ys,n,h=>by cases (Option.some.inj h); simp[Hq]
 | x::l,ys,0,h=>by simp[Hq]
 | x::l,ys,n+1,h=>by
  simp only[Hq] at h
  split at h
  ·rename_i y r e1 e2
   cases h
   simp only[List.take_succ_cons,Hq,e1,mapO_take n e2]
  ·cases h
theorem Gfg:∀ (l:List Nat) (n:Nat),(l.take n).sum<=l.sum
 | [],n=>by simp
 | x::l,0=>by simp
 | x::l,n+1=>by have:=Gfg l n; simp; omega
theorem Gjv(n:Nat)(h:Shs lo S l tot e):Shs lo S (l.take n) tot e:=by
 obtain⟨ps,a,hl,g,ht⟩:=h
 refine⟨ps.take n,fun S' x' m hm=>mapO_take n (a S' x' m hm),by simp[hl],fun p hp=>g p (List.mem_of_mem_take hp),?_⟩
 rw[List.map_take]
 exact Nat.le_trans (Gfg _ n) ht
theorem Shx.newc{c c':Nat}(h:Shx (Pc t k c) S d b e)(hl:S.length<=c'):Shx (Pc t k c') S d b e:=h.low fun i hi ⟨h1,h2,_⟩=>⟨h1,h2,by omega⟩
theorem Shx.ofn{c:Nat}(h:Shx (ge n) S d b e)(h1:t<n)(h2:k<n)(h3:c<n):Shx (Pc t k c) S d b e:=h.low fun i _ (hi:n<=i)=>⟨by omega,by omega,by omega⟩
end
def bnd:Nat->Nat
 | 0=>61
 | n+1=>4*bnd n+11
theorem Gjw:∀ e,61<=bnd e
 | 0=>Nat.le_refl _
 | n+1=>by have:=Gjw n; show 61<=4*bnd n+11; omega
def Gq4(f:Fn)(e:Nat):Prop:=∀ (S:Sto) (t k:Nat),Tp S t k->∃ x S',f [.lst t,.int e] S=.ok x S'/\Shx (ge S.length) S' x (bnd e) e/\Tp S' t k/\Kp S S' t k
def CS:List Nat:=(Str.ofString "leftmostighrd 01").cps.toList
theorem Gjx:∀ c∈CS,c<16^8:=by decide +kernel
theorem Gmo:∀ c∈CS,((PySem.Builtin.Str.reprChar 34 c).all (fun x=>decide (x<1114112))&&(PySem.Builtin.Str.reprChar 39 c).all (fun x=>decide (x<1114112)))=true:=by decide +kernel
theorem Gs5:∀ c∈CS,decide (c<1114112)=true:=by decide +kernel
theorem Gq5:CS.length=16:=by decide +kernel
theorem Gc8{q:Nat}(hq:q=34\/q=39):∀ (l:List Nat) (acc:Array Nat),acc.all (fun x=>decide (x<1114112))=true->(∀ c∈l,c∈CS)->(l.foldl (fun out c=>out++(PySem.Builtin.Str.reprChar q c).toArray) acc).all (fun x=>decide (x<1114112))=true
 | [],acc,h,_=>h
 | c::r,acc,h,hc=>by
  rw[List.foldl_cons]
  refine Gc8 hq r _ ?_ fun d hd=>hc d (List.mem_cons_of_mem _ hd)
  rw[Array.all_append,h]
  have:=Gmo c (hc c List.mem_cons_self)
  rw[Bool.and_eq_true] at this
  rcases hq with rfl | rfl
  ·simpa using this.1
  ·simpa using this.2
theorem Gq6{x:Str}(hx:∀ c∈x.cps.toList,c∈CS):PyData.strOk (reprText x)=true:=by
 have hq:reprQuote x=34\/reprQuote x=39:=by unfold reprQuote; split; exact .inl rfl; exact .inr rfl
 unfold PyData.strOk reprText
 rw[Array.all_push,<- Array.foldl_toList,Gc8 hq _ _ ?_ hx]
 ·rcases hq with h | h<;>rw[h]<;>rfl
 ·rcases hq with h | h<;>rw[h]<;>decide +kernel
theorem Gfh{P:Nat->Prop}:∀ (ps:List Str) (acc:Array Nat),(∀ c∈acc.toList,P c)->(∀ p∈ps,∀ c∈p.cps.toList,P c)->∀ c∈(ps.foldl (fun acc p=>acc++Str.empty.cps++p.cps) acc).toList,P c
 | [],acc,h,_=>h
 | p::r,acc,h,hp=>by
  rw[List.foldl_cons]
  refine Gfh r _ (fun c hc=>?_) fun q hq=>hp q (List.mem_cons_of_mem _ hq)
  have:(acc++Str.empty.cps++p.cps).toList=acc.toList++p.cps.toList:=by
   have:Str.empty.cps=#[]:=rfl
   rw[this]; simp
  rw[this] at hc
  rcases List.mem_append.mp hc with z | z
  ·exact h c z
  ·exact hp p List.mem_cons_self c z
theorem Gc9:∀ (ps:List Str) (acc:Array Nat),(∀ p∈ps,p.cps.size<=1)->(ps.foldl (fun acc p=>acc++Str.empty.cps++p.cps) acc).size<=acc.size+ps.length
 | [],acc,_=>by simp
 | p::r,acc,h=>by
  rw[List.foldl_cons]
  have:=Gc9 r (acc++Str.empty.cps++p.cps) fun q hq=>h q (List.mem_cons_of_mem _ hq)
  have hp:=h p List.mem_cons_self
  have e0:Str.empty.cps.size=0:=rfl
  rw[Array.size_append,Array.size_append,e0] at this
  rw[List.length_cons]
  omega
theorem Gfi:∀ ps:List Str,Yt (ps.map D.str)=some ps
 | []=>rfl
 | p::r=>by show(Yt (r.map D.str)).map (p::·)=_; rw[Gfi r]; rfl
theorem Gjy{n:Nat}:∀ {ps:List Str},(∀ p∈ps,p.length<=n)->(ps.map (·.length)).sum<=n*ps.length
 | [],_=>by simp
 | p::r,h=>by
  have:=Gjy (ps:=r) fun q hq=>h q (List.mem_cons_of_mem _ hq)
  have:=h p List.mem_cons_self
  simp only[List.map_cons,List.sum_cons,List.length_cons,Nat.mul_add,Nat.mul_one]
  omega
theorem Gjz{ss:List Str}(e:S[q]?=some ⟨false,ss.map D.str⟩)(hl:ss.length<=5)(h:∀ s∈ss,∃ c∈CS,s=⟨#[c]⟩):∃ y:Str,Gbg (.str "") [.lst q] S=.ok (.str y) S/\PyData.strOk y=true/\PyData.strOk (reprText y)=true/\(reprText y).length<=61:=by
 refine⟨Txt.join "" ss,?_,?_⟩
 ·simp only[Gbg,e,Gfi]
  have:=Gjy (n:=1) (ps:=ss) fun p hp=>by obtain⟨c,_,rfl⟩:=h p hp; exact Nat.le_refl 1
  have e1:("":Str).length=0:=rfl
  rw[if_pos (by rw[e1]; omega)]
 have emp:(("":String):Str)=Str.empty:=by decide +kernel
 have hc:∀ c∈(Txt.join "" ss).cps.toList,c∈CS:=by
  rw[emp]
  show ∀ c∈((ss.drop 1).foldl (fun acc p=>acc++Str.empty.cps++p.cps) (ss.headD Str.empty).cps).toList,c∈CS
  refine Gfh _ _ (fun c hc=>?_) fun p hp c hc=>?_
  ·cases ss with
   | nil=>cases hc
   | cons s r=>
    obtain⟨c',h1,rfl⟩:=h s List.mem_cons_self
    have:c=c':=by simpa using hc
    rw[this]; exact h1
  ·obtain⟨c',h1,rfl⟩:=h p (List.mem_of_mem_drop hp)
   have:c=c':=by simpa using hc
   rw[this]; exact h1
 have hz:(Txt.join "" ss).length<=5:=by
  rw[emp]
  show((ss.drop 1).foldl (fun acc p=>acc++Str.empty.cps++p.cps) (ss.headD Str.empty).cps).size<=5
  have:=Gc9 (ss.drop 1) (ss.headD Str.empty).cps fun p hp=>by obtain⟨c,_,rfl⟩:=h p (List.mem_of_mem_drop hp); exact Nat.le_refl 1
  cases ss with
  | nil=>exact Nat.zero_le _
  | cons s r=>
   obtain⟨c',_,rfl⟩:=h s List.mem_cons_self
   refine Nat.le_trans this ?_
   show 1+(List.drop 1 (_::r)).length<=5
   simp at hl ⊢
   omega
 refine⟨?_,Gq6 hc,?_⟩
 ·unfold PyData.strOk
  rw[<- Array.all_toList,List.all_eq_true]
  intro c hcc
  exact Gs5 c (hc c hcc)
 have:=StrLaws.reprText_len (Txt.join "" ss) fun c hcc=>Gjx c (hc c hcc)
 omega
theorem letter{r:Int}(h0:0<=r)(h1:r<16):∃ c∈CS,DL.getD (.str "leftmostighrd 01") (.int r) S=.ok (.str ⟨#[c]⟩) S:=by
 have hl:r.toNat<CS.length:=by rw[Gq5]; omega
 refine⟨CS[r.toNat],List.getElem_mem hl,?_⟩
 have ea:atI (Str.ofString "leftmostighrd 01").cps.toList r=some CS[r.toNat]:=Kr h0 (by show CS[r.toNat]?=_; simp[hl])
 show(if(Str.ofString "leftmostighrd 01").length<=1000000 then(match atI (Str.ofString "leftmostighrd 01").cps.toList r with | some c=>Out.ok (D.str ⟨#[c]⟩) S | none=>.bad) else .bad)=_
 rw[if_pos (by decide +kernel),ea]
theorem Zu{fr:Fn}{e:Nat}(he:e=0\/∃ e',e=e'+1/\Gq4 fr e'):Gq4 (fnB 4 (Hr fr)) e:=by
 intro S t k d
 have lt:=d.lt
 have bg:=Gjw e
 obtain⟨m,hm,m0,m1,m2⟩:∃ m:Int,(ie (tb (o2 gtD (vr 1) (cn (.int 0)))) (cn (.int 9)) (cn (.int 5)) [some (.lst t),some (.int e),none,none] S=.ok (.int m) S)/\0<m/\m<=9/\(e=0->m=5):=by
  by_cases c:(0:Int)<e
  ·exact⟨9,by simp; omega,by decide,by decide,fun z=>by omega⟩
  ·exact⟨5,by simp; omega,by decide,by decide,fun _=>rfl⟩
 obtain⟨w,S1,e1,w0,w1,d1,k1⟩:=draw (m:=m) d m0 (by omega)
 have lt1:=d1.lt
 have l1:=k1.len
 have hf:fnB 4 (Hr fr) [.lst t,.int e] S=fin (Hr fr [some (.lst t),some (.int e),none,none] S):=Hm (m:=4) (b:=Hr fr)
 have p50:∀ S,Xk (.int 10) (.int 50) S=.ok (.int (10^50)) S:=fun S=>Gb1 (n:=50) (by decide) (by decide)
 rw[hf]
 unfold Hr
 rw[Gw (ρ':=[some (.lst t),some (.int e),some (.int w),none]) (S':=S1) (by
  rw[Qh,Gjd,Yn,Ya]
  simp only[List.getElem?_cons_zero,Hi]
  rw[Yn,hm,Hi,Gbx,Hi,Hi,Hi]
  simp only[List.length_cons,List.length_nil,Nat.reduceAdd,if_true,Gby]
  rw[e1]
  rfl)]
 by_cases c0:w=0
 ·obtain⟨r,x,S2,e2,p2,m2',d2,k2⟩:=Ue (xs:=[.non,.bl true,.bl false]) (m:=3) d1 rfl (by simp) (by simp)
  refine⟨x,S2,Ga4 (by simp[c0,e2,p2]),?_,d2,k1.trans k2⟩
  simp only[List.mem_cons,List.not_mem_nil,or_false] at m2'
  rcases m2' with rfl | rfl | rfl
  ·exact Zs.mono bg (Nat.zero_le _)
  ·exact Gea.mono bg (Nat.zero_le _)
  ·exact Gea.mono bg (Nat.zero_le _)
 rw[Gw (ρ':=[some (.lst t),some (.int e),some (.int w),none]) (S':=S1) (by simp[c0])]
 by_cases c3:w<3
 ·obtain⟨P50,hP50⟩:∃ P:Int,P=10^50:=⟨_,rfl⟩
  have p50':∀ S,Xk (.int 10) (.int 50) S=.ok (.int P50) S:=fun S=>by rw[hP50]; exact p50 S
  obtain⟨r,x,S2,e2,p2,m2',d2,k2⟩:=Ue (xs:=[.int 4,.int 15,.int P50]) (m:=3) d1 rfl (by simp) (by simp)
  obtain⟨q,hq,q0,q1⟩:∃ q:Int,x=.int q/\0<q/\q<=10^50:=by
   simp only[List.mem_cons,List.not_mem_nil,or_false] at m2'
   rcases m2' with rfl | rfl | rfl
   ·exact⟨_,rfl,by decide,by decide⟩
   ·exact⟨_,rfl,by decide,by decide⟩
   ·exact⟨_,rfl,by rw[hP50]; decide,by rw[hP50]; decide⟩
  subst hq
  have b1:(10:Int)^50<2^200:=by decide
  obtain⟨v,S3,e3,v0,v1,d3,s3⟩:=Ge1 (m:=q) d2 q0 (by omega)
  obtain⟨b,S4,e4,b0,b1',d4,k4⟩:=draw (m:=2) d3 (by decide) (by decide)
  have mb:Jr (.int 2) (.int b) S4=.ok (.int (2*b)) S4:=Gjl (by decide) (by decide)
  have mv:Jr (.int v) (.int (1-2*b)) S4=.ok (.int (v*(1-2*b))) S4:=Gb0 (by omega) (by omega)
  have hn:(v*(1-2*b)).natAbs<10^60:=by
   have h60:((10:Int)^50)<((10:Nat)^60:Nat):=by decide
   rcases(by omega:b=0\/b=1) with rfl | rfl
   ·have:v*(1-2*0)=v:=by omega
    rw[this]; omega
   ·have:v*(1-2*1) = -v:=by omega
    rw[this]; omega
  exact⟨.int (v*(1-2*b)),S4,Ga4 (by simp[c3,p50',e2,p2,e3,e4,mb,mv]),(Gd9 hn).mono bg (Nat.zero_le _),d4,((k1.trans k2).trans s3.kp).trans k4⟩
 rw[Gw (ρ':=[some (.lst t),some (.int e),some (.int w),none]) (S':=S1) (by simp[c3])]
 by_cases c4:w=3
 ·obtain⟨r,x,S2,e2,p2,m2',d2,k2⟩:=Ue (xs:=[.str "least",.str "most",.str "right",.str "left",.str "let",.str "feed",.str "end",.str "a"]) (m:=8) d1 rfl (by simp) (by simp)
  refine⟨x,S2,Ga4 (by simp[c4,e2,p2]),?_,d2,k1.trans k2⟩
  simp only[List.mem_cons,List.not_mem_nil,or_false] at m2'
  rcases m2' with rfl | rfl | rfl | rfl | rfl | rfl | rfl | rfl<;>exact(Zt (stok _) (by decide +kernel) (by decide +kernel)).mono bg (Nat.zero_le _)
 rw[Gw (ρ':=[some (.lst t),some (.int e),some (.int w),none]) (S':=S1) (by simp[c4])]
 by_cases c5:w=4
 ·obtain⟨r,S2,e2,r0,r1,d2,k2⟩:=draw (m:=6) d1 (by decide) (by decide)
  obtain⟨rn,hrn⟩:∃ m:Nat,r=m:=⟨r.toNat,by omega⟩
  have lt2:=d2.lt
  obtain⟨ρ',S3,el,g,ss,hρ,hq,hl,hcs,d3,k3⟩:=Jf (nxt:=(rsrc 0 rn).nxt) (g:=gn 0) (b:=cbody S2.length ttrue (o2 DL.getD (cn (.str "leftmostighrd 01")) (cl 2 (Gn Gh) (ac (vr 1) (ac (cn (.int 16)) an))))) (l:=(List.range rn).map fun k:Nat=>D.int (k:Int))
   (fun i ρ S'=>∃ g ss,ρ=[g,some (.lst t)]/\S'[S2.length]?=some ⟨false,ss.map D.str⟩/\ss.length=i/\(∀ s∈ss,∃ c∈CS,s=⟨#[c]⟩)/\Tp S' t k/\Kp S2 S' t k)
   (fun i _ S _=>Kn) (fun i d' ρ S' hd ⟨g,ss,h1,h2,h3,hu,h4,h5⟩=>by
    obtain⟨hi,rfl⟩:=Uy hd
    subst h1
    obtain⟨r',S'',er,r0',r1',dr,kr⟩:=draw (m:=16) h4 (by decide) (by decide)
    obtain⟨c,hc,gc⟩:=letter (S:=S'') r0' r1'
    have q'':=kr.at h2 (by omega) (by omega)
    have lq:S2.length<S''.length:=(List.getElem?_eq_some_iff.mp q'').1
    refine⟨_,_,_,rfl,Wd (d:=.str ⟨#[c]⟩) (S2:=S'') ?_ q'' (by simp; omega),some (.int i),ss++[⟨#[c]⟩],rfl,?_,by simp[h3],(fun s hs=>?_),dr.set (by omega) (by omega),(h5.trans kr).setq (Nat.le_refl _)⟩
    ·simp[er,gc]
    ·rw[List.getElem?_set_self lq]; simp
    ·rcases List.mem_append.mp hs with z | z
     ·exact hu s z
     ·have:s=⟨#[c]⟩:=by simpa using z
      exact⟨c,hc,this⟩) (rn+1) 0 [none,some (.lst t)] (S2++[⟨false,[]⟩]) (Nat.zero_le _) ⟨none,[],rfl,by simp[Hc],rfl,(fun s hs=>by cases hs),d2.app,Kp.app⟩ (by simp)
  have hlen:((List.range rn).map fun k:Nat=>D.int (k:Int)).length=rn:=by simp
  rw[hlen] at hl
  have hc:=Zd (pk:=[none,some 0]) (ρ:=[some (.lst t),some (.int e),some (.int w),none]) (S:=S1) (Ub (f:=ac (cl 2 (Gn Gh) (ac (vr 0) (ac (cn (.int 6)) an))) an) (n:=rn) (S':=S2) (by rw[<- hrn]; simp[e2]) (by omega)) el
  obtain⟨y,jy,so0,so,ly⟩:=Gjz hq (by omega) hcs
  refine⟨.str y,S3,Ga4 ?_,(Zt so0 so ly).mono bg (Nat.zero_le _),d3,(k1.trans k2).trans k3⟩
  refine(Gc7 (S1:=S1) (by simp[c5])).trans ?_
  rw[Vh]
  show bindS ((Out.ok (D.str "") S1).bind _) _ _=_
  rw[Hi,if_pos (show isStr (D.str "")=true from rfl),Yn,hc,Hi,Gbx,Hi,Hi,jy]
  rfl
 rw[Gw (ρ':=[some (.lst t),some (.int e),some (.int w),none]) (S':=S1) (by simp[c5])]
 rcases he with rfl | ⟨e',rfl,hfr⟩
 ·have:=m2 rfl; omega
 obtain⟨r,S2,e2,r0,r1,d2,k2⟩:=draw (m:=5) d1 (by decide) (by decide)
 obtain⟨rn,hrn⟩:∃ m:Nat,r=m:=⟨r.toNat,by omega⟩
 have lt2:=d2.lt
 have l2:=k2.len
 obtain⟨ρ',S3,el,g,xs,hρ,hq,hl,hsh,d3,k3⟩:=Jf (nxt:=(rsrc 0 rn).nxt) (g:=gn 0) (b:=cbody S2.length ttrue (cl 2 (Gn fr) (ac (vr 1) (ac (o2 Ui (vr 2) (cn (.int 1))) an)))) (l:=(List.range rn).map fun k:Nat=>D.int (k:Int))
  (fun i ρ S'=>∃ g xs,ρ=[g,some (.lst t),some (.int ((e'+1:Nat):Int))]/\S'[S2.length]?=some ⟨false,xs⟩/\xs.length=i/\(∀ x∈xs,Shx (ge (S2.length+1)) S' x (bnd e') e')/\Tp S' t k/\Kp S2 S' t k)
  (fun i _ S _=>Kn) (fun i d' ρ S' hd ⟨g,xs,h1,h2,h3,hu,h4,h5⟩=>by
   obtain⟨hi,rfl⟩:=Uy hd
   subst h1
   obtain⟨x,S'',ex,shx,dx,kx⟩:=hfr S' t k h4
   have q'':=kx.at h2 (by omega) (by omega)
   have lq:S2.length<S''.length:=(List.getElem?_eq_some_iff.mp q'').1
   have lq':S2.length<S'.length:=(List.getElem?_eq_some_iff.mp h2).1
   have hsub:((e'+1:Nat):Int)-1=(e':Int):=by omega
   refine⟨_,_,_,rfl,Wd (d:=x) (S2:=S'') ?_ q'' (by omega),some (.int i),xs++[x],rfl,List.getElem?_set_self lq,by simp[h3],(fun y hy=>?_),dx.set (by omega) (by omega),(h5.trans kx).setq (Nat.le_refl _)⟩
   ·simp only[Gjd,Yn,Gc4,Ya,Gjc,Gbx,List.getElem?_cons_zero,List.getElem?_cons_succ,List.set_cons_zero,Hi,Gqw,hsub,List.length_cons,List.length_nil,Nat.reduceAdd,if_true,Gby,ex,Gsz]
   ·rcases List.mem_append.mp hy with z | z
    ·exact((hu y z).to (.kpn kx (by omega) (by omega))).to (.setn (by omega))
    ·have:y=x:=by simpa using z
     subst this
     exact(shx.lown (by omega)).to (.setn (by omega))) (rn+1) 0 [none,some (.lst t),some (.int ((e'+1:Nat):Int))] (S2++[⟨false,[]⟩]) (Nat.zero_le _) ⟨none,[],rfl,Hc,rfl,(fun s hs=>by cases hs),d2.app,Kp.app⟩ (by simp)
 have hlen:((List.range rn).map fun k:Nat=>D.int (k:Int)).length=rn:=by simp
 rw[hlen] at hl
 have hc:=Zd (pk:=[none,some 0,some 1]) (ρ:=[some (.lst t),some (.int ((e'+1:Nat):Int)),some (.int w),none]) (S:=S1) (Ub (f:=ac (cl 2 (Gn Gh) (ac (vr 0) (ac (cn (.int 5)) an))) an) (n:=rn) (S':=S2) (by rw[<- hrn]; simp[e2]) (by omega)) el
 have shs:=Jg hsh
 have sb:bnd e'*xs.length+2*xs.length+3<=bnd (e'+1):=by
  show _<=4*bnd e'+11
  have:xs.length<=4:=by omega
  have h2:bnd e'*xs.length<=bnd e'*4:=Nat.mul_le_mul_left _ this
  omega
 rw[Gw (ρ':=[some (.lst t),some (.int ((e'+1:Nat):Int)),some (.int w),some (.lst S2.length)]) (S':=S3) (by rw[Qh,hc]; rfl)]
 have tp1:=Gc6 hq
 by_cases c7:w<7
 ·exact⟨.tup xs,S3,by simp[c7,tp1],((Hw shs).mono sb (Nat.le_refl _)).lown (by omega),d3,(k1.trans k2).trans k3⟩
 ·refine⟨.lst S2.length,S3,by simp[c7],((Xd (lo:=ge S2.length) hq (shs.lown (by omega)) (Nat.le_refl S2.length)).mono sb (Nat.le_refl _)).lown (by omega),d3,(k1.trans k2).trans k3⟩
theorem Guh:Gq4 Wy 3:=Zu (.inr ⟨2,rfl,Zu (.inr ⟨1,rfl,Zu (.inr ⟨0,rfl,Zu (.inl rfl)⟩)⟩)⟩)
def Nc(S:Sto)(d:D)(e:Nat):Prop:=∃ p:PyData,(∀ n,e<n->toP S n d=some p)/\p.canLay0=true/\p.depth<=e
theorem Shx.nc{lo:Nat->Prop}{e:Nat}(h:Shx lo S d b e)(x:Kx lo S S'):Nc S' d e:=by
 obtain⟨p,a,g,_⟩:=h
 exact⟨p,fun n hn=>a S' x n hn,g.lay,g.dp⟩
theorem Gb5{α β:Type}{f:α->Option β}:∀ {l:List α} {ys:List β} {i:Nat} {x:α},Hq f l=some ys->l[i]?=some x->∃ y,ys[i]?=some y/\f x=some y
 | [],ys,i,x,_,h=>by simp at h
 | a::l,ys,i,x,h,hx=>by
  simp only[Hq] at h
  split at h
  ·rename_i y r e1 e2
   cases h
   cases i with
   | zero=>simp at hx; subst hx; exact⟨y,rfl,e1⟩
   | succ i=>exact Gb5 (i:=i) e2 (by simpa using hx)
  ·cases h
theorem Ggv:∀ {ps:List PyData} {p:PyData},PyData.canLayAll0 ps=true->p∈ps->p.canLay0=true
 | q::r,p,h,hp=>by
  have h:(q.canLay0&&PyData.canLayAll0 r)=true:=h
  rw[Bool.and_eq_true] at h
  rcases List.mem_cons.mp hp with rfl | hp
  ·exact h.1
  ·exact Ggv h.2 hp
theorem Ggw:∀ {ps:List PyData} {p:PyData},p∈ps->p.depth<=PyData.depthAll ps
 | q::r,p,hp=>by
  show p.depth<=max q.depth (PyData.depthAll r)
  rcases List.mem_cons.mp hp with rfl | hp
  ·exact Nat.le_max_left _ _
  ·exact Nat.le_trans (Ggw hp) (Nat.le_max_right _ _)
section
variable{S S':Sto}{e:Nat}{d x:D}{l:List D}
theorem Nc.mem(h:Nc S (.tup l) e)(hx:x∈l):Nc S x e:=by
 obtain⟨p,a,hl,hd⟩:=h
 have key:∀ n,e<=n->∃ ps,Hq (toP S n) l=some ps/\p=.tuple ps:=fun n hn=>by
  have:=a (n+1) (by omega)
  have:(Hq (toP S n) l).map PyData.tuple=some p:=this
  cases z:Hq (toP S n) l with
  | none=>rw[z] at this; cases this
  | some ps=>rw[z] at this; exact⟨ps,rfl,(Option.some.inj this).symm⟩
 obtain⟨ps,_,rfl⟩:=key e (Nat.le_refl _)
 obtain⟨i,hi⟩:=List.mem_iff_getElem?.mp hx
 obtain⟨ps1,e1,e1'⟩:=key e (Nat.le_refl _)
 cases e1'
 obtain⟨q,hq,_⟩:=Gb5 e1 hi
 have hl:PyData.canLayAll0 ps=true:=hl
 refine⟨q,fun n hn=>?_,Ggv hl (Kj hq),?_⟩
 ·obtain⟨ps2,e2,e2'⟩:=key n (by omega)
  cases e2'
  obtain⟨q',hq',e3⟩:=Gb5 e2 hi
  rw[hq] at hq'; cases hq'
  exact e3
 ·have:PyData.depthAll ps+1<=e:=hd
  have:=Ggw (Kj hq)
  omega
theorem Nc.fv(h:Nc S (.fv x') e):False:=by
 obtain⟨p,a,_⟩:=h
 have:=a (e+1) (by omega)
 cases this
def wv(ws:List Str):D->Bool
 | .str s=>ws.any fun w=>w==s
 | _=>false
theorem Gj0{p:PyData}(h:toP S 40 d=some p):(ws.map PyData.str).any (fun z=>PyData.eqv z p)=wv ws d:=by
 rw[List.any_map]
 have no:∀ {f:Str->Bool},(∀ w,f w=false)->ws.any f=false:=fun hf=>by
  rw[List.any_eq_false]; intro w _; rw[hf]; simp
 cases d with
 | str s=>
  have:p=.str s:=(Option.some.inj h).symm
  subst this
  show ws.any _=ws.any _
  congr 1
 | non=>have:p=.none:=(Option.some.inj h).symm; subst this; exact no fun _=>rfl
 | bl b=>have:p=.bool b:=(Option.some.inj h).symm; subst this; exact no fun _=>rfl
 | int i=>have:p=.int i:=(Option.some.inj h).symm; subst this; exact no fun _=>rfl
 | tup l=>
  have h:(Hq (toP S 39) l).map PyData.tuple=some p:=h
  cases z:Hq (toP S 39) l with
  | none=>rw[z] at h; cases h
  | some ps=>rw[z] at h; have:p=.tuple ps:=(Option.some.inj h).symm; subst this; exact no fun _=>rfl
 | lst q=>
  have h:(match S[q]? with | some c=>(Hq (toP S 39) c.xs).map PyData.list | none=>none)=some p:=h
  split at h
  ·rename_i c _
   cases z:Hq (toP S 39) c.xs with
   | none=>rw[z] at h; cases h
   | some ps=>rw[z] at h; have:p=.list ps:=(Option.some.inj h).symm; subst this; exact no fun _=>rfl
  ·cases h
 | exn a b=>cases h
 | fv a=>cases h
theorem Nc.sh(h:Nc S d e)(he:e<=30):∃ p,toP S 40 d=some p/\SeqAt.shaped p=true:=by
 obtain⟨p,a,hl,hd⟩:=h
 refine⟨p,a 40 (by omega),?_⟩
 unfold SeqAt.shaped
 rw[hl]
 simp
 omega
theorem Gs6(h:Nc S d e)(he:e<=30)(hw:toP S 40 (.tup ds)=some (.tuple (ws.map .str)))(hs:SeqAt.shaped (.tuple (ws.map .str))=true):inP d (.tup ds) S=.ok (.bl (wv ws d)) S:=by
 obtain⟨p,hp,sh⟩:=h.sh he
 unfold inP Gcg
 simp only[hp,hw]
 rw[sh,hs]
 simp only[Bool.and_self,if_true,Bool.false_eq_true,if_false,Gj0 hp]
theorem Gs7{neg:Bool}(h:Nc S d e)(he:e<=30)(hw:toP S 40 (.lst q)=some (.list (ws.map .str)))(hs:SeqAt.shaped (.list (ws.map .str))=true):Gcg neg d (.lst q) S=.ok (.bl (if neg=true then !wv ws d else wv ws d)) S:=by
 obtain⟨p,hp,sh⟩:=h.sh he
 unfold Gcg
 simp only[hp,hw]
 rw[sh,hs]
 simp only[Bool.and_self,if_true,Gj0 hp]
theorem Gj1{ss:List String}(h:ss.length<=10)(e:S[q]?=some ⟨false,ss.map fun s=>D.str (Str.ofString s)⟩):toP S 40 (.lst q)=some (.list ((ss.map Str.ofString).map .str)):=by
 show(match S[q]? with | some c=>(Hq (toP S 39) c.xs).map PyData.list | none=>none)=_
 rw[e]
 have:∀ ss:List String,Hq (toP S 39) (ss.map fun s=>D.str (Str.ofString s))=some ((ss.map Str.ofString).map PyData.str):=fun ss=>by
  induction ss with
  | nil=>rfl
  | cons a r ih=>simp only[List.map_cons,Hq,ih]; rfl
 show(Hq (toP S 39) (ss.map fun s=>D.str (Str.ofString s))).map PyData.list=_
 rw[this]; rfl
theorem Gj2:∀ ss:List String,PyData.canLayAll0 ((ss.map Str.ofString).map .str)=true/\PyData.depthAll ((ss.map Str.ofString).map .str)=0
 | []=>⟨rfl,rfl⟩
 | a::r=>by
  obtain⟨h1,h2⟩:=Gj2 r
  refine⟨?_,?_⟩
  ·show(PyData.strOk (Str.ofString a)&&PyData.canLayAll0 ((r.map Str.ofString).map .str))=true
   rw[stok,h1]; rfl
  ·show max 0 (PyData.depthAll ((r.map Str.ofString).map .str))=0
   rw[h2]; rfl
theorem Ggx{ss:List String}:SeqAt.shaped (.tuple ((ss.map Str.ofString).map .str))=true/\SeqAt.shaped (.list ((ss.map Str.ofString).map .str))=true:=by
 obtain⟨h1,h2⟩:=Gj2 ss
 constructor
 ·show(PyData.canLayAll0 ((ss.map Str.ofString).map .str)&&decide (PyData.depthAll ((ss.map Str.ofString).map .str)+1<=64))=true
  rw[h1,h2]; rfl
 ·show(PyData.canLayAll0 ((ss.map Str.ofString).map .str)&&decide (PyData.depthAll ((ss.map Str.ofString).map .str)+1<=64))=true
  rw[h1,h2]; rfl
def isInt:D->Bool
 | .int _=>true
 | _=>false
theorem Gfj(h:Nc S d e):Ur [d] S=.ok (.bl (isInt d)) S:=by
 cases d<;>first | exact h.fv.elim | simp[Ur,fnB,Yx,isD,isT,tyN,isInt]
def bt(n:Int):D->Bool
 | .int i=>decide (0<=i)&&decide (i<=n)
 | _=>false
theorem Ggy{n:Int}(h:Nc S d e):Kc [d,.int 0,.int n] S=.ok (.bl (bt n d)) S:=by
 have w:=Gfj h
 unfold Kc
 rw[Hm]
 cases d<;>first | exact h.fv.elim | simp[Wo,w,isInt,bt,fin]
 rename_i i
 by_cases c:0<=i<;>simp[c]
theorem Zv{n:Int}(h:Nc S d e):Hx [d,.int (n+1)] S=.ok (.bl (bt n d)) S:=by
 unfold Hx
 rw[Hm]
 cases d<;>first | exact h.fv.elim | simp[Xa,isD,isT,tyN,bt,fin]
 rename_i i
 have:i<n+1↔i<=n:=by omega
 by_cases c:0<=i<;>simp[c,this]
def Kv(m:Nat):D->Bool
 | .tup l=>l.length==m
 | _=>false
theorem Gb6(hd:Nc S d e):Jc [d,.int m] S=.ok (.bl (Kv m d)) S:=by
 cases d with
 | tup l=>
  by_cases h:l.length=m
  ·simp[Jc,fnB,Us,isD,isT,tyN,Kv,h]
  ·have h':¬ (l.length:Int)=m:=by omega
   simp[Jc,fnB,Us,isD,isT,tyN,Kv,h,h']
 | fv a=>exact hd.fv.elim
 | _=>simp[Jc,fnB,Us,isD,isT,tyN,Kv]
theorem Gj3(h:Kv 3 d=true):∃ a b c,d=.tup [a,b,c]:=by
 cases d with
 | tup l=>match l,h with
  | [a,b,c],_=>exact⟨a,b,c,rfl⟩
  | [],h=>simp[Kv] at h
  | [_],h=>simp[Kv] at h
  | [_,_],h=>simp[Kv] at h
  | _::_::_::_::_,h=>simp[Kv] at h
 | _=>cases h
theorem Geb(h:Kv 2 d=true):∃ a b,d=.tup [a,b]:=by
 cases d with
 | tup l=>match l,h with
  | [a,b],_=>exact⟨a,b,rfl⟩
  | [],h=>simp[Kv] at h
  | [_],h=>simp[Kv] at h
  | _::_::_::_,h=>simp[Kv] at h
 | _=>cases h
end
def AW:List Str:=["least","most","right","left"].map Str.ofString
def DW:List Str:=["let","feed","right","left"].map Str.ofString
def LW:List Str:=["let","right","left"].map Str.ofString
def Gaj(m:Int)(d:D):Bool:=match d with
 | .tup [w,a,b]=>wv AW w&&(bt m a&&bt 9 b)
 | _=>false
def Vj(m:Int)(d:D):Bool:=match d with
 | .tup [.str w,a]=>if w="feed" then bt m a else LW.any (fun z=>z==w)&&bt (m-1) a
 | _=>false
def idB(d:D):Bool:=match d with
 | .tup [w,a]=>wv DW w&&isInt a
 | _=>false
def Zw(m:Int)(d:D):Bool:=match d with
 | .tup l=>decide (l.length<=4)&&l.all (Gaj m)
 | _=>false
def Gb7(m:Int)(d:D):Bool:=match d with
 | .tup [a,b]=>Zw m a&&Vj m b
 | _=>false
def Yp(m:Int)(d:D):Bool:=match d with
 | .tup l=>decide (l.length<=12)&&l.all (Gb7 m)
 | _=>false
section
variable{S S':Sto}{e m:Nat}{d x:D}{l:List D}{ps:List Pl}{us:List Bool}
theorem Ggz(h:Kv 3 d=false){m:Int}:Gaj m d=false:=by
 cases d with
 | tup l=>match l,h with
  | [a,b,c],h=>simp[Kv] at h
  | [],_=>rfl
  | [_],_=>rfl
  | [_,_],_=>rfl
  | _::_::_::_::_,_=>rfl
 | _=>rfl
theorem Gb8(C:Can ps us m)(S:Sto):Gz [.tup (ps.map Pl.toD)] S=.ok (.int ((m:Int)+1)) S:=by simp[Gz,C.len]
theorem Gj4(C:Can ps us m)(S:Sto):Gz [.tup (us.map gd)] S=.ok (.int m) S:=by simp[Gz,C.gts]
theorem Gq7(C:Can ps us m)(h:Nc S d e)(he:e<=30):Ut [cD ps us,d] S=.ok (.bl (Gaj m d)) S:=by
 have t3:=Gb6 (m:=3) h
 have t3:Jc [d,.int 3] S=_:=t3
 have c0:=cd0 (ps:=ps) (us:=us) (S:=S)
 have ln:=Gb8 C S
 cases z:Kv 3 d<;>rw[z] at t3
 ·rw[Ggz z]
  unfold Ut
  rw[Hm]
  simp[Zn,t3,Kg,fin]
 ·obtain⟨w,a,b,rfl⟩:=Gj3 z
  have i1:inP w c_ASK_WORDS S=.ok (.bl (wv AW w)) S:=Gs6 (h.mem (by simp)) he (by rfl) (Ggx (ss:=["least","most","right","left"])).1
  have b1:=Ggy (n:=m) (h.mem (x:=a) (by simp))
  have b2:Kc [b,.int 0,c_MOST_ASKED] S=.ok (.bl (bt 9 b)) S:=Ggy (n:=9) (h.mem (x:=b) (by simp))
  unfold Ut
  rw[Hm]
  simp only[Zn]
  generalize c_ASK_WORDS=aw at *
  generalize c_MOST_ASKED=ma at *
  generalize cD ps us=cd at *
  have e0:Gaj m (.tup [w,a,b])=(wv AW w&&(bt m a&&bt 9 b)):=rfl
  rw[e0]
  generalize wv AW w=v1 at *
  generalize bt m a=v2 at *
  generalize bt 9 b=v3 at *
  cases v1<;>cases v2<;>simp[t3,Kg,i1,c0,ln,b1,b2,fin]
theorem Gmp(C:Can ps us m)(h:∀ S',Ex S S'->Nc S' d e)(he:e<=30):∃ S',Jk [cD ps us,d] S=.ok (.bl (Gaj m d)) S'/\Ex S S':=by
 have hd:=h S .refl
 have c0:=fun S=>cd0 (ps:=ps) (us:=us) (S:=S)
 have ln:=Gb8 C
 unfold Jk
 simp only[Hm]
 cases z:Kv 3 d
 ·refine⟨S,?_,.refl⟩
  rw[Ggz z]
  cases d with
  | tup l=>
   have zl:¬ l.length=3:=by simpa[Kv] using z
   have zn:¬ (l.length:Int)=3:=by omega
   simp[Jw,isD,isT,tyN,Kg,Gz,zn,fin]
  | fv a=>exact hd.fv.elim
  | _=>simp[Jw,isD,isT,tyN,Kg,fin]
 ·obtain⟨w,a,b,rfl⟩:=Gj3 z
  have q2:∀ (x y z:D) S,DL.getD (.tup [x,y,z]) (.int 2) S=.ok z S:=fun _ _ _ S=>Gap (Kr (by decide) rfl)
  have l3:∀ (x y z:D) S,Gz [.tup [x,y,z]] S=.ok (.int 3) S:=fun _ _ _ _=>rfl
  have ne3:∀ S,neD (.int 3) (.int 3) S=.ok (.bl false) S:=fun _=>rfl
  cases w with
  | str s=>
   obtain⟨S2,hS2⟩:∃ S2,S2=S++[(⟨false,[.str "least",.str "most",.str "right",.str "left"]⟩:Cell)]:=⟨_,rfl⟩
   have x2:Ex S S2:=by rw[hS2]; exact Ex.app
   have h2:=h S2 x2
   have i1:Gqr (.str s) (.lst S.length) S2=.ok (.bl (!wv AW (.str s))) S2:=by
    have:=Gs7 (neg:=true) (ws:=AW) (q:=S.length) (h2.mem (x:=.str s) (by simp)) he (Gj1 (ss:=["least","most","right","left"]) (by decide) (by rw[hS2]; exact Hc)) (Ggx (ss:=["least","most","right","left"])).2
    exact this
   have b1:=Zv (n:=m) (h2.mem (x:=a) (by simp))
   have b2:Hx [b,.int 10] S2=.ok (.bl (bt 9 b)) S2:=Zv (n:=9) (h2.mem (x:=b) (by simp))
   have e0:Gaj m (.tup [.str s,a,b])=(wv AW (.str s)&&(bt m a&&bt 9 b)):=rfl
   refine⟨S2,?_,x2⟩
   rw[e0]
   simp only[Jw]
   generalize cD ps us=cd at *
   generalize wv AW (.str s)=v1 at *
   generalize bt m a=v2 at *
   generalize bt 9 b=v3 at *
   cases v1<;>cases v2<;>simp[isD,isT,tyN,Kg,l3,ne3,p0e,p1e,q2,<- hS2,i1,c0,ln,b1,b2,fin]
  | fv a=>exact(hd.mem (x:=.fv a) (by simp)).fv.elim
  | _=>exact⟨S,by simp[Jw,isD,isT,tyN,Kg,l3,ne3,p0e,Gaj,wv,fin],.refl⟩
theorem Gj5(C:Can ps us m)(h:∀ S',Ex S S'->Nc S' d e)(he:e<=30):∃ S',Wr [cD ps us,d] S=.ok (.bl (Zw m d)) S'/\Ex S S':=by
 have hd:=h S .refl
 have k4:c_MOST_ASKS=.int 4:=rfl
 unfold Wr
 simp only[Hm]
 cases d with
 | tup l=>
  have ln:Gz [.tup l] S=.ok (.int l.length) S:=by simp[Gz]
  have e0:Zw m (.tup l)=(decide (l.length<=4)&&l.all (Gaj m)):=rfl
  rw[e0]
  by_cases c:l.length<=4
  ·obtain⟨S2,al,ex⟩:=Gb3 (l:=l) (pk:=[none,some 0]) (e:=cl 2 (Gn Ut) (ac (vr 1) (ac (vr 0) an))) (ρ:=[some (cD ps us),some (.tup l)]) (f:=vr 1) (S:=S)
    [some (cD ps us)] (Gaj m) (by simp) rfl (by omega) (fun d hd S' x=>⟨S',by simp[Gq7 C ((h S' x).mem hd) he],Ex.refl⟩)
   refine⟨S2,?_,ex⟩
   have c':(l.length:Int)<=4:=by omega
   simp only[Uu,k4]
   generalize hcm:cmp (isrc (vr 1)) [none,some 0] (gn 0) ttrue (cl 2 (Gn Ut) (ac (vr 1) (ac (vr 0) an))) [some (cD ps us),some (.tup l)] S=o at al
   simp[isD,isT,tyN,ln,c,c',hcm]
   cases o with
   | ok d S1=>simp at al ⊢; simp[al,fin]
   | exc x S1=>simp at al
   | bad=>simp at al
  ·have c':¬ (l.length:Int)<=4:=by omega
   exact⟨S,by simp[Uu,k4,isD,isT,tyN,ln,c,c',fin],.refl⟩
 | fv a=>exact hd.fv.elim
 | _=>exact⟨S,by simp[Uu,isD,isT,tyN,Zw,fin],.refl⟩
theorem Gq8(h:Kv 2 d=false):idB d=false:=by
 cases d with
 | tup l=>match l,h with
  | [a,b],h=>simp[Kv] at h
  | [],_=>rfl
  | [_],_=>rfl
  | _::_::_::_,_=>rfl
 | _=>rfl
theorem Gq9(h:Nc S d e)(he:e<=30):Wb [d] S=.ok (.bl (idB d)) S:=by
 have t2:Jc [d,.int 2] S=_:=Gb6 (m:=2) h
 cases z:Kv 2 d<;>rw[z] at t2
 ·rw[Gq8 z]
  unfold Wb
  rw[Hm]
  simp[Yg,t2,fin]
 ·obtain⟨w,a,rfl⟩:=Geb z
  have i1:inP w c_WORDS S=.ok (.bl (wv DW w)) S:=Gs6 (h.mem (by simp)) he (by rfl) (Ggx (ss:=["let","feed","right","left"])).1
  have b1:=Gfj (h.mem (x:=a) (by simp))
  have e0:idB (.tup [w,a])=(wv DW w&&isInt a):=rfl
  unfold Wb
  rw[Hm,e0]
  simp only[Yg]
  generalize c_WORDS=cw at *
  generalize wv DW w=v1 at *
  generalize isInt a=v2 at *
  cases v1<;>simp[t2,p0e,p1e,i1,b1,fin]
end
def wP(w:Str)(n:Nat):List (Str×Nat):=(List.range n).map fun k=>(w,k)
def dP(m:Nat):List (Str×Nat):=((wP "let" m++wP "feed" (m+1))++wP "right" m)++wP "left" m
def pD(p:Str×Nat):D:=dd p.1 p.2
def pP(p:Str×Nat):PyData:=.tuple [.str p.1,.int p.2]
theorem Gga:(wP w n).length=n:=by simp[wP]
theorem Gj6{S:Sto}:∀ l:List (Str×Nat),Hq (toP S 39) (l.map pD)=some (l.map pP)
 | []=>rfl
 | p::r=>by
  have:toP S 39 (pD p)=some (pP p):=rfl
  simp only[List.map_cons,Hq,this,Gj6 r]
theorem Gj7:∀ l:List (Str×Nat),(∀ p∈l,PyData.strOk p.1=true)->PyData.canLayAll0 (l.map pP)=true/\PyData.depthAll (l.map pP)<=1
 | [],_=>⟨rfl,Nat.zero_le _⟩
 | p::r,h=>by
  obtain⟨h1,h2⟩:=Gj7 r fun q hq=>h q (List.mem_cons_of_mem _ hq)
  refine⟨?_,?_⟩
  ·show((PyData.strOk p.1&&(true&&true))&&PyData.canLayAll0 (r.map pP))=true
   rw[h p List.mem_cons_self,h1]; rfl
  ·show max 1 (PyData.depthAll (r.map pP))<=1
   omega
theorem Gra:∀ p∈dP m,PyData.strOk p.1=true:=fun p hp=>by
 unfold dP wP at hp
 simp only[List.mem_append,List.mem_map] at hp
 rcases hp with((⟨_,_,rfl⟩ | ⟨_,_,rfl⟩) | ⟨_,_,rfl⟩) | ⟨_,_,rfl⟩<;>exact stok _
theorem Gmq{i:Int}:((List.range n).any fun k=>((k:Int)==i))=(decide (0<=i)&&decide (i<=(n:Int)-1)):=by
 rw[Bool.eq_iff_iff,List.any_eq_true]
 simp only[List.mem_range,beq_iff_eq,Bool.and_eq_true,decide_eq_true_eq]
 constructor
 ·rintro⟨k,hk,rfl⟩
  omega
 ·intro h
  exact⟨i.toNat,by omega,by omega⟩
theorem Gec{v:Str}{i:Int}:((wP w n).any fun p=>PyData.eqv (pP p) (.tuple [.str v,.int i]))=((w==v)&&(decide (0<=i)&&decide (i<=(n:Int)-1))):=by
 unfold wP
 rw[List.any_map,<- Gmq]
 have e:((fun p=>PyData.eqv (pP p) (.tuple [.str v,.int i]))∘fun k=>(w,k))=fun k:Nat=>((w==v)&&((k:Int)==i)):=by
  funext k
  show((w==v)&&(((k:Int)==i)&&true))=_
  rw[Bool.and_true]
 rw[e]
 cases w==v
 ·simp
 ·simp
theorem sb{s t:String}:(Str.ofString s==Str.ofString t)=decide (s=t):=by
 by_cases c:s=t
 ·subst c; simp
 ·rw[decide_eq_false c]
  exact beq_eq_false_iff_ne.mpr fun h=>c (Gf6 h)
theorem Gs8(h:wv DW (.str w)=true):w="let"\/w="feed"\/w="right"\/w="left":=by
 simp only[wv,DW,List.map_cons,List.map_nil,List.any_cons,List.any_nil,Bool.or_false,Bool.or_eq_true,beq_iff_eq] at h
 rcases h with h | h | h | h
 ·exact .inl h.symm
 ·exact .inr (.inl h.symm)
 ·exact .inr (.inr (.inl h.symm))
 ·exact .inr (.inr (.inr h.symm))
theorem Grb{i:Int}(h:wv DW (.str w)=true):((dP m).map pP).any (fun z=>PyData.eqv z (.tuple [.str w,.int i]))=Vj m (.tup [.str w,.int i]):=by
 rw[List.any_map]
 show(dP m).any (fun p=>PyData.eqv (pP p) (.tuple [.str w,.int i]))=_
 unfold dP
 rw[List.any_append,List.any_append,List.any_append,Gec,Gec,Gec,Gec]
 have e:((m+1:Nat):Int)-1=m:=by omega
 rw[e]
 show _=(if w="feed" then bt m (.int i) else LW.any (fun z=>z==w)&&bt (m-1) (.int i))
 rcases Gs8 h with rfl | rfl | rfl | rfl<;>simp[sb,Gs2,LW,bt]
theorem Gmr{m:Int}(h:Vj m d=true):idB d=true:=by
 unfold Vj at h
 split at h
 ·rename_i w a
  show(wv DW (.str w)&&isInt a)=true
  have hi:∀ n,bt n a=true->isInt a=true:=fun n hb=>by cases a<;>first | rfl | cases hb
  split at h
  ·rename_i c
   subst c
   rw[hi _ h]; simp[wv,DW,sb]
  ·rw[Bool.and_eq_true] at h
   rw[hi _ h.2]
   have h1:=h.1
   simp only[LW,List.map_cons,List.map_nil,List.any_cons,List.any_nil,Bool.or_false,Bool.or_eq_true,beq_iff_eq] at h1
   rcases h1 with h1 | h1 | h1<;>subst h1<;>simp[wv,DW,sb]
 ·cases h
section
variable{S S':Sto}{e m:Nat}{d x:D}{l:List D}{ps:List Pl}{us:List Bool}
theorem dcmp{w:String}{f:Ev (List D)}(hf:f ρ S=.ok [.int n] S)(hn:n<=100):∃ S',cmp (ir1 f) [none] (gn 0) ttrue (tp (ac (cn (.str w)) (ac (vr 0) an))) ρ S=.ok (.lst S.length) S'/\S'[S.length]?=some ⟨false,(wP w n).map pD⟩/\Ex S S':=by
 obtain⟨S',f1,q1,ex⟩:=Ggt (f:=ir1 f) (s:=rsrc 0 n) (xs:=(List.range n).map fun k:Nat=>D.int (k:Int)) (pk:=[none]) (e:=tp (ac (cn (.str w)) (ac (vr 0) an))) (ρ:=ρ) (S:=S) (S1:=S) [] (fun d=>.tup [.str w,d]) (Ub hf (by omega)) (fun k S' _=>Kn) (by simp[rsrc]) rfl (by simp; omega) (fun d _ S' _=>⟨S',by simp,Ex.refl⟩)
 refine⟨S',f1,?_,ex⟩
 rw[q1]
 congr 2
 simp[wP,pD,dd,List.map_map]
theorem Gj8(C:Can ps us m):∃ q S',Wq [cD ps us] S=.ok (.lst q) S'/\S'[q]?=some ⟨false,(dP m).map pD⟩/\Ex S S':=by
 have l1:=Gb8 C
 have l2:=Gj4 C
 have hm:=C.m2
 obtain⟨S1,f1,q1,x1⟩:=dcmp (S:=S) (w:="let") (n:=m) (f:=ac (b1 Gz (ac (vr 2) an)) an) (ρ:=[some (cD ps us),some (.tup (ps.map Pl.toD)),some (.tup (us.map gd)),none,none,none,none]) (by simp[l2]) (by omega)
 obtain⟨S2,f2,q2,x2⟩:=dcmp (S:=S1) (w:="feed") (n:=m+1) (f:=ac (b1 Gz (ac (vr 1) an)) an) (ρ:=[some (cD ps us),some (.tup (ps.map Pl.toD)),some (.tup (us.map gd)),some (.lst S.length),none,none,none]) (by simp[l1]) (by omega)
 obtain⟨S3,f3,q3,x3⟩:=dcmp (S:=S2) (w:="right") (n:=m) (f:=ac (b1 Gz (ac (vr 2) an)) an) (ρ:=[some (cD ps us),some (.tup (ps.map Pl.toD)),some (.tup (us.map gd)),some (.lst S.length),some (.lst S1.length),none,none]) (by simp[l2]) (by omega)
 obtain⟨S4,f4,q4,x4⟩:=dcmp (S:=S3) (w:="left") (n:=m) (f:=ac (b1 Gz (ac (vr 2) an)) an) (ρ:=[some (cD ps us),some (.tup (ps.map Pl.toD)),some (.tup (us.map gd)),some (.lst S.length),some (.lst S1.length),some (.lst S2.length),none]) (by simp[l2]) (by omega)
 have a1:=Yb (x4.at (x3.at (x2.at q1))) (x4.at (x3.at q2)) (by simp[Gga]; omega)
 obtain⟨S5,hS5⟩:∃ S5,S5=S4++[(⟨false,(wP "let" m).map pD++(wP "feed" (m+1)).map pD⟩:Cell)]:=⟨_,rfl⟩
 have x5:Ex S4 S5:=by rw[hS5]; exact Ex.app
 have q5:S5[S4.length]?=some ⟨false,(wP "let" m).map pD++(wP "feed" (m+1)).map pD⟩:=by rw[hS5]; exact Hc
 rw[<- hS5] at a1
 have a2:=Yb q5 (x5.at (x4.at q3)) (by simp[Gga]; omega)
 obtain⟨S6,hS6⟩:∃ S6,S6=S5++[(⟨false,((wP "let" m).map pD++(wP "feed" (m+1)).map pD)++(wP "right" m).map pD⟩:Cell)]:=⟨_,rfl⟩
 have x6:Ex S5 S6:=by rw[hS6]; exact Ex.app
 have q6:S6[S5.length]?=some ⟨false,((wP "let" m).map pD++(wP "feed" (m+1)).map pD)++(wP "right" m).map pD⟩:=by rw[hS6]; exact Hc
 rw[<- hS6] at a2
 have a3:=Yb q6 (x6.at (x5.at q4)) (by simp[Gga]; omega)
 refine⟨S6.length,S6++[(⟨false,(((wP "let" m).map pD++(wP "feed" (m+1)).map pD)++(wP "right" m).map pD)++(wP "left" m).map pD⟩:Cell)],?_,by rw[Hc]; simp[dP],((((x1.trans x2).trans x3).trans x4).trans (x5.trans x6)).trans Ex.app⟩
 unfold Wq
 rw[Hm]
 simp only[Yy]
 refine(Gw (ρ':=[some (cD ps us),some (.tup (ps.map Pl.toD)),some (.tup (us.map gd)),none,none,none,none]) (S':=S) (by simp[cD])).trans ?_
 refine(Gw (ρ':=[some (cD ps us),some (.tup (ps.map Pl.toD)),some (.tup (us.map gd)),some (.lst S.length),none,none,none]) (S':=S1) (by rw[Qh,f1]; rfl)).trans ?_
 refine(Gw (ρ':=[some (cD ps us),some (.tup (ps.map Pl.toD)),some (.tup (us.map gd)),some (.lst S.length),some (.lst S1.length),none,none]) (S':=S2) (by rw[Qh,f2]; rfl)).trans ?_
 refine(Gw (ρ':=[some (cD ps us),some (.tup (ps.map Pl.toD)),some (.tup (us.map gd)),some (.lst S.length),some (.lst S1.length),some (.lst S2.length),none]) (S':=S3) (by rw[Qh,f3]; rfl)).trans ?_
 refine(Gw (ρ':=[some (cD ps us),some (.tup (ps.map Pl.toD)),some (.tup (us.map gd)),some (.lst S.length),some (.lst S1.length),some (.lst S2.length),some (.lst S3.length)]) (S':=S4) (by rw[Qh,f4]; rfl)).trans ?_
 simp[a1,a2,a3,fin]
theorem Gj9(hq:S[q]?=some ⟨false,(dP m).map pD⟩)(h:Nc S d e)(he:e<=30)(hi:idB d=true):inP d (.lst q) S=.ok (.bl (Vj m d)) S:=by
 unfold idB at hi
 split at hi
 ·rename_i w a
  rw[Bool.and_eq_true] at hi
  obtain⟨h1,h2⟩:=hi
  cases w with
  | str w=>
   cases a with
   | int i=>
    obtain⟨p,hp,sh⟩:=h.sh he
    have:p=.tuple [.str w,.int i]:=(Option.some.inj hp).symm
    subst this
    have tl:toP S 40 (.lst q)=some (.list ((dP m).map pP)):=by
     show(match S[q]? with | some c=>(Hq (toP S 39) c.xs).map PyData.list | none=>none)=_
     rw[hq]
     show(Hq (toP S 39) ((dP m).map pD)).map PyData.list=_
     rw[Gj6]; rfl
    obtain⟨y1,y2⟩:=Gj7 (dP m) Gra
    have sl:SeqAt.shaped (.list ((dP m).map pP))=true:=by
     unfold SeqAt.shaped
     simp[PyData.canLay0,PyData.depth,y1]
     omega
    unfold inP Gcg
    simp only[hp,tl]
    rw[sh,sl]
    simp only[Bool.and_self,if_true,Bool.false_eq_true,if_false,Grb h1]
   | _=>cases h2
  | _=>cases h1
 ·cases hi
theorem Gg0(h:Kv 2 d=false){m:Int}:Gb7 m d=false:=by
 cases d with
 | tup l=>match l,h with
  | [a,b],h=>simp[Kv] at h
  | [],_=>rfl
  | [_],_=>rfl
  | _::_::_::_,_=>rfl
 | _=>rfl
theorem Grc(C:Can ps us m)(h:∀ S',Ex S S'->Nc S' d e)(he:e<=30):∃ S',Jv [cD ps us,d] S=.ok (.bl (Gb7 m d)) S'/\Ex S S':=by
 have hd:=h S .refl
 have t2:Jc [d,.int 2] S=_:=Gb6 (m:=2) hd
 unfold Jv
 simp only[Hm]
 cases z:Kv 2 d<;>rw[z] at t2
 ·rw[Gg0 z]
  exact⟨S,by simp[Ju,t2,Kg,fin],.refl⟩
 ·obtain⟨a,b,rfl⟩:=Geb z
  obtain⟨S1,e1,x1⟩:=Gj5 C (d:=a) (fun S' x=>(h S' x).mem (by simp)) he
  have e0:Gb7 m (.tup [a,b])=(Zw m a&&Vj m b):=rfl
  rw[e0]
  cases va:Zw m a<;>rw[va] at e1
  ·exact⟨S1,by simp[Ju,t2,Kg,e1,fin],x1⟩
  ·have hb:=(h S1 x1).mem (x:=b) (by simp)
   have e2:=Gq9 hb he
   cases vb:idB b<;>rw[vb] at e2
   ·have:Vj m b=false:=by
     cases z:Vj m b
     ·rfl
     ·rw[Gmr z] at vb; cases vb
    rw[this]
    exact⟨S1,by simp[Ju,t2,Kg,e1,e2,fin],x1⟩
   ·obtain⟨q,S2,e3,q2,x2⟩:=Gj8 C (S:=S1)
    have e4:=Gj9 q2 ((h S2 (x1.trans x2)).mem (x:=b) (by simp)) he vb
    have e4:inP b (.lst q) S2=_:=e4
    refine⟨S2,?_,x1.trans x2⟩
    simp only[Ju]
    generalize cD ps us=cd at *
    simp[t2,Kg,e1,e2,e3,e4,fin]
theorem Gka(C:Can ps us m)(h:∀ S',Ex S S'->Nc S' d e)(he:e<=30):∃ S',Yh [cD ps us,d] S=.ok (.bl (Yp m d)) S'/\Ex S S':=by
 have hd:=h S .refl
 have k4:c_MOST_ROWS=.int 12:=rfl
 unfold Yh
 simp only[Hm]
 cases d with
 | tup l=>
  have ln:Gz [.tup l] S=.ok (.int l.length) S:=by simp[Gz]
  have e0:Yp m (.tup l)=(decide (l.length<=12)&&l.all (Gb7 m)):=rfl
  rw[e0]
  by_cases c:l.length<=12
  ·obtain⟨S2,al,ex⟩:=Gb3 (l:=l) (pk:=[none,some 0]) (e:=cl 2 (Gn Jv) (ac (vr 1) (ac (vr 0) an))) (ρ:=[some (cD ps us),some (.tup l)]) (f:=vr 1) (S:=S)
    [some (cD ps us)] (Gb7 m) (by simp) rfl (by omega) (fun d hd S' x=>by
     obtain⟨S'',e1,x1⟩:=Grc C (d:=d) (S:=S') (fun S'' x'=>(h S'' (x.trans x')).mem hd) he
     exact⟨S'',by simp[e1],x1⟩)
   refine⟨S2,?_,ex⟩
   have c':(l.length:Int)<=12:=by omega
   simp only[Wc,k4]
   generalize hcm:cmp (isrc (vr 1)) [none,some 0] (gn 0) ttrue (cl 2 (Gn Jv) (ac (vr 1) (ac (vr 0) an))) [some (cD ps us),some (.tup l)] S=o at al
   simp[isD,isT,tyN,ln,c,c',hcm]
   cases o with
   | ok d S1=>simp at al ⊢; simp[al,fin]
   | exc x S1=>simp at al
   | bad=>simp at al
  ·have c':¬ (l.length:Int)<=12:=by omega
   exact⟨S,by simp[Wc,k4,isD,isT,tyN,ln,c,c',fin],.refl⟩
 | fv a=>exact hd.fv.elim
 | _=>exact⟨S,by simp[Wc,isD,isT,tyN,Yp,fin],.refl⟩
end
theorem Gg1{nxt:Nat->Sto->Option D}{g:Tg}{b:Sv}{l:List D}(gd:D->Bool)(I:Lc->Sto->Prop)(J:Sto->Prop)(hn:∀ k ρ S,I ρ S->nxt k S=l[k]?)
  (hs:∀ (k:Nat) (d:D) (ρ:Lc) (S:Sto),l[k]?=some d->I ρ S->∃ ρ1,g d ρ=some ρ1/\((gd d=true/\∃ ρ2 S2,b ρ1 S=.nx ρ2 S2/\I ρ2 S2)\/(gd d=false/\∃ S2,b ρ1 S=.rt (.bl false) S2/\J S2))):
  ∀ (n k:Nat) (ρ:Lc) (S:Sto),k<=l.length->I ρ S->l.length<n+k→
   ((l.drop k).all gd=true/\∃ ρ' S',Vk nxt g b n k ρ S=.nx ρ' S'/\I ρ' S')\/((l.drop k).all gd=false/\∃ S',Vk nxt g b n k ρ S=.rt (.bl false) S'/\J S')
 | 0,k,ρ,S,h1,_,h2=>by omega
 | n+1,k,ρ,S,h1,hI,h2=>by
  unfold Vk
  rw[hn k ρ S hI]
  cases z:l[k]? with
  | none=>
   have:k=l.length:=by have:=List.getElem?_eq_none_iff.mp z; omega
   subst this
   exact .inl ⟨by simp,ρ,S,rfl,hI⟩
  | some d=>
   have hk:k<l.length:=(List.getElem?_eq_some_iff.mp z).1
   have dr:l.drop k=d::l.drop (k+1):=by
    rw[List.drop_eq_getElem_cons hk]
    have:=(List.getElem?_eq_some_iff.mp z).2
    rw[this]
   rw[dr,List.all_cons]
   obtain⟨ρ1,e1,h⟩:=hs k d ρ S z hI
   rcases h with⟨hg,ρ2,S2,e2,hI2⟩ | ⟨hg,S2,e2,hJ⟩
   ·simp only[e1,e2,hg,Bool.true_and]
    exact Gg1 gd I J hn hs n (k+1) ρ2 S2 hk hI2 (by omega)
   ·simp only[e1,e2,hg,Bool.false_and]
    exact .inr ⟨trivial,S2,rfl,hJ⟩
section
variable{S S':Sto}{e m:Nat}{d x:D}{l:List D}{ps:List Pl}{us:List Bool}
theorem Gkb(h:Kv 2 d=false){m:Int}:Vj m d=false:=by
 cases d with
 | tup l=>match l,h with
  | [a,b],h=>simp[Kv] at h
  | [],_=>rfl
  | [x],_=>cases x<;>rfl
  | x::_::_::_,_=>cases x<;>rfl
 | _=>rfl
theorem Nc.str{s:Str}(h:Nc S (.str s) e):PyData.strOk s=true:=by
 obtain⟨p,a,hl,_⟩:=h
 have:p=.str s:=(Option.some.inj (a (e+1) (by omega))).symm
 subst this
 exact hl
theorem Gms(C:Can ps us m)(h:∀ S',Ex S S'->Nc S' d e)(he:e<=30):∃ S',Qg [cD ps us,d] S=.ok (.bl (Vj m d)) S'/\Ex S S':=by
 have hd:=h S .refl
 have c0:=fun S=>cd0 (ps:=ps) (us:=us) (S:=S)
 have c1:=fun S=>cd1 (ps:=ps) (us:=us) (S:=S)
 have l1:=Gb8 C
 have l2:=Gj4 C
 unfold Qg
 simp only[Hm]
 cases z:Kv 2 d
 ·refine⟨S,?_,.refl⟩
  rw[Gkb z]
  cases d with
  | tup l=>
   have zl:¬ l.length=2:=by simpa[Kv] using z
   have zn:¬ (l.length:Int)=2:=by omega
   simp[Jd,isD,isT,tyN,Kg,Gz,zn,fin]
  | fv a=>exact hd.fv.elim
  | _=>simp[Jd,isD,isT,tyN,Kg,fin]
 ·obtain⟨w,a,rfl⟩:=Geb z
  have l3:∀ (x y:D) S,Gz [.tup [x,y]] S=.ok (.int 2) S:=fun _ _ _=>rfl
  have ne3:∀ S,neD (.int 2) (.int 2) S=.ok (.bl false) S:=fun _=>rfl
  cases w with
  | str s=>
   have so:=(hd.mem (x:=.str s) (by simp)).str
   have ef:∀ S,eqD (.str s) (.str "feed") S=.ok (.bl (s=="feed")) S:=fun S=>Gjn so (stok _)
   have e0:Vj m (.tup [.str s,a])=(if s="feed" then bt m a else LW.any (fun z=>z==s)&&bt (m-1) a):=rfl
   rw[e0]
   by_cases c:s="feed"
   ·have b1:=Zv (n:=m) (hd.mem (x:=a) (by simp))
    rw[if_pos c]
    have cb:(s==("feed":Str))=true:=by rw[c]; simp
    simp only[cb] at ef
    refine⟨S,?_,.refl⟩
    simp only[Jd]
    generalize cD ps us=cd at *
    generalize bt m a=v2 at *
    simp[isD,isT,tyN,Kg,l3,ne3,p0e,p1e,ef,c0,l1,b1,fin]
   ·rw[if_neg c]
    have cb:(s==("feed":Str))=false:=beq_eq_false_iff_ne.mpr c
    simp only[cb] at ef
    obtain⟨S2,hS2⟩:∃ S2,S2=S++[(⟨false,[.str "let",.str "right",.str "left"]⟩:Cell)]:=⟨_,rfl⟩
    have x2:Ex S S2:=by rw[hS2]; exact Ex.app
    have h2:=h S2 x2
    have i1:inP (.str s) (.lst S.length) S2=.ok (.bl (wv LW (.str s))) S2:=by
     have:=Gs7 (neg:=false) (ws:=LW) (q:=S.length) (h2.mem (x:=.str s) (by simp)) he (Gj1 (ss:=["let","right","left"]) (by decide) (by rw[hS2]; exact Hc)) (Ggx (ss:=["let","right","left"])).2
     exact this
    have b2:Hx [a,.int m] S2=.ok (.bl (bt (m-1) a)) S2:=by
     have:=Zv (n:=(m:Int)-1) (h2.mem (x:=a) (by simp))
     rw[Int.sub_add_cancel] at this
     exact this
    have e1:(LW.any (fun z=>z==s))=wv LW (.str s):=rfl
    refine⟨S2,?_,x2⟩
    rw[e1]
    simp only[Jd]
    generalize cD ps us=cd at *
    generalize wv LW (.str s)=v1 at *
    generalize bt (m-1) a=v2 at *
    cases v1<;>simp[isD,isT,tyN,Kg,l3,ne3,p0e,p1e,ef,<- hS2,i1,c1,l2,b2,fin]
  | fv a=>exact(hd.mem (x:=.fv a) (by simp)).fv.elim
  | _=>exact⟨S,by simp[Jd,isD,isT,tyN,Kg,l3,ne3,p0e,Vj,fin],.refl⟩
theorem Gmt(C:Can ps us m){th:D}(h:∀ S',Ex S S'->Nc S' d e)(he:e<=30):
  (Gb7 m d=true/\∃ S2,Ht [some (cD ps us),some th,some d] S=.nx [some (cD ps us),some th,some d] S2/\Ex S S2)\/(Gb7 m d=false/\∃ S2,Ht [some (cD ps us),some th,some d] S=.rt (.bl false) S2/\Ex S S2):=by
 have hd:=h S .refl
 have l3:∀ (x y:D) S,Gz [.tup [x,y]] S=.ok (.int 2) S:=fun _ _ _=>rfl
 have ne3:∀ S,neD (.int 2) (.int 2) S=.ok (.bl false) S:=fun _=>rfl
 cases z:Kv 2 d
 ·refine .inr ⟨Gg0 z,S,?_,.refl⟩
  cases d with
  | tup l=>
   have zl:¬ l.length=2:=by simpa[Kv] using z
   have zn:¬ (l.length:Int)=2:=by omega
   simp[Ht,isD,isT,tyN,Kg,Gz,zn]
  | fv a=>exact hd.fv.elim
  | _=>simp[Ht,isD,isT,tyN,Kg]
 ·obtain⟨a,b,rfl⟩:=Geb z
  have e0:Gb7 m (.tup [a,b])=(Zw m a&&Vj m b):=rfl
  rw[e0]
  cases a with
  | tup l=>
   have e1:Zw m (.tup l)=(decide (l.length<=4)&&l.all (Gaj m)):=rfl
   have ln:∀ S,Gz [.tup l] S=.ok (.int l.length) S:=fun S=>by simp[Gz]
   rw[e1]
   by_cases c:l.length<=4
   ·have c':¬ (4:Int)<l.length:=by omega
    obtain⟨S2,al,ex⟩:=Gb3 (l:=l) (pk:=[none,some 0]) (e:=cl 2 (Gn Jk) (ac (vr 1) (ac (vr 0) an))) (ρ:=[some (cD ps us),some th,some (.tup [.tup l,b])]) (f:=o2 DL.getD (vr 2) (cn (.int 0))) (S:=S)
     [some (cD ps us)] (Gaj m) (by simp[p0e]) rfl (by omega) (fun d hd S' x=>by
      obtain⟨S'',e1,x1⟩:=Gmp C (d:=d) (S:=S') (fun S'' x'=>((h S'' (x.trans x')).mem (x:=.tup l) (by simp)).mem hd) he
      exact⟨S'',by simp[e1],x1⟩)
    obtain⟨S3,e3,x3⟩:=Gms C (d:=b) (S:=S2) (fun S' x=>(h S' (ex.trans x)).mem (by simp)) he
    have al':b1 Gbd (ac (cmp (isrc (o2 DL.getD (vr 2) (cn (.int 0)))) [none,some 0] (gn 0) ttrue (cl 2 (Gn Jk) (ac (vr 1) (ac (vr 0) an)))) an) [some (cD ps us),some th,some (.tup [.tup l,b])] S=.ok (.bl (l.all (Gaj m))) S2:=by
     rw[Gni,Yn,<- al]
     cases z:cmp (isrc (o2 DL.getD (vr 2) (cn (.int 0)))) [none,some 0] (gn 0) ttrue (cl 2 (Gn Jk) (ac (vr 1) (ac (vr 0) an))) [some (cD ps us),some th,some (.tup [.tup l,b])] S with
     | ok d S1=>simp
     | exc x S1=>rfl
     | bad=>rfl
    have f1:sif (to (tn (tt (o1 (isD "tuple") (vr 2)))) (to (tb (o2 neD (b1 Gz (ac (vr 2) an)) (cn (.int 2)))) (to (tn (tt (o1 (isD "tuple") (o2 DL.getD (vr 2) (cn (.int 0)))))) (tb (o2 gtD (b1 Gz (ac (o2 DL.getD (vr 2) (cn (.int 0))) an)) (cn (.int 4))))))) (sret (cn (.bl false))) DL.skip [some (cD ps us),some th,some (.tup [.tup l,b])] S=.nx [some (cD ps us),some th,some (.tup [.tup l,b])] S:=by
     simp[isD,isT,tyN,Kg,l3,ne3,p0e,ln,c']
    unfold Ht
    rw[Ku f1,decide_eq_true c,Bool.true_and]
    cases va:l.all (Gaj m)<;>rw[va] at al'
    ·refine .inr ⟨by simp,S2,?_,ex⟩
     rw[Gc7 (S1:=S2) (by rw[Gjg,Gjf,Gje,al']; simp[Kg])]
     simp
    ·cases vb:Vj m b<;>rw[vb] at e3
     ·refine .inr ⟨by simp,S3,?_,ex.trans x3⟩
      rw[Gc7 (S1:=S3) (by rw[Gjg,Gjf,Gje,al']; simp[Kg,p1e,e3])]
      simp
     ·refine .inl ⟨by simp,S3,?_,ex.trans x3⟩
      rw[Ge3 (S1:=S3) (by rw[Gjg,Gjf,Gje,al']; simp[Kg,p1e,e3])]
      rfl
   ·have c':(4:Int)<l.length:=by omega
    refine .inr ⟨by simp[c],S,?_,.refl⟩
    simp[Ht,isD,isT,tyN,Kg,l3,ne3,p0e,ln,c']
  | fv a=>exact(hd.mem (x:=.fv a) (by simp)).fv.elim
  | _=>exact .inr ⟨by simp[Zw],S,by simp[Ht,isD,isT,tyN,Kg,l3,ne3,p0e],.refl⟩
theorem Grd(C:Can ps us m)(h:∀ S',Ex S S'->Nc S' d e)(he:e<=30):∃ S',Xb [cD ps us,d] S=.ok (.bl (Yp m d)) S'/\Ex S S':=by
 have hd:=h S .refl
 unfold Xb
 simp only[Hm]
 cases d with
 | tup l=>
  have ln:Gz [.tup l] S=.ok (.int l.length) S:=by simp[Gz]
  have e0:Yp m (.tup l)=(decide (l.length<=12)&&l.all (Gb7 m)):=rfl
  rw[e0]
  by_cases c:l.length<=12
  ·have c':¬ (12:Int)<l.length:=by omega
   rw[decide_eq_true c,Bool.true_and]
   have key:=Gg1 (nxt:=(Gf5 l).nxt) (g:=gn 2) (b:=Ht) (l:=l) (Gb7 m) (fun ρ S'=>(∃ x2,ρ=[some (cD ps us),some (.tup l),x2])/\Ex S S') (fun S'=>Ex S S') (fun _ _ _ _=>rfl) (fun k d ρ S1 hd ⟨⟨x2,hρ⟩,x⟩=>by
    subst hρ
    refine⟨[some (cD ps us),some (.tup l),some d],rfl,?_⟩
    rcases Gmt C (th:=.tup l) (d:=d) (S:=S1) (fun S' x'=>(h S' (x.trans x')).mem (Kj hd)) he with⟨v,S2,f,y⟩ | ⟨v,S2,f,y⟩
    ·exact .inl ⟨v,_,S2,f,⟨_,rfl⟩,x.trans y⟩
    ·exact .inr ⟨v,S2,f,x.trans y⟩) (Gf5 l).fuel 0 [some (cD ps us),some (.tup l),none] S (Nat.zero_le _) ⟨⟨_,rfl⟩,.refl⟩ Gnk
   rw[List.drop_zero] at key
   simp only[Ux]
   rcases key with⟨v,ρ',S',ef,⟨x2,rfl⟩,x⟩ | ⟨v,S',ef,x⟩
   ·refine⟨S',?_,x⟩
    rw[v]
    generalize cD ps us=cd at *
    simp[isD,isT,tyN,Kg,ln,c',ef,fin]
   ·refine⟨S',?_,x⟩
    rw[v]
    generalize cD ps us=cd at *
    simp[isD,isT,tyN,Kg,ln,c',ef,fin]
  ·have c':(12:Int)<l.length:=by omega
   exact⟨S,by simp[Ux,isD,isT,tyN,Kg,ln,c,c',fin],.refl⟩
 | fv a=>exact hd.fv.elim
 | _=>exact⟨S,by simp[Ux,isD,isT,tyN,Kg,Yp,fin],.refl⟩
end
def lb':Nat->Nat
 | 0=>61
 | k+1=>5*lb' k+20
theorem Gnn:∀ k,61<=lb' k
 | 0=>Nat.le_refl _
 | k+1=>by have:=Gnn k; show 61<=5*lb' k+20; omega
def Lv(P:Nat->Prop)(S:Sto)(k:Nat)(d:D):Prop:=Shx P S d (lb' k) k
section
variable{P:Nat->Prop}{S S' S1:Sto}{k t m c n N j:Nat}{d x y z w:D}{xs ys l:List D}
theorem Lv.up(h:Lv P S k d):Lv P S (k+1) d:=Shx.mono h (by show lb' k<=5*lb' k+20; omega) (by omega)
theorem Lv.to(h:Lv P S k d)(x:Kx P S S'):Lv P S' k d:=Shx.to h x
theorem lv0(h:Shx P S d 61 0):Lv P S k d:=h.mono (Gnn k) (Nat.zero_le _)
theorem Gb9:Lv P S k .non:=lv0 Zs
theorem Gg2{b:Bool}:Lv P S k (.bl b):=lv0 Gea
theorem Ged{i:Int}(h:i.natAbs<10^60):Lv P S k (.int i):=lv0 (Gd9 h)
theorem Gca{i:Int}(h0 : -1000<=i)(h1:i<=1000):Lv P S k (.int i):=Ged (by
 have big:(1001:Nat)<10^60:=by decide
 omega)
theorem Zx{s:String}(h:(PyData.strOk (reprText (Str.ofString s))&&decide ((reprText (Str.ofString s)).length<=61))=true):Lv P S k (.str (Str.ofString s)):=by
 rw[Bool.and_eq_true,decide_eq_true_eq] at h
 exact lv0 (Zt (stok _) h.1 h.2)
theorem Gkc(h:∀ d∈l,Lv P S k d)(hl:l.length<=5):Lv P S (k+1) (.tup l):=by
 have:=Hw (Jg h)
 refine this.mono ?_ (Nat.le_refl _)
 show _<=5*lb' k+20
 have h2:lb' k*l.length<=lb' k*5:=Nat.mul_le_mul_left _ hl
 omega
theorem Gmu(hq:S[q]?=some ⟨fz,l⟩)(h:∀ d∈l,Lv P S k d)(hl:l.length<=5)(hp:P q):Lv P S (k+1) (.lst q):=by
 have:=Xd hq (Jg h) hp
 refine this.mono ?_ (Nat.le_refl _)
 show _<=5*lb' k+20
 have h2:lb' k*l.length<=lb' k*5:=Nat.mul_le_mul_left _ hl
 omega
theorem m1(h:p x):∀ d∈[x],p d:=fun d hd=>by
 cases List.mem_singleton.mp hd; exact h
theorem m2(h:p x)(hl:∀ d∈l,p d):∀ d∈x::l,p d:=fun d hd=>by
 rcases List.mem_cons.mp hd with rfl | hd
 ·exact h
 ·exact hl d hd
theorem m0:∀ d∈([]:List D),p d:=fun d hd=>by cases hd
theorem Gno:Lv P S (k+1) (.tup []):=Gkc m0 (by simp)
theorem Gnp(h1:Lv P S k x):Lv P S (k+1) (.tup [x]):=Gkc (m1 h1) (by simp)
theorem Gda(h1:Lv P S k x)(h2:Lv P S k y):Lv P S (k+1) (.tup [x,y]):=Gkc (m2 h1 (m1 h2)) (by simp)
theorem Gcb(h1:Lv P S k x)(h2:Lv P S k y)(h3:Lv P S k z):Lv P S (k+1) (.tup [x,y,z]):=Gkc (m2 h1 (m2 h2 (m1 h3))) (by simp)
theorem Gs9(h1:Lv P S k x)(h2:Lv P S k y)(h3:Lv P S k z)(h4:Lv P S k w):Lv P S (k+1) (.tup [x,y,z,w]):=Gkc (m2 h1 (m2 h2 (m2 h3 (m1 h4)))) (by simp)
theorem stg{A:Ev (List D)}{p:D->Sto->Prop}(hp:∀ d S S',p d S->Ex S S'->p d S')(hc:S[c]?=some ⟨false,xs⟩)(hA:A ρ S=.ok ys S1)(x:Ex S S1)(hv:ρ[j]?=some (some (.lst c)))(hl:xs.length+ys.length<=1000)(hx:∀ x∈xs,p x S)(hy:∀ y∈ys,p y S1):
  ∃ S',o2 Hg (vr j) (ls A) ρ S=.ok (.lst (S1.length+1)) S'/\Ex S1 S'/\S'[S1.length+1]?=some ⟨false,xs++ys⟩/\∀ z∈xs++ys,p z S':=by
 have lE:ls A ρ S=.ok (.lst S1.length) (S1++[(⟨false,ys⟩:Cell)]):=by rw[Gnj,hA,Hi,if_pos (by omega)]
 have ad:=Yb (S:=S1++[(⟨false,ys⟩:Cell)]) (i:=c) (j:=S1.length) (a:=xs) (b:=ys) (Zp (x.at hc)) Hc (by omega)
 have ln:(S1++[(⟨false,ys⟩:Cell)]).length=S1.length+1:=by simp
 rw[ln] at ad
 refine⟨(S1++[(⟨false,ys⟩:Cell)])++[(⟨false,xs++ys⟩:Cell)],?_,Ex.app.trans Ex.app,?_,fun z hz=>?_⟩
 ·rw[Gc4,Ya,hv]
  simp only[Hi]
  rw[lE,Hi,ad]
 ·have:=Hc (S:=S1++[(⟨false,ys⟩:Cell)]) (c:=⟨false,xs++ys⟩)
  rw[ln] at this
  exact this
 ·rcases List.mem_append.mp hz with hz | hz
  ·exact hp z _ _ (hx z hz) (x.trans (Ex.app.trans Ex.app))
  ·exact hp z _ _ (hy z hz) (Ex.app.trans Ex.app)
theorem lvE{k:Nat}:∀ (d:D) (S S':Sto),Lv P S k d->Ex S S'->Lv P S' k d:=fun _ _ _ h x=>h.to (.ex x)
theorem Gkd(hm:m<=12)(hP:∀ i,S.length<=i->P i):∃ q S' ys,Qs [.int m] S=.ok (.lst q) S'/\Ex S S'/\S.length<=q/\S'[q]?=some ⟨false,ys⟩/\ys.length=24/\∀ y∈ys,Lv P S' 3 y:=by
 obtain⟨ys1,hy1⟩:∃ ys,ys=[D.tup [.str "least",.int m,.int 9],.tup [.str "most",.int 0,.int 0],.tup [.str "right",.int 0,.int 1],.tup [.str "left",.int m,.int 0],.tup [.str "least",.int ((m:Int)+1),.int 1]]:=⟨_,rfl⟩
 have g1:∀ y∈ys1,Lv P (S++[⟨false,ys1⟩]) 3 y:=by
  subst hy1
  repeat' first | exact m0 | refine m2 ?_ ?_ | exact Gb9 | exact Gg2 | exact Gca (by omega) (by omega) | exact Zx (by decide +kernel) | refine Gcb ?_ ?_ ?_
 obtain⟨S2,f2,x2,q2,g2⟩:=stg (j:=1) (ρ:=[some (.int m),some (.lst S.length)]) (A:=ac (tp (ac (cn (.str "most")) (ac (o2 Ui (cn (.int 0)) (cn (.int 1))) (ac (cn (.int 1)) an)))) (ac (tp (ac (cn (.str "left")) (ac (o2 Hg (vr 0) (cn (.int 1))) (ac (cn (.int 0)) an)))) (ac (tp (ac (cn (.str "least")) (ac (cn (.int 0)) (ac (cn (.int 10)) an)))) (ac (tp (ac (cn (.str "right")) (ac (cn (.int 0)) (ac (o2 Ui (cn (.int 0)) (cn (.int 1))) an)))) (ac (tp (ac (cn (.str "lest")) (ac (cn (.int 0)) (ac (cn (.int 1)) an)))) an)))))
  (ys:=[D.tup [.str "most",.int (-1),.int 1],.tup [.str "left",.int ((m:Int)+1),.int 0],.tup [.str "least",.int 0,.int 10],.tup [.str "right",.int 0,.int (-1)],.tup [.str "lest",.int 0,.int 1]]) (lvE (P:=P) (k:=3)) (Hc (S:=S) (c:=⟨false,ys1⟩)) (by simp) Ex.refl rfl (by rw[hy1]; simp) g1 (by
   repeat' first | exact m0 | refine m2 ?_ ?_ | exact Gca (by omega) (by omega) | exact Zx (by decide +kernel) | refine Gcb ?_ ?_ ?_)
 generalize hc2:(S++[(⟨false,ys1⟩:Cell)]).length+1=c2 at *
 have l2:=x2.len
 simp only[List.length_append,List.length_cons,List.length_nil] at l2 hc2
 have q3:=Hc (S:=S2) (c:=⟨false,[.str "least",.int 0,.int 1]⟩)
 have v3:Lv P (S2++[⟨false,[.str "least",.int 0,.int 1]⟩]) 2 (.lst S2.length):=Gmu q3 (by
  repeat' first | exact m0 | refine m2 ?_ ?_ | exact Gca (by omega) (by omega) | exact Zx (by decide +kernel)) (by simp) (hP _ (by omega))
 have v3':=v3.up
 obtain⟨S3,f3,x3,q3,g3⟩:=stg (j:=1) (ρ:=[some (.int m),some (.lst c2)]) (A:=ac (tp (ac (cn (.str "least")) (ac (cn (.int 0)) an))) (ac (tp (ac (cn (.str "least")) (ac (cn (.int 0)) (ac (cn (.int 1)) (ac (cn (.int 1)) an))))) (ac (ls (ac (cn (.str "least")) (ac (cn (.int 0)) (ac (cn (.int 1)) an)))) (ac (tp (ac (cn (.str "least")) (ac (cn (.bl true)) (ac (cn (.int 1)) an)))) (ac (tp (ac (cn (.str "least")) (ac (cn (.int 0)) (ac (cn (.bl false)) an)))) an)))))
  (ys:=[D.tup [.str "least",.int 0],.tup [.str "least",.int 0,.int 1,.int 1],.lst S2.length,.tup [.str "least",.bl true,.int 1],.tup [.str "least",.int 0,.bl false]]) (lvE (P:=P) (k:=3)) q2 (by simp) (Ex.app (c:=⟨false,[.str "least",.int 0,.int 1]⟩)) rfl (by rw[hy1]; simp) g2 (by
   repeat' first | exact m0 | refine m2 ?_ ?_ | assumption | exact Gg2 | exact Gca (by omega) (by omega) | exact Zx (by decide +kernel) | refine Gda ?_ ?_ | refine Gcb ?_ ?_ ?_ | refine Gs9 ?_ ?_ ?_ ?_)
 generalize hc3:(S2++[(⟨false,[.str "least",.int 0,.int 1]⟩:Cell)]).length+1=c3 at *
 have l3:=x3.len
 simp only[List.length_append,List.length_cons,List.length_nil] at l3 hc3
 obtain⟨S4,f4,x4,q4,g4⟩:=stg (j:=1) (ρ:=[some (.int m),some (.lst c3)]) (A:=ac (tp (ac (cn (.str "right")) (ac (cn (.int 1)) (ac (cn (.bl true)) an)))) (ac (tp (ac (cn .non) (ac (cn (.int 0)) (ac (cn (.int 1)) an)))) (ac (tp (ac (cn (.str "left")) (ac (cn .non) (ac (cn (.int 1)) an)))) (ac (tp (ac (cn (.str "left")) (ac (cn (.int 0)) (ac (cn (.str "1")) an)))) (ac (tp (ac (tp (ac (cn (.str "least")) an)) (ac (cn (.int 0)) (ac (cn (.int 1)) an)))) an)))))
  (ys:=[D.tup [.str "right",.int 1,.bl true],.tup [.non,.int 0,.int 1],.tup [.str "left",.non,.int 1],.tup [.str "left",.int 0,.str "1"],.tup [.tup [.str "least"],.int 0,.int 1]]) (lvE (P:=P) (k:=3)) q3 (by simp) Ex.refl rfl (by rw[hy1]; simp) g3 (by
   repeat' first | exact m0 | refine m2 ?_ ?_ | exact Gb9 | exact Gg2 | exact Gca (by omega) (by omega) | exact Zx (by decide +kernel) | refine Gnp ?_ | refine Gcb ?_ ?_ ?_)
 generalize hc4:S3.length+1=c4 at *
 have l4:=x4.len
 have q5:=Hc (S:=S4) (c:=⟨false,[.str "least"]⟩)
 have v5:Lv P (S4++[⟨false,[.str "least"]⟩]) 2 (.lst S4.length):=Gmu q5 (by
  repeat' first | exact m0 | refine m2 ?_ ?_ | exact Zx (by decide +kernel)) (by simp) (hP _ (by omega))
 obtain⟨S5,f5,x5,q5,g5⟩:=stg (j:=1) (ρ:=[some (.int m),some (.lst c4)]) (A:=ac (cn (.str "least")) (ac (cn .non) (ac (tp an) (ac (tp (ac (ls (ac (cn (.str "least")) an)) (ac (cn (.int 0)) (ac (cn (.int 1)) an)))) an))))
  (ys:=[D.str "least",.non,.tup [],.tup [.lst S4.length,.int 0,.int 1]]) (lvE (P:=P) (k:=3)) q4 (by simp) (Ex.app (c:=⟨false,[.str "least"]⟩)) rfl (by rw[hy1]; simp) g4 (by
   repeat' first | exact m0 | refine m2 ?_ ?_ | assumption | exact Gb9 | exact Gca (by omega) (by omega) | exact Zx (by decide +kernel) | exact Gno | refine Gcb ?_ ?_ ?_)
 refine⟨_,S5,_,?_,(((Ex.app (c:=(⟨false,ys1⟩:Cell)).trans x2).trans (Ex.app.trans x3)).trans x4).trans (Ex.app.trans x5),by simp; omega,q5,by rw[hy1]; simp,g5⟩
 unfold Qs
 rw[Hm]
 simp only[Xy]
 refine(Gw (ρ':=[some (.int m),some (.lst S.length)]) (S':=S++[⟨false,ys1⟩]) (by rw[hy1]; simp)).trans ?_
 refine(Gw (ρ':=[some (.int m),some (.lst c2)]) (S':=S2) (by rw[Qh,f2]; rfl)).trans ?_
 refine(Gw (ρ':=[some (.int m),some (.lst c3)]) (S':=S3) (by rw[Qh,f3]; rfl)).trans ?_
 refine(Gw (ρ':=[some (.int m),some (.lst c4)]) (S':=S4) (by rw[Qh,f4]; rfl)).trans ?_
 rw[Vh,f5]; rfl
end
def Zy(l:List D)(at':Nat)(x:D):List D:=(l.take at'++[x])++l.drop (at'+1)
theorem Gcc{at':Nat}(hl:l.length<=1000):Hl [.tup l,.int at',x] S=.ok (.tup (Zy l at' x)) S:=by
 have s1:=Gd7 (l:=l) (n:=at') (S:=S)
 have s2:=Ge9 (l:=l) (n:=at'+1) (S:=S)
 have a1:=Gb4 (S:=S) (a:=l.take at') (b:=[x]) (by simp; omega)
 have a2:=Gb4 (S:=S) (a:=l.take at'++[x]) (b:=l.drop (at'+1)) (by simp; omega)
 have hi:(at':Int)+1=((at'+1:Nat):Int):=by omega
 refine(Hm (m:=3) (b:=Uw)).trans ?_
 show fin (Uw [some (.tup l),some (.int at'),some x] S)=_
 unfold Uw
 rw[Vh]
 simp only[Gc4,Gqu,Gji,Gjj,Ya,Gjc,Gjh,Yn,Gbx,List.getElem?_cons_zero,List.getElem?_cons_succ,Hi,List.length_cons,List.length_nil,Nat.reduceAdd,Nat.reduceLeDiff,if_true,s1,a1,Gqv,hi,s2,a2,Qu,Gjq]
 rfl
section
variable{P:Nat->Prop}{S S' S1:Sto}{k t m c n N j b e bx:Nat}{d x y z w:D}{xs ys l:List D}{r:Row}{rows:List Row}
theorem Ghs(hm:m<=12)(hP:∀ i,S.length<=i->P i):∃ q S' ys,Qe [.int m] S=.ok (.lst q) S'/\Ex S S'/\S.length<=q/\S'[q]?=some ⟨false,ys⟩/\ys.length=24/\∀ y∈ys,Lv P S' 3 y:=by
 obtain⟨ys1,hy1⟩:∃ ys,ys=[D.tup [.str "let",.int ((m:Int)-1)],.tup [.str "feed",.int m],.tup [.str "feed",.int 0],.tup [.str "right",.int 0],.tup [.str "left",.int ((m:Int)-1)],.tup [.str "let",.int m]]:=⟨_,rfl⟩
 have g1:∀ y∈ys1,Lv P (S++[⟨false,ys1⟩]) 3 y:=by
  subst hy1
  repeat' first | exact m0 | refine m2 ?_ ?_ | exact Gca (by omega) (by omega) | exact Zx (by decide +kernel) | refine Gda ?_ ?_
 obtain⟨S2,f2,x2,q2,g2⟩:=stg (j:=1) (ρ:=[some (.int m),some (.lst S.length)]) (A:=ac (tp (ac (cn (.str "right")) (ac (vr 0) an))) (ac (tp (ac (cn (.str "left")) (ac (vr 0) an))) (ac (tp (ac (cn (.str "left")) (ac (o2 Ui (cn (.int 0)) (cn (.int 1))) an))) (ac (tp (ac (cn (.str "feed")) (ac (o2 Hg (vr 0) (cn (.int 1))) an))) (ac (tp (ac (cn (.str "feed")) (ac (o2 Ui (cn (.int 0)) (cn (.int 1))) an))) an)))))
  (ys:=[D.tup [.str "right",.int m],.tup [.str "left",.int m],.tup [.str "left",.int (-1)],.tup [.str "feed",.int ((m:Int)+1)],.tup [.str "feed",.int (-1)]]) (lvE (P:=P) (k:=3)) (Hc (S:=S) (c:=⟨false,ys1⟩)) (by simp) Ex.refl rfl (by rw[hy1]; simp) g1 (by
   repeat' first | exact m0 | refine m2 ?_ ?_ | exact Gca (by omega) (by omega) | exact Zx (by decide +kernel) | refine Gda ?_ ?_)
 generalize hc2:(S++[(⟨false,ys1⟩:Cell)]).length+1=c2 at *
 have l2:=x2.len
 simp only[List.length_append,List.length_cons,List.length_nil] at l2 hc2
 have q3:=Hc (S:=S2) (c:=⟨false,[.str "let",.int 0]⟩)
 have v3:Lv P (S2++[⟨false,[.str "let",.int 0]⟩]) 2 (.lst S2.length):=Gmu q3 (by
  repeat' first | exact m0 | refine m2 ?_ ?_ | exact Gca (by omega) (by omega) | exact Zx (by decide +kernel)) (by simp) (hP _ (by omega))
 have v3':=v3.up
 obtain⟨S3,f3,x3,q3,g3⟩:=stg (j:=1) (ρ:=[some (.int m),some (.lst c2)]) (A:=ac (tp (ac (cn (.str "stay")) (ac (cn (.int 0)) an))) (ac (ls (ac (cn (.str "let")) (ac (cn (.int 0)) an))) (ac (tp (ac (cn (.str "let")) an)) (ac (tp (ac (cn (.str "let")) (ac (cn (.int 0)) (ac (cn (.int 0)) an)))) (ac (tp (ac (cn (.str "let")) (ac (cn (.bl false)) an))) (ac (tp (ac (cn (.str "feed")) (ac (cn (.bl true)) an))) (ac (tp (ac (cn (.str "let")) (ac (cn .non) an))) an)))))))
  (ys:=[D.tup [.str "stay",.int 0],.lst S2.length,.tup [.str "let"],.tup [.str "let",.int 0,.int 0],.tup [.str "let",.bl false],.tup [.str "feed",.bl true],.tup [.str "let",.non]]) (lvE (P:=P) (k:=3)) q2 (by simp) (Ex.app (c:=⟨false,[.str "let",.int 0]⟩)) rfl (by rw[hy1]; simp) g2 (by
   repeat' first | exact m0 | refine m2 ?_ ?_ | assumption | exact Gb9 | exact Gg2 | exact Gca (by omega) (by omega) | exact Zx (by decide +kernel) | refine Gnp ?_ | refine Gda ?_ ?_ | refine Gcb ?_ ?_ ?_)
 generalize hc3:(S2++[(⟨false,[.str "let",.int 0]⟩:Cell)]).length+1=c3 at *
 have l3:=x3.len
 simp only[List.length_append,List.length_cons,List.length_nil] at l3 hc3
 have q5:=Hc (S:=S3) (c:=⟨false,[.str "let"]⟩)
 have v5:Lv P (S3++[⟨false,[.str "let"]⟩]) 2 (.lst S3.length):=Gmu q5 (by
  repeat' first | exact m0 | refine m2 ?_ ?_ | exact Zx (by decide +kernel)) (by simp) (hP _ (by omega))
 obtain⟨S5,f5,x5,q5,g5⟩:=stg (j:=1) (ρ:=[some (.int m),some (.lst c3)]) (A:=ac (tp (ac (cn .non) (ac (cn (.int 0)) an))) (ac (tp (ac (cn (.str "let")) (ac (cn (.str "0")) an))) (ac (cn .non) (ac (cn (.str "let")) (ac (tp an) (ac (tp (ac (ls (ac (cn (.str "let")) an)) (ac (cn (.int 0)) an))) an))))))
  (ys:=[D.tup [.non,.int 0],.tup [.str "let",.str "0"],.non,.str "let",.tup [],.tup [.lst S3.length,.int 0]]) (lvE (P:=P) (k:=3)) q3 (by simp) (Ex.app (c:=⟨false,[.str "let"]⟩)) rfl (by rw[hy1]; simp) g3 (by
   repeat' first | exact m0 | refine m2 ?_ ?_ | assumption | exact Gb9 | exact Gca (by omega) (by omega) | exact Zx (by decide +kernel) | exact Gno | refine Gda ?_ ?_)
 refine⟨_,S5,_,?_,((Ex.app (c:=(⟨false,ys1⟩:Cell)).trans x2).trans (Ex.app.trans x3)).trans (Ex.app.trans x5),by simp; omega,q5,by rw[hy1]; simp,g5⟩
 unfold Qe
 rw[Hm]
 simp only[Wz]
 refine(Gw (ρ':=[some (.int m),some (.lst S.length)]) (S':=S++[⟨false,ys1⟩]) (by rw[hy1]; simp)).trans ?_
 refine(Gw (ρ':=[some (.int m),some (.lst c2)]) (S':=S2) (by rw[Qh,f2]; rfl)).trans ?_
 refine(Gw (ρ':=[some (.int m),some (.lst c3)]) (S':=S3) (by rw[Qh,f3]; rfl)).trans ?_
 rw[Vh,f5]; rfl
theorem We{s:Str}(h0:PyData.strOk s=true)(h:PyData.strOk (reprText s)=true)(hl:(reprText s).length<=n):Shx P S (.str s) n 0:=Zr (P:=.str s) (fun _ _=>rfl) ⟨rfl,rfl,Nat.le_refl _,h,h0⟩ hl
theorem Zz{s:Str}(h:s="least"\/s="most"\/s="let"\/s="feed"\/∃ rt,s=wd rt):Shx P S (.str s) 7 0:=by
 rcases h with rfl | rfl | rfl | rfl | ⟨rt,rfl⟩
 ·exact We (stok _) (by decide +kernel) (by decide +kernel)
 ·exact We (stok _) (by decide +kernel) (by decide +kernel)
 ·exact We (stok _) (by decide +kernel) (by decide +kernel)
 ·exact We (stok _) (by decide +kernel) (by decide +kernel)
 ·cases rt
  ·exact We (stok _) (by decide +kernel) (by decide +kernel)
  ·exact We (stok _) (by decide +kernel) (by decide +kernel)
theorem Gee{a:Str×Nat×Int}(h:Gf7 (m+1) a)(hm:m<=12):Shx P S (Hk a) 26 1:=by
 obtain⟨h1,h2,h3,h4⟩:=h
 have w:=Zz (P:=P) (S:=S) (s:=a.1) (by rcases h1 with h | h | h; exact .inl h; exact .inr (.inl h); exact .inr (.inr (.inr (.inr h))))
 have i1:=Qm (lo:=P) (S:=S) (i:=(a.2.1:Int)) (by omega) (by omega)
 have i2:=Qm (lo:=P) (S:=S) (i:=a.2.2) h3 (by omega)
 have:=Hw (Hu w (Hu i1 (Hu i2 Ko)))
 exact this.mono (by simp) (by omega)
theorem Gmv{a:Str×Nat×Int}(h:Gf7 (m+1) a)(hm:m<=12):∀ d∈[D.str a.1,.int a.2.1,.int a.2.2],Shx P S d 61 0:=by
 obtain⟨h1,h2,h3,h4⟩:=h
 have w:=Zz (P:=P) (S:=S) (s:=a.1) (by rcases h1 with h | h | h; exact .inl h; exact .inr (.inl h); exact .inr (.inr (.inr (.inr h))))
 exact m2 (w.mono (by decide) (by decide)) (m2 ((Qm (by omega) (by omega)).mono (by decide) (by decide)) (m1 ((Qm h3 (by omega)).mono (by decide) (by decide))))
theorem Gke(h:RowG (m+1) r)(hm:m<=12):∀ d∈[D.str r.w,.int r.k],Shx P S d 61 0:=by
 have w:=Zz (P:=P) (S:=S) (s:=r.w) (by rcases h.dd with⟨e,_⟩ | ⟨e,_⟩ | ⟨e,_⟩; exact .inr (.inr (.inl e)); exact .inr (.inr (.inr (.inl e))); exact .inr (.inr (.inr (.inr e))))
 have hk:r.k<=12:=by rcases h.dd with⟨_,e⟩ | ⟨_,e⟩ | ⟨_,e⟩<;>omega
 exact m2 (w.mono (by decide) (by decide)) (m1 ((Qm (by omega) (by omega)).mono (by decide) (by decide)))
theorem Ga5(h:RowG (m+1) r)(hm:m<=12):Shx P S (dd r.w r.k) 19 1:=by
 have w:=Zz (P:=P) (S:=S) (s:=r.w) (by rcases h.dd with⟨e,_⟩ | ⟨e,_⟩ | ⟨e,_⟩; exact .inr (.inr (.inl e)); exact .inr (.inr (.inr (.inl e))); exact .inr (.inr (.inr (.inr e))))
 have hk:r.k<=12:=by rcases h.dd with⟨_,e⟩ | ⟨_,e⟩ | ⟨_,e⟩<;>omega
 have:=Hw (Hu w (Hu (Qm (lo:=P) (S:=S) (i:=(r.k:Int)) (by omega) (by omega)) Ko))
 exact this.mono (by simp) (by omega)
theorem Gef(h:∀ a∈r.as,Gf7 (m+1) a)(hm:m<=12):∀ d∈r.as.map Hk,Shx P S d 26 1:=fun d hd=>by
 obtain⟨a,ha,rfl⟩:=List.mem_map.mp hd
 exact Gee (h a ha) hm
theorem Geg(h:RowG (m+1) r)(hm:m<=12):Shx P S (.tup (r.as.map Hk)) 115 2:=by
 have:=Hw (Jg (Gef (P:=P) (S:=S) h.as hm))
 have f:=h.few
 exact this.mono (by simp; omega) (by omega)
theorem Gkf(h:RowG (m+1) r)(hm:m<=12):Shx P S (Hd r) 141 3:=by
 have:=Hw (Hu (Geg (P:=P) (S:=S) h hm) (Hu ((Ga5 (P:=P) (S:=S) h hm).mono (Nat.le_refl _) (show 1<=2 by decide)) Ko))
 exact this.mono (by simp) (by omega)
theorem Gaa(h:∀ r∈rows,RowG (m+1) r)(hm:m<=12):∀ d∈rows.map Hd,Shx P S d 141 3:=fun d hd=>by
 obtain⟨r,hr,rfl⟩:=List.mem_map.mp hd
 exact Gkf (h r hr) hm
theorem Gg3(h:∀ r∈rows,RowG (m+1) r)(hm:m<=12)(hn:rows.length<=100):Shx P S (.tup (rows.map Hd)) 14303 4:=by
 have:=Hw (Jg (Gaa (P:=P) (S:=S) h hm))
 exact this.mono (by simp; omega) (by omega)
theorem Gg4{A B:List D}(hA:∀ d∈A,Shx P S d b e)(hB:∀ d∈B,Shx P S d b e)(hn:A.length+B.length<=n)(hx:Shx P S x bx e):Shs P S ((A++[x])++B) (b*n+bx) e:=by
 have:=Gd8 (Gd8 (Jg hA) (Hu hx Ko)) (Jg hB)
 refine this.mono ?_ (Nat.le_refl _)
 have:b*A.length+b*B.length<=b*n:=by rw[<- Nat.mul_add]; exact Nat.mul_le_mul_left _ hn
 omega
theorem Gcd(h:∀ d∈l,Shx P S d b e)(hn:l.length<=n)(hx:Shx P S x bx e):Shx P S (.tup (Zy l a x)) (b*n+bx+2*(n+1)+3) (e+1):=by
 have:=Hw (Gg4 (A:=l.take a) (B:=l.drop (a+1)) (n:=n) (fun d hd=>h d (List.mem_of_mem_take hd)) (fun d hd=>h d (List.mem_of_mem_drop hd)) (by simp; omega) hx)
 refine this.mono ?_ (Nat.le_refl _)
 have:((l.take a++[x])++l.drop (a+1)).length<=n+1:=by simp; omega
 omega
def Uz(l:List D)(a n:Nat)(x:D):List D:=((l.take a++[x])++l.drop a).take n
theorem Gg5(h:∀ d∈l,Shx P S d b e)(hn:l.length<=n)(hx:Shx P S x bx e):Shx P S (.tup (Uz l a n' x)) (b*n+bx+2*(n+1)+3) (e+1):=by
 have:=Hw (Gjv n' (Gg4 (A:=l.take a) (B:=l.drop a) (n:=n) (fun d hd=>h d (List.mem_of_mem_take hd)) (fun d hd=>h d (List.mem_of_mem_drop hd)) (by simp; omega) hx))
 refine this.mono ?_ (Nat.le_refl _)
 have:(((l.take a++[x])++l.drop a).take n').length<=n+1:=by simp; omega
 omega
theorem Gg6(hl:l.length<=1000):Jp [.tup l,.int a,x,.int n'] S=.ok (.tup (Uz l a n' x)) S:=by
 have s1:=Gd7 (l:=l) (n:=a) (S:=S)
 have s2:=Ge9 (l:=l) (n:=a) (S:=S)
 have a1:Hg (.tup (l.take a)) (.tup [x]) S=.ok (.tup (l.take a++[x])) S:=Gb4 (by simp; omega)
 have a2:Hg (.tup (l.take a++[x])) (.tup (l.drop a)) S=.ok (.tup ((l.take a++[x])++l.drop a)) S:=Gb4 (by simp; omega)
 have s3:=Gd7 (l:=(l.take a++[x])++l.drop a) (n:=n') (S:=S)
 have s3:Gdr (.tup ((l.take a++[x])++l.drop a)) none (some (n':Int)) S=.ok (.tup (Uz l a n' x)) S:=s3
 unfold Jp
 rw[Hm]
 simp only[Xz]
 generalize Uz l a n' x=wl at *
 generalize (l.take a++[x])++l.drop a=m1 at *
 generalize l.take a++[x]=m2 at *
 simp[s1,s2,a1,a2,s3,fin]
theorem Geh{mo:Nat}(d:Tp S t k)(hm:mo<=20):∃ i S',Hz [.lst t,.int mo] S=.ok (.int i) S'/\i.natAbs<10^60/\Tp S' t k/\Kp S S' t k:=by
 have p50:∀ S,Xk (.int 10) (.int 50) S=.ok (.int (10^50)) S:=fun S=>Gb1 (n:=50) (by decide) (by decide)
 obtain⟨P50,hP50⟩:∃ P:Int,P=10^50:=⟨_,rfl⟩
 have p50':∀ S,Xk (.int 10) (.int 50) S=.ok (.int P50) S:=fun S=>by rw[hP50]; exact p50 S
 obtain⟨r,S1,e1,r0,r1,d1,k1⟩:=draw (m:=4) d (by decide) (by decide)
 unfold Hz
 simp only[Hm]
 by_cases c:r=0
 ·have b1:(10:Int)^50<2^200:=by decide
  have b0:(0:Int)<10^50:=by decide
  obtain⟨v,S3,e3,v0,v1,d3,s3⟩:=Ge1 (m:=P50) d1 (by rw[hP50]; exact b0) (by rw[hP50]; exact b1)
  obtain⟨b,S4,e4,b0,b1',d4,k4⟩:=draw (m:=2) d3 (by decide) (by decide)
  have mb:Jr (.int 2) (.int b) S4=.ok (.int (2*b)) S4:=Gjl (by decide) (by decide)
  have mv:Jr (.int v) (.int (1-2*b)) S4=.ok (.int (v*(1-2*b))) S4:=Gb0 (by omega) (by omega)
  have hn:(v*(1-2*b)).natAbs<10^60:=by
   have h60:((10:Int)^50)<((10:Nat)^60:Nat):=by decide
   rw[hP50] at v1
   rcases(by omega:b=0\/b=1) with rfl | rfl
   ·have:v*(1-2*0)=v:=by omega
    rw[this]; omega
   ·have:v*(1-2*1) = -v:=by omega
    rw[this]; omega
  exact⟨_,S4,by simp[Vf,e1,c,p50',e3,e4,mb,mv,fin],hn,d4,(k1.trans s3.kp).trans k4⟩
 ·obtain⟨v,S2,e2,v0,v1,d2,k2⟩:=draw (m:=(mo:Int)+4) d1 (by omega) (by omega)
  have big:(1001:Nat)<10^60:=by decide
  exact⟨v-1,S2,by simp[Vf,e1,c,e2,fin],by omega,d2,k1.trans k2⟩
end
def Rg(P:Nat->Prop)(S:Sto)(x:D):Prop:=Shx P S x 3000 8
def G(P:Nat->Prop)(S:Sto)(x:D):Prop:=Shx P S x 30000 12
section
variable{P:Nat->Prop}{S S' S1:Sto}{k t m c n N j b e bx:Nat}{d x y z w:D}{xs ys l:List D}{r:Row}{rows:List Row}
theorem Gfk(h:∀ d∈l,Shx P S d 500 6)(hl:l.length<=5):Rg P S (.tup l):=by
 have:=Hw (Jg h)
 exact this.mono (by omega) (by omega)
theorem Lv.rg(h:Lv P S 3 d):Shx P S d 8405 8:=Shx.mono h (by decide) (by decide)
theorem Gui:Jr (.tup [x]) (.int 5) S=.ok (.tup [x,x,x,x,x]) S:=by
 show(if 0<[x].length/\((2:Int)<=5/\(5:Int)<=1000000)/\[x].length*(5:Int).toNat<=1000000 then Out.ok (D.tup (List.replicate (5:Int).toNat [x]).flatten) S else .bad)=_
 rw[if_pos (by simp)]
 rfl
theorem Guj:Jr (.tup [x]) (.int 4) S=.ok (.tup [x,x,x,x]) S:=by
 show(if 0<[x].length/\((2:Int)<=4/\(4:Int)<=1000000)/\[x].length*(4:Int).toNat<=1000000 then Out.ok (D.tup (List.replicate (4:Int).toNat [x]).flatten) S else .bad)=_
 rw[if_pos (by simp)]
 rfl
theorem rgE:∀ (d:D) (S S':Sto),Rg P S d->Ex S S'->Rg P S' d:=fun _ _ _ h x=>Shx.to h (.ex x)
theorem Gkg(h:RowG (m+1) r)(hm:m<=12)(hP:∀ i,S.length<=i->P i):∃ q S' ys,Jt [.tup (r.as.map Hk),dd r.w r.k] S=.ok (.lst q) S'/\Ex S S'/\S.length<=q/\S'[q]?=some ⟨false,ys⟩/\ys.length=11/\∀ y∈ys,Rg P S' y:=by
 have hA:∀ S,Shx P S (.tup (r.as.map Hk)) 500 6:=fun S=>(Geg h hm).mono (by decide) (by decide)
 have hl:∀ S,∀ d∈r.as.map Hk,Shx P S d 26 1:=fun S=>Gef h.as hm
 have hll:(r.as.map Hk).length<=4:=by simp; exact h.few
 have hB:∀ S,Shx P S (dd r.w r.k) 500 6:=fun S=>(Ga5 h hm).mono (by decide) (by decide)
 have hB':∀ S,Rg P S (dd r.w r.k):=fun S=>(hB S).mono (by decide) (by decide)
 have hN:∀ S,Shx P S .non 500 6:=fun S=>Zs.mono (by decide) (by decide)
 have hO:∀ S,Shx P S (.tup [.str "least",.int 0,.int 0]) 30 1:=fun S=>(Gee (P:=P) (S:=S) (m:=m) (a:=("least",0,0)) ⟨.inl rfl,by simp,by simp,by simp⟩ hm).mono (by decide) (by decide)
 have t5:∀ S,Shx P S (.tup [.tup [.str "least",.int 0,.int 0],.tup [.str "least",.int 0,.int 0],.tup [.str "least",.int 0,.int 0],.tup [.str "least",.int 0,.int 0],.tup [.str "least",.int 0,.int 0]]) 500 6:=fun S=>by
  have:=Hw (Jg (m2 (hO S) (m2 (hO S) (m2 (hO S) (m2 (hO S) (m1 (hO S)))))))
  exact this.mono (by simp) (by decide)
 have t4:∀ S,Shx P S (.tup [.tup [.str "least",.int 0,.int 0],.tup [.str "least",.int 0,.int 0],.tup [.str "least",.int 0,.int 0],.tup [.str "least",.int 0,.int 0]]) 500 6:=fun S=>by
  have:=Hw (Jg (m2 (hO S) (m2 (hO S) (m2 (hO S) (m1 (hO S))))))
  exact this.mono (by simp) (by decide)
 have k5:=fun S=>Gui (x:=.tup [.str "least",.int 0,.int 0]) (S:=S)
 have k4:=fun S=>Guj (x:=.tup [.str "least",.int 0,.int 0]) (S:=S)
 unfold Jt
 simp only[Hm]
 generalize dd r.w r.k=B at *
 generalize r.as.map Hk=L at *
 obtain⟨S1,hS1⟩:∃ S1,S1=S++[(⟨false,[.tup L,B]⟩:Cell)]:=⟨_,rfl⟩
 obtain⟨S2,hS2⟩:∃ S2,S2=S1++[(⟨false,L⟩:Cell)]:=⟨_,rfl⟩
 have x1:Ex S S1:=by rw[hS1]; exact Ex.app
 have x2:Ex S1 S2:=by rw[hS2]; exact Ex.app
 have q1:S1[S.length]?=some ⟨false,[.tup L,B]⟩:=by rw[hS1]; exact Hc
 have q2:S2[S1.length]?=some ⟨false,L⟩:=by rw[hS2]; exact Hc
 have lt:=Gjt (l:=L) (S:=S1)
 rw[<- hS2] at lt
 have l1:=x1.len
 obtain⟨ys1,hy1⟩:∃ ys,ys=[D.lst S.length,.tup [.tup L],.tup [.tup L,B,B],.tup [.lst S1.length,B],.tup [.tup [.tup [.str "least",.int 0,.int 0],.tup [.str "least",.int 0,.int 0],.tup [.str "least",.int 0,.int 0],.tup [.str "least",.int 0,.int 0],.tup [.str "least",.int 0,.int 0]],B]]:=⟨_,rfl⟩
 have g1:∀ y∈ys1,Rg P (S2++[⟨false,ys1⟩]) y:=by
  have u1:=Ex.app (S:=S2) (c:=⟨false,ys1⟩)
  have u2:=u1.at (x2.at q1)
  have u3:=u1.at q2
  generalize S2++[(⟨false,ys1⟩:Cell)]=S3 at *
  subst hy1
  refine m2 ?_ (m2 ?_ (m2 ?_ (m2 ?_ (m1 ?_))))
  ·exact(Xd u2 (Jg (m2 (hA S3) (m1 (hB S3)))) (hP _ (Nat.le_refl _))).mono (by simp) (by decide)
  ·exact Gfk (m1 (hA S3)) (by simp)
  ·exact Gfk (m2 (hA S3) (m2 (hB S3) (m1 (hB S3)))) (by simp)
  ·exact Gfk (m2 ((Xd u3 (Jg (hl S3)) (hP _ l1)).mono (by omega) (by decide)) (m1 (hB S3))) (by simp)
  ·exact Gfk (m2 (t5 S3) (m1 (hB S3))) (by simp)
 obtain⟨S5,f5,x5,q5,g5⟩:=stg (j:=2) (ρ:=[some (.tup L),some B,some (.lst S2.length)]) (A:=ac (tp (ac (o2 Jr (tp (ac (tp (ac (cn (.str "least")) (ac (cn (.int 0)) (ac (cn (.int 0)) an)))) an)) (cn (.int 4))) (ac (vr 1) an))) (ac (tp (ac (cn .non) (ac (vr 1) an))) (ac (tp (ac (vr 1) (ac (vr 0) an))) (ac (vr 1) (ac (cn .non) (ac (tp an) an))))))
  (ys:=[.tup [.tup [.tup [.str "least",.int 0,.int 0],.tup [.str "least",.int 0,.int 0],.tup [.str "least",.int 0,.int 0],.tup [.str "least",.int 0,.int 0]],B],.tup [.non,B],.tup [B,.tup L],B,.non,.tup []]) (rgE (P:=P)) (Hc (S:=S2) (c:=⟨false,ys1⟩)) (by simp[k4]) Ex.refl rfl (by rw[hy1]; simp) g1 (by
   generalize S2++[(⟨false,ys1⟩:Cell)]=S3 at *
   refine m2 ?_ (m2 ?_ (m2 ?_ (m2 ?_ (m2 ?_ (m1 ?_)))))
   ·exact Gfk (m2 (t4 S3) (m1 (hB S3))) (by simp)
   ·exact Gfk (m2 (hN S3) (m1 (hB S3))) (by simp)
   ·exact Gfk (m2 (hB S3) (m1 (hA S3))) (by simp)
   ·exact hB' S3
   ·exact(hN S3).mono (by decide) (by decide)
   ·exact Gfk m0 (by simp))
 refine⟨_,S5,_,?_,(((x1.trans x2).trans (Ex.app (c:=(⟨false,ys1⟩:Cell))))).trans x5,by have:=x2.len; simp; omega,q5,by rw[hy1]; simp,g5⟩
 simp only[Ua]
 refine(Gw (ρ':=[some (.tup L),some B,some (.lst S2.length)]) (S':=S2++[⟨false,ys1⟩]) (by rw[hy1]; simp[<- hS1,lt,k5])).trans ?_
 rw[Vh,f5]; rfl
def r0:Row:=⟨[],"let",0⟩
theorem Gnq(hm:2<=m):RowG (m+1) r0:=⟨by simp[r0],by simp[r0],.inl ⟨rfl,by simp[r0]; omega⟩⟩
def Gaz(t:Nat)(rl:List Row)(what:D)(way at':Int)(as:List (Str×Nat×Int))(dd':D)(kk:Nat)(x8:Option D):Lc:=[some (.lst t),some (.tup (rl.map Hd)),some what,some (.int way),some (.int at'),some (.tup (as.map Hk)),some dd',some (.int kk),x8]
theorem Gmw(d:Tp S t k)(hr:∀ r∈rows,RowG (m+1) r)(hn:rows.length<=100)(h2:2<=m)(hm:m<=12):∃ x S',Qt [.lst t,.tup (rows.map Hd)] S=.ok x S'/\Shx (ge S.length) S' x 30000 12/\Tp S' t k/\Kp S S' t k:=by
 have lt:=d.lt
 obtain⟨what,S1,e1,w1,d1,k1⟩:=Guh S t k d
 have w1:Shx (ge S.length) S1 what 4135 3:=w1
 have e1:Wy [.lst t,.int 3] S=.ok what S1:=e1
 obtain⟨way,S2,e2,y0,y1,d2,k2⟩:=draw (m:=8) d1 (by decide) (by decide)
 have w2:=w1.to (Kx.kpn k2 lt.1 lt.2)
 unfold Qt
 simp only[Hm]
 by_cases c0:way=0
 ·refine⟨what,S2,?_,w2.mono (by decide) (by decide),d2,k1.trans k2⟩
  simp[Vg,e1,e2,c0,fin]
 obtain⟨rl,erl,hrl,nrl,prl⟩:∃ rl:List Row,(∀ S x4 x5 x6 x7 x8,ie (tb (o2 gtD (b1 Gz (ac (vr 1) an)) (cn (.int 0)))) (vr 1) (tp (ac (tp (ac (tp an) (ac (tp (ac (cn (.str "let")) (ac (cn (.int 0)) an))) an))) an)) [some (.lst t),some (.tup (rows.map Hd)),some what,some (.int way),x4,x5,x6,x7,x8] S=.ok (.tup (rl.map Hd)) S)/\(∀ r∈rl,RowG (m+1) r)/\rl.length<=100/\0<rl.length:=by
  by_cases c:rows=[]
  ·refine⟨[r0],fun S x4 x5 x6 x7 x8=>by simp[c,Gz,r0,Hd,dd],fun r h=>?_,by simp,by simp⟩
   cases List.mem_singleton.mp h
   exact Gnq h2
  ·have:0<rows.length:=List.length_pos_iff.mpr c
   refine⟨rows,fun S x4 x5 x6 x7 x8=>?_,hr,hn,this⟩
   have c':(0:Int)<rows.length:=by omega
   simp[Gz,c',c]
 have lnr:∀ S,Gz [.tup (rl.map Hd)] S=.ok (.int rl.length) S:=fun S=>by simp[Gz]
 obtain⟨at1,S3,e3,a0,a1,d3,k3⟩:=draw (m:=(rl.length:Int)) d2 (by omega) (by omega)
 obtain⟨ai,rfl⟩:∃ n:Nat,at1=n:=⟨at1.toNat,by omega⟩
 obtain⟨r,hri⟩:=Yo (show ai<rl.length by omega)
 have rg:=hrl r (Kj hri)
 have gr:∀ S,DL.getD (.tup (rl.map Hd)) (.int ai) S=.ok (Hd r) S:=fun S=>Gap (Kr (by omega) (by rw[Int.toNat_natCast,List.getElem?_map,hri]; rfl))
 obtain⟨as,eas,has,nas,pas⟩:∃ as:List (Str×Nat×Int),(∀ S x7 x8,ie (tb (o2 gtD (b1 Gz (ac (vr 5) an)) (cn (.int 0)))) (vr 5) (tp (ac (tp (ac (cn (.str "most")) (ac (cn (.int 0)) (ac (cn (.int 9)) an)))) an)) [some (.lst t),some (.tup (rl.map Hd)),some what,some (.int way),some (.int ai),some (.tup (r.as.map Hk)),some (dd r.w r.k),x7,x8] S=.ok (.tup (as.map Hk)) S)/\(∀ a∈as,Gf7 (m+1) a)/\as.length<=4/\0<as.length:=by
  by_cases c:r.as=[]
  ·refine⟨[("most",0,9)],fun S x7 x8=>by simp[c,Gz,Hk],fun a h=>?_,by simp,by simp⟩
   cases List.mem_singleton.mp h
   exact⟨.inr (.inl rfl),by simp,by simp,by simp⟩
  ·have:0<r.as.length:=List.length_pos_iff.mpr c
   refine⟨r.as,fun S x7 x8=>?_,rg.as,rg.few,this⟩
   have c':(0:Int)<r.as.length:=by omega
   simp[Gz,c',c]
 have lna:∀ S,Gz [.tup (as.map Hk)] S=.ok (.int as.length) S:=fun S=>by simp[Gz]
 obtain⟨kk1,S4,e4,b0,b1,d4,k4⟩:=draw (m:=(as.length:Int)) d3 (by omega) (by omega)
 obtain⟨kk,rfl⟩:∃ n:Nat,kk1=n:=⟨kk1.toNat,by omega⟩
 obtain⟨a,hai⟩:=Yo (show kk<as.length by omega)
 have ag:=has a (Kj hai)
 have ga:∀ S,DL.getD (.tup (as.map Hk)) (.int kk) S=.ok (Hk a) S:=fun S=>Gap (Kr (by omega) (by rw[Int.toNat_natCast,List.getElem?_map,hai]; rfl))
 obtain⟨pp1,S5,e5,p0,p1',d5,k5⟩:=draw (m:=3) d4 (by decide) (by decide)
 obtain⟨pp,rfl⟩:∃ n:Nat,pp1=n:=⟨pp1.toNat,by omega⟩
 have u1:∀ S,Hl [Hk a,.int pp,what] S=.ok (.tup (Zy [.str a.1,.int a.2.1,.int a.2.2] pp what)) S:=fun S=>Gcc (by simp)
 have u2:∀ S,Hl [.tup (as.map Hk),.int kk,.tup (Zy [.str a.1,.int a.2.1,.int a.2.2] pp what)] S=.ok (.tup (Zy (as.map Hk) kk (.tup (Zy [.str a.1,.int a.2.1,.int a.2.2] pp what)))) S:=fun S=>Gcc (by simp; omega)
 have K5:Kp S S5 t k:=(((k1.trans k2).trans k3).trans k4).trans k5
 have w5:Shx (ge S.length) S5 what 4135 3:=((w2.to (Kx.kpn k3 lt.1 lt.2)).to (Kx.kpn k4 lt.1 lt.2)).to (Kx.kpn k5 lt.1 lt.2)
 have hmA:as.length<=4:=nas
 have ask1:∀ S,∀ d∈as.map Hk,Shx (ge S5.length) S d 26 1:=fun S d hd=>by
  obtain⟨a,ha,rfl⟩:=List.mem_map.mp hd
  exact Gee (has a ha) hm
 have askA:∀ (lo:Nat->Prop) S,∀ d∈as.map Hk,Shx lo S d 26 4:=fun lo S d hd=>by
  obtain⟨a,ha,rfl⟩:=List.mem_map.mp hd
  exact(Gee (has a ha) hm).mono (Nat.le_refl _) (by decide)
 have askT:∀ (lo:Nat->Prop) S,Shx lo S (.tup (as.map Hk)) 200 5:=fun lo S=>(Hw (Jg (askA lo S))).mono (by simp; omega) (by decide)
 have dT:∀ (lo:Nat->Prop) S,Shx lo S (dd r.w r.k) 19 5:=fun lo S=>(Ga5 rg hm).mono (Nat.le_refl _) (by decide)
 have two:∀ {lo:Nat->Prop} {S:Sto} {x y:D} {b1 b2:Nat},Shx lo S x b1 5->Shx lo S y b2 5->b1+b2<=4900->Shx lo S (.tup [x,y]) 5000 6:=fun h1 h2 hb=>(Hw (Hu h1 (Hu h2 Ko))).mono (by simp; omega) (by decide)
 obtain⟨row0,hrow0⟩:∃ x,x=D.tup [.tup (Zy (as.map Hk) kk (.tup (Zy [.str a.1,.int a.2.1,.int a.2.2] pp what))),dd r.w r.k]:=⟨_,rfl⟩
 have g0:Shx (ge S.length) S5 row0 5000 6:=by
  rw[hrow0]
  have i1:=Gcd (a:=pp) (n:=3) (fun d hd=>(Gmv (P:=ge S.length) (S:=S5) ag hm d hd).mono (Nat.le_refl _) (show 0<=3 by decide)) (by simp) w5
  have i2:=Gcd (a:=kk) (n:=4) (askA (ge S.length) S5) (by simp; omega) (i1.mono (show _<=4400 by decide) (Nat.le_refl _))
  exact two (i2.mono (show _<=4600 by decide) (by decide)) (dT _ _) (by decide)
 obtain⟨row,S6,f6,g6,d6,k6⟩:∃ (row:D) (S6:Sto),sif (tb (o2 eqD (vr 3) (cn (.int 1)))) (sa (vr 2) (gn 8)) (sif (tb (o2 eqD (vr 3) (cn (.int 2)))) (sa (tp (ac (vr 2) (ac (vr 6) an))) (gn 8)) (sif (tb (o2 eqD (vr 3) (cn (.int 3)))) (sa (tp (ac (vr 5) (ac (vr 2) an))) (gn 8)) (sif (tb (o2 eqD (vr 3) (cn (.int 4)))) (sa (tp (ac (vr 5) (ac (cl 3 (Gn Hl) (ac (vr 6) (ac (cl 2 (Gn Gh) (ac (vr 0) (ac (cn (.int 2)) an))) (ac (vr 2) an)))) an))) (gn 8)) (sif (tb (o2 eqD (vr 3) (cn (.int 5)))) (sa (tp (ac (cl 3 (Gn Hl) (ac (vr 5) (ac (vr 7) (ac (vr 2) an)))) (ac (vr 6) an))) (gn 8)) DL.skip)))) (Gaz t rl what way ai as (dd r.w r.k) kk (some row0)) S5=.nx (Gaz t rl what way ai as (dd r.w r.k) kk (some row)) S6/\Shx (ge S.length) S6 row 5000 6/\Tp S6 t k/\Kp S5 S6 t k:=by
  have wW:Shx (ge S.length) S5 what 4135 5:=w5.mono (Nat.le_refl _) (by decide)
  by_cases c1:way=1
  ·exact⟨what,S5,by simp[Gaz,c1],w5.mono (by decide) (by decide),d5,Kp.refl⟩
  by_cases c2:way=2
  ·exact⟨.tup [what,dd r.w r.k],S5,by simp[Gaz,c2],two wW (dT _ _) (by decide),d5,Kp.refl⟩
  by_cases c3:way=3
  ·exact⟨.tup [.tup (as.map Hk),what],S5,by simp[Gaz,c3],two (askT _ _) wW (by decide),d5,Kp.refl⟩
  by_cases c4:way=4
  ·obtain⟨z1,S6,e6,z0,z2,d6,k6⟩:=draw (m:=2) d5 (by decide) (by decide)
   obtain⟨zi,rfl⟩:∃ n:Nat,z1=n:=⟨z1.toNat,by omega⟩
   have u3:Hl [dd r.w r.k,.int zi,what] S6=.ok (.tup (Zy [.str r.w,.int r.k] zi what)) S6:=Gcc (by simp)
   refine⟨.tup [.tup (as.map Hk),.tup (Zy [.str r.w,.int r.k] zi what)],S6,by simp[Gaz,c4,e6,u3],?_,d6,k6⟩
   have i1:=Gcd (a:=zi) (n:=2) (fun d hd=>(Gke (P:=ge S.length) (S:=S6) rg hm d hd).mono (Nat.le_refl _) (show 0<=4 by decide)) (by simp) ((w5.to (Kx.kpn k6 lt.1 lt.2)).mono (Nat.le_refl _) (by decide))
   exact two (askT _ _) (i1.mono (show _<=4400 by decide) (Nat.le_refl _)) (by decide)
  by_cases c5:way=5
  ·have u3:Hl [.tup (as.map Hk),.int kk,what] S5=.ok (.tup (Zy (as.map Hk) kk what)) S5:=Gcc (by simp; omega)
   refine⟨.tup [.tup (Zy (as.map Hk) kk what),dd r.w r.k],S5,by simp[Gaz,c5,u3],?_,d5,Kp.refl⟩
   have i1:=Gcd (a:=kk) (n:=4) (askA (ge S.length) S5) (by simp; omega) (w5.mono (Nat.le_refl _) (show 3<=4 by decide))
   exact two (i1.mono (show _<=4400 by decide) (Nat.le_refl _)) (dT _ _) (by decide)
  ·exact⟨row0,S5,by simp[Gaz,c1,c2,c3,c4,c5],g0,d5,Kp.refl⟩
 have u4:Hl [.tup (rl.map Hd),.int ai,row] S6=.ok (.tup (Zy (rl.map Hd) ai row)) S6:=Gcc (by simp; omega)
 refine⟨.tup (Zy (rl.map Hd) ai row),S6,?_,?_,d6,K5.trans k6⟩
 ·simp only[Vg]
  refine(Gw (ρ':=[some (.lst t),some (.tup (rows.map Hd)),some what,none,none,none,none,none,none]) (S':=S1) (by simp[e1])).trans ?_
  refine(Gw (ρ':=[some (.lst t),some (.tup (rows.map Hd)),some what,some (.int way),none,none,none,none,none]) (S':=S2) (by simp[e2])).trans ?_
  refine(Gw (ρ':=[some (.lst t),some (.tup (rows.map Hd)),some what,some (.int way),none,none,none,none,none]) (S':=S2) (by simp[c0])).trans ?_
  refine(Gw (ρ':=[some (.lst t),some (.tup (rl.map Hd)),some what,some (.int way),none,none,none,none,none]) (S':=S2) (by rw[Qh,erl]; rfl)).trans ?_
  refine(Gw (ρ':=[some (.lst t),some (.tup (rl.map Hd)),some what,some (.int way),some (.int ai),none,none,none,none]) (S':=S3) (by simp[lnr,e3])).trans ?_
  refine(Gw (ρ':=[some (.lst t),some (.tup (rl.map Hd)),some what,some (.int way),some (.int ai),some (.tup (r.as.map Hk)),some (dd r.w r.k),none,none]) (S':=S3) (by simp[gr,Hd])).trans ?_
  refine(Gw (ρ':=[some (.lst t),some (.tup (rl.map Hd)),some what,some (.int way),some (.int ai),some (.tup (as.map Hk)),some (dd r.w r.k),none,none]) (S':=S3) (by rw[Qh,eas]; rfl)).trans ?_
  refine(Gw (ρ':=[some (.lst t),some (.tup (rl.map Hd)),some what,some (.int way),some (.int ai),some (.tup (as.map Hk)),some (dd r.w r.k),some (.int kk),none]) (S':=S4) (by simp[lna,e4])).trans ?_
  refine(Gw (ρ':=Gaz t rl what way ai as (dd r.w r.k) kk (some row0)) (S':=S5) (by rw[hrow0]; simp[Gaz,ga,e5,u1,u2])).trans ?_
  refine(Gw (ρ':=Gaz t rl what way ai as (dd r.w r.k) kk (some row)) (S':=S6) f6).trans ?_
  simp[Gaz,u4,fin]
 ·have:=Gcd (a:=ai) (n:=100) (fun d hd=>(Gaa (P:=ge S.length) (S:=S6) hrl hm d hd).mono (Nat.le_refl _) (show 3<=6 by decide)) (by simp; omega) g6
  exact this.mono (by decide) (by decide)
end
def Q(P:Nat->Prop)(S:Sto)(x:D):Prop:=Shx P S x 9000 10
structure TS(t k c:Nat)(S:Sto)(N:Nat)(xs:List D):Prop where
 d:Tp S t k
 hc:S[c]?=some ⟨false,xs⟩
 len:xs.length<=N
 ok:∀ x∈xs,Q (Pc t k c) S x
 nt:c≠t
 nk:c≠k
def Kk(t:Nat)(cd rl:D)(m:Nat)(r:Row)(c:Nat)(x7 x8 x9 x10:Option D):Lc:=[some (.lst t),some cd,some rl,some (.int m),some (.tup (r.as.map Hk)),some (dd r.w r.k),some (.lst c),x7,x8,x9,x10]
section
variable{S S' S1:Sto}{k t m c n N j:Nat}{d x y z w cd rl:D}{xs ys l:List D}{r:Row}{x7 x8 x9 x10:Option D}
theorem TS.kp(h:TS t k c S N xs)(d1:Tp S1 t k)(kp:Kp S S1 t k):TS t k c S1 N xs:=⟨d1,kp.at h.hc h.nt h.nk,h.len,fun x hx=>Shx.to (h.ok x hx) (.kp kp),h.nt,h.nk⟩
theorem TS.ex(h:TS t k c S N xs)(x:Ex S S1):TS t k c S1 N xs:=⟨h.d.ext x,x.at h.hc,h.len,fun y hy=>Shx.to (h.ok y hy) (.ex x),h.nt,h.nk⟩
theorem TS.lt(h:TS t k c S N xs):t<S.length/\k<S.length/\c<S.length:=⟨h.d.lt.1,h.d.lt.2,(List.getElem?_eq_some_iff.mp h.hc).1⟩
theorem TS.hP(h:TS t k c S N xs):∀ i,S.length<=i->Pc t k c i:=fun i hi=>by
 have:=h.lt
 exact⟨by omega,by omega,by omega⟩
theorem Guk{A:Ev (List D)}(hc:S1[c]?=some ⟨false,xs⟩)(hA:A ρ S=.ok ys S1)(hv:ρ[j]?=some (some (.lst c)))(hl:xs.length+ys.length<=1000):
  ∃ S',o2 Hg (vr j) (ls A) ρ S=.ok (.lst (S1.length+1)) S'/\Ex S1 S'/\S'[S1.length+1]?=some ⟨false,xs++ys⟩:=by
 have lE:ls A ρ S=.ok (.lst S1.length) (S1++[(⟨false,ys⟩:Cell)]):=by rw[Gnj,hA,Hi,if_pos (by omega)]
 have ad:=Yb (S:=S1++[(⟨false,ys⟩:Cell)]) (i:=c) (j:=S1.length) (a:=xs) (b:=ys) (Zp hc) Hc (by omega)
 have ln:(S1++[(⟨false,ys⟩:Cell)]).length=S1.length+1:=by simp
 rw[ln] at ad
 refine⟨(S1++[(⟨false,ys⟩:Cell)])++[(⟨false,xs++ys⟩:Cell)],?_,Ex.app.trans Ex.app,?_⟩
 ·rw[Gc4,Ya,hv]
  simp only[Hi]
  rw[lE,Hi,ad]
 ·have:=Hc (S:=S1++[(⟨false,ys⟩:Cell)]) (c:=⟨false,xs++ys⟩)
  rw[ln] at this
  exact this
theorem Gnr(a b:Nat)(S:Sto):Gbb [.int a,.int b] S=.ok (.int ((min a b:Nat):Int)) S:=by
 show Out.ok (D.int (if(b:Int)<a then b else a)) S=_
 congr 2
 split<;>omega
theorem Gkh(h:TS t k c S N xs)(rg:RowG (m+1) r)(hm:m<=12)(hN:N<=900)(hx:Lv (Pc t k c) S 3 x):
  ∃ S' xs',Ke (Kk t cd rl m r c x7 x8 (some x) x10) S=.nx (Kk t cd rl m r c x7 x8 (some x) x10) S'/\TS t k c S' (N+1) xs'/\Kx (Pc t k c) S S':=by
 have few:=rg.few
 have ln:∀ S,Gz [.tup (r.as.map Hk)] S=.ok (.int r.as.length) S:=fun S=>by simp[Gz]
 have mn:∀ S,Gbb [.int r.as.length,.int 3] S=.ok (.int ((min r.as.length 3:Nat):Int)) S:=Gnr _ 3
 obtain⟨a1,S1,e1,a0,a2,d1,k1⟩:=draw (m:=((min r.as.length 3:Nat):Int)+1) h.d (by omega) (by omega)
 obtain⟨a,rfl⟩:∃ n:Nat,a1=n:=⟨a1.toNat,by omega⟩
 have h1:=h.kp d1 k1
 have wo:Jp [.tup (r.as.map Hk),.int a,x,.int 4] S1=.ok (.tup (Uz (r.as.map Hk) a 4 x)) S1:=Gg6 (n':=4) (by simp; omega)
 have hl:=h.len
 have ap:=Gc5 (d:=.tup [.tup (Uz (r.as.map Hk) a 4 x),dd r.w r.k]) h1.hc (by omega)
 have il:=isL h.hc
 have lc:=(List.getElem?_eq_some_iff.mp h1.hc).1
 have gx:Q (Pc t k c) S1 (.tup [.tup (Uz (r.as.map Hk) a 4 x),dd r.w r.k]):=by
  have x1:Shx (Pc t k c) S1 x 8405 8:=(hx.to (.kp k1)).rg
  have i1:=Gg5 (a:=a) (n':=4) (n:=4) (fun d hd=>(Gef (P:=Pc t k c) (S:=S1) rg.as hm d hd).mono (Nat.le_refl _) (show 1<=8 by decide)) (by simp; exact few) x1
  have i2:=Hw (Hu (i1.mono (show _<=8600 by decide) (Nat.le_refl _)) (Hu ((Ga5 (P:=Pc t k c) (S:=S1) rg hm).mono (Nat.le_refl _) (show 1<=9 by decide)) Ko))
  exact i2.mono (by simp) (Nat.le_refl _)
 refine⟨S1.set c ⟨false,xs++[.tup [.tup (Uz (r.as.map Hk) a 4 x),dd r.w r.k]]⟩,xs++[.tup [.tup (Uz (r.as.map Hk) a 4 x),dd r.w r.k]],?_,⟨d1.set h.nt h.nk,List.getElem?_set_self lc,by simp; omega,fun y hy=>?_,h.nt,h.nk⟩,(Kx.kp k1).trans .setc⟩
 ·simp only[Ke,Kk]
  generalize Uz (r.as.map Hk) a 4 x=wl at *
  generalize r.as.map Hk=A at *
  generalize dd r.w r.k=B at *
  simp[il,ln,mn,e1,wo,ap]
 ·rcases List.mem_append.mp hy with hy | hy
  ·exact Shx.to (h1.ok y hy) .setc
  ·cases List.mem_singleton.mp hy
   exact Shx.to gx .setc
end
theorem Gki{c N:Nat}{rl:D}{r:Row}{x7 x9:Option D}(h:TS t k c S N xs)(rg:RowG (m+1) r)(hm:m<=12)(hN:N<=800):
  ∃ c' S' xs' y8 y9,Kf (Kk t cd rl m r c x7 x8 x9 x10) S=.nx (Kk t cd rl m r c' x7 y8 y9 x10) S'/\TS t k c' S' (N+4) xs':=by
 obtain⟨r1,x1,S1,e1,p1,mm,d1,k1⟩:=Ue (xs:=[.str "least",.str "most",.str "right",.str "left"]) (m:=4) h.d rfl (by simp) (by simp)
 obtain⟨w,rfl,hw⟩:=wd4 mm
 have h1:=h.kp d1 k1
 have lt1:=h1.lt
 obtain⟨qa,S2,ya,e2,x2,lq,q2,ly,gy⟩:=Gkd (P:=Pc t k c) (S:=S1) hm h1.hP
 have h2:=h1.ex x2
 obtain⟨r3,S3,e3,r30,r31,d3,k3⟩:=draw (m:=24) h2.d (by decide) (by decide)
 obtain⟨y,hy⟩:=Yo (show r3.toNat<ya.length by omega)
 have gy3:DL.getD (.lst qa) (.int r3) S3=.ok y S3:=Uc (k3.at q2 (by omega) (by omega)) (Kr r30 hy)
 have h3:=h2.kp d3 k3
 obtain⟨i4,S4,e4,b4,d4,k4⟩:=Geh (mo:=m) h3.d (by omega)
 have h4:=h3.kp d4 k4
 obtain⟨i5,S5,e5,b5,d5,k5⟩:=Geh (mo:=9) h4.d (by decide)
 have e5:Hz [.lst t,.int 9] S4=.ok (.int i5) S5:=e5
 have h5:=h4.kp d5 k5
 obtain⟨S6,hS6⟩:∃ S6,S6=S5++[(⟨false,[y,.tup [.str w,.int i4,.int i5]]⟩:Cell)]:=⟨_,rfl⟩
 have x6:Ex S5 S6:=by rw[hS6]; exact Ex.app
 have q6:S6[S5.length]?=some ⟨false,[y,.tup [.str w,.int i4,.int i5]]⟩:=by rw[hS6]; exact Hc
 have h6:=h5.ex x6
 have yv:Lv (Pc t k c) S6 3 y:=((((gy y (Kj hy)).to (.kp k3)).to (.kp k4)).to (.kp k5)).to (.ex x6)
 have zv:Lv (Pc t k c) S6 3 (.tup [.str w,.int i4,.int i5]):=Gcb (lv0 ((Zz (by rcases hw with h | h | h; exact .inl h; exact .inr (.inl h); exact .inr (.inr (.inr (.inr h))))).mono (by decide) (Nat.le_refl _))) (Ged b4) (Ged b5)
 obtain⟨ρ7,S7,ef,xs7,y9,rfl,h7,kx7⟩:=Jf (nxt:=(Zc S5.length 2).nxt) (g:=gn 9) (b:=Ke) (l:=[y,.tup [.str w,.int i4,.int i5]])
  (fun i ρ S'=>∃ xs' y9,ρ=Kk t cd rl m r c x7 (some (.str w)) y9 x10/\TS t k c S' (N+i) xs'/\Kx (Pc t k c) S6 S')
  (fun i ρ S' ⟨_,_,_,_,kx⟩=>by
   show(S'[S5.length]?).bind (fun c=>c.xs[i]?)=_
   rw[kx.at q6 (h5.hP _ (Nat.le_refl _))]; rfl)
  (fun i d ρ S' hd ⟨xs',y9,e,hs,kx⟩=>by
   subst e
   have hi:i<2:=(List.getElem?_eq_some_iff.mp hd).1
   have dv:Lv (Pc t k c) S' 3 d:=by
    rcases List.mem_cons.mp (Kj hd) with e | e
    ·rw[e]; exact yv.to kx
    ·rw[List.mem_singleton.mp e]; exact zv.to kx
   obtain⟨S'',xs'',f,hs',kx'⟩:=Gkh (cd:=cd) (rl:=rl) (x7:=x7) (x8:=some (.str w)) (x10:=x10) hs rg hm (by omega) dv
   exact⟨Kk t cd rl m r c x7 (some (.str w)) (some d) x10,_,S'',rfl,f,xs'',some d,rfl,hs',kx.trans kx'⟩)
  (Zc S5.length 2).fuel 0 (Kk t cd rl m r c x7 (some (.str w)) x9 x10) S6 (Nat.zero_le _) ⟨xs,x9,rfl,h6,.refl⟩ (by simp[Zc])
 have h7:TS t k c S7 (N+2) xs7:=h7
 obtain⟨r8,x8',S8,e8,p8,m8,d8,k8⟩:=Ue (xs:=[.str "let",.str "right",.str "left",.str "feed"]) (m:=4) h7.d rfl (by simp) (by simp)
 have wv8:∀ S,Lv (Pc t k c) S 2 x8':=fun S=>by
  simp only[List.mem_cons,List.not_mem_nil,or_false] at m8
  rcases m8 with rfl | rfl | rfl | rfl<;>exact Zx (by decide +kernel)
 have h8:=h7.kp d8 k8
 have lt8:=h8.lt
 obtain⟨qd,S9,yd,e9,x9',lq9,q9,ly9,gy9⟩:=Ghs (P:=Pc t k c) (S:=S8) hm h8.hP
 have h9:=h8.ex x9'
 obtain⟨r10,S10,e10,r100,r101,d10,k10⟩:=draw (m:=24) h9.d (by decide) (by decide)
 obtain⟨y10,hy10⟩:=Yo (show r10.toNat<yd.length by omega)
 have gy10:DL.getD (.lst qd) (.int r10) S10=.ok y10 S10:=Uc (k10.at q9 (by omega) (by omega)) (Kr r100 hy10)
 have h10:=h9.kp d10 k10
 obtain⟨i11,S11,e11,b11,d11,k11⟩:=Geh (mo:=m) h10.d (by omega)
 have h11:=h10.kp d11 k11
 have hl:=h11.len
 obtain⟨S12,f12,x12,q12⟩:=Guk (j:=6) (S:=S8) (S1:=S11) (ρ:=Kk t cd rl m r c x7 (some x8') y9 x10) (A:=ac (tp (ac (vr 4) (ac (o2 DL.getD (cl 1 (Gn Qe) (ac (vr 3) an)) (cl 2 (Gn Gh) (ac (vr 0) (ac (cn (.int 24)) an)))) an))) (ac (tp (ac (vr 4) (ac (tp (ac (vr 8) (ac (cl 2 (Gn Hz) (ac (vr 0) (ac (vr 3) an))) an))) an))) an))
  (ys:=[.tup [.tup (r.as.map Hk),y10],.tup [.tup (r.as.map Hk),.tup [x8',.int i11]]]) h11.hc (by
   simp only[Kk]
   generalize r.as.map Hk=A at *
   simp[e9,e10,gy10,e11]) rfl (by simp; omega)
 have y10v:Lv (Pc t k c) S11 3 y10:=((gy9 y10 (Kj hy10)).to (.kp k10)).to (.kp k11)
 have tw:∀ {x:D},Lv (Pc t k c) S11 3 x->Q (Pc t k c) S11 (.tup [.tup (r.as.map Hk),x]):=fun hx=>by
  have i2:=Hw (Hu ((Geg (P:=Pc t k c) (S:=S11) rg hm).mono (Nat.le_refl _) (show 2<=8 by decide)) (Hu hx.rg Ko))
  exact i2.mono (by simp) (by decide)
 refine⟨S11.length+1,S12,_,some x8',y9,?_,⟨d11.ext x12,q12,by simp; omega,fun z hz=>?_,by have:=h11.lt; omega,by have:=h11.lt; omega⟩⟩
 ·simp only[Kf]
  rw[Ku (ρ':=Kk t cd rl m r c x7 (some (.str w)) x9 x10) (S1:=S1) (by simp[Kk,e1,p1])]
  rw[Ku (ρ':=Kk t cd rl m r c x7 (some (.str w)) y9 x10) (S1:=S7) (by
   rw[Vi]
   have sr:isrc (ls (ac (o2 DL.getD (cl 1 (Gn Qs) (ac (vr 3) an)) (cl 2 (Gn Gh) (ac (vr 0) (ac (cn (.int 24)) an)))) (ac (tp (ac (vr 8) (ac (cl 2 (Gn Hz) (ac (vr 0) (ac (vr 3) an))) (ac (cl 2 (Gn Hz) (ac (vr 0) (ac (cn (.int 9)) an))) an)))) an))) (Kk t cd rl m r c x7 (some (.str w)) x9 x10) S1=.ok (Zc S5.length 2) S6:=by
    have:=Ge2 q6
    simp only[List.length_cons,List.length_nil] at this
    simp[Kk,e2,e3,gy3,e4,e5,<- hS6,this]
   rw[sr]
   exact ef)]
  rw[Ku (ρ':=Kk t cd rl m r c x7 (some x8') y9 x10) (S1:=S8) (by simp[Kk,e8,p8])]
  rw[Qh,f12]
  rfl
 ·refine Shx.to (Shx.newc (c':=S11.length+1) (S:=S11) (c:=c) ?_ (by omega)) (.ex x12)
  rcases List.mem_append.mp hz with hz | hz
  ·exact h11.ok z hz
  ·rcases List.mem_cons.mp hz with rfl | hz
   ·exact tw y10v
   ·cases List.mem_singleton.mp hz
    exact tw (Gda (wv8 S11) (Ged b11))
section
variable{S S' S1:Sto}{k t m c n N j:Nat}{d x y z w:D}{xs ys l:List D}{r:Row}{rows:List Row}{ps:List Pl}{us:List Bool}
theorem Gns{i:Nat}(h2:2<=i)(h3:i<=100):Jr (.tup [x]) (.int i) S=.ok (.tup (List.replicate i x)) S:=by
 show(if 0<[x].length/\((2:Int)<=i/\(i:Int)<=1000000)/\[x].length*(i:Int).toNat<=1000000 then Out.ok (D.tup (List.replicate (i:Int).toNat [x]).flatten) S else .bad)=_
 rw[if_pos ⟨by simp,⟨by omega,by omega⟩,by simp; omega⟩,Int.toNat_natCast]
 congr 2
 simp[List.flatten_replicate_singleton]
theorem gE:∀ (d:D) (S S':Sto),G (Pc t k t) S d->Ex S S'->G (Pc t k t) S' d:=fun _ _ _ h x=>Shx.to h (.ex x)
theorem Shx.all{e:Nat}(h:Shx (Pc t k c) S d b e):Shx (Pc t k t) S d b e:=h.low fun _ _ ⟨h1,h2,_⟩=>⟨h1,h2,h1⟩
def Gcr(t:Nat)(ps:List Pl)(us:List Bool)(rows:List Row)(x3 x4 x5 x6 x7 x8 x9 x10:Option D):Lc:=[some (.lst t),some (cD ps us),some (.tup (rows.map Hd)),x3,x4,x5,x6,x7,x8,x9,x10]
theorem Ght(C:Can ps us m)(d:Tp S t k)(hr:∀ r∈rows,RowG (m+1) r)(hn:rows.length<=100):∃ q S' zs,Qq [.lst t,cD ps us,.tup (rows.map Hd)] S=.ok (.lst q) S'/\S'[q]?=some ⟨false,zs⟩/\zs.length<=30/\(∀ z∈zs,G (Pc t k t) S' z)/\Tp S' t k/\q≠t/\q≠k:=by
 have h2:=C.m1
 have hm:=C.m2
 have lnp:=Gb8 C
 have c0:=fun S=>cd0 (ps:=ps) (us:=us) (S:=S)
 have lnr:∀ S,Gz [.tup (rows.map Hd)] S=.ok (.int rows.length) S:=fun S=>by simp[Gz]
 have lt0:=d.lt
 obtain⟨r,S1,f1,rg,d1,k1⟩:∃ (r:Row) (S1:Sto),sif (tb (o2 gtD (b1 Gz (ac (vr 2) an)) (cn (.int 0)))) (sa (o2 DL.getD (vr 2) (cl 2 (Gn Gh) (ac (vr 0) (ac (b1 Gz (ac (vr 2) an)) an)))) (gt (gcons (gn 4) (gcons (gn 5) gnil)) 2)) DL.skip (Gcr t ps us rows (some (.int m)) (some (.tup (r0.as.map Hk))) (some (dd r0.w r0.k)) none none none none none) S=.nx (Gcr t ps us rows (some (.int m)) (some (.tup (r.as.map Hk))) (some (dd r.w r.k)) none none none none none) S1/\RowG (m+1) r/\Tp S1 t k/\Kp S S1 t k:=by
  by_cases c:rows=[]
  ·exact⟨r0,S,by simp[Gcr,c,Gz],Gnq h2,d,Kp.refl⟩
  ·have c':0<rows.length:=List.length_pos_iff.mpr c
   have c'':(0:Int)<rows.length:=by omega
   obtain⟨a1,S1,e1,a0,a2,d1,k1⟩:=draw (m:=(rows.length:Int)) d (by omega) (by omega)
   obtain⟨r,hri⟩:=Yo (show a1.toNat<rows.length by omega)
   have gr:DL.getD (.tup (rows.map Hd)) (.int a1) S1=.ok (Hd r) S1:=Gap (Kr a0 (by rw[List.getElem?_map,hri]; rfl))
   refine⟨r,S1,?_,hr r (Kj hri),d1,k1⟩
   simp only[Gcr]
   generalize rows.map Hd=rd at *
   simp[lnr,c'',c,e1,gr,Hd]
 have lt1:=d1.lt
 have hP1:∀ S:Sto,Tp S t k->∀ i,S.length<=i->Pc t k t i:=fun S d i hi=>by have:=d.lt; exact⟨by omega,by omega,by omega⟩
 obtain⟨q2,S2,y2,e2,x2,lq2,qq2,ly2,gy2⟩:=Gkg (P:=Pc t k t) (S:=S1) rg hm (hP1 S1 d1)
 obtain⟨r3,S3,e3,r30,r31,d3,k3⟩:=draw (m:=11) (d1.ext x2) (by decide) (by decide)
 obtain⟨y,hy⟩:=Yo (show r3.toNat<y2.length by omega)
 have gy3:DL.getD (.lst q2) (.int r3) S3=.ok y S3:=Uc (k3.at qq2 (by omega) (by omega)) (Kr r30 hy)
 have yv3:Rg (Pc t k t) S3 y:=Shx.to (gy2 y (Kj hy)) (.kp k3)
 have lt3:=d3.lt
 obtain⟨q4,S4,y4,e4,x4,lq4,qq4,ly4,gy4⟩:=Gkg (P:=Pc t k t) (S:=S3) rg hm (hP1 S3 d3)
 obtain⟨r5,S5,e5,r50,r51,d5,k5⟩:=draw (m:=11) (d3.ext x4) (by decide) (by decide)
 obtain⟨z,hz⟩:=Yo (show r5.toNat<y4.length by omega)
 have gz5:DL.getD (.lst q4) (.int r5) S5=.ok z S5:=Uc (k5.at qq4 (by omega) (by omega)) (Kr r50 hz)
 have zv5:Rg (Pc t k t) S5 z:=Shx.to (gy4 z (Kj hz)) (.kp k5)
 have yv5:Rg (Pc t k t) S5 y:=Shx.to (Shx.to yv3 (.ex x4)) (.kp k5)
 have lt5:=d5.lt
 have k05:Kp S S5 t k:=((((k1.trans ⟨x2.len,fun i h _ _=>x2.get i h⟩).trans k3).trans ⟨x4.len,fun i h _ _=>x4.get i h⟩).trans k5)
 have h6:TS t k S5.length (S5++[⟨false,[y,z]⟩]) 2 [y,z]:=⟨d5.app,Hc,by simp,m2 (Shx.to (Shx.newc (yv5.mono (by decide) (by decide)) (Nat.le_refl _)) .app) (m1 (Shx.to (Shx.newc (zv5.mono (by decide) (by decide)) (Nat.le_refl _)) .app)),by omega,by omega⟩
 obtain⟨ρ7,S7,ef,c,xs,x7,x8,x9,rfl,h7⟩:=Jf (nxt:=(rsrc 0 2).nxt) (g:=gn 7) (b:=Kf) (l:=(List.range 2).map fun k:Nat=>D.int (k:Int))
  (fun i ρ S'=>∃ c xs x7 x8 x9,ρ=Kk t (cD ps us) (.tup (rows.map Hd)) m r c x7 x8 x9 none/\TS t k c S' (2+4*i) xs)
  (fun i _ S _=>Kn) (fun i d ρ S' hd ⟨c,xs,x7,x8,x9,e,hs⟩=>by
   obtain⟨hi,rfl⟩:=Uy hd
   subst e
   obtain⟨c',S'',xs',y8,y9,f,hs'⟩:=Gki (cd:=cD ps us) (rl:=.tup (rows.map Hd)) (x7:=some (.int i)) (x8:=x8) (x9:=x9) (x10:=none) hs rg hm (by omega)
   exact⟨Kk t (cD ps us) (.tup (rows.map Hd)) m r c (some (.int i)) x8 x9 none,_,S'',rfl,f,c',xs',some (.int i),y8,y9,rfl,hs'⟩)
  (rsrc 0 2).fuel 0 (Kk t (cD ps us) (.tup (rows.map Hd)) m r S5.length none none none none) (S5++[⟨false,[y,z]⟩]) (Nat.zero_le _) ⟨S5.length,[y,z],none,none,none,rfl,h6⟩ (by simp[rsrc])
 have h7:TS t k c S7 10 xs:=h7
 have lt7:=h7.lt
 have hl7:=h7.len
 have mn:∀ S,Gbb [.int rows.length,.int 11] S=.ok (.int ((min rows.length 11:Nat):Int)) S:=Gnr _ 11
 obtain⟨ρ8,S8,el8,g8,ths,hρ8,q8,l8,gs8,d8,kx8⟩:=Jf (nxt:=(Zc c xs.length).nxt) (g:=gn 0) (b:=cbody S7.length ttrue (cl 4 (Gn Jp) (ac (vr 1) (ac (cl 2 (Gn Gh) (ac (vr 2) (ac (o2 Hg (b1 Gbb (ac (b1 Gz (ac (vr 1) an)) (ac (cn (.int 11)) an))) (cn (.int 1))) an))) (ac (vr 0) (ac (cn (.int 12)) an)))))) (l:=xs)
  (fun i ρ S'=>∃ g ths,ρ=[g,some (.tup (rows.map Hd)),some (.lst t)]/\S'[S7.length]?=some ⟨false,ths⟩/\ths.length=i/\(∀ x∈ths,G (Pc t k S7.length) S' x)/\Tp S' t k/\Kx (Pc t k S7.length) S7 S')
  (fun i _ S' ⟨_,_,_,_,_,_,_,kx⟩=>by
   show(S'[c]?).bind (fun c=>c.xs[i]?)=_
   rw[kx.at h7.hc ⟨h7.nt,h7.nk,by omega⟩]; rfl) (fun i d' ρ S' hd ⟨g,ths,h1,h2,h3,hu,h4,h5⟩=>by
   subst h1
   have hi:i<xs.length:=(List.getElem?_eq_some_iff.mp hd).1
   obtain⟨a1,S'',er,a0,a2,dr,kr⟩:=draw (m:=((min rows.length 11:Nat):Int)+1) h4 (by omega) (by omega)
   obtain⟨a,rfl⟩:∃ n:Nat,a1=n:=⟨a1.toNat,by omega⟩
   have q'':=kr.at h2 (by omega) (by omega)
   have lq:S7.length<S''.length:=(List.getElem?_eq_some_iff.mp q'').1
   have wo:Jp [.tup (rows.map Hd),.int a,d',.int 12] S''=.ok (.tup (Uz (rows.map Hd) a 12 d')) S'':=Gg6 (n':=12) (by simp; omega)
   have gd':G (Pc t k S7.length) S'' (.tup (Uz (rows.map Hd) a 12 d')):=by
    have x1:Shx (Pc t k S7.length) S'' d' 9000 10:=Shx.to (Shx.to (Shx.newc (h7.ok d' (Kj hd)) (Nat.le_refl _)) h5) (.kp kr)
    have i1:=Gg5 (a:=a) (n':=12) (n:=100) (fun d hd=>(Gaa (P:=Pc t k S7.length) (S:=S'') hr hm d hd).mono (Nat.le_refl _) (show 3<=10 by decide)) (by simp; exact hn) x1
    exact i1.mono (by decide) (by decide)
   refine⟨_,_,_,rfl,Wd (d:=.tup (Uz (rows.map Hd) a 12 d')) (S2:=S'') ?_ q'' (by omega),some d',ths++[.tup (Uz (rows.map Hd) a 12 d')],rfl,List.getElem?_set_self lq,by simp[h3],(fun s hs=>?_),dr.set (by omega) (by omega),(h5.trans (.kp kr)).trans .setc⟩
   ·generalize Uz (rows.map Hd) a 12 d'=wl at *
    generalize rows.map Hd=rd at *
    simp[lnr,mn,er,wo]
   ·rcases List.mem_append.mp hs with z | z
    ·exact Shx.to (Shx.to (hu s z) (.kp kr)) .setc
    ·cases List.mem_singleton.mp z
     exact Shx.to gd' .setc) (Zc c xs.length).fuel 0 [none,some (.tup (rows.map Hd)),some (.lst t)] (S7++[⟨false,[]⟩]) (Nat.zero_le _) ⟨none,[],rfl,Hc,rfl,m0,h7.d.app,.app⟩ (by simp[Zc])
 have lt8:=d8.lt
 have l8':S7.length<S8.length:=(List.getElem?_eq_some_iff.mp q8).1
 obtain⟨ρ9,S9,el9,g9,ths2,hρ9,q9,l9,gs9,d9,kx9⟩:=Jf (nxt:=(rsrc 0 6).nxt) (g:=gn 0) (b:=cbody S8.length ttrue (cl 2 (Gn Qt) (ac (vr 1) (ac (vr 2) an)))) (l:=(List.range 6).map fun k:Nat=>D.int (k:Int))
  (fun i ρ S'=>∃ g ths,ρ=[g,some (.lst t),some (.tup (rows.map Hd))]/\S'[S8.length]?=some ⟨false,ths⟩/\ths.length=i/\(∀ x∈ths,G (Pc t k S8.length) S' x)/\Tp S' t k/\Kx (Pc t k S8.length) S8 S')
  (fun i _ S _=>Kn) (fun i d' ρ S' hd ⟨g,ths,h1,h2,h3,hu,h4,h5⟩=>by
   obtain⟨hi,rfl⟩:=Uy hd
   subst h1
   obtain⟨x,S'',er,sx',dr,kr⟩:=Gmw h4 hr hn C.m1 hm
   have ltr:=h4.lt
   have lq':S8.length<S'.length:=(List.getElem?_eq_some_iff.mp h2).1
   have q'':=kr.at h2 (by omega) (by omega)
   have lq:S8.length<S''.length:=(List.getElem?_eq_some_iff.mp q'').1
   have gx:G (Pc t k S8.length) S'' x:=sx'.ofn ltr.1 ltr.2 lq'
   refine⟨_,_,_,rfl,Wd (d:=x) (S2:=S'') (by simp[er]) q'' (by omega),some (.int i),ths++[x],rfl,List.getElem?_set_self lq,by simp[h3],(fun s hs=>?_),dr.set (by omega) (by omega),(h5.trans (.kp kr)).trans .setc⟩
   rcases List.mem_append.mp hs with z | z
   ·exact Shx.to (Shx.to (hu s z) (.kp kr)) .setc
   ·cases List.mem_singleton.mp z
    exact Shx.to gx .setc) (rsrc 0 6).fuel 0 [none,some (.lst t),some (.tup (rows.map Hd))] (S8++[⟨false,[]⟩]) (Nat.zero_le _) ⟨none,[],rfl,Hc,rfl,m0,d8.app,.app⟩ (by simp[rsrc])
 have l9:ths2.length=6:=by simpa using l9
 have q89:S9[S7.length]?=some ⟨false,ths⟩:=kx9.at q8 ⟨by omega,by omega,by omega⟩
 have ad:=Yb q89 q9 (by omega)
 obtain⟨S10,hS10⟩:∃ S10,S10=S9++[(⟨false,ths++ths2⟩:Cell)]:=⟨_,rfl⟩
 have x10:Ex S9 S10:=by rw[hS10]; exact Ex.app
 have q10:S10[S9.length]?=some ⟨false,ths++ths2⟩:=by rw[hS10]; exact Hc
 rw[<- hS10] at ad
 have g10:∀ x∈ths++ths2,G (Pc t k t) S10 x:=fun x hx=>by
  rcases List.mem_append.mp hx with hx | hx
  ·exact Shx.to (Shx.all (Shx.to (Shx.newc (gs8 x hx) (Nat.le_refl _)) kx9)) (.ex x10)
  ·exact Shx.to (Shx.all (gs9 x hx)) (.ex x10)
 have d10:=d9.ext x10
 have lt10:=d10.lt
 have ll10:S9.length<S10.length:=(List.getElem?_eq_some_iff.mp q10).1
 have rv:∀ S,G (Pc t k t) S (.tup (rows.map Hd)):=fun S=>(Gg3 hr hm hn).mono (by decide) (by decide)
 have m12:∀ S,Jr (.tup [Hd r]) (.int 12) S=.ok (.tup (List.replicate 12 (Hd r))) S:=fun S=>Gns (i:=12) (by decide) (by decide)
 have m13:∀ S,Jr (.tup [Hd r]) (.int 13) S=.ok (.tup (List.replicate 13 (Hd r))) S:=fun S=>Gns (i:=13) (by decide) (by decide)
 have rp:∀ (i:Nat) S,i<=13->G (Pc t k t) S (.tup (List.replicate i (Hd r))):=fun i S hi=>by
  have:=Hw (Jg (l:=List.replicate i (Hd r)) (b:=141) (e:=3) (lo:=Pc t k t) (S:=S) fun d hd=>by rw[List.eq_of_mem_replicate hd]; exact Gkf rg hm)
  exact this.mono (by simp; omega) (by decide)
 obtain⟨Sa,hSa⟩:∃ Sa,Sa=S10++[(⟨false,rows.map Hd⟩:Cell)]:=⟨_,rfl⟩
 have xa:Ex S10 Sa:=by rw[hSa]; exact Ex.app
 have qa:Sa[S10.length]?=some ⟨false,rows.map Hd⟩:=by rw[hSa]; exact Hc
 have lta:=Gjt (l:=rows.map Hd) (S:=S10)
 rw[<- hSa] at lta
 obtain⟨Sb,hSb⟩:∃ Sb,Sb=Sa++[(⟨false,[]⟩:Cell)]:=⟨_,rfl⟩
 have xb:Ex Sa Sb:=by rw[hSb]; exact Ex.app
 have qb:Sb[Sa.length]?=some ⟨false,[]⟩:=by rw[hSb]; exact Hc
 have lla:=xa.len
 obtain⟨S11,f11,x11,q11,g11⟩:=stg (j:=10) (S:=S10) (S1:=Sb) (ρ:=Kk t (cD ps us) (.tup (rows.map Hd)) m r c x7 x8 x9 (some (.lst S9.length))) (A:=ac (vr 2) (ac (b1 Xe (ac (vr 2) an)) (ac (tp (ac (vr 2) an)) (ac (o2 Jr (tp (ac (tp (ac (vr 4) (ac (vr 5) an))) an)) (cn (.int 12))) (ac (o2 Jr (tp (ac (tp (ac (vr 4) (ac (vr 5) an))) an)) (cn (.int 13))) (ac (tp an) (ac (ls an) an)))))))
  (ys:=[.tup (rows.map Hd),.lst S10.length,.tup [.tup (rows.map Hd)],.tup (List.replicate 12 (Hd r)),.tup (List.replicate 13 (Hd r)),.tup [],.lst Sa.length]) (gE (t:=t) (k:=k)) q10 (by
   have e:Hd r=.tup [.tup (r.as.map Hk),dd r.w r.k]:=rfl
   generalize List.replicate 12 (Hd r)=r12 at *
   generalize List.replicate 13 (Hd r)=r13 at *
   rw[e] at m12 m13
   simp only[Kk]
   generalize rows.map Hd=rd at *
   generalize dd r.w r.k=B at *
   generalize r.as.map Hk=A at *
   simp[lta,m12,m13,<- hSb]) (xa.trans xb) rfl (by simp; omega) g10 (by
   refine m2 (rv _) (m2 ?_ (m2 ?_ (m2 (rp 12 _ (by decide)) (m2 (rp 13 _ (by decide)) (m2 ?_ (m1 ?_))))))
   ·have:=Xd (lo:=Pc t k t) (xb.at qa) (Jg (Gaa (P:=Pc t k t) (S:=Sb) hr hm)) ⟨by omega,by omega,by omega⟩
    exact this.mono (by simp; omega) (by decide)
   ·have:=Hw (Hu (Gg3 (P:=Pc t k t) (S:=Sb) hr hm hn) Ko)
    exact this.mono (by simp) (by decide)
   ·have:=Hw (Ko (lo:=Pc t k t) (S:=Sb) (e:=0))
    exact this.mono (by simp) (by decide)
   ·have:=Xd (lo:=Pc t k t) qb (Ko (lo:=Pc t k t) (S:=Sb) (e:=0)) ⟨by omega,by omega,by omega⟩
    exact this.mono (by simp) (by decide))
 have an':Hg (.tup (rows.map Hd)) (.tup [.non]) S11=.ok (.tup (rows.map Hd++[.non])) S11:=Gb4 (by simp; omega)
 obtain⟨S12,f12,x12,q12,g12⟩:=stg (j:=10) (S:=S11) (S1:=S11) (ρ:=Kk t (cD ps us) (.tup (rows.map Hd)) m r c x7 x8 x9 (some (.lst (Sb.length+1)))) (A:=ac (o2 Hg (vr 2) (tp (ac (cn .non) an))) (ac (cn .non) (ac (cn (.bl true)) (ac (cn (.int 0)) (ac (cn (.str "")) (ac (cn (.str "let")) an))))))
  (ys:=[.tup (rows.map Hd++[.non]),.non,.bl true,.int 0,.str "",.str "let"]) (gE (t:=t) (k:=k)) q11 (by
   generalize rows.map Hd++[D.non]=rn at *
   simp only[Kk]
   generalize rows.map Hd=rd at *
   simp[an']) Ex.refl rfl (by simp; omega) g11 (by
   refine m2 ?_ (m2 ?_ (m2 ?_ (m2 ?_ (m2 ?_ (m1 ?_)))))
   ·have:=Hw (Gd8 (Jg (Gaa (P:=Pc t k t) (S:=S11) hr hm)) (Hu (Zs.mono (Nat.le_refl _) (show 0<=3 by decide)) Ko))
    exact this.mono (by simp; omega) (by decide)
   ·exact Zs.mono (by decide) (by decide)
   ·exact Gea.mono (by decide) (by decide)
   ·exact(Qm (by decide) (by decide)).mono (by decide) (by decide)
   ·exact(Zt (stok _) (by decide +kernel) (by decide +kernel)).mono (by decide) (by decide)
   ·exact(Zt (stok _) (by decide +kernel) (by decide +kernel)).mono (by decide) (by decide))
 have llb:=xb.len
 have ll11:=x11.len
 refine⟨S11.length+1,S12,_,?_,q12,by simp; omega,g12,((d10.ext (xa.trans xb)).ext x11).ext x12,by omega,by omega⟩
 unfold Qq
 rw[Hm]
 simp only[Vu]
 refine(Gw (ρ':=Gcr t ps us rows (some (.int m)) none none none none none none none) (S':=S) (by simp[Gcr,c0,lnp])).trans ?_
 refine(Gw (ρ':=Gcr t ps us rows (some (.int m)) (some (.tup (r0.as.map Hk))) (some (dd r0.w r0.k)) none none none none none) (S':=S) (by simp[Gcr,r0,dd])).trans ?_
 refine(Gw (ρ':=Gcr t ps us rows (some (.int m)) (some (.tup (r.as.map Hk))) (some (dd r.w r.k)) none none none none none) (S':=S1) f1).trans ?_
 refine(Gw (ρ':=Kk t (cD ps us) (.tup (rows.map Hd)) m r S5.length none none none none) (S':=S5++[⟨false,[y,z]⟩]) (by
  simp only[Gcr,Kk]
  generalize dd r.w r.k=B at *
  generalize r.as.map Hk=A at *
  simp[e2,e3,gy3,e4,e5,gz5])).trans ?_
 refine(Gw (ρ':=Kk t (cD ps us) (.tup (rows.map Hd)) m r c x7 x8 x9 none) (S':=S7) (by
  rw[Vi,Ub (n:=2) (S':=S5++[⟨false,[y,z]⟩]) (by simp) (by decide)]
  exact ef)).trans ?_
 refine(Gw (ρ':=Kk t (cD ps us) (.tup (rows.map Hd)) m r c x7 x8 x9 (some (.lst S7.length))) (S':=S8) (by
  rw[Qh,Zd (s:=Zc c xs.length) (S1:=S7) (by
   have:=Ge2 h7.hc
   simp only at this
   simp[Kk,this]) el8]
  rfl)).trans ?_
 refine(Gw (ρ':=Kk t (cD ps us) (.tup (rows.map Hd)) m r c x7 x8 x9 (some (.lst S9.length))) (S':=S10) (by
  rw[Qh,Gc4,Ya]
  have cm:=Zd (pk:=[none,some 0,some 2]) (ρ:=Kk t (cD ps us) (.tup (rows.map Hd)) m r c x7 x8 x9 (some (.lst S7.length))) (S:=S8) (Ub (f:=ac (cn (.int 6)) an) (n:=6) (S':=S8) (by simp) (by decide)) el9
  simp only[Kk,List.getElem?_cons_zero,List.getElem?_cons_succ,Hi] at cm ⊢
  rw[cm,Hi,ad]
  rfl)).trans ?_
 refine(Gw (ρ':=Kk t (cD ps us) (.tup (rows.map Hd)) m r c x7 x8 x9 (some (.lst (Sb.length+1)))) (S':=S11) (by rw[Qh,f11]; rfl)).trans ?_
 rw[Vh,f12]
 rfl
end
theorem Shx.repr_l{lo:Nat->Prop}{i e:Nat}(h:Shx lo S (.lst i) b e)(h1:b<=1000000)(h2:e<40):∃ s:Str,PyData.strOk s=true/\∀ S',Kx lo S S'->Zg [.lst i] S'=.ok (.str s) S':=by
 obtain⟨p,a,g,hb⟩:=h
 refine⟨p.shown,g.ok,fun S' x=>?_⟩
 have ha:=a S' x 40 h2
 show(match toP S' 40 (.lst i) with
   | some p=>if(p.showable&&!p.hasDict&&decide (p.depth<=60))=true/\p.shown.length<=1000000 then Out.ok (D.str p.shown) S' else .bad
   | none=>.bad)=_
 rw[ha]
 show(if(p.showable&&!p.hasDict&&decide (p.depth<=60))=true/\p.shown.length<=1000000 then Out.ok (D.str p.shown) S' else .bad)=_
 rw[if_pos]
 refine⟨?_,Nat.le_trans hb h1⟩
 rw[g.sh,g.nd]
 have:=g.dp
 simp
 omega
theorem Gta{a:Bool}:neD (.bl a) (.bl a) S=.ok (.bl false) S:=by
 simp only[neD,toP]
 cases a<;>simp[SeqAt.shaped,PyData.eqv,PyData.canLay0,PyData.depth]
theorem Gre(e:S[q]?=some ⟨fz,ns.map D.int⟩):∃ S',Gbw [.lst q] S=.ok (.bl true) S':=by
 obtain⟨t,k,S1,f1,d1⟩:=Gmf e
 obtain⟨mid,gl,S2,f2,hm,h1,h2,lg,hg,d2⟩:=Gjs d1
 obtain⟨us,rfl⟩:=Gfa hg
 have pl:=Gmg (mid:=mid)
 have C:Can (plc mid) us (mid.length+1):=⟨Gq0 hm,pl,by simpa using lg,by omega,by omega,rfl,by simp[plc]⟩
 have f2:Ud [.lst t] S1=.ok (cD (plc mid) us) S2:=f2
 generalize plc mid=ps at *
 generalize mid.length+1=m at *
 obtain⟨rows,S3,f3,hr,hn,d3⟩:=Gml (mo:=12) d2 C (by decide) (by decide)
 rw[C.len] at hr
 obtain⟨c,S4,zs,f4,hc,hzl,gz,d4,nt,nk⟩:=Ght C d3 hr hn
 have shl:=Xd (lo:=Pc t k t) hc (Jg gz) ⟨nt,nk,nt⟩
 obtain⟨s,so,hrp⟩:=shl.repr_l (by omega) (by decide)
 obtain⟨ρ6,S6,ef,x5,x6,eρ,x⟩:=Jf (nxt:=(Zc c zs.length).nxt) (g:=gn 5) (b:=Gbv) (l:=zs)
  (fun i ρ S'=>∃ x5 x6,ρ=[some (.lst q),some (.lst t),some (cD ps us),some (.lst c),some (.str s),x5,x6]/\Ex S4 S')
  (fun i ρ S' ⟨_,_,_,x⟩=>by
   show(S'[c]?).bind (fun c=>c.xs[i]?)=_
   rw[x.at hc]; rfl) (fun i dd' ρ S' hd ⟨x5,x6,w1,w2⟩=>by
   subst w1
   have nc:∀ S'',Ex S' S''->Nc S'' dd' 12:=fun S'' x'=>Shx.nc (gz dd' (Kj hd)) (.ex (w2.trans x'))
   obtain⟨Sa,fa,xa⟩:=Gka C nc (by decide)
   obtain⟨Sb,fb,xb⟩:=Grd C (S:=Sa) (fun S'' x'=>nc S'' (xa.trans x')) (by decide)
   have nb:=Gta (a:=Yp m dd') (S:=Sb)
   refine⟨[some (.lst q),some (.lst t),some (cD ps us),some (.lst c),some (.str s),some dd',x6],[some (.lst q),some (.lst t),some (cD ps us),some (.lst c),some (.str s),some dd',some (.bl (Yp m dd'))],Sb,rfl,?_,some dd',some (.bl (Yp m dd')),rfl,(w2.trans xa).trans xb⟩
   simp only[Gbv]
   generalize Yp m dd'=v at *
   generalize cD ps us=cd at *
   simp[fa,fb,nb,isD,isT,tyN,Kg]) (zs.length+1) 0 [some (.lst q),some (.lst t),some (cD ps us),some (.lst c),some (.str s),none,none] S4 (Nat.zero_le _) ⟨none,none,rfl,.refl⟩ (by omega)
 subst eρ
 have r5:=hrp S4 .refl
 have r6:=hrp S6 (.ex x)
 have ee:=Gjn (S:=S6) so so
 rw[show(s==s)=true by simp] at ee
 refine⟨S6,?_⟩
 unfold Gbw
 rw[Hm]
 simp only[Gjb]
 refine(Gw (ρ':=[some (.lst q),some (.lst t),none,none,none,none,none]) (S':=S1) (by simp[f1])).trans ?_
 refine(Gw (ρ':=[some (.lst q),some (.lst t),some (cD ps us),none,none,none,none]) (S':=S2) (by simp[f2])).trans ?_
 refine(Gw (ρ':=[some (.lst q),some (.lst t),some (cD ps us),some (.lst c),none,none,none]) (S':=S4) (by
  generalize rows.map Hd=rd at *
  generalize cD ps us=cd at *
  simp[f3,f4])).trans ?_
 refine(Gw (ρ':=[some (.lst q),some (.lst t),some (cD ps us),some (.lst c),some (.str s),none,none]) (S':=S4) (by simp[r5])).trans ?_
 refine(Gw (ρ':=[some (.lst q),some (.lst t),some (cD ps us),some (.lst c),some (.str s),x5,x6]) (S':=S6) ?_).trans ?_
 ·rw[Vi,Ggq,Ya]
  simp only[List.getElem?_cons_zero,List.getElem?_cons_succ,Hi,Ge2 hc,Qu]
  exact ef
 simp[r6,ee,fin]
theorem Gfl{K:PySem.W.Frag}{mp:List Addr}{H:Hp}:∀ ns:List Int,RepL K mp H (ns.map D.int) (ns.map V.int)
 | []=>RepL.nil
 | a::r=>RepL.cons rfl (Gfl r)
theorem hsp(K:PySem.W.Frag)(H:Hp)(a:Addr)(ns:List Int)(hl:ns.length<=63)(hO:Only H)(hS:SqL K H a (ns.map V.int)):spD K 1 Gbw [.ref a] H (fun v _=>v=.bl true) fun _ _ _=>False:=by
 have hF:SqF K H a (ns.map V.int):=by
  rcases hS with(h | h) | h
  ·rcases hO a with z | ⟨o,xs,z⟩
   ·rw[z] at h; cases h
   ·rw[z] at h; cases h
  ·exact .inl h
  ·exact .inr h
 obtain⟨S',e⟩:=Gre (S:=[⟨true,ns.map D.int⟩]) (q:=0) (fz:=true) (ns:=ns) rfl
 refine⟨[a],[.lst 0],[⟨true,ns.map D.int⟩],⟨rfl,fun i b c h1 h2=>?_,fun i j b ci cj h1 h2 h3 h4 h5 h6=>?_⟩,RepL.cons ⟨a,rfl,rfl⟩ RepL.nil,rfl,?_⟩
 ·cases i with
  | zero=>
   cases (Option.some.inj h1)
   cases (Option.some.inj h2)
   exact⟨ns.map V.int,Gfl ns,(if_pos rfl).mpr hF⟩
  | succ i=>simp at h1
 ·cases i with
  | zero=>cases (Option.some.inj h3); cases h5
  | succ i=>simp at h1
 ·show Gm3 K [a] H (Gbw [.lst 0] [⟨true,ns.map D.int⟩]) _
  rw[e]
  exact fun mp' H' v _ _ h=>h
end Law
def PySem.W.Fast.tw17590102454242391854:Nat:=0
def PySem.W.Fast.tw17602120877232693546:Nat:=0
def PySem.W.Fast.tw9837027919728286323:Nat:=0
def PySem.W.Fast.tw9634284743798706502:Nat:=0
def PySem.W.Fast.tw18041716394801623190:Nat:=0
def PySem.W.Fast.tw2115786238745285773:Nat:=0
def PySem.W.Fast.tw14161177385039080814:Nat:=0
def PySem.W.Fast.tw12551796156311166701:Nat:=0
def PySem.W.Fast.tw4251633311335194716:Nat:=0
def PySem.W.Fast.tw11968956198498854089:Nat:=0
def PySem.W.Fast.tw6757379643272665410:Nat:=0
def PySem.W.Fast.tw9723106532376453407:Nat:=0
def PySem.W.Fast.tw977410833407376762:Nat:=0
def PySem.W.Fast.tw15771963578492698004:Nat:=0
def PySem.W.Fast.tw2233075813243564680:Nat:=0
def PySem.W.Fast.tw8066303510243828589:Nat:=0
def PySem.W.Fast.tw15070014089531397234:Nat:=0
def PySem.W.Fast.tw16181936837856727471:Nat:=0
def PySem.W.Fast.tw4945434501125715495:Nat:=0
def PySem.W.Fast.tw14473934386238565207:Nat:=0
def PySem.W.Fast.tw4432414160921821988:Nat:=0
def PySem.W.Fast.tw11529989371925335270:Nat:=0
def PySem.W.Fast.tw11775461544700956772:Nat:=0
def PySem.W.Fast.tw13890508708407672431:Nat:=0
def PySem.W.Fast.tw14449335311684860683:Nat:=0
def PySem.W.Fast.tw1340263168740347033:Nat:=0
def PySem.W.Fast.tw7331258319606624344:Nat:=0
def PySem.W.Fast.tw18192009607101274936:Nat:=0
def PySem.W.Fast.tw9963019072203385171:Nat:=0
def PySem.W.Fast.tw17684994860071075593:Nat:=0
def PySem.W.Fast.tw3247320834756961994:Nat:=0
def PySem.W.Fast.tw16760962409303165577:Nat:=0
def PySem.W.Fast.tw17960076875284444343:Nat:=0
def PySem.W.Fast.tw15768623075294914677:Nat:=0
def PySem.W.Fast.tw6696665419558403133:Nat:=0
def PySem.W.Fast.tw16985765958803071815:Nat:=0
def PySem.W.Fast.tw8602330259475281291:Nat:=0
def PySem.W.Fast.tw18633394871302289:Nat:=0
def PySem.W.Fast.tw8049050308519238505:Nat:=0
def PySem.W.Fast.tw2718558515934962887:Nat:=0
def PySem.W.Fast.tw1674723008046798814:Nat:=0
def PySem.W.Fast.tw2802438689210345914:Nat:=0
def PySem.W.Fast.tw2917858068909310260:Nat:=0
def PySem.W.Fast.tw17165026740348179028:Nat:=0
def PySem.W.Fast.tw12630863509521135935:Nat:=0
def PySem.W.Fast.tw6851372966761759677:Nat:=0
def PySem.W.Fast.tw2651146098268509622:Nat:=0
def PySem.W.Fast.tw5356748442319209407:Nat:=0
def PySem.W.Fast.tw5820343926624872940:Nat:=0
def PySem.W.Fast.tw365302780326097759:Nat:=0
def PySem.W.Fast.tw10696749336270085811:Nat:=0
def PySem.W.Fast.tw9701733086624930894:Nat:=0
def PySem.W.Fast.tw11142918581214394487:Nat:=0
def PySem.W.Fast.tw15071760068143010809:Nat:=0
def PySem.W.Fast.tw11955419813525835916:Nat:=0
def PySem.W.Fast.tw14323533501997943743:Nat:=0
def PySem.W.Fast.tw2025837558625586553:Nat:=0
def PySem.W.Fast.tw8550310353807111684:Nat:=0
def PySem.W.Fast.tw4530949772165724818:Nat:=0
def PySem.W.Fast.tw8156049363107498751:Nat:=0
def PySem.W.Fast.tw11134769916620374182:Nat:=0
def PySem.W.Fast.tw1798157285407549241:Nat:=0
def PySem.W.Fast.tw17528928017444092919:Nat:=0
def PySem.W.Fast.tw5456449061675917160:Nat:=0
def PySem.W.Fast.tw3304321713173687236:Nat:=0
def PySem.W.Fast.tw14376506243077182197:Nat:=0
def PySem.W.Fast.tw2982050799596198419:Nat:=0
def PySem.W.Fast.tw6301883977649438288:Nat:=0
def PySem.W.Fast.tw15199683081819471491:Nat:=0
def PySem.W.Fast.tw9171520098316162564:Nat:=0
def PySem.W.Fast.tw175060555337108911:Nat:=0
open PySem PySem.W PyProof.Rows
set_option maxHeartbeats 0 in
theorem PySem.Challenge.cw_summitwater_k60_rules_known_holds : PySem.Challenge.rw_summitwater_k60_rules_known.Holds := by
 w_on; o_law; k_head; (case hw=>w_witness2)
 k_fill
 refine L2.Gig (l:=PySem.Challenge.rw_summitwater_k60_rules_known) (n:=63) (k:=11) (x:="script") (CX:=L2.CX0) (sp:=fun K=>DL.spD K 1 Law.Gbw) rfl (by decide) rfl ⟨rfl,by decide,by decide,rfl⟩ (fun w h Y=>PySem.W.kIn_of Y) ?F Law.hsp (fun _ _ _ _ z=>z)
 case F=>
  intro w mg fa h KX G hmg
  refine' Law.Gqt KX G hmg ?HS ?x0 ?x1 ?x2 ?x3 ?x4 ?x5 ?x6
  (case HS=>constructor<;>first | (refine' DL.Gsw ?a ?l ?c ?k; (case a=>k_is); (case l=>k_is); (case c=>k_is); (case k=>k_is)) | k_is)
  (case x0=>k_is)
  (case x1=>k_is)
  (case x2=>k_is)
  (case x3=>k_is)
  (case x4=>k_is)
  (case x5=>k_is)
  (case x6=>k_is)
