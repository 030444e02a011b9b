import PyProof.Rows.All
import Wide.All
import OpenK.AllK
import Wide.FinOn
import Lean
import PyProof.EqAt
import PyProof.EqKinds
import PyProof.TupleCall
import PyProof.FactsAll.tuple_2
import PyProof.ListMulRoad
import PyProof.ExcArgsOwn
import PyProof.ZipIter
import PyProof.EnumFor
import PyProof.Rows.StrJoin2
import PyProof.FString
import PyProof.StrBlockH
import PyProof.StrWalks
import PyProof.EnumMake
import KE.KIntText
import PyProof.CallStr
import PyProof.ExcInit
import PyProof.ExcClass3
import PyProof.ExcBaseAll.ValueError
import PyProof.NsDelKeeps
import KE.KTryMore
import PyProof.Rows.CountFlat
import PyProof.Rows.KernelRfl
import PyProof.ListRange
import PyProof.InstStoreFacts
import PyProof.Rows.InDataRows
import PyProof.DictTable
import PyProof.DictRoads
import PyProof.DictStraight
import PyProof.Rows.TupTab
import PyProof.Rows.TupDisplay
import PyProof.DictTruth
import PySem.Challenge.RW_summitwater_k54_least_brims
set_option maxHeartbeats 4000000
set_option Elab.async false
set_option linter.all false
set_option maxRecDepth 100000
namespace L2
open PySem PySem.Spec PyProof.Rows
abbrev Key:=Sum Int Str
def Gev:Key->Value->Bool
 | .inl k,v=>Value.isInt k v
 | .inr x,v=>Value.isStrOf x v
def Gle(w:World):Key->Int
 | .inl k=>hashInt k
 | .inr x=>hashStr w x
theorem Gx:∀ {k:Key} {v:Value},Gev k v=true->(∃ i t,k=Sum.inl i/\v=Value.int i t)\/(∃ x t,k=Sum.inr x/\v=Value.str x t)
 | .inl i,v,h=>by
  obtain⟨t,e⟩:=Value.isInt_shape (k:=i) (v:=v) h
  exact .inl ⟨i,t,rfl,e⟩
 | .inr x,v,h=>by
  obtain⟨t,e⟩:=Value.isStrOf_shape (x:=x) (v:=v) h
  exact .inr ⟨x,t,rfl,e⟩
theorem Gfn(a b:Int):decide ((Sum.inl a:Key)=Sum.inl b)=(a==b):=by
 by_cases e:a=b
 ·subst e; simp
 ·have h:¬ (Sum.inl a:Key)=Sum.inl b:=fun q=>e (Sum.inl.inj q)
  rw[decide_eq_false h]
  exact(beq_eq_false_iff_ne.mpr e).symm
theorem Gfo(a b:Str):decide ((Sum.inr a:Key)=Sum.inr b)=decide (a=b):=by
 by_cases e:a=b
 ·subst e; simp
 ·have h:¬ (Sum.inr a:Key)=Sum.inr b:=fun q=>e (Sum.inr.inj q)
  rw[decide_eq_false h,decide_eq_false e]
theorem Gfp(a:Int)(b:Str):decide ((Sum.inl a:Key)=Sum.inr b)=false:=decide_eq_false (fun q=>nomatch q)
theorem Gfq(a:Str)(b:Int):decide ((Sum.inr a:Key)=Sum.inl b)=false:=decide_eq_false (fun q=>nomatch q)
def Zd(prog:Program)(w:World):PySem.KeyKind prog w Key where
 is:=Gev
 hash:=Gle w
 inj:=fun v a b ha hb=>by
  rcases Gx ha with⟨i,t,rfl,rfl⟩ | ⟨x,t,rfl,rfl⟩
  ·rcases Gx hb with⟨j,u,rfl,e⟩ | ⟨y,u,rfl,e⟩
   ·injection e with e1 _; rw[e1]
   ·exact nomatch e
  ·rcases Gx hb with⟨j,u,rfl,e⟩ | ⟨y,u,rfl,e⟩
   ·exact nomatch e
   ·injection e with e1 _; rw[e1]
 byValue:=fun k v h=>by
  rcases Gx h with⟨i,t,rfl,rfl⟩ | ⟨x,t,rfl,rfl⟩<;>rfl
 pyHash:=fun hv h=>by
  rcases Gx hv with⟨i,t,rfl,rfl⟩ | ⟨x,t,rfl,rfl⟩
  ·exact wpAny_pyHash_int h
  ·exact wpAny_pyHash_str h
 eqBool:=fun hu hv h=>by
  rcases Gx hu with⟨i,t,rfl,rfl⟩ | ⟨x,t,rfl,rfl⟩
  ·rcases Gx hv with⟨j,u,rfl,rfl⟩ | ⟨y,u,rfl,rfl⟩
   ·rw[Gfn] at h; exact wpAny_eqBool_int h
   ·rw[Gfp] at h; exact SeqAt.EqAt.int_str i t y u _ _ _ _ h
  ·rcases Gx hv with⟨j,u,rfl,rfl⟩ | ⟨y,u,rfl,rfl⟩
   ·rw[Gfq] at h; exact SeqAt.EqAt.str_int x t j u _ _ _ _ h
   ·rw[Gfo] at h; exact wpAny_eqBool_str h
 «strs»:=fun k x t v h=>by
  rcases Gx h with⟨i,u,rfl,e⟩ | ⟨y,u,rfl,e⟩
  ·exact nomatch e
  ·injection e with e1 _
   subst e1
   cases v<;>rfl
inductive V where
 | non | bl (b:Bool) | int (i:Int) | str (x:Str) | byt (b:Array UInt8) | flt (b:UInt64) | ref (a:Addr) | ty (n:String)
 deriving DecidableEq
def Go:V->Value->Prop
 | .non,u=>u=Value.none
 | .bl b,u=>u=Value.bool b
 | .int i,u=>∃ t,u=Value.int i t
 | .str x,u=>∃ t,u=Value.str x t
 | .byt b,u=>∃ t,u=Value.bytes b t
 | .flt b,u=>∃ t,u=Value.float b t
 | .ref a,u=>u=Value.ref a
 | .ty n,u=>u=Value.type n
abbrev Vals:List V->List Value->Prop:=Paired Go
theorem Vals.length{xs:List V}{us:List Value}(r:Vals xs us):xs.length=us.length:=Paired.length r
theorem Vals.get:∀ {xs:List V} {us:List Value} {i:Nat} {x:V},Vals xs us->xs[i]?=some x->∃ u,us[i]?=some u/\Go x u
 | _,_,_,_,.nil,e=>by simp at e
 | _,_,0,_,.cons r _,e=>by simp at e; subst e; exact⟨_,rfl,r⟩
 | _,_,i+1,x,.cons _ t,e=>by
  obtain⟨u,h1,h2⟩:=Vals.get (i:=i) (x:=x) t (by simpa using e)
  exact⟨u,by simpa using h1,h2⟩
theorem Vals.set{x:V}{u:Value}(r:Go x u):∀ {xs:List V} {us:List Value} (i:Nat),Vals xs us->Vals (xs.set i x) (us.set i u)
 | _,_,_,.nil=>.nil
 | _,_,0,.cons _ t=>.cons r t
 | _,_,i+1,.cons q t=>.cons q (Vals.set r i t)
theorem Vals.append:∀ {xs ys:List V} {us ws:List Value},Vals xs us->Vals ys ws->Vals (xs++ys) (us++ws)
 | _,_,_,_,.nil,s=>s
 | _,_,_,_,.cons r t,s=>.cons r (Vals.append t s)
theorem Vals.take:∀ {xs:List V} {us:List Value} (n:Nat),Vals xs us->Vals (xs.take n) (us.take n)
 | _,_,0,_=>.nil
 | _,_,_+1,.nil=>.nil
 | _,_,n+1,.cons r t=>.cons r (Vals.take n t)
theorem Vals.drop:∀ {xs:List V} {us:List Value} (n:Nat),Vals xs us->Vals (xs.drop n) (us.drop n)
 | _,_,0,r=>r
 | _,_,_+1,.nil=>.nil
 | _,_,n+1,.cons _ t=>Vals.drop n t
def Gjd:Option V->Option Value->Prop
 | some v,some u=>Go v u
 | none,none=>True
 | _,_=>False
def KV{κ:Type}:List (κ×V)->List (κ×Value)->Prop:=Paired fun(p:κ×V) (q:κ×Value)=>p.1=q.1/\Go p.2 q.2
def kV:Key->V
 | .inl i=>.int i
 | .inr x=>.str x
inductive NK where
 | i (n:Int) | t (l:List NK)
mutual
def pk:NK->PyData
 | .i n=>.int n
 | .t l=>.tuple (pks l)
def pks:List NK->List PyData
 | []=>[]
 | k::r=>pk k::pks r
end
mutual
theorem Qb:∀ (x y:NK),PyData.eqv (pk x) (pk y)=true↔x=y
 | .i n,.i m=>by simp[pk,PyData.eqv]
 | .i n,.t m=>by simp[pk,PyData.eqv]
 | .t n,.i m=>by simp[pk,PyData.eqv]
 | .t l,.t m=>by simp only[pk,PyData.eqv,pks_eqv l m,NK.t.injEq]
theorem pks_eqv:∀ (x y:List NK),PyData.eqvAll (pks x) (pks y)=true↔x=y
 | [],[]=>by simp[pks,PyData.eqvAll]
 | [],_::_=>by simp[pks,PyData.eqvAll]
 | _::_,[]=>by simp[pks,PyData.eqvAll]
 | a::r,b::q=>by simp only[pks,PyData.eqvAll,Bool.and_eq_true,Qb a b,pks_eqv r q,List.cons.injEq]
end
instance:DecidableEq NK:=fun x y=>if h:PyData.eqv (pk x) (pk y)=true then isTrue ((Qb x y).mp h) else isFalse fun e=>h ((Qb x y).mpr e)
theorem Gfr(x y:NK):PyData.eqv (pk x) (pk y)=decide (x=y):=by
 by_cases h:x=y
 ·rw[decide_eq_true h,(Qb x y).mpr h]
 ·rw[decide_eq_false h]
  cases e:PyData.eqv (pk x) (pk y) with
  | false=>rfl
  | true=>exact absurd ((Qb x y).mp e) h
theorem Gfs{x y:NK}(h:pk x=pk y):x=y:=(Qb x y).mp (by rw[h]; exact(Qb y y).mpr rfl)
mutual
theorem Yj:∀ (x:NK),(pk x).canLay0=true
 | .i n=>by simp[pk,PyData.canLay0]
 | .t l=>by simp[pk,PyData.canLay0,pks_can l]
theorem pks_can:∀ (x:List NK),PyData.canLayAll0 (pks x)=true
 | []=>by simp[pks,PyData.canLayAll0]
 | a::r=>by simp[pks,PyData.canLayAll0,Yj a,pks_can r]
end
mutual
def nkh:NK->Int
 | .i n=>hashInt n
 | .t l=>reduceHash (Builtin.Tuple.tupleHashOf (nkhs l))
def nkhs:List NK->List Int
 | []=>[]
 | k::r=>nkh k::nkhs r
end
mutual
def nkd:NK->Nat
 | .i _=>1
 | .t l=>nkds l+1
def nkds:List NK->Nat
 | []=>0
 | k::r=>nkd k+nkds r
end
theorem Up:∀ (l m:List NK),nkhs (l++m)=nkhs l++nkhs m
 | [],m=>by simp[nkhs]
 | a::r,m=>by simp[nkhs,Up r m]
theorem Uq:∀ (l m:List NK),nkds (l++m)=nkds l+nkds m
 | [],m=>by simp[nkds]
 | a::r,m=>by simp[nkds,Uq r m]; omega
theorem Qn:∀ {l:List NK} {k:NK},k∈l->(pk k).depth<=PyData.depthAll (pks l)
 | [],k,h=>by simp at h
 | a::r,k,h=>by
  rcases List.mem_cons.mp h with rfl | h
  ·simp only[pks,PyData.depthAll]; omega
  ·have:=Qn h
   simp only[pks,PyData.depthAll]; omega
def Ze(k:NK):Prop:=∀ (prog:Program) (w:World) (A:Around) (E:Value->Shared->Prop) (s:Shared) (v:Value) (as:List Addr) (Q:Int->Shared->Prop),
 Reads s.heap v (pk k) as->A.units+(pk k).depth<cLine->Q (nkh k) { s with toks:=s.toks+nkd k }->wpAny (model prog w) A (pyHash v) Q E s
def We(k:NK):Prop:=∀ (prog:Program) (w:World) (A:Around) (E:Value->Shared->Prop) (s:Shared) (v:Value) (as:List Addr) (n:Nat) (Q:Bool->Shared->Prop),
 Reads s.heap v (pk k) as->(pk k).depth<=n->Q true s->wpAny (model prog w) A (eqIsQuiet n v) Q E s
theorem Ga6{l:List NK}(ih:∀ k∈l,Ze k):Ze (.t l):=by
 intro prog w A E s v as Q r hu h
 simp only[pk] at r
 cases r with
 | @tuple a o vs n xs as ho hc hd rs=>
  have hT:s.TypeIs (.ref a) "tuple":=⟨o,ho,hc⟩
  have hdep:(pk (.t l)).depth=PyData.depthAll (pks l)+1:=by simp[pk,PyData.depth]
  rw[hdep] at hu
  unfold pyHash
  unfold pyHashByItsType
  refine wpAny_bind (wpAny_cRoomFor_or (.inr (by omega)) ?_)
  refine wpAny_bind (wpAny_specialOf hT F.slot_tuple_hash.lookup ?_)
  rw[if_neg (by rw[beq_builtin_none]; exact Bool.false_ne_true)]
  refine wpAny_bind (wpAny_specialOf hT F.slot_tuple_hash.lookup ?_)
  show wpAny _ _ (callSpecialIfBoundUnlessNone? (.ref a) "__hash__" _ >>= _) Q E s
  refine wpAny_bind (wpAny_callSpecialIfBoundUnlessNone?_slot hT F.slot_tuple_hash (wpAny_call_entry F.slot_tuple_hash hT F.entry_tuple_hash ?_ (F.args_tuple_hash_1 _)))
  show wpAny _ _ (Builtin.Tuple.tupleItemsOf (.ref a) >>= _) _ _ s
  refine wpAny_bind (wpAny_tupleItemsOf ho hd ?_)
  refine wpAny_bind ?_
  rw[<- Array.forIn_toList]
  refine wpAny_forIn_list _
   (fun rest (b:Array Int) s'=>∃ done left cs,l=done++left/\ReadsAll s.heap rest (pks left) cs/\b.toList=nkhs done/\s'={ s with toks:=s.toks+nkds done })
   _ ?_ ?_ _ _ ⟨[],l,as,rfl,rs,rfl,rfl⟩
  ·rintro x rest b s' ⟨done,left,cs,el,hl,hb,rfl⟩
   cases left with
   | nil=>simp only[pks] at hl; cases hl
   | cons k left=>
    simp only[pks] at hl
    cases hl with
    | @cons _ _ _ _ c1 c2 h1 h2=>
     have hk:k∈l:=by rw[el]; simp
     have hdk:=Qn hk
     refine wpAny_bind (ih k hk prog w _ _ _ x c1 _ h1 (by first | omega | (show A.units+1+_<cLine; omega)) ?_)
     first
      | exact wpAny_pure ⟨done++[k],left,c2,by simp[el],h2,by simp[hb,Up,nkhs],by simp[Uq,nkds,Nat.add_assoc]⟩
      | exact wpAny_bind (wpAny_pure (wpAny_pure ⟨done++[k],left,c2,by simp[el],h2,by simp[hb,Up,nkhs],by simp[Uq,nkds,Nat.add_assoc]⟩))
  ·rintro b s' ⟨done,left,cs,el,hl,hb,rfl⟩
   cases left with
   | cons k left=>simp only[pks] at hl; cases hl
   | nil=>
    rw[List.append_nil] at el
    subst el
    show wpAny _ _ (retInt (Builtin.Tuple.tupleHashOf b.toList)) _ _ _
    rw[hb]
    refine wpAny_ret_mkInt ?_
    show wpAny _ _ (if(decide (-(2:Int)^63<=Builtin.Tuple.tupleHashOf (nkhs l))&&decide (Builtin.Tuple.tupleHashOf (nkhs l)<2^63))=true then _ else _) Q E _
    unfold nkh reduceHash at h
    simp only[nkd] at h
    by_cases hr:(decide (-(2:Int)^63<=Builtin.Tuple.tupleHashOf (nkhs l))&&decide (Builtin.Tuple.tupleHashOf (nkhs l)<2^63))=true
    ·rw[if_pos hr]
     rw[if_pos hr] at h
     exact wpAny_pure (by simpa[Nat.add_assoc] using h)
    ·rw[if_neg hr]
     rw[if_neg hr] at h
     exact wpAny_bind (wpAny_rule (wpAny_pure (by simpa[Nat.add_assoc] using h)))
mutual
theorem hash_ok:∀ k:NK,Ze k
 | .i n=>by
  intro prog w A E s v as Q r hu h
  simp only[pk] at r
  cases r
  exact wpAny_pyHash_int h
 | .t l=>Ga6 (hash_all l)
theorem hash_all:∀ (l:List NK) (k:NK),k∈l->Ze k
 | [],k,h=>by simp at h
 | a::r,k,h=>(List.mem_cons.mp h).elim (fun e=>e▸hash_ok a) (fun m=>hash_all r k m)
end
theorem Gaf{l:List NK}(ih:∀ k∈l,We k):We (.t l):=by
 intro prog w A E s v as n Q r hn h
 simp only[pk] at r
 cases r with
 | @tuple a o vs n' xs as ho hc hd rs=>
  have hT:s.TypeIs (.ref a) "tuple":=⟨o,ho,hc⟩
  have hdep:(pk (.t l)).depth=PyData.depthAll (pks l)+1:=by simp[pk,PyData.depth]
  rw[hdep] at hn
  cases n with
  | zero=>omega
  | succ n=>
   unfold eqIsQuiet
   refine wpAny_bind (wpAny_specialOf hT F.slot_tuple_eq.lookup ?_)
   show wpAny _ _ (isInstance (.ref a) (.type "tuple") >>= _) _ _ s
   refine wpAny_bind (wpAny_isInstance hT isSubtype_tuple_tuple ?_)
   simp only[Bool.not_true,Bool.false_eq_true,if_false]
   refine wpAny_bind (wpAny_seqItems ho hd ?_)
   refine wpAny_bind ?_
   show wpAny _ _ (forIn vs _ _) _ _ s
   rw[<- Array.forIn_toList]
   refine wpAny_forIn_list _ (fun rest r s'=>r.1=none/\s'=s/\∃ left cs,(∀ k∈left,k∈l)/\ReadsAll s.heap rest (pks left) cs) _ ?_ ?_ _ _ ⟨rfl,rfl,l,as,fun _ h=>h,rs⟩
   ·rintro x rest r s' ⟨hr,rfl,left,cs,hm,hl⟩
    cases left with
    | nil=>simp only[pks] at hl; cases hl
    | cons k left=>
     simp only[pks] at hl
     cases hl with
     | @cons _ _ _ _ c1 c2 h1 h2=>
      have hk:=hm k List.mem_cons_self
      have hdk:=Qn hk
      refine wpAny_bind (ih k hk prog w _ _ _ x c1 n _ h1 (by omega) ?_)
      simp only[Bool.not_true,Bool.false_eq_true,if_false]
      exact wpAny_pure ⟨rfl,rfl,left,c2,fun q hq=>hm q (List.mem_cons_of_mem _ hq),h2⟩
   ·rintro⟨r1,r2⟩ s' ⟨hr,rfl,_⟩
    simp only at hr
    subst hr
    exact wpAny_pure h
mutual
theorem quiet_ok:∀ k:NK,We k
 | .i m=>by
  intro prog w A E s v as n Q r hn h
  simp only[pk] at r
  cases r
  rw[eqIsQuiet_byValue n (by rfl)]
  exact wpAny_pure h
 | .t l=>Gaf (quiet_all l)
theorem quiet_all:∀ (l:List NK) (k:NK),k∈l->We k
 | [],k,h=>by simp at h
 | a::r,k,h=>(List.mem_cons.mp h).elim (fun e=>e▸quiet_ok a) (fun m=>quiet_all r k m)
end
mutual
theorem Xe:∀ (k:NK) {h h':Heap} {v:Value} {as:List Addr} {d:Addr} {o:Obj} {es:Array DictEntry} {ep:Nat},Reads h v (pk k) as->h.get? d=some o->o.data=.dict es ep->Heap.SameBut d h h'->Reads h' v (pk k) as
 | .i n,h,h',v,as,d,o,es,ep,r,_,_,_=>by
  simp only[pk] at r ⊢
  cases r
  exact .int _ _
 | .t l,h,h',v,as,d,o,es,ep,r,ho,hd,hs=>by
  simp only[pk] at r ⊢
  cases r with
  | @tuple a o' vs n' xs as ho' hc hd' rs=>
   have hne:a≠d:=by
    rintro rfl
    obtain rfl:o'=o:=Option.some.inj (ho'.symm.trans ho)
    rw[hd] at hd'
    exact nomatch hd'
   exact .tuple ((hs.2 a hne).trans ho') hc hd' (pks_keeps l rs ho hd hs)
theorem pks_keeps:∀ (l:List NK) {h h':Heap} {v:List Value} {as:List Addr} {d:Addr} {o:Obj} {es:Array DictEntry} {ep:Nat},ReadsAll h v (pks l) as->h.get? d=some o->o.data=.dict es ep->Heap.SameBut d h h'->ReadsAll h' v (pks l) as
 | [],h,h',v,as,d,o,es,ep,r,_,_,_=>by
  simp only[pks] at r ⊢
  cases r
  exact .nil
 | k::l,h,h',v,as,d,o,es,ep,r,ho,hd,hs=>by
  simp only[pks] at r ⊢
  cases r with
  | cons r1 r2=>exact .cons (Xe k r1 ho hd hs) (pks_keeps l r2 ho hd hs)
end
def Glf(h:Heap)(k:NK)(a:Addr):Prop:=(∃ as,Reads h (.ref a) (pk k) as)/\(pk k).depth<=8
noncomputable def nestKind (prog:Program) (w:World):HeapKind prog w NK where
 is:=Glf
 hash:=nkh
 draws:=nkd
 room:=fun A=>A.units+10<cLine
 inj:=fun⟨⟨_,hx⟩,_⟩ ⟨⟨_,hy⟩,_⟩=>Gfs (hx.unique _ _ hy).1
 keeps:=fun⟨⟨as,x⟩,q⟩ ho hd hs=>⟨⟨as,Xe _ x ho hd hs⟩,q⟩
 pyHash:=fun hu ⟨⟨as,x⟩,q⟩ h=>hash_ok _ _ _ _ _ _ _ as _ x (by omega) h
 eqBool:=fun hu ⟨⟨as,x⟩,q⟩ ⟨⟨bs,y⟩,q'⟩ h=>SeqAt.eqAt_reads _ _ _ _ _ _ as bs x y (Yj _) (Yj _) (by omega) _ _ _ _ (by rw[Gfr]; exact h)
 quiet:=fun⟨⟨as,x⟩,q⟩ h=>quiet_ok _ _ _ _ _ _ _ as 8 _ x q h
inductive HO where
 | lst (xs:List V)
 | tup (xs:List V)
 | dK (kvs:List (Key×V)) | dT (kvs:List (NK×Addr×V))
 | set (S:Int->Bool) (n:Nat)
 | ins (C dx:Addr) (fs:List (Str×V))
 | own (x:Addr)
 | xd (fs:List (Str×V))
 | met (f x:Addr)
 | rng (lo hi:Int)
 | frz (o:Obj) (u:HO)
 | tbl (ps:Array Value)
 | ext (φ:Heap->Prop)
abbrev Hp:=Addr->Option HO
def upd(H:Hp)(a:Addr)(o:HO):Hp:=fun b=>if b=a then some o else H b
theorem Gw{H:Hp}{a:Addr}{o:HO}:upd H a o a=some o:=by unfold upd; rw[if_pos rfl]
theorem Gf{H:Hp}{a b:Addr}{o:HO}(h:b≠a):upd H a o b=H b:=by unfold upd; rw[if_neg h]
theorem Hn{H:Hp}{a b:Addr}{o u:HO}(h:H a=some o)(h':H b=some u)(d:o≠u):a≠b:=by
 intro e; subst e; rw[h] at h'; exact d (Option.some.inj h')
theorem Gh{H:Hp}{a b:Addr}{o:HO}(h:H a=some o)(h':H b=none):a≠b:=by
 intro e; subst e; rw[h] at h'; cases h'
section
variable(P:Program)(w:World)
def Ji(H:Hp)(h:Heap)(a:Addr):HO->Prop
 | .lst xs=>xs.length<=sizeLine/\∃ (its:List Value) (n:Nat),Vals xs its/\h.get? a=some { cls:=.type "list",data:=.seq its.toArray n }
 | .tup xs=>xs.length<=sizeLine/\∃ its:List Value,Vals xs its/\IsTup h a its.toArray
 | .dK kvs=>kvs.length<=sizeLine/\(a==sysModules)=false/\∃ vs,KV kvs vs/\h.DictOf (Zd P w) a vs
 | .dT kvs=>kvs.length<=sizeLine/\(a==sysModules)=false/\∃ xs:List (NK×Addr×Value),
   Paired (fun(p:NK×Addr×V) (q:NK×Addr×Value)=>p.1=q.1/\p.2.1=q.2.1/\Go p.2.2 q.2.2) kvs xs∧
   ∃ o es ep,h.get? a=some o/\o.ExactDict/\o.data=.dict es ep/\es.toList=xs.map (entryOfKey (nestKind P w))/\(xs.map (·.1)).Nodup
 | .set S n=>h.SetOf (intKind P w) a S n
 | .ins C dx fs=>H dx=some (.own a)/\fs.length<=1000/\dx≠a/\h.get? a=some (PySem.W.instObj C dx)∧
   ∃ mA,h.Ns1 dx mA/\(∀ f,Gjd (fs.lookup f) (mA f))/\PySem.Within mA (fs.map (·.1))
 | .own _=>∃ o,h.get? a=some o
 | .xd fs=>∃ mA,h.Ns1 a mA/\∀ f,Gjd (fs.lookup f) (mA f)
 | .rng lo hi=>∃ t u v,h.get? a=some { cls:=.type "range",data:=.fields #[.int lo t,.int hi u,.int 1 v] }
 | .frz o u=>h.get? a=some o/\Ji H h a u
 | .tbl ps=>h.get? a=some { cls:=.none,data:=.fields ps }
 | .met f x=>h.get? a=some (PySem.W.methodObj (.ref f) (.ref x))
 | .ext φ=>φ h/\(∃ o,h.get? a=some o)/\∀ h1 h2:Heap,φ h1->(∀ o,h1.get? a=some o->h2.get? a=some o)->φ h2
def HOk(H:Hp)(h:Heap):Prop:=∀ a o,H a=some o->Ji P w H h a o
end
section
variable{P:Program}{w:World}{H H':Hp}{h h':Heap}{a:Addr}{o:HO}
theorem Ji.lt(x:Ji P w H h a o):a<h.objs.size:=by
 cases o with
 | lst xs=>obtain⟨_,_,_,_,e⟩:=x; exact Heap.lt_size e
 | tup xs=>obtain⟨_,_,_,p⟩:=x; exact p.lt
 | dK kvs=>obtain⟨_,_,_,_,o,_,_,e,_⟩:=x; exact Heap.lt_size e
 | dT kvs=>obtain⟨_,_,_,_,o,_,_,e,_⟩:=x; exact Heap.lt_size e
 | set S n=>obtain⟨o,_,_,_,e,_⟩:=x; exact Heap.lt_size e
 | ins C dx fs=>obtain⟨_,_,_,e,_⟩:=x; exact Heap.lt_size e
 | own y=>obtain⟨_,e⟩:=x; exact Heap.lt_size e
 | xd fs=>obtain⟨_,⟨_,_,_,e,_⟩,_⟩:=x; exact Heap.lt_size e
 | rng lo hi=>obtain⟨_,_,_,e⟩:=x; exact Heap.lt_size e
 | frz ob u=>obtain⟨e,_⟩:=x; exact Heap.lt_size e
 | tbl ps=>exact Heap.lt_size (show h.get? a=some _ from x)
 | met f y=>exact Heap.lt_size (show h.get? a=some _ from x)
 | ext φ=>obtain⟨_,⟨_,e⟩,_⟩:=x; exact Heap.lt_size e
theorem Paired.mapP{α β:Type}{F G:α->β->Prop}:∀ {l₁:List α} {l₂:List β},Paired F l₁ l₂->(∀ a b,F a b->G a b)->Paired G l₁ l₂
 | _,_,.nil,_=>.nil
 | _,_,.cons r t,f=>.cons (f _ _ r) (Paired.mapP t f)
theorem Ji.stay(x:Ji P w H h a o)(k:∀ b u,(b=a\/H b=some (.own a))->h.get? b=some u->h'.get? b=some u)
  (ho:∀ b,H b=some (.own a)->H' b=some (.own a)) (ht:∀ b xs,H b=some (.tup xs)->H' b=some (.tup xs)):Ji P w H' h' a o:=by
 induction o with
 | lst xs=>obtain⟨z,its,n,r,e⟩:=x; exact⟨z,its,n,r,k _ _ (.inl rfl) e⟩
 | tup xs=>obtain⟨z,its,r,ob,e,c⟩:=x; exact⟨z,its,r,ob,k _ _ (.inl rfl) e,c⟩
 | dK kvs=>obtain⟨z,y,vs,r,ob,es,ep,e,c⟩:=x; exact⟨z,y,vs,r,ob,es,ep,k _ _ (.inl rfl) e,c⟩
 | dT kvs=>
  obtain⟨z,y,xs,r,ob,es,ep,e,c⟩:=x
  exact⟨z,y,xs,r,ob,es,ep,k _ _ (.inl rfl) e,c⟩
 | set S n=>obtain⟨ob,es,ep,t,e,c⟩:=x; exact⟨ob,es,ep,t,k _ _ (.inl rfl) e,c⟩
 | ins C dx fs=>
  obtain⟨d,z,ne,e,mA,⟨od,es,ep,e2,c⟩,r⟩:=x
  exact⟨ho _ d,z,ne,k _ _ (.inl rfl) e,mA,⟨od,es,ep,k _ _ (.inr d) e2,c⟩,r⟩
 | own y=>obtain⟨ob,e⟩:=x; exact⟨ob,k _ _ (.inl rfl) e⟩
 | xd fs=>obtain⟨mA,⟨od,es,ep,e,c⟩,r⟩:=x; exact⟨mA,⟨od,es,ep,k _ _ (.inl rfl) e,c⟩,r⟩
 | rng lo hi=>obtain⟨t,u,v,e⟩:=x; exact⟨t,u,v,k _ _ (.inl rfl) e⟩
 | frz ob u ih=>obtain⟨e,q⟩:=x; exact⟨k _ _ (.inl rfl) e,ih q⟩
 | tbl ps=>
  have e:h.get? a=some { cls:=.none,data:=.fields ps }:=x
  show h'.get? a=some { cls:=.none,data:=.fields ps }
  exact k a _ (.inl rfl) e
 | met f y=>
  have e:h.get? a=some (PySem.W.methodObj (.ref f) (.ref y)):=x
  show h'.get? a=some (PySem.W.methodObj (.ref f) (.ref y))
  exact k a _ (.inl rfl) e
 | ext φ=>obtain⟨p,⟨o,e⟩,st⟩:=x; exact⟨st _ _ p fun o q=>k _ _ (.inl rfl) q,⟨o,k _ _ (.inl rfl) e⟩,st⟩
theorem HOk.lt(x:HOk P w H h)(e:H a=some o):a<h.objs.size:=(x a o e).lt
theorem HOk.fresh(x:HOk P w H h)(e:h.objs.size<=a):H a=none:=by
 cases q:H a with
 | none=>rfl
 | some u=>exact absurd (Nat.lt_of_lt_of_le (x.lt q) e) (Nat.lt_irrefl _)
theorem HOk.kept(x:HOk P w H h)(k:∀ b u,h.get? b=some u->h'.get? b=some u):HOk P w H h':=fun a o e=>
 (x a o e).stay (fun b u _ q=>k b u q) (fun _ q=>q) fun _ _ q=>q
theorem HOk.laid(x:HOk P w H h)(k:∀ b u,h.get? b=some u->h'.get? b=some u)(hp:h.objs.size<=a)(new:Ji P w (upd H a o) h' a o):HOk P w (upd H a o) h':=fun b u e=>by
 have hn:=x.fresh hp
 by_cases hb:b=a
 ·subst hb; rw[Gw] at e; cases e; exact new
 ·rw[Gf hb] at e
  exact(x b u e).stay (fun c v _ q=>k c v q) (fun c q=>by rw[Gf (Gh q hn)]; exact q) fun c xs q=>by rw[Gf (Gh q hn)]; exact q
end
def Rd(H:Hp)(a:Addr)(u:HO):Prop:=H a=some u\/∃ o,H a=some (.frz o u)
theorem Rd.ok{P:Program}{w:World}{H:Hp}{h:Heap}{a:Addr}{u:HO}(r:Rd H a u)(x:HOk P w H h):Ji P w H h a u:=by
 rcases r with r | ⟨o,r⟩
 ·exact x a u r
 ·obtain⟨_,q⟩:=x a _ r
  exact q
def Mut:Option HO->Prop
 | some (.lst _)=>True
 | some (.dK _)=>True
 | some (.dT _)=>True
 | some (.set _ _)=>True
 | some (.ins _ _ _)=>True
 | some (.ext _)=>True
 | _=>False
theorem HOk.write{P:Program}{w:World}{H:Hp}{h h':Heap}{x e:Addr}{o':HO}(ok:HOk P w H h)(mu:Mut (H x))(he:e=x\/H e=some (.own x))(k:∀ b u,b≠e->h.get? b=some u->h'.get? b=some u)(heo:∃ u,h'.get? e=some u)(new:Ji P w (upd H x o') h' x o'):HOk P w (upd H x o') h':=fun b u q=>by
 have nown:∀ c y,H c=some (.own y)->c≠x:=fun c y r z=>by subst z; rw[r] at mu; exact mu
 have ntup:∀ c xs,H c=some (.tup xs)->c≠x:=fun c xs r z=>by subst z; rw[r] at mu; exact mu
 by_cases hb:b=x
 ·subst hb; rw[Gw] at q; cases q; exact new
 ·rw[Gf hb] at q
  by_cases hbe:b=e
  ·have q':H b=some (.own x):=by
    rcases he with z | z
    ·exact absurd (hbe.trans z) hb
    ·rw[hbe]; exact z
   rw[q] at q'; cases q'
   obtain⟨v,hv⟩:=heo
   exact⟨v,by rw[hbe]; exact hv⟩
  ·refine(ok b u q).stay (fun c v hc r=>k c v ?_ r) (fun c r=>by rw[Gf (nown c b r)]; exact r) fun c xs r=>by rw[Gf (ntup c xs r)]; exact r
   rcases hc with rfl | hc
   ·exact hbe
   ·rintro rfl
    rcases he with z | z
    ·exact nown c b hc z
    ·rw[hc] at z; cases z; exact hb rfl
structure Un(fs ex:List Addr)(H H':Hp)(h h':Heap):Prop where
 keep:∀ b o,h.get? b=some o->H b=none->b∉fs->b∉ex->h'.get? b=some o
 slot:∀ b o,h.get? b=some o->H b=none->b∈fs->b∉ex->∃ sl,h'.get? b=some { o with slots:=sl }
 free:∀ b o,h.get? b=some o->H b=none->b∉ex->H' b=none
 there:∀ b o,h.get? b=some o->b∉ex->∃ o',h'.get? b=some o'
 tups:∀ b xs,H b=some (.tup xs)->H' b=some (.tup xs)
 frzs:∀ b o u,H b=some (.frz o u)->H' b=some (.frz o u)
 tbls:∀ b ps,H b=some (.tbl ps)->∃ more,H' b=some (.tbl (ps++more))
section
variable{fs fs' ex ex':List Addr}{H H1 H2:Hp}{h h1 h2 h':Heap}{a x e:Addr}{o:HO}
theorem Un.any(u:Un fs ex H H1 h h1){b:Addr}{ob:Obj}(q:h.get? b=some ob)(n:H b=none)(hx:b∉ex):∃ sl,h1.get? b=some { ob with slots:=sl }:=by
 by_cases hb:b∈fs
 ·exact u.slot b ob q n hb hx
 ·exact⟨ob.slots,u.keep b ob q n hb hx⟩
theorem Un.kept(k:∀ b u,h.get? b=some u->h'.get? b=some u):Un fs ex H H h h':=
 ⟨fun b ob q _ _ _=>k b ob q,fun b ob q _ _ _=>⟨ob.slots,k b ob q⟩,fun _ _ _ n _=>n,fun b ob q _=>⟨ob,k b ob q⟩,fun _ _ q=>q,fun _ _ _ q=>q,fun _ ps q=>⟨#[],by rw[q]; simp⟩⟩
theorem Un.refl:Un fs ex H H h h:=Un.kept fun _ _ q=>q
theorem Un.laid(k:∀ b u,h.get? b=some u->h'.get? b=some u)(hp:h.objs.size<=a)(hn:H a=none):Un fs ex H (upd H a o) h h' where
 keep:=fun b u q _ _ _=>k b u q
 slot:=fun b u q _ _ _=>⟨u.slots,k b u q⟩
 free:=fun b u q n _=>by rw[Gf (Nat.ne_of_lt (Nat.lt_of_lt_of_le (Heap.lt_size q) hp))]; exact n
 there:=fun b u q _=>⟨u,k b u q⟩
 tups:=fun b xs q=>by rw[Gf (Gh q hn)]; exact q
 frzs:=fun b u xs q=>by rw[Gf (Gh q hn)]; exact q
 tbls:=fun b ps q=>⟨#[],by rw[Gf (Gh q hn),q]; simp⟩
theorem Un.write(mu:Mut (H x))(he:e=x\/H e=some (.own x))(k:∀ b u,b≠e->h.get? b=some u->h'.get? b=some u)(heo:∃ u,h'.get? e=some u):Un fs ex H (upd H x o) h h':=by
 have hx:∀ b,H b=none->b≠x:=fun b n z=>by subst z; rw[n] at mu; exact mu
 have hb:∀ b,H b=none->b≠e:=fun b n z=>by
  subst z
  rcases he with r | r
  ·exact hx b n r
  ·rw[n] at r; cases r
 have hm:∀ b u,H b=some u->¬ Mut (some u)->b≠x:=fun b u q nm z=>by subst z; rw[q] at mu; exact nm mu
 refine⟨fun b u q n _ _=>k b u (hb b n) q,fun b u q n _ _=>⟨u.slots,k b u (hb b n) q⟩,fun b u q n _=>by rw[Gf (hx b n)]; exact n,fun b u q _=>?_,
  fun b xs q=>by rw[Gf (hm b _ q fun z=>z)]; exact q,fun b u xs q=>by rw[Gf (hm b _ q fun z=>z)]; exact q,fun b ps q=>⟨#[],by rw[Gf (hm b _ q fun z=>z),q]; simp⟩⟩
 by_cases hbe:b=e
 ·subst hbe; exact heo
 ·exact⟨u,k b u hbe q⟩
end
def trk(h:Heap)(H:Hp):List Addr:=(List.range h.objs.size).filter fun a=>(H a).isSome
def Vf(h:Heap)(H:Hp):Heap:=PySem.W.hideAll h (trk h H)
theorem Gag(h:Heap)(H:Hp):(Vf h H).objs.size=h.objs.size:=PySem.W.hideAll_size _ _
theorem Ga7{h:Heap}{H:Hp}{b:Addr}{o:Obj}(e:h.get? b=some o)(n:H b=none):(Vf h H).get? b=some o:=
 PySem.W.hideAll_get _ e fun hm=>by
  have q:(H b).isSome=true:=(List.mem_filter.mp hm).2
  rw[n] at q; simp at q
theorem of_hidT{h:Heap}{H:Hp}{b:Addr}{o:Obj}(e:(Vf h H).get? b=some o):h.get? b=some o/\H b=none:=by
 have e':h.get? b=some o:=PySem.W.of_hideAll (trk h H) e
 refine⟨e',?_⟩
 cases q:H b with
 | none=>rfl
 | some x=>
  have hm:b∈trk h H:=List.mem_filter.mpr ⟨List.mem_range.mpr (Heap.lt_size e'),by simp[q]⟩
  have z:(Vf h H).get? b=none:=PySem.W.hideAll_none (trk h H) hm
  rw[z] at e; cases e
def Gc8(g h:Heap)(L:Addr):List (Addr×Obj):=(List.range h.objs.size).filterMap fun a=>if a=L\/(g.get? a).isSome=true then none else(h.get? a).map fun o=>(a,o)
def rest(g h:Heap)(L d:Addr):List (Addr×Obj):=(Gc8 g h L).filter fun p=>decide (p.1≠d)
structure Mod(K:PySem.W.Frag)(mg:Str->Option Value)(base:Heap):Prop where
 kin:K.In base
 glob:base.Ns mainGlobals mg
 blt:∃ mb,base.Ns builtinsNs mb/\∀ x:Str,x≠"__name__"->mb x=bootBuiltins x
 nolimit:base.NoLimit
structure Cx where
 prog:Program
 w:World
 K:PySem.W.Frag
 mg:Str->Option Value
 base:Heap
 A:Around
 N:List Str
 s₀:Shared
 H₀:Hp
 env:Env
 outer:List Env
 stack:List Env
 ex:List Addr
 fn:Str->Bool
 calm:Bool
 pn:List (Addr×Obj)
 xe:Value->Shared->Prop
def frs(l:List Env):List Addr:=l.filterMap (·.frame)
abbrev Cx.fs(X:Cx):List Addr:=frs X.outer
def Vis(sc:Scope)(x:Str):Prop:=sc.names.lookup x=some .local\/sc.names.lookup x=some .cell\/sc.names.lookup x=some .free
def Loc(sc:Scope)(x:Str):Prop:=sc.names.lookup x=some .local\/sc.names.lookup x=some .cell
def Look(env:Env)(h:Heap)(m:Str->Option Value)(x:Str)(u:Value):Prop:=
 (env.kindOf x=some .local/\m x=some u)\/((env.kindOf x=some .cell\/env.kindOf x=some .free)/\∃ c,env.cells.lookup x=some c/\h.IsCell c (some u))
structure Cx.Ok(X:Cx):Prop where
 mod:Mod X.K X.mg X.base
 kind:X.env.scope.kind=.function
 glob:X.env.globals=mainGlobals
 blt:X.env.builtins=builtinsNs
 above:X.s₀.heap.objs.size<=X.env.locals
 inj:∀ x y c,X.env.cells.lookup x=some c->X.env.cells.lookup y=some c->x=y
 has:∀ x,(X.env.kindOf x=some .cell\/X.env.kindOf x=some .free)->∃ c,X.env.cells.lookup x=some c
 cab:∀ x c,X.fn x=true->X.env.cells.lookup x=some c->X.s₀.heap.objs.size<=c
 hd:X.calm=true->X.A.handled=none
 frames:X.A.frames=some X.stack
 stk:X.stack=X.outer\/(X.stack=X.env::X.outer/\X.env.frame=some X.env.locals)
 exf:∀ b∈X.ex,b≠X.env.locals/\∀ x c,X.env.cells.lookup x=some c->c≠b
 bs:∀ b o,X.base.get? b=some o->X.s₀.heap.get? b=some o/\X.H₀ b=none
 bsz:X.base.objs.size<=X.s₀.heap.objs.size
 noex:∀ b o,X.base.get? b=some o->b∉X.ex
 exfs:∀ b∈X.ex,b∉X.fs
 funs:X.s₀.heap.FunFrames X.base X.outer
 frf:∀ b∈X.fs,X.H₀ b=none
structure Inv(X:Cx)(pins:List (Addr×Obj))(σ:List (Option V))(H:Hp)(s:Shared):Prop where
 ok:X.Ok
 os:s.os=X.s₀.os
 bare:AllBare s.gens
 base:Un X.fs X.ex X.H₀ H X.s₀.heap s.heap
 loc:∃ m,s.heap.Ns X.env.locals m/\∀ (i:Nat) (x:Str) (v:V),X.N[i]?=some x->σ[i]?=some (some v)->Vis X.env.scope x->∃ u,Go v u/\Look X.env s.heap m x u
 cell:∀ x c,X.env.cells.lookup x=some c->∃ v,s.heap.IsCell c v
 free:H X.env.locals=none
 freeC:∀ x c,X.env.cells.lookup x=some c->H c=none
 pin:∀ p∈X.pn++pins,s.heap.get? p.1=some p.2/\H p.1=none/\p.1≠X.env.locals/\p.1∉X.fs/\∀ v,p.2.data≠.cell v
 hok:HOk X.prog X.w H s.heap
 len:σ.length=X.N.length
section
variable{X:Cx}{pins:List (Addr×Obj)}{σ:List (Option V)}{H H':Hp}{s:Shared}{h':Heap}
theorem Cx.Ok.nofr(ok:X.Ok){b:Addr}{o:Obj}(e:X.base.get? b=some o):b∉X.fs:=fun hb=>by
 have:=(ok.funs.mem hb).1
 rw[e] at this; cases this
theorem Inv.bs(I:Inv X pins σ H s):∀ b o,X.base.get? b=some o->s.heap.get? b=some o/\H b=none:=fun b o e=>
 ⟨I.base.keep b o (I.ok.bs b o e).1 (I.ok.bs b o e).2 (I.ok.nofr e) (I.ok.noex b o e),I.base.free b o (I.ok.bs b o e).1 (I.ok.bs b o e).2 (I.ok.noex b o e)⟩
theorem Inv.bk(I:Inv X pins σ H s):∀ b o,X.base.get? b=some o->s.heap.get? b=some o:=fun b o e=>(I.bs b o e).1
theorem Inv.mod(I:Inv X pins σ H s):Mod X.K X.mg X.base:=I.ok.mod
theorem Inv.kIn(I:Inv X pins σ H s):X.K.In s.heap:=I.ok.mod.kin.keeps I.bk
theorem Inv.nolimit(I:Inv X pins σ H s):s.heap.NoLimit:=I.ok.mod.nolimit.keeps I.bk
theorem Inv.lt(I:Inv X pins σ H s):X.env.locals<s.heap.objs.size:=let ⟨_,hn,_⟩:=I.loc; hn.lt
theorem Inv.sz(I:Inv X pins σ H s):X.s₀.heap.objs.size<=s.heap.objs.size:=Nat.le_trans I.ok.above (Nat.le_of_lt I.lt)
theorem Inv.nofs(I:Inv X pins σ H s){a:Addr}(h:s.heap.objs.size<=a):a∉X.fs:=fun hb=>by
 obtain⟨_,o,ho,_⟩:=I.ok.funs.mem hb
 exact absurd (Nat.lt_of_lt_of_le (Heap.lt_size ho) (Nat.le_trans I.sz h)) (Nat.lt_irrefl _)
theorem Inv.cne(I:Inv X pins σ H s):∀ x c,X.env.cells.lookup x=some c->c≠X.env.locals:=fun x c e z=>by
 obtain⟨v,o,ho,hd⟩:=I.cell x c e
 obtain⟨m,⟨o',es,ep,ho',hd',_⟩,_⟩:=I.loc
 rw[z,ho'] at ho; cases ho; rw[hd'] at hd; cases hd
theorem Inv.funs(I:Inv X pins σ H s):s.heap.FunFrames X.base X.outer:=by
 have all:∀ (l:List Env),(∀ b∈frs l,b∈X.fs)->X.s₀.heap.FunFrames X.base l->s.heap.FunFrames X.base l:=by
  intro l
  induction l with
  | nil=>intro _ _; trivial
  | cons env r ih=>
   intro hs hl
   obtain⟨hk,⟨L,o,hf,hn,ho,hd⟩,hr⟩:=hl
   have hL:L∈X.fs:=hs L (by unfold frs; rw[List.filterMap_cons,hf]; exact List.mem_cons_self)
   obtain⟨sl,e⟩:=I.base.slot L o ho (I.ok.frf L hL) hL fun z=>I.ok.exfs L z hL
   exact⟨hk,⟨L,_,hf,hn,e,hd⟩,ih (fun b hb=>hs b (by unfold frs; rw[List.filterMap_cons,hf]; exact List.mem_cons_of_mem _ hb)) hr⟩
 exact all X.outer (fun _ hb=>hb) I.ok.funs
theorem Inv.stack(I:Inv X pins σ H s):s.heap.FunFrames X.base X.stack:=by
 rcases I.ok.stk with e | ⟨e,hf⟩
 ·rw[e]; exact I.funs
 ·rw[e]
  obtain⟨m,hn,_⟩:=I.loc
  refine .cons (by rw[I.ok.kind]; decide) hf hn ?_ I.funs
  exact Heap.get?_none_of_le (Nat.le_trans I.ok.bsz I.ok.above)
theorem Inv.stkSub(I:Inv X pins σ H s):∀ b∈frs X.stack,b∈X.env.locals::X.fs:=fun b hb=>by
 rcases I.ok.stk with e | ⟨e,hf⟩
 ·rw[e] at hb; exact List.mem_cons_of_mem _ hb
 ·rw[e] at hb
  unfold frs at hb
  rw[List.filterMap_cons,hf] at hb
  exact hb
theorem Inv.stkFree(I:Inv X pins σ H s):∀ b∈frs X.stack,H b=none:=fun b hb=>by
 rcases List.mem_cons.mp (I.stkSub b hb) with e | hb
 ·rw[e]; exact I.free
 ·obtain⟨_,o,ho,_⟩:=I.ok.funs.mem hb
  exact I.base.free b o ho (I.ok.frf b hb) fun z=>I.ok.exfs b z hb
theorem Inv.step{g':Array GenState}{t':Nat}{d':Drawn}{ch:List Addr}(I:Inv X pins σ H s)
  (hch:∀ b∈ch,(b∈X.ex\/X.s₀.heap.objs.size<=b)/\b≠X.env.locals/\(∀ x c,X.env.cells.lookup x=some c->c≠b)/\∀ p∈X.pn++pins,p.1≠b)
  (keep:∀ b o,b≠X.env.locals->b∉X.fs->b∉ch->s.heap.get? b=some o->H b=none->h'.get? b=some o)
  (slot:∀ b o,b≠X.env.locals->b∈X.fs->b∉ch->s.heap.get? b=some o->H b=none->∃ sl,h'.get? b=some { o with slots:=sl }) (free:∀ b o,b∉ch->s.heap.get? b=some o->H b=none->H' b=none)
  (there:∀ b o,b∉ch->s.heap.get? b=some o->∃ o',h'.get? b=some o')
  (tups:∀ b xs,H b=some (.tup xs)->H' b=some (.tup xs)) (frzs:∀ b o u,H b=some (.frz o u)->H' b=some (.frz o u)) (tbls:∀ b ps,H b=some (.tbl ps)->∃ more,H' b=some (.tbl (ps++more)))
  (ns:∀ m,s.heap.Ns X.env.locals m->h'.Ns X.env.locals m) (hok:HOk X.prog X.w H' h') (hg:AllBare g'):
  Inv X pins σ H' { s with heap:=h',gens:=g',drawn:=d',toks:=t' }:=by
 have neL:∀ b o,X.s₀.heap.get? b=some o->b≠X.env.locals:=fun b o e=>Nat.ne_of_lt (Nat.lt_of_lt_of_le (Heap.lt_size e) I.ok.above)
 have neC:∀ b o,X.s₀.heap.get? b=some o->b∉X.ex->b∉ch:=fun b o e hx hb=>by
  rcases(hch b hb).1 with z | z
  ·exact hx z
  ·exact absurd (Nat.lt_of_lt_of_le (Heap.lt_size e) z) (Nat.lt_irrefl _)
 have cellK:∀ x c,X.env.cells.lookup x=some c->∀ v,s.heap.IsCell c v->h'.IsCell c v:=fun x c e v ⟨o,ho,hd⟩=>by
  have nch:c∉ch:=fun z=>(hch c z).2.2.1 x c e rfl
  by_cases hc:c∈X.fs
  ·obtain⟨sl,q⟩:=slot c o (I.cne x c e) hc nch ho (I.freeC x c e)
   exact⟨_,q,hd⟩
  ·exact⟨o,keep c o (I.cne x c e) hc nch ho (I.freeC x c e),hd⟩
 refine⟨I.ok,I.os,hg,⟨fun b o e n hb hx=>?_,fun b o e n hb hx=>?_,fun b o e n hx=>?_,fun b o e hx=>?_,fun b xs e=>tups b xs (I.base.tups b xs e),fun b o xs e=>frzs b o xs (I.base.frzs b o xs e),fun b ps e=>?_⟩,?_,fun x c e=>?_,?_,fun x c e=>?_,fun p hp=>?_,hok,I.len⟩
 ·exact keep b o (neL b o e) hb (neC b o e hx) (I.base.keep b o e n hb hx) (I.base.free b o e n hx)
 ·obtain⟨sl,e1⟩:=I.base.slot b o e n hb hx
  obtain⟨sl',e2⟩:=slot b _ (neL b o e) hb (neC b o e hx) e1 (I.base.free b o e n hx)
  exact⟨sl',e2⟩
 ·obtain⟨o',e1⟩:=I.base.there b o e hx
  exact free b o' (neC b o e hx) e1 (I.base.free b o e n hx)
 ·obtain⟨o',e1⟩:=I.base.there b o e hx
  exact there b o' (neC b o e hx) e1
 ·obtain⟨m1,e1⟩:=I.base.tbls b ps e
  obtain⟨m2,e2⟩:=tbls b _ e1
  exact⟨m1++m2,by rw[e2,Array.append_assoc]⟩
 ·obtain⟨m,hn,hl⟩:=I.loc
  refine⟨m,ns m hn,fun i x v e1 e2 e3=>?_⟩
  obtain⟨u,r,l⟩:=hl i x v e1 e2 e3
  refine⟨u,r,?_⟩
  rcases l with l | ⟨k,c,e,z⟩
  ·exact .inl l
  ·exact .inr ⟨k,c,e,cellK x c e _ z⟩
 ·obtain⟨v,z⟩:=I.cell x c e
  exact⟨v,cellK x c e v z⟩
 ·obtain⟨m,⟨o,_,_,ho,_⟩,_⟩:=I.loc
  exact free _ o (fun z=>(hch _ z).2.1 rfl) ho I.free
 ·obtain⟨v,o,ho,hd⟩:=I.cell x c e
  exact free c o (fun z=>(hch c z).2.2.1 x c e rfl) ho (I.freeC x c e)
 ·obtain⟨e,n,ne,nf,d⟩:=I.pin p hp
  have nch:p.1∉ch:=fun z=>(hch p.1 z).2.2.2 p hp rfl
  exact⟨keep p.1 p.2 ne nf nch e n,free p.1 p.2 nch e n,ne,nf,d⟩
theorem Inv.un{t':Nat}(I:Inv X pins σ H s)(u:Un X.fs [] H H' s.heap h')(hok:HOk X.prog X.w H' h'):Inv X pins σ H' { s with heap:=h',toks:=t' }:=by
 obtain⟨m,⟨o,es,ep,ho,r⟩,_⟩:=id I.loc
 obtain⟨sl,hL⟩:=u.any ho I.free (by simp)
 exact I.step (g':=s.gens) (d':=s.drawn) (ch:=[]) (fun _ z=>nomatch z) (fun b o _ hb _ e n=>u.keep b o e n hb (by simp)) (fun b o _ hb _ e n=>u.slot b o e n hb (by simp)) (fun b o _ e n=>u.free b o e n (by simp)) (fun b o _ e=>u.there b o e (by simp)) u.tups u.frzs u.tbls (fun m' hm=>by
  obtain⟨o',es',ep',ho',r'⟩:=hm
  rw[ho] at ho'; cases ho'
  exact⟨_,es',ep',hL,r'⟩) hok I.bare
theorem Inv.call{g':Array GenState}{t':Nat}{d':Drawn}{ch:List Addr}(I:Inv X pins σ H s)(u:Un (frs X.stack) ch H H' s.heap h')(hok:HOk X.prog X.w H' h')(hg:AllBare g')
  (hch:∀ b∈ch,(b∈X.ex\/X.s₀.heap.objs.size<=b)/\b≠X.env.locals/\(∀ x c,X.env.cells.lookup x=some c->c≠b)/\∀ p∈X.pn++pins,p.1≠b):
  Inv X pins σ H' { s with heap:=h',gens:=g',drawn:=d',toks:=t' }:=by
 obtain⟨m,⟨o,es,ep,ho,r⟩,_⟩:=id I.loc
 obtain⟨sl,hL⟩:=u.any ho I.free fun z=>(hch _ z).2.1 rfl
 exact I.step (ch:=ch) hch (fun b o hL hb hc e n=>u.keep b o e n (fun z=>(List.mem_cons.mp (I.stkSub b z)).elim hL hb) hc) (fun b o _ _ hc e n=>u.any e n hc) (fun b o hc e n=>u.free b o e n hc) (fun b o hc e=>u.there b o e hc) u.tups u.frzs u.tbls (fun m' hm=>by
  obtain⟨o',es',ep',ho',r'⟩:=hm
  rw[ho] at ho'; cases ho'
  exact⟨_,es',ep',hL,r'⟩) hok hg
theorem Inv.turned{t':Nat}{it:Addr}(I:Inv X pins σ H s)(k:∀ b o,b≠it->s.heap.get? b=some o->h'.get? b=some o)(hn:H it=none)(hL:it≠X.env.locals)
  (h1:it∈X.ex\/X.s₀.heap.objs.size<=it) (h2:∀ x c,X.env.cells.lookup x=some c->c≠it) (h3:∀ p∈X.pn++pins,p.1≠it):Inv X pins σ H { s with heap:=h',toks:=t' }:=by
 have nit:∀ b u,H b=some u->b≠it:=fun b u e z=>by rw[z,hn] at e; cases e
 refine I.step (g':=s.gens) (d':=s.drawn) (ch:=[it]) (fun b hb=>?_) (fun b o _ _ hc e _=>k b o (fun z=>hc (by simp[z])) e) (fun b o _ _ hc e _=>⟨o.slots,k b o (fun z=>hc (by simp[z])) e⟩) (fun _ _ _ _ n=>n)
  (fun b o hc e=>⟨o,k b o (fun z=>hc (by simp[z])) e⟩) (fun _ _ e=>e) (fun _ _ _ e=>e) (fun b ps e=>⟨#[],by rw[e]; simp⟩) (fun m hm=>?_) (fun b u e=>?_) I.bare
 ·have e:b=it:=by simpa using hb
  subst e
  exact⟨h1,hL,h2,h3⟩
 ·obtain⟨o,es,ep,ho,r⟩:=hm
  exact⟨o,es,ep,k _ o (Ne.symm hL) ho,r⟩
 ·refine(I.hok b u e).stay (fun c v hc q=>k c v ?_ q) (fun _ q=>q) fun _ _ q=>q
  rcases hc with z | z
  ·rw[z]; exact nit b u e
  ·exact nit c _ z
theorem Inv.tok(I:Inv X pins σ H s)(t:Nat):Inv X pins σ H { s with toks:=t }:=I.un (h':=s.heap) (t':=t) Un.refl I.hok
theorem Inv.kept{t':Nat}(I:Inv X pins σ H s)(k:∀ b u,s.heap.get? b=some u->h'.get? b=some u):Inv X pins σ H { s with heap:=h',toks:=t' }:=I.un (Un.kept k) (I.hok.kept k)
theorem Inv.laid{a:Addr}{o:HO}{t':Nat}(I:Inv X pins σ H s)(k:∀ b u,s.heap.get? b=some u->h'.get? b=some u)(hp:s.heap.objs.size<=a)(new:Ji X.prog X.w (upd H a o) h' a o):
  Inv X pins σ (upd H a o) { s with heap:=h',toks:=t' }:=I.un (Un.laid k hp (I.hok.fresh hp)) (I.hok.laid k hp new)
theorem Inv.write{x e:Addr}{o:HO}{t':Nat}(I:Inv X pins σ H s)(mu:Mut (H x))(he:e=x\/H e=some (.own x))(k:∀ b u,b≠e->s.heap.get? b=some u->h'.get? b=some u)(heo:∃ u,h'.get? e=some u)
  (new:Ji X.prog X.w (upd H x o) h' x o):Inv X pins σ (upd H x o) { s with heap:=h',toks:=t' }:=I.un (Un.write mu he k heo) (I.hok.write mu he k heo new)
theorem Inv.pins_of{pins':List (Addr×Obj)}(I:Inv X pins σ H s)(h:∀ p∈pins',s.heap.get? p.1=some p.2/\H p.1=none/\p.1≠X.env.locals/\p.1∉X.fs/\∀ v,p.2.data≠.cell v):Inv X pins' σ H s:=
 ⟨I.ok,I.os,I.bare,I.base,I.loc,I.cell,I.free,I.freeC,fun p hp=>(List.mem_append.mp hp).elim (fun z=>I.pin p (List.mem_append_left _ z)) (h p),I.hok,I.len⟩
theorem Xf{N:List Str}(hN:N.Nodup){i j:Nat}{x:Str}(a:N[i]?=some x)(b:N[j]?=some x):i=j:=by
 obtain⟨h1,e1⟩:=List.getElem?_eq_some_iff.mp a
 obtain⟨h2,e2⟩:=List.getElem?_eq_some_iff.mp b
 exact(List.getElem_inj hN).mp (e1.trans e2.symm)
theorem Vq{M:Model}{A:Around}{E:Value->Shared->Prop}{i:Nat}{x:Str}{v:V}{u:Value}{Q:Unit->Shared->Prop}(I:Inv X pins σ H s)(hN:X.N.Nodup)(hi:X.N[i]?=some x)(hx:Loc X.env.scope x)(r:Go v u)
  (h:∀ s',Inv X pins (σ.set i (some v)) H s'->(∃ a,Heap.SameBut a s.heap s'.heap/\(a=X.env.locals\/X.env.cells.lookup x=some a))->Q () s') (hf:X.fn x=true\/X.env.scope.names.lookup x=some .local:=by first | exact .inl rfl | exact .inr rfl | assumption):wpAny M A (storeName X.env x u) Q E s:=by
 obtain⟨m,hn,hl⟩:=id I.loc
 have hcls:(X.env.scope.kind==.class||(X.env.scope.kind==.module&&X.env.locals != X.env.globals))=false:=by rw[I.ok.kind]; rfl
 have hiσ:i<σ.length:=by rw[I.len]; exact(List.getElem?_eq_some_iff.mp hi).1
 have cne:=I.cne
 have tracked:∀ {a:Addr} {h':Heap},(∃ o,s.heap.get? a=some o/\H a=none)->Heap.SameBut a s.heap h'->HOk X.prog X.w H h':=fun{a h'} ha hs b ob e=>by
  obtain⟨_,_,hfree⟩:=ha
  refine(I.hok b ob e).stay (fun c w' hc q=>(hs.2 c ?_).trans q) (fun _ q=>q) fun _ _ q=>q
  rintro rfl
  rcases hc with rfl | hc
  ·rw[hfree] at e; cases e
  ·rw[hfree] at hc; cases hc
 rcases hx with hk | hk
 ·refine wpAny_storeName_local hk hn (fun h' hn' hs=>?_) hcls
  obtain⟨oL,_,_,hoL,_⟩:=id hn
  refine h _ ⟨I.ok,I.os,I.bare,⟨fun b o e n hb hx=>?_,fun b o e n hb hx=>?_,I.base.free,fun b o e hx=>?_,I.base.tups,I.base.frzs,I.base.tbls⟩,⟨_,hn',fun j y v' e1 e2 e3=>?_⟩,fun y c e=>?_,I.free,I.freeC,fun p hp=>?_,tracked ⟨oL,hoL,I.free⟩ hs,by simpa using I.len⟩ ⟨_,hs,.inl rfl⟩
  ·exact(hs.2 b (Nat.ne_of_lt (Nat.lt_of_lt_of_le (Heap.lt_size e) I.ok.above))).trans (I.base.keep b o e n hb hx)
  ·obtain⟨sl,e1⟩:=I.base.slot b o e n hb hx
   exact⟨sl,(hs.2 b (Nat.ne_of_lt (Nat.lt_of_lt_of_le (Heap.lt_size e) I.ok.above))).trans e1⟩
  ·obtain⟨o',e1⟩:=I.base.there b o e hx
   exact⟨o',(hs.2 b (Nat.ne_of_lt (Nat.lt_of_lt_of_le (Heap.lt_size e) I.ok.above))).trans e1⟩
  ·by_cases hj:j=i
   ·subst hj
    rw[hi] at e1; cases e1
    rw[List.getElem?_set_self hiσ] at e2
    cases e2
    exact⟨u,r,.inl ⟨hk,by simp⟩⟩
   ·rw[List.getElem?_set_ne (Ne.symm hj)] at e2
    obtain⟨u',r',q⟩:=hl j y v' e1 e2 e3
    refine⟨u',r',?_⟩
    rcases q with⟨k,e⟩ | ⟨k,c,e,z⟩
    ·refine .inl ⟨k,?_⟩
     have:y≠x:=fun e=>hj (Xf hN e1 (e▸hi))
     simp[this,e]
    ·exact .inr ⟨k,c,e,z.sameBut hs (cne y c e)⟩
  ·obtain⟨w',z⟩:=I.cell y c e
   exact⟨w',z.sameBut hs (cne y c e)⟩
  ·obtain⟨e,n,ne,nf,d⟩:=I.pin p hp
   exact⟨(hs.2 p.1 ne).trans e,n,ne,nf,d⟩
 ·have hfn:X.fn x=true:=by
   rcases hf with z | z
   ·exact z
   ·rw[z] at hk; cases hk
  obtain⟨c,hc⟩:=I.ok.has x (.inl hk)
  obtain⟨w',z⟩:=I.cell x c hc
  refine wpAny_storeName_cell I.ok.kind hk hc z (fun h' hc' hs=>?_)
  obtain⟨oc,hoc,hocd⟩:=id z
  refine h { s with heap:=h' } ⟨I.ok,I.os,I.bare,⟨fun b o e n hb hx=>?_,fun b o e n hb hx=>?_,I.base.free,fun b o e hx=>?_,I.base.tups,I.base.frzs,I.base.tbls⟩,⟨m,hn.sameBut hs (Ne.symm (cne x c hc)),fun j y v' e1 e2 e3=>?_⟩,fun y c' e=>?_,I.free,I.freeC,fun p hp=>?_,tracked ⟨oc,hoc,I.freeC x c hc⟩ hs,by simpa using I.len⟩ ⟨c,hs,.inr hc⟩
  ·exact(hs.2 b (Nat.ne_of_lt (Nat.lt_of_lt_of_le (Heap.lt_size e) (I.ok.cab x c hfn hc)))).trans (I.base.keep b o e n hb hx)
  ·obtain⟨sl,e1⟩:=I.base.slot b o e n hb hx
   exact⟨sl,(hs.2 b (Nat.ne_of_lt (Nat.lt_of_lt_of_le (Heap.lt_size e) (I.ok.cab x c hfn hc)))).trans e1⟩
  ·obtain⟨o',e1⟩:=I.base.there b o e hx
   exact⟨o',(hs.2 b (Nat.ne_of_lt (Nat.lt_of_lt_of_le (Heap.lt_size e) (I.ok.cab x c hfn hc)))).trans e1⟩
  ·by_cases hj:j=i
   ·subst hj
    rw[hi] at e1; cases e1
    rw[List.getElem?_set_self hiσ] at e2
    cases e2
    exact⟨u,r,.inr ⟨.inl hk,c,hc,hc'⟩⟩
   ·rw[List.getElem?_set_ne (Ne.symm hj)] at e2
    obtain⟨u',r',q⟩:=hl j y v' e1 e2 e3
    refine⟨u',r',?_⟩
    rcases q with q | ⟨k,c',e,z'⟩
    ·exact .inl q
    ·refine .inr ⟨k,c',e,z'.sameBut hs ?_⟩
     rintro rfl
     exact hj (Xf hN e1 (I.ok.inj _ _ _ e hc▸hi))
  ·by_cases hcc:c'=c
   ·subst hcc; exact⟨_,hc'⟩
   ·obtain⟨w2,z2⟩:=I.cell y c' e
    exact⟨w2,z2.sameBut hs hcc⟩
  ·obtain⟨e,n,ne,nf,d⟩:=I.pin p hp
   refine⟨(hs.2 p.1 ?_).trans e,n,ne,nf,d⟩
   intro q
   rw[q,hoc] at e
   have q':oc=p.2:=Option.some.inj e
   exact d w' (by rw[<- q']; exact hocd)
theorem Xg{M:Model}{A:Around}{E:Value->Shared->Prop}{i:Nat}{x:Str}{v:V}{u:Value}{Q:Unit->Shared->Prop}(I:Inv X pins σ H s)(hN:X.N.Nodup)(hi:X.N[i]?=some x)(hx:Loc X.env.scope x)(r:Go v u)
  (h:∀ s',Inv X pins (σ.set i (some v)) H s'->Q () s') (hf:X.fn x=true\/X.env.scope.names.lookup x=some .local:=by first | exact .inl rfl | exact .inr rfl | assumption):wpAny M A (storeName X.env x u) Q E s:=
 Vq I hN hi hx r (fun s' I' _=>h s' I') hf
theorem Inv.call'{s':Shared}{ch:List Addr}(I:Inv X pins σ H s)(ho:s'.os=s.os)(u:Un (frs X.stack) ch H H' s.heap s'.heap)(hok:HOk X.prog X.w H' s'.heap)(hg:AllBare s'.gens)
  (hch:∀ b∈ch,(b∈X.ex\/X.s₀.heap.objs.size<=b)/\b≠X.env.locals/\(∀ x c,X.env.cells.lookup x=some c->c≠b)/\∀ p∈X.pn++pins,p.1≠b):Inv X pins σ H' s':=by
 obtain⟨h',g',d',t',o'⟩:=s'
 have e:o'=s.os:=ho
 subst e
 exact I.call (g':=g') (t':=t') (d':=d') u hok hg hch
end
abbrev XK:=Value->Option Addr->Hp->Prop
abbrev St:=List (Option V)
abbrev VK:=V->Hp->Prop
abbrev TE:=St->Hp->VK->Prop
abbrev TT:=St->Hp->(Bool->Hp->Prop)->Prop
abbrev TA:=St->Hp->(List V->Hp->Prop)->Prop
structure Ends where
 nx:St->Hp->Prop
 rt:VK
 bk:St->Hp->Prop:=fun _ _=>False
 ct:St->Hp->Prop:=fun _ _=>False
abbrev TS:=Ends->St->Hp->Prop
def EP(X:Cx)(pins:List (Addr×Obj))(σ:St)(Q:VK)(u:Value)(s':Shared):Prop:=∃ v H',Inv X pins σ H' s'/\Go v u/\Q v H'
def TP(X:Cx)(pins:List (Addr×Obj))(σ:St)(Q:Bool->Hp->Prop)(b:Bool)(s':Shared):Prop:=∃ H',Inv X pins σ H' s'/\Q b H'
def AP(X:Cx)(pins:List (Addr×Obj))(σ:St)(Q:List V->Hp->Prop)(us:List Value)(s':Shared):Prop:=∃ vs H',Inv X pins σ H' s'/\Vals vs us/\Q vs H'
def SP(X:Cx)(pins:List (Addr×Obj))(D:Ends)(f:Flow)(s':Shared):Prop:=
 match f with
 | .next=>∃ σ' H',Inv X pins σ' H' s'/\D.nx σ' H'
 | .brk=>∃ σ' H',Inv X pins σ' H' s'/\D.bk σ' H'
 | .cont=>∃ σ' H',Inv X pins σ' H' s'/\D.ct σ' H'
 | .ret u=>∃ v σ' H',Inv X pins σ' H' s'/\Go v u/\D.rt v H'
def PE(X:Cx)(e:Expr)(t:TE):Prop:=
 ∀ (pins:List (Addr×Obj)) (s:Shared) (σ:St) (H:Hp) (Q:VK),Inv X pins σ H s->t σ H Q->wpAny (model X.prog X.w) X.A (eval e X.env) (EP X pins σ Q) X.xe s
def PT(X:Cx)(e:Expr)(t:TT):Prop:=
 ∀ (pins:List (Addr×Obj)) (s:Shared) (σ:St) (H:Hp) (Q:Bool->Hp->Prop),Inv X pins σ H s->t σ H Q->wpAny (model X.prog X.w) X.A (isTrue e X.env (eval e X.env)) (TP X pins σ Q) X.xe s
def PW(X:Cx)(e:Expr)(t:TT):Prop:=
 ∀ (whole:Sem Value) (pins:List (Addr×Obj)) (s:Shared) (σ:St) (H:Hp) (Q:Bool->Hp->Prop),Inv X pins σ H s->t σ H Q->wpAny (model X.prog X.w) X.A (isTrue e X.env whole) (TP X pins σ Q) X.xe s
theorem PW.pt{X:Cx}{e:Expr}{t:TT}(h:PW X e t):PT X e t:=h _
def PA(X:Cx)(es:List Expr)(t:TA):Prop:=
 ∀ (pos:Pos) (pins:List (Addr×Obj)) (s:Shared) (σ:St) (H:Hp) (Q:List V->Hp->Prop),Inv X pins σ H s->t σ H Q->wpAny (model X.prog X.w) X.A (spliced (backTo pos (starEach es X.env))) (AP X pins σ Q) X.xe s
def PS(X:Cx)(st:Stmt)(t:TS):Prop:=
 ∀ (pins:List (Addr×Obj)) (s:Shared) (σ:St) (H:Hp) (D:Ends),Inv X pins σ H s->t D σ H->wpAny (model X.prog X.w) X.A (exec st X.env) (SP X pins D) X.xe s
def PSs(X:Cx)(st:List Stmt)(t:TS):Prop:=
 ∀ (pins:List (Addr×Obj)) (s:Shared) (σ:St) (H:Hp) (D:Ends),Inv X pins σ H s->t D σ H->wpAny (model X.prog X.w) X.A (execs st X.env) (SP X pins D) X.xe s
theorem thn{α:Type}{t:Sem α}{Q Q':α->Shared->Prop}{M:Model}{A:Around}{E:Value->Shared->Prop}{s:Shared}(h:wpAny M A t Q E s)(hQ:∀ a s,Q a s->Q' a s):wpAny M A t Q' E s:=wpAny_mono h hQ fun _ _ x=>x
section
variable{X:Cx}
def Glg(i:Nat):TE:=fun σ H Q=>∃ v,σ[i]?=some (some v)/\Q v H
def tC(v:V):TE:=fun _ H Q=>Q v H
theorem Gft{i:Nat}{x:Str}{pos:Pos}(hN:X.N[i]?=some x)(hv:Vis X.env.scope x)(hd:(x==("__debug__":Str))=false:=by decide)(hcd:(x==("__classdict__":Str))=false:=by decide):PE X (.Name x pos) (Glg i):=by
 intro pins s σ H Q I h
 obtain⟨v,e,h⟩:=h
 obtain⟨m,hn,hl⟩:=I.loc
 obtain⟨u,r,l⟩:=hl i x v hN e hv
 have fin:EP X pins σ Q u s:=⟨v,H,I,r,h⟩
 rcases l with⟨hk,hm⟩ | ⟨hk,c,hc,hcell⟩
 ·exact wpAny_Name (wpAny_loadName_local I.ok.kind hk hn hm fin) hd
 ·rcases hk with hk | hk
  ·exact wpAny_Name (wpAny_loadName_cell I.ok.kind hk hc hcell fin) hd
  ·exact wpAny_Name (wpAny_loadName_free I.ok.kind hk hc hcell fin hcd) hd
theorem Gfu{i j pos}:PE X (.Constant (.int i) j pos) (tC (.int i)):=fun _ _ _ H _ I h=>wpAny_Constant_int ⟨.int i,H,I.tok _,⟨_,rfl⟩,h⟩
theorem Gje{b j pos}:PE X (.Constant (.bool b) j pos) (tC (.bl b)):=fun _ _ _ H _ I h=>Constant_bool ⟨.bl b,H,I,rfl,h⟩
theorem Gfv{j pos}:PE X (.Constant .none j pos) (tC .non):=fun _ _ _ H _ I h=>Constant_none ⟨.non,H,I,rfl,h⟩
theorem Gfw{x j pos}:PE X (.Constant (.str x) j pos) (tC (.str x)):=fun _ _ _ H _ I h=>Calls.Constant_str ⟨.str x,H,I.tok _,⟨_,rfl⟩,h⟩
def Gl(X:Cx)(x:Str):Prop:=X.env.kindOf x=some .globalImplicit
theorem Gc9{E:Value->Shared->Prop}{pins:List (Addr×Obj)}{s:Shared}{σ:St}{H:Hp}{x:Str}{u:Value}{pos:Pos}{Q:Value->Shared->Prop}(I:Inv X pins σ H s)(hg:Gl X x)(hm:X.mg x=some u)(h:Q u s)
  (hd:(x==("__debug__":Str))=false:=by decide):wpAny (model X.prog X.w) X.A (eval (.Name x pos) X.env) Q E s:=
 Calls.Name_function_global I.ok.kind hg (Calls.loadGlobal_global (by rw[I.ok.glob]; exact I.mod.glob.keeps I.bk) hm h) hd
theorem Qo{E:Value->Shared->Prop}{pins:List (Addr×Obj)}{s:Shared}{σ:St}{H:Hp}{x:Str}{u:Value}{pos:Pos}{Q:Value->Shared->Prop}(I:Inv X pins σ H s)(hg:Gl X x)(hm:X.mg x=none)(hv:bootBuiltins x=some u)(h:Q u s)
  (hn:x≠"__name__":=by decide) (hd:(x==("__debug__":Str))=false:=by decide):wpAny (model X.prog X.w) X.A (eval (.Name x pos) X.env) Q E s:=by
 obtain⟨mb,h1,h2⟩:=I.mod.blt
 exact Calls.Name_function_global I.ok.kind hg (Calls.loadGlobal_builtin (by rw[I.ok.glob]; exact I.mod.glob.keeps I.bk) hm (by rw[I.ok.blt]; exact h1.keeps I.bk) ((h2 x hn).trans hv) h) hd
theorem Gda{x:Str}{v:V}{u:Value}{pos:Pos}(hg:Gl X x)(hm:X.mg x=none)(hv:bootBuiltins x=some u)(r:Go v u)(hn:x≠"__name__":=by decide)(hd:(x==("__debug__":Str))=false:=by decide):PE X (.Name x pos) (tC v):=
 fun _ _ _ H _ I h=>Qo I hg hm hv ⟨v,H,I,r,h⟩ hn hd
variable{a b:Expr}{ta tb:TE}{pos:Pos}
variable{tA tB':TT}{rest:List Expr}
def Glh(t u:TT):TT:=fun σ H Q=>t σ H fun c H1=>if c=true then u σ H1 Q else Q false H1
def tOr(t u:TT):TT:=fun σ H Q=>t σ H fun c H1=>if c=true then Q true H1 else u σ H1 Q
def Gli(t:TT):TT:=fun σ H Q=>t σ H fun c H1=>Q (!c) H1
theorem Gdb(ha:PT X a tA):PW X (.BoolOp .And [a] pos) tA:=by
 intro wh pins s σ H Q I h
 refine isTrue_and (thn (ha pins s σ H Q I h) fun c s1 e=>?_)
 cases c with
 | true=>exact isTrue_and_nil e
 | false=>exact e
theorem Gfx(ha:PT X a tA):PW X (.BoolOp .Or [a] pos) tA:=by
 intro wh pins s σ H Q I h
 refine isTrue_or (thn (ha pins s σ H Q I h) fun c s1 e=>?_)
 cases c with
 | false=>exact isTrue_or_nil e
 | true=>exact e
theorem Gfy(ha:PT X a tA)(hb:PW X (.BoolOp .And (b::rest) pos) tB'):PW X (.BoolOp .And (a::b::rest) pos) (Glh tA tB'):=by
 intro wh pins s σ H Q I h
 refine isTrue_and (thn (ha pins s σ H _ I h) fun c s1 ⟨H1,I1,q1⟩=>?_)
 cases c with
 | true=>exact hb wh pins s1 σ H1 Q I1 q1
 | false=>exact⟨H1,I1,q1⟩
theorem Gjf(ha:PT X a tA)(hb:PW X (.BoolOp .Or (b::rest) pos) tB'):PW X (.BoolOp .Or (a::b::rest) pos) (tOr tA tB'):=by
 intro wh pins s σ H Q I h
 refine isTrue_or (thn (ha pins s σ H _ I h) fun c s1 ⟨H1,I1,q1⟩=>?_)
 cases c with
 | true=>exact⟨H1,I1,q1⟩
 | false=>exact hb wh pins s1 σ H1 Q I1 q1
theorem Gfz(ha:PT X a tA):PT X (.UnaryOp .Not a pos) (Gli tA):=by
 intro pins s σ H Q I h
 exact isTrue_not (ha pins s σ H (fun c H1=>Q (!c) H1) I h)
def Gjg(ta tb:TE):TE:=fun σ H Q=>ta σ H fun x H1=>∃ c,x=.bl c/\if c=true then tb σ H1 Q else Q (.bl false) H1
def Glj(ta tb:TE):TE:=fun σ H Q=>ta σ H fun x H1=>∃ c,x=.bl c/\if c=true then Q (.bl true) H1 else tb σ H1 Q
def Gjh(ta:TE):TE:=fun σ H Q=>ta σ H fun x H1=>∃ c,x=.bl c/\Q (.bl (!c)) H1
theorem Gf0{op}{t:TE}(h:PE X a t):PE X (.BoolOp op [a] pos) t:=fun pins s σ H Q I hw=>BoolOp_one (h pins s σ H Q I hw)
theorem Gf1(ha:PE X a ta)(hb:PE X (.BoolOp .And (b::rest) pos) tb):PE X (.BoolOp .And (a::b::rest) pos) (Gjg ta tb):=by
 intro pins s σ H Q I h
 refine BoolOp_and (thn (ha pins s σ H _ I h) fun v s1 ⟨x,H1,I1,r1,q1⟩=>?_)
 obtain⟨c,rfl,q1⟩:=q1
 cases r1
 refine wpAny_truthy_bool ?_
 cases c with
 | true=>exact hb pins s1 σ H1 Q I1 q1
 | false=>exact⟨.bl false,H1,I1,rfl,q1⟩
theorem Gji(ha:PE X a ta)(hb:PE X (.BoolOp .Or (b::rest) pos) tb):PE X (.BoolOp .Or (a::b::rest) pos) (Glj ta tb):=by
 intro pins s σ H Q I h
 refine BoolOp_or (thn (ha pins s σ H _ I h) fun v s1 ⟨x,H1,I1,r1,q1⟩=>?_)
 obtain⟨c,rfl,q1⟩:=q1
 cases r1
 refine wpAny_truthy_bool ?_
 cases c with
 | false=>exact hb pins s1 σ H1 Q I1 q1
 | true=>exact⟨.bl true,H1,I1,rfl,q1⟩
theorem Gf2(ha:PE X a ta):PE X (.UnaryOp .Not a pos) (Gjh ta):=by
 intro pins s σ H Q I h
 refine UnaryOp_ (thn (ha pins s σ H _ I h) fun v s1 ⟨x,H1,I1,r1,q1⟩=>?_)
 obtain⟨c,rfl,q1⟩:=q1
 cases r1
 exact not_of (wpAny_truthy_bool ⟨.bl (!c),H1,I1,rfl,q1⟩)
end
def SqL(K:PySem.W.Frag)(H:Hp)(a:Addr)(xs:List V):Prop:=
 Rd H a (.lst xs)∨
  ∃ (o:Obj) (its:Array Value) (n:Nat),K.lookup a=some o/\o.cls=.type "list"/\o.dict=none/\o.data=.seq its n/\its.size<=sizeLine/\Vals xs its.toList
def SqT(K:PySem.W.Frag)(H:Hp)(a:Addr)(xs:List V):Prop:=
 Rd H a (.tup xs)∨
  ∃ (o:Obj) (its:Array Value) (n:Nat),K.lookup a=some o/\o.cls=.type "tuple"/\o.data=.seq its n/\its.size<=sizeLine/\Vals xs its.toList
def Glk:Value->Option V
 | .none=>some .non
 | .bool b=>some (.bl b)
 | .int i _=>some (.int i)
 | .str x _=>some (.str x)
 | .bytes b _=>some (.byt b)
 | .float b _=>some (.flt b)
 | .ref a=>some (.ref a)
 | .type n=>some (.ty n)
 | _=>none
theorem Go.abs{x:V}{u:Value}(r:Go x u):Glk u=some x:=by
 cases x with
 | non=>cases r; rfl
 | bl _=>cases r; rfl
 | int _=>obtain⟨t,rfl⟩:=r; rfl
 | str _=>obtain⟨t,rfl⟩:=r; rfl
 | byt _=>obtain⟨t,rfl⟩:=r; rfl
 | flt _=>obtain⟨t,rfl⟩:=r; rfl
 | ref _=>cases r; rfl
 | ty _=>cases r; rfl
theorem Go.inj{x y:V}{u:Value}(r:Go x u)(q:Go y u):x=y:=Option.some.inj (r.abs.symm.trans q.abs)
theorem Vals.inj:∀ {xs ys:List V} {us:List Value},Vals xs us->Vals ys us->xs=ys
 | _,_,_,.nil,.nil=>rfl
 | _,_,_,.cons r t,.cons r' t'=>by rw[r.inj r',Vals.inj t t']
section
variable{X:Cx}{pins:List (Addr×Obj)}{σ:St}{H:Hp}{s:Shared}{a:Addr}{xs ys:List V}
theorem SqL.of{K:PySem.W.Frag}(h:H a=some (.lst xs)):SqL K H a xs:=.inl (.inl h)
theorem SqT.of{K:PySem.W.Frag}(h:H a=some (.tup xs)):SqT K H a xs:=.inl (.inl h)
theorem Inv.list(I:Inv X pins σ H s)(h:SqL X.K H a xs):∃ its:List Value,Vals xs its/\PlainL s.heap a its.toArray/\xs.length<=sizeLine:=by
 rcases h with h | ⟨o,its,n,hk,hc,hd,hs,hz,r⟩
 ·obtain⟨z,its,n,r,e⟩:=h.ok I.hok
  exact⟨its,r,⟨_,n,e,rfl,rfl,rfl⟩,z⟩
 ·refine⟨its.toList,r,⟨o,n,I.kIn a o hk,hc,hd,by simpa using hs⟩,?_⟩
  have e:=r.length
  simp only[Array.length_toList] at e
  omega
theorem Inv.tuple(I:Inv X pins σ H s)(h:SqT X.K H a xs):∃ its:List Value,Vals xs its/\IsTup s.heap a its.toArray/\xs.length<=sizeLine:=by
 rcases h with h | ⟨o,its,n,hk,hc,hs,hz,r⟩
 ·obtain⟨z,its,r,p⟩:=h.ok I.hok
  exact⟨its,r,p,z⟩
 ·refine⟨its.toList,r,⟨o,I.kIn a o hk,hc,n,by simpa using hs⟩,?_⟩
  have e:=r.length
  simp only[Array.length_toList] at e
  omega
theorem Inv.list_inj(I:Inv X pins σ H s)(h:SqL X.K H a xs)(h':SqL X.K H a ys):xs=ys:=by
 obtain⟨its,r,⟨o,n,e,_,_,d⟩,_⟩:=I.list h
 obtain⟨its',r',⟨o',n',e',_,_,d'⟩,_⟩:=I.list h'
 rw[e] at e'; cases e'
 rw[d] at d'
 injection d' with d1 _
 have:its=its':=by simpa using congrArg Array.toList d1
 subst this
 exact r.inj r'
theorem Inv.tuple_inj(I:Inv X pins σ H s)(h:SqT X.K H a xs)(h':SqT X.K H a ys):xs=ys:=by
 obtain⟨its,r,⟨o,e,_,n,d⟩,_⟩:=I.tuple h
 obtain⟨its',r',⟨o',e',_,n',d'⟩,_⟩:=I.tuple h'
 rw[e] at e'; cases e'
 rw[d] at d'
 injection d' with d1 _
 have:its=its':=by simpa using congrArg Array.toList d1
 subst this
 exact r.inj r'
end
abbrev Cx.wish(X:Cx)(E:Value->Shared->Prop):Cx:={ X with xe:=E }
abbrev Cx.nox(X:Cx):Cx:=X.wish fun _ _=>False
theorem Cx.Ok.wish{X:Cx}(ok:X.Ok)(E:Value->Shared->Prop):(X.wish E).Ok:=
 ⟨ok.mod,ok.kind,ok.glob,ok.blt,ok.above,ok.inj,ok.has,ok.cab,ok.hd,ok.frames,ok.stk,ok.exf,ok.bs,ok.bsz,ok.noex,ok.exfs,ok.funs,ok.frf⟩
theorem Cx.Ok.unwish{X:Cx}{E:Value->Shared->Prop}(ok:(X.wish E).Ok):X.Ok:=
 ⟨ok.mod,ok.kind,ok.glob,ok.blt,ok.above,ok.inj,ok.has,ok.cab,ok.hd,ok.frames,ok.stk,ok.exf,ok.bs,ok.bsz,ok.noex,ok.exfs,ok.funs,ok.frf⟩
section
variable{X:Cx}{pins:List (Addr×Obj)}{σ:St}{H:Hp}{s:Shared}{E:Value->Shared->Prop}
theorem Inv.wish(I:Inv X pins σ H s)(E:Value->Shared->Prop):Inv (X.wish E) pins σ H s:=⟨I.ok.wish E,I.os,I.bare,I.base,I.loc,I.cell,I.free,I.freeC,I.pin,I.hok,I.len⟩
theorem Inv.unwish(I:Inv (X.wish E) pins σ H s):Inv X pins σ H s:=⟨I.ok.unwish,I.os,I.bare,I.base,I.loc,I.cell,I.free,I.freeC,I.pin,I.hok,I.len⟩
theorem SP.unwish{D:Ends}{f:Flow}{s':Shared}(h:SP (X.wish E) pins D f s'):SP X pins D f s':=by
 cases f with
 | next=>obtain⟨σ',H',I,q⟩:=h; exact⟨σ',H',I.unwish,q⟩
 | brk=>obtain⟨σ',H',I,q⟩:=h; exact⟨σ',H',I.unwish,q⟩
 | cont=>obtain⟨σ',H',I,q⟩:=h; exact⟨σ',H',I.unwish,q⟩
 | ret u=>obtain⟨v,σ',H',I,r,q⟩:=h; exact⟨v,σ',H',I.unwish,r,q⟩
theorem PSs.nox{st:List Stmt}{t:TS}(h:PSs X.nox st t):PSs X st t:=fun pins s σ H D I hw=>
 wpAny_mono (h pins s σ H D (I.wish _) hw) (fun _ _ q=>q.unwish) fun _ _ z=>False.elim z
end
section
variable{X:Cx}{st:Stmt}{rest:List Stmt}{t u:TS}{e:Expr}{te:TE}{pos:Pos}
def Gjj:TS:=fun D σ H=>D.nx σ H
def Gll(t u:TS):TS:=fun D σ H=>t { D with nx:=u D } σ H
theorem Gdc:PSs X [] Gjj:=fun _ _ σ H _ I h=>wpAny_execs_nil ⟨σ,H,I,h⟩
theorem Ga8(h1:PS X st t)(h2:PSs X rest u):PSs X (st::rest) (Gll t u):=by
 intro pins s σ H D I h
 refine wpAny_execs_cons (thn (h1 pins s σ H { D with nx:=u D } I h) fun f s1 q=>?_)
 cases f with
 | next=>
  obtain⟨σ',H',I',q⟩:=q
  exact h2 pins s1 σ' H' D I' q
 | ret v=>exact q
 | brk=>exact q
 | cont=>exact q
theorem Gdd(h1:PS X st t):PSs X [st] t:=by
 intro pins s σ H D I h
 refine wpAny_execs_cons (thn (h1 pins s σ H D I h) fun f s1 q=>?_)
 cases f with
 | next=>exact wpAny_execs_nil q
 | ret v=>exact q
 | brk=>exact q
 | cont=>exact q
theorem Inv.quiet{pins:List (Addr×Obj)}{σ:St}{H:Hp}{s:Shared}(I:Inv X pins σ H s):interactive X.env=false:=by simp[interactive,I.ok.kind]
def Gjk(te:TE):TS:=fun D σ H=>te σ H fun _ H1=>D.nx σ H1
theorem Gde(he:PE X e te)(hs:swapsWith e none pos.line X.env=pure false:=by rfl):PS X (.Expr e pos) (Gjk te):=by
 intro pins s σ H D I h
 exact wpAny_Expr_any (thn (he pins s σ H _ I h) fun v s1 ⟨x,H1,I1,r1,q1⟩=>⟨σ,H1,I1,q1⟩) I.quiet hs
def Glm(te:TE):TS:=fun D σ H=>te σ H D.rt
theorem Gf3(he:PE X e te):PS X (.Return (some e) pos) (Glm te):=by
 intro pins s σ H D I h
 exact wpAny_Return_some (thn (he pins s σ H _ I h) fun v s1 ⟨x,H1,I1,r1,q1⟩=>⟨x,σ,H1,I1,r1,q1⟩)
def Gln(c:TT)(t u:TS):TS:=fun D σ H=>c σ H fun b H1=>if b=true then t D σ H1 else u D σ H1
theorem Gjl{c:Expr}{a b:List Stmt}{tc:TT}(hc:PT X c tc)(ha:PSs X a t)(hb:PSs X b u):PS X (.If c a b pos) (Gln tc t u):=by
 intro pins s σ H D I h
 refine wpAny_If (thn (hc pins s σ H _ I h) fun d s1 ⟨H1,I1,q1⟩=>?_)
 cases d with
 | true=>exact ha pins s1 σ H1 D I1 q1
 | false=>exact hb pins s1 σ H1 D I1 q1
end
abbrev TG:=V->St->Hp->(St->Hp->Prop)->Prop
abbrev TGs:=List V->St->Hp->(St->Hp->Prop)->Prop
def PG(X:Cx)(target:Expr)(t:TG):Prop:=
 ∀ (pins:List (Addr×Obj)) (s:Shared) (σ:St) (H:Hp) (v:V) (u:Value) (Q:St->Hp->Prop),Inv X pins σ H s->Go v u->t v σ H Q→
  wpAny (model X.prog X.w) X.A (assign target X.env u) (fun _ s'=>∃ σ' H',Inv X pins σ' H' s'/\Q σ' H') X.xe s
def PGs(X:Cx)(ts:List Expr)(t:TGs):Prop:=
 ∀ (pins:List (Addr×Obj)) (s:Shared) (σ:St) (H:Hp) (vs:List V) (us:List Value) (Q:St->Hp->Prop),Inv X pins σ H s->Vals vs us->t vs σ H Q→
  wpAny (model X.prog X.w) X.A (assignInOrder ((assignEach ts X.env).map (·.2)) us) (fun _ s'=>∃ σ' H',Inv X pins σ' H' s'/\Q σ' H') X.xe s
abbrev Ga9:=V->V->V->Hp->(Hp->Prop)->Prop
def Gf4(X:Cx)(t:Ga9):Prop:=
 ∀ (pins:List (Addr×Obj)) (s:Shared) (σ:St) (H:Hp) (o i v:V) (ov iv u:Value) (Q:Hp->Prop),Inv X pins σ H s->Go o ov->Go i iv->Go v u->t o i v H Q→
  wpAny (model X.prog X.w) X.A (setItem ov iv u) (fun _ s'=>∃ H',Inv X pins σ H' s'/\Q H') X.xe s
section
variable{X:Cx}{pos:Pos}
def gName(i:Nat):TG:=fun v σ H Q=>Q (σ.set i (some v)) H
theorem Gdf{i:Nat}{x:Str}(hN:X.N.Nodup)(hi:X.N[i]?=some x)(hx:Loc X.env.scope x)(hf:X.fn x=true\/X.env.scope.names.lookup x=some .local:=by first | exact .inl rfl | exact .inr rfl | assumption):PG X (.Name x pos) (gName i):=by
 intro pins s σ H v u Q I r h
 exact wpAny_assign_Name (Xg I hN hi hx r (fun s' I'=>⟨_,H,I',h⟩) hf)
def Glo:TGs:=fun vs σ H Q=>vs=[]/\Q σ H
def Gjm(t:TG)(u:TGs):TGs:=fun vs σ H Q=>∃ v r,vs=v::r/\t v σ H fun σ' H'=>u r σ' H' Q
theorem Gdg:PGs X [] Glo:=by
 intro pins s σ H vs us Q I r h
 obtain⟨e,h⟩:=h
 subst e
 cases r
 exact assignInOrder_nil ⟨σ,H,I,h⟩
theorem Gba{e:Expr}{es:List Expr}{t:TG}{u:TGs}(h1:PG X e t)(h2:PGs X es u)
  (hs:(assignEach (e::es) X.env).map (·.2)=assign e X.env::(assignEach es X.env).map (·.2):=by rfl):PGs X (e::es) (Gjm t u):=by
 intro pins s σ H vs us Q I r h
 obtain⟨v,vr,e1,h⟩:=h
 subst e1
 cases r with
 | cons r rr=>
  rw[hs]
  refine assignInOrder_cons (thn (h1 pins s σ H _ _ _ I r h) fun _ s1 ⟨σ1,H1,I1,q1⟩=>?_)
  exact h2 pins s1 σ1 H1 _ _ Q I1 rr q1
def Glp(K:PySem.W.Frag)(n:Nat)(t:TGs):TG:=fun v σ H Q=>∃ a xs,v=.ref a/\SqT K H a xs/\xs.length=n/\t xs σ H Q
theorem Gf5{es:List Expr}{k:Nat}{t:TGs}{n:Nat}(hc:X.calm=true)(h:PGs X es t)
  (hn:(assignEach es X.env).length=n:=by rfl) (hst:(assignEach es X.env).findIdx? (·.1)=none:=by rfl):PG X (.Tuple es k pos) (Glp X.K n t):=by
 intro pins s σ H v u Q I r hw
 obtain⟨a,xs,e1,hq,hl,hw⟩:=hw
 subst e1
 cases r
 obtain⟨its,rv,ht,hz⟩:=I.tuple hq
 refine assign_Tuple_tuple (I.ok.hd hc) ht (by simp[hn,<- hl,rv.length]) hst fun h' hx=>?_
 have I1:Inv X pins σ H { s with heap:=h' }:=I.kept (t':=s.toks) fun b o e=>hx b o (Nat.ne_of_lt (Heap.lt_size e)) e
 exact h pins _ σ H xs _ Q I1 (by simpa using rv) hw
def Glq(to ti:TE)(t:Ga9):TG:=fun v σ H Q=>to σ H fun o H1=>ti σ H1 fun i H2=>t o i v H2 fun H3=>Q σ H3
theorem Gf6{o i:Expr}{to ti:TE}{t:Ga9}(ho:PE X o to)(hi:PE X i ti)(hs:Gf4 X t)
  (ha:∀ v,assign (.Subscript o i pos) X.env v=(do
   let ov <- holding [v] (eval o X.env)
   let iv <- holding [v,ov] (eval i X.env)
   standAt pos
   holding [v,ov,iv] (setItem ov iv v)
   release [v,ov,iv] []):=by intro _; rfl):PG X (.Subscript o i pos) (Glq to ti t):=by
 intro pins s σ H v u Q I r h
 rw[ha]
 refine wpAny_bind (wpAny_holding (thn (ho pins s σ H _ I h) fun ov s1 ⟨x,H1,I1,r1,q1⟩=>?_))
 refine wpAny_bind (wpAny_holding (thn (hi pins s1 σ H1 _ I1 q1) fun iv s2 ⟨y,H2,I2,r2,q2⟩=>?_))
 refine wpAny_bind (wpAny_standAt (wpAny_bind (wpAny_holding (thn (hs pins s2 σ H2 x y v ov iv u _ I2 r1 r2 r q2) fun _ s3 ⟨H3,I3,q3⟩=>?_))))
 exact wpAny_release ⟨σ,H3,I3,q3⟩
def Gdh(te:TE)(g:TG):TS:=fun D σ H=>te σ H fun x H1=>g x σ H1 D.nx
theorem Gbb{tg e:Expr}{te:TE}{g:TG}(he:PE X e te)(hg:PG X tg g)(hs:swapsWithSole [tg] e pos.line X.env=pure false:=by rfl)(hw:swappedStores [tg] e X.env=pure none:=by rfl)
  (h1:(assignEach [tg] X.env).map (·.2)=[assign tg X.env]:=by rfl):PS X (.Assign [tg] e pos) (Gdh te g):=by
 intro pins s σ H D I h
 refine wpAny_Assign_stores (thn (he pins s σ H _ I h) fun v s1 ⟨x,H1,I1,r1,q1⟩=>?_) hs hw
 rw[h1]
 exact thn (hg pins s1 σ H1 x v _ I1 r1 q1) fun _ s2 q=>q
theorem Gf7{i:Nat}{x:Str}{e:Expr}{te:TE}{pos':Pos}(hN:X.N.Nodup)(hi:X.N[i]?=some x)(hx:Loc X.env.scope x)(he:PE X e te)(hs:swapsWith e (some (.Name x pos')) pos.line X.env=pure false:=by rfl)(hf:X.fn x=true\/X.env.scope.names.lookup x=some .local:=by first | exact .inl rfl | exact .inr rfl | assumption):
  PS X (.Assign [.Name x pos'] e pos) (Gdh te (gName i)):=by
 intro pins s σ H D I h
 refine wpAny_Assign_Name (thn (he pins s σ H _ I h) fun v s1 ⟨y,H1,I1,r1,q1⟩=>?_) hs
 exact Xg I1 hN hi hx r1 (fun s2 I2=>⟨_,H1,I2,q1⟩) hf
end
section
variable{X:Cx}{pos:Pos}
def Gf8(c:TT)(tb:TS):TS:=fun D σ H=>∃ W:Nat->St->Hp->Prop,(∃ m,W m σ H)/\∀ m σ H,W m σ H→
 c σ H fun b H1=>if b=true then ∃ N:St->Hp->Prop,(∀ σ' H',N σ' H'->∃ m',m'<m/\W m' σ' H')/\tb { D with nx:=N,ct:=N,bk:=D.nx } σ H1 else D.nx σ H1
theorem Gbc{c:Expr}{body:List Stmt}{tc:TT}{tb:TS}(hp:PassesOwn (model X.prog X.w) X.A X.env X.xe)(hc:PT X c tc)(hb:PSs X body tb):PS X (.While c body [] pos) (Gf8 tc tb):=by
 intro pins s σ H D I h
 obtain⟨W,⟨m0,w0⟩,turn⟩:=h
 refine wpAny_While (codeAny_whileLoop (fun n s'=>∃ σ' H',Inv X pins σ' H' s'/\W n σ' H') ?_ m0 ⟨σ,H,I,w0⟩)
 rintro n s1 ⟨σ1,H1,I1,w1⟩
 refine wpAny_passesOwn hp (thn (hc pins s1 σ1 H1 _ I1 (turn n σ1 H1 w1)) fun b s2 ⟨H2,I2,q2⟩=>?_)
 cases b with
 | true=>
  obtain⟨N,hN,q2⟩:=q2
  rw[if_pos rfl]
  refine wpAny_passesOwn hp (thn (hb pins s2 σ1 H2 _ I2 q2) fun f s3 q3=>?_)
  cases f with
  | next=>
   obtain⟨σ3,H3,I3,n3⟩:=q3
   obtain⟨m',hm,w3⟩:=hN σ3 H3 n3
   exact⟨m',hm,σ3,H3,I3,w3⟩
  | cont=>
   obtain⟨σ3,H3,I3,n3⟩:=q3
   obtain⟨m',hm,w3⟩:=hN σ3 H3 n3
   exact⟨m',hm,σ3,H3,I3,w3⟩
  | brk=>exact q3
  | ret v=>exact q3
 | false=>
  rw[if_neg Bool.false_ne_true]
  exact wpAny_execs_nil ⟨σ1,H2,I2,q2⟩
end
structure It where
 go:Nat->Hp->Prop
 yld:Nat->Hp->V->Hp->Prop
 stop:Nat->Hp->Prop
def Qc(X:Cx)(pins:List (Addr×Obj))(H:Hp)(b:Addr):Prop:=
 H b=none/\b≠X.env.locals/\b∉X.fs/\(b∈X.ex\/X.s₀.heap.objs.size<=b)/\(∀ x c,X.env.cells.lookup x=some c->c≠b)/\∀ p∈X.pn++pins,p.1≠b
theorem Inv.fpOk{X:Cx}{pins:List (Addr×Obj)}{σ:St}{H H':Hp}{s:Shared}{b:Addr}(I:Inv X pins σ H s)(hb:s.heap.objs.size<=b)(hn:H' b=none):Qc X pins H' b:=by
 refine⟨hn,Nat.ne_of_gt (Nat.lt_of_lt_of_le I.lt hb),I.nofs hb,.inr (Nat.le_trans I.sz hb),fun x c e z=>?_,fun p hp z=>?_⟩
 ·obtain⟨v,q⟩:=I.cell x c e
  exact absurd (Nat.lt_of_lt_of_le q.lt (by rw[z]; exact hb)) (Nat.lt_irrefl _)
 ·exact absurd (Nat.lt_of_lt_of_le (Heap.lt_size (I.pin p hp).1) (by rw[z]; exact hb)) (Nat.lt_irrefl _)
structure Turn(P:Program)(w:World)(K:PySem.W.Frag)(tg:Expr)(J:It)(fp:List Addr)(it:Addr)(tn:Nat->Heap->Prop):Prop where
 mem:it∈fp
 obj:∀ i h,tn i h->∀ b∈fp,∃ o,h.get? b=some o/\∀ v,o.data≠.cell v
 keep:∀ i h h',tn i h->(∀ b∈fp,∀ o,h.get? b=some o->h'.get? b=some o)->tn i h'
 item:∀ (X:Cx),X.prog=P->X.w=w->X.K=K->X.calm=true->∀ (i:Nat) (pins:List (Addr×Obj)) (s:Shared) (σ:St) (H:Hp) (E:Value->Shared->Prop),Inv X pins σ H s->(∀ b∈fp,Qc X pins H b)->tn i s.heap->J.go i H→
  wpAny (model P w) X.A (pyNext (.ref it)) (fun r s1=>∃ u,r=some u∧
   wpAny (model P w) X.A (letOwnedTupleGo tg (.ref it) u) (fun _ s2=>∃ x H',Inv X pins σ H' s2/\Go x u/\J.yld i H x H'/\tn (i+1) s2.heap/\∀ b∈fp,H' b=none) E s1) E s
 done:∀ (X:Cx),X.prog=P->X.w=w->X.K=K->X.calm=true->∀ (i:Nat) (pins:List (Addr×Obj)) (s:Shared) (σ:St) (H:Hp) (E:Value->Shared->Prop),Inv X pins σ H s->(∀ b∈fp,Qc X pins H b)->tn i s.heap->J.stop i H→
  wpAny (model P w) X.A (pyNext (.ref it)) (fun r s1=>r=none/\Inv X pins σ H s1) E s
 self:∀ (A:Around) (i:Nat) (s:Shared) (Q:Value->Shared->Prop) (E:Value->Shared->Prop),tn i s.heap->Q (.ref it) s->wpAny (model P w) A (pyIter (.ref it)) Q E s
abbrev TI:=St->Hp->(It->Hp->Prop)->Prop
def PIE(X:Cx)(pins:List (Addr×Obj))(σ:St)(tg:Expr)(R:It->Hp->Prop)(itv:Value)(s2:Shared):Prop:=
 ∃ (it:Addr) (fp:List Addr) (tn:Nat->Heap->Prop) (J:It) (H':Hp),itv=.ref it/\Inv X pins σ H' s2/\Turn X.prog X.w X.K tg J fp it tn/\tn 0 s2.heap/\(∀ b∈fp,Qc X pins H' b)/\R J H'
def PI(X:Cx)(tg iter:Expr)(wi:TI):Prop:=
 ∀ (pins:List (Addr×Obj)) (s:Shared) (σ:St) (H:Hp) (R:It->Hp->Prop),Inv X pins σ H s->wi σ H R→
  wpAny (model X.prog X.w) X.A (eval iter X.env) (fun v s1=>wpAny (model X.prog X.w) X.A (pyIter v) (PIE X pins σ tg R) X.xe s1) X.xe s
theorem Gbd{M:Model}{A:Around}{E:Value->Shared->Prop}{s:Shared}{tg:Expr}{it:Addr}{u:Value}{o:Obj}{n:String}{vs:Array Value}{Q:Unit->Shared->Prop}(ho:s.heap.get? it=some o)(hc:o.cls=.type n)(hd:o.data=.fields vs)
  (hn:["enumerate","zip","dict_itemiterator","dict_reverseitemiterator","odict_iterator","itertools.zip_longest","itertools.pairwise"].contains n=false) (hQ:Q () s):wpAny M A (letOwnedTupleGo tg (.ref it) u) Q E s:=by
 unfold letOwnedTupleGo
 cases tg<;>first
  | exact wpAny_pure hQ
  | (cases u<;>first
    | exact wpAny_pure hQ
    | (refine wpAny_bind (wpAny_load ho ?_)
       rw[hc,hd]
       show wpAny M A (if(["enumerate","zip","dict_itemiterator","dict_reverseitemiterator","odict_iterator","itertools.zip_longest","itertools.pairwise"].contains n&&vs[0]?==some (rawInt _))=true then _ else _) Q E s
       rw[if_neg (by intro h; rw[hn,Bool.false_and] at h; cases h)]
       exact wpAny_pure hQ))
def Itl(K:PySem.W.Frag)(a:Addr):It:=
 ⟨fun i H=>∃ xs x,SqL K H a xs/\xs[i]?=some x,fun i H x H'=>H'=H/\∀ xs,SqL K H a xs->xs[i]?=some x,fun i H=>∃ xs,SqL K H a xs/\xs.length<=i⟩
def Itt(K:PySem.W.Frag)(a:Addr):It:=
 ⟨fun i H=>∃ xs x,SqT K H a xs/\xs[i]?=some x,fun i H x H'=>H'=H/\∀ xs,SqT K H a xs->xs[i]?=some x,fun i H=>∃ xs,SqT K H a xs/\xs.length<=i⟩
def Itr(lo:Int)(n:Nat):It:=⟨fun i _=>i<n,fun i H x H'=>H'=H/\x=.int (lo+i),fun i _=>n<=i⟩
theorem turn_list{P:Program}{w:World}{K:PySem.W.Frag}{tg:Expr}(a it:Addr):Turn P w K tg (Itl K a) [it] it (fun i h=>h.IsListIter it a i) where
 mem:=by simp
 obj:=fun i h st b hb=>by
  have e:b=it:=by simpa using hb
  subst e
  obtain⟨o,e,c,d⟩:=st
  exact⟨o,e,fun v z=>by rw[d] at z; cases z⟩
 keep:=fun i h h' st k=>st.at fun o e=>k it (by simp) o e
 item:=by
  intro X hP hw hK hc i pins s σ H E I hf st hg
  subst hP hw hK
  obtain⟨xs,x,hq,hx⟩:=hg
  obtain⟨its,rv,p,hz⟩:=I.list hq
  obtain⟨u,hu,ru⟩:=rv.get hx
  obtain⟨f0,f1,f2,f3,f4,f5⟩:=hf it (by simp)
  refine wpAny_pyNext_list_item st p.isList (x:=u) (by simpa using hu) fun h' st' sb=>?_
  have I1:Inv X pins σ H { s with heap:=h' }:=I.turned (t':=s.toks) (fun b o hb e=>(sb.2 b hb).trans e) f0 f1 f3 f4 f5
  obtain⟨o,e,c,d⟩:=id st'
  exact⟨u,rfl,Gbd (s:={ s with heap:=h' }) e c d (by decide) ⟨x,H,I1,ru,⟨rfl,fun ys hy=>by rw[I.list_inj hy hq]; exact hx⟩,st',fun b hb=>(hf b hb).1⟩⟩
 done:=by
  intro X hP hw hK hc i pins s σ H E I hf st hg
  subst hP hw hK
  obtain⟨xs,hq,hx⟩:=hg
  obtain⟨its,rv,p,hz⟩:=I.list hq
  obtain⟨f0,f1,f2,f3,f4,f5⟩:=hf it (by simp)
  have hl:=rv.length
  exact wpAny_pyNext_list_end (I.ok.hd hc) st p.isList (by simp; omega) fun h' eb=>⟨rfl,I.turned (t':=s.toks) (fun b o hb e=>eb b o hb e) f0 f1 f3 f4 f5⟩
 self:=fun _ _ _ _ _ st h=>wpAny_pyIter_listiter st h
theorem turn_tuple{P:Program}{w:World}{K:PySem.W.Frag}{tg:Expr}(a it:Addr):Turn P w K tg (Itt K a) [it] it (fun i h=>h.IsTupleIter it a i) where
 mem:=by simp
 obj:=fun i h st b hb=>by
  have e:b=it:=by simpa using hb
  subst e
  obtain⟨o,e,c,d⟩:=st
  exact⟨o,e,fun v z=>by rw[d] at z; cases z⟩
 keep:=fun i h h' st k=>st.at fun o e=>k it (by simp) o e
 item:=by
  intro X hP hw hK hc i pins s σ H E I hf st hg
  subst hP hw hK
  obtain⟨xs,x,hq,hx⟩:=hg
  obtain⟨its,rv,p,hz⟩:=I.tuple hq
  obtain⟨u,hu,ru⟩:=rv.get hx
  obtain⟨f0,f1,f2,f3,f4,f5⟩:=hf it (by simp)
  refine wpAny_pyNext_tuple_item st (show s.heap.IsTuple a its.toArray from p) (x:=u) (by simpa using hu) fun h' st' sb=>?_
  have I1:Inv X pins σ H { s with heap:=h' }:=I.turned (t':=s.toks) (fun b o hb e=>(sb.2 b hb).trans e) f0 f1 f3 f4 f5
  obtain⟨o,e,c,d⟩:=id st'
  exact⟨u,rfl,Gbd (s:={ s with heap:=h' }) e c d (by decide) ⟨x,H,I1,ru,⟨rfl,fun ys hy=>by rw[I.tuple_inj hy hq]; exact hx⟩,st',fun b hb=>(hf b hb).1⟩⟩
 done:=by
  intro X hP hw hK hc i pins s σ H E I hf st hg
  subst hP hw hK
  obtain⟨xs,hq,hx⟩:=hg
  obtain⟨its,rv,p,hz⟩:=I.tuple hq
  obtain⟨f0,f1,f2,f3,f4,f5⟩:=hf it (by simp)
  have hl:=rv.length
  exact wpAny_pyNext_tuple_end (I.ok.hd hc) st (show s.heap.IsTuple a its.toArray from p) (by simp; omega) fun h' eb=>⟨rfl,I.turned (t':=s.toks) (fun b o hb e=>eb b o hb e) f0 f1 f3 f4 f5⟩
 self:=fun _ _ _ _ _ st h=>wpAny_pyIter_tupleiter st h
theorem turn_range{P:Program}{w:World}{K:PySem.W.Frag}{tg:Expr}(it:Addr)(lo:Int)(n:Nat):Turn P w K tg (Itr lo n) [it] it (fun i h=>IsRangeIter h it (lo+(i:Nat)*1) ((n:Int)-(i:Nat)) 1) where
 mem:=by simp
 obj:=fun i h st b hb=>by
  have e:b=it:=by simpa using hb
  subst e
  exact⟨_,st,fun v z=>by
   have z':Data.fields _=Data.cell v:=z
   cases z'⟩
 keep:=fun i h h' st k=>k it (by simp) _ st
 item:=by
  intro X hP hw hK hc i pins s σ H E I hf st hg
  subst hP hw hK
  obtain⟨f0,f1,f2,f3,f4,f5⟩:=hf it (by simp)
  have W:=Walks.range (prog:=X.prog) (w:=X.w) (I.ok.hd hc) it lo 1 n
  refine W.item i s _ _ hg st fun v h' tk hv st' kk=>?_
  obtain⟨t,rfl⟩:=hv
  have I1:Inv X pins σ H { s with heap:=h',toks:=tk }:=I.turned (fun b o hb e=>kk b o (by simpa using hb) e) f0 f1 f3 f4 f5
  refine⟨_,rfl,Gbd (s:={ s with heap:=h',toks:=tk }) (n:="range_iterator") st' rfl rfl (by decide) ⟨.int (lo+i),H,I1,⟨t,?_⟩,⟨rfl,rfl⟩,st',fun b hb=>(hf b hb).1⟩⟩
  rw[Int.mul_one]
 done:=by
  intro X hP hw hK hc i pins s σ H E I hf st hg
  subst hP hw hK
  obtain⟨f0,f1,f2,f3,f4,f5⟩:=hf it (by simp)
  exact wpAny_pyNext_range_end (I.ok.hd hc) st (by have:n<=i:=hg; omega) fun h' eb=>⟨rfl,I.turned (t':=s.toks) (fun b o hb e=>eb b o hb e) f0 f1 f3 f4 f5⟩
 self:=fun _ _ _ _ _ st h=>wpAny_pyIter_rangeiter st h
section
variable{X:Cx}{tg:Expr}
theorem Xh{pins:List (Addr×Obj)}{σ:St}{H:Hp}{s:Shared}{R:It->Hp->Prop}{E:Value->Shared->Prop}{lo hi:Int}{t u v:Tok}{tk:Nat}(I:Inv X pins σ H s)(h1 : -(2^62)<=lo)(h2:lo<2^62)(h3 : -(2^62)<=hi)(h4:hi<2^62)
  (q:R (Itr lo (hi-lo).toNat) H):wpAny (model X.prog X.w) X.A (pyIter (.ref s.heap.objs.size)) (PIE X pins σ tg R) E { s with heap:=s.heap.push { cls:=.type "range",data:=.fields #[.int lo t,.int hi u,.int 1 v] },toks:=tk }:=by
 refine wpAny_pyIter_range (IsRange.new ..) (small_one h1 h2 h3 h4) ?_
 have I1:Inv X pins σ H { s with heap:=s.heap.push { cls:=.type "range",data:=.fields #[.int lo t,.int hi u,.int 1 v] },toks:=tk }:=I.kept fun b o e=>Heap.get?_push_of_some _ e
 refine⟨(s.heap.push { cls:=.type "range",data:=.fields #[.int lo t,.int hi u,.int 1 v] }).objs.size,[(s.heap.push { cls:=.type "range",data:=.fields #[.int lo t,.int hi u,.int 1 v] }).objs.size],_,_,H,rfl,
  I1.kept (t':=tk) fun b o e=>Heap.get?_push_of_some _ e,turn_range _ lo (hi-lo).toNat,?_,fun b hb=>?_,q⟩
 ·have e1:lo+((0:Nat):Int)*1=lo:=by simp
  have e2:(((hi-lo).toNat:Nat):Int)-((0:Nat):Int)=Builtin.Range.rangeSize lo hi 1:=by rw[rangeSize_one]; split<;>omega
  show IsRangeIter _ _ (lo+((0:Nat):Int)*1) ((((hi-lo).toNat:Nat):Int)-((0:Nat):Int)) 1
  rw[e1,e2]
  exact Heap.get?_push_size _ rfl
 ·have e:b=(s.heap.push { cls:=.type "range",data:=.fields #[.int lo t,.int hi u,.int 1 v] }).objs.size:=by simpa using hb
  subst e
  exact I1.fpOk (Nat.le_refl _) (I1.hok.fresh (Nat.le_refl _))
def Gjn(ta:TA):TI:=fun σ H R=>ta σ H fun vs H1=>∃ j:Int,vs=[.int j] /\ -(2^62)<=j/\j<2^62/\R (Itr 0 j.toNat) H1
def Gjo(ta:TA):TI:=fun σ H R=>ta σ H fun vs H1=>∃ i j:Int,vs=[.int i,.int j]/\(-(2^62)<=i/\i<2^62 /\ -(2^62)<=j/\j<2^62)/\R (Itr i (j-i).toNat) H1
theorem Gah{a:Expr}{ta:TA}{p pos:Pos}(hg:Gl X "range")(hm:X.mg "range"=none)(ha:PA X [a] ta)(hs:starEach [a] X.env=[(false,eval a X.env)]:=by rfl):PI X tg (.Call (.Name "range" p) [a] [] pos) (Gjn ta):=by
 intro pins s σ H R I h
 refine Call_ (Qo I hg hm boot_range (PyProof.Rows.callWith_type1 (thn (ha pos pins s σ H _ I h) fun us s1 ⟨vs,H1,I1,r1,q1⟩=>?_) hs rfl))
 obtain⟨j,e,q1,q2,q⟩:=q1
 subst e
 cases r1 with
 | cons r rr=>
  cases rr
  obtain⟨t,rfl⟩:=r
  exact call_range_1 (Xh I1 (by omega) (by omega) q1 q2 (by simpa using q))
theorem Gai{a b:Expr}{ta:TA}{p pos:Pos}(hg:Gl X "range")(hm:X.mg "range"=none)(ha:PA X [a,b] ta)(hs:starEach [a,b] X.env=[(false,eval a X.env),(false,eval b X.env)]:=by rfl)(hs2:starEach [b] X.env=[(false,eval b X.env)]:=by rfl):
  PI X tg (.Call (.Name "range" p) [a,b] [] pos) (Gjo ta):=by
 intro pins s σ H R I h
 refine Call_ (Qo I hg hm boot_range (PyProof.Rows.callWith_type1 (thn (ha pos pins s σ H _ I h) fun us s1 ⟨vs,H1,I1,r1,q1⟩=>?_) (by rw[hs,hs2]) (by rw[hs2]; rfl)))
 obtain⟨i,j,e,⟨q1,q2,q3,q4⟩,q⟩:=q1
 subst e
 cases r1 with
 | cons r rr=>
  cases rr with
  | cons r' rr=>
   cases rr
   obtain⟨t,rfl⟩:=r
   obtain⟨t',rfl⟩:=r'
   exact call_range_2 (Xh I1 q1 q2 q3 q4 q)
def Glr(wi:TI)(g:TG)(tb:TS):TS:=fun D σ H=>wi σ H fun J H1=>∃ W:Nat->Nat->St->Hp->Prop,(∃ m,W 0 m σ H1)/\∀ i m σ H,W i m σ H→
 (J.stop i H/\D.nx σ H)\/(J.go i H/\∃ N:St->Hp->Prop,(∀ σ' H',N σ' H'->∃ m',m'<m/\W (i+1) m' σ' H')/\∀ x H',J.yld i H x H'->g x σ H' fun σ2 H2=>tb { D with nx:=N,ct:=N,bk:=D.nx } σ2 H2)
def Qp(fp:List Addr)(h:Heap):List (Addr×Obj):=fp.filterMap fun b=>(h.get? b).map fun o=>(b,o)
theorem Hw{fp:List Addr}{h:Heap}{b:Addr}{o:Obj}(hb:b∈fp)(e:h.get? b=some o):(b,o)∈Qp fp h:=List.mem_filterMap.mpr ⟨b,hb,by rw[e]; rfl⟩
theorem Gaj{fp:List Addr}{h:Heap}{p:Addr×Obj}(hp:p∈Qp fp h):p.1∈fp/\h.get? p.1=some p.2:=by
 obtain⟨b,hb,e⟩:=List.mem_filterMap.mp hp
 cases q:h.get? b with
 | none=>rw[q] at e; cases e
 | some o=>
  rw[q] at e
  have e':(b,o)=p:=Option.some.inj e
  subst e'
  exact⟨hb,q⟩
theorem Inv.pinned{pins:List (Addr×Obj)}{σ:St}{H:Hp}{s:Shared}{fp:List Addr}(I:Inv X pins σ H s)(hf:∀ b∈fp,Qc X pins H b)(ho:∀ b∈fp,∃ o,s.heap.get? b=some o/\∀ v,o.data≠.cell v):Inv X (pins++Qp fp s.heap) σ H s:=
 I.pins_of fun p hp=>(List.mem_append.mp hp).elim (fun z=>I.pin p (List.mem_append_right _ z)) fun z=>by
  obtain⟨hb,e⟩:=Gaj z
  obtain⟨f0,f1,f2,_⟩:=hf p.1 hb
  obtain⟨o,e',d⟩:=ho p.1 hb
  rw[e] at e'; cases e'
  exact⟨e,f0,f1,f2,d⟩
theorem Inv.unpinned{pins pl:List (Addr×Obj)}{σ:St}{H:Hp}{s:Shared}(I:Inv X (pins++pl) σ H s):Inv X pins σ H s:=I.pins_of fun p hp=>I.pin p (List.mem_append_right _ (List.mem_append_left _ hp))
theorem Gf9{iter:Expr}{body:List Stmt}{wi:TI}{g:TG}{tb:TS}{pos:Pos}(hp:PassesOwn (model X.prog X.w) X.A X.env X.xe)(hc:X.calm=true)(hi:PI X tg iter wi)(hg:PG X tg g)(hb:PSs X body tb)
  (hs:∀ x,foldedSetIterable iter X.env x=pure x:=by intro _; rfl):PS X (.For tg iter body [] pos) (Glr wi g tb):=by
 intro pins s σ H D I h
 refine wpAny_For (thn (hi pins s σ H _ I h) fun v s1 h1=>thn h1 fun itv s2 h2=>?_) hs
 obtain⟨it,fp,tn,J,H2,e,I2,T,st2,f2,W,⟨m0,w0⟩,turn⟩:=h2
 subst e
 have stat:∀ {H':Hp},(∀ b∈fp,H' b=none)->∀ b∈fp,Qc X pins H' b:=fun hn b hb=>⟨hn b hb,(f2 b hb).2⟩
 refine codeAny_forLoop_any (fun n s'=>∃ i σ' H',Inv X pins σ' H' s'/\tn i s'.heap/\(∀ b∈fp,H' b=none)/\W i n σ' H') ?_ m0 ⟨0,σ,H2,I2,st2,fun b hb=>(f2 b hb).1,w0⟩
 rintro n s3 ⟨i,σ3,H3,I3,st3,fr3,w3⟩
 rcases turn i n σ3 H3 w3 with⟨stop,qn⟩ | ⟨go,N,hN,step⟩
 ·refine wpAny_passesOwn hp (thn (T.done X rfl rfl rfl hc i pins s3 σ3 H3 X.xe I3 (stat fr3) st3 stop) fun r s4 ⟨hr,I4⟩=>?_)
  subst hr
  exact wpAny_execs_nil ⟨σ3,H3,I4,qn⟩
 ·refine wpAny_passesOwn hp (thn (T.item X rfl rfl rfl hc i pins s3 σ3 H3 X.xe I3 (stat fr3) st3 go) fun r s4 ⟨u,hr,h4⟩=>?_)
  subst hr
  refine wpAny_passesOwn hp (thn h4 fun _ s5 ⟨x,H5,I5,r5,y5,st5,fr5⟩=>?_)
  have I5':=I5.pinned (stat fr5) (T.obj _ _ st5)
  refine wpAny_passesOwn hp (thn (hg _ s5 σ3 H5 x u _ I5' r5 (step x H5 y5)) fun _ s6 ⟨σ6,H6,I6,q6⟩=>?_)
  refine wpAny_passesOwn hp (thn (hb _ s6 σ6 H6 _ I6 q6) fun f s7 q7=>?_)
  have again:∀ {σ7:St} {H7:Hp},Inv X (pins++Qp fp s5.heap) σ7 H7 s7->N σ7 H7->∃ m,m<n/\∃ i σ' H',Inv X pins σ' H' s7/\tn i s7.heap/\(∀ b∈fp,H' b=none)/\W i m σ' H':=fun{σ7 H7} I7 n7=>by
   obtain⟨m',hm,w7⟩:=hN σ7 H7 n7
   refine⟨m',hm,i+1,σ7,H7,I7.unpinned,T.keep _ _ _ st5 fun b hb o e=>(I7.pin (b,o) (List.mem_append_right _ (List.mem_append_right _ (Hw hb e)))).1,fun b hb=>?_,w7⟩
   obtain⟨o,e,d⟩:=T.obj _ _ st5 b hb
   exact(I7.pin (b,o) (List.mem_append_right _ (List.mem_append_right _ (Hw hb e)))).2.1
  cases f with
  | next=>obtain⟨σ7,H7,I7,n7⟩:=q7; exact again I7 n7
  | cont=>obtain⟨σ7,H7,I7,n7⟩:=q7; exact again I7 n7
  | brk=>obtain⟨σ7,H7,I7,q7⟩:=q7; exact⟨σ7,H7,I7.unpinned,q7⟩
  | ret v=>obtain⟨x7,σ7,H7,I7,r7,q7⟩:=q7; exact⟨x7,σ7,H7,I7.unpinned,r7,q7⟩
end
abbrev R2:=V->V->Hp->VK->Prop
def OpR(X:Cx)(f:Value->Value->Sem Value)(r:R2):Prop:=
 ∀ (pins:List (Addr×Obj)) (s:Shared) (σ:St) (H:Hp) (x y:V) (v u:Value) (Q:VK),Inv X pins σ H s->Go x v->Go y u->r x y H Q→
  wpAny (model X.prog X.w) X.A (f v u) (EP X pins σ Q) X.xe s
def UnR(X:Cx)(f:Value->Sem Value)(r:V->Hp->VK->Prop):Prop:=
 ∀ (pins:List (Addr×Obj)) (s:Shared) (σ:St) (H:Hp) (x:V) (v:Value) (Q:VK),Inv X pins σ H s->Go x v->r x H Q→
  wpAny (model X.prog X.w) X.A (f v) (EP X pins σ Q) X.xe s
def Ko(X:Cx)(f:Value)(r:List V->Hp->VK->Prop):Prop:=
 ∀ (pins:List (Addr×Obj)) (s:Shared) (σ:St) (H:Hp) (xs:List V) (us:List Value) (Q:VK),Inv X pins σ H s->Vals xs us->r xs H Q→
  wpAny (model X.prog X.w) X.A (call f us) (EP X pins σ Q) X.xe s
def Gls(X:Cx)(r:V->Hp->(Bool->Hp->Prop)->Prop):Prop:=
 ∀ (pins:List (Addr×Obj)) (s:Shared) (σ:St) (H:Hp) (x:V) (v:Value) (Q:Bool->Hp->Prop),Inv X pins σ H s->Go x v->r x H Q→
  wpAny (model X.prog X.w) X.A (truthy v) (TP X pins σ Q) X.xe s
def tOp(r:R2)(ta tb:TE):TE:=fun σ H Q=>ta σ H fun x H1=>tb σ H1 fun y H2=>r x y H2 Q
def tUn(r:V->Hp->VK->Prop)(ta:TE):TE:=fun σ H Q=>ta σ H fun x H1=>r x H1 Q
def rI(C:Int->Int->Prop)(g:Int->Int->V):R2:=fun x y H Q=>∃ i j,x=.int i/\y=.int j/\C i j/\Q (g i j) H
def rI0(g:Int->Int->V):R2:=fun x y H Q=>∃ i j,x=.int i/\y=.int j/\Q (g i j) H
def rU(g:Int->V):V->Hp->VK->Prop:=fun x H Q=>∃ i,x=.int i/\Q (g i) H
section
variable{X:Cx}{a b c:Expr}{ta tb tc:TE}{pos:Pos}
theorem Gga(ha:PE X a ta)(hb:PE X b tb){pins:List (Addr×Obj)}{s:Shared}{σ:St}{H:Hp}{R:V->V->Hp->Prop}(I:Inv X pins σ H s)
  (h:ta σ H fun x H1=>tb σ H1 fun y H2=>R x y H2) {Q:Value->Shared->Prop} {f:Value->Value->Sem Value}
  (hf:∀ v u s2 x y H2,Inv X pins σ H2 s2->Go x v->Go y u->R x y H2->wpAny (model X.prog X.w) X.A (f v u) Q X.xe s2):
  wpAny (model X.prog X.w) X.A (eval a X.env) (fun v s₁=>wpAny (model X.prog X.w) X.A (eval b X.env) (fun u s₂=>wpAny (model X.prog X.w) X.A (f v u) Q X.xe s₂) X.xe s₁) X.xe s:=by
 refine thn (ha pins s σ H _ I h) fun v s1 ⟨x,H1,I1,r1,q1⟩=>?_
 refine thn (hb pins s1 σ H1 _ I1 q1) fun u s2 ⟨y,H2,I2,r2,q2⟩=>?_
 exact hf v u s2 x y H2 I2 r1 r2 q2
theorem Gjp{op:Operator}{r:R2}(ho:OpR X (binaryOp op) r)(ha:PE X a ta)(hb:PE X b tb):PE X (.BinOp a op b pos) (tOp r ta tb):=by
 intro pins s σ H Q I h
 exact wpAny_BinOp (Gga ha hb I h fun v u s2 x y H2 I2 rx ry q=>ho pins s2 σ H2 x y v u Q I2 rx ry q)
theorem Gjq{op:UnaryOp}{r:V->Hp->VK->Prop}(ho:UnR X (unaryOp op) r)(ha:PE X a ta):PE X (.UnaryOp op a pos) (tUn r ta):=by
 intro pins s σ H Q I h
 exact UnaryOp_ (thn (ha pins s σ H _ I h) fun v s1 ⟨x,H1,I1,r1,q1⟩=>ho pins s1 σ H1 x v Q I1 r1 q1)
theorem opI{f:Value->Value->Sem Value}{C:Int->Int->Prop}{g:Int->Int->Int}
  (rule:∀ (i j:Int) (t u:Tok) (s:Shared) (Q:Value->Shared->Prop) (E:Value->Shared->Prop),C i j->Q (.int (g i j) s.toks) { s with toks:=s.toks+1 }->wpAny (model X.prog X.w) X.A (f (.int i t) (.int j u)) Q E s):
  OpR X f (rI C fun i j=>.int (g i j)):=by
 intro pins s σ H x y v u Q I rx ry h
 obtain⟨i,j,rfl,rfl,hc,q⟩:=h
 obtain⟨t,rfl⟩:=rx
 obtain⟨t',rfl⟩:=ry
 exact rule i j t t' s _ _ hc ⟨.int (g i j),H,I.tok _,⟨_,rfl⟩,q⟩
theorem opI0{f:Value->Value->Sem Value}{g:Int->Int->Int}
  (rule:∀ (i j:Int) (t u:Tok) (s:Shared) (Q:Value->Shared->Prop) (E:Value->Shared->Prop),Q (.int (g i j) s.toks) { s with toks:=s.toks+1 }->wpAny (model X.prog X.w) X.A (f (.int i t) (.int j u)) Q E s):
  OpR X f (rI0 fun i j=>.int (g i j)):=by
 intro pins s σ H x y v u Q I rx ry h
 obtain⟨i,j,rfl,rfl,q⟩:=h
 obtain⟨t,rfl⟩:=rx
 obtain⟨t',rfl⟩:=ry
 exact rule i j t t' s _ _ ⟨.int (g i j),H,I.tok _,⟨_,rfl⟩,q⟩
theorem opB0{f:Value->Value->Sem Value}{g:Int->Int->Bool}
  (rule:∀ (i j:Int) (t u:Tok) (s:Shared) (Q:Value->Shared->Prop) (E:Value->Shared->Prop),Q (.bool (g i j)) s->wpAny (model X.prog X.w) X.A (f (.int i t) (.int j u)) Q E s):
  OpR X f (rI0 fun i j=>.bl (g i j)):=by
 intro pins s σ H x y v u Q I rx ry h
 obtain⟨i,j,rfl,rfl,q⟩:=h
 obtain⟨t,rfl⟩:=rx
 obtain⟨t',rfl⟩:=ry
 exact rule i j t t' s _ _ ⟨.bl (g i j),H,I,rfl,q⟩
def Glt(i j:Int):Prop:=0<=j/\j<=1000000/\i.natAbs<2^64
def CMul(i j:Int):Prop:=(-(2^64)<i/\i<2^64)\/(-(2^64)<j/\j<2^64)
theorem CMul.ok{i j:Int}(h:CMul i j):IntMulOk i j:=by
 rcases h with⟨h1,h2⟩ | ⟨h1,h2⟩
 ·exact .of_left (intBits_le_64 h1 h2)
 ·exact .of_right (intBits_le_64 h1 h2)
theorem Ggb:OpR X (binaryOp .Add) (rI0 fun i j=>.int (i+j)):=opI0 fun _ _ _ _ _ _ _ q=>add_int q
theorem Ggc:OpR X (binaryOp .Sub) (rI0 fun i j=>.int (i-j)):=opI0 fun _ _ _ _ _ _ _ q=>sub_int q
theorem Ggd:OpR X (binaryOp .Mult) (rI CMul fun i j=>.int (i*j)):=opI fun _ _ _ _ _ _ _ hc q=>mul_int q hc.ok
theorem Gge:OpR X (binaryOp .Mod) (rI (fun _ j=>0<j) fun i j=>.int (i%j)):=opI fun i j _ _ _ _ _ hc q=>by
 have h1:(0:Int)<j:=hc
 exact mod_int' (by omega) (by rw[Int.fmod_eq_emod_of_nonneg i (by omega)]; exact q)
theorem Ggf:OpR X (binaryOp .Pow) (rI Glt fun i j=>.int (i^j.toNat)):=opI fun _ _ _ _ _ _ _ hc q=>pow_int_small hc.1 hc.2.1 hc.2.2 q
theorem unI{f:Value->Sem Value}{g:Int->Int}
  (rule:∀ (i:Int) (t:Tok) (s:Shared) (Q:Value->Shared->Prop) (E:Value->Shared->Prop),Q (.int (g i) s.toks) { s with toks:=s.toks+1 }->wpAny (model X.prog X.w) X.A (f (.int i t)) Q E s):
  UnR X f (rU fun i=>.int (g i)):=by
 intro pins s σ H x v Q I rx h
 obtain⟨i,rfl,q⟩:=h
 obtain⟨t,rfl⟩:=rx
 exact rule i t s _ _ ⟨.int (g i),H,I.tok _,⟨_,rfl⟩,q⟩
theorem Ggg:UnR X (unaryOp .USub) (rU fun i=>.int (-i)):=unI fun _ _ _ _ _ q=>neg_int q
end
section
variable{X:Cx}{a b c:Expr}{ta tb tc:TE}{pos:Pos}
theorem Ggh{pins:List (Addr×Obj)}{σ:St}{H:Hp}{s:Shared}{Q:VK}{k k':Bool}(I:Inv X pins σ H s)(q:Q (.bl k) H)(e:k=k'):EP X pins σ Q (.bool k') s:=by
 subst e
 exact⟨.bl k,H,I,rfl,q⟩
theorem Gjr:OpR X (compareOp .Lt) (rI0 fun i j=>.bl (decide (i<j))):=opB0 fun _ _ _ _ _ _ _ q=>lt_int q
theorem Gjs:OpR X (compareOp .Gt) (rI0 fun i j=>.bl (decide (j<i))):=opB0 fun _ _ _ _ _ _ _ q=>gt_int q
theorem Ggi:OpR X (compareOp .Is) (fun x y H Q=>y=.non/\Q (.bl (decide (x=.non))) H):=by
 intro pins s σ H x y v u Q I rx ry h
 obtain⟨rfl,q⟩:=h
 cases ry
 refine is_none_gen (Ggh I q ?_)
 cases x<;>first
  | (cases rx; rfl)
  | (obtain⟨t,rfl⟩:=rx; rfl)
theorem OpR.or{f:Value->Value->Sem Value}{r r':R2}(h:OpR X f r)(h':OpR X f r'):OpR X f (fun x y H Q=>r x y H Q\/r' x y H Q):=by
 intro pins s σ H x y v u Q I rx ry q
 rcases q with q | q
 ·exact h pins s σ H x y v u Q I rx ry q
 ·exact h' pins s σ H x y v u Q I rx ry q
theorem nomark(b:Expr){op:CmpOp}(h:op≠.In:=by decide)(h2:op≠.NotIn:=by decide):behindInMarks op b=false:=by
 have e1:(op==CmpOp.In)=false:=by cases op<;>first | rfl | exact absurd rfl h
 have e2:(op==CmpOp.NotIn)=false:=by cases op<;>first | rfl | exact absurd rfl h2
 cases b<;>simp[behindInMarks,e1,e2]
theorem Gdi{op:CmpOp}{r:R2}(ho:OpR X (compareOp op) r)(ha:PE X a ta)(hb:PE X b tb)(hm:behindInMarks op b=false):PE X (.Compare a [op] [b] pos) (tOp r ta tb):=by
 intro pins s σ H Q I h
 exact wpAny_Compare1 (Gga ha hb I h fun v u s2 x y H2 I2 rx ry q=>ho pins s2 σ H2 x y v u Q I2 rx ry q) hm
def Gjt(t:TE):TT:=fun σ H Q=>t σ H fun x H'=>∃ k,x=.bl k/\Q k H'
theorem Gdj{op:CmpOp}{r:R2}(ho:OpR X (compareOp op) r)(ha:PE X a ta)(hb:PE X b tb)(hm:behindInMarks op b=false):PT X (.Compare a [op] [b] pos) (Gjt (tOp r ta tb)):=by
 intro pins s σ H Q I h
 refine wpAny_isTrue_Compare1 (thn (ha pins s σ H _ I h) fun v s1 ⟨x,H1,I1,r1,q1⟩=>thn (hb pins s1 σ H1 _ I1 q1) fun u s2 ⟨y,H2,I2,r2,q2⟩=>
  thn (ho pins s2 σ H2 x y v u _ I2 r1 r2 q2) fun c s3 ⟨z,H3,I3,r3,k,e,q3⟩=>?_) hm
 subst e
 cases r3
 exact wpAny_truthy_bool ⟨H3,I3,q3⟩
def Ggj(K:PySem.W.Frag)(x:V)(H:Hp)(k:Bool):Prop:=
 match x with
 | .non=>k=false
 | .bl b=>k=b
 | .int i=>k=(i != 0)
 | .str y=>y.length<=sizeLine/\k=((y.length:Int) != 0)
 | .byt y=>y.size<=sizeLine/\k=((y.size:Int) != 0)
 | .ref p=>(∃ xs,SqL K H p xs/\k=!xs.isEmpty)\/(∃ xs,SqT K H p xs/\k=!xs.isEmpty)\/∃ kvs,H p=some (.dK kvs)/\k=!kvs.isEmpty
 | _=>False
theorem Yk{κ:Type}{kvs:List (κ×V)}{vs:List (κ×Value)}(r:KV kvs vs):(!vs.isEmpty)=!kvs.isEmpty:=by
 cases r<;>rfl
theorem Ur{xs:List V}{its:List Value}(r:Vals xs its):(!its.toArray.isEmpty)=!xs.isEmpty:=by
 cases r<;>simp
theorem Qq:(sizeLine:Nat)<2^63:=by rw[sizeLine_eq]; decide
theorem Ggk:Gls X (fun x H Q=>∃ k,Ggj X.K x H k/\Q k H):=by
 intro pins s σ H x v Q I rx h
 obtain⟨k,e,q⟩:=h
 have hl:=Qq
 have hs:sizeLine=16777216:=sizeLine_eq
 cases x with
 | non=>
  cases rx
  have e':k=false:=e
  subst e'
  exact truthy_none ⟨H,I,q⟩
 | bl b=>
  cases rx
  have e':k=b:=e
  subst e'
  exact wpAny_truthy_bool ⟨H,I,q⟩
 | int i=>
  obtain⟨t,rfl⟩:=rx
  have e':k=(i != 0):=e
  subst e'
  exact PySem.P.truthy_int ⟨H,I,q⟩
 | str y=>
  obtain⟨t,rfl⟩:=rx
  obtain⟨hy,e'⟩:y.length<=sizeLine/\k=((y.length:Int) != 0):=e
  subst e'
  exact PySem.P.truthy_str (by omega) ⟨H,I.tok _,q⟩
 | byt y=>
  obtain⟨t,rfl⟩:=rx
  obtain⟨hy,e'⟩:y.size<=sizeLine/\k=((y.size:Int) != 0):=e
  subst e'
  exact PySem.W.truthy_bytes (by omega) ⟨H,I.tok _,q⟩
 | ref p=>
  cases rx
  have e':(∃ xs,SqL X.K H p xs/\k=!xs.isEmpty)\/(∃ xs,SqT X.K H p xs/\k=!xs.isEmpty)\/∃ kvs,H p=some (.dK kvs)/\k=!kvs.isEmpty:=e
  rcases e' with⟨xs,hx,e'⟩ | ⟨xs,hx,e'⟩ | ⟨kvs,hx,e'⟩
  ·subst e'
   obtain⟨its,r,pl,hz⟩:=I.list hx
   have hlen:=r.length
   exact wpAny_truthy_list pl.isList (by simp only[List.size_toArray]; omega) ⟨H,I.tok _,by rw[Ur r]; exact q⟩
  ·subst e'
   obtain⟨its,r,pl,hz⟩:=I.tuple hx
   have hlen:=r.length
   exact truthy_tuple pl (by simp only[List.size_toArray]; omega) ⟨H,I.tok _,by rw[Ur r]; exact q⟩
  ·subst e'
   obtain⟨hz,hS,vs,r,m⟩:kvs.length<=sizeLine/\(p==sysModules)=false/\∃ vs,KV kvs vs/\s.heap.DictOf (Zd X.prog X.w) p vs:=I.hok p _ hx
   have hlen:kvs.length=vs.length:=Paired.length r
   exact wpAny_truthy_dict hS m (by omega) ⟨H,I.tok _,by rw[Yk r]; exact q⟩
 | _=>exact(show False from e).elim
theorem Gbe(ha:PE X a ta)(he:∀ whole,isTrue a X.env whole=(do let v <- whole; standAt a.pos; holding [v] (truthy v))):
  PT X a (fun σ H Q=>ta σ H fun x H'=>∃ k,Ggj X.K x H' k/\Q k H'):=by
 intro pins s σ H Q I h
 exact isTrue_plain (thn (ha pins s σ H _ I h) fun v s1 ⟨x,H1,I1,r1,q1⟩=>Ggk pins s1 σ H1 x v Q I1 r1 q1) (he _)
theorem Yl:OpR X (binaryOp .Add) (fun x y H Q=>∃ i j,x=.str i/\y=.str j/\i.length+j.length<=sizeLine/\Q (.str (i++j)) H):=by
 intro pins s σ H x y v u Q I rx ry h
 obtain⟨i,j,rfl,rfl,hz,q⟩:=h
 obtain⟨t,rfl⟩:=rx
 obtain⟨t',rfl⟩:=ry
 exact add_str (fun t' tk=>⟨.str (i++j),H,I.tok _,⟨_,rfl⟩,q⟩) hz
theorem Zf{x:V}{us:List Value}(r:Vals [x] us):∃ u,us=[u]/\Go x u:=by
 cases r with
 | cons r1 r2=>cases r2; exact⟨_,rfl,r1⟩
theorem Gew{x y:V}{us:List Value}(r:Vals [x,y] us):∃ u w',us=[u,w']/\Go x u/\Go y w':=by
 cases r with
 | cons r1 r2=>
  cases r2 with
  | cons r3 r4=>cases r4; exact⟨_,_,rfl,r1,r3⟩
theorem Gak(hc:X.calm=true):Ko X (.builtin "max") (fun xs H Q=>∃ i j,xs=[.int i,.int j]/\Q (.int (if j>i then j else i)) H):=by
 intro pins s σ H xs us Q I r h
 obtain⟨i,j,rfl,q⟩:=h
 obtain⟨u,w',rfl,⟨t,rfl⟩,⟨t',rfl⟩⟩:=Gew r
 refine max_two_ints (I.ok.hd hc) fun h' tk k=>⟨_,H,I.kept k,?_,q⟩
 by_cases hj:j>i
 ·rw[if_pos hj,if_pos hj]; exact⟨_,rfl⟩
 ·rw[if_neg hj,if_neg hj]; exact⟨_,rfl⟩
def Gju(K:PySem.W.Frag)(x:V)(H:Hp)(n:Nat):Prop:=
 match x with
 | .str y=>y.length<=sizeLine/\n=y.length
 | .byt y=>y.size<=sizeLine/\n=y.size
 | .ref p=>(∃ xs,SqL K H p xs/\n=xs.length)\/∃ xs,SqT K H p xs/\n=xs.length
 | _=>False
theorem Gbf:Ko X (.builtin "len") (fun xs H Q=>∃ x n,xs=[x]/\Gju X.K x H n/\Q (.int n) H):=by
 intro pins s σ H xs us Q I r h
 obtain⟨x,n,rfl,e,q⟩:=h
 obtain⟨u,rfl,rx⟩:=Zf r
 have hl:=Qq
 have hs:sizeLine=16777216:=sizeLine_eq
 cases x with
 | str y=>
  obtain⟨t,rfl⟩:=rx
  obtain⟨hy,e'⟩:y.length<=sizeLine/\n=y.length:=e
  subst e'
  exact len_str (by omega) ⟨.int _,H,I.tok _,⟨_,rfl⟩,q⟩
 | byt y=>
  obtain⟨t,rfl⟩:=rx
  obtain⟨hy,e'⟩:y.size<=sizeLine/\n=y.size:=e
  subst e'
  exact PySem.W.len_bytes (by omega) ⟨.int _,H,I.tok _,⟨_,rfl⟩,q⟩
 | ref p=>
  cases rx
  have e':(∃ xs,SqL X.K H p xs/\n=xs.length)\/∃ xs,SqT X.K H p xs/\n=xs.length:=e
  rcases e' with⟨xs,hx,e'⟩ | ⟨xs,hx,e'⟩
  ·subst e'
   obtain⟨its,r',pl,hz⟩:=I.list hx
   have hlen:=r'.length
   exact Calls.call_len_list pl.isList (by simp only[List.size_toArray]; omega) ⟨.int xs.length,H,I.tok _,⟨_,by simp only[List.size_toArray]; rw[hlen]⟩,q⟩
  ·subst e'
   obtain⟨its,r',pl,hz⟩:=I.tuple hx
   have hlen:=r'.length
   exact len_tuple pl (by simp only[List.size_toArray]; omega) ⟨.int xs.length,H,I.tok _,⟨_,by simp only[List.size_toArray]; rw[hlen]⟩,q⟩
 | _=>exact(show False from e).elim
end
structure ObjM(h:Heap)(x dx C:Addr)(mA:Str->Option Value):Prop where
 obj:h.get? x=some (PySem.W.instObj C dx)
 ns:h.Ns1 dx mA
 ne:dx≠x
structure Cls(K:PySem.W.Frag)(C:Addr):Prop where
 pg:PySem.W.plainGet K C Str.empty=true
 hd:PySem.W.hasDictIn K C=true
 po:PySem.W.plainOver K C=true
 sa:PySem.W.findIn K (.ref C) "__setattr__"=some (some (.builtin "object.__setattr__"))
structure Con(K:PySem.W.Frag)(C:Addr)(f:Str)(v:V)(u:Value):Prop where
 at_:PySem.W.findIn K (.ref C) f=some (some u)
 rel:Go v u
 get:PySem.W.specialIn K u "__get__"=some none
 cp:PySem.W.copiedNames.contains f=false
structure Meth(K:PySem.W.Frag)(C:Addr)(m:Str)(f:Addr):Prop where
 at_:PySem.W.findIn K (.ref C) m=some (some (.ref f))
 fn:PySem.W.isFn K (.ref f)=true
 kp:PySem.W.keepIn K (.ref f)=true
section
variable{X:Cx}{pins:List (Addr×Obj)}{σ:St}{H:Hp}{s:Shared}{A:Around}{E:Value->Shared->Prop}{Q:Value->Shared->Prop}{c:Value}{b:Bool}
inductive TyOf(K:PySem.W.Frag)(H:Hp):V->Value->Prop where
 | non:TyOf K H .non (.type "NoneType")
 | bl (x:Bool):TyOf K H (.bl x) (.type "bool")
 | int (i:Int):TyOf K H (.int i) (.type "int")
 | str (x:Str):TyOf K H (.str x) (.type "str")
 | flt (x:UInt64):TyOf K H (.flt x) (.type "float")
 | lst {a:Addr} {xs:List V} (e:H a=some (.lst xs)):TyOf K H (.ref a) (.type "list")
 | frz {a:Addr} {o:Obj} {xs:List V} (e:H a=some (.frz o (.lst xs))):TyOf K H (.ref a) (.type "list")
 | tup {a:Addr} {xs:List V} (e:H a=some (.tup xs)):TyOf K H (.ref a) (.type "tuple")
 | dK {a:Addr} {kvs:List (Key×V)} (e:H a=some (.dK kvs)):TyOf K H (.ref a) (.type "dict")
 | dT {a:Addr} {kvs:List (NK×Addr×V)} (e:H a=some (.dT kvs)):TyOf K H (.ref a) (.type "dict")
 | ins {a C dx:Addr} {fs:List (Str×V)} (e:H a=some (.ins C dx fs)) (cl:Cls K C) (ha:PySem.W.findIn K (.ref C) "__class__"=some (some (.builtin "object.__class__")))
   (hn:PySem.W.specialIn K (.builtin "object.__class__") "__get__"=some (some (.builtin "getset_descriptor.__get__"))) (htk:PySem.W.takesIn K (.builtin "object.__class__")=some true)
   (hm:PySem.W.mroIn K C (.type "object")=some true):TyOf K H (.ref a) (.ref C)
end
structure Room(k:Nat)(A:Around):Prop where
 hd:A.handled=none
 dp:A.depth+3*k+5<recursionLimit
 un:A.units+16*k+200<cLine
 gd:A.guards=some []
theorem Room.mono{j k:Nat}{A:Around}(r:Room k A)(h:j<=k):Room j A:=⟨r.hd,by have:=r.dp; omega,by have:=r.un; omega,r.gd⟩
theorem Room.deeper{k:Nat}{A:Around}(r:Room (k+1) A)(env:Env):Room k (A.deeper env):=
 ⟨r.hd,by have:=r.dp; show A.depth+1+3*k+5<_; omega,by have:=r.un; show A.units+3+16*k+200<_; omega,by first | exact r.gd | (simpa[Around.deeper] using r.gd)⟩
theorem Room.in1{k:Nat}{A:Around}(r:Room (k+1) A):Room k A.in1:=
 ⟨r.hd,by have:=r.dp; show A.depth+3*k+5<_; omega,by have:=r.un; show A.units+1+16*k+200<_; omega,r.gd⟩
theorem Room.depth{k:Nat}{A:Around}(r:Room k A):A.depth<recursionLimit:=by have:=r.dp; omega
theorem Room.units{k:Nat}{A:Around}(r:Room k A):A.units+64<cLine:=by have:=r.un; omega
def Glu:TA:=fun _ H Q=>Q [] H
def Gjv(ta:TE)(tr:TA):TA:=fun σ H Q=>ta σ H fun x H1=>tr σ H1 fun xs H2=>Q (x::xs) H2
section
variable{X:Cx}{e:Expr}{es:List Expr}{te:TE}{t:TA}{pos:Pos}
theorem Gbg:PA X [] Glu:=fun _ _ _ _ H Q I h=>Calls.spliced_nil ⟨[],H,I,.nil,h⟩
theorem Wf(ha:PE X e te)(hr:PA X es t)(hs:starEach (e::es) X.env=(false,eval e X.env)::starEach es X.env:=by rfl):PA X (e::es) (Gjv te t):=by
 intro pos pins s σ H Q I h
 rw[hs]
 show wpAny _ _ (spliced ((false,eval e X.env)::backTo pos (starEach es X.env))) _ _ s
 refine Calls.spliced_cons (thn (ha pins s σ H _ I h) fun u s1 ⟨x,H1,I1,r1,q1⟩=>?_)
 exact thn (hr pos pins s1 σ H1 _ I1 q1) fun us s2 ⟨xs,H2,I2,r2,q2⟩=>⟨x::xs,H2,I2,.cons r1 r2,q2⟩
def Glv(t:TA):TE:=fun σ H Q=>t σ H fun xs H1=>xs.length<=sizeLine/\∀ p,H1 p=none->Q (.ref p) (upd H1 p (.tup xs))
def Glw(t:TA):TE:=fun σ H Q=>t σ H fun xs H1=>xs.length<=sizeLine/\∀ p,H1 p=none->Q (.ref p) (upd H1 p (.lst xs))
theorem Ggl{x1}(h:PA X es t):PE X (.Tuple es x1 pos) (Glv t):=by
 intro pins s σ H Q I hq
 refine wpAny_Tuple_spliced (thn (h pos pins s σ H _ I hq) fun us s1 ⟨xs,H1,I1,r,z,q⟩=>⟨by rw[<- r.length]; exact z,?_⟩)
 have hf:H1 s1.heap.objs.size=none:=I1.hok.fresh (Nat.le_refl _)
 refine⟨.ref s1.heap.objs.size,upd H1 s1.heap.objs.size (.tup xs),I1.laid (t':=s1.toks) (fun b u e=>Heap.get?_push_of_some _ e) (Nat.le_refl _) ?_,rfl,q _ hf⟩
 exact⟨z,us,r,⟨_,Heap.get?_push_size _ rfl,rfl,_,rfl⟩⟩
theorem Ggm(h:PA X es t):PE X (.List es pos) (Glw t):=by
 intro pins s σ H Q I hq
 refine wpAny_List_spliced (thn (h pos pins s σ H _ I hq) fun us s1 ⟨xs,H1,I1,r,z,q⟩=>⟨by rw[<- r.length]; exact z,?_⟩)
 have hf:H1 s1.heap.objs.size=none:=I1.hok.fresh (Nat.le_refl _)
 refine⟨.ref s1.heap.objs.size,upd H1 s1.heap.objs.size (.lst xs),I1.laid (t':=s1.toks) (fun b u e=>Heap.get?_push_of_some _ e) (Nat.le_refl _) ?_,rfl,q _ hf⟩
 exact⟨z,us,0,r,Heap.get?_push_size _ rfl⟩
end
abbrev Sp:=List V->Hp->VK->XK->Prop
abbrev CXT:=List Env->Hp->Shared->XK->Value->Shared->Prop
structure Env0(P:Program)(w:World)(K:PySem.W.Frag)(mg:Str->Option Value)(base:Heap)(A:Around)(outer:List Env)(s:Shared)(H:Hp):Prop where
 frames:A.frames=some outer
 mod:Mod K mg base
 bs:∀ b o,base.get? b=some o->s.heap.get? b=some o/\H b=none
 bsz:base.objs.size<=s.heap.objs.size
 funs:s.heap.FunFrames base outer
 frf:∀ b∈frs outer,H b=none
 hok:HOk P w H s.heap
 bare:AllBare s.gens
def CE(outer:List Env)(P:Program)(w:World)(H:Hp)(s:Shared)(Q:VK)(u:Value)(s':Shared):Prop:=
 ∃ v H',s'.os=s.os/\AllBare s'.gens/\Un (frs outer) [] H H' s.heap s'.heap/\HOk P w H' s'.heap/\Go v u/\Q v H'
def CR(CX:CXT)(outer:List Env)(P:Program)(w:World)(H:Hp)(s:Shared)(Q:VK)(E:XK)(r:Result)(s':Shared):Prop:=
 match r with
 | .ok (.ret u)=>CE outer P w H s Q u s'
 | .ok _=>False
 | .error e=>CX outer H s E e s'
structure FnOk(P:Program)(w:World)(K:PySem.W.Frag)(mg:Str->Option Value)(base:Heap)(CX:CXT)(k:Nat)(f:Addr)(fd:FuncData)(ps:List Str)(sp:Sp):Prop where
 len:∀ vs H Q E,sp vs H Q E->vs.length=ps.length
 run:∀ (A:Around) (outer:List Env) (s:Shared) (H:Hp) (args:Args) (us:List Value) (vs:List V) (Q:VK) (E:XK),Room k A->Env0 P w K mg base A outer s H->BindsTo s fd args (ps.zip us)->Vals vs us->sp vs H Q E→
  codeAny (model P w) A (.call (.ref f) args) (CR CX outer P w H s Q E) s
theorem FnOk.mono{P:Program}{w:World}{K:PySem.W.Frag}{mg:Str->Option Value}{base:Heap}{CX:CXT}{j k:Nat}{f:Addr}{fd:FuncData}{ps:List Str}{sp:Sp}(F:FnOk P w K mg base CX j f fd ps sp)(h:j<=k):
  FnOk P w K mg base CX k f fd ps sp:=⟨F.len,fun A outer s H args us vs Q E hr=>F.run A outer s H args us vs Q E (hr.mono h)⟩
section
variable{X:Cx}{pins:List (Addr×Obj)}{σ:St}{H:Hp}{s s':Shared}
theorem Inv.env0(I:Inv X pins σ H s):Env0 X.prog X.w X.K X.mg X.base X.A X.stack s H:=
 ⟨I.ok.frames,I.ok.mod,I.bs,Nat.le_trans I.ok.bsz I.sz,I.stack,I.stkFree,I.hok,I.bare⟩
theorem Inv.after{Q:VK}{u:Value}(I:Inv X pins σ H s)(h:CE X.stack X.prog X.w H s Q u s'):EP X pins σ Q u s':=by
 obtain⟨v,H',os,bare,un,hok,r,q⟩:=h
 obtain⟨hh,g,d,t,os'⟩:=s'
 obtain rfl:os'=s.os:=os
 exact⟨v,H',I.call (h':=hh) (g':=g) (d':=d) (t':=t) (ch:=[]) un hok bare (fun b z=>absurd z (by simp)),r,q⟩
end
def Gjw(sp:Sp)(dvs:List V)(E:XK)(t:TA):TE:=fun σ H Q=>t σ H fun vs H1=>sp (vs++dvs) H1 Q E
def Binds(K:PySem.W.Frag)(fd:FuncData)(ps:List Str)(ds:List Value):Prop:=
 ∀ (s:Shared) (us:List Value),K.In s.heap->(us++ds).length=ps.length->BindsTo s fd ⟨us,[]⟩ (ps.zip (us++ds))
theorem Binds.all{K:PySem.W.Frag}{fd:FuncData}{ps:List Str}(h:∀ us:List Value,us.length=ps.length->bindArgs fd ⟨us,[]⟩=pure (ps.zip us)):Binds K fd ps []:=fun s us _ hl=>by
 rw[List.append_nil] at hl ⊢
 exact .of_eq (h us hl)
def Passes(CX:CXT)(X:Cx)(E:XK):Prop:=∀ (pins:List (Addr×Obj)) (σ:St) (H:Hp) (s:Shared) (e:Value) (s':Shared),Inv X pins σ H s->CX X.stack H s E e s'->X.xe e s'
section
variable{X:Cx}{CX:CXT}{k:Nat}{f C:Addr}{fd:FuncData}{ps:List Str}{sp:Sp}{dvs:List V}{ds:List Value}{E:XK}{x m:Str}{p pos apos:Pos}{e o:Expr}{es:List Expr}{ta:TE}{t:TA}
theorem Ggn{pins:List (Addr×Obj)}{σ:St}{H:Hp}{s:Shared}{Q:VK}{us:List Value}{vs:List V}(F:FnOk X.prog X.w X.K X.mg X.base CX k f fd ps sp)(hr:Room k X.A)(hb:Binds X.K fd ps ds)(hd:Vals dvs ds)(hx:Passes CX X E)
  (I:Inv X pins σ H s) (r:Vals vs us) (h:sp (vs++dvs) H Q E):wpAny (model X.prog X.w) X.A (call (.ref f) us) (EP X pins σ Q) X.xe s:=by
 have r2:Vals (vs++dvs) (us++ds):=r.append hd
 have hl:(us++ds).length=ps.length:=by rw[<- r2.length]; exact F.len _ _ _ _ h
 refine wpAny_call (codeAny_mono (F.run X.A X.stack s H ⟨us,[]⟩ (us++ds) (vs++dvs) Q E hr I.env0 (hb s us I.kIn hl) r2 h) fun r s' hq=>?_)
 cases r with
 | error e=>exact hx pins σ H s e s' I hq
 | ok fl=>
  cases fl with
  | ret u=>exact I.after hq
  | next=>exact False.elim hq
  | brk=>exact False.elim hq
  | cont=>exact False.elim hq
theorem Gdk(F:FnOk X.prog X.w X.K X.mg X.base CX k f fd ps sp)(hr:Room k X.A)(hg:Gl X x)(hm:X.mg x=some (.ref f))(hk:PySem.W.keepIn X.K (.ref f)=true)(hb:Binds X.K fd ps ds)(hd:Vals dvs ds)(hx:Passes CX X E)
  (ha:PA X (e::es) t) (hdb:(x==("__debug__":Str))=false:=by decide) (he:starEach (e::es) X.env=(false,eval e X.env)::starEach es X.env:=by rfl) (hpl:(backTo pos (starEach es X.env)).any (·.1)=false:=by rfl):
  PE X (.Call (.Name x p) (e::es) [] pos) (Gjw sp dvs E t):=by
 intro pins s σ H Q I h
 refine wpAny_Call_Name_kw (Gc9 I hg hm ?_ hdb)
 refine PySem.W.callWith_K (h₀:=X.base) I.ok.mod.kin hk (thn (ha pos pins s σ H _ I h) fun us s1 ⟨vs,H1,I1,r,q⟩=>⟨I1.kIn,?_⟩) he hpl
 exact Ggn F hr hb hd hx I1 r q
structure Mk(K:PySem.W.Frag)(C f:Addr):Prop where
 makes:PySem.W.makesIn K C=true
 init:PySem.W.findIn K (.ref C) "__init__"=some (some (.ref f))
 fn:PySem.W.isFn K (.ref f)=true
 kp:PySem.W.keepIn K (.ref C)=true
end
section
variable{X:Cx}{CX:CXT}{k:Nat}{f C:Addr}{fd:FuncData}{ps ks:List Str}{sp:Sp}{E:XK}{x m:Str}{p pos apos kpos:Pos}{e o:Expr}{es:List Expr}{kws:List Keyword}{te ta:TE}{t tk:TA}{nm:Option Str}
structure KBinds(K:PySem.W.Frag)(fd:FuncData)(ps ks:List Str)(g:List Value->List Value->List Value)(gV:List V->List V->List V):Prop where
 to:∀ (s:Shared) (us ws:List Value),K.In s.heap->(g us ws).length=ps.length->BindsTo s fd ⟨us,ks.zip ws⟩ (ps.zip (g us ws))
 rel:∀ {vs:List V} {us:List Value} {zs:List V} {ws:List Value},Vals vs us->Vals zs ws->Vals (gV vs zs) (g us ws)
variable{g:List Value->List Value->List Value}{gV:List V->List V->List V}
end
structure FnScope(N P:List Str)(sc:Scope):Prop where
 kind:sc.kind=.function
 co:sc.isCoroutine=false
 gen:sc.isGenerator=false
 nd:N.Nodup
 pre:N.take P.length=P
 par:∀ x∈P,sc.names.lookup x=some .local\/sc.names.lookup x=some .cell
 nofree:∀ y∈sc.names,y.2≠.free
theorem Vr{kindOf:Str->Option NameKind}{x:Str}:∀ {binds:List (Str×Value)} {m:Str->Option Value},(∀ v,(x,v)∉binds)->bindL kindOf binds m x=m x
 | [],_,_=>rfl
 | (n,v)::r,m,h=>by
  unfold bindL
  rw[Vr fun w hw=>h w (List.mem_cons_of_mem _ hw)]
  split
  ·have:x≠n:=by rintro rfl; exact h v List.mem_cons_self
   simp[this]
  ·rfl
theorem Vs{kindOf:Str->Option NameKind}{x:Str}:∀ {binds:List (Str×Value)} {m:Str->Option Value},(∀ v,(x,v)∉binds)->bindC kindOf binds m x=m x
 | [],_,_=>rfl
 | (n,v)::r,m,h=>by
  unfold bindC
  rw[Vs fun w hw=>h w (List.mem_cons_of_mem _ hw)]
  split
  ·rfl
  ·have:x≠n:=by rintro rfl; exact h v List.mem_cons_self
   simp[this]
theorem Vt{kindOf:Str->Option NameKind}{x:Str}{v:Value}:∀ {P:List Str} {vs:List Value} {i:Nat} {m:Str->Option Value},P.Nodup->P[i]?=some x->vs[i]?=some v->kindOf x=some .local→
  bindL kindOf (P.zip vs) m x=some v
 | [],_,_,_,_,h,_,_=>by simp at h
 | _::_,[],_,_,_,_,h,_=>by simp at h
 | p::P,w::vs,0,m,nd,h1,h2,hk=>by
  simp at h1 h2; subst h1; subst h2
  show bindL kindOf ((p,w)::P.zip vs) m p=_
  unfold bindL
  rw[Vr fun v hv=>(List.nodup_cons.mp nd).1 (List.of_mem_zip hv).1,if_pos hk]
  simp
 | p::P,w::vs,i+1,m,nd,h1,h2,hk=>by
  show bindL kindOf ((p,w)::P.zip vs) m x=_
  unfold bindL
  exact Vt (i:=i) (List.nodup_cons.mp nd).2 (by simpa using h1) (by simpa using h2) hk
theorem Vu{kindOf:Str->Option NameKind}{x:Str}{v:Value}:∀ {P:List Str} {vs:List Value} {i:Nat} {m:Str->Option Value},P.Nodup->P[i]?=some x->vs[i]?=some v->kindOf x≠some .local→
  bindC kindOf (P.zip vs) m x=some v
 | [],_,_,_,_,h,_,_=>by simp at h
 | _::_,[],_,_,_,_,h,_=>by simp at h
 | p::P,w::vs,0,m,nd,h1,h2,hk=>by
  simp at h1 h2; subst h1; subst h2
  show bindC kindOf ((p,w)::P.zip vs) m p=_
  unfold bindC
  rw[Vs fun v hv=>(List.nodup_cons.mp nd).1 (List.of_mem_zip hv).1,if_neg hk]
  simp
 | p::P,w::vs,i+1,m,nd,h1,h2,hk=>by
  show bindC kindOf ((p,w)::P.zip vs) m x=_
  unfold bindC
  exact Vu (i:=i) (List.nodup_cons.mp nd).2 (by simpa using h1) (by simpa using h2) hk
def start(N:List Str)(vs:List V):St:=vs.map some++List.replicate (N.length-vs.length) none
def Vg(CX:CXT)(P:Program)(w:World)(K:PySem.W.Frag)(mg:Str->Option Value)(base:Heap)(N:List Str)(qual:Str)(scope:Scope)(f:Addr)(cd:Value)(A:Around)(outer:List Env)(s:Shared)(H:Hp)(E:XK):Cx where
 prog:=P
 w:=w
 K:=K
 mg:=mg
 base:=base
 A:=A.deeper (envOfC qual scope s.heap.objs.size f cd)
 N:=N
 s₀:=s
 H₀:=H
 env:=envOfC qual scope s.heap.objs.size f cd
 outer:=outer
 stack:=envOfC qual scope s.heap.objs.size f cd::outer
 ex:=[]
 calm:=true
 fn:=fun _=>true
 pn:=[]
 xe:=fun e s'=>wpAny (model P w) (A.deeper (envOfC qual scope s.heap.objs.size f cd)) (leaving (envOfC qual scope s.heap.objs.size f cd) e) (fun _ s''=>CX outer H s E e s'') (fun e' s''=>CX outer H s E e' s'') s'
theorem Xi{sc:Scope}{n:Nat}{x:Str}(h:sc.names.lookup x=some .cell):∃ c,(cellsFrom n sc.names []).lookup x=some c:=by
 have q:=PySem.W.cellsFrom_some sc.names n [] (.inl h)
 exact Option.isSome_iff_exists.mp q
theorem Gal{CX:CXT}{P:Program}{w:World}{K:PySem.W.Frag}{mg:Str->Option Value}{base:Heap}{N ps:List Str}{qual:Str}{scope:Scope}{f:Addr}{cd:Value}{A:Around}{outer:List Env}{s s1:Shared}{H:Hp}{E:XK}{us:List Value}{vs:List V}
  (S:FnScope N ps scope) (hd:A.handled=none) (e0:Env0 P w K mg base A outer s H) (hl:vs.length=ps.length) (r:Vals vs us)
  (x:InCallC s s.heap.objs.size (bindL (envOfC qual scope s.heap.objs.size f cd).kindOf (ps.zip us) fun _=>none) (cellsFrom (s.heap.objs.size+1) scope.names []) (bindC (envOfC qual scope s.heap.objs.size f cd).kindOf (ps.zip us) fun _=>none) s1):
  Inv (Vg CX P w K mg base N qual scope f cd A outer s H E) [] (start N vs) H s1:=by
 have hpl:ps.length<=N.length:=by have:=congrArg List.length S.pre; rw[List.length_take] at this; omega
 obtain⟨h1,tk,rfl,hk⟩:=x.done
 have noA:∀ b:Addr,b∉(Vg CX P w K mg base N qual scope f cd A outer s H E).ex:=fun b z=>absurd (show b∈([]:List Addr) from z) (by simp)
 refine⟨⟨e0.mod,S.kind,rfl,rfl,Nat.le_refl _,fun y z c h1 h2=>?_,fun y hy=>?_,fun y c _ h=>?_,fun _=>hd,Around.frames_deeper e0.frames,.inr ⟨rfl,rfl⟩,fun b z=>absurd z (noA b),e0.bs,e0.bsz,fun b _ _=>noA b,fun b z=>absurd z (noA b),e0.funs,e0.frf⟩,
  rfl,e0.bare,Un.kept hk,⟨_,x.toInCall.ns,fun i y v h1 h2 h3=>?_⟩,fun y c h=>⟨_,x.cell y c h⟩,e0.hok.fresh (Nat.le_refl _),fun y c h=>?_,fun p hp=>absurd (show p∈([]:List (Addr×Obj)) from hp) (by simp),e0.hok.kept hk,?_⟩
 ·exact name_of_addr x.apart (PySem.mem_of_lookup h1) (PySem.mem_of_lookup h2)
 ·have hy:scope.names.lookup y=some .cell\/scope.names.lookup y=some .free:=hy
  rcases hy with hy | hy
  ·exact Xi hy
  ·exact absurd rfl (S.nofree _ (PySem.mem_of_lookup hy))
 ·exact Nat.le_of_lt (x.above y c (PySem.mem_of_lookup h))
 ·have hi:i<vs.length:=by
   unfold start at h2
   by_cases hi:i<vs.length
   ·exact hi
   ·rw[List.getElem?_append_right (by simpa using hi)] at h2
    rw[List.getElem?_replicate] at h2
    split at h2<;>cases h2
  have ha:vs[i]?=some v:=by
   unfold start at h2
   rw[List.getElem?_append_left (by simpa using hi),List.getElem?_map] at h2
   cases e:vs[i]? with
   | none=>rw[e] at h2; cases h2
   | some a=>rw[e] at h2; cases h2; rfl
  obtain⟨u,hu,rv⟩:=r.get ha
  have hp:ps[i]?=some y:=by
   rw[<- S.pre,List.getElem?_take_of_lt (by omega)]; exact h1
  have ndP:ps.Nodup:=by rw[<- S.pre]; exact S.nd.sublist (List.take_sublist _ _)
  refine⟨u,rv,?_⟩
  rcases S.par y (List.mem_of_getElem? hp) with k | k
  ·exact .inl ⟨k,Vt ndP hp hu k⟩
  ·obtain⟨c,e⟩:=Xi (n:=s.heap.objs.size+1) k
   refine .inr ⟨.inl k,c,e,?_⟩
   have q:=x.cell y c e
   rw[Vu ndP hp hu (by show scope.names.lookup y≠_; rw[k]; decide)] at q
   exact q
 ·exact e0.hok.fresh (Nat.le_of_lt (x.above y c (PySem.mem_of_lookup h)))
 ·unfold start
  show _=N.length
  rw[List.length_append,List.length_map,List.length_replicate]
  omega
theorem Gex{CX:CXT}{P:Program}{w:World}{K:PySem.W.Frag}{mg:Str->Option Value}{base:Heap}{k:Nat}{f:Addr}{name qual:Str}{params:Arguments}{body:List Stmt}{scope:Scope}{dV kV doc pm cdv ct oc:Value}{an od:Option Addr}
  {osl:Array (Option Value)} {N ps:List Str} {sp:Sp} (lk:K.lookup f=some ⟨oc,od,.func (PySem.W.fnOf name qual params body scope dV kV doc pm an cdv ct),osl⟩) (hcd:PySem.W.codeIn K cdv qual=true) (S:FnScope N ps scope)
  (len:∀ vs H Q E,sp vs H Q E->vs.length=ps.length)
  (hbody:∀ (A:Around) (outer:List Env) (s:Shared) (H:Hp) (vs:List V) (Q:VK) (E:XK),Room k (A.deeper (envOfC qual scope s.heap.objs.size f cdv))->sp vs H Q E→
   ∃ t,PSs (Vg CX P w K mg base N qual scope f cdv A outer s H E) body t/\t { nx:=fun _ H'=>Q .non H',rt:=Q } (start N vs) H):
  FnOk P w K mg base CX (k+1) f (PySem.W.fnOf name qual params body scope dV kV doc pm an cdv ct) ps sp:=by
 refine⟨len,fun A outer s H args us vs Q E hr e0 hb r hsp=>?_⟩
 have hl:=len _ _ _ _ hsp
 have KX:K.In s.heap:=e0.mod.kin.keeps fun b o e=>(e0.bs b o e).1
 have lim:s.heap.NoLimit:=e0.mod.nolimit.keeps fun b o e=>(e0.bs b o e).1
 have hkind:∀ y∈ps.zip us,scope.names.lookup y.1=some .local\/(scope.names.lookup y.1=some .cell/\((cellsFrom (s.heap.objs.size+1) scope.names []).lookup y.1).isSome=true):=fun⟨n,v⟩ hy=>by
  rcases S.par n (List.of_mem_zip hy).1 with q | q
  ·exact .inl q
  ·exact .inr ⟨q,PySem.W.cellsFrom_some _ _ _ (.inl q)⟩
 refine codeAny_call_function hr.depth (KX _ _ lk) rfl S.co S.gen rfl (PySem.W.codeRec_of KX hcd) (hb _ _ _ _ ?_)
 refine wpAny_newFunctionEnv_cells S.kind hkind fun env he s1 x=>?_
 subst he
 refine⟨lim.keeps x.toInCall.keep,codeAny_func ?_⟩
 obtain⟨t,ht,hq⟩:=hbody A outer s H vs Q E (hr.deeper _) hsp
 have I:Inv (Vg CX P w K mg base N qual scope f cdv A outer s H E) [] (start N vs) H s1:=Gal S hr.hd e0 hl r x
 refine wpAny_mono (ht [] s1 (start N vs) H _ I hq) (fun fl s' hs=>?_) fun e s' hs=>hs
 have fin:∀ {σ':St} {H':Hp} {v:V} {u:Value},Inv (Vg CX P w K mg base N qual scope f cdv A outer s H E) [] σ' H' s'->Go v u->Q v H'->CE outer P w H s Q u s':=
  fun{σ' H' v u} J rv q=>⟨v,H',J.os,J.bare,J.base,J.hok,rv,q⟩
 cases fl with
 | ret u=>
  obtain⟨v,σ',H',J,rv,q⟩:=hs
  exact fin J rv q
 | next=>
  obtain⟨σ',H',J,q⟩:=hs
  exact fin (v:=V.non) (u:=Value.none) J rfl q
 | brk=>
  obtain⟨_,_,_,q⟩:=hs
  exact False.elim q
 | cont=>
  obtain⟨_,_,_,q⟩:=hs
  exact False.elim q
section
variable{X:Cx}{x:Str}{p pos:Pos}{e:Expr}{es:List Expr}{t:TA}{id T:String}{r:List V->Hp->VK->Prop}
def tCB(r:List V->Hp->VK->Prop)(t:TA):TE:=fun σ H Q=>t σ H fun vs H1=>r vs H1 Q
theorem Xj(hc:Ko X (.builtin id) r)(hg:Gl X x)(hm:X.mg x=none)(hv:bootBuiltins x=some (.builtin id))(ha:PA X (e::es) t)(hn:x≠"__name__":=by decide)(hdb:(x==("__debug__":Str))=false:=by decide)
  (he:starEach (e::es) X.env=(false,eval e X.env)::starEach es X.env:=by rfl) (hpl:(backTo pos (starEach es X.env)).any (·.1)=false:=by rfl):PE X (.Call (.Name x p) (e::es) [] pos) (tCB r t):=by
 intro pins s σ H Q I h
 refine wpAny_Call_Name_kw (Qo I hg hm hv ?_ hn hdb)
 exact PyProof.Rows.callWith_builtin1 (thn (ha pos pins s σ H _ I h) fun us s1 ⟨vs,H1,I1,r1,q1⟩=>hc pins s1 σ H1 vs us Q I1 r1 q1) he hpl
theorem Gam(hc:Ko X (.type T) r)(hg:Gl X x)(hm:X.mg x=none)(hv:bootBuiltins x=some (.type T))(ha:PA X (e::es) t)(hn:x≠"__name__":=by decide)(hdb:(x==("__debug__":Str))=false:=by decide)
  (he:starEach (e::es) X.env=(false,eval e X.env)::starEach es X.env:=by rfl) (hpl:(backTo pos (starEach es X.env)).any (·.1)=false:=by rfl):PE X (.Call (.Name x p) (e::es) [] pos) (tCB r t):=by
 intro pins s σ H Q I h
 refine wpAny_Call_Name_kw (Qo I hg hm hv ?_ hn hdb)
 exact PyProof.Rows.callWith_type1 (thn (ha pos pins s σ H _ I h) fun us s1 ⟨vs,H1,I1,r1,q1⟩=>hc pins s1 σ H1 vs us Q I1 r1 q1) he hpl
end
end L2
namespace HT
open PySem PyProof.Rows
section
open PySem.SeqAt
open PySem.AutoSeq1 (wpAny_loadPart')
open PySem.MeetsSeq PySem.MeetsSeq2 PySem.MeetsSeq3
end
section
variable{prog:Program}{w:World}{A:Around}{E:Value->Shared->Prop}{s:Shared}
theorem Gdl{t b:Addr}{vs ws:List Value}{Q:Value->Shared->Prop}(ht:IsTup s.heap t vs.toArray)(hb:IsTup s.heap b ws.toArray)(hv:vs≠[])
  (h1:ws=[]->Q (.ref t) s) (h2:ws≠[]->Q (.ref s.heap.objs.size) { s with heap:=s.heap.push { cls:=.type "tuple",data:=.seq (vs++ws).toArray } })
  (hsz:vs.length+ws.length<=sizeLine):wpAny (model prog w) A (binaryOp .Add (.ref t) (.ref b)) Q E s:=by
 obtain⟨⟨cls,dd,data,sl⟩,ho,hc,n,hd⟩:=id ht
 obtain⟨⟨cls2,dd2,data2,sl2⟩,ho2,hc2,n2,hd2⟩:=id hb
 simp only at hc hd hc2 hd2
 subst hc hd hc2 hd2
 have e:vs.toArray++ws.toArray=(vs++ws).toArray:=by simp
 by_cases hw:ws=[]
 ·exact concat_meets ⟨_,ho,rfl⟩ ⟨_,ho2,rfl⟩ noFill_tuple_add seq_tuple_add PySem.F.slot_tuple_add PySem.F.entry_tuple_add (PySem.F.args_tuple_add_2 _ _)
   (tuple_addW1 t b vs.toArray ws.toArray n n2 dd dd2 sl sl2 (by simpa using hv) (by simp[hw])) ⟨ho,ho2,h1 hw⟩
 ·refine concat_meets ⟨_,ho,rfl⟩ ⟨_,ho2,rfl⟩ noFill_tuple_add seq_tuple_add PySem.F.slot_tuple_add PySem.F.entry_tuple_add (PySem.F.args_tuple_add_2 _ _)
   (tuple_addW2 t b vs.toArray ws.toArray n n2 dd dd2 sl sl2 (by simpa using hv) (by simpa using hw) (by rw[List.size_toArray,List.size_toArray]; exact hsz)) ⟨ho,ho2,?_⟩
  rw[e]
  exact h2 hw
def sIx(n d:Nat):Option Int->Nat
 | none=>d
 | some v=>if v<0 then(v+(n:Int)).toNat else min v.toNat n
theorem Uk(n d k:Nat):sIx n d (some (k:Int))=min k n:=by
 show(if(k:Int)<0 then((k:Int)+(n:Int)).toNat else min (k:Int).toNat n)=min k n
 rw[if_neg (by omega),Int.toNat_natCast]
theorem Ggo(n d:Nat)(hd:d<=n)(o:Option Int):sIx n d o<=n:=by
 cases o with
 | none=>exact hd
 | some v=>
  show(if v<0 then(v+(n:Int)).toNat else min v.toNat n)<=n
  by_cases hv:v<0
  ·rw[if_pos hv]; omega
  ·rw[if_neg hv]; exact Nat.min_le_right _ _
theorem Zg(v:Int)(n d:Nat):(if v<0 then max (v+(n:Int)) 0 else min v (n:Int))=((sIx n d (some v):Nat):Int):=by
 show(if v<0 then max (v+(n:Int)) 0 else min v (n:Int))=(((if v<0 then(v+(n:Int)).toNat else min v.toNat n):Nat):Int)
 by_cases hv:v<0
 ·simp only[if_pos hv]; omega
 ·simp only[if_neg hv]; omega
theorem Ym(lo hi:Option Int)(n:Nat):Builtin.Slice.sliceAdjust lo hi 1 (n:Int)=(((sIx n 0 lo:Nat):Int),((sIx n n hi:Nat):Int)):=by
 have h1:¬ ((1:Int)<0):=by omega
 unfold Builtin.Slice.sliceAdjust
 simp only[h1,if_false]
 refine Prod.ext ?_ ?_
 ·cases lo with
  | none=>rfl
  | some v=>exact Zg v n 0
 ·cases hi with
  | none=>rfl
  | some v=>exact Zg v n n
theorem Yn(i j:Nat):Builtin.Slice.slicePlaces (i:Int) (j:Int) 1=j-i:=by
 unfold Builtin.Slice.slicePlaces
 have h1:(1:Int)>0:=by omega
 simp only[h1,if_true,Int.ediv_one]
 split<;>omega
theorem Us{v:Value}{o:Option Int}{Q:Option Int->Shared->Prop}(p:IsPart v o)(h:Q o s):wpAny (model prog w) A (Builtin.Slice.slicePartIndex v) Q E s:=by
 cases p with
 | none=>exact slicePart_none h
 | int i t=>exact slicePart_int h
theorem Jz{sl:Addr}{vl vu:Value}{lo hi:Option Int}{n:Nat}{Q:Int×Int×Nat->Shared->Prop}(hs:s.heap.IsSliceOf sl vl vu .none)(pl:IsPart vl lo)(pu:IsPart vu hi)
  (h:Q (((sIx n 0 lo:Nat):Int),1,sIx n n hi-sIx n 0 lo) s):wpAny (model prog w) A (Builtin.Slice.sliceApplied (.ref sl) (pure (n:Int))) Q E s:=by
 obtain⟨os,hos,hcs,hds⟩:=id hs
 unfold Builtin.Slice.sliceApplied Builtin.Slice.sliceFields
 refine wpAny_bind (wpAny_bind (wpAny_field hos hds (x:=vl) rfl (wpAny_bind (wpAny_field hos hds (x:=vu) rfl (wpAny_bind (wpAny_field hos hds (x:=.none) rfl (wpAny_pure ?_)))))))
 refine wpAny_bind (slicePart_none ?_)
 show wpAny _ _ (if((1:Int)==0)=true then _ else _) _ _ s
 rw[if_neg (by decide)]
 refine wpAny_bind (Us pl (wpAny_bind (Us pu (wpAny_bind (wpAny_pure ?_)))))
 show wpAny _ _ (match Builtin.Slice.sliceAdjust lo hi 1 (n:Int) with | (lo,hi)=>pure (lo,(1:Int),Builtin.Slice.slicePlaces lo hi 1)) _ _ s
 rw[Ym lo hi n]
 show wpAny _ _ (pure (((sIx n 0 lo:Nat):Int),(1:Int),Builtin.Slice.slicePlaces ((sIx n 0 lo:Nat):Int) ((sIx n n hi:Nat):Int) 1)) _ _ s
 rw[Yn]
 exact wpAny_pure h
theorem Gbh(xs:Array Value)(i k:Nat):((List.range k).filterMap fun(m:Nat)=>xs[((i:Int)+(m:Int)*1).toNat]?).toArray=((xs.toList.drop i).take k).toArray:=by
 have e:(fun(m:Nat)=>xs[((i:Int)+(m:Int)*1).toNat]?)=fun m=>xs[i+m]?:=by
  funext m
  have:((i:Int)+(m:Int)*1).toNat=i+m:=by omega
  rw[this]
 rw[e]
 have:=pick_run xs i k
 rw[List.filterMap_map] at this
 have e2:((fun x=>xs[x]?)∘fun x=>i+x)=fun m=>xs[i+m]?:=rfl
 rw[e2] at this
 rw[this]
theorem Qg{t sl:Addr}{items:Array Value}{vl vu:Value}{lo hi:Option Int}{Q:Value->Shared->Prop}(ht:IsTup s.heap t items)(hs:s.heap.IsSliceOf sl vl vu .none)(pl:IsPart vl lo)(pu:IsPart vu hi)
  (hw:¬ (sIx items.size 0 lo=0/\sIx items.size items.size hi=items.size))
  (h:Q (.ref s.heap.objs.size) { s with heap:=s.heap.push { cls:=.type "tuple",data:=.seq ((items.toList.drop (sIx items.size 0 lo)).take (sIx items.size items.size hi-sIx items.size 0 lo)).toArray } })
  (hsz:items.size<=sizeLine):wpAny (model prog w) A (getItem (.ref t) (.ref sl)) Q E s:=by
 have htake:sizeOk (.seq ((items.toList.drop (sIx items.size 0 lo)).take (sIx items.size items.size hi-sIx items.size 0 lo)).toArray):=by
  show((items.toList.drop (sIx items.size 0 lo)).take (sIx items.size items.size hi-sIx items.size 0 lo)).toArray.size<=sizeLine
  rw[List.size_toArray,List.length_take,List.length_drop,Array.length_toList]
  omega
 have hj:sIx items.size items.size hi<=items.size:=Ggo _ _ (Nat.le_refl _) hi
 obtain⟨os,hos,hcs,hds⟩:=id hs
 have hTs:s.TypeIs (.ref sl) "slice":=⟨os,hos,hcs⟩
 unfold getItem
 try with_reducible refine wpAny_holding ?_
 first | refine wpAny_bind (wpAny_pure ?_) | skip
 refine wpAny_bind (wpAny_sequenceKey ht.typeIs (by decide) ?_)
 refine wpAny_bind (wpAny_callSpecial?_slot (name:=Str.ofString "__getitem__") ht.typeIs PyProof.Rows.slot_tuple_getitem
  (wpAny_call_entry PyProof.Rows.slot_tuple_getitem ht.typeIs entry_tuple_getitem ?_ (args_tuple_getitem _ _)))
 show wpAny _ _ (Builtin.Tuple.tupleItemsOf (.ref t) >>= _) _ _ s
 refine wpAny_bind (tupleItemsOf_ ht ?_)
 refine wpAny_bind (wpAny_typeOf hTs ?_)
 rw[if_pos (by decide)]
 refine wpAny_bind (Jz hs pl pu ?_)
 have hno:¬ ((((sIx items.size 0 lo:Nat):Int)==0&&(1:Int)==1&&(sIx items.size items.size hi-sIx items.size 0 lo)==items.size)=true):=by
  intro q
  rw[Bool.and_eq_true,Bool.and_eq_true] at q
  have q1:((sIx items.size 0 lo:Nat):Int)=0:=eq_of_beq q.1.1
  have q2:sIx items.size items.size hi-sIx items.size 0 lo=items.size:=eq_of_beq q.2
  exact hw ⟨by omega,by omega⟩
 show wpAny _ _ (if(((sIx items.size 0 lo:Nat):Int)==0&&(1:Int)==1&&(sIx items.size items.size hi-sIx items.size 0 lo)==items.size)=true then _ else _) _ _ s
 rw[if_neg hno,Gbh]
 first
  | exact wpAny_bind (m:=Builtin.Tuple.tupleExact _) (wpAny_newObj_type (wpAny_pure ⟨_,rfl,wpAny_pure h⟩) htake)
  | exact wpAny_bind (m:=Builtin.Tuple.tupleExact _) (wpAny_newObj_type (wpAny_bind (wpAny_pure (wpAny_pure ⟨_,rfl,wpAny_pure h⟩))) htake)
  | exact wpAny_bind (wpAny_bind (m:=Builtin.Tuple.tupleExact _) (wpAny_newObj_type (wpAny_pure (wpAny_pure ⟨_,rfl,wpAny_pure h⟩)) htake))
  | exact wpAny_bind (wpAny_bind (m:=Builtin.Tuple.tupleExact _) (wpAny_newObj_type (wpAny_pure ⟨_,rfl,wpAny_pure h⟩) htake))
end
end HT
namespace L2
open PySem PySem.Spec PyProof.Rows
variable{xs:List V}{n:Nat}{pins:List (Addr×Obj)}{σ:St}{H:Hp}{its:List Value}
abbrev TO:=St->Hp->(Option Int->Hp->Prop)->Prop
def PO(X:Cx)(e:Option Expr)(t:TO):Prop:=
 ∀ (pins:List (Addr×Obj)) (s:Shared) (σ:St) (H:Hp) (Q:Option Int->Hp->Prop),Inv X pins σ H s->t σ H Q→
  wpAny (model X.prog X.w) X.A (evalPart e X.env) (fun u s'=>∃ o H',Inv X pins σ H' s'/\IsPart u o/\Q o H') X.xe s
def Gdm:TO:=fun _ H Q=>Q none H
def Gjx(t:TE):TO:=fun σ H Q=>t σ H fun x H1=>∃ i,x=.int i/\Q (some i) H1
theorem Yo{ns:List Int}:∀ {us:List Value},Vals (ns.map V.int) us->IntsAre us ns:=by
 induction ns with
 | nil=>intro us r; rw[List.map_nil] at r; cases r; exact .nil
 | cons n ns ih=>
  intro us r
  rw[List.map_cons] at r
  cases r with
  | cons r1 r2=>
   obtain⟨t,e⟩:=r1
   subst e
   exact .cons n t (ih r2)
section
variable{X:Cx}{e:Expr}{te:TE}{lo hi:Option Expr}{tl th:TO}{pos p2:Pos}
theorem Gdn:PO X none Gdm:=by
 intro pins s σ H Q I h
 rw[evalPart_none]
 exact wpAny_pure ⟨none,H,I,.none,h⟩
theorem Gdo(h:PE X e te):PO X (some e) (Gjx te):=by
 intro pins s σ H Q I hw
 rw[evalPart_some]
 refine thn (h pins s σ H _ I hw) fun u s1 ⟨x,H1,I1,r1,q1⟩=>?_
 obtain⟨i,rfl,q⟩:=q1
 obtain⟨t,rfl⟩:=r1
 exact⟨some i,H1,I1,.int i t,q⟩
def SlR(X:Cx)(r:V->Option Int->Option Int->Hp->VK->Prop):Prop:=
 ∀ (pins:List (Addr×Obj)) (s:Shared) (σ:St) (H:Hp) (x:V) (v vl vu:Value) (lo hi:Option Int) (sl:Addr) (Q:VK),Inv X pins σ H s->Go x v->s.heap.IsSliceOf sl vl vu .none->IsPart vl lo->IsPart vu hi->r x lo hi H Q→
  ∃ T id,typeLookup (.type T) "__getitem__"=pure (some (.builtin id))/\s.TypeIs v T/\wpAny (model X.prog X.w) X.A (getItem v (.ref sl)) (EP X pins σ Q) X.xe s
theorem SlR.or{r r':V->Option Int->Option Int->Hp->VK->Prop}(h:SlR X r)(h':SlR X r'):SlR X (fun x lo hi H Q=>r x lo hi H Q\/r' x lo hi H Q):=by
 intro pins s σ H x v vl vu lo hi sl Q I rx hs pl pu q
 rcases q with q | q
 ·exact h pins s σ H x v vl vu lo hi sl Q I rx hs pl pu q
 ·exact h' pins s σ H x v vl vu lo hi sl Q I rx hs pl pu q
def tSl(r:V->Option Int->Option Int->Hp->VK->Prop)(te:TE)(tl th:TO):TE:=fun σ H Q=>te σ H fun x H1=>tl σ H1 fun l H2=>th σ H2 fun u H3=>r x l u H3 Q
theorem Gbi{r:V->Option Int->Option Int->Hp->VK->Prop}(hr:SlR X r)(he:PE X e te)(hl:PO X lo tl)(hu:PO X hi th):PE X (.Subscript e (.Slice lo hi none p2) pos) (tSl r te tl th):=by
 intro pins s σ H Q I h
 refine Subscript_ (thn (he pins s σ H _ I h) fun v s1 ⟨x,H1,I1,r1,q1⟩=>?_)
 refine wpAny_Slice (thn (hl pins s1 σ H1 _ I1 q1) fun vl s2 ⟨l,H2,I2,pl,q2⟩=>thn (hu pins s2 σ H2 _ I2 q2) fun vu s3 ⟨u,H3,I3,pu,q3⟩=>?_)
 rw[evalPart_none]
 refine wpAny_pure ?_
 have I4:Inv X pins σ H3 { s3 with heap:=s3.heap.push { cls:=.type "slice",data:=.fields #[vl,vu,.none] } }:=I3.kept (t':=s3.toks) fun b ob q=>Heap.get?_push_of_some _ q
 obtain⟨T,id,hT,ht,hg⟩:=hr pins { s3 with heap:=s3.heap.push { cls:=.type "slice",data:=.fields #[vl,vu,.none] } } σ H3 x v vl vu l u s3.heap.objs.size Q I4 r1 (Heap.IsSliceOf.new ..) pl pu q3
 show wpAny (model X.prog X.w) X.A (subscriptTail e (.Slice lo hi none p2) v (.ref s3.heap.objs.size)) (EP X pins σ Q) X.xe { s3 with heap:=s3.heap.push { cls:=.type "slice",data:=.fields #[vl,vu,.none] } }
 exact tail_any (ops:=[.ref s3.heap.objs.size,v]) ht hT hg (by with_unfolding_all rfl)
def Xk(xs:List V)(lo hi:Option Int):List V:=(xs.drop (HT.sIx xs.length 0 lo)).take (HT.sIx xs.length xs.length hi-HT.sIx xs.length 0 lo)
theorem Ua(xs:List V)(lo hi:Option Int):(Xk xs lo hi).length<=xs.length:=by
 unfold Xk
 rw[List.length_take,List.length_drop]
 omega
def Glx(K:PySem.W.Frag):V->Option Int->Option Int->Hp->VK->Prop:=fun x lo hi H Q=>∃ a xs,x=.ref a/\SqT K H a xs∧
 ¬ (HT.sIx xs.length 0 lo=0/\HT.sIx xs.length xs.length hi=xs.length)/\∀ p,H p=none->Q (.ref p) (upd H p (.tup (Xk xs lo hi)))
theorem Ggp:SlR X (Glx X.K):=by
 intro pins s σ H x v vl vu lo hi sl Q I rx hs pl pu h
 obtain⟨a,xs,rfl,hx,hw,q⟩:=h
 cases rx
 obtain⟨its,r,ht,hz⟩:=I.tuple hx
 have hlen:its.toArray.size=xs.length:=by rw[List.size_toArray]; exact r.length.symm
 refine⟨"tuple",_,PyProof.Rows.slot_tuple_getitem.lookup,ht.typeIs,?_⟩
 refine HT.Qg ht hs pl pu (by rw[hlen]; exact hw) ?_ (by rw[hlen]; exact hz)
 rw[hlen]
 refine⟨.ref s.heap.objs.size,_,I.laid (t':=s.toks) (o:=.tup (Xk xs lo hi)) (fun b ob q=>Heap.get?_push_of_some _ q) (Nat.le_refl _) ?_,rfl,q _ (I.hok.fresh (Nat.le_refl _))⟩
 exact⟨Nat.le_trans (Ua xs lo hi) hz,_,(r.drop (HT.sIx xs.length 0 lo)).take (HT.sIx xs.length xs.length hi-HT.sIx xs.length 0 lo),IsTup.new _ _⟩
def Gey(K:PySem.W.Frag):R2:=fun x y H Q=>∃ a b xs ys,x=.ref a/\y=.ref b/\SqT K H a xs/\SqT K H b ys/\xs≠[]/\xs.length+ys.length<=sizeLine∧
 (ys=[]->Q (.ref a) H)/\(ys≠[]->∀ p,H p=none->Q (.ref p) (upd H p (.tup (xs++ys))))
theorem Vals.nil_iff{us:List Value}(r:Vals xs us):us=[]↔xs=[]:=by
 cases r with
 | nil=>simp
 | cons _ _=>simp
theorem Gdp:OpR X (binaryOp .Add) (Gey X.K):=by
 intro pins s σ H x y v u Q I rx ry h
 obtain⟨a,b,xs,ys,rfl,rfl,ha,hb,hx,hz,q1,q2⟩:=h
 cases rx
 cases ry
 obtain⟨its,r1,p1,_⟩:=I.tuple ha
 obtain⟨its2,r2,p2,_⟩:=I.tuple hb
 refine HT.Gdl p1 p2 (fun z=>hx (r1.nil_iff.mp z)) (fun z=>⟨.ref a,H,I,rfl,q1 (r2.nil_iff.mp z)⟩) (fun z=>?_) (by rw[<- r1.length,<- r2.length]; exact hz)
 refine⟨.ref s.heap.objs.size,_,I.laid (t':=s.toks) (o:=.tup (xs++ys)) (fun b ob q=>Heap.get?_push_of_some _ q) (Nat.le_refl _) ?_,rfl,q2 (fun w=>z (r2.nil_iff.mpr w)) _ (I.hok.fresh (Nat.le_refl _))⟩
 exact⟨by rw[List.length_append]; exact hz,_,r1.append r2,IsTup.new _ _⟩
end
def ixN(n:Nat)(i:Int):Option Nat:=if 0<=i then(if i<n then some i.toNat else none) else if -(n:Int)<=i then some (i+n).toNat else none
def atI{α:Type}(xs:List α)(i:Int):Option α:=(ixN xs.length i).bind fun j=>xs[j]?
theorem Zh{i:Int}{j:Nat}(h:ixN n i=some j):seqIndex? i n=some j/\j<n /\ -(n:Int)<=i/\i<n:=by
 unfold ixN at h
 by_cases h0:0<=i
 ·rw[if_pos h0] at h
  by_cases h1:i<n
  ·rw[if_pos h1] at h
   have e:i.toNat=j:=Option.some.inj h
   exact⟨by rw[seqIndex_of h0 h1,e],by omega,by omega,h1⟩
  ·rw[if_neg h1] at h; cases h
 ·rw[if_neg h0] at h
  by_cases h1 : -(n:Int)<=i
  ·rw[if_pos h1] at h
   have e:(i+n).toNat=j:=Option.some.inj h
   exact⟨by rw[seqIndex_neg (by omega) h1,e],by omega,h1,by omega⟩
  ·rw[if_neg h1] at h; cases h
theorem Wg{α:Type}{xs:List α}{i:Int}{v:α}(h:atI xs i=some v):∃ j,seqIndex? i xs.length=some j/\xs[j]?=some v/\j<xs.length /\ -(xs.length:Int)<=i/\i<xs.length:=by
 unfold atI at h
 cases e:ixN xs.length i with
 | none=>rw[e] at h; cases h
 | some j=>
  rw[e] at h
  obtain⟨h1,h2,h3,h4⟩:=Zh e
  exact⟨j,h1,h,h2,h3,h4⟩
def Ul(b:Expr):Prop:=∀ o i,subscripted b false o i=operate [o,i] (getItem o i)
def IxR(X:Cx)(r:R2):Prop:=
 ∀ (value slice:Expr) (pins:List (Addr×Obj)) (s:Shared) (σ:St) (H:Hp) (x y:V) (v u:Value) (Q:VK),Inv X pins σ H s->Go x v->Go y u->r x y H Q→
  subscripted slice false v u=operate [v,u] (getItem v u)->wpAny (model X.prog X.w) X.A (subscriptTail value slice v u) (EP X pins σ Q) X.xe s
def MtR(X:Cx)(id:String)(r:V->List V->Hp->VK->Prop):Prop:=
 ∀ (pins:List (Addr×Obj)) (s:Shared) (σ:St) (H:Hp) (x:V) (xs:List V) (v:Value) (us:List Value) (Q:VK),Inv X pins σ H s->Go x v->Vals xs us->r x xs H Q→
  wpAny (model X.prog X.w) X.A (call (.builtin id) (v::us)) (EP X pins σ Q) X.xe s
section
variable{X:Cx}{a b:Expr}{ta tb:TE}{pos:Pos}
theorem IxR.or{r r':R2}(h:IxR X r)(h':IxR X r'):IxR X (fun x y H Q=>r x y H Q\/r' x y H Q):=by
 intro value slice pins s σ H x y v u Q I rx ry q hs
 rcases q with q | q
 ·exact h value slice pins s σ H x y v u Q I rx ry q hs
 ·exact h' value slice pins s σ H x y v u Q I rx ry q hs
theorem Gjy{r:R2}(hr:IxR X r)(ha:PE X a ta)(hb:PE X b tb)(hs:Ul b):PE X (.Subscript a b pos) (tOp r ta tb):=by
 intro pins s σ H Q I h
 exact Subscript_ (Gga ha hb I h fun v u s2 x y H2 I2 rx ry q=>hr a b pins s2 σ H2 x y v u Q I2 rx ry q (hs _ _))
def Gjz(K:PySem.W.Frag):R2:=fun x y H Q=>∃ p xs i v,x=.ref p/\y=.int i/\SqL K H p xs/\atI xs i=some v/\Q v H
def Gj0(K:PySem.W.Frag):R2:=fun x y H Q=>∃ p xs i v,x=.ref p/\y=.int i/\SqT K H p xs/\atI xs i=some v/\Q v H
def Gj1:R2:=fun x y H Q=>∃ z i c,x=.str z/\y=.int i/\z.length<=sizeLine/\atI z.cps.toList i=some c/\Q (.str ⟨#[c]⟩) H
theorem Gdq:IxR X (Gjz X.K):=by
 intro value slice pins s σ H x y v u Q I rx ry h hs
 obtain⟨p,xs,i,z,rfl,rfl,hq,he,q⟩:=h
 cases rx
 obtain⟨t,rfl⟩:=ry
 obtain⟨its,r,pl,hz⟩:=I.list hq
 obtain⟨j,h1,h2,h3,h4,h5⟩:=Wg he
 obtain⟨w,ew,rw'⟩:=r.get h2
 have hl:=r.length
 have hn:=Qq
 have fin:EP X pins σ Q w s:=⟨z,H,I,rw',q⟩
 by_cases h0:0<=i
 ·have hj:i.toNat=j:=by
   rw[seqIndex_of h0 h5] at h1
   exact Option.some.inj h1
  exact item_listR pl.isList h0 (by omega) (by rw[hj]; simpa using ew) fin hs
 ·have hj:(i+(its.toArray.size:Int)).toNat=j:=by
   rw[seqIndex_neg (by omega) h4] at h1
   rw[List.size_toArray,<- hl]
   exact Option.some.inj h1
  exact subscriptTail_builtinR (x:=w) pl.isList.typeIs slot_list_getitem.lookup
   (wpAny_getItem_list_neg (Q:=fun r s'=>r=w/\EP X pins σ Q r s') pl.isList (by omega) (by rw[List.size_toArray]<;>omega) (by omega) (by rw[hj]; simpa using ew) ⟨rfl,fin⟩) hs
theorem Ggq:IxR X (Gj0 X.K):=by
 intro value slice pins s σ H x y v u Q I rx ry h hs
 obtain⟨p,xs,i,z,rfl,rfl,hq,he,q⟩:=h
 cases rx
 obtain⟨t,rfl⟩:=ry
 obtain⟨its,r,pl,hz⟩:=I.tuple hq
 obtain⟨j,h1,h2,h3,h4,h5⟩:=Wg he
 obtain⟨w,ew,rw'⟩:=r.get h2
 have hl:=r.length
 have hn:=Qq
 have fin:EP X pins σ Q w s:=⟨z,H,I,rw',q⟩
 exact subscriptTail_builtinR (x:=w) pl.typeIs slot_tuple_getitem.lookup
  (getItem_tuple (j:=j) (Q:=fun r s'=>r=w/\EP X pins σ Q r s') pl (by omega) (by omega) (by rw[List.size_toArray,<- hl]; exact h1) (by simpa using ew) ⟨rfl,fin⟩) hs
theorem Ggr:IxR X Gj1:=by
 intro value slice pins s σ H x y v u Q I rx ry h hs
 obtain⟨z,i,c,rfl,rfl,hz,he,q⟩:=h
 obtain⟨t,rfl⟩:=rx
 obtain⟨t',rfl⟩:=ry
 obtain⟨j,h1,h2,h3,h4,h5⟩:=Wg he
 have hl:z.cps.toList.length=z.length:=by simp[Str.length]
 rw[hl] at h1 h4 h5
 have hn:=Qq
 exact tail_any (typeIs_str s z t) slot_str_getitem.lookup (getItem_str (c:=c) (by
  have e1:decide (i < -(2^63:Int))=false:=decide_eq_false (by omega)
  have e2:decide (i≥2^63)=false:=decide_eq_false (by omega)
  rw[e1,e2,Bool.or_false]) (by rw[h1]; simpa using h2) ⟨.str ⟨#[c]⟩,H,I.tok _,⟨_,rfl⟩,q⟩) hs
def rIx(K:PySem.W.Frag):R2:=fun x y H Q=>Gjz K x y H Q\/Gj0 K x y H Q\/Gj1 x y H Q
theorem Ggs:IxR X (rIx X.K):=Gdq.or (Ggq.or Ggr)
theorem Yp(its:List Value)(n j:Nat)(u:Value):Obj.mapSeq (·.setIfInBounds j u) { cls:=.type "list",data:=.seq its.toArray n }={ cls:=.type "list",data:=.seq (its.set j u).toArray n }:=by
 simp[Obj.mapSeq]
theorem Inv.lst{s:Shared}{p:Addr}(I:Inv X pins σ H s)(h:H p=some (.lst xs)):
  ∃ (its:List Value) (n:Nat),Vals xs its/\s.heap.get? p=some { cls:=.type "list",data:=.seq its.toArray n }/\xs.length<=sizeLine:=by
 obtain⟨z,its,n,r,e⟩:=I.hok p _ h
 exact⟨its,n,r,e,z⟩
theorem Inv.lstUpd{s:Shared}{p:Addr}{ys:List V}{its':List Value}{n':Nat}{f:Obj->Obj}(I:Inv X pins σ H s)(h:H p=some (.lst xs))(ho:s.heap.get? p=some { cls:=.type "list",data:=.seq its.toArray n })(hf:f { cls:=.type "list",data:=.seq its.toArray n }={ cls:=.type "list",data:=.seq its'.toArray n' })(r:Vals ys its')(hz:ys.length<=sizeLine)(t:Nat):
  Inv X pins σ (upd H p (.lst ys)) { s with heap:=s.heap.update p f,toks:=t }:=by
 have e:(s.heap.update p f).get? p=some { cls:=.type "list",data:=.seq its'.toArray n' }:=by
  rw[Heap.get?_update_self f ho (by rw[hf]<;>rfl),hf]
 refine I.write (x:=p) (e:=p) (by rw[h]; trivial) (.inl rfl) (fun b u hb q=>(Heap.get?_update_other _ _ (Ne.symm hb)).trans q) ⟨_,e⟩ ?_
 exact⟨hz,its',n',r,e⟩
def Gez:V->V->V->Hp->(Hp->Prop)->Prop:=fun o i v H Q=>∃ p xs k j,o=.ref p/\i=.int k/\H p=some (.lst xs)/\ixN xs.length k=some j/\Q (upd H p (.lst (xs.set j v)))
theorem Gbj:Gf4 X Gez:=by
 intro pins s σ H o i v ov iv u Q I ro ri rv h
 obtain⟨p,xs,k,j,rfl,rfl,hp,hj,q⟩:=h
 cases ro
 obtain⟨t,rfl⟩:=ri
 obtain⟨its,n,r,ho,hz⟩:=I.lst hp
 obtain⟨h1,h2,h3,h4⟩:=Zh hj
 have hl:=r.length
 have hn:=Qq
 have I':Inv X pins σ (upd H p (.lst (xs.set j v))) { s with heap:=s.heap.update p (Obj.mapSeq (·.setIfInBounds j u)) }:=
  I.lstUpd hp ho (Yp its n j u) (r.set rv j) (by rw[List.length_set]; exact hz) s.toks
 by_cases h0:0<=k
 ·have hk:k.toNat=j:=by
   rw[seqIndex_of h0 h4] at h1
   exact Option.some.inj h1
  exact PySem.W.ki_setAt ho h0 (by omega) (by rw[List.size_toArray,<- hl]; exact h4) (by rw[hk]; exact⟨_,I',q⟩)
 ·have hk:(k+(its.toArray.size:Int)).toNat=j:=by
   rw[seqIndex_neg (by omega) h3] at h1
   rw[List.size_toArray,<- hl]
   exact Option.some.inj h1
  exact PySem.W.ki_setBack ho (by omega) (by rw[List.size_toArray,<- hl]; exact h3) (by omega) (by rw[hk]; exact⟨_,I',q⟩)
theorem Wh(lo hi:Option Int)(n:Nat):(sliceBounds lo hi none n).1=((HT.sIx n 0 lo:Nat):Int)/\(sliceBounds lo hi none n).2.1=((HT.sIx n n hi:Nat):Int)/\(sliceBounds lo hi none n).2.2=1:=by
 refine⟨?_,?_,rfl⟩
 ·cases lo with
  | none=>simp[sliceBounds,HT.sIx]
  | some i=>
   simp only[sliceBounds,HT.sIx,Option.getD_none,show(1:Int)>0 by decide,if_true]
   by_cases h:i<0
   ·simp only[h,if_true]<;>omega
   ·simp only[h,if_false]<;>omega
 ·cases hi with
  | none=>simp[sliceBounds,HT.sIx]
  | some i=>
   simp only[sliceBounds,HT.sIx,Option.getD_none,show(1:Int)>0 by decide,if_true]
   by_cases h:i<0
   ·simp only[h,if_true]<;>omega
   ·simp only[h,if_false]<;>omega
theorem Vh(its:List Value)(lo hi:Option Int):slicePick its.toArray lo hi none=((its.drop (HT.sIx its.length 0 lo)).take (HT.sIx its.length its.length hi-HT.sIx its.length 0 lo)).toArray:=by
 obtain⟨h1,h2,h3⟩:=Wh lo hi its.toArray.size
 unfold slicePick
 rw[h1,h2,h3]
 simp only[sliceRange_one,pick_run,List.size_toArray]<;>rfl
def Gly(K:PySem.W.Frag):V->Option Int->Option Int->Hp->VK->Prop:=fun x lo hi H Q=>∃ a xs,x=.ref a/\SqL K H a xs/\∀ p,H p=none->Q (.ref p) (upd H p (.lst (Xk xs lo hi)))
theorem Gdr:SlR X (Gly X.K):=by
 intro pins s σ H x v vl vu lo hi sl Q I rx hs pl pu h
 obtain⟨a,xs,rfl,hx,q⟩:=h
 cases rx
 obtain⟨its,r,ht,hz⟩:=I.list hx
 have hlen:=r.length
 refine⟨"list",_,slot_list_getitem.lookup,ht.isList.typeIs,?_⟩
 refine wpAny_getItem_list_slice ht.isList hs pl pu .none (by simp) ?_ (by rw[List.size_toArray]<;>omega)
 rw[Vh,<- hlen]
 refine⟨.ref s.heap.objs.size,_,I.laid (t':=s.toks) (o:=.lst (Xk xs lo hi)) (fun b ob q=>Heap.get?_push_of_some _ q) (Nat.le_refl _) ?_,rfl,q _ (I.hok.fresh (Nat.le_refl _))⟩
 exact⟨Nat.le_trans (Ua xs lo hi) hz,_,0,(r.drop (HT.sIx xs.length 0 lo)).take (HT.sIx xs.length xs.length hi-HT.sIx xs.length 0 lo),Heap.get?_push_size _ rfl⟩
theorem Wi:Ko X (.type "list") (fun xs H Q=>∃ p ys,xs=[.ref p]/\(SqL X.K H p ys\/SqT X.K H p ys)/\∀ l,H l=none->Q (.ref l) (upd H l (.lst ys))):=by
 intro pins s σ H xs us Q I r h
 obtain⟨p,ys,rfl,hq,q⟩:=h
 obtain⟨u,rfl,rx⟩:=Zf r
 cases rx
 have fin:∀ (its:List Value),Vals ys its->ys.length<=sizeLine->∀ (h':Heap) (c':Nat),(∀ b o',s.heap.get? b=some o'->h'.get? b=some o')→
   h'.get? s.heap.objs.size=some { cls:=.type "list",dict:=none,data:=.seq its.toArray c',slots:=#[] }->EP X pins σ Q (.ref s.heap.objs.size) { s with heap:=h' }:=fun its r' hz h' c' kp e=>
  ⟨.ref s.heap.objs.size,_,I.laid (t':=s.toks) kp (Nat.le_refl _) (show Ji X.prog X.w _ h' _ (.lst ys) from⟨hz,its,c',r',e⟩),rfl,q _ (I.hok.fresh (Nat.le_refl _))⟩
 rcases hq with hq | hq
 ·obtain⟨its,r',pl,hz⟩:=I.list hq
  have hlen:=r'.length
  obtain⟨o,ho,hc,n,hd⟩:=pl.isList
  exact call_list_seq p (.inl rfl) ho hc hd (fun h' c' kp e=>fin its r' hz h' c' kp e) (by simp only[List.size_toArray]<;>omega)
 ·obtain⟨its,r',pl,hz⟩:=I.tuple hq
  have hlen:=r'.length
  obtain⟨o,ho,hc,n,hd⟩:=pl
  exact call_list_seq p (.inr rfl) ho hc hd (fun h' c' kp e=>fin its r' hz h' c' kp e) (by simp only[List.size_toArray]<;>omega)
theorem Vi:Ko X (.type "tuple") (fun xs H Q=>∃ p ys,xs=[.ref p]/\((SqL X.K H p ys/\∀ l,H l=none->Q (.ref l) (upd H l (.tup ys)))\/(SqT X.K H p ys/\Q (.ref p) H))):=by
 intro pins s σ H xs us Q I r h
 obtain⟨p,ys,rfl,h⟩:=h
 obtain⟨u,rfl,rx⟩:=Zf r
 cases rx
 rcases h with⟨hq,q⟩ | ⟨hq,q⟩
 ·obtain⟨its,r',pl,hz⟩:=I.list hq
  have hlen:=r'.length
  refine call_tuple_list pl.isList (fun h' kp=>?_) (by simp only[List.size_toArray]<;>omega)
  have I1:Inv X pins σ H { s with heap:=h' }:=I.kept (t':=s.toks) kp
  have I2:Inv X pins σ (upd H h'.objs.size (.tup ys)) { s with heap:=h'.push { cls:=.type "tuple",data:=.seq its.toArray } }:=
   I1.laid (t':=s.toks) (fun b o e=>Heap.get?_push_of_some _ e) (Nat.le_refl _) (show Ji X.prog X.w _ _ _ (.tup ys) from⟨hz,its,r',IsTup.new _ _⟩)
  exact⟨.ref h'.objs.size,_,I2,rfl,q _ (I1.hok.fresh (Nat.le_refl _))⟩
 ·obtain⟨its,r',pl,hz⟩:=I.tuple hq
  exact call_tuple_same pl ⟨.ref p,H,I,rfl,q⟩
def tyV(K:PySem.W.Frag)(T:String)(x:V)(H:Hp):Prop:=match x with
 | .str _=>T="str"
 | .int _=>T="int"
 | .ref p=>(T="list"/\∃ xs,SqL K H p xs)\/(T="tuple"/\∃ o,K.lookup p=some o/\o.cls=.type "tuple"/\o.dict=none)∨
   (T="dict"/\((∃ kvs,H p=some (.dK kvs))\/∃ kvs,H p=some (.dT kvs)))\/(T="set"/\∃ S n,H p=some (.set S n))
 | _=>False
theorem Ggt{s:Shared}{T:String}{x:V}{v:Value}(I:Inv X pins σ H s)(r:Go x v)(ty:tyV X.K T x H):
  s.TypeIs v T/\∀ a,v=.ref a->∃ ob,s.heap.get? a=some ob/\ob.dict=none:=by
 cases x with
 | str z=>
  obtain⟨t,rfl⟩:=r
  cases (show T="str" from ty)
  exact⟨typeIs_str s z t,fun _ e=>nomatch e⟩
 | int i=>
  obtain⟨t,rfl⟩:=r
  cases (show T="int" from ty)
  exact⟨typeIs_int s i t,fun _ e=>nomatch e⟩
 | ref p=>
  cases r
  rcases ty with⟨rfl,xs,hq⟩ | ⟨rfl,o,hk,hc,hd⟩ | ⟨rfl,hk⟩ | ⟨rfl,S,n,hk⟩
  ·obtain⟨its,_,pl,_⟩:=I.list hq
   refine⟨pl.isList.typeIs,fun a e=>?_⟩
   cases e
   obtain⟨o,n,e,c,hd,_⟩:=pl
   exact⟨o,e,hd⟩
  ·refine⟨⟨o,I.kIn p o hk,hc⟩,fun a e=>?_⟩
   cases e
   exact⟨o,I.kIn _ o hk,hd⟩
  ·have z:∃ o,s.heap.get? p=some o/\o.ExactDict:=by
    rcases hk with⟨kvs,hk⟩ | ⟨kvs,hk⟩
    ·obtain⟨_,_,_,_,o,_,_,e,ex,_⟩:=I.hok p _ hk
     exact⟨o,e,ex⟩
    ·obtain⟨_,_,_,_,o,_,_,e,ex,_⟩:=I.hok p _ hk
     exact⟨o,e,ex⟩
   obtain⟨o,e,ex⟩:=z
   refine⟨⟨o,e,ex.1⟩,fun a e2=>?_⟩
   cases e2
   exact⟨o,e,ex.2.1⟩
  ·obtain⟨o,_,_,_,e,ex,_⟩:=I.hok p _ hk
   refine⟨⟨o,e,ex.1⟩,fun a e2=>?_⟩
   cases e2
   exact⟨o,e,ex.2.1⟩
 | _=>exact False.elim ty
def tBM(K:PySem.W.Frag)(T:String)(r:V->List V->Hp->VK->Prop)(to:TE)(t:TA):TE:=fun σ H Q=>to σ H fun x H1=>tyV K T x H1/\t σ H1 fun xs H2=>r x xs H2 Q
variable{o e:Expr}{es:List Expr}{to:TE}{t:TA}{name:Str}{apos cpos:Pos}{T id:String}{r:V->List V->Hp->VK->Prop}
theorem Gj2(pa:PlainAttrs T)(slot:Slot T name id)(hty:typeOf (.builtin id)=pure (.type "method_descriptor"))(hm:MtR X id r)(ho:PE X o to)(ha:PA X (e::es) t)
  (hbase:attributeBase o name X.env (eval o X.env)=eval o X.env:=by rfl)
  (hfew:((backTo cpos (starEach (e::es) X.env)).all (fun x=>!x.1)&&(backToKw cpos (keywordEach [] X.env)).all (fun x=>x.1.isSome)
   && decide ((e::es).length+([]:List Keyword).length+(if([]:List Keyword).isEmpty then 0 else 1)<30))=true:=by rfl)
  (hline:(apos.endLine==cpos.line)=true:=by rfl) (hs:starEach (e::es) X.env=(false,eval e X.env)::starEach es X.env:=by rfl) (hplain:(backTo cpos (starEach es X.env)).any (·.1)=false:=by rfl):
  PE X (.Call (.Attribute o name apos) (e::es) [] cpos) (tBM X.K T r to t):=by
 intro pins s σ H Q I h
 refine wpAny_Call_method_late hbase hfew hline rfl (thn (ho pins s σ H _ I h) fun v s1 ⟨x,H1,I1,r1,ty,q1⟩=>?_)
 obtain⟨h1,h2⟩:=Ggt I1 r1 ty
 refine⟨T,id,pa,slot,hty,h1,h2,?_⟩
 have hA:=ha cpos pins s1 σ H1 _ I1 q1
 rw[hs] at hA ⊢
 refine Calls.callWith_builtin (by show(false||(backTo cpos (starEach es X.env)).any (·.1))=false; rw[hplain]<;>rfl) (Calls.evalArgs_plain ?_)
 exact thn hA fun us s2 ⟨vs,H2,I2,r2,q2⟩=>hm pins s2 σ H2 x vs v us Q I2 r1 r2 q2
end
def MtM(X:Cx)(id:String)(r:V->List V->Hp->VK->Prop):Prop:=
 ∀ (pins:List (Addr×Obj)) (s:Shared) (σ:St) (H:Hp) (x:V) (xs:List V) (v:Value) (us:List Value) (Q:VK),Inv X pins σ H s->Go x v->Vals xs us->r x xs H Q→
  wpAny (model X.prog X.w) X.A (call (.builtin id) (v::us)) (EP X pins σ Q) X.xe s
theorem Vals.one:∀ {x:V} {us:List Value},Vals [x] us->∃ u,us=[u]/\Go x u
 | _,_,.cons r .nil=>⟨_,rfl,r⟩
theorem Vals.two:∀ {x y:V} {us:List Value},Vals [x,y] us->∃ u v,us=[u,v]/\Go x u/\Go y v
 | _,_,_,.cons r (.cons q .nil)=>⟨_,_,rfl,r,q⟩
theorem Vals.eraseIdx:∀ {xs:List V} {us:List Value} (i:Nat),Vals xs us->Vals (xs.eraseIdx i) (us.eraseIdx i)
 | _,_,_,.nil=>.nil
 | _,_,0,.cons _ t=>t
 | _,_,i+1,.cons r t=>.cons r (Vals.eraseIdx i t)
theorem Vals.rep{us:List Value}(h:Vals xs us):∀ k:Nat,Vals (List.replicate k xs).flatten (List.replicate k us).flatten
 | 0=>.nil
 | k+1=>by
  rw[List.replicate_succ,List.replicate_succ,List.flatten_cons,List.flatten_cons]
  exact Vals.append h (Vals.rep h k)
theorem Vv{α:Type}:∀ (l:List α) (i:Nat),(l.eraseIdx i).length<=l.length
 | [],_=>Nat.le_refl _
 | _::_,0=>Nat.le_succ _
 | _::r,i+1=>Nat.succ_le_succ (Vv r i)
theorem Qr(its:List Value):∀ (k:Nat) (acc:List Value),
  List.foldl (fun x1 x2=>x1++x2) acc.toArray (List.replicate k its.toArray)=(acc++(List.replicate k its).flatten).toArray
 | 0,acc=>by simp
 | k+1,acc=>by
  have e:acc.toArray++its.toArray=(acc++its).toArray:=by simp
  have e2:(acc++its)++(List.replicate k its).flatten=acc++(List.replicate (k+1) its).flatten:=by
   rw[List.replicate_succ,List.flatten_cons,List.append_assoc]
  rw[<- e2,<- Qr its k (acc++its),<- e,List.replicate_succ,List.foldl_cons]
section
variable{X:Cx}{pins:List (Addr×Obj)}{σ:St}{H:Hp}{s:Shared}{l b:Addr}{xs ys zs:List V}
theorem Inv.lset{its':List Value}{f:Array Value->Array Value}{t':Nat}(I:Inv X pins σ H s)(hH:H l=some (.lst xs))(e:s.heap.get? l=some { cls:=.type "list",data:=.seq its.toArray n })(hf:f its.toArray=its'.toArray)(hv:Vals ys its')(hz:ys.length<=sizeLine):
  Inv X pins σ (upd H l (.lst ys)) { s with heap:=s.heap.update l (Obj.mapSeq f),toks:=t' }:=by
 have q:=PySem.IsL.update e f
 rw[hf] at q
 refine I.write (x:=l) (e:=l) (by rw[hH]; exact trivial) (.inl rfl) (fun b' u hb hu=>(Heap.get?_update_other s.heap (Obj.mapSeq f) (Ne.symm hb)).trans hu) ⟨_,q⟩ ?_
 exact⟨hz,its',_,hv,q⟩
theorem Inv.lnew{t':Nat}(I:Inv X pins σ H s)(hv:Vals ys its)(hz:ys.length<=sizeLine):
  Inv X pins σ (upd H s.heap.objs.size (.lst ys)) { s with heap:=s.heap.push { cls:=.type "list",data:=.seq its.toArray },toks:=t' }:=
 I.laid (fun _ _ q=>Heap.get?_push_of_some _ q) (Nat.le_refl _) ⟨hz,its,0,hv,Heap.get?_push_size _ rfl⟩
theorem Inv.fresh(I:Inv X pins σ H s):H s.heap.objs.size=none:=I.hok.fresh (Nat.le_refl _)
theorem Inv.lstM(I:Inv X pins σ H s)(hH:H l=some (.lst xs)):xs.length<=sizeLine/\∃ (its:List Value) (n:Nat),Vals xs its/\xs.length=its.length/\s.heap.get? l=some { cls:=.type "list",data:=.seq its.toArray n }:=by
 obtain⟨z,its,n,r,e⟩:=I.hok l _ hH
 exact⟨z,its,n,r,r.length,e⟩
theorem Gbk(h:n<=sizeLine):Builtin.List.listTooLong n=false:=by
 unfold Builtin.List.listTooLong
 exact decide_eq_false (by omega)
end
section
variable{X:Cx}
def Gds:V->List V->Hp->VK->Prop:=fun x vs H Q=>∃ l xs y,x=.ref l/\vs=[y]/\H l=some (.lst xs)/\xs.length<sizeLine/\Q .non (upd H l (.lst (xs++[y])))
theorem Gan:MtM X "list.append" Gds:=by
 intro pins s σ H x vs v us Q I rx rv h
 obtain⟨l,xs,y,rfl,rfl,hH,hz,q⟩:=h
 cases rx
 obtain⟨u,rfl,ru⟩:=rv.one
 obtain⟨z,its,n,r,hl,e⟩:=I.lstM hH
 refine call_meets F.slot_list_append ⟨_,e,rfl⟩ F.entry_list_append (F.args_list_append_2 _ _) (PySem.list_append l its.toArray n u (by rw[List.size_toArray]; omega)) ⟨e,?_⟩
 refine⟨.non,_,I.lset (its':=its++[u]) hH e (by simp) (r.append (.cons ru .nil)) ?_,rfl,q⟩
 rw[List.length_append,List.length_singleton]
 omega
def Gbl:V->List V->Hp->VK->Prop:=fun x vs H Q=>∃ l xs i k y,x=.ref l/\vs=[.int i]/\H l=some (.lst xs) /\ -(2^63)<=i/\i<2^63/\seqIndex? i xs.length=some k/\xs[k]?=some y/\Q y (upd H l (.lst (xs.eraseIdx k)))
theorem Gbm:MtM X "list.pop" Gbl:=by
 intro pins s σ H x vs v us Q I rx rv h
 obtain⟨l,xs,i,k,y,rfl,rfl,hH,h1,h2,hk,hy,q⟩:=h
 cases rx
 obtain⟨u,rfl,ru⟩:=rv.one
 obtain⟨t,rfl⟩:=ru
 obtain⟨z,its,n,r,hl,e⟩:=I.lstM hH
 obtain⟨w,hw,rw'⟩:=r.get hy
 refine call_meets F.slot_list_pop ⟨_,e,rfl⟩ F.entry_list_pop (F.args_list_pop_2 _ _)
  (MeetsSeq.list_pop_at l its.toArray n i t k w (fitsIndex_both h1 h2) (by rw[List.size_toArray,<- hl]; exact hk) (by rw[<- Array.getElem?_toList]; exact hw) (by rw[List.size_toArray]; omega)) ⟨e,?_⟩
 refine⟨y,_,I.lset (its':=its.eraseIdx k) hH e ?_ (r.eraseIdx k) ?_,rw',q⟩
 ·show its.toArray.eraseIdxIfInBounds k=(its.eraseIdx k).toArray
  rw[List.eraseIdxIfInBounds_toArray]
 ·have:=Vv xs k
  omega
def Gj3:R2:=fun x y H Q=>∃ l b xs zs,x=.ref l/\y=.ref b/\H l=some (.lst xs)/\H b=some (.lst zs)/\xs.length+zs.length<=sizeLine/\∀ p,H p=none->Q (.ref p) (upd H p (.lst (xs++zs)))
theorem Ggu:OpR X (binaryOp .Add) Gj3:=by
 intro pins s σ H x y v u Q I rx ry h
 obtain⟨l,b,xs,zs,rfl,rfl,hH,hB,hz,q⟩:=h
 cases rx
 cases ry
 obtain⟨z,its,n,r,hl,e⟩:=I.lstM hH
 obtain⟨z2,its2,n2,r2,hl2,e2⟩:=I.lstM hB
 refine PySem.P.add_list e e2 ?_ (by rw[List.size_toArray,List.size_toArray]; omega)
 have ea:its.toArray++its2.toArray=(its++its2).toArray:=by simp
 rw[ea]
 exact⟨.ref _,_,I.lnew (t':=s.toks) (r.append r2) (by rw[List.length_append]; omega),rfl,q _ I.fresh⟩
def Gj4:R2:=fun x y H Q=>∃ l k xs,x=.ref l/\y=.int k/\H l=some (.lst xs) /\ -(2^63)<=k/\k<2^63/\xs.length*k.toNat<=sizeLine∧
 ∀ p,H p=none->Q (.ref p) (upd H p (.lst (List.replicate k.toNat xs).flatten))
theorem Wj{α:Type}(xs:List α)(k:Nat):(List.replicate k xs).flatten.length=k*xs.length:=by
 induction k with
 | zero=>simp
 | succ k ih=>rw[List.replicate_succ,List.flatten_cons,List.length_append,ih,Nat.succ_mul,Nat.add_comm]
theorem Ggv:OpR X (binaryOp .Mult) Gj4:=by
 intro pins s σ H x y v u Q I rx ry h
 obtain⟨l,k,xs,rfl,rfl,hH,h1,h2,hz,q⟩:=h
 cases rx
 obtain⟨t,rfl⟩:=ry
 obtain⟨z,its,n,r,hl,e⟩:=I.lstM hH
 have hlen:its.toArray.size*k.toNat<=sizeLine:=by rw[List.size_toArray,<- hl]; exact hz
 have hcap:¬ its.toArray.size*k.toNat>(2^63-1) / 8:=by
  have:(sizeLine:Nat)<=(2^63-1) / 8:=by decide
  omega
 have hfit:¬ (!Builtin.List.listFitsIndex k)=true:=by
  rw[fitsIndex_both h1 h2]
  exact Bool.false_ne_true
 have hlong:¬ Builtin.List.listTooLong (its.toArray.size*k.toNat)=true:=by
  rw[Gbk hlen]
  exact Bool.false_ne_true
 have hnew:List.foldl (fun x1 x2=>x1++x2) #[] (List.replicate (if its.toArray.isEmpty=true then 0 else k.toNat) its.toArray)=(List.replicate k.toNat its).flatten.toArray:=by
  have f0:∀ m:Nat,List.foldl (fun x1 x2=>x1++x2) #[] (List.replicate m its.toArray)=(List.replicate m its).flatten.toArray:=fun m=>by
   have:=Qr its m []
   rw[List.nil_append] at this
   exact this
  rw[f0]
  cases its with
  | nil=>simp
  | cons a r'=>rw[if_neg (by simp)]
 refine wpAny_binaryOp_repeat_ref (T:="list") (U:="int") (by decide) ⟨_,e,rfl⟩ (fun s'=>typeIs_int s' k t) noFill_list_mul F.fills_int_mul F.slot_int_rmul repeat_list F.slot_int_index.lookup
  (call_meets F.slot_int_rmul (typeIs_int s k t) F.entry_int_rmul (F.args_int_rmul_2 _ _) (int___rmul___int_list k t l its.toArray n)
   ⟨e,rfl,⟨_,e,rfl⟩,call_meets F.slot_list_mul ⟨_,e,rfl⟩ F.entry_list_mul (F.args_list_mul_2 _ _) (AutoListH.list___mul___list_int_3 l its.toArray n k t hfit hcap hlong) ⟨e,?_⟩⟩)
 rw[hnew]
 exact⟨.ref _,_,I.lnew (t':=s.toks) (r.rep k.toNat) (by rw[Wj,Nat.mul_comm]; exact hz),rfl,q _ I.fresh⟩
end
end L2
namespace Att
open PySem PySem.W PySem.Calls PyProof.Rows
theorem Uf{P:Params}{h:Heap}:∀ (ns:List Int) (vs:List Value),WellAll P h vs (ns.map WData.int)->IntsAre vs ns:=by
 intro ns
 induction ns with
 | nil=>
  intro vs w
  rw[List.map_nil] at w
  cases w
  exact .nil
 | cons n ns ih=>
  intro vs w
  rw[List.map_cons] at w
  cases w with
  | cons a b=>
   cases a
   exact .cons _ _ (ih _ b)
theorem Gao{l:OpenLaw}{n:Nat}(hn:l.most=some n){P:Params}{h:Heap}{args:List WData}{vals:List Value}
  (hpre:l.row.toRowW.claim.pre args=true) (hwl:WellAll P h vals args):
  ∃ a vs ns,vals=[Value.ref a]/\args=[WData.list (ns.map WData.int)]/\h.get? a=some { cls:=.type "list",data:=.seq vs.toArray }/\IntsAre vs ns/\ns.length<=n:=by
 have hsh:WShape.hasAll [] args [.list .int]=true:=(pre_splitW hpre).1
 have hc:l.pre.holds [] { args:=args }=true:=(pre_splitW hpre).2
 obtain⟨d,r,rfl,h1,h2⟩:=hasAllW_cons hsh
 obtain rfl:=hasAllW_nil h2
 obtain⟨xs,rfl,h3⟩:=hasW_list h1
 obtain⟨ns,rfl⟩:=items_int h3
 have hlen:ns.length<=n:=by
  unfold OpenLaw.pre at hc
  have h4:(WTm.not (.lt (.lit (.int (n:Int))) (.len (.arg 0)))).holds [] { args:=[.list (ns.map .int)] }=true:=by
   have h4:=(holds_andW hc).1
   rw[hn] at h4
   exact h4
  have h5:=condW_of h4 (w_not (w_lt w_lit (w_len_list (w_arg rfl))))
  rw[List.length_map] at h5
  refine Nat.le_of_not_lt fun q=>?_
  have q':(n:Int)<((ns.length:Nat):Int):=by omega
  first
   | (rw[decide_eq_true q'] at h5; exact absurd h5 (by decide))
   | (simp at h5; omega)
 cases hwl with
 | cons w1 w2=>
  cases w2
  cases w1 with
  | list ho hall=>exact⟨_,_,ns,rfl,rfl,ho,Uf ns _ hall,hlen⟩
theorem post_true(l:OpenLaw)(args:List WData):l.row.toRowW.claim.post args (.bool true) args=true:=
 postW_of (r:=l.row.toRowW) (X:=(true==true))
  (show WShape.has [] (.bool true) .bool=true by first | rfl | decide | simp[WShape.has,WShape.arms,WShape.armsAll])
  (show(WTm.eq .res (.lit (.bool true))).value [] { args:=args,res:=some (.bool true),after:=args }=some (.bool (true==true)) from w_eq_bool (w_res rfl) w_lit) rfl
theorem attach_call{l:OpenLaw}{n:Nat}{q:Program}{loose:List Str}{XP:(Str->Option Value)->Heap->Prop}{YP:World->Heap->Prop}{d:DefRec}
  (hn:l.most=some n) (hdf:d.params.defaults=[])
  (call:∀ (w:World) (s₀ s₁:Shared) (mg mb:Str->Option Value) (fa:Addr) (o:Obj) (pm cd doc:Value) (a:Addr) (vs:List Value) (ns:List Int),
   Ground q loose [] XP w s₀ mg mb s₁.heap->YP w s₁.heap→
   s₁.heap.get? fa=some o->o.data=.func (docDef d.name d.params d.body d.scope pm cd doc)->s₁.heap.CodeRec cd d.name->mg d.name=some (.ref fa)→
   s₁.heap.get? a=some { cls:=.type "list",data:=.seq vs.toArray }->IntsAre vs ns->ns.length<=n->s₁.gens=#[]→
   codeAny (model l.prog w) callerA (.call (.ref fa) ⟨[.ref a],[]⟩) (fun r s'=>r=.ok (.ret (.bool true))/\OldK s₁.heap s'.heap/\s'.os=s₁.os/\AllBare s'.gens) s₁):
  WalkO q loose XP YP l.row.toRowW d [] (fun f vs=>PySem.call f vs):=by
 intro w s₀ s₁ mg mb G Y fa o pm cd doc dV kV ho hd hcd hD hmg hg args vals as hpre hlay hrd hwl hlo
 obtain rfl:dV=.none:=Dflts.none hD hdf
 obtain rfl:kV=.none:=Dflts.noKw hD
 obtain⟨a,vs,ns,rfl,rfl,hobj,hints,hlen⟩:=Gao hn hpre hwl
 refine enter_call (codeAny_mono (call w s₀ s₁ mg mb fa o pm cd doc a vs ns G Y ho (fd_plain hd) hcd hmg hobj hints hlen hg) fun r s' hq=>?_)
 obtain⟨rfl,h2,h3,h4⟩:=hq
 exact⟨.inl ⟨.bool true,.bool true,[],rfl,fun _=>rfl,.bool true,post_true l _,fun _=>⟨List.Pairwise.nil,fun _ hm=>(nomatch hm)⟩⟩,h2,h3,h4⟩
end Att
namespace L2
open PySem PySem.Spec PyProof.Rows
variable{x qual:Str}{st:Stmt}{f:Addr}
theorem Vw:∀ {vs:List Value} {ns:List Int},IntsAre vs ns->Vals (ns.map V.int) vs
 | _,_,.nil=>.nil
 | _,_,.cons n t h=>.cons ⟨t,rfl⟩ (Vw h)
def He(s:Stmt):Arguments:=match s with
 | .FunctionDef _ a _ _ _ _ _ _ _ _=>a
 | _=>{ posonlyargs:=[],args:=[],vararg:=none,kwonlyargs:=[],kw_defaults:=[],kwarg:=none,defaults:=[] }
def Gr(s:Stmt):List Stmt:=match s with
 | .FunctionDef _ _ b _ _ _ _ _ _ _=>b
 | _=>[]
def Gb(s:Stmt):Scope:=match s with
 | .FunctionDef _ _ _ _ _ _ sc _ _ _=>sc
 | _=>{ kind:=.function,names:=[],isGenerator:=false,isCoroutine:=false }
abbrev CX0:CXT:=fun _ _ _ _ _ _=>False
abbrev E0:XK:=fun _ _ _=>False
theorem Gj5{X:Cx}:Passes CX0 X E0:=fun _ _ _ _ _ _ _ h=>h.elim
structure Fun(K:PySem.W.Frag)(x qual:Str)(st:Stmt)(f:Addr)(fd:FuncData):Prop where
 ex:∃ (oc:Value) (od:Option Addr) (kV doc pm:Value) (an:Option Addr) (cdv ct:Value) (osl:Array (Option Value)),
  fd=PySem.W.fnOf x qual (He st) (Gr st) (Gb st) .none kV doc pm an cdv ct/\K.lookup f=some ⟨oc,od,.func fd,osl⟩/\PySem.W.codeIn K cdv qual=true
 kp:PySem.W.keepIn K (.ref f)=true
section
variable{P:Program}{w:World}{K:PySem.W.Frag}{mg:Str->Option Value}{base:Heap}
theorem Fun.ok{fd:FuncData}{N ps:List Str}{k:Nat}{sp:Sp}(F:Fun K x qual st f fd)(S:FnScope N ps (Gb st))(len:∀ vs H Q E,sp vs H Q E->vs.length=ps.length)(hbody:∀ (cdv:Value) (A:Around) (outer:List Env) (s:Shared) (H:Hp) (vs:List V) (Q:VK) (E:XK),Room k (A.deeper (envOfC qual (Gb st) s.heap.objs.size f cdv))->sp vs H Q E→
   ∃ t,PSs (Vg CX0 P w K mg base N qual (Gb st) f cdv A outer s H E).nox (Gr st) t/\t { nx:=fun _ H'=>Q .non H',rt:=Q } (start N vs) H):FnOk P w K mg base CX0 (k+1) f fd ps sp:=by
 obtain⟨oc,od,kV,doc,pm,an,cdv,ct,osl,rfl,lk,hcd⟩:=F.ex
 refine Gex lk hcd S len fun A outer s H vs Q E hr hsp=>?_
 obtain⟨t,h,q⟩:=hbody cdv A outer s H vs Q E hr hsp
 exact⟨t,h.nox,q⟩
theorem Fun.binds{fd:FuncData}{ps:List Str}(F:Fun K x qual st f fd)(h:∀ (kV doc pm:Value) (an:Option Addr) (cdv ct:Value) (us:List Value),us.length=ps.length->bindArgs (PySem.W.fnOf x qual (He st) (Gr st) (Gb st) .none kV doc pm an cdv ct) ⟨us,[]⟩=pure (ps.zip us)):Binds K fd ps []:=by
 obtain⟨oc,od,kV,doc,pm,an,cdv,ct,osl,rfl,lk,hcd⟩:=F.ex
 exact .all (h kV doc pm an cdv ct)
theorem Wk{oc:Value}{od an:Option Addr}{osl:Array (Option Value)}{kV doc pm cdv ct:Value}(l:K.lookup f=some ⟨oc,od,.func (PySem.W.fnOf x qual (He st) (Gr st) (Gb st) .none kV doc pm an cdv ct),osl⟩)(c:PySem.W.codeIn K cdv qual=true)(k:PySem.W.keepIn K (.ref f)=true):Fun K x qual st f (PySem.W.fnOf x qual (He st) (Gr st) (Gb st) .none kV doc pm an cdv ct):=⟨⟨oc,od,kV,doc,pm,an,cdv,ct,osl,rfl,l,c⟩,k⟩
end
end L2
namespace DL
open PySem PySem.Spec PyProof.Rows L2
inductive D where
 | non | bl (b:Bool) | int (i:Int) | str (x:Str) | tup (l:List D) | lst (i:Nat) | exn (c:Str) (n:Option Int) | fv (x:Str) | dct (i:Nat)
structure Cell where
 fz:Bool
 xs:List D
abbrev Sto:=List Cell
abbrev Lc:=List (Option D)
structure XD where
 cls:Str
 fld:Option Int
inductive Out(α:Type) where
 | ok (a:α) (S:Sto)
 | exc (x:XD) (S:Sto)
 | bad
def Out.bind{α β:Type}(o:Out α)(g:α->Sto->Out β):Out β:=
 match o with
 | .ok a S=>g a S
 | .exc x S=>.exc x S
 | .bad=>.bad
structure XCl(K:PySem.W.Frag)(c:Addr):Prop where
 ga:PySem.W.findIn K (.ref c) "__getattribute__"=some (some (.builtin "BaseException.__getattribute__"))
 gt:PySem.W.findIn K (.ref c) "__getattr__"=some none
 cl:PySem.W.findIn K (.ref c) "__class__"=some (some (.builtin "object.__class__"))
 cd:(PySem.W.clsIn K c).isSome=true
 ob:PySem.W.mroIn K c (.type "object")=some true
 be:PySem.W.subIn K (.ref c) (.type "BaseException")=some true
 bt:∀ T∈["bool","int","str","tuple","list"],PySem.W.kitOne K (.ref c) (.type T)=some false
def CN(K:PySem.W.Frag)(y:Str)(c:Addr):Prop:=PySem.W.nsIn K mainGlobals y=some (some (.ref c))
def XO(a c:Addr)(dx:Option Addr):HO:=.ext fun h=>∃ oe,h.get? a=some oe/\oe.cls=.ref c/\oe.dict=dx/\∃ vs,oe.data=.fields vs
def XA(d:Addr)(n:Int):HO:=.ext fun h=>∃ t,h.Ns d fun y=>if y="at" then some (.int n t) else none
def Dcy(H:Hp)(a:Addr):Prop:=∃ kvs,H a=some (.dT kvs)
mutual
def Rep(K:PySem.W.Frag)(mp:List Addr)(H:Hp):D->V->Prop
 | .non,v=>v=.non
 | .bl b,v=>v=.bl b
 | .int i,v=>v=.int i
 | .str x,v=>v=.str x
 | .tup l,v=>∃ a xs,v=.ref a/\SqT K H a xs/\RepL K mp H l xs
 | .lst i,v=>∃ a,v=.ref a/\mp[i]?=some a/\¬ Dcy H a
 | .exn c n,v=>∃ a dx p,v=.ref a/\(CN K c p/\XCl K p/\H a=some (XO a p dx))/\∀ i,n=some i->∃ d,dx=some d/\H d=some (XA d i)
 | .fv x,v=>∃ a,v=.ref a/\CN K x a
 | .dct i,v=>∃ a,v=.ref a/\mp[i]?=some a/\Dcy H a
def RepL(K:PySem.W.Frag)(mp:List Addr)(H:Hp):List D->List V->Prop
 | [],vs=>vs=[]
 | d::l,vs=>∃ v r,vs=v::r/\Rep K mp H d v/\RepL K mp H l r
end
structure Aft(K:PySem.W.Frag)(mp:List Addr)(H:Hp)(mp':List Addr)(H':Hp):Prop where
 pre:∀ (i:Nat) (a:Addr),mp[i]?=some a->mp'[i]?=some a
 tup:∀ a xs,SqT K H a xs->SqT K H' a xs
 ext:∀ a φ,H a=some (.ext φ)->H' a=some (.ext φ)
 ndc:∀ (i:Nat) (a:Addr),mp[i]?=some a->¬ Dcy H a->¬ Dcy H' a
 dcy:∀ a,Dcy H a->Dcy H' a
theorem Aft.refl{K:PySem.W.Frag}{mp:List Addr}{H:Hp}:Aft K mp H mp H:=⟨fun _ _ h=>h,fun _ _ h=>h,fun _ _ h=>h,fun _ _ _ h=>h,fun _ h=>h⟩
theorem Aft.trans{K:PySem.W.Frag}{mp mp1 mp2:List Addr}{H H1 H2:Hp}(a:Aft K mp H mp1 H1)(b:Aft K mp1 H1 mp2 H2):Aft K mp H mp2 H2:=
 ⟨fun i x h=>b.pre i x (a.pre i x h),fun x xs h=>b.tup x xs (a.tup x xs h),fun x f h=>b.ext x f (a.ext x f h),fun i x e h=>b.ndc i x (a.pre i x e) (a.ndc i x e h),fun x h=>b.dcy x (a.dcy x h)⟩
mutual
theorem Rep.aft{K:PySem.W.Frag}{mp mp':List Addr}{H H':Hp}(a:Aft K mp H mp' H'):∀ (d:D) (v:V),Rep K mp H d v->Rep K mp' H' d v
 | .non,v,h=>h
 | .bl _,v,h=>h
 | .int _,v,h=>h
 | .str _,v,h=>h
 | .tup l,v,h=>by
  obtain⟨p,xs,e,s,r⟩:=(show ∃ a xs,v=.ref a/\SqT K H a xs/\RepL K mp H l xs from h)
  exact⟨p,xs,e,a.tup _ _ s,RepL.aft a l xs r⟩
 | .lst i,v,h=>by
  obtain⟨p,e,s,n⟩:=(show ∃ a,v=.ref a/\mp[i]?=some a/\¬ Dcy H a from h)
  exact⟨p,e,a.pre _ _ s,a.ndc _ _ s n⟩
 | .exn c n,v,h=>by
  obtain⟨p,dx,q,e,⟨s0,s1,s⟩,r⟩:=(show ∃ a dx p,v=.ref a/\(CN K c p/\XCl K p/\H a=some (XO a p dx))/\∀ i,n=some i->∃ d,dx=some d/\H d=some (XA d i) from h)
  exact⟨p,dx,q,e,⟨s0,s1,a.ext _ _ s⟩,fun i z=>let ⟨d,z1,z2⟩:=r i z; ⟨d,z1,a.ext _ _ z2⟩⟩
 | .fv x,v,h=>h
 | .dct i,v,h=>by
  obtain⟨p,e,s,n⟩:=(show ∃ a,v=.ref a/\mp[i]?=some a/\Dcy H a from h)
  exact⟨p,e,a.pre _ _ s,a.dcy _ n⟩
theorem RepL.aft{K:PySem.W.Frag}{mp mp':List Addr}{H H':Hp}(a:Aft K mp H mp' H'):∀ (l:List D) (vs:List V),RepL K mp H l vs->RepL K mp' H' l vs
 | [],vs,h=>h
 | d::l,vs,h=>by
  obtain⟨v,r,e,h1,h2⟩:=(show ∃ v r,vs=v::r/\Rep K mp H d v/\RepL K mp H l r from h)
  exact⟨v,r,e,Rep.aft a d v h1,RepL.aft a l r h2⟩
end
section
variable{K:PySem.W.Frag}{mp:List Addr}{H:Hp}
theorem RepL.nil:RepL K mp H [] []:=rfl
theorem RepL.cons{d:D}{v:V}{l:List D}{r:List V}(h:Rep K mp H d v)(t:RepL K mp H l r):RepL K mp H (d::l) (v::r):=⟨v,r,rfl,h,t⟩
theorem RepL.len:∀ {l:List D} {vs:List V},RepL K mp H l vs->vs.length=l.length
 | [],vs,h=>by cases (show vs=[] from h); rfl
 | d::l,vs,h=>by
  obtain⟨v,r,e,h1,h2⟩:=h
  subst e
  simp[RepL.len h2]
theorem RepL.get:∀ {l:List D} {vs:List V} {i:Nat} {d:D},RepL K mp H l vs->l[i]?=some d->∃ v,vs[i]?=some v/\Rep K mp H d v
 | [],_,_,_,_,e=>by simp at e
 | d::l,vs,0,_,h,e=>by
  obtain⟨v,r,q,h1,h2⟩:=h
  subst q
  simp at e
  subst e
  exact⟨v,rfl,h1⟩
 | d::l,vs,i+1,x,h,e=>by
  obtain⟨v,r,q,h1,h2⟩:=h
  subst q
  obtain⟨v',a,b⟩:=RepL.get (i:=i) (d:=x) h2 (by simpa using e)
  exact⟨v',by simpa using a,b⟩
theorem RepL.append:∀ {l m:List D} {vs ws:List V},RepL K mp H l vs->RepL K mp H m ws->RepL K mp H (l++m) (vs++ws)
 | [],m,vs,ws,h,g=>by cases (show vs=[] from h); exact g
 | d::l,m,vs,ws,h,g=>by
  obtain⟨v,r,q,h1,h2⟩:=h
  subst q
  exact⟨v,r++ws,rfl,h1,RepL.append h2 g⟩
theorem RepL.take:∀ {l:List D} {vs:List V} (n:Nat),RepL K mp H l vs->RepL K mp H (l.take n) (vs.take n)
 | [],vs,n,h=>by cases (show vs=[] from h); simp; exact RepL.nil
 | d::l,vs,0,h=>by simp; exact RepL.nil
 | d::l,vs,n+1,h=>by
  obtain⟨v,r,q,h1,h2⟩:=h
  subst q
  simpa using RepL.cons h1 (RepL.take n h2)
theorem RepL.drop:∀ {l:List D} {vs:List V} (n:Nat),RepL K mp H l vs->RepL K mp H (l.drop n) (vs.drop n)
 | [],vs,n,h=>by cases (show vs=[] from h); simp; exact RepL.nil
 | d::l,vs,0,h=>by simpa using h
 | d::l,vs,n+1,h=>by
  obtain⟨v,r,q,h1,h2⟩:=h
  subst q
  simpa using RepL.drop n h2
theorem RepL.set:∀ {l:List D} {vs:List V} {d:D} {v:V} (n:Nat),RepL K mp H l vs->Rep K mp H d v->RepL K mp H (l.set n d) (vs.set n v)
 | [],vs,d,v,n,h,g=>by cases (show vs=[] from h); simp; exact RepL.nil
 | x::l,vs,d,v,0,h,g=>by
  obtain⟨v',r,q,h1,h2⟩:=h
  subst q
  simpa using RepL.cons g h2
 | x::l,vs,d,v,n+1,h,g=>by
  obtain⟨v',r,q,h1,h2⟩:=h
  subst q
  simpa using RepL.cons h1 (RepL.set n h2 g)
end
def SqF(K:PySem.W.Frag)(H:Hp)(a:Addr)(xs:List V):Prop:=
 (∃ o,H a=some (.frz o (.lst xs)))∨
  ∃ (o:Obj) (its:Array Value) (n:Nat),K.lookup a=some o/\o.cls=.type "list"/\o.dict=none/\o.data=.seq its n/\its.size<=sizeLine/\Vals xs its.toList
theorem SqF.sq{K:PySem.W.Frag}{H:Hp}{a:Addr}{xs:List V}(h:SqF K H a xs):SqL K H a xs:=by
 rcases h with h | h
 ·exact .inl (.inr h)
 ·exact .inr h
def Gj6(K:PySem.W.Frag)(mp:List Addr)(H:Hp)(a:Addr)(c:Cell):Prop:=
 ∃ xs,RepL K mp H c.xs xs/\(if c.fz=true then SqF K H a xs else H a=some (.lst xs))
mutual
def nkO:D->Option NK
 | .int i=>some (.i i)
 | .tup l=>(nkOs l).map .t
 | _=>none
def nkOs:List D->Option (List NK)
 | []=>some []
 | d::r=>(nkO d).bind fun k=>(nkOs r).map fun q=>k::q
end
def Gdt(K:PySem.W.Frag)(mp:List Addr)(H:Hp)(d:D)(q:NK×Addr×V):Prop:=
 ∃ k e,d=.tup [k,e]/\(nkO k=some q.1/\(pk q.1).depth<=8)/\Rep K mp H k (.ref q.2.1)/\Rep K mp H e q.2.2
def Gj7(K:PySem.W.Frag)(mp:List Addr)(H:Hp)(a:Addr)(c:Cell):Prop:=
 c.fz=false/\∃ kvs,H a=some (.dT kvs)/\Paired (Gdt K mp H) c.xs kvs
theorem Gdt.aft{K:PySem.W.Frag}{mp mp':List Addr}{H H':Hp}(a:Aft K mp H mp' H'){d:D}{q:NK×Addr×V}(p:Gdt K mp H d q):Gdt K mp' H' d q:=
 let ⟨k,e,h1,h2,h3,h4⟩:=p; ⟨k,e,h1,h2,Rep.aft a _ _ h3,Rep.aft a _ _ h4⟩
def Qs(K:PySem.W.Frag)(mp:List Addr)(H:Hp)(a:Addr)(c:Cell):Prop:=Gj6 K mp H a c\/Gj7 K mp H a c
theorem Qs.low{K:PySem.W.Frag}{mp:List Addr}{H:Hp}{a:Addr}{c:Cell}(q:Qs K mp H a c)(f:c.fz=false):∃ o,H a=some o:=by
 rcases q with⟨xs,_,e⟩ | ⟨_,kvs,e,_⟩
 ·rw[f,if_neg Bool.false_ne_true] at e; exact⟨_,e⟩
 ·exact⟨_,e⟩
def Ke:Str:="deepest.<locals>.<lambda>"
def Vj(K:PySem.W.Frag)(P:Addr):Prop:=(PySem.W.tabIn K "deepest").map (·.2)=some P
def CO(c:Addr):HO:=.ext fun h=>∃ o vs t,h.get? c=some o/\o.data=.fields vs/\vs[1]?=some (.str Ke t)
def Glz(H:Hp)(P:Addr):Prop:=∃ ps:Array Value,H P=some (.tbl ps)/\TriplesOk ps.toList/\∀ (pos:Pos) (cv:Value),codeAmong pos ps.toList=some cv->∃ c,cv=.ref c/\H c=some (CO c)
def Xl(K:PySem.W.Frag)(H:Hp):Prop:=∀ P,Vj K P->Glz H P
theorem Xl.new{K:PySem.W.Frag}{H:Hp}{p:Addr}{o:HO}(t:Xl K H)(h:H p=none):Xl K (upd H p o):=fun P k=>by
 obtain⟨ps,e,t1,t2⟩:=t P k
 refine⟨ps,by rw[Gf (Gh e h)]; exact e,t1,fun pos cv z=>?_⟩
 obtain⟨c,z1,z2⟩:=t2 pos cv z
 exact⟨c,z1,by rw[Gf (Gh z2 h)]; exact z2⟩
theorem Xl.set{K:PySem.W.Frag}{H:Hp}{p:Addr}{o u:HO}(t:Xl K H)(h:H p=some u)(h1:∀ ps,HO.tbl ps≠u)(h2:∀ φ,HO.ext φ≠u):Xl K (upd H p o):=fun P k=>by
 obtain⟨ps,e,t1,t2⟩:=t P k
 refine⟨ps,by rw[Gf (Hn e h (h1 _))]; exact e,t1,fun pos cv z=>?_⟩
 obtain⟨c,z1,z2⟩:=t2 pos cv z
 exact⟨c,z1,by rw[Gf (Hn z2 h (h2 _))]; exact z2⟩
structure RS(K:PySem.W.Frag)(mp:List Addr)(H:Hp)(S:Sto):Prop where
 len:mp.length=S.length
 cell:∀ (i:Nat) (a:Addr) (c:Cell),mp[i]?=some a->S[i]?=some c->Qs K mp H a c
 inj:∀ (i j:Nat) (a:Addr) (ci cj:Cell),mp[i]?=some a->mp[j]?=some a->S[i]?=some ci->S[j]?=some cj->ci.fz=false->cj.fz=false->i=j
 tab:Xl K H
structure Gd(K:PySem.W.Frag)(mp:List Addr)(H:Hp)(σ:L2.St)(ρ:Lc)(S:Sto):Prop where
 rs:RS K mp H S
 len:σ.length=ρ.length
 loc:∀ (i:Nat) (d:D),ρ[i]?=some (some d)->∃ v,σ[i]?=some (some v)/\Rep K mp H d v
theorem Gd.aft{K:PySem.W.Frag}{mp mp':List Addr}{H H':Hp}{σ:L2.St}{ρ:Lc}{S S':Sto}(g:Gd K mp H σ ρ S)(a:Aft K mp H mp' H')(r:RS K mp' H' S'):Gd K mp' H' σ ρ S':=
 ⟨r,g.len,fun i d h=>let ⟨v,e,q⟩:=g.loc i d h; ⟨v,e,q.aft a⟩⟩
abbrev XW:=XD->List Addr->Hp->L2.St->Lc->Sto->Prop
abbrev RL(α β:Type):=List Addr->Hp->α->β->Prop
def Gg{α β:Type}(K:PySem.W.Frag)(R:RL α β)(XQ:XW)(σ:L2.St)(ρ:Lc)(mp:List Addr)(H:Hp)(o:Out α)(Q:β->Hp->Prop):Prop:=
 match o with
 | .ok d S=>∀ mp' H' v,Aft K mp H mp' H'->RS K mp' H' S->R mp' H' d v->Q v H'
 | .exc x S=>∀ mp' H',Aft K mp H mp' H'->Gd K mp' H' σ ρ S->XQ x mp' H' σ ρ S
 | .bad=>False
theorem Gg.aft{α β:Type}{K:PySem.W.Frag}{R:RL α β}{XQ:XW}{σ:L2.St}{ρ:Lc}{mp mp':List Addr}{H H':Hp}{o:Out α}{Q:β->Hp->Prop}(p:Gg K R XQ σ ρ mp H o Q)(a:Aft K mp H mp' H'):Gg K R XQ σ ρ mp' H' o Q:=by
 cases o with
 | ok d S=>exact fun m h v b=>p m h v (a.trans b)
 | exc x S=>exact fun m h b=>p m h (a.trans b)
 | bad=>exact p
theorem Gg.ok{α β:Type}{K:PySem.W.Frag}{R:RL α β}{XQ:XW}{σ:L2.St}{ρ:Lc}{mp:List Addr}{H:Hp}{d:α}{S:Sto}{v:β}{Q:β->Hp->Prop}(p:Gg K R XQ σ ρ mp H (.ok d S) Q)(r:RS K mp H S)(h:R mp H d v):Q v H:=p mp H v .refl r h
abbrev Post(K:PySem.W.Frag)(XQ:XW):=Gg (β:=V) K (Rep K) XQ
abbrev Ev(α:Type):=Lc->Sto->Out α
def rdG{α β:Type}(K:PySem.W.Frag)(R:RL α β)(XQ:XW)(f:Ev α):L2.St->Hp->(β->Hp->Prop)->Prop:=fun σ H Q=>∃ mp ρ S,Gd K mp H σ ρ S/\Gg K R XQ σ ρ mp H (f ρ S) Q
def kB:RL Bool Bool:=fun _ _ a b=>b=a
def kO:RL (Option Int) (Option Int):=fun _ _ a b=>b=a
abbrev rdE(K:PySem.W.Frag)(XQ:XW)(f:Ev D):TE:=rdG K (Rep K) XQ f
abbrev rdA(K:PySem.W.Frag)(XQ:XW)(f:Ev (List D)):TA:=rdG K (RepL K) XQ f
abbrev rdT(K:PySem.W.Frag)(XQ:XW)(f:Ev Bool):TT:=rdG K kB XQ f
abbrev rdO(K:PySem.W.Frag)(XQ:XW)(f:Ev (Option Int)):TO:=rdG K kO XQ f
def JE(X:Cx)(XQ:XW)(e:Expr)(f:Ev D):Prop:=PE X e (rdE X.K XQ f)
def JA(X:Cx)(XQ:XW)(es:List Expr)(f:Ev (List D)):Prop:=PA X es (rdA X.K XQ f)
def JT(X:Cx)(XQ:XW)(e:Expr)(f:Ev Bool):Prop:=PT X e (rdT X.K XQ f)
def JW(X:Cx)(XQ:XW)(e:Expr)(f:Ev Bool):Prop:=PW X e (rdT X.K XQ f)
def JO(X:Cx)(XQ:XW)(e:Option Expr)(f:Ev (Option Int)):Prop:=PO X e (rdO X.K XQ f)
theorem PE.mono{X:Cx}{e:Expr}{t t':TE}(h:PE X e t)(m:∀ σ H Q,t' σ H Q->t σ H Q):PE X e t':=fun pins s σ H Q I q=>h pins s σ H Q I (m σ H Q q)
theorem PT.mono{X:Cx}{e:Expr}{t t':TT}(h:PT X e t)(m:∀ σ H Q,t' σ H Q->t σ H Q):PT X e t':=fun pins s σ H Q I q=>h pins s σ H Q I (m σ H Q q)
theorem PW.mono{X:Cx}{e:Expr}{t t':TT}(h:PW X e t)(m:∀ σ H Q,t' σ H Q->t σ H Q):PW X e t':=fun wh pins s σ H Q I q=>h wh pins s σ H Q I (m σ H Q q)
theorem PO.mono{X:Cx}{e:Option Expr}{t t':TO}(h:PO X e t)(m:∀ σ H Q,t' σ H Q->t σ H Q):PO X e t':=fun pins s σ H Q I q=>h pins s σ H Q I (m σ H Q q)
theorem PA.mono{X:Cx}{e:List Expr}{t t':TA}(h:PA X e t)(m:∀ σ H Q,t' σ H Q->t σ H Q):PA X e t':=fun pos pins s σ H Q I q=>h pos pins s σ H Q I (m σ H Q q)
theorem PS.mono{X:Cx}{e:Stmt}{t t':TS}(h:PS X e t)(m:∀ D σ H,t' D σ H->t D σ H):PS X e t':=fun pins s σ H D I q=>h pins s σ H D I (m D σ H q)
theorem PSs.mono{X:Cx}{e:List Stmt}{t t':TS}(h:PSs X e t)(m:∀ D σ H,t' D σ H->t D σ H):PSs X e t':=fun pins s σ H D I q=>h pins s σ H D I (m D σ H q)
theorem bindP{α β γ δ:Type}{K:PySem.W.Frag}{R:RL α β}{R':RL γ δ}{XQ:XW}{mp:List Addr}{H:Hp}{σ:L2.St}{ρ:Lc}{S:Sto}{f:Ev α}{g:α->Sto->Out γ}{Q:δ->Hp->Prop}{Q1:β->Hp->Prop}(G:Gd K mp H σ ρ S)(p:Gg K R' XQ σ ρ mp H ((f ρ S).bind g) Q)
  (k:∀ mp1 H1 d S1 v,Aft K mp H mp1 H1->Gd K mp1 H1 σ ρ S1->R mp1 H1 d v->Gg K R' XQ σ ρ mp1 H1 (g d S1) Q->Q1 v H1):rdG K R XQ f σ H Q1:=by
 refine⟨mp,ρ,S,G,?_⟩
 cases e:f ρ S with
 | ok d S1=>
  rw[e] at p
  exact fun mp1 H1 v a rs r=>k mp1 H1 d S1 v a (G.aft a rs) r (Gg.aft p a)
 | exc x S1=>rw[e] at p; exact p
 | bad=>rw[e] at p; exact p
def vr(i:Nat):Ev D:=fun ρ S=>match ρ[i]? with
 | some (some d)=>.ok d S
 | _=>.bad
def cn(d:D):Ev D:=fun _ S=>.ok d S
section
variable{X:Cx}{XQ:XW}
theorem Gbn(i:Nat){x:Str}{pos:Pos}(hN:X.N[i]?=some x:=by rfl)(hv:Vis X.env.scope x:=by first | exact Or.inl rfl | exact Or.inr (Or.inl rfl) | exact Or.inr (Or.inr rfl))(hd:(x==("__debug__":Str))=false:=by decide)
  (hcd:(x==("__classdict__":Str))=false:=by decide):JE X XQ (.Name x pos) (vr i):=by
 refine PE.mono (Gft hN hv hd hcd) fun σ H Q ⟨mp,ρ,S,G,p⟩=>?_
 unfold vr at p
 cases e:ρ[i]? with
 | none=>rw[e] at p; exact p.elim
 | some o=>
  rw[e] at p
  cases o with
  | none=>exact p.elim
  | some d=>
   obtain⟨v,h1,h2⟩:=G.loc i d e
   exact⟨v,h1,Gg.ok p G.rs h2⟩
theorem Qh{e:Expr}{d:D}{v:V}(h:PE X e (tC v))(r:∀ mp H,Rep X.K mp H d v):JE X XQ e (cn d):=
 PE.mono h fun σ H Q ⟨mp,ρ,S,G,p⟩=>Gg.ok p G.rs (r mp H)
theorem Ggw{i:Int}{j pos}:JE X XQ (.Constant (.int i) j pos) (cn (.int i)):=Qh Gfu fun _ _=>rfl
theorem Gj8{b:Bool}{j pos}:JE X XQ (.Constant (.bool b) j pos) (cn (.bl b)):=Qh Gje fun _ _=>rfl
theorem Ggx{j pos}:JE X XQ (.Constant .none j pos) (cn .non):=Qh Gfv fun _ _=>rfl
theorem Ggy{x:Str}{j pos}:JE X XQ (.Constant (.str x) j pos) (cn (.str x)):=Qh Gfw fun _ _=>rfl
def an:Ev (List D):=fun _ S=>.ok [] S
def ac(f:Ev D)(g:Ev (List D)):Ev (List D):=fun ρ S=>(f ρ S).bind fun x S1=>(g ρ S1).bind fun xs S2=>.ok (x::xs) S2
theorem Gbo:JA X XQ [] an:=PA.mono Gbg fun σ H Q ⟨mp,ρ,S,G,p⟩=>Gg.ok p G.rs RepL.nil
theorem Zi{e:Expr}{es:List Expr}{f:Ev D}{g:Ev (List D)}(ha:JE X XQ e f)(hr:JA X XQ es g)(hs:starEach (e::es) X.env=(false,eval e X.env)::starEach es X.env:=by rfl):JA X XQ (e::es) (ac f g):=by
 refine PA.mono (Wf ha hr hs) fun σ H Q ⟨mp,ρ,S,G,p⟩=>?_
 refine bindP G p fun mp1 H1 x S1 v a1 G1 r1 p1=>?_
 refine bindP G1 p1 fun mp2 H2 xs S2 vs a2 G2 r2 p2=>?_
 exact Gg.ok p2 G2.rs (RepL.cons (Rep.aft a2 _ _ r1) r2)
theorem Kf{K:PySem.W.Frag}{mp:List Addr}{H:Hp}{p:Addr}{o:HO}(h:H p=none)(hd:∀ kvs,o≠.dT kvs:=by intro _ z; cases z):Aft K mp H mp (upd H p o):=by
 refine⟨fun _ _ e=>e,fun a xs s=>?_,fun a φ s=>by rw[Gf (Gh s h)]; exact s,fun i a e n ⟨kvs,z⟩=>?_,fun a ⟨kvs,z⟩=>⟨kvs,by rw[Gf (Gh z h)]; exact z⟩⟩
 ·rcases s with(s | ⟨ob,s⟩) | s
  ·exact .inl (.inl (by rw[Gf (Gh s h)]; exact s))
  ·exact .inl (.inr ⟨ob,by rw[Gf (Gh s h)]; exact s⟩)
  ·exact .inr s
 ·by_cases hb:a=p
  ·subst hb; rw[Gw] at z; exact hd kvs (Option.some.inj z)
  ·rw[Gf hb] at z; exact n ⟨kvs,z⟩
theorem Gdu{K:PySem.W.Frag}{H:Hp}{p a:Addr}{o:HO}{xs:List V}(h:H p=none)(s:SqF K H a xs):SqF K (upd H p o) a xs:=by
 rcases s with⟨ob,s⟩ | s
 ·exact .inl ⟨ob,by rw[Gf (Gh s h)]; exact s⟩
 ·exact .inr s
theorem Qs.new{K:PySem.W.Frag}{mp mp':List Addr}{H:Hp}{p a:Addr}{o:HO}{c:Cell}(h:H p=none)(af:Aft K mp H mp' (upd H p o))(q:Qs K mp H a c):Qs K mp' (upd H p o) a c:=by
 rcases q with⟨xs,r,e⟩ | ⟨f,kvs,e,r⟩
 case inr=>exact .inr ⟨f,kvs,by rw[Gf (Gh e h)]; exact e,Paired.mapP r fun _ _ z=>z.aft af⟩
 refine .inl ⟨xs,RepL.aft af _ _ r,?_⟩
 cases z:c.fz with
 | true=>rw[z] at e; exact(if_pos rfl).mpr (Gdu h ((if_pos rfl).mp e))
 | false=>
  rw[z,if_neg Bool.false_ne_true] at e
  rw[if_neg Bool.false_ne_true,Gf (Gh e h)]
  exact e
theorem RS.new{K:PySem.W.Frag}{mp:List Addr}{H:Hp}{S:Sto}{p:Addr}{o:HO}(r:RS K mp H S)(h:H p=none)(hd:∀ kvs,o≠.dT kvs:=by intro _ z; cases z):RS K mp (upd H p o) S:=
 ⟨r.len,fun i a c e1 e2=>(r.cell i a c e1 e2).new h (Kf h hd),r.inj,r.tab.new h⟩
theorem RS.newL{K:PySem.W.Frag}{mp:List Addr}{H:Hp}{S:Sto}{p:Addr}{ds:List D}{vs:List V}(r:RS K mp H S)(h:H p=none)(q:RepL K mp H ds vs):
  Aft K mp H (mp++[p]) (upd H p (.lst vs))/\RS K (mp++[p]) (upd H p (.lst vs)) (S++[⟨false,ds⟩])/\(mp++[p])[S.length]?=some p:=by
 have af:Aft K mp H (mp++[p]) (upd H p (.lst vs)):=⟨fun i a e=>by rw[List.getElem?_append_left (List.getElem?_eq_some_iff.mp e).1]; exact e,(Kf (mp:=mp) h).tup,(Kf (K:=K) (mp:=mp) h).ext,(Kf (K:=K) (mp:=mp) h).ndc,(Kf (K:=K) (mp:=mp) h).dcy⟩
 have hl:=r.len
 have lastp:(mp++[p])[S.length]?=some p:=by rw[<- hl]; simp
 refine⟨af,⟨by simp[hl],fun i a c e1 e2=>?_,fun i j a ci cj e1 e2 e3 e4 f1 f2=>?_,r.tab.new h⟩,lastp⟩
 ·by_cases hi:i<S.length
  ·rw[List.getElem?_append_left (by omega)] at e1
   rw[List.getElem?_append_left hi] at e2
   exact(r.cell i a c e1 e2).new h af
  ·have hi':i=S.length:=by
    have:=(List.getElem?_eq_some_iff.mp e2).1
    simp at this
    omega
   subst hi'
   rw[lastp] at e1
   cases e1
   simp at e2
   subst e2
   exact .inl ⟨vs,RepL.aft af _ _ q,by simp[Gw]⟩
 ·have old:∀ (i:Nat) (a:Addr) (c:Cell),i<S.length->(mp++[p])[i]?=some a->(S++[⟨false,ds⟩])[i]?=some c->c.fz=false->mp[i]?=some a/\S[i]?=some c/\a≠p:=fun i a c hi e1 e2 f=>by
   rw[List.getElem?_append_left (by omega)] at e1
   rw[List.getElem?_append_left hi] at e2
   refine⟨e1,e2,?_⟩
   obtain⟨o,e⟩:=(r.cell i a c e1 e2).low f
   exact Gh e h
  have hi:=(List.getElem?_eq_some_iff.mp e3).1
  have hj:=(List.getElem?_eq_some_iff.mp e4).1
  simp at hi hj
  by_cases hi':i<S.length
  ·obtain⟨o1,o2,o3⟩:=old i a ci hi' e1 e3 f1
   by_cases hj':j<S.length
   ·obtain⟨u1,u2,u3⟩:=old j a cj hj' e2 e4 f2
    exact r.inj i j a ci cj o1 u1 o2 u2 f1 f2
   ·have:j=S.length:=by omega
    subst this
    rw[lastp] at e2
    cases e2
    exact absurd rfl o3
  ·have:i=S.length:=by omega
   subst this
   rw[lastp] at e1
   cases e1
   by_cases hj':j<S.length
   ·obtain⟨u1,u2,u3⟩:=old j _ cj hj' e2 e4 f2
    exact absurd rfl u3
   ·omega
theorem RS.setL{K:PySem.W.Frag}{mp:List Addr}{H:Hp}{S:Sto}{i:Nat}{a:Addr}{c:Cell}{xs vs:List V}{ds:List D}(r:RS K mp H S)(hi:mp[i]?=some a)(hc:S[i]?=some c)(hf:c.fz=false)(ha:H a=some (.lst xs))(q:RepL K mp H ds vs):
  Aft K mp H mp (upd H a (.lst vs))/\RS K mp (upd H a (.lst vs)) (S.set i ⟨false,ds⟩):=by
 have af:Aft K mp H mp (upd H a (.lst vs)):=by
  refine⟨fun _ _ e=>e,fun b ys s=>?_,fun b φ s=>by rw[Gf (Hn s ha (by intro z; cases z))]; exact s,fun j b e n ⟨kvs,z⟩=>?_,fun b ⟨kvs,z⟩=>⟨kvs,by rw[Gf (Hn z ha (by intro z; cases z))]; exact z⟩⟩
  ·rcases s with(s | ⟨ob,s⟩) | s
   ·exact .inl (.inl (by rw[Gf (Hn s ha (by intro z; cases z))]; exact s))
   ·exact .inl (.inr ⟨ob,by rw[Gf (Hn s ha (by intro z; cases z))]; exact s⟩)
   ·exact .inr s
  ·by_cases hb:b=a
   ·subst hb; rw[Gw] at z; cases z
   ·rw[Gf hb] at z; exact n ⟨kvs,z⟩
 refine⟨af,⟨by simp[r.len],fun j b cj e1 e2=>?_,fun j k b cj ck e1 e2 e3 e4 f1 f2=>?_,r.tab.set ha (fun _ z=>nomatch z) (fun _ z=>nomatch z)⟩⟩
 ·by_cases hj:j=i
  ·subst hj
   rw[hi] at e1
   cases e1
   rw[List.getElem?_set_self (List.getElem?_eq_some_iff.mp hc).1] at e2
   cases e2
   exact .inl ⟨vs,RepL.aft af _ _ q,by simp[Gw]⟩
  ·rw[List.getElem?_set_ne (Ne.symm hj)] at e2
   rcases r.cell j b cj e1 e2 with⟨ys,h1,h2⟩ | ⟨f,kvs,e,rr⟩
   case inr=>exact .inr ⟨f,kvs,by rw[Gf (Hn e ha (by intro z; cases z))]; exact e,Paired.mapP rr fun _ _ z=>z.aft af⟩
   refine .inl ⟨ys,RepL.aft af _ _ h1,?_⟩
   cases z:cj.fz with
   | true=>
    rw[z] at h2
    have h2:SqF K H b ys:=(if_pos rfl).mp h2
    refine(if_pos rfl).mpr ?_
    rcases h2 with⟨ob,s⟩ | s
    ·exact .inl ⟨ob,by rw[Gf (Hn s ha (by intro z; cases z))]; exact s⟩
    ·exact .inr s
   | false=>
    rw[z,if_neg Bool.false_ne_true] at h2
    rw[if_neg Bool.false_ne_true]
    have hb:b≠a:=fun hb=>by
     subst hb
     exact hj (r.inj j i b cj c e1 hi e2 hc z hf)
    rw[Gf hb]
    exact h2
 ·have fz:∀ (j:Nat) (cj:Cell),(S.set i ⟨false,ds⟩)[j]?=some cj->cj.fz=false->∃ c',S[j]?=some c'/\c'.fz=false:=fun j cj e f=>by
   by_cases hj:j=i
   ·subst hj
    exact⟨c,hc,hf⟩
   ·rw[List.getElem?_set_ne (Ne.symm hj)] at e
    exact⟨cj,e,f⟩
  obtain⟨c1,g1,g2⟩:=fz j cj e3 f1
  obtain⟨c2,g3,g4⟩:=fz k ck e4 f2
  exact r.inj j k b c1 c2 e1 e2 g1 g3 g2 g4
theorem RS.items{K:PySem.W.Frag}{mp:List Addr}{H:Hp}{S:Sto}{i:Nat}{c:Cell}{v:V}(r:RS K mp H S)(h:Rep K mp H (.lst i) v)(e:S[i]?=some c):∃ a xs,v=.ref a/\mp[i]?=some a/\SqL K H a xs/\RepL K mp H c.xs xs/\(c.fz=false->H a=some (.lst xs)):=by
 obtain⟨a,ev,ea,n⟩:=(show ∃ a,v=.ref a/\mp[i]?=some a/\¬ Dcy H a from h)
 rcases r.cell i a c ea e with⟨xs,q,z⟩ | ⟨f,kvs,e,rr⟩
 case inr=>exact absurd ⟨kvs,e⟩ n
 cases f:c.fz with
 | true=>rw[f] at z; exact⟨a,xs,ev,ea,((if_pos rfl).mp z:SqF K H a xs).sq,q,fun w=>nomatch w⟩
 | false=>rw[f,if_neg Bool.false_ne_true] at z; exact⟨a,xs,ev,ea,SqL.of z,q,fun _=>z⟩
theorem Rep.nd{K:PySem.W.Frag}{mp:List Addr}{H:Hp}{i:Nat}{a:Addr}(h:Rep K mp H (.lst i) (.ref a)):¬ Dcy H a:=by
 obtain⟨b,e,_,n⟩:=(show ∃ b,V.ref a=.ref b/\mp[i]?=some b/\¬ Dcy H b from h)
 cases e
 exact n
theorem Yq{H:Hp}{a:Addr}{xs:List V}(h:H a=some (.lst xs)):¬ Dcy H a:=fun⟨_,z⟩=>by rw[h] at z; cases z
theorem Rep.tup{K:PySem.W.Frag}{mp:List Addr}{H:Hp}{l:List D}{v:V}(h:Rep K mp H (.tup l) v):∃ a xs,v=.ref a/\SqT K H a xs/\RepL K mp H l xs:=h
def OpD(K:PySem.W.Frag)(r:R2)(o:D->D->Sto->Out D):Prop:=
 ∀ (XQ:XW) (σ:L2.St) (ρ:Lc) (mp:List Addr) (H:Hp) (S:Sto) (x y:D) (v u:V) (Q:VK),RS K mp H S->Rep K mp H x v->Rep K mp H y u->Post K XQ σ ρ mp H (o x y S) Q->r v u H Q
def o2(o:D->D->Sto->Out D)(fa fb:Ev D):Ev D:=fun ρ S=>(fa ρ S).bind fun x S1=>(fb ρ S1).bind fun y S2=>o x y S2
theorem Gdv{r:R2}{o:D->D->Sto->Out D}{fa fb:Ev D}(hd:OpD X.K r o):∀ σ H Q,rdE X.K XQ (o2 o fa fb) σ H Q->tOp r (rdE X.K XQ fa) (rdE X.K XQ fb) σ H Q:=by
 intro σ H Q ⟨mp,ρ,S,G,p⟩
 refine bindP G p fun mp1 H1 x S1 v a1 G1 r1 p1=>?_
 refine bindP G1 p1 fun mp2 H2 y S2 u a2 G2 r2 p2=>?_
 exact hd XQ σ ρ mp2 H2 S2 x y v u Q G2.rs (Rep.aft a2 _ _ r1) r2 p2
theorem Vx{a b:Expr}{fa fb:Ev D}{op:Operator}{r:R2}{o:D->D->Sto->Out D}{pos:Pos}(ho:OpR X (binaryOp op) r)(hd:OpD X.K r o)(ha:JE X XQ a fa)(hb:JE X XQ b fb):JE X XQ (.BinOp a op b pos) (o2 o fa fb):=
 PE.mono (Gjp ho ha hb) (Gdv hd)
theorem Ggz{a b:Expr}{fa fb:Ev D}{op:CmpOp}{r:R2}{o:D->D->Sto->Out D}{pos:Pos}(ho:OpR X (compareOp op) r)(hd:OpD X.K r o)(ha:JE X XQ a fa)(hb:JE X XQ b fb)(hm:behindInMarks op b=false):JE X XQ (.Compare a [op] [b] pos) (o2 o fa fb):=
 PE.mono (Gdi ho ha hb hm) (Gdv hd)
theorem Gj9{a b:Expr}{fa fb:Ev D}{r:R2}{o:D->D->Sto->Out D}{pos:Pos}(hr:IxR X r)(hd:OpD X.K r o)(ha:JE X XQ a fa)(hb:JE X XQ b fb)(hs:Ul b):JE X XQ (.Subscript a b pos) (o2 o fa fb):=
 PE.mono (Gjy hr ha hb hs) (Gdv hd)
def UnD(K:PySem.W.Frag)(r:V->Hp->VK->Prop)(o:D->Sto->Out D):Prop:=
 ∀ (XQ:XW) (σ:L2.St) (ρ:Lc) (mp:List Addr) (H:Hp) (S:Sto) (x:D) (v:V) (Q:VK),RS K mp H S->Rep K mp H x v->Post K XQ σ ρ mp H (o x S) Q->r v H Q
def o1(o:D->Sto->Out D)(fa:Ev D):Ev D:=fun ρ S=>(fa ρ S).bind fun x S1=>o x S1
theorem Gka{a:Expr}{fa:Ev D}{op:UnaryOp}{r:V->Hp->VK->Prop}{o:D->Sto->Out D}{pos:Pos}(ho:UnR X (unaryOp op) r)(hd:UnD X.K r o)(ha:JE X XQ a fa):JE X XQ (.UnaryOp op a pos) (o1 o fa):=by
 refine PE.mono (Gjq ho ha) fun σ H Q ⟨mp,ρ,S,G,p⟩=>?_
 exact bindP G p fun mp1 H1 x S1 v a1 G1 r1 p1=>hd XQ σ ρ mp1 H1 S1 x v Q G1.rs r1 p1
def tp(f:Ev (List D)):Ev D:=fun ρ S=>(f ρ S).bind fun xs S1=>if xs.length<=1000000 then .ok (.tup xs) S1 else .bad
def ls(f:Ev (List D)):Ev D:=fun ρ S=>(f ρ S).bind fun xs S1=>if xs.length<=1000000 then .ok (.lst S1.length) (S1++[⟨false,xs⟩]) else .bad
theorem line_le{n:Nat}(h:n<=1000000):n<=sizeLine:=Nat.le_trans h (by decide)
theorem Ka{K:PySem.W.Frag}{σ:L2.St}{ρ:Lc}{mp:List Addr}{H:Hp}{S:Sto}{ds:List D}{vs:List V}{Q:VK}{p:Addr}(po:Post K XQ σ ρ mp H (.ok (.tup ds) S) Q)(r:RS K mp H S)(q:RepL K mp H ds vs)(h:H p=none):Q (.ref p) (upd H p (.tup vs)):=by
 have af:Aft K mp H mp (upd H p (.tup vs)):=Kf h
 exact po mp _ _ af (r.new h) ⟨p,vs,rfl,SqT.of Gw,RepL.aft af _ _ q⟩
theorem Kb{K:PySem.W.Frag}{σ:L2.St}{ρ:Lc}{mp:List Addr}{H:Hp}{S:Sto}{ds:List D}{vs:List V}{Q:VK}{p:Addr}(po:Post K XQ σ ρ mp H (.ok (.lst S.length) (S++[⟨false,ds⟩])) Q)(r:RS K mp H S)(q:RepL K mp H ds vs)(h:H p=none):Q (.ref p) (upd H p (.lst vs)):=by
 obtain⟨af,rs,e⟩:=r.newL h q
 exact po _ _ _ af rs ⟨p,rfl,e,Yq Gw⟩
theorem Gg0{es:List Expr}{f:Ev (List D)}{x1}{pos:Pos}(h:JA X XQ es f):JE X XQ (.Tuple es x1 pos) (tp f):=by
 refine PE.mono (Ggl h) fun σ H Q ⟨mp,ρ,S,G,p⟩=>?_
 refine bindP G p fun mp1 H1 xs S1 vs a1 G1 r1 p1=>?_
 by_cases hl:xs.length<=1000000
 ·rw[if_pos hl] at p1
  exact⟨by rw[r1.len]; exact line_le hl,fun q hq=>Ka p1 G1.rs r1 hq⟩
 ·rw[if_neg hl] at p1; exact p1.elim
theorem Gg1{es:List Expr}{f:Ev (List D)}{pos:Pos}(h:JA X XQ es f):JE X XQ (.List es pos) (ls f):=by
 refine PE.mono (Ggm h) fun σ H Q ⟨mp,ρ,S,G,p⟩=>?_
 refine bindP G p fun mp1 H1 xs S1 vs a1 G1 r1 p1=>?_
 by_cases hl:xs.length<=1000000
 ·rw[if_pos hl] at p1
  exact⟨by rw[r1.len]; exact line_le hl,fun q hq=>Kb p1 G1.rs r1 hq⟩
 ·rw[if_neg hl] at p1; exact p1.elim
def Gap:D->Sto->Option Bool
 | .non,_=>some false
 | .bl b,_=>some b
 | .int i,_=>some (i != 0)
 | .str y,_=>if y.length<=1000000 then some ((y.length:Int) != 0) else none
 | .tup l,_=>some (!l.isEmpty)
 | .lst i,S=>match S[i]? with
  | some c=>some (!c.xs.isEmpty)
  | none=>none
 | .exn _ _,_=>none
 | .fv _,_=>none
 | .dct _,_=>none
def tt(f:Ev D):Ev Bool:=fun ρ S=>(f ρ S).bind fun x S1=>match Gap x S1 with
 | some b=>.ok b S1
 | none=>.bad
theorem RepL.empty{K:PySem.W.Frag}{mp:List Addr}{H:Hp}{l:List D}{vs:List V}(h:RepL K mp H l vs):(!l.isEmpty)=!vs.isEmpty:=by
 have e:=h.len
 cases l<;>cases vs<;>simp_all
theorem Gdw{K:PySem.W.Frag}{mp:List Addr}{H:Hp}{S:Sto}{x:D}{v:V}{b:Bool}(r:RS K mp H S)(h:Rep K mp H x v)(e:Gap x S=some b):Ggj K v H b:=by
 cases x with
 | non=>cases (show v=.non from h); exact(Option.some.inj e).symm
 | bl c=>cases (show v=.bl c from h); exact(Option.some.inj e).symm
 | int i=>cases (show v=.int i from h); exact(Option.some.inj e).symm
 | str y=>
  cases (show v=.str y from h)
  have e:(if y.length<=1000000 then some ((y.length:Int) != 0) else none)=some b:=e
  by_cases hl:y.length<=1000000
  ·rw[if_pos hl] at e; exact⟨line_le hl,(Option.some.inj e).symm⟩
  ·rw[if_neg hl] at e; cases e
 | tup l=>
  obtain⟨a,xs,rfl,s,q⟩:=Rep.tup h
  exact .inr (.inl ⟨xs,s,by rw[<- q.empty]; exact(Option.some.inj e).symm⟩)
 | lst i=>
  have e:(match S[i]? with | some c=>some (!c.xs.isEmpty) | none=>none)=some b:=e
  cases z:S[i]? with
  | none=>rw[z] at e; cases e
  | some c=>
   rw[z] at e
   obtain⟨a,xs,rfl,_,s,q,_⟩:=r.items h z
   exact .inl ⟨xs,s,by rw[<- q.empty]; exact(Option.some.inj e).symm⟩
 | exn c n=>cases (show(none:Option Bool)=some b from e)
 | fv c=>cases (show(none:Option Bool)=some b from e)
 | dct c=>cases (show(none:Option Bool)=some b from e)
theorem Gg2{e:Expr}{f:Ev D}(h:JE X XQ e f)(he:∀ whole,isTrue e X.env whole=(do let v <- whole; standAt e.pos; holding [v] (truthy v)):=by intro _; rfl):JT X XQ e (tt f):=by
 refine PT.mono (Gbe h he) fun σ H Q ⟨mp,ρ,S,G,p⟩=>?_
 refine bindP G p fun mp1 H1 x S1 v a1 G1 r1 p1=>?_
 cases z:Gap x S1 with
 | none=>rw[z] at p1; exact p1.elim
 | some b=>
  rw[z] at p1
  exact⟨b,Gdw G1.rs r1 z,Gg.ok p1 G1.rs rfl⟩
def tb(f:Ev D):Ev Bool:=fun ρ S=>(f ρ S).bind fun x S1=>match x with
 | .bl b=>.ok b S1
 | _=>.bad
theorem Ge0{K:PySem.W.Frag}{f:Ev D}{σ:L2.St}{H:Hp}{Q:Bool->Hp->Prop}(h:rdT K XQ (tb f) σ H Q):rdE K XQ f σ H fun x H1=>∃ k,x=.bl k/\Q k H1:=by
 obtain⟨mp,ρ,S,G,p⟩:=h
 refine bindP G p fun mp1 H1 x S1 v a1 G1 r1 p1=>?_
 cases x with
 | bl b=>exact⟨b,r1,Gg.ok p1 G1.rs rfl⟩
 | _=>exact p1.elim
theorem Gbp{a b:Expr}{fa fb:Ev D}{op:CmpOp}{r:R2}{o:D->D->Sto->Out D}{pos:Pos}(ho:OpR X (compareOp op) r)(hd:OpD X.K r o)(ha:JE X XQ a fa)(hb:JE X XQ b fb)(hm:behindInMarks op b=false):JT X XQ (.Compare a [op] [b] pos) (tb (o2 o fa fb)):=
 PT.mono (Gdj ho ha hb hm) fun σ H Q h=>Gdv hd σ H _ (Ge0 h)
def tn(f:Ev Bool):Ev Bool:=fun ρ S=>(f ρ S).bind fun b S1=>.ok (!b) S1
def ta(f g:Ev Bool):Ev Bool:=fun ρ S=>(f ρ S).bind fun b S1=>if b=true then g ρ S1 else .ok false S1
def to(f g:Ev Bool):Ev Bool:=fun ρ S=>(f ρ S).bind fun b S1=>if b=true then .ok true S1 else g ρ S1
theorem Gg3{a:Expr}{f:Ev Bool}{pos:Pos}(h:JT X XQ a f):JT X XQ (.UnaryOp .Not a pos) (tn f):=
 PT.mono (Gfz h) fun σ H Q ⟨mp,ρ,S,G,p⟩=>bindP G p fun mp1 H1 b S1 c a1 G1 r1 p1=>by
  cases (show c=b from r1)
  exact Gg.ok p1 G1.rs rfl
theorem Gdx{a:Expr}{f:Ev Bool}{pos:Pos}(h:JT X XQ a f):JW X XQ (.BoolOp .And [a] pos) f:=Gdb h
theorem Gg4{a:Expr}{f:Ev Bool}{pos:Pos}(h:JT X XQ a f):JW X XQ (.BoolOp .Or [a] pos) f:=Gfx h
theorem Gg5{a b:Expr}{rest:List Expr}{f g:Ev Bool}{pos:Pos}(h:JT X XQ a f)(hb:JW X XQ (.BoolOp .And (b::rest) pos) g):JW X XQ (.BoolOp .And (a::b::rest) pos) (ta f g):=
 PW.mono (Gfy h hb) fun σ H Q ⟨mp,ρ,S,G,p⟩=>bindP G p fun mp1 H1 b S1 c a1 G1 r1 p1=>by
  cases (show c=b from r1)
  cases b with
  | true=>exact(if_pos rfl).mpr ⟨mp1,ρ,S1,G1,by simpa using p1⟩
  | false=>exact(if_neg Bool.false_ne_true).mpr (Gg.ok (R:=kB) (d:=false) (S:=S1) (by simpa using p1) G1.rs rfl)
theorem Gkb{a b:Expr}{rest:List Expr}{f g:Ev Bool}{pos:Pos}(h:JT X XQ a f)(hb:JW X XQ (.BoolOp .Or (b::rest) pos) g):JW X XQ (.BoolOp .Or (a::b::rest) pos) (to f g):=
 PW.mono (Gjf h hb) fun σ H Q ⟨mp,ρ,S,G,p⟩=>bindP G p fun mp1 H1 b S1 c a1 G1 r1 p1=>by
  cases (show c=b from r1)
  cases b with
  | false=>exact(if_neg Bool.false_ne_true).mpr ⟨mp1,ρ,S1,G1,by simpa using p1⟩
  | true=>exact(if_pos rfl).mpr (Gg.ok (R:=kB) (d:=true) (S:=S1) (by simpa using p1) G1.rs rfl)
theorem JW.jt{e:Expr}{f:Ev Bool}(h:JW X XQ e f):JT X XQ e f:=PW.pt h
def va(f g:Ev D):Ev D:=fun ρ S=>(f ρ S).bind fun x S1=>match x with
 | .bl b=>if b=true then g ρ S1 else .ok (.bl false) S1
 | _=>.bad
def vo(f g:Ev D):Ev D:=fun ρ S=>(f ρ S).bind fun x S1=>match x with
 | .bl b=>if b=true then .ok (.bl true) S1 else g ρ S1
 | _=>.bad
def vn(f:Ev D):Ev D:=fun ρ S=>(f ρ S).bind fun x S1=>match x with
 | .bl b=>.ok (.bl (!b)) S1
 | _=>.bad
theorem Gg6{a:Expr}{op}{f:Ev D}{pos:Pos}(h:JE X XQ a f):JE X XQ (.BoolOp op [a] pos) f:=Gf0 h
theorem Gg7{a b:Expr}{rest:List Expr}{f g:Ev D}{pos:Pos}(ha:JE X XQ a f)(hb:JE X XQ (.BoolOp .And (b::rest) pos) g):JE X XQ (.BoolOp .And (a::b::rest) pos) (va f g):=
 PE.mono (Gf1 ha hb) fun σ H Q ⟨mp,ρ,S,G,p⟩=>bindP G p fun mp1 H1 x S1 v a1 G1 r1 p1=>by
  cases x with
  | bl b=>
   refine⟨b,r1,?_⟩
   cases b with
   | true=>exact(if_pos rfl).mpr ⟨mp1,ρ,S1,G1,by simpa using p1⟩
   | false=>exact(if_neg Bool.false_ne_true).mpr (Gg.ok (R:=Rep X.K) (d:=.bl false) (S:=S1) (by simpa using p1) G1.rs rfl)
  | _=>exact p1.elim
theorem Gkc{a b:Expr}{rest:List Expr}{f g:Ev D}{pos:Pos}(ha:JE X XQ a f)(hb:JE X XQ (.BoolOp .Or (b::rest) pos) g):JE X XQ (.BoolOp .Or (a::b::rest) pos) (vo f g):=
 PE.mono (Gji ha hb) fun σ H Q ⟨mp,ρ,S,G,p⟩=>bindP G p fun mp1 H1 x S1 v a1 G1 r1 p1=>by
  cases x with
  | bl b=>
   refine⟨b,r1,?_⟩
   cases b with
   | false=>exact(if_neg Bool.false_ne_true).mpr ⟨mp1,ρ,S1,G1,by simpa using p1⟩
   | true=>exact(if_pos rfl).mpr (Gg.ok (R:=Rep X.K) (d:=.bl true) (S:=S1) (by simpa using p1) G1.rs rfl)
  | _=>exact p1.elim
theorem Gg8{a:Expr}{f:Ev D}{pos:Pos}(ha:JE X XQ a f):JE X XQ (.UnaryOp .Not a pos) (vn f):=
 PE.mono (Gf2 ha) fun σ H Q ⟨mp,ρ,S,G,p⟩=>bindP G p fun mp1 H1 x S1 v a1 G1 r1 p1=>by
  cases x with
  | bl b=>exact⟨b,r1,Gg.ok p1 G1.rs rfl⟩
  | _=>exact p1.elim
def ie(c:Ev Bool)(f g:Ev D):Ev D:=fun ρ S=>(c ρ S).bind fun b S1=>if b=true then f ρ S1 else g ρ S1
end
inductive OS where
 | nx (ρ:Lc) (S:Sto) | rt (d:D) (S:Sto) | bk (ρ:Lc) (S:Sto) | ct (ρ:Lc) (S:Sto) | exc (x:XD) (ρ:Lc) (S:Sto) | bad
abbrev Sv:=Lc->Sto->OS
def PostS(K:PySem.W.Frag)(XQ:XW)(mp:List Addr)(H:Hp)(o:OS)(E:Ends):Prop:=
 match o with
 | .nx ρ S=>∀ mp' H' σ',Aft K mp H mp' H'->Gd K mp' H' σ' ρ S->E.nx σ' H'
 | .rt d S=>∀ mp' H' v,Aft K mp H mp' H'->RS K mp' H' S->Rep K mp' H' d v->E.rt v H'
 | .bk ρ S=>∀ mp' H' σ',Aft K mp H mp' H'->Gd K mp' H' σ' ρ S->E.bk σ' H'
 | .ct ρ S=>∀ mp' H' σ',Aft K mp H mp' H'->Gd K mp' H' σ' ρ S->E.ct σ' H'
 | .exc x ρ S=>∀ mp' H' σ',Aft K mp H mp' H'->Gd K mp' H' σ' ρ S->XQ x mp' H' σ' ρ S
 | .bad=>False
theorem PostS.aft{K:PySem.W.Frag}{XQ:XW}{mp mp':List Addr}{H H':Hp}{o:OS}{E:Ends}(p:PostS K XQ mp H o E)(a:Aft K mp H mp' H'):PostS K XQ mp' H' o E:=by
 cases o with
 | nx ρ S=>exact fun m h v b=>p m h v (a.trans b)
 | rt d S=>exact fun m h v b=>p m h v (a.trans b)
 | bk ρ S=>exact fun m h v b=>p m h v (a.trans b)
 | ct ρ S=>exact fun m h v b=>p m h v (a.trans b)
 | exc x ρ S=>exact fun m h v b=>p m h v (a.trans b)
 | bad=>exact p
def rdS(K:PySem.W.Frag)(XQ:XW)(f:Sv):TS:=fun E σ H=>∃ mp ρ S,Gd K mp H σ ρ S/\PostS K XQ mp H (f ρ S) E
def JS(X:Cx)(XQ:XW)(st:Stmt)(f:Sv):Prop:=PS X st (rdS X.K XQ f)
def JSs(X:Cx)(XQ:XW)(st:List Stmt)(f:Sv):Prop:=PSs X st (rdS X.K XQ f)
def bindS{α:Type}(o:Out α)(ρ:Lc)(k:α->Sto->OS):OS:=
 match o with
 | .ok a S=>k a S
 | .exc x S=>.exc x ρ S
 | .bad=>.bad
theorem bindSP{α β:Type}{K:PySem.W.Frag}{R:RL α β}{XQ:XW}{mp:List Addr}{H:Hp}{σ:L2.St}{ρ:Lc}{S:Sto}{f:Ev α}{g:α->Sto->OS}{E:Ends}{Q1:β->Hp->Prop}(G:Gd K mp H σ ρ S)(p:PostS K XQ mp H (bindS (f ρ S) ρ g) E)
  (k:∀ mp1 H1 d S1 v,Aft K mp H mp1 H1->Gd K mp1 H1 σ ρ S1->R mp1 H1 d v->PostS K XQ mp1 H1 (g d S1) E->Q1 v H1):rdG K R XQ f σ H Q1:=by
 refine⟨mp,ρ,S,G,?_⟩
 cases e:f ρ S with
 | ok d S1=>
  rw[e] at p
  exact fun mp1 H1 v a rs r=>k mp1 H1 d S1 v a (G.aft a rs) r (PostS.aft p a)
 | exc x S1=>rw[e] at p; exact fun m h b c=>p m h σ b c
 | bad=>rw[e] at p; exact p
def skip:Sv:=fun ρ S=>.nx ρ S
def sq(f g:Sv):Sv:=fun ρ S=>match f ρ S with
 | .nx ρ' S'=>g ρ' S'
 | .rt d S'=>.rt d S'
 | .bk ρ' S'=>.bk ρ' S'
 | .ct ρ' S'=>.ct ρ' S'
 | .exc x ρ' S'=>.exc x ρ' S'
 | .bad=>.bad
section
variable{X:Cx}{XQ:XW}
theorem PostS.nx{K:PySem.W.Frag}{mp:List Addr}{H:Hp}{σ:L2.St}{ρ:Lc}{S:Sto}{E:Ends}(p:PostS K XQ mp H (.nx ρ S) E)(G:Gd K mp H σ ρ S):E.nx σ H:=p mp H σ .refl G
theorem PostS.rt{K:PySem.W.Frag}{mp:List Addr}{H:Hp}{d:D}{v:V}{S:Sto}{E:Ends}(p:PostS K XQ mp H (.rt d S) E)(r:RS K mp H S)(h:Rep K mp H d v):E.rt v H:=p mp H v .refl r h
theorem Gdy:JSs X XQ [] skip:=PSs.mono Gdc fun E σ H ⟨mp,ρ,S,G,p⟩=>PostS.nx p G
theorem Gbq{st:Stmt}{rest:List Stmt}{f g:Sv}(h1:JS X XQ st f)(h2:JSs X XQ rest g):JSs X XQ (st::rest) (sq f g):=by
 refine PSs.mono (Ga8 h1 h2) fun E σ H ⟨mp,ρ,S,G,p⟩=>⟨mp,ρ,S,G,?_⟩
 unfold sq at p
 cases e:f ρ S with
 | nx ρ' S'=>rw[e] at p; exact fun m h v a G'=>⟨m,ρ',S',G',PostS.aft p a⟩
 | rt d S'=>rw[e] at p; exact p
 | bk ρ' S'=>rw[e] at p; exact p
 | ct ρ' S'=>rw[e] at p; exact p
 | exc x ρ' S'=>rw[e] at p; exact p
 | bad=>rw[e] at p; exact p
theorem Gdz{st:Stmt}{f:Sv}(h1:JS X XQ st f):JSs X XQ [st] f:=Gdd h1
def sx(f:Ev D):Sv:=fun ρ S=>bindS (f ρ S) ρ fun _ S1=>.nx ρ S1
theorem Gd0{e:Expr}{f:Ev D}{pos:Pos}(he:JE X XQ e f)(hs:swapsWith e none pos.line X.env=pure false:=by rfl):JS X XQ (.Expr e pos) (sx f):=
 PS.mono (Gde he hs) fun E σ H ⟨mp,ρ,S,G,p⟩=>bindSP G p fun mp1 H1 d S1 v a1 G1 r1 p1=>PostS.nx p1 G1
def sret(f:Ev D):Sv:=fun ρ S=>bindS (f ρ S) ρ fun d S1=>.rt d S1
theorem Gg9{e:Expr}{f:Ev D}{pos:Pos}(he:JE X XQ e f):JS X XQ (.Return (some e) pos) (sret f):=
 PS.mono (Gf3 he) fun E σ H ⟨mp,ρ,S,G,p⟩=>bindSP G p fun mp1 H1 d S1 v a1 G1 r1 p1=>PostS.rt p1 G1.rs r1
def sif(c:Ev Bool)(f g:Sv):Sv:=fun ρ S=>bindS (c ρ S) ρ fun b S1=>if b=true then f ρ S1 else g ρ S1
theorem Gkd{c:Expr}{a b:List Stmt}{fc:Ev Bool}{f g:Sv}{pos:Pos}(hc:JT X XQ c fc)(ha:JSs X XQ a f)(hb:JSs X XQ b g):JS X XQ (.If c a b pos) (sif fc f g):=
 PS.mono (Gjl hc ha hb) fun E σ H ⟨mp,ρ,S,G,p⟩=>bindSP G p fun mp1 H1 b S1 c a1 G1 r1 p1=>by
  cases (show c=b from r1)
  cases b with
  | true=>exact(if_pos rfl).mpr ⟨mp1,ρ,S1,G1,by simpa using p1⟩
  | false=>exact(if_neg Bool.false_ne_true).mpr ⟨mp1,ρ,S1,G1,by simpa using p1⟩
theorem Gd.set{K:PySem.W.Frag}{mp:List Addr}{H:Hp}{σ:L2.St}{ρ:Lc}{S:Sto}{d:D}{v:V}(G:Gd K mp H σ ρ S)(i:Nat)(r:Rep K mp H d v):Gd K mp H (σ.set i (some v)) (ρ.set i (some d)) S:=by
 refine⟨G.rs,by simp[G.len],fun j e h=>?_⟩
 by_cases hj:j=i
 ·subst hj
  have hl:j<ρ.length:=by
   have:=(List.getElem?_eq_some_iff.mp h).1
   simpa using this
  rw[List.getElem?_set_self hl] at h
  cases h
  exact⟨v,by rw[List.getElem?_set_self (by rw[G.len]; exact hl)],r⟩
 ·rw[List.getElem?_set_ne (Ne.symm hj)] at h ⊢
  exact G.loc j e h
abbrev Tg:=D->Lc->Option Lc
def Gaq(K:PySem.W.Frag)(g:Tg):TG:=fun v σ H Q=>∃ mp ρ S d ρ',Gd K mp H σ ρ S/\Rep K mp H d v/\g d ρ=some ρ'/\∀ σ',Gd K mp H σ' ρ' S->Q σ' H
def JG(X:Cx)(tg:Expr)(g:Tg):Prop:=PG X tg (Gaq X.K g)
theorem PG.mono{X:Cx}{e:Expr}{t t':TG}(h:PG X e t)(m:∀ v σ H Q,t' v σ H Q->t v σ H Q):PG X e t':=fun pins s σ H v u Q I r q=>h pins s σ H v u Q I r (m v σ H Q q)
def gn(i:Nat):Tg:=fun d ρ=>some (ρ.set i (some d))
theorem Wl(i:Nat){x:Str}{pos:Pos}(hN:X.N.Nodup)(hi:X.N[i]?=some x:=by rfl)(hx:Loc X.env.scope x:=by first | exact Or.inl rfl | exact Or.inr rfl)(hf:X.fn x=true\/X.env.scope.names.lookup x=some .local:=by first | exact .inl rfl | exact .inr rfl | assumption):JG X (.Name x pos) (gn i):=
 PG.mono (Gdf hN hi hx hf) fun v σ H Q ⟨mp,ρ,S,d,ρ',G,r,e,k⟩=>by
  cases (Option.some.inj e)
  exact k _ (G.set i r)
abbrev Tgs:=List D->Lc->Option Lc
def Gl0(K:PySem.W.Frag)(g:Tgs):TGs:=fun vs σ H Q=>∃ mp ρ S ds ρ',Gd K mp H σ ρ S/\RepL K mp H ds vs/\g ds ρ=some ρ'/\∀ σ',Gd K mp H σ' ρ' S->Q σ' H
def JGs(X:Cx)(ts:List Expr)(g:Tgs):Prop:=PGs X ts (Gl0 X.K g)
theorem PGs.mono{X:Cx}{e:List Expr}{t t':TGs}(h:PGs X e t)(m:∀ v σ H Q,t' v σ H Q->t v σ H Q):PGs X e t':=fun pins s σ H v u Q I r q=>h pins s σ H v u Q I r (m v σ H Q q)
def gnil:Tgs:=fun ds ρ=>match ds with
 | []=>some ρ
 | _::_=>none
def gcons(g:Tg)(k:Tgs):Tgs:=fun ds ρ=>match ds with
 | []=>none
 | d::r=>(g d ρ).bind fun ρ'=>k r ρ'
theorem Gd1:JGs X [] gnil:=PGs.mono Gdg fun vs σ H Q ⟨mp,ρ,S,ds,ρ',G,r,e,k⟩=>by
 cases ds with
 | nil=>
  cases (show some ρ=some ρ' from e)
  exact⟨r,k _ G⟩
 | cons _ _=>cases (show(none:Option Lc)=some ρ' from e)
theorem Gbr{e:Expr}{es:List Expr}{g:Tg}{k:Tgs}(h1:JG X e g)(h2:JGs X es k)
  (hs:(assignEach (e::es) X.env).map (·.2)=assign e X.env::(assignEach es X.env).map (·.2):=by rfl):JGs X (e::es) (gcons g k):=
 PGs.mono (Gba h1 h2 hs) fun vs σ H Q ⟨mp,ρ,S,ds,ρ',G,r,e,q⟩=>by
  cases ds with
  | nil=>cases (show(none:Option Lc)=some ρ' from e)
  | cons d ds=>
   have e:(g d ρ).bind (fun ρ'=>k ds ρ')=some ρ':=e
   obtain⟨v,vr,ev,h3,h4⟩:=(show ∃ v r,vs=v::r/\Rep X.K mp H d v/\RepL X.K mp H ds r from r)
   cases z:g d ρ with
   | none=>rw[z] at e; cases e
   | some ρ1=>
    rw[z] at e
    exact⟨v,vr,ev,mp,ρ,S,d,ρ1,G,h3,z,fun σ1 G1=>⟨mp,ρ1,S,ds,ρ',G1,h4,e,q⟩⟩
def gt(k:Tgs)(n:Nat):Tg:=fun d ρ=>match d with
 | .tup ds=>if ds.length=n then k ds ρ else none
 | _=>none
theorem Gha{es:List Expr}{m:Nat}{k:Tgs}{n:Nat}{pos:Pos}(hc:X.calm=true)(h:JGs X es k)
  (hn:(assignEach es X.env).length=n:=by rfl) (hst:(assignEach es X.env).findIdx? (·.1)=none:=by rfl):JG X (.Tuple es m pos) (gt k n):=
 PG.mono (Gf5 hc h hn hst) fun v σ H Q ⟨mp,ρ,S,d,ρ',G,r,e,q⟩=>by
  cases d with
  | tup ds=>
   have e:(if ds.length=n then k ds ρ else none)=some ρ':=e
   obtain⟨a,xs,ev,sq,rl⟩:=Rep.tup r
   by_cases hl:ds.length=n
   ·rw[if_pos hl] at e
    exact⟨a,xs,ev,sq,by rw[rl.len]; exact hl,mp,ρ,S,ds,ρ',G,rl,e,q⟩
   ·rw[if_neg hl] at e; cases e
  | _=>cases (show(none:Option Lc)=some ρ' from e)
def sa(f:Ev D)(g:Tg):Sv:=fun ρ S=>bindS (f ρ S) ρ fun d S1=>match g d ρ with
 | some ρ'=>.nx ρ' S1
 | none=>.bad
theorem Gl1{K:PySem.W.Frag}{f:Ev D}{g:Tg}(E:Ends)(σ:L2.St)(H:Hp)(h:rdS K XQ (sa f g) E σ H):Gdh (rdE K XQ f) (Gaq K g) E σ H:=by
 obtain⟨mp,ρ,S,G,p⟩:=h
 refine bindSP G p fun mp1 H1 d S1 v a1 G1 r1 p1=>?_
 cases z:g d ρ with
 | none=>rw[z] at p1; exact p1.elim
 | some ρ'=>
  rw[z] at p1
  exact⟨mp1,ρ,S1,d,ρ',G1,r1,z,fun σ' G'=>PostS.nx p1 G'⟩
theorem Ghb{tg e:Expr}{f:Ev D}{g:Tg}{pos:Pos}(he:JE X XQ e f)(hg:JG X tg g)(hs:swapsWithSole [tg] e pos.line X.env=pure false:=by rfl)(hw:swappedStores [tg] e X.env=pure none:=by rfl)
  (h1:(assignEach [tg] X.env).map (·.2)=[assign tg X.env]:=by rfl):JS X XQ (.Assign [tg] e pos) (sa f g):=
 PS.mono (Gbb he hg hs hw h1) Gl1
theorem Ghc(i:Nat){x:Str}{e:Expr}{f:Ev D}{pos pos':Pos}(hN:X.N.Nodup)(he:JE X XQ e f)(hi:X.N[i]?=some x:=by rfl)(hx:Loc X.env.scope x:=by first | exact Or.inl rfl | exact Or.inr rfl)(hs:swapsWith e (some (.Name x pos')) pos.line X.env=pure false:=by rfl)
  (hf:X.fn x=true\/X.env.scope.names.lookup x=some .local:=by first | exact .inl rfl | exact .inr rfl | assumption):JS X XQ (.Assign [.Name x pos'] e pos) (sa f (gn i)):=
 PS.mono (Gf7 hN hi hx he hs hf) fun E σ H ⟨mp,ρ,S,G,p⟩=>bindSP G p fun mp1 H1 d S1 v a1 G1 r1 p1=>PostS.nx p1 (G1.set i r1)
def Gke(t:Ga9)(K:PySem.W.Frag)(o:D->D->D->Sto->Option Sto):Prop:=
 ∀ (mp:List Addr) (H:Hp) (S S':Sto) (x y z:D) (v u w:V) (Q:Hp->Prop),RS K mp H S->Rep K mp H x v->Rep K mp H y u->Rep K mp H z w->o x y z S=some S'->(∀ H',Aft K mp H mp H'->RS K mp H' S'->Q H')->t v u w H Q
def ss(f fo fi:Ev D)(o:D->D->D->Sto->Option Sto):Sv:=fun ρ S=>bindS (f ρ S) ρ fun d S1=>bindS (fo ρ S1) ρ fun x S2=>bindS (fi ρ S2) ρ fun y S3=>match o x y d S3 with
 | some S4=>.nx ρ S4
 | none=>.bad
theorem Ghd{ob ix e:Expr}{f fo fi:Ev D}{t:Ga9}{o:D->D->D->Sto->Option Sto}{pos p2:Pos}(hset:Gf4 X t)(ho:Gke t X.K o)(he:JE X XQ e f)(hob:JE X XQ ob fo)(hix:JE X XQ ix fi)
  (hs:swapsWithSole [.Subscript ob ix p2] e pos.line X.env=pure false:=by rfl) (hw:swappedStores [.Subscript ob ix p2] e X.env=pure none:=by rfl)
  (h1:(assignEach [.Subscript ob ix p2] X.env).map (·.2)=[assign (.Subscript ob ix p2) X.env]:=by rfl) (ha:∀ v,assign (.Subscript ob ix p2) X.env v=(do
   let ov <- holding [v] (eval ob X.env)
   let iv <- holding [v,ov] (eval ix X.env)
   standAt p2
   holding [v,ov,iv] (setItem ov iv v)
   release [v,ov,iv] []):=by intro _; rfl):JS X XQ (.Assign [.Subscript ob ix p2] e pos) (ss f fo fi o):=by
 refine PS.mono (Gbb he (Gf6 hob hix hset ha) hs hw h1) fun E σ H ⟨mp,ρ,S,G,p⟩=>?_
 refine bindSP G p fun mp1 H1 d S1 v a1 G1 r1 p1=>?_
 refine bindSP G1 p1 fun mp2 H2 x S2 vx a2 G2 r2 p2=>?_
 refine bindSP G2 p2 fun mp3 H3 y S3 vy a3 G3 r3 p3=>?_
 cases z:o x y d S3 with
 | none=>rw[z] at p3; exact p3.elim
 | some S4=>
  rw[z] at p3
  exact ho mp3 H3 S3 S4 x y d vx vy v _ G3.rs (Rep.aft a3 _ _ r2) r3 (Rep.aft (a2.trans a3) _ _ r1) z fun H' af rs=>p3 mp3 H' σ af (G3.aft af rs)
structure Src where
 nxt:Nat->Sto->Option D
 fuel:Nat
def Gd2(K:PySem.W.Frag)(mp0:List Addr)(H0:Hp)(J:It)(nxt:Nat->Sto->Option D):Prop:=
 ∀ (mp:List Addr) (H:Hp) (S:Sto),Aft K mp0 H0 mp H->RS K mp H S->∀ k,match nxt k S with
  | some d=>J.go k H/\∀ x H',J.yld k H x H'->Aft K mp H mp H'/\RS K mp H' S/\Rep K mp H' d x
  | none=>J.stop k H
def kI(K:PySem.W.Frag):RL Src It:=fun mp H s J=>Gd2 K mp H J s.nxt
abbrev rdI(K:PySem.W.Frag)(XQ:XW)(f:Ev Src):TI:=rdG K (kI K) XQ f
def JI(X:Cx)(XQ:XW)(tg iter:Expr)(f:Ev Src):Prop:=PI X tg iter (rdI X.K XQ f)
theorem PI.mono{X:Cx}{tg e:Expr}{t t':TI}(h:PI X tg e t)(m:∀ σ H Q,t' σ H Q->t σ H Q):PI X tg e t':=fun pins s σ H Q I q=>h pins s σ H Q I (m σ H Q q)
def Hf(nxt:Nat->Sto->Option D)(g:Tg)(b:Sv):Nat->Nat->Sv
 | 0,_,_,_=>.bad
 | n+1,k,ρ,S=>match nxt k S with
  | none=>.nx ρ S
  | some d=>match g d ρ with
   | none=>.bad
   | some ρ1=>match b ρ1 S with
    | .nx ρ2 S2=>Hf nxt g b n (k+1) ρ2 S2
    | .ct ρ2 S2=>Hf nxt g b n (k+1) ρ2 S2
    | .bk ρ2 S2=>.nx ρ2 S2
    | .rt d S2=>.rt d S2
    | .exc x ρ2 S2=>.exc x ρ2 S2
    | .bad=>.bad
def sfor(f:Ev Src)(g:Tg)(b:Sv):Sv:=fun ρ S=>bindS (f ρ S) ρ fun s S1=>Hf s.nxt g b s.fuel 0 ρ S1
theorem Ghe{tg iter:Expr}{body:List Stmt}{f:Ev Src}{g:Tg}{b:Sv}{pos:Pos}(hp:PassesOwn (model X.prog X.w) X.A X.env X.xe)(hc:X.calm=true)(hi:JI X XQ tg iter f)(hg:JG X tg g)(hb:JSs X XQ body b)
  (hs:∀ x,foldedSetIterable iter X.env x=pure x:=by intro _; rfl):JS X XQ (.For tg iter body [] pos) (sfor f g b):=by
 refine PS.mono (Gf9 hp hc hi hg hb hs) fun E σ H ⟨mp,ρ,S,G,p⟩=>?_
 refine bindSP G p fun mp1 H1 s S1 J a1 G1 j1 p1=>?_
 refine⟨fun i m σ' H'=>∃ mp' ρ' S',Aft X.K mp1 H1 mp' H'/\Gd X.K mp' H' σ' ρ' S'/\PostS X.K XQ mp' H' (Hf s.nxt g b m i ρ' S') E,⟨s.fuel,mp1,ρ,S1,.refl,G1,p1⟩,?_⟩
 rintro i m σ' H' ⟨mp',ρ',S',a',G',p'⟩
 cases m with
 | zero=>exact(show False from p').elim
 | succ n=>
  have j:=j1 mp' H' S' a' G'.rs i
  unfold Hf at p'
  cases z:s.nxt i S' with
  | none=>
   rw[z] at j p'
   exact .inl ⟨j,PostS.nx p' G'⟩
  | some d=>
   rw[z] at j p'
   obtain⟨j1,j2⟩:=j
   refine .inr ⟨j1,fun σ2 H2=>∃ mp2 ρ2 S2,Aft X.K mp1 H1 mp2 H2/\Gd X.K mp2 H2 σ2 ρ2 S2/\PostS X.K XQ mp2 H2 (Hf s.nxt g b n (i+1) ρ2 S2) E,fun σ2 H2 q=>⟨n,Nat.lt_succ_self n,q⟩,fun x H2 y=>?_⟩
   obtain⟨a2,r2,x2⟩:=j2 x H2 y
   have G2:=G'.aft a2 r2
   cases zg:g d ρ' with
   | none=>simp only[zg] at p'; exact p'.elim
   | some ρ1=>
    simp only[zg] at p'
    refine⟨mp',ρ',S',d,ρ1,G2,x2,zg,fun σ3 G3=>⟨mp',ρ1,S',G3,?_⟩⟩
    have p2:=PostS.aft p' a2
    cases zb:b ρ1 S' with
    | nx ρ2 S2=>simp only[zb] at p2; exact fun m h v af G4=>⟨m,ρ2,S2,(a'.trans a2).trans af,G4,PostS.aft p2 af⟩
    | ct ρ2 S2=>simp only[zb] at p2; exact fun m h v af G4=>⟨m,ρ2,S2,(a'.trans a2).trans af,G4,PostS.aft p2 af⟩
    | bk ρ2 S2=>simp only[zb] at p2; exact p2
    | rt d S2=>simp only[zb] at p2; exact p2
    | exc x ρ2 S2=>simp only[zb] at p2; exact p2
    | bad=>simp only[zb] at p2; exact p2
def Xm:D->Sto->Out Src
 | .tup l,S=>.ok ⟨fun k _=>l[k]?,l.length+1⟩ S
 | .lst i,S=>match S[i]? with
  | some c=>.ok ⟨fun k S=>(S[i]?).bind fun c=>c.xs[k]?,c.xs.length+1⟩ S
  | none=>.bad
 | _,_=>.bad
end
section
variable{X:Cx}{XQ:XW}
def Gl2(K:PySem.W.Frag)(tl:TE):TI:=fun σ H R=>tl σ H fun x H1=>∃ a,x=.ref a/\(((∃ xs,SqL K H1 a xs)/\R (Itl K a) H1)\/((∃ xs,SqT K H1 a xs)/\R (Itt K a) H1))
theorem Ghf{tg l:Expr}{tl:TE}(hl:PE X l tl):PI X tg l (Gl2 X.K tl):=by
 intro pins s σ H R I h
 refine thn (hl pins s σ H _ I h) fun v s1 ⟨x,H1,I1,r1,q1⟩=>?_
 obtain⟨a,e,q⟩:=q1
 subst e
 cases r1
 rcases q with⟨⟨xs,hq⟩,q⟩ | ⟨⟨xs,hq⟩,q⟩
 ·obtain⟨its,rv,p,hz⟩:=I1.list hq
  refine wpAny_pyIter_list p.isList ?_
  refine⟨s1.heap.objs.size,[s1.heap.objs.size],_,_,H1,rfl,I1.kept (t':=s1.toks) fun b o e=>Heap.get?_push_of_some _ e,turn_list a _,⟨_,Heap.get?_push_size _ rfl,rfl,rfl⟩,fun b hb=>?_,q⟩
  have e:b=s1.heap.objs.size:=by simpa using hb
  subst e
  exact I1.fpOk (Nat.le_refl _) (I1.hok.fresh (Nat.le_refl _))
 ·obtain⟨its,rv,p,hz⟩:=I1.tuple hq
  refine wpAny_pyIter_tuple (show s1.heap.IsTuple a its.toArray from p) ?_
  refine⟨s1.heap.objs.size,[s1.heap.objs.size],_,_,H1,rfl,I1.kept (t':=s1.toks) fun b o e=>Heap.get?_push_of_some _ e,turn_tuple a _,⟨_,Heap.get?_push_size _ rfl,rfl,rfl⟩,fun b hb=>?_,q⟩
  have e:b=s1.heap.objs.size:=by simpa using hb
  subst e
  exact I1.fpOk (Nat.le_refl _) (I1.hok.fresh (Nat.le_refl _))
def isrc(f:Ev D):Ev Src:=fun ρ S=>(f ρ S).bind Xm
theorem Ghg{K:PySem.W.Frag}{mp:List Addr}{H:Hp}{a:Addr}{xs:List V}{l:List D}(s:SqT K H a xs)(r:RepL K mp H l xs):Gd2 K mp H (Itt K a) (fun k _=>l[k]?):=by
 intro mp' H' S' af rs k
 show match l[k]? with
  | some d=>(Itt K a).go k H'/\∀ x H2,(Itt K a).yld k H' x H2->Aft K mp' H' mp' H2/\RS K mp' H2 S'/\Rep K mp' H2 d x
  | none=>(Itt K a).stop k H'
 cases z:l[k]? with
 | none=>
  refine⟨xs,af.tup _ _ s,?_⟩
  rw[r.len]
  exact List.getElem?_eq_none_iff.mp z
 | some d=>
  have r':=RepL.aft af _ _ r
  obtain⟨v,e,q⟩:=r'.get z
  refine⟨⟨xs,v,af.tup _ _ s,e⟩,fun x H2 ⟨h1,h2⟩=>?_⟩
  subst h1
  have e2:=h2 xs (af.tup _ _ s)
  rw[e] at e2
  cases e2
  exact⟨.refl,rs,q⟩
theorem Ghh{K:PySem.W.Frag}{mp:List Addr}{H:Hp}{a:Addr}{i:Nat}(hi:mp[i]?=some a)(nd:¬ Dcy H a):Gd2 K mp H (Itl K a) (fun k S=>(S[i]?).bind fun c=>c.xs[k]?):=by
 intro mp' H' S' af rs k
 have hi':=af.pre i a hi
 have hl:i<S'.length:=by rw[<- rs.len]; exact(List.getElem?_eq_some_iff.mp hi').1
 have hc:S'[i]?=some S'[i]:=List.getElem?_eq_getElem hl
 obtain⟨a2,xs,e1,e2,sq,r,_⟩:=rs.items (v:=.ref a) ⟨a,rfl,hi',af.ndc i a hi nd⟩ hc
 cases e1
 simp only[hc,Option.bind_some]
 cases z:(S'[i]).xs[k]? with
 | none=>
  refine⟨xs,sq,?_⟩
  rw[r.len]
  exact List.getElem?_eq_none_iff.mp z
 | some d=>
  obtain⟨v,e,q⟩:=r.get z
  refine⟨⟨xs,v,sq,e⟩,fun x H2 ⟨h1,h2⟩=>?_⟩
  subst h1
  have e2:=h2 xs sq
  rw[e] at e2
  cases e2
  exact⟨.refl,rs,q⟩
theorem Ghi{tg l:Expr}{f:Ev D}(hl:JE X XQ l f):JI X XQ tg l (isrc f):=by
 refine PI.mono (Ghf hl) fun σ H R ⟨mp,ρ,S,G,p⟩=>?_
 refine bindP G p fun mp1 H1 d S1 v a1 G1 r1 p1=>?_
 cases d with
 | tup ds=>
  obtain⟨a,xs,rfl,s,q⟩:=Rep.tup r1
  exact⟨a,rfl,.inr ⟨⟨xs,s⟩,Gg.ok (R:=kI X.K) (d:=⟨fun k _=>ds[k]?,ds.length+1⟩) (S:=S1) p1 G1.rs (Ghg s q)⟩⟩
 | lst i=>
  have p1:Gg X.K (kI X.K) XQ σ ρ mp1 H1 (match S1[i]? with | some c=>.ok ⟨fun k S=>(S[i]?).bind fun c=>c.xs[k]?,c.xs.length+1⟩ S1 | none=>.bad) R:=p1
  cases z:S1[i]? with
  | none=>rw[z] at p1; exact p1.elim
  | some c=>
   rw[z] at p1
   obtain⟨a,xs,rfl,ha,s,q,_⟩:=G1.rs.items r1 z
   exact⟨a,rfl,.inl ⟨⟨xs,s⟩,Gg.ok (R:=kI X.K) (d:=⟨fun k S=>(S[i]?).bind fun c=>c.xs[k]?,c.xs.length+1⟩) (S:=S1) p1 G1.rs (Ghh ha (Rep.nd r1))⟩⟩
 | _=>exact(show False from p1).elim
def rsrc(lo:Int)(n:Nat):Src:=⟨fun k _=>if k<n then some (.int (lo+k)) else none,n+1⟩
theorem Gbs{K:PySem.W.Frag}{mp:List Addr}{H:Hp}{lo:Int}{n:Nat}:Gd2 K mp H (Itr lo n) (rsrc lo n).nxt:=by
 intro mp' H' S' af rs k
 show match (if k<n then some (D.int (lo+k)) else none) with
  | some d=>(Itr lo n).go k H'/\∀ x H2,(Itr lo n).yld k H' x H2->Aft K mp' H' mp' H2/\RS K mp' H2 S'/\Rep K mp' H2 d x
  | none=>(Itr lo n).stop k H'
 by_cases h:k<n
 ·rw[if_pos h]
  refine⟨h,fun x H2 ⟨h1,h2⟩=>?_⟩
  subst h1 h2
  exact⟨.refl,rs,rfl⟩
 ·rw[if_neg h]
  exact Nat.not_lt.mp h
def ir1(f:Ev (List D)):Ev Src:=fun ρ S=>(f ρ S).bind fun ds S1=>match ds with
 | [.int j]=>if -1000000000000<=j/\j<=1000000000000 then .ok (rsrc 0 j.toNat) S1 else .bad
 | _=>.bad
def ir2(f:Ev (List D)):Ev Src:=fun ρ S=>(f ρ S).bind fun ds S1=>match ds with
 | [.int i,.int j]=>if(-1000000000000<=i/\i<=1000000000000) /\ -1000000000000<=j/\j<=1000000000000 then .ok (rsrc i (j-i).toNat) S1 else .bad
 | _=>.bad
theorem RepL.one{K:PySem.W.Frag}{mp:List Addr}{H:Hp}{d:D}{vs:List V}(h:RepL K mp H [d] vs):∃ v,vs=[v]/\Rep K mp H d v:=by
 obtain⟨v,r,rfl,h1,h2⟩:=h
 cases (show r=[] from h2)
 exact⟨v,rfl,h1⟩
theorem RepL.two{K:PySem.W.Frag}{mp:List Addr}{H:Hp}{d e:D}{vs:List V}(h:RepL K mp H [d,e] vs):∃ v w,vs=[v,w]/\Rep K mp H d v/\Rep K mp H e w:=by
 obtain⟨v,r,rfl,h1,h2⟩:=h
 obtain⟨w,rfl,h3⟩:=RepL.one h2
 exact⟨v,w,rfl,h1,h3⟩
theorem Gar{tg a:Expr}{f:Ev (List D)}{p pos:Pos}(hg:Gl X "range")(hm:X.mg "range"=none)(ha:JA X XQ [a] f)(hs:starEach [a] X.env=[(false,eval a X.env)]:=by rfl):JI X XQ tg (.Call (.Name "range" p) [a] [] pos) (ir1 f):=by
 refine PI.mono (Gah hg hm ha hs) fun σ H R ⟨mp,ρ,S,G,p⟩=>?_
 refine bindP G p fun mp1 H1 ds S1 vs a1 G1 r1 p1=>?_
 split at p1
 ·rename_i j
  by_cases hb : -1000000000000<=j/\j<=1000000000000
  ·rw[if_pos hb] at p1
   obtain⟨v,rfl,h1⟩:=RepL.one r1
   cases (show v=.int j from h1)
   refine⟨j,rfl,by omega,by omega,Gg.ok (R:=kI X.K) (d:=rsrc 0 j.toNat) (S:=S1) p1 G1.rs Gbs⟩
  ·rw[if_neg hb] at p1; exact p1.elim
 ·exact p1.elim
theorem Gas{tg a b:Expr}{f:Ev (List D)}{p pos:Pos}(hg:Gl X "range")(hm:X.mg "range"=none)(ha:JA X XQ [a,b] f)(hs:starEach [a,b] X.env=[(false,eval a X.env),(false,eval b X.env)]:=by rfl)(hs2:starEach [b] X.env=[(false,eval b X.env)]:=by rfl):JI X XQ tg (.Call (.Name "range" p) [a,b] [] pos) (ir2 f):=by
 refine PI.mono (Gai hg hm ha hs hs2) fun σ H R ⟨mp,ρ,S,G,p⟩=>?_
 refine bindP G p fun mp1 H1 ds S1 vs a1 G1 r1 p1=>?_
 split at p1
 ·rename_i i j
  by_cases hb:(-1000000000000<=i/\i<=1000000000000) /\ -1000000000000<=j/\j<=1000000000000
  ·rw[if_pos hb] at p1
   obtain⟨v,w,rfl,h1,h2⟩:=RepL.two r1
   cases (show v=.int i from h1)
   cases (show w=.int j from h2)
   refine⟨i,j,rfl,⟨by omega,by omega,by omega,by omega⟩,Gg.ok (R:=kI X.K) (d:=rsrc i (j-i).toNat) (S:=S1) p1 G1.rs Gbs⟩
  ·rw[if_neg hb] at p1; exact p1.elim
 ·exact p1.elim
def whN(c:Ev Bool)(b:Sv):Nat->Sv
 | 0,_,_=>.bad
 | n+1,ρ,S=>bindS (c ρ S) ρ fun t S1=>if t=true then(match b ρ S1 with
    | .nx ρ2 S2=>whN c b n ρ2 S2
    | .ct ρ2 S2=>whN c b n ρ2 S2
    | .bk ρ2 S2=>.nx ρ2 S2
    | .rt d S2=>.rt d S2
    | .exc x ρ2 S2=>.exc x ρ2 S2
    | .bad=>.bad) else .nx ρ S1
theorem Gbt(fuel:Nat){c:Expr}{body:List Stmt}{fc:Ev Bool}{b:Sv}{pos:Pos}(hp:PassesOwn (model X.prog X.w) X.A X.env X.xe)(hc:JT X XQ c fc)(hb:JSs X XQ body b):JS X XQ (.While c body [] pos) (whN fc b fuel):=by
 refine PS.mono (Gbc hp hc hb) fun E σ H ⟨mp,ρ,S,G,p⟩=>?_
 refine⟨fun m σ' H'=>∃ mp' ρ' S',Gd X.K mp' H' σ' ρ' S'/\PostS X.K XQ mp' H' (whN fc b m ρ' S') E,⟨fuel,mp,ρ,S,G,p⟩,?_⟩
 rintro m σ' H' ⟨mp',ρ',S',G',p'⟩
 cases m with
 | zero=>exact(show False from p').elim
 | succ n=>
  refine bindSP G' p' fun mp1 H1 t S1 t' a1 G1 r1 p1=>?_
  cases (show t'=t from r1)
  cases t with
  | false=>exact(if_neg Bool.false_ne_true).mpr (PostS.nx (by simpa using p1) G1)
  | true=>
   refine(if_pos rfl).mpr ⟨fun σ2 H2=>∃ mp2 ρ2 S2,Gd X.K mp2 H2 σ2 ρ2 S2/\PostS X.K XQ mp2 H2 (whN fc b n ρ2 S2) E,fun σ2 H2 q=>⟨n,Nat.lt_succ_self n,q⟩,⟨mp1,ρ',S1,G1,?_⟩⟩
   simp only[if_true] at p1
   cases zb:b ρ' S1 with
   | nx ρ2 S2=>simp only[zb] at p1; exact fun m h v af G4=>⟨m,ρ2,S2,G4,PostS.aft p1 af⟩
   | ct ρ2 S2=>simp only[zb] at p1; exact fun m h v af G4=>⟨m,ρ2,S2,G4,PostS.aft p1 af⟩
   | bk ρ2 S2=>simp only[zb] at p1; exact p1
   | rt d S2=>simp only[zb] at p1; exact p1
   | exc x ρ2 S2=>simp only[zb] at p1; exact p1
   | bad=>simp only[zb] at p1; exact p1
end
abbrev Fn:=List D->Sto->Out D
def Ge1(K:PySem.W.Frag)(mp:List Addr)(H:Hp)(o:Out D)(Q:VK):Prop:=
 match o with
 | .ok d S=>∀ mp' H' v,Aft K mp H mp' H'->RS K mp' H' S->Rep K mp' H' d v->Q v H'
 | _=>False
def spD(K:PySem.W.Frag)(n:Nat)(fn:Fn):Sp:=fun vs H Q _=>∃ mp ds S,RS K mp H S/\RepL K mp H ds vs/\ds.length=n/\Ge1 K mp H (fn ds S) Q
def fnB(m:Nat)(b:Sv):Fn:=fun ds S=>match b (ds.map some++List.replicate (m-ds.length) none) S with
 | .rt d S'=>.ok d S'
 | .nx _ S'=>.ok .non S'
 | .exc x _ S'=>.exc x S'
 | _=>.bad
theorem Xn{K:PySem.W.Frag}{mp:List Addr}{H:Hp}{S:Sto}{N:List Str}{ds:List D}{vs:List V}(r:RS K mp H S)(h:RepL K mp H ds vs):Gd K mp H (start N vs) (ds.map some++List.replicate (N.length-ds.length) none) S:=by
 have hl:=h.len
 refine⟨r,by simp[L2.start,hl],fun i d e=>?_⟩
 by_cases hi:i<ds.length
 ·rw[List.getElem?_append_left (by simpa using hi),List.getElem?_map] at e
  cases z:ds[i]? with
  | none=>rw[z] at e; cases e
  | some d'=>
   rw[z] at e
   cases e
   obtain⟨v,e1,q⟩:=h.get z
   refine⟨v,?_,q⟩
   unfold L2.start
   rw[List.getElem?_append_left (by simp[hl]; exact hi),List.getElem?_map,e1]
   rfl
 ·rw[List.getElem?_append_right (by simpa using hi),List.getElem?_replicate] at e
  split at e
  ·cases e
  ·cases e
theorem Ge2{P:Program}{w:World}{K:PySem.W.Frag}{mg:Str->Option Value}{base:Heap}{x qual:Str}{st:Stmt}{f:Addr}{fd:FuncData}{N ps:List Str}{k:Nat}{b:Sv}(F:Fun K x qual st f fd)(Sc:FnScope N ps (Gb st))(hb:∀ (cdv:Value) (A:Around) (outer:List PySem.Env) (s:Shared) (H:Hp) (E:XK),Room k (A.deeper (envOfC qual (Gb st) s.heap.objs.size f cdv))→
   JSs (Vg CX0 P w K mg base N qual (Gb st) f cdv A outer s H E).nox (fun _ _ _ _ _ _=>False) (Gr st) b):FnOk P w K mg base CX0 (k+1) f fd ps (spD K ps.length (fnB N.length b)):=by
 refine F.ok Sc (fun vs H Q E ⟨mp,ds,S,rs,r,hl,_⟩=>by rw[r.len]; exact hl) fun cdv A outer s H vs Q E hr ⟨mp,ds,S,rs,r,hl,p⟩=>?_
 refine⟨_,hb cdv A outer s H E hr,mp,_,S,Xn rs r,?_⟩
 unfold fnB at p
 show PostS K _ mp H (b (ds.map some++List.replicate (N.length-ds.length) none) S) _
 cases z:b (ds.map some++List.replicate (N.length-ds.length) none) S with
 | rt d S'=>rw[z] at p; exact p
 | nx ρ' S'=>rw[z] at p; exact fun m h v af G=>p m h .non af G.rs rfl
 | bk ρ' S'=>rw[z] at p; exact p.elim
 | ct ρ' S'=>rw[z] at p; exact p.elim
 | exc x ρ' S'=>rw[z] at p; exact p.elim
 | bad=>rw[z] at p; exact p.elim
section
variable{X:Cx}{XQ:XW}{k:Nat}{f:Addr}{fd:FuncData}{ps:List Str}{fn:Fn}{x:Str}{p pos:Pos}{e:Expr}{es:List Expr}{t:Ev (List D)}
def cl(n:Nat)(fn:Fn)(t:Ev (List D)):Ev D:=fun ρ S=>(t ρ S).bind fun ds S1=>if ds.length=n then fn ds S1 else .bad
def Gm(fn:Fn):Fn:=fun ds S=>match fn ds S with
 | .ok d S'=>.ok d S'
 | _=>.bad
theorem Gd3{j:Nat}(F:FnOk X.prog X.w X.K X.mg X.base CX0 j f fd ps (spD X.K ps.length fn))(hr:Room k X.A)(hj:j<=k)(hg:Gl X x)(hm:X.mg x=some (.ref f))(hk:PySem.W.keepIn X.K (.ref f)=true)(hb:Binds X.K fd ps [])
  (ha:JA X XQ (e::es) t) (hdb:(x==("__debug__":Str))=false:=by decide) (he:starEach (e::es) X.env=(false,eval e X.env)::starEach es X.env:=by rfl) (hpl:(backTo pos (starEach es X.env)).any (·.1)=false:=by rfl):
  JE X XQ (.Call (.Name x p) (e::es) [] pos) (cl ps.length (Gm fn) t):=by
 refine PE.mono (Gdk (F.mono hj) hr hg hm hk hb .nil (Gj5) ha hdb he hpl) fun σ H Q ⟨mp,ρ,S,G,p⟩=>?_
 refine bindP G p fun mp1 H1 ds S1 vs a1 G1 r1 p1=>?_
 by_cases hl:ds.length=ps.length
 ·rw[if_pos hl] at p1
  refine⟨mp1,ds,S1,G1.rs,by rw[List.append_nil]; exact r1,hl,?_⟩
  unfold Gm at p1
  cases z:fn ds S1 with
  | ok d S'=>rw[z] at p1; exact p1
  | exc x S'=>rw[z] at p1; exact p1.elim
  | bad=>rw[z] at p1; exact p1.elim
 ·rw[if_neg hl] at p1; exact p1.elim
end
def blk(X:Cx)(s2:Shared)(H2:Hp)(C:Addr)(scope:Scope)(cl:List (Str×Addr))(N':List Str)(fp:List Addr):Cx:=
 { X with N:=N',s₀:=s2,H₀:=H2,env:=compEnvC scope cl C X.env,outer:=X.stack,ex:=fp,fn:=fun x=>scope.names.lookup x==some NameKind.cell,pn:=[],xe:=fun _ _=>False }
structure CompSc(X:Cx)(scope:Scope)(cl:List (Str×Addr))(N':List Str)(pk:List (Option Nat)):Prop where
 kind:scope.kind=.function
 cell:∀ y∈scope.names,y.2=.cell->scope.names.lookup y.1=some .cell
 names:∀ y∈scope.names,y.2=.local->scope.names.lookup y.1=some .local
 clos:closureFor scope X.env=pure cl
 sub:∀ x c,cl.lookup x=some c->X.env.cells.lookup x=some c
 has:∀ x,((relabel scope X.env).names.lookup x=some .cell\/(relabel scope X.env).names.lookup x=some .free)->(x,NameKind.cell)∈scope.names\/∃ c,cl.lookup x=some c
 len:pk.length=N'.length
 take:∀ (i j:Nat) (x:Str),pk[i]?=some (some j)->N'[i]?=some x->X.N[j]?=some x/\(X.env.kindOf x=some .cell\/X.env.kindOf x=some .free)/\((relabel scope X.env).names.lookup x=some .cell\/(relabel scope X.env).names.lookup x=some .free)/\scope.names.lookup x=some .free
def pkS{α:Type}(pk:List (Option Nat))(σ:List (Option α)):List (Option α):=pk.map fun o=>o.bind fun j=>(σ[j]?).bind id
def PTs(Y:Cx)(ifs:List Expr)(t:TT):Prop:=
 ∀ (pins:List (Addr×Obj)) (s:Shared) (σ:L2.St) (H:Hp) (Q:Bool->Hp->Prop),Inv Y pins σ H s->t σ H Q→
  wpAny (model Y.prog Y.w) Y.A (forIn ifs true fun c r=>if r=true then do let ok <- isTrue c Y.env (eval c Y.env); pure (ForInStep.yield ok) else pure (ForInStep.yield r)) (TP Y pins σ Q) Y.xe s
theorem Gd4{Y:Cx}:PTs Y [] (fun _ H Q=>Q true H):=fun _ _ _ H _ I h=>wpAny_tests_nil ⟨H,I,h⟩
theorem Gbu{P:Program}{w:World}{H:Hp}{h h':Heap}{C:Addr}(k:HOk P w H h)(hn:H C=none)(hs:Heap.SameBut C h h'):HOk P w H h':=fun b ob e=>by
 refine(k b ob e).stay (fun c w' hc q=>(hs.2 c ?_).trans q) (fun _ q=>q) fun _ _ q=>q
 rintro rfl
 rcases hc with rfl | hc
 ·rw[hn] at e; cases e
 ·rw[hn] at hc; cases hc
theorem Gu:∀ (names:List (Str×NameKind)) (n:Nat) (acc:List (Str×Addr)),cellsFrom n names acc=cellsFrom n names []++acc
 | [],_,_=>rfl
 | (x,k)::r,n,acc=>by
  unfold cellsFrom
  by_cases hk:(k==NameKind.cell)=true
  ·rw[if_pos hk,if_pos hk,Gu r (n+1) ((x,n)::acc),Gu r (n+1) [(x,n)],List.append_assoc]
   rfl
  ·rw[if_neg hk,if_neg hk,Gu r n acc]
theorem Js:∀ (names:List (Str×NameKind)) (n:Nat) (x:Str) (c:Addr),(x,c)∈cellsFrom n names []->(x,NameKind.cell)∈names
 | [],_,_,_,h=>by simp[cellsFrom] at h
 | (y,k)::r,n,x,c,h=>by
  unfold cellsFrom at h
  by_cases hk:(k==NameKind.cell)=true
  ·rw[if_pos hk,Gu] at h
   rcases List.mem_append.mp h with h | h
   ·exact List.mem_cons_of_mem _ (Js r (n+1) x c h)
   ·have:x=y:=by simpa using(List.mem_singleton.mp h▸rfl:(x,c).1=(y,n).1)
    have hk:k=.cell:=by simpa using hk
    subst this hk
    exact List.mem_cons_self
  ·rw[if_neg hk] at h
   exact List.mem_cons_of_mem _ (Js r n x c h)
theorem Jj{x:Str}:∀ (a b:List (Str×Addr)),(a++b).lookup x=match a.lookup x with
  | some c=>some c
  | none=>b.lookup x
 | [],_=>rfl
 | (y,c)::r,b=>by
  rw[List.cons_append,List.lookup_cons,List.lookup_cons]
  cases h:x==y with
  | true=>rfl
  | false=>exact Jj r b
theorem Hx:∀ (names:List (Str×NameKind)) (n:Nat) (x:Str),(x,NameKind.cell)∈names->∃ c,(cellsFrom n names []).lookup x=some c
 | [],_,_,h=>by simp at h
 | (y,k)::r,n,x,h=>by
  unfold cellsFrom
  by_cases hx:(x,NameKind.cell)∈r
  ·by_cases hk:(k==NameKind.cell)=true
   ·rw[if_pos hk,Gu,Jj]
    obtain⟨c,hc⟩:=Hx r (n+1) x hx
    rw[hc]; exact⟨c,rfl⟩
   ·rw[if_neg hk]
    exact Hx r n x hx
  ·rcases List.mem_cons.mp h with h | h
   ·cases h
    rw[if_pos (by rfl),Gu,Jj]
    cases e:(cellsFrom (n+1) r []).lookup y with
    | some c=>exact⟨c,rfl⟩
    | none=>exact⟨n,by simp[List.lookup_cons]⟩
   ·exact absurd h hx
theorem Ug{M:Model}{A:Around}{E:Value->Shared->Prop}{s:Shared}{scope:Scope}{globals:Addr}{cl:List (Str×Addr)}{qual:Str}{env:PySem.Env}{Q:PySem.Env->Shared->Prop}
  (hQ:∀ h',h'=pushCells (s.heap.push { cls:=.type "dict",data:=.dict #[] }) scope.names→
   Q { scope:=scope,locals:=s.heap.objs.size,globals:=globals,cells:=cellsFrom (s.heap.objs.size+1) scope.names cl,qual:=qual,func:=none,code:=env.code,frame:=env.frame,builtins:=env.builtins } { s with heap:=h' }):
  wpAny M A (newFunctionEnv scope globals cl [] qual none .none (some env)) Q E s:=by
 simp only[newFunctionEnv,Option.isSome_some,if_true]
 refine wpAny_bind (wpAny_alloc ?_)
 refine wpAny_bind (wpAny_layCells _ (fun name kind cells=>by cases hkc:kind==NameKind.cell<;>simp[hkc]) _ _ _ _ ?_)
 rw[show({ s with heap:=s.heap.push { cls:=.type "dict",data:=.dict #[] } }:Shared).heap.objs.size=s.heap.objs.size+1 from Heap.size_push ..]
 rw[List.forIn_nil]
 exact wpAny_bind (wpAny_pure (wpAny_pure (hQ _ rfl)))
section
variable{X:Cx}
theorem Gd5{pins:List (Addr×Obj)}{σ σ2:L2.St}{H2 H':Hp}{s2 s':Shared}{C:Addr}{h':Heap}(I2:Inv X pins σ2 H2 s2)(I:Inv X pins σ H' s')(hn:H' C=none)(hC:s2.heap.objs.size<=C)(hs:Heap.SameBut C s'.heap h'):Inv X pins σ H' { s' with heap:=h' }:=by
 refine I.turned (t':=s'.toks) (it:=C) (fun b o hb e=>(hs.2 b hb).trans e) hn (fun z=>?_) (.inr (Nat.le_trans I2.sz hC)) (fun x c h z=>?_) fun p hp z=>?_
 ·exact absurd (Nat.lt_of_lt_of_le I2.lt (by rw[<- z]; exact hC)) (Nat.lt_irrefl _)
 ·obtain⟨v,q⟩:=I2.cell x c h
  exact absurd (Nat.lt_of_lt_of_le q.lt (by rw[z]; exact hC)) (Nat.lt_irrefl _)
 ·exact absurd (Nat.lt_of_lt_of_le (Heap.lt_size (I2.pin p hp).1) (by rw[z]; exact hC)) (Nat.lt_irrefl _)
theorem Qd{env:PySem.Env}:∀ (names:List (Str×NameKind)) (acc:List (Str×Addr)),(∀ x∈names,x.2=.free->∃ c,env.cells.lookup x.1=some c)->(∀ x c,acc.lookup x=some c->env.cells.lookup x=some c)→
  ∃ cl,(forIn names acc fun x cs=>(if(x.2==NameKind.free)=true then do let c <- cellOf env x.1; pure (ForInStep.yield ((x.1,c)::cs)) else pure (ForInStep.yield cs):Sem _))=pure cl/\(∀ x c,cl.lookup x=some c->env.cells.lookup x=some c)∧
   (∀ x,(∃ c,acc.lookup x=some c)\/(x,NameKind.free)∈names->∃ c,cl.lookup x=some c)
 | [],acc,_,ha=>⟨acc,rfl,ha,fun x h=>by
   rcases h with h | h
   ·exact h
   ·simp at h⟩
 | (n,k)::r,acc,hn,ha=>by
  have hr:∀ x∈r,x.2=.free->∃ c,env.cells.lookup x.1=some c:=fun x hx=>hn x (List.mem_cons_of_mem _ hx)
  by_cases hk:k=.free
  ·subst hk
   obtain⟨c,hc⟩:=hn (n,.free) List.mem_cons_self rfl
   obtain⟨cl,e,h1,h2⟩:=Qd r ((n,c)::acc) hr (fun x c' h=>by
    rw[List.lookup_cons] at h
    by_cases hx:(x==n)=true
    ·rw[hx] at h
     cases h
     have:x=n:=by simpa using hx
     rw[this]; exact hc
    ·have hx:(x==n)=false:=by simpa using hx
     rw[hx] at h
     exact ha x c' h)
   refine⟨cl,?_,h1,fun x h=>h2 x ?_⟩
   ·rw[List.forIn_cons]
    simp only[beq_self_eq_true,if_true]
    have q:cellOf env n=pure c:=by unfold cellOf; rw[hc]
    rw[q]
    exact e
   ·rcases h with⟨c',h⟩ | h
    ·left
     rw[List.lookup_cons]
     by_cases hx:(x==n)=true
     ·rw[hx]; exact⟨c,rfl⟩
     ·have hx:(x==n)=false:=by simpa using hx
      rw[hx]; exact⟨c',h⟩
    ·rcases List.mem_cons.mp h with h | h
     ·left
      cases h
      exact⟨c,by rw[List.lookup_cons,beq_self_eq_true]⟩
     ·exact .inr h
  ·have hb:(k==NameKind.free)=false:=by simpa using hk
   obtain⟨cl,e,h1,h2⟩:=Qd r acc hr ha
   refine⟨cl,?_,h1,fun x h=>h2 x ?_⟩
   ·rw[List.forIn_cons]
    simp only[hb,Bool.false_eq_true,if_false]
    exact e
   ·rcases h with h | h
    ·exact .inl h
    ·rcases List.mem_cons.mp h with h | h
     ·cases h; exact absurd rfl hk
     ·exact .inr h
theorem Ut{env:PySem.Env}{scope:Scope}(hn:∀ x∈scope.names,x.2=.free->∃ c,env.cells.lookup x.1=some c):∃ cl,closureFor scope env=pure cl/\(∀ x c,cl.lookup x=some c->env.cells.lookup x=some c)/\(∀ x,(x,NameKind.free)∈scope.names->∃ c,cl.lookup x=some c):=by
 obtain⟨cl,e,h1,h2⟩:=Qd (env:=env) scope.names [] hn (fun x c h=>by simp at h)
 refine⟨cl,?_,h1,fun x h=>h2 x (.inr h)⟩
 unfold closureFor
 have e2:(forIn scope.names ([]:List (Str×Addr)) fun x r=>(match x with
   | (name,kind)=>if(kind==NameKind.free)=true then do let c <- cellOf env name; pure (ForInStep.yield ((name,c)::r)) else pure (ForInStep.yield r):Sem _))=pure cl:=e
 first
  | exact congrArg (fun m=>m >>= fun cs=>pure cs) e2
  | (show(do let cs <- forIn scope.names ([]:List (Str×Addr)) fun x r=>_; pure cs)=_; rw[e2]; rfl)
structure CompTab(sc scope:Scope)(N N':List Str)(pk:List (Option Nat)):Prop where
 kind:scope.kind=.function
 cell:∀ y∈scope.names,y.2=.cell->scope.names.lookup y.1=some .cell
 names:∀ y∈scope.names,y.2=.local->scope.names.lookup y.1=some .local
 free:∀ y∈scope.names,y.2=.free->sc.names.lookup y.1=some .cell\/sc.names.lookup y.1=some .free
 len:pk.length=N'.length
 take:((List.range N'.length).all fun i=>match pk[i]? with
  | some (some j)=>match N[j]?,N'[i]? with
   | some x,some y=>(x==y)&&((sc.names.lookup y==some NameKind.cell)||(sc.names.lookup y==some NameKind.free))&&(scope.names.lookup y==some NameKind.free)
   | _,_=>false
  | _=>true)=true
theorem Kp{scope:Scope}{env:PySem.Env}{x:Str}:∀ (names:List (Str×NameKind)),((names.map fun(n,k)=>if(k==NameKind.free&&env.scope.kind==.function&&env.kindOf n==some .cell)=true then(n,NameKind.cell) else(n,k)).lookup x=some .cell∨
   (names.map fun(n,k)=>if(k==NameKind.free&&env.scope.kind==.function&&env.kindOf n==some .cell)=true then(n,NameKind.cell) else(n,k)).lookup x=some .free)->(x,NameKind.cell)∈names\/(x,NameKind.free)∈names
 | [],h=>by simp at h
 | (n,k)::r,h=>by
  rw[List.map_cons] at h
  by_cases hx:(x==n)=true
  ·have e:x=n:=by simpa using hx
   subst e
   by_cases hq:(k==NameKind.free&&env.scope.kind==.function&&env.kindOf x==some .cell)=true
   ·have:k=.free:=by
     rw[Bool.and_eq_true,Bool.and_eq_true] at hq
     simpa using hq.1.1
    subst this
    exact .inr List.mem_cons_self
   ·simp only[hq,Bool.false_eq_true,if_false,List.lookup_cons,beq_self_eq_true] at h
    rcases h with h | h
    ·have:k=.cell:=by simpa using h
     subst this
     exact .inl List.mem_cons_self
    ·have:k=.free:=by simpa using h
     subst this
     exact .inr List.mem_cons_self
  ·have hx:(x==n)=false:=by simpa using hx
   refine(Kp (scope:=scope) (env:=env) r ?_).imp (List.mem_cons_of_mem _) (List.mem_cons_of_mem _)
   by_cases hq:(k==NameKind.free&&env.scope.kind==.function&&env.kindOf n==some .cell)=true
   ·simpa only[hq,if_true,List.lookup_cons,hx] using h
   ·simpa only[hq,Bool.false_eq_true,if_false,List.lookup_cons,hx] using h
theorem Hk{scope:Scope}{env:PySem.Env}{x:Str}:∀ (names:List (Str×NameKind)),names.lookup x=some .free->((names.map fun(n,k)=>if(k==NameKind.free&&env.scope.kind==.function&&env.kindOf n==some .cell)=true then(n,NameKind.cell) else(n,k)).lookup x=some .cell∨
   (names.map fun(n,k)=>if(k==NameKind.free&&env.scope.kind==.function&&env.kindOf n==some .cell)=true then(n,NameKind.cell) else(n,k)).lookup x=some .free)
 | [],h=>by simp at h
 | (n,k)::r,h=>by
  rw[List.map_cons]
  by_cases hx:(x==n)=true
  ·rw[List.lookup_cons,hx] at h
   have:k=.free:=by simpa using h
   subst this
   by_cases hq:(NameKind.free==NameKind.free&&env.scope.kind==.function&&env.kindOf n==some .cell)=true
   ·left; simp only[hq,if_true,List.lookup_cons,hx]
   ·right; simp only[hq,Bool.false_eq_true,if_false,List.lookup_cons,hx]
  ·have hx:(x==n)=false:=by simpa using hx
   rw[List.lookup_cons,hx] at h
   have:=Hk (scope:=scope) (env:=env) r h
   by_cases hq:(k==NameKind.free&&env.scope.kind==.function&&env.kindOf n==some .cell)=true
   ·simpa only[hq,if_true,List.lookup_cons,hx] using this
   ·simpa only[hq,Bool.false_eq_true,if_false,List.lookup_cons,hx] using this
theorem CompTab.sc{scope:Scope}{N':List Str}{pk:List (Option Nat)}(t:CompTab X.env.scope scope X.N N' pk)(ok:X.Ok):∃ cl,CompSc X scope cl N' pk:=by
 obtain⟨cl,e,h1,h2⟩:=Ut (env:=X.env) (scope:=scope) fun x hx hf=>ok.has x.1 (t.free x hx hf)
 refine⟨cl,t.kind,t.cell,t.names,e,h1,fun x h=>(Kp (scope:=scope) (env:=X.env) scope.names h).imp id (h2 x),t.len,fun i j x hp hn=>?_⟩
 have hi:i<N'.length:=(List.getElem?_eq_some_iff.mp hn).1
 have q:=List.all_eq_true.mp t.take i (List.mem_range.mpr hi)
 simp only[hp,hn] at q
 cases hj:X.N[j]? with
 | none=>simp[hj] at q
 | some y=>
  simp only[hj,Bool.and_eq_true,Bool.or_eq_true,beq_iff_eq] at q
  obtain⟨⟨e1,e2⟩,e3⟩:=q
  subst e1
  exact⟨rfl,e2,Hk (scope:=scope) (env:=X.env) scope.names e3,e3⟩
abbrev XN:XW:=fun _ _ _ _ _ _=>False
def cbody(a:Nat)(t:Ev Bool)(e:Ev D):Sv:=fun ρ S=>bindS (t ρ S) ρ fun b S1=>if b=true then bindS (e ρ S1) ρ fun d S2=>(match S2[a]? with
  | some c=>if c.fz=false/\c.xs.length<1000000 then .nx ρ (S2.set a ⟨false,c.xs++[d]⟩) else .bad
  | none=>.bad) else .nx ρ S1
def cmp(f:Ev Src)(pk:List (Option Nat))(g:Tg)(t:Ev Bool)(e:Ev D):Ev D:=fun ρ S=>(f ρ S).bind fun src S1=>match Hf src.nxt g (cbody S1.length t e) src.fuel 0 (pkS pk ρ) (S1++[⟨false,[]⟩]) with
 | .nx _ S'=>.ok (.lst S1.length) S'
 | _=>.bad
def Kc(K:PySem.W.Frag)(XQ:XW)(σ:L2.St)(ρ:Lc)(a:Nat)(mp:List Addr)(H:Hp)(o:OS)(Q:VK):Prop:=match o with
 | .nx _ S=>Post K XQ σ ρ mp H (.ok (.lst a) S) Q
 | _=>False
theorem Kc.aft{K:PySem.W.Frag}{XQ:XW}{σ:L2.St}{ρ:Lc}{a:Nat}{mp mp':List Addr}{H H':Hp}{o:OS}{Q:VK}(p:Kc K XQ σ ρ a mp H o Q)(af:Aft K mp H mp' H'):Kc K XQ σ ρ a mp' H' o Q:=by
 cases o with
 | nx r S=>exact Gg.aft (show Post K XQ σ ρ mp H (.ok (.lst a) S) Q from p) af
 | _=>exact p
theorem Gd.pick{K:PySem.W.Frag}{mp:List Addr}{H:Hp}{σ:L2.St}{ρ:Lc}{S:Sto}(G:Gd K mp H σ ρ S)(pk:List (Option Nat)):Gd K mp H (pkS pk σ) (pkS pk ρ) S:=by
 refine⟨G.rs,by simp[pkS],fun i d h=>?_⟩
 unfold pkS at h ⊢
 rw[List.getElem?_map] at h ⊢
 cases e:pk[i]? with
 | none=>rw[e] at h; cases h
 | some o=>
  rw[e] at h
  cases o with
  | none=>cases h
  | some j=>
   have h:(ρ[j]?).bind id=some d:=Option.some.inj h
   have h:ρ[j]?=some (some d):=by
    cases z:ρ[j]? with
    | none=>rw[z] at h; cases h
    | some q=>
     rw[z] at h
     have h:q=some d:=h
     rw[h]
   obtain⟨v,e1,r⟩:=G.loc j d h
   refine⟨v,?_,r⟩
   show some ((σ[j]?).bind id)=some (some v)
   rw[e1]
   rfl
def JTs(Y:Cx)(XQ:XW)(ifs:List Expr)(t:Ev Bool):Prop:=PTs Y ifs (rdT Y.K XQ t)
def ttrue:Ev Bool:=fun _ S=>.ok true S
theorem Gd6{Y:Cx}{XQ:XW}:JTs Y XQ [] ttrue:=fun pins s σ H Q I ⟨mp,ρ,S,G,p⟩=>Gd4 pins s σ H Q I (Gg.ok (show Gg Y.K kB XQ σ ρ mp H (.ok true S) Q from p) G.rs rfl)
variable{XQ:XW}
end
theorem Gat:fillsNumberSlot (.type "tuple") "mul"=pure false:=
 PySem.fillsNumberSlot_seq (id:="tuple.__mul__") (r:=some (.builtin "tuple.__rmul__")) F.slot_tuple_mul.lookup (by decide +kernel) F.slot_tuple_rmul.lookup (by decide +kernel)
theorem Yr:seqRepeat? (.type "tuple")=pure (some (.builtin "tuple.__mul__")):=by
 unfold seqRepeat?
 rw[PySem.seqSlot_of (T:="tuple") (name:="__mul__") (id:="tuple.__mul__") F.slot_tuple_mul.lookup (by decide +kernel),PySem.seqSlot_of (T:="tuple") (name:="__rmul__") (id:="tuple.__rmul__") F.slot_tuple_rmul.lookup (by decide +kernel)]
 rfl
theorem Ghj(x:Int)(t:Tok)(l:Addr)(xs:Array Value)(n:Nat)(d:Option Addr)(sl:Array (Option Value)):
  Meets (Builtin.«int.__rmul__» ⟨[.int x t,.ref l],[]⟩) (fun _ R s=>s.heap.get? l=some { cls:=.type "tuple",dict:=d,data:=.seq xs n,slots:=sl }/\R (.ok (.ret Value.notImplemented)) s):=
 .of_wp fun prog w A R s h=>by obtain⟨hp,g,d,tk,os⟩:=s; obtain⟨hl,h⟩:=h; wp_walk; exact⟨_,rfl,h⟩
theorem Ghk(x:Int)(t:Tok)(l:Addr)(xs:Array Value)(n:Nat)(d:Option Addr)(sl:Array (Option Value))(c0:¬ (decide (x < -2^63)||decide (x≥2^63))=true)(c1:¬ (xs.isEmpty||x==1)=true)(c2:¬ (decide (x<=0)||xs.isEmpty)=true)(c3:¬ (xs.size:Int)*x>(2^63-1) / 8)(c4:¬ Builtin.Tuple.tupleTooMany ((xs.size:Int)*x)=true)(c5:(List.foldl (fun x1 x2=>x1++x2) #[] (List.replicate x.toNat xs)).size<=sizeLine):
  Meets (Builtin.«tuple.__mul__» ⟨[.ref l,.int x t],[]⟩) (fun _ R s=>s.heap.get? l=some { cls:=.type "tuple",dict:=d,data:=.seq xs n,slots:=sl }/\R (.ok (.ret (Value.ref s.heap.objs.size))) { s with heap:=s.heap.push { cls:=Value.type "tuple",data:=Data.seq (List.foldl (fun x1 x2=>x1++x2) #[] (List.replicate x.toNat xs)) },toks:=s.toks }):=
 .of_wp fun prog w A R s h=>by
  obtain⟨hp,g,d,tk,os⟩:=s; obtain⟨hl,h⟩:=h
  wp_walk
  refine wpAny_ite_false (decide_eq_false c0) ?_
  wp_walk using wpAny_loadPart' hl
  refine wpAny_ite_false (decide_eq_false c3) ?_
  wp_walk
  exact⟨_,rfl,h⟩
section
variable{X:Cx}
def Ge3(K:PySem.W.Frag):R2:=fun x y H Q=>∃ a k xs,x=.ref a/\y=.int k/\SqT K H a xs/\xs≠[]/\2<=k/\k<=1000000/\xs.length*k.toNat<=sizeLine/\∀ p,H p=none->Q (.ref p) (upd H p (.tup (List.replicate k.toNat xs).flatten))
theorem Gd7:OpR X (binaryOp .Mult) (Ge3 X.K):=by
 intro pins s σ H x y v u Q I rx ry ⟨a,k,xs,e1,e2,ha,hne,k2,k3,hz,q⟩
 subst e1 e2
 cases rx
 obtain⟨t,rfl⟩:=ry
 obtain⟨its,r1,p1,_⟩:=I.tuple ha
 obtain⟨⟨cls,dd,data,sl⟩,ho,hc,n,hd⟩:=id p1
 simp only at hc hd
 subst hc hd
 have hl:xs.length=its.length:=r1.length
 have hne':its≠[]:=fun z=>hne (r1.nil_iff.mp z)
 have hie:its.toArray.isEmpty=false:=by
  cases its with
  | nil=>exact absurd rfl hne'
  | cons _ _=>rfl
 have hnew:List.foldl (fun x1 x2=>x1++x2) #[] (List.replicate k.toNat its.toArray)=(List.replicate k.toNat its).flatten.toArray:=by
  have:=Qr its k.toNat []
  rw[List.nil_append] at this
  exact this
 have hsz:(its.toArray.size:Int)*k<=(sizeLine:Int):=by
  rw[List.size_toArray,<- hl]
  have h1:((xs.length*k.toNat:Nat):Int)<=(sizeLine:Int):=by exact_mod_cast hz
  rw[Int.natCast_mul,Int.toNat_of_nonneg (by omega)] at h1
  exact h1
 have hsl:(sizeLine:Int)<=(2^63-1) / 8:=by decide
 refine wpAny_binaryOp_repeat_ref (T:="tuple") (U:="int") (by decide) ⟨_,ho,rfl⟩ (fun s'=>typeIs_int s' k t) Gat F.fills_int_mul F.slot_int_rmul Yr F.slot_int_index.lookup
  (call_meets F.slot_int_rmul (typeIs_int s k t) F.entry_int_rmul (F.args_int_rmul_2 _ _) (Ghj k t a its.toArray n dd sl)
   ⟨ho,rfl,⟨_,ho,rfl⟩,call_meets F.slot_tuple_mul ⟨_,ho,rfl⟩ F.entry_tuple_mul (F.args_tuple_mul_2 _ _) (Ghk k t a its.toArray n dd sl ?c0 ?c1 ?c2 ?c3 ?c4 ?c5) ⟨ho,?_⟩⟩)
 case c0=>simp; omega
 case c1=>rw[hie]; simp; omega
 case c2=>rw[hie]; simp; omega
 case c3=>omega
 case c4=>unfold Builtin.Tuple.tupleTooMany; simp; omega
 case c5=>rw[hnew,List.size_toArray,Wj,<- hl,Nat.mul_comm]; exact hz
 rw[hnew]
 refine⟨.ref s.heap.objs.size,_,I.laid (t':=s.toks) (o:=.tup (List.replicate k.toNat xs).flatten) (fun b ob q=>Heap.get?_push_of_some _ q) (Nat.le_refl _) ?_,rfl,q _ (I.hok.fresh (Nat.le_refl _))⟩
 exact⟨by rw[Wj,Nat.mul_comm]; exact hz,_,r1.rep k.toNat,IsTup.new _ _⟩
end
def Qt{α β:Type}(f:α->Option β):List α->Option (List β)
 | []=>some []
 | x::l=>match f x,Qt f l with
  | some y,some ys=>some (y::ys)
  | _,_=>none
def toP(S:Sto):Nat->D->Option PyData
 | 0,_=>none
 | n+1,d=>match d with
  | .non=>some .none
  | .bl b=>some (.bool b)
  | .int i=>some (.int i)
  | .str x=>some (.str x)
  | .tup l=>(Qt (toP S n) l).map .tuple
  | .lst i=>match S[i]? with
   | some c=>(Qt (toP S n) c.xs).map .list
   | none=>none
  | .exn _ _=>none
  | .fv _=>none
  | .dct _=>none
section
variable{X:Cx}{pins:List (Addr×Obj)}{σ:L2.St}{H:Hp}{s:Shared}{mp:List Addr}{S:Sto}
theorem Wm{f:D->Option PyData}{K:PySem.W.Frag}(hf:∀ (d:D) (v:V) (u:Value) (p:PyData),Rep K mp H d v->Go v u->f d=some p->∃ as,Reads s.heap u p as):∀ (l:List D) (vs:List V) (us:List Value) (ps:List PyData),RepL K mp H l vs->Vals vs us->Qt f l=some ps->∃ as,ReadsAll s.heap us ps as
 | [],vs,us,ps,h,r,e=>by
  cases (show vs=[] from h); cases r
  cases (Option.some.inj e)
  exact⟨_,.nil⟩
 | d::l,vs,us,ps,h,r,e=>by
  obtain⟨v,vr,rfl,h1,h2⟩:=(show ∃ v r,vs=v::r/\Rep K mp H d v/\RepL K mp H l r from h)
  cases r with
  | cons r1 r2=>
   cases z1:f d with
   | none=>simp only[Qt,z1] at e; cases e
   | some p=>
    cases z2:Qt f l with
    | none=>simp only[Qt,z1,z2] at e; cases e
    | some qs=>
     simp only[Qt,z1,z2] at e
     cases (Option.some.inj e)
     obtain⟨as,ra⟩:=hf d v _ p h1 r1 z1
     obtain⟨bs,rb⟩:=Wm hf l vr _ qs h2 r2 z2
     exact⟨_,.cons ra rb⟩
theorem Gbv(I:Inv X pins σ H s)(rs:RS X.K mp H S):∀ (n:Nat) (d:D) (v:V) (u:Value) (p:PyData),Rep X.K mp H d v->Go v u->toP S n d=some p->∃ as,Reads s.heap u p as:=by
 intro n
 induction n with
 | zero=>intro d v u p h r e; cases e
 | succ n ih=>
  intro d v u p h r e
  cases d with
  | non=>
   cases (show v=.non from h); cases (show u=Value.none from r)
   cases (Option.some.inj e)
   exact⟨_,.none⟩
  | bl b=>
   cases (show v=.bl b from h); cases (show u=Value.bool b from r)
   cases (Option.some.inj e)
   exact⟨_,.bool b⟩
  | int i=>
   cases (show v=.int i from h); obtain⟨t,rfl⟩:=(show ∃ t,u=Value.int i t from r)
   cases (Option.some.inj e)
   exact⟨_,.int i t⟩
  | str x=>
   cases (show v=.str x from h); obtain⟨t,rfl⟩:=(show ∃ t,u=Value.str x t from r)
   cases (Option.some.inj e)
   exact⟨_,.str x t⟩
  | tup l=>
   obtain⟨a,xs,rfl,sq,q⟩:=Rep.tup h
   cases (show u=Value.ref a from r)
   obtain⟨its,rv,⟨o,ho,hc,k,hd⟩,_⟩:=I.tuple sq
   have e:(Qt (toP S n) l).map PyData.tuple=some p:=e
   cases z:Qt (toP S n) l with
   | none=>rw[z] at e; cases e
   | some ps=>
    rw[z] at e
    cases (Option.some.inj e)
    obtain⟨as,ra⟩:=Wm ih l xs its ps q rv z
    exact⟨as,.tuple ho hc hd (by simpa using ra)⟩
  | lst i=>
   have e:(match S[i]? with | some c=>(Qt (toP S n) c.xs).map PyData.list | none=>none)=some p:=e
   cases zc:S[i]? with
   | none=>rw[zc] at e; cases e
   | some c=>
    rw[zc] at e
    obtain⟨a,xs,rfl,_,sq,q,_⟩:=rs.items h zc
    cases (show u=Value.ref a from r)
    obtain⟨its,rv,⟨o,k,ho,hc,_,hd⟩,_⟩:=I.list sq
    have e:(Qt (toP S n) c.xs).map PyData.list=some p:=e
    cases z:Qt (toP S n) c.xs with
    | none=>rw[z] at e; cases e
    | some ps=>
     rw[z] at e
     cases (Option.some.inj e)
     obtain⟨as,ra⟩:=Wm ih c.xs xs its ps q rv z
     exact⟨_,.list ho hc hd (by simpa using ra)⟩
  | exn c n=>cases (show(none:Option PyData)=some p from e)
  | fv c=>cases (show(none:Option PyData)=some p from e)
  | dct c=>cases (show(none:Option PyData)=some p from e)
end
def eqD(x y:D)(S:Sto):Out D:=match toP S 40 x,toP S 40 y with
 | some p,some q=>if(SeqAt.shaped p&&SeqAt.shaped q)=true then .ok (.bl (PyData.eqv p q)) S else .bad
 | _,_=>.bad
def neD(x y:D)(S:Sto):Out D:=match toP S 40 x,toP S 40 y with
 | some p,some q=>if(SeqAt.shaped p&&SeqAt.shaped q)=true then .ok (.bl (!PyData.eqv p q)) S else .bad
 | _,_=>.bad
section
variable{X:Cx}{XQ:XW}
def OpX(X:Cx)(f:Value->Value->Sem Value)(o:D->D->Sto->Out D):Prop:=
 ∀ (pins:List (Addr×Obj)) (s:Shared) (σ:L2.St) (ρ:Lc) (XQ:XW) (mp:List Addr) (H:Hp) (S:Sto) (x y:D) (v u:V) (vv uv:Value) (Q:VK),Inv X pins σ H s->RS X.K mp H S->Rep X.K mp H x v->Rep X.K mp H y u->Go v vv->Go u uv->Post X.K XQ σ ρ mp H (o x y S) Q→
  (∀ (e:XD) (S':Sto),o x y S≠.exc e S')->wpAny (model X.prog X.w) X.A (f vv uv) (EP X pins σ Q) X.xe s
theorem Ghl{a b:Expr}{op:CmpOp}{fa fb:Ev D}{o:D->D->Sto->Out D}{pos:Pos}(ho:OpX X (compareOp op) o)(hno:∀ x y S e S',o x y S≠.exc e S')(ha:JE X XQ a fa)(hb:JE X XQ b fb)(hm:behindInMarks op b=false):JE X XQ (.Compare a [op] [b] pos) (o2 o fa fb):=by
 intro pins s σ H Q I ⟨mp,ρ,S,G,p⟩
 refine wpAny_Compare1 (thn (ha pins s σ H _ I (bindP G p fun mp1 H1 x S1 v a1 G1 r1 p1=>(⟨mp1,ρ,S1,x,G1,r1,p1⟩:∃ mp1 ρ S1 x,Gd X.K mp1 H1 σ ρ S1/\Rep X.K mp1 H1 x v/\Post X.K XQ σ ρ mp1 H1 ((fb ρ S1).bind fun y S2=>o x y S2) Q))) fun vv s1 ⟨v,H1,I1,rv,mp1,ρ1,S1,x,G1,r1,p1⟩=>?_) hm
 refine thn (hb pins s1 σ H1 _ I1 (bindP G1 p1 fun mp2 H2 y S2 u a2 G2 r2 p2=>(⟨mp2,ρ1,S2,x,y,v,G2,Rep.aft a2 _ _ r1,r2,rfl,p2⟩:∃ mp2 ρ S2 x y v',Gd X.K mp2 H2 σ ρ S2/\Rep X.K mp2 H2 x v'/\Rep X.K mp2 H2 y u/\v'=v/\Post X.K XQ σ ρ mp2 H2 (o x y S2) Q))) fun uv s2 ⟨u,H2,I2,ru,mp2,ρ2,S2,x2,y,v',G2,rx,ry,ev,p2⟩=>?_
 subst ev
 exact ho pins s2 σ ρ2 XQ mp2 H2 S2 x2 y _ u vv uv Q I2 G2.rs rx ry rv ru p2 (hno _ _ _)
theorem Ghm{a b:Expr}{op:CmpOp}{fa fb:Ev D}{o:D->D->Sto->Out D}{pos:Pos}(ho:OpX X (compareOp op) o)(hno:∀ x y S e S',o x y S≠.exc e S')(ha:JE X XQ a fa)(hb:JE X XQ b fb)(hm:behindInMarks op b=false):JT X XQ (.Compare a [op] [b] pos) (tb (o2 o fa fb)):=by
 intro pins s σ H Q I h
 obtain⟨mp,ρ,S,G,p⟩:=Ge0 h
 refine wpAny_isTrue_Compare1 (thn (ha pins s σ H _ I (bindP G p fun mp1 H1 x S1 v a1 G1 r1 p1=>(⟨mp1,ρ,S1,x,G1,r1,p1⟩:∃ mp1 ρ S1 x,Gd X.K mp1 H1 σ ρ S1/\Rep X.K mp1 H1 x v/\Post X.K XQ σ ρ mp1 H1 ((fb ρ S1).bind fun y S2=>o x y S2) (fun x H1=>∃ k,x=.bl k/\Q k H1)))) fun vv s1 ⟨v,H1,I1,rv,mp1,ρ1,S1,x,G1,r1,p1⟩=>?_) hm
 refine thn (hb pins s1 σ H1 _ I1 (bindP G1 p1 fun mp2 H2 y S2 u a2 G2 r2 p2=>(⟨mp2,ρ1,S2,x,y,v,G2,Rep.aft a2 _ _ r1,r2,rfl,p2⟩:∃ mp2 ρ S2 x y v',Gd X.K mp2 H2 σ ρ S2/\Rep X.K mp2 H2 x v'/\Rep X.K mp2 H2 y u/\v'=v/\Post X.K XQ σ ρ mp2 H2 (o x y S2) (fun x H1=>∃ k,x=.bl k/\Q k H1)))) fun uv s2 ⟨u,H2,I2,ru,mp2,ρ2,S2,x2,y,v',G2,rx,ry,ev,p2⟩=>?_
 subst ev
 refine thn (ho pins s2 σ ρ2 XQ mp2 H2 S2 x2 y _ u vv uv _ I2 G2.rs rx ry rv ru p2 (hno _ _ _)) fun c s3 ⟨z,H3,I3,r3,k,e,q3⟩=>?_
 subst e
 cases r3
 exact wpAny_truthy_bool ⟨H3,I3,q3⟩
theorem Ge4(hu:X.A.units+64<cLine):OpX X (compareOp .Eq) eqD:=by
 intro pins s σ ρ XQ mp H S x y v u vv uv Q I rs rx ry rv ru p _
 unfold eqD at p
 cases z1:toP S 40 x with
 | none=>simp only[z1] at p; exact p.elim
 | some a=>
  cases z2:toP S 40 y with
  | none=>simp only[z1,z2] at p; exact p.elim
  | some b=>
   simp only[z1,z2] at p
   by_cases hs:(SeqAt.shaped a&&SeqAt.shaped b)=true
   ·rw[if_pos hs] at p
    obtain⟨as,ra⟩:=Gbv I rs 40 x v vv a rx rv z1
    obtain⟨bs,rb⟩:=Gbv I rs 40 y u uv b ry ru z2
    rw[Bool.and_eq_true] at hs
    exact SeqAt.compareEq_shaped ra rb hs.1 hs.2 hu ⟨.bl _,H,I,rfl,Gg.ok (R:=Rep X.K) p rs rfl⟩
   ·rw[if_neg hs] at p; exact p.elim
theorem Ge5(x y:D)(S:Sto)(e:XD)(S':Sto):eqD x y S≠.exc e S':=by
 unfold eqD
 split
 ·split<;>exact fun z=>nomatch z
 ·exact fun z=>nomatch z
theorem Gkf{a b:Expr}{fa fb:Ev D}{pos:Pos}(hu:X.A.units+64<cLine)(ha:JE X XQ a fa)(hb:JE X XQ b fb):JE X XQ (.Compare a [.Eq] [b] pos) (o2 eqD fa fb):=Ghl (Ge4 hu) Ge5 ha hb (nomark _)
theorem Gkg{a b:Expr}{fa fb:Ev D}{pos:Pos}(hu:X.A.units+64<cLine)(ha:JE X XQ a fa)(hb:JE X XQ b fb):JT X XQ (.Compare a [.Eq] [b] pos) (tb (o2 eqD fa fb)):=Ghm (Ge4 hu) Ge5 ha hb (nomark _)
def i2(C:Int->Int->Bool)(g:Int->Int->D):D->D->Sto->Out D:=fun x y S=>match x,y with
 | .int i,.int j=>if C i j=true then .ok (g i j) S else .bad
 | _,_=>.bad
theorem Wn{K:PySem.W.Frag}{C:Int->Int->Prop}{c:Int->Int->Bool}{g:Int->Int->V}{gd:Int->Int->D}(hc:∀ i j,c i j=true->C i j)(hg:∀ mp H i j,Rep K mp H (gd i j) (g i j)):OpD K (rI C g) (i2 c gd):=by
 intro XQ σ ρ mp H S x y v u Q rs rx ry p
 cases x with
 | int i=>
  cases y with
  | int j=>
   have p:Post K XQ σ ρ mp H (if c i j=true then .ok (gd i j) S else .bad) Q:=p
   by_cases h:c i j=true
   ·rw[if_pos h] at p
    exact⟨i,j,rx,ry,hc i j h,Gg.ok (R:=Rep K) p rs (hg mp H i j)⟩
   ·rw[if_neg h] at p; exact p.elim
  | _=>exact(show False from p).elim
 | _=>exact(show False from p).elim
theorem Wo{K:PySem.W.Frag}{g:Int->Int->V}{gd:Int->Int->D}(hg:∀ mp H i j,Rep K mp H (gd i j) (g i j)):OpD K (rI0 g) (i2 (fun _ _=>true) gd):=by
 intro XQ σ ρ mp H S x y v u Q rs rx ry p
 obtain⟨i,j,h1,h2,_,h3⟩:=Wn (C:=fun _ _=>True) (c:=fun _ _=>true) (fun _ _ _=>trivial) hg XQ σ ρ mp H S x y v u Q rs rx ry p
 exact⟨i,j,h1,h2,h3⟩
abbrev Vk:=i2 (fun _ _=>true) fun i j=>.int (i-j)
abbrev Ky:=i2 (fun _ j=>decide (0<j)) fun i j=>.int (i%j)
abbrev Uh:=i2 (fun i j=>decide (0<=j/\j<=1000000/\i.natAbs<2^64)) fun i j=>.int (i^j.toNat)
abbrev ltD:=i2 (fun _ _=>true) fun i j=>.bl (decide (i<j))
abbrev leD:=i2 (fun _ _=>true) fun i j=>.bl (decide (i<=j))
abbrev gtD:=i2 (fun _ _=>true) fun i j=>.bl (decide (j<i))
abbrev geD:=i2 (fun _ _=>true) fun i j=>.bl (decide (j<=i))
section
variable{a b:Expr}{fa fb:Ev D}{pos:Pos}
theorem Ghn(ha:JE X XQ a fa)(hb:JE X XQ b fb):JE X XQ (.BinOp a .Sub b pos) (o2 Vk fa fb):=Vx Ggc (Wo fun _ _ _ _=>rfl) ha hb
theorem Gho(ha:JE X XQ a fa)(hb:JE X XQ b fb):JE X XQ (.BinOp a .Mod b pos) (o2 Ky fa fb):=Vx Gge (Wn (fun _ _ h=>of_decide_eq_true h) fun _ _ _ _=>rfl) ha hb
theorem Ghp(ha:JE X XQ a fa)(hb:JE X XQ b fb):JE X XQ (.BinOp a .Pow b pos) (o2 Uh fa fb):=Vx Ggf (Wn (fun i j h=>(of_decide_eq_true h:0<=j/\j<=1000000/\i.natAbs<2^64)) fun _ _ _ _=>rfl) ha hb
theorem Gkh(ha:JE X XQ a fa)(hb:JE X XQ b fb):JT X XQ (.Compare a [.Lt] [b] pos) (tb (o2 ltD fa fb)):=Gbp Gjr (Wo fun _ _ _ _=>rfl) ha hb (nomark _)
theorem Gki(ha:JE X XQ a fa)(hb:JE X XQ b fb):JT X XQ (.Compare a [.Gt] [b] pos) (tb (o2 gtD fa fb)):=Gbp Gjs (Wo fun _ _ _ _=>rfl) ha hb (nomark _)
end
def Jb(x y:D)(S:Sto):Out D:=match x,y with
 | .int i,.int j=>.ok (.int (i+j)) S
 | .str a,.str b=>if a.length+b.length<=1000000 then .ok (.str (a++b)) S else .bad
 | .lst i,.lst j=>match S[i]?,S[j]? with
  | some c,some e=>if(c.fz=false/\e.fz=false)/\c.xs.length+e.xs.length<=1000000 then .ok (.lst S.length) (S++[⟨false,c.xs++e.xs⟩]) else .bad
  | _,_=>.bad
 | .tup a,.tup b=>if a.length+b.length<=1000000 then .ok (.tup (a++b)) S else .bad
 | _,_=>.bad
def Ge6(K:PySem.W.Frag):R2:=fun x y H Q=>∃ a b ys,x=.ref a/\y=.ref b/\SqT K H a []/\SqT K H b ys/\Q (.ref b) H
theorem Gd8:OpR X (binaryOp .Add) (Ge6 X.K):=by
 intro pins s σ H x y v u Q I rx ry ⟨a,b,ys,e1,e2,ha,hb,q⟩
 subst e1 e2
 cases rx; cases ry
 obtain⟨its,r1,p1,_⟩:=I.tuple ha
 obtain⟨its2,r2,p2,_⟩:=I.tuple hb
 have ei:=r1.nil_iff.mpr rfl
 subst ei
 obtain⟨⟨cls,dd,data,sl⟩,ho,hc,n,hd⟩:=id p1
 obtain⟨⟨cls2,dd2,data2,sl2⟩,ho2,hc2,n2,hd2⟩:=id p2
 simp only at hc hd hc2 hd2
 subst hc hd hc2 hd2
 exact concat_meets ⟨_,ho,rfl⟩ ⟨_,ho2,rfl⟩ noFill_tuple_add seq_tuple_add PySem.F.slot_tuple_add PySem.F.entry_tuple_add (PySem.F.args_tuple_add_2 _ _)
  (tuple_addW0 a b [].toArray its2.toArray n n2 dd dd2 sl sl2 (by rfl)) ⟨ho,ho2,⟨.ref b,H,I,rfl,q⟩⟩
def Ge7(K:PySem.W.Frag):R2:=fun x y H Q=>rI0 (fun i j=>.int (i+j)) x y H Q\/(∃ i j,x=.str i/\y=.str j/\i.length+j.length<=sizeLine/\Q (.str (i++j)) H)\/Gj3 x y H Q\/Gey K x y H Q\/Ge6 K x y H Q
theorem Gd9:OpR X (binaryOp .Add) (Ge7 X.K):=Ggb.or (Yl.or (Ggu.or (Gdp.or Gd8)))
theorem Ghq{K:PySem.W.Frag}:OpD K (Ge7 K) Jb:=by
 intro XQ σ ρ mp H S x y v u Q rs rx ry p
 unfold Jb at p
 split at p
 ·exact .inl ⟨_,_,rx,ry,Gg.ok (R:=Rep K) p rs rfl⟩
 ·rename_i a b
  by_cases h:a.length+b.length<=1000000
  ·rw[if_pos h] at p
   exact .inr (.inl ⟨_,_,rx,ry,line_le h,Gg.ok (R:=Rep K) p rs rfl⟩)
  ·rw[if_neg h] at p; exact p.elim
 ·rename_i i j
  split at p
  ·rename_i c e zc ze
   by_cases h:(c.fz=false/\e.fz=false)/\c.xs.length+e.xs.length<=1000000
   ·rw[if_pos h] at p
    obtain⟨a1,xs,rfl,_,_,q1,f1⟩:=rs.items rx zc
    obtain⟨a2,ys,rfl,_,_,q2,f2⟩:=rs.items ry ze
    refine .inr (.inr (.inl ⟨a1,a2,xs,ys,rfl,rfl,f1 h.1.1,f2 h.1.2,by rw[q1.len,q2.len]; exact line_le h.2,fun q hq=>Kb p rs (q1.append q2) hq⟩))
   ·rw[if_neg h] at p; exact p.elim
  ·exact p.elim
 ·rename_i a b
  by_cases h:a.length+b.length<=1000000
  ·rw[if_pos h] at p
   obtain⟨a1,xs,rfl,s1,q1⟩:=Rep.tup rx
   obtain⟨a2,ys,rfl,s2,q2⟩:=Rep.tup ry
   have l1:=q1.len
   have l2:=q2.len
   by_cases he:xs=[]
   ·subst he
    have ea:a=[]:=by cases a with | nil=>rfl | cons _ _=>simp at l1
    subst ea
    exact .inr (.inr (.inr (.inr ⟨a1,a2,ys,rfl,rfl,s1,s2,Gg.ok (R:=Rep K) p rs ry⟩)))
   ·refine .inr (.inr (.inr (.inl ⟨a1,a2,xs,ys,rfl,rfl,s1,s2,he,by rw[l1,l2]; exact line_le h,fun z=>?_,fun _ q hq=>Ka p rs (q1.append q2) hq⟩)))
    subst z
    have eb:b=[]:=by cases b with | nil=>rfl | cons _ _=>simp at l2
    subst eb
    rw[List.append_nil] at p
    exact Gg.ok (R:=Rep K) p rs rx
  ·rw[if_neg h] at p; exact p.elim
 ·exact p.elim
theorem Ghr{a b:Expr}{fa fb:Ev D}{pos:Pos}(ha:JE X XQ a fa)(hb:JE X XQ b fb):JE X XQ (.BinOp a .Add b pos) (o2 Jb fa fb):=Vx Gd9 Ghq ha hb
def Jt(x y:D)(S:Sto):Out D:=match x,y with
 | .int i,.int j=>if(-(2^64)<i/\i<2^64)\/(-(2^64)<j/\j<2^64) then .ok (.int (i*j)) S else .bad
 | .lst i,.int k=>match S[i]? with
  | some c=>if c.fz=false/\(-1000000<=k/\k<=1000000)/\c.xs.length*k.toNat<=1000000 then .ok (.lst S.length) (S++[⟨false,(List.replicate k.toNat c.xs).flatten⟩]) else .bad
  | none=>.bad
 | .tup l,.int k=>if 0<l.length/\(2<=k/\k<=1000000)/\l.length*k.toNat<=1000000 then .ok (.tup (List.replicate k.toNat l).flatten) S else .bad
 | _,_=>.bad
def Ge8(K:PySem.W.Frag):R2:=fun x y H Q=>rI CMul (fun i j=>.int (i*j)) x y H Q\/Gj4 x y H Q\/Ge3 K x y H Q
theorem Gea:OpR X (binaryOp .Mult) (Ge8 X.K):=Ggd.or (Ggv.or Gd7)
theorem RepL.flat{K:PySem.W.Frag}{mp:List Addr}{H:Hp}{l:List D}{vs:List V}(h:RepL K mp H l vs):∀ k:Nat,RepL K mp H (List.replicate k l).flatten (List.replicate k vs).flatten
 | 0=>RepL.nil
 | k+1=>by
  rw[List.replicate_succ,List.replicate_succ,List.flatten_cons,List.flatten_cons]
  exact RepL.append h (RepL.flat h k)
theorem Ghs{K:PySem.W.Frag}:OpD K (Ge8 K) Jt:=by
 intro XQ σ ρ mp H S x y v u Q rs rx ry p
 unfold Jt at p
 split at p
 ·rename_i i j
  by_cases h:(-(2^64)<i/\i<2^64)\/(-(2^64)<j/\j<2^64)
  ·rw[if_pos h] at p
   exact .inl ⟨_,_,rx,ry,h,Gg.ok (R:=Rep K) p rs rfl⟩
  ·rw[if_neg h] at p; exact p.elim
 ·rename_i i k
  split at p
  ·rename_i c zc
   by_cases h:c.fz=false/\(-1000000<=k/\k<=1000000)/\c.xs.length*k.toNat<=1000000
   ·rw[if_pos h] at p
    obtain⟨a1,xs,rfl,_,_,q1,f1⟩:=rs.items rx zc
    exact .inr (.inl ⟨a1,k,xs,rfl,ry,f1 h.1,by omega,by omega,by rw[q1.len]; exact line_le h.2.2,fun q hq=>Kb p rs (q1.flat _) hq⟩)
   ·rw[if_neg h] at p; exact p.elim
  ·exact p.elim
 ·rename_i l k
  by_cases h:0<l.length/\(2<=k/\k<=1000000)/\l.length*k.toNat<=1000000
  ·rw[if_pos h] at p
   obtain⟨a1,xs,rfl,s1,q1⟩:=Rep.tup rx
   have hl:=q1.len
   exact .inr (.inr ⟨a1,k,xs,rfl,ry,s1,fun z=>by rw[z] at hl; simp at hl; omega,h.2.1.1,h.2.1.2,by rw[q1.len]; exact line_le h.2.2,fun q hq=>Ka p rs (q1.flat _) hq⟩)
  ·rw[if_neg h] at p; exact p.elim
 ·exact p.elim
theorem Ght{a b:Expr}{fa fb:Ev D}{pos:Pos}(ha:JE X XQ a fa)(hb:JE X XQ b fb):JE X XQ (.BinOp a .Mult b pos) (o2 Jt fa fb):=Vx Gea Ghs ha hb
def Gbw(x:D)(S:Sto):Out D:=match x with
 | .int i=>.ok (.int (-i)) S
 | _=>.bad
def getD(x y:D)(S:Sto):Out D:=match x,y with
 | .tup l,.int i=>match atI l i with
  | some d=>.ok d S
  | none=>.bad
 | .lst k,.int i=>match S[k]? with
  | some c=>match atI c.xs i with
   | some d=>.ok d S
   | none=>.bad
  | none=>.bad
 | .str z,.int i=>if z.length<=1000000 then(match atI z.cps.toList i with
  | some c=>.ok (.str ⟨#[c]⟩) S
  | none=>.bad) else .bad
 | _,_=>.bad
theorem RepL.atI{K:PySem.W.Frag}{mp:List Addr}{H:Hp}{l:List D}{vs:List V}{i:Int}{d:D}(h:RepL K mp H l vs)(e:L2.atI l i=some d):∃ v,L2.atI vs i=some v/\Rep K mp H d v:=by
 unfold L2.atI at e ⊢
 rw[h.len]
 cases z:ixN l.length i with
 | none=>rw[z] at e; cases e
 | some j=>
  rw[z] at e
  exact h.get e
theorem Ghu{K:PySem.W.Frag}:OpD K (rIx K) getD:=by
 intro XQ σ ρ mp H S x y v u Q rs rx ry p
 unfold getD at p
 split at p
 ·rename_i l i
  split at p
  ·rename_i d zd
   obtain⟨a,xs,rfl,sq,q⟩:=Rep.tup rx
   obtain⟨w,hw,rw'⟩:=q.atI zd
   exact .inr (.inl ⟨a,xs,i,w,rfl,ry,sq,hw,Gg.ok (R:=Rep K) p rs rw'⟩)
  ·exact p.elim
 ·rename_i k i
  split at p
  ·rename_i c zc
   split at p
   ·rename_i d zd
    obtain⟨a,xs,rfl,_,sq,q,_⟩:=rs.items rx zc
    obtain⟨w,hw,rw'⟩:=q.atI zd
    exact .inl ⟨a,xs,i,w,rfl,ry,sq,hw,Gg.ok (R:=Rep K) p rs rw'⟩
   ·exact p.elim
  ·exact p.elim
 ·rename_i z i
  by_cases h:z.length<=1000000
  ·rw[if_pos h] at p
   split at p
   ·rename_i c zc
    exact .inr (.inr ⟨z,i,c,rx,ry,line_le h,zc,Gg.ok (R:=Rep K) p rs rfl⟩)
   ·exact p.elim
  ·rw[if_neg h] at p; exact p.elim
 ·exact p.elim
theorem Ghv{a b:Expr}{fa fb:Ev D}{pos:Pos}(ha:JE X XQ a fa)(hb:JE X XQ b fb)(hs:Ul b:=by intro _ _; rfl):JE X XQ (.Subscript a b pos) (o2 getD fa fb):=Gj9 Ggs Ghu ha hb hs
def Kz(x y z:D)(S:Sto):Option Sto:=match x,y with
 | .lst k,.int i=>match S[k]? with
  | some c=>match ixN c.xs.length i with
   | some j=>if c.fz=false then some (S.set k ⟨false,c.xs.set j z⟩) else none
   | none=>none
  | none=>none
 | _,_=>none
theorem Ghw{K:PySem.W.Frag}:Gke Gez K Kz:=by
 intro mp H S S' x y z v u w Q rs rx ry rz e k
 unfold Kz at e
 split at e
 ·rename_i kk i
  split at e
  ·rename_i c zc
   split at e
   ·rename_i j zj
    by_cases hf:c.fz=false
    ·rw[if_pos hf] at e
     cases (Option.some.inj e)
     obtain⟨a,xs,rfl,ha,sq,q,f⟩:=rs.items rx zc
     have hH:=f hf
     obtain⟨af,rs'⟩:=rs.setL ha zc hf hH (q.set j rz)
     exact⟨a,xs,i,j,rfl,ry,hH,by rw[q.len]; exact zj,k _ af rs'⟩
    ·rw[if_neg hf] at e; cases e
   ·cases e
  ·cases e
 ·cases e
theorem Gbx{ob ix e:Expr}{f fo fi:Ev D}{pos p2:Pos}(he:JE X XQ e f)(hob:JE X XQ ob fo)(hix:JE X XQ ix fi)
  (hs:swapsWithSole [.Subscript ob ix p2] e pos.line X.env=pure false:=by rfl) (hw:swappedStores [.Subscript ob ix p2] e X.env=pure none:=by rfl)
  (h1:(assignEach [.Subscript ob ix p2] X.env).map (·.2)=[assign (.Subscript ob ix p2) X.env]:=by rfl) (ha:∀ v,assign (.Subscript ob ix p2) X.env v=(do
   let ov <- holding [v] (eval ob X.env)
   let iv <- holding [v,ov] (eval ix X.env)
   standAt p2
   holding [v,ov,iv] (setItem ov iv v)
   release [v,ov,iv] []):=by intro _; rfl):JS X XQ (.Assign [.Subscript ob ix p2] e pos) (ss f fo fi Kz):=Ghd Gbj Ghw he hob hix hs hw h1 ha
end
section
variable{X:Cx}{XQ:XW}
def BlD(K:PySem.W.Frag)(r:List V->Hp->VK->Prop)(o:List D->Sto->Out D):Prop:=
 ∀ (XQ:XW) (σ:L2.St) (ρ:Lc) (mp:List Addr) (H:Hp) (S:Sto) (xs:List D) (vs:List V) (Q:VK),RS K mp H S->RepL K mp H xs vs->Post K XQ σ ρ mp H (o xs S) Q->r vs H Q
def b1(o:List D->Sto->Out D)(f:Ev (List D)):Ev D:=fun ρ S=>(f ρ S).bind o
theorem cbR{r:List V->Hp->VK->Prop}{o:List D->Sto->Out D}{f:Ev (List D)}(hd:BlD X.K r o)(σ:L2.St)(H:Hp)(Q:VK)(h:rdE X.K XQ (b1 o f) σ H Q):tCB r (rdA X.K XQ f) σ H Q:=by
 obtain⟨mp,ρ,S,G,p⟩:=h
 exact bindP G p fun mp1 H1 xs S1 vs a1 G1 r1 p1=>hd XQ σ ρ mp1 H1 S1 xs vs Q G1.rs r1 p1
theorem Wp{id:String}{x:Str}{p pos:Pos}{e:Expr}{es:List Expr}{r:List V->Hp->VK->Prop}{o:List D->Sto->Out D}{f:Ev (List D)}(hc:Ko X (.builtin id) r)(hd:BlD X.K r o)(hg:Gl X x)(hm:X.mg x=none)(hv:bootBuiltins x=some (.builtin id))(ha:JA X XQ (e::es) f)(hn:x≠"__name__":=by decide)(hdb:(x==("__debug__":Str))=false:=by decide)
  (he:starEach (e::es) X.env=(false,eval e X.env)::starEach es X.env:=by rfl) (hpl:(backTo pos (starEach es X.env)).any (·.1)=false:=by rfl):JE X XQ (.Call (.Name x p) (e::es) [] pos) (b1 o f):=
 PE.mono (Xj hc hg hm hv ha hn hdb he hpl) (cbR hd)
theorem Ge9{T:String}{x:Str}{p pos:Pos}{e:Expr}{es:List Expr}{r:List V->Hp->VK->Prop}{o:List D->Sto->Out D}{f:Ev (List D)}(hc:Ko X (.type T) r)(hd:BlD X.K r o)(hg:Gl X x)(hm:X.mg x=none)(hv:bootBuiltins x=some (.type T))(ha:JA X XQ (e::es) f)(hn:x≠"__name__":=by decide)(hdb:(x==("__debug__":Str))=false:=by decide)
  (he:starEach (e::es) X.env=(false,eval e X.env)::starEach es X.env:=by rfl) (hpl:(backTo pos (starEach es X.env)).any (·.1)=false:=by rfl):JE X XQ (.Call (.Name x p) (e::es) [] pos) (b1 o f):=
 PE.mono (Gam hc hg hm hv ha hn hdb he hpl) (cbR hd)
def Jd(xs:List D)(S:Sto):Out D:=match xs with
 | [.str z]=>if z.length<=1000000 then .ok (.int z.length) S else .bad
 | [.tup l]=>.ok (.int l.length) S
 | [.lst i]=>match S[i]? with
  | some c=>.ok (.int c.xs.length) S
  | none=>.bad
 | _=>.bad
theorem Ghx{K:PySem.W.Frag}:BlD K (fun xs H Q=>∃ x n,xs=[x]/\Gju K x H n/\Q (.int n) H) Jd:=by
 intro XQ σ ρ mp H S xs vs Q rs r p
 unfold Jd at p
 split at p
 ·rename_i z
  obtain⟨v,rfl,h⟩:=RepL.one r
  cases (show v=.str z from h)
  by_cases hz:z.length<=1000000
  ·rw[if_pos hz] at p
   exact⟨_,_,rfl,⟨line_le hz,rfl⟩,Gg.ok (R:=Rep K) p rs rfl⟩
  ·rw[if_neg hz] at p; exact p.elim
 ·rename_i l
  obtain⟨v,rfl,h⟩:=RepL.one r
  obtain⟨a,xs,rfl,sq,q⟩:=Rep.tup h
  exact⟨_,xs.length,rfl,.inr ⟨xs,sq,rfl⟩,Gg.ok (R:=Rep K) p rs (by rw[q.len]; rfl)⟩
 ·rename_i i
  obtain⟨v,rfl,h⟩:=RepL.one r
  split at p
  ·rename_i c zc
   obtain⟨a,xs,rfl,_,sq,q,_⟩:=rs.items h zc
   exact⟨_,xs.length,rfl,.inl ⟨xs,sq,rfl⟩,Gg.ok (R:=Rep K) p rs (by rw[q.len]; rfl)⟩
  ·exact p.elim
 ·exact p.elim
theorem Ghy{p pos:Pos}{e:Expr}{f:Ev (List D)}(hg:Gl X "len")(hm:X.mg "len"=none)(ha:JA X XQ [e] f)(he:starEach [e] X.env=(false,eval e X.env)::starEach [] X.env:=by rfl):JE X XQ (.Call (.Name "len" p) [e] [] pos) (b1 Jd f):=Wp Gbf Ghx hg hm PySem.boot_len ha (he:=he)
def Ub(xs:List D)(S:Sto):Out D:=match xs with
 | [.tup l]=>.ok (.lst S.length) (S++[⟨false,l⟩])
 | [.lst i]=>match S[i]? with
  | some c=>.ok (.lst S.length) (S++[⟨false,c.xs⟩])
  | none=>.bad
 | _=>.bad
theorem Geb{K:PySem.W.Frag}:BlD K (fun xs H Q=>∃ p ys,xs=[.ref p]/\(SqL K H p ys\/SqT K H p ys)/\∀ l,H l=none->Q (.ref l) (upd H l (.lst ys))) Ub:=by
 intro XQ σ ρ mp H S xs vs Q rs r p
 unfold Ub at p
 split at p
 ·obtain⟨v,rfl,h⟩:=RepL.one r
  obtain⟨a,xs,rfl,sq,q⟩:=Rep.tup h
  exact⟨a,xs,rfl,.inr sq,fun l hl=>Kb p rs q hl⟩
 ·obtain⟨v,rfl,h⟩:=RepL.one r
  split at p
  ·rename_i c zc
   obtain⟨a,xs,rfl,_,sq,q,_⟩:=rs.items h zc
   exact⟨a,xs,rfl,.inl sq,fun l hl=>Kb p rs q hl⟩
  ·exact p.elim
 ·exact p.elim
def Ys(xs:List D)(S:Sto):Out D:=match xs with
 | [.tup l]=>.ok (.tup l) S
 | [.lst i]=>match S[i]? with
  | some c=>.ok (.tup c.xs) S
  | none=>.bad
 | _=>.bad
theorem Gby{K:PySem.W.Frag}:BlD K (fun xs H Q=>∃ p ys,xs=[.ref p]/\((SqL K H p ys/\∀ l,H l=none->Q (.ref l) (upd H l (.tup ys)))\/(SqT K H p ys/\Q (.ref p) H))) Ys:=by
 intro XQ σ ρ mp H S xs vs Q rs r p
 unfold Ys at p
 split at p
 ·obtain⟨v,rfl,h⟩:=RepL.one r
  obtain⟨a,xs,rfl,sq,q⟩:=Rep.tup h
  exact⟨a,xs,rfl,.inr ⟨sq,Gg.ok (R:=Rep K) p rs h⟩⟩
 ·obtain⟨v,rfl,h⟩:=RepL.one r
  split at p
  ·rename_i c zc
   obtain⟨a,xs,rfl,_,sq,q,_⟩:=rs.items h zc
   exact⟨a,xs,rfl,.inl ⟨sq,fun l hl=>Ka p rs q hl⟩⟩
  ·exact p.elim
 ·exact p.elim
theorem Gec{p pos:Pos}{e:Expr}{f:Ev (List D)}(hg:Gl X "list")(hm:X.mg "list"=none)(ha:JA X XQ [e] f)(he:starEach [e] X.env=(false,eval e X.env)::starEach [] X.env:=by rfl):JE X XQ (.Call (.Name "list" p) [e] [] pos) (b1 Ub f):=Ge9 Wi Geb hg hm (by rfl) ha (he:=he)
theorem Gbz{p pos:Pos}{e:Expr}{f:Ev (List D)}(hg:Gl X "tuple")(hm:X.mg "tuple"=none)(ha:JA X XQ [e] f)(he:starEach [e] X.env=(false,eval e X.env)::starEach [] X.env:=by rfl):JE X XQ (.Call (.Name "tuple" p) [e] [] pos) (b1 Ys f):=Ge9 Vi Gby hg hm (by rfl) ha (he:=he)
def Gl3(xs:List D)(S:Sto):Out D:=match xs with
 | [.int i,.int j]=>.ok (.int (if j<i then j else i)) S
 | _=>.bad
def Gb0(x y:D)(S:Sto):Out D:=match x,y with
 | .non,.non=>.ok (.bl true) S
 | .bl _,.non=>.ok (.bl false) S
 | .int _,.non=>.ok (.bl false) S
 | .str _,.non=>.ok (.bl false) S
 | .tup _,.non=>.ok (.bl false) S
 | .lst _,.non=>.ok (.bl false) S
 | .exn _ _,.non=>.ok (.bl false) S
 | _,_=>.bad
theorem Ghz{K:PySem.W.Frag}:OpD K (fun x y H Q=>y=.non/\Q (.bl (decide (x=.non))) H) Gb0:=by
 intro XQ σ ρ mp H S x y v u Q rs rx ry p
 cases y with
 | non=>
  refine⟨ry,?_⟩
  cases x with
  | non=>cases (show v=.non from rx); exact Gg.ok (R:=Rep K) p rs (by rfl)
  | bl b=>cases (show v=.bl b from rx); exact Gg.ok (R:=Rep K) p rs (by rfl)
  | int b=>cases (show v=.int b from rx); exact Gg.ok (R:=Rep K) p rs (by rfl)
  | str b=>cases (show v=.str b from rx); exact Gg.ok (R:=Rep K) p rs (by rfl)
  | tup l=>obtain⟨a,xs,rfl,_⟩:=Rep.tup rx; exact Gg.ok (R:=Rep K) p rs (by rfl)
  | lst i=>obtain⟨a,rfl,_⟩:=(show ∃ a,v=.ref a/\mp[i]?=some a/\¬ Dcy H a from rx); exact Gg.ok (R:=Rep K) p rs (by rfl)
  | exn c n=>obtain⟨a,dx,_,rfl,_⟩:=(show ∃ a dx p,v=.ref a/\(CN K c p/\XCl K p/\H a=some (XO a p dx))/\∀ i,n=some i->∃ d,dx=some d/\H d=some (XA d i) from rx); exact Gg.ok (R:=Rep K) p rs (by rfl)
  | fv c=>exact(show False from p).elim
  | dct c=>exact(show False from p).elim
 | _=>cases x<;>exact(show False from p).elim
theorem Gh0{a b:Expr}{fa fb:Ev D}{pos:Pos}(ha:JE X XQ a fa)(hb:JE X XQ b fb):JE X XQ (.Compare a [.Is] [b] pos) (o2 Gb0 fa fb):=Ggz Ggi Ghz ha hb (nomark _)
def Qu(xs:List D)(lo hi:Option Int):List D:=(xs.drop (HT.sIx xs.length 0 lo)).take (HT.sIx xs.length xs.length hi-HT.sIx xs.length 0 lo)
theorem RepL.cut{K:PySem.W.Frag}{mp:List Addr}{H:Hp}{l:List D}{vs:List V}(h:RepL K mp H l vs)(lo hi:Option Int):RepL K mp H (Qu l lo hi) (Xk vs lo hi):=by
 unfold Qu Xk
 rw[h.len]
 exact(h.drop _).take _
def slD(x:D)(lo hi:Option Int)(S:Sto):Out D:=match x with
 | .tup l=>if HT.sIx l.length 0 lo=0/\HT.sIx l.length l.length hi=l.length then .bad else .ok (.tup (Qu l lo hi)) S
 | .lst i=>match S[i]? with
  | some c=>.ok (.lst S.length) (S++[⟨false,Qu c.xs lo hi⟩])
  | none=>.bad
 | _=>.bad
def sl(fe:Ev D)(fl fh:Ev (Option Int)):Ev D:=fun ρ S=>(fe ρ S).bind fun x S1=>(fl ρ S1).bind fun l S2=>(fh ρ S2).bind fun u S3=>slD x l u S3
def onone:Ev (Option Int):=fun _ S=>.ok none S
def osome(f:Ev D):Ev (Option Int):=fun ρ S=>(f ρ S).bind fun x S1=>match x with
 | .int i=>.ok (some i) S1
 | _=>.bad
theorem Ged:JO X XQ none onone:=PO.mono Gdn fun σ H Q ⟨mp,ρ,S,G,p⟩=>Gg.ok (R:=kO) (show Gg X.K kO XQ σ ρ mp H (.ok none S) Q from p) G.rs rfl
theorem Gee{e:Expr}{f:Ev D}(h:JE X XQ e f):JO X XQ (some e) (osome f):=PO.mono (Gdo h) fun σ H Q ⟨mp,ρ,S,G,p⟩=>bindP G p fun mp1 H1 x S1 v a1 G1 r1 p1=>by
 cases x with
 | int i=>exact⟨i,r1,Gg.ok (R:=kO) p1 G1.rs rfl⟩
 | _=>exact(show False from p1).elim
def MeD(K:PySem.W.Frag)(r:V->List V->Hp->VK->Prop)(o:D->List D->Sto->Out D):Prop:=
 ∀ (XQ:XW) (σ:L2.St) (ρ:Lc) (mp:List Addr) (H:Hp) (S:Sto) (x:D) (xs:List D) (v:V) (vs:List V) (Q:VK),RS K mp H S->Rep K mp H x v->RepL K mp H xs vs->Post K XQ σ ρ mp H (o x xs S) Q->r v vs H Q
def isLst(x:D)(S:Sto):Bool:=match x with
 | .lst i=>match S[i]? with
  | some _=>true
  | none=>false
 | _=>false
def mt(o:D->List D->Sto->Out D)(fo:Ev D)(f:Ev (List D)):Ev D:=fun ρ S=>(fo ρ S).bind fun x S1=>if isLst x S1=true then(f ρ S1).bind fun xs S2=>o x xs S2 else .bad
theorem Zj{id:String}{name:Str}{o e:Expr}{es:List Expr}{apos cpos:Pos}{r:V->List V->Hp->VK->Prop}{od:D->List D->Sto->Out D}{fo:Ev D}{f:Ev (List D)}(slot:Slot "list" name id)(hty:typeOf (.builtin id)=pure (.type "method_descriptor"))(hm:MtM X id r)(hd:MeD X.K r od)(ho:JE X XQ o fo)(ha:JA X XQ (e::es) f)
  (hbase:attributeBase o name X.env (eval o X.env)=eval o X.env:=by rfl)
  (hfew:((backTo cpos (starEach (e::es) X.env)).all (fun x=>!x.1)&&(backToKw cpos (keywordEach [] X.env)).all (fun x=>x.1.isSome)
   && decide ((e::es).length+([]:List Keyword).length+(if([]:List Keyword).isEmpty then 0 else 1)<30))=true:=by rfl)
  (hline:(apos.endLine==cpos.line)=true:=by rfl) (hs:starEach (e::es) X.env=(false,eval e X.env)::starEach es X.env:=by rfl) (hplain:(backTo cpos (starEach es X.env)).any (·.1)=false:=by rfl):
  JE X XQ (.Call (.Attribute o name apos) (e::es) [] cpos) (mt od fo f):=by
 refine PE.mono (Gj2 PySem.F.plainAttrs_list slot hty hm ho ha hbase hfew hline hs hplain) fun σ H Q ⟨mp,ρ,S,G,p⟩=>?_
 refine bindP G p fun mp1 H1 x S1 v a1 G1 r1 p1=>?_
 by_cases hl:isLst x S1=true
 ·rw[if_pos hl] at p1
  have ty:tyV X.K "list" v H1:=by
   cases x with
   | lst i=>
    cases zc:S1[i]? with
    | none=>simp[isLst,zc] at hl
    | some c=>
     obtain⟨a,xs,rfl,_,sq,_⟩:=G1.rs.items r1 zc
     exact .inl ⟨rfl,xs,sq⟩
   | _=>simp[isLst] at hl
  exact⟨ty,bindP G1 p1 fun mp2 H2 xs S2 vs a2 G2 r2 p2=>hd XQ σ ρ mp2 H2 S2 x xs v vs Q G2.rs (Rep.aft a2 _ _ r1) r2 p2⟩
 ·rw[if_neg hl] at p1; exact p1.elim
end
section
variable{X:Cx}{XQ:XW}
theorem Gh1{K:PySem.W.Frag}:UnD K (rU fun i=>.int (-i)) Gbw:=by
 intro XQ σ ρ mp H S x v Q rs rx p
 cases x with
 | int i=>exact⟨i,rx,Gg.ok (R:=Rep K) (show Post K XQ σ ρ mp H (.ok (.int (-i)) S) Q from p) rs rfl⟩
 | _=>exact(show False from p).elim
theorem Gh2{a:Expr}{fa:Ev D}{pos:Pos}(ha:JE X XQ a fa):JE X XQ (.UnaryOp .USub a pos) (o1 Gbw fa):=Gka Ggg Gh1 ha
def ch(o o':D->D->Sto->Out D)(fa fb fc:Ev D):Ev D:=fun ρ S=>(fa ρ S).bind fun x S1=>(fb ρ S1).bind fun y S2=>(o x y S2).bind fun z S3=>match z with
 | .bl k=>if k=true then(fc ρ S3).bind fun w S4=>o' y w S4 else .ok (.bl false) S3
 | _=>.bad
end
def XAt(a c:Addr)(h:Heap):Prop:=∃ oe,h.get? a=some oe/\oe.cls=.ref c/\∃ vs,oe.data=.fields vs
section
variable{prog:Program}{w:World}{A:Around}{E:Value->Shared->Prop}{h:Heap}{g:Array GenState}{d:Drawn}{t:Nat}{os:OsState}{a c:Addr}{o:Obj}{K:PySem.W.Frag}
theorem Gh3{M:Model}(x:XAt a c h):PySem.W.Looks M h (typeOf (.ref a)) (.ref c):=by
 obtain⟨oe,h1,h2,_⟩:=x
 exact h2▸(PySem.W.Looks.ld h1).andThen .now
theorem Gh4{tp:Value}{R:Result->Shared->Prop}(X:K.In h)(k:XCl K c)(x:XAt a c h)(hq:R (.ok (.ret (.ref c))) ⟨h,g,d,t,os⟩):
  codeAny (model prog w) A (.call (.builtin "getset_descriptor.__get__") ⟨[.builtin "object.__class__",.ref a,tp],[]⟩) R ⟨h,g,d,t,os⟩:=by
 obtain⟨oe,hx,hc,_⟩:=x
 have hT5:(⟨h,g,d,t,os⟩:Shared).TypeIs (.builtin "object.__class__") "getset_descriptor":=F.typeOf_object_class
 refine codeAny_call_builtin F.slot_gs_get.plain F.entry_gs_get (F.slot_gs_get.check _ _ _ _ _ _ _ _ hT5 (F.args_gs_get _ _ _) ?_)
 have L1:=fun(M:Model)=>PySem.W.looks_mroIn (M:=M) X k.ob
 have ow:=F.owner_object_class
 repeat (any_goals (first | assumption | (with_reducible refine wpAny_loadPart_at hx ?_; rw[hc]) | (rw[ow]; with_reducible refine(L1 _).here ?_) | wp_step))
 refine⟨Code.quiet_builtin _ (by decide +kernel),codeAny_builtin F.entry_object_class ?_⟩
 repeat (any_goals (first | assumption | (with_reducible refine wpAny_loadPart_at hx ?_; rw[hc]) | wp_step))
theorem Gb1{M:Model}{nameV:Value}{Q:Unit->Shared->Prop}(X:K.In h)(k:XCl K c)(x:XAt a c h)(hq:Q () ⟨h,g,d,t,os⟩):wpAny M A (checkBuiltinCall "BaseException.__getattribute__" ⟨[.ref a,nameV],[]⟩) Q E ⟨h,g,d,t,os⟩:=by
 obtain⟨oe,hx,hc,_⟩:=x
 have bk:builtinKind "BaseException.__getattribute__"=some .slot:=by decide +kernel
 have bs:splitId "BaseException.__getattribute__"=some ("BaseException","__getattribute__"):=by decide +kernel
 have ha:=F.args_bexc_ga (.ref a) nameV
 have L1:PySem.W.Looks M h (isSubtype (.ref c) (.type "BaseException")) true:=PySem.W.looks_subIn X k.be
 simp only[checkBuiltinCall,bk,bs]
 refine wpAny_bind ?_
 ·unfold isInstance
  repeat (first | (with_reducible refine wpAny_loadPart_at hx ?_; rw[hc]) | (with_reducible refine L1.here ?_) | wp_step)
  exact hq
theorem Gb2{tk:Tok}{Q:Fin->Shared->Prop}(X:K.In h)(k:XCl K c)(x:XAt a c h)(hq:Q (.done (.ret (.ref c))) ⟨h,g,d,t,os⟩):
  wpAny (model prog w) A (Builtin.«object.__getattribute__» ⟨[.ref a,.str "__class__" tk],[]⟩) Q E ⟨h,g,d,t,os⟩:=by
 obtain⟨oe,hx,hc,hv⟩:=id x
 have hT5:(⟨h,g,d,t,os⟩:Shared).TypeIs (.builtin "object.__class__") "getset_descriptor":=F.typeOf_object_class
 have f5:=F.typeOf_object_class
 have f6:=F.slot_gs_get.lookup
 have f7:=F.slot_gs_set.lookup
 have L1:=fun(M:Model)=>PySem.W.looks_findIn (M:=M) X k.cl
 repeat (any_goals (first | assumption | (with_reducible refine wpAny_loadPart_at hx ?_; rw[hc]) | with_reducible refine(L1 _).here ?_ | wp_step))
 refine Gh4 X k x ?_
 repeat (any_goals (first | assumption | wp_step))
theorem Gkj{tk:Tok}{fill expr:Bool}{Q:Value->Shared->Prop}(X:K.In h)(k:XCl K c)(x:XAt a c h)(hq:Q (.ref c) ⟨h,g,d,t,os⟩):
  wpAny (model prog w) A (getAttrBy (.ref a) (.str "__class__" tk) fill expr) Q E ⟨h,g,d,t,os⟩:=by
 obtain⟨oe,hx,hc,hv⟩:=id x
 have f3:=PySem.F.excAttr_ValueError.ga.bind (.ref a)
 have n0:(expr&&onTheHeap (Value.builtin "BaseException.__getattribute__"))=false:=by cases expr<;>rfl
 have n2:(Value.builtin "BaseException.__getattribute__"==Value.builtin "object.__getattribute__")=false:=by decide +kernel
 have n1:(onTheHeap (Value.ref c)&&Value.builtin "BaseException.__getattribute__"==Value.builtin "object.__getattribute__")=false:=by rw[n2]; rfl
 have L1:=fun(M:Model)=>PySem.W.looks_findIn (M:=M) X k.ga
 have L2:=fun(M:Model)=>PySem.W.looks_findIn (M:=M) X k.gt
 repeat (any_goals (first | assumption | (with_reducible refine wpAny_loadPart_at hx ?_; rw[hc]) | with_reducible refine(L1 _).here ?_ | with_reducible refine(L2 _).here ?_ | wp_step))
 refine codeAny_call_builtin PySem.F.excAttr_ValueError.ga.plain F.entry_bexc_ga (Gb1 X k x (Gb2 X k x ?_))
 repeat (any_goals (first | assumption | wp_step))
theorem Gef{Q:Option Value->Shared->Prop}(X:K.In h)(k:XCl K c)(x:XAt a c h)(hq:Q (some (.ref c)) ⟨h,g,d,t+1,os⟩):wpAny (model prog w) A (getAttr? (.ref a) "__class__") Q E ⟨h,g,d,t,os⟩:=by
 unfold getAttr? getAttrBy?
 repeat (any_goals (first | assumption | with_reducible apply Gkj X k x | wp_step))
end
theorem Gb3{K:PySem.W.Frag}{a c:Addr}(k:XCl K c):PySem.W.KitX K (.ref a) (.ref c) (XAt a c) where
 ty:=fun _ _ _ x=>Gh3 x
 it:=fun _ _ X _=>by
  obtain⟨cd,hc⟩:=Option.isSome_iff_exists.mp k.cd
  unfold PySem.W.clsIn at hc
  split at hc
  ·rename_i c' d' cd' sl' ho
   intro A Q E s kp q
   unfold isType loadHead
   exact wpAny_bind (wpAny_loadPart (kp _ _ (X _ _ ho)) (wpAny_pure q))
  ·cases hc
 ne:=fun h tp dd its n sl X htp=>by
  obtain⟨cd,hc⟩:=Option.isSome_iff_exists.mp k.cd
  refine Bool.eq_false_iff.mpr fun q=>?_
  have e:c=tp:=Value.ref.inj (beq_iff_eq.mp q)
  subst e
  unfold PySem.W.clsIn at hc
  split at hc
  ·rename_i c' d' cd' sl' ho
   cases (X _ _ ho).symm.trans htp
  ·cases hc
 ca:=fun{prog w A E Q s} X x q=>by
  obtain⟨hh,g,d,t,os⟩:=s
  exact Gef X k x q
def tyN:D->String
 | .non=>"NoneType"
 | .bl _=>"bool"
 | .int _=>"int"
 | .str _=>"str"
 | .tup _=>"tuple"
 | .lst _=>"list"
 | .exn _ _=>"exn"
 | .fv _=>"fv"
 | .dct _=>"dct"
def isT(T t:String):Bool:=t==T||(T=="int"&&t=="bool")
def isD(T:String)(x:D)(S:Sto):Out D:=match x with
 | .fv _=>.bad
 | .dct _=>.bad
 | _=>.ok (.bl (isT T (tyN x))) S
def Kit(K:PySem.W.Frag)(T:String):Prop:=T∈["bool","int","str","tuple","list"]/\∀ t∈["NoneType","bool","int","str","tuple","list"],PySem.W.kitOne K (.type t) (.type T)=some (isT T t)
theorem Geg{K:PySem.W.Frag}:Kit K "int":=by refine⟨by decide,?_⟩; intro t h; simp only[List.mem_cons,List.mem_nil_iff,or_false] at h; rcases h with rfl | rfl | rfl | rfl | rfl | rfl<;>first | rfl | decide +kernel | (with_unfolding_all rfl)
theorem Gb4{K:PySem.W.Frag}:Kit K "bool":=by refine⟨by decide,?_⟩; intro t h; simp only[List.mem_cons,List.mem_nil_iff,or_false] at h; rcases h with rfl | rfl | rfl | rfl | rfl | rfl<;>first | rfl | decide +kernel | (with_unfolding_all rfl)
section
variable{X:Cx}{XQ:XW}
def Gl4(K:PySem.W.Frag)(T:String):List V->Hp->VK->Prop:=fun vs H Q=>∃ x t,vs=[x,.ty T]/\(match x with
 | .non=>t="NoneType" | .bl _=>t="bool" | .int _=>t="int" | .str _=>t="str"
 | .ref a=>(t="tuple"/\∃ xs,SqT K H a xs)\/(t="list"/\∃ xs,SqL K H a xs)\/(t="exn"/\∃ c dx,XCl K c/\H a=some (XO a c dx))
 | _=>False)/\Q (.bl (isT T t)) H
theorem Gkk{pins:List (Addr×Obj)}{σ:L2.St}{H:Hp}{s:Shared}{a c:Addr}{dx:Option Addr}(I:Inv X pins σ H s)(h:H a=some (XO a c dx)):XAt a c s.heap:=by
 obtain⟨⟨oe,h1,h2,_,h3⟩,_,_⟩:=(show Ji X.prog X.w H s.heap a (XO a c dx) from I.hok a _ h)
 exact⟨oe,h1,h2,h3⟩
theorem Geh{T:String}(h:T∈["bool","int","str","tuple","list"]):isT T "exn"=false:=by
 simp only[List.mem_cons,List.mem_nil_iff,or_false] at h
 rcases h with rfl | rfl | rfl | rfl | rfl<;>rfl
theorem Gb5{T:String}(k:Kit X.K T):Ko X (.builtin "isinstance") (Gl4 X.K T):=by
 intro pins s σ H xs us Q I r ⟨x,t,e,h,q⟩
 subst e
 obtain⟨u,w,rfl,ru,rw'⟩:=Vals.two r
 cases (show w=Value.type T from rw')
 have fin:∀ tk,EP X pins σ Q (.bool (isT T t)) { s with toks:=tk }:=fun tk=>⟨.bl _,H,I.tok tk,rfl,q⟩
 cases x with
 | non=>cases (show u=Value.none from ru); cases (show t="NoneType" from h); exact PySem.W.kia_one PySem.W.kitx_none I.kIn True.intro (k.2 _ (by decide)) (fun z=>nomatch z) fin
 | bl y=>cases (show u=Value.bool y from ru); cases (show t="bool" from h); exact PySem.W.kia_one PySem.W.kitx_bool I.kIn True.intro (k.2 _ (by decide)) (fun z=>nomatch z) fin
 | int i=>obtain⟨tk,e⟩:=(show ∃ t,u=Value.int i t from ru); cases e; cases (show t="int" from h); exact PySem.W.kia_one PySem.W.kitx_int I.kIn True.intro (k.2 _ (by decide)) (fun z=>nomatch z) fin
 | str y=>obtain⟨tk,e⟩:=(show ∃ t,u=Value.str y t from ru); cases e; cases (show t="str" from h); exact PySem.W.kia_one PySem.W.kitx_str I.kIn True.intro (k.2 _ (by decide)) (fun z=>nomatch z) fin
 | ref a=>
  cases (show u=Value.ref a from ru)
  rcases h with⟨rfl,xs,sq⟩ | ⟨rfl,xs,sq⟩ | ⟨rfl,c,dx,xc,hH⟩
  ·obtain⟨its,_,⟨o,h1,h2,_⟩,_⟩:=I.tuple sq
   exact PySem.W.kia_one PySem.W.kitx_tuple I.kIn ⟨o,h1,h2⟩ (k.2 _ (by decide)) (fun z=>nomatch z) fin
  ·obtain⟨its,_,⟨o,n,h1,h2,_⟩,_⟩:=I.list sq
   exact PySem.W.kia_one PySem.W.kitx_list I.kIn ⟨o,h1,h2⟩ (k.2 _ (by decide)) (fun z=>nomatch z) fin
  ·have xa:=Gkk I hH
   have e:isT T "exn"=false:=Geh k.1
   rw[e] at fin
   exact PySem.W.kia_one (Gb3 xc) I.kIn xa (xc.bt T k.1) (fun z=>nomatch z) fin
 | _=>exact h.elim
theorem Gh5{T:String}{x:Str}{e:Expr}{f:Ev D}{p p2 pos:Pos}(k:Kit X.K T)(hv:bootBuiltins x=some (.type T))(hnx:x≠"__name__")(hdx:(x==("__debug__":Str))=false)(hg:Gl X "isinstance")(hm:X.mg "isinstance"=none)(hgt:Gl X x)(hmt:X.mg x=none)(he:JE X XQ e f)
  (hs:starEach [e,.Name x p2] X.env=(false,eval e X.env)::starEach [.Name x p2] X.env) (hpl:(backTo pos (starEach [.Name x p2] X.env)).any (·.1)=false) (hs2:starEach [.Name x p2] X.env=(false,eval (.Name x p2) X.env)::starEach [] X.env):
  JE X XQ (.Call (.Name "isinstance" p) [e,.Name x p2] [] pos) (o1 (isD T) f):=by
 refine PE.mono (Xj (Gb5 k) hg hm (by rfl) (Wf he (Wf (Gda hgt hmt hv (v:=.ty T) rfl hnx hdx) Gbg hs2) hs) (by decide) (by decide) hs hpl) fun σ H Q ⟨mp,ρ,S,G,q⟩=>?_
 refine bindP G q fun mp1 H1 d S1 v a1 G1 r1 p1=>?_
 have p2:((∃ c,d=.fv c)\/∃ c,d=.dct c)\/Post X.K XQ σ ρ mp1 H1 (.ok (.bl (isT T (tyN d))) S1) Q:=by cases d<;>first | exact .inr p1 | exact .inl (.inl ⟨_,rfl⟩) | exact .inl (.inr ⟨_,rfl⟩)
 rcases p2 with(⟨c,rfl⟩ | ⟨c,rfl⟩) | p2
 ·exact(show False from p1).elim
 ·exact(show False from p1).elim
 refine⟨v,tyN d,rfl,?_,Gg.ok (R:=Rep X.K) p2 G1.rs rfl⟩
 cases d with
 | non=>cases (show v=.non from r1); exact rfl
 | bl b=>cases (show v=.bl b from r1); exact rfl
 | int b=>cases (show v=.int b from r1); exact rfl
 | str b=>cases (show v=.str b from r1); exact rfl
 | tup l=>obtain⟨a,xs,rfl,sq,_⟩:=Rep.tup r1; exact .inl ⟨rfl,xs,sq⟩
 | lst i=>
  obtain⟨a,rfl,ha,_⟩:=(show ∃ a,v=.ref a/\mp1[i]?=some a/\¬ Dcy H1 a from r1)
  have hl:i<S1.length:=by rw[<- G1.rs.len]; exact(List.getElem?_eq_some_iff.mp ha).1
  obtain⟨a2,xs,e2,_,sq,_⟩:=G1.rs.items r1 (List.getElem?_eq_getElem hl)
  cases e2
  exact .inr (.inl ⟨rfl,xs,sq⟩)
 | exn c n=>
  obtain⟨a,dx,q,rfl,⟨_,xc,hH⟩,_⟩:=(show ∃ a dx p,v=.ref a/\(CN X.K c p/\XCl X.K p/\H1 a=some (XO a p dx))/\∀ i,n=some i->∃ d,dx=some d/\H1 d=some (XA d i) from r1)
  exact .inr (.inr ⟨rfl,q,dx,xc,hH⟩)
 | fv c=>exact(show False from p1).elim
 | dct c=>exact(show False from p1).elim
end
section
variable{X:Cx}{XQ:XW}
def Xo(x:D)(xs:List D)(S:Sto):Out D:=match x,xs with
 | .lst k,[.int i]=>match S[k]? with
  | some c=>if c.fz=false/\0<=i/\i<=1000000 then(match c.xs[i.toNat]? with
   | some d=>.ok d (S.set k ⟨false,c.xs.eraseIdx i.toNat⟩)
   | none=>.bad) else .bad
  | none=>.bad
 | _,_=>.bad
theorem RepL.erase{K:PySem.W.Frag}{mp:List Addr}{H:Hp}:∀ {l:List D} {vs:List V} (n:Nat),RepL K mp H l vs->RepL K mp H (l.eraseIdx n) (vs.eraseIdx n)
 | [],vs,n,h=>by cases (show vs=[] from h); exact RepL.nil
 | d::l,vs,0,h=>by
  obtain⟨v,r,q,h1,h2⟩:=h
  subst q
  exact h2
 | d::l,vs,n+1,h=>by
  obtain⟨v,r,q,h1,h2⟩:=h
  subst q
  exact RepL.cons h1 (RepL.erase n h2)
theorem Gh6{K:PySem.W.Frag}:MeD K Gbl Xo:=by
 intro XQ σ ρ mp H S x xs v vs Q rs rx r p
 unfold Xo at p
 split at p
 ·rename_i k i
  split at p
  ·rename_i c zc
   by_cases hc:c.fz=false/\0<=i/\i<=1000000
   ·rw[if_pos hc] at p
    split at p
    ·rename_i d zd
     obtain⟨w,rfl,hw⟩:=RepL.one r
     cases (show w=.int i from hw)
     obtain⟨a,ys,rfl,ha,sq,q,f⟩:=rs.items rx zc
     have hH:=f hc.1
     obtain⟨y,hy,ry⟩:=q.get zd
     obtain⟨af,rs'⟩:=rs.setL ha zc hc.1 hH (q.erase i.toNat)
     have hl:i.toNat<ys.length:=(List.getElem?_eq_some_iff.mp hy).1
     exact⟨a,ys,i,i.toNat,y,rfl,rfl,hH,by omega,by omega,seqIndex_of hc.2.1 (by omega),hy,p mp _ _ af rs' (Rep.aft af _ _ ry)⟩
    ·exact p.elim
   ·rw[if_neg hc] at p; exact p.elim
  ·exact p.elim
 ·exact p.elim
def Gkl:V->List V->Hp->VK->Prop:=fun x vs H Q=>∃ l xs i y,x=.ref l/\vs=[.int i,y]/\H l=some (.lst xs)/\0<=i/\i<2^63/\xs.length<sizeLine/\Q .non (upd H l (.lst (xs.take (min i.toNat xs.length)++y::xs.drop (min i.toNat xs.length))))
theorem Gh7:MtM X "list.insert" Gkl:=by
 intro pins s σ H x vs v us Q I rx rv h
 obtain⟨l,xs,i,y,rfl,rfl,hH,h1,h2,hz,q⟩:=h
 cases rx
 obtain⟨ui,uy,rfl,ri,ry⟩:=rv.two
 obtain⟨t,rfl⟩:=ri
 obtain⟨z,its,n,r,hl,e⟩:=I.lstM hH
 have hlt:¬ i<0:=by omega
 refine call_meets F.slot_list_insert ⟨_,e,rfl⟩ F.entry_list_insert (F.args_list_insert_3 _ _ _)
  (PySem.AutoListH.list_insert_list_int_val_1 l its.toArray n i t uy (by rw[fitsIndex_of h1 h2]; decide) (by rw[List.size_toArray]; omega)) ⟨e,?_⟩
 refine⟨.non,_,I.lset (its':=its.take (min i.toNat xs.length)++uy::its.drop (min i.toNat xs.length)) hH e ?_ ((r.take _).append (.cons ry (r.drop _))) ?_,rfl,q⟩
 ·simp only[hlt,if_false,List.size_toArray,<- hl]
  apply Array.ext'
  simp[hl]
  exact List.take_of_length_le (by simp)
 ·rw[List.length_append,List.length_cons,List.length_take,List.length_drop]
  omega
def Xp(x:D)(xs:List D)(S:Sto):Out D:=match x,xs with
 | .lst k,[.int i,d]=>match S[k]? with
  | some c=>if c.fz=false/\(0<=i/\i<=1000000)/\c.xs.length<1000000 then .ok .non (S.set k ⟨false,c.xs.take (min i.toNat c.xs.length)++d::c.xs.drop (min i.toNat c.xs.length)⟩) else .bad
  | none=>.bad
 | _,_=>.bad
theorem Gh8{K:PySem.W.Frag}:MeD K Gkl Xp:=by
 intro XQ σ ρ mp H S x xs v vs Q rs rx r p
 unfold Xp at p
 split at p
 ·rename_i k i d
  split at p
  ·rename_i c zc
   by_cases hc:c.fz=false/\(0<=i/\i<=1000000)/\c.xs.length<1000000
   ·rw[if_pos hc] at p
    obtain⟨w,w2,rfl,hw,hw2⟩:=RepL.two r
    cases (show w=.int i from hw)
    obtain⟨a,ys,rfl,ha,sq,q,f⟩:=rs.items rx zc
    have hH:=f hc.1
    have l1:=q.len
    rw[<- l1] at p
    obtain⟨af,rs'⟩:=rs.setL ha zc hc.1 hH (RepL.append (q.take (min i.toNat ys.length)) (RepL.cons hw2 (q.drop (min i.toNat ys.length))))
    exact⟨a,ys,i,w2,rfl,rfl,hH,hc.2.1.1,by omega,by rw[l1]; exact Nat.lt_of_lt_of_le hc.2.2 (by decide),p mp _ _ af rs' rfl⟩
   ·rw[if_neg hc] at p; exact p.elim
  ·exact p.elim
 ·exact p.elim
theorem Gh9{o e:Expr}{apos cpos:Pos}{fo:Ev D}{f:Ev (List D)}(ho:JE X XQ o fo)(ha:JA X XQ [e] f)(hbase:attributeBase o "pop" X.env (eval o X.env)=eval o X.env:=by rfl)
  (hfew:((backTo cpos (starEach [e] X.env)).all (fun x=>!x.1)&&(backToKw cpos (keywordEach [] X.env)).all (fun x=>x.1.isSome)
   && decide ([e].length+([]:List Keyword).length+(if([]:List Keyword).isEmpty then 0 else 1)<30))=true:=by rfl)
  (hline:(apos.endLine==cpos.line)=true:=by rfl) (hs:starEach [e] X.env=(false,eval e X.env)::starEach [] X.env:=by rfl):
  JE X XQ (.Call (.Attribute o "pop" apos) [e] [] cpos) (mt Xo fo f):=Zj PySem.F.slot_list_pop PySem.F.type_list_pop Gbm Gh6 ho ha hbase hfew hline hs rfl
theorem Gau{o e e':Expr}{apos cpos:Pos}{fo:Ev D}{f:Ev (List D)}(ho:JE X XQ o fo)(ha:JA X XQ [e,e'] f)(hbase:attributeBase o "insert" X.env (eval o X.env)=eval o X.env:=by rfl)
  (hfew:((backTo cpos (starEach [e,e'] X.env)).all (fun x=>!x.1)&&(backToKw cpos (keywordEach [] X.env)).all (fun x=>x.1.isSome)
   && decide ([e,e'].length+([]:List Keyword).length+(if([]:List Keyword).isEmpty then 0 else 1)<30))=true:=by rfl)
  (hline:(apos.endLine==cpos.line)=true:=by rfl) (hs:starEach [e,e'] X.env=(false,eval e X.env)::starEach [e'] X.env:=by rfl) (hpl:(backTo cpos (starEach [e'] X.env)).any (·.1)=false:=by rfl):
  JE X XQ (.Call (.Attribute o "insert" apos) [e,e'] [] cpos) (mt Xp fo f):=Zj PySem.F.slot_list_insert PySem.F.type_list_insert Gh7 Gh8 ho ha hbase hfew hline hs hpl
end
end DL
namespace DL
open PySem
variable{es:List Expr}{env:PySem.Env}
theorem Gi{c j p}:starEach (.Constant c j p::es) env=(false,eval (.Constant c j p) env)::starEach es env:=rfl
theorem Gc{x p}:starEach (.Name x p::es) env=(false,eval (.Name x p) env)::starEach es env:=rfl
theorem Kx{f a k p}:starEach (.Call f a k p::es) env=(false,eval (.Call f a k p) env)::starEach es env:=rfl
theorem Gs{a b p}:starEach (.Subscript a b p::es) env=(false,eval (.Subscript a b p) env)::starEach es env:=rfl
theorem Hg{a o b p}:starEach (.BinOp a o b p::es) env=(false,eval (.BinOp a o b p) env)::starEach es env:=rfl
theorem Yt{o a p}:starEach (.UnaryOp o a p::es) env=(false,eval (.UnaryOp o a p) env)::starEach es env:=rfl
end DL
namespace DL
open PySem PySem.Spec PyProof.Rows L2
variable{h:Heap}{x:Str}{st:Stmt}{ps N P N':List Str}{f fa fb fo:Ev D}{fn:Fn}{j k n:Nat}{p pos pos' p2:Pos}{e a b e' tg:Expr}{es:List Expr}{t:Ev (List D)}{s2:Shared}{H2:Hp}{C:Addr}{scope:Scope}{c:List (Str×Addr)}{fp:List Addr}{K:PySem.W.Frag}{S:Sto}{X:Cx}{XQ:XW}{g:Tg}
structure Cal(P:Program)(w:World)(K:PySem.W.Frag)(mg:Str->Option Value)(base:Heap)(x:Str)(ps:List Str)(fn:Fn)(j:Nat):Prop where
 ex:∃ f fd,FnOk P w K mg base CX0 j f fd ps (spD K ps.length fn)/\mg x=some (.ref f)/\PySem.W.keepIn K (.ref f)=true/\Binds K fd ps []
structure Dn(K:PySem.W.Frag)(mg:Str->Option Value)(x:Str)(st:Stmt)(ps:List Str):Prop where
 ex:∃ f fd,Fun K x x st f fd/\mg x=some (.ref f)/\Binds K fd ps []
section
variable{P:Program}{w:World}{K:PySem.W.Frag}{mg:Str->Option Value}{base:Heap}
theorem Gkm{f:Addr}{oc:Value}{od an:Option Addr}{osl:Array (Option Value)}{kV doc pm cdv ct:Value}(X:K.In h)(G:h.Ns mainGlobals mg)(a:PySem.W.nsIn K mainGlobals x=some (some (.ref f)))(l:K.lookup f=some ⟨oc,od,.func (PySem.W.fnOf x x (He st) (Gr st) (Gb st) .none kV doc pm an cdv ct),osl⟩)(c:PySem.W.codeIn K cdv x=true)(k:PySem.W.keepIn K (.ref f)=true)(hb:∀ (kV doc pm:Value) (an:Option Addr) (cdv ct:Value) (us:List Value),us.length=ps.length->bindArgs (PySem.W.fnOf x x (He st) (Gr st) (Gb st) .none kV doc pm an cdv ct) ⟨us,[]⟩=pure (ps.zip us)):Dn K mg x st ps:=
 ⟨f,_,Wk l c k,PySem.W.mg_of X G a,(Wk (st:=st) l c k).binds hb⟩
theorem Gia(N:List Str)(k:Nat)(b:Sv)(hfn:fn=fnB N.length b)(d:Dn K mg x st ps)(Sc:FnScope N ps (Gb st))(hb:∀ (f:Addr) (cdv:Value) (A:Around) (outer:List PySem.Env) (s:Shared) (H:Hp) (E:XK),Room k (A.deeper (envOfC x (Gb st) s.heap.objs.size f cdv))→
   JSs (Vg CX0 P w K mg base N x (Gb st) f cdv A outer s H E).nox XN (Gr st) b):Cal P w K mg base x ps fn (k+1):=by
 subst hfn
 obtain⟨f,fd,F,hm,hbi⟩:=d.ex
 exact⟨f,fd,Ge2 F Sc (hb f),hm,F.kp,hbi⟩
end
section
variable{X:Cx}{XQ:XW}
theorem Gib(C:Cal X.prog X.w X.K X.mg X.base x ps fn j)(hr:Room k X.A)(ha:JA X XQ (e::es) t)(hn:ps.length=n)(hj:j<=k:=by decide)(hg:Gl X x:=by rfl)(hdb:(x==("__debug__":Str))=false:=by decide)(he:starEach (e::es) X.env=(false,eval e X.env)::starEach es X.env:=by rfl)(hpl:(backTo pos (starEach es X.env)).any (·.1)=false:=by rfl):
  JE X XQ (.Call (.Name x p) (e::es) [] pos) (cl n (Gm fn) t):=by
 subst hn
 obtain⟨f,fd,F,hm,hk,hb⟩:=C.ex
 exact Gd3 F hr hj hg hm hk hb ha hdb he hpl
def Hl(x:Str):Bool:=!(x==("__debug__":Str))&&!(x==("__classdict__":Str))
def okV(sc:Scope)(x:Str):Bool:=(match sc.names.lookup x with
 | some .local=>true
 | some .cell=>true
 | some .free=>true
 | _=>false)&&Hl x
def okL(sc:Scope)(x:Str):Bool:=match sc.names.lookup x with
 | some .local=>true
 | some .cell=>true
 | _=>false
def okG(sc:Scope)(x:Str):Bool:=(match sc.names.lookup x with
 | some .globalImplicit=>true
 | _=>false)&&Hl x
theorem Hl.of(h:Hl x=true):(x==("__debug__":Str))=false/\(x==("__classdict__":Str))=false:=by
 unfold Hl at h
 rw[Bool.and_eq_true] at h
 exact⟨by simpa using h.1,by simpa using h.2⟩
theorem okV.vis{sc:Scope}(h:okV sc x=true):Vis sc x/\Hl x=true:=by
 unfold okV at h
 rw[Bool.and_eq_true] at h
 refine⟨?_,h.2⟩
 have h:=h.1
 split at h
 ·rename_i e; exact .inl e
 ·rename_i e; exact .inr (.inl e)
 ·rename_i e; exact .inr (.inr e)
 ·cases h
theorem okL.loc{sc:Scope}(h:okL sc x=true):Loc sc x:=by
 unfold okL at h
 split at h
 ·rename_i e; exact .inl e
 ·rename_i e; exact .inr e
 ·cases h
theorem okG.gl{sc:Scope}(h:okG sc x=true):sc.names.lookup x=some .globalImplicit/\Hl x=true:=by
 unfold okG at h
 rw[Bool.and_eq_true] at h
 refine⟨?_,h.2⟩
 have h:=h.1
 split at h
 ·rename_i e; exact e
 ·cases h
structure OkV(sc:Scope)(x:Str):Prop where
 h:okV sc x=true
structure OkL(sc:Scope)(x:Str):Prop where
 h:okL sc x=true
structure OkC(sc:Scope)(x:Str):Prop where
 h:sc.names.lookup x=some .local
structure OkG(sc:Scope)(x:Str):Prop where
 h:okG sc x=true
theorem kdV{s:Scope}(h:okV s x=true:=by decide +kernel):OkV s x:=⟨h⟩
theorem kdL{s:Scope}(h:okL s x=true:=by decide +kernel):OkL s x:=⟨h⟩
theorem kdG{s:Scope}(h:okG s x=true:=by decide +kernel):OkG s x:=⟨h⟩
theorem kdS{s:Scope}(a:s.kind=.function:=by rfl)(b:s.isCoroutine=false:=by rfl)(c:s.isGenerator=false:=by rfl)(d:N.Nodup:=by decide +kernel)(e:N.take P.length=P:=by rfl)(f:∀ x∈P,s.names.lookup x=some .local\/s.names.lookup x=some .cell:=by decide +kernel)(g:∀ y∈s.names,y.2≠.free:=by decide +kernel):FnScope N P s:=⟨a,b,c,d,e,f,g⟩
theorem jv(i:Nat)(h:OkV X.env.scope x)(hN:X.N[i]?=some x:=by rfl):JE X XQ (.Name x pos) (vr i):=Gbn i hN (okV.vis h.h).1 (Hl.of (okV.vis h.h).2).1 (Hl.of (okV.vis h.h).2).2
theorem gl(h:OkG X.env.scope x):Gl X x:=(okG.gl h.h).1
theorem jgn(i:Nat)(hN:X.N.Nodup)(h:OkL X.env.scope x)(hi:X.N[i]?=some x:=by rfl)(hf:X.fn x=true:=by rfl):JG X (.Name x pos) (gn i):=Wl i hN hi (okL.loc h.h) (.inl hf)
theorem jset(i:Nat)(hN:X.N.Nodup)(h:OkL X.env.scope x)(he:JE X XQ e f)(hi:X.N[i]?=some x:=by rfl)(hs:swapsWith e (some (.Name x pos')) pos.line X.env=pure false:=by rfl)(hf:X.fn x=true:=by rfl):
  JS X XQ (.Assign [.Name x pos'] e pos) (sa f (gn i)):=Ghc i hN he hi (okL.loc h.h) hs (.inl hf)
theorem jown(C:Cal X.prog X.w X.K X.mg X.base x ps fn j)(hr:Room k X.A)(hg:Gl X x)(hp:Hl x=true)(ha:JA X XQ (e::es) t)(hn:ps.length=n:=by rfl)(hj:j<=k:=by decide)(he:starEach (e::es) X.env=(false,eval e X.env)::starEach es X.env:=by rfl)(hpl:(backTo pos (starEach es X.env)).any (·.1)=false:=by rfl):
  JE X XQ (.Call (.Name x p) (e::es) [] pos) (cl n (Gm fn) t):=Gib C hr ha hn hj hg (Hl.of hp).1 he hpl
def Gb6(sc:Scope)(x:Str):Bool:=(match sc.names.lookup x with
 | some .local=>true
 | some .cell=>true
 | some .free=>true
 | _=>false)&&Hl x
theorem Gy{scope:Scope}{env:PySem.Env}{x:Str}{k:NameKind}(hk:k≠.free):∀ (names:List (Str×NameKind)),names.lookup x=some k->(names.map fun(n,k)=>if(k==NameKind.free&&env.scope.kind==.function&&env.kindOf n==some .cell)=true then(n,NameKind.cell) else(n,k)).lookup x=some k
 | [],h=>by simp at h
 | (n,k')::r,h=>by
  rw[List.map_cons]
  by_cases hx:(x==n)=true
  ·rw[List.lookup_cons,hx] at h
   have:k'=k:=by simpa using h
   subst this
   have hb:(k'==NameKind.free)=false:=by simpa using hk
   simp only[hb,Bool.false_and,Bool.false_eq_true,if_false,List.lookup_cons,hx]
  ·have hx:(x==n)=false:=by simpa using hx
   rw[List.lookup_cons,hx] at h
   have:=Gy (scope:=scope) (env:=env) hk r h
   by_cases hq:(k'==NameKind.free&&env.scope.kind==.function&&env.kindOf n==some .cell)=true
   ·simpa only[hq,if_true,List.lookup_cons,hx] using this
   ·simpa only[hq,Bool.false_eq_true,if_false,List.lookup_cons,hx] using this
theorem Wq(h:Gb6 scope x=true):Vis (blk X s2 H2 C scope c N' fp).env.scope x/\Hl x=true:=by
 unfold Gb6 at h
 rw[Bool.and_eq_true] at h
 refine⟨?_,h.2⟩
 have h:=h.1
 split at h
 ·rename_i e; exact .inl (lookup_relabel_local e)
 ·rename_i e; exact .inr (.inl (Gy (scope:=scope) (env:=X.env) (by decide) scope.names e))
 ·rename_i e; exact .inr (Hk (scope:=scope) (env:=X.env) scope.names e)
 ·cases h
theorem jvB(i:Nat)(h:Gb6 scope x=true)(hN:N'[i]?=some x:=by rfl):JE (blk X s2 H2 C scope c N' fp) XQ (.Name x pos) (vr i):=
 Gbn i hN (Wq h).1 (Hl.of (Wq (X:=X) (s2:=s2) (H2:=H2) (C:=C) (c:=c) (N':=N') (fp:=fp) h).2).1 (Hl.of (Wq (X:=X) (s2:=s2) (H2:=H2) (C:=C) (c:=c) (N':=N') (fp:=fp) h).2).2
theorem glB(h:okG scope x=true):Gl (blk X s2 H2 C scope c N' fp) x:=
 Gy (scope:=scope) (env:=X.env) (by decide) scope.names (okG.gl h).1
def Gei(sc:Scope)(x:Str):Bool:=match sc.names.lookup x with
 | some .local=>true
 | some .cell=>true
 | _=>false
theorem Gl5(i:Nat)(hN:N'.Nodup)(h:Gei scope x=true)(hi:N'[i]?=some x:=by rfl):JG (blk X s2 H2 C scope c N' fp) (.Name x pos) (gn i):=by
 unfold Gei at h
 split at h
 ·rename_i e
  exact Wl i hN hi (.inl (lookup_relabel_local e)) (.inr (lookup_relabel_local e))
 ·rename_i e
  exact Wl i hN hi (.inr (Gy (scope:=scope) (env:=X.env) (by decide) scope.names e)) (.inl (by show(scope.names.lookup x==some NameKind.cell)=true; rw[e]; rfl))
 ·cases h
end
section
variable{X:Cx}{XQ:XW}
theorem Gb7{j:Int}(h1:0<j)(h2:j<2^200):j.natAbs.log2<9000:=by
 have h3:j.natAbs<2^200:=by omega
 exact Nat.lt_of_lt_of_le ((Nat.log2_lt (by omega)).mpr h3) (by decide)
theorem Gb8:OpR X (binaryOp .FloorDiv) (rI (fun _ j=>0<j/\j<2^200) fun i j=>.int (i / j)):=opI fun i j _ _ _ _ _ hc q=>by
 have h1:(0:Int)<j:=hc.1
 have h2:j<2^200:=hc.2
 exact floordiv_int (by omega) (by rw[Int.fdiv_eq_ediv_of_nonneg i (by omega)]; exact q) (.inl (PyProof.noPylong_of_log2 (Gb7 h1 h2)))
abbrev Vy:=i2 (fun _ j=>decide (0<j/\j<2^200)) fun i j=>.int (i / j)
theorem Gej(ha:JE X XQ a fa)(hb:JE X XQ b fb):JE X XQ (.BinOp a .FloorDiv b pos) (o2 Vy fa fb):=Vx Gb8 (Wn (fun _ j h=>(of_decide_eq_true h:0<j/\j<2^200)) fun _ _ _ _=>rfl) ha hb
theorem Wr:Ko X (.builtin "divmod") (fun xs H Q=>∃ i j,xs=[.int i,.int j]/\(0<j/\j<2^200)/\∀ p,H p=none->Q (.ref p) (upd H p (.tup [.int (i / j),.int (i%j)]))):=by
 intro pins s σ H xs us Q I r h
 obtain⟨i,j,rfl,⟨h1,h2⟩,q⟩:=h
 obtain⟨u,w',rfl,⟨t,rfl⟩,⟨t',rfl⟩⟩:=Gew r
 refine divmod_int (by omega) ?_ (.inl (PyProof.noPylong_of_log2 (Gb7 h1 h2)))
 rw[Int.fdiv_eq_ediv_of_nonneg i (by omega),Int.fmod_eq_emod_of_nonneg i (by omega)]
 have hn:H s.heap.objs.size=none:=I.hok.fresh (Nat.le_refl _)
 refine⟨.ref s.heap.objs.size,_,?_,rfl,q _ hn⟩
 refine I.laid (fun b o e=>Heap.get?_push_of_some _ e) (Nat.le_refl _) ⟨by simp only[List.length_cons,List.length_nil]; rw[sizeLine_eq]; decide,[.int (i / j) s.toks,.int (i%j) (s.toks+1)],.cons ⟨_,rfl⟩ (.cons ⟨_,rfl⟩ .nil),?_⟩
 exact⟨_,Heap.get?_push_size s.heap rfl,rfl,0,rfl⟩
def dmD(xs:List D)(S:Sto):Out D:=match xs with
 | [.int i,.int j]=>if 0<j/\j<2^200 then .ok (.tup [.int (i / j),.int (i%j)]) S else .bad
 | _=>.bad
theorem Gkn:BlD K (fun xs H Q=>∃ i j,xs=[.int i,.int j]/\(0<j/\j<2^200)/\∀ p,H p=none->Q (.ref p) (upd H p (.tup [.int (i / j),.int (i%j)]))) dmD:=by
 intro XQ σ ρ mp H S xs vs Q rs r p
 unfold dmD at p
 split at p
 ·rename_i i j
  obtain⟨v,w,rfl,h1,h2⟩:=RepL.two r
  cases (show v=.int i from h1); cases (show w=.int j from h2)
  by_cases hb:0<j/\j<2^200
  ·rw[if_pos hb] at p
   exact⟨i,j,rfl,hb,fun q hq=>Ka p rs (RepL.cons rfl (RepL.cons rfl RepL.nil)) hq⟩
  ·rw[if_neg hb] at p; exact p.elim
 ·exact p.elim
theorem Gav{f:Ev (List D)}(hg:Gl X "divmod")(hm:X.mg "divmod"=none)(ha:JA X XQ [e,e'] f)(he:starEach [e,e'] X.env=(false,eval e X.env)::starEach [e'] X.env:=by rfl)(hpl:(backTo pos (starEach [e'] X.env)).any (·.1)=false:=by rfl):JE X XQ (.Call (.Name "divmod" p) [e,e'] [] pos) (b1 dmD f):=Wp Wr Gkn hg hm (by rfl) ha (he:=he) (hpl:=hpl)
def Kq:List D->Option (List Int)
 | []=>some []
 | .int i::r=>(Kq r).map (i::·)
 | _::_=>none
theorem RepL.ints{mp:List Addr}{H:Hp}:∀ {l:List D} {vs:List V} {ns:List Int},RepL K mp H l vs->Kq l=some ns->vs=ns.map V.int
 | [],vs,ns,h,e=>by
  cases (show vs=[] from h)
  cases (Option.some.inj (show some []=some ns from e))
  rfl
 | d::l,vs,ns,h,e=>by
  obtain⟨v,r,rfl,h1,h2⟩:=h
  cases d with
  | int i=>
   have e:(Kq l).map (i::·)=some ns:=e
   cases z:Kq l with
   | none=>rw[z] at e; cases e
   | some ms=>
    rw[z] at e
    cases (Option.some.inj e)
    cases (show v=.int i from h1)
    rw[RepL.ints h2 z]
    rfl
  | _=>cases (show(none:Option (List Int))=some ns from e)
theorem Xq{ns:List Int}(its:List Value)(r':Vals (ns.map V.int) its):∃ xs:Array (Int×Tok),its.toArray=intItems xs/\preSum (numAt xs) xs.size=ns.sum/\ns=xs.toList.map (·.1):=by
 have hi:=Yo r'
 obtain⟨xs,hx⟩:=hi.allInts.items
 have hn:numsOf its.toArray.toList=ns:=by rw[show its.toArray.toList=its from rfl,hi.numsOf]
 rw[hx,nums_intItems] at hn
 refine⟨xs,hx,?_,hn.symm⟩
 rw[preSum_eq,List.take_of_length_le (by simp),hn]
theorem Gb9(hc:X.calm=true):Ko X (.builtin "sum") (fun xs H Q=>∃ (p:Addr) (ns:List Int),xs=[.ref p]/\(SqL X.K H p (ns.map V.int)\/SqT X.K H p (ns.map V.int))/\Q (.int ns.sum) H):=by
 intro pins s σ H xs us Q I r h
 obtain⟨p,ns,rfl,hq,q⟩:=h
 obtain⟨u,rfl,rx⟩:=Zf r
 cases rx
 rcases hq with hq | hq
 ·obtain⟨its,r',pl,hz⟩:=I.list hq
  obtain⟨xs,hx,e,_⟩:=Xq its r'
  have hl:=pl.isList
  rw[hx] at hl
  exact sum_intListG (I.ok.hd hc) hl fun h' tk t' hk=>⟨.int ns.sum,H,I.kept hk,⟨t',by rw[e]⟩,q⟩
 ·obtain⟨its,r',pl,hz⟩:=I.tuple hq
  obtain⟨xs,hx,e,_⟩:=Xq its r'
  have hl:s.heap.IsTuple p its.toArray:=pl
  rw[hx] at hl
  exact PySem.W.ktm_sumG (I.ok.hd hc) hl fun h' tk t' hk=>⟨.int ns.sum,H,I.kept hk,⟨t',by rw[e]⟩,q⟩
def Gfa(x:D)(S:Sto):Option (List D):=match x with
 | .tup l=>some l
 | .lst i=>(S[i]?).map (·.xs)
 | _=>none
theorem Gic{mp:List Addr}{H:Hp}{x:D}{v:V}{l:List D}(rs:RS K mp H S)(h:Rep K mp H x v)(e:Gfa x S=some l):∃ a xs,v=.ref a/\(SqL K H a xs\/SqT K H a xs)/\RepL K mp H l xs:=by
 cases x with
 | tup ds=>
  cases (Option.some.inj (show some ds=some l from e))
  obtain⟨a,xs,rfl,s,q⟩:=Rep.tup h
  exact⟨a,xs,rfl,.inr s,q⟩
 | lst i=>
  have e:(S[i]?).map (·.xs)=some l:=e
  cases z:S[i]? with
  | none=>rw[z] at e; cases e
  | some c=>
   rw[z] at e
   cases (Option.some.inj e)
   obtain⟨a,xs,rfl,_,s,q,_⟩:=rs.items h z
   exact⟨a,xs,rfl,.inl s,q⟩
 | _=>cases (show(none:Option (List D))=some l from e)
def Ws(xs:List D)(S:Sto):Out D:=match xs with
 | [x]=>match (Gfa x S).bind Kq with
  | some ns=>.ok (.int ns.sum) S
  | none=>.bad
 | _=>.bad
theorem Gid:BlD K (fun xs H Q=>∃ (p:Addr) (ns:List Int),xs=[.ref p]/\(SqL K H p (ns.map V.int)\/SqT K H p (ns.map V.int))/\Q (.int ns.sum) H) Ws:=by
 intro XQ σ ρ mp H S xs vs Q rs r p
 unfold Ws at p
 split at p
 ·rename_i x
  obtain⟨v,rfl,h⟩:=RepL.one r
  split at p
  ·rename_i ns z
   obtain⟨l,e1,e2⟩:=Option.bind_eq_some_iff.mp z
   obtain⟨a,ys,rfl,sq,q⟩:=Gic rs h e1
   cases q.ints e2
   exact⟨a,ns,rfl,sq,Gg.ok (R:=Rep K) p rs rfl⟩
  ·exact p.elim
 ·exact p.elim
theorem Gie{f:Ev (List D)}(hc:X.calm=true)(hg:Gl X "sum")(hm:X.mg "sum"=none)(ha:JA X XQ [e] f)(he:starEach [e] X.env=(false,eval e X.env)::starEach [] X.env:=by rfl):JE X XQ (.Call (.Name "sum" p) [e] [] pos) (b1 Ws f):=Wp (Gb9 hc) Gid hg hm (by rfl) ha (he:=he)
def Gaw(xs:List D)(S:Sto):Out D:=match xs with
 | [.int i,.int j]=>.ok (.int (if j>i then j else i)) S
 | _=>.bad
theorem Gif:BlD K (fun xs H Q=>∃ i j,xs=[.int i,.int j]/\Q (.int (if j>i then j else i)) H) Gaw:=by
 intro XQ σ ρ mp H S xs vs Q rs r p
 unfold Gaw at p
 split at p
 ·rename_i i j
  obtain⟨v,w,rfl,h1,h2⟩:=RepL.two r
  cases (show v=.int i from h1); cases (show w=.int j from h2)
  exact⟨i,j,rfl,Gg.ok (R:=Rep K) p rs rfl⟩
 ·exact p.elim
theorem Gig{f:Ev (List D)}(hc:X.calm=true)(hg:Gl X "max")(hm:X.mg "max"=none)(ha:JA X XQ [e,e'] f)(he:starEach [e,e'] X.env=(false,eval e X.env)::starEach [e'] X.env:=by rfl)(hpl:(backTo pos (starEach [e'] X.env)).any (·.1)=false:=by rfl):JE X XQ (.Call (.Name "max" p) [e,e'] [] pos) (b1 Gaw f):=Wp (Gak hc) Gif hg hm (by rfl) ha (he:=he) (hpl:=hpl)
def sag(i:Nat)(g:Int->Int->Int)(f:Ev D):Sv:=fun ρ S=>match ρ[i]? with
 | some (some (.int a))=>bindS (f ρ S) ρ fun d S1=>match d with
  | .int b=>.nx (ρ.set i (some (.int (g a b)))) S1
  | _=>.bad
 | _=>.bad
end
theorem Qi{prog:Program}{w:World}{A:Around}{E:Value->Shared->Prop}{s:Shared}{t sl:Addr}{items:Array Value}{vl vu:Value}{lo hi:Option Int}{Q:Value->Shared->Prop}(ht:IsTup s.heap t items)(hs:s.heap.IsSliceOf sl vl vu .none)(pl:IsPart vl lo)(pu:IsPart vu hi)(hw:HT.sIx items.size 0 lo=0/\HT.sIx items.size items.size hi=items.size)(h:Q (.ref t) s):wpAny (model prog w) A (getItem (.ref t) (.ref sl)) Q E s:=by
 obtain⟨os,hos,hcs,hds⟩:=id hs
 have hTs:s.TypeIs (.ref sl) "slice":=⟨os,hos,hcs⟩
 unfold getItem
 try with_reducible refine wpAny_holding ?_
 first | refine wpAny_bind (wpAny_pure ?_) | skip
 refine wpAny_bind (wpAny_sequenceKey ht.typeIs (by decide) ?_)
 refine wpAny_bind (wpAny_callSpecial?_slot (name:=Str.ofString "__getitem__") ht.typeIs PyProof.Rows.slot_tuple_getitem
  (wpAny_call_entry PyProof.Rows.slot_tuple_getitem ht.typeIs entry_tuple_getitem ?_ (args_tuple_getitem _ _)))
 show wpAny _ _ (Builtin.Tuple.tupleItemsOf (.ref t) >>= _) _ _ s
 refine wpAny_bind (tupleItemsOf_ ht ?_)
 refine wpAny_bind (wpAny_typeOf hTs ?_)
 rw[if_pos (by decide)]
 refine wpAny_bind (HT.Jz hs pl pu ?_)
 show wpAny _ _ (if(((HT.sIx items.size 0 lo:Nat):Int)==0&&(1:Int)==1&&(HT.sIx items.size items.size hi-HT.sIx items.size 0 lo)==items.size)=true then _ else _) _ _ s
 rw[if_pos (by rw[hw.1,hw.2]; simp)]
 unfold Builtin.Tuple.tupleIsExact
 refine wpAny_bind (wpAny_bind (wpAny_typeOf ht.typeIs (wpAny_pure ?_)))
 rw[if_pos (by decide)]
 exact wpAny_bind (wpAny_rule (wpAny_pure ⟨_,rfl,wpAny_pure h⟩))
section
variable{X:Cx}{XQ:XW}
def Gl6(K:PySem.W.Frag):V->Option Int->Option Int->Hp->VK->Prop:=fun x lo hi H Q=>∃ a xs,x=.ref a/\SqT K H a xs/\(HT.sIx xs.length 0 lo=0/\HT.sIx xs.length xs.length hi=xs.length)/\Q (.ref a) H
theorem Gih:SlR X (Gl6 X.K):=by
 intro pins s σ H x v vl vu lo hi sl Q I rx hs pl pu h
 obtain⟨a,xs,rfl,hx,hw,q⟩:=h
 cases rx
 obtain⟨its,r,ht,hz⟩:=I.tuple hx
 have hlen:its.toArray.size=xs.length:=by rw[List.size_toArray]; exact r.length.symm
 refine⟨"tuple",_,PyProof.Rows.slot_tuple_getitem.lookup,ht.typeIs,?_⟩
 exact Qi ht hs pl pu (by rw[hlen]; exact hw) ⟨.ref a,H,I,rfl,q⟩
def Xr(x:D)(lo hi:Option Int)(S:Sto):Out D:=match x with
 | .tup l=>if HT.sIx l.length 0 lo=0/\HT.sIx l.length l.length hi=l.length then .ok (.tup l) S else .ok (.tup (Qu l lo hi)) S
 | .lst i=>match S[i]? with
  | some c=>.ok (.lst S.length) (S++[⟨false,Qu c.xs lo hi⟩])
  | none=>.bad
 | _=>.bad
def sl2(fe:Ev D)(fl fh:Ev (Option Int)):Ev D:=fun ρ S=>(fe ρ S).bind fun x S1=>(fl ρ S1).bind fun l S2=>(fh ρ S2).bind fun u S3=>Xr x l u S3
theorem Gax{lo hi:Option Expr}{fe:Ev D}{fl fh:Ev (Option Int)}(he:JE X XQ e fe)(hl:JO X XQ lo fl)(hh:JO X XQ hi fh):JE X XQ (.Subscript e (.Slice lo hi none p2) pos) (sl2 fe fl fh):=by
 refine PE.mono (Gbi ((Gdr.or Ggp).or Gih) he hl hh) fun σ H Q ⟨mp,ρ,S,G,p⟩=>?_
 refine bindP G p fun mp1 H1 x S1 v a1 G1 r1 p1=>?_
 refine bindP G1 p1 fun mp2 H2 l S2 l' a2 G2 r2 p2=>?_
 refine bindP G2 p2 fun mp3 H3 u S3 u' a3 G3 r3 p3=>?_
 cases (show l'=l from r2)
 cases (show u'=u from r3)
 have r1:=Rep.aft (a2.trans a3) _ _ r1
 cases x with
 | tup ds=>
  have p3:Post X.K XQ σ ρ mp3 H3 (if HT.sIx ds.length 0 l=0/\HT.sIx ds.length ds.length u=ds.length then .ok (.tup ds) S3 else .ok (.tup (Qu ds l u)) S3) Q:=p3
  obtain⟨a,xs,rfl,sq,q⟩:=Rep.tup r1
  by_cases hw:HT.sIx ds.length 0 l=0/\HT.sIx ds.length ds.length u=ds.length
  ·rw[if_pos hw] at p3
   exact .inr ⟨a,xs,rfl,sq,by rw[q.len]; exact hw,Gg.ok (R:=Rep X.K) p3 G3.rs r1⟩
  ·rw[if_neg hw] at p3
   exact .inl (.inr ⟨a,xs,rfl,sq,by rw[q.len]; exact hw,fun t ht=>Ka p3 G3.rs (q.cut l u) ht⟩)
 | lst i=>
  have p3:Post X.K XQ σ ρ mp3 H3 (match S3[i]? with | some c=>.ok (.lst S3.length) (S3++[⟨false,Qu c.xs l u⟩]) | none=>.bad) Q:=p3
  cases zc:S3[i]? with
  | none=>rw[zc] at p3; exact p3.elim
  | some c=>
   rw[zc] at p3
   obtain⟨a,xs,rfl,_,sq,q,_⟩:=G3.rs.items r1 zc
   exact .inl (.inl ⟨a,xs,rfl,sq,fun t ht=>Kb p3 G3.rs (q.cut l u) ht⟩)
 | _=>exact(show False from p3).elim
end
structure Za(z ti to' i j a b:Addr):Prop where
 q1:ti≠z
 q2:to'≠z
 q3:i≠z
 q4:j≠z
 q5:ti≠to'
 q6:ti≠i
 q7:ti≠j
 q8:to'≠i
 q9:to'≠j
 q10:i≠j
 q11:a≠z
 q12:a≠to'
 q13:a≠i
 q14:a≠j
 q15:b≠z
 q16:b≠to'
 q17:b≠i
 q18:b≠j
section
variable{prog:Program}{w:World}{A:Around}{E:Value->Shared->Prop}{s:Shared}
abbrev zg1(g:Heap)(a:Addr):Heap:=g.push { cls:=.type "tuple_iterator",data:=.fields #[.ref a,.int 0 0] }
abbrev zg2(g:Heap)(a b:Addr):Heap:=(zg1 g a).push { cls:=.type "tuple_iterator",data:=.fields #[.ref b,.int 0 0] }
end
section
variable{X:Cx}{XQ:XW}
def rvD(x:D)(st:Option Int)(S:Sto):Out D:=match x,st with
 | .tup l,some (-1)=>.ok (.tup l.reverse) S
 | _,_=>.bad
def rv(fe:Ev D)(fs:Ev (Option Int)):Ev D:=fun ρ S=>(fe ρ S).bind fun x S1=>(fs ρ S1).bind fun o S2=>rvD x o S2
end
section
variable{X:Cx}{XQ:XW}
inductive JFs(X:Cx)(XQ:XW):List Expr->List (Ev D)->Prop
 | nil:JFs X XQ [] []
 | cons {e:Expr} {f:Ev D} {es:List Expr} {fs:List (Ev D)}:JE X XQ e f->JFs X XQ es fs->JFs X XQ (e::es) (f::fs)
end
structure Zb(z ti to' i j l a b c:Addr):Prop where
 tz:ti≠z
 oz:to'≠z
 iz:i≠z
 jz:j≠z
 lz:l≠z
 t_o:ti≠to'
 t_i:ti≠i
 t_j:ti≠j
 t_l:ti≠l
 oi:to'≠i
 oj:to'≠j
 ol:to'≠l
 ij:i≠j
 il:i≠l
 jl:j≠l
 az:a≠z
 ao:a≠to'
 ai:a≠i
 aj:a≠j
 al:a≠l
 bz:b≠z
 bo:b≠to'
 bi:b≠i
 bj:b≠j
 bl:b≠l
 cz:c≠z
 co:c≠to'
 ci:c≠i
 cj:c≠j
 cl:c≠l
section
open Builtin Builtin.Str
variable{prog:Program}{w:World}{A:Around}{E:Value->Shared->Prop}{s:Shared}
end
section
variable{X:Cx}{XQ:XW}
variable{a b:Expr}{fa fb:Ev D}{pos:Pos}
end
structure XB(bm:List Value):Prop where
 v:bm.contains (.type "ValueError")=true
 a:bm.contains (.type "AttributeError")=false
 n:bm.contains (.type "NameError")=false
 b:bm.contains (.type "BaseException")=true
section
variable{prog:Program}{w:World}{A:Around}{E:Value->Shared->Prop}{h:Heap}{g:Array GenState}{d:Drawn}{t:Nat}{os:OsState}
variable{nm q:Str}{C N:Addr}{bs bm:List Value}{hdct:Bool}{sn:List Str}{sub:List Value}{ab:Bool}{col:Option Bool}{dd:Option Addr}{k0 k1 k2 k3 k5:Option Value}
end
section
variable{M:Model}{A:Around}{E:Value->Shared->Prop}{env:PySem.Env}
variable{nm q:Str}{C N:Addr}{bs bm:List Value}{hdct:Bool}{sn:List Str}{sub:List Value}{ab:Bool}{col:Option Bool}{dd:Option Addr}{k0 k1 k2 k3 k5:Option Value}{newId:String}
def Gii(h:Heap)(e C:Addr)(dx:Option Addr):Prop:=∃ t:Addr,h.get? e=some { cls:=.ref C,dict:=dx,data:=.fields #[.ref t,.none,.none,.none,.bool false,.none] }
end
def FX(e C:Addr)(dx:Option Addr):HO:=.ext fun h=>Gii h e C dx
structure KX(K:PySem.W.Frag)(C:Addr):Prop where
 ex:∃ nm q N bs bm hdct sn sub ab col dd k0 k1 k2 k3 k5,K.lookup C=some (excClassObj nm q C N bs bm hdct sn sub ab col dd k0 k1 k2 k3 k5 "ValueError.__new__")/\XB bm
def spI(K:PySem.W.Frag):Sp:=fun vs H Q _=>∃ e v C dx,vs=[.ref e,v]/\H e=some (FX e C dx)/\KX K C/\Q .non H
def Gij(h:Heap)(e C:Addr)(dx:Option Addr):Prop:=∃ t c k u:Value,h.get? e=some { cls:=.ref C,dict:=dx,data:=.fields #[t,.none,c,k,u,.none] }/\(dx=none->c=.none)
def Gl7(fl:Value)(h:Heap)(a T C:Addr)(dx:Option Addr):Prop:=∃ oe vs oT ts a0,h.get? a=some oe/\(oe.cls=.ref C/\oe.dict=dx/\vs[0]?=some a0/\(dx=none->vs[2]?=some .none))/\oe.data=.fields vs/\vs[1]?=some (.ref T)/\T≠a/\h.get? T=some oT/\oT.data=.fields ts/\ts[3]?=some fl
abbrev Fly:=Gl7 .none
section
variable{M:Model}{A:Around}{E:Value->Shared->Prop}{s:Shared}{Q:Unit->Shared->Prop}{env:PySem.Env}{outer:List PySem.Env}{L:Addr}{base:Heap}
structure Left(fs:List Addr)(no:List Addr)(h h':Heap):Prop where
 keep:∀ b o,b∉fs->b∉no->h.get? b=some o->h'.get? b=some o
 slot:∀ b o,b∈fs->h.get? b=some o->∃ sl,h'.get? b=some { o with slots:=sl }
end
def del(H:Hp)(a:Addr):Hp:=fun b=>if b=a then none else H b
def CXe(P:Program)(w:World):CXT:=fun outer H s E e s'=>∃ a T C dx H',e=.ref a/\s'.os=s.os/\AllBare s'.gens/\Un (frs outer) [] H H' s.heap s'.heap/\HOk P w H' s'.heap/\Fly s'.heap a T C dx/\(H' a=none/\H' T=none)/\(s.heap.get? a=none/\s.heap.get? T=none)/\E (.ref C) dx H'
def XF(H:Hp)(dx:Option Addr)(fl:Option Int):Prop:=(∀ i,fl=some i->∃ d,dx=some d/\H d=some (XA d i))/\(fl=none->dx=none)
def WX(K:PySem.W.Frag)(XQ:XW)(σ:L2.St)(C:Addr)(dx:Option Addr)(H:Hp):Prop:=∃ x mp ρ S,XF H dx x.fld/\CN K x.cls C/\XQ x mp H σ ρ S
structure XL(X:Cx)(XQ:XW):Prop where
 own:∀ (pins:List (Addr×Obj)) (σ:L2.St) (H:Hp) (s:Shared) (e C:Addr) (dx:Option Addr) (φ:Heap->Prop),Inv X pins σ H s->H e=some (.ext φ)->Gij s.heap e C dx->X.s₀.heap.get? e=none->WX X.K XQ σ C dx (del H e)->X.xe (.ref e) s
 cal:∀ (pins:List (Addr×Obj)) (σ:L2.St) (H:Hp) (s:Shared) (e:Value) (s':Shared) (E2:XK),Inv X pins σ H s->CXe X.prog X.w X.stack H s E2 e s'->(∀ C dx H',E2 (.ref C) dx H'->WX X.K XQ σ C dx H')->X.xe e s'
 pas:PassesOwn (model X.prog X.w) X.A X.env X.xe
 pat:∀ hd,PassesOwnAt (model X.prog X.w) (X.A.mark hd) X.A X.env X.xe
def Gko(K:PySem.W.Frag)(mp:List Addr)(H:Hp)(o:Out D)(Q:VK)(E:XK):Prop:=
 match o with
 | .ok d S=>∀ mp' H' v,Aft K mp H mp' H'->RS K mp' H' S->Rep K mp' H' d v->Q v H'
 | .exc x S=>∃ C,CN K x.cls C/\∀ mp' H' dx,Aft K mp H mp' H'->RS K mp' H' S->XF H' dx x.fld->E (.ref C) dx H'
 | .bad=>False
def spX(K:PySem.W.Frag)(n:Nat)(fn:Fn):Sp:=fun vs H Q E=>∃ mp ds S,RS K mp H S/\RepL K mp H ds vs/\ds.length=n/\Gko K mp H (fn ds S) Q E
section
variable{P:Program}{w:World}{K:PySem.W.Frag}{mg:Str->Option Value}{base:Heap}
structure CalX(P:Program)(w:World)(K:PySem.W.Frag)(mg:Str->Option Value)(base:Heap)(x:Str)(ps:List Str)(fn:Fn)(j:Nat):Prop where
 ex:∃ f fd,FnOk P w K mg base (CXe P w) j f fd ps (spX K ps.length fn)/\mg x=some (.ref f)/\PySem.W.keepIn K (.ref f)=true/\Binds K fd ps []
end
section
variable{X:Cx}{XQ:XW}{k:Nat}{f:Addr}{fd:FuncData}{ps:List Str}{fn:Fn}{x:Str}{p pos:Pos}{e:Expr}{es:List Expr}
def XNs(K:PySem.W.Frag)(ys:List Str):Prop:=∀ y∈ys,∃ C,CN K y C/\XCl K C
structure ClX(P:Program)(w:World)(K:PySem.W.Frag)(mg:Str->Option Value)(base:Heap)(x:Str)(j:Nat):Prop where
 ex:∃ C f fd ps oI,mg x=some (.ref C)/\CN K x C/\KX K C/\PySem.W.findIn K (.ref C) "__init__"=some (some (.ref f))/\K.lookup f=some oI/\oI.cls=.type "function"/\FnOk P w K mg base CX0 j f fd ps (spI K)/\ps.length=2/\Binds K fd ps []
end
structure Plain(X:Cx):Prop where
 stk:X.stack=X.env::X.outer
 fr:X.env.frame=some X.env.locals
 ex:X.ex=[]
structure Landed(X:Cx)(pins:List (Addr×Obj))(σ:L2.St)(H:Hp)(a C:Addr)(dx:Option Addr)(s:Shared):Prop where
 ex:∃ T,Inv X pins σ H s/\Fly s.heap a T C dx/\(H a=none/\H T=none)/\(X.s₀.heap.get? a=none/\X.s₀.heap.get? T=none)/\∀ p∈X.pn++pins,p.1≠a/\p.1≠T
section
variable{X:Cx}{XQ:XW}{pins:List (Addr×Obj)}{σ:L2.St}{H:Hp}{s:Shared}{pn:List (Addr×Obj)}{xe:Value->Shared->Prop}
structure Cat(K:PySem.W.Frag)(mg:Str->Option Value)(c:Str)(ys:List Str):Prop where
 ex:∃ cs,mg c=some (.ref cs)/\∀ y∈ys,∃ C,CN K y C/\XCl K C/\PySem.W.exmOne K (.ref C) (.ref cs)=some true
end
structure Isx(K:PySem.W.Frag)(mg:Str->Option Value)(x:Str)(ys sub:List Str):Prop where
 ex:∃ cs,mg x=some (.ref cs)/\∀ y∈ys,∃ C,CN K y C/\PySem.W.kitOne K (.ref C) (.ref cs)=some (decide (y∈sub))
structure IsxB(K:PySem.W.Frag)(T:String)(ys sub:List Str):Prop where
 ex:∀ y∈ys,∃ C,CN K y C/\PySem.W.kitOne K (.ref C) (.type T)=some (decide (y∈sub))
structure XT(K:PySem.W.Frag)(mg:Str->Option Value)(sup:Str)(ys ms:List Str):Prop where
 cat:Cat K mg sup ys
 isx:∀ x∈ms,Isx K mg x ys [x]
 val:IsxB K "ValueError" ys ys
 xns:XNs K ys
section
variable{P:Program}{w:World}{K:PySem.W.Frag}{mg:Str->Option Value}{base:Heap}
structure IniX(P:Program)(w:World)(K:PySem.W.Frag)(mg:Str->Option Value)(base:Heap)(f:Addr)(j:Nat):Prop where
 ex:∃ fd ps oI,K.lookup f=some oI/\oI.cls=.type "function"/\FnOk P w K mg base CX0 j f fd ps (spI K)/\ps.length=2/\Binds K fd ps []
end
section
variable{X:Cx}{XQ:XW}
def Gl8(i j:Int):Prop:=(-1000000000000<=i/\i<=1000000000000) /\ -1000000000000<=j/\j<=1000000000000
instance {i j:Int}:Decidable (Gl8 i j):=inferInstanceAs (Decidable ((-1000000000000<=i/\i<=1000000000000) /\ -1000000000000<=j/\j<=1000000000000))
end
structure FvT(K:PySem.W.Frag)(mg:Str->Option Value)(x:Str):Prop where
 ex:∃ f,CN K x f/\mg x=some (.ref f)
def Gca:List Value->Bool
 | .ref _::r=>Gca r
 | l=>l==[.type "ValueError",.type "Exception",.type "BaseException",.type "object"]
structure KA(K:PySem.W.Frag)(C:Addr):Prop where
 sa:PySem.W.findIn K (.ref C) "__setattr__"=some (some (.builtin "object.__setattr__"))
 ve:(PySem.W.clsIn K C).any (fun cd=>Gca cd.mro)=true
 na:PySem.W.findIn K (.ref C) "at"=some none
 hd:PySem.W.hasDictIn K C=true
section
variable{X:Cx}{pins:List (Addr×Obj)}{σ:L2.St}{H:Hp}{s:Shared}{C e:Addr}
structure BaseI(K:PySem.W.Frag)(mg:Str->Option Value)(x:Str)(f:Addr):Prop where
 ex:∃ cs mc,mg x=some (.ref cs)/\PySem.W.readsIn K cs mc=true/\PySem.W.findCls K (.ref cs) mc "__init__"=some (.val (.ref f))/\PySem.W.specialIn K (.ref cs) "__getattribute__"=some (some (.builtin "type.__getattribute__"))/\PySem.W.keepIn K (.ref f)=true
end
def spJ(K:PySem.W.Frag):Sp:=fun vs H Q _=>∃ e n C,vs=[.ref e,.int n]/\H e=some (FX e C none)/\(KX K C/\KA K C)/\∀ d,H d=none->d≠e->Q .non (upd (upd H e (FX e C (some d))) d (XA d n))
section
variable{P:Program}{w:World}{K:PySem.W.Frag}{mg:Str->Option Value}{base:Heap}
structure IniJ(P:Program)(w:World)(K:PySem.W.Frag)(mg:Str->Option Value)(base:Heap)(f:Addr)(j:Nat):Prop where
 ex:∃ fd ps oI,K.lookup f=some oI/\oI.cls=.type "function"/\FnOk P w K mg base CX0 j f fd ps (spJ K)/\ps.length=2/\Binds K fd ps []
end
section
variable{X:Cx}{pins:List (Addr×Obj)}{σ:L2.St}{H:Hp}{s:Shared}{C f:Addr}{fd:FuncData}{ps:List Str}{k:Nat}
structure ClJ(P:Program)(w:World)(K:PySem.W.Frag)(mg:Str->Option Value)(base:Heap)(x:Str)(j:Nat):Prop where
 ex:∃ C f fd ps oI,mg x=some (.ref C)/\CN K x C/\(KX K C/\KA K C)/\PySem.W.findIn K (.ref C) "__init__"=some (some (.ref f))/\K.lookup f=some oI/\oI.cls=.type "function"/\FnOk P w K mg base CX0 j f fd ps (spJ K)/\ps.length=2/\Binds K fd ps []
end
section
variable{P:Program}{w:World}{A:Around}{E:Value->Shared->Prop}{env:PySem.Env}{s:Shared}
variable{nm q:Str}{C N:Addr}{bs bm:List Value}{hdct:Bool}{sn:List Str}{sub:List Value}{ab:Bool}{col:Option Bool}{dd:Option Addr}{k0 k1 k2 k3 k5:Option Value}{newId:String}
end
structure RoomQ(k:Nat)(A:Around):Prop where
 dp:A.depth+3*k+5<recursionLimit
 un:A.units+16*k+200<cLine
 gd:A.guards=some []
structure FnQ(P:Program)(w:World)(K:PySem.W.Frag)(mg:Str->Option Value)(base:Heap)(k:Nat)(f:Addr)(fd:FuncData)(ps:List Str)(sp:Sp):Prop where
 len:∀ vs H Q E,sp vs H Q E->vs.length=ps.length
 run:∀ (A:Around) (outer:List PySem.Env) (s:Shared) (H:Hp) (args:Args) (us:List Value) (vs:List V) (Q:VK) (E:XK),RoomQ k A->Env0 P w K mg base A outer s H->BindsTo s fd args (ps.zip us)->Vals vs us->sp vs H Q E→
  codeAny (model P w) A (.call (.ref f) args) (CR CX0 outer P w H s Q E) s
section
variable{P:Program}{w:World}{K:PySem.W.Frag}{mg:Str->Option Value}{base:Heap}
structure IniXQ(P:Program)(w:World)(K:PySem.W.Frag)(mg:Str->Option Value)(base:Heap)(f:Addr)(j:Nat):Prop where
 ex:∃ fd ps oI,K.lookup f=some oI/\oI.cls=.type "function"/\FnQ P w K mg base j f fd ps (spI K)/\ps.length=2/\Binds K fd ps []
structure IniJQ(P:Program)(w:World)(K:PySem.W.Frag)(mg:Str->Option Value)(base:Heap)(f:Addr)(j:Nat):Prop where
 ex:∃ fd ps oI,K.lookup f=some oI/\oI.cls=.type "function"/\FnQ P w K mg base j f fd ps (spJ K)/\ps.length=2/\Binds K fd ps []
end
section
variable{X:Cx}{pins:List (Addr×Obj)}{σ:L2.St}{H:Hp}{s:Shared}{C f:Addr}{fd:FuncData}{ps:List Str}{k:Nat}
structure ClJQ(P:Program)(w:World)(K:PySem.W.Frag)(mg:Str->Option Value)(base:Heap)(x:Str)(j:Nat):Prop where
 ex:∃ C f fd ps oI,mg x=some (.ref C)/\CN K x C/\(KX K C/\KA K C)/\PySem.W.findIn K (.ref C) "__init__"=some (some (.ref f))/\K.lookup f=some oI/\oI.cls=.type "function"/\FnQ P w K mg base j f fd ps (spJ K)/\ps.length=2/\Binds K fd ps []
end
abbrev hx(X:Cx)(a:Addr):Cx:={ X with A:=X.A.mark (some (.ref a)),calm:=false }
structure GE(X:Cx)(XQ:XW)(e:Expr)(f:Ev D):Prop where
 h:JE X XQ e f
structure GA(X:Cx)(XQ:XW)(es:List Expr)(f:Ev (List D)):Prop where
 h:JA X XQ es f
structure GT(X:Cx)(XQ:XW)(e:Expr)(f:Ev Bool):Prop where
 h:JT X XQ e f
structure GW(X:Cx)(XQ:XW)(e:Expr)(f:Ev Bool):Prop where
 h:JW X XQ e f
structure GO(X:Cx)(XQ:XW)(e:Option Expr)(f:Ev (Option Int)):Prop where
 h:JO X XQ e f
structure GS(X:Cx)(XQ:XW)(st:Stmt)(f:Sv):Prop where
 h:JS X XQ st f
structure GSs(X:Cx)(XQ:XW)(st:List Stmt)(f:Sv):Prop where
 h:JSs X XQ st f
structure GI(X:Cx)(XQ:XW)(tg it:Expr)(f:Ev Src):Prop where
 h:JI X XQ tg it f
structure GG(X:Cx)(tg:Expr)(g:Tg):Prop where
 h:JG X tg g
structure GGs(X:Cx)(ts:List Expr)(g:Tgs):Prop where
 h:JGs X ts g
structure GTs(Y:Cx)(XQ:XW)(ifs:List Expr)(t:Ev Bool):Prop where
 h:JTs Y XQ ifs t
theorem Gcb{j pos}:GE X XQ (.Constant .none j pos) (cn .non):=⟨Ggx ⟩
theorem Gfb{b:Bool}{j pos}:GE X XQ (.Constant (.bool b) j pos) (cn (.bl b)):=⟨Gj8 ⟩
theorem ge_int{i:Int}{j pos}:GE X XQ (.Constant (.int i) j pos) (cn (.int i)):=⟨Ggw ⟩
theorem Wt{j pos}:GE X XQ (.Constant (.str x) j pos) (cn (.str x)):=⟨Ggy ⟩
theorem Hm(ha:GE X XQ a fa)(hb:GE X XQ b fb):GE X XQ (.BinOp a .Add b pos) (o2 Jb fa fb):=⟨Ghr ha.h hb.h⟩
theorem Qe(ha:GE X XQ a fa)(hb:GE X XQ b fb):GE X XQ (.BinOp a .Sub b pos) (o2 Vk fa fb):=⟨Ghn ha.h hb.h⟩
theorem Je(ha:GE X XQ a fa)(hb:GE X XQ b fb):GE X XQ (.BinOp a .Mult b pos) (o2 Jt fa fb):=⟨Ght ha.h hb.h⟩
theorem Ju(ha:GE X XQ a fa)(hb:GE X XQ b fb):GE X XQ (.BinOp a .Mod b pos) (o2 Ky fa fb):=⟨Gho ha.h hb.h⟩
theorem Zk(ha:GE X XQ a fa)(hb:GE X XQ b fb):GE X XQ (.BinOp a .FloorDiv b pos) (o2 Vy fa fb):=⟨Gej ha.h hb.h⟩
theorem Uu(ha:GE X XQ a fa)(hb:GE X XQ b fb):GE X XQ (.BinOp a .Pow b pos) (o2 Uh fa fb):=⟨Ghp ha.h hb.h⟩
theorem Gfc(hu:X.A.units+64<cLine)(ha:GE X XQ a fa)(hb:GE X XQ b fb):GE X XQ (.Compare a [.Eq] [b] pos) (o2 eqD fa fb):=⟨Gkf hu ha.h hb.h⟩
theorem Gik(ha:GE X XQ a fa)(hb:GE X XQ b fb):GE X XQ (.Compare a [.Is] [b] pos) (o2 Gb0 fa fb):=⟨Gh0 ha.h hb.h⟩
theorem Gil{rest:List Expr}{g:Ev D}(ha:GE X XQ a f)(hb:GE X XQ (.BoolOp .And (b::rest) pos) g):GE X XQ (.BoolOp .And (a::b::rest) pos) (va f g):=⟨Gg7 ha.h hb.h⟩
theorem Gkp{rest:List Expr}{g:Ev D}(ha:GE X XQ a f)(hb:GE X XQ (.BoolOp .Or (b::rest) pos) g):GE X XQ (.BoolOp .Or (a::b::rest) pos) (vo f g):=⟨Gkc ha.h hb.h⟩
theorem Gcc{op}(h:GE X XQ a f):GE X XQ (.BoolOp op [a] pos) f:=⟨Gg6 h.h⟩
theorem Gim(ha:GE X XQ a f):GE X XQ (.UnaryOp .Not a pos) (vn f):=⟨Gg8 ha.h⟩
theorem Gin(ha:GE X XQ a fa):GE X XQ (.UnaryOp .USub a pos) (o1 Gbw fa):=⟨Gh2 ha.h⟩
theorem Hc(ha:GE X XQ a fa)(hb:GE X XQ b fb)(hs:Ul b:=by intro _ _; rfl):GE X XQ (.Subscript a b pos) (o2 getD fa fb):=⟨Ghv ha.h hb.h hs⟩
theorem Qv{lo hi:Option Expr}{fe:Ev D}{fl fh:Ev (Option Int)}(he:GE X XQ e fe)(hl:GO X XQ lo fl)(hh:GO X XQ hi fh):GE X XQ (.Subscript e (.Slice lo hi none p2) pos) (sl2 fe fl fh):=⟨Gax he.h hl.h hh.h⟩
theorem Wu{f:Ev (List D)}(h:GA X XQ es f):GE X XQ (.List es pos) (ls f):=⟨Gg1 h.h⟩
theorem Yu{f:Ev (List D)}{x1}(h:GA X XQ es f):GE X XQ (.Tuple es x1 pos) (tp f):=⟨Gg0 h.h⟩
theorem Gio{T:String}(k:Kit X.K T)(hv:bootBuiltins x=some (.type T))(hnx:x≠"__name__")(hdx:(x==("__debug__":Str))=false)(hg:Gl X "isinstance")(hm:X.mg "isinstance"=none)(hgt:Gl X x)(hmt:X.mg x=none)(he:GE X XQ e f)(hs:starEach [e,.Name x p2] X.env=(false,eval e X.env)::starEach [.Name x p2] X.env)(hpl:(backTo pos (starEach [.Name x p2] X.env)).any (·.1)=false)(hs2:starEach [.Name x p2] X.env=(false,eval (.Name x p2) X.env)::starEach [] X.env):GE X XQ (.Call (.Name "isinstance" p) [e,.Name x p2] [] pos) (o1 (isD T) f):=⟨Gh5 k hv hnx hdx hg hm hgt hmt he.h hs hpl hs2⟩
theorem Jk{f:Ev (List D)}(hg:Gl X "len")(hm:X.mg "len"=none)(ha:GA X XQ [e] f)(he:starEach [e] X.env=(false,eval e X.env)::starEach [] X.env:=by rfl):GE X XQ (.Call (.Name "len" p) [e] [] pos) (b1 Jd f):=⟨Ghy hg hm ha.h he⟩
theorem Gek{f:Ev (List D)}(hg:Gl X "list")(hm:X.mg "list"=none)(ha:GA X XQ [e] f)(he:starEach [e] X.env=(false,eval e X.env)::starEach [] X.env:=by rfl):GE X XQ (.Call (.Name "list" p) [e] [] pos) (b1 Ub f):=⟨Gec hg hm ha.h he⟩
theorem Gcd{f:Ev (List D)}(hg:Gl X "tuple")(hm:X.mg "tuple"=none)(ha:GA X XQ [e] f)(he:starEach [e] X.env=(false,eval e X.env)::starEach [] X.env:=by rfl):GE X XQ (.Call (.Name "tuple" p) [e] [] pos) (b1 Ys f):=⟨Gbz hg hm ha.h he⟩
theorem Gip{f:Ev (List D)}(hc:X.calm=true)(hg:Gl X "max")(hm:X.mg "max"=none)(ha:GA X XQ [e,e'] f)(he:starEach [e,e'] X.env=(false,eval e X.env)::starEach [e'] X.env:=by rfl)(hpl:(backTo pos (starEach [e'] X.env)).any (·.1)=false:=by rfl):GE X XQ (.Call (.Name "max" p) [e,e'] [] pos) (b1 Gaw f):=⟨Gig hc hg hm ha.h he hpl⟩
theorem Wv{f:Ev (List D)}(hc:X.calm=true)(hg:Gl X "sum")(hm:X.mg "sum"=none)(ha:GA X XQ [e] f)(he:starEach [e] X.env=(false,eval e X.env)::starEach [] X.env:=by rfl):GE X XQ (.Call (.Name "sum" p) [e] [] pos) (b1 Ws f):=⟨Gie hc hg hm ha.h he⟩
theorem Gay{f:Ev (List D)}(hg:Gl X "divmod")(hm:X.mg "divmod"=none)(ha:GA X XQ [e,e'] f)(he:starEach [e,e'] X.env=(false,eval e X.env)::starEach [e'] X.env:=by rfl)(hpl:(backTo pos (starEach [e'] X.env)).any (·.1)=false:=by rfl):GE X XQ (.Call (.Name "divmod" p) [e,e'] [] pos) (b1 dmD f):=⟨Gav hg hm ha.h he hpl⟩
theorem Vz{o:Expr}{apos cpos:Pos}{f:Ev (List D)}(ho:GE X XQ o fo)(ha:GA X XQ [e,e'] f)(hbase:attributeBase o "insert" X.env (eval o X.env)=eval o X.env:=by rfl)(hfew:((backTo cpos (starEach [e,e'] X.env)).all (fun x=>!x.1)&&(backToKw cpos (keywordEach [] X.env)).all (fun x=>x.1.isSome)
   && decide ([e,e'].length+([]:List Keyword).length+(if([]:List Keyword).isEmpty then 0 else 1)<30))=true:=by rfl)(hline:(apos.endLine==cpos.line)=true:=by rfl)(hs:starEach [e,e'] X.env=(false,eval e X.env)::starEach [e'] X.env:=by rfl)(hpl:(backTo cpos (starEach [e'] X.env)).any (·.1)=false:=by rfl):GE X XQ (.Call (.Attribute o "insert" apos) [e,e'] [] cpos) (mt Xp fo f):=⟨Gau ho.h ha.h hbase hfew hline hs hpl⟩
theorem Giq{o:Expr}{apos cpos:Pos}{f:Ev (List D)}(ho:GE X XQ o fo)(ha:GA X XQ [e] f)(hbase:attributeBase o "pop" X.env (eval o X.env)=eval o X.env:=by rfl)(hfew:((backTo cpos (starEach [e] X.env)).all (fun x=>!x.1)&&(backToKw cpos (keywordEach [] X.env)).all (fun x=>x.1.isSome)
   && decide ([e].length+([]:List Keyword).length+(if([]:List Keyword).isEmpty then 0 else 1)<30))=true:=by rfl)(hline:(apos.endLine==cpos.line)=true:=by rfl)(hs:starEach [e] X.env=(false,eval e X.env)::starEach [] X.env:=by rfl):GE X XQ (.Call (.Attribute o "pop" apos) [e] [] cpos) (mt Xo fo f):=⟨Gh9 ho.h ha.h hbase hfew hline hs⟩
theorem Uc(ha:GE X XQ a fa)(hb:GE X XQ b fb):GT X XQ (.Compare a [.Lt] [b] pos) (tb (o2 ltD fa fb)):=⟨Gkh ha.h hb.h⟩
theorem Gce(ha:GE X XQ a fa)(hb:GE X XQ b fb):GT X XQ (.Compare a [.Gt] [b] pos) (tb (o2 gtD fa fb)):=⟨Gki ha.h hb.h⟩
theorem Zl(hu:X.A.units+64<cLine)(ha:GE X XQ a fa)(hb:GE X XQ b fb):GT X XQ (.Compare a [.Eq] [b] pos) (tb (o2 eqD fa fb)):=⟨Gkg hu ha.h hb.h⟩
theorem Gir{f:Ev Bool}(h:GT X XQ a f):GT X XQ (.UnaryOp .Not a pos) (tn f):=⟨Gg3 h.h⟩
theorem Gis(h:GE X XQ e f)(he:∀ whole,isTrue e X.env whole=(do let v <- whole; standAt e.pos; holding [v] (truthy v)):=by intro _; rfl):GT X XQ e (tt f):=⟨Gg2 h.h he⟩
theorem Zm{f:Ev Bool}(h:GT X XQ a f):GW X XQ (.BoolOp .And [a] pos) f:=⟨Gdx h.h⟩
theorem Git{f:Ev Bool}(h:GT X XQ a f):GW X XQ (.BoolOp .Or [a] pos) f:=⟨Gg4 h.h⟩
theorem Gcf{rest:List Expr}{f g:Ev Bool}(h:GT X XQ a f)(hb:GW X XQ (.BoolOp .And (b::rest) pos) g):GW X XQ (.BoolOp .And (a::b::rest) pos) (ta f g):=⟨Gg5 h.h hb.h⟩
theorem Gkq{rest:List Expr}{f g:Ev Bool}(h:GT X XQ a f)(hb:GW X XQ (.BoolOp .Or (b::rest) pos) g):GW X XQ (.BoolOp .Or (a::b::rest) pos) (to f g):=⟨Gkb h.h hb.h⟩
theorem ga_nil :GA X XQ [] an:=⟨Gbo ⟩
theorem Ga{g:Ev (List D)}(ha:GE X XQ e f)(hr:GA X XQ es g)(hs:starEach (e::es) X.env=(false,eval e X.env)::starEach es X.env:=by rfl):GA X XQ (e::es) (ac f g):=⟨Zi ha.h hr.h hs⟩
theorem Zn :GO X XQ none onone:=⟨Ged ⟩
theorem Um(h:GE X XQ e f):GO X XQ (some e) (osome f):=⟨Gee h.h⟩
theorem Wa{f:Ev (List D)}(hg:Gl X "range")(hm:X.mg "range"=none)(ha:GA X XQ [a] f)(hs:starEach [a] X.env=[(false,eval a X.env)]:=by rfl):GI X XQ tg (.Call (.Name "range" p) [a] [] pos) (ir1 f):=⟨Gar hg hm ha.h hs⟩
theorem Gaz{f:Ev (List D)}(hg:Gl X "range")(hm:X.mg "range"=none)(ha:GA X XQ [a,b] f)(hs:starEach [a,b] X.env=[(false,eval a X.env),(false,eval b X.env)]:=by rfl)(hs2:starEach [b] X.env=[(false,eval b X.env)]:=by rfl):GI X XQ tg (.Call (.Name "range" p) [a,b] [] pos) (ir2 f):=⟨Gas hg hm ha.h hs hs2⟩
theorem Giu{l:Expr}(hl:GE X XQ l f):GI X XQ tg l (isrc f):=⟨Ghi hl.h⟩
theorem ggn(i:Nat)(hN:X.N.Nodup)(h:OkL X.env.scope x)(hi:X.N[i]?=some x:=by rfl)(hf:X.fn x=true:=by rfl):GG X (.Name x pos) (gn i):=⟨jgn i hN h hi hf⟩
theorem Gl9(i:Nat)(hN:N'.Nodup)(h:Gei scope x=true)(hi:N'[i]?=some x:=by rfl):GG (blk X s2 H2 C scope c N' fp) (.Name x pos) (gn i):=⟨Gl5 i hN h hi⟩
theorem Gcg{m:Nat}{k:Tgs}(hc:X.calm=true)(h:GGs X es k)(hn:(assignEach es X.env).length=n:=by rfl)(hst:(assignEach es X.env).findIdx? (·.1)=none:=by rfl):GG X (.Tuple es m pos) (gt k n):=⟨Gha hc h.h hn hst⟩
theorem Zo :GGs X [] gnil:=⟨Gd1 ⟩
theorem Qj{k:Tgs}(h1:GG X e g)(h2:GGs X es k)(hs:(assignEach (e::es) X.env).map (·.2)=assign e X.env::(assignEach es X.env).map (·.2):=by rfl):GGs X (e::es) (gcons g k):=⟨Gbr h1.h h2.h hs⟩
theorem Hv :GSs X XQ [] skip:=⟨Gdy ⟩
theorem Ge{rest:List Stmt}{f g:Sv}(h1:GS X XQ st f)(h2:GSs X XQ rest g):GSs X XQ (st::rest) (sq f g):=⟨Gbq h1.h h2.h⟩
theorem Gj{f:Sv}(h1:GS X XQ st f):GSs X XQ [st] f:=⟨Gdz h1.h⟩
theorem Hd(he:GE X XQ e f):GS X XQ (.Return (some e) pos) (sret f):=⟨Gg9 he.h⟩
theorem Kr{c:Expr}{a b:List Stmt}{fc:Ev Bool}{f g:Sv}(hc:GT X XQ c fc)(ha:GSs X XQ a f)(hb:GSs X XQ b g):GS X XQ (.If c a b pos) (sif fc f g):=⟨Gkd hc.h ha.h hb.h⟩
theorem gset(i:Nat)(hN:X.N.Nodup)(h:OkL X.env.scope x)(he:GE X XQ e f)(hi:X.N[i]?=some x:=by rfl)(hs:swapsWith e (some (.Name x pos')) pos.line X.env=pure false:=by rfl)(hf:X.fn x=true:=by rfl):GS X XQ (.Assign [.Name x pos'] e pos) (sa f (gn i)):=⟨jset i hN h he.h hi hs hf⟩
theorem Gch(he:GE X XQ e f)(hg:GG X tg g)(hs:swapsWithSole [tg] e pos.line X.env=pure false:=by rfl)(hw:swappedStores [tg] e X.env=pure none:=by rfl)(h1:(assignEach [tg] X.env).map (·.2)=[assign tg X.env]:=by rfl):GS X XQ (.Assign [tg] e pos) (sa f g):=⟨Ghb he.h hg.h hs hw h1⟩
theorem Qk{ob ix:Expr}{fi:Ev D}(he:GE X XQ e f)(hob:GE X XQ ob fo)(hix:GE X XQ ix fi)(hs:swapsWithSole [.Subscript ob ix p2] e pos.line X.env=pure false:=by rfl)(hw:swappedStores [.Subscript ob ix p2] e X.env=pure none:=by rfl)(h1:(assignEach [.Subscript ob ix p2] X.env).map (·.2)=[assign (.Subscript ob ix p2) X.env]:=by rfl)(ha:∀ v,assign (.Subscript ob ix p2) X.env v=(do
   let ov <- holding [v] (eval ob X.env)
   let iv <- holding [v,ov] (eval ix X.env)
   standAt p2
   holding [v,ov,iv] (setItem ov iv v)
   release [v,ov,iv] []):=by intro _; rfl):GS X XQ (.Assign [.Subscript ob ix p2] e pos) (ss f fo fi Kz):=⟨Gbx he.h hob.h hix.h hs hw h1 ha⟩
theorem Zp(he:GE X XQ e f)(hs:swapsWith e none pos.line X.env=pure false:=by rfl):GS X XQ (.Expr e pos) (sx f):=⟨Gd0 he.h hs⟩
theorem Gci{iter:Expr}{body:List Stmt}{f:Ev Src}{b:Sv}(hp:PassesOwn (model X.prog X.w) X.A X.env X.xe)(hc:X.calm=true)(hi:GI X XQ tg iter f)(hg:GG X tg g)(hb:GSs X XQ body b)(hs:∀ x,foldedSetIterable iter X.env x=pure x:=by intro _; rfl):GS X XQ (.For tg iter body [] pos) (sfor f g b):=⟨Ghe hp hc hi.h hg.h hb.h hs⟩
theorem Xs(fuel:Nat){c:Expr}{body:List Stmt}{fc:Ev Bool}{b:Sv}(hp:PassesOwn (model X.prog X.w) X.A X.env X.xe)(hc:GT X XQ c fc)(hb:GSs X XQ body b):GS X XQ (.While c body [] pos) (whN fc b fuel):=⟨Gbt fuel hp hc.h hb.h⟩
theorem gv(i:Nat)(h:OkV X.env.scope x)(hN:X.N[i]?=some x:=by rfl):GE X XQ (.Name x pos) (vr i):=⟨jv i h hN⟩
theorem gvB(i:Nat)(h:Gb6 scope x=true)(hN:N'[i]?=some x:=by rfl):GE (blk X s2 H2 C scope c N' fp) XQ (.Name x pos) (vr i):=⟨jvB i h hN⟩
theorem gown(C:Cal X.prog X.w X.K X.mg X.base x ps fn j)(hr:Room k X.A)(hg:Gl X x)(hp:Hl x=true)(ha:GA X XQ (e::es) t)(hn:ps.length=n:=by rfl)(hj:j<=k:=by decide)(he:starEach (e::es) X.env=(false,eval e X.env)::starEach es X.env:=by rfl)(hpl:(backTo pos (starEach es X.env)).any (·.1)=false:=by rfl):GE X XQ (.Call (.Name x p) (e::es) [] pos) (cl n (Gm fn) t):=⟨jown C hr hg hp ha.h hn hj he hpl⟩
theorem Zq{Y:Cx}:GTs Y XQ [] ttrue:=⟨Gd6 ⟩
theorem GW.jt{f:Ev Bool}(h:GW X XQ e f):GT X XQ e f:=⟨JW.jt h.h⟩
structure FH(K:PySem.W.Frag)(x:Str)(st:Stmt):Prop where
 ex:∃ (f:Addr) (oc:Value) (od an:Option Addr) (osl:Array (Option Value)) (kV doc pm cdv ct:Value),PySem.W.nsIn K mainGlobals x=some (some (.ref f))/\K.lookup f=some ⟨oc,od,.func (PySem.W.fnOf x x (He st) (Gr st) (Gb st) .none kV doc pm an cdv ct),osl⟩/\PySem.W.codeIn K cdv x=true/\PySem.W.keepIn K (.ref f)=true
section
variable{K:PySem.W.Frag}{mg:Str->Option Value}
theorem Gkr{f:Addr}{oc:Value}{od an:Option Addr}{osl:Array (Option Value)}{kV doc pm cdv ct:Value}(a:PySem.W.nsIn K mainGlobals x=some (some (.ref f)))(l:K.lookup f=some ⟨oc,od,.func (PySem.W.fnOf x x (He st) (Gr st) (Gb st) .none kV doc pm an cdv ct),osl⟩)(c:PySem.W.codeIn K cdv x=true)(k:PySem.W.keepIn K (.ref f)=true):FH K x st:=⟨f,oc,od,an,osl,kV,doc,pm,cdv,ct,a,l,c,k⟩
theorem FH.dn(F:FH K x st)(X:K.In h)(G:h.Ns mainGlobals mg)(hb:∀ (kV doc pm:Value) (an:Option Addr) (cdv ct:Value) (us:List Value),us.length=ps.length->bindArgs (PySem.W.fnOf x x (He st) (Gr st) (Gb st) .none kV doc pm an cdv ct) ⟨us,[]⟩=pure (ps.zip us)):Dn K mg x st ps:=by
 obtain⟨f,oc,od,an,osl,kV,doc,pm,cdv,ct,a,l,c,k⟩:=F.ex
 exact Gkm X G a l c k hb
end
structure FnS(N P:List Str)(sc:Scope):Prop where
 s:FnScope N P sc
 v:N.all (okV sc)=true
 l:N.all (okL sc)=true
theorem kdF{s:Scope}(a:s.kind=.function:=by rfl)(b:s.isCoroutine=false:=by rfl)(c:s.isGenerator=false:=by rfl)(d:N.Nodup:=by decide +kernel)(e:N.take P.length=P:=by rfl)(f:∀ x∈P,s.names.lookup x=some .local\/s.names.lookup x=some .cell:=by decide +kernel)(g:∀ y∈s.names,y.2≠.free:=by decide +kernel)(v:N.all (okV s)=true:=by decide +kernel)(l:N.all (okL s)=true:=by decide +kernel):FnS N P s:=⟨⟨a,b,c,d,e,f,g⟩,v,l⟩
theorem FnS.nd{sc:Scope}(S:FnS N P sc):N.Nodup:=S.s.nd
theorem Gcj{i:Nat}(h:N[i]?=some x):x∈N:=List.mem_of_getElem? h
theorem FnS.ov{sc:Scope}{i:Nat}(S:FnS N P sc)(h:N[i]?=some x):OkV sc x:=⟨List.all_eq_true.mp S.v x (Gcj h)⟩
theorem FnS.ol{sc:Scope}{i:Nat}(S:FnS N P sc)(h:N[i]?=some x):OkL sc x:=⟨List.all_eq_true.mp S.l x (Gcj h)⟩
theorem kdC{sc:Scope}{pk:List (Option Nat)}(a:scope.kind=.function:=by rfl)(b:∀ y∈scope.names,y.2=.cell->scope.names.lookup y.1=some .cell:=by decide +kernel)(c:∀ y∈scope.names,y.2=.local->scope.names.lookup y.1=some .local:=by decide +kernel)(d:∀ y∈scope.names,y.2=.free->sc.names.lookup y.1=some .cell\/sc.names.lookup y.1=some .free:=by decide +kernel)(e:pk.length=N'.length:=by rfl)(f:((List.range N'.length).all fun i=>match pk[i]? with
  | some (some j)=>match N[j]?,N'[i]? with
   | some x,some y=>(x==y)&&((sc.names.lookup y==some NameKind.cell)||(sc.names.lookup y==some NameKind.free))&&(scope.names.lookup y==some NameKind.free)
   | _,_=>false
  | _=>true)=true:=by decide +kernel):CompTab sc scope N N' pk:=⟨a,b,c,d,e,f⟩
section
variable{X:Cx}{XQ:XW}{k:Nat}{x:Str}{p pos:Pos}{e:Expr}{es:List Expr}{P:List Str}{f:Ev D}
theorem gw(i:Nat)(S:FnS X.N P X.env.scope)(hN:X.N[i]?=some x:=by rfl):GE X XQ (.Name x pos) (vr i):=gv i (S.ov hN) hN
theorem gG(s:Scope)(h:okG s x=true:=by decide +kernel)(hs:X.env.scope=s:=by rfl):Gl X x:=gl ⟨hs▸h⟩
theorem ggw(i:Nat)(S:FnS X.N P X.env.scope)(hi:X.N[i]?=some x:=by rfl)(hf:X.fn x=true:=by rfl):GG X (.Name x pos) (gn i):=ggn i S.nd (S.ol hi) hi hf
theorem gsew(i:Nat)(S:FnS X.N P X.env.scope)(he:GE X XQ e f)(hi:X.N[i]?=some x:=by rfl)(hs:swapsWith e (some (.Name x pos')) pos.line X.env=pure false:=by rfl)(hf:X.fn x=true:=by rfl):
  GS X XQ (.Assign [.Name x pos'] e pos) (sa f (gn i)):=gset i S.nd (S.ol hi) he hi hs hf
theorem gow(s:Scope)(C:Cal X.prog X.w X.K X.mg X.base x ps fn j)(hr:Room k X.A)(ha:GA X XQ (e::es) t)(hg:okG s x=true:=by decide +kernel)(hn:ps.length=n:=by rfl)(hj:j<=k:=by decide)(hs:X.env.scope=s:=by rfl)(he:starEach (e::es) X.env=(false,eval e X.env)::starEach es X.env:=by rfl)(hpl:(backTo pos (starEach es X.env)).any (·.1)=false:=by rfl):
  GE X XQ (.Call (.Name x p) (e::es) [] pos) (cl n (Gm fn) t):=gown C hr (gG s hg hs) (okG.gl hg).2 ha hn hj he hpl
theorem Gck{T:String}(g1:Gl X "isinstance")(g2:Gl X x)(k:Kit X.K T)(hm:X.mg "isinstance"=none)(hmt:X.mg x=none)(he:GE X XQ e f)(hv:bootBuiltins x=some (.type T):=by rfl)(hnx:x≠"__name__":=by decide +kernel)(hdx:(x==("__debug__":Str))=false:=by decide +kernel)(hs:starEach [e,.Name x p2] X.env=(false,eval e X.env)::starEach [.Name x p2] X.env:=by rfl)(hpl:(backTo pos (starEach [.Name x p2] X.env)).any (·.1)=false:=by rfl)(hs2:starEach [.Name x p2] X.env=(false,eval (.Name x p2) X.env)::starEach [] X.env:=by rfl):GE X XQ (.Call (.Name "isinstance" p) [e,.Name x p2] [] pos) (o1 (isD T) f):=Gio k hv hnx hdx g1 hm g2 hmt he hs hpl hs2
section
variable{s2:Shared}{H2:Hp}{C:Addr}{scope:Scope}{c:List (Str×Addr)}{N':List Str}{fp:List Addr}
theorem Gcl(i:Nat)(h:Gb6 scope x=true:=by decide +kernel)(hN:N'[i]?=some x:=by rfl):GE (blk X s2 H2 C scope c N' fp) XQ (.Name x pos) (vr i):=gvB i h hN
theorem glB_w(h:okG scope x=true:=by decide +kernel):Gl (blk X s2 H2 C scope c N' fp) x:=glB h
theorem Gfd(i:Nat)(h:Gei scope x=true:=by decide +kernel)(hN:N'.Nodup:=by decide +kernel)(hi:N'[i]?=some x:=by rfl):GG (blk X s2 H2 C scope c N' fp) (.Name x pos) (gn i):=Gl9 i hN h hi
end
end
section
variable{P:Program}{w:World}{K:PySem.W.Frag}{mg:Str->Option Value}{base:Heap}{x:Str}{st:Stmt}{ps N:List Str}{fn:Fn}
abbrev GH(K:PySem.W.Frag)(mg:Str->Option Value):Prop:=∃ h:Heap,K.In h/\h.Ns mainGlobals mg
theorem calw{b:Sv}(k:Nat)(F:FH K x st)(g:GH K mg)(S:FnS N ps (Gb st))(hfn:fn=fnB N.length b)
  (hb:∀ (f:Addr) (cdv:Value) (A:Around) (outer:List PySem.Env) (s:Shared) (H:Hp) (E:XK),Room k (A.deeper (envOfC x (Gb st) s.heap.objs.size f cdv))→
   JSs (Vg CX0 P w K mg base N x (Gb st) f cdv A outer s H E).nox XN (Gr st) b)
  (ha:∀ (kV doc pm:Value) (an:Option Addr) (cdv ct:Value) (us:List Value),us.length=ps.length->bindArgs (PySem.W.fnOf x x (He st) (Gr st) (Gb st) .none kV doc pm an cdv ct) ⟨us,[]⟩=pure (ps.zip us):=by first | exact(fun _ _ _ _ _ _ us hl=>match us,hl with | [_],_=>rfl) | exact(fun _ _ _ _ _ _ us hl=>match us,hl with | [_,_],_=>rfl) | exact(fun _ _ _ _ _ _ us hl=>match us,hl with | [_,_,_],_=>rfl) | exact(fun _ _ _ _ _ _ us hl=>match us,hl with | [_,_,_,_],_=>rfl) | exact(fun _ _ _ _ _ _ us hl=>match us,hl with | [_,_,_,_,_],_=>rfl) | exact(fun _ _ _ _ _ _ us hl=>match us,hl with | [_,_,_,_,_,_],_=>rfl)):Cal P w K mg base x ps fn (k+1):=
 let ⟨_,X,G⟩:=g; Gia N k b hfn (F.dn X G ha) S.s hb
theorem FH.fnx{f:Addr}(F:FH K x st)(X:K.In h)(G:h.Ns mainGlobals mg)(hm:mg x=some (.ref f)):∃ od an osl kV doc pm cdv ct,∃ oc:Value,PySem.W.keepIn K (.ref f)=true/\PySem.W.codeIn K cdv x=true/\K.lookup f=some ⟨oc,od,.func (PySem.W.fnOf x x (He st) (Gr st) (Gb st) .none kV doc pm an cdv ct),osl⟩:=by
 obtain⟨f',oc,od,an,osl,kV,doc,pm,cdv,ct,a,l,c,k⟩:=F.ex
 have e:=hm.symm.trans (PySem.W.mg_of X G a)
 cases e
 exact⟨od,an,osl,kV,doc,pm,cdv,ct,oc,k,c,l⟩
end
section
variable{X:Cx}{XQ:XW}
def mt0(o:D->List D->Sto->Out D)(fo:Ev D):Ev D:=fun ρ S=>(fo ρ S).bind fun x S1=>if isLst x S1=true then o x [] S1 else .bad
@[simp] theorem Gma{o:D->List D->Sto->Out D}{ρ:Lc}:mt0 o fo ρ S=(fo ρ S).bind fun x S1=>if isLst x S1=true then o x [] S1 else .bad:=id rfl
end
inductive DP:List (Option Expr)->List Expr->List (Str×D)->Prop
 | nil:DP [] [] []
 | i {k:Str} {i:Int} {j j' p p'} {ks vs l}:DP ks vs l->DP (some (.Constant (.str k) j p)::ks) (.Constant (.int i) j' p'::vs) ((k,.int i)::l)
 | s {k x:Str} {j j' p p'} {ks vs l}:DP ks vs l->DP (some (.Constant (.str k) j p)::ks) (.Constant (.str x) j' p'::vs) ((k,.str x)::l)
def dsub(l:List (Str×D))(fb:Ev D):Ev D:=fun ρ S=>(fb ρ S).bind fun y S1=>match y with
 | .str k=>match l.lookup k with
  | some (.int i)=>.ok (.int i) S1
  | some (.str x)=>.ok (.str x) S1
  | _=>.bad
 | _=>.bad
@[simp] theorem Glb{l:List (Str×D)}{ρ:Lc}:dsub l fb ρ S=(fb ρ S).bind fun y S1=>match y with
 | .str k=>match l.lookup k with
  | some (.int i)=>.ok (.int i) S1
  | some (.str x)=>.ok (.str x) S1
  | _=>.bad
 | _=>.bad:=id rfl
inductive Nms(mg:Str->Option Value):List Str->List Addr->Prop
 | nil:Nms mg [] []
 | cons {x:Str} {c:Addr} {xs:List Str} {cs:List Addr} (h:mg x=some (.ref c)) (t:Nms mg xs cs):Nms mg (x::xs) (c::cs)
structure IsT(K:PySem.W.Frag)(mg:Str->Option Value)(xs ys:List Str):Prop where
 ex:∃ cs,Nms mg xs cs/\∀ y∈ys,∃ C,CN K y C/\PySem.W.kitAny K (.ref C) (cs.map Value.ref)=some (decide (y∈xs))
inductive GNs(X:Cx)(s:Scope):List Expr->List Str->Prop
 | nil:GNs X s [] []
 | cons {x:Str} {p:Pos} {es:List Expr} {xs:List Str} (t:GNs X s es xs) (hg:okG s x=true:=by decide +kernel) (hs:starEach (.Name x p::es) X.env=(false,eval (.Name x p) X.env)::starEach es X.env:=by rfl):GNs X s (.Name x p::es) (x::xs)
section
variable{X:Cx}{XQ:XW}
variable{a b:Expr}{fa fb:Ev D}{pos:Pos}
end
section
variable{X:Cx}{pins:List (Addr×Obj)}{σ:L2.St}{H:Hp}{s:Shared}{mp:List Addr}
mutual
theorem Gcm(I:Inv X pins σ H s):∀ (d:D) (v:V) (u:Value) (κ:NK),Rep X.K mp H d v->Go v u->nkO d=some κ->∃ as,Reads s.heap u (pk κ) as
 | .int i,v,u,κ,h,r,e=>by
  cases (show v=.int i from h); obtain⟨t,rfl⟩:=(show ∃ t,u=Value.int i t from r)
  simp only[nkO,Option.some.injEq] at e
  subst e
  simp only[pk]
  exact⟨_,.int i t⟩
 | .tup l,v,u,κ,h,r,e=>by
  obtain⟨a,xs,rfl,sq,q⟩:=Rep.tup h
  cases (show u=Value.ref a from r)
  obtain⟨its,rv,⟨o,ho,hc,k,hd⟩,_⟩:=I.tuple sq
  simp only[nkO] at e
  obtain⟨ks,e1,rfl⟩:=Option.map_eq_some_iff.mp e
  obtain⟨as,ra⟩:=readsL_nk I l xs its ks q rv e1
  simp only[pk]
  exact⟨as,.tuple ho hc hd (by simpa using ra)⟩
 | .non,_,_,_,_,_,e=>by simp[nkO] at e
 | .bl _,_,_,_,_,_,e=>by simp[nkO] at e
 | .str _,_,_,_,_,_,e=>by simp[nkO] at e
 | .lst _,_,_,_,_,_,e=>by simp[nkO] at e
 | .exn _ _,_,_,_,_,_,e=>by simp[nkO] at e
 | .fv _,_,_,_,_,_,e=>by simp[nkO] at e
 | .dct _,_,_,_,_,_,e=>by simp[nkO] at e
theorem readsL_nk(I:Inv X pins σ H s):∀ (l:List D) (vs:List V) (us:List Value) (ks:List NK),RepL X.K mp H l vs->Vals vs us->nkOs l=some ks->∃ as,ReadsAll s.heap us (pks ks) as
 | [],vs,us,ks,h,r,e=>by
  cases (show vs=[] from h); cases r
  simp only[nkOs,Option.some.injEq] at e
  subst e
  simp only[pks]
  exact⟨_,.nil⟩
 | d::l,vs,us,ks,h,r,e=>by
  obtain⟨v,vr,rfl,h1,h2⟩:=(show ∃ v r,vs=v::r/\Rep X.K mp H d v/\RepL X.K mp H l r from h)
  cases r with
  | cons r1 r2=>
   simp only[nkOs] at e
   obtain⟨k,e1,e2⟩:=Option.bind_eq_some_iff.mp e
   obtain⟨q,e3,rfl⟩:=Option.map_eq_some_iff.mp e2
   obtain⟨as,ra⟩:=Gcm I d v _ k h1 r1 e1
   obtain⟨bs,rb⟩:=readsL_nk I l vr _ q h2 r2 e3
   simp only[pks]
   exact⟨_,.cons ra rb⟩
end
end
section
variable{X:Cx}{XQ:XW}
variable{k:Nat}{a b:Expr}{fa fb:Ev D}{pos:Pos}
end
structure FHd(K:PySem.W.Frag)(x:Str)(st:Stmt)(d:Int):Prop where
 ex:∃ (f T:Addr) (oc:Value) (od an:Option Addr) (osl sl:Array (Option Value)) (kV doc pm cdv ct:Value) (t:Tok) (n:Nat),PySem.W.nsIn K mainGlobals x=some (some (.ref f))/\K.lookup f=some ⟨oc,od,.func (PySem.W.fnOf x x (He st) (Gr st) (Gb st) (.ref T) kV doc pm an cdv ct),osl⟩/\PySem.W.codeIn K cdv x=true/\PySem.W.keepIn K (.ref f)=true∧
  K.lookup T=some { cls:=.type "tuple",dict:=none,data:=.seq #[.int d t] n,slots:=sl }
section
variable{P:Program}{w:World}{K:PySem.W.Frag}{mg:Str->Option Value}{base:Heap}
structure CalD(P:Program)(w:World)(K:PySem.W.Frag)(mg:Str->Option Value)(base:Heap)(x:Str)(ps:List Str)(fn:Fn)(d:Int)(j:Nat):Prop where
 ex:∃ f fd t,FnOk P w K mg base (CXe P w) j f fd ps (spX K ps.length fn)/\mg x=some (.ref f)/\PySem.W.keepIn K (.ref f)=true/\Binds K fd ps []/\Binds K fd ps [.int d t]
end
def Uv(E:Expr)(d:Nat)(tg iter:Expr)(ifs:List Expr)(em:Sem Fin->Sem Fin)(it acc:Value)(env:PySem.Env):Sem Fin:=do
 standAt iter.pos
 match <- pyNext it with
 | none=>pure (.done .next)
 | some v=>
  letOwnedTupleGo tg it v
  assign tg env v
  let mut ok:=true
  for c in ifs do
   if ok then ok <- isTrue c env (eval c env)
  if ok then em (again (.compLoop E d it acc env)) else again (.compLoop E d it acc env)
theorem Ud{prog:Program}{w:World}{A:Around}{R:Result->Shared->Prop}{s:Shared}{elt:Expr}{gens:List Comprehension}{d:Nat}{target iter:Expr}{ifs:List Expr}{scope:Scope}{pos:Pos}{em:Sem Fin->Sem Fin}{it acc:Value}{env:PySem.Env}(hct:compTurn (.ListComp elt gens scope pos) d it acc env=Uv (.ListComp elt gens scope pos) d target iter ifs em it acc env)(I:Nat->Shared->Prop)(turn:∀ n s,I n s->wpAny (model prog w) A (pyNext it) (fun r s₁=>match r with
   | none=>R (.ok .next) s₁
   | some v=>wpAny (model prog w) A (letOwnedTupleGo target it v) (fun _ s₁=>wpAny (model prog w) A (assign target env v) (fun _ s₂=>
     wpAny (model prog w) A (forIn ifs true fun c r=>if r=true then do let ok <- isTrue c env (eval c env); pure (ForInStep.yield ok) else pure (ForInStep.yield r)) (fun ok s₃=>
      if ok=true then ∀ (k:Sem Fin) (Q':Fin->Shared->Prop) (E':Value->Shared->Prop),(∀ s₅,(∃ m,m<n/\I m s₅)->wpAny (model prog w) A k Q' E' s₅)->wpAny (model prog w) A (em k) Q' E' s₃
      else ∃ m,m<n/\I m s₃) (fun _ _=>False) s₂) (fun _ _=>False) s₁) (fun _ _=>False) s₁) (fun _ _=>False) s)(n:Nat)(h:I n s):
  codeAny (model prog w) A (.compLoop (.ListComp elt gens scope pos) d it acc env) R s:=by
 have noE:∀ {α:Type} {m:Sem α} {Q:α->Shared->Prop} {E':Value->Shared->Prop} {s:Shared},wpAny (model prog w) A m Q (fun _ _=>False) s->wpAny (model prog w) A m Q E' s:=fun h=>wpAny_mono h (fun _ _ q=>q) fun _ _ z=>z.elim
 refine codeAny_loop rfl I (fun n s hI=>?_) n h
 show wpAny _ A ((compTurn (.ListComp elt gens scope pos) d it acc env).onRaise (fun x=>do noteFrame x env; theTreesLotGoes x)) _ _ s
 refine wpAny_noted ?_
 rw[hct]
 unfold Uv
 refine wpAny_bind (wpAny_standAt (wpAny_bind (noE (wpAny_mono (turn n s hI) (fun r s₁ h₁=>?_) fun _ _ z=>z))))
 cases r with
 | none=>exact wpAny_pure h₁
 | some v=>
  refine wpAny_bind (noE (wpAny_mono h₁ (fun _ s₁ h₁=>?_) fun _ _ z=>z))
  refine wpAny_bind (noE (wpAny_mono h₁ (fun _ s₂ h₂=>wpAny_bind (noE (wpAny_mono h₂ (fun ok s₃ h₃=>?_) fun _ _ z=>z))) fun _ _ z=>z))
  cases ok with
  | false=>exact wpAny_pure ⟨rfl,h₃⟩
  | true=>exact h₃ _ _ _ fun s₄ h₄=>wpAny_pure ⟨rfl,h₄⟩
abbrev TB:=Addr->L2.St->Hp->(L2.St->Hp->Prop)->Prop
def PEm(Y:Cx)(em:Value->PySem.Env->Sem Fin->Sem Fin)(tb:TB):Prop:=∀ (a:Addr) (pins:List (Addr×Obj)) (s:Shared) (σ:L2.St) (H:Hp) (Q:L2.St->Hp->Prop),Inv Y pins σ H s->tb a σ H Q→
 ∀ (k:Sem Fin) (Q':Fin->Shared->Prop) (E':Value->Shared->Prop),(∀ s' σ' H',Inv Y pins σ' H' s'->Q σ' H'->wpAny (model Y.prog Y.w) Y.A k Q' E' s')->wpAny (model Y.prog Y.w) Y.A (em (.ref a) Y.env k) Q' E' s
theorem Xt{X:Cx}{elt tg iter:Expr}{ifs:List Expr}{rest:List Comprehension}{em:Value->PySem.Env->Sem Fin->Sem Fin}{scope:Scope}{pos:Pos}{cl:List (Str×Addr)}{N':List Str}{pk:List (Option Nat)}{g:TG}{tt:TT}{tb:TB}(hct:∀ it acc env,compTurn (.ListComp elt (⟨tg,iter,ifs,0⟩::rest) scope pos) 0 it acc env=Uv (.ListComp elt (⟨tg,iter,ifs,0⟩::rest) scope pos) 0 tg iter ifs (em acc env) it acc env)(cs:CompSc X scope cl N' pk)(hcm:X.calm=true)(hg:∀ cl s2 H2 C fp,PG (blk X s2 H2 C scope cl N' fp) tg g)(ht:∀ cl s2 H2 C fp,PTs (blk X s2 H2 C scope cl N' fp) ifs tt)(he:∀ cl s2 H2 C fp,PEm (blk X s2 H2 C scope cl N' fp) em tb){pins:List (Addr×Obj)}{σ:L2.St}{H2:Hp}{s2:Shared}{it:Addr}{fp:List Addr}{tn:Nat->Heap->Prop}{J:It}(I2:Inv X pins σ H2 s2)(T:Turn X.prog X.w X.K tg J fp it tn)(st2:tn 0 s2.heap)(f2:∀ b∈fp,Qc X pins H2 b){Q:VK}(hQ:∀ a,H2 a=none->∃ W:Nat->Nat->L2.St->Hp->Prop,(∃ m,W 0 m (pkS pk σ) (upd H2 a (.lst [])))/\∀ i m σ' H',W i m σ' H'→
   (J.stop i H'/\Q (.ref a) H')\/(J.go i H'/\∀ x H3,J.yld i H' x H3->g x σ' H3 fun σ3 H3=>tt σ3 H3 fun b H4=>if b=true then tb a σ3 H4 fun σ5 H5=>∃ m',m'<m/\W (i+1) m' σ5 H5
    else ∃ m',m'<m/\W (i+1) m' σ3 H4)){E:Value->Shared->Prop}{RR:Value->Addr->Result->Shared->Prop}(hRR:∀ D C s' (H':Hp),Q (.ref D) H'->(∃ m,s'.heap.Ns C m)->Inv X pins σ H' s'->H' C=none->s2.heap.objs.size<=C->RR (.ref D) C (.ok .next) s'):
  wpAny (model X.prog X.w) X.A (newList []) (fun acc s₃=>wpAny (model X.prog X.w) X.A (newFunctionEnv scope X.env.globals cl [] X.env.qual none .none (some X.env)) (fun cenv s₄=>
   codeAny (model X.prog X.w) X.A (.compStart (.ListComp elt (⟨tg,iter,ifs,0⟩::rest) scope pos) 0 (.ref it) acc { cenv with scope:=relabel scope X.env }) (RR acc cenv.locals) s₄) E s₃) E s2:=by
 have hD:H2 s2.heap.objs.size=none:=I2.hok.fresh (Nat.le_refl _)
 obtain⟨W,⟨m0,w0⟩,turn⟩:=hQ s2.heap.objs.size hD
 refine wpAny_newObj_type (Ug (fun h₁ hh₁=>?_))
 dsimp only at hh₁ ⊢
 generalize hHh:s2.heap.push { cls:=.type "list",dict:=none,data:=.seq ([]:List Value).toArray }=Hh at hh₁ ⊢
 have hC:Hh.objs.size=s2.heap.objs.size+1:=by rw[<- hHh,Heap.size_push]
 have hDC:s2.heap.objs.size≠Hh.objs.size:=by rw[hC]; exact Nat.ne_of_lt (Nat.lt_succ_self _)
 have hCle:s2.heap.objs.size<=Hh.objs.size:=by rw[hC]; exact Nat.le_succ _
 have below:∀ b,b<s2.heap.objs.size->b≠Hh.objs.size/\b≠s2.heap.objs.size:=fun b hb=>⟨by rw[hC]; exact Nat.ne_of_lt (Nat.lt_succ_of_lt hb),Nat.ne_of_lt hb⟩
 have hns₁:h₁.Ns Hh.objs.size (fun _=>none):=by rw[hh₁]; exact(Heap.Ns.new Hh (.type "dict")).keeps (pushCells_keeps _ _)
 have old0:∀ b o,Hh.get? b=some o->h₁.get? b=some o:=fun b o e=>by rw[hh₁]; exact pushCells_keeps _ _ b o (Heap.get?_push_of_some _ e)
 have old:∀ b o,s2.heap.get? b=some o->h₁.get? b=some o:=fun b o e=>old0 b o (by rw[<- hHh]; exact Heap.get?_push_of_some _ e)
 have hacc:h₁.get? s2.heap.objs.size=some { cls:=.type "list",dict:=none,data:=.seq ([]:List Value).toArray }:=old0 _ _ (by rw[<- hHh]; exact Heap.get?_push_size _ rfl)
 have own:=cellsFrom_ok scope.names (Hh.push { cls:=.type "dict",data:=.dict #[] }) (Hh.objs.size+1) [] ⟨fun _ _ hm=>(nomatch hm),List.Pairwise.nil⟩ (by rw[Heap.size_push]; exact Nat.le_refl _)
 rw[Heap.size_push,<- hh₁] at own
 generalize hcs:cellsFrom (Hh.objs.size+1) scope.names cl=cs' at *
 have csl:∀ x c,cs'.lookup x=some c->((x,c)∈cellsFrom (Hh.objs.size+1) scope.names []/\h₁.IsCell c none/\Hh.objs.size+1<=c/\scope.names.lookup x=some .cell)\/((x,NameKind.cell)∉scope.names/\X.env.cells.lookup x=some c):=fun x c h=>by
  rw[<- hcs,Gu,Jj] at h
  cases e:(cellsFrom (Hh.objs.size+1) scope.names []).lookup x with
  | some c'=>
   rw[e] at h
   cases h
   have m:=mem_of_lookup e
   exact .inl ⟨m,(own.empty x c m).1,(own.empty x c m).2,cs.cell (x,.cell) (Js _ _ _ _ m) rfl⟩
  | none=>
   rw[e] at h
   refine .inr ⟨fun hm=>?_,cs.sub x c h⟩
   obtain⟨c',q⟩:=Hx scope.names (Hh.objs.size+1) x hm
   rw[e] at q; cases q
 have cshas:∀ x,((relabel scope X.env).names.lookup x=some .cell\/(relabel scope X.env).names.lookup x=some .free)->∃ c,cs'.lookup x=some c:=fun x h=>by
  rw[<- hcs,Gu,Jj]
  cases e:(cellsFrom (Hh.objs.size+1) scope.names []).lookup x with
  | some c=>exact⟨c,rfl⟩
  | none=>
   rcases cs.has x h with hm | hm
   ·obtain⟨c',q⟩:=Hx scope.names (Hh.objs.size+1) x hm
    rw[e] at q; cases q
   ·exact hm
 have lts:∀ x c,X.env.cells.lookup x=some c->c<s2.heap.objs.size:=fun x c h=>by
  obtain⟨v,o,ho,hd⟩:=I2.cell x c h
  exact Heap.lt_size ho
 let Y:=blk X s2 H2 Hh.objs.size scope cs' N' fp
 have fpLt:∀ b∈fp,b<s2.heap.objs.size:=fun b hb=>by
  obtain⟨o,e,_⟩:=T.obj _ _ st2 b hb
  exact Heap.lt_size e
 have okY:Y.Ok:=by
  refine⟨I2.ok.mod,(by show(relabel scope X.env).kind=.function; exact cs.kind),I2.ok.glob,I2.ok.blt,hCle,fun x y c h1 h2=>?_,cshas,(fun x c z h=>by
   rcases csl x c h with⟨_,_,q,_⟩ | ⟨q,_⟩
   ·show s2.heap.objs.size<=c
    rw[hC] at q; omega
   ·have z:scope.names.lookup x=some .cell:=by simpa[Y,blk] using z
    exact absurd (mem_of_lookup z) q),I2.ok.hd,I2.ok.frames,.inl rfl,fun b hb=>⟨Nat.ne_of_lt (by rw[show Y.env.locals=Hh.objs.size from rfl,hC]; exact Nat.lt_succ_of_lt (fpLt b hb)),fun x c h=>by
   rcases csl x c h with⟨_,_,q,_⟩ | ⟨_,q⟩
   ·exact fun z=>absurd (Nat.lt_of_lt_of_le (fpLt b hb) (Nat.le_trans (by rw[hC]; omega) (z▸q))) (Nat.lt_irrefl _)
   ·exact(f2 b hb).2.2.2.2.1 x c q⟩,I2.bs,Nat.le_trans I2.ok.bsz I2.sz,fun b o e hb=>?_,fun b hb hs=>?_,I2.stack,I2.stkFree⟩
  ·rcases csl x c h1 with⟨m1,_,q1,_⟩ | ⟨_,q1⟩<;>rcases csl y c h2 with⟨m2,_,q2,_⟩ | ⟨_,q2⟩
   ·exact name_of_addr own.apart m1 m2
   ·exact absurd (Nat.lt_of_lt_of_le (lts y c q2) (Nat.le_trans (by rw[hC]; omega) q1)) (Nat.lt_irrefl _)
   ·exact absurd (Nat.lt_of_lt_of_le (lts x c q1) (Nat.le_trans (by rw[hC]; omega) q2)) (Nat.lt_irrefl _)
   ·exact I2.ok.inj x y c q1 q2
  ·rcases(f2 b hb).2.2.2.1 with z | z
   ·exact I2.ok.noex b o e z
   ·exact absurd (Nat.lt_of_lt_of_le (Heap.lt_size e) (Nat.le_trans I2.ok.bsz z)) (Nat.lt_irrefl _)
  ·rcases List.mem_cons.mp (I2.stkSub b hs) with z | z
   ·exact(f2 b hb).2.1 z
   ·exact(f2 b hb).2.2.1 z
 have hokY:HOk X.prog X.w (upd H2 s2.heap.objs.size (.lst [])) h₁:=I2.hok.laid old (Nat.le_refl _) ⟨by decide,[],0,.nil,hacc⟩
 have IY:∀ tk,Inv Y [] (pkS pk σ) (upd H2 s2.heap.objs.size (.lst [])) { s2 with heap:=h₁,toks:=tk }:=fun tk=>by
  refine⟨okY,rfl,I2.bare,?_,⟨_,hns₁,fun i x v h1 h2 h3=>?_⟩,fun x c h=>?_,?_,fun x c h=>?_,fun p hp=>absurd (show p∈([]:List (Addr×Obj)) from hp) (by simp),hokY,by show(pkS pk σ).length=N'.length; rw[<- cs.len]; simp[pkS]⟩
  ·exact Un.laid old (Nat.le_refl _) hD
  ·unfold pkS at h2
   rw[List.getElem?_map] at h2
   cases e:pk[i]? with
   | none=>rw[e] at h2; cases h2
   | some o=>
    rw[e] at h2
    cases o with
    | none=>cases h2
    | some j=>
     have h2:(σ[j]?).bind id=some v:=Option.some.inj h2
     have h2:σ[j]?=some (some v):=by
      cases z:σ[j]? with
      | none=>rw[z] at h2; cases h2
      | some q=>
       rw[z] at h2
       have h2:q=some v:=h2
       rw[h2]
     obtain⟨n1,n2,n3,n4⟩:=cs.take i j x e h1
     obtain⟨m,_,hl⟩:=I2.loc
     have vis:Vis X.env.scope x:=by
      rcases n2 with n2 | n2
      ·exact .inr (.inl n2)
      ·exact .inr (.inr n2)
     obtain⟨u,r,l⟩:=hl j x v n1 h2 vis
     refine⟨u,r,.inr ⟨n3,?_⟩⟩
     rcases l with⟨k,_⟩ | ⟨_,c,hc,⟨o,ho,hd⟩⟩
     ·rcases n2 with n2 | n2<;>rw[k] at n2<;>cases n2
     ·obtain⟨c',hc'⟩:=cshas x n3
      rcases csl x c' hc' with⟨_,_,_,q⟩ | ⟨_,e2⟩
      ·rw[n4] at q; cases q
      rw[hc] at e2
      cases e2
      exact⟨c,hc',o,old c o ho,hd⟩
  ·rcases csl x c h with⟨_,q,_,_⟩ | ⟨_,q⟩
   ·exact⟨none,q⟩
   obtain⟨v,o,ho,hd⟩:=I2.cell x c q
   exact⟨v,o,old c o ho,hd⟩
  ·show upd H2 s2.heap.objs.size (.lst []) Hh.objs.size=none
   rw[Gf (Ne.symm hDC)]
   exact I2.hok.fresh hCle
  ·rcases csl x c h with⟨_,_,z,_⟩ | ⟨_,z⟩
   ·show upd H2 s2.heap.objs.size (.lst []) c=none
    have z:s2.heap.objs.size+2<=c:=by rw[hC] at z; exact z
    rw[Gf (Nat.ne_of_gt (by omega:s2.heap.objs.size<c))]
    exact I2.hok.fresh (by omega)
   have q:=I2.freeC x c z
   obtain⟨v,o,ho,hd⟩:=I2.cell x c z
   show upd H2 s2.heap.objs.size (.lst []) c=none
   rw[Gf (below c (Heap.lt_size ho)).2]
   exact q
 have stat:∀ {H':Hp},(∀ b∈fp,H' b=none)->∀ b∈fp,Qc Y [] H' b:=fun hn b hb=>
  ⟨hn b hb,(okY.exf b hb).1,okY.exfs b hb,.inl hb,(okY.exf b hb).2,fun p hp=>absurd (show p∈([]:List (Addr×Obj)) from hp) (by simp)⟩
 have fin:∀ (H':Hp) (σ':L2.St) (s':Shared),Inv Y [] σ' H' s'->∀ h',Heap.SameBut Hh.objs.size s'.heap h'->Inv X pins σ H' { s' with heap:=h' }:=fun H' σ' s' I' h' hs=>by
  have sub:∀ b o,s2.heap.get? b=some o->b≠Hh.objs.size:=fun b o e=>(below b (Heap.lt_size e)).1
  have un:Un (frs X.stack) fp H2 H' s2.heap s'.heap:=I'.base
  refine I2.call' (ch:=fp) I'.os ⟨fun b o e n hb hx=>(hs.2 b (sub b o e)).trans (un.keep b o e n hb hx),fun b o e n hb hx=>?_,un.free,fun b o e hx=>?_,un.tups,un.frzs,un.tbls⟩ (Gbu I'.hok I'.free hs) I'.bare fun b hb=>⟨(f2 b hb).2.2.2.1,(f2 b hb).2.1,(f2 b hb).2.2.2.2.1,(f2 b hb).2.2.2.2.2⟩
  ·obtain⟨sl,q⟩:=un.slot b o e n hb hx
   exact⟨sl,(hs.2 b (sub b o e)).trans q⟩
  ·obtain⟨o',q⟩:=un.there b o e hx
   exact⟨o',(hs.2 b (sub b o e)).trans q⟩
 have loop:∀ s3:Shared,(∃ tk,s3={ s2 with heap:=h₁,toks:=tk })→
   codeAny (model X.prog X.w) X.A (.compLoop (.ListComp elt (⟨tg,iter,ifs,0⟩::rest) scope pos) 0 (.ref it) (.ref s2.heap.objs.size) (compEnvC scope cs' Hh.objs.size X.env)) (RR (.ref s2.heap.objs.size) Hh.objs.size) s3:=by
  rintro s3 ⟨tk,rfl⟩
  refine Ud (hct _ _ _) (fun n s'=>∃ i σ' H',Inv Y [] σ' H' s'/\tn i s'.heap/\(∀ b∈fp,H' b=none)/\W i n σ' H') ?_ m0 ⟨0,_,_,IY tk,T.keep _ _ _ st2 (fun b _ o e=>old b o e),fun b hb=>by rw[Gf (below b (fpLt b hb)).2]; exact(f2 b hb).1,w0⟩
  rintro n s4 ⟨i,σ4,H4,I4,st4,fr4,w4⟩
  rcases turn i n σ4 H4 w4 with⟨stop,qn⟩ | ⟨go,step⟩
  ·refine wpAny_mono (T.done Y rfl rfl rfl hcm i [] s4 σ4 H4 (fun _ _=>False) I4 (stat fr4) st4 stop) (fun r s5 ⟨hr,I5⟩=>?_) fun _ _ z=>z
   subst hr
   obtain⟨m,hn,_⟩:=I5.loc
   exact hRR _ _ s5 H4 qn ⟨m,hn⟩ (fin H4 σ4 s5 I5 s5.heap (.refl ..)) I5.free hCle
  ·refine wpAny_mono (T.item Y rfl rfl rfl hcm i [] s4 σ4 H4 (fun _ _=>False) I4 (stat fr4) st4 go) (fun r s5 ⟨u,hr,h5⟩=>?_) fun _ _ z=>z
   subst hr
   refine wpAny_mono h5 (fun _ s6 ⟨x,H6,I6,r6,y6,st6,fr6⟩=>?_) fun _ _ z=>z
   have I6':=I6.pinned (stat fr6) (T.obj _ _ st6)
   refine wpAny_mono (hg cs' s2 H2 Hh.objs.size fp _ s6 σ4 H6 x u _ I6' r6 (step x H6 y6)) (fun _ s7 ⟨σ7,H7,I7,q7⟩=>?_) fun _ _ z=>z
   refine wpAny_mono (ht cs' s2 H2 Hh.objs.size fp _ s7 σ7 H7 _ I7 q7) (fun ok s8 ⟨H8,I8,q8⟩=>?_) fun _ _ z=>z
   have back:∀ {σ9:L2.St} {H9:Hp} {s9:Shared},Inv Y ([]++Qp fp s6.heap) σ9 H9 s9->Inv Y [] σ9 H9 s9/\tn (i+1) s9.heap/\∀ b∈fp,H9 b=none:=fun{σ9 H9 s9} I9=>
    ⟨I9.unpinned,T.keep _ _ _ st6 fun b hb o e=>(I9.pin (b,o) (List.mem_append_right _ (List.mem_append_right _ (Hw hb e)))).1,fun b hb=>by
     obtain⟨o,e,d⟩:=T.obj _ _ st6 b hb
     exact(I9.pin (b,o) (List.mem_append_right _ (List.mem_append_right _ (Hw hb e)))).2.1⟩
   cases ok with
   | false=>
    obtain⟨m',hm,w'⟩:=(if_neg Bool.false_ne_true).mp q8
    obtain⟨b1,b2,b3⟩:=back I8
    exact(if_neg Bool.false_ne_true).mpr ⟨m',hm,i+1,σ7,H8,b1,b2,b3,w'⟩
   | true=>
    refine(if_pos rfl).mpr ?_
    refine fun k Q' E' hk=>he cs' s2 H2 Hh.objs.size fp s2.heap.objs.size _ s8 σ7 H8 _ I8 ((if_pos rfl).mp q8) k Q' E' fun s9 σ9 H9 I9 ⟨m',hm,w'⟩=>hk s9 ?_
    obtain⟨b1,b2,b3⟩:=back I9
    exact⟨m',hm,i+1,σ9,H9,b1,b2,b3,w'⟩
 exact codeAny_compStart_list (loop _ ⟨_,rfl⟩) (T.self _ 0 _ _ _ (T.keep _ _ _ st2 fun b _ o e=>old b o e) (loop _ ⟨_,rfl⟩))
theorem Qa{prog:Program}{w:World}{A:Around}{R:Result->Shared->Prop}{s:Shared}{elt target iter ifs c0 scope pos it acc env}(h0:codeAny (model prog w) A (.compLoop (.ListComp elt [c0,⟨target,iter,ifs,0⟩] scope pos) 1 it acc env) R s)(h:wpAny (model prog w) A (pyIter it) (fun it' s'=>codeAny (model prog w) A (.compLoop (.ListComp elt [c0,⟨target,iter,ifs,0⟩] scope pos) 1 it' acc env) R s')
   (notedBy (model prog w) A env fun x s'=>R (.error x) s') s):
  codeAny (model prog w) A (.compStart (.ListComp elt [c0,⟨target,iter,ifs,0⟩] scope pos) 1 it acc env) R s:=by
 refine codeAny_of_tree ?_
 show wpAny _ _ ((compStart (.ListComp elt [c0,⟨target,iter,ifs,0⟩] scope pos) 1 it acc env).onRaise (fun x=>do noteFrame x env; standAt theWindowsPlace)) _ _ s
 refine wpAny_notedAt ?_
 unfold compStart
 show wpAny _ _ (ask >>= _) _ _ s
 refine wpAny_bind (wpAny_askSetting (wpAny_ite ?_))
 split
 ·first
   | exact wpAny_bind (wpAny_pure (wpAny_pure (And.intro rfl h0)))
   | exact wpAny_pure (And.intro rfl h0)
 ·first
   | exact wpAny_bind (wpAny_rule (wpAny_bind (wpAny_standAt (wpAny_bind (wpAny_mono h (fun it' s' h'=>wpAny_pure (And.intro rfl h')) fun _ _ x=>x)))))
   | (refine wpAny_bind (wpAny_rule ?_); show wpAny _ _ (standAt iter.pos >>= _) _ _ s; exact wpAny_bind (wpAny_standAt (wpAny_bind (wpAny_mono h (fun it' s' h'=>wpAny_pure (And.intro rfl h')) fun _ _ x=>x))))
def em2(E:Expr)(iter2:Expr)(acc:Value)(env:PySem.Env)(k:Sem Fin):Sem Fin:=do
 let x <- eval iter2 env
 standAt iter2.pos
 let x <- foldedSetIterable iter2 env x
 let _ <- runOwn (.compStart E 1 (<- holding [x] (pyIter x)) acc env) env
 k
def em1(elt:Expr)(acc:Value)(env:PySem.Env)(k:Sem Fin):Sem Fin:=do
 (do let _ <- call (.builtin "list.append") [acc,<- eval elt env])
 k
theorem Gks(elt tg iter tg2 iter2:Expr)(ifs ifs2:List Expr)(scope:Scope)(pos:Pos)(it acc:Value)(env:PySem.Env):
  compTurn (.ListComp elt [⟨tg,iter,ifs,0⟩,⟨tg2,iter2,ifs2,0⟩] scope pos) 0 it acc env=Uv (.ListComp elt [⟨tg,iter,ifs,0⟩,⟨tg2,iter2,ifs2,0⟩] scope pos) 0 tg iter ifs (em2 (.ListComp elt [⟨tg,iter,ifs,0⟩,⟨tg2,iter2,ifs2,0⟩] scope pos) iter2 acc env) it acc env:=by rfl
theorem Gkt(elt tg iter tg2 iter2:Expr)(ifs ifs2:List Expr)(scope:Scope)(pos:Pos)(it acc:Value)(env:PySem.Env):
  compTurn (.ListComp elt [⟨tg,iter,ifs,0⟩,⟨tg2,iter2,ifs2,0⟩] scope pos) 1 it acc env=Uv (.ListComp elt [⟨tg,iter,ifs,0⟩,⟨tg2,iter2,ifs2,0⟩] scope pos) 1 tg2 iter2 ifs2 (em1 elt acc env) it acc env:=by rfl
def tb2(wi:TI)(g:TG)(tt:TT)(te:TE):TB:=fun a σ H Q=>wi σ H fun J H1=>∃ W:Nat->Nat->L2.St->Hp->Prop,(∃ m,W 0 m σ H1)/\∀ i m σ' H',W i m σ' H'→
 (J.stop i H'/\Q σ' H')\/(J.go i H'/\∀ x H2,J.yld i H' x H2->g x σ' H2 fun σ3 H3=>tt σ3 H3 fun b H4=>if b=true then te σ3 H4 fun v H5=>∃ xs,H5 a=some (.lst xs)/\xs.length<sizeLine/\∃ m',m'<m/\W (i+1) m' σ3 (upd H5 a (.lst (xs++[v])))
  else ∃ m',m'<m/\W (i+1) m' σ3 H4)
theorem pem2{Y:Cx}{elt tg iter tg2 iter2:Expr}{ifs ifs2:List Expr}{scope:Scope}{pos:Pos}{wi:TI}{g:TG}{tt:TT}{te:TE}(hxe:Y.xe=fun _ _=>False)(hcm:Y.calm=true)(hi:PI Y tg2 iter2 wi)(hg:PG Y tg2 g)(ht:PTs Y ifs2 tt)(he:PE Y elt te)
  (hs:∀ x,foldedSetIterable iter2 Y.env x=pure x):PEm Y (em2 (.ListComp elt [⟨tg,iter,ifs,0⟩,⟨tg2,iter2,ifs2,0⟩] scope pos) iter2) (tb2 wi g tt te):=by
 intro a pins s σ H Q I h k Q' E' hk
 have noE:∀ {α:Type} {m:Sem α} {Q:α->Shared->Prop} {E':Value->Shared->Prop} {s:Shared},wpAny (model Y.prog Y.w) Y.A m Q Y.xe s->wpAny (model Y.prog Y.w) Y.A m Q E' s:=fun h=>wpAny_mono h (fun _ _ q=>q) fun _ _ z=>by rw[hxe] at z; exact z.elim
 unfold em2
 refine wpAny_bind (noE (wpAny_mono (hi pins s σ H _ I h) (fun x s1 h1=>?_) fun _ _ z=>z))
 refine wpAny_bind (wpAny_standAt ?_)
 rw[hs x]
 refine wpAny_bind (wpAny_pure (wpAny_bind (wpAny_holding (noE (wpAny_mono h1 (fun itv s2 h2=>?_) fun _ _ z=>z)))))
 obtain⟨it,fp,tn,J,H2,e,I2,T,st2,f2,W,⟨m0,w0⟩,turn⟩:=h2
 subst e
 have stat:∀ {H':Hp},(∀ b∈fp,H' b=none)->∀ b∈fp,Qc Y pins H' b:=fun hn b hb=>⟨hn b hb,(f2 b hb).2⟩
 refine wpAny_bind (wpAny_runOwn (h:=none) ?_)
 have loop:codeAny (model Y.prog Y.w) Y.A (.compLoop (.ListComp elt [⟨tg,iter,ifs,0⟩,⟨tg2,iter2,ifs2,0⟩] scope pos) 1 (.ref it) (.ref a) Y.env) (fun r s'=>match r with
   | .ok f=>wpAny (model Y.prog Y.w) Y.A k Q' E' s'
   | .error e=>cameBackBy (model Y.prog Y.w) Y.A Y.env E' e s') s2:=by
  refine Ud (Gkt _ _ _ _ _ _ _ _ _ _ _ _) (fun n s'=>∃ i σ' H',Inv Y pins σ' H' s'/\tn i s'.heap/\(∀ b∈fp,H' b=none)/\W i n σ' H') ?_ m0 ⟨0,σ,H2,I2,st2,fun b hb=>(f2 b hb).1,w0⟩
  rintro n s4 ⟨i,σ4,H4,I4,st4,fr4,w4⟩
  rcases turn i n σ4 H4 w4 with⟨stop,qn⟩ | ⟨go,step⟩
  ·refine wpAny_mono (T.done Y rfl rfl rfl hcm i pins s4 σ4 H4 (fun _ _=>False) I4 (stat fr4) st4 stop) (fun r s5 ⟨hr,I5⟩=>?_) fun _ _ z=>z
   subst hr
   exact hk _ _ _ I5 qn
  ·refine wpAny_mono (T.item Y rfl rfl rfl hcm i pins s4 σ4 H4 (fun _ _=>False) I4 (stat fr4) st4 go) (fun r s5 ⟨u,hr,h5⟩=>?_) fun _ _ z=>z
   subst hr
   refine wpAny_mono h5 (fun _ s6 ⟨x,H6,I6,r6,y6,st6,fr6⟩=>?_) fun _ _ z=>z
   have I6':=I6.pinned (stat fr6) (T.obj _ _ st6)
   refine noE (wpAny_mono (hg _ s6 σ4 H6 x u _ I6' r6 (step x H6 y6)) (fun _ s7 ⟨σ7,H7,I7,q7⟩=>?_) fun _ _ z=>z)
   refine noE (wpAny_mono (ht _ s7 σ7 H7 _ I7 q7) (fun ok s8 ⟨H8,I8,q8⟩=>?_) fun _ _ z=>z)
   have back:∀ {σ9:L2.St} {H9:Hp} {s9:Shared},Inv Y (pins++Qp fp s6.heap) σ9 H9 s9->Inv Y pins σ9 H9 s9/\tn (i+1) s9.heap/\∀ b∈fp,H9 b=none:=fun{σ9 H9 s9} I9=>
    ⟨I9.unpinned,T.keep _ _ _ st6 fun b hb o e=>(I9.pin (b,o) (List.mem_append_right _ (List.mem_append_right _ (Hw hb e)))).1,fun b hb=>by
     obtain⟨o,e,d⟩:=T.obj _ _ st6 b hb
     exact(I9.pin (b,o) (List.mem_append_right _ (List.mem_append_right _ (Hw hb e)))).2.1⟩
   cases ok with
   | false=>
    obtain⟨m',hm,w'⟩:=(if_neg Bool.false_ne_true).mp q8
    obtain⟨b1,b2,b3⟩:=back I8
    exact(if_neg Bool.false_ne_true).mpr ⟨m',hm,i+1,σ7,H8,b1,b2,b3,w'⟩
   | true=>
    refine(if_pos rfl).mpr ?_
    intro k2 Q2 E2 hk2
    unfold em1
    refine wpAny_bind (wpAny_bind (noE (wpAny_mono (he _ s8 σ7 H8 _ I8 ((if_pos rfl).mp q8)) (fun ux s9 ⟨v,H9,I9,r9,xs,ex,hx,m',hm,w'⟩=>?_) fun _ _ z=>z)))
    refine wpAny_bind (noE (wpAny_mono (Gan (X:=Y) _ s9 σ7 H9 (.ref a) [v] (.ref a) [ux] (fun _ H'=>H'=upd H9 a (.lst (xs++[v]))) I9 rfl (.cons r9 .nil) ⟨_,xs,v,rfl,rfl,ex,hx,rfl⟩) (fun _ s10 ⟨_,H10,I10,_,e10⟩=>?_) fun _ _ z=>z))
    subst e10
    obtain⟨b1,b2,b3⟩:=back I10
    exact wpAny_pure (hk2 _ ⟨m',hm,i+1,σ7,_,b1,b2,b3,w'⟩)
 exact Qa loop (T.self _ 0 _ _ _ st2 loop)
def Gcn(wi:TI)(pk:List (Option Nat))(g:TG)(tt:TT)(tb:TB):TE:=fun σ H Q=>wi σ H fun J H1=>∀ a,H1 a=none->∃ W:Nat->Nat->L2.St->Hp->Prop,(∃ m,W 0 m (pkS pk σ) (upd H1 a (.lst [])))/\∀ i m σ' H',W i m σ' H'→
 (J.stop i H'/\Q (.ref a) H')\/(J.go i H'/\∀ x H2,J.yld i H' x H2->g x σ' H2 fun σ3 H3=>tt σ3 H3 fun b H4=>if b=true then tb a σ3 H4 fun σ5 H5=>∃ m',m'<m/\W (i+1) m' σ5 H5
  else ∃ m',m'<m/\W (i+1) m' σ3 H4)
theorem Xu{X:Cx}{i:Nat}{y:Str}{py spos:Pos}{elt tg iter tg2 iter2:Expr}{ifs ifs2:List Expr}{scope:Scope}{pos:Pos}{N':List Str}{pk:List (Option Nat)}{wi wi2:TI}{g g2:TG}{tt tt2:TT}{te:TE}(ct:CompTab X.env.scope scope X.N N' pk)(hcm:X.calm=true)(hi:PI X tg iter wi)(hg:∀ cl s2 H2 C fp,PG (blk X s2 H2 C scope cl N' fp) tg g)(ht:∀ cl s2 H2 C fp,PTs (blk X s2 H2 C scope cl N' fp) ifs tt)(hi2:∀ cl s2 H2 C fp,PI (blk X s2 H2 C scope cl N' fp) tg2 iter2 wi2)(hg2:∀ cl s2 H2 C fp,PG (blk X s2 H2 C scope cl N' fp) tg2 g2)(ht2:∀ cl s2 H2 C fp,PTs (blk X s2 H2 C scope cl N' fp) ifs2 tt2)(he:∀ cl s2 H2 C fp,PE (blk X s2 H2 C scope cl N' fp) elt te)(hN:X.N.Nodup)(hy:X.N[i]?=some y)(hx:Loc X.env.scope y)(hsw:swapsWith (.ListComp elt [⟨tg,iter,ifs,0⟩,⟨tg2,iter2,ifs2,0⟩] scope pos) (some (.Name y py)) spos.line X.env=pure true)(hs:∀ x,foldedSetIterable iter X.env x=pure x:=by intro _; rfl)(hs2:∀ env x,foldedSetIterable iter2 env x=pure x:=by intro _ _; rfl)(hf:X.fn y=true\/X.env.scope.names.lookup y=some .local:=by first | exact .inl rfl | exact .inr rfl | assumption):
  PS X (.Assign [.Name y py] (.ListComp elt [⟨tg,iter,ifs,0⟩,⟨tg2,iter2,ifs2,0⟩] scope pos) spos) (Gdh (Gcn wi pk g tt (tb2 wi2 g2 tt2 te)) (gName i)):=by
 intro pins s σ H E I h
 obtain⟨cl,cs⟩:=ct.sc I.ok
 rw[exec_Assign_Name_used _ _ _ _ hsw]
 refine wpAny_bind (wpAny_standAt (wpAny_bind ?_))
 show wpAny _ X.A (do let _ <- comprehension (.ListComp elt [⟨tg,iter,ifs,0⟩,⟨tg2,iter2,ifs2,0⟩] scope pos) scope X.env _ (newList []) false (eval iter X.env) (some (assign (.Name y py) X.env))) _ _ s
 refine wpAny_bind (wpAny_mono (wpAny_comprehension_free (use:=some (assign (.Name y py) X.env)) (Q:=fun _ s'=>SP X pins E .next s') rfl hs cs.clos cs.kind cs.names
  (thn (hi pins s σ H _ I h) fun x s1 h1=>thn h1 fun itv s2 h2=>?_)) (fun _ s' hq=>wpAny_pure (wpAny_pure hq)) fun _ _ e=>e)
 obtain⟨it,fp,tn,J,H2,e,I2,T,st2,f2,hQ⟩:=h2
 subst e
 refine Xt (Gks _ _ _ _ _ _ _ _ _) cs hcm hg ht (fun cl s2 H2 C fp=>pem2 rfl hcm (hi2 cl s2 H2 C fp) (hg2 cl s2 H2 C fp) (ht2 cl s2 H2 C fp) (he cl s2 H2 C fp) (hs2 _)) I2 T st2 f2 (Q:=fun x H1=>gName i x σ H1 E.nx) hQ (RR:=fun acc C=>compPost (model X.prog X.w) X.A X.xe (some (assign (.Name y py) X.env)) (fun _ s'=>SP X pins E .next s') acc C) fun D C s' H' q hn inv hfr hC=>?_
 obtain⟨m,hn⟩:=hn
 show wpAny _ X.A (assign (.Name y py) X.env (.ref D)) _ _ _
 refine wpAny_assign_Name (Vq inv hN hy hx (v:=.ref D) rfl (fun s'' I'' hch=>?_) hf)
 obtain⟨a,hsb,ha⟩:=hch
 have hCa:C≠a:=by
  rcases ha with ha | ha
  ·rintro rfl
   exact absurd (Nat.lt_of_lt_of_le I2.lt (by rw[<- ha]; exact hC)) (Nat.lt_irrefl _)
  ·rintro rfl
   obtain⟨v,z⟩:=I2.cell y _ ha
   exact absurd (Nat.lt_of_lt_of_le z.lt hC) (Nat.lt_irrefl _)
 exact⟨m,hn.sameBut hsb hCa,fun h' hs'=>⟨_,H',Gd5 I2 I'' hfr hC hs',q⟩⟩
def cb2(a:Nat)(t:Ev Bool)(f2:Ev Src)(g2:Tg)(t2:Ev Bool)(e:Ev D):Sv:=fun ρ S=>bindS (t ρ S) ρ fun b S1=>if b=true then bindS (f2 ρ S1) ρ fun s2 S2=>Hf s2.nxt g2 (cbody a t2 e) s2.fuel 0 ρ S2 else .nx ρ S1
def Ga0(f:Ev Src)(pk:List (Option Nat))(g:Tg)(t:Ev Bool)(f2:Ev Src)(g2:Tg)(t2:Ev Bool)(e:Ev D):Ev D:=fun ρ S=>(f ρ S).bind fun src S1=>match Hf src.nxt g (cb2 S1.length t f2 g2 t2 e) src.fuel 0 (pkS pk ρ) (S1++[⟨false,[]⟩]) with
 | .nx _ S'=>.ok (.lst S1.length) S'
 | _=>.bad
def Giv(nxt:Nat->Sto->Option D)(g:Tg)(b:Sv)(n k:Nat):OS->OS
 | .nx ρ2 S2=>Hf nxt g b n (k+1) ρ2 S2
 | .ct ρ2 S2=>Hf nxt g b n (k+1) ρ2 S2
 | .bk ρ2 S2=>.nx ρ2 S2
 | .rt d S2=>.rt d S2
 | .exc x ρ2 S2=>.exc x ρ2 S2
 | .bad=>.bad
theorem Zr{nxt:Nat->Sto->Option D}{g:Tg}{b:Sv}{n k:Nat}{ρ ρ1:Lc}{S:Sto}{d:D}(h:nxt k S=some d)(hg:g d ρ=some ρ1):Hf nxt g b (n+1) k ρ S=Giv nxt g b n k (b ρ1 S):=by
 rw[Hf]
 simp only[h,hg]
 cases b ρ1 S<;>rfl
theorem Zs{nxt:Nat->Sto->Option D}{g:Tg}{b:Sv}{n k:Nat}{ρ:Lc}{S:Sto}{d:D}(h:nxt k S=some d)(hg:g d ρ=none):Hf nxt g b (n+1) k ρ S=.bad:=by
 rw[Hf]; simp only[h,hg]
theorem Xv{nxt:Nat->Sto->Option D}{g:Tg}{b:Sv}{n k:Nat}{ρ:Lc}{S:Sto}(h:nxt k S=none):Hf nxt g b (n+1) k ρ S=.nx ρ S:=by
 rw[Hf]; simp only[h]
theorem Hr{nxt:Nat->Sto->Option D}{g:Tg}{b:Sv}{n k:Nat}{K:PySem.W.Frag}{XQ:XW}{σ:L2.St}{ρ:Lc}{a:Nat}{mp:List Addr}{H:Hp}{Q:VK}{o:OS}(h:o=.bad\/∃ x r S,o=.exc x r S)(p:Kc K XQ σ ρ a mp H (Giv nxt g b n k o) Q):False:=by
 rcases h with rfl | ⟨x,r,S,rfl⟩<;>exact p
theorem Giw{K:PySem.W.Frag}{XQ:XW}{f f2:Ev Src}{pk:List (Option Nat)}{g g2:Tg}{t t2:Ev Bool}{e:Ev D}(σ:L2.St)(H:Hp)(Q:VK)(h:rdE K XQ (Ga0 f pk g t f2 g2 t2 e) σ H Q):
  Gcn (rdI K XQ f) pk (Gaq K g) (rdT K XN t) (tb2 (rdI K XN f2) (Gaq K g2) (rdT K XN t2) (rdE K XN e)) σ H Q:=by
 obtain⟨mp,ρ,S,G,p⟩:=h
 refine bindP G p fun mp1 H1 src S1 J a1 G1 j1 p1=>?_
 intro a ha
 obtain⟨af,rs,la⟩:=G1.rs.newL ha (RepL.nil:RepL K mp1 H1 [] [])
 generalize hB:cb2 S1.length t f2 g2 t2 e=B at p1
 have p1:Kc K XQ σ ρ S1.length (mp1++[a]) (upd H1 a (.lst [])) (Hf src.nxt g B src.fuel 0 (pkS pk ρ) (S1++[⟨false,[]⟩])) Q:=by
  cases z:Hf src.nxt g B src.fuel 0 (pkS pk ρ) (S1++[⟨false,[]⟩]) with
  | nx r S'=>rw[z] at p1; exact Gg.aft p1 af
  | rt d S'=>rw[z] at p1; exact p1
  | bk r S'=>rw[z] at p1; exact p1
  | ct r S'=>rw[z] at p1; exact p1
  | exc x r S'=>rw[z] at p1; exact p1
  | bad=>rw[z] at p1; exact p1
 refine⟨fun i m σ' H'=>∃ mp' ρ' S',Aft K mp1 H1 mp' H'/\Gd K mp' H' σ' ρ' S'/\(mp'[S1.length]?=some a/\¬ Dcy H' a)/\Kc K XQ σ ρ S1.length mp' H' (Hf src.nxt g B m i ρ' S') Q,⟨src.fuel,_,_,_,af,(G1.pick pk).aft af rs,⟨la,Yq Gw⟩,p1⟩,?_⟩
 rintro i m σ' H' ⟨mp',ρ',S',a',G',⟨la',nd'⟩,p'⟩
 cases m with
 | zero=>exact(show False from p').elim
 | succ n=>
  have j:=j1 mp' H' S' a' G'.rs i
  cases z:src.nxt i S' with
  | none=>
   rw[z] at j
   rw[Xv z] at p'
   exact .inl ⟨j,Gg.ok (show Post K XQ σ ρ mp' H' (.ok (.lst S1.length) S') Q from p') G'.rs ⟨a,rfl,la',nd'⟩⟩
  | some d=>
   rw[z] at j
   obtain⟨j1,j2⟩:=j
   refine .inr ⟨j1,fun x H2 y=>?_⟩
   obtain⟨a2,r2,x2⟩:=j2 x H2 y
   have nd2:=a2.ndc _ _ la' nd'
   have G2:=G'.aft a2 r2
   cases zg:g d ρ' with
   | none=>rw[Zs z zg] at p'; exact(show False from p').elim
   | some ρ1=>
    rw[Zr z zg] at p'
    refine⟨mp',ρ',S',d,ρ1,G2,x2,zg,fun σ3 G3=>⟨mp',ρ1,S',G3,?_⟩⟩
    have p2:=Kc.aft p' a2
    have hb:B ρ1 S'=bindS (t ρ1 S') ρ1 fun b S1'=>if b=true then bindS (f2 ρ1 S1') ρ1 fun s2 S2=>Hf s2.nxt g2 (cbody S1.length t2 e) s2.fuel 0 ρ1 S2 else .nx ρ1 S1':=by rw[<- hB]; rfl
    rw[hb] at p2
    cases zt:t ρ1 S' with
    | exc x S2=>rw[zt] at p2; exact(Hr (.inr ⟨_,_,_,rfl⟩) p2).elim
    | bad=>rw[zt] at p2; exact(Hr (.inl rfl) p2).elim
    | ok b S2=>
     rw[zt] at p2
     simp only[bindS] at p2
     intro mp3 H3 b' a3 rs3 e3
     cases (show b'=b from e3)
     have G4:=G3.aft a3 rs3
     cases b with
     | false=>
      rw[if_neg Bool.false_ne_true] at p2
      exact(if_neg Bool.false_ne_true).mpr ⟨n,Nat.lt_succ_self n,mp3,ρ1,S2,(a'.trans a2).trans a3,G4,⟨a3.pre _ _ la',a3.ndc _ _ la' nd2⟩,Kc.aft p2 a3⟩
     | true=>
      rw[if_pos rfl] at p2
      refine(if_pos rfl).mpr ⟨mp3,ρ1,S2,G4,?_⟩
      cases zf:f2 ρ1 S2 with
      | exc x S3=>simp only[zf] at p2; exact(Hr (.inr ⟨_,_,_,rfl⟩) p2).elim
      | bad=>simp only[zf] at p2; exact(Hr (.inl rfl) p2).elim
      | ok s2 S3=>
       simp only[zf] at p2
       intro mpq Hq J2 aq rsq jq
       have Gq:=G4.aft aq rsq
       refine⟨fun i2 m2 σ2 H2'=>∃ mp5 ρ5 S5,Aft K mpq Hq mp5 H2'/\Gd K mp5 H2' σ2 ρ5 S5/\(mp5[S1.length]?=some a/\¬ Dcy H2' a)/\Kc K XQ σ ρ S1.length mp5 H2' (Giv src.nxt g B n i (Hf s2.nxt g2 (cbody S1.length t2 e) m2 i2 ρ5 S5)) Q,
        ⟨s2.fuel,mpq,ρ1,S3,.refl,Gq,⟨aq.pre _ _ (a3.pre _ _ la'),aq.ndc _ _ (a3.pre _ _ la') (a3.ndc _ _ la' nd2)⟩,Kc.aft p2 (a3.trans aq)⟩,?_⟩
       rintro i2 m2 σ6 H6 ⟨mp6,ρ6,S6,a6,G6,⟨la6,nd6⟩,p6⟩
       cases m2 with
       | zero=>exact(Hr (.inl rfl) p6).elim
       | succ n2=>
        have j:=jq mp6 H6 S6 a6 G6.rs i2
        cases z2:s2.nxt i2 S6 with
        | none=>
         rw[z2] at j
         rw[Xv z2] at p6
         exact .inl ⟨j,n,Nat.lt_succ_self n,mp6,ρ6,S6,((((a'.trans a2).trans a3).trans aq).trans a6),G6,⟨la6,nd6⟩,p6⟩
        | some d2=>
         rw[z2] at j
         obtain⟨jj1,jj2⟩:=j
         refine .inr ⟨jj1,fun x H7 y=>?_⟩
         obtain⟨a7,r7,x7⟩:=jj2 x H7 y
         have nd7:=a7.ndc _ _ la6 nd6
         have G7:=G6.aft a7 r7
         cases zg2:g2 d2 ρ6 with
         | none=>rw[Zs z2 zg2] at p6; exact(Hr (.inl rfl) p6).elim
         | some ρ7=>
          rw[Zr z2 zg2] at p6
          refine⟨mp6,ρ6,S6,d2,ρ7,G7,x7,zg2,fun σ8 G8=>⟨mp6,ρ7,S6,G8,?_⟩⟩
          have p7:=Kc.aft p6 a7
          have hb2:cbody S1.length t2 e ρ7 S6=bindS (t2 ρ7 S6) ρ7 fun b S1'=>if b=true then bindS (e ρ7 S1') ρ7 fun d S2'=>(match S2'[S1.length]? with
            | some c=>if c.fz=false/\c.xs.length<1000000 then .nx ρ7 (S2'.set S1.length ⟨false,c.xs++[d]⟩) else .bad
            | none=>.bad) else .nx ρ7 S1':=rfl
          rw[hb2] at p7
          cases zt2:t2 ρ7 S6 with
          | exc x S2=>rw[zt2] at p7; exact(Hr (.inr ⟨_,_,_,rfl⟩) p7).elim
          | bad=>rw[zt2] at p7; exact(Hr (.inl rfl) p7).elim
          | ok b S8=>
           rw[zt2] at p7
           simp only[bindS] at p7
           intro mp8 H8 b' a8 rs8 e8
           cases (show b'=b from e8)
           have G9:=G8.aft a8 rs8
           cases b with
           | false=>
            rw[if_neg Bool.false_ne_true] at p7
            exact(if_neg Bool.false_ne_true).mpr ⟨n2,Nat.lt_succ_self n2,mp8,ρ7,S8,(a6.trans a7).trans a8,G9,⟨a8.pre _ _ la6,a8.ndc _ _ la6 nd7⟩,Kc.aft p7 a8⟩
           | true=>
            rw[if_pos rfl] at p7
            refine(if_pos rfl).mpr ⟨mp8,ρ7,S8,G9,?_⟩
            cases ze:e ρ7 S8 with
            | exc x S3=>simp only[ze] at p7; exact(Hr (.inr ⟨_,_,_,rfl⟩) p7).elim
            | bad=>simp only[ze] at p7; exact(Hr (.inl rfl) p7).elim
            | ok d3 S9=>
             simp only[ze] at p7
             intro mp9 H9 v a9 rs9 r9
             have la9:=a9.pre _ _ (a8.pre _ _ la6)
             have nd9:=a9.ndc _ _ (a8.pre _ _ la6) (a8.ndc _ _ la6 nd7)
             have G10:=G9.aft a9 rs9
             cases zc:S9[S1.length]? with
             | none=>simp only[zc] at p7; exact(Hr (.inl rfl) p7).elim
             | some c=>
              simp only[zc] at p7
              by_cases hc:c.fz=false/\c.xs.length<1000000
              ·rw[if_pos hc] at p7
               obtain⟨a5,xs,e5,h5,s5,r5,f5⟩:=rs9.items (v:=.ref a) ⟨a,rfl,la9,nd9⟩ zc
               cases e5
               have h5:=f5 hc.1
               obtain⟨af6,rs6⟩:=rs9.setL la9 zc hc.1 h5 (RepL.append r5 (RepL.cons r9 RepL.nil))
               refine⟨xs,h5,?_,n2,Nat.lt_succ_self n2,mp9,ρ7,_,(((a6.trans a7).trans a8).trans a9).trans af6,G10.aft af6 rs6,⟨la9,Yq Gw⟩,Kc.aft p7 ((a8.trans a9).trans af6)⟩
               rw[r5.len]
               exact Nat.lt_of_lt_of_le hc.2 (by decide)
              ·rw[if_neg hc] at p7; exact(Hr (.inl rfl) p7).elim
theorem Xw{X:Cx}{XQ:XW}(i:Nat){y:Str}{py spos:Pos}{elt tg iter tg2 iter2:Expr}{ifs ifs2:List Expr}{scope:Scope}{pos:Pos}{N':List Str}{pk:List (Option Nat)}{f f2:Ev Src}{g g2:Tg}{t t2:Ev Bool}{e:Ev D}(ct:CompTab X.env.scope scope X.N N' pk)(hcm:X.calm=true)(hi:JI X XQ tg iter f)(hg:∀ cl s2 H2 C fp,JG (blk X s2 H2 C scope cl N' fp) tg g)(ht:∀ cl s2 H2 C fp,JTs (blk X s2 H2 C scope cl N' fp) XN ifs t)(hi2:∀ cl s2 H2 C fp,JI (blk X s2 H2 C scope cl N' fp) XN tg2 iter2 f2)(hg2:∀ cl s2 H2 C fp,JG (blk X s2 H2 C scope cl N' fp) tg2 g2)(ht2:∀ cl s2 H2 C fp,JTs (blk X s2 H2 C scope cl N' fp) XN ifs2 t2)(he:∀ cl s2 H2 C fp,JE (blk X s2 H2 C scope cl N' fp) XN elt e)(hN:X.N.Nodup)(hy:X.N[i]?=some y:=by rfl)(hx:Loc X.env.scope y:=by first | exact Or.inl rfl | exact Or.inr rfl)(hsw:swapsWith (.ListComp elt [⟨tg,iter,ifs,0⟩,⟨tg2,iter2,ifs2,0⟩] scope pos) (some (.Name y py)) spos.line X.env=pure true:=by rfl)(hs:∀ x,foldedSetIterable iter X.env x=pure x:=by intro _; rfl)(hs2:∀ env x,foldedSetIterable iter2 env x=pure x:=by intro _ _; rfl)(hf:X.fn y=true\/X.env.scope.names.lookup y=some .local:=by first | exact .inl rfl | exact .inr rfl | assumption):
  JS X XQ (.Assign [.Name y py] (.ListComp elt [⟨tg,iter,ifs,0⟩,⟨tg2,iter2,ifs2,0⟩] scope pos) spos) (sa (Ga0 f pk g t f2 g2 t2 e) (gn i)):=by
 refine PS.mono (Xu (g:=Gaq X.K g) (tt:=rdT X.K XN t) (wi2:=rdI X.K XN f2) (g2:=Gaq X.K g2) (tt2:=rdT X.K XN t2) (te:=rdE X.K XN e) ct hcm hi hg ht hi2 hg2 ht2 he hN hy hx hsw hs hs2 hf) fun E σ H ⟨mp,ρ,S,G,p⟩=>Giw σ H _ ?_
 exact bindSP G p fun mp1 H1 d S1 v a1 G1 r1 p1=>PostS.nx p1 (G1.set i r1)
def lamc(X:Cx)(A:Around)(scope:Scope)(f:Addr)(cd:Value)(cl:List (Str×Addr))(s:Shared)(H:Hp)(N':List Str):Cx:=
 { X with A:=A.deeper (PySem.W.envX Ke scope s.heap.objs.size f cd cl),N:=N',s₀:=s,H₀:=H,env:=PySem.W.envX Ke scope s.heap.objs.size f cd cl,outer:=X.stack,stack:=PySem.W.envX Ke scope s.heap.objs.size f cd cl::X.stack,ex:=[],fn:=fun _=>false,calm:=true,pn:=[],xe:=fun _ _=>False }
structure LamTab(sc scope:Scope)(N N':List Str)(pk:List (Option Nat))(x:Str):Prop where
 kind:scope.kind=.function
 co:scope.isCoroutine=false
 gen:scope.isGenerator=false
 nocell:∀ y∈scope.names,y.2≠.cell
 free:∀ y∈scope.names,y.2=.free->sc.names.lookup y.1=some .cell\/sc.names.lookup y.1=some .free
 loc:scope.names.lookup x=some .local
 x0:N'[0]?=some x
 len:pk.length=N'.length
 take:((List.range N'.length).all fun i=>match pk[i]? with
  | some (some j)=>match N[j]?,N'[i]? with
   | some x,some y=>(x==y)&&((sc.names.lookup y==some NameKind.cell)||(sc.names.lookup y==some NameKind.free))&&(scope.names.lookup y==some NameKind.free)
   | _,_=>false
  | _=>true)=true
def Ui{α:Type}(pk:List (Option Nat))(σ:List (Option α))(v:α):List (Option α):=(pkS pk σ).set 0 (some v)
theorem Gco{X:Cx}{pins:List (Addr×Obj)}{σ:L2.St}{H:Hp}{s:Shared}{scope:Scope}{params:Arguments}{body:Expr}{x:Str}{N':List Str}{pk:List (Option Nat)}{te:TE}{f c:Addr}{cl:List (Str×Addr)}{pm ctv u:Value}{v:V}{Q:VK}{k:Nat}
  (I:Inv X pins σ H s) (ct:LamTab X.env.scope scope X.N N' pk x) (hsub:∀ x c,cl.lookup x=some c->X.env.cells.lookup x=some c) (hhas:∀ x,(x,NameKind.free)∈scope.names->∃ c,cl.lookup x=some c) (hr:Room (k+2) X.A)
  (ho:s.heap.get? f=some (PySem.W.kla_obj "<lambda>" Ke params body scope cl pm c ctv)) (hcd:s.heap.CodeRec (.ref c) Ke) (hbind:bindArgs (PySem.W.kla_fn "<lambda>" Ke params body scope cl pm (.ref c) ctv) ⟨[u],[]⟩=pure [(x,u)])
  (hb:∀ f cd cl s H,Room k (X.A.in1.deeper (PySem.W.envX Ke scope s.heap.objs.size f cd cl))->PE (lamc X X.A.in1 scope f cd cl s H N') body te) (r:Go v u) (h:te (Ui pk σ v) H Q):
  wpAny (model X.prog X.w) X.A.in1 (call (.ref f) [u]) (EP X pins σ Q) (fun _ _=>False) s:=by
 refine wpAny_call (PySem.W.kla_callFunE (Room.in1 hr).depth ho rfl ct.co ct.gen rfl hcd ?_)
 rw[hbind]
 refine wpAny_pure (wpAny_newFunctionEnv ct.nocell (fun y hy=>by rw[List.mem_singleton.mp hy]; exact ct.loc) (fun h₁ hns hsb=>⟨I.nolimit.fresh _ hsb,?_⟩) ct.kind)
 show codeAny _ _ (.expr body (PySem.W.envX Ke scope s.heap.objs.size f (.ref c) cl)) _ _
 have old:∀ b o,s.heap.get? b=some o->h₁.get? b=some o:=fun b o e=>hsb.extBut b o (Nat.ne_of_lt (Heap.lt_size e)) (Heap.get?_push_of_some _ e)
 have lts:∀ y c',X.env.cells.lookup y=some c'->c'<s.heap.objs.size:=fun y c' e=>by
  obtain⟨z,o,ho,hd⟩:=I.cell y c' e
  exact Heap.lt_size ho
 let Y:=lamc X X.A.in1 scope f (.ref c) cl s H N'
 have okY:Y.Ok:=by
  refine⟨I.ok.mod,ct.kind,rfl,rfl,Nat.le_refl _,fun y z c' h1 h2=>I.ok.inj y z c' (hsub _ _ h1) (hsub _ _ h2),fun y hy=>?_,(fun y c' z _=>by cases (show false=true from z)),fun _=>hr.hd,Around.frames_deeper (A:=X.A.in1) I.ok.frames,.inr ⟨rfl,rfl⟩,(fun b hb=>by cases hb),I.bs,Nat.le_trans I.ok.bsz I.sz,(fun b o _ hb=>by cases hb),(fun b hb=>by cases hb),I.stack,I.stkFree⟩
  have hy:scope.names.lookup y=some .cell\/scope.names.lookup y=some .free:=hy
  rcases hy with hy | hy
  ·exact absurd rfl (ct.nocell _ (mem_of_lookup hy))
  ·exact hhas y (mem_of_lookup hy)
 have IY:Inv Y [] (Ui pk σ v) H { s with heap:=h₁,toks:=s.toks+[(x,u)].length }:=by
  refine⟨okY,rfl,I.bare,Un.kept old,⟨_,hns,fun i y v' h1 h2 h3=>?_⟩,fun y c' h=>?_,I.hok.fresh (Nat.le_refl _),fun y c' h=>I.freeC y c' (hsub _ _ h),fun p hp=>absurd (show p∈([]:List (Addr×Obj)) from hp) (by simp),I.hok.kept old,by show(Ui pk σ v).length=N'.length; rw[<- ct.len]; simp[Ui,pkS]⟩
  ·have h1:N'[i]?=some y:=h1
   by_cases hi:i=0
   ·subst hi
    rw[ct.x0] at h1
    cases h1
    have:v'=v:=by
     unfold Ui at h2
     rw[List.getElem?_set_self (by
      have:=(List.getElem?_eq_some_iff.mp h2).1
      simpa using this)] at h2
     cases h2; rfl
    subst this
    exact⟨u,r,.inl ⟨ct.loc,by simp⟩⟩
   ·unfold Ui at h2
    rw[List.getElem?_set_ne (Ne.symm hi)] at h2
    unfold pkS at h2
    rw[List.getElem?_map] at h2
    cases e:pk[i]? with
    | none=>rw[e] at h2; cases h2
    | some o=>
     rw[e] at h2
     cases o with
     | none=>cases h2
     | some j=>
      have h2:(σ[j]?).bind id=some v':=Option.some.inj h2
      have h2:σ[j]?=some (some v'):=by
       cases z:σ[j]? with
       | none=>rw[z] at h2; cases h2
       | some q=>
        rw[z] at h2
        have h2:q=some v':=h2
        rw[h2]
      have hil:i<N'.length:=(List.getElem?_eq_some_iff.mp h1).1
      have q:=List.all_eq_true.mp ct.take i (List.mem_range.mpr hil)
      simp only[e,h1] at q
      cases hj:X.N[j]? with
      | none=>simp[hj] at q
      | some y'=>
       simp only[hj,Bool.and_eq_true,Bool.or_eq_true,beq_iff_eq] at q
       obtain⟨⟨e1,e2⟩,e3⟩:=q
       subst e1
       obtain⟨m,_,hl⟩:=I.loc
       have vis:Vis X.env.scope y':=by
        rcases e2 with e2 | e2
        ·exact .inr (.inl e2)
        ·exact .inr (.inr e2)
       obtain⟨u',r',l'⟩:=hl j y' v' hj h2 vis
       refine⟨u',r',.inr ⟨.inr e3,?_⟩⟩
       rcases l' with⟨kk,_⟩ | ⟨_,c',hc,⟨o,ho',hd'⟩⟩
       ·have kk:X.env.scope.names.lookup y'=some .local:=kk
        rcases e2 with n2 | n2<;>rw[kk] at n2<;>cases n2
       ·obtain⟨c2,hc2⟩:=hhas y' (mem_of_lookup e3)
        have:=hsub _ _ hc2
        rw[hc] at this
        cases this
        exact⟨c',hc2,o,old c' o ho',hd'⟩
  ·obtain⟨z,o,ho',hd'⟩:=I.cell y c' (hsub _ _ h)
   exact⟨z,o,old c' o ho',hd'⟩
 refine PySem.W.kla_codeExpr (wpAny_mono (hb f (.ref c) cl s H (Room.deeper (Room.in1 hr) _) [] _ _ H Q IY h) (fun v' s' ⟨w',H',J,rw',q⟩=>?_) fun _ _ z=>z.elim)
 exact I.after ⟨w',H',J.os,J.bare,J.base,J.hok,rw',q⟩
def mkL(i:Nat)(g:D->Sto->Out D):Nat->Nat->D->Int->Sto->Out D
 | 0,_,_,_,_=>.bad
 | n+1,j,best,bk,S=>match S[i]? with
  | none=>.bad
  | some c=>match c.xs[j]? with
   | none=>.ok best S
   | some x=>match g x S with
    | .ok (.int k) S1=>if k<bk then mkL i g n (j+1) x k S1 else mkL i g n (j+1) best bk S1
    | _=>.bad
def mk0(i:Nat)(g:D->Sto->Out D)(S:Sto):Out D:=match S[i]? with
 | none=>.bad
 | some c=>match c.xs[0]? with
  | none=>.bad
  | some x=>match g x S with
   | .ok (.int k) S1=>mkL i g (c.xs.length+1) 1 x k S1
   | _=>.bad
def Gfe(X:Cx)(pins:List (Addr×Obj))(σ:L2.St)(ρ:Lc)(f c:Addr)(mp0:List Addr)(H0:Hp)(g:D->Sto->Out D):Prop:=
 ∀ (pl:List (Addr×Obj)) (s:Shared) (H:Hp) (mp:List Addr) (S:Sto) (S1:Sto) (x d:D) (v:V) (u:Value) (Q':VK),Inv X (pins++pl) σ H s->H c=some (CO c)->Aft X.K mp0 H0 mp H->RS X.K mp H S->Rep X.K mp H x v->Go v u->g x S=.ok d S1->(∀ mp' H' v',Aft X.K mp H mp' H'->RS X.K mp' H' S1->Rep X.K mp' H' d v'->Q' v' H')→
  wpAny (model X.prog X.w) X.A.in1 (call (.ref f) [u]) (EP X (pins++pl) σ Q') (fun _ _=>False) s
theorem Gcp{v:V}{u:Value}{k:Int}{K:PySem.W.Frag}{mp:List Addr}{H:Hp}(r:Rep K mp H (.int k) v)(e:Go v u):∃ t,u=.int k t:=by
 cases (show v=.int k from r)
 exact e
section
variable{X:Cx}{pins:List (Addr×Obj)}{σ:L2.St}{ρ:Lc}{a f It Sx c:Addr}{g:D->Sto->Out D}{XQ:XW}{Q:VK}{R:Result->Shared->Prop}{i:Nat}{mp0:List Addr}{H0:Hp}
theorem Gku{H:Hp}{s:Shared}{o1 o2:Obj}(I:Inv X pins σ H s)(hI:∀ H',H' It=none->Qc X pins H' It)(hS:∀ H',H' Sx=none->Qc X pins H' Sx)(n1:H It=none)(n2:H Sx=none)(e1:s.heap.get? It=some o1)(d1:∀ v,o1.data≠.cell v)(e2:s.heap.get? Sx=some o2)(d2:∀ v,o2.data≠.cell v):
  Inv X (pins++[(It,o1),(Sx,o2)]) σ H s:=by
 refine I.pins_of fun p hp=>?_
 rcases List.mem_append.mp hp with hp | hp
 ·exact I.pin p (List.mem_append_right _ hp)
 ·rcases List.mem_cons.mp hp with rfl | hp
  ·obtain⟨q0,q1,q2,_⟩:=hI H n1
   exact⟨e1,q0,q1,q2,d1⟩
  ·rw[List.mem_singleton.mp hp]
   obtain⟨q0,q1,q2,_⟩:=hS H n2
   exact⟨e2,q0,q1,q2,d2⟩
theorem Xx(hh:X.A.handled=none)(haI:a≠It)(hSI:Sx≠It)(hI:∀ H',H' It=none->Qc X pins H' It)(hS:∀ H',H' Sx=none->Qc X pins H' Sx)
  (key:Gfe X pins σ ρ f c mp0 H0 g) (hR:∀ u s',EP X pins σ Q u s'->R (.ok (.ret u)) s'):
  ∀ (n j:Nat) (best:D) (bk:Int) (s:Shared) (H:Hp) (mp:List Addr) (S:Sto) (vb:Value) (vV:V) (tb:Tok) (cn:Nat),Inv X pins σ H s->H c=some (CO c)->Aft X.K mp0 H0 mp H->RS X.K mp H S->(mp[i]?=some a/\¬ Dcy H a)->H It=none->H Sx=none->Rep X.K mp H best vV->Go vV vb→
   s.heap.get? Sx=some (seqObj "list" #[vb,.int bk tb] cn)->s.heap.IsListIter It a j->Post X.K XQ σ ρ mp H (mkL i g n j best bk S) Q→
   codeAny (model X.prog X.w) X.A (.builtin "min.loop" ⟨[.ref It,.ref f,.ref Sx],[]⟩) R s:=by
 have hname:(toString "min"++toString ".loop":String)="min.loop":=by decide
 intro n
 induction n with
 | zero=>intro j best bk s H mp S vb vV tb cn I hc af rs ⟨la,nd⟩ n1 n2 rb eb oS it p; exact(show False from p).elim
 | succ n ih=>
  intro j best bk s H mp S vb vV tb cn I hc af rs ⟨la,nd⟩ n1 n2 rb eb oS it p
  rw[mkL] at p
  cases zc:S[i]? with
  | none=>rw[zc] at p; exact(show False from p).elim
  | some cc=>
   rw[zc] at p
   dsimp only at p
   obtain⟨a',xs,e,ea,sq,rl,_⟩:=rs.items (v:=.ref a) ⟨a,rfl,la,nd⟩ zc
   cases e
   obtain⟨its,rv,pl,hz⟩:=I.list sq
   have lx:=rl.len
   have lv:=rv.length
   refine codeAny_builtin PySem.F.entry_min_loop ?_
   rw[Around.under_plainId PySem.F.plain_min_loop _]
   show wpAny _ X.A.in1 (seqItems? (.ref Sx) >>= _) _ _ _
   refine wpAny_bind (wpAny_seqItems oS rfl ?_)
   show wpAny _ X.A.in1 (tryCatch (pyNext (.ref It)) _ >>= _) _ _ _
   obtain⟨f0,f1,f2,f3,f4,f5⟩:=hI H n1
   obtain⟨g0,g1,g2,g3,g4,g5⟩:=hS H n2
   cases zx:cc.xs[j]? with
   | none=>
    rw[zx] at p
    have hj:cc.xs.length<=j:=List.getElem?_eq_none_iff.mp zx
    refine wpAny_bind (wpAny_tryCatch (wpAny_pyNext_list_end (A:=X.A.in1) hh it pl.isList (by simp; omega) fun h' eb'=>?_))
    have I1:Inv X pins σ H { s with heap:=h' }:=I.turned (t':=s.toks) (fun b o hb e=>eb' b o hb e) f0 f1 f3 f4 f5
    have oS':=eb' Sx _ hSI oS
    show wpAny _ X.A.in1 (updateSeq Sx (fun _=>#[]) >>= _) _ _ _
    refine wpAny_bind ?_
    refine wpAny_updateSeq oS' rfl (wpAny_bind (wpAny_letGo (wpAny_pure ?_)))
    have s1:=Heap.SameBut.update h' Sx (Obj.mapSeq fun _=>(#[]:Array Value))
    exact hR vb _ ⟨vV,H,I1.turned (t':=s.toks) (fun b o hb e=>(s1.2 b hb).trans e) g0 g1 g3 g4 g5,eb,Gg.ok p rs rb⟩
   | some x=>
    rw[zx] at p
    dsimp only at p
    obtain⟨v,hv,rx⟩:=rl.get zx
    obtain⟨u,hu,ru⟩:=rv.get hv
    refine wpAny_bind (wpAny_tryCatch (wpAny_pyNext_list_item (A:=X.A.in1) it pl.isList (x:=u) (by simpa using hu) fun h' st' sb=>?_))
    have I1:Inv X pins σ H { s with heap:=h' }:=I.turned (t':=s.toks) (fun b o hb e=>(sb.2 b hb).trans e) f0 f1 f3 f4 f5
    have oS':h'.get? Sx=some _:=(sb.2 Sx hSI).trans oS
    obtain⟨oI,hoI,hoc,hod⟩:=id st'
    have I1':=Gku (s:={ s with heap:=h' }) I1 hI hS n1 n2 hoI (fun v z=>by rw[hod] at z; cases z) oS' (fun v z=>nomatch (show Data.seq _ _=Data.cell v from z))
    show wpAny _ X.A.in1 (tryCatch (holding [u] (call (.ref f) [u])) _ >>= _) _ _ _
    cases zg:g x S with
    | bad=>rw[zg] at p; exact(show False from p).elim
    | exc y S1=>rw[zg] at p; exact(show False from p).elim
    | ok d S1=>
     rw[zg] at p
     refine wpAny_bind (wpAny_tryCatch (wpAny_holding (wpAny_mono (key _ _ H mp S S1 x d v u (fun v' H'=>∃ mp',Aft X.K mp H mp' H'/\RS X.K mp' H' S1/\Rep X.K mp' H' d v') I1' hc af rs rx ru zg fun mp' H' v' a r h=>⟨mp',a,r,h⟩) (fun ku s2 ⟨kv,H2,I2,rk,mp2,a2,rs2,rep2⟩=>?_) fun _ _ z=>z.elim)))
     cases d with
     | int k=>
      dsimp only at p
      obtain⟨t2,rfl⟩:=Gcp rep2 rk
      have pI:=I2.pin (It,oI) (List.mem_append_right _ (List.mem_append_right _ (.head _)))
      have pS:=I2.pin (Sx,seqObj "list" #[vb,.int bk tb] cn) (List.mem_append_right _ (List.mem_append_right _ (.tail _ (.head _))))
      have I2':Inv X pins σ H2 s2:=I2.unpinned
      have it2:s2.heap.IsListIter It a (j+1):=⟨oI,pI.1,hoc,hod⟩
      obtain⟨g0',g1',g2',g3',g4',g5'⟩:=hS H2 pS.2.1
      have la2:=a2.pre _ _ la
      have nd2:=a2.ndc _ _ la nd
      have hc2:H2 c=some (CO c):=a2.ext _ _ hc
      have eb2:=Rep.aft a2 _ _ rb
      show wpAny _ X.A.in1 (tryCatch (holding [u,.int k t2] (richCompare .Lt (.int k t2) (.int bk tb) >>= _)) _ >>= _) _ _ _
      refine wpAny_bind (wpAny_tryCatch (wpAny_holding (wpAny_bind (CmpOf.ints_lt (prog:=X.prog) (w:=X.w) (A:=X.A.in1) (P:=fun i v=>∃ t,v=.int ((fun n:Nat=>if n=0 then k else bk) i) t) (fun n:Nat=>if n=0 then k else bk) (fun i v h=>h) 0 1 _ _ _ _ _ ⟨t2,rfl⟩ ⟨tb,rfl⟩ ?_))))
      refine wpAny_bind (wpAny_holding (wpAny_truthy_bool ?_))
      refine wpAny_bind (wpAny_letGo (wpAny_pure ?_))
      by_cases hb:k<bk
      ·rw[if_pos hb] at p
       simp only[if_true,hb,decide_true,if_neg (show¬ (1:Nat)=0 by decide)]
       refine wpAny_bind ?_
       refine wpAny_updateSeq pS.1 rfl (wpAny_bind (wpAny_letGo ?_))
       rw[hname]
       have s1:=Heap.SameBut.update s2.heap Sx (Obj.mapSeq fun _=>#[u,.int k t2])
       obtain⟨c2,hc2'⟩:∃ c2,(s2.heap.update Sx (Obj.mapSeq fun _=>#[u,.int k t2])).get? Sx=some (seqObj "list" #[u,.int k t2] c2):=⟨_,get?_update_seq pS.1 fun _=>#[u,.int k t2]⟩
       refine wpAny_pure ⟨plainId_quiet PySem.F.plain_min_loop _,ih (j+1) x k _ H2 mp2 S1 u v t2 c2 (I2'.turned (t':=s2.toks) (fun b o hb e=>(s1.2 b hb).trans e) g0' g1' g3' g4' g5') hc2 (af.trans a2) rs2 ⟨la2,nd2⟩ pI.2.1 pS.2.1 (Rep.aft a2 _ _ rx) ru hc2' ⟨oI,(s1.2 It hSI.symm).trans pI.1,hoc,hod⟩ (Gg.aft p a2)⟩
      ·rw[if_neg hb] at p
       simp only[if_true,hb,decide_false,Bool.false_eq_true,if_false,if_neg (show¬ (1:Nat)=0 by decide)]
       refine wpAny_bind (wpAny_letGo ?_)
       rw[hname]
       exact wpAny_pure ⟨plainId_quiet PySem.F.plain_min_loop _,ih (j+1) best bk s2 H2 mp2 S1 vb vV tb cn I2' hc2 (af.trans a2) rs2 ⟨la2,nd2⟩ pI.2.1 pS.2.1 eb2 eb pS.1 it2 (Gg.aft p a2)⟩
     | _=>exact(show False from p).elim
theorem Xy{s:Shared}{H:Hp}{mp:List Addr}{S:Sto}{E:Value->Shared->Prop}(hh:X.A.handled=none)(I:Inv X pins σ H s)(hc:H c=some (CO c))(af:Aft X.K mp0 H0 mp H)(rs:RS X.K mp H S)(la:mp[i]?=some a)(nd:¬ Dcy H a)(key:Gfe X pins σ ρ f c mp0 H0 g)(p:Post X.K XQ σ ρ mp H (mk0 i g S) Q):
  wpAny (model X.prog X.w) X.A (call (.builtin "min") [.ref a] [(Str.ofString "key",.ref f)]) (EP X pins σ Q) E s:=by
 have hname:(toString "min"++toString ".loop":String)="min.loop":=by decide
 unfold mk0 at p
 cases zc:S[i]? with
 | none=>rw[zc] at p; exact(show False from p).elim
 | some cc=>
  rw[zc] at p
  dsimp only at p
  obtain⟨a',xs,e,ea,sq,rl,_⟩:=rs.items (v:=.ref a) ⟨a,rfl,la,nd⟩ zc
  cases e
  obtain⟨its,rv,pl,hz⟩:=I.list sq
  have hls:=pl.isList
  obtain⟨ol,hol,_⟩:=id hls
  have hll:a<s.heap.objs.size:=Heap.lt_size hol
  refine kmk_tree PySem.F.kind_min PySem.F.plain_min PySem.F.entry_min (kmk_min_key _ _) ?_
  show wpAny _ X.A.in1 (Builtin.Builtins.bindParams "min" ["key","default"] 0 ⟨[],[(Str.ofString "key",.ref f)]⟩ >>= _) _ _ s
  refine wpAny_bind (wpAny_of_eq (show Builtin.Builtins.bindParams "min" ["key","default"] 0 ⟨[],[(Str.ofString "key",.ref f)]⟩=pure [some (.ref f),none] from rfl) ?_)
  refine wpAny_bind (wpAny_pure ?_)
  refine wpAny_bind (wpAny_pyIter_list hls ?_)
  refine wpAny_bind (wpAny_newList ?_ (Nat.zero_le _))
  rw[hname]
  generalize hIt:s.heap.objs.size=It at *
  generalize hSx:(s.heap.push { cls:=.type "list_iterator",data:=.fields #[.ref a,.int 0 0] }).objs.size=Sx at *
  have hS1:Sx=It+1:=by rw[<- hSx,<- hIt]; exact size_push' ..
  have haI:a≠It:=Nat.ne_of_lt hll
  have hSI:Sx≠It:=by omega
  generalize hg0:(s.heap.push { cls:=.type "list_iterator",data:=.fields #[.ref a,.int 0 0] }).push (seqObj "list" #[] 0)=h0 at *
  have keep:∀ b o,s.heap.get? b=some o->h0.get? b=some o:=fun b o e=>by rw[<- hg0]; exact Heap.get?_push_of_some _ (Heap.get?_push_of_some _ e)
  have gI:h0.get? It=some { cls:=.type "list_iterator",data:=.fields #[.ref a,.int 0 0] }:=by rw[<- hg0,<- hIt]; exact Heap.get?_push_of_some _ (Heap.get?_push_size _ rfl)
  have gS:h0.get? Sx=some (seqObj "list" #[] 0):=by rw[<- hg0,<- hSx]; exact Heap.get?_push_size _ rfl
  have hI:∀ H',H' It=none->Qc X pins H' It:=fun H' n=>I.fpOk (Nat.le_of_eq hIt) n
  have hS:∀ H',H' Sx=none->Qc X pins H' Sx:=fun H' n=>I.fpOk (by rw[hIt]; omega) n
  have n1:H It=none:=I.hok.fresh (Nat.le_of_eq hIt)
  have n2:H Sx=none:=I.hok.fresh (by rw[hIt]; omega)
  have I0:Inv X pins σ H { s with heap:=h0,toks:=s.toks }:=I.kept keep
  obtain⟨its,rv,pl,hz⟩:=I0.list sq
  have lx:=rl.len
  have lv:=rv.length
  refine wpAny_pure ⟨plainId_quiet PySem.F.plain_min_loop _,?_⟩
  refine codeAny_builtin PySem.F.entry_min_loop ?_
  rw[Around.under_plainId PySem.F.plain_min_loop _]
  show wpAny _ X.A.in1 (seqItems? (.ref _) >>= _) _ _ _
  refine wpAny_bind (wpAny_seqItems gS rfl ?_)
  show wpAny _ X.A.in1 (tryCatch (pyNext (.ref It)) _ >>= _) _ _ _
  obtain⟨f0,f1,f2,f3,f4,f5⟩:=hI H n1
  cases zx:cc.xs[0]? with
  | none=>rw[zx] at p; exact(show False from p).elim
  | some x=>
   rw[zx] at p
   dsimp only at p
   obtain⟨v,hv,rx⟩:=rl.get zx
   obtain⟨u,hu,ru⟩:=rv.get hv
   refine wpAny_bind (wpAny_tryCatch (wpAny_pyNext_list_item (A:=X.A.in1) (s:={ s with heap:=h0,toks:=s.toks }) (it:=It) (l:=a) (i:=0) ⟨_,gI,rfl,rfl⟩ pl.isList (x:=u) (by simpa using hu) fun h' st' sb=>?_))
   have I1:Inv X pins σ H { s with heap:=h' }:=I0.turned (t':=s.toks) (fun b o hb e=>(sb.2 b hb).trans e) f0 f1 f3 f4 f5
   have oS':h'.get? Sx=some _:=(sb.2 Sx hSI).trans gS
   obtain⟨oI,hoI,hoc,hod⟩:=id st'
   have I1':=Gku (s:={ s with heap:=h' }) I1 hI hS n1 n2 hoI (fun v z=>by rw[hod] at z; cases z) oS' (fun v z=>nomatch (show Data.seq _ _=Data.cell v from z))
   show wpAny _ X.A.in1 (tryCatch (holding [u] (call (.ref f) [u])) _ >>= _) _ _ _
   cases zg:g x S with
   | bad=>rw[zg] at p; exact(show False from p).elim
   | exc y S1=>rw[zg] at p; exact(show False from p).elim
   | ok d S1=>
    rw[zg] at p
    refine wpAny_bind (wpAny_tryCatch (wpAny_holding (wpAny_mono (key _ _ H mp S S1 x d v u (fun v' H'=>∃ mp',Aft X.K mp H mp' H'/\RS X.K mp' H' S1/\Rep X.K mp' H' d v') I1' hc af rs rx ru zg fun mp' H' v' a r h=>⟨mp',a,r,h⟩) (fun ku s2 ⟨kv,H2,I2,rk,mp2,a2,rs2,rep2⟩=>?_) fun _ _ z=>z.elim)))
    cases d with
    | int k=>
     dsimp only at p
     obtain⟨t2,rfl⟩:=Gcp rep2 rk
     have pI:=I2.pin (It,oI) (List.mem_append_right _ (List.mem_append_right _ (.head _)))
     have pS:=I2.pin (Sx,seqObj "list" #[] 0) (List.mem_append_right _ (List.mem_append_right _ (.tail _ (.head _))))
     have I2':Inv X pins σ H2 s2:=I2.unpinned
     obtain⟨g0',g1',g2',g3',g4',g5'⟩:=hS H2 pS.2.1
     show wpAny _ X.A.in1 (updateSeq Sx (fun _=>#[u,.int k t2]) >>= _) _ _ _
     refine wpAny_bind ?_
     refine wpAny_updateSeq pS.1 rfl ?_
     rw[hname]
     have s1:=Heap.SameBut.update s2.heap Sx (Obj.mapSeq fun _=>#[u,.int k t2])
     obtain⟨c2,hc2'⟩:∃ c2,(s2.heap.update Sx (Obj.mapSeq fun _=>#[u,.int k t2])).get? Sx=some (seqObj "list" #[u,.int k t2] c2):=⟨_,get?_update_seq pS.1 fun _=>#[u,.int k t2]⟩
     exact wpAny_pure ⟨plainId_quiet PySem.F.plain_min_loop _,Xx (XQ:=XQ) (ρ:=ρ) (Q:=Q) (i:=i) (R:=fun r s'=>match r with
      | .ok (.ret v)=>EP X pins σ Q v s'
      | .ok _=>False
      | .error e=>E e s') hh haI hSI hI hS key (fun _ _ h=>h) _ 1 x k _ H2 mp2 S1 u v t2 c2 (I2'.turned (t':=s2.toks) (fun b o hb e=>(s1.2 b hb).trans e) g0' g1' g3' g4' g5') (a2.ext _ _ hc) (af.trans a2) rs2 ⟨a2.pre _ _ la,a2.ndc _ _ la nd⟩ pI.2.1 pS.2.1 (Rep.aft a2 _ _ rx) ru hc2' ⟨oI,(s1.2 It hSI.symm).trans pI.1,hoc,hod⟩ (Gg.aft p a2)⟩
    | _=>exact(show False from p).elim
end
theorem Yv{pos:Pos}{a b:Int}{c cv:Value}(l:List Value)(h:TriplesOk l)(e:codeAmong pos (l++[rawInt a,rawInt b,c])=some cv):codeAmong pos l=some cv\/cv=c:=by
 fun_induction TriplesOk l with
 | case1=>
  simp only[List.nil_append,codeAmong,rawInt] at e
  split at e
  ·exact .inr (Option.some.inj e).symm
  ·cases e
 | case2 a' t b' u x rest ih=>
  simp only[List.cons_append,codeAmong] at e ⊢
  split at e
  ·rename_i hc; rw[if_pos hc]; exact .inl e
  ·rename_i hc; rw[if_neg hc]; exact ih h e
 | case3 l h1 h2=>exact h.elim
theorem Vj.one{K:PySem.W.Frag}{P P':Addr}(h:Vj K P)(h':Vj K P'):P=P':=Option.some.inj (h.symm.trans h')
section
variable{K:PySem.W.Frag}{mp:List Addr}{H:Hp}{S:Sto}{P:Addr}{ps ps':Array Value}
theorem Zt(hP:H P=some (.tbl ps)):Aft K mp H mp (upd H P (.tbl ps')):=by
 refine⟨fun _ _ e=>e,fun b ys s=>?_,fun b φ s=>by rw[Gf (Hn s hP (by intro z; cases z))]; exact s,fun j b e n ⟨kvs,z⟩=>?_,fun b ⟨kvs,z⟩=>⟨kvs,by rw[Gf (Hn z hP (by intro z; cases z))]; exact z⟩⟩
 ·rcases s with(s | ⟨ob,s⟩) | s
  ·exact .inl (.inl (by rw[Gf (Hn s hP (by intro z; cases z))]; exact s))
  ·exact .inl (.inr ⟨ob,by rw[Gf (Hn s hP (by intro z; cases z))]; exact s⟩)
  ·exact .inr s
 ·by_cases hb:b=P
  ·subst hb; rw[Gw] at z; cases z
  ·rw[Gf hb] at z; exact n ⟨kvs,z⟩
theorem RS.tbl(r:RS K mp H S)(k:Vj K P)(hP:H P=some (.tbl ps))(t1:TriplesOk ps'.toList)(t2:∀ (pos:Pos) (cv:Value),codeAmong pos ps'.toList=some cv->∃ c,cv=.ref c/\H c=some (CO c)):RS K mp (upd H P (.tbl ps')) S:=by
 have af:Aft K mp H mp (upd H P (.tbl ps')):=Zt hP
 refine⟨r.len,fun i a c e1 e2=>?_,r.inj,fun P' k'=>?_⟩
 ·rcases r.cell i a c e1 e2 with⟨xs,q,e⟩ | ⟨f,kvs,e,q⟩
  ·refine .inl ⟨xs,RepL.aft af _ _ q,?_⟩
   cases z:c.fz with
   | true=>
    rw[z] at e
    have e:SqF K H a xs:=(if_pos rfl).mp e
    refine(if_pos rfl).mpr ?_
    rcases e with⟨ob,s⟩ | s
    ·exact .inl ⟨ob,by rw[Gf (Hn s hP (by intro z; cases z))]; exact s⟩
    ·exact .inr s
   | false=>
    rw[z,if_neg Bool.false_ne_true] at e
    rw[if_neg Bool.false_ne_true,Gf (Hn e hP (by intro z; cases z))]
    exact e
  ·exact .inr ⟨f,kvs,by rw[Gf (Hn e hP (by intro z; cases z))]; exact e,Paired.mapP q fun _ _ z=>z.aft af⟩
 ·cases k.one k'
  refine⟨ps',Gw,t1,fun pos cv e=>?_⟩
  obtain⟨c,e1,e2⟩:=t2 pos cv e
  exact⟨c,e1,by rw[Gf (Hn e2 hP (by intro z; cases z))]; exact e2⟩
end
def Ww(mg:Str->Option Value)(base:Heap):Prop:=∃ bm ob,mg "__builtins__"=some (.ref bm)/\bm≠builtinsNs/\base.get? bm=some ob/\ob.cls=.type "module"/\ob.dict=some builtinsNs/\ob.data=.plain
def Gcq(K:PySem.W.Frag)(cdv:Value):Prop:=∃ c P,cdv=.ref c/\Vj K P/\PySem.W.codeHdIn K c P=true
theorem Gcr{X:Cx}{pins:List (Addr×Obj)}{σ:L2.St}{ρ:Lc}{H:Hp}{s:Shared}{mp:List Addr}{S:Sto}{params:Arguments}{body:Expr}{scope:Scope}{lpos:Pos}{cl:List (Str×Addr)}{E:Value->Shared->Prop}{Q:Value->Shared->Prop}(I:Inv X pins σ H s)(G:Gd X.K mp H σ ρ S)(L:Gcq X.K X.env.code)(B:Ww X.mg X.base)(hq:X.env.qual="deepest.<locals>.")(hcl:closureFor scope X.env=pure cl)(hdef:defaultsOf params X.env=([],[]))(h:∀ (f c:Addr) (ctv:Value) (s':Shared) (H':Hp),Inv X (pins++[(f,PySem.W.kla_obj "<lambda>" Ke params body scope cl ((X.mg "__name__").getD .none) c ctv)]) σ H' s'->H' c=some (CO c)->Aft X.K mp H mp H'->RS X.K mp H' S->Q (.ref f) s'):
  wpAny (model X.prog X.w) X.A (eval (.Lambda params body scope lpos) X.env) Q E s:=by
 obtain⟨c0,P,hcode,hT,hC⟩:=L
 obtain⟨bm,ob,b1,b2,b3,b4,b5,b6⟩:=B
 obtain⟨ps,hP,t1,t2⟩:=G.rs.tab P hT
 have hPo:s.heap.get? P=some (PySem.W.tabObj ps):=I.hok P _ hP
 have hbm:=I.bs bm ob b3
 have hbmP:bm≠P:=fun z=>by rw[z,hP] at hbm; cases hbm.2
 have hgP:mainGlobals≠P:=fun z=>by
  obtain⟨o,es,ep,e,_⟩:=I.mod.glob
  have:=(I.bs _ _ e).2
  rw[z,hP] at this; cases this
 have hbG:bm≠mainGlobals:=fun z=>by
  obtain⟨o,es,ep,e,hd,_⟩:=I.mod.glob
  rw[z,e] at b3; cases b3; rw[hd] at b6; cases b6
 have CH:PySem.W.CodeHd s.heap c0 P:=PySem.W.codeHd_of_K I.kIn hC
 have hqq:X.env.qual++"<lambda>"=Ke:=by rw[hq]; rfl
 have hg:s.heap.Ns mainGlobals X.mg:=I.mod.glob.keeps I.bk
 refine PySem.W.kla_eval hdef ?_
 rw[hqq]
 have BA:s.heap.BuiltinsAt X.mg P:=⟨bm,ob,b1,b2,hbG,hbmP,hbm.1,b4,b5,b6⟩
 cases hf:codeAmong lpos ps.toList with
 | none=>
  refine PySem.W.kla_makeFunction (mg:=X.mg) hcl I.ok.glob hg hcode CH hPo t1 hf hgP BA fun c' ctv h' tk hx hge hlt hrec hP'=>?_
  have nc:H c'=none:=I.hok.fresh hge
  have hcP:c'≠P:=fun z=>by rw[z,hP] at nc; cases nc
  have hPl:(upd H c' (CO c')) P=some (.tbl ps):=by rw[Gf (Ne.symm hcP)]; exact hP
  have rs1:RS X.K mp (upd H c' (CO c')) S:=G.rs.new nc (by intro _ z; cases z)
  have a1:Aft X.K mp H mp (upd H c' (CO c')):=Kf nc (by intro _ z; cases z)
  have hl:(ps++#[rawInt lpos.line,rawInt lpos.col,Value.ref c']).toList=ps.toList++[rawInt lpos.line,rawInt lpos.col,.ref c']:=by simp
  have rs2:RS X.K mp (upd (upd H c' (CO c')) P (.tbl (ps++#[rawInt lpos.line,rawInt lpos.col,.ref c']))) S:=by
   refine rs1.tbl hT hPl (by rw[hl]; exact TriplesOk_snoc _ _ _ _ t1) fun pos cv e=>?_
   rw[hl] at e
   rcases Yv _ t1 e with e | e
   ·obtain⟨c,z1,z2⟩:=t2 pos cv e
    exact⟨c,z1,by rw[Gf (Gh z2 nc)]; exact z2⟩
   ·exact⟨c',e,Gw⟩
  have a2:=a1.trans (Zt (K:=X.K) (mp:=mp) (ps':=ps++#[rawInt lpos.line,rawInt lpos.col,.ref c']) hPl)
  generalize hH2:upd (upd H c' (CO c')) P (.tbl (ps++#[rawInt lpos.line,rawInt lpos.col,.ref c']))=H2 at *
  have H2c:H2 c'=some (CO c'):=by rw[<- hH2,Gf hcP,Gw]
  have H2P:H2 P=some (.tbl (ps++#[rawInt lpos.line,rawInt lpos.col,.ref c'])):=by rw[<- hH2,Gw]
  have H2o:∀ b,b≠P->b≠c'->H2 b=H b:=fun b h1 h2=>by rw[<- hH2,Gf h1,Gf h2]
  have szh:s.heap.objs.size<=h'.objs.size:=Nat.le_of_lt (Nat.lt_of_le_of_lt hge hlt)
  generalize hfo:PySem.W.kla_obj "<lambda>" Ke params body scope cl ((X.mg "__name__").getD .none) c' ctv=fo
  have keep:∀ b o,b≠P->s.heap.get? b=some o->(h'.push fo).get? b=some o:=fun b o hb e=>Heap.get?_push_of_some _ (hx b o hb e)
  have neP:∀ b,H b=none->b≠P:=fun b n z=>by rw[z,hP] at n; cases n
  have neC:∀ b o,s.heap.get? b=some o->b≠c':=fun b o e=>Nat.ne_of_lt (Nat.lt_of_lt_of_le (Heap.lt_size e) hge)
  have un:Un X.fs [] H H2 s.heap (h'.push fo):=by
   refine⟨fun b o e n _ _=>keep b o (neP b n) e,fun b o e n _ _=>⟨o.slots,keep b o (neP b n) e⟩,fun b o e n _=>by rw[H2o b (neP b n) (neC b o e)]; exact n,fun b o e _=>?_,fun b xs e=>?_,fun b o u e=>?_,fun b qs e=>?_⟩
   ·by_cases hb:b=P
    ·exact⟨_,by rw[hb]; exact Heap.get?_push_of_some _ hP'⟩
    ·exact⟨o,keep b o hb e⟩
   ·rw[H2o b (Hn e hP (by intro z; cases z)) (Gh e nc)]; exact e
   ·rw[H2o b (Hn e hP (by intro z; cases z)) (Gh e nc)]; exact e
   ·by_cases hb:b=P
    ·subst hb
     rw[hP] at e
     cases e
     exact⟨_,H2P⟩
    ·exact⟨#[],by rw[H2o b hb (Gh e nc),e]; simp⟩
  have hok:HOk X.prog X.w H2 (h'.push fo):=fun b u e=>by
   by_cases hb:b=P
   ·subst hb
    rw[H2P] at e
    cases e
    exact Heap.get?_push_of_some _ hP'
   ·by_cases hc:b=c'
    ·subst hc
     rw[H2c] at e
     cases e
     obtain⟨c2,oc,vs,t,z1,z2,z3,z4⟩:=hrec
     cases z1
     refine⟨⟨oc,vs,t,Heap.get?_push_of_some _ z2,z3,z4⟩,⟨oc,Heap.get?_push_of_some _ z2⟩,fun h1 h2 ⟨o,vs,t,y1,y2,y3⟩ k=>⟨o,vs,t,k _ y1,y2,y3⟩⟩
    ·rw[H2o b hb hc] at e
     refine(I.hok b u e).stay (fun d w' hd q=>keep d w' ?_ q) (fun d q=>?_) fun d xs q=>?_
     ·rcases hd with rfl | hd
      ·exact hb
      ·exact Hn hd hP (by intro z; cases z)
     ·rw[H2o d (Hn q hP (by intro z; cases z)) (Gh q nc)]; exact q
     ·rw[H2o d (Hn q hP (by intro z; cases z)) (Gh q nc)]; exact q
  have I2:Inv X pins σ H2 { s with heap:=h'.push fo,toks:=tk }:=I.un un hok
  have nf:H2 h'.objs.size=none:=by
   rw[H2o _ (Nat.ne_of_gt (Nat.lt_of_lt_of_le (Heap.lt_size hPo) szh)) (Nat.ne_of_gt hlt)]
   exact I.hok.fresh szh
  obtain⟨q0,q1,q2,_⟩:=I.fpOk szh nf
  refine h h'.objs.size c' ctv _ H2 ?_ H2c a2 rs2
  rw[hfo]
  refine I2.pins_of fun p hp=>?_
  rcases List.mem_append.mp hp with hp | hp
  ·exact I2.pin p (List.mem_append_right _ hp)
  ·rw[List.mem_singleton.mp hp]
   exact⟨Heap.get?_push_size _ (by rw[<- hfo]; rfl),q0,q1,q2,fun v z=>by rw[<- hfo] at z; cases z⟩
 | some cv=>
  obtain⟨c',rfl,hc'⟩:=t2 lpos cv hf
  refine PySem.W.kla_makeFunctionHit (mg:=X.mg) hcl I.ok.glob hg hcode CH hPo t1 hf BA fun ctv h' tk hk szh=>?_
  generalize hfo:PySem.W.kla_obj "<lambda>" Ke params body scope cl ((X.mg "__name__").getD .none) c' ctv=fo
  have I2:Inv X pins σ H { s with heap:=h'.push fo,toks:=tk }:=I.kept fun b o e=>Heap.get?_push_of_some _ (hk b o e)
  have nf:H h'.objs.size=none:=I.hok.fresh szh
  obtain⟨q0,q1,q2,_⟩:=I.fpOk szh nf
  have hfo':({ cls:=.type "function",data:=.func (PySem.W.kla_fn "<lambda>" Ke params body scope cl ((X.mg "__name__").getD .none) (.ref c') ctv) }:Obj)=fo:=hfo
  rw[hfo']
  refine h h'.objs.size c' ctv _ H ?_ hc' .refl G.rs
  rw[hfo]
  refine I2.pins_of fun p hp=>?_
  rcases List.mem_append.mp hp with hp | hp
  ·exact I2.pin p (List.mem_append_right _ hp)
  ·rw[List.mem_singleton.mp hp]
   exact⟨Heap.get?_push_size _ (by rw[<- hfo]; rfl),q0,q1,q2,fun v z=>by rw[<- hfo] at z; cases z⟩
def mkD(fe:Ev D)(pk:List (Option Nat))(te:Ev D):Ev D:=fun ρ S=>(fe ρ S).bind fun d S1=>match d with
 | .lst i=>mk0 i (fun x S=>te (Ui pk ρ x) S) S1
 | _=>.bad
theorem Ga1{X:Cx}{XQ:XW}{k:Nat}{e body:Expr}{params:Arguments}{scope:Scope}{p lpos kp pos:Pos}{x:Str}{N':List Str}{pk:List (Option Nat)}{fe te:Ev D}(ct:LamTab X.env.scope scope X.N N' pk x)(hr:Room (k+2) X.A)(L:Gcq X.K X.env.code)(B:Ww X.mg X.base)(hq:X.env.qual="deepest.<locals>.")(hg:Gl X "min")(hm:X.mg "min"=none)(he:JE X XQ e fe)(hb:∀ f cd cl s H,Room k (X.A.in1.deeper (PySem.W.envX Ke scope s.heap.objs.size f cd cl))->JE (lamc X X.A.in1 scope f cd cl s H N') XN body te)(hbind:∀ (cl:List (Str×Addr)) (pm cd ctv u:Value),bindArgs (PySem.W.kla_fn "<lambda>" Ke params body scope cl pm cd ctv) ⟨[u],[]⟩=pure [(x,u)]:=by intros; rfl)(hdef:defaultsOf params X.env=([],[]):=by rfl)(h1:backTo pos (starEach [e] X.env)=(false,eval e X.env)::backTo pos (starEach [] X.env):=by rfl)(h2:(backTo pos (starEach [e] X.env)).any (·.1)=false:=by rfl)(h3:starEach [e] X.env=(false,eval e X.env)::starEach [] X.env:=by rfl):
  JE X XQ (.Call (.Name "min" p) [e] [⟨some "key",.Lambda params body scope lpos,kp⟩] pos) (mkD fe pk te):=by
 intro pins s σ H Q I ⟨mp,ρ,S,G,pp⟩
 obtain⟨cl,hcl,hsub,hhas⟩:=Ut (env:=X.env) (scope:=scope) fun y hy hf=>I.ok.has y.1 (ct.free y hy hf)
 refine wpAny_Call_Name_kw (Qo (u:=.builtin "min") I hg hm rfl ?_)
 refine PyProof.Rows.callWith_kw (thn ((Zi he Gbo h3) pos pins s σ H (fun vs H1=>∃ v d mp1 S1,vs=[v]/\Aft X.K mp H mp1 H1/\Gd X.K mp1 H1 σ ρ S1/\Rep X.K mp1 H1 d v/\Post X.K XQ σ ρ mp1 H1 (match d with
  | .lst i=>mk0 i (fun x S=>te (Ui pk ρ x) S) S1
  | _=>.bad) Q) I ?_) fun us s1 ⟨vs,H1,I1,r1,v,d,mp1,S1,ev,a1,G1,rd,p1⟩=>?_) h1 h2 rfl rfl
 ·refine⟨mp,ρ,S,G,?_⟩
  unfold ac an mkD at *
  cases z:fe ρ S with
  | ok d S1=>
   rw[z] at pp
   exact fun mp1 H1 vs af rs rl=>by
    obtain⟨v,r,rfl,h5,h6⟩:=rl
    cases (show r=[] from h6)
    exact⟨v,d,mp1,S1,rfl,af,G.aft af rs,h5,Gg.aft pp af⟩
  | exc y S1=>rw[z] at pp; exact pp
  | bad=>rw[z] at pp; exact pp.elim
 ·subst ev
  obtain⟨u,rfl,ru⟩:∃ u,us=[u]/\Go v u:=by
   cases r1 with
   | cons r t=>cases t; exact⟨_,rfl,r⟩
  refine PyProof.Rows.kws_cons (Gcr I1 G1 L B hq hcl hdef fun f c ctv s2 H2 I2 hc a2 rs2=>PyProof.Rows.kws_nil ?_)
  cases d with
  | lst i=>
   obtain⟨a,e1,la,nd⟩:=(show ∃ a,v=.ref a/\mp1[i]?=some a/\¬ Dcy H1 a from rd)
   subst e1
   obtain rfl:u=.ref a:=ru
   refine wpAny_mono (Xy (X:=X) (ρ:=ρ) (XQ:=XQ) (Q:=Q) (E:=X.xe) (mp0:=mp1) (H0:=H2) hr.hd I2 hc .refl rs2 la (a2.ndc _ _ la nd) (fun pl s3 H3 mp3 S3 S4 x3 d3 v3 u3 Q3 I3 hc3 a3 rs3 r3 ru3 zg hQ3=>?_) (Gg.aft p1 a2)) (fun u' s' ⟨w,H',J,r,q⟩=>⟨w,H',J.unpinned,r,q⟩) fun _ _ z=>z
   have hpin:=I3.pin (f,_) (List.mem_append_right _ (List.mem_append_left _ (List.mem_append_right _ (.head _))))
   obtain⟨⟨o,vs,t,y1,y2,y3⟩,_⟩:=I3.hok c _ hc3
   refine Gco (te:=rdE X.K XN te) I3 ct hsub hhas hr hpin.1 ⟨c,o,vs,t,rfl,y1,y2,y3⟩ (hbind _ _ _ _ _) hb ru3 ⟨mp3,Ui pk ρ x3,S3,?_,?_⟩
   ·have G3:=(G1.aft (a2.trans a3) rs3).pick pk
    exact G3.set 0 r3
   ·show Gg X.K (Rep X.K) XN _ _ mp3 H3 (te (Ui pk ρ x3) S3) Q3
    rw[zg]
    exact fun mp' H' v' a r h=>hQ3 mp' H' v' a r h
  | _=>exact(show False from p1).elim
section
variable{P:Program}{w:World}{K:PySem.W.Frag}{mg:Str->Option Value}{base:Heap}{st:Stmt}{ps N:List Str}{fn:Fn}
def ltB(K:PySem.W.Frag):Bool:=match PySem.W.tabIn K "deepest" with
 | some (c,P)=>PySem.W.codeHdIn K c P
 | none=>false
theorem Gel{f:Addr}{oc:Value}{od an:Option Addr}{osl:Array (Option Value)}{kV doc pm cdv ct:Value}(a:PySem.W.nsIn K mainGlobals "deepest"=some (some (.ref f)))
  (l:K.lookup f=some ⟨oc,od,.func (PySem.W.fnOf "deepest" "deepest" (He st) (Gr st) (Gb st) .none kV doc pm an cdv ct),osl⟩) (h:ltB K=true):Gcq K cdv:=by
 unfold ltB at h
 cases z:PySem.W.tabIn K "deepest" with
 | none=>rw[z] at h; cases h
 | some q=>
  obtain⟨c,P⟩:=q
  rw[z] at h
  refine⟨c,P,?_,by unfold Vj; rw[z]; rfl,h⟩
  unfold PySem.W.tabIn at z
  rw[a] at z
  dsimp only at z
  rw[l] at z
  dsimp only at z
  split at z
  ·split at z
   ·split at z
    ·cases z; rfl
    ·cases z
   ·cases z
  ·cases z
theorem Gkv{b:Sv}(k:Nat)(F:FH K "deepest" st)(g:GH K mg)(S:FnS N ps (Gb st))(lt:ltB K=true)(hfn:fn=fnB N.length b)
  (hb:∀ (f:Addr) (cdv:Value) (A:Around) (outer:List PySem.Env) (s:Shared) (H:Hp) (E:XK),Gcq K cdv->Room k (A.deeper (envOfC "deepest" (Gb st) s.heap.objs.size f cdv))→
   JSs (Vg CX0 P w K mg base N "deepest" (Gb st) f cdv A outer s H E).nox XN (Gr st) b)
  (ha:∀ (kV doc pm:Value) (an:Option Addr) (cdv ct:Value) (us:List Value),us.length=ps.length->bindArgs (PySem.W.fnOf "deepest" "deepest" (He st) (Gr st) (Gb st) .none kV doc pm an cdv ct) ⟨us,[]⟩=pure (ps.zip us):=by exact(fun _ _ _ _ _ _ us hl=>match us,hl with | [_],_=>rfl)):
  Cal P w K mg base "deepest" ps fn (k+1):=by
 subst hfn
 obtain⟨_,X,G⟩:=g
 obtain⟨f,oc,od,an,osl,kV,doc,pm,cdv,ct,a,l,c,kp⟩:=F.ex
 refine⟨f,_,?_,PySem.W.mg_of X G a,kp,(Wk (st:=st) l c kp).binds ha⟩
 refine Gex l c S.s (fun vs H Q E ⟨mp,ds,S,rs,r,hl,_⟩=>by rw[r.len]; exact hl) fun A outer s H vs Q E hr ⟨mp,ds,S,rs,r,hl,p⟩=>?_
 refine⟨_,(hb f cdv A outer s H E (Gel a l lt) hr).nox,mp,_,S,Xn rs r,?_⟩
 unfold fnB at p
 show PostS K _ mp H (b (ds.map some++List.replicate (N.length-ds.length) none) S) _
 cases z:b (ds.map some++List.replicate (N.length-ds.length) none) S with
 | rt d S'=>rw[z] at p; exact p
 | nx ρ' S'=>rw[z] at p; exact fun m h v af G=>p m h .non af G.rs rfl
 | bk ρ' S'=>rw[z] at p; exact p.elim
 | ct ρ' S'=>rw[z] at p; exact p.elim
 | exc x ρ' S'=>rw[z] at p; exact p.elim
 | bad=>rw[z] at p; exact p.elim
end
theorem Gkw{sc scope:Scope}{N N':List Str}{pk:List (Option Nat)}{x:Str}(a:scope.kind=.function:=by rfl)(b:scope.isCoroutine=false:=by rfl)(c:scope.isGenerator=false:=by rfl)(d:∀ y∈scope.names,y.2≠.cell:=by decide +kernel)(e:∀ y∈scope.names,y.2=.free->sc.names.lookup y.1=some .cell\/sc.names.lookup y.1=some .free:=by decide +kernel)(f:scope.names.lookup x=some .local:=by rfl)(g:N'[0]?=some x:=by rfl)(h:pk.length=N'.length:=by rfl)
  (i:((List.range N'.length).all fun i=>match pk[i]? with
  | some (some j)=>match N[j]?,N'[i]? with
   | some x,some y=>(x==y)&&((sc.names.lookup y==some NameKind.cell)||(sc.names.lookup y==some NameKind.free))&&(scope.names.lookup y==some NameKind.free)
   | _,_=>false
  | _=>true)=true:=by decide +kernel):LamTab sc scope N N' pk x:=⟨a,b,c,d,e,f,g,h,i⟩
section
variable{X:Cx}{XQ:XW}{A:Around}{scope:Scope}{f:Addr}{cd:Value}{c:List (Str×Addr)}{s:Shared}{H:Hp}{N':List Str}{x:Str}{p pos:Pos}{e:Expr}{es:List Expr}{k:Nat}
theorem gvL(i:Nat)(h:okV scope x=true:=by decide +kernel)(hN:N'[i]?=some x:=by rfl):GE (lamc X A scope f cd c s H N') XQ (.Name x pos) (vr i):=gv (X:=lamc X A scope f cd c s H N') i ⟨h⟩ hN
theorem Gmb{fn:Fn}{ps:List Str}{j n:Nat}{t:Ev (List D)}(Q:Cal X.prog X.w X.K X.mg X.base x ps fn j)(hr:Room k (A.deeper (PySem.W.envX Ke scope s.heap.objs.size f cd c)))(ha:GA (lamc X A scope f cd c s H N') XQ (e::es) t)(hg:okG scope x=true:=by decide +kernel)(hn:ps.length=n:=by rfl)(hj:j<=k:=by decide)
  (he:starEach (e::es) (lamc X A scope f cd c s H N').env=(false,eval e (lamc X A scope f cd c s H N').env)::starEach es (lamc X A scope f cd c s H N').env:=by rfl) (hpl:(backTo pos (starEach es (lamc X A scope f cd c s H N').env)).any (·.1)=false:=by rfl):
  GE (lamc X A scope f cd c s H N') XQ (.Call (.Name x p) (e::es) [] pos) (cl n (Gm fn) t):=gown (X:=lamc X A scope f cd c s H N') Q hr (gl ⟨hg⟩) (okG.gl hg).2 ha hn hj he hpl
end
section
variable{X:Cx}{XQ:XW}{P:List Str}
theorem Gkx{k:Nat}{e body:Expr}{params:Arguments}{scope:Scope}{p lpos kp pos:Pos}{x:Str}{N' N:List Str}{sc:Scope}{pk:List (Option Nat)}{fe te:Ev D}(S:FnS N P sc)(hr:Room (k+2) X.A)(L:Gcq X.K X.env.code)(B:Ww X.mg X.base)(hm:X.mg "min"=none)(he:GE X XQ e fe)
  (hb:∀ f cd cl s H,Room k (X.A.in1.deeper (PySem.W.envX Ke scope s.heap.objs.size f cd cl))->GE (lamc X X.A.in1 scope f cd cl s H N') XN body te)
  (ct:LamTab sc scope N N' pk x:=by exact Gkw) (hsc:X.env.scope=sc:=by rfl) (hNN:X.N=N:=by rfl) (hg:okG sc "min"=true:=by decide +kernel) (hq:X.env.qual="deepest.<locals>.":=by rfl)
  (hbind:∀ (cl:List (Str×Addr)) (pm cd ctv u:Value),bindArgs (PySem.W.kla_fn "<lambda>" Ke params body scope cl pm cd ctv) ⟨[u],[]⟩=pure [(x,u)]:=by intros; rfl) (hdef:defaultsOf params X.env=([],[]):=by rfl)
  (h1:backTo pos (starEach [e] X.env)=(false,eval e X.env)::backTo pos (starEach [] X.env):=by rfl) (h2:(backTo pos (starEach [e] X.env)).any (·.1)=false:=by rfl) (h3:starEach [e] X.env=(false,eval e X.env)::starEach [] X.env:=by rfl):
  GE X XQ (.Call (.Name "min" p) [e] [⟨some "key",.Lambda params body scope lpos,kp⟩] pos) (mkD fe pk te):=by
 subst hsc hNN
 exact⟨Ga1 ct hr L B hq (gl ⟨hg⟩) hm he.h (fun f cd cl s H hr=>(hb f cd cl s H hr).h) hbind hdef h1 h2 h3⟩
theorem Gky(i:Nat){N:List Str}{sc:Scope}{y:Str}{py spos:Pos}{elt tg iter tg2 iter2:Expr}{ifs ifs2:List Expr}{scope:Scope}{pos:Pos}{N':List Str}{pk:List (Option Nat)}{f f2:Ev Src}{g g2:Tg}{t t2:Ev Bool}{e:Ev D}(S:FnS N P sc)(hi:GI X XQ tg iter f)
  (hg:∀ cl s2 H2 C fp,GG (blk X s2 H2 C scope cl N' fp) tg g) (ht:∀ cl s2 H2 C fp,GTs (blk X s2 H2 C scope cl N' fp) XN ifs t) (hi2:∀ cl s2 H2 C fp,GI (blk X s2 H2 C scope cl N' fp) XN tg2 iter2 f2) (hg2:∀ cl s2 H2 C fp,GG (blk X s2 H2 C scope cl N' fp) tg2 g2) (ht2:∀ cl s2 H2 C fp,GTs (blk X s2 H2 C scope cl N' fp) XN ifs2 t2) (he:∀ cl s2 H2 C fp,GE (blk X s2 H2 C scope cl N' fp) XN elt e)
  (ct:CompTab sc scope N N' pk:=by exact kdC) (hsc:X.env.scope=sc:=by rfl) (hNN:X.N=N:=by rfl) (hcm:X.calm=true:=by rfl) (hsw:swapsWith (.ListComp elt [⟨tg,iter,ifs,0⟩,⟨tg2,iter2,ifs2,0⟩] scope pos) (some (.Name y py)) spos.line X.env=pure true:=by rfl) (hy:N[i]?=some y:=by rfl)
  (hs:∀ x,foldedSetIterable iter X.env x=pure x:=by intro _; rfl) (hs2:∀ env x,foldedSetIterable iter2 env x=pure x:=by intro _ _; rfl) (hf:X.fn y=true:=by rfl):
  GS X XQ (.Assign [.Name y py] (.ListComp elt [⟨tg,iter,ifs,0⟩,⟨tg2,iter2,ifs2,0⟩] scope pos) spos) (sa (Ga0 f pk g t f2 g2 t2 e) (gn i)):=by
 subst hsc hNN
 exact⟨Xw i ct hcm hi.h (fun a b c d e=>(hg a b c d e).h) (fun a b c d e=>(ht a b c d e).h) (fun a b c d e=>(hi2 a b c d e).h) (fun a b c d e=>(hg2 a b c d e).h) (fun a b c d e=>(ht2 a b c d e).h) (fun a b c d e=>(he a b c d e).h) S.nd hy (okL.loc (S.ol hy).h) hsw hs hs2 (.inl hf)⟩
end
def Zu(P:Addr)(H:Hp):Prop:=H P=some (.tbl #[])/\∀ b,b≠P->H b=none\/∃ o xs,H b=some (.frz o (.lst xs))
theorem Ga2{Pr:Program}{w:World}{K:PySem.W.Frag}{mg mb:Str->Option Value}{CX:CXT}{k:Nat}{fa a c P:Addr}{fd:FuncData}{x:Str}{sp:Sp}{s₁:Shared}{vs:List Value}{ns:List Int}
  (KX:K.In s₁.heap) (hP:s₁.heap.get? P=some (PySem.W.tabObj #[])) (hC:PySem.W.CodeHd s₁.heap c P) (hnT:PySem.W.noTabs K=true) (hB:Ww mg s₁.heap) (hns:s₁.heap.Ns mainGlobals mg) (hb:s₁.heap.Ns builtinsNs mb) (hbb:∀ x:Str,x≠"__name__"->mb x=bootBuiltins x) (hlim:s₁.heap.NoLimit) (hg:s₁.gens=#[])
  (ha:s₁.heap.get? a=some { cls:=.type "list",data:=.seq vs.toArray }) (hi:IntsAre vs ns) (hl:ns.length<=sizeLine) (hr:Room k callerA)
  (F:∀ base:Heap,K.In base->base.Ns mainGlobals mg->Ww mg base->FnOk Pr w K mg base CX k fa fd [x] sp) (hbind:∀ (s:Shared) (u:Value),BindsTo s fd ⟨[u],[]⟩ [(x,u)])
  (hsp:∀ H:Hp,Zu P H->SqL K H a (ns.map V.int)->sp [.ref a] H (fun v _=>v=.bl true) fun _ _ _=>False)
  (hCX:∀ H e s',CX [] H s₁ (fun _ _ _=>False) e s'->False):
  codeAny (model Pr w) callerA (.call (.ref fa) ⟨[.ref a],[]⟩) (fun r s'=>r=.ok (.ret (.bool true))/\OldK s₁.heap s'.heap/\s'.os=s₁.os/\AllBare s'.gens) s₁:=by
 have rv:=Vw hi
 have lenV:=hi.length
 have haP:a≠P:=fun z=>by rw[z,hP] at ha; cases ha
 have hKP:K.lookup P=none:=by
  cases q:K.lookup P with
  | none=>rfl
  | some o=>
   have e:=KX P o q
   rw[hP] at e
   cases e
   have h2:=List.all_eq_true.mp hnT _ (PySem.W.mem_of_lookupK q)
   exact absurd (show false=true from h2) Bool.false_ne_true
 have core:∀ H:Hp,Zu P H->SqL K H a (ns.map V.int)->HOk Pr w H s₁.heap->(∀ b,H b≠none->b=a\/b=P)->(H a≠none->K.lookup a=none)→
   codeAny (model Pr w) callerA (.call (.ref fa) ⟨[.ref a],[]⟩) (fun r s'=>r=.ok (.ret (.bool true))/\OldK s₁.heap s'.heap/\s'.os=s₁.os/\AllBare s'.gens) s₁:=by
  intro H hO hS hok hA hK
  have base_of:∀ {b:Addr} {o:Obj},s₁.heap.get? b=some o->H b=none->(Vf s₁.heap H).get? b=some o:=fun e n=>Ga7 e n
  have noA:∀ {b:Addr} {o:Obj},s₁.heap.get? b=some o->(∀ vs n,o.data≠.seq vs n)->(∀ vs,o.data≠.fields vs)->H b=none:=fun{b o} e d1 d2=>by
   cases q:H b with
   | none=>rfl
   | some u=>
    rcases hA b (by rw[q]; simp) with e' | e'
    ·subst e'
     rw[ha] at e; cases e
     exact absurd rfl (d1 _ _)
    ·subst e'
     rw[hP] at e; cases e
     exact absurd rfl (d2 _)
  have nsK:∀ {b:Addr} {m:Str->Option Value},s₁.heap.Ns b m->(Vf s₁.heap H).Ns b m:=fun{b m} ⟨o,es,ep,e,d,r⟩=>⟨o,es,ep,base_of e (noA e (fun _ _ z=>by rw[d] at z; cases z) (fun _ z=>by rw[d] at z; cases z)),d,r⟩
  have hKb:K.In (Vf s₁.heap H):=fun b o e=>base_of (KX b o e) (by
   cases q:H b with
   | none=>rfl
   | some u=>
    rcases hA b (by rw[q]; simp) with e' | e'
    ·subst e'
     rw[hK (by rw[q]; simp)] at e; cases e
    ·subst e'
     rw[hKP] at e; cases e)
  have hBb:Ww mg (Vf s₁.heap H):=by
   obtain⟨bm,ob,b1,b2,b3,b4,b5,b6⟩:=hB
   exact⟨bm,ob,b1,b2,base_of b3 (noA b3 (fun _ _ z=>by rw[b6] at z; cases z) (fun _ z=>by rw[b6] at z; cases z)),b4,b5,b6⟩
  have hM:Mod K mg (Vf s₁.heap H):=⟨hKb,nsK hns,⟨mb,nsK hb,hbb⟩,let ⟨mc,h1,h2⟩:=hlim; ⟨mc,nsK h1,h2⟩⟩
  have e0:Env0 Pr w K mg (Vf s₁.heap H) callerA [] s₁ H:=⟨rfl,hM,fun b o e=>of_hidT e,Nat.le_of_eq (Gag _ _),trivial,fun b hb=>absurd (show b∈([]:List Addr) from hb) (by simp),hok,.of_eq hg⟩
  refine codeAny_mono ((F _ hKb (nsK hns) hBb).run callerA [] s₁ H ⟨[.ref a],[]⟩ [.ref a] [.ref a] _ _ hr e0 (hbind s₁ (.ref a)) (.cons rfl .nil) (hsp H hO hS)) fun r s' h=>?_
  cases r with
  | error e=>exact(hCX H e s' h).elim
  | ok fl=>
   cases fl with
   | next=>exact False.elim h
   | brk=>exact False.elim h
   | cont=>exact False.elim h
   | ret u=>
    obtain⟨v,H',os,bare,un,hok',r',q⟩:=h
    have q':v=.bl true:=q
    subst q'
    obtain rfl:u=Value.bool true:=r'
    have kp:∀ b o,b≠P->s₁.heap.get? b=some o->s'.heap.get? b=some o:=fun b o hbP e=>by
     cases q:H b with
     | none=>exact un.keep b o e q (by intro z; exact absurd (show b∈([]:List Addr) from z) (by simp)) (by simp)
     | some u=>
      rcases hO.2 b hbP with z | ⟨ob,xs,z⟩
      ·rw[q] at z; cases z
      ·have z2:=un.frzs b ob _ z
       obtain⟨e1,_⟩:=hok b _ z
       obtain⟨e2,_⟩:=hok' b _ z2
       rw[e] at e1; cases e1
       exact e2
    obtain⟨more,hm⟩:=un.tbls P _ hO.1
    have hP':s'.heap.get? P=some { cls:=.none,data:=.fields (#[]++more) }:=hok' P _ hm
    refine⟨rfl,⟨fun b o e=>?_,fun b o e=>?_⟩,os,bare⟩
    ·by_cases hbP:b=P
     ·subst hbP
      rw[hP] at e
      cases e
      exact .inr (.inl ⟨(hC.tab hP).isCodeTable,rfl,#[],more,rfl,hP'⟩)
     ·exact .inl (kp b o hbP e)
    ·by_cases hbP:b=P
     ·subst hbP; exact⟨_,hP'⟩
     ·exact⟨o,kp b o hbP e⟩
 cases hk:K.lookup a with
 | some o=>
  have e:=KX a o hk
  rw[ha] at e
  cases e
  refine core (fun b=>if b=P then some (.tbl #[]) else none) ⟨if_pos rfl,fun b hb=>.inl (if_neg hb)⟩ (.inr ⟨_,vs.toArray,_,hk,rfl,rfl,rfl,by rw[List.size_toArray,lenV]; exact hl,by simpa using rv⟩) (fun b u z=>?_) (fun b z=>?_) fun z=>absurd (if_neg haP) z
  ·by_cases hb:b=P
   ·have z':=(if_pos hb).symm.trans z
    cases z'
    rw[hb]; exact hP
   ·have z':=(if_neg hb).symm.trans z
    cases z'
  ·by_cases hb:b=P
   ·exact .inr hb
   ·exact absurd (if_neg hb) z
 | none=>
  have hF:∀ b,(fun b=>if b=P then some (.tbl #[]) else if b=a then some (.frz { cls:=.type "list",data:=.seq vs.toArray } (.lst (ns.map V.int))) else none:Hp) b=if b=P then some (.tbl #[]) else if b=a then some (.frz { cls:=.type "list",data:=.seq vs.toArray } (.lst (ns.map V.int))) else none:=fun _=>rfl
  have atA:(if a=P then some (.tbl #[]) else if a=a then some (.frz { cls:=.type "list",data:=.seq vs.toArray } (.lst (ns.map V.int))) else none:Option HO)=some (.frz { cls:=.type "list",data:=.seq vs.toArray } (.lst (ns.map V.int))):=by rw[if_neg haP,if_pos rfl]
  refine core (fun b=>if b=P then some (.tbl #[]) else if b=a then some (.frz { cls:=.type "list",data:=.seq vs.toArray } (.lst (ns.map V.int))) else none) ⟨if_pos rfl,fun b hb=>?_⟩ (.inl (.inr ⟨{ cls:=.type "list",data:=.seq vs.toArray },atA⟩)) (fun b u z=>?_) (fun b z=>?_) fun _=>hk
  ·rw[hF,if_neg hb]
   by_cases hba:b=a
   ·exact .inr ⟨_,_,if_pos hba⟩
   ·exact .inl (if_neg hba)
  ·rw[hF] at z
   by_cases hbP:b=P
   ·rw[if_pos hbP] at z
    cases z
    rw[hbP]; exact hP
   ·rw[if_neg hbP] at z
    by_cases hb:b=a
    ·rw[if_pos hb] at z
     cases z
     subst hb
     exact⟨ha,by rw[List.length_map]; exact hl,vs,_,rv,ha⟩
    ·rw[if_neg hb] at z; cases z
  ·by_cases hbP:b=P
   ·exact .inr hbP
   ·rw[if_neg hbP] at z
    by_cases hb:b=a
    ·exact .inl hb
    ·rw[if_neg hb] at z; exact absurd rfl z
theorem Gcs{l:PySem.W.OpenLaw}{n k:Nat}{q:Program}{loose:List Str}{XP:(Str->Option Value)->Heap->Prop}{YP:World->Heap->Prop}{d:DefRec}{K:Params->PySem.W.Frag}{CX:CXT}{sp:PySem.W.Frag->Sp}{x:Str}{P:Addr}
  (hn:l.most=some n) (hn2:n<=sizeLine) (hdf:d.params.defaults=[]) (hr:Room k callerA)
  (hY:∀ (w:World) (h:Heap),YP w h->(K w.params).In h/\h.get? P=some (PySem.W.tabObj #[]))
  (hT:∀ w:World,ltB (K w.params)=true) (hTP:∀ w:World,(PySem.W.tabIn (K w.params) "deepest").map (·.2)=some P) (hN:∀ w:World,PySem.W.noTabs (K w.params)=true)
  (F:∀ (w:World) (mg:Str->Option Value) (fa:Addr) (h:Heap),(K w.params).In h->h.Ns mainGlobals mg->mg d.name=some (.ref fa)→
   ∃ fd:FuncData,(∀ (s:Shared) (u:Value),BindsTo s fd ⟨[u],[]⟩ [(x,u)])∧
    ∀ base:Heap,(K w.params).In base->base.Ns mainGlobals mg->Ww mg base->FnOk l.prog w (K w.params) mg base CX k fa fd [x] (sp (K w.params)))
  (hsp:∀ (K:PySem.W.Frag) (H:Hp) (a:Addr) (ns:List Int),ns.length<=n->Vj K P->Zu P H->SqL K H a (ns.map V.int)->sp K [.ref a] H (fun v _=>v=.bl true) fun _ _ _=>False)
  (hCX:∀ (H:Hp) (s:Shared) (e:Value) (s':Shared),CX [] H s (fun _ _ _=>False) e s'->False):
  PySem.W.WalkO q loose XP YP l.row.toRowW d [] (fun f vs=>PySem.call f vs):=by
 refine Att.attach_call hn hdf fun w s₀ s₁ mg mb fa o pm cd doc a vs ns G Y ho hd hcd hmg hobj hints hlen hg=>?_
 obtain⟨KX,hP⟩:=hY w _ Y
 obtain⟨fd,hb,hF⟩:=F w mg fa _ KX G.T.g hmg
 have hlt:=hT w
 have hTw:=hTP w
 unfold ltB at hlt
 cases z:PySem.W.tabIn (K w.params) "deepest" with
 | none=>rw[z] at hlt; cases hlt
 | some q=>
  obtain⟨c,P'⟩:=q
  rw[z] at hlt hTw
  cases (show some P'=some P from hTw)
  exact Ga2 (sp:=sp (K w.params)) KX hP (PySem.W.codeHd_of_K KX hlt) (hN w) G.T.bmain G.T.g G.T.b G.T.builtins G.T.nolimit hg hobj hints (Nat.le_trans hlen hn2) hr hF hb (fun H hO hS=>hsp _ H a ns hlen (by unfold Vj; rw[z]; rfl) hO hS) fun H e s'=>hCX H s₁ e s'
end DL
namespace Law
open PySem PySem.Spec PyProof.Rows L2 DL
def top(i:Nat):Stmt:=PySem.Challenge.pw_summitwater_k54_least_brims.main.body.getD i (.Pass ⟨0,0,0,0⟩)
abbrev Jl:Stmt:=top 1
abbrev Qf:Stmt:=top 3
abbrev Jv:Stmt:=top 4
abbrev Jw:Stmt:=top 6
abbrev Kg:Stmt:=top 7
abbrev Kh:Stmt:=top 8
abbrev Jx:Stmt:=top 9
abbrev Ki:Stmt:=top 10
abbrev Jm:Stmt:=top 11
abbrev Jn:Stmt:=top 12
abbrev Uw:Stmt:=top 13
structure Hs(K:PySem.W.Frag):Prop where
 h_stretch_sum:FH K "stretch_sum" Jl
 h_deepest:FH K "deepest" Qf
 h_least_brim:FH K "least_brim" Jv
 h__law_mixed:FH K "_law_mixed" Jw
 h__law_tape:FH K "_law_tape" Kg
 h__law_take:FH K "_law_take" Kh
 h__law_large:FH K "_law_large" Jx
 h__law_days:FH K "_law_days" Ki
 h__law_number:FH K "_law_number" Jm
 h__law_walked:FH K "_law_walked" Jn
 h_law:FH K "law" Uw
 z_bool:PySem.W.nsIn K mainGlobals "bool"=some none
 z_divmod:PySem.W.nsIn K mainGlobals "divmod"=some none
 z_int:PySem.W.nsIn K mainGlobals "int"=some none
 z_isinstance:PySem.W.nsIn K mainGlobals "isinstance"=some none
 z_len:PySem.W.nsIn K mainGlobals "len"=some none
 z_list:PySem.W.nsIn K mainGlobals "list"=some none
 z_max:PySem.W.nsIn K mainGlobals "max"=some none
 z_min:PySem.W.nsIn K mainGlobals "min"=some none
 z_range:PySem.W.nsIn K mainGlobals "range"=some none
 z_sum:PySem.W.nsIn K mainGlobals "sum"=some none
 z_tuple:PySem.W.nsIn K mainGlobals "tuple"=some none
structure Txt(K:PySem.W.Frag)(mg:Str->Option Value):Prop where
 b_bool:mg "bool"=none
 b_divmod:mg "divmod"=none
 b_int:mg "int"=none
 b_isinstance:mg "isinstance"=none
 b_len:mg "len"=none
 b_list:mg "list"=none
 b_max:mg "max"=none
 b_min:mg "min"=none
 b_range:mg "range"=none
 b_sum:mg "sum"=none
 b_tuple:mg "tuple"=none
structure All(P:Program)(w:World)(K:PySem.W.Frag)(mg:Str->Option Value)(base:Heap):Prop where
 h:Hs K
 g:GH K mg
 t:Txt K mg
 lt:ltB K=true
 bm:Ww mg base
section
variable{P:Program}{w:World}{K:PySem.W.Frag}{mg:Str->Option Value}{base:Heap}
def Ho:Sv:=(sq (sa (b1 dmD (ac (vr 2) (ac (b1 Jd (ac (vr 0) an)) an))) (gt (gcons (gn 3) (gcons (gn 4) gnil)) 2))
  (sret (o2 Jb (o2 Jt (vr 3) (b1 Ws (ac (vr 0) an))) (b1 Ws (ac (sl2 (o2 Jb (vr 0) (vr 0)) (osome (vr 1)) (osome (o2 Jb (vr 1) (vr 4)))) an)))))
def Gv:Fn:=fnB 5 Ho
theorem Ux:FnS ["days","first","many","rounds","rest"] ["days","first","many"] (Gb Jl):=kdF
abbrev z0:=Gb Jl
theorem Km(Al:All P w K mg base):Cal P w K mg base "stretch_sum" ["days","first","many"] Gv 1:=by
 have Sc:=Ux
 have T:=Al.t
 refine calw (b:=Ho) 0 Al.h.h_stretch_sum Al.g Sc rfl fun _ _ _ _ _ _ _ hr=>?_
 conv=>arg 3; whnf
 refine GSs.h ?_
 exact(Ge (Gch (Gay (gG z0) T.b_divmod (Ga (gw 2 Sc) (Ga (Jk (gG z0) T.b_len (Ga (gw 0 Sc) ga_nil Gc)) ga_nil Kx) Gc)) (Gcg rfl (Qj (ggw 3 Sc) (Qj (ggw 4 Sc) Zo))))
  (Gj (Hd (Hm (Je (gw 3 Sc) (Wv rfl (gG z0) T.b_sum (Ga (gw 0 Sc) ga_nil Gc))) (Wv rfl (gG z0) T.b_sum (Ga (Qv (Hm (gw 0 Sc) (gw 0 Sc)) (Um (gw 1 Sc)) (Um (Hm (gw 1 Sc) (gw 4 Sc)))) ga_nil Gs))))))
def Kd:Sv:=(sq (sa (Ga0 (ir1 (ac (b1 Jd (ac (vr 0) an)) an)) [none,none,some 0] (gn 0) ttrue (ir2 (ac (cn (.int 1)) (ac (o2 Jb (b1 Jd (ac (vr 2) an)) (cn (.int 1))) an))) (gn 1) ttrue (tp (ac (vr 0) (ac (vr 1) an)))) (gn 1))
  (sret (mkD (vr 1) [none,some 0] (cl 3 (Gm Gv) (ac (vr 1) (ac (o2 getD (vr 0) (cn (.int 0))) (ac (o2 getD (vr 0) (cn (.int 1))) an)))))))
def Qw:Fn:=fnB 2 Kd
theorem Yw:FnS ["days","stretches"] ["days"] (Gb Qf):=kdF
abbrev z1:=Gb Qf
theorem Xz(Al:All P w K mg base):Cal P w K mg base "deepest" ["days"] Qw 4:=by
 have Sc:=Yw
 have T:=Al.t
 refine Gkv (b:=Kd) 3 Al.h.h_deepest Al.g Sc Al.lt rfl fun _ _ _ _ _ _ _ LC hr=>?_
 conv=>arg 3; whnf
 refine GSs.h ?_
 exact(Ge (Gky 1 (N':=["first","many","days"]) (pk:=[none,none,some 0]) Sc (Wa (gG z1) T.b_range (Ga (Jk (gG z1) T.b_len (Ga (gw 0 Sc) ga_nil Gc)) ga_nil Kx)) (fun cl s2 H2 C fp=>(Gfd 0)) (fun cl s2 H2 C fp=>Zq) (fun cl s2 H2 C fp=>(Gaz glB_w T.b_range (Ga ge_int (Ga (Hm (Jk glB_w T.b_len (Ga (Gcl 2) ga_nil Gc)) ge_int) ga_nil Hg) Gi))) (fun cl s2 H2 C fp=>(Gfd 1)) (fun cl s2 H2 C fp=>Zq) (fun cl s2 H2 C fp=>(Yu (Ga (Gcl 0) (Ga (Gcl 1) ga_nil Gc) Gc))))
  (Gj (Hd (Gkx (x:="stretch") (N':=["stretch","days"]) (pk:=[none,some 0]) Sc hr LC Al.bm T.b_min (gw 1 Sc) (fun f cd cl s H hrL=>(Gmb (Km Al) hrL (Ga (gvL 1) (Ga (Hc (gvL 0) ge_int) (Ga (Hc (gvL 0) ge_int) ga_nil Gs) Gs) Gc)))))))
def Hj:Sv:=(sq (sif (tb (o2 ltD (b1 Ws (ac (vr 0) an)) (cn (.int 0))))
  (sret (cn .non))
  skip)
  (sq (sa (cl 1 (Gm Qw) (ac (vr 0) an)) (gt (gcons (gn 1) (gcons (gn 2) gnil)) 2))
  (sret (b1 Gaw (ac (cn (.int 0)) (ac (o1 Gbw (cl 3 (Gm Gv) (ac (vr 0) (ac (vr 1) (ac (vr 2) an))))) an))))))
def Ha:Fn:=fnB 3 Hj
theorem Vl:FnS ["days","first","many"] ["days"] (Gb Jv):=kdF
abbrev z2:=Gb Jv
theorem Uy(Al:All P w K mg base):Cal P w K mg base "least_brim" ["days"] Ha 5:=by
 have Sc:=Vl
 have T:=Al.t
 refine calw (b:=Hj) 4 Al.h.h_least_brim Al.g Sc rfl fun _ _ _ _ _ _ _ hr=>?_
 conv=>arg 3; whnf
 refine GSs.h ?_
 exact(Ge (Kr (Uc (Wv rfl (gG z2) T.b_sum (Ga (gw 0 Sc) ga_nil Gc)) ge_int)
  (Gj (Hd Gcb))
  Hv)
  (Ge (Gch (gow z2 (Xz Al) hr (Ga (gw 0 Sc) ga_nil Gc)) (Gcg rfl (Qj (ggw 1 Sc) (Qj (ggw 2 Sc) Zo))))
  (Gj (Hd (Gip rfl (gG z2) T.b_max (Ga ge_int (Ga (Gin (gow z2 (Km Al) hr (Ga (gw 0 Sc) (Ga (gw 1 Sc) (Ga (gw 2 Sc) ga_nil Gc) Gc) Gc))) ga_nil Yt) Gi))))))
def Kj:Sv:=(sq (sa (o2 Ky (o2 Jt (o2 Jb (o2 Jb (o2 Ky (vr 0) (cn (.int 1000000007))) (o2 Jt (cn (.int 40692)) (vr 1))) (cn (.int 1))) (cn (.int 48271))) (cn (.int 2147483647))) (gn 2))
  (sq (sa (o2 Ky (o2 Jt (vr 2) (vr 2)) (cn (.int 998244353))) (gn 2))
  (sret (o2 Vy (o2 Ky (o2 Jb (o2 Jt (vr 2) (cn (.int 69621))) (o2 Jt (cn (.int 7919)) (vr 1))) (cn (.int 1000000007))) (cn (.int 7))))))
def Hb:Fn:=fnB 3 Kj
theorem Vm:FnS ["cell","turn","stir"] ["cell","turn"] (Gb Jw):=kdF
abbrev z3:=Gb Jw
theorem Ks(Al:All P w K mg base):Cal P w K mg base "_law_mixed" ["cell","turn"] Hb 1:=by
 have Sc:=Vm
 refine calw (b:=Kj) 0 Al.h.h__law_mixed Al.g Sc rfl fun _ _ _ _ _ _ _ hr=>?_
 conv=>arg 3; whnf
 refine GSs.h ?_
 exact(Ge (gsew 2 Sc (Ju (Je (Hm (Hm (Ju (gw 0 Sc) ge_int) (Je ge_int (gw 1 Sc))) ge_int) ge_int) ge_int))
  (Ge (gsew 2 Sc (Ju (Je (gw 2 Sc) (gw 2 Sc)) ge_int))
  (Gj (Hd (Zk (Ju (Hm (Je (gw 2 Sc) ge_int) (Je ge_int (gw 1 Sc))) ge_int) ge_int)))))
def Jo:Sv:=(sa (o2 Ky (o2 Jb (o2 Jt (vr 1) (cn (.int 69621))) (vr 2)) (cn (.int 2147483647))) (gn 1))
def Jc:Sv:=(sq (sa (cn (.int 0)) (gn 1))
  (sq (sfor (isrc (sl2 (vr 0) onone (osome (cn (.int 63))))) (gn 2) Jo)
  (sret (ls (ac (b1 Ub (ac (sl2 (vr 0) onone (osome (cn (.int 63)))) an)) (ac (cn (.int 0)) (ac (vr 1) (ac (cn (.int 0)) an))))))))
def Jq:Fn:=fnB 3 Jc
theorem Wx:FnS ["script","seed","cell"] ["script"] (Gb Kg):=kdF
abbrev z4:=Gb Kg
theorem Vn(Al:All P w K mg base):Cal P w K mg base "_law_tape" ["script"] Jq 1:=by
 have Sc:=Wx
 have T:=Al.t
 refine calw (b:=Jc) 0 Al.h.h__law_tape Al.g Sc rfl fun _ _ _ _ _ _ _ hr=>?_
 conv=>arg 3; whnf
 refine GSs.h ?_
 exact(Ge (gsew 1 Sc ge_int)
  (Ge (Gci PassesOwn.never rfl (Giu (Qv (gw 0 Sc) Zn (Um ge_int))) (ggw 2 Sc)
  (Gj (gsew 1 Sc (Ju (Hm (Je (gw 1 Sc) ge_int) (gw 2 Sc)) ge_int))))
  (Gj (Hd (Wu (Ga (Gek (gG z4) T.b_list (Ga (Qv (gw 0 Sc) Zn (Um ge_int)) ga_nil Gs)) (Ga ge_int (Ga (gw 1 Sc) (Ga ge_int ga_nil Gi) Gc) Gi) Kx))))))
def Ue:Sv:=(sq (ss (o2 Jb (o2 getD (vr 0) (cn (.int 3))) (cn (.int 1))) (vr 0) (cn (.int 3)) Kz)
  (sq (sif (ta (tb (o2 eqD (o2 getD (vr 0) (cn (.int 1))) (cn (.int 0)))) (tb (o2 gtD (b1 Jd (ac (o2 getD (vr 0) (cn (.int 0))) an)) (cn (.int 0)))))
  (sq (sa (mt Xo (o2 getD (vr 0) (cn (.int 0))) (ac (cn (.int 0)) an)) (gn 2))
  (sq (sif (tb (o2 ltD (vr 2) (o2 Uh (cn (.int 10)) (cn (.int 18)))))
  (sret (o2 Ky (cl 2 (Gm Hb) (ac (vr 2) (ac (o2 getD (vr 0) (cn (.int 3))) an))) (vr 1)))
  skip)
  (ss (vr 2) (vr 0) (cn (.int 1)) Kz)))
  skip)
  (sq (sif (tb (o2 gtD (o2 getD (vr 0) (cn (.int 1))) (cn (.int 0))))
  (sq (sa (o2 Ky (o2 getD (vr 0) (cn (.int 1))) (vr 1)) (gn 3))
  (sq (ss (o2 Vy (o2 getD (vr 0) (cn (.int 1))) (vr 1)) (vr 0) (cn (.int 1)) Kz)
  (sret (vr 3))))
  skip)
  (sret (o2 Ky (cl 2 (Gm Hb) (ac (o2 getD (vr 0) (cn (.int 2))) (ac (o2 getD (vr 0) (cn (.int 3))) an))) (vr 1))))))
def Gp:Fn:=fnB 4 Ue
theorem Wy:FnS ["tape","many","cell","found"] ["tape","many"] (Gb Kh):=kdF
abbrev z5:=Gb Kh
theorem Gn(Al:All P w K mg base):Cal P w K mg base "_law_take" ["tape","many"] Gp 2:=by
 have Sc:=Wy
 have T:=Al.t
 refine calw (b:=Ue) 1 Al.h.h__law_take Al.g Sc rfl fun _ _ _ _ _ _ _ hr=>?_
 conv=>arg 3; whnf
 refine GSs.h ?_
 exact(Ge (Qk (Hm (Hc (gw 0 Sc) ge_int) ge_int) (gw 0 Sc) ge_int)
  (Ge (Kr (GW.jt (Gcf (Zl hr.units (Hc (gw 0 Sc) ge_int) ge_int) (Zm (Gce (Jk (gG z5) T.b_len (Ga (Hc (gw 0 Sc) ge_int) ga_nil Gs)) ge_int))))
  (Ge (gsew 2 Sc (Giq (Hc (gw 0 Sc) ge_int) (Ga ge_int ga_nil Gi)))
  (Ge (Kr (Uc (gw 2 Sc) (Uu ge_int ge_int))
  (Gj (Hd (Ju (gow z5 (Ks Al) hr (Ga (gw 2 Sc) (Ga (Hc (gw 0 Sc) ge_int) ga_nil Gs) Gc)) (gw 1 Sc))))
  Hv)
  (Gj (Qk (gw 2 Sc) (gw 0 Sc) ge_int))))
  Hv)
  (Ge (Kr (Gce (Hc (gw 0 Sc) ge_int) ge_int)
  (Ge (gsew 3 Sc (Ju (Hc (gw 0 Sc) ge_int) (gw 1 Sc)))
  (Ge (Qk (Zk (Hc (gw 0 Sc) ge_int) (gw 1 Sc)) (gw 0 Sc) ge_int)
  (Gj (Hd (gw 3 Sc)))))
  Hv)
  (Gj (Hd (Ju (gow z5 (Ks Al) hr (Ga (Hc (gw 0 Sc) ge_int) (Ga (Hc (gw 0 Sc) ge_int) ga_nil Gs) Gs)) (gw 1 Sc)))))))
def Jf:Sv:=(sq (sa (o2 Jb (o2 Jt (vr 2) (o2 Uh (cn (.int 10)) (cn (.int 6)))) (cl 2 (Gm Gp) (ac (vr 0) (ac (o2 Uh (cn (.int 10)) (cn (.int 6))) an)))) (gn 2))
  (sa (o2 Jt (vr 3) (o2 Uh (cn (.int 10)) (cn (.int 6)))) (gn 3)))
def Ht:Ev Bool:=(tb (o2 ltD (vr 3) (vr 1)))
def Kk:Sv:=(sq (sa (cn (.int 0)) (gn 2))
  (sq (sa (cn (.int 1)) (gn 3))
  (sq (whN Ht Jf 1000)
  (sret (o2 Ky (vr 2) (vr 1))))))
def Jg:Fn:=fnB 4 Kk
theorem Vo:FnS ["tape","many","found","size"] ["tape","many"] (Gb Jx):=kdF
abbrev z6:=Gb Jx
theorem Uz(Al:All P w K mg base):Cal P w K mg base "_law_large" ["tape","many"] Jg 3:=by
 have Sc:=Vo
 refine calw (b:=Kk) 2 Al.h.h__law_large Al.g Sc rfl fun _ _ _ _ _ _ _ hr=>?_
 conv=>arg 3; whnf
 refine GSs.h ?_
 exact(Ge (gsew 2 Sc ge_int)
  (Ge (gsew 3 Sc ge_int)
  (Ge (Xs 1000 PassesOwn.never (Uc (gw 3 Sc) (gw 1 Sc))
  (Ge (gsew 2 Sc (Hm (Je (gw 2 Sc) (Uu ge_int ge_int)) (gow z6 (Gn Al) hr (Ga (gw 0 Sc) (Ga (Uu ge_int ge_int) ga_nil Hg) Gc))))
  (Gj (gsew 3 Sc (Je (gw 3 Sc) (Uu ge_int ge_int))))))
  (Gj (Hd (Ju (gw 2 Sc) (gw 1 Sc)))))))
def Hi:Sv:=(sq (sa (o2 Vk (cl 2 (Gm Jg) (ac (vr 0) (ac (o2 Jb (o2 Jt (cn (.int 2)) (vr 4)) (cn (.int 1))) an))) (vr 4)) (gn 6))
  (sq (sx (mt Xp (vr 5) (ac (cl 2 (Gm Gp) (ac (vr 0) (ac (o2 Jb (b1 Jd (ac (vr 5) an)) (cn (.int 1))) an))) (ac (vr 6) an))))
  (sif (ta (tb (o2 eqD (vr 3) (cn (.int 1)))) (tb (o2 ltD (b1 Jd (ac (vr 5) an)) (vr 1))))
  (sx (mt Xp (vr 5) (ac (cl 2 (Gm Gp) (ac (vr 0) (ac (o2 Jb (b1 Jd (ac (vr 5) an)) (cn (.int 1))) an))) (ac (o2 Vk (cn (.int 0)) (vr 6)) an))))
  skip)))
def Gz:Ev Bool:=(tb (o2 ltD (b1 Jd (ac (vr 5) an)) (vr 1)))
def Jr:Sv:=(sq (sa (o2 Jb (cn (.int 1)) (cl 2 (Gm Gp) (ac (vr 0) (ac (o2 getD (ls (ac (cn (.int 3)) (ac (cn (.int 8)) (ac (cn (.int 60)) an)))) (cl 2 (Gm Gp) (ac (vr 0) (ac (cn (.int 3)) an)))) an)))) (gn 1))
  (sq (sa (o2 getD (ls (ac (cn (.int 10)) (ac (cn (.int 1000)) (ac (o2 Uh (cn (.int 10)) (cn (.int 15))) an)))) (cl 2 (Gm Gp) (ac (vr 0) (ac (cn (.int 3)) an)))) (gn 2))
  (sq (sa (cl 2 (Gm Gp) (ac (vr 0) (ac (cn (.int 2)) an))) (gn 3))
  (sq (sa (o2 Vk (o2 Vk (vr 2) (cn (.int 1))) (vr 3)) (gn 4))
  (sq (sa (ls an) (gn 5))
  (sq (whN Gz Hi 1000)
  (sq (sif (tb (o2 eqD (vr 3) (cn (.int 1))))
  (sq (sa (cl 2 (Gm Gp) (ac (vr 0) (ac (vr 1) an))) (gn 7))
  (ss (o2 Vk (o2 Jb (o2 getD (vr 5) (vr 7)) (cl 2 (Gm Gp) (ac (vr 0) (ac (cn (.int 3)) an)))) (cn (.int 1))) (vr 5) (vr 7) Kz))
  skip)
  (sret (b1 Ys (ac (vr 5) an))))))))))
def Hu:Fn:=fnB 8 Jr
theorem Wz:FnS ["tape","size","scale","even","wide","days","day","at"] ["tape"] (Gb Ki):=kdF
abbrev z7:=Gb Ki
theorem Vp(Al:All P w K mg base):Cal P w K mg base "_law_days" ["tape"] Hu 4:=by
 have Sc:=Wz
 have T:=Al.t
 refine calw (b:=Jr) 3 Al.h.h__law_days Al.g Sc rfl fun _ _ _ _ _ _ _ hr=>?_
 conv=>arg 3; whnf
 refine GSs.h ?_
 exact(Ge (gsew 1 Sc (Hm ge_int (gow z7 (Gn Al) hr (Ga (gw 0 Sc) (Ga (Hc (Wu (Ga ge_int (Ga ge_int (Ga ge_int ga_nil Gi) Gi) Gi)) (gow z7 (Gn Al) hr (Ga (gw 0 Sc) (Ga ge_int ga_nil Gi) Gc))) ga_nil Gs) Gc))))
  (Ge (gsew 2 Sc (Hc (Wu (Ga ge_int (Ga ge_int (Ga (Uu ge_int ge_int) ga_nil Hg) Gi) Gi)) (gow z7 (Gn Al) hr (Ga (gw 0 Sc) (Ga ge_int ga_nil Gi) Gc))))
  (Ge (gsew 3 Sc (gow z7 (Gn Al) hr (Ga (gw 0 Sc) (Ga ge_int ga_nil Gi) Gc)))
  (Ge (gsew 4 Sc (Qe (Qe (gw 2 Sc) ge_int) (gw 3 Sc)))
  (Ge (gsew 5 Sc (Wu ga_nil))
  (Ge (Xs 1000 PassesOwn.never (Uc (Jk (gG z7) T.b_len (Ga (gw 5 Sc) ga_nil Gc)) (gw 1 Sc))
  (Ge (gsew 6 Sc (Qe (gow z7 (Uz Al) hr (Ga (gw 0 Sc) (Ga (Hm (Je ge_int (gw 4 Sc)) ge_int) ga_nil Hg) Gc)) (gw 4 Sc)))
  (Ge (Zp (Vz (gw 5 Sc) (Ga (gow z7 (Gn Al) hr (Ga (gw 0 Sc) (Ga (Hm (Jk (gG z7) T.b_len (Ga (gw 5 Sc) ga_nil Gc)) ge_int) ga_nil Hg) Gc)) (Ga (gw 6 Sc) ga_nil Gc) Kx)))
  (Gj (Kr (GW.jt (Gcf (Zl hr.units (gw 3 Sc) ge_int) (Zm (Uc (Jk (gG z7) T.b_len (Ga (gw 5 Sc) ga_nil Gc)) (gw 1 Sc)))))
  (Gj (Zp (Vz (gw 5 Sc) (Ga (gow z7 (Gn Al) hr (Ga (gw 0 Sc) (Ga (Hm (Jk (gG z7) T.b_len (Ga (gw 5 Sc) ga_nil Gc)) ge_int) ga_nil Hg) Gc)) (Ga (Qe ge_int (gw 6 Sc)) ga_nil Hg) Kx))))
  Hv)))))
  (Ge (Kr (Zl hr.units (gw 3 Sc) ge_int)
  (Ge (gsew 7 Sc (gow z7 (Gn Al) hr (Ga (gw 0 Sc) (Ga (gw 1 Sc) ga_nil Gc) Gc)))
  (Gj (Qk (Qe (Hm (Hc (gw 5 Sc) (gw 7 Sc)) (gow z7 (Gn Al) hr (Ga (gw 0 Sc) (Ga ge_int ga_nil Gi) Gc))) ge_int) (gw 5 Sc) (gw 7 Sc))))
  Hv)
  (Gj (Hd (Gcd (gG z7) T.b_tuple (Ga (gw 5 Sc) ga_nil Gc)))))))))))
def Jy:Sv:=(sret (va (o1 (isD "int") (vr 0)) (vn (o1 (isD "bool") (vr 0)))))
def Hy:Fn:=fnB 1 Jy
theorem Va:FnS ["found"] ["found"] (Gb Jm):=kdF
abbrev z8:=Gb Jm
theorem Uj(Al:All P w K mg base):Cal P w K mg base "_law_number" ["found"] Hy 1:=by
 have Sc:=Va
 have T:=Al.t
 refine calw (b:=Jy) 0 Al.h.h__law_number Al.g Sc rfl fun _ _ _ _ _ _ _ hr=>?_
 conv=>arg 3; whnf
 refine GSs.h ?_
 exact(Gj (Hd (Gil (Gck (gG z8) (gG z8) Geg T.b_isinstance T.b_int (gw 0 Sc)) (Gcc (Gim (Gck (gG z8) (gG z8) Gb4 T.b_isinstance T.b_bool (gw 0 Sc)))))))
def Gk:Sv:=(sq (sa (o2 Jb (vr 2) (o2 getD (vr 1) (o2 Ky (vr 4) (b1 Jd (ac (vr 1) an))))) (gn 2))
  (sq (sif (tb (o2 ltD (vr 2) (cn (.int 0))))
  (sret (tp (ac (cn (.str "dry")) (ac (vr 4) an))))
  skip)
  (sif (tb (o2 gtD (vr 2) (vr 0)))
  (sa (vr 0) (gn 2))
  skip)))
def Hz:Sv:=(sq (sfor (ir1 (ac (vr 3) an)) (gn 4) Gk)
  (sret (tp (ac (cn (.str "level")) (ac (vr 2) an)))))
def Ja:Fn:=fnB 5 Hz
theorem Vb:FnS ["brim","days","level","many","at"] ["brim","days","level","many"] (Gb Jn):=kdF
abbrev z9:=Gb Jn
theorem Kn(Al:All P w K mg base):Cal P w K mg base "_law_walked" ["brim","days","level","many"] Ja 1:=by
 have Sc:=Vb
 have T:=Al.t
 refine calw (b:=Hz) 0 Al.h.h__law_walked Al.g Sc rfl fun _ _ _ _ _ _ _ hr=>?_
 conv=>arg 3; whnf
 refine GSs.h ?_
 exact(Ge (Gci PassesOwn.never rfl (Wa (gG z9) T.b_range (Ga (gw 3 Sc) ga_nil Gc)) (ggw 4 Sc)
  (Ge (gsew 2 Sc (Hm (gw 2 Sc) (Hc (gw 1 Sc) (Ju (gw 4 Sc) (Jk (gG z9) T.b_len (Ga (gw 1 Sc) ga_nil Gc))))))
  (Ge (Kr (Uc (gw 2 Sc) ge_int)
  (Gj (Hd (Yu (Ga Wt (Ga (gw 4 Sc) ga_nil Gc) Gi))))
  Hv)
  (Gj (Kr (Gce (gw 2 Sc) (gw 0 Sc))
  (Gj (gsew 2 Sc (gw 0 Sc)))
  Hv)))))
  (Gj (Hd (Yu (Ga Wt (Ga (gw 2 Sc) ga_nil Gc) Gi)))))
def Ya:Sv:=(sq (sa (cl 1 (Gm Hu) (ac (cl 1 (Gm Jq) (ac (vr 0) an)) an)) (gn 1))
  (sq (sa (cl 1 (Gm Ha) (ac (vr 1) an)) (gn 2))
  (sq (sif (tb (o2 ltD (b1 Ws (ac (vr 1) an)) (cn (.int 0))))
  (sret (o2 Gb0 (vr 2) (cn .non)))
  skip)
  (sq (sif (to (tn (tt (cl 1 (Gm Hy) (ac (vr 2) an)))) (tb (o2 ltD (vr 2) (cn (.int 0)))))
  (sret (cn (.bl false)))
  skip)
  (sq (sif (tb (o2 eqD (o2 getD (cl 4 (Gm Ja) (ac (vr 2) (ac (vr 1) (ac (vr 2) (ac (o2 Jt (cn (.int 2)) (b1 Jd (ac (vr 1) an))) an))))) (cn (.int 0))) (cn (.str "dry"))))
  (sret (cn (.bl false)))
  skip)
  (sret (vo (o2 eqD (vr 2) (cn (.int 0))) (o2 eqD (o2 getD (cl 4 (Gm Ja) (ac (o2 Vk (vr 2) (cn (.int 1))) (ac (vr 1) (ac (o2 Vk (vr 2) (cn (.int 1))) (ac (o2 Jt (cn (.int 2)) (b1 Jd (ac (vr 1) an))) an))))) (cn (.int 0))) (cn (.str "dry"))))))))))
def Wb:Fn:=fnB 3 Ya
theorem Gix:FnS ["script","days","found"] ["script"] (Gb Uw):=kdF
abbrev z10:=Gb Uw
theorem Gem(Al:All P w K mg base){f:Addr}{fd:FuncData}(F:Fun K "law" "law" Uw f fd):FnOk P w K mg base CX0 6 f fd ["script"] (spD K 1 Wb):=by
 have Sc:=Gix
 have T:=Al.t
 refine Ge2 (b:=Ya) F Sc.s fun cdv A outer s H E hr=>?_
 conv=>arg 3; whnf
 refine GSs.h ?_
 exact(Ge (gsew 1 Sc (gow z10 (Vp Al) hr (Ga (gow z10 (Vn Al) hr (Ga (gw 0 Sc) ga_nil Gc)) ga_nil Kx)))
  (Ge (gsew 2 Sc (gow z10 (Uy Al) hr (Ga (gw 1 Sc) ga_nil Gc)))
  (Ge (Kr (Uc (Wv rfl (gG z10) T.b_sum (Ga (gw 1 Sc) ga_nil Gc)) ge_int)
  (Gj (Hd (Gik (gw 2 Sc) Gcb)))
  Hv)
  (Ge (Kr (GW.jt (Gkq (Gir (Gis (gow z10 (Uj Al) hr (Ga (gw 2 Sc) ga_nil Gc)))) (Git (Uc (gw 2 Sc) ge_int))))
  (Gj (Hd Gfb))
  Hv)
  (Ge (Kr (Zl hr.units (Hc (gow z10 (Kn Al) hr (Ga (gw 2 Sc) (Ga (gw 1 Sc) (Ga (gw 2 Sc) (Ga (Je ge_int (Jk (gG z10) T.b_len (Ga (gw 1 Sc) ga_nil Gc))) ga_nil Hg) Gc) Gc) Gc)) ge_int) Wt)
  (Gj (Hd Gfb))
  Hv)
  (Gj (Hd (Gkp (Gfc hr.units (gw 2 Sc) ge_int) (Gcc (Gfc hr.units (Hc (gow z10 (Kn Al) hr (Ga (Qe (gw 2 Sc) ge_int) (Ga (gw 1 Sc) (Ga (Qe (gw 2 Sc) ge_int) (Ga (Je ge_int (Jk (gG z10) T.b_len (Ga (gw 1 Sc) ga_nil Gc))) ga_nil Hg) Hg) Gc) Hg)) ge_int) Wt))))))))))
end
theorem Giy{l:PySem.W.OpenLaw}{w:World}{K:PySem.W.Frag}{h:Heap}{mg:Str->Option Value}{fa:Addr}(X:K.In h)(G:h.Ns mainGlobals mg)(hfa:mg "law"=some (.ref fa))(HS:Hs K)
  (ltb:ltB K=true)
  : ∃ fd:FuncData,(∀ (s:Shared) (v:Value),BindsTo s fd ⟨[v],[]⟩ [("script",v)])/\∀ base:Heap,K.In base->base.Ns mainGlobals mg->Ww mg base->FnOk l.prog w K mg base CX0 6 fa fd ["script"] (spD K 1 Wb):=by
 obtain⟨_,_,_,_,_,_,_,_,_,k_law,c_law,l_law⟩:=HS.h_law.fnx X G hfa
 have F:=Wk (st:=Uw) l_law c_law k_law
 have T:Txt K mg:=⟨PySem.W.mg_none_of X G HS.z_bool,PySem.W.mg_none_of X G HS.z_divmod,PySem.W.mg_none_of X G HS.z_int,PySem.W.mg_none_of X G HS.z_isinstance,PySem.W.mg_none_of X G HS.z_len,PySem.W.mg_none_of X G HS.z_list,PySem.W.mg_none_of X G HS.z_max,PySem.W.mg_none_of X G HS.z_min,PySem.W.mg_none_of X G HS.z_range,PySem.W.mg_none_of X G HS.z_sum,PySem.W.mg_none_of X G HS.z_tuple⟩
 exact⟨_,fun s v=>.of_eq rfl,fun base _ _ hB=>Gem ⟨HS,⟨h,X,G⟩,T,ltb,hB⟩ F⟩
end Law
namespace WM
def stp(b l d:Int):Int:=min b (l+d)
def F(b:Int)(ds:List Int)(x:Int):Int:=ds.foldl (stp b) x
theorem Giz{b l d:Int}:stp b l d<=b:=by unfold stp; omega
def AP(ds:List Int)(x:Int):Prop:=∀ j,1<=j->j<=ds.length->0<=x+(ds.take j).sum
inductive R where
 | dry (k:Nat) | lev (l:Int)
def R.bind(o:R)(g:Int->R):R:=match o with
 | .dry k=>.dry k
 | .lev l=>g l
def walk(b:Int)(ds:List Int):Nat->Nat->Int->R
 | 0,_,l=>.lev l
 | n+1,k,l=>if stp b l (ds.getD (k%ds.length) 0)<0 then .dry k else walk b ds n (k+1) (stp b l (ds.getD (k%ds.length) 0))
theorem Vc{b:Int}{ds:List Int}:∀ (n m k:Nat) (l:Int),walk b ds (n+m) k l=(walk b ds n k l).bind fun l'=>walk b ds m (k+n) l'
 | 0,m,k,l=>by simp[walk,R.bind]
 | n+1,m,k,l=>by
  rw[Nat.add_right_comm]
  simp only[walk]
  split
  ·rfl
  ·rw[Vc n m]
   rw[show k+1+n=k+(n+1) by omega]
def most(b:Int)(ds:List Int):Int:=F b ds.tail b
def start(ds:List Int)(mn:Int):Int:=max 0 (-mn)
structure IsMin(ds:List Int)(mn:Int):Prop where
 le:∀ j,1<=j->j<=ds.length->mn<=(ds.take j).sum
 at':∃ j,1<=j/\j<=ds.length/\mn=(ds.take j).sum
def even(ds:List Int)(mn l1 m:Int):Int:=if l1-start ds mn<0 then 0 else if ds.sum≥0 then m else(l1-start ds mn) / (-ds.sum)+1
end WM
namespace DL
open PySem PySem.Spec PyProof.Rows L2
variable{d:D}{f g fa:Ev D}{k:Nat}
section
variable{ρ:Lc}{S:Sto}{α β:Type}
@[simp] theorem Xa{a:α}{g:α->Sto->Out β}:(Out.ok a S).bind g=g a S:=id rfl
@[simp] theorem Gkz{g:α->Sto->Out β}:(Out.bad:Out α).bind g=.bad:=id rfl
@[simp] theorem Kt{a:α}{g:α->Sto->OS}:bindS (Out.ok a S) ρ g=g a S:=id rfl
@[simp] theorem Gjc{g:α->Sto->OS}:bindS (Out.bad:Out α) ρ g=.bad:=id rfl
@[simp] theorem Gff{i:Nat}:vr i ρ S=match ρ[i]? with
 | some (some d)=>.ok d S
 | _=>.bad:=id rfl
@[simp] theorem Gk0:cn d ρ S=.ok d S:=id rfl
@[simp] theorem Gfg:an ρ S=.ok [] S:=id rfl
@[simp] theorem Gfh{g:Ev (List D)}:ac f g ρ S=(f ρ S).bind fun x S1=>(g ρ S1).bind fun xs S2=>.ok (x::xs) S2:=id rfl
@[simp] theorem Gfi{o:D->D->Sto->Out D}{fb:Ev D}:o2 o fa fb ρ S=(fa ρ S).bind fun x S1=>(fb ρ S1).bind fun y S2=>o x y S2:=id rfl
@[simp] theorem Gmk{o:D->Sto->Out D}:o1 o fa ρ S=(fa ρ S).bind fun x S1=>o x S1:=id rfl
@[simp] theorem Gfj{o:List D->Sto->Out D}{f:Ev (List D)}:b1 o f ρ S=(f ρ S).bind o:=id rfl
@[simp] theorem Gml{n:Nat}{fn:Fn}{t:Ev (List D)}:cl n fn t ρ S=(t ρ S).bind fun ds S1=>if ds.length=n then fn ds S1 else .bad:=id rfl
@[simp] theorem Gk1{fn:Fn}{ds:List D}:Gm fn ds S=match fn ds S with
 | .ok d S'=>.ok d S'
 | _=>.bad:=id rfl
@[simp] theorem Gmm:tb f ρ S=(f ρ S).bind fun x S1=>match x with
 | .bl b=>.ok b S1
 | _=>.bad:=id rfl
@[simp] theorem Gmn:tt f ρ S=(f ρ S).bind fun x S1=>match Gap x S1 with
 | some b=>.ok b S1
 | none=>.bad:=id rfl
@[simp] theorem Gmo{f:Ev Bool}:tn f ρ S=(f ρ S).bind fun b S1=>.ok (!b) S1:=id rfl
@[simp] theorem Gmp{f g:Ev Bool}:ta f g ρ S=(f ρ S).bind fun b S1=>if b=true then g ρ S1 else .ok false S1:=id rfl
@[simp] theorem Gmq{f g:Ev Bool}:to f g ρ S=(f ρ S).bind fun b S1=>if b=true then .ok true S1 else g ρ S1:=id rfl
@[simp] theorem Gmr:va f g ρ S=(f ρ S).bind fun x S1=>match x with
 | .bl b=>if b=true then g ρ S1 else .ok (.bl false) S1
 | _=>.bad:=id rfl
@[simp] theorem Gms:vo f g ρ S=(f ρ S).bind fun x S1=>match x with
 | .bl b=>if b=true then .ok (.bl true) S1 else g ρ S1
 | _=>.bad:=id rfl
@[simp] theorem Gmt:vn f ρ S=(f ρ S).bind fun x S1=>match x with
 | .bl b=>.ok (.bl (!b)) S1
 | _=>.bad:=id rfl
@[simp] theorem Gmu{c:Ev Bool}:ie c f g ρ S=(c ρ S).bind fun b S1=>if b=true then f ρ S1 else g ρ S1:=id rfl
@[simp] theorem Gmv{f:Ev (List D)}:tp f ρ S=(f ρ S).bind fun xs S1=>if xs.length<=1000000 then .ok (.tup xs) S1 else .bad:=id rfl
@[simp] theorem Gmw{f:Ev (List D)}:ls f ρ S=(f ρ S).bind fun xs S1=>if xs.length<=1000000 then .ok (.lst S1.length) (S1++[⟨false,xs⟩]) else .bad:=id rfl
@[simp] theorem Gi0{fe:Ev D}{fl fh:Ev (Option Int)}:sl2 fe fl fh ρ S=(fe ρ S).bind fun x S1=>(fl ρ S1).bind fun l S2=>(fh ρ S2).bind fun u S3=>Xr x l u S3:=id rfl
@[simp] theorem Gk2:onone ρ S=.ok none S:=id rfl
@[simp] theorem Gct:osome f ρ S=(f ρ S).bind fun x S1=>match x with
 | .int i=>.ok (some i) S1
 | _=>.bad:=id rfl
@[simp] theorem Gmx{o:D->List D->Sto->Out D}{fo:Ev D}{f:Ev (List D)}:mt o fo f ρ S=(fo ρ S).bind fun x S1=>if isLst x S1=true then(f ρ S1).bind fun xs S2=>o x xs S2 else .bad:=id rfl
@[simp] theorem Gmy{o o':D->D->Sto->Out D}{fb fc:Ev D}:ch o o' fa fb fc ρ S=(fa ρ S).bind fun x S1=>(fb ρ S1).bind fun y S2=>(o x y S2).bind fun z S3=>match z with
 | .bl b=>if b=true then(fc ρ S3).bind fun w S4=>o' y w S4 else .ok (.bl false) S3
 | _=>.bad:=id rfl
@[simp] theorem Yb{f g:Sv}:sq f g ρ S=match f ρ S with
 | .nx ρ' S'=>g ρ' S'
 | .rt d S'=>.rt d S'
 | .bk ρ' S'=>.bk ρ' S'
 | .ct ρ' S'=>.ct ρ' S'
 | .exc x ρ' S'=>.exc x ρ' S'
 | .bad=>.bad:=id rfl
@[simp] theorem Gk3{g:Tg}:sa f g ρ S=bindS (f ρ S) ρ fun d S1=>match g d ρ with
 | some ρ'=>.nx ρ' S1
 | none=>.bad:=id rfl
@[simp] theorem Gmz{i:Nat}:gn i d ρ=some (ρ.set i (some d)):=id rfl
@[simp] theorem Zv:sret f ρ S=bindS (f ρ S) ρ fun d S1=>.rt d S1:=id rfl
@[simp] theorem Gmc{c:Ev Bool}{f g:Sv}:sif c f g ρ S=bindS (c ρ S) ρ fun b S1=>if b=true then f ρ S1 else g ρ S1:=id rfl
@[simp] theorem Gm0:sx f ρ S=bindS (f ρ S) ρ fun _ S1=>.nx ρ S1:=id rfl
@[simp] theorem Glc:skip ρ S=.nx ρ S:=id rfl
@[simp] theorem Gm1{fo fi:Ev D}{o:D->D->D->Sto->Option Sto}:ss f fo fi o ρ S=bindS (f ρ S) ρ fun d S1=>bindS (fo ρ S1) ρ fun x S2=>bindS (fi ρ S2) ρ fun y S3=>match o x y d S3 with
 | some S4=>.nx ρ S4
 | none=>.bad:=id rfl
@[simp] theorem Gmd{i:Nat}{g:Int->Int->Int}:sag i g f ρ S=match ρ[i]? with
 | some (some (.int a))=>bindS (f ρ S) ρ fun d S1=>match d with
  | .int b=>.nx (ρ.set i (some (.int (g a b)))) S1
  | _=>.bad
 | _=>.bad:=id rfl
@[simp] theorem Gld:isrc f ρ S=(f ρ S).bind Xm:=id rfl
@[simp] theorem Zw{f:Ev Src}{g:Tg}{b:Sv}:sfor f g b ρ S=bindS (f ρ S) ρ fun s S1=>Hf s.nxt g b s.fuel 0 ρ S1:=id rfl
section
variable{i j:Int}
@[simp] theorem Gcu:Jb (.int i) (.int j) S=.ok (.int (i+j)) S:=id rfl
@[simp] theorem Gme:Vk (.int i) (.int j) S=.ok (.int (i-j)) S:=id rfl
@[simp] theorem Gm2:Gbw (.int i) S=.ok (.int (-i)) S:=id rfl
theorem Yc(h1 : -(2^64)<j)(h2:j<2^64):Jt (.int i) (.int j) S=.ok (.int (i*j)) S:=by
 show(if(-(2^64)<i/\i<2^64)\/(-(2^64)<j/\j<2^64) then Out.ok (D.int (i*j)) S else .bad)=_
 rw[if_pos (.inr ⟨h1,h2⟩)]
theorem Yd(h1 : -(2^64)<i)(h2:i<2^64):Jt (.int i) (.int j) S=.ok (.int (i*j)) S:=by
 show(if(-(2^64)<i/\i<2^64)\/(-(2^64)<j/\j<2^64) then Out.ok (D.int (i*j)) S else .bad)=_
 rw[if_pos (.inl ⟨h1,h2⟩)]
theorem Kl(h:0<j):Ky (.int i) (.int j) S=.ok (.int (i%j)) S:=by
 show(if decide (0<j)=true then Out.ok (D.int (i%j)) S else .bad)=_
 rw[if_pos (by simpa using h)]
theorem Gcv(h:0<j)(h2:j<2^200):Vy (.int i) (.int j) S=.ok (.int (i / j)) S:=by
 show(if decide (0<j/\j<2^200)=true then Out.ok (D.int (i / j)) S else .bad)=_
 rw[if_pos (decide_eq_true ⟨h,h2⟩)]
theorem Yx{n:Nat}(h:(n:Int)<=1000000)(h2:i.natAbs<2^64):Uh (.int i) (.int n) S=.ok (.int (i^n)) S:=by
 show(if decide (0<=(n:Int)/\(n:Int)<=1000000/\i.natAbs<2^64)=true then Out.ok (D.int (i^(n:Int).toNat)) S else .bad)=_
 rw[if_pos (decide_eq_true ⟨by omega,h,h2⟩)]
 rfl
@[simp] theorem Gm3:Uh (.int 10) (.int 6) S=.ok (.int 1000000) S:=Yx (n:=6) (by decide) (by decide)
@[simp] theorem Gmf:Uh (.int 10) (.int 15) S=.ok (.int 1000000000000000) S:=Yx (n:=15) (by decide) (by decide)
@[simp] theorem Gmg:Uh (.int 10) (.int 18) S=.ok (.int 1000000000000000000) S:=Yx (n:=18) (by decide) (by decide)
@[simp] theorem Gm4:ltD (.int i) (.int j) S=.ok (.bl (decide (i<j))) S:=id rfl
@[simp] theorem Gm5:leD (.int i) (.int j) S=.ok (.bl (decide (i<=j))) S:=id rfl
@[simp] theorem Gm6:gtD (.int i) (.int j) S=.ok (.bl (decide (j<i))) S:=id rfl
@[simp] theorem Gm7:geD (.int i) (.int j) S=.ok (.bl (decide (j<=i))) S:=id rfl
@[simp] theorem Gmh:Gl3 [.int i,.int j] S=.ok (.int (min i j)) S:=by
 show Out.ok (D.int (if j<i then j else i)) S=_
 congr 2
 omega
@[simp] theorem Gmi:Gaw [.int i,.int j] S=.ok (.int (max i j)) S:=by
 show Out.ok (D.int (if j>i then j else i)) S=_
 congr 2
 omega
@[simp] theorem Gm8:eqD (.int i) (.int j) S=.ok (.bl (decide (i=j))) S:=by
 simp only[eqD,toP]
 simp[SeqAt.shaped,PyData.eqv]
 rfl
@[simp] theorem Gm9:neD (.int i) (.int j) S=.ok (.bl (!decide (i=j))) S:=by
 simp only[neD,toP]
 simp[SeqAt.shaped,PyData.eqv]
 rfl
theorem Gfk{x y:Str}(hx:PyData.strOk x=true)(hy:PyData.strOk y=true):eqD (.str x) (.str y) S=.ok (.bl (x==y)) S:=by
 simp only[eqD,toP]
 simp[SeqAt.shaped,PyData.eqv,PyData.canLay0,PyData.depth,hx,hy]
end
@[simp] theorem Gk4{l:List D}:Jd [.tup l] S=.ok (.int l.length) S:=id rfl
theorem Zx{c:Cell}(h:S[k]?=some c):Jd [.lst k] S=.ok (.int c.xs.length) S:=by
 show(match S[k]? with | some c=>Out.ok (D.int c.xs.length) S | none=>.bad)=_
 rw[h]
theorem Ku{c:Cell}{i:Int}(h:S[k]?=some c)(e:atI c.xs i=some d):getD (.lst k) (.int i) S=.ok d S:=by
 show(match S[k]? with | some c=>(match atI c.xs i with | some d=>Out.ok d S | none=>.bad) | none=>.bad)=_
 rw[h]
 show(match atI c.xs i with | some d=>Out.ok d S | none=>.bad)=_
 rw[e]
theorem Zy{l:List D}{i:Int}(e:atI l i=some d):getD (.tup l) (.int i) S=.ok d S:=by
 show(match atI l i with | some d=>Out.ok d S | none=>.bad)=_
 rw[e]
theorem Gcw{α:Type}{l:List α}{i:Int}{d:α}(h0:0<=i)(e:l[i.toNat]?=some d):atI l i=some d:=by
 unfold atI ixN
 have:i.toNat<l.length:=(List.getElem?_eq_some_iff.mp e).1
 rw[if_pos h0,if_pos (by omega)]
 exact e
theorem Zz{xs:List D}{i:Int}(h:S[k]?=some ⟨false,xs⟩)(h0:0<=i)(h1:i<xs.length):Kz (.lst k) (.int i) d S=some (S.set k ⟨false,xs.set i.toNat d⟩):=by
 show(match S[k]? with | some c=>(match ixN c.xs.length i with | some j=>if c.fz=false then some (S.set k ⟨false,c.xs.set j d⟩) else none | none=>none) | none=>none)=_
 rw[h]
 show(match ixN xs.length i with | some j=>if false=false then some (S.set k ⟨false,xs.set j d⟩) else none | none=>none)=_
 unfold ixN
 rw[if_pos h0,if_pos h1]
 rfl
@[simp] theorem Gk5{l:List Int}:Ws [.tup (l.map D.int)] S=.ok (.int l.sum) S:=by
 have:∀ l:List Int,Kq (l.map D.int)=some l:=fun l=>by
  induction l with
  | nil=>rfl
  | cons a r ih=>show(Kq (r.map D.int)).map (a::·)=_; rw[ih]; rfl
 show(match (some (l.map D.int)).bind Kq with | some ns=>Out.ok (D.int ns.sum) S | none=>.bad)=_
 rw[Option.bind_some,this]
end
end DL
namespace Law
open PySem PySem.Spec PyProof.Rows L2 DL WM
variable{c:Cell}{t k n q:Nat}{S:Sto}{b:Sv}{ds:List Int}{d:D}{ρ:Lc}
theorem Ye{c t:Int}:∃ r,Hb [.int c,.int t] S=.ok (.int r) S:=by
 have sqr:∀ x:Int,Jt (.int (x%2147483647)) (.int (x%2147483647)) S=.ok (.int (x%2147483647*(x%2147483647))) S:=fun x=>Yc (by omega) (by omega)
 simp[Hb,fnB,Kj,Kl,Yc,Yd,Gcv,sqr]
def Xb:Sv:=sif (ta (tb (o2 eqD (o2 DL.getD (vr 0) (cn (.int 1))) (cn (.int 0)))) (tb (o2 gtD (b1 Jd (ac (o2 DL.getD (vr 0) (cn (.int 0))) an)) (cn (.int 0)))))
  (sq (sa (mt Xo (o2 DL.getD (vr 0) (cn (.int 0))) (ac (cn (.int 0)) an)) (gn 2))
  (sq (sif (tb (o2 ltD (vr 2) (o2 Uh (cn (.int 10)) (cn (.int 18)))))
  (sret (o2 Ky (cl 2 (Gm Hb) (ac (vr 2) (ac (o2 DL.getD (vr 0) (cn (.int 3))) an))) (vr 1)))
  DL.skip)
  (ss (vr 2) (vr 0) (cn (.int 1)) Kz)))
  DL.skip
def Ga3:Sv:=(sq (sif (tb (o2 gtD (o2 DL.getD (vr 0) (cn (.int 1))) (cn (.int 0))))
  (sq (sa (o2 Ky (o2 DL.getD (vr 0) (cn (.int 1))) (vr 1)) (gn 3))
  (sq (ss (o2 Vy (o2 DL.getD (vr 0) (cn (.int 1))) (vr 1)) (vr 0) (cn (.int 1)) Kz)
  (sret (vr 3))))
  DL.skip)
  (sret (o2 Ky (cl 2 (Gm Hb) (ac (o2 DL.getD (vr 0) (cn (.int 2))) (ac (o2 DL.getD (vr 0) (cn (.int 3))) an))) (vr 1))))
def fin(o:OS):Out D:=match o with
 | .rt d S'=>.ok d S'
 | .nx _ S'=>.ok .non S'
 | .exc x _ S'=>.exc x S'
 | _=>.bad
theorem Qx{m:Nat}{ds:List D}:fnB m b ds S=fin (b (ds.map some++List.replicate (m-ds.length) none) S):=rfl
@[simp] theorem Gi1:fin (.rt d S)=.ok d S:=rfl
structure Tp(S:Sto)(t k:Nat):Prop where
 ex:∃ (a sd n:Int) (xs:List Int),S[t]?=some ⟨false,[.lst k,.int a,.int sd,.int n]⟩/\S[k]?=some ⟨false,xs.map D.int⟩
 ne:t≠k
structure Sm(S S':Sto)(t k:Nat):Prop where
 len:S'.length=S.length
 get:∀ i,i≠t->i≠k->S'[i]?=S[i]?
theorem Sm.refl:Sm S S t k:=⟨rfl,fun _ _ _=>rfl⟩
theorem Sm.trans{S1 S2:Sto}(a:Sm S S1 t k)(b:Sm S1 S2 t k):Sm S S2 t k:=⟨b.len.trans a.len,fun i h1 h2=>(b.get i h1 h2).trans (a.get i h1 h2)⟩
theorem Sm.set{j:Nat}(h:j=t\/j=k):Sm S (S.set j c) t k:=⟨by simp,fun i h1 h2=>by
 rw[List.getElem?_set_ne]
 rcases h with h | h
 ·rw[h]; exact Ne.symm h1
 ·rw[h]; exact Ne.symm h2⟩
theorem Jh{m:Int}(h:Tp S t k)(hm:0<m)(hm2:m<2^200):∃ r S',Gp [.lst t,.int m] S=.ok (.int r) S'/\0<=r/\r<m/\Tp S' t k/\Sm S S' t k:=by
 obtain⟨⟨a,sd,n,xs,e1,e2⟩,ne⟩:=h
 have lt:t<S.length:=(List.getElem?_eq_some_iff.mp e1).1
 have lk:k<S.length:=(List.getElem?_eq_some_iff.mp e2).1
 have g3:getD (.lst t) (.int 3) S=.ok (.int n) S:=Ku e1 rfl
 have s3:Kz (.lst t) (.int 3) (.int (n+1)) S=some (S.set t ⟨false,[.lst k,.int a,.int sd,.int (n+1)]⟩):=Zz e1 (by decide) (by simp)
 have e1':(S.set t ⟨false,[.lst k,.int a,.int sd,.int (n+1)]⟩)[t]?=some ⟨false,[.lst k,.int a,.int sd,.int (n+1)]⟩:=List.getElem?_set_self lt
 have e2':(S.set t ⟨false,[.lst k,.int a,.int sd,.int (n+1)]⟩)[k]?=some ⟨false,xs.map D.int⟩:=by rw[List.getElem?_set_ne ne]; exact e2
 have sm1:Sm S (S.set t ⟨false,[.lst k,.int a,.int sd,.int (n+1)]⟩) t k:=Sm.set (.inl rfl)
 generalize hS1:S.set t ⟨false,[.lst k,.int a,.int sd,.int (n+1)]⟩=S1 at *
 have lt':t<S1.length:=(List.getElem?_eq_some_iff.mp e1').1
 have lk':k<S1.length:=(List.getElem?_eq_some_iff.mp e2').1
 have g0:getD (.lst t) (.int 0) S1=.ok (.lst k) S1:=Ku e1' rfl
 have g1:getD (.lst t) (.int 1) S1=.ok (.int a) S1:=Ku e1' rfl
 have g2:getD (.lst t) (.int 2) S1=.ok (.int sd) S1:=Ku e1' rfl
 have g3':getD (.lst t) (.int 3) S1=.ok (.int (n+1)) S1:=Ku e1' rfl
 have ln:Jd [.lst k] S1=.ok (.int xs.length) S1:=by rw[Zx e2']; simp
 have rest:∀ (S2:Sto) (a2:Int) (q:Option D),S2[t]?=some ⟨false,[.lst k,.int a2,.int sd,.int (n+1)]⟩->(∃ ys:List Int,S2[k]?=some ⟨false,ys.map D.int⟩)->Sm S S2 t k->∃ r S',fin (Ga3 [some (.lst t),some (.int m),q,none] S2)=.ok (.int r) S'/\0<=r/\r<m/\Tp S' t k/\Sm S S' t k:=by
  intro S2 a2 q h1 h2 sm
  have h0:DL.getD (.lst t) (.int 1) S2=.ok (.int a2) S2:=Ku h1 rfl
  have h02:DL.getD (.lst t) (.int 2) S2=.ok (.int sd) S2:=Ku h1 rfl
  have h03:DL.getD (.lst t) (.int 3) S2=.ok (.int (n+1)) S2:=Ku h1 rfl
  have hs:∀ d,Kz (.lst t) (.int 1) d S2=some (S2.set t ⟨false,[.lst k,d,.int sd,.int (n+1)]⟩):=fun d=>Zz h1 (by decide) (by simp)
  have lt2:t<S2.length:=(List.getElem?_eq_some_iff.mp h1).1
  by_cases c:0<a2
  ·refine⟨a2%m,S2.set t ⟨false,[.lst k,.int (a2 / m),.int sd,.int (n+1)]⟩,?_,Int.emod_nonneg _ (by omega),Int.emod_lt_of_pos _ hm,⟨?_,ne⟩,sm.trans (Sm.set (.inl rfl))⟩
   ·simp[Ga3,h0,c,Kl hm,Gcv hm hm2,hs]
   ·obtain⟨ys,h2⟩:=h2
    exact⟨_,_,_,ys,List.getElem?_set_self lt2,by rw[List.getElem?_set_ne ne]; exact h2⟩
  ·obtain⟨r,hr⟩:=Ye (c:=sd) (t:=n+1) (S:=S2)
   refine⟨r%m,S2,?_,Int.emod_nonneg _ (by omega),Int.emod_lt_of_pos _ hm,⟨?_,ne⟩,sm⟩
   ·simp[Ga3,h0,h02,h03,c,hr,Kl hm]
   ·obtain⟨ys,h2⟩:=h2
    exact⟨_,_,_,ys,h1,h2⟩
 show ∃ r S',fnB 4 (sq (ss (o2 Jb (o2 DL.getD (vr 0) (cn (.int 3))) (cn (.int 1))) (vr 0) (cn (.int 3)) Kz) (sq Xb Ga3)) [.lst t,.int m] S=.ok (.int r) S'/\_
 rw[Qx,Yb]
 have st1:ss (o2 Jb (o2 DL.getD (vr 0) (cn (.int 3))) (cn (.int 1))) (vr 0) (cn (.int 3)) Kz ([D.lst t,D.int m].map some++List.replicate (4-[D.lst t,D.int m].length) none) S=.nx [some (.lst t),some (.int m),none,none] S1:=by
  simp[g3,s3]
 rw[st1]
 by_cases c:a=0/\0<xs.length
 ·obtain⟨c1,c2⟩:=c
  cases xs with
  | nil=>simp at c2
  | cons x ys=>
   have pp:Xo (.lst k) [.int 0] S1=.ok (.int x) (S1.set k ⟨false,ys.map D.int⟩):=by
    simp only[Xo,e2']
    simp
   have il:isLst (.lst k) S1=true:=by simp only[isLst,e2']
   have q1:(S1.set k ⟨false,ys.map D.int⟩)[t]?=some ⟨false,[.lst k,.int a,.int sd,.int (n+1)]⟩:=by rw[List.getElem?_set_ne (Ne.symm ne)]; exact e1'
   have q2:(S1.set k ⟨false,ys.map D.int⟩)[k]?=some ⟨false,ys.map D.int⟩:=List.getElem?_set_self lk'
   have sm2:Sm S (S1.set k ⟨false,ys.map D.int⟩) t k:=sm1.trans (Sm.set (.inr rfl))
   generalize hS2:S1.set k ⟨false,ys.map D.int⟩=S2 at *
   have g3'':DL.getD (.lst t) (.int 3) S2=.ok (.int (n+1)) S2:=Ku q1 rfl
   by_cases c3:x<1000000000000000000
   ·obtain⟨r,hr⟩:=Ye (c:=x) (t:=n+1) (S:=S2)
    refine⟨r%m,S2,?_,Int.emod_nonneg _ (by omega),Int.emod_lt_of_pos _ hm,⟨⟨_,_,_,ys,q1,q2⟩,ne⟩,sm2⟩
    simp[Xb,g0,g1,c1,ln,il,pp,c3,g3'',hr,Kl hm]
   ·have lt2:t<S2.length:=(List.getElem?_eq_some_iff.mp q1).1
    have hs:Kz (.lst t) (.int 1) (.int x) S2=some (S2.set t ⟨false,[.lst k,.int x,.int sd,.int (n+1)]⟩):=Zz q1 (by decide) (by simp)
    obtain⟨r,S',h1,h2,h3,h4,h5⟩:=rest (S2.set t ⟨false,[.lst k,.int x,.int sd,.int (n+1)]⟩) x (some (.int x)) (List.getElem?_set_self lt2) ⟨ys,by rw[List.getElem?_set_ne ne]; exact q2⟩ (sm2.trans (Sm.set (.inl rfl)))
    refine⟨r,S',?_,h2,h3,h4,h5⟩
    rw[<- h1]
    have st2:Xb [some (.lst t),some (.int m),none,none] S1=.nx [some (.lst t),some (.int m),some (.int x),none] (S2.set t ⟨false,[.lst k,.int x,.int sd,.int (n+1)]⟩):=by
     simp[Xb,g0,g1,c1,ln,il,pp,c3,hs]
    show fin (sq Xb Ga3 [some (.lst t),some (.int m),none,none] S1)=_
    rw[Yb,st2]
 ·obtain⟨r,S',h1,h2,h3,h4,h5⟩:=rest S1 a none e1' ⟨xs,e2'⟩ sm1
  refine⟨r,S',?_,h2,h3,h4,h5⟩
  rw[<- h1]
  have st2:Xb [some (.lst t),some (.int m),none,none] S1=.nx [some (.lst t),some (.int m),none,none] S1:=by
   by_cases ca:a=0
   ·have:¬ 0<xs.length:=fun z=>c ⟨ca,z⟩
    simp[Xb,g0,g1,ca,ln,this]
   ·simp[Xb,g1,ca]
  show fin (sq Xb Ga3 [some (.lst t),some (.int m),none,none] S1)=_
  rw[Yb,st2]
theorem Yf{c:Ev Bool}:whN c b (n+1) ρ S=bindS (c ρ S) ρ fun t S1=>if t=true then(match b ρ S1 with
    | .nx ρ2 S2=>whN c b n ρ2 S2
    | .ct ρ2 S2=>whN c b n ρ2 S2
    | .bk ρ2 S2=>.nx ρ2 S2
    | .rt d S2=>.rt d S2
    | .exc x ρ2 S2=>.exc x ρ2 S2
    | .bad=>.bad) else .nx ρ S1:=rfl
theorem Tp.app(h:Tp S t k):Tp (S++[c]) t k:=by
 obtain⟨⟨a,sd,n,xs,e1,e2⟩,ne⟩:=h
 have lt:t<S.length:=(List.getElem?_eq_some_iff.mp e1).1
 have lk:k<S.length:=(List.getElem?_eq_some_iff.mp e2).1
 exact⟨⟨a,sd,n,xs,by rw[List.getElem?_append_left lt]; exact e1,by rw[List.getElem?_append_left lk]; exact e2⟩,ne⟩
theorem Tp.lt(h:Tp S t k):t<S.length/\k<S.length:=by
 obtain⟨⟨a,sd,n,xs,e1,e2⟩,ne⟩:=h
 exact⟨(List.getElem?_eq_some_iff.mp e1).1,(List.getElem?_eq_some_iff.mp e2).1⟩
theorem Tp.set(h:Tp S t k)(h1:q≠t)(h2:q≠k):Tp (S.set q c) t k:=by
 obtain⟨⟨a,sd,n,xs,e1,e2⟩,ne⟩:=h
 exact⟨⟨a,sd,n,xs,by rw[List.getElem?_set_ne h1]; exact e1,by rw[List.getElem?_set_ne h2]; exact e2⟩,ne⟩
theorem Vd{t k:Nat}{m:Int}:∀ (n j:Nat) (S:Sto) (fnd sz:Int),Tp S t k->0<sz->m<=sz*1000000^n->n<j→
  ∃ f' z' S',whN Ht Jf j [some (.lst t),some (.int m),some (.int fnd),some (.int sz)] S=.nx [some (.lst t),some (.int m),some (.int f'),some (.int z')] S'/\Tp S' t k/\Sm S S' t k
 | n,0,S,fnd,sz,_,_,_,h=>absurd h (Nat.not_lt_zero _)
 | n,j+1,S,fnd,sz,h,h0,hm,hj=>by
  rw[Yf]
  by_cases c:sz<m
  ·cases n with
   | zero=>simp at hm; omega
   | succ n=>
    obtain⟨r,S1,e,_,_,t1,s1⟩:=Jh (m:=1000000) h (by decide) (by decide)
    obtain⟨f',z',S2,e2,t2,s2⟩:=Vd n j S1 (fnd*1000000+r) (sz*1000000) t1 (by omega) (by rw[Int.pow_succ] at hm; rw[Int.mul_assoc,Int.mul_comm 1000000]; exact hm) (by omega)
    refine⟨f',z',S2,?_,t2,s1.trans s2⟩
    rw[<- e2]
    simp[Ht,c,Jf,Yc,e]
  ·exact⟨fnd,sz,S,by simp[Ht,c],h,.refl⟩
theorem Gcx{m:Int}(h:Tp S t k)(hm:0<m)(hm2:m<2^200):∃ r S',Jg [.lst t,.int m] S=.ok (.int r) S'/\0<=r/\r<m/\Tp S' t k/\Sm S S' t k:=by
 obtain⟨f',z',S',e,t1,s1⟩:=Vd (m:=m) 40 1000 S 0 1 h (by decide) (by have:(2:Int)^200<=1*1000000^40:=(by decide); omega) (by decide)
 refine⟨f'%m,S',?_,Int.emod_nonneg _ (by omega),Int.emod_lt_of_pos _ hm,t1,s1⟩
 simp[Jg,fnB,Kk,e,Kl hm]
theorem at3{α:Type}{a b c:α}{r:Int}(h0:0<=r)(h:r<3):∃ x,atI [a,b,c] r=some x/\(x=a\/x=b\/x=c):=by
 rcases(by omega:r=0\/r=1\/r=2) with rfl | rfl | rfl
 ·exact⟨a,rfl,.inl rfl⟩
 ·exact⟨b,rfl,.inr (.inl rfl)⟩
 ·exact⟨c,rfl,.inr (.inr rfl)⟩
theorem pick{S1:Sto}{xs:List D}{r:Int}{x:D}(s:Sm (S++[⟨false,xs⟩]) S1 t k)(h:t<S.length/\k<S.length)(e:atI xs r=some x):DL.getD (.lst S.length) (.int r) S1=.ok x S1:=by
 refine Ku (c:=⟨false,xs⟩) ?_ e
 rw[s.get _ (by omega) (by omega),List.getElem?_append_right (Nat.le_refl _)]
 simp
def Jp(ds:List Int)(i:Int)(d:Int):List Int:=ds.take (min i.toNat ds.length)++d::ds.drop (min i.toNat ds.length)
theorem Gcy{i d:Int}(e:S[q]?=some ⟨false,ds.map D.int⟩)(h0:0<=i)(h1:i<=1000000)(hl:ds.length<1000000):Xp (.lst q) [.int i,.int d] S=.ok .non (S.set q ⟨false,(Jp ds i d).map D.int⟩):=by
 simp only[Xp,e]
 simp[h0,h1,hl,Jp]
theorem Qy{i d:Int}:(Jp ds i d).length=ds.length+1:=by
 simp[Jp]; omega
theorem Wc{i d x:Int}(h:x∈Jp ds i d):x=d\/x∈ds:=by
 unfold Jp at h
 rcases List.mem_append.mp h with h | h
 ·exact .inr (List.mem_of_mem_take h)
 ·rcases List.mem_cons.mp h with h | h
  ·exact .inl h
  ·exact .inr (List.mem_of_mem_drop h)
theorem Qz{t k q:Nat}{size scale even wide:Int}{g7:Option D}(he:even=0\/even=1)(hw:0<=wide)(hw2:wide<10^15)(hs:size<=60)(hq1:q≠t)(hq2:q≠k):∀ (n j:Nat) (S:Sto) (ds:List Int) (g6:Option D),Tp S t k->S[q]?=some ⟨false,ds.map D.int⟩->(∀ d∈ds,-wide<=d/\d<=wide)->(ds.length:Int)<=size->size-ds.length<=n->n<j→
  ∃ (ds':List Int) (g6':Option D) (S':Sto),whN Gz Hi j [some (.lst t),some (.int size),some (.int scale),some (.int even),some (.int wide),some (.lst q),g6,g7] S=.nx [some (.lst t),some (.int size),some (.int scale),some (.int even),some (.int wide),some (.lst q),g6',g7] S'/\Tp S' t k/\S'[q]?=some ⟨false,ds'.map D.int⟩/\(∀ d∈ds',-wide<=d/\d<=wide)/\(ds'.length:Int)=size
 | n,0,S,ds,g6,_,_,_,_,_,h=>absurd h (Nat.not_lt_zero _)
 | n,j+1,S,ds,g6,h,e,hd,hl,hn,hj=>by
  rw[Yf]
  have ln:Jd [.lst q] S=.ok (.int ds.length) S:=by rw[Zx e]; simp
  by_cases c:(ds.length:Int)<size
  ·cases n with
   | zero=>omega
   | succ n=>
    obtain⟨r,S1,e1,r0,r1,t1,s1⟩:=Gcx (m:=2*wide+1) h (by omega) (by omega)
    have q1:S1[q]?=some ⟨false,ds.map D.int⟩:=(s1.get q hq1 hq2).trans e
    have ln1:Jd [.lst q] S1=.ok (.int ds.length) S1:=by rw[Zx q1]; simp
    have il1:isLst (.lst q) S1=true:=by simp only[isLst,q1]
    obtain⟨a,S2,e2,a0,a1,t2,s2⟩:=Jh (m:=ds.length+1) t1 (by omega) (by omega)
    have q2:S2[q]?=some ⟨false,ds.map D.int⟩:=(s2.get q hq1 hq2).trans q1
    have i2:=Gcy (d:=r-wide) q2 a0 (by omega) (by omega)
    have lq:q<S2.length:=(List.getElem?_eq_some_iff.mp q2).1
    have q3:(S2.set q ⟨false,(Jp ds a (r-wide)).map D.int⟩)[q]?=some ⟨false,(Jp ds a (r-wide)).map D.int⟩:=List.getElem?_set_self lq
    have t3:=t2.set (c:=⟨false,(Jp ds a (r-wide)).map D.int⟩) hq1 hq2
    generalize hS3:S2.set q ⟨false,(Jp ds a (r-wide)).map D.int⟩=S3 at *
    have l3:(Jp ds a (r-wide)).length=ds.length+1:=Qy
    have m3:∀ d∈Jp ds a (r-wide),-wide<=d/\d<=wide:=fun d hx=>by
     rcases Wc hx with rfl | hx
     ·omega
     ·exact hd d hx
    generalize hds:Jp ds a (r-wide)=ds3 at *
    have ln3:Jd [.lst q] S3=.ok (.int ds3.length) S3:=by rw[Zx q3]; simp
    have il3:isLst (.lst q) S3=true:=by simp only[isLst,q3]
    by_cases c2:even=1/\(ds3.length:Int)<size
    ·obtain⟨c2,c3⟩:=c2
     obtain⟨b,S4,e4,b0,b1',t4,s4⟩:=Jh (m:=ds3.length+1) t3 (by omega) (by omega)
     have q4:S4[q]?=some ⟨false,ds3.map D.int⟩:=(s4.get q hq1 hq2).trans q3
     have i4:=fun d=>Gcy (d:=d) q4 b0 (by omega) (by omega)
     have lq4:q<S4.length:=(List.getElem?_eq_some_iff.mp q4).1
     obtain⟨ds',g6',S',w1,w2,w3,w4,w5⟩:=Qz he hw hw2 hs hq1 hq2 n j (S4.set q ⟨false,(Jp ds3 b (0-(r-wide))).map D.int⟩) (Jp ds3 b (0-(r-wide))) (some (.int (r-wide))) (t4.set hq1 hq2) (List.getElem?_set_self lq4) (fun d hx=>by
      rcases Wc hx with rfl | hx
      ·omega
      ·exact m3 d hx) (by rw[Qy]; omega) (by rw[Qy]; omega) (by omega)
     refine⟨ds',g6',S',?_,w2,w3,w4,w5⟩
     rw[<- w1]
     simp[Gz,Hi,ln,c,e1,ln1,il1,e2,i2,ln3,il3,c2,c3,e4,i4,Yd]
    ·obtain⟨ds',g6',S',w1,w2,w3,w4,w5⟩:=Qz he hw hw2 hs hq1 hq2 n j S3 ds3 (some (.int (r-wide))) t3 q3 m3 (by omega) (by omega) (by omega)
     refine⟨ds',g6',S',?_,w2,w3,w4,w5⟩
     rw[<- w1]
     by_cases c3:even=1
     ·have c4:¬ (ds3.length:Int)<size:=fun z=>c2 ⟨c3,z⟩
      simp[Gz,Hi,ln,c,e1,ln1,il1,e2,i2,ln3,il3,c3,c4,Yd]
     ·simp[Gz,Hi,ln,c,e1,ln1,il1,e2,i2,ln3,il3,c3,Yd]
  ·exact⟨ds,g6,S,by simp[Gz,ln,c],h,e,hd,by omega⟩
theorem Gfl(e:S[q]?=some c):Ys [.lst q] S=.ok (.tup c.xs) S:=by
 simp only[Ys,e]
theorem Gen(h:Tp S t k):∃ (ds:List Int) (S':Sto),Hu [.lst t] S=.ok (.tup (ds.map D.int)) S'/\Tp S' t k/\1<=ds.length/\ds.length<=60/\∀ d∈ds,-1000000000000000<=d/\d<=1000000000000000:=by
 obtain⟨r1,S1,e1,r10,r11,t1,s1⟩:=Jh (m:=3) (h.app (c:=⟨false,[.int 3,.int 8,.int 60]⟩)) (by decide) (by decide)
 obtain⟨v,p1,hv0,hv1⟩:∃ v:Int,DL.getD (.lst S.length) (.int r1) S1=.ok (.int v) S1/\0<v/\v<=60:=by
  obtain⟨x,a,hx⟩:=at3 (a:=D.int 3) (b:=D.int 8) (c:=D.int 60) r10 r11
  have p:=pick s1 h.lt a
  rcases hx with rfl | rfl | rfl
  ·exact⟨_,p,by decide,by decide⟩
  ·exact⟨_,p,by decide,by decide⟩
  ·exact⟨_,p,by decide,by decide⟩
 obtain⟨r2,S2,e2,r20,r21,t2,s2⟩:=Jh (m:=v) t1 hv0 (by omega)
 obtain⟨r3,S3,e3,r30,r31,t3,s3⟩:=Jh (m:=3) (t2.app (c:=⟨false,[.int 10,.int 1000,.int 1000000000000000]⟩)) (by decide) (by decide)
 obtain⟨sc,p3,hs0,hs1⟩:∃ v:Int,DL.getD (.lst S2.length) (.int r3) S3=.ok (.int v) S3/\10<=v/\v<=1000000000000000:=by
  obtain⟨x,a,hx⟩:=at3 (a:=D.int 10) (b:=D.int 1000) (c:=D.int 1000000000000000) r30 r31
  have p:=pick s3 t2.lt a
  rcases hx with rfl | rfl | rfl
  ·exact⟨_,p,by decide,by decide⟩
  ·exact⟨_,p,by decide,by decide⟩
  ·exact⟨_,p,by decide,by decide⟩
 obtain⟨r4,S4,e4,r40,r41,t4,s4⟩:=Jh (m:=2) t3 (by decide) (by decide)
 have lt4:=t4.lt
 obtain⟨ds,g6,S5,w1,w2,w3,w4,w5⟩:=Qz (t:=t) (k:=k) (q:=S4.length) (size:=1+r2) (scale:=sc) (even:=r4) (wide:=sc-1-r4) (g7:=none) (by omega) (by omega) (by omega) (by omega) (by omega) (by omega) 60 1000 (S4++[⟨false,[]⟩]) [] none t4.app
  (by rw[List.getElem?_append_right (Nat.le_refl _)]; simp) (by intro d hd; cases hd) (by simp; omega) (by simp; omega) (by decide)
 by_cases c:r4=1
 ·obtain⟨r6,S6,e6,r60,r61,t6,s6⟩:=Jh (m:=1+r2) w2 (by omega) (by omega)
  have q6:S6[S4.length]?=some ⟨false,ds.map D.int⟩:=(s6.get _ (by omega) (by omega)).trans w3
  have hlt:r6.toNat<ds.length:=by omega
  have g6':DL.getD (.lst S4.length) (.int r6) S6=.ok (.int ds[r6.toNat]) S6:=Ku q6 (Gcw r60 (by simp[hlt]))
  obtain⟨r7,S7,e7,r70,r71,t7,s7⟩:=Jh (m:=3) t6 (by decide) (by decide)
  have q7:S7[S4.length]?=some ⟨false,ds.map D.int⟩:=(s7.get _ (by omega) (by omega)).trans q6
  have st:=fun d=>Zz (d:=d) q7 r60 (by simp; omega)
  have lq:S4.length<S7.length:=(List.getElem?_eq_some_iff.mp q7).1
  have q8:=fun c:Cell=>(List.getElem?_set_self lq:(S7.set S4.length c)[S4.length]?=some c)
  refine⟨ds.set r6.toNat (ds[r6.toNat]+r7-1),S7.set S4.length ⟨false,(ds.set r6.toNat (ds[r6.toNat]+r7-1)).map D.int⟩,?_,t7.set (by omega) (by omega),by simp; omega,by simp; omega,fun d hd=>?_⟩
  ·subst c
   simp[Hu,fnB,Jr,e1,p1,e2,e3,p3,e4,w1,e6,g6',e7,st,Gfl (q8 _),List.map_set]
  ·rcases List.mem_or_eq_of_mem_set hd with hd | hd
   ·have:=w4 d hd; omega
   ·have:=w4 _ (List.getElem_mem hlt); omega
 ·refine⟨ds,S5,?_,w2,by omega,by omega,fun d hd=>by have:=w4 d hd; omega⟩
  simp[Hu,fnB,Jr,e1,p1,e2,e3,p3,e4,w1,c,Gfl w3]
theorem Uo{nxt:Nat->Sto->Option D}{g:Tg}{b:Sv}{l:List D}(I:Nat->Lc->Sto->Prop)(hn:∀ k ρ S,I k ρ S->nxt k S=l[k]?)(hs:∀ k d ρ S,l[k]?=some d->I k ρ S->∃ ρ1 ρ2 S2,g d ρ=some ρ1/\b ρ1 S=.nx ρ2 S2/\I (k+1) ρ2 S2):
  ∀ (n k:Nat) (ρ:Lc) (S:Sto),k<=l.length->I k ρ S->l.length<n+k->∃ ρ' S',Hf nxt g b n k ρ S=.nx ρ' S'/\I l.length ρ' S'
 | 0,k,ρ,S,h1,_,h2=>by omega
 | n+1,k,ρ,S,h1,hI,h2=>by
  show ∃ ρ' S',(match nxt k S with
   | none=>OS.nx ρ S
   | some d=>match g d ρ with
    | none=>.bad
    | some ρ1=>match b ρ1 S with
     | .nx ρ2 S2=>Hf nxt g b n (k+1) ρ2 S2
     | .ct ρ2 S2=>Hf nxt g b n (k+1) ρ2 S2
     | .bk ρ2 S2=>.nx ρ2 S2
     | .rt d S2=>.rt d S2
     | .exc x ρ2 S2=>.exc x ρ2 S2
     | .bad=>.bad)=.nx ρ' S'/\I l.length ρ' S'
  rw[hn k ρ S hI]
  cases z:l[k]? with
  | none=>
   have:k=l.length:=by have:=List.getElem?_eq_none_iff.mp z; omega
   subst this
   exact⟨ρ,S,rfl,hI⟩
  | some d=>
   obtain⟨ρ1,ρ2,S2,h3,h4,h5⟩:=hs k d ρ S z hI
   have hk:k<l.length:=(List.getElem?_eq_some_iff.mp z).1
   obtain⟨ρ',S',h6,h7⟩:=Uo I hn hs n (k+1) ρ2 S2 hk h5 (by omega)
   refine⟨ρ',S',?_,h7⟩
   simp only[h3,h4]
   exact h6
def Geo(i n:Nat):Src:=⟨fun k S=>(S[i]?).bind fun c=>c.xs[k]?,n+1⟩
theorem Gk6{i:Nat}(e:S[i]?=some c):Xm (.lst i) S=.ok (Geo i c.xs.length) S:=by
 simp only[Xm,e]
 rfl
theorem Gi2{l:List Int}(h:(l.map D.int)[k]?=some d):∃ i,d=.int i/\l[k]?=some i:=by
 rw[List.getElem?_map] at h
 cases z:l[k]? with
 | none=>rw[z] at h; cases h
 | some i=>rw[z] at h; cases h; exact⟨i,rfl,rfl⟩
theorem Gi3{a b:List D}(h:a.length+b.length<=1000000):Jb (.tup a) (.tup b) S=.ok (.tup (a++b)) S:=by
 show(if a.length+b.length<=1000000 then Out.ok (D.tup (a++b)) S else .bad)=_
 rw[if_pos h]
def enc:R->D
 | .dry k=>.tup [.str "dry",.int k]
 | .lev l=>.tup [.str "level",.int l]
theorem Ga4{nxt:Nat->Sto->Option D}{g:Tg}{ρ1:Lc}(h:nxt k S=some d)(h2:g d ρ=some ρ1):Hf nxt g b (n+1) k ρ S=match b ρ1 S with
     | .nx ρ2 S2=>Hf nxt g b n (k+1) ρ2 S2
     | .ct ρ2 S2=>Hf nxt g b n (k+1) ρ2 S2
     | .bk ρ2 S2=>.nx ρ2 S2
     | .rt d S2=>.rt d S2
     | .exc x ρ2 S2=>.exc x ρ2 S2
     | .bad=>.bad:=by
 conv=>lhs; unfold Hf
 (simp only[h,h2])<;>rfl
theorem Ga5{nxt:Nat->Sto->Option D}{g:Tg}(h:nxt k S=none):Hf nxt g b (n+1) k ρ S=.nx ρ S:=by
 conv=>lhs; unfold Hf
 simp only[h]
theorem Kv{f g:Sv}{ρ':Lc}{S':Sto}(h:f ρ S=.nx ρ' S'):fin (sq f g ρ S)=fin (g ρ' S'):=by rw[Yb,h]
theorem Gep{f g:Sv}{S':Sto}(h:f ρ S=.rt d S'):fin (sq f g ρ S)=.ok d S':=by rw[Yb,h]; rfl
theorem Gi4(hne:ds≠[])(k:Nat):DL.getD (.tup (ds.map D.int)) (.int ((k:Int)%(ds.length:Int))) S=.ok (.int (ds.getD (k%ds.length) 0)) S:=by
 have hL:0<ds.length:=by cases ds with | nil=>exact absurd rfl hne | cons _ _=>simp
 have hk:k%ds.length<ds.length:=Nat.mod_lt _ hL
 have e:((k:Int)%(ds.length:Int)).toNat=k%ds.length:=by rw[<- Int.natCast_emod]; exact Int.toNat_natCast _
 refine Zy (Gcw (Int.emod_nonneg _ (by omega)) ?_)
 rw[e,List.getElem?_map]
 simp[hk]
def pre(ds:List Int)(k:Nat):Int:=(ds.take (k+1)).sum
theorem Gcz:∀ (ds:List Int),(∀ d∈ds,-1000000000000000<=d/\d<=1000000000000000) -> -(ds.length*1000000000000000)<=ds.sum/\ds.sum<=ds.length*1000000000000000
 | [],_=>by simp
 | d::r,h=>by
  have:=Gcz r fun x hx=>h x (List.mem_cons_of_mem _ hx)
  have:=h d List.mem_cons_self
  rw[List.sum_cons,List.length_cons]
  omega
theorem dd:eqD (.str "dry") (.str "dry") S=.ok (.bl true) S:=by rw[Gfk (by decide +kernel) (by decide +kernel)]; rfl
theorem ld:eqD (.str "level") (.str "dry") S=.ok (.bl false) S:=by rw[Gfk (by decide +kernel) (by decide +kernel)]; rfl
theorem g0{a b:D}:DL.getD (.tup [a,b]) (.int 0) S=.ok a S:=Zy rfl
theorem Gk7{lo hi:Option Int}(e:S[q]?=some c):Xr (.lst q) lo hi S=.ok (.lst S.length) (S++[⟨false,DL.Qu c.xs lo hi⟩]):=by
 simp only[Xr,e]
theorem Gi5(e:S[q]?=some c):Ub [.lst q] S=.ok (.lst S.length) (S++[⟨false,c.xs⟩]):=by
 simp only[Ub,e]
theorem Geq{ns:List Int}{lo hi:Option Int}:∃ ys:List Int,DL.Qu (ns.map D.int) lo hi=ys.map D.int:=
 ⟨(ns.drop (HT.sIx (ns.map D.int).length 0 lo)).take (HT.sIx (ns.map D.int).length (ns.map D.int).length hi-HT.sIx (ns.map D.int).length 0 lo),by unfold DL.Qu; rw[List.map_take,List.map_drop]⟩
theorem Xc:(S++[c])[S.length]?=some c:=by rw[List.getElem?_append_right (Nat.le_refl _)]; simp
theorem Gaa{d:Cell}(e:S[q]?=some d):(S++[c])[q]?=some d:=by
 rw[List.getElem?_append_left (List.getElem?_eq_some_iff.mp e).1]; exact e
theorem Ger{fz:Bool}{ns:List Int}(e:S[q]?=some ⟨fz,ns.map D.int⟩):∃ (t k:Nat) (S':Sto),Jq [.lst q] S=.ok (.lst t) S'/\Tp S' t k:=by
 obtain⟨ys,hy⟩:=Geq (ns:=ns) (lo:=none) (hi:=some 63)
 have s1:Xr (.lst q) none (some 63) S=.ok (.lst S.length) (S++[⟨false,ys.map D.int⟩]):=by rw[Gk7 e,hy]
 have q1:(S++[⟨false,ys.map D.int⟩])[S.length]?=some (⟨false,ys.map D.int⟩:Cell):=Xc
 have e1:=Gaa (c:=⟨false,ys.map D.int⟩) e
 generalize hS1:S++[⟨false,ys.map D.int⟩]=S1 at *
 have hsrc:Xm (.lst S.length) S1=.ok (Geo S.length (ys.map D.int).length) S1:=Gk6 q1
 obtain⟨ρ',S',ef,sd,g,e2,e3⟩:=Uo (nxt:=(Geo S.length (ys.map D.int).length).nxt) (g:=gn 2) (b:=Jo) (l:=ys.map D.int) (fun k ρ S'=>∃ sd g,ρ=[some (.lst q),some (.int sd),g]/\S'=S1)
  (fun k ρ S2 ⟨_,_,_,h⟩=>by
   subst h
   show(S2[S.length]?).bind (fun c=>c.xs[k]?)=_
   rw[q1]; rfl) (fun k d ρ S2 hd ⟨sd,g,h1,h2⟩=>by
   obtain⟨i,rfl,_⟩:=Gi2 hd
   subst h1 h2
   exact⟨_,[some (.lst q),some (.int ((sd*69621+i)%2147483647)),some (.int i)],_,rfl,by simp[Jo,Yc,Kl],_,_,rfl,rfl⟩) (Geo S.length (ys.map D.int).length).fuel 0 [some (.lst q),some (.int 0),none] S1 (Nat.zero_le _) ⟨0,none,rfl,rfl⟩ (Nat.lt_succ_self _)
 subst e2 e3
 have s2:Xr (.lst q) none (some 63) S'=.ok (.lst S'.length) (S'++[⟨false,ys.map D.int⟩]):=by rw[Gk7 e1,hy]
 have q2:(S'++[⟨false,ys.map D.int⟩])[S'.length]?=some (⟨false,ys.map D.int⟩:Cell):=Xc
 generalize hS2:S'++[⟨false,ys.map D.int⟩]=S2 at *
 have s3:=Gi5 q2
 have q3:(S2++[⟨false,ys.map D.int⟩])[S2.length]?=some (⟨false,ys.map D.int⟩:Cell):=Xc
 have l3:(S2++[(⟨false,ys.map D.int⟩:Cell)]).length=S2.length+1:=by simp
 have s3:Ub [.lst S'.length] S2=.ok (.lst S2.length) (S2++[⟨false,ys.map D.int⟩]):=s3
 generalize hS3:S2++[⟨false,ys.map D.int⟩]=S3 at *
 refine⟨S3.length,S2.length,S3++[⟨false,[.lst S2.length,.int 0,.int sd,.int 0]⟩],?_,⟨⟨0,sd,0,ys,Xc,Gaa q3⟩,by omega⟩⟩
 refine(Qx (m:=3) (b:=Jc)).trans ?_
 show fin (Jc [some (.lst q),none,none] S)=_
 unfold Jc
 refine(Kv (ρ':=[some (.lst q),some (.int 0),none]) (S':=S) (by simp)).trans ?_
 refine(Kv (ρ':=[some (.lst q),some (.int sd),g]) (S':=S') ?_).trans ?_
 ·simp[s1,hsrc,-List.length_map]
  exact ef
 ·simp[s2,s3]
theorem Yg{K:PySem.W.Frag}{mp:List Addr}{H:Hp}:∀ ns:List Int,RepL K mp H (ns.map D.int) (ns.map V.int)
 | []=>RepL.nil
 | a::r=>RepL.cons rfl (Yg r)
end Law
namespace WM
open PySem
theorem Gab{b:Int}{ds:List Int}:∀ (n k:Nat) (l x:Int),0<=l->l<=b->walk b ds n k l=.lev x->0<=x/\x<=b
 | 0,k,l,x,h0,h1,e=>by cases e; exact⟨h0,h1⟩
 | n+1,k,l,x,h0,h1,e=>by
  simp only[walk] at e
  split at e
  ·cases e
  ·rename_i c
   exact Gab n (k+1) _ x (by omega) Giz e
def R.back(m:Nat):R->R
 | .dry d=>.dry (d-m)
 | .lev l=>.lev l
end WM
namespace Law
open PySem PySem.Spec PyProof.Rows L2 DL WM
theorem Gc0{i:Int}{S:Sto}:Hy [.int i] S=.ok (.bl true) S:=by
 simp[Hy,fnB,Jy,isD,isT,tyN]
end Law
namespace WM
open PySem
def seg(ds:List Int)(f r:Nat):Int:=(((ds++ds).drop f).take r).sum
def str(ds:List Int)(f m:Nat):Int:=((m / ds.length:Nat):Int)*ds.sum+seg ds f (m%ds.length)
theorem Gc1{ds:List Int}{i:Nat}(h:i<2*ds.length):(ds++ds)[i]?=some (ds.getD (i%ds.length) 0):=by
 by_cases c:i<ds.length
 ·rw[List.getElem?_append_left c,Nat.mod_eq_of_lt c]; simp[c]
 ·rw[List.getElem?_append_right (by omega),Nat.mod_eq_sub_mod (by omega),Nat.mod_eq_of_lt (by omega)]
  simp[show i-ds.length<ds.length by omega]
theorem Yh{ds:List Int}{f r:Nat}(h:f+r<2*ds.length):seg ds f (r+1)=seg ds f r+ds.getD ((f+r)%ds.length) 0:=by
 unfold seg
 rw[List.take_add_one,List.getElem?_drop,Gc1 h]
 simp
end WM
namespace Law
open PySem PySem.Spec PyProof.Rows L2 DL WM
variable{S:Sto}{n:Nat}
theorem Gk8{l:List D}{a b:Nat}(h1:a<=b)(h2:b<=l.length):Xr (.tup l) (some (a:Int)) (some (b:Int)) S=.ok (.tup ((l.drop a).take (b-a))) S:=by
 show(if HT.sIx l.length 0 (some (a:Int))=0/\HT.sIx l.length l.length (some (b:Int))=l.length then Out.ok (D.tup l) S else .ok (.tup (DL.Qu l (some (a:Int)) (some (b:Int)))) S)=_
 rw[HT.Uk,HT.Uk]
 by_cases c:min a l.length=0/\min b l.length=l.length
 ·rw[if_pos c]
  rcases(by omega:a=0\/l.length=0) with h | h
  ·subst h
   rw[List.drop_zero,List.take_of_length_le (by omega)]
  ·have:l=[]:=List.length_eq_zero_iff.mp h
   subst this
   simp
 ·rw[if_neg c]
  unfold DL.Qu
  rw[HT.Uk,HT.Uk,show min a l.length=a by omega,show min b l.length=b by omega]
theorem Ve{ds:List Int}{f m:Nat}(hne:ds≠[])(hl:ds.length<=60)(hd:∀ d∈ds,-1000000000000000<=d/\d<=1000000000000000)(hf:f<ds.length):Gv [.tup (ds.map D.int),.int f,.int m] S=.ok (.int (str ds f m)) S:=by
 have hL:0<ds.length:=by omega
 have hr:m%ds.length<ds.length:=Nat.mod_lt _ hL
 have hsum:=Gcz ds hd
 have dm:dmD [.int m,.int ds.length] S=.ok (.tup [.int ((m / ds.length:Nat):Int),.int ((m%ds.length:Nat):Int)]) S:=by
  show(if 0<(ds.length:Int)/\(ds.length:Int)<2^200 then Out.ok (D.tup [.int ((m:Int) / (ds.length:Int)),.int ((m:Int)%(ds.length:Int))]) S else .bad)=_
  rw[if_pos ⟨by omega,by omega⟩]
  rfl
 have ad:Jb (.tup (ds.map D.int)) (.tup (ds.map D.int)) S=.ok (.tup ((ds++ds).map D.int)) S:=by rw[Gi3 (by simp; omega),List.map_append]
 have mu:Jt (.int ((m / ds.length:Nat):Int)) (.int ds.sum) S=.ok (.int (((m / ds.length:Nat):Int)*ds.sum)) S:=Yc (by omega) (by omega)
 have sl:=Gk8 (l:=(ds++ds).map D.int) (a:=f) (b:=f+m%ds.length) (S:=S) (by omega) (by simp; omega)
 have sl:Xr (.tup ((ds++ds).map D.int)) (some (f:Int)) (some ((f:Int)+((m%ds.length:Nat):Int))) S=.ok (.tup ((((ds++ds).drop f).take (m%ds.length)).map D.int)) S:=by
  have e:((f:Int)+((m%ds.length:Nat):Int))=((f+m%ds.length:Nat):Int):=by omega
  rw[e,sl,Nat.add_sub_cancel_left,List.map_take,List.map_drop]
 unfold str seg
 generalize m / ds.length=qn at *
 generalize m%ds.length=rn at *
 refine(Qx (m:=5) (b:=Ho)).trans ?_
 show fin (Ho [some (.tup (ds.map D.int)),some (.int f),some (.int m),none,none] S)=_
 unfold Ho
 refine(Kv (ρ':=[some (.tup (ds.map D.int)),some (.int f),some (.int m),some (.int qn),some (.int rn)]) (S':=S) (by simp[dm,gt,gcons,gnil])).trans ?_
 simp only[Zv,Gfi,Gfj,Gfh,Gfg,Gff,Gi0,Gct,Xa,List.getElem?_cons_zero,List.getElem?_cons_succ,Gk5,mu,ad,Gcu,sl,Kt,Gi1]
theorem Ges{k:Nat}:(rsrc 0 n).nxt k S=((List.range n).map fun k:Nat=>D.int (k:Int))[k]?:=by
 show(if k<n then some (D.int (0+k)) else none)=_
 rw[List.getElem?_map]
 by_cases c:k<n
 ·rw[if_pos c,List.getElem?_range c]; simp
 ·rw[if_neg c,List.getElem?_eq_none (by simp; omega)]; rfl
theorem Gi6{k:Nat}{d:D}(h:((List.range n).map fun k:Nat=>D.int (k:Int))[k]?=some d):k<n/\d=.int k:=by
 have hk:k<n:=by have:=(List.getElem?_eq_some_iff.mp h).1; simpa using this
 rw[List.getElem?_map,List.getElem?_range hk] at h
 exact⟨hk,(Option.some.inj h).symm⟩
theorem Gi7{f:Ev (List D)}{ρ:Lc}(h:f ρ S=.ok [.int n] S)(hn:n<=1000000):ir1 f ρ S=.ok (rsrc 0 n) S:=by
 unfold ir1
 rw[h]
 show(if -1000000000000<=(n:Int)/\(n:Int)<=1000000000000 then Out.ok (rsrc 0 (n:Int).toNat) S else .bad)=_
 rw[if_pos (by omega)]; rfl
theorem Kw{b m:Int}{ds:List Int}{S:Sto}{N:Nat}(hne:ds≠[])(hb:0<=b):∀ (n k:Nat) (l:Int) (g:Option D),k+n=N→
  (∃ d,walk b ds n k l=.dry d/\Hf (rsrc 0 N).nxt (gn 4) Gk (n+1) k [some (.int b),some (.tup (ds.map D.int)),some (.int l),some (.int m),g] S=.rt (enc (.dry d)) S)∨
  (∃ l' g',walk b ds n k l=.lev l'/\Hf (rsrc 0 N).nxt (gn 4) Gk (n+1) k [some (.int b),some (.tup (ds.map D.int)),some (.int l),some (.int m),g] S=.nx [some (.int b),some (.tup (ds.map D.int)),some (.int l'),some (.int m),g'] S)
 | 0,k,l,g,h=>.inr ⟨l,g,rfl,Ga5 (by show(if k<N then some (D.int (0+k)) else none)=none; rw[if_neg (by omega)])⟩
 | n+1,k,l,g,h=>by
  have hn:(rsrc 0 N).nxt k S=some (.int k):=by show(if k<N then some (D.int (0+k)) else none)=_; rw[if_pos (by omega)]; simp
  have hL:(0:Int)<ds.length:=by cases ds with | nil=>exact absurd rfl hne | cons _ _=>simp
  have e:=fun S=>Gi4 (S:=S) hne k
  rw[Ga4 hn rfl]
  simp only[walk]
  generalize ds.getD (k%ds.length) 0=d at *
  by_cases c:l+d<0
  ·refine .inl ⟨k,?_,?_⟩
   ·rw[if_pos (by unfold stp; omega)]
   ·simp[Gk,Kl hL,e,c,enc]
  ·have hs:¬ stp b l d<0:=by unfold stp; omega
   rw[if_neg hs]
   by_cases c2:b<l+d
   ·have es:stp b l d=b:=by unfold stp; omega
    rw[es]
    have st:Gk ([some (.int b),some (.tup (ds.map D.int)),some (.int l),some (.int m),g].set 4 (some (.int k))) S=.nx [some (.int b),some (.tup (ds.map D.int)),some (.int b),some (.int m),some (.int k)] S:=by
     simp[Gk,Kl hL,e,c,c2]
    rw[st]
    exact Kw hne hb n (k+1) b _ (by omega)
   ·have es:stp b l d=l+d:=by unfold stp; omega
    rw[es]
    have st:Gk ([some (.int b),some (.tup (ds.map D.int)),some (.int l),some (.int m),g].set 4 (some (.int k))) S=.nx [some (.int b),some (.tup (ds.map D.int)),some (.int (l+d)),some (.int m),some (.int k)] S:=by
     simp[Gk,Kl hL,e,c,c2]
    rw[st]
    exact Kw hne hb n (k+1) (l+d) _ (by omega)
theorem Wd{b l:Int}{m:Nat}{ds:List Int}(hne:ds≠[])(hb:0<=b)(hm:m<=1000000):Ja [.int b,.tup (ds.map D.int),.int l,.int m] S=.ok (enc (walk b ds m 0 l)) S:=by
 have hr:ir1 (ac (vr 3) an) [some (.int b),some (.tup (ds.map D.int)),some (.int l),some (.int m),none] S=.ok (rsrc 0 m) S:=by
  show(if -1000000000000<=(m:Int)/\(m:Int)<=1000000000000 then Out.ok (rsrc 0 (m:Int).toNat) S else .bad)=_
  rw[if_pos (by omega)]; rfl
 show fin (Hz [some (.int b),some (.tup (ds.map D.int)),some (.int l),some (.int m),none] S)=_
 unfold Hz
 rcases Kw (m:=m) (S:=S) (N:=m) hne hb m 0 l none (by omega) with⟨d,e1,e2⟩ | ⟨l',g',e1,e2⟩
 ·refine(Gep (S':=S) (d:=enc (.dry d)) ?_).trans ?_
  ·simp only[Zw,hr,Kt]
   exact e2
  ·rw[e1]
 ·refine(Kv (S':=S) (ρ':=[some (.int b),some (.tup (ds.map D.int)),some (.int l'),some (.int m),g']) ?_).trans ?_
  ·simp only[Zw,hr,Kt]
   exact e2
  ·rw[e1]
   simp[enc]
end Law
namespace WM
variable{ds:List Int}{f:Nat}
def sw(ds:List Int)(k:Nat):Nat->Int
 | 0=>0
 | m+1=>sw ds k m+ds.getD ((k+m)%ds.length) 0
theorem Ql{ds:List Int}(k:Nat):∀ m,sw ds k (m+1)=ds.getD (k%ds.length) 0+sw ds (k+1) m
 | 0=>by simp[sw]
 | m+1=>by
  rw[sw,Ql k m,sw,show k+1+m=k+(m+1) by omega]
  omega
theorem Gc2{ds:List Int}(k:Nat):∀ m,sw ds (k%ds.length) m=sw ds k m
 | 0=>rfl
 | m+1=>by
  rw[sw,sw,Gc2 k m]
  congr 2
  simp
theorem Get(hf:f<=ds.length):seg ds f ds.length=ds.sum:=by
 unfold seg
 rw[List.drop_append_of_le_length hf]
 have e:(ds.drop f++ds).take ds.length=ds.drop f++ds.take f:=by
  rw[List.take_append,List.take_of_length_le (by simp)]
  congr 2
  simp; omega
 rw[e,List.sum_append,Int.add_comm,<- List.sum_append,List.take_append_drop]
theorem Gc3:seg ds f 0=0:=by simp[seg]
theorem Yy{ds:List Int}(hne:ds≠[]){f:Nat}(hf:f<ds.length):∀ m,str ds f m=sw ds f m
 | 0=>by simp[str,Gc3,sw]
 | m+1=>by
  have hL:0<ds.length:=by omega
  have ih:=Yy hne hf m
  have hr:=Nat.mod_lt m hL
  have dm:=Nat.div_add_mod m ds.length
  rw[sw,<- ih]
  unfold str
  by_cases c:m%ds.length+1<ds.length
  ·have e1:(m+1)%ds.length=m%ds.length+1:=by rw[Nat.add_mod,Nat.mod_eq_of_lt (show 1<ds.length by omega)]; exact Nat.mod_eq_of_lt c
   have e2:(m+1) / ds.length=m / ds.length:=by
    have:=Nat.div_add_mod (m+1) ds.length
    rw[e1] at this
    exact Nat.eq_of_mul_eq_mul_left hL (by omega)
   have e3:(f+m)%ds.length=(f+m%ds.length)%ds.length:=by simp
   rw[e1,e2,Yh (by omega),e3]
   omega
  ·have c:m%ds.length+1=ds.length:=by omega
   have e0:m+1=ds.length*(m / ds.length+1):=by rw[Nat.mul_add]; omega
   have e1:(m+1)%ds.length=0:=by rw[e0]; exact Nat.mul_mod_right _ _
   have e2:(m+1) / ds.length=m / ds.length+1:=by rw[e0]; exact Nat.mul_div_cancel_left _ hL
   have e3:(f+m)%ds.length=(f+m%ds.length)%ds.length:=by simp
   have s:=Yh (ds:=ds) (f:=f) (r:=m%ds.length) (by omega)
   rw[c,Get (by omega)] at s
   rw[e1,e2,e3,Gc3,s]
   push_cast
   rw[Int.add_mul]
   omega
theorem Gac{b:Int}{ds:List Int}:∀ (n k:Nat) (l x:Int),walk b ds n k l=.lev x->x<=l+sw ds k n
 | 0,k,l,x,h=>by
  simp only[walk] at h
  cases h
  simp[sw]
 | n+1,k,l,x,h=>by
  simp only[walk] at h
  split at h
  ·cases h
  ·have:=Gac n (k+1) _ x h
   rw[Ql]
   unfold stp at this
   omega
theorem Xd{b:Int}{ds:List Int}:∀ (n k:Nat) (l:Int) (d:Nat),walk b ds n k l=.dry d->k<=d/\d<k+n
 | 0,k,l,d,h=>by simp only[walk] at h; cases h
 | n+1,k,l,d,h=>by
  simp only[walk] at h
  split at h
  ·cases h; omega
  ·have:=Xd n (k+1) _ d h
   omega
theorem Gad{b:Int}{ds:List Int}:∀ (n k:Nat) (l x:Int),walk b ds (n+1) k l=.lev x->0<=x
 | 0,k,l,x,h=>by
  simp only[walk] at h
  split at h
  ·cases h
  ·cases h; omega
 | n+1,k,l,x,h=>by
  rw[walk] at h
  split at h
  ·cases h
  ·exact Gad n (k+1) _ x h
theorem Gi8{b:Int}{n m k:Nat}{l:Int}(hm:1<=m)(hn:m<=n)(h:l+sw ds k m<0):∃ d,walk b ds n k l=.dry d/\k<=d/\d<k+m:=by
 obtain⟨r,rfl⟩:∃ r,n=m+r:=⟨n-m,by omega⟩
 rw[Vc]
 cases z:walk b ds m k l with
 | dry d=>exact⟨d,rfl,Xd m k l d z⟩
 | lev x=>
  have h1:=Gac m k l x z
  obtain⟨m',rfl⟩:∃ m',m=m'+1:=⟨m-1,by omega⟩
  have h2:=Gad m' k l x z
  omega
theorem Gc4{b:Int}{ds:List Int}(hb:0<=b)(hall:∀ k m,-b<=sw ds k m):∀ (n k:Nat) (l:Int),(∀ m,0<=l+sw ds k m)->∃ x,walk b ds n k l=.lev x
 | 0,k,l,_=>⟨l,rfl⟩
 | n+1,k,l,h=>by
  have h1:=h 1
  rw[Ql] at h1
  simp only[sw] at h1
  have hs:¬ stp b l (ds.getD (k%ds.length) 0)<0:=by unfold stp; omega
  simp only[walk]
  rw[if_neg hs]
  refine Gc4 hb hall n (k+1) _ fun m=>?_
  have h2:=h (m+1)
  rw[Ql] at h2
  have h3:=hall (k+1) m
  unfold stp
  omega
theorem Geu{r:Nat}(h:r<ds.length):seg ds f r=str ds f r:=by
 unfold str
 rw[Nat.div_eq_of_lt h,Nat.mod_eq_of_lt h]
 simp
theorem Gfm(hne:ds≠[])(hs:0<=ds.sum){B:Int}(hB:0<=B)(h:∀ f m,f<ds.length->1<=m->m<=ds.length -> -B<=str ds f m)(k m:Nat) : -B<=sw ds k m:=by
 have hL:0<ds.length:=List.length_pos_iff.mpr hne
 have hk:=Nat.mod_lt k hL
 have hr:=Nat.mod_lt m hL
 rw[<- Gc2,<- Yy hne hk]
 unfold str
 have h0:0<=((m / ds.length:Nat):Int)*ds.sum:=Int.mul_nonneg (Int.natCast_nonneg _) hs
 by_cases c:m%ds.length=0
 ·rw[c,Gc3]; omega
 ·rw[Geu hr]
  have:=h (k%ds.length) (m%ds.length) hk (by omega) (by omega)
  omega
end WM
namespace Law
open PySem PySem.Spec PyProof.Rows L2 DL WM
variable{n:Nat}{S:Sto}{ds:List Int}
def pr(x:Nat×Nat):D:=.tup [.int x.1,.int x.2]
def row(i:Nat)(j:Nat):List (Nat×Nat):=(List.range j).map fun m=>(i,m+1)
def prs(n:Nat):Nat->List (Nat×Nat)
 | 0=>[]
 | i+1=>prs n i++row i n
theorem Qm{n:Nat}:∀ {i:Nat} {x:Nat×Nat},x∈prs n i↔x.1<i/\1<=x.2/\x.2<=n
 | 0,x=>by simp[prs]
 | i+1,x=>by
  rw[prs,List.mem_append,Qm]
  simp only[row,List.mem_map,List.mem_range]
  constructor
  ·rintro(h | ⟨m,hm,rfl⟩)
   ·omega
   ·simp; omega
  ·rintro⟨h1,h2,h3⟩
   by_cases c:x.1<i
   ·exact .inl ⟨c,h2,h3⟩
   ·refine .inr ⟨x.2-1,by omega,?_⟩
    have e1:i=x.1:=by omega
    have e2:x.2-1+1=x.2:=by omega
    rw[e2,e1]
theorem Gae{n:Nat}:∀ i,(prs n i).length=i*n
 | 0=>by simp[prs]
 | i+1=>by rw[prs,List.length_append,Gae i,Nat.succ_mul]; simp[row]
def Yi:Ev D:=tp (ac (vr 0) (ac (vr 1) an))
def it2:Ev Src:=ir2 (ac (cn (.int 1)) (ac (o2 Jb (b1 Jd (ac (vr 2) an)) (cn (.int 1))) an))
theorem Gmj{k:Nat}:(rsrc 1 n).nxt k S=((List.range n).map fun k:Nat=>D.int (1+(k:Int)))[k]?:=by
 show(if k<n then some (D.int (1+k)) else none)=_
 rw[List.getElem?_map]
 by_cases c:k<n
 ·rw[if_pos c,List.getElem?_range c]; rfl
 ·rw[if_neg c,List.getElem?_eq_none (by simp; omega)]; rfl
theorem Gk9{dd:D}{i:Nat}{ys:List (Nat×Nat)}{g:Option D}(hy:ys.length+n<1000000):∃ g',Hf (rsrc 1 n).nxt (gn 1) (cbody S.length ttrue Yi) (n+1) 0 [some (.int i),g,some dd] (S++[⟨false,ys.map pr⟩])=.nx [some (.int i),g',some dd] (S++[⟨false,(ys++row i n).map pr⟩]):=by
 obtain⟨ρ',S',e,g',e1,e2⟩:=Uo (nxt:=(rsrc 1 n).nxt) (g:=gn 1) (b:=cbody S.length ttrue Yi) (l:=(List.range n).map fun k:Nat=>D.int (1+(k:Int))) (fun k ρ S'=>∃ g,ρ=[some (.int i),g,some dd]/\S'=S++[⟨false,(ys++row i k).map pr⟩])
  (fun k _ _ _=>Gmj) (fun k d ρ S1 hd ⟨g,e1,e2⟩=>by
   have hk:k<n:=by
    have:=(List.getElem?_eq_some_iff.mp hd).1
    simpa using this
   rw[List.getElem?_map,List.getElem?_range hk] at hd
   cases (Option.some.inj hd)
   subst e1 e2
   refine⟨_,_,_,rfl,?_,some (.int (1+k)),rfl,rfl⟩
   have q1:(S++[⟨false,(ys++row i k).map pr⟩])[S.length]?=some (⟨false,(ys++row i k).map pr⟩:Cell):=by rw[List.getElem?_append_right (Nat.le_refl _)]; simp
   have ev:Yi [some (.int i),some (.int (1+k)),some dd] (S++[⟨false,(ys++row i k).map pr⟩])=.ok (pr (i,k+1)) (S++[⟨false,(ys++row i k).map pr⟩]):=by
    have e0:((k+1:Nat):Int)=1+(k:Int):=by omega
    show _=Out.ok (D.tup [.int (i:Int),.int ((k+1:Nat):Int)]) _
    rw[e0]
    rfl
   show cbody S.length ttrue Yi [some (.int i),some (.int (1+k)),some dd] (S++[⟨false,(ys++row i k).map pr⟩])=_
   unfold cbody ttrue
   simp only[Kt,if_true,ev,q1]
   rw[if_pos (by simp[row]; omega)]
   refine congrArg (OS.nx _) ?_
   rw[List.set_append_right _ _ (Nat.le_refl _),Nat.sub_self]
   simp[row,List.range_succ]) (n+1) 0 [some (.int i),g,some dd] (S++[⟨false,ys.map pr⟩]) (Nat.zero_le _) ⟨g,rfl,by simp[row]⟩ (by simp)
 refine⟨g',?_⟩
 rw[e,e1,e2]
 simp
theorem Gi9(hl:ds.length<=60):
  Ga0 (ir1 (ac (b1 Jd (ac (vr 0) an)) an)) [none,none,some 0] (gn 0) ttrue it2 (gn 1) ttrue Yi [some (.tup (ds.map D.int)),none] S=.ok (.lst S.length) (S++[⟨false,(prs ds.length ds.length).map pr⟩]):=by
 have h1:ir1 (ac (b1 Jd (ac (vr 0) an)) an) [some (.tup (ds.map D.int)),none] S=.ok (rsrc 0 ds.length) S:=Gi7 (by simp) (by omega)
 obtain⟨ρ',S',e,g,g',e1,e2⟩:=Uo (nxt:=(rsrc 0 ds.length).nxt) (g:=gn 0) (b:=cb2 S.length ttrue it2 (gn 1) ttrue Yi) (l:=(List.range ds.length).map fun k:Nat=>D.int (k:Int)) (fun k ρ S'=>∃ g g',ρ=[g,g',some (.tup (ds.map D.int))]/\S'=S++[⟨false,(prs ds.length k).map pr⟩])
  (fun k _ _ _=>Ges) (fun k d ρ S1 hd ⟨g,g',e1,e2⟩=>by
   obtain⟨hk,rfl⟩:=Gi6 hd
   subst e1 e2
   have hlen:=Gae (n:=ds.length) k
   have hb:k*ds.length<=60*60:=Nat.mul_le_mul (by omega) hl
   obtain⟨g2,e3⟩:=Gk9 (dd:=.tup (ds.map D.int)) (n:=ds.length) (i:=k) (S:=S) (ys:=prs ds.length k) (g:=g') (by omega)
   refine⟨[some (.int k),g',some (.tup (ds.map D.int))],[some (.int k),g2,some (.tup (ds.map D.int))],S++[⟨false,(prs ds.length (k+1)).map pr⟩],rfl,?_,some (.int k),g2,rfl,rfl⟩
   have hr:it2 [some (.int k),g',some (.tup (ds.map D.int))] (S++[⟨false,(prs ds.length k).map pr⟩])=.ok (rsrc 1 ds.length) (S++[⟨false,(prs ds.length k).map pr⟩]):=by
    unfold it2 ir2
    simp only[Gfh,Gk0,Gfi,Gfj,Gfg,Gff,Xa,Gk4,Gcu,List.getElem?_cons_zero,List.getElem?_cons_succ]
    rw[if_pos (by simp; omega)]
    congr 2
    simp
   unfold cb2
   have ht:ttrue [some (.int k),g',some (.tup (ds.map D.int))] (S++[⟨false,(prs ds.length k).map pr⟩])=.ok true (S++[⟨false,(prs ds.length k).map pr⟩]):=rfl
   rw[ht]
   simp only[Kt,if_true,hr]
   exact e3) (ds.length+1) 0 [none,none,some (.tup (ds.map D.int))] (S++[⟨false,[]⟩]) (Nat.zero_le _) ⟨none,none,rfl,by simp[prs]⟩ (by simp)
 unfold Ga0
 rw[h1]
 simp only[Xa]
 have:pkS [none,none,some 0] [some (D.tup (ds.map D.int)),none]=[none,none,some (.tup (ds.map D.int))]:=rfl
 rw[this]
 have e':Hf (rsrc 0 ds.length).nxt (gn 0) (cb2 S.length ttrue it2 (gn 1) ttrue Yi) (rsrc 0 ds.length).fuel 0 [none,none,some (.tup (ds.map D.int))] (S++[⟨false,[]⟩])=.nx ρ' S':=e
 rw[e',e2]
 simp
theorem Yz{α:Type}{q:Nat}{S:Sto}{g:D->Sto->Out D}{p:α->D}{kf:α->Int}{xs:List α}(hq:S[q]?=some ⟨false,xs.map p⟩)(hg:∀ x∈xs,g (p x) S=.ok (.int (kf x)) S):
  ∀ (n j:Nat) (best:α),best∈xs->(∀ i,i<j->∀ x,xs[i]?=some x->kf best<=kf x)->xs.length<j+n->j<=xs.length->∃ x,mkL q g n j (p best) (kf best) S=.ok (p x) S/\x∈xs/\∀ y∈xs,kf x<=kf y
 | 0,j,best,hb,hm,hl,hj=>by omega
 | n+1,j,best,hb,hm,hl,hj=>by
  rw[mkL]
  simp only[hq,List.getElem?_map]
  cases z:xs[j]? with
  | none=>
   have hj:=List.getElem?_eq_none_iff.mp z
   refine⟨best,rfl,hb,fun y hy=>?_⟩
   obtain⟨i,hi⟩:=List.mem_iff_getElem?.mp hy
   exact hm i (by have:=(List.getElem?_eq_some_iff.mp hi).1; omega) y hi
  | some x=>
   have hx:=List.mem_of_getElem? z
   have hlt:=(List.getElem?_eq_some_iff.mp z).1
   simp only[Option.map_some,hg x hx]
   by_cases c:kf x<kf best
   ·rw[if_pos c]
    refine Yz hq hg n (j+1) x hx (fun i hi y hy=>?_) (by omega) (by omega)
    by_cases e:i=j
    ·subst e; rw[z] at hy; cases hy; omega
    ·have:=hm i (by omega) y hy; omega
   ·rw[if_neg c]
    refine Yz hq hg n (j+1) best hb (fun i hi y hy=>?_) (by omega) (by omega)
    by_cases e:i=j
    ·subst e; rw[z] at hy; cases hy; omega
    ·exact hm i (by omega) y hy
theorem Gja{α:Type}{q:Nat}{g:D->Sto->Out D}{p:α->D}{kf:α->Int}{xs:List α}(hq:S[q]?=some ⟨false,xs.map p⟩)(hne:xs≠[])(hg:∀ x∈xs,g (p x) S=.ok (.int (kf x)) S):∃ x,mk0 q g S=.ok (p x) S/\x∈xs/\∀ y∈xs,kf x<=kf y:=by
 unfold mk0
 cases xs with
 | nil=>exact absurd rfl hne
 | cons a r=>
  simp only[hq,List.map_cons,List.getElem?_cons_zero,hg a List.mem_cons_self]
  obtain⟨x,h1,h2⟩:=Yz (kf:=kf) (p:=p) hq hg (((p a::r.map p).length)+1) 1 a List.mem_cons_self (fun i hi y hy=>by
   have:i=0:=by omega
   subst this
   cases hy
   exact Int.le_refl _) (by simp; omega) (by simp)
  exact⟨x,h1,h2⟩
theorem Zc(hne:ds≠[])(hl:ds.length<=60)(hd:∀ d∈ds,-1000000000000000<=d/\d<=1000000000000000):
  ∃ f m:Nat,Qw [.tup (ds.map D.int)] S=.ok (.tup [.int f,.int m]) (S++[⟨false,(prs ds.length ds.length).map pr⟩])/\f<ds.length/\1<=m/\m<=ds.length/\∀ f' m':Nat,f'<ds.length->1<=m'->m'<=ds.length->str ds f m<=str ds f' m':=by
 have hL:0<ds.length:=List.length_pos_iff.mpr hne
 generalize hS1:S++[(⟨false,(prs ds.length ds.length).map pr⟩:Cell)]=S1
 have hq:S1[S.length]?=some ⟨false,(prs ds.length ds.length).map pr⟩:=by rw[<- hS1,List.getElem?_append_right (Nat.le_refl _)]; simp
 have hpn:prs ds.length ds.length≠[]:=fun z=>by
  have:((0,1):Nat×Nat)∈prs ds.length ds.length:=Qm.mpr ⟨hL,Nat.le_refl _,hL⟩
  rw[z] at this; cases this
 have g0':∀ (a b:D) (S:Sto),DL.getD (.tup [a,b]) (.int 0) S=.ok a S:=fun _ _ _=>Zy rfl
 have g1':∀ (a b:D) (S:Sto),DL.getD (.tup [a,b]) (.int 1) S=.ok b S:=fun _ _ _=>Zy rfl
 obtain⟨x,e,hx,hm⟩:=Gja (q:=S.length) (S:=S1) (p:=pr) (kf:=fun x=>str ds x.1 x.2) (xs:=prs ds.length ds.length)
  (g:=fun x S=>(cl 3 (Gm Gv) (ac (vr 1) (ac (o2 DL.getD (vr 0) (cn (.int 0))) (ac (o2 DL.getD (vr 0) (cn (.int 1))) an)))) (Ui [none,some 0] [some (.tup (ds.map D.int)),some (.lst S1.length)] x) S) hq hpn (fun x hx=>by
   obtain⟨h1,h2,h3⟩:=Qm.mp hx
   have st:=Ve (f:=x.1) (m:=x.2) (S:=S1) hne hl hd h1
   show(cl 3 (Gm Gv) (ac (vr 1) (ac (o2 DL.getD (vr 0) (cn (.int 0))) (ac (o2 DL.getD (vr 0) (cn (.int 1))) an)))) [some (pr x),some (.tup (ds.map D.int))] S1=_
   unfold pr
   simp[cl,Gm,g0',g1',st])
 obtain⟨h1,h2,h3⟩:=Qm.mp hx
 refine⟨x.1,x.2,?_,h1,h2,h3,fun f' m' q1 q2 q3=>hm (f',m') (Qm.mpr ⟨q1,q2,q3⟩)⟩
 have pc:=Gi9 (ds:=ds) (S:=S) hl
 rw[hS1] at pc
 unfold it2 Yi at pc
 have e':mk0 S.length (fun x S=>(cl 3 (Gm Gv) (ac (vr 1) (ac (o2 DL.getD (vr 0) (cn (.int 0))) (ac (o2 DL.getD (vr 0) (cn (.int 1))) an)))) (Ui [none,some 0] [some (.tup (ds.map D.int)),some (.lst S.length)] x) S) S1=.ok (pr x) S1:=e
 refine(Qx (m:=2) (b:=Kd)).trans ?_
 show fin (Kd [some (.tup (ds.map D.int)),none] S)=_
 unfold Kd
 refine(Kv (ρ':=[some (.tup (ds.map D.int)),some (.lst S.length)]) (S':=S1) (by
  rw[Gk3,pc]
  rfl)).trans ?_
 have hm:mkD (vr 1) [none,some 0] (cl 3 (Gm Gv) (ac (vr 1) (ac (o2 DL.getD (vr 0) (cn (.int 0))) (ac (o2 DL.getD (vr 0) (cn (.int 1))) an)))) [some (.tup (ds.map D.int)),some (.lst S.length)] S1=.ok (pr x) S1:=e'
 rw[Zv,hm]
 rfl
theorem Gc5(hne:ds≠[])(hl:ds.length<=60)(hd:∀ d∈ds,-1000000000000000<=d/\d<=1000000000000000):
  ∃ S',(∃ l,S'=S++l)∧
   ((ds.sum<0/\Ha [.tup (ds.map D.int)] S=.ok .non S')∨
    (∃ (f m:Nat),0<=ds.sum/\Ha [.tup (ds.map D.int)] S=.ok (.int (max 0 (-str ds f m))) S'/\f<ds.length/\1<=m/\m<=ds.length/\∀ f' m':Nat,f'<ds.length->1<=m'->m'<=ds.length->str ds f m<=str ds f' m')):=by
 have ap:Ha [.tup (ds.map D.int)] S=fin (Hj [some (.tup (ds.map D.int)),none,none] S):=Qx (m:=3) (b:=Hj)
 by_cases c:ds.sum<0
 ·refine⟨S,⟨[],by simp⟩,.inl ⟨c,?_⟩⟩
  rw[ap]
  simp[Hj,c,fin]
 ·obtain⟨f,m,e1,f0,m0,m1,mi⟩:=Zc (S:=S) hne hl hd
  generalize hS1:S++[(⟨false,(prs ds.length ds.length).map pr⟩:Cell)]=S1 at *
  have st:=Ve (m:=m) (S:=S1) hne hl hd f0
  refine⟨S1,⟨_,hS1.symm⟩,.inr ⟨f,m,by omega,?_,f0,m0,m1,mi⟩⟩
  rw[ap]
  simp[Hj,c,e1,st,fin,gt,gcons,gnil]
theorem Gla:Gb0 .non .non S=.ok (.bl true) S:=id rfl
theorem Gc6(hne:ds≠[])(s0:0<=ds.sum){B:Int}(hB:0<=B)(h:∀ f m:Nat,f<ds.length->1<=m->m<=ds.length -> -B<=str ds f m)(n k:Nat):∃ x,walk B ds n k B=.lev x:=
 Gc4 hB (Gfm hne s0 hB h) n k B fun m=>by have:=Gfm hne s0 hB h k m; omega
theorem Gc7(hne:ds≠[]){B:Int}(hB:0<=B){f m:Nat}(hf:f<ds.length)(hm:1<=m)(hn:f+m<=n)(h:str ds f m < -B):∃ d,walk B ds n 0 B=.dry d/\d<f+m:=by
 obtain⟨r,rfl⟩:∃ r,n=f+r:=⟨n-f,by omega⟩
 rw[Vc]
 cases z:walk B ds f 0 B with
 | dry d=>exact⟨d,rfl,by have:=Xd f 0 B d z; omega⟩
 | lev x=>
  have hx:=Gab f 0 B x hB (Int.le_refl _) z
  obtain⟨d,h1,h2,h3⟩:=Gi8 (b:=B) (ds:=ds) (n:=r) (m:=m) (k:=0+f) (l:=x) hm (by omega) (by
   rw[Nat.zero_add,<- Yy hne hf]; omega)
  exact⟨d,h1,by omega⟩
theorem Gjb{q:Nat}{fz:Bool}{ns:List Int}(e:S[q]?=some ⟨fz,ns.map D.int⟩):∃ S',Wb [.lst q] S=.ok (.bl true) S':=by
 obtain⟨t,k,S1,e1,t1⟩:=Ger e
 obtain⟨ds,S2,e2,t2,h1,h2,h3⟩:=Gen t1
 have hne:ds≠[]:=by intro z; subst z; simp at h1
 have hL:0<ds.length:=List.length_pos_iff.mpr hne
 obtain⟨S4,⟨l4,x4⟩,h4⟩:=Gc5 (S:=S2) hne h2 h3
 suffices h:∃ S',fin (Ya [some (.lst q),none,none] S)=.ok (.bl true) S' from let ⟨S',h⟩:=h; ⟨S',(Qx (m:=3) (b:=Ya)).trans h⟩
 unfold Ya
 have k1:sa (cl 1 (Gm Hu) (ac (cl 1 (Gm Jq) (ac (vr 0) an)) an)) (gn 1) [some (.lst q),none,none] S=.nx [some (.lst q),some (.tup (ds.map D.int)),none] S2:=by simp[e1,e2]
 rw[Kv k1]
 rcases h4 with⟨c,e4⟩ | ⟨f,m,s0,e4,f0,m0,m1,mi⟩
 ·have k2:sa (cl 1 (Gm Ha) (ac (vr 1) an)) (gn 2) [some (.lst q),some (.tup (ds.map D.int)),none] S2=.nx [some (.lst q),some (.tup (ds.map D.int)),some .non] S4:=by simp[e4]
  rw[Kv k2]
  exact⟨S4,by simp[c,Gla,fin]⟩
 ·obtain⟨B,hB⟩:∃ B:Int,B=max 0 (-str ds f m):=⟨_,rfl⟩
  rw[<- hB] at e4
  have B0:0<=B:=by omega
  have k2:sa (cl 1 (Gm Ha) (ac (vr 1) an)) (gn 2) [some (.lst q),some (.tup (ds.map D.int)),none] S2=.nx [some (.lst q),some (.tup (ds.map D.int)),some (.int B)] S4:=by simp[e4]
  rw[Kv k2]
  obtain⟨x,hw⟩:=Gc6 hne s0 B0 (fun f' m' q1 q2 q3=>by have:=mi f' m' q1 q2 q3; omega) (2*ds.length) 0
  have e20:((2*ds.length:Nat):Int)=2*(ds.length:Int):=by push_cast; rfl
  have w1:=Wd (b:=B) (l:=B) (m:=2*ds.length) (S:=S4) hne B0 (by omega)
  rw[hw,e20] at w1
  have mu:Jt (.int 2) (.int ds.length) S4=.ok (.int (2*(ds.length:Int))) S4:=Yd (by decide) (by decide)
  have ns:¬ ds.sum<0:=by omega
  have nz:¬ B<0:=by omega
  by_cases c0:B=0
  ·subst c0
   exact⟨S4,by simp[Gap,Gc0,ns,mu,w1,enc,g0,ld,fin]⟩
  ·obtain⟨d,hd,_⟩:=Gc7 (B:=B-1) (n:=2*ds.length) hne (by omega) f0 m0 (by omega) (by omega)
   have w2:=Wd (b:=B-1) (l:=B-1) (m:=2*ds.length) (S:=S4) hne (by omega) (by omega)
   rw[hd,e20] at w2
   exact⟨S4,by simp[Gap,Gc0,ns,nz,mu,w1,w2,c0,enc,g0,ld,dd,fin]⟩
theorem hsp{P:Addr}(K:PySem.W.Frag)(H:Hp)(a:Addr)(ns:List Int)(hl:ns.length<=63)(hT:Vj K P)(hO:Zu P H)(hS:SqL K H a (ns.map V.int)):spD K 1 Wb [.ref a] H (fun v _=>v=.bl true) fun _ _ _=>False:=by
 have haP:∀ xs,H a≠some (.lst xs):=fun xs z=>by
  by_cases h:a=P
  ·rw[h,hO.1] at z; cases z
  ·rcases hO.2 a h with y | ⟨o,ys,y⟩<;>(rw[y] at z; cases z)
 have hF:SqF K H a (ns.map V.int):=by
  rcases hS with(h | h) | h
  ·exact absurd h (haP _)
  ·exact .inl h
  ·exact .inr h
 have nd:¬ Dcy H a:=fun⟨_,z⟩=>by
  by_cases h:a=P
  ·rw[h,hO.1] at z; cases z
  ·rcases hO.2 a h with y | ⟨o,ys,y⟩<;>(rw[y] at z; cases z)
 have tab:Xl K H:=fun P' k'=>by
  cases hT.one k'
  exact⟨#[],hO.1,trivial,fun pos cv z=>by simp[codeAmong] at z⟩
 obtain⟨S',e⟩:=Gjb (S:=[⟨true,ns.map D.int⟩]) (q:=0) (fz:=true) (ns:=ns) rfl
 refine⟨[a],[.lst 0],[⟨true,ns.map D.int⟩],⟨rfl,fun i b c h1 h2=>?_,fun i j b ci cj h1 h2 h3 h4 h5 h6=>?_,tab⟩,RepL.cons ⟨a,rfl,rfl,nd⟩ RepL.nil,rfl,?_⟩
 ·cases i with
  | zero=>
   cases (Option.some.inj h1)
   cases (Option.some.inj h2)
   exact .inl ⟨ns.map V.int,Yg ns,(if_pos rfl).mpr hF⟩
  | succ i=>simp at h1
 ·cases i with
  | zero=>cases (Option.some.inj h3); cases h5
  | succ i=>simp at h1
 ·show Ge1 K [a] H (Wb [.lst 0] [⟨true,ns.map D.int⟩]) _
  rw[e]
  exact fun mp' H' v _ _ h=>h
end Law
def PySem.W.Fast.tw2883357713491177839:Nat:=0
def PySem.W.Fast.tw4245881358837496616:Nat:=0
def PySem.W.Fast.tw6638448372307148020:Nat:=0
def PySem.W.Fast.tw2055328899946985626:Nat:=0
def PySem.W.Fast.tw7751821352361084143:Nat:=0
def PySem.W.Fast.tw553840456601658048:Nat:=0
def PySem.W.Fast.tw10210382123111479579:Nat:=0
def PySem.W.Fast.tw3596306054515131632:Nat:=0
def PySem.W.Fast.tw7215390300956156236:Nat:=0
def PySem.W.Fast.tw15112384813759475904:Nat:=0
def PySem.W.Fast.tw16380696980526933029:Nat:=0
def PySem.W.Fast.tw1332908330449825403:Nat:=0
def PySem.W.Fast.tw17140968797585349002:Nat:=0
def PySem.W.Fast.tw1571183353440687068:Nat:=0
def PySem.W.Fast.tw9093342658360637326:Nat:=0
def PySem.W.Fast.tw11348498139725052157:Nat:=0
def PySem.W.Fast.tw4662732378248069204:Nat:=0
def PySem.W.Fast.tw2838525430822244517:Nat:=0
def PySem.W.Fast.tw14686213370717827551:Nat:=0
def PySem.W.Fast.tw1471949074704823313:Nat:=0
def PySem.W.Fast.tw11417139345095058542:Nat:=0
def PySem.W.Fast.tw17304840240275946413:Nat:=0
open PySem PySem.W PyProof.Rows
set_option maxHeartbeats 0 in
theorem PySem.Challenge.cw_summitwater_k54_least_brims_holds : PySem.Challenge.rw_summitwater_k54_least_brims.Holds := by
 w_on; o_law; k_head; (case hw=>w_witness2)
 k_fill
 refine DL.Gcs (l:=PySem.Challenge.rw_summitwater_k54_least_brims) (n:=63) (k:=6) (x:="script") (CX:=L2.CX0) (sp:=fun K=>DL.spD K 1 Law.Wb) rfl (by decide) rfl ⟨rfl,by decide,by decide,rfl⟩ (fun w h Y=>⟨PySem.W.km_in_of Y,PySem.W.km_tabs_of Y _ (List.Mem.head _)⟩) ?T1 ?T2 ?T3 ?F Law.hsp (fun _ _ _ _ z=>z)
 case T1=>intro w; kernel_rfl!
 case T2=>intro w; kernel_rfl!
 case T3=>intro w; kernel_rfl!
 case F=>
  intro w mg fa h KX G hmg
  refine' Law.Giy KX G hmg ?HS ?x0
  (case HS=>constructor<;>first | (refine' DL.fhd_mk ?a ?l ?c ?k ?t; (case a=>k_is); (case l=>k_is); (case c=>k_is); (case k=>k_is); (case t=>k_is)) | (refine' DL.Gkr ?a ?l ?c ?k; (case a=>k_is); (case l=>k_is); (case c=>k_is); (case k=>k_is)) | k_is)
  (case x0=>kernel_rfl!)
