import PyProof.Rows.All
import Wide.All
import OpenK.AllK
import Wide.FinOn
import Lean
import PyProof.EqAt
import PyProof.EqKinds
import PyProof.TupleCall
import PyProof.FactsAll.tuple_2
import PyProof.ListMulRoad
import PyProof.ExcArgsOwn
import PyProof.ZipIter
import PyProof.EnumFor
import PyProof.Rows.StrJoin2
import PyProof.FString
import PyProof.StrBlockH
import PyProof.StrWalks
import PyProof.EnumMake
import KE.KIntText
import PyProof.CallStr
import PyProof.ExcInit
import PyProof.ExcClass3
import PyProof.ExcBaseAll.ValueError
import PyProof.NsDelKeeps
import KE.KTryMore
import PyProof.Rows.CountFlat
import PyProof.Rows.KernelRfl
import PyProof.ListRange
import PyProof.InstStoreFacts
import PyProof.Rows.InDataRows
import PyProof.DictTable
import PyProof.DictRoads
import PyProof.DictStraight
import PyProof.Rows.TupTab
import PyProof.Rows.TupDisplay
import PyProof.DictTruth
import PySem.Challenge.RW_summitwater_k74_long_rings
set_option maxHeartbeats 4000000
set_option Elab.async false
set_option linter.all false
set_option maxRecDepth 100000
namespace L2
open PySem PySem.Spec PyProof.Rows
abbrev Key:=Sum Int Str
def Gpc:Key->Value->Bool
 | .inl k,v=>Value.isInt k v
 | .inr x,v=>Value.isStrOf x v
def Gx1(w:World):Key->Int
 | .inl k=>hashInt k
 | .inr x=>hashStr w x
theorem Hy:∀ {k:Key} {v:Value},Gpc k v=true->(∃ i t,k=Sum.inl i/\v=Value.int i t)\/(∃ x t,k=Sum.inr x/\v=Value.str x t)
 | .inl i,v,h=>by
  obtain⟨t,e⟩:=Value.isInt_shape (k:=i) (v:=v) h
  exact .inl ⟨i,t,rfl,e⟩
 | .inr x,v,h=>by
  obtain⟨t,e⟩:=Value.isStrOf_shape (x:=x) (v:=v) h
  exact .inr ⟨x,t,rfl,e⟩
theorem Gqd(a b:Int):decide ((Sum.inl a:Key)=Sum.inl b)=(a==b):=by
 by_cases e:a=b
 ·subst e; simp
 ·have h:¬ (Sum.inl a:Key)=Sum.inl b:=fun q=>e (Sum.inl.inj q)
  rw[decide_eq_false h]
  exact(beq_eq_false_iff_ne.mpr e).symm
theorem Gqe(a b:Str):decide ((Sum.inr a:Key)=Sum.inr b)=decide (a=b):=by
 by_cases e:a=b
 ·subst e; simp
 ·have h:¬ (Sum.inr a:Key)=Sum.inr b:=fun q=>e (Sum.inr.inj q)
  rw[decide_eq_false h,decide_eq_false e]
theorem Gqf(a:Int)(b:Str):decide ((Sum.inl a:Key)=Sum.inr b)=false:=decide_eq_false (fun q=>nomatch q)
theorem Gqg(a:Str)(b:Int):decide ((Sum.inr a:Key)=Sum.inl b)=false:=decide_eq_false (fun q=>nomatch q)
def Gg2(prog:Program)(w:World):PySem.KeyKind prog w Key where
 is:=Gpc
 hash:=Gx1 w
 inj:=fun v a b ha hb=>by
  rcases Hy ha with⟨i,t,rfl,rfl⟩ | ⟨x,t,rfl,rfl⟩
  ·rcases Hy hb with⟨j,u,rfl,e⟩ | ⟨y,u,rfl,e⟩
   ·injection e with e1 _; rw[e1]
   ·exact nomatch e
  ·rcases Hy hb with⟨j,u,rfl,e⟩ | ⟨y,u,rfl,e⟩
   ·exact nomatch e
   ·injection e with e1 _; rw[e1]
 byValue:=fun k v h=>by
  rcases Hy h with⟨i,t,rfl,rfl⟩ | ⟨x,t,rfl,rfl⟩<;>rfl
 pyHash:=fun hv h=>by
  rcases Hy hv with⟨i,t,rfl,rfl⟩ | ⟨x,t,rfl,rfl⟩
  ·exact wpAny_pyHash_int h
  ·exact wpAny_pyHash_str h
 eqBool:=fun hu hv h=>by
  rcases Hy hu with⟨i,t,rfl,rfl⟩ | ⟨x,t,rfl,rfl⟩
  ·rcases Hy hv with⟨j,u,rfl,rfl⟩ | ⟨y,u,rfl,rfl⟩
   ·rw[Gqd] at h; exact wpAny_eqBool_int h
   ·rw[Gqf] at h; exact SeqAt.EqAt.int_str i t y u _ _ _ _ h
  ·rcases Hy hv with⟨j,u,rfl,rfl⟩ | ⟨y,u,rfl,rfl⟩
   ·rw[Gqg] at h; exact SeqAt.EqAt.str_int x t j u _ _ _ _ h
   ·rw[Gqe] at h; exact wpAny_eqBool_str h
 «strs»:=fun k x t v h=>by
  rcases Hy h with⟨i,u,rfl,e⟩ | ⟨y,u,rfl,e⟩
  ·exact nomatch e
  ·injection e with e1 _
   subst e1
   cases v<;>rfl
inductive V where
 | non | bl (b:Bool) | int (i:Int) | str (x:Str) | byt (b:Array UInt8) | flt (b:UInt64) | ref (a:Addr) | ty (n:String)
 deriving DecidableEq
def He:V->Value->Prop
 | .non,u=>u=Value.none
 | .bl b,u=>u=Value.bool b
 | .int i,u=>∃ t,u=Value.int i t
 | .str x,u=>∃ t,u=Value.str x t
 | .byt b,u=>∃ t,u=Value.bytes b t
 | .flt b,u=>∃ t,u=Value.float b t
 | .ref a,u=>u=Value.ref a
 | .ty n,u=>u=Value.type n
abbrev Vals:List V->List Value->Prop:=Paired He
theorem Vals.length{xs:List V}{us:List Value}(r:Vals xs us):xs.length=us.length:=Paired.length r
theorem Vals.get:∀ {xs:List V} {us:List Value} {i:Nat} {x:V},Vals xs us->xs[i]?=some x->∃ u,us[i]?=some u/\He x u
 | _,_,_,_,.nil,e=>by simp at e
 | _,_,0,_,.cons r _,e=>by simp at e; subst e; exact⟨_,rfl,r⟩
 | _,_,i+1,x,.cons _ t,e=>by
  obtain⟨u,h1,h2⟩:=Vals.get (i:=i) (x:=x) t (by simpa using e)
  exact⟨u,by simpa using h1,h2⟩
theorem Vals.set{x:V}{u:Value}(r:He x u):∀ {xs:List V} {us:List Value} (i:Nat),Vals xs us->Vals (xs.set i x) (us.set i u)
 | _,_,_,.nil=>.nil
 | _,_,0,.cons _ t=>.cons r t
 | _,_,i+1,.cons q t=>.cons q (Vals.set r i t)
theorem Vals.append:∀ {xs ys:List V} {us ws:List Value},Vals xs us->Vals ys ws->Vals (xs++ys) (us++ws)
 | _,_,_,_,.nil,s=>s
 | _,_,_,_,.cons r t,s=>.cons r (Vals.append t s)
theorem Vals.take:∀ {xs:List V} {us:List Value} (n:Nat),Vals xs us->Vals (xs.take n) (us.take n)
 | _,_,0,_=>.nil
 | _,_,_+1,.nil=>.nil
 | _,_,n+1,.cons r t=>.cons r (Vals.take n t)
theorem Vals.drop:∀ {xs:List V} {us:List Value} (n:Nat),Vals xs us->Vals (xs.drop n) (us.drop n)
 | _,_,0,r=>r
 | _,_,_+1,.nil=>.nil
 | _,_,n+1,.cons _ t=>Vals.drop n t
def Gf2:Option V->Option Value->Prop
 | some v,some u=>He v u
 | none,none=>True
 | _,_=>False
def KV{κ:Type}:List (κ×V)->List (κ×Value)->Prop:=Paired fun(p:κ×V) (q:κ×Value)=>p.1=q.1/\He p.2 q.2
def kV:Key->V
 | .inl i=>.int i
 | .inr x=>.str x
inductive NK where
 | i (n:Int) | t (l:List NK)
mutual
def pk:NK->PyData
 | .i n=>.int n
 | .t l=>.tuple (pks l)
def pks:List NK->List PyData
 | []=>[]
 | k::r=>pk k::pks r
end
mutual
theorem Yg:∀ (x y:NK),PyData.eqv (pk x) (pk y)=true↔x=y
 | .i n,.i m=>by simp[pk,PyData.eqv]
 | .i n,.t m=>by simp[pk,PyData.eqv]
 | .t n,.i m=>by simp[pk,PyData.eqv]
 | .t l,.t m=>by simp only[pk,PyData.eqv,pks_eqv l m,NK.t.injEq]
theorem pks_eqv:∀ (x y:List NK),PyData.eqvAll (pks x) (pks y)=true↔x=y
 | [],[]=>by simp[pks,PyData.eqvAll]
 | [],_::_=>by simp[pks,PyData.eqvAll]
 | _::_,[]=>by simp[pks,PyData.eqvAll]
 | a::r,b::q=>by simp only[pks,PyData.eqvAll,Bool.and_eq_true,Yg a b,pks_eqv r q,List.cons.injEq]
end
instance:DecidableEq NK:=fun x y=>if h:PyData.eqv (pk x) (pk y)=true then isTrue ((Yg x y).mp h) else isFalse fun e=>h ((Yg x y).mpr e)
theorem Gqh(x y:NK):PyData.eqv (pk x) (pk y)=decide (x=y):=by
 by_cases h:x=y
 ·rw[decide_eq_true h,(Yg x y).mpr h]
 ·rw[decide_eq_false h]
  cases e:PyData.eqv (pk x) (pk y) with
  | false=>rfl
  | true=>exact absurd ((Yg x y).mp e) h
theorem Gqi{x y:NK}(h:pk x=pk y):x=y:=(Yg x y).mp (by rw[h]; exact(Yg y y).mpr rfl)
mutual
theorem Gf3:∀ (x:NK),(pk x).canLay0=true
 | .i n=>by simp[pk,PyData.canLay0]
 | .t l=>by simp[pk,PyData.canLay0,pks_can l]
theorem pks_can:∀ (x:List NK),PyData.canLayAll0 (pks x)=true
 | []=>by simp[pks,PyData.canLayAll0]
 | a::r=>by simp[pks,PyData.canLayAll0,Gf3 a,pks_can r]
end
mutual
def nkh:NK->Int
 | .i n=>hashInt n
 | .t l=>reduceHash (Builtin.Tuple.tupleHashOf (nkhs l))
def nkhs:List NK->List Int
 | []=>[]
 | k::r=>nkh k::nkhs r
end
mutual
def nkd:NK->Nat
 | .i _=>1
 | .t l=>nkds l+1
def nkds:List NK->Nat
 | []=>0
 | k::r=>nkd k+nkds r
end
theorem Gbe:∀ (l m:List NK),nkhs (l++m)=nkhs l++nkhs m
 | [],m=>by simp[nkhs]
 | a::r,m=>by simp[nkhs,Gbe r m]
theorem Gbf:∀ (l m:List NK),nkds (l++m)=nkds l+nkds m
 | [],m=>by simp[nkds]
 | a::r,m=>by simp[nkds,Gbf r m]; omega
theorem Zj:∀ {l:List NK} {k:NK},k∈l->(pk k).depth<=PyData.depthAll (pks l)
 | [],k,h=>by simp at h
 | a::r,k,h=>by
  rcases List.mem_cons.mp h with rfl | h
  ·simp only[pks,PyData.depthAll]; omega
  ·have:=Zj h
   simp only[pks,PyData.depthAll]; omega
def Gg3(k:NK):Prop:=∀ (prog:Program) (w:World) (A:Around) (E:Value->Shared->Prop) (s:Shared) (v:Value) (as:List Addr) (Q:Int->Shared->Prop),
 Reads s.heap v (pk k) as->A.units+(pk k).depth<cLine->Q (nkh k) { s with toks:=s.toks+nkd k }->wpAny (model prog w) A (pyHash v) Q E s
def Gdw(k:NK):Prop:=∀ (prog:Program) (w:World) (A:Around) (E:Value->Shared->Prop) (s:Shared) (v:Value) (as:List Addr) (n:Nat) (Q:Bool->Shared->Prop),
 Reads s.heap v (pk k) as->(pk k).depth<=n->Q true s->wpAny (model prog w) A (eqIsQuiet n v) Q E s
theorem Giz{l:List NK}(ih:∀ k∈l,Gg3 k):Gg3 (.t l):=by
 intro prog w A E s v as Q r hu h
 simp only[pk] at r
 cases r with
 | @tuple a o vs n xs as ho hc hd rs=>
  have hT:s.TypeIs (.ref a) "tuple":=⟨o,ho,hc⟩
  have hdep:(pk (.t l)).depth=PyData.depthAll (pks l)+1:=by simp[pk,PyData.depth]
  rw[hdep] at hu
  unfold pyHash
  unfold pyHashByItsType
  refine wpAny_bind (wpAny_cRoomFor_or (.inr (by omega)) ?_)
  refine wpAny_bind (wpAny_specialOf hT F.slot_tuple_hash.lookup ?_)
  rw[if_neg (by rw[beq_builtin_none]; exact Bool.false_ne_true)]
  refine wpAny_bind (wpAny_specialOf hT F.slot_tuple_hash.lookup ?_)
  show wpAny _ _ (callSpecialIfBoundUnlessNone? (.ref a) "__hash__" _ >>= _) Q E s
  refine wpAny_bind (wpAny_callSpecialIfBoundUnlessNone?_slot hT F.slot_tuple_hash (wpAny_call_entry F.slot_tuple_hash hT F.entry_tuple_hash ?_ (F.args_tuple_hash_1 _)))
  show wpAny _ _ (Builtin.Tuple.tupleItemsOf (.ref a) >>= _) _ _ s
  refine wpAny_bind (wpAny_tupleItemsOf ho hd ?_)
  refine wpAny_bind ?_
  rw[<- Array.forIn_toList]
  refine wpAny_forIn_list _
   (fun rest (b:Array Int) s'=>∃ done left cs,l=done++left/\ReadsAll s.heap rest (pks left) cs/\b.toList=nkhs done/\s'={ s with toks:=s.toks+nkds done })
   _ ?_ ?_ _ _ ⟨[],l,as,rfl,rs,rfl,rfl⟩
  ·rintro x rest b s' ⟨done,left,cs,el,hl,hb,rfl⟩
   cases left with
   | nil=>simp only[pks] at hl; cases hl
   | cons k left=>
    simp only[pks] at hl
    cases hl with
    | @cons _ _ _ _ c1 c2 h1 h2=>
     have hk:k∈l:=by rw[el]; simp
     have hdk:=Zj hk
     refine wpAny_bind (ih k hk prog w _ _ _ x c1 _ h1 (by first | omega | (show A.units+1+_<cLine; omega)) ?_)
     first
      | exact wpAny_pure ⟨done++[k],left,c2,by simp[el],h2,by simp[hb,Gbe,nkhs],by simp[Gbf,nkds,Nat.add_assoc]⟩
      | exact wpAny_bind (wpAny_pure (wpAny_pure ⟨done++[k],left,c2,by simp[el],h2,by simp[hb,Gbe,nkhs],by simp[Gbf,nkds,Nat.add_assoc]⟩))
  ·rintro b s' ⟨done,left,cs,el,hl,hb,rfl⟩
   cases left with
   | cons k left=>simp only[pks] at hl; cases hl
   | nil=>
    rw[List.append_nil] at el
    subst el
    show wpAny _ _ (retInt (Builtin.Tuple.tupleHashOf b.toList)) _ _ _
    rw[hb]
    refine wpAny_ret_mkInt ?_
    show wpAny _ _ (if(decide (-(2:Int)^63<=Builtin.Tuple.tupleHashOf (nkhs l))&&decide (Builtin.Tuple.tupleHashOf (nkhs l)<2^63))=true then _ else _) Q E _
    unfold nkh reduceHash at h
    simp only[nkd] at h
    by_cases hr:(decide (-(2:Int)^63<=Builtin.Tuple.tupleHashOf (nkhs l))&&decide (Builtin.Tuple.tupleHashOf (nkhs l)<2^63))=true
    ·rw[if_pos hr]
     rw[if_pos hr] at h
     exact wpAny_pure (by simpa[Nat.add_assoc] using h)
    ·rw[if_neg hr]
     rw[if_neg hr] at h
     exact wpAny_bind (wpAny_rule (wpAny_pure (by simpa[Nat.add_assoc] using h)))
mutual
theorem hash_ok:∀ k:NK,Gg3 k
 | .i n=>by
  intro prog w A E s v as Q r hu h
  simp only[pk] at r
  cases r
  exact wpAny_pyHash_int h
 | .t l=>Giz (hash_all l)
theorem hash_all:∀ (l:List NK) (k:NK),k∈l->Gg3 k
 | [],k,h=>by simp at h
 | a::r,k,h=>(List.mem_cons.mp h).elim (fun e=>e▸hash_ok a) (fun m=>hash_all r k m)
end
theorem Gh1{l:List NK}(ih:∀ k∈l,Gdw k):Gdw (.t l):=by
 intro prog w A E s v as n Q r hn h
 simp only[pk] at r
 cases r with
 | @tuple a o vs n' xs as ho hc hd rs=>
  have hT:s.TypeIs (.ref a) "tuple":=⟨o,ho,hc⟩
  have hdep:(pk (.t l)).depth=PyData.depthAll (pks l)+1:=by simp[pk,PyData.depth]
  rw[hdep] at hn
  cases n with
  | zero=>omega
  | succ n=>
   unfold eqIsQuiet
   refine wpAny_bind (wpAny_specialOf hT F.slot_tuple_eq.lookup ?_)
   show wpAny _ _ (isInstance (.ref a) (.type "tuple") >>= _) _ _ s
   refine wpAny_bind (wpAny_isInstance hT isSubtype_tuple_tuple ?_)
   simp only[Bool.not_true,Bool.false_eq_true,if_false]
   refine wpAny_bind (wpAny_seqItems ho hd ?_)
   refine wpAny_bind ?_
   show wpAny _ _ (forIn vs _ _) _ _ s
   rw[<- Array.forIn_toList]
   refine wpAny_forIn_list _ (fun rest r s'=>r.1=none/\s'=s/\∃ left cs,(∀ k∈left,k∈l)/\ReadsAll s.heap rest (pks left) cs) _ ?_ ?_ _ _ ⟨rfl,rfl,l,as,fun _ h=>h,rs⟩
   ·rintro x rest r s' ⟨hr,rfl,left,cs,hm,hl⟩
    cases left with
    | nil=>simp only[pks] at hl; cases hl
    | cons k left=>
     simp only[pks] at hl
     cases hl with
     | @cons _ _ _ _ c1 c2 h1 h2=>
      have hk:=hm k List.mem_cons_self
      have hdk:=Zj hk
      refine wpAny_bind (ih k hk prog w _ _ _ x c1 n _ h1 (by omega) ?_)
      simp only[Bool.not_true,Bool.false_eq_true,if_false]
      exact wpAny_pure ⟨rfl,rfl,left,c2,fun q hq=>hm q (List.mem_cons_of_mem _ hq),h2⟩
   ·rintro⟨r1,r2⟩ s' ⟨hr,rfl,_⟩
    simp only at hr
    subst hr
    exact wpAny_pure h
mutual
theorem quiet_ok:∀ k:NK,Gdw k
 | .i m=>by
  intro prog w A E s v as n Q r hn h
  simp only[pk] at r
  cases r
  rw[eqIsQuiet_byValue n (by rfl)]
  exact wpAny_pure h
 | .t l=>Gh1 (quiet_all l)
theorem quiet_all:∀ (l:List NK) (k:NK),k∈l->Gdw k
 | [],k,h=>by simp at h
 | a::r,k,h=>(List.mem_cons.mp h).elim (fun e=>e▸quiet_ok a) (fun m=>quiet_all r k m)
end
mutual
theorem Gez:∀ (k:NK) {h h':Heap} {v:Value} {as:List Addr} {d:Addr} {o:Obj} {es:Array DictEntry} {ep:Nat},Reads h v (pk k) as->h.get? d=some o->o.data=.dict es ep->Heap.SameBut d h h'->Reads h' v (pk k) as
 | .i n,h,h',v,as,d,o,es,ep,r,_,_,_=>by
  simp only[pk] at r ⊢
  cases r
  exact .int _ _
 | .t l,h,h',v,as,d,o,es,ep,r,ho,hd,hs=>by
  simp only[pk] at r ⊢
  cases r with
  | @tuple a o' vs n' xs as ho' hc hd' rs=>
   have hne:a≠d:=by
    rintro rfl
    obtain rfl:o'=o:=Option.some.inj (ho'.symm.trans ho)
    rw[hd] at hd'
    exact nomatch hd'
   exact .tuple ((hs.2 a hne).trans ho') hc hd' (pks_keeps l rs ho hd hs)
theorem pks_keeps:∀ (l:List NK) {h h':Heap} {v:List Value} {as:List Addr} {d:Addr} {o:Obj} {es:Array DictEntry} {ep:Nat},ReadsAll h v (pks l) as->h.get? d=some o->o.data=.dict es ep->Heap.SameBut d h h'->ReadsAll h' v (pks l) as
 | [],h,h',v,as,d,o,es,ep,r,_,_,_=>by
  simp only[pks] at r ⊢
  cases r
  exact .nil
 | k::l,h,h',v,as,d,o,es,ep,r,ho,hd,hs=>by
  simp only[pks] at r ⊢
  cases r with
  | cons r1 r2=>exact .cons (Gez k r1 ho hd hs) (pks_keeps l r2 ho hd hs)
end
def Gx2(h:Heap)(k:NK)(a:Addr):Prop:=(∃ as,Reads h (.ref a) (pk k) as)/\(pk k).depth<=8
noncomputable def nestKind (prog:Program) (w:World):HeapKind prog w NK where
 is:=Gx2
 hash:=nkh
 draws:=nkd
 room:=fun A=>A.units+10<cLine
 inj:=fun⟨⟨_,hx⟩,_⟩ ⟨⟨_,hy⟩,_⟩=>Gqi (hx.unique _ _ hy).1
 keeps:=fun⟨⟨as,x⟩,q⟩ ho hd hs=>⟨⟨as,Gez _ x ho hd hs⟩,q⟩
 pyHash:=fun hu ⟨⟨as,x⟩,q⟩ h=>hash_ok _ _ _ _ _ _ _ as _ x (by omega) h
 eqBool:=fun hu ⟨⟨as,x⟩,q⟩ ⟨⟨bs,y⟩,q'⟩ h=>SeqAt.eqAt_reads _ _ _ _ _ _ as bs x y (Gf3 _) (Gf3 _) (by omega) _ _ _ _ (by rw[Gqh]; exact h)
 quiet:=fun⟨⟨as,x⟩,q⟩ h=>quiet_ok _ _ _ _ _ _ _ as 8 _ x q h
inductive HO where
 | lst (xs:List V)
 | tup (xs:List V)
 | dK (kvs:List (Key×V)) | dT (kvs:List (NK×Addr×V))
 | set (S:Int->Bool) (n:Nat)
 | ins (C dx:Addr) (fs:List (Str×V))
 | own (x:Addr)
 | xd (fs:List (Str×V))
 | met (f x:Addr)
 | rng (lo hi:Int)
 | frz (o:Obj) (u:HO)
 | tbl (ps:Array Value)
 | ext (φ:Heap->Prop)
abbrev Hp:=Addr->Option HO
def upd(H:Hp)(a:Addr)(o:HO):Hp:=fun b=>if b=a then some o else H b
theorem Hj{H:Hp}{a:Addr}{o:HO}:upd H a o a=some o:=by unfold upd; rw[if_pos rfl]
theorem Gs{H:Hp}{a b:Addr}{o:HO}(h:b≠a):upd H a o b=H b:=by unfold upd; rw[if_neg h]
theorem Wm{H:Hp}{a b:Addr}{o u:HO}(h:H a=some o)(h':H b=some u)(d:o≠u):a≠b:=by
 intro e; subst e; rw[h] at h'; exact d (Option.some.inj h')
theorem Hc{H:Hp}{a b:Addr}{o:HO}(h:H a=some o)(h':H b=none):a≠b:=by
 intro e; subst e; rw[h] at h'; cases h'
section
variable(P:Program)(w:World)
def Jw(H:Hp)(h:Heap)(a:Addr):HO->Prop
 | .lst xs=>xs.length<=sizeLine/\∃ (its:List Value) (n:Nat),Vals xs its/\h.get? a=some { cls:=.type "list",data:=.seq its.toArray n }
 | .tup xs=>xs.length<=sizeLine/\∃ its:List Value,Vals xs its/\IsTup h a its.toArray
 | .dK kvs=>kvs.length<=sizeLine/\(a==sysModules)=false/\∃ vs,KV kvs vs/\h.DictOf (Gg2 P w) a vs
 | .dT kvs=>kvs.length<=sizeLine/\(a==sysModules)=false/\∃ xs:List (NK×Addr×Value),
   Paired (fun(p:NK×Addr×V) (q:NK×Addr×Value)=>p.1=q.1/\p.2.1=q.2.1/\He p.2.2 q.2.2) kvs xs∧
   ∃ o es ep,h.get? a=some o/\o.ExactDict/\o.data=.dict es ep/\es.toList=xs.map (entryOfKey (nestKind P w))/\(xs.map (·.1)).Nodup
 | .set S n=>h.SetOf (intKind P w) a S n
 | .ins C dx fs=>H dx=some (.own a)/\fs.length<=1000/\dx≠a/\h.get? a=some (PySem.W.instObj C dx)∧
   ∃ mA,h.Ns1 dx mA/\(∀ f,Gf2 (fs.lookup f) (mA f))/\PySem.Within mA (fs.map (·.1))
 | .own _=>∃ o,h.get? a=some o
 | .xd fs=>∃ mA,h.Ns1 a mA/\∀ f,Gf2 (fs.lookup f) (mA f)
 | .rng lo hi=>∃ t u v,h.get? a=some { cls:=.type "range",data:=.fields #[.int lo t,.int hi u,.int 1 v] }
 | .frz o u=>h.get? a=some o/\Jw H h a u
 | .tbl ps=>h.get? a=some { cls:=.none,data:=.fields ps }
 | .met f x=>h.get? a=some (PySem.W.methodObj (.ref f) (.ref x))
 | .ext φ=>φ h/\(∃ o,h.get? a=some o)/\∀ h1 h2:Heap,φ h1->(∀ o,h1.get? a=some o->h2.get? a=some o)->φ h2
def HOk(H:Hp)(h:Heap):Prop:=∀ a o,H a=some o->Jw P w H h a o
end
section
variable{P:Program}{w:World}{H H':Hp}{h h':Heap}{a:Addr}{o:HO}
theorem Jw.lt(x:Jw P w H h a o):a<h.objs.size:=by
 cases o with
 | lst xs=>obtain⟨_,_,_,_,e⟩:=x; exact Heap.lt_size e
 | tup xs=>obtain⟨_,_,_,p⟩:=x; exact p.lt
 | dK kvs=>obtain⟨_,_,_,_,o,_,_,e,_⟩:=x; exact Heap.lt_size e
 | dT kvs=>obtain⟨_,_,_,_,o,_,_,e,_⟩:=x; exact Heap.lt_size e
 | set S n=>obtain⟨o,_,_,_,e,_⟩:=x; exact Heap.lt_size e
 | ins C dx fs=>obtain⟨_,_,_,e,_⟩:=x; exact Heap.lt_size e
 | own y=>obtain⟨_,e⟩:=x; exact Heap.lt_size e
 | xd fs=>obtain⟨_,⟨_,_,_,e,_⟩,_⟩:=x; exact Heap.lt_size e
 | rng lo hi=>obtain⟨_,_,_,e⟩:=x; exact Heap.lt_size e
 | frz ob u=>obtain⟨e,_⟩:=x; exact Heap.lt_size e
 | tbl ps=>exact Heap.lt_size (show h.get? a=some _ from x)
 | met f y=>exact Heap.lt_size (show h.get? a=some _ from x)
 | ext φ=>obtain⟨_,⟨_,e⟩,_⟩:=x; exact Heap.lt_size e
theorem Paired.mapP{α β:Type}{F G:α->β->Prop}:∀ {l₁:List α} {l₂:List β},Paired F l₁ l₂->(∀ a b,F a b->G a b)->Paired G l₁ l₂
 | _,_,.nil,_=>.nil
 | _,_,.cons r t,f=>.cons (f _ _ r) (Paired.mapP t f)
theorem Jw.stay(x:Jw P w H h a o)(k:∀ b u,(b=a\/H b=some (.own a))->h.get? b=some u->h'.get? b=some u)
  (ho:∀ b,H b=some (.own a)->H' b=some (.own a)) (ht:∀ b xs,H b=some (.tup xs)->H' b=some (.tup xs)):Jw P w H' h' a o:=by
 induction o with
 | lst xs=>obtain⟨z,its,n,r,e⟩:=x; exact⟨z,its,n,r,k _ _ (.inl rfl) e⟩
 | tup xs=>obtain⟨z,its,r,ob,e,c⟩:=x; exact⟨z,its,r,ob,k _ _ (.inl rfl) e,c⟩
 | dK kvs=>obtain⟨z,y,vs,r,ob,es,ep,e,c⟩:=x; exact⟨z,y,vs,r,ob,es,ep,k _ _ (.inl rfl) e,c⟩
 | dT kvs=>
  obtain⟨z,y,xs,r,ob,es,ep,e,c⟩:=x
  exact⟨z,y,xs,r,ob,es,ep,k _ _ (.inl rfl) e,c⟩
 | set S n=>obtain⟨ob,es,ep,t,e,c⟩:=x; exact⟨ob,es,ep,t,k _ _ (.inl rfl) e,c⟩
 | ins C dx fs=>
  obtain⟨d,z,ne,e,mA,⟨od,es,ep,e2,c⟩,r⟩:=x
  exact⟨ho _ d,z,ne,k _ _ (.inl rfl) e,mA,⟨od,es,ep,k _ _ (.inr d) e2,c⟩,r⟩
 | own y=>obtain⟨ob,e⟩:=x; exact⟨ob,k _ _ (.inl rfl) e⟩
 | xd fs=>obtain⟨mA,⟨od,es,ep,e,c⟩,r⟩:=x; exact⟨mA,⟨od,es,ep,k _ _ (.inl rfl) e,c⟩,r⟩
 | rng lo hi=>obtain⟨t,u,v,e⟩:=x; exact⟨t,u,v,k _ _ (.inl rfl) e⟩
 | frz ob u ih=>obtain⟨e,q⟩:=x; exact⟨k _ _ (.inl rfl) e,ih q⟩
 | tbl ps=>
  have e:h.get? a=some { cls:=.none,data:=.fields ps }:=x
  show h'.get? a=some { cls:=.none,data:=.fields ps }
  exact k a _ (.inl rfl) e
 | met f y=>
  have e:h.get? a=some (PySem.W.methodObj (.ref f) (.ref y)):=x
  show h'.get? a=some (PySem.W.methodObj (.ref f) (.ref y))
  exact k a _ (.inl rfl) e
 | ext φ=>obtain⟨p,⟨o,e⟩,st⟩:=x; exact⟨st _ _ p fun o q=>k _ _ (.inl rfl) q,⟨o,k _ _ (.inl rfl) e⟩,st⟩
theorem HOk.lt(x:HOk P w H h)(e:H a=some o):a<h.objs.size:=(x a o e).lt
theorem HOk.fresh(x:HOk P w H h)(e:h.objs.size<=a):H a=none:=by
 cases q:H a with
 | none=>rfl
 | some u=>exact absurd (Nat.lt_of_lt_of_le (x.lt q) e) (Nat.lt_irrefl _)
theorem HOk.kept(x:HOk P w H h)(k:∀ b u,h.get? b=some u->h'.get? b=some u):HOk P w H h':=fun a o e=>
 (x a o e).stay (fun b u _ q=>k b u q) (fun _ q=>q) fun _ _ q=>q
theorem HOk.laid(x:HOk P w H h)(k:∀ b u,h.get? b=some u->h'.get? b=some u)(hp:h.objs.size<=a)(new:Jw P w (upd H a o) h' a o):HOk P w (upd H a o) h':=fun b u e=>by
 have hn:=x.fresh hp
 by_cases hb:b=a
 ·subst hb; rw[Hj] at e; cases e; exact new
 ·rw[Gs hb] at e
  exact(x b u e).stay (fun c v _ q=>k c v q) (fun c q=>by rw[Gs (Hc q hn)]; exact q) fun c xs q=>by rw[Gs (Hc q hn)]; exact q
end
def Rd(H:Hp)(a:Addr)(u:HO):Prop:=H a=some u\/∃ o,H a=some (.frz o u)
theorem Rd.ok{P:Program}{w:World}{H:Hp}{h:Heap}{a:Addr}{u:HO}(r:Rd H a u)(x:HOk P w H h):Jw P w H h a u:=by
 rcases r with r | ⟨o,r⟩
 ·exact x a u r
 ·obtain⟨_,q⟩:=x a _ r
  exact q
def Mut:Option HO->Prop
 | some (.lst _)=>True
 | some (.dK _)=>True
 | some (.dT _)=>True
 | some (.set _ _)=>True
 | some (.ins _ _ _)=>True
 | some (.ext _)=>True
 | _=>False
theorem HOk.write{P:Program}{w:World}{H:Hp}{h h':Heap}{x e:Addr}{o':HO}(ok:HOk P w H h)(mu:Mut (H x))(he:e=x\/H e=some (.own x))(k:∀ b u,b≠e->h.get? b=some u->h'.get? b=some u)(heo:∃ u,h'.get? e=some u)(new:Jw P w (upd H x o') h' x o'):HOk P w (upd H x o') h':=fun b u q=>by
 have nown:∀ c y,H c=some (.own y)->c≠x:=fun c y r z=>by subst z; rw[r] at mu; exact mu
 have ntup:∀ c xs,H c=some (.tup xs)->c≠x:=fun c xs r z=>by subst z; rw[r] at mu; exact mu
 by_cases hb:b=x
 ·subst hb; rw[Hj] at q; cases q; exact new
 ·rw[Gs hb] at q
  by_cases hbe:b=e
  ·have q':H b=some (.own x):=by
    rcases he with z | z
    ·exact absurd (hbe.trans z) hb
    ·rw[hbe]; exact z
   rw[q] at q'; cases q'
   obtain⟨v,hv⟩:=heo
   exact⟨v,by rw[hbe]; exact hv⟩
  ·refine(ok b u q).stay (fun c v hc r=>k c v ?_ r) (fun c r=>by rw[Gs (nown c b r)]; exact r) fun c xs r=>by rw[Gs (ntup c xs r)]; exact r
   rcases hc with rfl | hc
   ·exact hbe
   ·rintro rfl
    rcases he with z | z
    ·exact nown c b hc z
    ·rw[hc] at z; cases z; exact hb rfl
structure Un(fs ex:List Addr)(H H':Hp)(h h':Heap):Prop where
 keep:∀ b o,h.get? b=some o->H b=none->b∉fs->b∉ex->h'.get? b=some o
 slot:∀ b o,h.get? b=some o->H b=none->b∈fs->b∉ex->∃ sl,h'.get? b=some { o with slots:=sl }
 free:∀ b o,h.get? b=some o->H b=none->b∉ex->H' b=none
 there:∀ b o,h.get? b=some o->b∉ex->∃ o',h'.get? b=some o'
 tups:∀ b xs,H b=some (.tup xs)->H' b=some (.tup xs)
 frzs:∀ b o u,H b=some (.frz o u)->H' b=some (.frz o u)
 tbls:∀ b ps,H b=some (.tbl ps)->∃ more,H' b=some (.tbl (ps++more))
section
variable{fs fs' ex ex':List Addr}{H H1 H2:Hp}{h h1 h2 h':Heap}{a x e:Addr}{o:HO}
theorem Un.any(u:Un fs ex H H1 h h1){b:Addr}{ob:Obj}(q:h.get? b=some ob)(n:H b=none)(hx:b∉ex):∃ sl,h1.get? b=some { ob with slots:=sl }:=by
 by_cases hb:b∈fs
 ·exact u.slot b ob q n hb hx
 ·exact⟨ob.slots,u.keep b ob q n hb hx⟩
theorem Un.kept(k:∀ b u,h.get? b=some u->h'.get? b=some u):Un fs ex H H h h':=
 ⟨fun b ob q _ _ _=>k b ob q,fun b ob q _ _ _=>⟨ob.slots,k b ob q⟩,fun _ _ _ n _=>n,fun b ob q _=>⟨ob,k b ob q⟩,fun _ _ q=>q,fun _ _ _ q=>q,fun _ ps q=>⟨#[],by rw[q]; simp⟩⟩
theorem Un.refl:Un fs ex H H h h:=Un.kept fun _ _ q=>q
theorem Un.laid(k:∀ b u,h.get? b=some u->h'.get? b=some u)(hp:h.objs.size<=a)(hn:H a=none):Un fs ex H (upd H a o) h h' where
 keep:=fun b u q _ _ _=>k b u q
 slot:=fun b u q _ _ _=>⟨u.slots,k b u q⟩
 free:=fun b u q n _=>by rw[Gs (Nat.ne_of_lt (Nat.lt_of_lt_of_le (Heap.lt_size q) hp))]; exact n
 there:=fun b u q _=>⟨u,k b u q⟩
 tups:=fun b xs q=>by rw[Gs (Hc q hn)]; exact q
 frzs:=fun b u xs q=>by rw[Gs (Hc q hn)]; exact q
 tbls:=fun b ps q=>⟨#[],by rw[Gs (Hc q hn),q]; simp⟩
theorem Un.write(mu:Mut (H x))(he:e=x\/H e=some (.own x))(k:∀ b u,b≠e->h.get? b=some u->h'.get? b=some u)(heo:∃ u,h'.get? e=some u):Un fs ex H (upd H x o) h h':=by
 have hx:∀ b,H b=none->b≠x:=fun b n z=>by subst z; rw[n] at mu; exact mu
 have hb:∀ b,H b=none->b≠e:=fun b n z=>by
  subst z
  rcases he with r | r
  ·exact hx b n r
  ·rw[n] at r; cases r
 have hm:∀ b u,H b=some u->¬ Mut (some u)->b≠x:=fun b u q nm z=>by subst z; rw[q] at mu; exact nm mu
 refine⟨fun b u q n _ _=>k b u (hb b n) q,fun b u q n _ _=>⟨u.slots,k b u (hb b n) q⟩,fun b u q n _=>by rw[Gs (hx b n)]; exact n,fun b u q _=>?_,
  fun b xs q=>by rw[Gs (hm b _ q fun z=>z)]; exact q,fun b u xs q=>by rw[Gs (hm b _ q fun z=>z)]; exact q,fun b ps q=>⟨#[],by rw[Gs (hm b _ q fun z=>z),q]; simp⟩⟩
 by_cases hbe:b=e
 ·subst hbe; exact heo
 ·exact⟨u,k b u hbe q⟩
end
def trk(h:Heap)(H:Hp):List Addr:=(List.range h.objs.size).filter fun a=>(H a).isSome
def Gdx(h:Heap)(H:Hp):Heap:=PySem.W.hideAll h (trk h H)
theorem Gh2(h:Heap)(H:Hp):(Gdx h H).objs.size=h.objs.size:=PySem.W.hideAll_size _ _
theorem Gi0{h:Heap}{H:Hp}{b:Addr}{o:Obj}(e:h.get? b=some o)(n:H b=none):(Gdx h H).get? b=some o:=
 PySem.W.hideAll_get _ e fun hm=>by
  have q:(H b).isSome=true:=(List.mem_filter.mp hm).2
  rw[n] at q; simp at q
theorem of_hidT{h:Heap}{H:Hp}{b:Addr}{o:Obj}(e:(Gdx h H).get? b=some o):h.get? b=some o/\H b=none:=by
 have e':h.get? b=some o:=PySem.W.of_hideAll (trk h H) e
 refine⟨e',?_⟩
 cases q:H b with
 | none=>rfl
 | some x=>
  have hm:b∈trk h H:=List.mem_filter.mpr ⟨List.mem_range.mpr (Heap.lt_size e'),by simp[q]⟩
  have z:(Gdx h H).get? b=none:=PySem.W.hideAll_none (trk h H) hm
  rw[z] at e; cases e
def Gma(g h:Heap)(L:Addr):List (Addr×Obj):=(List.range h.objs.size).filterMap fun a=>if a=L\/(g.get? a).isSome=true then none else(h.get? a).map fun o=>(a,o)
def rest(g h:Heap)(L d:Addr):List (Addr×Obj):=(Gma g h L).filter fun p=>decide (p.1≠d)
structure Mod(K:PySem.W.Frag)(mg:Str->Option Value)(base:Heap):Prop where
 kin:K.In base
 glob:base.Ns mainGlobals mg
 blt:∃ mb,base.Ns builtinsNs mb/\∀ x:Str,x≠"__name__"->mb x=bootBuiltins x
 nolimit:base.NoLimit
structure Cx where
 prog:Program
 w:World
 K:PySem.W.Frag
 mg:Str->Option Value
 base:Heap
 A:Around
 N:List Str
 s₀:Shared
 H₀:Hp
 env:Env
 outer:List Env
 stack:List Env
 ex:List Addr
 fn:Str->Bool
 calm:Bool
 pn:List (Addr×Obj)
 xe:Value->Shared->Prop
def frs(l:List Env):List Addr:=l.filterMap (·.frame)
abbrev Cx.fs(X:Cx):List Addr:=frs X.outer
def Vis(sc:Scope)(x:Str):Prop:=sc.names.lookup x=some .local\/sc.names.lookup x=some .cell\/sc.names.lookup x=some .free
def Loc(sc:Scope)(x:Str):Prop:=sc.names.lookup x=some .local\/sc.names.lookup x=some .cell
def Look(env:Env)(h:Heap)(m:Str->Option Value)(x:Str)(u:Value):Prop:=
 (env.kindOf x=some .local/\m x=some u)\/((env.kindOf x=some .cell\/env.kindOf x=some .free)/\∃ c,env.cells.lookup x=some c/\h.IsCell c (some u))
structure Cx.Ok(X:Cx):Prop where
 mod:Mod X.K X.mg X.base
 kind:X.env.scope.kind=.function
 glob:X.env.globals=mainGlobals
 blt:X.env.builtins=builtinsNs
 above:X.s₀.heap.objs.size<=X.env.locals
 inj:∀ x y c,X.env.cells.lookup x=some c->X.env.cells.lookup y=some c->x=y
 has:∀ x,(X.env.kindOf x=some .cell\/X.env.kindOf x=some .free)->∃ c,X.env.cells.lookup x=some c
 cab:∀ x c,X.fn x=true->X.env.cells.lookup x=some c->X.s₀.heap.objs.size<=c
 hd:X.calm=true->X.A.handled=none
 frames:X.A.frames=some X.stack
 stk:X.stack=X.outer\/(X.stack=X.env::X.outer/\X.env.frame=some X.env.locals)
 exf:∀ b∈X.ex,b≠X.env.locals/\∀ x c,X.env.cells.lookup x=some c->c≠b
 bs:∀ b o,X.base.get? b=some o->X.s₀.heap.get? b=some o/\X.H₀ b=none
 bsz:X.base.objs.size<=X.s₀.heap.objs.size
 noex:∀ b o,X.base.get? b=some o->b∉X.ex
 exfs:∀ b∈X.ex,b∉X.fs
 funs:X.s₀.heap.FunFrames X.base X.outer
 frf:∀ b∈X.fs,X.H₀ b=none
structure Inv(X:Cx)(pins:List (Addr×Obj))(σ:List (Option V))(H:Hp)(s:Shared):Prop where
 ok:X.Ok
 os:s.os=X.s₀.os
 bare:AllBare s.gens
 base:Un X.fs X.ex X.H₀ H X.s₀.heap s.heap
 loc:∃ m,s.heap.Ns X.env.locals m/\∀ (i:Nat) (x:Str) (v:V),X.N[i]?=some x->σ[i]?=some (some v)->Vis X.env.scope x->∃ u,He v u/\Look X.env s.heap m x u
 cell:∀ x c,X.env.cells.lookup x=some c->∃ v,s.heap.IsCell c v
 free:H X.env.locals=none
 freeC:∀ x c,X.env.cells.lookup x=some c->H c=none
 pin:∀ p∈X.pn++pins,s.heap.get? p.1=some p.2/\H p.1=none/\p.1≠X.env.locals/\p.1∉X.fs/\∀ v,p.2.data≠.cell v
 hok:HOk X.prog X.w H s.heap
 len:σ.length=X.N.length
section
variable{X:Cx}{pins:List (Addr×Obj)}{σ:List (Option V)}{H H':Hp}{s:Shared}{h':Heap}
theorem Cx.Ok.nofr(ok:X.Ok){b:Addr}{o:Obj}(e:X.base.get? b=some o):b∉X.fs:=fun hb=>by
 have:=(ok.funs.mem hb).1
 rw[e] at this; cases this
theorem Inv.bs(I:Inv X pins σ H s):∀ b o,X.base.get? b=some o->s.heap.get? b=some o/\H b=none:=fun b o e=>
 ⟨I.base.keep b o (I.ok.bs b o e).1 (I.ok.bs b o e).2 (I.ok.nofr e) (I.ok.noex b o e),I.base.free b o (I.ok.bs b o e).1 (I.ok.bs b o e).2 (I.ok.noex b o e)⟩
theorem Inv.bk(I:Inv X pins σ H s):∀ b o,X.base.get? b=some o->s.heap.get? b=some o:=fun b o e=>(I.bs b o e).1
theorem Inv.mod(I:Inv X pins σ H s):Mod X.K X.mg X.base:=I.ok.mod
theorem Inv.kIn(I:Inv X pins σ H s):X.K.In s.heap:=I.ok.mod.kin.keeps I.bk
theorem Inv.lt(I:Inv X pins σ H s):X.env.locals<s.heap.objs.size:=let ⟨_,hn,_⟩:=I.loc; hn.lt
theorem Inv.sz(I:Inv X pins σ H s):X.s₀.heap.objs.size<=s.heap.objs.size:=Nat.le_trans I.ok.above (Nat.le_of_lt I.lt)
theorem Inv.nofs(I:Inv X pins σ H s){a:Addr}(h:s.heap.objs.size<=a):a∉X.fs:=fun hb=>by
 obtain⟨_,o,ho,_⟩:=I.ok.funs.mem hb
 exact absurd (Nat.lt_of_lt_of_le (Heap.lt_size ho) (Nat.le_trans I.sz h)) (Nat.lt_irrefl _)
theorem Inv.cne(I:Inv X pins σ H s):∀ x c,X.env.cells.lookup x=some c->c≠X.env.locals:=fun x c e z=>by
 obtain⟨v,o,ho,hd⟩:=I.cell x c e
 obtain⟨m,⟨o',es,ep,ho',hd',_⟩,_⟩:=I.loc
 rw[z,ho'] at ho; cases ho; rw[hd'] at hd; cases hd
theorem Inv.funs(I:Inv X pins σ H s):s.heap.FunFrames X.base X.outer:=by
 have all:∀ (l:List Env),(∀ b∈frs l,b∈X.fs)->X.s₀.heap.FunFrames X.base l->s.heap.FunFrames X.base l:=by
  intro l
  induction l with
  | nil=>intro _ _; trivial
  | cons env r ih=>
   intro hs hl
   obtain⟨hk,⟨L,o,hf,hn,ho,hd⟩,hr⟩:=hl
   have hL:L∈X.fs:=hs L (by unfold frs; rw[List.filterMap_cons,hf]; exact List.mem_cons_self)
   obtain⟨sl,e⟩:=I.base.slot L o ho (I.ok.frf L hL) hL fun z=>I.ok.exfs L z hL
   exact⟨hk,⟨L,_,hf,hn,e,hd⟩,ih (fun b hb=>hs b (by unfold frs; rw[List.filterMap_cons,hf]; exact List.mem_cons_of_mem _ hb)) hr⟩
 exact all X.outer (fun _ hb=>hb) I.ok.funs
theorem Inv.stack(I:Inv X pins σ H s):s.heap.FunFrames X.base X.stack:=by
 rcases I.ok.stk with e | ⟨e,hf⟩
 ·rw[e]; exact I.funs
 ·rw[e]
  obtain⟨m,hn,_⟩:=I.loc
  refine .cons (by rw[I.ok.kind]; decide) hf hn ?_ I.funs
  exact Heap.get?_none_of_le (Nat.le_trans I.ok.bsz I.ok.above)
theorem Inv.stkSub(I:Inv X pins σ H s):∀ b∈frs X.stack,b∈X.env.locals::X.fs:=fun b hb=>by
 rcases I.ok.stk with e | ⟨e,hf⟩
 ·rw[e] at hb; exact List.mem_cons_of_mem _ hb
 ·rw[e] at hb
  unfold frs at hb
  rw[List.filterMap_cons,hf] at hb
  exact hb
theorem Inv.stkFree(I:Inv X pins σ H s):∀ b∈frs X.stack,H b=none:=fun b hb=>by
 rcases List.mem_cons.mp (I.stkSub b hb) with e | hb
 ·rw[e]; exact I.free
 ·obtain⟨_,o,ho,_⟩:=I.ok.funs.mem hb
  exact I.base.free b o ho (I.ok.frf b hb) fun z=>I.ok.exfs b z hb
theorem Inv.step{g':Array GenState}{t':Nat}{d':Drawn}{ch:List Addr}(I:Inv X pins σ H s)
  (hch:∀ b∈ch,(b∈X.ex\/X.s₀.heap.objs.size<=b)/\b≠X.env.locals/\(∀ x c,X.env.cells.lookup x=some c->c≠b)/\∀ p∈X.pn++pins,p.1≠b)
  (keep:∀ b o,b≠X.env.locals->b∉X.fs->b∉ch->s.heap.get? b=some o->H b=none->h'.get? b=some o)
  (slot:∀ b o,b≠X.env.locals->b∈X.fs->b∉ch->s.heap.get? b=some o->H b=none->∃ sl,h'.get? b=some { o with slots:=sl }) (free:∀ b o,b∉ch->s.heap.get? b=some o->H b=none->H' b=none)
  (there:∀ b o,b∉ch->s.heap.get? b=some o->∃ o',h'.get? b=some o')
  (tups:∀ b xs,H b=some (.tup xs)->H' b=some (.tup xs)) (frzs:∀ b o u,H b=some (.frz o u)->H' b=some (.frz o u)) (tbls:∀ b ps,H b=some (.tbl ps)->∃ more,H' b=some (.tbl (ps++more)))
  (ns:∀ m,s.heap.Ns X.env.locals m->h'.Ns X.env.locals m) (hok:HOk X.prog X.w H' h') (hg:AllBare g'):
  Inv X pins σ H' { s with heap:=h',gens:=g',drawn:=d',toks:=t' }:=by
 have neL:∀ b o,X.s₀.heap.get? b=some o->b≠X.env.locals:=fun b o e=>Nat.ne_of_lt (Nat.lt_of_lt_of_le (Heap.lt_size e) I.ok.above)
 have neC:∀ b o,X.s₀.heap.get? b=some o->b∉X.ex->b∉ch:=fun b o e hx hb=>by
  rcases(hch b hb).1 with z | z
  ·exact hx z
  ·exact absurd (Nat.lt_of_lt_of_le (Heap.lt_size e) z) (Nat.lt_irrefl _)
 have cellK:∀ x c,X.env.cells.lookup x=some c->∀ v,s.heap.IsCell c v->h'.IsCell c v:=fun x c e v ⟨o,ho,hd⟩=>by
  have nch:c∉ch:=fun z=>(hch c z).2.2.1 x c e rfl
  by_cases hc:c∈X.fs
  ·obtain⟨sl,q⟩:=slot c o (I.cne x c e) hc nch ho (I.freeC x c e)
   exact⟨_,q,hd⟩
  ·exact⟨o,keep c o (I.cne x c e) hc nch ho (I.freeC x c e),hd⟩
 refine⟨I.ok,I.os,hg,⟨fun b o e n hb hx=>?_,fun b o e n hb hx=>?_,fun b o e n hx=>?_,fun b o e hx=>?_,fun b xs e=>tups b xs (I.base.tups b xs e),fun b o xs e=>frzs b o xs (I.base.frzs b o xs e),fun b ps e=>?_⟩,?_,fun x c e=>?_,?_,fun x c e=>?_,fun p hp=>?_,hok,I.len⟩
 ·exact keep b o (neL b o e) hb (neC b o e hx) (I.base.keep b o e n hb hx) (I.base.free b o e n hx)
 ·obtain⟨sl,e1⟩:=I.base.slot b o e n hb hx
  obtain⟨sl',e2⟩:=slot b _ (neL b o e) hb (neC b o e hx) e1 (I.base.free b o e n hx)
  exact⟨sl',e2⟩
 ·obtain⟨o',e1⟩:=I.base.there b o e hx
  exact free b o' (neC b o e hx) e1 (I.base.free b o e n hx)
 ·obtain⟨o',e1⟩:=I.base.there b o e hx
  exact there b o' (neC b o e hx) e1
 ·obtain⟨m1,e1⟩:=I.base.tbls b ps e
  obtain⟨m2,e2⟩:=tbls b _ e1
  exact⟨m1++m2,by rw[e2,Array.append_assoc]⟩
 ·obtain⟨m,hn,hl⟩:=I.loc
  refine⟨m,ns m hn,fun i x v e1 e2 e3=>?_⟩
  obtain⟨u,r,l⟩:=hl i x v e1 e2 e3
  refine⟨u,r,?_⟩
  rcases l with l | ⟨k,c,e,z⟩
  ·exact .inl l
  ·exact .inr ⟨k,c,e,cellK x c e _ z⟩
 ·obtain⟨v,z⟩:=I.cell x c e
  exact⟨v,cellK x c e v z⟩
 ·obtain⟨m,⟨o,_,_,ho,_⟩,_⟩:=I.loc
  exact free _ o (fun z=>(hch _ z).2.1 rfl) ho I.free
 ·obtain⟨v,o,ho,hd⟩:=I.cell x c e
  exact free c o (fun z=>(hch c z).2.2.1 x c e rfl) ho (I.freeC x c e)
 ·obtain⟨e,n,ne,nf,d⟩:=I.pin p hp
  have nch:p.1∉ch:=fun z=>(hch p.1 z).2.2.2 p hp rfl
  exact⟨keep p.1 p.2 ne nf nch e n,free p.1 p.2 nch e n,ne,nf,d⟩
theorem Inv.un{t':Nat}(I:Inv X pins σ H s)(u:Un X.fs [] H H' s.heap h')(hok:HOk X.prog X.w H' h'):Inv X pins σ H' { s with heap:=h',toks:=t' }:=by
 obtain⟨m,⟨o,es,ep,ho,r⟩,_⟩:=id I.loc
 obtain⟨sl,hL⟩:=u.any ho I.free (by simp)
 exact I.step (g':=s.gens) (d':=s.drawn) (ch:=[]) (fun _ z=>nomatch z) (fun b o _ hb _ e n=>u.keep b o e n hb (by simp)) (fun b o _ hb _ e n=>u.slot b o e n hb (by simp)) (fun b o _ e n=>u.free b o e n (by simp)) (fun b o _ e=>u.there b o e (by simp)) u.tups u.frzs u.tbls (fun m' hm=>by
  obtain⟨o',es',ep',ho',r'⟩:=hm
  rw[ho] at ho'; cases ho'
  exact⟨_,es',ep',hL,r'⟩) hok I.bare
theorem Inv.call{g':Array GenState}{t':Nat}{d':Drawn}{ch:List Addr}(I:Inv X pins σ H s)(u:Un (frs X.stack) ch H H' s.heap h')(hok:HOk X.prog X.w H' h')(hg:AllBare g')
  (hch:∀ b∈ch,(b∈X.ex\/X.s₀.heap.objs.size<=b)/\b≠X.env.locals/\(∀ x c,X.env.cells.lookup x=some c->c≠b)/\∀ p∈X.pn++pins,p.1≠b):
  Inv X pins σ H' { s with heap:=h',gens:=g',drawn:=d',toks:=t' }:=by
 obtain⟨m,⟨o,es,ep,ho,r⟩,_⟩:=id I.loc
 obtain⟨sl,hL⟩:=u.any ho I.free fun z=>(hch _ z).2.1 rfl
 exact I.step (ch:=ch) hch (fun b o hL hb hc e n=>u.keep b o e n (fun z=>(List.mem_cons.mp (I.stkSub b z)).elim hL hb) hc) (fun b o _ _ hc e n=>u.any e n hc) (fun b o hc e n=>u.free b o e n hc) (fun b o hc e=>u.there b o e hc) u.tups u.frzs u.tbls (fun m' hm=>by
  obtain⟨o',es',ep',ho',r'⟩:=hm
  rw[ho] at ho'; cases ho'
  exact⟨_,es',ep',hL,r'⟩) hok hg
theorem Inv.turned{t':Nat}{it:Addr}(I:Inv X pins σ H s)(k:∀ b o,b≠it->s.heap.get? b=some o->h'.get? b=some o)(hn:H it=none)(hL:it≠X.env.locals)
  (h1:it∈X.ex\/X.s₀.heap.objs.size<=it) (h2:∀ x c,X.env.cells.lookup x=some c->c≠it) (h3:∀ p∈X.pn++pins,p.1≠it):Inv X pins σ H { s with heap:=h',toks:=t' }:=by
 have nit:∀ b u,H b=some u->b≠it:=fun b u e z=>by rw[z,hn] at e; cases e
 refine I.step (g':=s.gens) (d':=s.drawn) (ch:=[it]) (fun b hb=>?_) (fun b o _ _ hc e _=>k b o (fun z=>hc (by simp[z])) e) (fun b o _ _ hc e _=>⟨o.slots,k b o (fun z=>hc (by simp[z])) e⟩) (fun _ _ _ _ n=>n)
  (fun b o hc e=>⟨o,k b o (fun z=>hc (by simp[z])) e⟩) (fun _ _ e=>e) (fun _ _ _ e=>e) (fun b ps e=>⟨#[],by rw[e]; simp⟩) (fun m hm=>?_) (fun b u e=>?_) I.bare
 ·have e:b=it:=by simpa using hb
  subst e
  exact⟨h1,hL,h2,h3⟩
 ·obtain⟨o,es,ep,ho,r⟩:=hm
  exact⟨o,es,ep,k _ o (Ne.symm hL) ho,r⟩
 ·refine(I.hok b u e).stay (fun c v hc q=>k c v ?_ q) (fun _ q=>q) fun _ _ q=>q
  rcases hc with z | z
  ·rw[z]; exact nit b u e
  ·exact nit c _ z
theorem Inv.tok(I:Inv X pins σ H s)(t:Nat):Inv X pins σ H { s with toks:=t }:=I.un (h':=s.heap) (t':=t) Un.refl I.hok
theorem Inv.kept{t':Nat}(I:Inv X pins σ H s)(k:∀ b u,s.heap.get? b=some u->h'.get? b=some u):Inv X pins σ H { s with heap:=h',toks:=t' }:=I.un (Un.kept k) (I.hok.kept k)
theorem Inv.laid{a:Addr}{o:HO}{t':Nat}(I:Inv X pins σ H s)(k:∀ b u,s.heap.get? b=some u->h'.get? b=some u)(hp:s.heap.objs.size<=a)(new:Jw X.prog X.w (upd H a o) h' a o):
  Inv X pins σ (upd H a o) { s with heap:=h',toks:=t' }:=I.un (Un.laid k hp (I.hok.fresh hp)) (I.hok.laid k hp new)
theorem Inv.write{x e:Addr}{o:HO}{t':Nat}(I:Inv X pins σ H s)(mu:Mut (H x))(he:e=x\/H e=some (.own x))(k:∀ b u,b≠e->s.heap.get? b=some u->h'.get? b=some u)(heo:∃ u,h'.get? e=some u)
  (new:Jw X.prog X.w (upd H x o) h' x o):Inv X pins σ (upd H x o) { s with heap:=h',toks:=t' }:=I.un (Un.write mu he k heo) (I.hok.write mu he k heo new)
theorem Inv.pins_of{pins':List (Addr×Obj)}(I:Inv X pins σ H s)(h:∀ p∈pins',s.heap.get? p.1=some p.2/\H p.1=none/\p.1≠X.env.locals/\p.1∉X.fs/\∀ v,p.2.data≠.cell v):Inv X pins' σ H s:=
 ⟨I.ok,I.os,I.bare,I.base,I.loc,I.cell,I.free,I.freeC,fun p hp=>(List.mem_append.mp hp).elim (fun z=>I.pin p (List.mem_append_left _ z)) (h p),I.hok,I.len⟩
theorem Ge0{N:List Str}(hN:N.Nodup){i j:Nat}{x:Str}(a:N[i]?=some x)(b:N[j]?=some x):i=j:=by
 obtain⟨h1,e1⟩:=List.getElem?_eq_some_iff.mp a
 obtain⟨h2,e2⟩:=List.getElem?_eq_some_iff.mp b
 exact(List.getElem_inj hN).mp (e1.trans e2.symm)
theorem Gda{M:Model}{A:Around}{E:Value->Shared->Prop}{i:Nat}{x:Str}{v:V}{u:Value}{Q:Unit->Shared->Prop}(I:Inv X pins σ H s)(hN:X.N.Nodup)(hi:X.N[i]?=some x)(hx:Loc X.env.scope x)(r:He v u)
  (h:∀ s',Inv X pins (σ.set i (some v)) H s'->(∃ a,Heap.SameBut a s.heap s'.heap/\(a=X.env.locals\/X.env.cells.lookup x=some a))->Q () s') (hf:X.fn x=true\/X.env.scope.names.lookup x=some .local:=by first | exact .inl rfl | exact .inr rfl | assumption):wpAny M A (storeName X.env x u) Q E s:=by
 obtain⟨m,hn,hl⟩:=id I.loc
 have hcls:(X.env.scope.kind==.class||(X.env.scope.kind==.module&&X.env.locals != X.env.globals))=false:=by rw[I.ok.kind]; rfl
 have hiσ:i<σ.length:=by rw[I.len]; exact(List.getElem?_eq_some_iff.mp hi).1
 have cne:=I.cne
 have tracked:∀ {a:Addr} {h':Heap},(∃ o,s.heap.get? a=some o/\H a=none)->Heap.SameBut a s.heap h'->HOk X.prog X.w H h':=fun{a h'} ha hs b ob e=>by
  obtain⟨_,_,hfree⟩:=ha
  refine(I.hok b ob e).stay (fun c w' hc q=>(hs.2 c ?_).trans q) (fun _ q=>q) fun _ _ q=>q
  rintro rfl
  rcases hc with rfl | hc
  ·rw[hfree] at e; cases e
  ·rw[hfree] at hc; cases hc
 rcases hx with hk | hk
 ·refine wpAny_storeName_local hk hn (fun h' hn' hs=>?_) hcls
  obtain⟨oL,_,_,hoL,_⟩:=id hn
  refine h _ ⟨I.ok,I.os,I.bare,⟨fun b o e n hb hx=>?_,fun b o e n hb hx=>?_,I.base.free,fun b o e hx=>?_,I.base.tups,I.base.frzs,I.base.tbls⟩,⟨_,hn',fun j y v' e1 e2 e3=>?_⟩,fun y c e=>?_,I.free,I.freeC,fun p hp=>?_,tracked ⟨oL,hoL,I.free⟩ hs,by simpa using I.len⟩ ⟨_,hs,.inl rfl⟩
  ·exact(hs.2 b (Nat.ne_of_lt (Nat.lt_of_lt_of_le (Heap.lt_size e) I.ok.above))).trans (I.base.keep b o e n hb hx)
  ·obtain⟨sl,e1⟩:=I.base.slot b o e n hb hx
   exact⟨sl,(hs.2 b (Nat.ne_of_lt (Nat.lt_of_lt_of_le (Heap.lt_size e) I.ok.above))).trans e1⟩
  ·obtain⟨o',e1⟩:=I.base.there b o e hx
   exact⟨o',(hs.2 b (Nat.ne_of_lt (Nat.lt_of_lt_of_le (Heap.lt_size e) I.ok.above))).trans e1⟩
  ·by_cases hj:j=i
   ·subst hj
    rw[hi] at e1; cases e1
    rw[List.getElem?_set_self hiσ] at e2
    cases e2
    exact⟨u,r,.inl ⟨hk,by simp⟩⟩
   ·rw[List.getElem?_set_ne (Ne.symm hj)] at e2
    obtain⟨u',r',q⟩:=hl j y v' e1 e2 e3
    refine⟨u',r',?_⟩
    rcases q with⟨k,e⟩ | ⟨k,c,e,z⟩
    ·refine .inl ⟨k,?_⟩
     have:y≠x:=fun e=>hj (Ge0 hN e1 (e▸hi))
     simp[this,e]
    ·exact .inr ⟨k,c,e,z.sameBut hs (cne y c e)⟩
  ·obtain⟨w',z⟩:=I.cell y c e
   exact⟨w',z.sameBut hs (cne y c e)⟩
  ·obtain⟨e,n,ne,nf,d⟩:=I.pin p hp
   exact⟨(hs.2 p.1 ne).trans e,n,ne,nf,d⟩
 ·have hfn:X.fn x=true:=by
   rcases hf with z | z
   ·exact z
   ·rw[z] at hk; cases hk
  obtain⟨c,hc⟩:=I.ok.has x (.inl hk)
  obtain⟨w',z⟩:=I.cell x c hc
  refine wpAny_storeName_cell I.ok.kind hk hc z (fun h' hc' hs=>?_)
  obtain⟨oc,hoc,hocd⟩:=id z
  refine h { s with heap:=h' } ⟨I.ok,I.os,I.bare,⟨fun b o e n hb hx=>?_,fun b o e n hb hx=>?_,I.base.free,fun b o e hx=>?_,I.base.tups,I.base.frzs,I.base.tbls⟩,⟨m,hn.sameBut hs (Ne.symm (cne x c hc)),fun j y v' e1 e2 e3=>?_⟩,fun y c' e=>?_,I.free,I.freeC,fun p hp=>?_,tracked ⟨oc,hoc,I.freeC x c hc⟩ hs,by simpa using I.len⟩ ⟨c,hs,.inr hc⟩
  ·exact(hs.2 b (Nat.ne_of_lt (Nat.lt_of_lt_of_le (Heap.lt_size e) (I.ok.cab x c hfn hc)))).trans (I.base.keep b o e n hb hx)
  ·obtain⟨sl,e1⟩:=I.base.slot b o e n hb hx
   exact⟨sl,(hs.2 b (Nat.ne_of_lt (Nat.lt_of_lt_of_le (Heap.lt_size e) (I.ok.cab x c hfn hc)))).trans e1⟩
  ·obtain⟨o',e1⟩:=I.base.there b o e hx
   exact⟨o',(hs.2 b (Nat.ne_of_lt (Nat.lt_of_lt_of_le (Heap.lt_size e) (I.ok.cab x c hfn hc)))).trans e1⟩
  ·by_cases hj:j=i
   ·subst hj
    rw[hi] at e1; cases e1
    rw[List.getElem?_set_self hiσ] at e2
    cases e2
    exact⟨u,r,.inr ⟨.inl hk,c,hc,hc'⟩⟩
   ·rw[List.getElem?_set_ne (Ne.symm hj)] at e2
    obtain⟨u',r',q⟩:=hl j y v' e1 e2 e3
    refine⟨u',r',?_⟩
    rcases q with q | ⟨k,c',e,z'⟩
    ·exact .inl q
    ·refine .inr ⟨k,c',e,z'.sameBut hs ?_⟩
     rintro rfl
     exact hj (Ge0 hN e1 (I.ok.inj _ _ _ e hc▸hi))
  ·by_cases hcc:c'=c
   ·subst hcc; exact⟨_,hc'⟩
   ·obtain⟨w2,z2⟩:=I.cell y c' e
    exact⟨w2,z2.sameBut hs hcc⟩
  ·obtain⟨e,n,ne,nf,d⟩:=I.pin p hp
   refine⟨(hs.2 p.1 ?_).trans e,n,ne,nf,d⟩
   intro q
   rw[q,hoc] at e
   have q':oc=p.2:=Option.some.inj e
   exact d w' (by rw[<- q']; exact hocd)
theorem Wn{M:Model}{A:Around}{E:Value->Shared->Prop}{i:Nat}{x:Str}{v:V}{u:Value}{Q:Unit->Shared->Prop}(I:Inv X pins σ H s)(hN:X.N.Nodup)(hi:X.N[i]?=some x)(hx:Loc X.env.scope x)(r:He v u)
  (h:∀ s',Inv X pins (σ.set i (some v)) H s'->Q () s') (hf:X.fn x=true\/X.env.scope.names.lookup x=some .local:=by first | exact .inl rfl | exact .inr rfl | assumption):wpAny M A (storeName X.env x u) Q E s:=
 Gda I hN hi hx r (fun s' I' _=>h s' I') hf
theorem Inv.call'{s':Shared}{ch:List Addr}(I:Inv X pins σ H s)(ho:s'.os=s.os)(u:Un (frs X.stack) ch H H' s.heap s'.heap)(hok:HOk X.prog X.w H' s'.heap)(hg:AllBare s'.gens)
  (hch:∀ b∈ch,(b∈X.ex\/X.s₀.heap.objs.size<=b)/\b≠X.env.locals/\(∀ x c,X.env.cells.lookup x=some c->c≠b)/\∀ p∈X.pn++pins,p.1≠b):Inv X pins σ H' s':=by
 obtain⟨h',g',d',t',o'⟩:=s'
 have e:o'=s.os:=ho
 subst e
 exact I.call (g':=g') (t':=t') (d':=d') u hok hg hch
end
abbrev XK:=Value->Option Addr->Hp->Prop
abbrev St:=List (Option V)
abbrev VK:=V->Hp->Prop
abbrev TE:=St->Hp->VK->Prop
abbrev TT:=St->Hp->(Bool->Hp->Prop)->Prop
abbrev TA:=St->Hp->(List V->Hp->Prop)->Prop
structure Ends where
 nx:St->Hp->Prop
 rt:VK
 bk:St->Hp->Prop:=fun _ _=>False
 ct:St->Hp->Prop:=fun _ _=>False
abbrev TS:=Ends->St->Hp->Prop
def EP(X:Cx)(pins:List (Addr×Obj))(σ:St)(Q:VK)(u:Value)(s':Shared):Prop:=∃ v H',Inv X pins σ H' s'/\He v u/\Q v H'
def TP(X:Cx)(pins:List (Addr×Obj))(σ:St)(Q:Bool->Hp->Prop)(b:Bool)(s':Shared):Prop:=∃ H',Inv X pins σ H' s'/\Q b H'
def AP(X:Cx)(pins:List (Addr×Obj))(σ:St)(Q:List V->Hp->Prop)(us:List Value)(s':Shared):Prop:=∃ vs H',Inv X pins σ H' s'/\Vals vs us/\Q vs H'
def SP(X:Cx)(pins:List (Addr×Obj))(D:Ends)(f:Flow)(s':Shared):Prop:=
 match f with
 | .next=>∃ σ' H',Inv X pins σ' H' s'/\D.nx σ' H'
 | .brk=>∃ σ' H',Inv X pins σ' H' s'/\D.bk σ' H'
 | .cont=>∃ σ' H',Inv X pins σ' H' s'/\D.ct σ' H'
 | .ret u=>∃ v σ' H',Inv X pins σ' H' s'/\He v u/\D.rt v H'
def PE(X:Cx)(e:Expr)(t:TE):Prop:=
 ∀ (pins:List (Addr×Obj)) (s:Shared) (σ:St) (H:Hp) (Q:VK),Inv X pins σ H s->t σ H Q->wpAny (model X.prog X.w) X.A (eval e X.env) (EP X pins σ Q) X.xe s
def PT(X:Cx)(e:Expr)(t:TT):Prop:=
 ∀ (pins:List (Addr×Obj)) (s:Shared) (σ:St) (H:Hp) (Q:Bool->Hp->Prop),Inv X pins σ H s->t σ H Q->wpAny (model X.prog X.w) X.A (isTrue e X.env (eval e X.env)) (TP X pins σ Q) X.xe s
def PW(X:Cx)(e:Expr)(t:TT):Prop:=
 ∀ (whole:Sem Value) (pins:List (Addr×Obj)) (s:Shared) (σ:St) (H:Hp) (Q:Bool->Hp->Prop),Inv X pins σ H s->t σ H Q->wpAny (model X.prog X.w) X.A (isTrue e X.env whole) (TP X pins σ Q) X.xe s
theorem PW.pt{X:Cx}{e:Expr}{t:TT}(h:PW X e t):PT X e t:=h _
def PA(X:Cx)(es:List Expr)(t:TA):Prop:=
 ∀ (pos:Pos) (pins:List (Addr×Obj)) (s:Shared) (σ:St) (H:Hp) (Q:List V->Hp->Prop),Inv X pins σ H s->t σ H Q->wpAny (model X.prog X.w) X.A (spliced (backTo pos (starEach es X.env))) (AP X pins σ Q) X.xe s
def PS(X:Cx)(st:Stmt)(t:TS):Prop:=
 ∀ (pins:List (Addr×Obj)) (s:Shared) (σ:St) (H:Hp) (D:Ends),Inv X pins σ H s->t D σ H->wpAny (model X.prog X.w) X.A (exec st X.env) (SP X pins D) X.xe s
def PSs(X:Cx)(st:List Stmt)(t:TS):Prop:=
 ∀ (pins:List (Addr×Obj)) (s:Shared) (σ:St) (H:Hp) (D:Ends),Inv X pins σ H s->t D σ H->wpAny (model X.prog X.w) X.A (execs st X.env) (SP X pins D) X.xe s
theorem thn{α:Type}{t:Sem α}{Q Q':α->Shared->Prop}{M:Model}{A:Around}{E:Value->Shared->Prop}{s:Shared}(h:wpAny M A t Q E s)(hQ:∀ a s,Q a s->Q' a s):wpAny M A t Q' E s:=wpAny_mono h hQ fun _ _ x=>x
section
variable{X:Cx}
def Gqj(i:Nat):TE:=fun σ H Q=>∃ v,σ[i]?=some (some v)/\Q v H
def tC(v:V):TE:=fun _ H Q=>Q v H
theorem Gf4{i:Nat}{x:Str}{pos:Pos}(hN:X.N[i]?=some x)(hv:Vis X.env.scope x)(hd:(x==("__debug__":Str))=false:=by decide)(hcd:(x==("__classdict__":Str))=false:=by decide):PE X (.Name x pos) (Gqj i):=by
 intro pins s σ H Q I h
 obtain⟨v,e,h⟩:=h
 obtain⟨m,hn,hl⟩:=I.loc
 obtain⟨u,r,l⟩:=hl i x v hN e hv
 have fin:EP X pins σ Q u s:=⟨v,H,I,r,h⟩
 rcases l with⟨hk,hm⟩ | ⟨hk,c,hc,hcell⟩
 ·exact wpAny_Name (wpAny_loadName_local I.ok.kind hk hn hm fin) hd
 ·rcases hk with hk | hk
  ·exact wpAny_Name (wpAny_loadName_cell I.ok.kind hk hc hcell fin) hd
  ·exact wpAny_Name (wpAny_loadName_free I.ok.kind hk hc hcell fin hcd) hd
theorem Gqk{i j pos}:PE X (.Constant (.int i) j pos) (tC (.int i)):=fun _ _ _ H _ I h=>wpAny_Constant_int ⟨.int i,H,I.tok _,⟨_,rfl⟩,h⟩
theorem Gu5{b j pos}:PE X (.Constant (.bool b) j pos) (tC (.bl b)):=fun _ _ _ H _ I h=>Constant_bool ⟨.bl b,H,I,rfl,h⟩
theorem Gql{j pos}:PE X (.Constant .none j pos) (tC .non):=fun _ _ _ H _ I h=>Constant_none ⟨.non,H,I,rfl,h⟩
theorem Gqm{x j pos}:PE X (.Constant (.str x) j pos) (tC (.str x)):=fun _ _ _ H _ I h=>Calls.Constant_str ⟨.str x,H,I.tok _,⟨_,rfl⟩,h⟩
def Gl(X:Cx)(x:Str):Prop:=X.env.kindOf x=some .globalImplicit
theorem Xo{E:Value->Shared->Prop}{pins:List (Addr×Obj)}{s:Shared}{σ:St}{H:Hp}{x:Str}{u:Value}{pos:Pos}{Q:Value->Shared->Prop}(I:Inv X pins σ H s)(hg:Gl X x)(hm:X.mg x=some u)(h:Q u s)
  (hd:(x==("__debug__":Str))=false:=by decide):wpAny (model X.prog X.w) X.A (eval (.Name x pos) X.env) Q E s:=
 Calls.Name_function_global I.ok.kind hg (Calls.loadGlobal_global (by rw[I.ok.glob]; exact I.mod.glob.keeps I.bk) hm h) hd
theorem Yh{E:Value->Shared->Prop}{pins:List (Addr×Obj)}{s:Shared}{σ:St}{H:Hp}{x:Str}{u:Value}{pos:Pos}{Q:Value->Shared->Prop}(I:Inv X pins σ H s)(hg:Gl X x)(hm:X.mg x=none)(hv:bootBuiltins x=some u)(h:Q u s)
  (hn:x≠"__name__":=by decide) (hd:(x==("__debug__":Str))=false:=by decide):wpAny (model X.prog X.w) X.A (eval (.Name x pos) X.env) Q E s:=by
 obtain⟨mb,h1,h2⟩:=I.mod.blt
 exact Calls.Name_function_global I.ok.kind hg (Calls.loadGlobal_builtin (by rw[I.ok.glob]; exact I.mod.glob.keeps I.bk) hm (by rw[I.ok.blt]; exact h1.keeps I.bk) ((h2 x hn).trans hv) h) hd
theorem Gmb{x:Str}{v:V}{u:Value}{pos:Pos}(hg:Gl X x)(hm:X.mg x=some u)(r:He v u)(hd:(x==("__debug__":Str))=false:=by decide):PE X (.Name x pos) (tC v):=
 fun _ _ _ H _ I h=>Xo I hg hm ⟨v,H,I,r,h⟩ hd
theorem Gmc{x:Str}{v:V}{u:Value}{pos:Pos}(hg:Gl X x)(hm:X.mg x=none)(hv:bootBuiltins x=some u)(r:He v u)(hn:x≠"__name__":=by decide)(hd:(x==("__debug__":Str))=false:=by decide):PE X (.Name x pos) (tC v):=
 fun _ _ _ H _ I h=>Yh I hg hm hv ⟨v,H,I,r,h⟩ hn hd
variable{a b:Expr}{ta tb:TE}{pos:Pos}
variable{tA tB':TT}{rest:List Expr}
def Gx3(t u:TT):TT:=fun σ H Q=>t σ H fun c H1=>if c=true then u σ H1 Q else Q false H1
def tOr(t u:TT):TT:=fun σ H Q=>t σ H fun c H1=>if c=true then Q true H1 else u σ H1 Q
def Gx4(t:TT):TT:=fun σ H Q=>t σ H fun c H1=>Q (!c) H1
theorem Gmd(ha:PT X a tA):PW X (.BoolOp .And [a] pos) tA:=by
 intro wh pins s σ H Q I h
 refine isTrue_and (thn (ha pins s σ H Q I h) fun c s1 e=>?_)
 cases c with
 | true=>exact isTrue_and_nil e
 | false=>exact e
theorem Gqn(ha:PT X a tA):PW X (.BoolOp .Or [a] pos) tA:=by
 intro wh pins s σ H Q I h
 refine isTrue_or (thn (ha pins s σ H Q I h) fun c s1 e=>?_)
 cases c with
 | false=>exact isTrue_or_nil e
 | true=>exact e
theorem Gqo(ha:PT X a tA)(hb:PW X (.BoolOp .And (b::rest) pos) tB'):PW X (.BoolOp .And (a::b::rest) pos) (Gx3 tA tB'):=by
 intro wh pins s σ H Q I h
 refine isTrue_and (thn (ha pins s σ H _ I h) fun c s1 ⟨H1,I1,q1⟩=>?_)
 cases c with
 | true=>exact hb wh pins s1 σ H1 Q I1 q1
 | false=>exact⟨H1,I1,q1⟩
theorem Gu6(ha:PT X a tA)(hb:PW X (.BoolOp .Or (b::rest) pos) tB'):PW X (.BoolOp .Or (a::b::rest) pos) (tOr tA tB'):=by
 intro wh pins s σ H Q I h
 refine isTrue_or (thn (ha pins s σ H _ I h) fun c s1 ⟨H1,I1,q1⟩=>?_)
 cases c with
 | true=>exact⟨H1,I1,q1⟩
 | false=>exact hb wh pins s1 σ H1 Q I1 q1
theorem Gqp(ha:PT X a tA):PT X (.UnaryOp .Not a pos) (Gx4 tA):=by
 intro pins s σ H Q I h
 exact isTrue_not (ha pins s σ H (fun c H1=>Q (!c) H1) I h)
def Gu7(ta tb:TE):TE:=fun σ H Q=>ta σ H fun x H1=>∃ c,x=.bl c/\if c=true then tb σ H1 Q else Q (.bl false) H1
def Gu8(ta:TE):TE:=fun σ H Q=>ta σ H fun x H1=>∃ c,x=.bl c/\Q (.bl (!c)) H1
theorem Gqq{op}{t:TE}(h:PE X a t):PE X (.BoolOp op [a] pos) t:=fun pins s σ H Q I hw=>BoolOp_one (h pins s σ H Q I hw)
theorem Gqr(ha:PE X a ta)(hb:PE X (.BoolOp .And (b::rest) pos) tb):PE X (.BoolOp .And (a::b::rest) pos) (Gu7 ta tb):=by
 intro pins s σ H Q I h
 refine BoolOp_and (thn (ha pins s σ H _ I h) fun v s1 ⟨x,H1,I1,r1,q1⟩=>?_)
 obtain⟨c,rfl,q1⟩:=q1
 cases r1
 refine wpAny_truthy_bool ?_
 cases c with
 | true=>exact hb pins s1 σ H1 Q I1 q1
 | false=>exact⟨.bl false,H1,I1,rfl,q1⟩
theorem Gqs(ha:PE X a ta):PE X (.UnaryOp .Not a pos) (Gu8 ta):=by
 intro pins s σ H Q I h
 refine UnaryOp_ (thn (ha pins s σ H _ I h) fun v s1 ⟨x,H1,I1,r1,q1⟩=>?_)
 obtain⟨c,rfl,q1⟩:=q1
 cases r1
 exact not_of (wpAny_truthy_bool ⟨.bl (!c),H1,I1,rfl,q1⟩)
def tIf(t:TT)(ta tb:TE):TE:=fun σ H Q=>t σ H fun c H1=>if c=true then ta σ H1 Q else tb σ H1 Q
theorem Gi1{c:Expr}(hc:PT X c tA)(ha:PE X a ta)(hb:PE X b tb):PE X (.IfExp c a b pos) (tIf tA ta tb):=by
 intro pins s σ H Q I h
 refine wpAny_IfExp (thn (hc pins s σ H _ I h) fun d s1 ⟨H1,I1,q1⟩=>?_)
 cases d with
 | true=>exact ha pins s1 σ H1 Q I1 q1
 | false=>exact hb pins s1 σ H1 Q I1 q1
end
def SqL(K:PySem.W.Frag)(H:Hp)(a:Addr)(xs:List V):Prop:=
 Rd H a (.lst xs)∨
  ∃ (o:Obj) (its:Array Value) (n:Nat),K.lookup a=some o/\o.cls=.type "list"/\o.dict=none/\o.data=.seq its n/\its.size<=sizeLine/\Vals xs its.toList
def SqT(K:PySem.W.Frag)(H:Hp)(a:Addr)(xs:List V):Prop:=
 Rd H a (.tup xs)∨
  ∃ (o:Obj) (its:Array Value) (n:Nat),K.lookup a=some o/\o.cls=.type "tuple"/\o.data=.seq its n/\its.size<=sizeLine/\Vals xs its.toList
def Gx5:Value->Option V
 | .none=>some .non
 | .bool b=>some (.bl b)
 | .int i _=>some (.int i)
 | .str x _=>some (.str x)
 | .bytes b _=>some (.byt b)
 | .float b _=>some (.flt b)
 | .ref a=>some (.ref a)
 | .type n=>some (.ty n)
 | _=>none
theorem He.abs{x:V}{u:Value}(r:He x u):Gx5 u=some x:=by
 cases x with
 | non=>cases r; rfl
 | bl _=>cases r; rfl
 | int _=>obtain⟨t,rfl⟩:=r; rfl
 | str _=>obtain⟨t,rfl⟩:=r; rfl
 | byt _=>obtain⟨t,rfl⟩:=r; rfl
 | flt _=>obtain⟨t,rfl⟩:=r; rfl
 | ref _=>cases r; rfl
 | ty _=>cases r; rfl
theorem He.inj{x y:V}{u:Value}(r:He x u)(q:He y u):x=y:=Option.some.inj (r.abs.symm.trans q.abs)
theorem Vals.inj:∀ {xs ys:List V} {us:List Value},Vals xs us->Vals ys us->xs=ys
 | _,_,_,.nil,.nil=>rfl
 | _,_,_,.cons r t,.cons r' t'=>by rw[r.inj r',Vals.inj t t']
section
variable{X:Cx}{pins:List (Addr×Obj)}{σ:St}{H:Hp}{s:Shared}{a:Addr}{xs ys:List V}
theorem SqL.of{K:PySem.W.Frag}(h:H a=some (.lst xs)):SqL K H a xs:=.inl (.inl h)
theorem SqT.of{K:PySem.W.Frag}(h:H a=some (.tup xs)):SqT K H a xs:=.inl (.inl h)
theorem Inv.list(I:Inv X pins σ H s)(h:SqL X.K H a xs):∃ its:List Value,Vals xs its/\PlainL s.heap a its.toArray/\xs.length<=sizeLine:=by
 rcases h with h | ⟨o,its,n,hk,hc,hd,hs,hz,r⟩
 ·obtain⟨z,its,n,r,e⟩:=h.ok I.hok
  exact⟨its,r,⟨_,n,e,rfl,rfl,rfl⟩,z⟩
 ·refine⟨its.toList,r,⟨o,n,I.kIn a o hk,hc,hd,by simpa using hs⟩,?_⟩
  have e:=r.length
  simp only[Array.length_toList] at e
  omega
theorem Inv.tuple(I:Inv X pins σ H s)(h:SqT X.K H a xs):∃ its:List Value,Vals xs its/\IsTup s.heap a its.toArray/\xs.length<=sizeLine:=by
 rcases h with h | ⟨o,its,n,hk,hc,hs,hz,r⟩
 ·obtain⟨z,its,r,p⟩:=h.ok I.hok
  exact⟨its,r,p,z⟩
 ·refine⟨its.toList,r,⟨o,I.kIn a o hk,hc,n,by simpa using hs⟩,?_⟩
  have e:=r.length
  simp only[Array.length_toList] at e
  omega
theorem Inv.list_inj(I:Inv X pins σ H s)(h:SqL X.K H a xs)(h':SqL X.K H a ys):xs=ys:=by
 obtain⟨its,r,⟨o,n,e,_,_,d⟩,_⟩:=I.list h
 obtain⟨its',r',⟨o',n',e',_,_,d'⟩,_⟩:=I.list h'
 rw[e] at e'; cases e'
 rw[d] at d'
 injection d' with d1 _
 have:its=its':=by simpa using congrArg Array.toList d1
 subst this
 exact r.inj r'
theorem Inv.tuple_inj(I:Inv X pins σ H s)(h:SqT X.K H a xs)(h':SqT X.K H a ys):xs=ys:=by
 obtain⟨its,r,⟨o,e,_,n,d⟩,_⟩:=I.tuple h
 obtain⟨its',r',⟨o',e',_,n',d'⟩,_⟩:=I.tuple h'
 rw[e] at e'; cases e'
 rw[d] at d'
 injection d' with d1 _
 have:its=its':=by simpa using congrArg Array.toList d1
 subst this
 exact r.inj r'
end
abbrev Cx.wish(X:Cx)(E:Value->Shared->Prop):Cx:={ X with xe:=E }
abbrev Cx.nox(X:Cx):Cx:=X.wish fun _ _=>False
theorem Cx.Ok.wish{X:Cx}(ok:X.Ok)(E:Value->Shared->Prop):(X.wish E).Ok:=
 ⟨ok.mod,ok.kind,ok.glob,ok.blt,ok.above,ok.inj,ok.has,ok.cab,ok.hd,ok.frames,ok.stk,ok.exf,ok.bs,ok.bsz,ok.noex,ok.exfs,ok.funs,ok.frf⟩
theorem Cx.Ok.unwish{X:Cx}{E:Value->Shared->Prop}(ok:(X.wish E).Ok):X.Ok:=
 ⟨ok.mod,ok.kind,ok.glob,ok.blt,ok.above,ok.inj,ok.has,ok.cab,ok.hd,ok.frames,ok.stk,ok.exf,ok.bs,ok.bsz,ok.noex,ok.exfs,ok.funs,ok.frf⟩
section
variable{X:Cx}{pins:List (Addr×Obj)}{σ:St}{H:Hp}{s:Shared}{E:Value->Shared->Prop}
theorem Inv.wish(I:Inv X pins σ H s)(E:Value->Shared->Prop):Inv (X.wish E) pins σ H s:=⟨I.ok.wish E,I.os,I.bare,I.base,I.loc,I.cell,I.free,I.freeC,I.pin,I.hok,I.len⟩
theorem Inv.unwish(I:Inv (X.wish E) pins σ H s):Inv X pins σ H s:=⟨I.ok.unwish,I.os,I.bare,I.base,I.loc,I.cell,I.free,I.freeC,I.pin,I.hok,I.len⟩
theorem SP.unwish{D:Ends}{f:Flow}{s':Shared}(h:SP (X.wish E) pins D f s'):SP X pins D f s':=by
 cases f with
 | next=>obtain⟨σ',H',I,q⟩:=h; exact⟨σ',H',I.unwish,q⟩
 | brk=>obtain⟨σ',H',I,q⟩:=h; exact⟨σ',H',I.unwish,q⟩
 | cont=>obtain⟨σ',H',I,q⟩:=h; exact⟨σ',H',I.unwish,q⟩
 | ret u=>obtain⟨v,σ',H',I,r,q⟩:=h; exact⟨v,σ',H',I.unwish,r,q⟩
theorem PSs.nox{st:List Stmt}{t:TS}(h:PSs X.nox st t):PSs X st t:=fun pins s σ H D I hw=>
 wpAny_mono (h pins s σ H D (I.wish _) hw) (fun _ _ q=>q.unwish) fun _ _ z=>False.elim z
end
section
variable{X:Cx}{st:Stmt}{rest:List Stmt}{t u:TS}{e:Expr}{te:TE}{pos:Pos}
def Gu9:TS:=fun D σ H=>D.nx σ H
def Gx6(t u:TS):TS:=fun D σ H=>t { D with nx:=u D } σ H
theorem Gme:PSs X [] Gu9:=fun _ _ σ H _ I h=>wpAny_execs_nil ⟨σ,H,I,h⟩
theorem Gi2(h1:PS X st t)(h2:PSs X rest u):PSs X (st::rest) (Gx6 t u):=by
 intro pins s σ H D I h
 refine wpAny_execs_cons (thn (h1 pins s σ H { D with nx:=u D } I h) fun f s1 q=>?_)
 cases f with
 | next=>
  obtain⟨σ',H',I',q⟩:=q
  exact h2 pins s1 σ' H' D I' q
 | ret v=>exact q
 | brk=>exact q
 | cont=>exact q
theorem Gg4(h1:PS X st t):PSs X [st] t:=by
 intro pins s σ H D I h
 refine wpAny_execs_cons (thn (h1 pins s σ H D I h) fun f s1 q=>?_)
 cases f with
 | next=>exact wpAny_execs_nil q
 | ret v=>exact q
 | brk=>exact q
 | cont=>exact q
def Gva:TS:=fun D σ H=>D.ct σ H
theorem Ge1:PS X (.Continue pos) Gva:=fun _ _ σ H _ I h=>wpAny_Continue ⟨σ,H,I,h⟩
theorem Inv.quiet{pins:List (Addr×Obj)}{σ:St}{H:Hp}{s:Shared}(I:Inv X pins σ H s):interactive X.env=false:=by simp[interactive,I.ok.kind]
def Gpd(te:TE):TS:=fun D σ H=>te σ H fun _ H1=>D.nx σ H1
theorem Gg5(he:PE X e te)(hs:swapsWith e none pos.line X.env=pure false:=by rfl):PS X (.Expr e pos) (Gpd te):=by
 intro pins s σ H D I h
 exact wpAny_Expr_any (thn (he pins s σ H _ I h) fun v s1 ⟨x,H1,I1,r1,q1⟩=>⟨σ,H1,I1,q1⟩) I.quiet hs
def Gx7(te:TE):TS:=fun D σ H=>te σ H D.rt
theorem Gqt(he:PE X e te):PS X (.Return (some e) pos) (Gx7 te):=by
 intro pins s σ H D I h
 exact wpAny_Return_some (thn (he pins s σ H _ I h) fun v s1 ⟨x,H1,I1,r1,q1⟩=>⟨x,σ,H1,I1,r1,q1⟩)
def Gx8(c:TT)(t u:TS):TS:=fun D σ H=>c σ H fun b H1=>if b=true then t D σ H1 else u D σ H1
theorem Gvb{c:Expr}{a b:List Stmt}{tc:TT}(hc:PT X c tc)(ha:PSs X a t)(hb:PSs X b u):PS X (.If c a b pos) (Gx8 tc t u):=by
 intro pins s σ H D I h
 refine wpAny_If (thn (hc pins s σ H _ I h) fun d s1 ⟨H1,I1,q1⟩=>?_)
 cases d with
 | true=>exact ha pins s1 σ H1 D I1 q1
 | false=>exact hb pins s1 σ H1 D I1 q1
end
abbrev TG:=V->St->Hp->(St->Hp->Prop)->Prop
abbrev TGs:=List V->St->Hp->(St->Hp->Prop)->Prop
def PG(X:Cx)(target:Expr)(t:TG):Prop:=
 ∀ (pins:List (Addr×Obj)) (s:Shared) (σ:St) (H:Hp) (v:V) (u:Value) (Q:St->Hp->Prop),Inv X pins σ H s->He v u->t v σ H Q→
  wpAny (model X.prog X.w) X.A (assign target X.env u) (fun _ s'=>∃ σ' H',Inv X pins σ' H' s'/\Q σ' H') X.xe s
def PGs(X:Cx)(ts:List Expr)(t:TGs):Prop:=
 ∀ (pins:List (Addr×Obj)) (s:Shared) (σ:St) (H:Hp) (vs:List V) (us:List Value) (Q:St->Hp->Prop),Inv X pins σ H s->Vals vs us->t vs σ H Q→
  wpAny (model X.prog X.w) X.A (assignInOrder ((assignEach ts X.env).map (·.2)) us) (fun _ s'=>∃ σ' H',Inv X pins σ' H' s'/\Q σ' H') X.xe s
abbrev Gh3:=V->V->V->Hp->(Hp->Prop)->Prop
def Gmf(X:Cx)(t:Gh3):Prop:=
 ∀ (pins:List (Addr×Obj)) (s:Shared) (σ:St) (H:Hp) (o i v:V) (ov iv u:Value) (Q:Hp->Prop),Inv X pins σ H s->He o ov->He i iv->He v u->t o i v H Q→
  wpAny (model X.prog X.w) X.A (setItem ov iv u) (fun _ s'=>∃ H',Inv X pins σ H' s'/\Q H') X.xe s
abbrev TIp:=V->V->Hp->VK->Prop
def PIp(X:Cx)(op:Operator)(t:TIp):Prop:=
 ∀ (pins:List (Addr×Obj)) (s:Shared) (σ:St) (H:Hp) (x y:V) (v u:Value) (Q:VK),Inv X pins σ H s->He x v->He y u->t x y H Q→
  wpAny (model X.prog X.w) X.A (inplaceOp op v u) (EP X pins σ Q) X.xe s
section
variable{X:Cx}{pos:Pos}
def gName(i:Nat):TG:=fun v σ H Q=>Q (σ.set i (some v)) H
theorem Gmg{i:Nat}{x:Str}(hN:X.N.Nodup)(hi:X.N[i]?=some x)(hx:Loc X.env.scope x)(hf:X.fn x=true\/X.env.scope.names.lookup x=some .local:=by first | exact .inl rfl | exact .inr rfl | assumption):PG X (.Name x pos) (gName i):=by
 intro pins s σ H v u Q I r h
 exact wpAny_assign_Name (Wn I hN hi hx r (fun s' I'=>⟨_,H,I',h⟩) hf)
def Gx9:TGs:=fun vs σ H Q=>vs=[]/\Q σ H
def Gvc(t:TG)(u:TGs):TGs:=fun vs σ H Q=>∃ v r,vs=v::r/\t v σ H fun σ' H'=>u r σ' H' Q
theorem Gmh:PGs X [] Gx9:=by
 intro pins s σ H vs us Q I r h
 obtain⟨e,h⟩:=h
 subst e
 cases r
 exact assignInOrder_nil ⟨σ,H,I,h⟩
theorem Gi3{e:Expr}{es:List Expr}{t:TG}{u:TGs}(h1:PG X e t)(h2:PGs X es u)
  (hs:(assignEach (e::es) X.env).map (·.2)=assign e X.env::(assignEach es X.env).map (·.2):=by rfl):PGs X (e::es) (Gvc t u):=by
 intro pins s σ H vs us Q I r h
 obtain⟨v,vr,e1,h⟩:=h
 subst e1
 cases r with
 | cons r rr=>
  rw[hs]
  refine assignInOrder_cons (thn (h1 pins s σ H _ _ _ I r h) fun _ s1 ⟨σ1,H1,I1,q1⟩=>?_)
  exact h2 pins s1 σ1 H1 _ _ Q I1 rr q1
def Gya(K:PySem.W.Frag)(n:Nat)(t:TGs):TG:=fun v σ H Q=>∃ a xs,v=.ref a/\SqT K H a xs/\xs.length=n/\t xs σ H Q
theorem Gqu{es:List Expr}{k:Nat}{t:TGs}{n:Nat}(hc:X.calm=true)(h:PGs X es t)
  (hn:(assignEach es X.env).length=n:=by rfl) (hst:(assignEach es X.env).findIdx? (·.1)=none:=by rfl):PG X (.Tuple es k pos) (Gya X.K n t):=by
 intro pins s σ H v u Q I r hw
 obtain⟨a,xs,e1,hq,hl,hw⟩:=hw
 subst e1
 cases r
 obtain⟨its,rv,ht,hz⟩:=I.tuple hq
 refine assign_Tuple_tuple (I.ok.hd hc) ht (by simp[hn,<- hl,rv.length]) hst fun h' hx=>?_
 have I1:Inv X pins σ H { s with heap:=h' }:=I.kept (t':=s.toks) fun b o e=>hx b o (Nat.ne_of_lt (Heap.lt_size e)) e
 exact h pins _ σ H xs _ Q I1 (by simpa using rv) hw
def Gyb(to ti:TE)(t:Gh3):TG:=fun v σ H Q=>to σ H fun o H1=>ti σ H1 fun i H2=>t o i v H2 fun H3=>Q σ H3
theorem Gqv{o i:Expr}{to ti:TE}{t:Gh3}(ho:PE X o to)(hi:PE X i ti)(hs:Gmf X t)
  (ha:∀ v,assign (.Subscript o i pos) X.env v=(do
   let ov <- holding [v] (eval o X.env)
   let iv <- holding [v,ov] (eval i X.env)
   standAt pos
   holding [v,ov,iv] (setItem ov iv v)
   release [v,ov,iv] []):=by intro _; rfl):PG X (.Subscript o i pos) (Gyb to ti t):=by
 intro pins s σ H v u Q I r h
 rw[ha]
 refine wpAny_bind (wpAny_holding (thn (ho pins s σ H _ I h) fun ov s1 ⟨x,H1,I1,r1,q1⟩=>?_))
 refine wpAny_bind (wpAny_holding (thn (hi pins s1 σ H1 _ I1 q1) fun iv s2 ⟨y,H2,I2,r2,q2⟩=>?_))
 refine wpAny_bind (wpAny_standAt (wpAny_bind (wpAny_holding (thn (hs pins s2 σ H2 x y v ov iv u _ I2 r1 r2 r q2) fun _ s3 ⟨H3,I3,q3⟩=>?_))))
 exact wpAny_release ⟨σ,H3,I3,q3⟩
def Gmi(te:TE)(g:TG):TS:=fun D σ H=>te σ H fun x H1=>g x σ H1 D.nx
theorem Gi4{tg e:Expr}{te:TE}{g:TG}(he:PE X e te)(hg:PG X tg g)(hs:swapsWithSole [tg] e pos.line X.env=pure false:=by rfl)(hw:swappedStores [tg] e X.env=pure none:=by rfl)
  (h1:(assignEach [tg] X.env).map (·.2)=[assign tg X.env]:=by rfl):PS X (.Assign [tg] e pos) (Gmi te g):=by
 intro pins s σ H D I h
 refine wpAny_Assign_stores (thn (he pins s σ H _ I h) fun v s1 ⟨x,H1,I1,r1,q1⟩=>?_) hs hw
 rw[h1]
 exact thn (hg pins s1 σ H1 x v _ I1 r1 q1) fun _ s2 q=>q
theorem Gqw{i:Nat}{x:Str}{e:Expr}{te:TE}{pos':Pos}(hN:X.N.Nodup)(hi:X.N[i]?=some x)(hx:Loc X.env.scope x)(he:PE X e te)(hs:swapsWith e (some (.Name x pos')) pos.line X.env=pure false:=by rfl)(hf:X.fn x=true\/X.env.scope.names.lookup x=some .local:=by first | exact .inl rfl | exact .inr rfl | assumption):
  PS X (.Assign [.Name x pos'] e pos) (Gmi te (gName i)):=by
 intro pins s σ H D I h
 refine wpAny_Assign_Name (thn (he pins s σ H _ I h) fun v s1 ⟨y,H1,I1,r1,q1⟩=>?_) hs
 exact Wn I1 hN hi hx r1 (fun s2 I2=>⟨_,H1,I2,q1⟩) hf
def Gyc(i j:Nat)(ta:TA):TS:=fun D σ H=>ta σ H fun vs H1=>∃ v w,vs=[v,w]/\D.nx ((σ.set i (some v)).set j (some w)) H1
theorem Gqx{i j:Nat}{x y:Str}{a b:Expr}{ta:TA}{px py pt:Pos}{kt k2 pt2}(hc:X.calm=true)(hN:X.N.Nodup)(hi:X.N[i]?=some x)(hj:X.N[j]?=some y)(hij:i≠j)
  (hx:X.env.scope.names.lookup x=some .local) (hy:X.env.scope.names.lookup y=some .local) (ha:PA X [a,b] ta)
  (hw:swappedStores [.Tuple [.Name x px,.Name y py] kt pt] (.Tuple [a,b] k2 pt2) X.env=pure (some [x,y]))
  (hs:swapsWithSole [.Tuple [.Name x px,.Name y py] kt pt] (.Tuple [a,b] k2 pt2) pos.line X.env=pure false:=by rfl):
  PS X (.Assign [.Tuple [.Name x px,.Name y py] kt pt] (.Tuple [a,b] k2 pt2) pos) (Gyc i j ta):=by
 intro pins s σ H D I h
 rw[exec_Assign_arm]
 refine wpAny_bind (wpAny_standAt ?_)
 rw[hs]
 refine wpAny_bind (wpAny_pure ?_)
 rw[if_neg (by decide)]
 refine wpAny_bind (Tuple_ (thn (ha _ pins s σ H _ I h) fun us s1 ⟨vs,H1,I1,r1,q1⟩=>?_))
 obtain⟨v,w,e1,q1⟩:=q1
 subst e1
 obtain⟨u1,u2,rfl,rv,rw'⟩:∃ u1 u2,us=[u1,u2]/\He v u1/\He w u2:=by
  cases r1 with
  | cons p q=>
   cases q with
   | cons p' q'=>
    cases q'
    exact⟨_,_,rfl,p,p'⟩
 refine wpAny_newObj_type ?_ (by show 2<=sizeLine; decide)
 have I2:Inv X pins σ H1 { s1 with heap:=s1.heap.push { cls:=.type "tuple",data:=.seq [u1,u2].toArray } }:=I1.kept (t':=s1.toks) fun b o e=>Heap.get?_push_of_some _ e
 rw[hw]
 refine wpAny_bind (wpAny_pure ?_)
 show wpAny (model X.prog X.w) X.A (do rule "assign.swapped-stores"; let items <- unpackItems (.ref s1.heap.objs.size) 2 none; assignInOrder [fun v=>bindName X.env y v,fun v=>bindName X.env x v] items.reverse; pure Flow.next) _ _ _
 refine wpAny_bind (wpAny_rule (wpAny_bind (unpackItems_tuple (items:=#[u1,u2]) (I.ok.hd hc) (IsTup.new s1.heap _) fun h' hx'=>?_)))
 have I3:=I2.kept (h':=h') (t':=s1.toks) fun b o e=>hx' b o (Nat.ne_of_lt (Heap.lt_size e)) e
 show wpAny _ _ (assignInOrder [fun v=>bindName X.env y v,fun v=>bindName X.env x v] [u2,u1] >>= fun _=>pure Flow.next) _ _ _
 refine wpAny_bind (assignInOrder_cons (wpAny_bindName (Wn I3 hN hj (.inl hy) rw' (fun s2 I4=>?_) (.inr hy))))
 refine assignInOrder_cons (wpAny_bindName (Wn I4 hN hi (.inl hx) rv (fun s3 I5=>assignInOrder_nil (wpAny_pure ?_)) (.inr hx)))
 rw[List.set_comm _ _ (Ne.symm hij)] at I5
 exact⟨_,H1,I5,q1⟩
def Gvd(i:Nat)(te:TE)(ti:TIp):TS:=fun D σ H=>∃ x,σ[i]?=some (some x)/\te σ H fun y H1=>ti x y H1 fun z H2=>D.nx (σ.set i (some z)) H2
theorem Gqy{i:Nat}{x:Str}{e:Expr}{te:TE}{op:Operator}{ti:TIp}{pos':Pos}(hN:X.N.Nodup)(hi:X.N[i]?=some x)(hx:Loc X.env.scope x)(he:PE X e te)(ho:PIp X op ti)(hf:X.fn x=true\/X.env.scope.names.lookup x=some .local:=by first | exact .inl rfl | exact .inr rfl | assumption):
  PS X (.AugAssign (.Name x pos') op e pos) (Gvd i te ti):=by
 intro pins s σ H D I h
 obtain⟨v,e1,h⟩:=h
 obtain⟨m,hn,hl⟩:=I.loc
 have vis:Vis X.env.scope x:=by rcases hx with k | k; exact .inl k; exact .inr (.inl k)
 obtain⟨u,r,l⟩:=hl i x v hi e1 vis
 refine wpAny_AugAssign_Name ?_
 have go:wpAny (model X.prog X.w) X.A (eval e X.env) (fun w s₂=>wpAny (model X.prog X.w) X.A (inplaceOp op u w) (fun r s₃=>wpAny (model X.prog X.w) X.A (storeName X.env x r) (fun _=>SP X pins D .next) X.xe s₃) X.xe s₂) X.xe s:=by
  refine thn (he pins s σ H _ I h) fun w s1 ⟨y,H1,I1,r1,q1⟩=>?_
  refine thn (ho pins s1 σ H1 v y u w _ I1 r r1 q1) fun z s2 ⟨zv,H2,I2,r2,q2⟩=>?_
  exact Wn I2 hN hi hx r2 (fun s3 I3=>⟨_,H2,I3,q2⟩) hf
 rcases l with⟨hk,hm⟩ | ⟨hk,c,hc,hcell⟩
 ·exact wpAny_loadName_local I.ok.kind hk hn hm go
 ·rcases hk with hk | hk
  ·exact wpAny_loadName_cell I.ok.kind hk hc hcell go
  ·rcases hx with k | k
   ·have:X.env.scope.names.lookup x=some .free:=hk
    rw[k] at this; cases this
   ·have:X.env.scope.names.lookup x=some .free:=hk
    rw[k] at this; cases this
def ipI(f:Int->Int->Int):TIp:=fun x y H Q=>∃ i j,x=.int i/\y=.int j/\Q (.int (f i j)) H
theorem Gqz:PIp X .Add (ipI fun i j=>i+j):=by
 intro pins s σ H x y v u Q I r1 r2 h
 obtain⟨i,j,e1,e2,q⟩:=h
 subst e1; subst e2
 obtain⟨t,rfl⟩:=r1
 obtain⟨t',rfl⟩:=r2
 exact iadd_int ⟨.int _,H,I.tok _,⟨_,rfl⟩,q⟩
end
section
variable{X:Cx}{pos:Pos}
def Gq0(c:TT)(tb:TS):TS:=fun D σ H=>∃ W:Nat->St->Hp->Prop,(∃ m,W m σ H)/\∀ m σ H,W m σ H→
 c σ H fun b H1=>if b=true then ∃ N:St->Hp->Prop,(∀ σ' H',N σ' H'->∃ m',m'<m/\W m' σ' H')/\tb { D with nx:=N,ct:=N,bk:=D.nx } σ H1 else D.nx σ H1
theorem Gi5{c:Expr}{body:List Stmt}{tc:TT}{tb:TS}(hp:PassesOwn (model X.prog X.w) X.A X.env X.xe)(hc:PT X c tc)(hb:PSs X body tb):PS X (.While c body [] pos) (Gq0 tc tb):=by
 intro pins s σ H D I h
 obtain⟨W,⟨m0,w0⟩,turn⟩:=h
 refine wpAny_While (codeAny_whileLoop (fun n s'=>∃ σ' H',Inv X pins σ' H' s'/\W n σ' H') ?_ m0 ⟨σ,H,I,w0⟩)
 rintro n s1 ⟨σ1,H1,I1,w1⟩
 refine wpAny_passesOwn hp (thn (hc pins s1 σ1 H1 _ I1 (turn n σ1 H1 w1)) fun b s2 ⟨H2,I2,q2⟩=>?_)
 cases b with
 | true=>
  obtain⟨N,hN,q2⟩:=q2
  rw[if_pos rfl]
  refine wpAny_passesOwn hp (thn (hb pins s2 σ1 H2 _ I2 q2) fun f s3 q3=>?_)
  cases f with
  | next=>
   obtain⟨σ3,H3,I3,n3⟩:=q3
   obtain⟨m',hm,w3⟩:=hN σ3 H3 n3
   exact⟨m',hm,σ3,H3,I3,w3⟩
  | cont=>
   obtain⟨σ3,H3,I3,n3⟩:=q3
   obtain⟨m',hm,w3⟩:=hN σ3 H3 n3
   exact⟨m',hm,σ3,H3,I3,w3⟩
  | brk=>exact q3
  | ret v=>exact q3
 | false=>
  rw[if_neg Bool.false_ne_true]
  exact wpAny_execs_nil ⟨σ1,H2,I2,q2⟩
end
structure It where
 go:Nat->Hp->Prop
 yld:Nat->Hp->V->Hp->Prop
 stop:Nat->Hp->Prop
def Gcp(X:Cx)(pins:List (Addr×Obj))(H:Hp)(b:Addr):Prop:=
 H b=none/\b≠X.env.locals/\b∉X.fs/\(b∈X.ex\/X.s₀.heap.objs.size<=b)/\(∀ x c,X.env.cells.lookup x=some c->c≠b)/\∀ p∈X.pn++pins,p.1≠b
theorem Inv.fpOk{X:Cx}{pins:List (Addr×Obj)}{σ:St}{H H':Hp}{s:Shared}{b:Addr}(I:Inv X pins σ H s)(hb:s.heap.objs.size<=b)(hn:H' b=none):Gcp X pins H' b:=by
 refine⟨hn,Nat.ne_of_gt (Nat.lt_of_lt_of_le I.lt hb),I.nofs hb,.inr (Nat.le_trans I.sz hb),fun x c e z=>?_,fun p hp z=>?_⟩
 ·obtain⟨v,q⟩:=I.cell x c e
  exact absurd (Nat.lt_of_lt_of_le q.lt (by rw[z]; exact hb)) (Nat.lt_irrefl _)
 ·exact absurd (Nat.lt_of_lt_of_le (Heap.lt_size (I.pin p hp).1) (by rw[z]; exact hb)) (Nat.lt_irrefl _)
structure Turn(P:Program)(w:World)(K:PySem.W.Frag)(tg:Expr)(J:It)(fp:List Addr)(it:Addr)(tn:Nat->Heap->Prop):Prop where
 mem:it∈fp
 obj:∀ i h,tn i h->∀ b∈fp,∃ o,h.get? b=some o/\∀ v,o.data≠.cell v
 keep:∀ i h h',tn i h->(∀ b∈fp,∀ o,h.get? b=some o->h'.get? b=some o)->tn i h'
 item:∀ (X:Cx),X.prog=P->X.w=w->X.K=K->X.calm=true->∀ (i:Nat) (pins:List (Addr×Obj)) (s:Shared) (σ:St) (H:Hp) (E:Value->Shared->Prop),Inv X pins σ H s->(∀ b∈fp,Gcp X pins H b)->tn i s.heap->J.go i H→
  wpAny (model P w) X.A (pyNext (.ref it)) (fun r s1=>∃ u,r=some u∧
   wpAny (model P w) X.A (letOwnedTupleGo tg (.ref it) u) (fun _ s2=>∃ x H',Inv X pins σ H' s2/\He x u/\J.yld i H x H'/\tn (i+1) s2.heap/\∀ b∈fp,H' b=none) E s1) E s
 done:∀ (X:Cx),X.prog=P->X.w=w->X.K=K->X.calm=true->∀ (i:Nat) (pins:List (Addr×Obj)) (s:Shared) (σ:St) (H:Hp) (E:Value->Shared->Prop),Inv X pins σ H s->(∀ b∈fp,Gcp X pins H b)->tn i s.heap->J.stop i H→
  wpAny (model P w) X.A (pyNext (.ref it)) (fun r s1=>r=none/\Inv X pins σ H s1) E s
 self:∀ (A:Around) (i:Nat) (s:Shared) (Q:Value->Shared->Prop) (E:Value->Shared->Prop),tn i s.heap->Q (.ref it) s->wpAny (model P w) A (pyIter (.ref it)) Q E s
abbrev TI:=St->Hp->(It->Hp->Prop)->Prop
def PIE(X:Cx)(pins:List (Addr×Obj))(σ:St)(tg:Expr)(R:It->Hp->Prop)(itv:Value)(s2:Shared):Prop:=
 ∃ (it:Addr) (fp:List Addr) (tn:Nat->Heap->Prop) (J:It) (H':Hp),itv=.ref it/\Inv X pins σ H' s2/\Turn X.prog X.w X.K tg J fp it tn/\tn 0 s2.heap/\(∀ b∈fp,Gcp X pins H' b)/\R J H'
def PI(X:Cx)(tg iter:Expr)(wi:TI):Prop:=
 ∀ (pins:List (Addr×Obj)) (s:Shared) (σ:St) (H:Hp) (R:It->Hp->Prop),Inv X pins σ H s->wi σ H R→
  wpAny (model X.prog X.w) X.A (eval iter X.env) (fun v s1=>wpAny (model X.prog X.w) X.A (pyIter v) (PIE X pins σ tg R) X.xe s1) X.xe s
theorem Gi6{M:Model}{A:Around}{E:Value->Shared->Prop}{s:Shared}{tg:Expr}{it:Addr}{u:Value}{o:Obj}{n:String}{vs:Array Value}{Q:Unit->Shared->Prop}(ho:s.heap.get? it=some o)(hc:o.cls=.type n)(hd:o.data=.fields vs)
  (hn:["enumerate","zip","dict_itemiterator","dict_reverseitemiterator","odict_iterator","itertools.zip_longest","itertools.pairwise"].contains n=false) (hQ:Q () s):wpAny M A (letOwnedTupleGo tg (.ref it) u) Q E s:=by
 unfold letOwnedTupleGo
 cases tg<;>first
  | exact wpAny_pure hQ
  | (cases u<;>first
    | exact wpAny_pure hQ
    | (refine wpAny_bind (wpAny_load ho ?_)
       rw[hc,hd]
       show wpAny M A (if(["enumerate","zip","dict_itemiterator","dict_reverseitemiterator","odict_iterator","itertools.zip_longest","itertools.pairwise"].contains n&&vs[0]?==some (rawInt _))=true then _ else _) Q E s
       rw[if_neg (by intro h; rw[hn,Bool.false_and] at h; cases h)]
       exact wpAny_pure hQ))
def Itl(K:PySem.W.Frag)(a:Addr):It:=
 ⟨fun i H=>∃ xs x,SqL K H a xs/\xs[i]?=some x,fun i H x H'=>H'=H/\∀ xs,SqL K H a xs->xs[i]?=some x,fun i H=>∃ xs,SqL K H a xs/\xs.length<=i⟩
def Itt(K:PySem.W.Frag)(a:Addr):It:=
 ⟨fun i H=>∃ xs x,SqT K H a xs/\xs[i]?=some x,fun i H x H'=>H'=H/\∀ xs,SqT K H a xs->xs[i]?=some x,fun i H=>∃ xs,SqT K H a xs/\xs.length<=i⟩
def Itr(lo:Int)(n:Nat):It:=⟨fun i _=>i<n,fun i H x H'=>H'=H/\x=.int (lo+i),fun i _=>n<=i⟩
theorem turn_list{P:Program}{w:World}{K:PySem.W.Frag}{tg:Expr}(a it:Addr):Turn P w K tg (Itl K a) [it] it (fun i h=>h.IsListIter it a i) where
 mem:=by simp
 obj:=fun i h st b hb=>by
  have e:b=it:=by simpa using hb
  subst e
  obtain⟨o,e,c,d⟩:=st
  exact⟨o,e,fun v z=>by rw[d] at z; cases z⟩
 keep:=fun i h h' st k=>st.at fun o e=>k it (by simp) o e
 item:=by
  intro X hP hw hK hc i pins s σ H E I hf st hg
  subst hP hw hK
  obtain⟨xs,x,hq,hx⟩:=hg
  obtain⟨its,rv,p,hz⟩:=I.list hq
  obtain⟨u,hu,ru⟩:=rv.get hx
  obtain⟨f0,f1,f2,f3,f4,f5⟩:=hf it (by simp)
  refine wpAny_pyNext_list_item st p.isList (x:=u) (by simpa using hu) fun h' st' sb=>?_
  have I1:Inv X pins σ H { s with heap:=h' }:=I.turned (t':=s.toks) (fun b o hb e=>(sb.2 b hb).trans e) f0 f1 f3 f4 f5
  obtain⟨o,e,c,d⟩:=id st'
  exact⟨u,rfl,Gi6 (s:={ s with heap:=h' }) e c d (by decide) ⟨x,H,I1,ru,⟨rfl,fun ys hy=>by rw[I.list_inj hy hq]; exact hx⟩,st',fun b hb=>(hf b hb).1⟩⟩
 done:=by
  intro X hP hw hK hc i pins s σ H E I hf st hg
  subst hP hw hK
  obtain⟨xs,hq,hx⟩:=hg
  obtain⟨its,rv,p,hz⟩:=I.list hq
  obtain⟨f0,f1,f2,f3,f4,f5⟩:=hf it (by simp)
  have hl:=rv.length
  exact wpAny_pyNext_list_end (I.ok.hd hc) st p.isList (by simp; omega) fun h' eb=>⟨rfl,I.turned (t':=s.toks) (fun b o hb e=>eb b o hb e) f0 f1 f3 f4 f5⟩
 self:=fun _ _ _ _ _ st h=>wpAny_pyIter_listiter st h
theorem turn_tuple{P:Program}{w:World}{K:PySem.W.Frag}{tg:Expr}(a it:Addr):Turn P w K tg (Itt K a) [it] it (fun i h=>h.IsTupleIter it a i) where
 mem:=by simp
 obj:=fun i h st b hb=>by
  have e:b=it:=by simpa using hb
  subst e
  obtain⟨o,e,c,d⟩:=st
  exact⟨o,e,fun v z=>by rw[d] at z; cases z⟩
 keep:=fun i h h' st k=>st.at fun o e=>k it (by simp) o e
 item:=by
  intro X hP hw hK hc i pins s σ H E I hf st hg
  subst hP hw hK
  obtain⟨xs,x,hq,hx⟩:=hg
  obtain⟨its,rv,p,hz⟩:=I.tuple hq
  obtain⟨u,hu,ru⟩:=rv.get hx
  obtain⟨f0,f1,f2,f3,f4,f5⟩:=hf it (by simp)
  refine wpAny_pyNext_tuple_item st (show s.heap.IsTuple a its.toArray from p) (x:=u) (by simpa using hu) fun h' st' sb=>?_
  have I1:Inv X pins σ H { s with heap:=h' }:=I.turned (t':=s.toks) (fun b o hb e=>(sb.2 b hb).trans e) f0 f1 f3 f4 f5
  obtain⟨o,e,c,d⟩:=id st'
  exact⟨u,rfl,Gi6 (s:={ s with heap:=h' }) e c d (by decide) ⟨x,H,I1,ru,⟨rfl,fun ys hy=>by rw[I.tuple_inj hy hq]; exact hx⟩,st',fun b hb=>(hf b hb).1⟩⟩
 done:=by
  intro X hP hw hK hc i pins s σ H E I hf st hg
  subst hP hw hK
  obtain⟨xs,hq,hx⟩:=hg
  obtain⟨its,rv,p,hz⟩:=I.tuple hq
  obtain⟨f0,f1,f2,f3,f4,f5⟩:=hf it (by simp)
  have hl:=rv.length
  exact wpAny_pyNext_tuple_end (I.ok.hd hc) st (show s.heap.IsTuple a its.toArray from p) (by simp; omega) fun h' eb=>⟨rfl,I.turned (t':=s.toks) (fun b o hb e=>eb b o hb e) f0 f1 f3 f4 f5⟩
 self:=fun _ _ _ _ _ st h=>wpAny_pyIter_tupleiter st h
theorem turn_range{P:Program}{w:World}{K:PySem.W.Frag}{tg:Expr}(it:Addr)(lo:Int)(n:Nat):Turn P w K tg (Itr lo n) [it] it (fun i h=>IsRangeIter h it (lo+(i:Nat)*1) ((n:Int)-(i:Nat)) 1) where
 mem:=by simp
 obj:=fun i h st b hb=>by
  have e:b=it:=by simpa using hb
  subst e
  exact⟨_,st,fun v z=>by
   have z':Data.fields _=Data.cell v:=z
   cases z'⟩
 keep:=fun i h h' st k=>k it (by simp) _ st
 item:=by
  intro X hP hw hK hc i pins s σ H E I hf st hg
  subst hP hw hK
  obtain⟨f0,f1,f2,f3,f4,f5⟩:=hf it (by simp)
  have W:=Walks.range (prog:=X.prog) (w:=X.w) (I.ok.hd hc) it lo 1 n
  refine W.item i s _ _ hg st fun v h' tk hv st' kk=>?_
  obtain⟨t,rfl⟩:=hv
  have I1:Inv X pins σ H { s with heap:=h',toks:=tk }:=I.turned (fun b o hb e=>kk b o (by simpa using hb) e) f0 f1 f3 f4 f5
  refine⟨_,rfl,Gi6 (s:={ s with heap:=h',toks:=tk }) (n:="range_iterator") st' rfl rfl (by decide) ⟨.int (lo+i),H,I1,⟨t,?_⟩,⟨rfl,rfl⟩,st',fun b hb=>(hf b hb).1⟩⟩
  rw[Int.mul_one]
 done:=by
  intro X hP hw hK hc i pins s σ H E I hf st hg
  subst hP hw hK
  obtain⟨f0,f1,f2,f3,f4,f5⟩:=hf it (by simp)
  exact wpAny_pyNext_range_end (I.ok.hd hc) st (by have:n<=i:=hg; omega) fun h' eb=>⟨rfl,I.turned (t':=s.toks) (fun b o hb e=>eb b o hb e) f0 f1 f3 f4 f5⟩
 self:=fun _ _ _ _ _ st h=>wpAny_pyIter_rangeiter st h
section
variable{X:Cx}{tg:Expr}
theorem Ge2{pins:List (Addr×Obj)}{σ:St}{H:Hp}{s:Shared}{R:It->Hp->Prop}{E:Value->Shared->Prop}{lo hi:Int}{t u v:Tok}{tk:Nat}(I:Inv X pins σ H s)(h1 : -(2^62)<=lo)(h2:lo<2^62)(h3 : -(2^62)<=hi)(h4:hi<2^62)
  (q:R (Itr lo (hi-lo).toNat) H):wpAny (model X.prog X.w) X.A (pyIter (.ref s.heap.objs.size)) (PIE X pins σ tg R) E { s with heap:=s.heap.push { cls:=.type "range",data:=.fields #[.int lo t,.int hi u,.int 1 v] },toks:=tk }:=by
 refine wpAny_pyIter_range (IsRange.new ..) (small_one h1 h2 h3 h4) ?_
 have I1:Inv X pins σ H { s with heap:=s.heap.push { cls:=.type "range",data:=.fields #[.int lo t,.int hi u,.int 1 v] },toks:=tk }:=I.kept fun b o e=>Heap.get?_push_of_some _ e
 refine⟨(s.heap.push { cls:=.type "range",data:=.fields #[.int lo t,.int hi u,.int 1 v] }).objs.size,[(s.heap.push { cls:=.type "range",data:=.fields #[.int lo t,.int hi u,.int 1 v] }).objs.size],_,_,H,rfl,
  I1.kept (t':=tk) fun b o e=>Heap.get?_push_of_some _ e,turn_range _ lo (hi-lo).toNat,?_,fun b hb=>?_,q⟩
 ·have e1:lo+((0:Nat):Int)*1=lo:=by simp
  have e2:(((hi-lo).toNat:Nat):Int)-((0:Nat):Int)=Builtin.Range.rangeSize lo hi 1:=by rw[rangeSize_one]; split<;>omega
  show IsRangeIter _ _ (lo+((0:Nat):Int)*1) ((((hi-lo).toNat:Nat):Int)-((0:Nat):Int)) 1
  rw[e1,e2]
  exact Heap.get?_push_size _ rfl
 ·have e:b=(s.heap.push { cls:=.type "range",data:=.fields #[.int lo t,.int hi u,.int 1 v] }).objs.size:=by simpa using hb
  subst e
  exact I1.fpOk (Nat.le_refl _) (I1.hok.fresh (Nat.le_refl _))
def Gve(ta:TA):TI:=fun σ H R=>ta σ H fun vs H1=>∃ j:Int,vs=[.int j] /\ -(2^62)<=j/\j<2^62/\R (Itr 0 j.toNat) H1
def Gvf(ta:TA):TI:=fun σ H R=>ta σ H fun vs H1=>∃ i j:Int,vs=[.int i,.int j]/\(-(2^62)<=i/\i<2^62 /\ -(2^62)<=j/\j<2^62)/\R (Itr i (j-i).toNat) H1
theorem Gh4{a:Expr}{ta:TA}{p pos:Pos}(hg:Gl X "range")(hm:X.mg "range"=none)(ha:PA X [a] ta)(hs:starEach [a] X.env=[(false,eval a X.env)]:=by rfl):PI X tg (.Call (.Name "range" p) [a] [] pos) (Gve ta):=by
 intro pins s σ H R I h
 refine Call_ (Yh I hg hm boot_range (PyProof.Rows.callWith_type1 (thn (ha pos pins s σ H _ I h) fun us s1 ⟨vs,H1,I1,r1,q1⟩=>?_) hs rfl))
 obtain⟨j,e,q1,q2,q⟩:=q1
 subst e
 cases r1 with
 | cons r rr=>
  cases rr
  obtain⟨t,rfl⟩:=r
  exact call_range_1 (Ge2 I1 (by omega) (by omega) q1 q2 (by simpa using q))
theorem Gh5{a b:Expr}{ta:TA}{p pos:Pos}(hg:Gl X "range")(hm:X.mg "range"=none)(ha:PA X [a,b] ta)(hs:starEach [a,b] X.env=[(false,eval a X.env),(false,eval b X.env)]:=by rfl)(hs2:starEach [b] X.env=[(false,eval b X.env)]:=by rfl):
  PI X tg (.Call (.Name "range" p) [a,b] [] pos) (Gvf ta):=by
 intro pins s σ H R I h
 refine Call_ (Yh I hg hm boot_range (PyProof.Rows.callWith_type1 (thn (ha pos pins s σ H _ I h) fun us s1 ⟨vs,H1,I1,r1,q1⟩=>?_) (by rw[hs,hs2]) (by rw[hs2]; rfl)))
 obtain⟨i,j,e,⟨q1,q2,q3,q4⟩,q⟩:=q1
 subst e
 cases r1 with
 | cons r rr=>
  cases rr with
  | cons r' rr=>
   cases rr
   obtain⟨t,rfl⟩:=r
   obtain⟨t',rfl⟩:=r'
   exact call_range_2 (Ge2 I1 q1 q2 q3 q4 q)
def Gyd(wi:TI)(g:TG)(tb:TS):TS:=fun D σ H=>wi σ H fun J H1=>∃ W:Nat->Nat->St->Hp->Prop,(∃ m,W 0 m σ H1)/\∀ i m σ H,W i m σ H→
 (J.stop i H/\D.nx σ H)\/(J.go i H/\∃ N:St->Hp->Prop,(∀ σ' H',N σ' H'->∃ m',m'<m/\W (i+1) m' σ' H')/\∀ x H',J.yld i H x H'->g x σ H' fun σ2 H2=>tb { D with nx:=N,ct:=N,bk:=D.nx } σ2 H2)
def Gbg(fp:List Addr)(h:Heap):List (Addr×Obj):=fp.filterMap fun b=>(h.get? b).map fun o=>(b,o)
theorem Vk{fp:List Addr}{h:Heap}{b:Addr}{o:Obj}(hb:b∈fp)(e:h.get? b=some o):(b,o)∈Gbg fp h:=List.mem_filterMap.mpr ⟨b,hb,by rw[e]; rfl⟩
theorem Gh6{fp:List Addr}{h:Heap}{p:Addr×Obj}(hp:p∈Gbg fp h):p.1∈fp/\h.get? p.1=some p.2:=by
 obtain⟨b,hb,e⟩:=List.mem_filterMap.mp hp
 cases q:h.get? b with
 | none=>rw[q] at e; cases e
 | some o=>
  rw[q] at e
  have e':(b,o)=p:=Option.some.inj e
  subst e'
  exact⟨hb,q⟩
theorem Inv.pinned{pins:List (Addr×Obj)}{σ:St}{H:Hp}{s:Shared}{fp:List Addr}(I:Inv X pins σ H s)(hf:∀ b∈fp,Gcp X pins H b)(ho:∀ b∈fp,∃ o,s.heap.get? b=some o/\∀ v,o.data≠.cell v):Inv X (pins++Gbg fp s.heap) σ H s:=
 I.pins_of fun p hp=>(List.mem_append.mp hp).elim (fun z=>I.pin p (List.mem_append_right _ z)) fun z=>by
  obtain⟨hb,e⟩:=Gh6 z
  obtain⟨f0,f1,f2,_⟩:=hf p.1 hb
  obtain⟨o,e',d⟩:=ho p.1 hb
  rw[e] at e'; cases e'
  exact⟨e,f0,f1,f2,d⟩
theorem Inv.unpinned{pins pl:List (Addr×Obj)}{σ:St}{H:Hp}{s:Shared}(I:Inv X (pins++pl) σ H s):Inv X pins σ H s:=I.pins_of fun p hp=>I.pin p (List.mem_append_right _ (List.mem_append_left _ hp))
theorem Gq1{iter:Expr}{body:List Stmt}{wi:TI}{g:TG}{tb:TS}{pos:Pos}(hp:PassesOwn (model X.prog X.w) X.A X.env X.xe)(hc:X.calm=true)(hi:PI X tg iter wi)(hg:PG X tg g)(hb:PSs X body tb)
  (hs:∀ x,foldedSetIterable iter X.env x=pure x:=by intro _; rfl):PS X (.For tg iter body [] pos) (Gyd wi g tb):=by
 intro pins s σ H D I h
 refine wpAny_For (thn (hi pins s σ H _ I h) fun v s1 h1=>thn h1 fun itv s2 h2=>?_) hs
 obtain⟨it,fp,tn,J,H2,e,I2,T,st2,f2,W,⟨m0,w0⟩,turn⟩:=h2
 subst e
 have stat:∀ {H':Hp},(∀ b∈fp,H' b=none)->∀ b∈fp,Gcp X pins H' b:=fun hn b hb=>⟨hn b hb,(f2 b hb).2⟩
 refine codeAny_forLoop_any (fun n s'=>∃ i σ' H',Inv X pins σ' H' s'/\tn i s'.heap/\(∀ b∈fp,H' b=none)/\W i n σ' H') ?_ m0 ⟨0,σ,H2,I2,st2,fun b hb=>(f2 b hb).1,w0⟩
 rintro n s3 ⟨i,σ3,H3,I3,st3,fr3,w3⟩
 rcases turn i n σ3 H3 w3 with⟨stop,qn⟩ | ⟨go,N,hN,step⟩
 ·refine wpAny_passesOwn hp (thn (T.done X rfl rfl rfl hc i pins s3 σ3 H3 X.xe I3 (stat fr3) st3 stop) fun r s4 ⟨hr,I4⟩=>?_)
  subst hr
  exact wpAny_execs_nil ⟨σ3,H3,I4,qn⟩
 ·refine wpAny_passesOwn hp (thn (T.item X rfl rfl rfl hc i pins s3 σ3 H3 X.xe I3 (stat fr3) st3 go) fun r s4 ⟨u,hr,h4⟩=>?_)
  subst hr
  refine wpAny_passesOwn hp (thn h4 fun _ s5 ⟨x,H5,I5,r5,y5,st5,fr5⟩=>?_)
  have I5':=I5.pinned (stat fr5) (T.obj _ _ st5)
  refine wpAny_passesOwn hp (thn (hg _ s5 σ3 H5 x u _ I5' r5 (step x H5 y5)) fun _ s6 ⟨σ6,H6,I6,q6⟩=>?_)
  refine wpAny_passesOwn hp (thn (hb _ s6 σ6 H6 _ I6 q6) fun f s7 q7=>?_)
  have again:∀ {σ7:St} {H7:Hp},Inv X (pins++Gbg fp s5.heap) σ7 H7 s7->N σ7 H7->∃ m,m<n/\∃ i σ' H',Inv X pins σ' H' s7/\tn i s7.heap/\(∀ b∈fp,H' b=none)/\W i m σ' H':=fun{σ7 H7} I7 n7=>by
   obtain⟨m',hm,w7⟩:=hN σ7 H7 n7
   refine⟨m',hm,i+1,σ7,H7,I7.unpinned,T.keep _ _ _ st5 fun b hb o e=>(I7.pin (b,o) (List.mem_append_right _ (List.mem_append_right _ (Vk hb e)))).1,fun b hb=>?_,w7⟩
   obtain⟨o,e,d⟩:=T.obj _ _ st5 b hb
   exact(I7.pin (b,o) (List.mem_append_right _ (List.mem_append_right _ (Vk hb e)))).2.1
  cases f with
  | next=>obtain⟨σ7,H7,I7,n7⟩:=q7; exact again I7 n7
  | cont=>obtain⟨σ7,H7,I7,n7⟩:=q7; exact again I7 n7
  | brk=>obtain⟨σ7,H7,I7,q7⟩:=q7; exact⟨σ7,H7,I7.unpinned,q7⟩
  | ret v=>obtain⟨x7,σ7,H7,I7,r7,q7⟩:=q7; exact⟨x7,σ7,H7,I7.unpinned,r7,q7⟩
end
abbrev R2:=V->V->Hp->VK->Prop
def OpR(X:Cx)(f:Value->Value->Sem Value)(r:R2):Prop:=
 ∀ (pins:List (Addr×Obj)) (s:Shared) (σ:St) (H:Hp) (x y:V) (v u:Value) (Q:VK),Inv X pins σ H s->He x v->He y u->r x y H Q→
  wpAny (model X.prog X.w) X.A (f v u) (EP X pins σ Q) X.xe s
def UnR(X:Cx)(f:Value->Sem Value)(r:V->Hp->VK->Prop):Prop:=
 ∀ (pins:List (Addr×Obj)) (s:Shared) (σ:St) (H:Hp) (x:V) (v:Value) (Q:VK),Inv X pins σ H s->He x v->r x H Q→
  wpAny (model X.prog X.w) X.A (f v) (EP X pins σ Q) X.xe s
def Wo(X:Cx)(f:Value)(r:List V->Hp->VK->Prop):Prop:=
 ∀ (pins:List (Addr×Obj)) (s:Shared) (σ:St) (H:Hp) (xs:List V) (us:List Value) (Q:VK),Inv X pins σ H s->Vals xs us->r xs H Q→
  wpAny (model X.prog X.w) X.A (call f us) (EP X pins σ Q) X.xe s
def Gye(X:Cx)(r:V->Hp->(Bool->Hp->Prop)->Prop):Prop:=
 ∀ (pins:List (Addr×Obj)) (s:Shared) (σ:St) (H:Hp) (x:V) (v:Value) (Q:Bool->Hp->Prop),Inv X pins σ H s->He x v->r x H Q→
  wpAny (model X.prog X.w) X.A (truthy v) (TP X pins σ Q) X.xe s
def tOp(r:R2)(ta tb:TE):TE:=fun σ H Q=>ta σ H fun x H1=>tb σ H1 fun y H2=>r x y H2 Q
def tUn(r:V->Hp->VK->Prop)(ta:TE):TE:=fun σ H Q=>ta σ H fun x H1=>r x H1 Q
def rI(C:Int->Int->Prop)(g:Int->Int->V):R2:=fun x y H Q=>∃ i j,x=.int i/\y=.int j/\C i j/\Q (g i j) H
def rI0(g:Int->Int->V):R2:=fun x y H Q=>∃ i j,x=.int i/\y=.int j/\Q (g i j) H
def rU(g:Int->V):V->Hp->VK->Prop:=fun x H Q=>∃ i,x=.int i/\Q (g i) H
section
variable{X:Cx}{a b c:Expr}{ta tb tc:TE}{pos:Pos}
theorem Gq2(ha:PE X a ta)(hb:PE X b tb){pins:List (Addr×Obj)}{s:Shared}{σ:St}{H:Hp}{R:V->V->Hp->Prop}(I:Inv X pins σ H s)
  (h:ta σ H fun x H1=>tb σ H1 fun y H2=>R x y H2) {Q:Value->Shared->Prop} {f:Value->Value->Sem Value}
  (hf:∀ v u s2 x y H2,Inv X pins σ H2 s2->He x v->He y u->R x y H2->wpAny (model X.prog X.w) X.A (f v u) Q X.xe s2):
  wpAny (model X.prog X.w) X.A (eval a X.env) (fun v s₁=>wpAny (model X.prog X.w) X.A (eval b X.env) (fun u s₂=>wpAny (model X.prog X.w) X.A (f v u) Q X.xe s₂) X.xe s₁) X.xe s:=by
 refine thn (ha pins s σ H _ I h) fun v s1 ⟨x,H1,I1,r1,q1⟩=>?_
 refine thn (hb pins s1 σ H1 _ I1 q1) fun u s2 ⟨y,H2,I2,r2,q2⟩=>?_
 exact hf v u s2 x y H2 I2 r1 r2 q2
theorem Gvg{op:Operator}{r:R2}(ho:OpR X (binaryOp op) r)(ha:PE X a ta)(hb:PE X b tb):PE X (.BinOp a op b pos) (tOp r ta tb):=by
 intro pins s σ H Q I h
 exact wpAny_BinOp (Gq2 ha hb I h fun v u s2 x y H2 I2 rx ry q=>ho pins s2 σ H2 x y v u Q I2 rx ry q)
theorem Gvh{op:UnaryOp}{r:V->Hp->VK->Prop}(ho:UnR X (unaryOp op) r)(ha:PE X a ta):PE X (.UnaryOp op a pos) (tUn r ta):=by
 intro pins s σ H Q I h
 exact UnaryOp_ (thn (ha pins s σ H _ I h) fun v s1 ⟨x,H1,I1,r1,q1⟩=>ho pins s1 σ H1 x v Q I1 r1 q1)
theorem opI{f:Value->Value->Sem Value}{C:Int->Int->Prop}{g:Int->Int->Int}
  (rule:∀ (i j:Int) (t u:Tok) (s:Shared) (Q:Value->Shared->Prop) (E:Value->Shared->Prop),C i j->Q (.int (g i j) s.toks) { s with toks:=s.toks+1 }->wpAny (model X.prog X.w) X.A (f (.int i t) (.int j u)) Q E s):
  OpR X f (rI C fun i j=>.int (g i j)):=by
 intro pins s σ H x y v u Q I rx ry h
 obtain⟨i,j,rfl,rfl,hc,q⟩:=h
 obtain⟨t,rfl⟩:=rx
 obtain⟨t',rfl⟩:=ry
 exact rule i j t t' s _ _ hc ⟨.int (g i j),H,I.tok _,⟨_,rfl⟩,q⟩
theorem opI0{f:Value->Value->Sem Value}{g:Int->Int->Int}
  (rule:∀ (i j:Int) (t u:Tok) (s:Shared) (Q:Value->Shared->Prop) (E:Value->Shared->Prop),Q (.int (g i j) s.toks) { s with toks:=s.toks+1 }->wpAny (model X.prog X.w) X.A (f (.int i t) (.int j u)) Q E s):
  OpR X f (rI0 fun i j=>.int (g i j)):=by
 intro pins s σ H x y v u Q I rx ry h
 obtain⟨i,j,rfl,rfl,q⟩:=h
 obtain⟨t,rfl⟩:=rx
 obtain⟨t',rfl⟩:=ry
 exact rule i j t t' s _ _ ⟨.int (g i j),H,I.tok _,⟨_,rfl⟩,q⟩
theorem opB0{f:Value->Value->Sem Value}{g:Int->Int->Bool}
  (rule:∀ (i j:Int) (t u:Tok) (s:Shared) (Q:Value->Shared->Prop) (E:Value->Shared->Prop),Q (.bool (g i j)) s->wpAny (model X.prog X.w) X.A (f (.int i t) (.int j u)) Q E s):
  OpR X f (rI0 fun i j=>.bl (g i j)):=by
 intro pins s σ H x y v u Q I rx ry h
 obtain⟨i,j,rfl,rfl,q⟩:=h
 obtain⟨t,rfl⟩:=rx
 obtain⟨t',rfl⟩:=ry
 exact rule i j t t' s _ _ ⟨.bl (g i j),H,I,rfl,q⟩
def Gyf(i j:Int):Prop:=0<=j/\j<=1000000/\i.natAbs<2^64
def CMul(i j:Int):Prop:=(-(2^64)<i/\i<2^64)\/(-(2^64)<j/\j<2^64)
theorem CMul.ok{i j:Int}(h:CMul i j):IntMulOk i j:=by
 rcases h with⟨h1,h2⟩ | ⟨h1,h2⟩
 ·exact .of_left (intBits_le_64 h1 h2)
 ·exact .of_right (intBits_le_64 h1 h2)
theorem Gq3:OpR X (binaryOp .Add) (rI0 fun i j=>.int (i+j)):=opI0 fun _ _ _ _ _ _ _ q=>add_int q
theorem Gq4:OpR X (binaryOp .Sub) (rI0 fun i j=>.int (i-j)):=opI0 fun _ _ _ _ _ _ _ q=>sub_int q
theorem Gq5:OpR X (binaryOp .Mult) (rI CMul fun i j=>.int (i*j)):=opI fun _ _ _ _ _ _ _ hc q=>mul_int q hc.ok
theorem Gq6:OpR X (binaryOp .Mod) (rI (fun _ j=>0<j) fun i j=>.int (i%j)):=opI fun i j _ _ _ _ _ hc q=>by
 have h1:(0:Int)<j:=hc
 exact mod_int' (by omega) (by rw[Int.fmod_eq_emod_of_nonneg i (by omega)]; exact q)
theorem Gq7:OpR X (binaryOp .Pow) (rI Gyf fun i j=>.int (i^j.toNat)):=opI fun _ _ _ _ _ _ _ hc q=>pow_int_small hc.1 hc.2.1 hc.2.2 q
theorem unI{f:Value->Sem Value}{g:Int->Int}
  (rule:∀ (i:Int) (t:Tok) (s:Shared) (Q:Value->Shared->Prop) (E:Value->Shared->Prop),Q (.int (g i) s.toks) { s with toks:=s.toks+1 }->wpAny (model X.prog X.w) X.A (f (.int i t)) Q E s):
  UnR X f (rU fun i=>.int (g i)):=by
 intro pins s σ H x v Q I rx h
 obtain⟨i,rfl,q⟩:=h
 obtain⟨t,rfl⟩:=rx
 exact rule i t s _ _ ⟨.int (g i),H,I.tok _,⟨_,rfl⟩,q⟩
theorem Gq8:UnR X (unaryOp .USub) (rU fun i=>.int (-i)):=unI fun _ _ _ _ _ q=>neg_int q
end
section
variable{X:Cx}{a b c:Expr}{ta tb tc:TE}{pos:Pos}
theorem Gi7{pins:List (Addr×Obj)}{σ:St}{H:Hp}{s:Shared}{Q:VK}{k k':Bool}(I:Inv X pins σ H s)(q:Q (.bl k) H)(e:k=k'):EP X pins σ Q (.bool k') s:=by
 subst e
 exact⟨.bl k,H,I,rfl,q⟩
theorem Gg6:OpR X (compareOp .Lt) (rI0 fun i j=>.bl (decide (i<j))):=opB0 fun _ _ _ _ _ _ _ q=>lt_int q
theorem Gi8:OpR X (compareOp .LtE) (rI0 fun i j=>.bl (decide (i<=j))):=opB0 fun _ _ _ _ _ _ _ q=>le_int q
theorem Gvi:OpR X (compareOp .Gt) (rI0 fun i j=>.bl (decide (j<i))):=opB0 fun _ _ _ _ _ _ _ q=>gt_int q
theorem Gvj:OpR X (compareOp .GtE) (rI0 fun i j=>.bl (decide (j<=i))):=opB0 fun _ _ _ _ _ _ _ q=>ge_int q
theorem Gi9:OpR X (compareOp .Is) (fun x y H Q=>y=.non/\Q (.bl (decide (x=.non))) H):=by
 intro pins s σ H x y v u Q I rx ry h
 obtain⟨rfl,q⟩:=h
 cases ry
 refine is_none_gen (Gi7 I q ?_)
 cases x<;>first
  | (cases rx; rfl)
  | (obtain⟨t,rfl⟩:=rx; rfl)
theorem Gmj:OpR X (compareOp .IsNot) (fun x y H Q=>y=.non/\Q (.bl (!decide (x=.non))) H):=by
 intro pins s σ H x y v u Q I rx ry h
 obtain⟨rfl,q⟩:=h
 cases ry
 refine isnot_none_gen (Gi7 I q ?_)
 cases x<;>first
  | (cases rx; rfl)
  | (obtain⟨t,rfl⟩:=rx; rfl)
theorem OpR.or{f:Value->Value->Sem Value}{r r':R2}(h:OpR X f r)(h':OpR X f r'):OpR X f (fun x y H Q=>r x y H Q\/r' x y H Q):=by
 intro pins s σ H x y v u Q I rx ry q
 rcases q with q | q
 ·exact h pins s σ H x y v u Q I rx ry q
 ·exact h' pins s σ H x y v u Q I rx ry q
theorem nomark(b:Expr){op:CmpOp}(h:op≠.In:=by decide)(h2:op≠.NotIn:=by decide):behindInMarks op b=false:=by
 have e1:(op==CmpOp.In)=false:=by cases op<;>first | rfl | exact absurd rfl h
 have e2:(op==CmpOp.NotIn)=false:=by cases op<;>first | rfl | exact absurd rfl h2
 cases b<;>simp[behindInMarks,e1,e2]
theorem Gmk{op:CmpOp}{r:R2}(ho:OpR X (compareOp op) r)(ha:PE X a ta)(hb:PE X b tb)(hm:behindInMarks op b=false):PE X (.Compare a [op] [b] pos) (tOp r ta tb):=by
 intro pins s σ H Q I h
 exact wpAny_Compare1 (Gq2 ha hb I h fun v u s2 x y H2 I2 rx ry q=>ho pins s2 σ H2 x y v u Q I2 rx ry q) hm
def Gpe(t:TE):TT:=fun σ H Q=>t σ H fun x H'=>∃ k,x=.bl k/\Q k H'
theorem Gml{op:CmpOp}{r:R2}(ho:OpR X (compareOp op) r)(ha:PE X a ta)(hb:PE X b tb)(hm:behindInMarks op b=false):PT X (.Compare a [op] [b] pos) (Gpe (tOp r ta tb)):=by
 intro pins s σ H Q I h
 refine wpAny_isTrue_Compare1 (thn (ha pins s σ H _ I h) fun v s1 ⟨x,H1,I1,r1,q1⟩=>thn (hb pins s1 σ H1 _ I1 q1) fun u s2 ⟨y,H2,I2,r2,q2⟩=>
  thn (ho pins s2 σ H2 x y v u _ I2 r1 r2 q2) fun c s3 ⟨z,H3,I3,r3,k,e,q3⟩=>?_) hm
 subst e
 cases r3
 exact wpAny_truthy_bool ⟨H3,I3,q3⟩
def Gja(r r':R2)(ta tb tc:TE):TE:=fun σ H Q=>ta σ H fun x H1=>tb σ H1 fun y H2=>r x y H2 fun z H3=>∃ k,z=.bl k∧
 (if k=true then tc σ H3 fun w' H4=>r' y w' H4 Q else Q (.bl false) H3)
theorem Gjb{op op':CmpOp}{r r':R2}(ho:OpR X (compareOp op) r)(ho':OpR X (compareOp op') r')(ha:PE X a ta)(hb:PE X b tb)(hc:PE X c tc)
  (hm:lastMarks [op,op'] [b,c]=false:=by with_unfolding_all rfl):PT X (.Compare a [op,op'] [b,c] pos) (Gpe (Gja r r' ta tb tc)):=by
 intro pins s σ H Q I h
 refine isTrue_chain (thn (ha pins s σ H _ I h) fun v s1 ⟨x,H1,I1,r1,q1⟩=>test_link (thn (hb pins s1 σ H1 _ I1 q1) fun u s2 ⟨y,H2,I2,r2,q2⟩=>
  thn (ho pins s2 σ H2 x y v u _ I2 r1 r2 q2) fun d s3 ⟨z,H3,I3,r3,k,e,q3⟩=>?_)) hm
 subst e
 cases r3
 refine wpAny_truthy_bool ?_
 cases k with
 | false=>
  obtain⟨k',e',q'⟩:=q3
  cases e'
  exact ite_ff ⟨H3,I3,q'⟩
 | true=>
  refine ite_tt (test_last (thn (hc pins s3 σ H3 _ I3 q3) fun w' s4 ⟨z',H4,I4,r4,q4⟩=>thn (ho' pins s4 σ H4 y z' u w' _ I4 r2 r4 q4) fun d' s5 ⟨z2,H5,I5,r5,k2,e2,q5⟩=>?_))
  subst e2
  cases r5
  exact wpAny_truthy_bool ⟨H5,I5,q5⟩
def Gq9(K:PySem.W.Frag)(x:V)(H:Hp)(k:Bool):Prop:=
 match x with
 | .non=>k=false
 | .bl b=>k=b
 | .int i=>k=(i != 0)
 | .str y=>y.length<=sizeLine/\k=((y.length:Int) != 0)
 | .byt y=>y.size<=sizeLine/\k=((y.size:Int) != 0)
 | .ref p=>(∃ xs,SqL K H p xs/\k=!xs.isEmpty)\/(∃ xs,SqT K H p xs/\k=!xs.isEmpty)\/∃ kvs,H p=some (.dK kvs)/\k=!kvs.isEmpty
 | _=>False
theorem Gf5{κ:Type}{kvs:List (κ×V)}{vs:List (κ×Value)}(r:KV kvs vs):(!vs.isEmpty)=!kvs.isEmpty:=by
 cases r<;>rfl
theorem Gbh{xs:List V}{its:List Value}(r:Vals xs its):(!its.toArray.isEmpty)=!xs.isEmpty:=by
 cases r<;>simp
theorem Zk:(sizeLine:Nat)<2^63:=by rw[sizeLine_eq]; decide
theorem Gra:Gye X (fun x H Q=>∃ k,Gq9 X.K x H k/\Q k H):=by
 intro pins s σ H x v Q I rx h
 obtain⟨k,e,q⟩:=h
 have hl:=Zk
 have hs:sizeLine=16777216:=sizeLine_eq
 cases x with
 | non=>
  cases rx
  have e':k=false:=e
  subst e'
  exact truthy_none ⟨H,I,q⟩
 | bl b=>
  cases rx
  have e':k=b:=e
  subst e'
  exact wpAny_truthy_bool ⟨H,I,q⟩
 | int i=>
  obtain⟨t,rfl⟩:=rx
  have e':k=(i != 0):=e
  subst e'
  exact PySem.P.truthy_int ⟨H,I,q⟩
 | str y=>
  obtain⟨t,rfl⟩:=rx
  obtain⟨hy,e'⟩:y.length<=sizeLine/\k=((y.length:Int) != 0):=e
  subst e'
  exact PySem.P.truthy_str (by omega) ⟨H,I.tok _,q⟩
 | byt y=>
  obtain⟨t,rfl⟩:=rx
  obtain⟨hy,e'⟩:y.size<=sizeLine/\k=((y.size:Int) != 0):=e
  subst e'
  exact PySem.W.truthy_bytes (by omega) ⟨H,I.tok _,q⟩
 | ref p=>
  cases rx
  have e':(∃ xs,SqL X.K H p xs/\k=!xs.isEmpty)\/(∃ xs,SqT X.K H p xs/\k=!xs.isEmpty)\/∃ kvs,H p=some (.dK kvs)/\k=!kvs.isEmpty:=e
  rcases e' with⟨xs,hx,e'⟩ | ⟨xs,hx,e'⟩ | ⟨kvs,hx,e'⟩
  ·subst e'
   obtain⟨its,r,pl,hz⟩:=I.list hx
   have hlen:=r.length
   exact wpAny_truthy_list pl.isList (by simp only[List.size_toArray]; omega) ⟨H,I.tok _,by rw[Gbh r]; exact q⟩
  ·subst e'
   obtain⟨its,r,pl,hz⟩:=I.tuple hx
   have hlen:=r.length
   exact truthy_tuple pl (by simp only[List.size_toArray]; omega) ⟨H,I.tok _,by rw[Gbh r]; exact q⟩
  ·subst e'
   obtain⟨hz,hS,vs,r,m⟩:kvs.length<=sizeLine/\(p==sysModules)=false/\∃ vs,KV kvs vs/\s.heap.DictOf (Gg2 X.prog X.w) p vs:=I.hok p _ hx
   have hlen:kvs.length=vs.length:=Paired.length r
   exact wpAny_truthy_dict hS m (by omega) ⟨H,I.tok _,by rw[Gf5 r]; exact q⟩
 | _=>exact(show False from e).elim
theorem Gjc(ha:PE X a ta)(he:∀ whole,isTrue a X.env whole=(do let v <- whole; standAt a.pos; holding [v] (truthy v))):
  PT X a (fun σ H Q=>ta σ H fun x H'=>∃ k,Gq9 X.K x H' k/\Q k H'):=by
 intro pins s σ H Q I h
 exact isTrue_plain (thn (ha pins s σ H _ I h) fun v s1 ⟨x,H1,I1,r1,q1⟩=>Gra pins s1 σ H1 x v Q I1 r1 q1) (he _)
theorem Gf6:OpR X (binaryOp .Add) (fun x y H Q=>∃ i j,x=.str i/\y=.str j/\i.length+j.length<=sizeLine/\Q (.str (i++j)) H):=by
 intro pins s σ H x y v u Q I rx ry h
 obtain⟨i,j,rfl,rfl,hz,q⟩:=h
 obtain⟨t,rfl⟩:=rx
 obtain⟨t',rfl⟩:=ry
 exact add_str (fun t' tk=>⟨.str (i++j),H,I.tok _,⟨_,rfl⟩,q⟩) hz
theorem Ge3{x:V}{us:List Value}(r:Vals [x] us):∃ u,us=[u]/\He x u:=by
 cases r with
 | cons r1 r2=>cases r2; exact⟨_,rfl,r1⟩
theorem Gpf{x y:V}{us:List Value}(r:Vals [x,y] us):∃ u w',us=[u,w']/\He x u/\He y w':=by
 cases r with
 | cons r1 r2=>
  cases r2 with
  | cons r3 r4=>cases r4; exact⟨_,_,rfl,r1,r3⟩
theorem Gh7(hc:X.calm=true):Wo X (.builtin "max") (fun xs H Q=>∃ i j,xs=[.int i,.int j]/\Q (.int (if j>i then j else i)) H):=by
 intro pins s σ H xs us Q I r h
 obtain⟨i,j,rfl,q⟩:=h
 obtain⟨u,w',rfl,⟨t,rfl⟩,⟨t',rfl⟩⟩:=Gpf r
 refine max_two_ints (I.ok.hd hc) fun h' tk k=>⟨_,H,I.kept k,?_,q⟩
 by_cases hj:j>i
 ·rw[if_pos hj,if_pos hj]; exact⟨_,rfl⟩
 ·rw[if_neg hj,if_neg hj]; exact⟨_,rfl⟩
def Gvk(K:PySem.W.Frag)(x:V)(H:Hp)(n:Nat):Prop:=
 match x with
 | .str y=>y.length<=sizeLine/\n=y.length
 | .byt y=>y.size<=sizeLine/\n=y.size
 | .ref p=>(∃ xs,SqL K H p xs/\n=xs.length)\/∃ xs,SqT K H p xs/\n=xs.length
 | _=>False
theorem Gjd:Wo X (.builtin "len") (fun xs H Q=>∃ x n,xs=[x]/\Gvk X.K x H n/\Q (.int n) H):=by
 intro pins s σ H xs us Q I r h
 obtain⟨x,n,rfl,e,q⟩:=h
 obtain⟨u,rfl,rx⟩:=Ge3 r
 have hl:=Zk
 have hs:sizeLine=16777216:=sizeLine_eq
 cases x with
 | str y=>
  obtain⟨t,rfl⟩:=rx
  obtain⟨hy,e'⟩:y.length<=sizeLine/\n=y.length:=e
  subst e'
  exact len_str (by omega) ⟨.int _,H,I.tok _,⟨_,rfl⟩,q⟩
 | byt y=>
  obtain⟨t,rfl⟩:=rx
  obtain⟨hy,e'⟩:y.size<=sizeLine/\n=y.size:=e
  subst e'
  exact PySem.W.len_bytes (by omega) ⟨.int _,H,I.tok _,⟨_,rfl⟩,q⟩
 | ref p=>
  cases rx
  have e':(∃ xs,SqL X.K H p xs/\n=xs.length)\/∃ xs,SqT X.K H p xs/\n=xs.length:=e
  rcases e' with⟨xs,hx,e'⟩ | ⟨xs,hx,e'⟩
  ·subst e'
   obtain⟨its,r',pl,hz⟩:=I.list hx
   have hlen:=r'.length
   exact Calls.call_len_list pl.isList (by simp only[List.size_toArray]; omega) ⟨.int xs.length,H,I.tok _,⟨_,by simp only[List.size_toArray]; rw[hlen]⟩,q⟩
  ·subst e'
   obtain⟨its,r',pl,hz⟩:=I.tuple hx
   have hlen:=r'.length
   exact len_tuple pl (by simp only[List.size_toArray]; omega) ⟨.int xs.length,H,I.tok _,⟨_,by simp only[List.size_toArray]; rw[hlen]⟩,q⟩
 | _=>exact(show False from e).elim
end
structure ObjM(h:Heap)(x dx C:Addr)(mA:Str->Option Value):Prop where
 obj:h.get? x=some (PySem.W.instObj C dx)
 ns:h.Ns1 dx mA
 ne:dx≠x
theorem Gf2.some_of{v:V}{o:Option Value}(r:Gf2 (some v) o):∃ u,o=some u/\He v u:=by
 cases o with
 | none=>exact(show False from r).elim
 | some u=>exact⟨u,rfl,r⟩
structure Cls(K:PySem.W.Frag)(C:Addr):Prop where
 pg:PySem.W.plainGet K C Str.empty=true
 hd:PySem.W.hasDictIn K C=true
 po:PySem.W.plainOver K C=true
 sa:PySem.W.findIn K (.ref C) "__setattr__"=some (some (.builtin "object.__setattr__"))
structure Con(K:PySem.W.Frag)(C:Addr)(f:Str)(v:V)(u:Value):Prop where
 at_:PySem.W.findIn K (.ref C) f=some (some u)
 rel:He v u
 get:PySem.W.specialIn K u "__get__"=some none
 cp:PySem.W.copiedNames.contains f=false
structure Meth(K:PySem.W.Frag)(C:Addr)(m:Str)(f:Addr):Prop where
 at_:PySem.W.findIn K (.ref C) m=some (some (.ref f))
 fn:PySem.W.isFn K (.ref f)=true
 kp:PySem.W.keepIn K (.ref f)=true
section
variable{X:Cx}{pins:List (Addr×Obj)}{σ:St}{H:Hp}{s:Shared}{A:Around}{E:Value->Shared->Prop}{Q:Value->Shared->Prop}{c:Value}{b:Bool}
inductive TyOf(K:PySem.W.Frag)(H:Hp):V->Value->Prop where
 | non:TyOf K H .non (.type "NoneType")
 | bl (x:Bool):TyOf K H (.bl x) (.type "bool")
 | int (i:Int):TyOf K H (.int i) (.type "int")
 | str (x:Str):TyOf K H (.str x) (.type "str")
 | flt (x:UInt64):TyOf K H (.flt x) (.type "float")
 | lst {a:Addr} {xs:List V} (e:H a=some (.lst xs)):TyOf K H (.ref a) (.type "list")
 | frz {a:Addr} {o:Obj} {xs:List V} (e:H a=some (.frz o (.lst xs))):TyOf K H (.ref a) (.type "list")
 | tup {a:Addr} {xs:List V} (e:H a=some (.tup xs)):TyOf K H (.ref a) (.type "tuple")
 | dK {a:Addr} {kvs:List (Key×V)} (e:H a=some (.dK kvs)):TyOf K H (.ref a) (.type "dict")
 | dT {a:Addr} {kvs:List (NK×Addr×V)} (e:H a=some (.dT kvs)):TyOf K H (.ref a) (.type "dict")
 | ins {a C dx:Addr} {fs:List (Str×V)} (e:H a=some (.ins C dx fs)) (cl:Cls K C) (ha:PySem.W.findIn K (.ref C) "__class__"=some (some (.builtin "object.__class__")))
   (hn:PySem.W.specialIn K (.builtin "object.__class__") "__get__"=some (some (.builtin "getset_descriptor.__get__"))) (htk:PySem.W.takesIn K (.builtin "object.__class__")=some true)
   (hm:PySem.W.mroIn K C (.type "object")=some true):TyOf K H (.ref a) (.ref C)
end
structure Room(k:Nat)(A:Around):Prop where
 hd:A.handled=none
 dp:A.depth+3*k+5<recursionLimit
 un:A.units+16*k+200<cLine
 gd:A.guards=some []
theorem Room.mono{j k:Nat}{A:Around}(r:Room k A)(h:j<=k):Room j A:=⟨r.hd,by have:=r.dp; omega,by have:=r.un; omega,r.gd⟩
theorem Room.deeper{k:Nat}{A:Around}(r:Room (k+1) A)(env:Env):Room k (A.deeper env):=
 ⟨r.hd,by have:=r.dp; show A.depth+1+3*k+5<_; omega,by have:=r.un; show A.units+3+16*k+200<_; omega,by first | exact r.gd | (simpa[Around.deeper] using r.gd)⟩
theorem Gf7{A:Around}{C:Addr}{us:List Value}{kw:List (Str×Value)}:(A.under (.builtin "type.__call__" ⟨.ref C::us,kw⟩)).depth=A.depth+1:=by
 first | rfl | simp[Around.under,Code.weight,Code.isCreation,Code.isGuard,Code.isCaller,Code.frames,Code.isFrame,guardIds]
theorem Gf8{A:Around}{C:Addr}{us:List Value}{kw:List (Str×Value)}:(A.under (.builtin "type.__call__" ⟨.ref C::us,kw⟩)).units=A.units+1:=by
 first | rfl | simp[Around.under,Code.cUnits,Code.frames,Code.isFrame]
theorem Room.make{k:Nat}{A:Around}(r:Room (k+1) A)(C:Addr)(us:List Value)(kw:List (Str×Value)):Room k (A.under (.builtin "type.__call__" ⟨.ref C::us,kw⟩)):=
 ⟨r.hd,by have:=r.dp; rw[Gf7]; omega,by have:=r.un; rw[Gf8]; omega,by first | exact r.gd | (simpa[Around.under,pushGuards,Code.guards,Code.isGuard,guardIds] using r.gd)⟩
theorem Room.depth{k:Nat}{A:Around}(r:Room k A):A.depth<recursionLimit:=by have:=r.dp; omega
theorem Room.units{k:Nat}{A:Around}(r:Room k A):A.units+64<cLine:=by have:=r.un; omega
def Gvl:TA:=fun _ H Q=>Q [] H
def Gje(ta:TE)(tr:TA):TA:=fun σ H Q=>ta σ H fun x H1=>tr σ H1 fun xs H2=>Q (x::xs) H2
section
variable{X:Cx}{e:Expr}{es:List Expr}{te:TE}{t:TA}{pos:Pos}
theorem Gf9:PA X [] Gvl:=fun _ _ _ _ H Q I h=>Calls.spliced_nil ⟨[],H,I,.nil,h⟩
theorem Yo(ha:PE X e te)(hr:PA X es t)(hs:starEach (e::es) X.env=(false,eval e X.env)::starEach es X.env:=by rfl):PA X (e::es) (Gje te t):=by
 intro pos pins s σ H Q I h
 rw[hs]
 show wpAny _ _ (spliced ((false,eval e X.env)::backTo pos (starEach es X.env))) _ _ s
 refine Calls.spliced_cons (thn (ha pins s σ H _ I h) fun u s1 ⟨x,H1,I1,r1,q1⟩=>?_)
 exact thn (hr pos pins s1 σ H1 _ I1 q1) fun us s2 ⟨xs,H2,I2,r2,q2⟩=>⟨x::xs,H2,I2,.cons r1 r2,q2⟩
def Gyg(t:TA):TE:=fun σ H Q=>t σ H fun xs H1=>xs.length<=sizeLine/\∀ p,H1 p=none->Q (.ref p) (upd H1 p (.tup xs))
def Gyh(t:TA):TE:=fun σ H Q=>t σ H fun xs H1=>xs.length<=sizeLine/\∀ p,H1 p=none->Q (.ref p) (upd H1 p (.lst xs))
theorem Grb{x1}(h:PA X es t):PE X (.Tuple es x1 pos) (Gyg t):=by
 intro pins s σ H Q I hq
 refine wpAny_Tuple_spliced (thn (h pos pins s σ H _ I hq) fun us s1 ⟨xs,H1,I1,r,z,q⟩=>⟨by rw[<- r.length]; exact z,?_⟩)
 have hf:H1 s1.heap.objs.size=none:=I1.hok.fresh (Nat.le_refl _)
 refine⟨.ref s1.heap.objs.size,upd H1 s1.heap.objs.size (.tup xs),I1.laid (t':=s1.toks) (fun b u e=>Heap.get?_push_of_some _ e) (Nat.le_refl _) ?_,rfl,q _ hf⟩
 exact⟨z,us,r,⟨_,Heap.get?_push_size _ rfl,rfl,_,rfl⟩⟩
theorem Grc(h:PA X es t):PE X (.List es pos) (Gyh t):=by
 intro pins s σ H Q I hq
 refine wpAny_List_spliced (thn (h pos pins s σ H _ I hq) fun us s1 ⟨xs,H1,I1,r,z,q⟩=>⟨by rw[<- r.length]; exact z,?_⟩)
 have hf:H1 s1.heap.objs.size=none:=I1.hok.fresh (Nat.le_refl _)
 refine⟨.ref s1.heap.objs.size,upd H1 s1.heap.objs.size (.lst xs),I1.laid (t':=s1.toks) (fun b u e=>Heap.get?_push_of_some _ e) (Nat.le_refl _) ?_,rfl,q _ hf⟩
 exact⟨z,us,0,r,Heap.get?_push_size _ rfl⟩
end
abbrev Sp:=List V->Hp->VK->XK->Prop
abbrev CXT:=List Env->Hp->Shared->XK->Value->Shared->Prop
structure Env0(P:Program)(w:World)(K:PySem.W.Frag)(mg:Str->Option Value)(base:Heap)(A:Around)(outer:List Env)(s:Shared)(H:Hp):Prop where
 frames:A.frames=some outer
 mod:Mod K mg base
 bs:∀ b o,base.get? b=some o->s.heap.get? b=some o/\H b=none
 bsz:base.objs.size<=s.heap.objs.size
 funs:s.heap.FunFrames base outer
 frf:∀ b∈frs outer,H b=none
 hok:HOk P w H s.heap
 bare:AllBare s.gens
def CE(outer:List Env)(P:Program)(w:World)(H:Hp)(s:Shared)(Q:VK)(u:Value)(s':Shared):Prop:=
 ∃ v H',s'.os=s.os/\AllBare s'.gens/\Un (frs outer) [] H H' s.heap s'.heap/\HOk P w H' s'.heap/\He v u/\Q v H'
def CR(CX:CXT)(outer:List Env)(P:Program)(w:World)(H:Hp)(s:Shared)(Q:VK)(E:XK)(r:Result)(s':Shared):Prop:=
 match r with
 | .ok (.ret u)=>CE outer P w H s Q u s'
 | .ok _=>False
 | .error e=>CX outer H s E e s'
structure FnOk(P:Program)(w:World)(K:PySem.W.Frag)(mg:Str->Option Value)(base:Heap)(CX:CXT)(k:Nat)(f:Addr)(fd:FuncData)(ps:List Str)(sp:Sp):Prop where
 len:∀ vs H Q E,sp vs H Q E->vs.length=ps.length
 run:∀ (A:Around) (outer:List Env) (s:Shared) (H:Hp) (args:Args) (us:List Value) (vs:List V) (Q:VK) (E:XK),Room k A->Env0 P w K mg base A outer s H->BindsTo s fd args (ps.zip us)->Vals vs us->sp vs H Q E→
  codeAny (model P w) A (.call (.ref f) args) (CR CX outer P w H s Q E) s
theorem FnOk.mono{P:Program}{w:World}{K:PySem.W.Frag}{mg:Str->Option Value}{base:Heap}{CX:CXT}{j k:Nat}{f:Addr}{fd:FuncData}{ps:List Str}{sp:Sp}(F:FnOk P w K mg base CX j f fd ps sp)(h:j<=k):
  FnOk P w K mg base CX k f fd ps sp:=⟨F.len,fun A outer s H args us vs Q E hr=>F.run A outer s H args us vs Q E (hr.mono h)⟩
theorem Env0.make{P:Program}{w:World}{K:PySem.W.Frag}{mg:Str->Option Value}{base:Heap}{A:Around}{outer:List Env}{s:Shared}{H:Hp}(e:Env0 P w K mg base A outer s H)(C:Addr)(us:List Value)(kw:List (Str×Value)):
  Env0 P w K mg base (A.under (.builtin "type.__call__" ⟨.ref C::us,kw⟩)) outer s H:=⟨by first | exact e.frames | (simpa[Around.under,Code.envs,Code.isFrame,pushEnvs] using e.frames),e.mod,e.bs,e.bsz,e.funs,e.frf,e.hok,e.bare⟩
section
variable{X:Cx}{pins:List (Addr×Obj)}{σ:St}{H:Hp}{s s':Shared}
theorem Inv.env0(I:Inv X pins σ H s):Env0 X.prog X.w X.K X.mg X.base X.A X.stack s H:=
 ⟨I.ok.frames,I.ok.mod,I.bs,Nat.le_trans I.ok.bsz I.sz,I.stack,I.stkFree,I.hok,I.bare⟩
theorem Inv.after{Q:VK}{u:Value}(I:Inv X pins σ H s)(h:CE X.stack X.prog X.w H s Q u s'):EP X pins σ Q u s':=by
 obtain⟨v,H',os,bare,un,hok,r,q⟩:=h
 obtain⟨hh,g,d,t,os'⟩:=s'
 obtain rfl:os'=s.os:=os
 exact⟨v,H',I.call (h':=hh) (g':=g) (d':=d) (t':=t) (ch:=[]) un hok bare (fun b z=>absurd z (by simp)),r,q⟩
end
def Gvm(sp:Sp)(dvs:List V)(E:XK)(t:TA):TE:=fun σ H Q=>t σ H fun vs H1=>sp (vs++dvs) H1 Q E
def Binds(K:PySem.W.Frag)(fd:FuncData)(ps:List Str)(ds:List Value):Prop:=
 ∀ (s:Shared) (us:List Value),K.In s.heap->(us++ds).length=ps.length->BindsTo s fd ⟨us,[]⟩ (ps.zip (us++ds))
theorem Binds.all{K:PySem.W.Frag}{fd:FuncData}{ps:List Str}(h:∀ us:List Value,us.length=ps.length->bindArgs fd ⟨us,[]⟩=pure (ps.zip us)):Binds K fd ps []:=fun s us _ hl=>by
 rw[List.append_nil] at hl ⊢
 exact .of_eq (h us hl)
def Passes(CX:CXT)(X:Cx)(E:XK):Prop:=∀ (pins:List (Addr×Obj)) (σ:St) (H:Hp) (s:Shared) (e:Value) (s':Shared),Inv X pins σ H s->CX X.stack H s E e s'->X.xe e s'
section
variable{X:Cx}{CX:CXT}{k:Nat}{f C:Addr}{fd:FuncData}{ps:List Str}{sp:Sp}{dvs:List V}{ds:List Value}{E:XK}{x m:Str}{p pos apos:Pos}{e o:Expr}{es:List Expr}{ta:TE}{t:TA}
theorem Grd{pins:List (Addr×Obj)}{σ:St}{H:Hp}{s:Shared}{Q:VK}{us:List Value}{vs:List V}(F:FnOk X.prog X.w X.K X.mg X.base CX k f fd ps sp)(hr:Room k X.A)(hb:Binds X.K fd ps ds)(hd:Vals dvs ds)(hx:Passes CX X E)
  (I:Inv X pins σ H s) (r:Vals vs us) (h:sp (vs++dvs) H Q E):wpAny (model X.prog X.w) X.A (call (.ref f) us) (EP X pins σ Q) X.xe s:=by
 have r2:Vals (vs++dvs) (us++ds):=r.append hd
 have hl:(us++ds).length=ps.length:=by rw[<- r2.length]; exact F.len _ _ _ _ h
 refine wpAny_call (codeAny_mono (F.run X.A X.stack s H ⟨us,[]⟩ (us++ds) (vs++dvs) Q E hr I.env0 (hb s us I.kIn hl) r2 h) fun r s' hq=>?_)
 cases r with
 | error e=>exact hx pins σ H s e s' I hq
 | ok fl=>
  cases fl with
  | ret u=>exact I.after hq
  | next=>exact False.elim hq
  | brk=>exact False.elim hq
  | cont=>exact False.elim hq
theorem Gmm(F:FnOk X.prog X.w X.K X.mg X.base CX k f fd ps sp)(hr:Room k X.A)(hg:Gl X x)(hm:X.mg x=some (.ref f))(hk:PySem.W.keepIn X.K (.ref f)=true)(hb:Binds X.K fd ps ds)(hd:Vals dvs ds)(hx:Passes CX X E)
  (ha:PA X (e::es) t) (hdb:(x==("__debug__":Str))=false:=by decide) (he:starEach (e::es) X.env=(false,eval e X.env)::starEach es X.env:=by rfl) (hpl:(backTo pos (starEach es X.env)).any (·.1)=false:=by rfl):
  PE X (.Call (.Name x p) (e::es) [] pos) (Gvm sp dvs E t):=by
 intro pins s σ H Q I h
 refine wpAny_Call_Name_kw (Xo I hg hm ?_ hdb)
 refine PySem.W.callWith_K (h₀:=X.base) I.ok.mod.kin hk (thn (ha pos pins s σ H _ I h) fun us s1 ⟨vs,H1,I1,r,q⟩=>⟨I1.kIn,?_⟩) he hpl
 exact Grd F hr hb hd hx I1 r q
structure Mk(K:PySem.W.Frag)(C f:Addr):Prop where
 makes:PySem.W.makesIn K C=true
 init:PySem.W.findIn K (.ref C) "__init__"=some (some (.ref f))
 fn:PySem.W.isFn K (.ref f)=true
 kp:PySem.W.keepIn K (.ref C)=true
end
section
variable{X:Cx}{CX:CXT}{k:Nat}{f C:Addr}{fd:FuncData}{ps ks:List Str}{sp:Sp}{E:XK}{x m:Str}{p pos apos kpos:Pos}{e o:Expr}{es:List Expr}{kws:List Keyword}{te ta:TE}{t tk:TA}{nm:Option Str}
structure KBinds(K:PySem.W.Frag)(fd:FuncData)(ps ks:List Str)(g:List Value->List Value->List Value)(gV:List V->List V->List V):Prop where
 to:∀ (s:Shared) (us ws:List Value),K.In s.heap->(g us ws).length=ps.length->BindsTo s fd ⟨us,ks.zip ws⟩ (ps.zip (g us ws))
 rel:∀ {vs:List V} {us:List Value} {zs:List V} {ws:List Value},Vals vs us->Vals zs ws->Vals (gV vs zs) (g us ws)
variable{g:List Value->List Value->List Value}{gV:List V->List V->List V}
end
structure FnScope(N P:List Str)(sc:Scope):Prop where
 kind:sc.kind=.function
 co:sc.isCoroutine=false
 gen:sc.isGenerator=false
 nd:N.Nodup
 pre:N.take P.length=P
 par:∀ x∈P,sc.names.lookup x=some .local\/sc.names.lookup x=some .cell
 nofree:∀ y∈sc.names,y.2≠.free
theorem Gdb{kindOf:Str->Option NameKind}{x:Str}:∀ {binds:List (Str×Value)} {m:Str->Option Value},(∀ v,(x,v)∉binds)->bindL kindOf binds m x=m x
 | [],_,_=>rfl
 | (n,v)::r,m,h=>by
  unfold bindL
  rw[Gdb fun w hw=>h w (List.mem_cons_of_mem _ hw)]
  split
  ·have:x≠n:=by rintro rfl; exact h v List.mem_cons_self
   simp[this]
  ·rfl
theorem Gdc{kindOf:Str->Option NameKind}{x:Str}:∀ {binds:List (Str×Value)} {m:Str->Option Value},(∀ v,(x,v)∉binds)->bindC kindOf binds m x=m x
 | [],_,_=>rfl
 | (n,v)::r,m,h=>by
  unfold bindC
  rw[Gdc fun w hw=>h w (List.mem_cons_of_mem _ hw)]
  split
  ·rfl
  ·have:x≠n:=by rintro rfl; exact h v List.mem_cons_self
   simp[this]
theorem Gdd{kindOf:Str->Option NameKind}{x:Str}{v:Value}:∀ {P:List Str} {vs:List Value} {i:Nat} {m:Str->Option Value},P.Nodup->P[i]?=some x->vs[i]?=some v->kindOf x=some .local→
  bindL kindOf (P.zip vs) m x=some v
 | [],_,_,_,_,h,_,_=>by simp at h
 | _::_,[],_,_,_,_,h,_=>by simp at h
 | p::P,w::vs,0,m,nd,h1,h2,hk=>by
  simp at h1 h2; subst h1; subst h2
  show bindL kindOf ((p,w)::P.zip vs) m p=_
  unfold bindL
  rw[Gdb fun v hv=>(List.nodup_cons.mp nd).1 (List.of_mem_zip hv).1,if_pos hk]
  simp
 | p::P,w::vs,i+1,m,nd,h1,h2,hk=>by
  show bindL kindOf ((p,w)::P.zip vs) m x=_
  unfold bindL
  exact Gdd (i:=i) (List.nodup_cons.mp nd).2 (by simpa using h1) (by simpa using h2) hk
theorem Gde{kindOf:Str->Option NameKind}{x:Str}{v:Value}:∀ {P:List Str} {vs:List Value} {i:Nat} {m:Str->Option Value},P.Nodup->P[i]?=some x->vs[i]?=some v->kindOf x≠some .local→
  bindC kindOf (P.zip vs) m x=some v
 | [],_,_,_,_,h,_,_=>by simp at h
 | _::_,[],_,_,_,_,h,_=>by simp at h
 | p::P,w::vs,0,m,nd,h1,h2,hk=>by
  simp at h1 h2; subst h1; subst h2
  show bindC kindOf ((p,w)::P.zip vs) m p=_
  unfold bindC
  rw[Gdc fun v hv=>(List.nodup_cons.mp nd).1 (List.of_mem_zip hv).1,if_neg hk]
  simp
 | p::P,w::vs,i+1,m,nd,h1,h2,hk=>by
  show bindC kindOf ((p,w)::P.zip vs) m x=_
  unfold bindC
  exact Gde (i:=i) (List.nodup_cons.mp nd).2 (by simpa using h1) (by simpa using h2) hk
def start(N:List Str)(vs:List V):St:=vs.map some++List.replicate (N.length-vs.length) none
def Kq(CX:CXT)(P:Program)(w:World)(K:PySem.W.Frag)(mg:Str->Option Value)(base:Heap)(N:List Str)(qual:Str)(scope:Scope)(f:Addr)(cd:Value)(A:Around)(outer:List Env)(s:Shared)(H:Hp)(E:XK):Cx where
 prog:=P
 w:=w
 K:=K
 mg:=mg
 base:=base
 A:=A.deeper (envOfC qual scope s.heap.objs.size f cd)
 N:=N
 s₀:=s
 H₀:=H
 env:=envOfC qual scope s.heap.objs.size f cd
 outer:=outer
 stack:=envOfC qual scope s.heap.objs.size f cd::outer
 ex:=[]
 calm:=true
 fn:=fun _=>true
 pn:=[]
 xe:=fun e s'=>wpAny (model P w) (A.deeper (envOfC qual scope s.heap.objs.size f cd)) (leaving (envOfC qual scope s.heap.objs.size f cd) e) (fun _ s''=>CX outer H s E e s'') (fun e' s''=>CX outer H s E e' s'') s'
theorem Ge4{sc:Scope}{n:Nat}{x:Str}(h:sc.names.lookup x=some .cell):∃ c,(cellsFrom n sc.names []).lookup x=some c:=by
 have q:=PySem.W.cellsFrom_some sc.names n [] (.inl h)
 exact Option.isSome_iff_exists.mp q
theorem Gh8{CX:CXT}{P:Program}{w:World}{K:PySem.W.Frag}{mg:Str->Option Value}{base:Heap}{N ps:List Str}{qual:Str}{scope:Scope}{f:Addr}{cd:Value}{A:Around}{outer:List Env}{s s1:Shared}{H:Hp}{E:XK}{us:List Value}{vs:List V}
  (S:FnScope N ps scope) (hd:A.handled=none) (e0:Env0 P w K mg base A outer s H) (hl:vs.length=ps.length) (r:Vals vs us)
  (x:InCallC s s.heap.objs.size (bindL (envOfC qual scope s.heap.objs.size f cd).kindOf (ps.zip us) fun _=>none) (cellsFrom (s.heap.objs.size+1) scope.names []) (bindC (envOfC qual scope s.heap.objs.size f cd).kindOf (ps.zip us) fun _=>none) s1):
  Inv (Kq CX P w K mg base N qual scope f cd A outer s H E) [] (start N vs) H s1:=by
 have hpl:ps.length<=N.length:=by have:=congrArg List.length S.pre; rw[List.length_take] at this; omega
 obtain⟨h1,tk,rfl,hk⟩:=x.done
 have noA:∀ b:Addr,b∉(Kq CX P w K mg base N qual scope f cd A outer s H E).ex:=fun b z=>absurd (show b∈([]:List Addr) from z) (by simp)
 refine⟨⟨e0.mod,S.kind,rfl,rfl,Nat.le_refl _,fun y z c h1 h2=>?_,fun y hy=>?_,fun y c _ h=>?_,fun _=>hd,Around.frames_deeper e0.frames,.inr ⟨rfl,rfl⟩,fun b z=>absurd z (noA b),e0.bs,e0.bsz,fun b _ _=>noA b,fun b z=>absurd z (noA b),e0.funs,e0.frf⟩,
  rfl,e0.bare,Un.kept hk,⟨_,x.toInCall.ns,fun i y v h1 h2 h3=>?_⟩,fun y c h=>⟨_,x.cell y c h⟩,e0.hok.fresh (Nat.le_refl _),fun y c h=>?_,fun p hp=>absurd (show p∈([]:List (Addr×Obj)) from hp) (by simp),e0.hok.kept hk,?_⟩
 ·exact name_of_addr x.apart (PySem.mem_of_lookup h1) (PySem.mem_of_lookup h2)
 ·have hy:scope.names.lookup y=some .cell\/scope.names.lookup y=some .free:=hy
  rcases hy with hy | hy
  ·exact Ge4 hy
  ·exact absurd rfl (S.nofree _ (PySem.mem_of_lookup hy))
 ·exact Nat.le_of_lt (x.above y c (PySem.mem_of_lookup h))
 ·have hi:i<vs.length:=by
   unfold start at h2
   by_cases hi:i<vs.length
   ·exact hi
   ·rw[List.getElem?_append_right (by simpa using hi)] at h2
    rw[List.getElem?_replicate] at h2
    split at h2<;>cases h2
  have ha:vs[i]?=some v:=by
   unfold start at h2
   rw[List.getElem?_append_left (by simpa using hi),List.getElem?_map] at h2
   cases e:vs[i]? with
   | none=>rw[e] at h2; cases h2
   | some a=>rw[e] at h2; cases h2; rfl
  obtain⟨u,hu,rv⟩:=r.get ha
  have hp:ps[i]?=some y:=by
   rw[<- S.pre,List.getElem?_take_of_lt (by omega)]; exact h1
  have ndP:ps.Nodup:=by rw[<- S.pre]; exact S.nd.sublist (List.take_sublist _ _)
  refine⟨u,rv,?_⟩
  rcases S.par y (List.mem_of_getElem? hp) with k | k
  ·exact .inl ⟨k,Gdd ndP hp hu k⟩
  ·obtain⟨c,e⟩:=Ge4 (n:=s.heap.objs.size+1) k
   refine .inr ⟨.inl k,c,e,?_⟩
   have q:=x.cell y c e
   rw[Gde ndP hp hu (by show scope.names.lookup y≠_; rw[k]; decide)] at q
   exact q
 ·exact e0.hok.fresh (Nat.le_of_lt (x.above y c (PySem.mem_of_lookup h)))
 ·unfold start
  show _=N.length
  rw[List.length_append,List.length_map,List.length_replicate]
  omega
theorem Gjf{CX:CXT}{P:Program}{w:World}{K:PySem.W.Frag}{mg:Str->Option Value}{base:Heap}{k:Nat}{f:Addr}{name qual:Str}{params:Arguments}{body:List Stmt}{scope:Scope}{dV kV doc pm cdv ct oc:Value}{an od:Option Addr}
  {osl:Array (Option Value)} {N ps:List Str} {sp:Sp} (lk:K.lookup f=some ⟨oc,od,.func (PySem.W.fnOf name qual params body scope dV kV doc pm an cdv ct),osl⟩) (hcd:PySem.W.codeIn K cdv qual=true) (S:FnScope N ps scope)
  (len:∀ vs H Q E,sp vs H Q E->vs.length=ps.length)
  (hbody:∀ (A:Around) (outer:List Env) (s:Shared) (H:Hp) (vs:List V) (Q:VK) (E:XK),Room k (A.deeper (envOfC qual scope s.heap.objs.size f cdv))->sp vs H Q E→
   ∃ t,PSs (Kq CX P w K mg base N qual scope f cdv A outer s H E) body t/\t { nx:=fun _ H'=>Q .non H',rt:=Q } (start N vs) H):
  FnOk P w K mg base CX (k+1) f (PySem.W.fnOf name qual params body scope dV kV doc pm an cdv ct) ps sp:=by
 refine⟨len,fun A outer s H args us vs Q E hr e0 hb r hsp=>?_⟩
 have hl:=len _ _ _ _ hsp
 have KX:K.In s.heap:=e0.mod.kin.keeps fun b o e=>(e0.bs b o e).1
 have lim:s.heap.NoLimit:=e0.mod.nolimit.keeps fun b o e=>(e0.bs b o e).1
 have hkind:∀ y∈ps.zip us,scope.names.lookup y.1=some .local\/(scope.names.lookup y.1=some .cell/\((cellsFrom (s.heap.objs.size+1) scope.names []).lookup y.1).isSome=true):=fun⟨n,v⟩ hy=>by
  rcases S.par n (List.of_mem_zip hy).1 with q | q
  ·exact .inl q
  ·exact .inr ⟨q,PySem.W.cellsFrom_some _ _ _ (.inl q)⟩
 refine codeAny_call_function hr.depth (KX _ _ lk) rfl S.co S.gen rfl (PySem.W.codeRec_of KX hcd) (hb _ _ _ _ ?_)
 refine wpAny_newFunctionEnv_cells S.kind hkind fun env he s1 x=>?_
 subst he
 refine⟨lim.keeps x.toInCall.keep,codeAny_func ?_⟩
 obtain⟨t,ht,hq⟩:=hbody A outer s H vs Q E (hr.deeper _) hsp
 have I:Inv (Kq CX P w K mg base N qual scope f cdv A outer s H E) [] (start N vs) H s1:=Gh8 S hr.hd e0 hl r x
 refine wpAny_mono (ht [] s1 (start N vs) H _ I hq) (fun fl s' hs=>?_) fun e s' hs=>hs
 have fin:∀ {σ':St} {H':Hp} {v:V} {u:Value},Inv (Kq CX P w K mg base N qual scope f cdv A outer s H E) [] σ' H' s'->He v u->Q v H'->CE outer P w H s Q u s':=
  fun{σ' H' v u} J rv q=>⟨v,H',J.os,J.bare,J.base,J.hok,rv,q⟩
 cases fl with
 | ret u=>
  obtain⟨v,σ',H',J,rv,q⟩:=hs
  exact fin J rv q
 | next=>
  obtain⟨σ',H',J,q⟩:=hs
  exact fin (v:=V.non) (u:=Value.none) J rfl q
 | brk=>
  obtain⟨_,_,_,q⟩:=hs
  exact False.elim q
 | cont=>
  obtain⟨_,_,_,q⟩:=hs
  exact False.elim q
section
variable{X:Cx}{x:Str}{p pos:Pos}{e:Expr}{es:List Expr}{t:TA}{id T:String}{r:List V->Hp->VK->Prop}
def tCB(r:List V->Hp->VK->Prop)(t:TA):TE:=fun σ H Q=>t σ H fun vs H1=>r vs H1 Q
theorem Ge5(hc:Wo X (.builtin id) r)(hg:Gl X x)(hm:X.mg x=none)(hv:bootBuiltins x=some (.builtin id))(ha:PA X (e::es) t)(hn:x≠"__name__":=by decide)(hdb:(x==("__debug__":Str))=false:=by decide)
  (he:starEach (e::es) X.env=(false,eval e X.env)::starEach es X.env:=by rfl) (hpl:(backTo pos (starEach es X.env)).any (·.1)=false:=by rfl):PE X (.Call (.Name x p) (e::es) [] pos) (tCB r t):=by
 intro pins s σ H Q I h
 refine wpAny_Call_Name_kw (Yh I hg hm hv ?_ hn hdb)
 exact PyProof.Rows.callWith_builtin1 (thn (ha pos pins s σ H _ I h) fun us s1 ⟨vs,H1,I1,r1,q1⟩=>hc pins s1 σ H1 vs us Q I1 r1 q1) he hpl
theorem Gh9(hc:Wo X (.type T) r)(hg:Gl X x)(hm:X.mg x=none)(hv:bootBuiltins x=some (.type T))(ha:PA X (e::es) t)(hn:x≠"__name__":=by decide)(hdb:(x==("__debug__":Str))=false:=by decide)
  (he:starEach (e::es) X.env=(false,eval e X.env)::starEach es X.env:=by rfl) (hpl:(backTo pos (starEach es X.env)).any (·.1)=false:=by rfl):PE X (.Call (.Name x p) (e::es) [] pos) (tCB r t):=by
 intro pins s σ H Q I h
 refine wpAny_Call_Name_kw (Yh I hg hm hv ?_ hn hdb)
 exact PyProof.Rows.callWith_type1 (thn (ha pos pins s σ H _ I h) fun us s1 ⟨vs,H1,I1,r1,q1⟩=>hc pins s1 σ H1 vs us Q I1 r1 q1) he hpl
end
end L2
namespace HT
open PySem PyProof.Rows
section
open PySem.SeqAt
open PySem.AutoSeq1 (wpAny_loadPart')
open PySem.MeetsSeq PySem.MeetsSeq2 PySem.MeetsSeq3
end
section
variable{prog:Program}{w:World}{A:Around}{E:Value->Shared->Prop}{s:Shared}
theorem Gmn{t b:Addr}{vs ws:List Value}{Q:Value->Shared->Prop}(ht:IsTup s.heap t vs.toArray)(hb:IsTup s.heap b ws.toArray)(hv:vs≠[])
  (h1:ws=[]->Q (.ref t) s) (h2:ws≠[]->Q (.ref s.heap.objs.size) { s with heap:=s.heap.push { cls:=.type "tuple",data:=.seq (vs++ws).toArray } })
  (hsz:vs.length+ws.length<=sizeLine):wpAny (model prog w) A (binaryOp .Add (.ref t) (.ref b)) Q E s:=by
 obtain⟨⟨cls,dd,data,sl⟩,ho,hc,n,hd⟩:=id ht
 obtain⟨⟨cls2,dd2,data2,sl2⟩,ho2,hc2,n2,hd2⟩:=id hb
 simp only at hc hd hc2 hd2
 subst hc hd hc2 hd2
 have e:vs.toArray++ws.toArray=(vs++ws).toArray:=by simp
 by_cases hw:ws=[]
 ·exact concat_meets ⟨_,ho,rfl⟩ ⟨_,ho2,rfl⟩ noFill_tuple_add seq_tuple_add PySem.F.slot_tuple_add PySem.F.entry_tuple_add (PySem.F.args_tuple_add_2 _ _)
   (tuple_addW1 t b vs.toArray ws.toArray n n2 dd dd2 sl sl2 (by simpa using hv) (by simp[hw])) ⟨ho,ho2,h1 hw⟩
 ·refine concat_meets ⟨_,ho,rfl⟩ ⟨_,ho2,rfl⟩ noFill_tuple_add seq_tuple_add PySem.F.slot_tuple_add PySem.F.entry_tuple_add (PySem.F.args_tuple_add_2 _ _)
   (tuple_addW2 t b vs.toArray ws.toArray n n2 dd dd2 sl sl2 (by simpa using hv) (by simpa using hw) (by rw[List.size_toArray,List.size_toArray]; exact hsz)) ⟨ho,ho2,?_⟩
  rw[e]
  exact h2 hw
def sIx(n d:Nat):Option Int->Nat
 | none=>d
 | some v=>if v<0 then(v+(n:Int)).toNat else min v.toNat n
theorem Wp(n d:Nat):sIx n d none=d:=rfl
theorem Ga8(n d k:Nat):sIx n d (some (k:Int))=min k n:=by
 show(if(k:Int)<0 then((k:Int)+(n:Int)).toNat else min (k:Int).toNat n)=min k n
 rw[if_neg (by omega),Int.toNat_natCast]
theorem Gre(n d:Nat)(hd:d<=n)(o:Option Int):sIx n d o<=n:=by
 cases o with
 | none=>exact hd
 | some v=>
  show(if v<0 then(v+(n:Int)).toNat else min v.toNat n)<=n
  by_cases hv:v<0
  ·rw[if_pos hv]; omega
  ·rw[if_neg hv]; exact Nat.min_le_right _ _
theorem Gg7(v:Int)(n d:Nat):(if v<0 then max (v+(n:Int)) 0 else min v (n:Int))=((sIx n d (some v):Nat):Int):=by
 show(if v<0 then max (v+(n:Int)) 0 else min v (n:Int))=(((if v<0 then(v+(n:Int)).toNat else min v.toNat n):Nat):Int)
 by_cases hv:v<0
 ·simp only[if_pos hv]; omega
 ·simp only[if_neg hv]; omega
theorem Gga(lo hi:Option Int)(n:Nat):Builtin.Slice.sliceAdjust lo hi 1 (n:Int)=(((sIx n 0 lo:Nat):Int),((sIx n n hi:Nat):Int)):=by
 have h1:¬ ((1:Int)<0):=by omega
 unfold Builtin.Slice.sliceAdjust
 simp only[h1,if_false]
 refine Prod.ext ?_ ?_
 ·cases lo with
  | none=>rfl
  | some v=>exact Gg7 v n 0
 ·cases hi with
  | none=>rfl
  | some v=>exact Gg7 v n n
theorem Ggb(i j:Nat):Builtin.Slice.slicePlaces (i:Int) (j:Int) 1=j-i:=by
 unfold Builtin.Slice.slicePlaces
 have h1:(1:Int)>0:=by omega
 simp only[h1,if_true,Int.ediv_one]
 split<;>omega
theorem Gbi{v:Value}{o:Option Int}{Q:Option Int->Shared->Prop}(p:IsPart v o)(h:Q o s):wpAny (model prog w) A (Builtin.Slice.slicePartIndex v) Q E s:=by
 cases p with
 | none=>exact slicePart_none h
 | int i t=>exact slicePart_int h
theorem Vf{sl:Addr}{vl vu:Value}{lo hi:Option Int}{n:Nat}{Q:Int×Int×Nat->Shared->Prop}(hs:s.heap.IsSliceOf sl vl vu .none)(pl:IsPart vl lo)(pu:IsPart vu hi)
  (h:Q (((sIx n 0 lo:Nat):Int),1,sIx n n hi-sIx n 0 lo) s):wpAny (model prog w) A (Builtin.Slice.sliceApplied (.ref sl) (pure (n:Int))) Q E s:=by
 obtain⟨os,hos,hcs,hds⟩:=id hs
 unfold Builtin.Slice.sliceApplied Builtin.Slice.sliceFields
 refine wpAny_bind (wpAny_bind (wpAny_field hos hds (x:=vl) rfl (wpAny_bind (wpAny_field hos hds (x:=vu) rfl (wpAny_bind (wpAny_field hos hds (x:=.none) rfl (wpAny_pure ?_)))))))
 refine wpAny_bind (slicePart_none ?_)
 show wpAny _ _ (if((1:Int)==0)=true then _ else _) _ _ s
 rw[if_neg (by decide)]
 refine wpAny_bind (Gbi pl (wpAny_bind (Gbi pu (wpAny_bind (wpAny_pure ?_)))))
 show wpAny _ _ (match Builtin.Slice.sliceAdjust lo hi 1 (n:Int) with | (lo,hi)=>pure (lo,(1:Int),Builtin.Slice.slicePlaces lo hi 1)) _ _ s
 rw[Gga lo hi n]
 show wpAny _ _ (pure (((sIx n 0 lo:Nat):Int),(1:Int),Builtin.Slice.slicePlaces ((sIx n 0 lo:Nat):Int) ((sIx n n hi:Nat):Int) 1)) _ _ s
 rw[Ggb]
 exact wpAny_pure h
theorem Gjg(xs:Array Value)(i k:Nat):((List.range k).filterMap fun(m:Nat)=>xs[((i:Int)+(m:Int)*1).toNat]?).toArray=((xs.toList.drop i).take k).toArray:=by
 have e:(fun(m:Nat)=>xs[((i:Int)+(m:Int)*1).toNat]?)=fun m=>xs[i+m]?:=by
  funext m
  have:((i:Int)+(m:Int)*1).toNat=i+m:=by omega
  rw[this]
 rw[e]
 have:=pick_run xs i k
 rw[List.filterMap_map] at this
 have e2:((fun x=>xs[x]?)∘fun x=>i+x)=fun m=>xs[i+m]?:=rfl
 rw[e2] at this
 rw[this]
theorem Yp{t sl:Addr}{items:Array Value}{vl vu:Value}{lo hi:Option Int}{Q:Value->Shared->Prop}(ht:IsTup s.heap t items)(hs:s.heap.IsSliceOf sl vl vu .none)(pl:IsPart vl lo)(pu:IsPart vu hi)
  (hw:¬ (sIx items.size 0 lo=0/\sIx items.size items.size hi=items.size))
  (h:Q (.ref s.heap.objs.size) { s with heap:=s.heap.push { cls:=.type "tuple",data:=.seq ((items.toList.drop (sIx items.size 0 lo)).take (sIx items.size items.size hi-sIx items.size 0 lo)).toArray } })
  (hsz:items.size<=sizeLine):wpAny (model prog w) A (getItem (.ref t) (.ref sl)) Q E s:=by
 have htake:sizeOk (.seq ((items.toList.drop (sIx items.size 0 lo)).take (sIx items.size items.size hi-sIx items.size 0 lo)).toArray):=by
  show((items.toList.drop (sIx items.size 0 lo)).take (sIx items.size items.size hi-sIx items.size 0 lo)).toArray.size<=sizeLine
  rw[List.size_toArray,List.length_take,List.length_drop,Array.length_toList]
  omega
 have hj:sIx items.size items.size hi<=items.size:=Gre _ _ (Nat.le_refl _) hi
 obtain⟨os,hos,hcs,hds⟩:=id hs
 have hTs:s.TypeIs (.ref sl) "slice":=⟨os,hos,hcs⟩
 unfold getItem
 try with_reducible refine wpAny_holding ?_
 first | refine wpAny_bind (wpAny_pure ?_) | skip
 refine wpAny_bind (wpAny_sequenceKey ht.typeIs (by decide) ?_)
 refine wpAny_bind (wpAny_callSpecial?_slot (name:=Str.ofString "__getitem__") ht.typeIs PyProof.Rows.slot_tuple_getitem
  (wpAny_call_entry PyProof.Rows.slot_tuple_getitem ht.typeIs entry_tuple_getitem ?_ (args_tuple_getitem _ _)))
 show wpAny _ _ (Builtin.Tuple.tupleItemsOf (.ref t) >>= _) _ _ s
 refine wpAny_bind (tupleItemsOf_ ht ?_)
 refine wpAny_bind (wpAny_typeOf hTs ?_)
 rw[if_pos (by decide)]
 refine wpAny_bind (Vf hs pl pu ?_)
 have hno:¬ ((((sIx items.size 0 lo:Nat):Int)==0&&(1:Int)==1&&(sIx items.size items.size hi-sIx items.size 0 lo)==items.size)=true):=by
  intro q
  rw[Bool.and_eq_true,Bool.and_eq_true] at q
  have q1:((sIx items.size 0 lo:Nat):Int)=0:=eq_of_beq q.1.1
  have q2:sIx items.size items.size hi-sIx items.size 0 lo=items.size:=eq_of_beq q.2
  exact hw ⟨by omega,by omega⟩
 show wpAny _ _ (if(((sIx items.size 0 lo:Nat):Int)==0&&(1:Int)==1&&(sIx items.size items.size hi-sIx items.size 0 lo)==items.size)=true then _ else _) _ _ s
 rw[if_neg hno,Gjg]
 first
  | exact wpAny_bind (m:=Builtin.Tuple.tupleExact _) (wpAny_newObj_type (wpAny_pure ⟨_,rfl,wpAny_pure h⟩) htake)
  | exact wpAny_bind (m:=Builtin.Tuple.tupleExact _) (wpAny_newObj_type (wpAny_bind (wpAny_pure (wpAny_pure ⟨_,rfl,wpAny_pure h⟩))) htake)
  | exact wpAny_bind (wpAny_bind (m:=Builtin.Tuple.tupleExact _) (wpAny_newObj_type (wpAny_pure (wpAny_pure ⟨_,rfl,wpAny_pure h⟩)) htake))
  | exact wpAny_bind (wpAny_bind (m:=Builtin.Tuple.tupleExact _) (wpAny_newObj_type (wpAny_pure ⟨_,rfl,wpAny_pure h⟩) htake))
end
end HT
namespace L2
open PySem PySem.Spec PyProof.Rows
variable{xs:List V}{n:Nat}{pins:List (Addr×Obj)}{σ:St}{H:Hp}{its:List Value}
abbrev TO:=St->Hp->(Option Int->Hp->Prop)->Prop
def PO(X:Cx)(e:Option Expr)(t:TO):Prop:=
 ∀ (pins:List (Addr×Obj)) (s:Shared) (σ:St) (H:Hp) (Q:Option Int->Hp->Prop),Inv X pins σ H s->t σ H Q→
  wpAny (model X.prog X.w) X.A (evalPart e X.env) (fun u s'=>∃ o H',Inv X pins σ H' s'/\IsPart u o/\Q o H') X.xe s
def Gmo:TO:=fun _ H Q=>Q none H
def Gvn(t:TE):TO:=fun σ H Q=>t σ H fun x H1=>∃ i,x=.int i/\Q (some i) H1
theorem Ggc{ns:List Int}:∀ {us:List Value},Vals (ns.map V.int) us->IntsAre us ns:=by
 induction ns with
 | nil=>intro us r; rw[List.map_nil] at r; cases r; exact .nil
 | cons n ns ih=>
  intro us r
  rw[List.map_cons] at r
  cases r with
  | cons r1 r2=>
   obtain⟨t,e⟩:=r1
   subst e
   exact .cons n t (ih r2)
section
variable{X:Cx}{e:Expr}{te:TE}{lo hi:Option Expr}{tl th:TO}{pos p2:Pos}
theorem Gmp:PO X none Gmo:=by
 intro pins s σ H Q I h
 rw[evalPart_none]
 exact wpAny_pure ⟨none,H,I,.none,h⟩
theorem Gmq(h:PE X e te):PO X (some e) (Gvn te):=by
 intro pins s σ H Q I hw
 rw[evalPart_some]
 refine thn (h pins s σ H _ I hw) fun u s1 ⟨x,H1,I1,r1,q1⟩=>?_
 obtain⟨i,rfl,q⟩:=q1
 obtain⟨t,rfl⟩:=r1
 exact⟨some i,H1,I1,.int i t,q⟩
def SlR(X:Cx)(r:V->Option Int->Option Int->Hp->VK->Prop):Prop:=
 ∀ (pins:List (Addr×Obj)) (s:Shared) (σ:St) (H:Hp) (x:V) (v vl vu:Value) (lo hi:Option Int) (sl:Addr) (Q:VK),Inv X pins σ H s->He x v->s.heap.IsSliceOf sl vl vu .none->IsPart vl lo->IsPart vu hi->r x lo hi H Q→
  ∃ T id,typeLookup (.type T) "__getitem__"=pure (some (.builtin id))/\s.TypeIs v T/\wpAny (model X.prog X.w) X.A (getItem v (.ref sl)) (EP X pins σ Q) X.xe s
theorem SlR.or{r r':V->Option Int->Option Int->Hp->VK->Prop}(h:SlR X r)(h':SlR X r'):SlR X (fun x lo hi H Q=>r x lo hi H Q\/r' x lo hi H Q):=by
 intro pins s σ H x v vl vu lo hi sl Q I rx hs pl pu q
 rcases q with q | q
 ·exact h pins s σ H x v vl vu lo hi sl Q I rx hs pl pu q
 ·exact h' pins s σ H x v vl vu lo hi sl Q I rx hs pl pu q
def tSl(r:V->Option Int->Option Int->Hp->VK->Prop)(te:TE)(tl th:TO):TE:=fun σ H Q=>te σ H fun x H1=>tl σ H1 fun l H2=>th σ H2 fun u H3=>r x l u H3 Q
theorem Gjh{r:V->Option Int->Option Int->Hp->VK->Prop}(hr:SlR X r)(he:PE X e te)(hl:PO X lo tl)(hu:PO X hi th):PE X (.Subscript e (.Slice lo hi none p2) pos) (tSl r te tl th):=by
 intro pins s σ H Q I h
 refine Subscript_ (thn (he pins s σ H _ I h) fun v s1 ⟨x,H1,I1,r1,q1⟩=>?_)
 refine wpAny_Slice (thn (hl pins s1 σ H1 _ I1 q1) fun vl s2 ⟨l,H2,I2,pl,q2⟩=>thn (hu pins s2 σ H2 _ I2 q2) fun vu s3 ⟨u,H3,I3,pu,q3⟩=>?_)
 rw[evalPart_none]
 refine wpAny_pure ?_
 have I4:Inv X pins σ H3 { s3 with heap:=s3.heap.push { cls:=.type "slice",data:=.fields #[vl,vu,.none] } }:=I3.kept (t':=s3.toks) fun b ob q=>Heap.get?_push_of_some _ q
 obtain⟨T,id,hT,ht,hg⟩:=hr pins { s3 with heap:=s3.heap.push { cls:=.type "slice",data:=.fields #[vl,vu,.none] } } σ H3 x v vl vu l u s3.heap.objs.size Q I4 r1 (Heap.IsSliceOf.new ..) pl pu q3
 show wpAny (model X.prog X.w) X.A (subscriptTail e (.Slice lo hi none p2) v (.ref s3.heap.objs.size)) (EP X pins σ Q) X.xe { s3 with heap:=s3.heap.push { cls:=.type "slice",data:=.fields #[vl,vu,.none] } }
 exact tail_any (ops:=[.ref s3.heap.objs.size,v]) ht hT hg (by with_unfolding_all rfl)
def Ge6(xs:List V)(lo hi:Option Int):List V:=(xs.drop (HT.sIx xs.length 0 lo)).take (HT.sIx xs.length xs.length hi-HT.sIx xs.length 0 lo)
theorem Gab(xs:List V)(lo hi:Option Int):(Ge6 xs lo hi).length<=xs.length:=by
 unfold Ge6
 rw[List.length_take,List.length_drop]
 omega
def Gyi(K:PySem.W.Frag):V->Option Int->Option Int->Hp->VK->Prop:=fun x lo hi H Q=>∃ a xs,x=.ref a/\SqT K H a xs∧
 ¬ (HT.sIx xs.length 0 lo=0/\HT.sIx xs.length xs.length hi=xs.length)/\∀ p,H p=none->Q (.ref p) (upd H p (.tup (Ge6 xs lo hi)))
theorem Grf:SlR X (Gyi X.K):=by
 intro pins s σ H x v vl vu lo hi sl Q I rx hs pl pu h
 obtain⟨a,xs,rfl,hx,hw,q⟩:=h
 cases rx
 obtain⟨its,r,ht,hz⟩:=I.tuple hx
 have hlen:its.toArray.size=xs.length:=by rw[List.size_toArray]; exact r.length.symm
 refine⟨"tuple",_,PyProof.Rows.slot_tuple_getitem.lookup,ht.typeIs,?_⟩
 refine HT.Yp ht hs pl pu (by rw[hlen]; exact hw) ?_ (by rw[hlen]; exact hz)
 rw[hlen]
 refine⟨.ref s.heap.objs.size,_,I.laid (t':=s.toks) (o:=.tup (Ge6 xs lo hi)) (fun b ob q=>Heap.get?_push_of_some _ q) (Nat.le_refl _) ?_,rfl,q _ (I.hok.fresh (Nat.le_refl _))⟩
 exact⟨Nat.le_trans (Gab xs lo hi) hz,_,(r.drop (HT.sIx xs.length 0 lo)).take (HT.sIx xs.length xs.length hi-HT.sIx xs.length 0 lo),IsTup.new _ _⟩
def Gpg(K:PySem.W.Frag):R2:=fun x y H Q=>∃ a b xs ys,x=.ref a/\y=.ref b/\SqT K H a xs/\SqT K H b ys/\xs≠[]/\xs.length+ys.length<=sizeLine∧
 (ys=[]->Q (.ref a) H)/\(ys≠[]->∀ p,H p=none->Q (.ref p) (upd H p (.tup (xs++ys))))
theorem Vals.nil_iff{us:List Value}(r:Vals xs us):us=[]↔xs=[]:=by
 cases r with
 | nil=>simp
 | cons _ _=>simp
theorem Gmr:OpR X (binaryOp .Add) (Gpg X.K):=by
 intro pins s σ H x y v u Q I rx ry h
 obtain⟨a,b,xs,ys,rfl,rfl,ha,hb,hx,hz,q1,q2⟩:=h
 cases rx
 cases ry
 obtain⟨its,r1,p1,_⟩:=I.tuple ha
 obtain⟨its2,r2,p2,_⟩:=I.tuple hb
 refine HT.Gmn p1 p2 (fun z=>hx (r1.nil_iff.mp z)) (fun z=>⟨.ref a,H,I,rfl,q1 (r2.nil_iff.mp z)⟩) (fun z=>?_) (by rw[<- r1.length,<- r2.length]; exact hz)
 refine⟨.ref s.heap.objs.size,_,I.laid (t':=s.toks) (o:=.tup (xs++ys)) (fun b ob q=>Heap.get?_push_of_some _ q) (Nat.le_refl _) ?_,rfl,q2 (fun w=>z (r2.nil_iff.mpr w)) _ (I.hok.fresh (Nat.le_refl _))⟩
 exact⟨by rw[List.length_append]; exact hz,_,r1.append r2,IsTup.new _ _⟩
end
def ixN(n:Nat)(i:Int):Option Nat:=if 0<=i then(if i<n then some i.toNat else none) else if -(n:Int)<=i then some (i+n).toNat else none
def atI{α:Type}(xs:List α)(i:Int):Option α:=(ixN xs.length i).bind fun j=>xs[j]?
theorem Gg8{i:Int}{j:Nat}(h:ixN n i=some j):seqIndex? i n=some j/\j<n /\ -(n:Int)<=i/\i<n:=by
 unfold ixN at h
 by_cases h0:0<=i
 ·rw[if_pos h0] at h
  by_cases h1:i<n
  ·rw[if_pos h1] at h
   have e:i.toNat=j:=Option.some.inj h
   exact⟨by rw[seqIndex_of h0 h1,e],by omega,by omega,h1⟩
  ·rw[if_neg h1] at h; cases h
 ·rw[if_neg h0] at h
  by_cases h1 : -(n:Int)<=i
  ·rw[if_pos h1] at h
   have e:(i+n).toNat=j:=Option.some.inj h
   exact⟨by rw[seqIndex_neg (by omega) h1,e],by omega,h1,by omega⟩
  ·rw[if_neg h1] at h; cases h
theorem Gdy{α:Type}{xs:List α}{i:Int}{v:α}(h:atI xs i=some v):∃ j,seqIndex? i xs.length=some j/\xs[j]?=some v/\j<xs.length /\ -(xs.length:Int)<=i/\i<xs.length:=by
 unfold atI at h
 cases e:ixN xs.length i with
 | none=>rw[e] at h; cases h
 | some j=>
  rw[e] at h
  obtain⟨h1,h2,h3,h4⟩:=Gg8 e
  exact⟨j,h1,h,h2,h3,h4⟩
def Yq(b:Expr):Prop:=∀ o i,subscripted b false o i=operate [o,i] (getItem o i)
def IxR(X:Cx)(r:R2):Prop:=
 ∀ (value slice:Expr) (pins:List (Addr×Obj)) (s:Shared) (σ:St) (H:Hp) (x y:V) (v u:Value) (Q:VK),Inv X pins σ H s->He x v->He y u->r x y H Q→
  subscripted slice false v u=operate [v,u] (getItem v u)->wpAny (model X.prog X.w) X.A (subscriptTail value slice v u) (EP X pins σ Q) X.xe s
def MtR(X:Cx)(id:String)(r:V->List V->Hp->VK->Prop):Prop:=
 ∀ (pins:List (Addr×Obj)) (s:Shared) (σ:St) (H:Hp) (x:V) (xs:List V) (v:Value) (us:List Value) (Q:VK),Inv X pins σ H s->He x v->Vals xs us->r x xs H Q→
  wpAny (model X.prog X.w) X.A (call (.builtin id) (v::us)) (EP X pins σ Q) X.xe s
section
variable{X:Cx}{a b:Expr}{ta tb:TE}{pos:Pos}
theorem IxR.or{r r':R2}(h:IxR X r)(h':IxR X r'):IxR X (fun x y H Q=>r x y H Q\/r' x y H Q):=by
 intro value slice pins s σ H x y v u Q I rx ry q hs
 rcases q with q | q
 ·exact h value slice pins s σ H x y v u Q I rx ry q hs
 ·exact h' value slice pins s σ H x y v u Q I rx ry q hs
theorem Gvo{r:R2}(hr:IxR X r)(ha:PE X a ta)(hb:PE X b tb)(hs:Yq b):PE X (.Subscript a b pos) (tOp r ta tb):=by
 intro pins s σ H Q I h
 exact Subscript_ (Gq2 ha hb I h fun v u s2 x y H2 I2 rx ry q=>hr a b pins s2 σ H2 x y v u Q I2 rx ry q (hs _ _))
def Gvp(K:PySem.W.Frag):R2:=fun x y H Q=>∃ p xs i v,x=.ref p/\y=.int i/\SqL K H p xs/\atI xs i=some v/\Q v H
def Gvq(K:PySem.W.Frag):R2:=fun x y H Q=>∃ p xs i v,x=.ref p/\y=.int i/\SqT K H p xs/\atI xs i=some v/\Q v H
def Gvr:R2:=fun x y H Q=>∃ z i c,x=.str z/\y=.int i/\z.length<=sizeLine/\atI z.cps.toList i=some c/\Q (.str ⟨#[c]⟩) H
theorem Gms:IxR X (Gvp X.K):=by
 intro value slice pins s σ H x y v u Q I rx ry h hs
 obtain⟨p,xs,i,z,rfl,rfl,hq,he,q⟩:=h
 cases rx
 obtain⟨t,rfl⟩:=ry
 obtain⟨its,r,pl,hz⟩:=I.list hq
 obtain⟨j,h1,h2,h3,h4,h5⟩:=Gdy he
 obtain⟨w,ew,rw'⟩:=r.get h2
 have hl:=r.length
 have hn:=Zk
 have fin:EP X pins σ Q w s:=⟨z,H,I,rw',q⟩
 by_cases h0:0<=i
 ·have hj:i.toNat=j:=by
   rw[seqIndex_of h0 h5] at h1
   exact Option.some.inj h1
  exact item_listR pl.isList h0 (by omega) (by rw[hj]; simpa using ew) fin hs
 ·have hj:(i+(its.toArray.size:Int)).toNat=j:=by
   rw[seqIndex_neg (by omega) h4] at h1
   rw[List.size_toArray,<- hl]
   exact Option.some.inj h1
  exact subscriptTail_builtinR (x:=w) pl.isList.typeIs slot_list_getitem.lookup
   (wpAny_getItem_list_neg (Q:=fun r s'=>r=w/\EP X pins σ Q r s') pl.isList (by omega) (by rw[List.size_toArray]<;>omega) (by omega) (by rw[hj]; simpa using ew) ⟨rfl,fin⟩) hs
theorem Grg:IxR X (Gvq X.K):=by
 intro value slice pins s σ H x y v u Q I rx ry h hs
 obtain⟨p,xs,i,z,rfl,rfl,hq,he,q⟩:=h
 cases rx
 obtain⟨t,rfl⟩:=ry
 obtain⟨its,r,pl,hz⟩:=I.tuple hq
 obtain⟨j,h1,h2,h3,h4,h5⟩:=Gdy he
 obtain⟨w,ew,rw'⟩:=r.get h2
 have hl:=r.length
 have hn:=Zk
 have fin:EP X pins σ Q w s:=⟨z,H,I,rw',q⟩
 exact subscriptTail_builtinR (x:=w) pl.typeIs slot_tuple_getitem.lookup
  (getItem_tuple (j:=j) (Q:=fun r s'=>r=w/\EP X pins σ Q r s') pl (by omega) (by omega) (by rw[List.size_toArray,<- hl]; exact h1) (by simpa using ew) ⟨rfl,fin⟩) hs
theorem Grh:IxR X Gvr:=by
 intro value slice pins s σ H x y v u Q I rx ry h hs
 obtain⟨z,i,c,rfl,rfl,hz,he,q⟩:=h
 obtain⟨t,rfl⟩:=rx
 obtain⟨t',rfl⟩:=ry
 obtain⟨j,h1,h2,h3,h4,h5⟩:=Gdy he
 have hl:z.cps.toList.length=z.length:=by simp[Str.length]
 rw[hl] at h1 h4 h5
 have hn:=Zk
 exact tail_any (typeIs_str s z t) slot_str_getitem.lookup (getItem_str (c:=c) (by
  have e1:decide (i < -(2^63:Int))=false:=decide_eq_false (by omega)
  have e2:decide (i≥2^63)=false:=decide_eq_false (by omega)
  rw[e1,e2,Bool.or_false]) (by rw[h1]; simpa using h2) ⟨.str ⟨#[c]⟩,H,I.tok _,⟨_,rfl⟩,q⟩) hs
def rIx(K:PySem.W.Frag):R2:=fun x y H Q=>Gvp K x y H Q\/Gvq K x y H Q\/Gvr x y H Q
theorem Gri:IxR X (rIx X.K):=Gms.or (Grg.or Grh)
theorem Ggd(its:List Value)(n j:Nat)(u:Value):Obj.mapSeq (·.setIfInBounds j u) { cls:=.type "list",data:=.seq its.toArray n }={ cls:=.type "list",data:=.seq (its.set j u).toArray n }:=by
 simp[Obj.mapSeq]
theorem Inv.lst{s:Shared}{p:Addr}(I:Inv X pins σ H s)(h:H p=some (.lst xs)):
  ∃ (its:List Value) (n:Nat),Vals xs its/\s.heap.get? p=some { cls:=.type "list",data:=.seq its.toArray n }/\xs.length<=sizeLine:=by
 obtain⟨z,its,n,r,e⟩:=I.hok p _ h
 exact⟨its,n,r,e,z⟩
theorem Inv.lstUpd{s:Shared}{p:Addr}{ys:List V}{its':List Value}{n':Nat}{f:Obj->Obj}(I:Inv X pins σ H s)(h:H p=some (.lst xs))(ho:s.heap.get? p=some { cls:=.type "list",data:=.seq its.toArray n })(hf:f { cls:=.type "list",data:=.seq its.toArray n }={ cls:=.type "list",data:=.seq its'.toArray n' })(r:Vals ys its')(hz:ys.length<=sizeLine)(t:Nat):
  Inv X pins σ (upd H p (.lst ys)) { s with heap:=s.heap.update p f,toks:=t }:=by
 have e:(s.heap.update p f).get? p=some { cls:=.type "list",data:=.seq its'.toArray n' }:=by
  rw[Heap.get?_update_self f ho (by rw[hf]<;>rfl),hf]
 refine I.write (x:=p) (e:=p) (by rw[h]; trivial) (.inl rfl) (fun b u hb q=>(Heap.get?_update_other _ _ (Ne.symm hb)).trans q) ⟨_,e⟩ ?_
 exact⟨hz,its',n',r,e⟩
def Gph:V->V->V->Hp->(Hp->Prop)->Prop:=fun o i v H Q=>∃ p xs k j,o=.ref p/\i=.int k/\H p=some (.lst xs)/\ixN xs.length k=some j/\Q (upd H p (.lst (xs.set j v)))
theorem Gji:Gmf X Gph:=by
 intro pins s σ H o i v ov iv u Q I ro ri rv h
 obtain⟨p,xs,k,j,rfl,rfl,hp,hj,q⟩:=h
 cases ro
 obtain⟨t,rfl⟩:=ri
 obtain⟨its,n,r,ho,hz⟩:=I.lst hp
 obtain⟨h1,h2,h3,h4⟩:=Gg8 hj
 have hl:=r.length
 have hn:=Zk
 have I':Inv X pins σ (upd H p (.lst (xs.set j v))) { s with heap:=s.heap.update p (Obj.mapSeq (·.setIfInBounds j u)) }:=
  I.lstUpd hp ho (Ggd its n j u) (r.set rv j) (by rw[List.length_set]; exact hz) s.toks
 by_cases h0:0<=k
 ·have hk:k.toNat=j:=by
   rw[seqIndex_of h0 h4] at h1
   exact Option.some.inj h1
  exact PySem.W.ki_setAt ho h0 (by omega) (by rw[List.size_toArray,<- hl]; exact h4) (by rw[hk]; exact⟨_,I',q⟩)
 ·have hk:(k+(its.toArray.size:Int)).toNat=j:=by
   rw[seqIndex_neg (by omega) h3] at h1
   rw[List.size_toArray,<- hl]
   exact Option.some.inj h1
  exact PySem.W.ki_setBack ho (by omega) (by rw[List.size_toArray,<- hl]; exact h3) (by omega) (by rw[hk]; exact⟨_,I',q⟩)
theorem Gdz(lo hi:Option Int)(n:Nat):(sliceBounds lo hi none n).1=((HT.sIx n 0 lo:Nat):Int)/\(sliceBounds lo hi none n).2.1=((HT.sIx n n hi:Nat):Int)/\(sliceBounds lo hi none n).2.2=1:=by
 refine⟨?_,?_,rfl⟩
 ·cases lo with
  | none=>simp[sliceBounds,HT.sIx]
  | some i=>
   simp only[sliceBounds,HT.sIx,Option.getD_none,show(1:Int)>0 by decide,if_true]
   by_cases h:i<0
   ·simp only[h,if_true]<;>omega
   ·simp only[h,if_false]<;>omega
 ·cases hi with
  | none=>simp[sliceBounds,HT.sIx]
  | some i=>
   simp only[sliceBounds,HT.sIx,Option.getD_none,show(1:Int)>0 by decide,if_true]
   by_cases h:i<0
   ·simp only[h,if_true]<;>omega
   ·simp only[h,if_false]<;>omega
theorem Gcq(its:List Value)(lo hi:Option Int):slicePick its.toArray lo hi none=((its.drop (HT.sIx its.length 0 lo)).take (HT.sIx its.length its.length hi-HT.sIx its.length 0 lo)).toArray:=by
 obtain⟨h1,h2,h3⟩:=Gdz lo hi its.toArray.size
 unfold slicePick
 rw[h1,h2,h3]
 simp only[sliceRange_one,pick_run,List.size_toArray]<;>rfl
def Gyj(K:PySem.W.Frag):V->Option Int->Option Int->Hp->VK->Prop:=fun x lo hi H Q=>∃ a xs,x=.ref a/\SqL K H a xs/\∀ p,H p=none->Q (.ref p) (upd H p (.lst (Ge6 xs lo hi)))
theorem Gmt:SlR X (Gyj X.K):=by
 intro pins s σ H x v vl vu lo hi sl Q I rx hs pl pu h
 obtain⟨a,xs,rfl,hx,q⟩:=h
 cases rx
 obtain⟨its,r,ht,hz⟩:=I.list hx
 have hlen:=r.length
 refine⟨"list",_,slot_list_getitem.lookup,ht.isList.typeIs,?_⟩
 refine wpAny_getItem_list_slice ht.isList hs pl pu .none (by simp) ?_ (by rw[List.size_toArray]<;>omega)
 rw[Gcq,<- hlen]
 refine⟨.ref s.heap.objs.size,_,I.laid (t':=s.toks) (o:=.lst (Ge6 xs lo hi)) (fun b ob q=>Heap.get?_push_of_some _ q) (Nat.le_refl _) ?_,rfl,q _ (I.hok.fresh (Nat.le_refl _))⟩
 exact⟨Nat.le_trans (Gab xs lo hi) hz,_,0,(r.drop (HT.sIx xs.length 0 lo)).take (HT.sIx xs.length xs.length hi-HT.sIx xs.length 0 lo),Heap.get?_push_size _ rfl⟩
theorem Gd0:Wo X (.type "list") (fun xs H Q=>∃ p ys,xs=[.ref p]/\(SqL X.K H p ys\/SqT X.K H p ys)/\∀ l,H l=none->Q (.ref l) (upd H l (.lst ys))):=by
 intro pins s σ H xs us Q I r h
 obtain⟨p,ys,rfl,hq,q⟩:=h
 obtain⟨u,rfl,rx⟩:=Ge3 r
 cases rx
 have fin:∀ (its:List Value),Vals ys its->ys.length<=sizeLine->∀ (h':Heap) (c':Nat),(∀ b o',s.heap.get? b=some o'->h'.get? b=some o')→
   h'.get? s.heap.objs.size=some { cls:=.type "list",dict:=none,data:=.seq its.toArray c',slots:=#[] }->EP X pins σ Q (.ref s.heap.objs.size) { s with heap:=h' }:=fun its r' hz h' c' kp e=>
  ⟨.ref s.heap.objs.size,_,I.laid (t':=s.toks) kp (Nat.le_refl _) (show Jw X.prog X.w _ h' _ (.lst ys) from⟨hz,its,c',r',e⟩),rfl,q _ (I.hok.fresh (Nat.le_refl _))⟩
 rcases hq with hq | hq
 ·obtain⟨its,r',pl,hz⟩:=I.list hq
  have hlen:=r'.length
  obtain⟨o,ho,hc,n,hd⟩:=pl.isList
  exact call_list_seq p (.inl rfl) ho hc hd (fun h' c' kp e=>fin its r' hz h' c' kp e) (by simp only[List.size_toArray]<;>omega)
 ·obtain⟨its,r',pl,hz⟩:=I.tuple hq
  have hlen:=r'.length
  obtain⟨o,ho,hc,n,hd⟩:=pl
  exact call_list_seq p (.inr rfl) ho hc hd (fun h' c' kp e=>fin its r' hz h' c' kp e) (by simp only[List.size_toArray]<;>omega)
theorem Gcr:Wo X (.type "tuple") (fun xs H Q=>∃ p ys,xs=[.ref p]/\((SqL X.K H p ys/\∀ l,H l=none->Q (.ref l) (upd H l (.tup ys)))\/(SqT X.K H p ys/\Q (.ref p) H))):=by
 intro pins s σ H xs us Q I r h
 obtain⟨p,ys,rfl,h⟩:=h
 obtain⟨u,rfl,rx⟩:=Ge3 r
 cases rx
 rcases h with⟨hq,q⟩ | ⟨hq,q⟩
 ·obtain⟨its,r',pl,hz⟩:=I.list hq
  have hlen:=r'.length
  refine call_tuple_list pl.isList (fun h' kp=>?_) (by simp only[List.size_toArray]<;>omega)
  have I1:Inv X pins σ H { s with heap:=h' }:=I.kept (t':=s.toks) kp
  have I2:Inv X pins σ (upd H h'.objs.size (.tup ys)) { s with heap:=h'.push { cls:=.type "tuple",data:=.seq its.toArray } }:=
   I1.laid (t':=s.toks) (fun b o e=>Heap.get?_push_of_some _ e) (Nat.le_refl _) (show Jw X.prog X.w _ _ _ (.tup ys) from⟨hz,its,r',IsTup.new _ _⟩)
  exact⟨.ref h'.objs.size,_,I2,rfl,q _ (I1.hok.fresh (Nat.le_refl _))⟩
 ·obtain⟨its,r',pl,hz⟩:=I.tuple hq
  exact call_tuple_same pl ⟨.ref p,H,I,rfl,q⟩
def tyV(K:PySem.W.Frag)(T:String)(x:V)(H:Hp):Prop:=match x with
 | .str _=>T="str"
 | .int _=>T="int"
 | .ref p=>(T="list"/\∃ xs,SqL K H p xs)\/(T="tuple"/\∃ o,K.lookup p=some o/\o.cls=.type "tuple"/\o.dict=none)∨
   (T="dict"/\((∃ kvs,H p=some (.dK kvs))\/∃ kvs,H p=some (.dT kvs)))\/(T="set"/\∃ S n,H p=some (.set S n))
 | _=>False
theorem Grj{s:Shared}{T:String}{x:V}{v:Value}(I:Inv X pins σ H s)(r:He x v)(ty:tyV X.K T x H):
  s.TypeIs v T/\∀ a,v=.ref a->∃ ob,s.heap.get? a=some ob/\ob.dict=none:=by
 cases x with
 | str z=>
  obtain⟨t,rfl⟩:=r
  cases (show T="str" from ty)
  exact⟨typeIs_str s z t,fun _ e=>nomatch e⟩
 | int i=>
  obtain⟨t,rfl⟩:=r
  cases (show T="int" from ty)
  exact⟨typeIs_int s i t,fun _ e=>nomatch e⟩
 | ref p=>
  cases r
  rcases ty with⟨rfl,xs,hq⟩ | ⟨rfl,o,hk,hc,hd⟩ | ⟨rfl,hk⟩ | ⟨rfl,S,n,hk⟩
  ·obtain⟨its,_,pl,_⟩:=I.list hq
   refine⟨pl.isList.typeIs,fun a e=>?_⟩
   cases e
   obtain⟨o,n,e,c,hd,_⟩:=pl
   exact⟨o,e,hd⟩
  ·refine⟨⟨o,I.kIn p o hk,hc⟩,fun a e=>?_⟩
   cases e
   exact⟨o,I.kIn _ o hk,hd⟩
  ·have z:∃ o,s.heap.get? p=some o/\o.ExactDict:=by
    rcases hk with⟨kvs,hk⟩ | ⟨kvs,hk⟩
    ·obtain⟨_,_,_,_,o,_,_,e,ex,_⟩:=I.hok p _ hk
     exact⟨o,e,ex⟩
    ·obtain⟨_,_,_,_,o,_,_,e,ex,_⟩:=I.hok p _ hk
     exact⟨o,e,ex⟩
   obtain⟨o,e,ex⟩:=z
   refine⟨⟨o,e,ex.1⟩,fun a e2=>?_⟩
   cases e2
   exact⟨o,e,ex.2.1⟩
  ·obtain⟨o,_,_,_,e,ex,_⟩:=I.hok p _ hk
   refine⟨⟨o,e,ex.1⟩,fun a e2=>?_⟩
   cases e2
   exact⟨o,e,ex.2.1⟩
 | _=>exact False.elim ty
def tBM(K:PySem.W.Frag)(T:String)(r:V->List V->Hp->VK->Prop)(to:TE)(t:TA):TE:=fun σ H Q=>to σ H fun x H1=>tyV K T x H1/\t σ H1 fun xs H2=>r x xs H2 Q
variable{o e:Expr}{es:List Expr}{to:TE}{t:TA}{name:Str}{apos cpos:Pos}{T id:String}{r:V->List V->Hp->VK->Prop}
theorem Gvs(pa:PlainAttrs T)(slot:Slot T name id)(hty:typeOf (.builtin id)=pure (.type "method_descriptor"))(hm:MtR X id r)(ho:PE X o to)(ha:PA X (e::es) t)
  (hbase:attributeBase o name X.env (eval o X.env)=eval o X.env:=by rfl)
  (hfew:((backTo cpos (starEach (e::es) X.env)).all (fun x=>!x.1)&&(backToKw cpos (keywordEach [] X.env)).all (fun x=>x.1.isSome)
   && decide ((e::es).length+([]:List Keyword).length+(if([]:List Keyword).isEmpty then 0 else 1)<30))=true:=by rfl)
  (hline:(apos.endLine==cpos.line)=true:=by rfl) (hs:starEach (e::es) X.env=(false,eval e X.env)::starEach es X.env:=by rfl) (hplain:(backTo cpos (starEach es X.env)).any (·.1)=false:=by rfl):
  PE X (.Call (.Attribute o name apos) (e::es) [] cpos) (tBM X.K T r to t):=by
 intro pins s σ H Q I h
 refine wpAny_Call_method_late hbase hfew hline rfl (thn (ho pins s σ H _ I h) fun v s1 ⟨x,H1,I1,r1,ty,q1⟩=>?_)
 obtain⟨h1,h2⟩:=Grj I1 r1 ty
 refine⟨T,id,pa,slot,hty,h1,h2,?_⟩
 have hA:=ha cpos pins s1 σ H1 _ I1 q1
 rw[hs] at hA ⊢
 refine Calls.callWith_builtin (by show(false||(backTo cpos (starEach es X.env)).any (·.1))=false; rw[hplain]<;>rfl) (Calls.evalArgs_plain ?_)
 exact thn hA fun us s2 ⟨vs,H2,I2,r2,q2⟩=>hm pins s2 σ H2 x vs v us Q I2 r1 r2 q2
end
def MtM(X:Cx)(id:String)(r:V->List V->Hp->VK->Prop):Prop:=
 ∀ (pins:List (Addr×Obj)) (s:Shared) (σ:St) (H:Hp) (x:V) (xs:List V) (v:Value) (us:List Value) (Q:VK),Inv X pins σ H s->He x v->Vals xs us->r x xs H Q→
  wpAny (model X.prog X.w) X.A (call (.builtin id) (v::us)) (EP X pins σ Q) X.xe s
theorem Vals.one:∀ {x:V} {us:List Value},Vals [x] us->∃ u,us=[u]/\He x u
 | _,_,.cons r .nil=>⟨_,rfl,r⟩
theorem Vals.two:∀ {x y:V} {us:List Value},Vals [x,y] us->∃ u v,us=[u,v]/\He x u/\He y v
 | _,_,_,.cons r (.cons q .nil)=>⟨_,_,rfl,r,q⟩
theorem Vals.eraseIdx:∀ {xs:List V} {us:List Value} (i:Nat),Vals xs us->Vals (xs.eraseIdx i) (us.eraseIdx i)
 | _,_,_,.nil=>.nil
 | _,_,0,.cons _ t=>t
 | _,_,i+1,.cons r t=>.cons r (Vals.eraseIdx i t)
theorem Vals.rep{us:List Value}(h:Vals xs us):∀ k:Nat,Vals (List.replicate k xs).flatten (List.replicate k us).flatten
 | 0=>.nil
 | k+1=>by
  rw[List.replicate_succ,List.replicate_succ,List.flatten_cons,List.flatten_cons]
  exact Vals.append h (Vals.rep h k)
theorem Gdf{α:Type}:∀ (l:List α) (i:Nat),(l.eraseIdx i).length<=l.length
 | [],_=>Nat.le_refl _
 | _::_,0=>Nat.le_succ _
 | _::r,i+1=>Nat.succ_le_succ (Gdf r i)
theorem Zl(its:List Value):∀ (k:Nat) (acc:List Value),
  List.foldl (fun x1 x2=>x1++x2) acc.toArray (List.replicate k its.toArray)=(acc++(List.replicate k its).flatten).toArray
 | 0,acc=>by simp
 | k+1,acc=>by
  have e:acc.toArray++its.toArray=(acc++its).toArray:=by simp
  have e2:(acc++its)++(List.replicate k its).flatten=acc++(List.replicate (k+1) its).flatten:=by
   rw[List.replicate_succ,List.flatten_cons,List.append_assoc]
  rw[<- e2,<- Zl its k (acc++its),<- e,List.replicate_succ,List.foldl_cons]
section
variable{X:Cx}{pins:List (Addr×Obj)}{σ:St}{H:Hp}{s:Shared}{l b:Addr}{xs ys zs:List V}
theorem Inv.lset{its':List Value}{f:Array Value->Array Value}{t':Nat}(I:Inv X pins σ H s)(hH:H l=some (.lst xs))(e:s.heap.get? l=some { cls:=.type "list",data:=.seq its.toArray n })(hf:f its.toArray=its'.toArray)(hv:Vals ys its')(hz:ys.length<=sizeLine):
  Inv X pins σ (upd H l (.lst ys)) { s with heap:=s.heap.update l (Obj.mapSeq f),toks:=t' }:=by
 have q:=PySem.IsL.update e f
 rw[hf] at q
 refine I.write (x:=l) (e:=l) (by rw[hH]; exact trivial) (.inl rfl) (fun b' u hb hu=>(Heap.get?_update_other s.heap (Obj.mapSeq f) (Ne.symm hb)).trans hu) ⟨_,q⟩ ?_
 exact⟨hz,its',_,hv,q⟩
theorem Inv.lnew{t':Nat}(I:Inv X pins σ H s)(hv:Vals ys its)(hz:ys.length<=sizeLine):
  Inv X pins σ (upd H s.heap.objs.size (.lst ys)) { s with heap:=s.heap.push { cls:=.type "list",data:=.seq its.toArray },toks:=t' }:=
 I.laid (fun _ _ q=>Heap.get?_push_of_some _ q) (Nat.le_refl _) ⟨hz,its,0,hv,Heap.get?_push_size _ rfl⟩
theorem Inv.fresh(I:Inv X pins σ H s):H s.heap.objs.size=none:=I.hok.fresh (Nat.le_refl _)
theorem Inv.lstM(I:Inv X pins σ H s)(hH:H l=some (.lst xs)):xs.length<=sizeLine/\∃ (its:List Value) (n:Nat),Vals xs its/\xs.length=its.length/\s.heap.get? l=some { cls:=.type "list",data:=.seq its.toArray n }:=by
 obtain⟨z,its,n,r,e⟩:=I.hok l _ hH
 exact⟨z,its,n,r,r.length,e⟩
theorem Gjj(h:n<=sizeLine):Builtin.List.listTooLong n=false:=by
 unfold Builtin.List.listTooLong
 exact decide_eq_false (by omega)
end
section
variable{X:Cx}
def Gg9:V->List V->Hp->VK->Prop:=fun x vs H Q=>∃ l xs y,x=.ref l/\vs=[y]/\H l=some (.lst xs)/\xs.length<sizeLine/\Q .non (upd H l (.lst (xs++[y])))
theorem Gdg:MtM X "list.append" Gg9:=by
 intro pins s σ H x vs v us Q I rx rv h
 obtain⟨l,xs,y,rfl,rfl,hH,hz,q⟩:=h
 cases rx
 obtain⟨u,rfl,ru⟩:=rv.one
 obtain⟨z,its,n,r,hl,e⟩:=I.lstM hH
 refine call_meets F.slot_list_append ⟨_,e,rfl⟩ F.entry_list_append (F.args_list_append_2 _ _) (PySem.list_append l its.toArray n u (by rw[List.size_toArray]; omega)) ⟨e,?_⟩
 refine⟨.non,_,I.lset (its':=its++[u]) hH e (by simp) (r.append (.cons ru .nil)) ?_,rfl,q⟩
 rw[List.length_append,List.length_singleton]
 omega
def Gjk:V->List V->Hp->VK->Prop:=fun x vs H Q=>∃ l xs i k y,x=.ref l/\vs=[.int i]/\H l=some (.lst xs) /\ -(2^63)<=i/\i<2^63/\seqIndex? i xs.length=some k/\xs[k]?=some y/\Q y (upd H l (.lst (xs.eraseIdx k)))
theorem Gjl:MtM X "list.pop" Gjk:=by
 intro pins s σ H x vs v us Q I rx rv h
 obtain⟨l,xs,i,k,y,rfl,rfl,hH,h1,h2,hk,hy,q⟩:=h
 cases rx
 obtain⟨u,rfl,ru⟩:=rv.one
 obtain⟨t,rfl⟩:=ru
 obtain⟨z,its,n,r,hl,e⟩:=I.lstM hH
 obtain⟨w,hw,rw'⟩:=r.get hy
 refine call_meets F.slot_list_pop ⟨_,e,rfl⟩ F.entry_list_pop (F.args_list_pop_2 _ _)
  (MeetsSeq.list_pop_at l its.toArray n i t k w (fitsIndex_both h1 h2) (by rw[List.size_toArray,<- hl]; exact hk) (by rw[<- Array.getElem?_toList]; exact hw) (by rw[List.size_toArray]; omega)) ⟨e,?_⟩
 refine⟨y,_,I.lset (its':=its.eraseIdx k) hH e ?_ (r.eraseIdx k) ?_,rw',q⟩
 ·show its.toArray.eraseIdxIfInBounds k=(its.eraseIdx k).toArray
  rw[List.eraseIdxIfInBounds_toArray]
 ·have:=Gdf xs k
  omega
def Gvt:R2:=fun x y H Q=>∃ l b xs zs,x=.ref l/\y=.ref b/\H l=some (.lst xs)/\H b=some (.lst zs)/\xs.length+zs.length<=sizeLine/\∀ p,H p=none->Q (.ref p) (upd H p (.lst (xs++zs)))
theorem Grk:OpR X (binaryOp .Add) Gvt:=by
 intro pins s σ H x y v u Q I rx ry h
 obtain⟨l,b,xs,zs,rfl,rfl,hH,hB,hz,q⟩:=h
 cases rx
 cases ry
 obtain⟨z,its,n,r,hl,e⟩:=I.lstM hH
 obtain⟨z2,its2,n2,r2,hl2,e2⟩:=I.lstM hB
 refine PySem.P.add_list e e2 ?_ (by rw[List.size_toArray,List.size_toArray]; omega)
 have ea:its.toArray++its2.toArray=(its++its2).toArray:=by simp
 rw[ea]
 exact⟨.ref _,_,I.lnew (t':=s.toks) (r.append r2) (by rw[List.length_append]; omega),rfl,q _ I.fresh⟩
def Gvu:R2:=fun x y H Q=>∃ l k xs,x=.ref l/\y=.int k/\H l=some (.lst xs) /\ -(2^63)<=k/\k<2^63/\xs.length*k.toNat<=sizeLine∧
 ∀ p,H p=none->Q (.ref p) (upd H p (.lst (List.replicate k.toNat xs).flatten))
theorem Gd1{α:Type}(xs:List α)(k:Nat):(List.replicate k xs).flatten.length=k*xs.length:=by
 induction k with
 | zero=>simp
 | succ k ih=>rw[List.replicate_succ,List.flatten_cons,List.length_append,ih,Nat.succ_mul,Nat.add_comm]
theorem Grl:OpR X (binaryOp .Mult) Gvu:=by
 intro pins s σ H x y v u Q I rx ry h
 obtain⟨l,k,xs,rfl,rfl,hH,h1,h2,hz,q⟩:=h
 cases rx
 obtain⟨t,rfl⟩:=ry
 obtain⟨z,its,n,r,hl,e⟩:=I.lstM hH
 have hlen:its.toArray.size*k.toNat<=sizeLine:=by rw[List.size_toArray,<- hl]; exact hz
 have hcap:¬ its.toArray.size*k.toNat>(2^63-1) / 8:=by
  have:(sizeLine:Nat)<=(2^63-1) / 8:=by decide
  omega
 have hfit:¬ (!Builtin.List.listFitsIndex k)=true:=by
  rw[fitsIndex_both h1 h2]
  exact Bool.false_ne_true
 have hlong:¬ Builtin.List.listTooLong (its.toArray.size*k.toNat)=true:=by
  rw[Gjj hlen]
  exact Bool.false_ne_true
 have hnew:List.foldl (fun x1 x2=>x1++x2) #[] (List.replicate (if its.toArray.isEmpty=true then 0 else k.toNat) its.toArray)=(List.replicate k.toNat its).flatten.toArray:=by
  have f0:∀ m:Nat,List.foldl (fun x1 x2=>x1++x2) #[] (List.replicate m its.toArray)=(List.replicate m its).flatten.toArray:=fun m=>by
   have:=Zl its m []
   rw[List.nil_append] at this
   exact this
  rw[f0]
  cases its with
  | nil=>simp
  | cons a r'=>rw[if_neg (by simp)]
 refine wpAny_binaryOp_repeat_ref (T:="list") (U:="int") (by decide) ⟨_,e,rfl⟩ (fun s'=>typeIs_int s' k t) noFill_list_mul F.fills_int_mul F.slot_int_rmul repeat_list F.slot_int_index.lookup
  (call_meets F.slot_int_rmul (typeIs_int s k t) F.entry_int_rmul (F.args_int_rmul_2 _ _) (int___rmul___int_list k t l its.toArray n)
   ⟨e,rfl,⟨_,e,rfl⟩,call_meets F.slot_list_mul ⟨_,e,rfl⟩ F.entry_list_mul (F.args_list_mul_2 _ _) (AutoListH.list___mul___list_int_3 l its.toArray n k t hfit hcap hlong) ⟨e,?_⟩⟩)
 rw[hnew]
 exact⟨.ref _,_,I.lnew (t':=s.toks) (r.rep k.toNat) (by rw[Gd1,Nat.mul_comm]; exact hz),rfl,q _ I.fresh⟩
end
end L2
namespace Att
open PySem PySem.W PySem.Calls PyProof.Rows
theorem Gao{P:Params}{h:Heap}:∀ (ns:List Int) (vs:List Value),WellAll P h vs (ns.map WData.int)->IntsAre vs ns:=by
 intro ns
 induction ns with
 | nil=>
  intro vs w
  rw[List.map_nil] at w
  cases w
  exact .nil
 | cons n ns ih=>
  intro vs w
  rw[List.map_cons] at w
  cases w with
  | cons a b=>
   cases a
   exact .cons _ _ (ih _ b)
theorem Gia{l:OpenLaw}{n:Nat}(hn:l.most=some n){P:Params}{h:Heap}{args:List WData}{vals:List Value}
  (hpre:l.row.toRowW.claim.pre args=true) (hwl:WellAll P h vals args):
  ∃ a vs ns,vals=[Value.ref a]/\args=[WData.list (ns.map WData.int)]/\h.get? a=some { cls:=.type "list",data:=.seq vs.toArray }/\IntsAre vs ns/\ns.length<=n:=by
 have hsh:WShape.hasAll [] args [.list .int]=true:=(pre_splitW hpre).1
 have hc:l.pre.holds [] { args:=args }=true:=(pre_splitW hpre).2
 obtain⟨d,r,rfl,h1,h2⟩:=hasAllW_cons hsh
 obtain rfl:=hasAllW_nil h2
 obtain⟨xs,rfl,h3⟩:=hasW_list h1
 obtain⟨ns,rfl⟩:=items_int h3
 have hlen:ns.length<=n:=by
  unfold OpenLaw.pre at hc
  have h4:(WTm.not (.lt (.lit (.int (n:Int))) (.len (.arg 0)))).holds [] { args:=[.list (ns.map .int)] }=true:=by
   have h4:=(holds_andW hc).1
   rw[hn] at h4
   exact h4
  have h5:=condW_of h4 (w_not (w_lt w_lit (w_len_list (w_arg rfl))))
  rw[List.length_map] at h5
  refine Nat.le_of_not_lt fun q=>?_
  have q':(n:Int)<((ns.length:Nat):Int):=by omega
  first
   | (rw[decide_eq_true q'] at h5; exact absurd h5 (by decide))
   | (simp at h5; omega)
 cases hwl with
 | cons w1 w2=>
  cases w2
  cases w1 with
  | list ho hall=>exact⟨_,_,ns,rfl,rfl,ho,Gao ns _ hall,hlen⟩
theorem post_true(l:OpenLaw)(args:List WData):l.row.toRowW.claim.post args (.bool true) args=true:=
 postW_of (r:=l.row.toRowW) (X:=(true==true))
  (show WShape.has [] (.bool true) .bool=true by first | rfl | decide | simp[WShape.has,WShape.arms,WShape.armsAll])
  (show(WTm.eq .res (.lit (.bool true))).value [] { args:=args,res:=some (.bool true),after:=args }=some (.bool (true==true)) from w_eq_bool (w_res rfl) w_lit) rfl
theorem attach_call{l:OpenLaw}{n:Nat}{q:Program}{loose:List Str}{XP:(Str->Option Value)->Heap->Prop}{YP:World->Heap->Prop}{d:DefRec}
  (hn:l.most=some n) (hdf:d.params.defaults=[])
  (call:∀ (w:World) (s₀ s₁:Shared) (mg mb:Str->Option Value) (fa:Addr) (o:Obj) (pm cd doc:Value) (a:Addr) (vs:List Value) (ns:List Int),
   Ground q loose [] XP w s₀ mg mb s₁.heap->YP w s₁.heap→
   s₁.heap.get? fa=some o->o.data=.func (docDef d.name d.params d.body d.scope pm cd doc)->s₁.heap.CodeRec cd d.name->mg d.name=some (.ref fa)→
   s₁.heap.get? a=some { cls:=.type "list",data:=.seq vs.toArray }->IntsAre vs ns->ns.length<=n->s₁.gens=#[]→
   codeAny (model l.prog w) callerA (.call (.ref fa) ⟨[.ref a],[]⟩) (fun r s'=>r=.ok (.ret (.bool true))/\OldK s₁.heap s'.heap/\s'.os=s₁.os/\AllBare s'.gens) s₁):
  WalkO q loose XP YP l.row.toRowW d [] (fun f vs=>PySem.call f vs):=by
 intro w s₀ s₁ mg mb G Y fa o pm cd doc dV kV ho hd hcd hD hmg hg args vals as hpre hlay hrd hwl hlo
 obtain rfl:dV=.none:=Dflts.none hD hdf
 obtain rfl:kV=.none:=Dflts.noKw hD
 obtain⟨a,vs,ns,rfl,rfl,hobj,hints,hlen⟩:=Gia hn hpre hwl
 refine enter_call (codeAny_mono (call w s₀ s₁ mg mb fa o pm cd doc a vs ns G Y ho (fd_plain hd) hcd hmg hobj hints hlen hg) fun r s' hq=>?_)
 obtain⟨rfl,h2,h3,h4⟩:=hq
 exact⟨.inl ⟨.bool true,.bool true,[],rfl,fun _=>rfl,.bool true,post_true l _,fun _=>⟨List.Pairwise.nil,fun _ hm=>(nomatch hm)⟩⟩,h2,h3,h4⟩
end Att
namespace L2
open PySem PySem.Spec PyProof.Rows
variable{k:Nat}{qual:Str}{st:Stmt}
theorem Gdh:∀ {vs:List Value} {ns:List Int},IntsAre vs ns->Vals (ns.map V.int) vs
 | _,_,.nil=>.nil
 | _,_,.cons n t h=>.cons ⟨t,rfl⟩ (Gdh h)
def Only(H:Hp):Prop:=∀ b,H b=none\/∃ o xs,H b=some (.frz o (.lst xs))
theorem Gjm{P:Program}{w:World}{K:PySem.W.Frag}{mg mb:Str->Option Value}{CX:CXT}{fa a:Addr}{fd:FuncData}{x:Str}{sp:Sp}{s₁:Shared}{vs:List Value}{ns:List Int}(KX:K.In s₁.heap)(hns:s₁.heap.Ns mainGlobals mg)(hb:s₁.heap.Ns builtinsNs mb)(hbb:∀ x:Str,x≠"__name__"->mb x=bootBuiltins x)(hlim:s₁.heap.NoLimit)(hg:s₁.gens=#[])(ha:s₁.heap.get? a=some { cls:=.type "list",data:=.seq vs.toArray })(hi:IntsAre vs ns)(hl:ns.length<=sizeLine)(hr:Room k callerA)(F:∀ base:Heap,K.In base->base.Ns mainGlobals mg->FnOk P w K mg base CX k fa fd [x] sp)(hbind:∀ (s:Shared) (u:Value),BindsTo s fd ⟨[u],[]⟩ [(x,u)])(hsp:∀ H:Hp,Only H->SqL K H a (ns.map V.int)->sp [.ref a] H (fun v _=>v=.bl true) fun _ _ _=>False)(hCX:∀ H e s',CX [] H s₁ (fun _ _ _=>False) e s'->False):
  codeAny (model P w) callerA (.call (.ref fa) ⟨[.ref a],[]⟩) (fun r s'=>r=.ok (.ret (.bool true))/\OldK s₁.heap s'.heap/\s'.os=s₁.os/\AllBare s'.gens) s₁:=by
 have rv:=Gdh hi
 have lenV:=hi.length
 have core:∀ H:Hp,Only H->SqL K H a (ns.map V.int)->HOk P w H s₁.heap->(∀ b,H b≠none->b=a)->(H a≠none->K.lookup a=none)→
   codeAny (model P w) callerA (.call (.ref fa) ⟨[.ref a],[]⟩) (fun r s'=>r=.ok (.ret (.bool true))/\OldK s₁.heap s'.heap/\s'.os=s₁.os/\AllBare s'.gens) s₁:=by
  intro H hO hS hok hA hK
  have base_of:∀ {b:Addr} {o:Obj},s₁.heap.get? b=some o->H b=none->(Gdx s₁.heap H).get? b=some o:=fun e n=>Gi0 e n
  have noA:∀ {b:Addr} {o:Obj} {es:Array DictEntry} {ep:Nat},s₁.heap.get? b=some o->o.data=.dict es ep->H b=none:=fun{b o es ep} e d=>by
   cases q:H b with
   | none=>rfl
   | some u=>
    have e':b=a:=hA b (by rw[q]; simp)
    subst e'
    rw[ha] at e; cases e
    have d':Data.seq vs.toArray _=Data.dict es ep:=d
    cases d'
  have nsK:∀ {b:Addr} {m:Str->Option Value},s₁.heap.Ns b m->(Gdx s₁.heap H).Ns b m:=fun{b m} ⟨o,es,ep,e,d,r⟩=>⟨o,es,ep,base_of e (noA e d),d,r⟩
  have hKb:K.In (Gdx s₁.heap H):=fun b o e=>base_of (KX b o e) (by
   cases q:H b with
   | none=>rfl
   | some u=>
    have e':b=a:=hA b (by rw[q]; simp)
    subst e'
    rw[hK (by rw[q]; simp)] at e; cases e)
  have hM:Mod K mg (Gdx s₁.heap H):=⟨hKb,nsK hns,⟨mb,nsK hb,hbb⟩,let ⟨mc,h1,h2⟩:=hlim; ⟨mc,nsK h1,h2⟩⟩
  have e0:Env0 P w K mg (Gdx s₁.heap H) callerA [] s₁ H:=⟨rfl,hM,fun b o e=>of_hidT e,Nat.le_of_eq (Gh2 _ _),trivial,fun b hb=>absurd (show b∈([]:List Addr) from hb) (by simp),hok,.of_eq hg⟩
  refine codeAny_mono ((F _ hKb (nsK hns)).run callerA [] s₁ H ⟨[.ref a],[]⟩ [.ref a] [.ref a] _ _ hr e0 (hbind s₁ (.ref a)) (.cons rfl .nil) (hsp H hO hS)) fun r s' h=>?_
  cases r with
  | error e=>exact(hCX H e s' h).elim
  | ok fl=>
   cases fl with
   | next=>exact False.elim h
   | brk=>exact False.elim h
   | cont=>exact False.elim h
   | ret u=>
    obtain⟨v,H',os,bare,un,hok',r',q⟩:=h
    have q':v=.bl true:=q
    subst q'
    obtain rfl:u=Value.bool true:=r'
    refine⟨rfl,OldK.of_keep fun b o e=>?_,os,bare⟩
    cases q:H b with
    | none=>exact un.keep b o e q (by intro z; exact absurd (show b∈([]:List Addr) from z) (by simp)) (by simp)
    | some u=>
     rcases hO b with z | ⟨ob,xs,z⟩
     ·rw[q] at z; cases z
     ·have z2:=un.frzs b ob _ z
      obtain⟨e1,_⟩:=hok b _ z
      obtain⟨e2,_⟩:=hok' b _ z2
      rw[e] at e1; cases e1
      exact e2
 cases hk:K.lookup a with
 | some o=>
  have e:=KX a o hk
  rw[ha] at e
  cases e
  refine core (fun _=>none) (fun _=>.inl rfl) (.inr ⟨_,vs.toArray,_,hk,rfl,rfl,rfl,by rw[List.size_toArray,lenV]; exact hl,by simpa using rv⟩) (fun b u z=>by have z':(none:Option HO)=some u:=z; cases z') (fun b z=>absurd rfl z) fun z=>absurd rfl z
 | none=>
  refine core (fun b=>if b=a then some (.frz { cls:=.type "list",data:=.seq vs.toArray } (.lst (ns.map V.int))) else none) (fun b=>?_) (.inl (.inr ⟨{ cls:=.type "list",data:=.seq vs.toArray },if_pos rfl⟩)) (fun b u z=>?_) (fun b z=>?_) fun _=>hk
  ·by_cases hb:b=a
   ·exact .inr ⟨_,_,if_pos hb⟩
   ·exact .inl (if_neg hb)
  ·by_cases hb:b=a
   ·have z':=(if_pos hb).symm.trans z
    cases z'
    subst hb
    exact⟨ha,by rw[List.length_map]; exact hl,vs,_,rv,ha⟩
   ·have z':=(if_neg hb).symm.trans z
    cases z'
  ·by_cases hb:b=a
   ·exact hb
   ·exact absurd (if_neg hb) z
theorem Gmu{l:PySem.W.OpenLaw}{n:Nat}{q:Program}{loose:List Str}{XP:(Str->Option Value)->Heap->Prop}{YP:World->Heap->Prop}{d:DefRec}{K:Params->PySem.W.Frag}{CX:World->CXT}{sp:World->Sp}{x:Str}(hn:l.most=some n)(hn2:n<=sizeLine)(hdf:d.params.defaults=[])(hr:Room k callerA)(hY:∀ (w:World) (h:Heap),YP w h->(K w.params).In h)(F:∀ (w:World) (mg:Str->Option Value) (fa:Addr) (h:Heap),(K w.params).In h->h.Ns mainGlobals mg->mg d.name=some (.ref fa)→
   ∃ fd:FuncData,(∀ (s:Shared) (u:Value),BindsTo s fd ⟨[u],[]⟩ [(x,u)])∧
    ∀ base:Heap,(K w.params).In base->base.Ns mainGlobals mg->FnOk l.prog w (K w.params) mg base (CX w) k fa fd [x] (sp w))(hsp:∀ (w:World) (H:Hp) (a:Addr) (ns:List Int),ns.length<=n->Only H->SqL (K w.params) H a (ns.map V.int)->sp w [.ref a] H (fun v _=>v=.bl true) fun _ _ _=>False)(hCX:∀ (w:World) (H:Hp) (s:Shared) (e:Value) (s':Shared),CX w [] H s (fun _ _ _=>False) e s'->False):
  PySem.W.WalkO q loose XP YP l.row.toRowW d [] (fun f vs=>PySem.call f vs):=by
 refine Att.attach_call hn hdf fun w s₀ s₁ mg mb fa o pm cd doc a vs ns G Y ho hd hcd hmg hobj hints hlen hg=>?_
 have KX:=hY w _ Y
 obtain⟨fd,hb,hF⟩:=F w mg fa _ KX G.T.g hmg
 exact Gjm KX G.T.g G.T.b G.T.builtins G.T.nolimit hg hobj hints (Nat.le_trans hlen hn2) hr hF hb (fun H hO hS=>hsp w H a ns hlen hO hS) fun H e s'=>hCX w H s₁ e s'
theorem Gjn{l:PySem.W.OpenLaw}{n:Nat}{q:Program}{loose:List Str}{XP:(Str->Option Value)->Heap->Prop}{YP:World->Heap->Prop}{d:DefRec}{K:Params->PySem.W.Frag}{CX:CXT}{sp:PySem.W.Frag->Sp}{x:Str}(hn:l.most=some n)(hn2:n<=sizeLine)(hdf:d.params.defaults=[])(hr:Room k callerA)(hY:∀ (w:World) (h:Heap),YP w h->(K w.params).In h)(F:∀ (w:World) (mg:Str->Option Value) (fa:Addr) (h:Heap),(K w.params).In h->h.Ns mainGlobals mg->mg d.name=some (.ref fa)→
   ∃ fd:FuncData,(∀ (s:Shared) (u:Value),BindsTo s fd ⟨[u],[]⟩ [(x,u)])∧
    ∀ base:Heap,(K w.params).In base->base.Ns mainGlobals mg->FnOk l.prog w (K w.params) mg base CX k fa fd [x] (sp (K w.params)))(hsp:∀ (K:PySem.W.Frag) (H:Hp) (a:Addr) (ns:List Int),ns.length<=n->Only H->SqL K H a (ns.map V.int)->sp K [.ref a] H (fun v _=>v=.bl true) fun _ _ _=>False)(hCX:∀ (H:Hp) (s:Shared) (e:Value) (s':Shared),CX [] H s (fun _ _ _=>False) e s'->False):
  PySem.W.WalkO q loose XP YP l.row.toRowW d [] (fun f vs=>PySem.call f vs):=
 Gmu (K:=K) (CX:=fun _=>CX) (sp:=fun w=>sp (K w.params)) hn hn2 hdf hr hY F (fun w H a ns h1 h2 h3=>hsp (K w.params) H a ns h1 h2 h3) fun _ H s e s'=>hCX H s e s'
def Hu(s:Stmt):Arguments:=match s with
 | .FunctionDef _ a _ _ _ _ _ _ _ _=>a
 | _=>{ posonlyargs:=[],args:=[],vararg:=none,kwonlyargs:=[],kw_defaults:=[],kwarg:=none,defaults:=[] }
def Ha(s:Stmt):List Stmt:=match s with
 | .FunctionDef _ _ b _ _ _ _ _ _ _=>b
 | _=>[]
def Gf(s:Stmt):Scope:=match s with
 | .FunctionDef _ _ _ _ _ _ sc _ _ _=>sc
 | _=>{ kind:=.function,names:=[],isGenerator:=false,isCoroutine:=false }
abbrev CX0:CXT:=fun _ _ _ _ _ _=>False
abbrev E0:XK:=fun _ _ _=>False
theorem Gvv{X:Cx}:Passes CX0 X E0:=fun _ _ _ _ _ _ _ h=>h.elim
structure Fun(K:PySem.W.Frag)(x qual:Str)(st:Stmt)(f:Addr)(fd:FuncData):Prop where
 ex:∃ (oc:Value) (od:Option Addr) (kV doc pm:Value) (an:Option Addr) (cdv ct:Value) (osl:Array (Option Value)),
  fd=PySem.W.fnOf x qual (Hu st) (Ha st) (Gf st) .none kV doc pm an cdv ct/\K.lookup f=some ⟨oc,od,.func fd,osl⟩/\PySem.W.codeIn K cdv qual=true
 kp:PySem.W.keepIn K (.ref f)=true
section
variable{P:Program}{w:World}{K:PySem.W.Frag}{mg:Str->Option Value}{base:Heap}
theorem Fun.ok{x:Str}{f:Addr}{fd:FuncData}{N ps:List Str}{sp:Sp}(F:Fun K x qual st f fd)(S:FnScope N ps (Gf st))(len:∀ vs H Q E,sp vs H Q E->vs.length=ps.length)(hbody:∀ (cdv:Value) (A:Around) (outer:List Env) (s:Shared) (H:Hp) (vs:List V) (Q:VK) (E:XK),Room k (A.deeper (envOfC qual (Gf st) s.heap.objs.size f cdv))->sp vs H Q E→
   ∃ t,PSs (Kq CX0 P w K mg base N qual (Gf st) f cdv A outer s H E).nox (Ha st) t/\t { nx:=fun _ H'=>Q .non H',rt:=Q } (start N vs) H):FnOk P w K mg base CX0 (k+1) f fd ps sp:=by
 obtain⟨oc,od,kV,doc,pm,an,cdv,ct,osl,rfl,lk,hcd⟩:=F.ex
 refine Gjf lk hcd S len fun A outer s H vs Q E hr hsp=>?_
 obtain⟨t,h,q⟩:=hbody cdv A outer s H vs Q E hr hsp
 exact⟨t,h.nox,q⟩
theorem Fun.binds{x:Str}{f:Addr}{fd:FuncData}{ps:List Str}(F:Fun K x qual st f fd)(h:∀ (kV doc pm:Value) (an:Option Addr) (cdv ct:Value) (us:List Value),us.length=ps.length->bindArgs (PySem.W.fnOf x qual (Hu st) (Ha st) (Gf st) .none kV doc pm an cdv ct) ⟨us,[]⟩=pure (ps.zip us)):Binds K fd ps []:=by
 obtain⟨oc,od,kV,doc,pm,an,cdv,ct,osl,rfl,lk,hcd⟩:=F.ex
 exact .all (h kV doc pm an cdv ct)
theorem Gd2{x:Str}{f:Addr}{oc:Value}{od an:Option Addr}{osl:Array (Option Value)}{kV doc pm cdv ct:Value}(l:K.lookup f=some ⟨oc,od,.func (PySem.W.fnOf x qual (Hu st) (Ha st) (Gf st) .none kV doc pm an cdv ct),osl⟩)(c:PySem.W.codeIn K cdv qual=true)(k:PySem.W.keepIn K (.ref f)=true):Fun K x qual st f (PySem.W.fnOf x qual (Hu st) (Ha st) (Gf st) .none kV doc pm an cdv ct):=⟨⟨oc,od,kV,doc,pm,an,cdv,ct,osl,rfl,l,c⟩,k⟩
end
end L2
namespace DL
open PySem PySem.Spec PyProof.Rows L2
inductive D where
 | non | bl (b:Bool) | int (i:Int) | str (x:Str) | tup (l:List D) | lst (i:Nat) | exn (c:Str) (n:Option Int) | fv (x:Str) | dct (i:Nat)
structure Cell where
 fz:Bool
 xs:List D
abbrev Sto:=List Cell
abbrev Lc:=List (Option D)
structure XD where
 cls:Str
 fld:Option Int
inductive Out(α:Type) where
 | ok (a:α) (S:Sto)
 | exc (x:XD) (S:Sto)
 | bad
def Out.bind{α β:Type}(o:Out α)(g:α->Sto->Out β):Out β:=
 match o with
 | .ok a S=>g a S
 | .exc x S=>.exc x S
 | .bad=>.bad
structure XCl(K:PySem.W.Frag)(c:Addr):Prop where
 ga:PySem.W.findIn K (.ref c) "__getattribute__"=some (some (.builtin "BaseException.__getattribute__"))
 gt:PySem.W.findIn K (.ref c) "__getattr__"=some none
 cl:PySem.W.findIn K (.ref c) "__class__"=some (some (.builtin "object.__class__"))
 cd:(PySem.W.clsIn K c).isSome=true
 ob:PySem.W.mroIn K c (.type "object")=some true
 be:PySem.W.subIn K (.ref c) (.type "BaseException")=some true
 bt:∀ T∈["bool","int","str","tuple","list"],PySem.W.kitOne K (.ref c) (.type T)=some false
def CN(K:PySem.W.Frag)(y:Str)(c:Addr):Prop:=PySem.W.nsIn K mainGlobals y=some (some (.ref c))
theorem CN.one{K:PySem.W.Frag}{y:Str}{c d:Addr}(h:CN K y c)(g:CN K y d):c=d:=Value.ref.inj (Option.some.inj (Option.some.inj (h.symm.trans g)))
def XO(a c:Addr)(dx:Option Addr):HO:=.ext fun h=>∃ oe,h.get? a=some oe/\oe.cls=.ref c/\oe.dict=dx/\∃ vs,oe.data=.fields vs
def XA(d:Addr)(n:Int):HO:=.ext fun h=>∃ t,h.Ns d fun y=>if y="at" then some (.int n t) else none
def Dcy(H:Hp)(a:Addr):Prop:=∃ kvs,H a=some (.dT kvs)
mutual
def Rep(K:PySem.W.Frag)(mp:List Addr)(H:Hp):D->V->Prop
 | .non,v=>v=.non
 | .bl b,v=>v=.bl b
 | .int i,v=>v=.int i
 | .str x,v=>v=.str x
 | .tup l,v=>∃ a xs,v=.ref a/\SqT K H a xs/\RepL K mp H l xs
 | .lst i,v=>∃ a,v=.ref a/\mp[i]?=some a/\¬ Dcy H a
 | .exn c n,v=>∃ a dx p,v=.ref a/\(CN K c p/\XCl K p/\H a=some (XO a p dx))/\∀ i,n=some i->∃ d,dx=some d/\H d=some (XA d i)
 | .fv x,v=>∃ a,v=.ref a/\CN K x a
 | .dct i,v=>∃ a,v=.ref a/\mp[i]?=some a/\Dcy H a
def RepL(K:PySem.W.Frag)(mp:List Addr)(H:Hp):List D->List V->Prop
 | [],vs=>vs=[]
 | d::l,vs=>∃ v r,vs=v::r/\Rep K mp H d v/\RepL K mp H l r
end
structure Aft(K:PySem.W.Frag)(mp:List Addr)(H:Hp)(mp':List Addr)(H':Hp):Prop where
 pre:∀ (i:Nat) (a:Addr),mp[i]?=some a->mp'[i]?=some a
 tup:∀ a xs,SqT K H a xs->SqT K H' a xs
 ext:∀ a φ,H a=some (.ext φ)->H' a=some (.ext φ)
 ndc:∀ (i:Nat) (a:Addr),mp[i]?=some a->¬ Dcy H a->¬ Dcy H' a
 dcy:∀ a,Dcy H a->Dcy H' a
theorem Aft.refl{K:PySem.W.Frag}{mp:List Addr}{H:Hp}:Aft K mp H mp H:=⟨fun _ _ h=>h,fun _ _ h=>h,fun _ _ h=>h,fun _ _ _ h=>h,fun _ h=>h⟩
theorem Aft.trans{K:PySem.W.Frag}{mp mp1 mp2:List Addr}{H H1 H2:Hp}(a:Aft K mp H mp1 H1)(b:Aft K mp1 H1 mp2 H2):Aft K mp H mp2 H2:=
 ⟨fun i x h=>b.pre i x (a.pre i x h),fun x xs h=>b.tup x xs (a.tup x xs h),fun x f h=>b.ext x f (a.ext x f h),fun i x e h=>b.ndc i x (a.pre i x e) (a.ndc i x e h),fun x h=>b.dcy x (a.dcy x h)⟩
mutual
theorem Rep.aft{K:PySem.W.Frag}{mp mp':List Addr}{H H':Hp}(a:Aft K mp H mp' H'):∀ (d:D) (v:V),Rep K mp H d v->Rep K mp' H' d v
 | .non,v,h=>h
 | .bl _,v,h=>h
 | .int _,v,h=>h
 | .str _,v,h=>h
 | .tup l,v,h=>by
  obtain⟨p,xs,e,s,r⟩:=(show ∃ a xs,v=.ref a/\SqT K H a xs/\RepL K mp H l xs from h)
  exact⟨p,xs,e,a.tup _ _ s,RepL.aft a l xs r⟩
 | .lst i,v,h=>by
  obtain⟨p,e,s,n⟩:=(show ∃ a,v=.ref a/\mp[i]?=some a/\¬ Dcy H a from h)
  exact⟨p,e,a.pre _ _ s,a.ndc _ _ s n⟩
 | .exn c n,v,h=>by
  obtain⟨p,dx,q,e,⟨s0,s1,s⟩,r⟩:=(show ∃ a dx p,v=.ref a/\(CN K c p/\XCl K p/\H a=some (XO a p dx))/\∀ i,n=some i->∃ d,dx=some d/\H d=some (XA d i) from h)
  exact⟨p,dx,q,e,⟨s0,s1,a.ext _ _ s⟩,fun i z=>let ⟨d,z1,z2⟩:=r i z; ⟨d,z1,a.ext _ _ z2⟩⟩
 | .fv x,v,h=>h
 | .dct i,v,h=>by
  obtain⟨p,e,s,n⟩:=(show ∃ a,v=.ref a/\mp[i]?=some a/\Dcy H a from h)
  exact⟨p,e,a.pre _ _ s,a.dcy _ n⟩
theorem RepL.aft{K:PySem.W.Frag}{mp mp':List Addr}{H H':Hp}(a:Aft K mp H mp' H'):∀ (l:List D) (vs:List V),RepL K mp H l vs->RepL K mp' H' l vs
 | [],vs,h=>h
 | d::l,vs,h=>by
  obtain⟨v,r,e,h1,h2⟩:=(show ∃ v r,vs=v::r/\Rep K mp H d v/\RepL K mp H l r from h)
  exact⟨v,r,e,Rep.aft a d v h1,RepL.aft a l r h2⟩
end
section
variable{K:PySem.W.Frag}{mp:List Addr}{H:Hp}
theorem RepL.nil:RepL K mp H [] []:=rfl
theorem RepL.cons{d:D}{v:V}{l:List D}{r:List V}(h:Rep K mp H d v)(t:RepL K mp H l r):RepL K mp H (d::l) (v::r):=⟨v,r,rfl,h,t⟩
theorem RepL.len:∀ {l:List D} {vs:List V},RepL K mp H l vs->vs.length=l.length
 | [],vs,h=>by cases (show vs=[] from h); rfl
 | d::l,vs,h=>by
  obtain⟨v,r,e,h1,h2⟩:=h
  subst e
  simp[RepL.len h2]
theorem RepL.get:∀ {l:List D} {vs:List V} {i:Nat} {d:D},RepL K mp H l vs->l[i]?=some d->∃ v,vs[i]?=some v/\Rep K mp H d v
 | [],_,_,_,_,e=>by simp at e
 | d::l,vs,0,_,h,e=>by
  obtain⟨v,r,q,h1,h2⟩:=h
  subst q
  simp at e
  subst e
  exact⟨v,rfl,h1⟩
 | d::l,vs,i+1,x,h,e=>by
  obtain⟨v,r,q,h1,h2⟩:=h
  subst q
  obtain⟨v',a,b⟩:=RepL.get (i:=i) (d:=x) h2 (by simpa using e)
  exact⟨v',by simpa using a,b⟩
theorem RepL.append:∀ {l m:List D} {vs ws:List V},RepL K mp H l vs->RepL K mp H m ws->RepL K mp H (l++m) (vs++ws)
 | [],m,vs,ws,h,g=>by cases (show vs=[] from h); exact g
 | d::l,m,vs,ws,h,g=>by
  obtain⟨v,r,q,h1,h2⟩:=h
  subst q
  exact⟨v,r++ws,rfl,h1,RepL.append h2 g⟩
theorem RepL.take:∀ {l:List D} {vs:List V} (n:Nat),RepL K mp H l vs->RepL K mp H (l.take n) (vs.take n)
 | [],vs,n,h=>by cases (show vs=[] from h); simp; exact RepL.nil
 | d::l,vs,0,h=>by simp; exact RepL.nil
 | d::l,vs,n+1,h=>by
  obtain⟨v,r,q,h1,h2⟩:=h
  subst q
  simpa using RepL.cons h1 (RepL.take n h2)
theorem RepL.drop:∀ {l:List D} {vs:List V} (n:Nat),RepL K mp H l vs->RepL K mp H (l.drop n) (vs.drop n)
 | [],vs,n,h=>by cases (show vs=[] from h); simp; exact RepL.nil
 | d::l,vs,0,h=>by simpa using h
 | d::l,vs,n+1,h=>by
  obtain⟨v,r,q,h1,h2⟩:=h
  subst q
  simpa using RepL.drop n h2
theorem RepL.set:∀ {l:List D} {vs:List V} {d:D} {v:V} (n:Nat),RepL K mp H l vs->Rep K mp H d v->RepL K mp H (l.set n d) (vs.set n v)
 | [],vs,d,v,n,h,g=>by cases (show vs=[] from h); simp; exact RepL.nil
 | x::l,vs,d,v,0,h,g=>by
  obtain⟨v',r,q,h1,h2⟩:=h
  subst q
  simpa using RepL.cons g h2
 | x::l,vs,d,v,n+1,h,g=>by
  obtain⟨v',r,q,h1,h2⟩:=h
  subst q
  simpa using RepL.cons h1 (RepL.set n h2 g)
end
def SqF(K:PySem.W.Frag)(H:Hp)(a:Addr)(xs:List V):Prop:=
 (∃ o,H a=some (.frz o (.lst xs)))∨
  ∃ (o:Obj) (its:Array Value) (n:Nat),K.lookup a=some o/\o.cls=.type "list"/\o.dict=none/\o.data=.seq its n/\its.size<=sizeLine/\Vals xs its.toList
theorem SqF.sq{K:PySem.W.Frag}{H:Hp}{a:Addr}{xs:List V}(h:SqF K H a xs):SqL K H a xs:=by
 rcases h with h | h
 ·exact .inl (.inr h)
 ·exact .inr h
def Gvw(K:PySem.W.Frag)(mp:List Addr)(H:Hp)(a:Addr)(c:Cell):Prop:=
 ∃ xs,RepL K mp H c.xs xs/\(if c.fz=true then SqF K H a xs else H a=some (.lst xs))
mutual
def nkO:D->Option NK
 | .int i=>some (.i i)
 | .tup l=>(nkOs l).map .t
 | _=>none
def nkOs:List D->Option (List NK)
 | []=>some []
 | d::r=>(nkO d).bind fun k=>(nkOs r).map fun q=>k::q
end
def Gap(K:PySem.W.Frag)(mp:List Addr)(H:Hp)(d:D)(q:NK×Addr×V):Prop:=
 ∃ k e,d=.tup [k,e]/\(nkO k=some q.1/\(pk q.1).depth<=8)/\Rep K mp H k (.ref q.2.1)/\Rep K mp H e q.2.2
def Gvx(K:PySem.W.Frag)(mp:List Addr)(H:Hp)(a:Addr)(c:Cell):Prop:=
 c.fz=false/\∃ kvs,H a=some (.dT kvs)/\Paired (Gap K mp H) c.xs kvs
theorem Gap.aft{K:PySem.W.Frag}{mp mp':List Addr}{H H':Hp}(a:Aft K mp H mp' H'){d:D}{q:NK×Addr×V}(p:Gap K mp H d q):Gap K mp' H' d q:=
 let ⟨k,e,h1,h2,h3,h4⟩:=p; ⟨k,e,h1,h2,Rep.aft a _ _ h3,Rep.aft a _ _ h4⟩
def Zm(K:PySem.W.Frag)(mp:List Addr)(H:Hp)(a:Addr)(c:Cell):Prop:=Gvw K mp H a c\/Gvx K mp H a c
theorem Zm.low{K:PySem.W.Frag}{mp:List Addr}{H:Hp}{a:Addr}{c:Cell}(q:Zm K mp H a c)(f:c.fz=false):∃ o,H a=some o:=by
 rcases q with⟨xs,_,e⟩ | ⟨_,kvs,e,_⟩
 ·rw[f,if_neg Bool.false_ne_true] at e; exact⟨_,e⟩
 ·exact⟨_,e⟩
structure RS(K:PySem.W.Frag)(mp:List Addr)(H:Hp)(S:Sto):Prop where
 len:mp.length=S.length
 cell:∀ (i:Nat) (a:Addr) (c:Cell),mp[i]?=some a->S[i]?=some c->Zm K mp H a c
 inj:∀ (i j:Nat) (a:Addr) (ci cj:Cell),mp[i]?=some a->mp[j]?=some a->S[i]?=some ci->S[j]?=some cj->ci.fz=false->cj.fz=false->i=j
structure Gd(K:PySem.W.Frag)(mp:List Addr)(H:Hp)(σ:L2.St)(ρ:Lc)(S:Sto):Prop where
 rs:RS K mp H S
 len:σ.length=ρ.length
 loc:∀ (i:Nat) (d:D),ρ[i]?=some (some d)->∃ v,σ[i]?=some (some v)/\Rep K mp H d v
theorem Gd.aft{K:PySem.W.Frag}{mp mp':List Addr}{H H':Hp}{σ:L2.St}{ρ:Lc}{S S':Sto}(g:Gd K mp H σ ρ S)(a:Aft K mp H mp' H')(r:RS K mp' H' S'):Gd K mp' H' σ ρ S':=
 ⟨r,g.len,fun i d h=>let ⟨v,e,q⟩:=g.loc i d h; ⟨v,e,q.aft a⟩⟩
abbrev XW:=XD->List Addr->Hp->L2.St->Lc->Sto->Prop
abbrev RL(α β:Type):=List Addr->Hp->α->β->Prop
def Gm{α β:Type}(K:PySem.W.Frag)(R:RL α β)(XQ:XW)(σ:L2.St)(ρ:Lc)(mp:List Addr)(H:Hp)(o:Out α)(Q:β->Hp->Prop):Prop:=
 match o with
 | .ok d S=>∀ mp' H' v,Aft K mp H mp' H'->RS K mp' H' S->R mp' H' d v->Q v H'
 | .exc x S=>∀ mp' H',Aft K mp H mp' H'->Gd K mp' H' σ ρ S->XQ x mp' H' σ ρ S
 | .bad=>False
theorem Gm.aft{α β:Type}{K:PySem.W.Frag}{R:RL α β}{XQ:XW}{σ:L2.St}{ρ:Lc}{mp mp':List Addr}{H H':Hp}{o:Out α}{Q:β->Hp->Prop}(p:Gm K R XQ σ ρ mp H o Q)(a:Aft K mp H mp' H'):Gm K R XQ σ ρ mp' H' o Q:=by
 cases o with
 | ok d S=>exact fun m h v b=>p m h v (a.trans b)
 | exc x S=>exact fun m h b=>p m h (a.trans b)
 | bad=>exact p
theorem Gm.ok{α β:Type}{K:PySem.W.Frag}{R:RL α β}{XQ:XW}{σ:L2.St}{ρ:Lc}{mp:List Addr}{H:Hp}{d:α}{S:Sto}{v:β}{Q:β->Hp->Prop}(p:Gm K R XQ σ ρ mp H (.ok d S) Q)(r:RS K mp H S)(h:R mp H d v):Q v H:=p mp H v .refl r h
abbrev Post(K:PySem.W.Frag)(XQ:XW):=Gm (β:=V) K (Rep K) XQ
abbrev Ev(α:Type):=Lc->Sto->Out α
def rdG{α β:Type}(K:PySem.W.Frag)(R:RL α β)(XQ:XW)(f:Ev α):L2.St->Hp->(β->Hp->Prop)->Prop:=fun σ H Q=>∃ mp ρ S,Gd K mp H σ ρ S/\Gm K R XQ σ ρ mp H (f ρ S) Q
def kB:RL Bool Bool:=fun _ _ a b=>b=a
def kO:RL (Option Int) (Option Int):=fun _ _ a b=>b=a
abbrev rdE(K:PySem.W.Frag)(XQ:XW)(f:Ev D):TE:=rdG K (Rep K) XQ f
abbrev rdA(K:PySem.W.Frag)(XQ:XW)(f:Ev (List D)):TA:=rdG K (RepL K) XQ f
abbrev rdT(K:PySem.W.Frag)(XQ:XW)(f:Ev Bool):TT:=rdG K kB XQ f
abbrev rdO(K:PySem.W.Frag)(XQ:XW)(f:Ev (Option Int)):TO:=rdG K kO XQ f
def JE(X:Cx)(XQ:XW)(e:Expr)(f:Ev D):Prop:=PE X e (rdE X.K XQ f)
def JA(X:Cx)(XQ:XW)(es:List Expr)(f:Ev (List D)):Prop:=PA X es (rdA X.K XQ f)
def JT(X:Cx)(XQ:XW)(e:Expr)(f:Ev Bool):Prop:=PT X e (rdT X.K XQ f)
def JW(X:Cx)(XQ:XW)(e:Expr)(f:Ev Bool):Prop:=PW X e (rdT X.K XQ f)
def JO(X:Cx)(XQ:XW)(e:Option Expr)(f:Ev (Option Int)):Prop:=PO X e (rdO X.K XQ f)
theorem PE.mono{X:Cx}{e:Expr}{t t':TE}(h:PE X e t)(m:∀ σ H Q,t' σ H Q->t σ H Q):PE X e t':=fun pins s σ H Q I q=>h pins s σ H Q I (m σ H Q q)
theorem PT.mono{X:Cx}{e:Expr}{t t':TT}(h:PT X e t)(m:∀ σ H Q,t' σ H Q->t σ H Q):PT X e t':=fun pins s σ H Q I q=>h pins s σ H Q I (m σ H Q q)
theorem PW.mono{X:Cx}{e:Expr}{t t':TT}(h:PW X e t)(m:∀ σ H Q,t' σ H Q->t σ H Q):PW X e t':=fun wh pins s σ H Q I q=>h wh pins s σ H Q I (m σ H Q q)
theorem PO.mono{X:Cx}{e:Option Expr}{t t':TO}(h:PO X e t)(m:∀ σ H Q,t' σ H Q->t σ H Q):PO X e t':=fun pins s σ H Q I q=>h pins s σ H Q I (m σ H Q q)
theorem PA.mono{X:Cx}{e:List Expr}{t t':TA}(h:PA X e t)(m:∀ σ H Q,t' σ H Q->t σ H Q):PA X e t':=fun pos pins s σ H Q I q=>h pos pins s σ H Q I (m σ H Q q)
theorem PS.mono{X:Cx}{e:Stmt}{t t':TS}(h:PS X e t)(m:∀ D σ H,t' D σ H->t D σ H):PS X e t':=fun pins s σ H D I q=>h pins s σ H D I (m D σ H q)
theorem PSs.mono{X:Cx}{e:List Stmt}{t t':TS}(h:PSs X e t)(m:∀ D σ H,t' D σ H->t D σ H):PSs X e t':=fun pins s σ H D I q=>h pins s σ H D I (m D σ H q)
theorem bindP{α β γ δ:Type}{K:PySem.W.Frag}{R:RL α β}{R':RL γ δ}{XQ:XW}{mp:List Addr}{H:Hp}{σ:L2.St}{ρ:Lc}{S:Sto}{f:Ev α}{g:α->Sto->Out γ}{Q:δ->Hp->Prop}{Q1:β->Hp->Prop}(G:Gd K mp H σ ρ S)(p:Gm K R' XQ σ ρ mp H ((f ρ S).bind g) Q)
  (k:∀ mp1 H1 d S1 v,Aft K mp H mp1 H1->Gd K mp1 H1 σ ρ S1->R mp1 H1 d v->Gm K R' XQ σ ρ mp1 H1 (g d S1) Q->Q1 v H1):rdG K R XQ f σ H Q1:=by
 refine⟨mp,ρ,S,G,?_⟩
 cases e:f ρ S with
 | ok d S1=>
  rw[e] at p
  exact fun mp1 H1 v a rs r=>k mp1 H1 d S1 v a (G.aft a rs) r (Gm.aft p a)
 | exc x S1=>rw[e] at p; exact p
 | bad=>rw[e] at p; exact p
def vr(i:Nat):Ev D:=fun ρ S=>match ρ[i]? with
 | some (some d)=>.ok d S
 | _=>.bad
def cn(d:D):Ev D:=fun _ S=>.ok d S
section
variable{X:Cx}{XQ:XW}
theorem Gjo(i:Nat){x:Str}{pos:Pos}(hN:X.N[i]?=some x:=by rfl)(hv:Vis X.env.scope x:=by first | exact Or.inl rfl | exact Or.inr (Or.inl rfl) | exact Or.inr (Or.inr rfl))(hd:(x==("__debug__":Str))=false:=by decide)
  (hcd:(x==("__classdict__":Str))=false:=by decide):JE X XQ (.Name x pos) (vr i):=by
 refine PE.mono (Gf4 hN hv hd hcd) fun σ H Q ⟨mp,ρ,S,G,p⟩=>?_
 unfold vr at p
 cases e:ρ[i]? with
 | none=>rw[e] at p; exact p.elim
 | some o=>
  rw[e] at p
  cases o with
  | none=>exact p.elim
  | some d=>
   obtain⟨v,h1,h2⟩:=G.loc i d e
   exact⟨v,h1,Gm.ok p G.rs h2⟩
theorem Wq{e:Expr}{d:D}{v:V}(h:PE X e (tC v))(r:∀ mp H,Rep X.K mp H d v):JE X XQ e (cn d):=
 PE.mono h fun σ H Q ⟨mp,ρ,S,G,p⟩=>Gm.ok p G.rs (r mp H)
theorem Grm{i:Int}{j pos}:JE X XQ (.Constant (.int i) j pos) (cn (.int i)):=Wq Gqk fun _ _=>rfl
theorem Gvy{b:Bool}{j pos}:JE X XQ (.Constant (.bool b) j pos) (cn (.bl b)):=Wq Gu5 fun _ _=>rfl
theorem Grn{j pos}:JE X XQ (.Constant .none j pos) (cn .non):=Wq Gql fun _ _=>rfl
theorem Gro{x:Str}{j pos}:JE X XQ (.Constant (.str x) j pos) (cn (.str x)):=Wq Gqm fun _ _=>rfl
def an:Ev (List D):=fun _ S=>.ok [] S
def ac(f:Ev D)(g:Ev (List D)):Ev (List D):=fun ρ S=>(f ρ S).bind fun x S1=>(g ρ S1).bind fun xs S2=>.ok (x::xs) S2
theorem Grp:JA X XQ [] an:=PA.mono Gf9 fun σ H Q ⟨mp,ρ,S,G,p⟩=>Gm.ok p G.rs RepL.nil
theorem Gmv{e:Expr}{es:List Expr}{f:Ev D}{g:Ev (List D)}(ha:JE X XQ e f)(hr:JA X XQ es g)(hs:starEach (e::es) X.env=(false,eval e X.env)::starEach es X.env:=by rfl):JA X XQ (e::es) (ac f g):=by
 refine PA.mono (Yo ha hr hs) fun σ H Q ⟨mp,ρ,S,G,p⟩=>?_
 refine bindP G p fun mp1 H1 x S1 v a1 G1 r1 p1=>?_
 refine bindP G1 p1 fun mp2 H2 xs S2 vs a2 G2 r2 p2=>?_
 exact Gm.ok p2 G2.rs (RepL.cons (Rep.aft a2 _ _ r1) r2)
theorem Ub{K:PySem.W.Frag}{mp:List Addr}{H:Hp}{p:Addr}{o:HO}(h:H p=none)(hd:∀ kvs,o≠.dT kvs:=by intro _ z; cases z):Aft K mp H mp (upd H p o):=by
 refine⟨fun _ _ e=>e,fun a xs s=>?_,fun a φ s=>by rw[Gs (Hc s h)]; exact s,fun i a e n ⟨kvs,z⟩=>?_,fun a ⟨kvs,z⟩=>⟨kvs,by rw[Gs (Hc z h)]; exact z⟩⟩
 ·rcases s with(s | ⟨ob,s⟩) | s
  ·exact .inl (.inl (by rw[Gs (Hc s h)]; exact s))
  ·exact .inl (.inr ⟨ob,by rw[Gs (Hc s h)]; exact s⟩)
  ·exact .inr s
 ·by_cases hb:a=p
  ·subst hb; rw[Hj] at z; exact hd kvs (Option.some.inj z)
  ·rw[Gs hb] at z; exact n ⟨kvs,z⟩
theorem Gmw{K:PySem.W.Frag}{H:Hp}{p a:Addr}{o:HO}{xs:List V}(h:H p=none)(s:SqF K H a xs):SqF K (upd H p o) a xs:=by
 rcases s with⟨ob,s⟩ | s
 ·exact .inl ⟨ob,by rw[Gs (Hc s h)]; exact s⟩
 ·exact .inr s
theorem Zm.new{K:PySem.W.Frag}{mp mp':List Addr}{H:Hp}{p a:Addr}{o:HO}{c:Cell}(h:H p=none)(af:Aft K mp H mp' (upd H p o))(q:Zm K mp H a c):Zm K mp' (upd H p o) a c:=by
 rcases q with⟨xs,r,e⟩ | ⟨f,kvs,e,r⟩
 case inr=>exact .inr ⟨f,kvs,by rw[Gs (Hc e h)]; exact e,Paired.mapP r fun _ _ z=>z.aft af⟩
 refine .inl ⟨xs,RepL.aft af _ _ r,?_⟩
 cases z:c.fz with
 | true=>rw[z] at e; exact(if_pos rfl).mpr (Gmw h ((if_pos rfl).mp e))
 | false=>
  rw[z,if_neg Bool.false_ne_true] at e
  rw[if_neg Bool.false_ne_true,Gs (Hc e h)]
  exact e
theorem RS.new{K:PySem.W.Frag}{mp:List Addr}{H:Hp}{S:Sto}{p:Addr}{o:HO}(r:RS K mp H S)(h:H p=none)(hd:∀ kvs,o≠.dT kvs:=by intro _ z; cases z):RS K mp (upd H p o) S:=
 ⟨r.len,fun i a c e1 e2=>(r.cell i a c e1 e2).new h (Ub h hd),r.inj⟩
theorem RS.newL{K:PySem.W.Frag}{mp:List Addr}{H:Hp}{S:Sto}{p:Addr}{ds:List D}{vs:List V}(r:RS K mp H S)(h:H p=none)(q:RepL K mp H ds vs):
  Aft K mp H (mp++[p]) (upd H p (.lst vs))/\RS K (mp++[p]) (upd H p (.lst vs)) (S++[⟨false,ds⟩])/\(mp++[p])[S.length]?=some p:=by
 have af:Aft K mp H (mp++[p]) (upd H p (.lst vs)):=⟨fun i a e=>by rw[List.getElem?_append_left (List.getElem?_eq_some_iff.mp e).1]; exact e,(Ub (mp:=mp) h).tup,(Ub (K:=K) (mp:=mp) h).ext,(Ub (K:=K) (mp:=mp) h).ndc,(Ub (K:=K) (mp:=mp) h).dcy⟩
 have hl:=r.len
 have lastp:(mp++[p])[S.length]?=some p:=by rw[<- hl]; simp
 refine⟨af,⟨by simp[hl],fun i a c e1 e2=>?_,fun i j a ci cj e1 e2 e3 e4 f1 f2=>?_⟩,lastp⟩
 ·by_cases hi:i<S.length
  ·rw[List.getElem?_append_left (by omega)] at e1
   rw[List.getElem?_append_left hi] at e2
   exact(r.cell i a c e1 e2).new h af
  ·have hi':i=S.length:=by
    have:=(List.getElem?_eq_some_iff.mp e2).1
    simp at this
    omega
   subst hi'
   rw[lastp] at e1
   cases e1
   simp at e2
   subst e2
   exact .inl ⟨vs,RepL.aft af _ _ q,by simp[Hj]⟩
 ·have old:∀ (i:Nat) (a:Addr) (c:Cell),i<S.length->(mp++[p])[i]?=some a->(S++[⟨false,ds⟩])[i]?=some c->c.fz=false->mp[i]?=some a/\S[i]?=some c/\a≠p:=fun i a c hi e1 e2 f=>by
   rw[List.getElem?_append_left (by omega)] at e1
   rw[List.getElem?_append_left hi] at e2
   refine⟨e1,e2,?_⟩
   obtain⟨o,e⟩:=(r.cell i a c e1 e2).low f
   exact Hc e h
  have hi:=(List.getElem?_eq_some_iff.mp e3).1
  have hj:=(List.getElem?_eq_some_iff.mp e4).1
  simp at hi hj
  by_cases hi':i<S.length
  ·obtain⟨o1,o2,o3⟩:=old i a ci hi' e1 e3 f1
   by_cases hj':j<S.length
   ·obtain⟨u1,u2,u3⟩:=old j a cj hj' e2 e4 f2
    exact r.inj i j a ci cj o1 u1 o2 u2 f1 f2
   ·have:j=S.length:=by omega
    subst this
    rw[lastp] at e2
    cases e2
    exact absurd rfl o3
  ·have:i=S.length:=by omega
   subst this
   rw[lastp] at e1
   cases e1
   by_cases hj':j<S.length
   ·obtain⟨u1,u2,u3⟩:=old j _ cj hj' e2 e4 f2
    exact absurd rfl u3
   ·omega
theorem RS.setL{K:PySem.W.Frag}{mp:List Addr}{H:Hp}{S:Sto}{i:Nat}{a:Addr}{c:Cell}{xs vs:List V}{ds:List D}(r:RS K mp H S)(hi:mp[i]?=some a)(hc:S[i]?=some c)(hf:c.fz=false)(ha:H a=some (.lst xs))(q:RepL K mp H ds vs):
  Aft K mp H mp (upd H a (.lst vs))/\RS K mp (upd H a (.lst vs)) (S.set i ⟨false,ds⟩):=by
 have af:Aft K mp H mp (upd H a (.lst vs)):=by
  refine⟨fun _ _ e=>e,fun b ys s=>?_,fun b φ s=>by rw[Gs (Wm s ha (by intro z; cases z))]; exact s,fun j b e n ⟨kvs,z⟩=>?_,fun b ⟨kvs,z⟩=>⟨kvs,by rw[Gs (Wm z ha (by intro z; cases z))]; exact z⟩⟩
  ·rcases s with(s | ⟨ob,s⟩) | s
   ·exact .inl (.inl (by rw[Gs (Wm s ha (by intro z; cases z))]; exact s))
   ·exact .inl (.inr ⟨ob,by rw[Gs (Wm s ha (by intro z; cases z))]; exact s⟩)
   ·exact .inr s
  ·by_cases hb:b=a
   ·subst hb; rw[Hj] at z; cases z
   ·rw[Gs hb] at z; exact n ⟨kvs,z⟩
 refine⟨af,⟨by simp[r.len],fun j b cj e1 e2=>?_,fun j k b cj ck e1 e2 e3 e4 f1 f2=>?_⟩⟩
 ·by_cases hj:j=i
  ·subst hj
   rw[hi] at e1
   cases e1
   rw[List.getElem?_set_self (List.getElem?_eq_some_iff.mp hc).1] at e2
   cases e2
   exact .inl ⟨vs,RepL.aft af _ _ q,by simp[Hj]⟩
  ·rw[List.getElem?_set_ne (Ne.symm hj)] at e2
   rcases r.cell j b cj e1 e2 with⟨ys,h1,h2⟩ | ⟨f,kvs,e,rr⟩
   case inr=>exact .inr ⟨f,kvs,by rw[Gs (Wm e ha (by intro z; cases z))]; exact e,Paired.mapP rr fun _ _ z=>z.aft af⟩
   refine .inl ⟨ys,RepL.aft af _ _ h1,?_⟩
   cases z:cj.fz with
   | true=>
    rw[z] at h2
    have h2:SqF K H b ys:=(if_pos rfl).mp h2
    refine(if_pos rfl).mpr ?_
    rcases h2 with⟨ob,s⟩ | s
    ·exact .inl ⟨ob,by rw[Gs (Wm s ha (by intro z; cases z))]; exact s⟩
    ·exact .inr s
   | false=>
    rw[z,if_neg Bool.false_ne_true] at h2
    rw[if_neg Bool.false_ne_true]
    have hb:b≠a:=fun hb=>by
     subst hb
     exact hj (r.inj j i b cj c e1 hi e2 hc z hf)
    rw[Gs hb]
    exact h2
 ·have fz:∀ (j:Nat) (cj:Cell),(S.set i ⟨false,ds⟩)[j]?=some cj->cj.fz=false->∃ c',S[j]?=some c'/\c'.fz=false:=fun j cj e f=>by
   by_cases hj:j=i
   ·subst hj
    exact⟨c,hc,hf⟩
   ·rw[List.getElem?_set_ne (Ne.symm hj)] at e
    exact⟨cj,e,f⟩
  obtain⟨c1,g1,g2⟩:=fz j cj e3 f1
  obtain⟨c2,g3,g4⟩:=fz k ck e4 f2
  exact r.inj j k b c1 c2 e1 e2 g1 g3 g2 g4
theorem RS.items{K:PySem.W.Frag}{mp:List Addr}{H:Hp}{S:Sto}{i:Nat}{c:Cell}{v:V}(r:RS K mp H S)(h:Rep K mp H (.lst i) v)(e:S[i]?=some c):∃ a xs,v=.ref a/\mp[i]?=some a/\SqL K H a xs/\RepL K mp H c.xs xs/\(c.fz=false->H a=some (.lst xs)):=by
 obtain⟨a,ev,ea,n⟩:=(show ∃ a,v=.ref a/\mp[i]?=some a/\¬ Dcy H a from h)
 rcases r.cell i a c ea e with⟨xs,q,z⟩ | ⟨f,kvs,e,rr⟩
 case inr=>exact absurd ⟨kvs,e⟩ n
 cases f:c.fz with
 | true=>rw[f] at z; exact⟨a,xs,ev,ea,((if_pos rfl).mp z:SqF K H a xs).sq,q,fun w=>nomatch w⟩
 | false=>rw[f,if_neg Bool.false_ne_true] at z; exact⟨a,xs,ev,ea,SqL.of z,q,fun _=>z⟩
theorem Rep.nd{K:PySem.W.Frag}{mp:List Addr}{H:Hp}{i:Nat}{a:Addr}(h:Rep K mp H (.lst i) (.ref a)):¬ Dcy H a:=by
 obtain⟨b,e,_,n⟩:=(show ∃ b,V.ref a=.ref b/\mp[i]?=some b/\¬ Dcy H b from h)
 cases e
 exact n
theorem Gge{H:Hp}{a:Addr}{xs:List V}(h:H a=some (.lst xs)):¬ Dcy H a:=fun⟨_,z⟩=>by rw[h] at z; cases z
theorem Rep.tup{K:PySem.W.Frag}{mp:List Addr}{H:Hp}{l:List D}{v:V}(h:Rep K mp H (.tup l) v):∃ a xs,v=.ref a/\SqT K H a xs/\RepL K mp H l xs:=h
def OpD(K:PySem.W.Frag)(r:R2)(o:D->D->Sto->Out D):Prop:=
 ∀ (XQ:XW) (σ:L2.St) (ρ:Lc) (mp:List Addr) (H:Hp) (S:Sto) (x y:D) (v u:V) (Q:VK),RS K mp H S->Rep K mp H x v->Rep K mp H y u->Post K XQ σ ρ mp H (o x y S) Q->r v u H Q
def o2(o:D->D->Sto->Out D)(fa fb:Ev D):Ev D:=fun ρ S=>(fa ρ S).bind fun x S1=>(fb ρ S1).bind fun y S2=>o x y S2
theorem Gmx{r:R2}{o:D->D->Sto->Out D}{fa fb:Ev D}(hd:OpD X.K r o):∀ σ H Q,rdE X.K XQ (o2 o fa fb) σ H Q->tOp r (rdE X.K XQ fa) (rdE X.K XQ fb) σ H Q:=by
 intro σ H Q ⟨mp,ρ,S,G,p⟩
 refine bindP G p fun mp1 H1 x S1 v a1 G1 r1 p1=>?_
 refine bindP G1 p1 fun mp2 H2 y S2 u a2 G2 r2 p2=>?_
 exact hd XQ σ ρ mp2 H2 S2 x y v u Q G2.rs (Rep.aft a2 _ _ r1) r2 p2
theorem Gdi{a b:Expr}{fa fb:Ev D}{op:Operator}{r:R2}{o:D->D->Sto->Out D}{pos:Pos}(ho:OpR X (binaryOp op) r)(hd:OpD X.K r o)(ha:JE X XQ a fa)(hb:JE X XQ b fb):JE X XQ (.BinOp a op b pos) (o2 o fa fb):=
 PE.mono (Gvg ho ha hb) (Gmx hd)
theorem Gbj{a b:Expr}{fa fb:Ev D}{op:CmpOp}{r:R2}{o:D->D->Sto->Out D}{pos:Pos}(ho:OpR X (compareOp op) r)(hd:OpD X.K r o)(ha:JE X XQ a fa)(hb:JE X XQ b fb)(hm:behindInMarks op b=false):JE X XQ (.Compare a [op] [b] pos) (o2 o fa fb):=
 PE.mono (Gmk ho ha hb hm) (Gmx hd)
theorem Gpi{a b:Expr}{fa fb:Ev D}{r:R2}{o:D->D->Sto->Out D}{pos:Pos}(hr:IxR X r)(hd:OpD X.K r o)(ha:JE X XQ a fa)(hb:JE X XQ b fb)(hs:Yq b):JE X XQ (.Subscript a b pos) (o2 o fa fb):=
 PE.mono (Gvo hr ha hb hs) (Gmx hd)
def UnD(K:PySem.W.Frag)(r:V->Hp->VK->Prop)(o:D->Sto->Out D):Prop:=
 ∀ (XQ:XW) (σ:L2.St) (ρ:Lc) (mp:List Addr) (H:Hp) (S:Sto) (x:D) (v:V) (Q:VK),RS K mp H S->Rep K mp H x v->Post K XQ σ ρ mp H (o x S) Q->r v H Q
def o1(o:D->Sto->Out D)(fa:Ev D):Ev D:=fun ρ S=>(fa ρ S).bind fun x S1=>o x S1
theorem Gvz{a:Expr}{fa:Ev D}{op:UnaryOp}{r:V->Hp->VK->Prop}{o:D->Sto->Out D}{pos:Pos}(ho:UnR X (unaryOp op) r)(hd:UnD X.K r o)(ha:JE X XQ a fa):JE X XQ (.UnaryOp op a pos) (o1 o fa):=by
 refine PE.mono (Gvh ho ha) fun σ H Q ⟨mp,ρ,S,G,p⟩=>?_
 exact bindP G p fun mp1 H1 x S1 v a1 G1 r1 p1=>hd XQ σ ρ mp1 H1 S1 x v Q G1.rs r1 p1
def tp(f:Ev (List D)):Ev D:=fun ρ S=>(f ρ S).bind fun xs S1=>if xs.length<=1000000 then .ok (.tup xs) S1 else .bad
def ls(f:Ev (List D)):Ev D:=fun ρ S=>(f ρ S).bind fun xs S1=>if xs.length<=1000000 then .ok (.lst S1.length) (S1++[⟨false,xs⟩]) else .bad
theorem line_le{n:Nat}(h:n<=1000000):n<=sizeLine:=Nat.le_trans h (by decide)
theorem Wr{K:PySem.W.Frag}{σ:L2.St}{ρ:Lc}{mp:List Addr}{H:Hp}{S:Sto}{ds:List D}{vs:List V}{Q:VK}{p:Addr}(po:Post K XQ σ ρ mp H (.ok (.tup ds) S) Q)(r:RS K mp H S)(q:RepL K mp H ds vs)(h:H p=none):Q (.ref p) (upd H p (.tup vs)):=by
 have af:Aft K mp H mp (upd H p (.tup vs)):=Ub h
 exact po mp _ _ af (r.new h) ⟨p,vs,rfl,SqT.of Hj,RepL.aft af _ _ q⟩
theorem Vg{K:PySem.W.Frag}{σ:L2.St}{ρ:Lc}{mp:List Addr}{H:Hp}{S:Sto}{ds:List D}{vs:List V}{Q:VK}{p:Addr}(po:Post K XQ σ ρ mp H (.ok (.lst S.length) (S++[⟨false,ds⟩])) Q)(r:RS K mp H S)(q:RepL K mp H ds vs)(h:H p=none):Q (.ref p) (upd H p (.lst vs)):=by
 obtain⟨af,rs,e⟩:=r.newL h q
 exact po _ _ _ af rs ⟨p,rfl,e,Gge Hj⟩
theorem Grq{es:List Expr}{f:Ev (List D)}{x1}{pos:Pos}(h:JA X XQ es f):JE X XQ (.Tuple es x1 pos) (tp f):=by
 refine PE.mono (Grb h) fun σ H Q ⟨mp,ρ,S,G,p⟩=>?_
 refine bindP G p fun mp1 H1 xs S1 vs a1 G1 r1 p1=>?_
 by_cases hl:xs.length<=1000000
 ·rw[if_pos hl] at p1
  exact⟨by rw[r1.len]; exact line_le hl,fun q hq=>Wr p1 G1.rs r1 hq⟩
 ·rw[if_neg hl] at p1; exact p1.elim
theorem Grr{es:List Expr}{f:Ev (List D)}{pos:Pos}(h:JA X XQ es f):JE X XQ (.List es pos) (ls f):=by
 refine PE.mono (Grc h) fun σ H Q ⟨mp,ρ,S,G,p⟩=>?_
 refine bindP G p fun mp1 H1 xs S1 vs a1 G1 r1 p1=>?_
 by_cases hl:xs.length<=1000000
 ·rw[if_pos hl] at p1
  exact⟨by rw[r1.len]; exact line_le hl,fun q hq=>Vg p1 G1.rs r1 hq⟩
 ·rw[if_neg hl] at p1; exact p1.elim
def Zn:D->Sto->Option Bool
 | .non,_=>some false
 | .bl b,_=>some b
 | .int i,_=>some (i != 0)
 | .str y,_=>if y.length<=1000000 then some ((y.length:Int) != 0) else none
 | .tup l,_=>some (!l.isEmpty)
 | .lst i,S=>match S[i]? with
  | some c=>some (!c.xs.isEmpty)
  | none=>none
 | .exn _ _,_=>none
 | .fv _,_=>none
 | .dct _,_=>none
def tt(f:Ev D):Ev Bool:=fun ρ S=>(f ρ S).bind fun x S1=>match Zn x S1 with
 | some b=>.ok b S1
 | none=>.bad
theorem RepL.empty{K:PySem.W.Frag}{mp:List Addr}{H:Hp}{l:List D}{vs:List V}(h:RepL K mp H l vs):(!l.isEmpty)=!vs.isEmpty:=by
 have e:=h.len
 cases l<;>cases vs<;>simp_all
theorem Gmy{K:PySem.W.Frag}{mp:List Addr}{H:Hp}{S:Sto}{x:D}{v:V}{b:Bool}(r:RS K mp H S)(h:Rep K mp H x v)(e:Zn x S=some b):Gq9 K v H b:=by
 cases x with
 | non=>cases (show v=.non from h); exact(Option.some.inj e).symm
 | bl c=>cases (show v=.bl c from h); exact(Option.some.inj e).symm
 | int i=>cases (show v=.int i from h); exact(Option.some.inj e).symm
 | str y=>
  cases (show v=.str y from h)
  have e:(if y.length<=1000000 then some ((y.length:Int) != 0) else none)=some b:=e
  by_cases hl:y.length<=1000000
  ·rw[if_pos hl] at e; exact⟨line_le hl,(Option.some.inj e).symm⟩
  ·rw[if_neg hl] at e; cases e
 | tup l=>
  obtain⟨a,xs,rfl,s,q⟩:=Rep.tup h
  exact .inr (.inl ⟨xs,s,by rw[<- q.empty]; exact(Option.some.inj e).symm⟩)
 | lst i=>
  have e:(match S[i]? with | some c=>some (!c.xs.isEmpty) | none=>none)=some b:=e
  cases z:S[i]? with
  | none=>rw[z] at e; cases e
  | some c=>
   rw[z] at e
   obtain⟨a,xs,rfl,_,s,q,_⟩:=r.items h z
   exact .inl ⟨xs,s,by rw[<- q.empty]; exact(Option.some.inj e).symm⟩
 | exn c n=>cases (show(none:Option Bool)=some b from e)
 | fv c=>cases (show(none:Option Bool)=some b from e)
 | dct c=>cases (show(none:Option Bool)=some b from e)
theorem Grs{e:Expr}{f:Ev D}(h:JE X XQ e f)(he:∀ whole,isTrue e X.env whole=(do let v <- whole; standAt e.pos; holding [v] (truthy v)):=by intro _; rfl):JT X XQ e (tt f):=by
 refine PT.mono (Gjc h he) fun σ H Q ⟨mp,ρ,S,G,p⟩=>?_
 refine bindP G p fun mp1 H1 x S1 v a1 G1 r1 p1=>?_
 cases z:Zn x S1 with
 | none=>rw[z] at p1; exact p1.elim
 | some b=>
  rw[z] at p1
  exact⟨b,Gmy G1.rs r1 z,Gm.ok p1 G1.rs rfl⟩
def tb(f:Ev D):Ev Bool:=fun ρ S=>(f ρ S).bind fun x S1=>match x with
 | .bl b=>.ok b S1
 | _=>.bad
theorem Gjp{K:PySem.W.Frag}{f:Ev D}{σ:L2.St}{H:Hp}{Q:Bool->Hp->Prop}(h:rdT K XQ (tb f) σ H Q):rdE K XQ f σ H fun x H1=>∃ k,x=.bl k/\Q k H1:=by
 obtain⟨mp,ρ,S,G,p⟩:=h
 refine bindP G p fun mp1 H1 x S1 v a1 G1 r1 p1=>?_
 cases x with
 | bl b=>exact⟨b,r1,Gm.ok p1 G1.rs rfl⟩
 | _=>exact p1.elim
theorem Ggf{a b:Expr}{fa fb:Ev D}{op:CmpOp}{r:R2}{o:D->D->Sto->Out D}{pos:Pos}(ho:OpR X (compareOp op) r)(hd:OpD X.K r o)(ha:JE X XQ a fa)(hb:JE X XQ b fb)(hm:behindInMarks op b=false):JT X XQ (.Compare a [op] [b] pos) (tb (o2 o fa fb)):=
 PT.mono (Gml ho ha hb hm) fun σ H Q h=>Gmx hd σ H _ (Gjp h)
def tn(f:Ev Bool):Ev Bool:=fun ρ S=>(f ρ S).bind fun b S1=>.ok (!b) S1
def ta(f g:Ev Bool):Ev Bool:=fun ρ S=>(f ρ S).bind fun b S1=>if b=true then g ρ S1 else .ok false S1
def to(f g:Ev Bool):Ev Bool:=fun ρ S=>(f ρ S).bind fun b S1=>if b=true then .ok true S1 else g ρ S1
theorem Grt{a:Expr}{f:Ev Bool}{pos:Pos}(h:JT X XQ a f):JT X XQ (.UnaryOp .Not a pos) (tn f):=
 PT.mono (Gqp h) fun σ H Q ⟨mp,ρ,S,G,p⟩=>bindP G p fun mp1 H1 b S1 c a1 G1 r1 p1=>by
  cases (show c=b from r1)
  exact Gm.ok p1 G1.rs rfl
theorem Gmz{a:Expr}{f:Ev Bool}{pos:Pos}(h:JT X XQ a f):JW X XQ (.BoolOp .And [a] pos) f:=Gmd h
theorem Gru{a:Expr}{f:Ev Bool}{pos:Pos}(h:JT X XQ a f):JW X XQ (.BoolOp .Or [a] pos) f:=Gqn h
theorem Grv{a b:Expr}{rest:List Expr}{f g:Ev Bool}{pos:Pos}(h:JT X XQ a f)(hb:JW X XQ (.BoolOp .And (b::rest) pos) g):JW X XQ (.BoolOp .And (a::b::rest) pos) (ta f g):=
 PW.mono (Gqo h hb) fun σ H Q ⟨mp,ρ,S,G,p⟩=>bindP G p fun mp1 H1 b S1 c a1 G1 r1 p1=>by
  cases (show c=b from r1)
  cases b with
  | true=>exact(if_pos rfl).mpr ⟨mp1,ρ,S1,G1,by simpa using p1⟩
  | false=>exact(if_neg Bool.false_ne_true).mpr (Gm.ok (R:=kB) (d:=false) (S:=S1) (by simpa using p1) G1.rs rfl)
theorem Gv0{a b:Expr}{rest:List Expr}{f g:Ev Bool}{pos:Pos}(h:JT X XQ a f)(hb:JW X XQ (.BoolOp .Or (b::rest) pos) g):JW X XQ (.BoolOp .Or (a::b::rest) pos) (to f g):=
 PW.mono (Gu6 h hb) fun σ H Q ⟨mp,ρ,S,G,p⟩=>bindP G p fun mp1 H1 b S1 c a1 G1 r1 p1=>by
  cases (show c=b from r1)
  cases b with
  | false=>exact(if_neg Bool.false_ne_true).mpr ⟨mp1,ρ,S1,G1,by simpa using p1⟩
  | true=>exact(if_pos rfl).mpr (Gm.ok (R:=kB) (d:=true) (S:=S1) (by simpa using p1) G1.rs rfl)
theorem JW.jt{e:Expr}{f:Ev Bool}(h:JW X XQ e f):JT X XQ e f:=PW.pt h
def va(f g:Ev D):Ev D:=fun ρ S=>(f ρ S).bind fun x S1=>match x with
 | .bl b=>if b=true then g ρ S1 else .ok (.bl false) S1
 | _=>.bad
def vo(f g:Ev D):Ev D:=fun ρ S=>(f ρ S).bind fun x S1=>match x with
 | .bl b=>if b=true then .ok (.bl true) S1 else g ρ S1
 | _=>.bad
def vn(f:Ev D):Ev D:=fun ρ S=>(f ρ S).bind fun x S1=>match x with
 | .bl b=>.ok (.bl (!b)) S1
 | _=>.bad
theorem Grw{a:Expr}{op}{f:Ev D}{pos:Pos}(h:JE X XQ a f):JE X XQ (.BoolOp op [a] pos) f:=Gqq h
theorem Grx{a b:Expr}{rest:List Expr}{f g:Ev D}{pos:Pos}(ha:JE X XQ a f)(hb:JE X XQ (.BoolOp .And (b::rest) pos) g):JE X XQ (.BoolOp .And (a::b::rest) pos) (va f g):=
 PE.mono (Gqr ha hb) fun σ H Q ⟨mp,ρ,S,G,p⟩=>bindP G p fun mp1 H1 x S1 v a1 G1 r1 p1=>by
  cases x with
  | bl b=>
   refine⟨b,r1,?_⟩
   cases b with
   | true=>exact(if_pos rfl).mpr ⟨mp1,ρ,S1,G1,by simpa using p1⟩
   | false=>exact(if_neg Bool.false_ne_true).mpr (Gm.ok (R:=Rep X.K) (d:=.bl false) (S:=S1) (by simpa using p1) G1.rs rfl)
  | _=>exact p1.elim
theorem Gry{a:Expr}{f:Ev D}{pos:Pos}(ha:JE X XQ a f):JE X XQ (.UnaryOp .Not a pos) (vn f):=
 PE.mono (Gqs ha) fun σ H Q ⟨mp,ρ,S,G,p⟩=>bindP G p fun mp1 H1 x S1 v a1 G1 r1 p1=>by
  cases x with
  | bl b=>exact⟨b,r1,Gm.ok p1 G1.rs rfl⟩
  | _=>exact p1.elim
def ie(c:Ev Bool)(f g:Ev D):Ev D:=fun ρ S=>(c ρ S).bind fun b S1=>if b=true then f ρ S1 else g ρ S1
theorem Grz{a b c:Expr}{fc:Ev Bool}{fa fb:Ev D}{pos:Pos}(hc:JT X XQ c fc)(ha:JE X XQ a fa)(hb:JE X XQ b fb):JE X XQ (.IfExp c a b pos) (ie fc fa fb):=
 PE.mono (Gi1 hc ha hb) fun σ H Q ⟨mp,ρ,S,G,p⟩=>bindP G p fun mp1 H1 b S1 c a1 G1 r1 p1=>by
  cases (show c=b from r1)
  cases b with
  | true=>exact(if_pos rfl).mpr ⟨mp1,ρ,S1,G1,by simpa using p1⟩
  | false=>exact(if_neg Bool.false_ne_true).mpr ⟨mp1,ρ,S1,G1,by simpa using p1⟩
end
inductive OS where
 | nx (ρ:Lc) (S:Sto) | rt (d:D) (S:Sto) | bk (ρ:Lc) (S:Sto) | ct (ρ:Lc) (S:Sto) | exc (x:XD) (ρ:Lc) (S:Sto) | bad
abbrev Sv:=Lc->Sto->OS
def PostS(K:PySem.W.Frag)(XQ:XW)(mp:List Addr)(H:Hp)(o:OS)(E:Ends):Prop:=
 match o with
 | .nx ρ S=>∀ mp' H' σ',Aft K mp H mp' H'->Gd K mp' H' σ' ρ S->E.nx σ' H'
 | .rt d S=>∀ mp' H' v,Aft K mp H mp' H'->RS K mp' H' S->Rep K mp' H' d v->E.rt v H'
 | .bk ρ S=>∀ mp' H' σ',Aft K mp H mp' H'->Gd K mp' H' σ' ρ S->E.bk σ' H'
 | .ct ρ S=>∀ mp' H' σ',Aft K mp H mp' H'->Gd K mp' H' σ' ρ S->E.ct σ' H'
 | .exc x ρ S=>∀ mp' H' σ',Aft K mp H mp' H'->Gd K mp' H' σ' ρ S->XQ x mp' H' σ' ρ S
 | .bad=>False
theorem PostS.aft{K:PySem.W.Frag}{XQ:XW}{mp mp':List Addr}{H H':Hp}{o:OS}{E:Ends}(p:PostS K XQ mp H o E)(a:Aft K mp H mp' H'):PostS K XQ mp' H' o E:=by
 cases o with
 | nx ρ S=>exact fun m h v b=>p m h v (a.trans b)
 | rt d S=>exact fun m h v b=>p m h v (a.trans b)
 | bk ρ S=>exact fun m h v b=>p m h v (a.trans b)
 | ct ρ S=>exact fun m h v b=>p m h v (a.trans b)
 | exc x ρ S=>exact fun m h v b=>p m h v (a.trans b)
 | bad=>exact p
def rdS(K:PySem.W.Frag)(XQ:XW)(f:Sv):TS:=fun E σ H=>∃ mp ρ S,Gd K mp H σ ρ S/\PostS K XQ mp H (f ρ S) E
def JS(X:Cx)(XQ:XW)(st:Stmt)(f:Sv):Prop:=PS X st (rdS X.K XQ f)
def JSs(X:Cx)(XQ:XW)(st:List Stmt)(f:Sv):Prop:=PSs X st (rdS X.K XQ f)
def bindS{α:Type}(o:Out α)(ρ:Lc)(k:α->Sto->OS):OS:=
 match o with
 | .ok a S=>k a S
 | .exc x S=>.exc x ρ S
 | .bad=>.bad
theorem bindSP{α β:Type}{K:PySem.W.Frag}{R:RL α β}{XQ:XW}{mp:List Addr}{H:Hp}{σ:L2.St}{ρ:Lc}{S:Sto}{f:Ev α}{g:α->Sto->OS}{E:Ends}{Q1:β->Hp->Prop}(G:Gd K mp H σ ρ S)(p:PostS K XQ mp H (bindS (f ρ S) ρ g) E)
  (k:∀ mp1 H1 d S1 v,Aft K mp H mp1 H1->Gd K mp1 H1 σ ρ S1->R mp1 H1 d v->PostS K XQ mp1 H1 (g d S1) E->Q1 v H1):rdG K R XQ f σ H Q1:=by
 refine⟨mp,ρ,S,G,?_⟩
 cases e:f ρ S with
 | ok d S1=>
  rw[e] at p
  exact fun mp1 H1 v a rs r=>k mp1 H1 d S1 v a (G.aft a rs) r (PostS.aft p a)
 | exc x S1=>rw[e] at p; exact fun m h b c=>p m h σ b c
 | bad=>rw[e] at p; exact p
def skip:Sv:=fun ρ S=>.nx ρ S
def sq(f g:Sv):Sv:=fun ρ S=>match f ρ S with
 | .nx ρ' S'=>g ρ' S'
 | .rt d S'=>.rt d S'
 | .bk ρ' S'=>.bk ρ' S'
 | .ct ρ' S'=>.ct ρ' S'
 | .exc x ρ' S'=>.exc x ρ' S'
 | .bad=>.bad
section
variable{X:Cx}{XQ:XW}
theorem PostS.nx{K:PySem.W.Frag}{mp:List Addr}{H:Hp}{σ:L2.St}{ρ:Lc}{S:Sto}{E:Ends}(p:PostS K XQ mp H (.nx ρ S) E)(G:Gd K mp H σ ρ S):E.nx σ H:=p mp H σ .refl G
theorem PostS.rt{K:PySem.W.Frag}{mp:List Addr}{H:Hp}{d:D}{v:V}{S:Sto}{E:Ends}(p:PostS K XQ mp H (.rt d S) E)(r:RS K mp H S)(h:Rep K mp H d v):E.rt v H:=p mp H v .refl r h
theorem Gm0:JSs X XQ [] skip:=PSs.mono Gme fun E σ H ⟨mp,ρ,S,G,p⟩=>PostS.nx p G
theorem Gjq{st:Stmt}{rest:List Stmt}{f g:Sv}(h1:JS X XQ st f)(h2:JSs X XQ rest g):JSs X XQ (st::rest) (sq f g):=by
 refine PSs.mono (Gi2 h1 h2) fun E σ H ⟨mp,ρ,S,G,p⟩=>⟨mp,ρ,S,G,?_⟩
 unfold sq at p
 cases e:f ρ S with
 | nx ρ' S'=>rw[e] at p; exact fun m h v a G'=>⟨m,ρ',S',G',PostS.aft p a⟩
 | rt d S'=>rw[e] at p; exact p
 | bk ρ' S'=>rw[e] at p; exact p
 | ct ρ' S'=>rw[e] at p; exact p
 | exc x ρ' S'=>rw[e] at p; exact p
 | bad=>rw[e] at p; exact p
theorem Gm1{st:Stmt}{f:Sv}(h1:JS X XQ st f):JSs X XQ [st] f:=Gg4 h1
def sct:Sv:=fun ρ S=>.ct ρ S
theorem Ge7{pos:Pos}:JS X XQ (.Continue pos) sct:=PS.mono Ge1 fun E σ H ⟨mp,ρ,S,G,p⟩=>p mp H σ .refl G
def sx(f:Ev D):Sv:=fun ρ S=>bindS (f ρ S) ρ fun _ S1=>.nx ρ S1
theorem Gm2{e:Expr}{f:Ev D}{pos:Pos}(he:JE X XQ e f)(hs:swapsWith e none pos.line X.env=pure false:=by rfl):JS X XQ (.Expr e pos) (sx f):=
 PS.mono (Gg5 he hs) fun E σ H ⟨mp,ρ,S,G,p⟩=>bindSP G p fun mp1 H1 d S1 v a1 G1 r1 p1=>PostS.nx p1 G1
def sret(f:Ev D):Sv:=fun ρ S=>bindS (f ρ S) ρ fun d S1=>.rt d S1
theorem Gr0{e:Expr}{f:Ev D}{pos:Pos}(he:JE X XQ e f):JS X XQ (.Return (some e) pos) (sret f):=
 PS.mono (Gqt he) fun E σ H ⟨mp,ρ,S,G,p⟩=>bindSP G p fun mp1 H1 d S1 v a1 G1 r1 p1=>PostS.rt p1 G1.rs r1
def sif(c:Ev Bool)(f g:Sv):Sv:=fun ρ S=>bindS (c ρ S) ρ fun b S1=>if b=true then f ρ S1 else g ρ S1
theorem Gv1{c:Expr}{a b:List Stmt}{fc:Ev Bool}{f g:Sv}{pos:Pos}(hc:JT X XQ c fc)(ha:JSs X XQ a f)(hb:JSs X XQ b g):JS X XQ (.If c a b pos) (sif fc f g):=
 PS.mono (Gvb hc ha hb) fun E σ H ⟨mp,ρ,S,G,p⟩=>bindSP G p fun mp1 H1 b S1 c a1 G1 r1 p1=>by
  cases (show c=b from r1)
  cases b with
  | true=>exact(if_pos rfl).mpr ⟨mp1,ρ,S1,G1,by simpa using p1⟩
  | false=>exact(if_neg Bool.false_ne_true).mpr ⟨mp1,ρ,S1,G1,by simpa using p1⟩
theorem Gd.set{K:PySem.W.Frag}{mp:List Addr}{H:Hp}{σ:L2.St}{ρ:Lc}{S:Sto}{d:D}{v:V}(G:Gd K mp H σ ρ S)(i:Nat)(r:Rep K mp H d v):Gd K mp H (σ.set i (some v)) (ρ.set i (some d)) S:=by
 refine⟨G.rs,by simp[G.len],fun j e h=>?_⟩
 by_cases hj:j=i
 ·subst hj
  have hl:j<ρ.length:=by
   have:=(List.getElem?_eq_some_iff.mp h).1
   simpa using this
  rw[List.getElem?_set_self hl] at h
  cases h
  exact⟨v,by rw[List.getElem?_set_self (by rw[G.len]; exact hl)],r⟩
 ·rw[List.getElem?_set_ne (Ne.symm hj)] at h ⊢
  exact G.loc j e h
abbrev Tg:=D->Lc->Option Lc
def Gjr(K:PySem.W.Frag)(g:Tg):TG:=fun v σ H Q=>∃ mp ρ S d ρ',Gd K mp H σ ρ S/\Rep K mp H d v/\g d ρ=some ρ'/\∀ σ',Gd K mp H σ' ρ' S->Q σ' H
def JG(X:Cx)(tg:Expr)(g:Tg):Prop:=PG X tg (Gjr X.K g)
theorem PG.mono{X:Cx}{e:Expr}{t t':TG}(h:PG X e t)(m:∀ v σ H Q,t' v σ H Q->t v σ H Q):PG X e t':=fun pins s σ H v u Q I r q=>h pins s σ H v u Q I r (m v σ H Q q)
def gn(i:Nat):Tg:=fun d ρ=>some (ρ.set i (some d))
theorem Gd3(i:Nat){x:Str}{pos:Pos}(hN:X.N.Nodup)(hi:X.N[i]?=some x:=by rfl)(hx:Loc X.env.scope x:=by first | exact Or.inl rfl | exact Or.inr rfl)(hf:X.fn x=true\/X.env.scope.names.lookup x=some .local:=by first | exact .inl rfl | exact .inr rfl | assumption):JG X (.Name x pos) (gn i):=
 PG.mono (Gmg hN hi hx hf) fun v σ H Q ⟨mp,ρ,S,d,ρ',G,r,e,k⟩=>by
  cases (Option.some.inj e)
  exact k _ (G.set i r)
abbrev Tgs:=List D->Lc->Option Lc
def Gyk(K:PySem.W.Frag)(g:Tgs):TGs:=fun vs σ H Q=>∃ mp ρ S ds ρ',Gd K mp H σ ρ S/\RepL K mp H ds vs/\g ds ρ=some ρ'/\∀ σ',Gd K mp H σ' ρ' S->Q σ' H
def JGs(X:Cx)(ts:List Expr)(g:Tgs):Prop:=PGs X ts (Gyk X.K g)
theorem PGs.mono{X:Cx}{e:List Expr}{t t':TGs}(h:PGs X e t)(m:∀ v σ H Q,t' v σ H Q->t v σ H Q):PGs X e t':=fun pins s σ H v u Q I r q=>h pins s σ H v u Q I r (m v σ H Q q)
def gnil:Tgs:=fun ds ρ=>match ds with
 | []=>some ρ
 | _::_=>none
def gcons(g:Tg)(k:Tgs):Tgs:=fun ds ρ=>match ds with
 | []=>none
 | d::r=>(g d ρ).bind fun ρ'=>k r ρ'
theorem Gm3:JGs X [] gnil:=PGs.mono Gmh fun vs σ H Q ⟨mp,ρ,S,ds,ρ',G,r,e,k⟩=>by
 cases ds with
 | nil=>
  cases (show some ρ=some ρ' from e)
  exact⟨r,k _ G⟩
 | cons _ _=>cases (show(none:Option Lc)=some ρ' from e)
theorem Gjs{e:Expr}{es:List Expr}{g:Tg}{k:Tgs}(h1:JG X e g)(h2:JGs X es k)
  (hs:(assignEach (e::es) X.env).map (·.2)=assign e X.env::(assignEach es X.env).map (·.2):=by rfl):JGs X (e::es) (gcons g k):=
 PGs.mono (Gi3 h1 h2 hs) fun vs σ H Q ⟨mp,ρ,S,ds,ρ',G,r,e,q⟩=>by
  cases ds with
  | nil=>cases (show(none:Option Lc)=some ρ' from e)
  | cons d ds=>
   have e:(g d ρ).bind (fun ρ'=>k ds ρ')=some ρ':=e
   obtain⟨v,vr,ev,h3,h4⟩:=(show ∃ v r,vs=v::r/\Rep X.K mp H d v/\RepL X.K mp H ds r from r)
   cases z:g d ρ with
   | none=>rw[z] at e; cases e
   | some ρ1=>
    rw[z] at e
    exact⟨v,vr,ev,mp,ρ,S,d,ρ1,G,h3,z,fun σ1 G1=>⟨mp,ρ1,S,ds,ρ',G1,h4,e,q⟩⟩
def gt(k:Tgs)(n:Nat):Tg:=fun d ρ=>match d with
 | .tup ds=>if ds.length=n then k ds ρ else none
 | _=>none
theorem Gr1{es:List Expr}{m:Nat}{k:Tgs}{n:Nat}{pos:Pos}(hc:X.calm=true)(h:JGs X es k)
  (hn:(assignEach es X.env).length=n:=by rfl) (hst:(assignEach es X.env).findIdx? (·.1)=none:=by rfl):JG X (.Tuple es m pos) (gt k n):=
 PG.mono (Gqu hc h hn hst) fun v σ H Q ⟨mp,ρ,S,d,ρ',G,r,e,q⟩=>by
  cases d with
  | tup ds=>
   have e:(if ds.length=n then k ds ρ else none)=some ρ':=e
   obtain⟨a,xs,ev,sq,rl⟩:=Rep.tup r
   by_cases hl:ds.length=n
   ·rw[if_pos hl] at e
    exact⟨a,xs,ev,sq,by rw[rl.len]; exact hl,mp,ρ,S,ds,ρ',G,rl,e,q⟩
   ·rw[if_neg hl] at e; cases e
  | _=>cases (show(none:Option Lc)=some ρ' from e)
def sa(f:Ev D)(g:Tg):Sv:=fun ρ S=>bindS (f ρ S) ρ fun d S1=>match g d ρ with
 | some ρ'=>.nx ρ' S1
 | none=>.bad
theorem Gyl{K:PySem.W.Frag}{f:Ev D}{g:Tg}(E:Ends)(σ:L2.St)(H:Hp)(h:rdS K XQ (sa f g) E σ H):Gmi (rdE K XQ f) (Gjr K g) E σ H:=by
 obtain⟨mp,ρ,S,G,p⟩:=h
 refine bindSP G p fun mp1 H1 d S1 v a1 G1 r1 p1=>?_
 cases z:g d ρ with
 | none=>rw[z] at p1; exact p1.elim
 | some ρ'=>
  rw[z] at p1
  exact⟨mp1,ρ,S1,d,ρ',G1,r1,z,fun σ' G'=>PostS.nx p1 G'⟩
theorem Gr2{tg e:Expr}{f:Ev D}{g:Tg}{pos:Pos}(he:JE X XQ e f)(hg:JG X tg g)(hs:swapsWithSole [tg] e pos.line X.env=pure false:=by rfl)(hw:swappedStores [tg] e X.env=pure none:=by rfl)
  (h1:(assignEach [tg] X.env).map (·.2)=[assign tg X.env]:=by rfl):JS X XQ (.Assign [tg] e pos) (sa f g):=
 PS.mono (Gi4 he hg hs hw h1) Gyl
theorem Gr3(i:Nat){x:Str}{e:Expr}{f:Ev D}{pos pos':Pos}(hN:X.N.Nodup)(he:JE X XQ e f)(hi:X.N[i]?=some x:=by rfl)(hx:Loc X.env.scope x:=by first | exact Or.inl rfl | exact Or.inr rfl)(hs:swapsWith e (some (.Name x pos')) pos.line X.env=pure false:=by rfl)
  (hf:X.fn x=true\/X.env.scope.names.lookup x=some .local:=by first | exact .inl rfl | exact .inr rfl | assumption):JS X XQ (.Assign [.Name x pos'] e pos) (sa f (gn i)):=
 PS.mono (Gqw hN hi hx he hs hf) fun E σ H ⟨mp,ρ,S,G,p⟩=>bindSP G p fun mp1 H1 d S1 v a1 G1 r1 p1=>PostS.nx p1 (G1.set i r1)
def Gr4(t:Gh3)(K:PySem.W.Frag)(o:D->D->D->Sto->Option Sto):Prop:=
 ∀ (mp:List Addr) (H:Hp) (S S':Sto) (x y z:D) (v u w:V) (Q:Hp->Prop),RS K mp H S->Rep K mp H x v->Rep K mp H y u->Rep K mp H z w->o x y z S=some S'->(∀ H',Aft K mp H mp H'->RS K mp H' S'->Q H')->t v u w H Q
def ss(f fo fi:Ev D)(o:D->D->D->Sto->Option Sto):Sv:=fun ρ S=>bindS (f ρ S) ρ fun d S1=>bindS (fo ρ S1) ρ fun x S2=>bindS (fi ρ S2) ρ fun y S3=>match o x y d S3 with
 | some S4=>.nx ρ S4
 | none=>.bad
theorem Gjt{ob ix e:Expr}{f fo fi:Ev D}{t:Gh3}{o:D->D->D->Sto->Option Sto}{pos p2:Pos}(hset:Gmf X t)(ho:Gr4 t X.K o)(he:JE X XQ e f)(hob:JE X XQ ob fo)(hix:JE X XQ ix fi)
  (hs:swapsWithSole [.Subscript ob ix p2] e pos.line X.env=pure false:=by rfl) (hw:swappedStores [.Subscript ob ix p2] e X.env=pure none:=by rfl)
  (h1:(assignEach [.Subscript ob ix p2] X.env).map (·.2)=[assign (.Subscript ob ix p2) X.env]:=by rfl) (ha:∀ v,assign (.Subscript ob ix p2) X.env v=(do
   let ov <- holding [v] (eval ob X.env)
   let iv <- holding [v,ov] (eval ix X.env)
   standAt p2
   holding [v,ov,iv] (setItem ov iv v)
   release [v,ov,iv] []):=by intro _; rfl):JS X XQ (.Assign [.Subscript ob ix p2] e pos) (ss f fo fi o):=by
 refine PS.mono (Gi4 he (Gqv hob hix hset ha) hs hw h1) fun E σ H ⟨mp,ρ,S,G,p⟩=>?_
 refine bindSP G p fun mp1 H1 d S1 v a1 G1 r1 p1=>?_
 refine bindSP G1 p1 fun mp2 H2 x S2 vx a2 G2 r2 p2=>?_
 refine bindSP G2 p2 fun mp3 H3 y S3 vy a3 G3 r3 p3=>?_
 cases z:o x y d S3 with
 | none=>rw[z] at p3; exact p3.elim
 | some S4=>
  rw[z] at p3
  exact ho mp3 H3 S3 S4 x y d vx vy v _ G3.rs (Rep.aft a3 _ _ r2) r3 (Rep.aft (a2.trans a3) _ _ r1) z fun H' af rs=>p3 mp3 H' σ af (G3.aft af rs)
structure Src where
 nxt:Nat->Sto->Option D
 fuel:Nat
def Gib(K:PySem.W.Frag)(mp0:List Addr)(H0:Hp)(J:It)(nxt:Nat->Sto->Option D):Prop:=
 ∀ (mp:List Addr) (H:Hp) (S:Sto),Aft K mp0 H0 mp H->RS K mp H S->∀ k,match nxt k S with
  | some d=>J.go k H/\∀ x H',J.yld k H x H'->Aft K mp H mp H'/\RS K mp H' S/\Rep K mp H' d x
  | none=>J.stop k H
def kI(K:PySem.W.Frag):RL Src It:=fun mp H s J=>Gib K mp H J s.nxt
abbrev rdI(K:PySem.W.Frag)(XQ:XW)(f:Ev Src):TI:=rdG K (kI K) XQ f
def JI(X:Cx)(XQ:XW)(tg iter:Expr)(f:Ev Src):Prop:=PI X tg iter (rdI X.K XQ f)
theorem PI.mono{X:Cx}{tg e:Expr}{t t':TI}(h:PI X tg e t)(m:∀ σ H Q,t' σ H Q->t σ H Q):PI X tg e t':=fun pins s σ H Q I q=>h pins s σ H Q I (m σ H Q q)
def Ky(nxt:Nat->Sto->Option D)(g:Tg)(b:Sv):Nat->Nat->Sv
 | 0,_,_,_=>.bad
 | n+1,k,ρ,S=>match nxt k S with
  | none=>.nx ρ S
  | some d=>match g d ρ with
   | none=>.bad
   | some ρ1=>match b ρ1 S with
    | .nx ρ2 S2=>Ky nxt g b n (k+1) ρ2 S2
    | .ct ρ2 S2=>Ky nxt g b n (k+1) ρ2 S2
    | .bk ρ2 S2=>.nx ρ2 S2
    | .rt d S2=>.rt d S2
    | .exc x ρ2 S2=>.exc x ρ2 S2
    | .bad=>.bad
def sfor(f:Ev Src)(g:Tg)(b:Sv):Sv:=fun ρ S=>bindS (f ρ S) ρ fun s S1=>Ky s.nxt g b s.fuel 0 ρ S1
theorem Gr5{tg iter:Expr}{body:List Stmt}{f:Ev Src}{g:Tg}{b:Sv}{pos:Pos}(hp:PassesOwn (model X.prog X.w) X.A X.env X.xe)(hc:X.calm=true)(hi:JI X XQ tg iter f)(hg:JG X tg g)(hb:JSs X XQ body b)
  (hs:∀ x,foldedSetIterable iter X.env x=pure x:=by intro _; rfl):JS X XQ (.For tg iter body [] pos) (sfor f g b):=by
 refine PS.mono (Gq1 hp hc hi hg hb hs) fun E σ H ⟨mp,ρ,S,G,p⟩=>?_
 refine bindSP G p fun mp1 H1 s S1 J a1 G1 j1 p1=>?_
 refine⟨fun i m σ' H'=>∃ mp' ρ' S',Aft X.K mp1 H1 mp' H'/\Gd X.K mp' H' σ' ρ' S'/\PostS X.K XQ mp' H' (Ky s.nxt g b m i ρ' S') E,⟨s.fuel,mp1,ρ,S1,.refl,G1,p1⟩,?_⟩
 rintro i m σ' H' ⟨mp',ρ',S',a',G',p'⟩
 cases m with
 | zero=>exact(show False from p').elim
 | succ n=>
  have j:=j1 mp' H' S' a' G'.rs i
  unfold Ky at p'
  cases z:s.nxt i S' with
  | none=>
   rw[z] at j p'
   exact .inl ⟨j,PostS.nx p' G'⟩
  | some d=>
   rw[z] at j p'
   obtain⟨j1,j2⟩:=j
   refine .inr ⟨j1,fun σ2 H2=>∃ mp2 ρ2 S2,Aft X.K mp1 H1 mp2 H2/\Gd X.K mp2 H2 σ2 ρ2 S2/\PostS X.K XQ mp2 H2 (Ky s.nxt g b n (i+1) ρ2 S2) E,fun σ2 H2 q=>⟨n,Nat.lt_succ_self n,q⟩,fun x H2 y=>?_⟩
   obtain⟨a2,r2,x2⟩:=j2 x H2 y
   have G2:=G'.aft a2 r2
   cases zg:g d ρ' with
   | none=>simp only[zg] at p'; exact p'.elim
   | some ρ1=>
    simp only[zg] at p'
    refine⟨mp',ρ',S',d,ρ1,G2,x2,zg,fun σ3 G3=>⟨mp',ρ1,S',G3,?_⟩⟩
    have p2:=PostS.aft p' a2
    cases zb:b ρ1 S' with
    | nx ρ2 S2=>simp only[zb] at p2; exact fun m h v af G4=>⟨m,ρ2,S2,(a'.trans a2).trans af,G4,PostS.aft p2 af⟩
    | ct ρ2 S2=>simp only[zb] at p2; exact fun m h v af G4=>⟨m,ρ2,S2,(a'.trans a2).trans af,G4,PostS.aft p2 af⟩
    | bk ρ2 S2=>simp only[zb] at p2; exact p2
    | rt d S2=>simp only[zb] at p2; exact p2
    | exc x ρ2 S2=>simp only[zb] at p2; exact p2
    | bad=>simp only[zb] at p2; exact p2
def Gdj:D->Sto->Out Src
 | .tup l,S=>.ok ⟨fun k _=>l[k]?,l.length+1⟩ S
 | .lst i,S=>match S[i]? with
  | some c=>.ok ⟨fun k S=>(S[i]?).bind fun c=>c.xs[k]?,c.xs.length+1⟩ S
  | none=>.bad
 | _,_=>.bad
end
section
variable{X:Cx}{XQ:XW}
def Gym(K:PySem.W.Frag)(tl:TE):TI:=fun σ H R=>tl σ H fun x H1=>∃ a,x=.ref a/\(((∃ xs,SqL K H1 a xs)/\R (Itl K a) H1)\/((∃ xs,SqT K H1 a xs)/\R (Itt K a) H1))
theorem Gr6{tg l:Expr}{tl:TE}(hl:PE X l tl):PI X tg l (Gym X.K tl):=by
 intro pins s σ H R I h
 refine thn (hl pins s σ H _ I h) fun v s1 ⟨x,H1,I1,r1,q1⟩=>?_
 obtain⟨a,e,q⟩:=q1
 subst e
 cases r1
 rcases q with⟨⟨xs,hq⟩,q⟩ | ⟨⟨xs,hq⟩,q⟩
 ·obtain⟨its,rv,p,hz⟩:=I1.list hq
  refine wpAny_pyIter_list p.isList ?_
  refine⟨s1.heap.objs.size,[s1.heap.objs.size],_,_,H1,rfl,I1.kept (t':=s1.toks) fun b o e=>Heap.get?_push_of_some _ e,turn_list a _,⟨_,Heap.get?_push_size _ rfl,rfl,rfl⟩,fun b hb=>?_,q⟩
  have e:b=s1.heap.objs.size:=by simpa using hb
  subst e
  exact I1.fpOk (Nat.le_refl _) (I1.hok.fresh (Nat.le_refl _))
 ·obtain⟨its,rv,p,hz⟩:=I1.tuple hq
  refine wpAny_pyIter_tuple (show s1.heap.IsTuple a its.toArray from p) ?_
  refine⟨s1.heap.objs.size,[s1.heap.objs.size],_,_,H1,rfl,I1.kept (t':=s1.toks) fun b o e=>Heap.get?_push_of_some _ e,turn_tuple a _,⟨_,Heap.get?_push_size _ rfl,rfl,rfl⟩,fun b hb=>?_,q⟩
  have e:b=s1.heap.objs.size:=by simpa using hb
  subst e
  exact I1.fpOk (Nat.le_refl _) (I1.hok.fresh (Nat.le_refl _))
def isrc(f:Ev D):Ev Src:=fun ρ S=>(f ρ S).bind Gdj
theorem Gr7{K:PySem.W.Frag}{mp:List Addr}{H:Hp}{a:Addr}{xs:List V}{l:List D}(s:SqT K H a xs)(r:RepL K mp H l xs):Gib K mp H (Itt K a) (fun k _=>l[k]?):=by
 intro mp' H' S' af rs k
 show match l[k]? with
  | some d=>(Itt K a).go k H'/\∀ x H2,(Itt K a).yld k H' x H2->Aft K mp' H' mp' H2/\RS K mp' H2 S'/\Rep K mp' H2 d x
  | none=>(Itt K a).stop k H'
 cases z:l[k]? with
 | none=>
  refine⟨xs,af.tup _ _ s,?_⟩
  rw[r.len]
  exact List.getElem?_eq_none_iff.mp z
 | some d=>
  have r':=RepL.aft af _ _ r
  obtain⟨v,e,q⟩:=r'.get z
  refine⟨⟨xs,v,af.tup _ _ s,e⟩,fun x H2 ⟨h1,h2⟩=>?_⟩
  subst h1
  have e2:=h2 xs (af.tup _ _ s)
  rw[e] at e2
  cases e2
  exact⟨.refl,rs,q⟩
theorem Gr8{K:PySem.W.Frag}{mp:List Addr}{H:Hp}{a:Addr}{i:Nat}(hi:mp[i]?=some a)(nd:¬ Dcy H a):Gib K mp H (Itl K a) (fun k S=>(S[i]?).bind fun c=>c.xs[k]?):=by
 intro mp' H' S' af rs k
 have hi':=af.pre i a hi
 have hl:i<S'.length:=by rw[<- rs.len]; exact(List.getElem?_eq_some_iff.mp hi').1
 have hc:S'[i]?=some S'[i]:=List.getElem?_eq_getElem hl
 obtain⟨a2,xs,e1,e2,sq,r,_⟩:=rs.items (v:=.ref a) ⟨a,rfl,hi',af.ndc i a hi nd⟩ hc
 cases e1
 simp only[hc,Option.bind_some]
 cases z:(S'[i]).xs[k]? with
 | none=>
  refine⟨xs,sq,?_⟩
  rw[r.len]
  exact List.getElem?_eq_none_iff.mp z
 | some d=>
  obtain⟨v,e,q⟩:=r.get z
  refine⟨⟨xs,v,sq,e⟩,fun x H2 ⟨h1,h2⟩=>?_⟩
  subst h1
  have e2:=h2 xs sq
  rw[e] at e2
  cases e2
  exact⟨.refl,rs,q⟩
theorem Gr9{tg l:Expr}{f:Ev D}(hl:JE X XQ l f):JI X XQ tg l (isrc f):=by
 refine PI.mono (Gr6 hl) fun σ H R ⟨mp,ρ,S,G,p⟩=>?_
 refine bindP G p fun mp1 H1 d S1 v a1 G1 r1 p1=>?_
 cases d with
 | tup ds=>
  obtain⟨a,xs,rfl,s,q⟩:=Rep.tup r1
  exact⟨a,rfl,.inr ⟨⟨xs,s⟩,Gm.ok (R:=kI X.K) (d:=⟨fun k _=>ds[k]?,ds.length+1⟩) (S:=S1) p1 G1.rs (Gr7 s q)⟩⟩
 | lst i=>
  have p1:Gm X.K (kI X.K) XQ σ ρ mp1 H1 (match S1[i]? with | some c=>.ok ⟨fun k S=>(S[i]?).bind fun c=>c.xs[k]?,c.xs.length+1⟩ S1 | none=>.bad) R:=p1
  cases z:S1[i]? with
  | none=>rw[z] at p1; exact p1.elim
  | some c=>
   rw[z] at p1
   obtain⟨a,xs,rfl,ha,s,q,_⟩:=G1.rs.items r1 z
   exact⟨a,rfl,.inl ⟨⟨xs,s⟩,Gm.ok (R:=kI X.K) (d:=⟨fun k S=>(S[i]?).bind fun c=>c.xs[k]?,c.xs.length+1⟩) (S:=S1) p1 G1.rs (Gr8 ha (Rep.nd r1))⟩⟩
 | _=>exact(show False from p1).elim
def rsrc(lo:Int)(n:Nat):Src:=⟨fun k _=>if k<n then some (.int (lo+k)) else none,n+1⟩
theorem Gju{K:PySem.W.Frag}{mp:List Addr}{H:Hp}{lo:Int}{n:Nat}:Gib K mp H (Itr lo n) (rsrc lo n).nxt:=by
 intro mp' H' S' af rs k
 show match (if k<n then some (D.int (lo+k)) else none) with
  | some d=>(Itr lo n).go k H'/\∀ x H2,(Itr lo n).yld k H' x H2->Aft K mp' H' mp' H2/\RS K mp' H2 S'/\Rep K mp' H2 d x
  | none=>(Itr lo n).stop k H'
 by_cases h:k<n
 ·rw[if_pos h]
  refine⟨h,fun x H2 ⟨h1,h2⟩=>?_⟩
  subst h1 h2
  exact⟨.refl,rs,rfl⟩
 ·rw[if_neg h]
  exact Nat.not_lt.mp h
def ir1(f:Ev (List D)):Ev Src:=fun ρ S=>(f ρ S).bind fun ds S1=>match ds with
 | [.int j]=>if -1000000000000<=j/\j<=1000000000000 then .ok (rsrc 0 j.toNat) S1 else .bad
 | _=>.bad
def ir2(f:Ev (List D)):Ev Src:=fun ρ S=>(f ρ S).bind fun ds S1=>match ds with
 | [.int i,.int j]=>if(-1000000000000<=i/\i<=1000000000000) /\ -1000000000000<=j/\j<=1000000000000 then .ok (rsrc i (j-i).toNat) S1 else .bad
 | _=>.bad
theorem RepL.one{K:PySem.W.Frag}{mp:List Addr}{H:Hp}{d:D}{vs:List V}(h:RepL K mp H [d] vs):∃ v,vs=[v]/\Rep K mp H d v:=by
 obtain⟨v,r,rfl,h1,h2⟩:=h
 cases (show r=[] from h2)
 exact⟨v,rfl,h1⟩
theorem RepL.two{K:PySem.W.Frag}{mp:List Addr}{H:Hp}{d e:D}{vs:List V}(h:RepL K mp H [d,e] vs):∃ v w,vs=[v,w]/\Rep K mp H d v/\Rep K mp H e w:=by
 obtain⟨v,r,rfl,h1,h2⟩:=h
 obtain⟨w,rfl,h3⟩:=RepL.one h2
 exact⟨v,w,rfl,h1,h3⟩
theorem Gic{tg a:Expr}{f:Ev (List D)}{p pos:Pos}(hg:Gl X "range")(hm:X.mg "range"=none)(ha:JA X XQ [a] f)(hs:starEach [a] X.env=[(false,eval a X.env)]:=by rfl):JI X XQ tg (.Call (.Name "range" p) [a] [] pos) (ir1 f):=by
 refine PI.mono (Gh4 hg hm ha hs) fun σ H R ⟨mp,ρ,S,G,p⟩=>?_
 refine bindP G p fun mp1 H1 ds S1 vs a1 G1 r1 p1=>?_
 split at p1
 ·rename_i j
  by_cases hb : -1000000000000<=j/\j<=1000000000000
  ·rw[if_pos hb] at p1
   obtain⟨v,rfl,h1⟩:=RepL.one r1
   cases (show v=.int j from h1)
   refine⟨j,rfl,by omega,by omega,Gm.ok (R:=kI X.K) (d:=rsrc 0 j.toNat) (S:=S1) p1 G1.rs Gju⟩
  ·rw[if_neg hb] at p1; exact p1.elim
 ·exact p1.elim
theorem Gid{tg a b:Expr}{f:Ev (List D)}{p pos:Pos}(hg:Gl X "range")(hm:X.mg "range"=none)(ha:JA X XQ [a,b] f)(hs:starEach [a,b] X.env=[(false,eval a X.env),(false,eval b X.env)]:=by rfl)(hs2:starEach [b] X.env=[(false,eval b X.env)]:=by rfl):JI X XQ tg (.Call (.Name "range" p) [a,b] [] pos) (ir2 f):=by
 refine PI.mono (Gh5 hg hm ha hs hs2) fun σ H R ⟨mp,ρ,S,G,p⟩=>?_
 refine bindP G p fun mp1 H1 ds S1 vs a1 G1 r1 p1=>?_
 split at p1
 ·rename_i i j
  by_cases hb:(-1000000000000<=i/\i<=1000000000000) /\ -1000000000000<=j/\j<=1000000000000
  ·rw[if_pos hb] at p1
   obtain⟨v,w,rfl,h1,h2⟩:=RepL.two r1
   cases (show v=.int i from h1)
   cases (show w=.int j from h2)
   refine⟨i,j,rfl,⟨by omega,by omega,by omega,by omega⟩,Gm.ok (R:=kI X.K) (d:=rsrc i (j-i).toNat) (S:=S1) p1 G1.rs Gju⟩
  ·rw[if_neg hb] at p1; exact p1.elim
 ·exact p1.elim
def whN(c:Ev Bool)(b:Sv):Nat->Sv
 | 0,_,_=>.bad
 | n+1,ρ,S=>bindS (c ρ S) ρ fun t S1=>if t=true then(match b ρ S1 with
    | .nx ρ2 S2=>whN c b n ρ2 S2
    | .ct ρ2 S2=>whN c b n ρ2 S2
    | .bk ρ2 S2=>.nx ρ2 S2
    | .rt d S2=>.rt d S2
    | .exc x ρ2 S2=>.exc x ρ2 S2
    | .bad=>.bad) else .nx ρ S1
theorem Gjv(fuel:Nat){c:Expr}{body:List Stmt}{fc:Ev Bool}{b:Sv}{pos:Pos}(hp:PassesOwn (model X.prog X.w) X.A X.env X.xe)(hc:JT X XQ c fc)(hb:JSs X XQ body b):JS X XQ (.While c body [] pos) (whN fc b fuel):=by
 refine PS.mono (Gi5 hp hc hb) fun E σ H ⟨mp,ρ,S,G,p⟩=>?_
 refine⟨fun m σ' H'=>∃ mp' ρ' S',Gd X.K mp' H' σ' ρ' S'/\PostS X.K XQ mp' H' (whN fc b m ρ' S') E,⟨fuel,mp,ρ,S,G,p⟩,?_⟩
 rintro m σ' H' ⟨mp',ρ',S',G',p'⟩
 cases m with
 | zero=>exact(show False from p').elim
 | succ n=>
  refine bindSP G' p' fun mp1 H1 t S1 t' a1 G1 r1 p1=>?_
  cases (show t'=t from r1)
  cases t with
  | false=>exact(if_neg Bool.false_ne_true).mpr (PostS.nx (by simpa using p1) G1)
  | true=>
   refine(if_pos rfl).mpr ⟨fun σ2 H2=>∃ mp2 ρ2 S2,Gd X.K mp2 H2 σ2 ρ2 S2/\PostS X.K XQ mp2 H2 (whN fc b n ρ2 S2) E,fun σ2 H2 q=>⟨n,Nat.lt_succ_self n,q⟩,⟨mp1,ρ',S1,G1,?_⟩⟩
   simp only[if_true] at p1
   cases zb:b ρ' S1 with
   | nx ρ2 S2=>simp only[zb] at p1; exact fun m h v af G4=>⟨m,ρ2,S2,G4,PostS.aft p1 af⟩
   | ct ρ2 S2=>simp only[zb] at p1; exact fun m h v af G4=>⟨m,ρ2,S2,G4,PostS.aft p1 af⟩
   | bk ρ2 S2=>simp only[zb] at p1; exact p1
   | rt d S2=>simp only[zb] at p1; exact p1
   | exc x ρ2 S2=>simp only[zb] at p1; exact p1
   | bad=>simp only[zb] at p1; exact p1
end
abbrev Fn:=List D->Sto->Out D
def Gpj(K:PySem.W.Frag)(mp:List Addr)(H:Hp)(o:Out D)(Q:VK):Prop:=
 match o with
 | .ok d S=>∀ mp' H' v,Aft K mp H mp' H'->RS K mp' H' S->Rep K mp' H' d v->Q v H'
 | _=>False
def spD(K:PySem.W.Frag)(n:Nat)(fn:Fn):Sp:=fun vs H Q _=>∃ mp ds S,RS K mp H S/\RepL K mp H ds vs/\ds.length=n/\Gpj K mp H (fn ds S) Q
def fnB(m:Nat)(b:Sv):Fn:=fun ds S=>match b (ds.map some++List.replicate (m-ds.length) none) S with
 | .rt d S'=>.ok d S'
 | .nx _ S'=>.ok .non S'
 | .exc x _ S'=>.exc x S'
 | _=>.bad
theorem Gbk{K:PySem.W.Frag}{mp:List Addr}{H:Hp}{S:Sto}{N:List Str}{ds:List D}{vs:List V}(r:RS K mp H S)(h:RepL K mp H ds vs):Gd K mp H (start N vs) (ds.map some++List.replicate (N.length-ds.length) none) S:=by
 have hl:=h.len
 refine⟨r,by simp[L2.start,hl],fun i d e=>?_⟩
 by_cases hi:i<ds.length
 ·rw[List.getElem?_append_left (by simpa using hi),List.getElem?_map] at e
  cases z:ds[i]? with
  | none=>rw[z] at e; cases e
  | some d'=>
   rw[z] at e
   cases e
   obtain⟨v,e1,q⟩:=h.get z
   refine⟨v,?_,q⟩
   unfold L2.start
   rw[List.getElem?_append_left (by simp[hl]; exact hi),List.getElem?_map,e1]
   rfl
 ·rw[List.getElem?_append_right (by simpa using hi),List.getElem?_replicate] at e
  split at e
  ·cases e
  ·cases e
theorem Gpk{P:Program}{w:World}{K:PySem.W.Frag}{mg:Str->Option Value}{base:Heap}{x qual:Str}{st:Stmt}{f:Addr}{fd:FuncData}{N ps:List Str}{k:Nat}{b:Sv}(F:Fun K x qual st f fd)(Sc:FnScope N ps (Gf st))(hb:∀ (cdv:Value) (A:Around) (outer:List PySem.Env) (s:Shared) (H:Hp) (E:XK),Room k (A.deeper (envOfC qual (Gf st) s.heap.objs.size f cdv))→
   JSs (Kq CX0 P w K mg base N qual (Gf st) f cdv A outer s H E).nox (fun _ _ _ _ _ _=>False) (Ha st) b):FnOk P w K mg base CX0 (k+1) f fd ps (spD K ps.length (fnB N.length b)):=by
 refine F.ok Sc (fun vs H Q E ⟨mp,ds,S,rs,r,hl,_⟩=>by rw[r.len]; exact hl) fun cdv A outer s H vs Q E hr ⟨mp,ds,S,rs,r,hl,p⟩=>?_
 refine⟨_,hb cdv A outer s H E hr,mp,_,S,Gbk rs r,?_⟩
 unfold fnB at p
 show PostS K _ mp H (b (ds.map some++List.replicate (N.length-ds.length) none) S) _
 cases z:b (ds.map some++List.replicate (N.length-ds.length) none) S with
 | rt d S'=>rw[z] at p; exact p
 | nx ρ' S'=>rw[z] at p; exact fun m h v af G=>p m h .non af G.rs rfl
 | bk ρ' S'=>rw[z] at p; exact p.elim
 | ct ρ' S'=>rw[z] at p; exact p.elim
 | exc x ρ' S'=>rw[z] at p; exact p.elim
 | bad=>rw[z] at p; exact p.elim
section
variable{X:Cx}{XQ:XW}{k:Nat}{f:Addr}{fd:FuncData}{ps:List Str}{fn:Fn}{x:Str}{p pos:Pos}{e:Expr}{es:List Expr}{t:Ev (List D)}
def cl(n:Nat)(fn:Fn)(t:Ev (List D)):Ev D:=fun ρ S=>(t ρ S).bind fun ds S1=>if ds.length=n then fn ds S1 else .bad
def Go(fn:Fn):Fn:=fun ds S=>match fn ds S with
 | .ok d S'=>.ok d S'
 | _=>.bad
theorem Gm4{j:Nat}(F:FnOk X.prog X.w X.K X.mg X.base CX0 j f fd ps (spD X.K ps.length fn))(hr:Room k X.A)(hj:j<=k)(hg:Gl X x)(hm:X.mg x=some (.ref f))(hk:PySem.W.keepIn X.K (.ref f)=true)(hb:Binds X.K fd ps [])
  (ha:JA X XQ (e::es) t) (hdb:(x==("__debug__":Str))=false:=by decide) (he:starEach (e::es) X.env=(false,eval e X.env)::starEach es X.env:=by rfl) (hpl:(backTo pos (starEach es X.env)).any (·.1)=false:=by rfl):
  JE X XQ (.Call (.Name x p) (e::es) [] pos) (cl ps.length (Go fn) t):=by
 refine PE.mono (Gmm (F.mono hj) hr hg hm hk hb .nil (Gvv) ha hdb he hpl) fun σ H Q ⟨mp,ρ,S,G,p⟩=>?_
 refine bindP G p fun mp1 H1 ds S1 vs a1 G1 r1 p1=>?_
 by_cases hl:ds.length=ps.length
 ·rw[if_pos hl] at p1
  refine⟨mp1,ds,S1,G1.rs,by rw[List.append_nil]; exact r1,hl,?_⟩
  unfold Go at p1
  cases z:fn ds S1 with
  | ok d S'=>rw[z] at p1; exact p1
  | exc x S'=>rw[z] at p1; exact p1.elim
  | bad=>rw[z] at p1; exact p1.elim
 ·rw[if_neg hl] at p1; exact p1.elim
end
theorem Gd4{prog:Program}{w:World}{A:Around}{R:Result->Shared->Prop}{s:Shared}{elt target iter:Expr}{ifs:List Expr}{scope:Scope}{pos:Pos}{it acc:Value}{env:PySem.Env}(I:Nat->Shared->Prop)(turn:∀ n s,I n s->wpAny (model prog w) A (pyNext it) (fun r s₁=>match r with
   | none=>R (.ok .next) s₁
   | some v=>wpAny (model prog w) A (letOwnedTupleGo target it v) (fun _ s₁=>wpAny (model prog w) A (assign target env v) (fun _ s₂=>
     wpAny (model prog w) A (forIn ifs true fun c r=>if r=true then do let ok <- isTrue c env (eval c env); pure (ForInStep.yield ok) else pure (ForInStep.yield r)) (fun ok s₃=>
      if ok=true then wpAny (model prog w) A (eval elt env) (fun x s₄=>
       wpAny (model prog w) A (call (.builtin "list.append") [acc,x]) (fun _ s₅=>∃ m,m<n/\I m s₅) (fun _ _=>False) s₄) (fun _ _=>False) s₃
      else ∃ m,m<n/\I m s₃) (fun _ _=>False) s₂) (fun _ _=>False) s₁) (fun _ _=>False) s₁) (fun _ _=>False) s)(n:Nat)(h:I n s):
  codeAny (model prog w) A (.compLoop (.ListComp elt [⟨target,iter,ifs,0⟩] scope pos) 0 it acc env) R s:=by
 have noE:∀ {α:Type} {m:Sem α} {Q:α->Shared->Prop} {E':Value->Shared->Prop} {s:Shared},wpAny (model prog w) A m Q (fun _ _=>False) s->wpAny (model prog w) A m Q E' s:=fun h=>wpAny_mono h (fun _ _ q=>q) fun _ _ z=>z.elim
 refine codeAny_loop rfl I (fun n s hI=>?_) n h
 show wpAny _ A ((compTurn (.ListComp elt [⟨target,iter,ifs,0⟩] scope pos) 0 it acc env).onRaise (fun x=>do noteFrame x env; theTreesLotGoes x)) _ _ s
 refine wpAny_noted ?_
 rw[compTurn_list]
 refine wpAny_bind (wpAny_standAt (wpAny_bind (noE (wpAny_mono (turn n s hI) (fun r s₁ h₁=>?_) fun _ _ z=>z))))
 cases r with
 | none=>exact wpAny_pure h₁
 | some v=>
  refine wpAny_bind (noE (wpAny_mono h₁ (fun _ s₁ h₁=>?_) fun _ _ z=>z))
  refine wpAny_bind (noE (wpAny_mono h₁ (fun _ s₂ h₂=>wpAny_bind (noE (wpAny_mono h₂ (fun ok s₃ h₃=>?_) fun _ _ z=>z))) fun _ _ z=>z))
  cases ok with
  | false=>exact wpAny_pure ⟨rfl,h₃⟩
  | true=>
   exact wpAny_bind (wpAny_bind (noE (wpAny_mono h₃ (fun x s₄ h₄=>wpAny_bind (noE (wpAny_mono h₄ (fun _ s₅ h₅=>wpAny_pure (wpAny_pure ⟨rfl,h₅⟩)) fun _ _ z=>z))) fun _ _ z=>z)))
def blk(X:Cx)(s2:Shared)(H2:Hp)(C:Addr)(scope:Scope)(cl:List (Str×Addr))(N':List Str)(fp:List Addr):Cx:=
 { X with N:=N',s₀:=s2,H₀:=H2,env:=compEnvC scope cl C X.env,outer:=X.stack,ex:=fp,fn:=fun x=>scope.names.lookup x==some NameKind.cell,pn:=[],xe:=fun _ _=>False }
structure CompSc(X:Cx)(scope:Scope)(cl:List (Str×Addr))(N':List Str)(pk:List (Option Nat)):Prop where
 kind:scope.kind=.function
 cell:∀ y∈scope.names,y.2=.cell->scope.names.lookup y.1=some .cell
 names:∀ y∈scope.names,y.2=.local->scope.names.lookup y.1=some .local
 clos:closureFor scope X.env=pure cl
 sub:∀ x c,cl.lookup x=some c->X.env.cells.lookup x=some c
 has:∀ x,((relabel scope X.env).names.lookup x=some .cell\/(relabel scope X.env).names.lookup x=some .free)->(x,NameKind.cell)∈scope.names\/∃ c,cl.lookup x=some c
 len:pk.length=N'.length
 take:∀ (i j:Nat) (x:Str),pk[i]?=some (some j)->N'[i]?=some x->X.N[j]?=some x/\(X.env.kindOf x=some .cell\/X.env.kindOf x=some .free)/\((relabel scope X.env).names.lookup x=some .cell\/(relabel scope X.env).names.lookup x=some .free)/\scope.names.lookup x=some .free
def pkS{α:Type}(pk:List (Option Nat))(σ:List (Option α)):List (Option α):=pk.map fun o=>o.bind fun j=>(σ[j]?).bind id
def PTs(Y:Cx)(ifs:List Expr)(t:TT):Prop:=
 ∀ (pins:List (Addr×Obj)) (s:Shared) (σ:L2.St) (H:Hp) (Q:Bool->Hp->Prop),Inv Y pins σ H s->t σ H Q→
  wpAny (model Y.prog Y.w) Y.A (forIn ifs true fun c r=>if r=true then do let ok <- isTrue c Y.env (eval c Y.env); pure (ForInStep.yield ok) else pure (ForInStep.yield r)) (TP Y pins σ Q) Y.xe s
theorem Gm5{Y:Cx}:PTs Y [] (fun _ H Q=>Q true H):=fun _ _ _ H _ I h=>wpAny_tests_nil ⟨H,I,h⟩
def Gjw(wi:TI)(pk:List (Option Nat))(g:TG)(tt:TT)(te:TE):TE:=fun σ H Q=>wi σ H fun J H1=>∀ a,H1 a=none->∃ W:Nat->Nat->L2.St->Hp->Prop,(∃ m,W 0 m (pkS pk σ) (upd H1 a (.lst [])))/\∀ i m σ' H',W i m σ' H'→
 (J.stop i H'/\Q (.ref a) H')\/(J.go i H'/\∀ x H2,J.yld i H' x H2->g x σ' H2 fun σ3 H3=>tt σ3 H3 fun b H4=>if b=true then te σ3 H4 fun v H5=>∃ xs,H5 a=some (.lst xs)/\xs.length<sizeLine/\∃ m',m'<m/\W (i+1) m' σ3 (upd H5 a (.lst (xs++[v])))
  else ∃ m',m'<m/\W (i+1) m' σ3 H4)
theorem Gjx{P:Program}{w:World}{H:Hp}{h h':Heap}{C:Addr}(k:HOk P w H h)(hn:H C=none)(hs:Heap.SameBut C h h'):HOk P w H h':=fun b ob e=>by
 refine(k b ob e).stay (fun c w' hc q=>(hs.2 c ?_).trans q) (fun _ q=>q) fun _ _ q=>q
 rintro rfl
 rcases hc with rfl | hc
 ·rw[hn] at e; cases e
 ·rw[hn] at hc; cases hc
theorem Hv:∀ (names:List (Str×NameKind)) (n:Nat) (acc:List (Str×Addr)),cellsFrom n names acc=cellsFrom n names []++acc
 | [],_,_=>rfl
 | (x,k)::r,n,acc=>by
  unfold cellsFrom
  by_cases hk:(k==NameKind.cell)=true
  ·rw[if_pos hk,if_pos hk,Hv r (n+1) ((x,n)::acc),Hv r (n+1) [(x,n)],List.append_assoc]
   rfl
  ·rw[if_neg hk,if_neg hk,Hv r n acc]
theorem Uk:∀ (names:List (Str×NameKind)) (n:Nat) (x:Str) (c:Addr),(x,c)∈cellsFrom n names []->(x,NameKind.cell)∈names
 | [],_,_,_,h=>by simp[cellsFrom] at h
 | (y,k)::r,n,x,c,h=>by
  unfold cellsFrom at h
  by_cases hk:(k==NameKind.cell)=true
  ·rw[if_pos hk,Hv] at h
   rcases List.mem_append.mp h with h | h
   ·exact List.mem_cons_of_mem _ (Uk r (n+1) x c h)
   ·have:x=y:=by simpa using(List.mem_singleton.mp h▸rfl:(x,c).1=(y,n).1)
    have hk:k=.cell:=by simpa using hk
    subst this hk
    exact List.mem_cons_self
  ·rw[if_neg hk] at h
   exact List.mem_cons_of_mem _ (Uk r n x c h)
theorem Qn{x:Str}:∀ (a b:List (Str×Addr)),(a++b).lookup x=match a.lookup x with
  | some c=>some c
  | none=>b.lookup x
 | [],_=>rfl
 | (y,c)::r,b=>by
  rw[List.cons_append,List.lookup_cons,List.lookup_cons]
  cases h:x==y with
  | true=>rfl
  | false=>exact Qn r b
theorem Kt:∀ (names:List (Str×NameKind)) (n:Nat) (x:Str),(x,NameKind.cell)∈names->∃ c,(cellsFrom n names []).lookup x=some c
 | [],_,_,h=>by simp at h
 | (y,k)::r,n,x,h=>by
  unfold cellsFrom
  by_cases hx:(x,NameKind.cell)∈r
  ·by_cases hk:(k==NameKind.cell)=true
   ·rw[if_pos hk,Hv,Qn]
    obtain⟨c,hc⟩:=Kt r (n+1) x hx
    rw[hc]; exact⟨c,rfl⟩
   ·rw[if_neg hk]
    exact Kt r n x hx
  ·rcases List.mem_cons.mp h with h | h
   ·cases h
    rw[if_pos (by rfl),Hv,Qn]
    cases e:(cellsFrom (n+1) r []).lookup y with
    | some c=>exact⟨c,rfl⟩
    | none=>exact⟨n,by simp[List.lookup_cons]⟩
   ·exact absurd h hx
theorem Gaq{M:Model}{A:Around}{E:Value->Shared->Prop}{s:Shared}{scope:Scope}{globals:Addr}{cl:List (Str×Addr)}{qual:Str}{env:PySem.Env}{Q:PySem.Env->Shared->Prop}
  (hQ:∀ h',h'=pushCells (s.heap.push { cls:=.type "dict",data:=.dict #[] }) scope.names→
   Q { scope:=scope,locals:=s.heap.objs.size,globals:=globals,cells:=cellsFrom (s.heap.objs.size+1) scope.names cl,qual:=qual,func:=none,code:=env.code,frame:=env.frame,builtins:=env.builtins } { s with heap:=h' }):
  wpAny M A (newFunctionEnv scope globals cl [] qual none .none (some env)) Q E s:=by
 simp only[newFunctionEnv,Option.isSome_some,if_true]
 refine wpAny_bind (wpAny_alloc ?_)
 refine wpAny_bind (wpAny_layCells _ (fun name kind cells=>by cases hkc:kind==NameKind.cell<;>simp[hkc]) _ _ _ _ ?_)
 rw[show({ s with heap:=s.heap.push { cls:=.type "dict",data:=.dict #[] } }:Shared).heap.objs.size=s.heap.objs.size+1 from Heap.size_push ..]
 rw[List.forIn_nil]
 exact wpAny_bind (wpAny_pure (wpAny_pure (hQ _ rfl)))
section
variable{X:Cx}
theorem Gbl{elt tg iter:Expr}{ifs:List Expr}{scope:Scope}{pos:Pos}{cl:List (Str×Addr)}{N':List Str}{pk:List (Option Nat)}{g:TG}{tt:TT}{te:TE}(cs:CompSc X scope cl N' pk)(hcm:X.calm=true)
  (hg:∀ cl s2 H2 C fp,PG (blk X s2 H2 C scope cl N' fp) tg g) (ht:∀ cl s2 H2 C fp,PTs (blk X s2 H2 C scope cl N' fp) ifs tt) (he:∀ cl s2 H2 C fp,PE (blk X s2 H2 C scope cl N' fp) elt te)
  {pins:List (Addr×Obj)} {σ:L2.St} {H2:Hp} {s2:Shared} {it:Addr} {fp:List Addr} {tn:Nat->Heap->Prop} {J:It} (I2:Inv X pins σ H2 s2) (T:Turn X.prog X.w X.K tg J fp it tn) (st2:tn 0 s2.heap) (f2:∀ b∈fp,Gcp X pins H2 b)
  {Q:VK} (hQ:∀ a,H2 a=none->∃ W:Nat->Nat->L2.St->Hp->Prop,(∃ m,W 0 m (pkS pk σ) (upd H2 a (.lst [])))/\∀ i m σ' H',W i m σ' H'→
   (J.stop i H'/\Q (.ref a) H')\/(J.go i H'/\∀ x H3,J.yld i H' x H3->g x σ' H3 fun σ3 H3=>tt σ3 H3 fun b H4=>if b=true then te σ3 H4 fun v H5=>∃ xs,H5 a=some (.lst xs)/\xs.length<sizeLine/\∃ m',m'<m/\W (i+1) m' σ3 (upd H5 a (.lst (xs++[v])))
    else ∃ m',m'<m/\W (i+1) m' σ3 H4)) {E:Value->Shared->Prop} {RR:Value->Addr->Result->Shared->Prop}
  (hRR:∀ D C s' (H':Hp),Q (.ref D) H'->(∃ m,s'.heap.Ns C m)->Inv X pins σ H' s'->H' C=none->s2.heap.objs.size<=C->RR (.ref D) C (.ok .next) s'):
  wpAny (model X.prog X.w) X.A (newList []) (fun acc s₃=>wpAny (model X.prog X.w) X.A (newFunctionEnv scope X.env.globals cl [] X.env.qual none .none (some X.env)) (fun cenv s₄=>
   codeAny (model X.prog X.w) X.A (.compStart (.ListComp elt [⟨tg,iter,ifs,0⟩] scope pos) 0 (.ref it) acc { cenv with scope:=relabel scope X.env }) (RR acc cenv.locals) s₄) E s₃) E s2:=by
 have hD:H2 s2.heap.objs.size=none:=I2.hok.fresh (Nat.le_refl _)
 obtain⟨W,⟨m0,w0⟩,turn⟩:=hQ s2.heap.objs.size hD
 refine wpAny_newObj_type (Gaq (fun h₁ hh₁=>?_))
 dsimp only at hh₁ ⊢
 generalize hHh:s2.heap.push { cls:=.type "list",dict:=none,data:=.seq ([]:List Value).toArray }=Hh at hh₁ ⊢
 have hC:Hh.objs.size=s2.heap.objs.size+1:=by rw[<- hHh,Heap.size_push]
 have hDC:s2.heap.objs.size≠Hh.objs.size:=by rw[hC]; exact Nat.ne_of_lt (Nat.lt_succ_self _)
 have hCle:s2.heap.objs.size<=Hh.objs.size:=by rw[hC]; exact Nat.le_succ _
 have below:∀ b,b<s2.heap.objs.size->b≠Hh.objs.size/\b≠s2.heap.objs.size:=fun b hb=>⟨by rw[hC]; exact Nat.ne_of_lt (Nat.lt_succ_of_lt hb),Nat.ne_of_lt hb⟩
 have hns₁:h₁.Ns Hh.objs.size (fun _=>none):=by rw[hh₁]; exact(Heap.Ns.new Hh (.type "dict")).keeps (pushCells_keeps _ _)
 have old0:∀ b o,Hh.get? b=some o->h₁.get? b=some o:=fun b o e=>by rw[hh₁]; exact pushCells_keeps _ _ b o (Heap.get?_push_of_some _ e)
 have old:∀ b o,s2.heap.get? b=some o->h₁.get? b=some o:=fun b o e=>old0 b o (by rw[<- hHh]; exact Heap.get?_push_of_some _ e)
 have hacc:h₁.get? s2.heap.objs.size=some { cls:=.type "list",dict:=none,data:=.seq ([]:List Value).toArray }:=old0 _ _ (by rw[<- hHh]; exact Heap.get?_push_size _ rfl)
 have own:=cellsFrom_ok scope.names (Hh.push { cls:=.type "dict",data:=.dict #[] }) (Hh.objs.size+1) [] ⟨fun _ _ hm=>(nomatch hm),List.Pairwise.nil⟩ (by rw[Heap.size_push]; exact Nat.le_refl _)
 rw[Heap.size_push,<- hh₁] at own
 generalize hcs:cellsFrom (Hh.objs.size+1) scope.names cl=cs' at *
 have csl:∀ x c,cs'.lookup x=some c->((x,c)∈cellsFrom (Hh.objs.size+1) scope.names []/\h₁.IsCell c none/\Hh.objs.size+1<=c/\scope.names.lookup x=some .cell)\/((x,NameKind.cell)∉scope.names/\X.env.cells.lookup x=some c):=fun x c h=>by
  rw[<- hcs,Hv,Qn] at h
  cases e:(cellsFrom (Hh.objs.size+1) scope.names []).lookup x with
  | some c'=>
   rw[e] at h
   cases h
   have m:=mem_of_lookup e
   exact .inl ⟨m,(own.empty x c m).1,(own.empty x c m).2,cs.cell (x,.cell) (Uk _ _ _ _ m) rfl⟩
  | none=>
   rw[e] at h
   refine .inr ⟨fun hm=>?_,cs.sub x c h⟩
   obtain⟨c',q⟩:=Kt scope.names (Hh.objs.size+1) x hm
   rw[e] at q; cases q
 have cshas:∀ x,((relabel scope X.env).names.lookup x=some .cell\/(relabel scope X.env).names.lookup x=some .free)->∃ c,cs'.lookup x=some c:=fun x h=>by
  rw[<- hcs,Hv,Qn]
  cases e:(cellsFrom (Hh.objs.size+1) scope.names []).lookup x with
  | some c=>exact⟨c,rfl⟩
  | none=>
   rcases cs.has x h with hm | hm
   ·obtain⟨c',q⟩:=Kt scope.names (Hh.objs.size+1) x hm
    rw[e] at q; cases q
   ·exact hm
 have lts:∀ x c,X.env.cells.lookup x=some c->c<s2.heap.objs.size:=fun x c h=>by
  obtain⟨v,o,ho,hd⟩:=I2.cell x c h
  exact Heap.lt_size ho
 let Y:=blk X s2 H2 Hh.objs.size scope cs' N' fp
 have fpLt:∀ b∈fp,b<s2.heap.objs.size:=fun b hb=>by
  obtain⟨o,e,_⟩:=T.obj _ _ st2 b hb
  exact Heap.lt_size e
 have okY:Y.Ok:=by
  refine⟨I2.ok.mod,(by show(relabel scope X.env).kind=.function; exact cs.kind),I2.ok.glob,I2.ok.blt,hCle,fun x y c h1 h2=>?_,cshas,(fun x c z h=>by
   rcases csl x c h with⟨_,_,q,_⟩ | ⟨q,_⟩
   ·show s2.heap.objs.size<=c
    rw[hC] at q; omega
   ·have z:scope.names.lookup x=some .cell:=by simpa[Y,blk] using z
    exact absurd (mem_of_lookup z) q),I2.ok.hd,I2.ok.frames,.inl rfl,fun b hb=>⟨Nat.ne_of_lt (by rw[show Y.env.locals=Hh.objs.size from rfl,hC]; exact Nat.lt_succ_of_lt (fpLt b hb)),fun x c h=>by
   rcases csl x c h with⟨_,_,q,_⟩ | ⟨_,q⟩
   ·exact fun z=>absurd (Nat.lt_of_lt_of_le (fpLt b hb) (Nat.le_trans (by rw[hC]; omega) (z▸q))) (Nat.lt_irrefl _)
   ·exact(f2 b hb).2.2.2.2.1 x c q⟩,I2.bs,Nat.le_trans I2.ok.bsz I2.sz,fun b o e hb=>?_,fun b hb hs=>?_,I2.stack,I2.stkFree⟩
  ·rcases csl x c h1 with⟨m1,_,q1,_⟩ | ⟨_,q1⟩<;>rcases csl y c h2 with⟨m2,_,q2,_⟩ | ⟨_,q2⟩
   ·exact name_of_addr own.apart m1 m2
   ·exact absurd (Nat.lt_of_lt_of_le (lts y c q2) (Nat.le_trans (by rw[hC]; omega) q1)) (Nat.lt_irrefl _)
   ·exact absurd (Nat.lt_of_lt_of_le (lts x c q1) (Nat.le_trans (by rw[hC]; omega) q2)) (Nat.lt_irrefl _)
   ·exact I2.ok.inj x y c q1 q2
  ·rcases(f2 b hb).2.2.2.1 with z | z
   ·exact I2.ok.noex b o e z
   ·exact absurd (Nat.lt_of_lt_of_le (Heap.lt_size e) (Nat.le_trans I2.ok.bsz z)) (Nat.lt_irrefl _)
  ·rcases List.mem_cons.mp (I2.stkSub b hs) with z | z
   ·exact(f2 b hb).2.1 z
   ·exact(f2 b hb).2.2.1 z
 have hokY:HOk X.prog X.w (upd H2 s2.heap.objs.size (.lst [])) h₁:=I2.hok.laid old (Nat.le_refl _) ⟨by decide,[],0,.nil,hacc⟩
 have IY:∀ tk,Inv Y [] (pkS pk σ) (upd H2 s2.heap.objs.size (.lst [])) { s2 with heap:=h₁,toks:=tk }:=fun tk=>by
  refine⟨okY,rfl,I2.bare,?_,⟨_,hns₁,fun i x v h1 h2 h3=>?_⟩,fun x c h=>?_,?_,fun x c h=>?_,fun p hp=>absurd (show p∈([]:List (Addr×Obj)) from hp) (by simp),hokY,by show(pkS pk σ).length=N'.length; rw[<- cs.len]; simp[pkS]⟩
  ·exact Un.laid old (Nat.le_refl _) hD
  ·unfold pkS at h2
   rw[List.getElem?_map] at h2
   cases e:pk[i]? with
   | none=>rw[e] at h2; cases h2
   | some o=>
    rw[e] at h2
    cases o with
    | none=>cases h2
    | some j=>
     have h2:(σ[j]?).bind id=some v:=Option.some.inj h2
     have h2:σ[j]?=some (some v):=by
      cases z:σ[j]? with
      | none=>rw[z] at h2; cases h2
      | some q=>
       rw[z] at h2
       have h2:q=some v:=h2
       rw[h2]
     obtain⟨n1,n2,n3,n4⟩:=cs.take i j x e h1
     obtain⟨m,_,hl⟩:=I2.loc
     have vis:Vis X.env.scope x:=by
      rcases n2 with n2 | n2
      ·exact .inr (.inl n2)
      ·exact .inr (.inr n2)
     obtain⟨u,r,l⟩:=hl j x v n1 h2 vis
     refine⟨u,r,.inr ⟨n3,?_⟩⟩
     rcases l with⟨k,_⟩ | ⟨_,c,hc,⟨o,ho,hd⟩⟩
     ·rcases n2 with n2 | n2<;>rw[k] at n2<;>cases n2
     ·obtain⟨c',hc'⟩:=cshas x n3
      rcases csl x c' hc' with⟨_,_,_,q⟩ | ⟨_,e2⟩
      ·rw[n4] at q; cases q
      rw[hc] at e2
      cases e2
      exact⟨c,hc',o,old c o ho,hd⟩
  ·rcases csl x c h with⟨_,q,_,_⟩ | ⟨_,q⟩
   ·exact⟨none,q⟩
   obtain⟨v,o,ho,hd⟩:=I2.cell x c q
   exact⟨v,o,old c o ho,hd⟩
  ·show upd H2 s2.heap.objs.size (.lst []) Hh.objs.size=none
   rw[Gs (Ne.symm hDC)]
   exact I2.hok.fresh hCle
  ·rcases csl x c h with⟨_,_,z,_⟩ | ⟨_,z⟩
   ·show upd H2 s2.heap.objs.size (.lst []) c=none
    have z:s2.heap.objs.size+2<=c:=by rw[hC] at z; exact z
    rw[Gs (Nat.ne_of_gt (by omega:s2.heap.objs.size<c))]
    exact I2.hok.fresh (by omega)
   have q:=I2.freeC x c z
   obtain⟨v,o,ho,hd⟩:=I2.cell x c z
   show upd H2 s2.heap.objs.size (.lst []) c=none
   rw[Gs (below c (Heap.lt_size ho)).2]
   exact q
 have stat:∀ {H':Hp},(∀ b∈fp,H' b=none)->∀ b∈fp,Gcp Y [] H' b:=fun hn b hb=>
  ⟨hn b hb,(okY.exf b hb).1,okY.exfs b hb,.inl hb,(okY.exf b hb).2,fun p hp=>absurd (show p∈([]:List (Addr×Obj)) from hp) (by simp)⟩
 have fin:∀ (H':Hp) (σ':L2.St) (s':Shared),Inv Y [] σ' H' s'->∀ h',Heap.SameBut Hh.objs.size s'.heap h'->Inv X pins σ H' { s' with heap:=h' }:=fun H' σ' s' I' h' hs=>by
  have sub:∀ b o,s2.heap.get? b=some o->b≠Hh.objs.size:=fun b o e=>(below b (Heap.lt_size e)).1
  have un:Un (frs X.stack) fp H2 H' s2.heap s'.heap:=I'.base
  refine I2.call' (ch:=fp) I'.os ⟨fun b o e n hb hx=>(hs.2 b (sub b o e)).trans (un.keep b o e n hb hx),fun b o e n hb hx=>?_,un.free,fun b o e hx=>?_,un.tups,un.frzs,un.tbls⟩ (Gjx I'.hok I'.free hs) I'.bare fun b hb=>⟨(f2 b hb).2.2.2.1,(f2 b hb).2.1,(f2 b hb).2.2.2.2.1,(f2 b hb).2.2.2.2.2⟩
  ·obtain⟨sl,q⟩:=un.slot b o e n hb hx
   exact⟨sl,(hs.2 b (sub b o e)).trans q⟩
  ·obtain⟨o',q⟩:=un.there b o e hx
   exact⟨o',(hs.2 b (sub b o e)).trans q⟩
 have loop:∀ s3:Shared,(∃ tk,s3={ s2 with heap:=h₁,toks:=tk })→
   codeAny (model X.prog X.w) X.A (.compLoop (.ListComp elt [⟨tg,iter,ifs,0⟩] scope pos) 0 (.ref it) (.ref s2.heap.objs.size) (compEnvC scope cs' Hh.objs.size X.env)) (RR (.ref s2.heap.objs.size) Hh.objs.size) s3:=by
  rintro s3 ⟨tk,rfl⟩
  refine Gd4 (fun n s'=>∃ i σ' H',Inv Y [] σ' H' s'/\tn i s'.heap/\(∀ b∈fp,H' b=none)/\W i n σ' H') ?_ m0 ⟨0,_,_,IY tk,T.keep _ _ _ st2 (fun b _ o e=>old b o e),fun b hb=>by rw[Gs (below b (fpLt b hb)).2]; exact(f2 b hb).1,w0⟩
  rintro n s4 ⟨i,σ4,H4,I4,st4,fr4,w4⟩
  rcases turn i n σ4 H4 w4 with⟨stop,qn⟩ | ⟨go,step⟩
  ·refine wpAny_mono (T.done Y rfl rfl rfl hcm i [] s4 σ4 H4 (fun _ _=>False) I4 (stat fr4) st4 stop) (fun r s5 ⟨hr,I5⟩=>?_) fun _ _ z=>z
   subst hr
   obtain⟨m,hn,_⟩:=I5.loc
   exact hRR _ _ s5 H4 qn ⟨m,hn⟩ (fin H4 σ4 s5 I5 s5.heap (.refl ..)) I5.free hCle
  ·refine wpAny_mono (T.item Y rfl rfl rfl hcm i [] s4 σ4 H4 (fun _ _=>False) I4 (stat fr4) st4 go) (fun r s5 ⟨u,hr,h5⟩=>?_) fun _ _ z=>z
   subst hr
   refine wpAny_mono h5 (fun _ s6 ⟨x,H6,I6,r6,y6,st6,fr6⟩=>?_) fun _ _ z=>z
   have I6':=I6.pinned (stat fr6) (T.obj _ _ st6)
   refine wpAny_mono (hg cs' s2 H2 Hh.objs.size fp _ s6 σ4 H6 x u _ I6' r6 (step x H6 y6)) (fun _ s7 ⟨σ7,H7,I7,q7⟩=>?_) fun _ _ z=>z
   refine wpAny_mono (ht cs' s2 H2 Hh.objs.size fp _ s7 σ7 H7 _ I7 q7) (fun ok s8 ⟨H8,I8,q8⟩=>?_) fun _ _ z=>z
   have back:∀ {σ9:L2.St} {H9:Hp} {s9:Shared},Inv Y ([]++Gbg fp s6.heap) σ9 H9 s9->Inv Y [] σ9 H9 s9/\tn (i+1) s9.heap/\∀ b∈fp,H9 b=none:=fun{σ9 H9 s9} I9=>
    ⟨I9.unpinned,T.keep _ _ _ st6 fun b hb o e=>(I9.pin (b,o) (List.mem_append_right _ (List.mem_append_right _ (Vk hb e)))).1,fun b hb=>by
     obtain⟨o,e,d⟩:=T.obj _ _ st6 b hb
     exact(I9.pin (b,o) (List.mem_append_right _ (List.mem_append_right _ (Vk hb e)))).2.1⟩
   cases ok with
   | false=>
    obtain⟨m',hm,w'⟩:=(if_neg Bool.false_ne_true).mp q8
    obtain⟨b1,b2,b3⟩:=back I8
    exact(if_neg Bool.false_ne_true).mpr ⟨m',hm,i+1,σ7,H8,b1,b2,b3,w'⟩
   | true=>
    refine(if_pos rfl).mpr ?_
    refine wpAny_mono (he cs' s2 H2 Hh.objs.size fp _ s8 σ7 H8 _ I8 ((if_pos rfl).mp q8)) (fun ux s9 ⟨v,H9,I9,r9,xs,ex,hx,m',hm,w'⟩=>?_) fun _ _ z=>z
    refine wpAny_mono (Gdg (X:=Y) _ s9 σ7 H9 (.ref s2.heap.objs.size) [v] (.ref s2.heap.objs.size) [ux] (fun _ H'=>H'=upd H9 s2.heap.objs.size (.lst (xs++[v]))) I9 rfl (.cons r9 .nil) ⟨_,xs,v,rfl,rfl,ex,hx,rfl⟩) (fun _ s10 ⟨_,H10,I10,_,e10⟩=>?_) fun _ _ z=>z
    subst e10
    obtain⟨b1,b2,b3⟩:=back I10
    exact⟨m',hm,i+1,σ7,_,b1,b2,b3,w'⟩
 exact codeAny_compStart_list (loop _ ⟨_,rfl⟩) (T.self _ 0 _ _ _ (T.keep _ _ _ st2 fun b _ o e=>old b o e) (loop _ ⟨_,rfl⟩))
theorem Gha{pins:List (Addr×Obj)}{σ σ2:L2.St}{H2 H':Hp}{s2 s':Shared}{C:Addr}{h':Heap}(I2:Inv X pins σ2 H2 s2)(I:Inv X pins σ H' s')(hn:H' C=none)(hC:s2.heap.objs.size<=C)(hs:Heap.SameBut C s'.heap h'):Inv X pins σ H' { s' with heap:=h' }:=by
 refine I.turned (t':=s'.toks) (it:=C) (fun b o hb e=>(hs.2 b hb).trans e) hn (fun z=>?_) (.inr (Nat.le_trans I2.sz hC)) (fun x c h z=>?_) fun p hp z=>?_
 ·exact absurd (Nat.lt_of_lt_of_le I2.lt (by rw[<- z]; exact hC)) (Nat.lt_irrefl _)
 ·obtain⟨v,q⟩:=I2.cell x c h
  exact absurd (Nat.lt_of_lt_of_le q.lt (by rw[z]; exact hC)) (Nat.lt_irrefl _)
 ·exact absurd (Nat.lt_of_lt_of_le (Heap.lt_size (I2.pin p hp).1) (by rw[z]; exact hC)) (Nat.lt_irrefl _)
theorem Yi{env:PySem.Env}:∀ (names:List (Str×NameKind)) (acc:List (Str×Addr)),(∀ x∈names,x.2=.free->∃ c,env.cells.lookup x.1=some c)->(∀ x c,acc.lookup x=some c->env.cells.lookup x=some c)→
  ∃ cl,(forIn names acc fun x cs=>(if(x.2==NameKind.free)=true then do let c <- cellOf env x.1; pure (ForInStep.yield ((x.1,c)::cs)) else pure (ForInStep.yield cs):Sem _))=pure cl/\(∀ x c,cl.lookup x=some c->env.cells.lookup x=some c)∧
   (∀ x,(∃ c,acc.lookup x=some c)\/(x,NameKind.free)∈names->∃ c,cl.lookup x=some c)
 | [],acc,_,ha=>⟨acc,rfl,ha,fun x h=>by
   rcases h with h | h
   ·exact h
   ·simp at h⟩
 | (n,k)::r,acc,hn,ha=>by
  have hr:∀ x∈r,x.2=.free->∃ c,env.cells.lookup x.1=some c:=fun x hx=>hn x (List.mem_cons_of_mem _ hx)
  by_cases hk:k=.free
  ·subst hk
   obtain⟨c,hc⟩:=hn (n,.free) List.mem_cons_self rfl
   obtain⟨cl,e,h1,h2⟩:=Yi r ((n,c)::acc) hr (fun x c' h=>by
    rw[List.lookup_cons] at h
    by_cases hx:(x==n)=true
    ·rw[hx] at h
     cases h
     have:x=n:=by simpa using hx
     rw[this]; exact hc
    ·have hx:(x==n)=false:=by simpa using hx
     rw[hx] at h
     exact ha x c' h)
   refine⟨cl,?_,h1,fun x h=>h2 x ?_⟩
   ·rw[List.forIn_cons]
    simp only[beq_self_eq_true,if_true]
    have q:cellOf env n=pure c:=by unfold cellOf; rw[hc]
    rw[q]
    exact e
   ·rcases h with⟨c',h⟩ | h
    ·left
     rw[List.lookup_cons]
     by_cases hx:(x==n)=true
     ·rw[hx]; exact⟨c,rfl⟩
     ·have hx:(x==n)=false:=by simpa using hx
      rw[hx]; exact⟨c',h⟩
    ·rcases List.mem_cons.mp h with h | h
     ·left
      cases h
      exact⟨c,by rw[List.lookup_cons,beq_self_eq_true]⟩
     ·exact .inr h
  ·have hb:(k==NameKind.free)=false:=by simpa using hk
   obtain⟨cl,e,h1,h2⟩:=Yi r acc hr ha
   refine⟨cl,?_,h1,fun x h=>h2 x ?_⟩
   ·rw[List.forIn_cons]
    simp only[hb,Bool.false_eq_true,if_false]
    exact e
   ·rcases h with h | h
    ·exact .inl h
    ·rcases List.mem_cons.mp h with h | h
     ·cases h; exact absurd rfl hk
     ·exact .inr h
theorem Ggg{env:PySem.Env}{scope:Scope}(hn:∀ x∈scope.names,x.2=.free->∃ c,env.cells.lookup x.1=some c):∃ cl,closureFor scope env=pure cl/\(∀ x c,cl.lookup x=some c->env.cells.lookup x=some c)/\(∀ x,(x,NameKind.free)∈scope.names->∃ c,cl.lookup x=some c):=by
 obtain⟨cl,e,h1,h2⟩:=Yi (env:=env) scope.names [] hn (fun x c h=>by simp at h)
 refine⟨cl,?_,h1,fun x h=>h2 x (.inr h)⟩
 unfold closureFor
 have e2:(forIn scope.names ([]:List (Str×Addr)) fun x r=>(match x with
   | (name,kind)=>if(kind==NameKind.free)=true then do let c <- cellOf env name; pure (ForInStep.yield ((name,c)::r)) else pure (ForInStep.yield r):Sem _))=pure cl:=e
 first
  | exact congrArg (fun m=>m >>= fun cs=>pure cs) e2
  | (show(do let cs <- forIn scope.names ([]:List (Str×Addr)) fun x r=>_; pure cs)=_; rw[e2]; rfl)
structure CompTab(sc scope:Scope)(N N':List Str)(pk:List (Option Nat)):Prop where
 kind:scope.kind=.function
 cell:∀ y∈scope.names,y.2=.cell->scope.names.lookup y.1=some .cell
 names:∀ y∈scope.names,y.2=.local->scope.names.lookup y.1=some .local
 free:∀ y∈scope.names,y.2=.free->sc.names.lookup y.1=some .cell\/sc.names.lookup y.1=some .free
 len:pk.length=N'.length
 take:((List.range N'.length).all fun i=>match pk[i]? with
  | some (some j)=>match N[j]?,N'[i]? with
   | some x,some y=>(x==y)&&((sc.names.lookup y==some NameKind.cell)||(sc.names.lookup y==some NameKind.free))&&(scope.names.lookup y==some NameKind.free)
   | _,_=>false
  | _=>true)=true
theorem Ws{scope:Scope}{env:PySem.Env}{x:Str}:∀ (names:List (Str×NameKind)),((names.map fun(n,k)=>if(k==NameKind.free&&env.scope.kind==.function&&env.kindOf n==some .cell)=true then(n,NameKind.cell) else(n,k)).lookup x=some .cell∨
   (names.map fun(n,k)=>if(k==NameKind.free&&env.scope.kind==.function&&env.kindOf n==some .cell)=true then(n,NameKind.cell) else(n,k)).lookup x=some .free)->(x,NameKind.cell)∈names\/(x,NameKind.free)∈names
 | [],h=>by simp at h
 | (n,k)::r,h=>by
  rw[List.map_cons] at h
  by_cases hx:(x==n)=true
  ·have e:x=n:=by simpa using hx
   subst e
   by_cases hq:(k==NameKind.free&&env.scope.kind==.function&&env.kindOf x==some .cell)=true
   ·have:k=.free:=by
     rw[Bool.and_eq_true,Bool.and_eq_true] at hq
     simpa using hq.1.1
    subst this
    exact .inr List.mem_cons_self
   ·simp only[hq,Bool.false_eq_true,if_false,List.lookup_cons,beq_self_eq_true] at h
    rcases h with h | h
    ·have:k=.cell:=by simpa using h
     subst this
     exact .inl List.mem_cons_self
    ·have:k=.free:=by simpa using h
     subst this
     exact .inr List.mem_cons_self
  ·have hx:(x==n)=false:=by simpa using hx
   refine(Ws (scope:=scope) (env:=env) r ?_).imp (List.mem_cons_of_mem _) (List.mem_cons_of_mem _)
   by_cases hq:(k==NameKind.free&&env.scope.kind==.function&&env.kindOf n==some .cell)=true
   ·simpa only[hq,if_true,List.lookup_cons,hx] using h
   ·simpa only[hq,Bool.false_eq_true,if_false,List.lookup_cons,hx] using h
theorem Jx{scope:Scope}{env:PySem.Env}{x:Str}:∀ (names:List (Str×NameKind)),names.lookup x=some .free->((names.map fun(n,k)=>if(k==NameKind.free&&env.scope.kind==.function&&env.kindOf n==some .cell)=true then(n,NameKind.cell) else(n,k)).lookup x=some .cell∨
   (names.map fun(n,k)=>if(k==NameKind.free&&env.scope.kind==.function&&env.kindOf n==some .cell)=true then(n,NameKind.cell) else(n,k)).lookup x=some .free)
 | [],h=>by simp at h
 | (n,k)::r,h=>by
  rw[List.map_cons]
  by_cases hx:(x==n)=true
  ·rw[List.lookup_cons,hx] at h
   have:k=.free:=by simpa using h
   subst this
   by_cases hq:(NameKind.free==NameKind.free&&env.scope.kind==.function&&env.kindOf n==some .cell)=true
   ·left; simp only[hq,if_true,List.lookup_cons,hx]
   ·right; simp only[hq,Bool.false_eq_true,if_false,List.lookup_cons,hx]
  ·have hx:(x==n)=false:=by simpa using hx
   rw[List.lookup_cons,hx] at h
   have:=Jx (scope:=scope) (env:=env) r h
   by_cases hq:(k==NameKind.free&&env.scope.kind==.function&&env.kindOf n==some .cell)=true
   ·simpa only[hq,if_true,List.lookup_cons,hx] using this
   ·simpa only[hq,Bool.false_eq_true,if_false,List.lookup_cons,hx] using this
theorem CompTab.sc{scope:Scope}{N':List Str}{pk:List (Option Nat)}(t:CompTab X.env.scope scope X.N N' pk)(ok:X.Ok):∃ cl,CompSc X scope cl N' pk:=by
 obtain⟨cl,e,h1,h2⟩:=Ggg (env:=X.env) (scope:=scope) fun x hx hf=>ok.has x.1 (t.free x hx hf)
 refine⟨cl,t.kind,t.cell,t.names,e,h1,fun x h=>(Ws (scope:=scope) (env:=X.env) scope.names h).imp id (h2 x),t.len,fun i j x hp hn=>?_⟩
 have hi:i<N'.length:=(List.getElem?_eq_some_iff.mp hn).1
 have q:=List.all_eq_true.mp t.take i (List.mem_range.mpr hi)
 simp only[hp,hn] at q
 cases hj:X.N[j]? with
 | none=>simp[hj] at q
 | some y=>
  simp only[hj,Bool.and_eq_true,Bool.or_eq_true,beq_iff_eq] at q
  obtain⟨⟨e1,e2⟩,e3⟩:=q
  subst e1
  exact⟨rfl,e2,Jx (scope:=scope) (env:=X.env) scope.names e3,e3⟩
theorem Gm6{elt tg iter:Expr}{ifs:List Expr}{scope:Scope}{pos:Pos}{N':List Str}{pk:List (Option Nat)}{wi:TI}{g:TG}{tt:TT}{te:TE}(ct:CompTab X.env.scope scope X.N N' pk)(hcm:X.calm=true)(hi:PI X tg iter wi)
  (hg:∀ cl s2 H2 C fp,PG (blk X s2 H2 C scope cl N' fp) tg g) (ht:∀ cl s2 H2 C fp,PTs (blk X s2 H2 C scope cl N' fp) ifs tt) (he:∀ cl s2 H2 C fp,PE (blk X s2 H2 C scope cl N' fp) elt te)
  (hs:∀ x,foldedSetIterable iter X.env x=pure x:=by intro _; rfl):PE X (.ListComp elt [⟨tg,iter,ifs,0⟩] scope pos) (Gjw wi pk g tt te):=by
 intro pins s σ H Q I h
 obtain⟨cl,cs⟩:=ct.sc I.ok
 rw[eval_ListComp]
 refine wpAny_comprehension_free (use:=none) rfl hs cs.clos cs.kind cs.names (thn (hi pins s σ H _ I h) fun x s1 h1=>thn h1 fun itv s2 h2=>?_)
 obtain⟨it,fp,tn,J,H2,e,I2,T,st2,f2,hQ⟩:=h2
 subst e
 refine Gbl cs hcm hg ht he I2 T st2 f2 hQ (RR:=fun acc C=>compPost (model X.prog X.w) X.A X.xe none (EP X pins σ Q) acc C) fun D C s' H' q hn inv hf hC=>?_
 obtain⟨m,hn⟩:=hn
 exact⟨m,hn,fun h' hs'=>⟨.ref D,H',Gha I2 inv hf hC hs',rfl,q⟩⟩
theorem Ggh{i:Nat}{y:Str}{py spos:Pos}{elt tg iter:Expr}{ifs:List Expr}{scope:Scope}{pos:Pos}{N':List Str}{pk:List (Option Nat)}{wi:TI}{g:TG}{tt:TT}{te:TE}(ct:CompTab X.env.scope scope X.N N' pk)(hcm:X.calm=true)(hi:PI X tg iter wi)
  (hg:∀ cl s2 H2 C fp,PG (blk X s2 H2 C scope cl N' fp) tg g) (ht:∀ cl s2 H2 C fp,PTs (blk X s2 H2 C scope cl N' fp) ifs tt) (he:∀ cl s2 H2 C fp,PE (blk X s2 H2 C scope cl N' fp) elt te)
  (hN:X.N.Nodup) (hy:X.N[i]?=some y) (hx:Loc X.env.scope y) (hsw:swapsWith (.ListComp elt [⟨tg,iter,ifs,0⟩] scope pos) (some (.Name y py)) spos.line X.env=pure true)
  (hs:∀ x,foldedSetIterable iter X.env x=pure x:=by intro _; rfl) (hf:X.fn y=true\/X.env.scope.names.lookup y=some .local:=by first | exact .inl rfl | exact .inr rfl | assumption):
  PS X (.Assign [.Name y py] (.ListComp elt [⟨tg,iter,ifs,0⟩] scope pos) spos) (Gmi (Gjw wi pk g tt te) (gName i)):=by
 intro pins s σ H E I h
 obtain⟨cl,cs⟩:=ct.sc I.ok
 rw[exec_Assign_Name_used _ _ _ _ hsw]
 refine wpAny_bind (wpAny_standAt (wpAny_bind ?_))
 show wpAny _ X.A (do let _ <- comprehension (.ListComp elt [⟨tg,iter,ifs,0⟩] scope pos) scope X.env _ (newList []) false (eval iter X.env) (some (assign (.Name y py) X.env))) _ _ s
 refine wpAny_bind (wpAny_mono (wpAny_comprehension_free (use:=some (assign (.Name y py) X.env)) (Q:=fun _ s'=>SP X pins E .next s') rfl hs cs.clos cs.kind cs.names
  (thn (hi pins s σ H _ I h) fun x s1 h1=>thn h1 fun itv s2 h2=>?_)) (fun _ s' hq=>wpAny_pure (wpAny_pure hq)) fun _ _ e=>e)
 obtain⟨it,fp,tn,J,H2,e,I2,T,st2,f2,hQ⟩:=h2
 subst e
 refine Gbl cs hcm hg ht he I2 T st2 f2 (Q:=fun x H1=>gName i x σ H1 E.nx) hQ (RR:=fun acc C=>compPost (model X.prog X.w) X.A X.xe (some (assign (.Name y py) X.env)) (fun _ s'=>SP X pins E .next s') acc C) fun D C s' H' q hn inv hfr hC=>?_
 obtain⟨m,hn⟩:=hn
 show wpAny _ X.A (assign (.Name y py) X.env (.ref D)) _ _ _
 refine wpAny_assign_Name (Gda inv hN hy hx (v:=.ref D) rfl (fun s'' I'' hch=>?_) hf)
 obtain⟨a,hsb,ha⟩:=hch
 have hCa:C≠a:=by
  rcases ha with ha | ha
  ·rintro rfl
   exact absurd (Nat.lt_of_lt_of_le I2.lt (by rw[<- ha]; exact hC)) (Nat.lt_irrefl _)
  ·rintro rfl
   obtain⟨v,z⟩:=I2.cell y _ ha
   exact absurd (Nat.lt_of_lt_of_le z.lt hC) (Nat.lt_irrefl _)
 exact⟨m,hn.sameBut hsb hCa,fun h' hs'=>⟨_,H',Gha I2 I'' hfr hC hs',q⟩⟩
abbrev XN:XW:=fun _ _ _ _ _ _=>False
def cbody(a:Nat)(t:Ev Bool)(e:Ev D):Sv:=fun ρ S=>bindS (t ρ S) ρ fun b S1=>if b=true then bindS (e ρ S1) ρ fun d S2=>(match S2[a]? with
  | some c=>if c.fz=false/\c.xs.length<1000000 then .nx ρ (S2.set a ⟨false,c.xs++[d]⟩) else .bad
  | none=>.bad) else .nx ρ S1
def cmp(f:Ev Src)(pk:List (Option Nat))(g:Tg)(t:Ev Bool)(e:Ev D):Ev D:=fun ρ S=>(f ρ S).bind fun src S1=>match Ky src.nxt g (cbody S1.length t e) src.fuel 0 (pkS pk ρ) (S1++[⟨false,[]⟩]) with
 | .nx _ S'=>.ok (.lst S1.length) S'
 | _=>.bad
def Gac(K:PySem.W.Frag)(XQ:XW)(σ:L2.St)(ρ:Lc)(a:Nat)(mp:List Addr)(H:Hp)(o:OS)(Q:VK):Prop:=match o with
 | .nx _ S=>Post K XQ σ ρ mp H (.ok (.lst a) S) Q
 | _=>False
theorem Gac.aft{K:PySem.W.Frag}{XQ:XW}{σ:L2.St}{ρ:Lc}{a:Nat}{mp mp':List Addr}{H H':Hp}{o:OS}{Q:VK}(p:Gac K XQ σ ρ a mp H o Q)(af:Aft K mp H mp' H'):Gac K XQ σ ρ a mp' H' o Q:=by
 cases o with
 | nx r S=>exact Gm.aft (show Post K XQ σ ρ mp H (.ok (.lst a) S) Q from p) af
 | _=>exact p
theorem Gd.pick{K:PySem.W.Frag}{mp:List Addr}{H:Hp}{σ:L2.St}{ρ:Lc}{S:Sto}(G:Gd K mp H σ ρ S)(pk:List (Option Nat)):Gd K mp H (pkS pk σ) (pkS pk ρ) S:=by
 refine⟨G.rs,by simp[pkS],fun i d h=>?_⟩
 unfold pkS at h ⊢
 rw[List.getElem?_map] at h ⊢
 cases e:pk[i]? with
 | none=>rw[e] at h; cases h
 | some o=>
  rw[e] at h
  cases o with
  | none=>cases h
  | some j=>
   have h:(ρ[j]?).bind id=some d:=Option.some.inj h
   have h:ρ[j]?=some (some d):=by
    cases z:ρ[j]? with
    | none=>rw[z] at h; cases h
    | some q=>
     rw[z] at h
     have h:q=some d:=h
     rw[h]
   obtain⟨v,e1,r⟩:=G.loc j d h
   refine⟨v,?_,r⟩
   show some ((σ[j]?).bind id)=some (some v)
   rw[e1]
   rfl
def JTs(Y:Cx)(XQ:XW)(ifs:List Expr)(t:Ev Bool):Prop:=PTs Y ifs (rdT Y.K XQ t)
def ttrue:Ev Bool:=fun _ S=>.ok true S
theorem Gm7{Y:Cx}{XQ:XW}:JTs Y XQ [] ttrue:=fun pins s σ H Q I ⟨mp,ρ,S,G,p⟩=>Gm5 pins s σ H Q I (Gm.ok (show Gm Y.K kB XQ σ ρ mp H (.ok true S) Q from p) G.rs rfl)
theorem Gpl{K:PySem.W.Frag}{XQ:XW}{f:Ev Src}{pk:List (Option Nat)}{g:Tg}{t:Ev Bool}{e:Ev D}(σ:L2.St)(H:Hp)(Q:VK)(h:rdE K XQ (cmp f pk g t e) σ H Q):Gjw (rdI K XQ f) pk (Gjr K g) (rdT K XN t) (rdE K XN e) σ H Q:=by
 obtain⟨mp,ρ,S,G,p⟩:=h
 refine bindP G p fun mp1 H1 src S1 J a1 G1 j1 p1=>?_
 intro a ha
 obtain⟨af,rs,la⟩:=G1.rs.newL ha (RepL.nil:RepL K mp1 H1 [] [])
 have p1:Gac K XQ σ ρ S1.length (mp1++[a]) (upd H1 a (.lst [])) (Ky src.nxt g (cbody S1.length t e) src.fuel 0 (pkS pk ρ) (S1++[⟨false,[]⟩])) Q:=by
  cases z:Ky src.nxt g (cbody S1.length t e) src.fuel 0 (pkS pk ρ) (S1++[⟨false,[]⟩]) with
  | nx r S'=>rw[z] at p1; exact Gm.aft p1 af
  | rt d S'=>rw[z] at p1; exact p1
  | bk r S'=>rw[z] at p1; exact p1
  | ct r S'=>rw[z] at p1; exact p1
  | exc x r S'=>rw[z] at p1; exact p1
  | bad=>rw[z] at p1; exact p1
 refine⟨fun i m σ' H'=>∃ mp' ρ' S',Aft K mp1 H1 mp' H'/\Gd K mp' H' σ' ρ' S'/\(mp'[S1.length]?=some a/\¬ Dcy H' a)/\Gac K XQ σ ρ S1.length mp' H' (Ky src.nxt g (cbody S1.length t e) m i ρ' S') Q,⟨src.fuel,_,_,_,af,(G1.pick pk).aft af rs,⟨la,Gge Hj⟩,p1⟩,?_⟩
 rintro i m σ' H' ⟨mp',ρ',S',a',G',⟨la',nd'⟩,p'⟩
 cases m with
 | zero=>exact(show False from p').elim
 | succ n=>
  have j:=j1 mp' H' S' a' G'.rs i
  unfold Ky at p'
  cases z:src.nxt i S' with
  | none=>
   rw[z] at j p'
   exact .inl ⟨j,Gm.ok (show Post K XQ σ ρ mp' H' (.ok (.lst S1.length) S') Q from p') G'.rs ⟨a,rfl,la',nd'⟩⟩
  | some d=>
   rw[z] at j p'
   obtain⟨j1,j2⟩:=j
   refine .inr ⟨j1,fun x H2 y=>?_⟩
   obtain⟨a2,r2,x2⟩:=j2 x H2 y
   have nd2:=a2.ndc _ _ la' nd'
   have G2:=G'.aft a2 r2
   cases zg:g d ρ' with
   | none=>simp only[zg] at p'; exact p'.elim
   | some ρ1=>
    simp only[zg] at p'
    refine⟨mp',ρ',S',d,ρ1,G2,x2,zg,fun σ3 G3=>⟨mp',ρ1,S',G3,?_⟩⟩
    have p2:=Gac.aft p' a2
    unfold cbody at p2
    cases zt:t ρ1 S' with
    | exc x S2=>simp only[zt,bindS] at p2; exact p2.elim
    | bad=>simp only[zt,bindS] at p2; exact p2.elim
    | ok b S2=>
     simp only[zt,bindS] at p2
     intro mp3 H3 b' a3 rs3 e3
     cases (show b'=b from e3)
     have G4:=G3.aft a3 rs3
     cases b with
     | false=>
      simp only[Bool.false_eq_true,if_false] at p2
      exact(if_neg Bool.false_ne_true).mpr ⟨n,Nat.lt_succ_self n,mp3,ρ1,S2,(a'.trans a2).trans a3,G4,⟨a3.pre _ _ la',a3.ndc _ _ la' nd2⟩,Gac.aft p2 a3⟩
     | true=>
      simp only[if_true] at p2
      refine(if_pos rfl).mpr ⟨mp3,ρ1,S2,G4,?_⟩
      cases ze:e ρ1 S2 with
      | exc x S3=>simp only[ze] at p2; exact p2.elim
      | bad=>simp only[ze] at p2; exact p2.elim
      | ok d2 S3=>
       simp only[ze] at p2
       intro mp4 H4 v a4 rs4 r4
       have la4:=a4.pre _ _ (a3.pre _ _ la')
       have nd4:=a4.ndc _ _ (a3.pre _ _ la') (a3.ndc _ _ la' nd2)
       have G5:=G4.aft a4 rs4
       cases zc:S3[S1.length]? with
       | none=>simp only[zc] at p2; exact p2.elim
       | some c=>
        simp only[zc] at p2
        by_cases hc:c.fz=false/\c.xs.length<1000000
        ·rw[if_pos hc] at p2
         obtain⟨a5,xs,e5,h5,s5,r5,f5⟩:=rs4.items (v:=.ref a) ⟨a,rfl,la4,nd4⟩ zc
         cases e5
         have h5:=f5 hc.1
         obtain⟨af6,rs6⟩:=rs4.setL la4 zc hc.1 h5 (RepL.append r5 (RepL.cons r4 RepL.nil))
         refine⟨xs,h5,?_,n,Nat.lt_succ_self n,mp4,ρ1,_,(((a'.trans a2).trans a3).trans a4).trans af6,G5.aft af6 rs6,⟨la4,Gge Hj⟩,Gac.aft p2 ((a3.trans a4).trans af6)⟩
         rw[r5.len]
         exact Nat.lt_of_lt_of_le hc.2 (by decide)
        ·rw[if_neg hc] at p2; exact p2.elim
variable{XQ:XW}
theorem Gm8{elt tg iter:Expr}{ifs:List Expr}{scope:Scope}{pos:Pos}{N':List Str}{pk:List (Option Nat)}{f:Ev Src}{g:Tg}{t:Ev Bool}{e:Ev D}(ct:CompTab X.env.scope scope X.N N' pk)(hcm:X.calm=true)(hi:JI X XQ tg iter f)
  (hg:∀ cl s2 H2 C fp,JG (blk X s2 H2 C scope cl N' fp) tg g) (ht:∀ cl s2 H2 C fp,JTs (blk X s2 H2 C scope cl N' fp) XN ifs t) (he:∀ cl s2 H2 C fp,JE (blk X s2 H2 C scope cl N' fp) XN elt e)
  (hs:∀ x,foldedSetIterable iter X.env x=pure x:=by intro _; rfl):JE X XQ (.ListComp elt [⟨tg,iter,ifs,0⟩] scope pos) (cmp f pk g t e):=
 PE.mono (Gm6 (g:=Gjr X.K g) (tt:=rdT X.K XN t) (te:=rdE X.K XN e) ct hcm hi hg ht he hs) Gpl
theorem Ggi(i:Nat){y:Str}{py spos:Pos}{elt tg iter:Expr}{ifs:List Expr}{scope:Scope}{pos:Pos}{N':List Str}{pk:List (Option Nat)}{f:Ev Src}{g:Tg}{t:Ev Bool}{e:Ev D}(ct:CompTab X.env.scope scope X.N N' pk)(hcm:X.calm=true)(hi:JI X XQ tg iter f)
  (hg:∀ cl s2 H2 C fp,JG (blk X s2 H2 C scope cl N' fp) tg g) (ht:∀ cl s2 H2 C fp,JTs (blk X s2 H2 C scope cl N' fp) XN ifs t) (he:∀ cl s2 H2 C fp,JE (blk X s2 H2 C scope cl N' fp) XN elt e)
  (hN:X.N.Nodup) (hy:X.N[i]?=some y:=by rfl) (hx:Loc X.env.scope y:=by first | exact Or.inl rfl | exact Or.inr rfl) (hsw:swapsWith (.ListComp elt [⟨tg,iter,ifs,0⟩] scope pos) (some (.Name y py)) spos.line X.env=pure true:=by rfl)
  (hs:∀ x,foldedSetIterable iter X.env x=pure x:=by intro _; rfl) (hf:X.fn y=true\/X.env.scope.names.lookup y=some .local:=by first | exact .inl rfl | exact .inr rfl | assumption):
  JS X XQ (.Assign [.Name y py] (.ListComp elt [⟨tg,iter,ifs,0⟩] scope pos) spos) (sa (cmp f pk g t e) (gn i)):=by
 refine PS.mono (Ggh (g:=Gjr X.K g) (tt:=rdT X.K XN t) (te:=rdE X.K XN e) ct hcm hi hg ht he hN hy hx hsw hs hf) fun E σ H ⟨mp,ρ,S,G,p⟩=>Gpl σ H _ ?_
 exact bindSP G p fun mp1 H1 d S1 v a1 G1 r1 p1=>PostS.nx p1 (G1.set i r1)
end
theorem Gie:fillsNumberSlot (.type "tuple") "mul"=pure false:=
 PySem.fillsNumberSlot_seq (id:="tuple.__mul__") (r:=some (.builtin "tuple.__rmul__")) F.slot_tuple_mul.lookup (by decide +kernel) F.slot_tuple_rmul.lookup (by decide +kernel)
theorem Ggj:seqRepeat? (.type "tuple")=pure (some (.builtin "tuple.__mul__")):=by
 unfold seqRepeat?
 rw[PySem.seqSlot_of (T:="tuple") (name:="__mul__") (id:="tuple.__mul__") F.slot_tuple_mul.lookup (by decide +kernel),PySem.seqSlot_of (T:="tuple") (name:="__rmul__") (id:="tuple.__rmul__") F.slot_tuple_rmul.lookup (by decide +kernel)]
 rfl
theorem Gsa(x:Int)(t:Tok)(l:Addr)(xs:Array Value)(n:Nat)(d:Option Addr)(sl:Array (Option Value)):
  Meets (Builtin.«int.__rmul__» ⟨[.int x t,.ref l],[]⟩) (fun _ R s=>s.heap.get? l=some { cls:=.type "tuple",dict:=d,data:=.seq xs n,slots:=sl }/\R (.ok (.ret Value.notImplemented)) s):=
 .of_wp fun prog w A R s h=>by obtain⟨hp,g,d,tk,os⟩:=s; obtain⟨hl,h⟩:=h; wp_walk; exact⟨_,rfl,h⟩
theorem Gsb(x:Int)(t:Tok)(l:Addr)(xs:Array Value)(n:Nat)(d:Option Addr)(sl:Array (Option Value))(c0:¬ (decide (x < -2^63)||decide (x≥2^63))=true)(c1:¬ (xs.isEmpty||x==1)=true)(c2:¬ (decide (x<=0)||xs.isEmpty)=true)(c3:¬ (xs.size:Int)*x>(2^63-1) / 8)(c4:¬ Builtin.Tuple.tupleTooMany ((xs.size:Int)*x)=true)(c5:(List.foldl (fun x1 x2=>x1++x2) #[] (List.replicate x.toNat xs)).size<=sizeLine):
  Meets (Builtin.«tuple.__mul__» ⟨[.ref l,.int x t],[]⟩) (fun _ R s=>s.heap.get? l=some { cls:=.type "tuple",dict:=d,data:=.seq xs n,slots:=sl }/\R (.ok (.ret (Value.ref s.heap.objs.size))) { s with heap:=s.heap.push { cls:=Value.type "tuple",data:=Data.seq (List.foldl (fun x1 x2=>x1++x2) #[] (List.replicate x.toNat xs)) },toks:=s.toks }):=
 .of_wp fun prog w A R s h=>by
  obtain⟨hp,g,d,tk,os⟩:=s; obtain⟨hl,h⟩:=h
  wp_walk
  refine wpAny_ite_false (decide_eq_false c0) ?_
  wp_walk using wpAny_loadPart' hl
  refine wpAny_ite_false (decide_eq_false c3) ?_
  wp_walk
  exact⟨_,rfl,h⟩
section
variable{X:Cx}
def Gpm(K:PySem.W.Frag):R2:=fun x y H Q=>∃ a k xs,x=.ref a/\y=.int k/\SqT K H a xs/\xs≠[]/\2<=k/\k<=1000000/\xs.length*k.toNat<=sizeLine/\∀ p,H p=none->Q (.ref p) (upd H p (.tup (List.replicate k.toNat xs).flatten))
theorem Gm9:OpR X (binaryOp .Mult) (Gpm X.K):=by
 intro pins s σ H x y v u Q I rx ry ⟨a,k,xs,e1,e2,ha,hne,k2,k3,hz,q⟩
 subst e1 e2
 cases rx
 obtain⟨t,rfl⟩:=ry
 obtain⟨its,r1,p1,_⟩:=I.tuple ha
 obtain⟨⟨cls,dd,data,sl⟩,ho,hc,n,hd⟩:=id p1
 simp only at hc hd
 subst hc hd
 have hl:xs.length=its.length:=r1.length
 have hne':its≠[]:=fun z=>hne (r1.nil_iff.mp z)
 have hie:its.toArray.isEmpty=false:=by
  cases its with
  | nil=>exact absurd rfl hne'
  | cons _ _=>rfl
 have hnew:List.foldl (fun x1 x2=>x1++x2) #[] (List.replicate k.toNat its.toArray)=(List.replicate k.toNat its).flatten.toArray:=by
  have:=Zl its k.toNat []
  rw[List.nil_append] at this
  exact this
 have hsz:(its.toArray.size:Int)*k<=(sizeLine:Int):=by
  rw[List.size_toArray,<- hl]
  have h1:((xs.length*k.toNat:Nat):Int)<=(sizeLine:Int):=by exact_mod_cast hz
  rw[Int.natCast_mul,Int.toNat_of_nonneg (by omega)] at h1
  exact h1
 have hsl:(sizeLine:Int)<=(2^63-1) / 8:=by decide
 refine wpAny_binaryOp_repeat_ref (T:="tuple") (U:="int") (by decide) ⟨_,ho,rfl⟩ (fun s'=>typeIs_int s' k t) Gie F.fills_int_mul F.slot_int_rmul Ggj F.slot_int_index.lookup
  (call_meets F.slot_int_rmul (typeIs_int s k t) F.entry_int_rmul (F.args_int_rmul_2 _ _) (Gsa k t a its.toArray n dd sl)
   ⟨ho,rfl,⟨_,ho,rfl⟩,call_meets F.slot_tuple_mul ⟨_,ho,rfl⟩ F.entry_tuple_mul (F.args_tuple_mul_2 _ _) (Gsb k t a its.toArray n dd sl ?c0 ?c1 ?c2 ?c3 ?c4 ?c5) ⟨ho,?_⟩⟩)
 case c0=>simp; omega
 case c1=>rw[hie]; simp; omega
 case c2=>rw[hie]; simp; omega
 case c3=>omega
 case c4=>unfold Builtin.Tuple.tupleTooMany; simp; omega
 case c5=>rw[hnew,List.size_toArray,Gd1,<- hl,Nat.mul_comm]; exact hz
 rw[hnew]
 refine⟨.ref s.heap.objs.size,_,I.laid (t':=s.toks) (o:=.tup (List.replicate k.toNat xs).flatten) (fun b ob q=>Heap.get?_push_of_some _ q) (Nat.le_refl _) ?_,rfl,q _ (I.hok.fresh (Nat.le_refl _))⟩
 exact⟨by rw[Gd1,Nat.mul_comm]; exact hz,_,r1.rep k.toNat,IsTup.new _ _⟩
end
def Ul{α β:Type}(f:α->Option β):List α->Option (List β)
 | []=>some []
 | x::l=>match f x,Ul f l with
  | some y,some ys=>some (y::ys)
  | _,_=>none
def toP(S:Sto):Nat->D->Option PyData
 | 0,_=>none
 | n+1,d=>match d with
  | .non=>some .none
  | .bl b=>some (.bool b)
  | .int i=>some (.int i)
  | .str x=>some (.str x)
  | .tup l=>(Ul (toP S n) l).map .tuple
  | .lst i=>match S[i]? with
   | some c=>(Ul (toP S n) c.xs).map .list
   | none=>none
  | .exn _ _=>none
  | .fv _=>none
  | .dct _=>none
section
variable{X:Cx}{pins:List (Addr×Obj)}{σ:L2.St}{H:Hp}{s:Shared}{mp:List Addr}{S:Sto}
theorem Gd5{f:D->Option PyData}{K:PySem.W.Frag}(hf:∀ (d:D) (v:V) (u:Value) (p:PyData),Rep K mp H d v->He v u->f d=some p->∃ as,Reads s.heap u p as):∀ (l:List D) (vs:List V) (us:List Value) (ps:List PyData),RepL K mp H l vs->Vals vs us->Ul f l=some ps->∃ as,ReadsAll s.heap us ps as
 | [],vs,us,ps,h,r,e=>by
  cases (show vs=[] from h); cases r
  cases (Option.some.inj e)
  exact⟨_,.nil⟩
 | d::l,vs,us,ps,h,r,e=>by
  obtain⟨v,vr,rfl,h1,h2⟩:=(show ∃ v r,vs=v::r/\Rep K mp H d v/\RepL K mp H l r from h)
  cases r with
  | cons r1 r2=>
   cases z1:f d with
   | none=>simp only[Ul,z1] at e; cases e
   | some p=>
    cases z2:Ul f l with
    | none=>simp only[Ul,z1,z2] at e; cases e
    | some qs=>
     simp only[Ul,z1,z2] at e
     cases (Option.some.inj e)
     obtain⟨as,ra⟩:=hf d v _ p h1 r1 z1
     obtain⟨bs,rb⟩:=Gd5 hf l vr _ qs h2 r2 z2
     exact⟨_,.cons ra rb⟩
theorem Zo(I:Inv X pins σ H s)(rs:RS X.K mp H S):∀ (n:Nat) (d:D) (v:V) (u:Value) (p:PyData),Rep X.K mp H d v->He v u->toP S n d=some p->∃ as,Reads s.heap u p as:=by
 intro n
 induction n with
 | zero=>intro d v u p h r e; cases e
 | succ n ih=>
  intro d v u p h r e
  cases d with
  | non=>
   cases (show v=.non from h); cases (show u=Value.none from r)
   cases (Option.some.inj e)
   exact⟨_,.none⟩
  | bl b=>
   cases (show v=.bl b from h); cases (show u=Value.bool b from r)
   cases (Option.some.inj e)
   exact⟨_,.bool b⟩
  | int i=>
   cases (show v=.int i from h); obtain⟨t,rfl⟩:=(show ∃ t,u=Value.int i t from r)
   cases (Option.some.inj e)
   exact⟨_,.int i t⟩
  | str x=>
   cases (show v=.str x from h); obtain⟨t,rfl⟩:=(show ∃ t,u=Value.str x t from r)
   cases (Option.some.inj e)
   exact⟨_,.str x t⟩
  | tup l=>
   obtain⟨a,xs,rfl,sq,q⟩:=Rep.tup h
   cases (show u=Value.ref a from r)
   obtain⟨its,rv,⟨o,ho,hc,k,hd⟩,_⟩:=I.tuple sq
   have e:(Ul (toP S n) l).map PyData.tuple=some p:=e
   cases z:Ul (toP S n) l with
   | none=>rw[z] at e; cases e
   | some ps=>
    rw[z] at e
    cases (Option.some.inj e)
    obtain⟨as,ra⟩:=Gd5 ih l xs its ps q rv z
    exact⟨as,.tuple ho hc hd (by simpa using ra)⟩
  | lst i=>
   have e:(match S[i]? with | some c=>(Ul (toP S n) c.xs).map PyData.list | none=>none)=some p:=e
   cases zc:S[i]? with
   | none=>rw[zc] at e; cases e
   | some c=>
    rw[zc] at e
    obtain⟨a,xs,rfl,_,sq,q,_⟩:=rs.items h zc
    cases (show u=Value.ref a from r)
    obtain⟨its,rv,⟨o,k,ho,hc,_,hd⟩,_⟩:=I.list sq
    have e:(Ul (toP S n) c.xs).map PyData.list=some p:=e
    cases z:Ul (toP S n) c.xs with
    | none=>rw[z] at e; cases e
    | some ps=>
     rw[z] at e
     cases (Option.some.inj e)
     obtain⟨as,ra⟩:=Gd5 ih c.xs xs its ps q rv z
     exact⟨_,.list ho hc hd (by simpa using ra)⟩
  | exn c n=>cases (show(none:Option PyData)=some p from e)
  | fv c=>cases (show(none:Option PyData)=some p from e)
  | dct c=>cases (show(none:Option PyData)=some p from e)
end
def eqD(x y:D)(S:Sto):Out D:=match toP S 40 x,toP S 40 y with
 | some p,some q=>if(SeqAt.shaped p&&SeqAt.shaped q)=true then .ok (.bl (PyData.eqv p q)) S else .bad
 | _,_=>.bad
def neD(x y:D)(S:Sto):Out D:=match toP S 40 x,toP S 40 y with
 | some p,some q=>if(SeqAt.shaped p&&SeqAt.shaped q)=true then .ok (.bl (!PyData.eqv p q)) S else .bad
 | _,_=>.bad
section
variable{X:Cx}{XQ:XW}
def OpX(X:Cx)(f:Value->Value->Sem Value)(o:D->D->Sto->Out D):Prop:=
 ∀ (pins:List (Addr×Obj)) (s:Shared) (σ:L2.St) (ρ:Lc) (XQ:XW) (mp:List Addr) (H:Hp) (S:Sto) (x y:D) (v u:V) (vv uv:Value) (Q:VK),Inv X pins σ H s->RS X.K mp H S->Rep X.K mp H x v->Rep X.K mp H y u->He v vv->He u uv->Post X.K XQ σ ρ mp H (o x y S) Q→
  (∀ (e:XD) (S':Sto),o x y S≠.exc e S')->wpAny (model X.prog X.w) X.A (f vv uv) (EP X pins σ Q) X.xe s
theorem Gjy{a b:Expr}{op:CmpOp}{fa fb:Ev D}{o:D->D->Sto->Out D}{pos:Pos}(ho:OpX X (compareOp op) o)(hno:∀ x y S e S',o x y S≠.exc e S')(ha:JE X XQ a fa)(hb:JE X XQ b fb)(hm:behindInMarks op b=false):JE X XQ (.Compare a [op] [b] pos) (o2 o fa fb):=by
 intro pins s σ H Q I ⟨mp,ρ,S,G,p⟩
 refine wpAny_Compare1 (thn (ha pins s σ H _ I (bindP G p fun mp1 H1 x S1 v a1 G1 r1 p1=>(⟨mp1,ρ,S1,x,G1,r1,p1⟩:∃ mp1 ρ S1 x,Gd X.K mp1 H1 σ ρ S1/\Rep X.K mp1 H1 x v/\Post X.K XQ σ ρ mp1 H1 ((fb ρ S1).bind fun y S2=>o x y S2) Q))) fun vv s1 ⟨v,H1,I1,rv,mp1,ρ1,S1,x,G1,r1,p1⟩=>?_) hm
 refine thn (hb pins s1 σ H1 _ I1 (bindP G1 p1 fun mp2 H2 y S2 u a2 G2 r2 p2=>(⟨mp2,ρ1,S2,x,y,v,G2,Rep.aft a2 _ _ r1,r2,rfl,p2⟩:∃ mp2 ρ S2 x y v',Gd X.K mp2 H2 σ ρ S2/\Rep X.K mp2 H2 x v'/\Rep X.K mp2 H2 y u/\v'=v/\Post X.K XQ σ ρ mp2 H2 (o x y S2) Q))) fun uv s2 ⟨u,H2,I2,ru,mp2,ρ2,S2,x2,y,v',G2,rx,ry,ev,p2⟩=>?_
 subst ev
 exact ho pins s2 σ ρ2 XQ mp2 H2 S2 x2 y _ u vv uv Q I2 G2.rs rx ry rv ru p2 (hno _ _ _)
theorem Gd6{a b:Expr}{op:CmpOp}{fa fb:Ev D}{o:D->D->Sto->Out D}{pos:Pos}(ho:OpX X (compareOp op) o)(hno:∀ x y S e S',o x y S≠.exc e S')(ha:JE X XQ a fa)(hb:JE X XQ b fb)(hm:behindInMarks op b=false):JT X XQ (.Compare a [op] [b] pos) (tb (o2 o fa fb)):=by
 intro pins s σ H Q I h
 obtain⟨mp,ρ,S,G,p⟩:=Gjp h
 refine wpAny_isTrue_Compare1 (thn (ha pins s σ H _ I (bindP G p fun mp1 H1 x S1 v a1 G1 r1 p1=>(⟨mp1,ρ,S1,x,G1,r1,p1⟩:∃ mp1 ρ S1 x,Gd X.K mp1 H1 σ ρ S1/\Rep X.K mp1 H1 x v/\Post X.K XQ σ ρ mp1 H1 ((fb ρ S1).bind fun y S2=>o x y S2) (fun x H1=>∃ k,x=.bl k/\Q k H1)))) fun vv s1 ⟨v,H1,I1,rv,mp1,ρ1,S1,x,G1,r1,p1⟩=>?_) hm
 refine thn (hb pins s1 σ H1 _ I1 (bindP G1 p1 fun mp2 H2 y S2 u a2 G2 r2 p2=>(⟨mp2,ρ1,S2,x,y,v,G2,Rep.aft a2 _ _ r1,r2,rfl,p2⟩:∃ mp2 ρ S2 x y v',Gd X.K mp2 H2 σ ρ S2/\Rep X.K mp2 H2 x v'/\Rep X.K mp2 H2 y u/\v'=v/\Post X.K XQ σ ρ mp2 H2 (o x y S2) (fun x H1=>∃ k,x=.bl k/\Q k H1)))) fun uv s2 ⟨u,H2,I2,ru,mp2,ρ2,S2,x2,y,v',G2,rx,ry,ev,p2⟩=>?_
 subst ev
 refine thn (ho pins s2 σ ρ2 XQ mp2 H2 S2 x2 y _ u vv uv _ I2 G2.rs rx ry rv ru p2 (hno _ _ _)) fun c s3 ⟨z,H3,I3,r3,k,e,q3⟩=>?_
 subst e
 cases r3
 exact wpAny_truthy_bool ⟨H3,I3,q3⟩
theorem Gpn(hu:X.A.units+64<cLine):OpX X (compareOp .Eq) eqD:=by
 intro pins s σ ρ XQ mp H S x y v u vv uv Q I rs rx ry rv ru p _
 unfold eqD at p
 cases z1:toP S 40 x with
 | none=>simp only[z1] at p; exact p.elim
 | some a=>
  cases z2:toP S 40 y with
  | none=>simp only[z1,z2] at p; exact p.elim
  | some b=>
   simp only[z1,z2] at p
   by_cases hs:(SeqAt.shaped a&&SeqAt.shaped b)=true
   ·rw[if_pos hs] at p
    obtain⟨as,ra⟩:=Zo I rs 40 x v vv a rx rv z1
    obtain⟨bs,rb⟩:=Zo I rs 40 y u uv b ry ru z2
    rw[Bool.and_eq_true] at hs
    exact SeqAt.compareEq_shaped ra rb hs.1 hs.2 hu ⟨.bl _,H,I,rfl,Gm.ok (R:=Rep X.K) p rs rfl⟩
   ·rw[if_neg hs] at p; exact p.elim
theorem Gpo(hu:X.A.units+64<cLine):OpX X (compareOp .NotEq) neD:=by
 intro pins s σ ρ XQ mp H S x y v u vv uv Q I rs rx ry rv ru p _
 unfold neD at p
 cases z1:toP S 40 x with
 | none=>simp only[z1] at p; exact p.elim
 | some a=>
  cases z2:toP S 40 y with
  | none=>simp only[z1,z2] at p; exact p.elim
  | some b=>
   simp only[z1,z2] at p
   by_cases hs:(SeqAt.shaped a&&SeqAt.shaped b)=true
   ·rw[if_pos hs] at p
    obtain⟨as,ra⟩:=Zo I rs 40 x v vv a rx rv z1
    obtain⟨bs,rb⟩:=Zo I rs 40 y u uv b ry ru z2
    rw[Bool.and_eq_true] at hs
    exact SeqAt.compareNe_shaped ra rb hs.1 hs.2 hu ⟨.bl _,H,I,rfl,Gm.ok (R:=Rep X.K) p rs rfl⟩
   ·rw[if_neg hs] at p; exact p.elim
theorem Gpp(x y:D)(S:Sto)(e:XD)(S':Sto):eqD x y S≠.exc e S':=by
 unfold eqD
 split
 ·split<;>exact fun z=>nomatch z
 ·exact fun z=>nomatch z
theorem Gpq(x y:D)(S:Sto)(e:XD)(S':Sto):neD x y S≠.exc e S':=by
 unfold neD
 split
 ·split<;>exact fun z=>nomatch z
 ·exact fun z=>nomatch z
theorem Gv2{a b:Expr}{fa fb:Ev D}{pos:Pos}(hu:X.A.units+64<cLine)(ha:JE X XQ a fa)(hb:JE X XQ b fb):JE X XQ (.Compare a [.Eq] [b] pos) (o2 eqD fa fb):=Gjy (Gpn hu) Gpp ha hb (nomark _)
theorem Gv3{a b:Expr}{fa fb:Ev D}{pos:Pos}(hu:X.A.units+64<cLine)(ha:JE X XQ a fa)(hb:JE X XQ b fb):JT X XQ (.Compare a [.Eq] [b] pos) (tb (o2 eqD fa fb)):=Gd6 (Gpn hu) Gpp ha hb (nomark _)
theorem Gv4{a b:Expr}{fa fb:Ev D}{pos:Pos}(hu:X.A.units+64<cLine)(ha:JE X XQ a fa)(hb:JE X XQ b fb):JE X XQ (.Compare a [.NotEq] [b] pos) (o2 neD fa fb):=Gjy (Gpo hu) Gpq ha hb (nomark _)
theorem Gv5{a b:Expr}{fa fb:Ev D}{pos:Pos}(hu:X.A.units+64<cLine)(ha:JE X XQ a fa)(hb:JE X XQ b fb):JT X XQ (.Compare a [.NotEq] [b] pos) (tb (o2 neD fa fb)):=Gd6 (Gpo hu) Gpq ha hb (nomark _)
def i2(C:Int->Int->Bool)(g:Int->Int->D):D->D->Sto->Out D:=fun x y S=>match x,y with
 | .int i,.int j=>if C i j=true then .ok (g i j) S else .bad
 | _,_=>.bad
theorem Gd7{K:PySem.W.Frag}{C:Int->Int->Prop}{c:Int->Int->Bool}{g:Int->Int->V}{gd:Int->Int->D}(hc:∀ i j,c i j=true->C i j)(hg:∀ mp H i j,Rep K mp H (gd i j) (g i j)):OpD K (rI C g) (i2 c gd):=by
 intro XQ σ ρ mp H S x y v u Q rs rx ry p
 cases x with
 | int i=>
  cases y with
  | int j=>
   have p:Post K XQ σ ρ mp H (if c i j=true then .ok (gd i j) S else .bad) Q:=p
   by_cases h:c i j=true
   ·rw[if_pos h] at p
    exact⟨i,j,rx,ry,hc i j h,Gm.ok (R:=Rep K) p rs (hg mp H i j)⟩
   ·rw[if_neg h] at p; exact p.elim
  | _=>exact(show False from p).elim
 | _=>exact(show False from p).elim
theorem od_int0{K:PySem.W.Frag}{g:Int->Int->V}{gd:Int->Int->D}(hg:∀ mp H i j,Rep K mp H (gd i j) (g i j)):OpD K (rI0 g) (i2 (fun _ _=>true) gd):=by
 intro XQ σ ρ mp H S x y v u Q rs rx ry p
 obtain⟨i,j,h1,h2,_,h3⟩:=Gd7 (C:=fun _ _=>True) (c:=fun _ _=>true) (fun _ _ _=>trivial) hg XQ σ ρ mp H S x y v u Q rs rx ry p
 exact⟨i,j,h1,h2,h3⟩
abbrev Yr:=i2 (fun _ _=>true) fun i j=>.int (i-j)
abbrev Wl:=i2 (fun _ j=>decide (0<j)) fun i j=>.int (i%j)
abbrev Ge8:=i2 (fun i j=>decide (0<=j/\j<=1000000/\i.natAbs<2^64)) fun i j=>.int (i^j.toNat)
abbrev ltD:=i2 (fun _ _=>true) fun i j=>.bl (decide (i<j))
abbrev leD:=i2 (fun _ _=>true) fun i j=>.bl (decide (i<=j))
abbrev gtD:=i2 (fun _ _=>true) fun i j=>.bl (decide (j<i))
abbrev geD:=i2 (fun _ _=>true) fun i j=>.bl (decide (j<=i))
section
variable{a b:Expr}{fa fb:Ev D}{pos:Pos}
theorem Gsc(ha:JE X XQ a fa)(hb:JE X XQ b fb):JE X XQ (.BinOp a .Sub b pos) (o2 Yr fa fb):=Gdi Gq4 (od_int0 fun _ _ _ _=>rfl) ha hb
theorem Gsd(ha:JE X XQ a fa)(hb:JE X XQ b fb):JE X XQ (.BinOp a .Mod b pos) (o2 Wl fa fb):=Gdi Gq6 (Gd7 (fun _ _ h=>of_decide_eq_true h) fun _ _ _ _=>rfl) ha hb
theorem Gse(ha:JE X XQ a fa)(hb:JE X XQ b fb):JE X XQ (.BinOp a .Pow b pos) (o2 Ge8 fa fb):=Gdi Gq7 (Gd7 (fun i j h=>(of_decide_eq_true h:0<=j/\j<=1000000/\i.natAbs<2^64)) fun _ _ _ _=>rfl) ha hb
theorem Gv6(ha:JE X XQ a fa)(hb:JE X XQ b fb):JE X XQ (.Compare a [.Lt] [b] pos) (o2 ltD fa fb):=Gbj Gg6 (od_int0 fun _ _ _ _=>rfl) ha hb (nomark _)
theorem Gv7(ha:JE X XQ a fa)(hb:JE X XQ b fb):JE X XQ (.Compare a [.LtE] [b] pos) (o2 leD fa fb):=Gbj Gi8 (od_int0 fun _ _ _ _=>rfl) ha hb (nomark _)
theorem Gv8(ha:JE X XQ a fa)(hb:JE X XQ b fb):JE X XQ (.Compare a [.GtE] [b] pos) (o2 geD fa fb):=Gbj Gvj (od_int0 fun _ _ _ _=>rfl) ha hb (nomark _)
theorem Gv9(ha:JE X XQ a fa)(hb:JE X XQ b fb):JT X XQ (.Compare a [.Lt] [b] pos) (tb (o2 ltD fa fb)):=Ggf Gg6 (od_int0 fun _ _ _ _=>rfl) ha hb (nomark _)
theorem Gwa(ha:JE X XQ a fa)(hb:JE X XQ b fb):JT X XQ (.Compare a [.Gt] [b] pos) (tb (o2 gtD fa fb)):=Ggf Gvi (od_int0 fun _ _ _ _=>rfl) ha hb (nomark _)
end
def Gx(x y:D)(S:Sto):Out D:=match x,y with
 | .int i,.int j=>.ok (.int (i+j)) S
 | .str a,.str b=>if a.length+b.length<=1000000 then .ok (.str (a++b)) S else .bad
 | .lst i,.lst j=>match S[i]?,S[j]? with
  | some c,some e=>if(c.fz=false/\e.fz=false)/\c.xs.length+e.xs.length<=1000000 then .ok (.lst S.length) (S++[⟨false,c.xs++e.xs⟩]) else .bad
  | _,_=>.bad
 | .tup a,.tup b=>if a.length+b.length<=1000000 then .ok (.tup (a++b)) S else .bad
 | _,_=>.bad
def Gpr(K:PySem.W.Frag):R2:=fun x y H Q=>∃ a b ys,x=.ref a/\y=.ref b/\SqT K H a []/\SqT K H b ys/\Q (.ref b) H
theorem Gna:OpR X (binaryOp .Add) (Gpr X.K):=by
 intro pins s σ H x y v u Q I rx ry ⟨a,b,ys,e1,e2,ha,hb,q⟩
 subst e1 e2
 cases rx; cases ry
 obtain⟨its,r1,p1,_⟩:=I.tuple ha
 obtain⟨its2,r2,p2,_⟩:=I.tuple hb
 have ei:=r1.nil_iff.mpr rfl
 subst ei
 obtain⟨⟨cls,dd,data,sl⟩,ho,hc,n,hd⟩:=id p1
 obtain⟨⟨cls2,dd2,data2,sl2⟩,ho2,hc2,n2,hd2⟩:=id p2
 simp only at hc hd hc2 hd2
 subst hc hd hc2 hd2
 exact concat_meets ⟨_,ho,rfl⟩ ⟨_,ho2,rfl⟩ noFill_tuple_add seq_tuple_add PySem.F.slot_tuple_add PySem.F.entry_tuple_add (PySem.F.args_tuple_add_2 _ _)
  (tuple_addW0 a b [].toArray its2.toArray n n2 dd dd2 sl sl2 (by rfl)) ⟨ho,ho2,⟨.ref b,H,I,rfl,q⟩⟩
def Gps(K:PySem.W.Frag):R2:=fun x y H Q=>rI0 (fun i j=>.int (i+j)) x y H Q\/(∃ i j,x=.str i/\y=.str j/\i.length+j.length<=sizeLine/\Q (.str (i++j)) H)\/Gvt x y H Q\/Gpg K x y H Q\/Gpr K x y H Q
theorem Gnb:OpR X (binaryOp .Add) (Gps X.K):=Gq3.or (Gf6.or (Grk.or (Gmr.or Gna)))
theorem Gsf{K:PySem.W.Frag}:OpD K (Gps K) Gx:=by
 intro XQ σ ρ mp H S x y v u Q rs rx ry p
 unfold Gx at p
 split at p
 ·exact .inl ⟨_,_,rx,ry,Gm.ok (R:=Rep K) p rs rfl⟩
 ·rename_i a b
  by_cases h:a.length+b.length<=1000000
  ·rw[if_pos h] at p
   exact .inr (.inl ⟨_,_,rx,ry,line_le h,Gm.ok (R:=Rep K) p rs rfl⟩)
  ·rw[if_neg h] at p; exact p.elim
 ·rename_i i j
  split at p
  ·rename_i c e zc ze
   by_cases h:(c.fz=false/\e.fz=false)/\c.xs.length+e.xs.length<=1000000
   ·rw[if_pos h] at p
    obtain⟨a1,xs,rfl,_,_,q1,f1⟩:=rs.items rx zc
    obtain⟨a2,ys,rfl,_,_,q2,f2⟩:=rs.items ry ze
    refine .inr (.inr (.inl ⟨a1,a2,xs,ys,rfl,rfl,f1 h.1.1,f2 h.1.2,by rw[q1.len,q2.len]; exact line_le h.2,fun q hq=>Vg p rs (q1.append q2) hq⟩))
   ·rw[if_neg h] at p; exact p.elim
  ·exact p.elim
 ·rename_i a b
  by_cases h:a.length+b.length<=1000000
  ·rw[if_pos h] at p
   obtain⟨a1,xs,rfl,s1,q1⟩:=Rep.tup rx
   obtain⟨a2,ys,rfl,s2,q2⟩:=Rep.tup ry
   have l1:=q1.len
   have l2:=q2.len
   by_cases he:xs=[]
   ·subst he
    have ea:a=[]:=by cases a with | nil=>rfl | cons _ _=>simp at l1
    subst ea
    exact .inr (.inr (.inr (.inr ⟨a1,a2,ys,rfl,rfl,s1,s2,Gm.ok (R:=Rep K) p rs ry⟩)))
   ·refine .inr (.inr (.inr (.inl ⟨a1,a2,xs,ys,rfl,rfl,s1,s2,he,by rw[l1,l2]; exact line_le h,fun z=>?_,fun _ q hq=>Wr p rs (q1.append q2) hq⟩)))
    subst z
    have eb:b=[]:=by cases b with | nil=>rfl | cons _ _=>simp at l2
    subst eb
    rw[List.append_nil] at p
    exact Gm.ok (R:=Rep K) p rs rx
  ·rw[if_neg h] at p; exact p.elim
 ·exact p.elim
theorem Gsg{a b:Expr}{fa fb:Ev D}{pos:Pos}(ha:JE X XQ a fa)(hb:JE X XQ b fb):JE X XQ (.BinOp a .Add b pos) (o2 Gx fa fb):=Gdi Gnb Gsf ha hb
def Je(x y:D)(S:Sto):Out D:=match x,y with
 | .int i,.int j=>if(-(2^64)<i/\i<2^64)\/(-(2^64)<j/\j<2^64) then .ok (.int (i*j)) S else .bad
 | .lst i,.int k=>match S[i]? with
  | some c=>if c.fz=false/\(-1000000<=k/\k<=1000000)/\c.xs.length*k.toNat<=1000000 then .ok (.lst S.length) (S++[⟨false,(List.replicate k.toNat c.xs).flatten⟩]) else .bad
  | none=>.bad
 | .tup l,.int k=>if 0<l.length/\(2<=k/\k<=1000000)/\l.length*k.toNat<=1000000 then .ok (.tup (List.replicate k.toNat l).flatten) S else .bad
 | _,_=>.bad
def Gpt(K:PySem.W.Frag):R2:=fun x y H Q=>rI CMul (fun i j=>.int (i*j)) x y H Q\/Gvu x y H Q\/Gpm K x y H Q
theorem Gnc:OpR X (binaryOp .Mult) (Gpt X.K):=Gq5.or (Grl.or Gm9)
theorem RepL.flat{K:PySem.W.Frag}{mp:List Addr}{H:Hp}{l:List D}{vs:List V}(h:RepL K mp H l vs):∀ k:Nat,RepL K mp H (List.replicate k l).flatten (List.replicate k vs).flatten
 | 0=>RepL.nil
 | k+1=>by
  rw[List.replicate_succ,List.replicate_succ,List.flatten_cons,List.flatten_cons]
  exact RepL.append h (RepL.flat h k)
theorem Gsh{K:PySem.W.Frag}:OpD K (Gpt K) Je:=by
 intro XQ σ ρ mp H S x y v u Q rs rx ry p
 unfold Je at p
 split at p
 ·rename_i i j
  by_cases h:(-(2^64)<i/\i<2^64)\/(-(2^64)<j/\j<2^64)
  ·rw[if_pos h] at p
   exact .inl ⟨_,_,rx,ry,h,Gm.ok (R:=Rep K) p rs rfl⟩
  ·rw[if_neg h] at p; exact p.elim
 ·rename_i i k
  split at p
  ·rename_i c zc
   by_cases h:c.fz=false/\(-1000000<=k/\k<=1000000)/\c.xs.length*k.toNat<=1000000
   ·rw[if_pos h] at p
    obtain⟨a1,xs,rfl,_,_,q1,f1⟩:=rs.items rx zc
    exact .inr (.inl ⟨a1,k,xs,rfl,ry,f1 h.1,by omega,by omega,by rw[q1.len]; exact line_le h.2.2,fun q hq=>Vg p rs (q1.flat _) hq⟩)
   ·rw[if_neg h] at p; exact p.elim
  ·exact p.elim
 ·rename_i l k
  by_cases h:0<l.length/\(2<=k/\k<=1000000)/\l.length*k.toNat<=1000000
  ·rw[if_pos h] at p
   obtain⟨a1,xs,rfl,s1,q1⟩:=Rep.tup rx
   have hl:=q1.len
   exact .inr (.inr ⟨a1,k,xs,rfl,ry,s1,fun z=>by rw[z] at hl; simp at hl; omega,h.2.1.1,h.2.1.2,by rw[q1.len]; exact line_le h.2.2,fun q hq=>Wr p rs (q1.flat _) hq⟩)
  ·rw[if_neg h] at p; exact p.elim
 ·exact p.elim
theorem Gsi{a b:Expr}{fa fb:Ev D}{pos:Pos}(ha:JE X XQ a fa)(hb:JE X XQ b fb):JE X XQ (.BinOp a .Mult b pos) (o2 Je fa fb):=Gdi Gnc Gsh ha hb
def Ggk(x:D)(S:Sto):Out D:=match x with
 | .int i=>.ok (.int (-i)) S
 | _=>.bad
def getD(x y:D)(S:Sto):Out D:=match x,y with
 | .tup l,.int i=>match atI l i with
  | some d=>.ok d S
  | none=>.bad
 | .lst k,.int i=>match S[k]? with
  | some c=>match atI c.xs i with
   | some d=>.ok d S
   | none=>.bad
  | none=>.bad
 | .str z,.int i=>if z.length<=1000000 then(match atI z.cps.toList i with
  | some c=>.ok (.str ⟨#[c]⟩) S
  | none=>.bad) else .bad
 | _,_=>.bad
theorem RepL.atI{K:PySem.W.Frag}{mp:List Addr}{H:Hp}{l:List D}{vs:List V}{i:Int}{d:D}(h:RepL K mp H l vs)(e:L2.atI l i=some d):∃ v,L2.atI vs i=some v/\Rep K mp H d v:=by
 unfold L2.atI at e ⊢
 rw[h.len]
 cases z:ixN l.length i with
 | none=>rw[z] at e; cases e
 | some j=>
  rw[z] at e
  exact h.get e
theorem Gsj{K:PySem.W.Frag}:OpD K (rIx K) getD:=by
 intro XQ σ ρ mp H S x y v u Q rs rx ry p
 unfold getD at p
 split at p
 ·rename_i l i
  split at p
  ·rename_i d zd
   obtain⟨a,xs,rfl,sq,q⟩:=Rep.tup rx
   obtain⟨w,hw,rw'⟩:=q.atI zd
   exact .inr (.inl ⟨a,xs,i,w,rfl,ry,sq,hw,Gm.ok (R:=Rep K) p rs rw'⟩)
  ·exact p.elim
 ·rename_i k i
  split at p
  ·rename_i c zc
   split at p
   ·rename_i d zd
    obtain⟨a,xs,rfl,_,sq,q,_⟩:=rs.items rx zc
    obtain⟨w,hw,rw'⟩:=q.atI zd
    exact .inl ⟨a,xs,i,w,rfl,ry,sq,hw,Gm.ok (R:=Rep K) p rs rw'⟩
   ·exact p.elim
  ·exact p.elim
 ·rename_i z i
  by_cases h:z.length<=1000000
  ·rw[if_pos h] at p
   split at p
   ·rename_i c zc
    exact .inr (.inr ⟨z,i,c,rx,ry,line_le h,zc,Gm.ok (R:=Rep K) p rs rfl⟩)
   ·exact p.elim
  ·rw[if_neg h] at p; exact p.elim
 ·exact p.elim
theorem Gsk{a b:Expr}{fa fb:Ev D}{pos:Pos}(ha:JE X XQ a fa)(hb:JE X XQ b fb)(hs:Yq b:=by intro _ _; rfl):JE X XQ (.Subscript a b pos) (o2 getD fa fb):=Gpi Gri Gsj ha hb hs
def Xu(x y z:D)(S:Sto):Option Sto:=match x,y with
 | .lst k,.int i=>match S[k]? with
  | some c=>match ixN c.xs.length i with
   | some j=>if c.fz=false then some (S.set k ⟨false,c.xs.set j z⟩) else none
   | none=>none
  | none=>none
 | _,_=>none
theorem Gsl{K:PySem.W.Frag}:Gr4 Gph K Xu:=by
 intro mp H S S' x y z v u w Q rs rx ry rz e k
 unfold Xu at e
 split at e
 ·rename_i kk i
  split at e
  ·rename_i c zc
   split at e
   ·rename_i j zj
    by_cases hf:c.fz=false
    ·rw[if_pos hf] at e
     cases (Option.some.inj e)
     obtain⟨a,xs,rfl,ha,sq,q,f⟩:=rs.items rx zc
     have hH:=f hf
     obtain⟨af,rs'⟩:=rs.setL ha zc hf hH (q.set j rz)
     exact⟨a,xs,i,j,rfl,ry,hH,by rw[q.len]; exact zj,k _ af rs'⟩
    ·rw[if_neg hf] at e; cases e
   ·cases e
  ·cases e
 ·cases e
theorem Gjz{ob ix e:Expr}{f fo fi:Ev D}{pos p2:Pos}(he:JE X XQ e f)(hob:JE X XQ ob fo)(hix:JE X XQ ix fi)
  (hs:swapsWithSole [.Subscript ob ix p2] e pos.line X.env=pure false:=by rfl) (hw:swappedStores [.Subscript ob ix p2] e X.env=pure none:=by rfl)
  (h1:(assignEach [.Subscript ob ix p2] X.env).map (·.2)=[assign (.Subscript ob ix p2) X.env]:=by rfl) (ha:∀ v,assign (.Subscript ob ix p2) X.env v=(do
   let ov <- holding [v] (eval ob X.env)
   let iv <- holding [v,ov] (eval ix X.env)
   standAt p2
   holding [v,ov,iv] (setItem ov iv v)
   release [v,ov,iv] []):=by intro _; rfl):JS X XQ (.Assign [.Subscript ob ix p2] e pos) (ss f fo fi Xu):=Gjt Gji Gsl he hob hix hs hw h1 ha
end
section
variable{X:Cx}{XQ:XW}
def BlD(K:PySem.W.Frag)(r:List V->Hp->VK->Prop)(o:List D->Sto->Out D):Prop:=
 ∀ (XQ:XW) (σ:L2.St) (ρ:Lc) (mp:List Addr) (H:Hp) (S:Sto) (xs:List D) (vs:List V) (Q:VK),RS K mp H S->RepL K mp H xs vs->Post K XQ σ ρ mp H (o xs S) Q->r vs H Q
def b1(o:List D->Sto->Out D)(f:Ev (List D)):Ev D:=fun ρ S=>(f ρ S).bind o
theorem cbR{r:List V->Hp->VK->Prop}{o:List D->Sto->Out D}{f:Ev (List D)}(hd:BlD X.K r o)(σ:L2.St)(H:Hp)(Q:VK)(h:rdE X.K XQ (b1 o f) σ H Q):tCB r (rdA X.K XQ f) σ H Q:=by
 obtain⟨mp,ρ,S,G,p⟩:=h
 exact bindP G p fun mp1 H1 xs S1 vs a1 G1 r1 p1=>hd XQ σ ρ mp1 H1 S1 xs vs Q G1.rs r1 p1
theorem Gd8{id:String}{x:Str}{p pos:Pos}{e:Expr}{es:List Expr}{r:List V->Hp->VK->Prop}{o:List D->Sto->Out D}{f:Ev (List D)}(hc:Wo X (.builtin id) r)(hd:BlD X.K r o)(hg:Gl X x)(hm:X.mg x=none)(hv:bootBuiltins x=some (.builtin id))(ha:JA X XQ (e::es) f)(hn:x≠"__name__":=by decide)(hdb:(x==("__debug__":Str))=false:=by decide)
  (he:starEach (e::es) X.env=(false,eval e X.env)::starEach es X.env:=by rfl) (hpl:(backTo pos (starEach es X.env)).any (·.1)=false:=by rfl):JE X XQ (.Call (.Name x p) (e::es) [] pos) (b1 o f):=
 PE.mono (Ge5 hc hg hm hv ha hn hdb he hpl) (cbR hd)
theorem Gpu{T:String}{x:Str}{p pos:Pos}{e:Expr}{es:List Expr}{r:List V->Hp->VK->Prop}{o:List D->Sto->Out D}{f:Ev (List D)}(hc:Wo X (.type T) r)(hd:BlD X.K r o)(hg:Gl X x)(hm:X.mg x=none)(hv:bootBuiltins x=some (.type T))(ha:JA X XQ (e::es) f)(hn:x≠"__name__":=by decide)(hdb:(x==("__debug__":Str))=false:=by decide)
  (he:starEach (e::es) X.env=(false,eval e X.env)::starEach es X.env:=by rfl) (hpl:(backTo pos (starEach es X.env)).any (·.1)=false:=by rfl):JE X XQ (.Call (.Name x p) (e::es) [] pos) (b1 o f):=
 PE.mono (Gh9 hc hg hm hv ha hn hdb he hpl) (cbR hd)
def Jf(xs:List D)(S:Sto):Out D:=match xs with
 | [.str z]=>if z.length<=1000000 then .ok (.int z.length) S else .bad
 | [.tup l]=>.ok (.int l.length) S
 | [.lst i]=>match S[i]? with
  | some c=>.ok (.int c.xs.length) S
  | none=>.bad
 | _=>.bad
theorem Gsm{K:PySem.W.Frag}:BlD K (fun xs H Q=>∃ x n,xs=[x]/\Gvk K x H n/\Q (.int n) H) Jf:=by
 intro XQ σ ρ mp H S xs vs Q rs r p
 unfold Jf at p
 split at p
 ·rename_i z
  obtain⟨v,rfl,h⟩:=RepL.one r
  cases (show v=.str z from h)
  by_cases hz:z.length<=1000000
  ·rw[if_pos hz] at p
   exact⟨_,_,rfl,⟨line_le hz,rfl⟩,Gm.ok (R:=Rep K) p rs rfl⟩
  ·rw[if_neg hz] at p; exact p.elim
 ·rename_i l
  obtain⟨v,rfl,h⟩:=RepL.one r
  obtain⟨a,xs,rfl,sq,q⟩:=Rep.tup h
  exact⟨_,xs.length,rfl,.inr ⟨xs,sq,rfl⟩,Gm.ok (R:=Rep K) p rs (by rw[q.len]; rfl)⟩
 ·rename_i i
  obtain⟨v,rfl,h⟩:=RepL.one r
  split at p
  ·rename_i c zc
   obtain⟨a,xs,rfl,_,sq,q,_⟩:=rs.items h zc
   exact⟨_,xs.length,rfl,.inl ⟨xs,sq,rfl⟩,Gm.ok (R:=Rep K) p rs (by rw[q.len]; rfl)⟩
  ·exact p.elim
 ·exact p.elim
theorem Gsn{p pos:Pos}{e:Expr}{f:Ev (List D)}(hg:Gl X "len")(hm:X.mg "len"=none)(ha:JA X XQ [e] f)(he:starEach [e] X.env=(false,eval e X.env)::starEach [] X.env:=by rfl):JE X XQ (.Call (.Name "len" p) [e] [] pos) (b1 Jf f):=Gd8 Gjd Gsm hg hm PySem.boot_len ha (he:=he)
def Gad(xs:List D)(S:Sto):Out D:=match xs with
 | [.tup l]=>.ok (.lst S.length) (S++[⟨false,l⟩])
 | [.lst i]=>match S[i]? with
  | some c=>.ok (.lst S.length) (S++[⟨false,c.xs⟩])
  | none=>.bad
 | _=>.bad
theorem Gnd{K:PySem.W.Frag}:BlD K (fun xs H Q=>∃ p ys,xs=[.ref p]/\(SqL K H p ys\/SqT K H p ys)/\∀ l,H l=none->Q (.ref l) (upd H l (.lst ys))) Gad:=by
 intro XQ σ ρ mp H S xs vs Q rs r p
 unfold Gad at p
 split at p
 ·obtain⟨v,rfl,h⟩:=RepL.one r
  obtain⟨a,xs,rfl,sq,q⟩:=Rep.tup h
  exact⟨a,xs,rfl,.inr sq,fun l hl=>Vg p rs q hl⟩
 ·obtain⟨v,rfl,h⟩:=RepL.one r
  split at p
  ·rename_i c zc
   obtain⟨a,xs,rfl,_,sq,q,_⟩:=rs.items h zc
   exact⟨a,xs,rfl,.inl sq,fun l hl=>Vg p rs q hl⟩
  ·exact p.elim
 ·exact p.elim
def Gbm(xs:List D)(S:Sto):Out D:=match xs with
 | [.tup l]=>.ok (.tup l) S
 | [.lst i]=>match S[i]? with
  | some c=>.ok (.tup c.xs) S
  | none=>.bad
 | _=>.bad
theorem Gj0{K:PySem.W.Frag}:BlD K (fun xs H Q=>∃ p ys,xs=[.ref p]/\((SqL K H p ys/\∀ l,H l=none->Q (.ref l) (upd H l (.tup ys)))\/(SqT K H p ys/\Q (.ref p) H))) Gbm:=by
 intro XQ σ ρ mp H S xs vs Q rs r p
 unfold Gbm at p
 split at p
 ·obtain⟨v,rfl,h⟩:=RepL.one r
  obtain⟨a,xs,rfl,sq,q⟩:=Rep.tup h
  exact⟨a,xs,rfl,.inr ⟨sq,Gm.ok (R:=Rep K) p rs h⟩⟩
 ·obtain⟨v,rfl,h⟩:=RepL.one r
  split at p
  ·rename_i c zc
   obtain⟨a,xs,rfl,_,sq,q,_⟩:=rs.items h zc
   exact⟨a,xs,rfl,.inl ⟨sq,fun l hl=>Wr p rs q hl⟩⟩
  ·exact p.elim
 ·exact p.elim
theorem Gne{p pos:Pos}{e:Expr}{f:Ev (List D)}(hg:Gl X "list")(hm:X.mg "list"=none)(ha:JA X XQ [e] f)(he:starEach [e] X.env=(false,eval e X.env)::starEach [] X.env:=by rfl):JE X XQ (.Call (.Name "list" p) [e] [] pos) (b1 Gad f):=Gpu Gd0 Gnd hg hm (by rfl) ha (he:=he)
theorem Gj1{p pos:Pos}{e:Expr}{f:Ev (List D)}(hg:Gl X "tuple")(hm:X.mg "tuple"=none)(ha:JA X XQ [e] f)(he:starEach [e] X.env=(false,eval e X.env)::starEach [] X.env:=by rfl):JE X XQ (.Call (.Name "tuple" p) [e] [] pos) (b1 Gbm f):=Gpu Gcr Gj0 hg hm (by rfl) ha (he:=he)
def Gyn(xs:List D)(S:Sto):Out D:=match xs with
 | [.int i,.int j]=>.ok (.int (if j<i then j else i)) S
 | _=>.bad
def Vh(x y:D)(S:Sto):Out D:=match x,y with
 | .non,.non=>.ok (.bl true) S
 | .bl _,.non=>.ok (.bl false) S
 | .int _,.non=>.ok (.bl false) S
 | .str _,.non=>.ok (.bl false) S
 | .tup _,.non=>.ok (.bl false) S
 | .lst _,.non=>.ok (.bl false) S
 | .exn _ _,.non=>.ok (.bl false) S
 | _,_=>.bad
def Gdk(x y:D)(S:Sto):Out D:=match x,y with
 | .non,.non=>.ok (.bl false) S
 | .bl _,.non=>.ok (.bl true) S
 | .int _,.non=>.ok (.bl true) S
 | .str _,.non=>.ok (.bl true) S
 | .tup _,.non=>.ok (.bl true) S
 | .lst _,.non=>.ok (.bl true) S
 | .exn _ _,.non=>.ok (.bl true) S
 | _,_=>.bad
theorem Gj2{K:PySem.W.Frag}:OpD K (fun x y H Q=>y=.non/\Q (.bl (decide (x=.non))) H) Vh:=by
 intro XQ σ ρ mp H S x y v u Q rs rx ry p
 cases y with
 | non=>
  refine⟨ry,?_⟩
  cases x with
  | non=>cases (show v=.non from rx); exact Gm.ok (R:=Rep K) p rs (by rfl)
  | bl b=>cases (show v=.bl b from rx); exact Gm.ok (R:=Rep K) p rs (by rfl)
  | int b=>cases (show v=.int b from rx); exact Gm.ok (R:=Rep K) p rs (by rfl)
  | str b=>cases (show v=.str b from rx); exact Gm.ok (R:=Rep K) p rs (by rfl)
  | tup l=>obtain⟨a,xs,rfl,_⟩:=Rep.tup rx; exact Gm.ok (R:=Rep K) p rs (by rfl)
  | lst i=>obtain⟨a,rfl,_⟩:=(show ∃ a,v=.ref a/\mp[i]?=some a/\¬ Dcy H a from rx); exact Gm.ok (R:=Rep K) p rs (by rfl)
  | exn c n=>obtain⟨a,dx,_,rfl,_⟩:=(show ∃ a dx p,v=.ref a/\(CN K c p/\XCl K p/\H a=some (XO a p dx))/\∀ i,n=some i->∃ d,dx=some d/\H d=some (XA d i) from rx); exact Gm.ok (R:=Rep K) p rs (by rfl)
  | fv c=>exact(show False from p).elim
  | dct c=>exact(show False from p).elim
 | _=>cases x<;>exact(show False from p).elim
theorem Gnf{K:PySem.W.Frag}:OpD K (fun x y H Q=>y=.non/\Q (.bl (!decide (x=.non))) H) Gdk:=by
 intro XQ σ ρ mp H S x y v u Q rs rx ry p
 cases y with
 | non=>
  refine⟨ry,?_⟩
  cases x with
  | non=>cases (show v=.non from rx); exact Gm.ok (R:=Rep K) p rs (by rfl)
  | bl b=>cases (show v=.bl b from rx); exact Gm.ok (R:=Rep K) p rs (by rfl)
  | int b=>cases (show v=.int b from rx); exact Gm.ok (R:=Rep K) p rs (by rfl)
  | str b=>cases (show v=.str b from rx); exact Gm.ok (R:=Rep K) p rs (by rfl)
  | tup l=>obtain⟨a,xs,rfl,_⟩:=Rep.tup rx; exact Gm.ok (R:=Rep K) p rs (by rfl)
  | lst i=>obtain⟨a,rfl,_⟩:=(show ∃ a,v=.ref a/\mp[i]?=some a/\¬ Dcy H a from rx); exact Gm.ok (R:=Rep K) p rs (by rfl)
  | exn c n=>obtain⟨a,dx,_,rfl,_⟩:=(show ∃ a dx p,v=.ref a/\(CN K c p/\XCl K p/\H a=some (XO a p dx))/\∀ i,n=some i->∃ d,dx=some d/\H d=some (XA d i) from rx); exact Gm.ok (R:=Rep K) p rs (by rfl)
  | fv c=>exact(show False from p).elim
  | dct c=>exact(show False from p).elim
 | _=>cases x<;>exact(show False from p).elim
section
variable{a b:Expr}{fa fb:Ev D}{pos:Pos}
theorem Gso(ha:JE X XQ a fa)(hb:JE X XQ b fb):JE X XQ (.Compare a [.Is] [b] pos) (o2 Vh fa fb):=Gbj Gi9 Gj2 ha hb (nomark _)
theorem Gsp(ha:JE X XQ a fa)(hb:JE X XQ b fb):JT X XQ (.Compare a [.Is] [b] pos) (tb (o2 Vh fa fb)):=Ggf Gi9 Gj2 ha hb (nomark _)
theorem Gng(ha:JE X XQ a fa)(hb:JE X XQ b fb):JE X XQ (.Compare a [.IsNot] [b] pos) (o2 Gdk fa fb):=Gbj Gmj Gnf ha hb (nomark _)
end
def Um(xs:List D)(lo hi:Option Int):List D:=(xs.drop (HT.sIx xs.length 0 lo)).take (HT.sIx xs.length xs.length hi-HT.sIx xs.length 0 lo)
theorem RepL.cut{K:PySem.W.Frag}{mp:List Addr}{H:Hp}{l:List D}{vs:List V}(h:RepL K mp H l vs)(lo hi:Option Int):RepL K mp H (Um l lo hi) (Ge6 vs lo hi):=by
 unfold Um Ge6
 rw[h.len]
 exact(h.drop _).take _
def slD(x:D)(lo hi:Option Int)(S:Sto):Out D:=match x with
 | .tup l=>if HT.sIx l.length 0 lo=0/\HT.sIx l.length l.length hi=l.length then .bad else .ok (.tup (Um l lo hi)) S
 | .lst i=>match S[i]? with
  | some c=>.ok (.lst S.length) (S++[⟨false,Um c.xs lo hi⟩])
  | none=>.bad
 | _=>.bad
def sl(fe:Ev D)(fl fh:Ev (Option Int)):Ev D:=fun ρ S=>(fe ρ S).bind fun x S1=>(fl ρ S1).bind fun l S2=>(fh ρ S2).bind fun u S3=>slD x l u S3
def onone:Ev (Option Int):=fun _ S=>.ok none S
def osome(f:Ev D):Ev (Option Int):=fun ρ S=>(f ρ S).bind fun x S1=>match x with
 | .int i=>.ok (some i) S1
 | _=>.bad
theorem Gnh:JO X XQ none onone:=PO.mono Gmp fun σ H Q ⟨mp,ρ,S,G,p⟩=>Gm.ok (R:=kO) (show Gm X.K kO XQ σ ρ mp H (.ok none S) Q from p) G.rs rfl
theorem Gni{e:Expr}{f:Ev D}(h:JE X XQ e f):JO X XQ (some e) (osome f):=PO.mono (Gmq h) fun σ H Q ⟨mp,ρ,S,G,p⟩=>bindP G p fun mp1 H1 x S1 v a1 G1 r1 p1=>by
 cases x with
 | int i=>exact⟨i,r1,Gm.ok (R:=kO) p1 G1.rs rfl⟩
 | _=>exact(show False from p1).elim
def MeD(K:PySem.W.Frag)(r:V->List V->Hp->VK->Prop)(o:D->List D->Sto->Out D):Prop:=
 ∀ (XQ:XW) (σ:L2.St) (ρ:Lc) (mp:List Addr) (H:Hp) (S:Sto) (x:D) (xs:List D) (v:V) (vs:List V) (Q:VK),RS K mp H S->Rep K mp H x v->RepL K mp H xs vs->Post K XQ σ ρ mp H (o x xs S) Q->r v vs H Q
def isLst(x:D)(S:Sto):Bool:=match x with
 | .lst i=>match S[i]? with
  | some _=>true
  | none=>false
 | _=>false
def mt(o:D->List D->Sto->Out D)(fo:Ev D)(f:Ev (List D)):Ev D:=fun ρ S=>(fo ρ S).bind fun x S1=>if isLst x S1=true then(f ρ S1).bind fun xs S2=>o x xs S2 else .bad
theorem Ghb{id:String}{name:Str}{o e:Expr}{es:List Expr}{apos cpos:Pos}{r:V->List V->Hp->VK->Prop}{od:D->List D->Sto->Out D}{fo:Ev D}{f:Ev (List D)}(slot:Slot "list" name id)(hty:typeOf (.builtin id)=pure (.type "method_descriptor"))(hm:MtM X id r)(hd:MeD X.K r od)(ho:JE X XQ o fo)(ha:JA X XQ (e::es) f)
  (hbase:attributeBase o name X.env (eval o X.env)=eval o X.env:=by rfl)
  (hfew:((backTo cpos (starEach (e::es) X.env)).all (fun x=>!x.1)&&(backToKw cpos (keywordEach [] X.env)).all (fun x=>x.1.isSome)
   && decide ((e::es).length+([]:List Keyword).length+(if([]:List Keyword).isEmpty then 0 else 1)<30))=true:=by rfl)
  (hline:(apos.endLine==cpos.line)=true:=by rfl) (hs:starEach (e::es) X.env=(false,eval e X.env)::starEach es X.env:=by rfl) (hplain:(backTo cpos (starEach es X.env)).any (·.1)=false:=by rfl):
  JE X XQ (.Call (.Attribute o name apos) (e::es) [] cpos) (mt od fo f):=by
 refine PE.mono (Gvs PySem.F.plainAttrs_list slot hty hm ho ha hbase hfew hline hs hplain) fun σ H Q ⟨mp,ρ,S,G,p⟩=>?_
 refine bindP G p fun mp1 H1 x S1 v a1 G1 r1 p1=>?_
 by_cases hl:isLst x S1=true
 ·rw[if_pos hl] at p1
  have ty:tyV X.K "list" v H1:=by
   cases x with
   | lst i=>
    cases zc:S1[i]? with
    | none=>simp[isLst,zc] at hl
    | some c=>
     obtain⟨a,xs,rfl,_,sq,_⟩:=G1.rs.items r1 zc
     exact .inl ⟨rfl,xs,sq⟩
   | _=>simp[isLst] at hl
  exact⟨ty,bindP G1 p1 fun mp2 H2 xs S2 vs a2 G2 r2 p2=>hd XQ σ ρ mp2 H2 S2 x xs v vs Q G2.rs (Rep.aft a2 _ _ r1) r2 p2⟩
 ·rw[if_neg hl] at p1; exact p1.elim
def Gbn(x:D)(xs:List D)(S:Sto):Out D:=match x,xs with
 | .lst i,[d]=>match S[i]? with
  | some c=>if c.fz=false/\c.xs.length<1000000 then .ok .non (S.set i ⟨false,c.xs++[d]⟩) else .bad
  | none=>.bad
 | _,_=>.bad
theorem Gsq{K:PySem.W.Frag}:MeD K Gg9 Gbn:=by
 intro XQ σ ρ mp H S x xs v vs Q rs rx r p
 unfold Gbn at p
 split at p
 ·rename_i i d
  split at p
  ·rename_i c zc
   by_cases hc:c.fz=false/\c.xs.length<1000000
   ·rw[if_pos hc] at p
    obtain⟨w,rfl,hw⟩:=RepL.one r
    obtain⟨a,ys,rfl,ha,sq,q,f⟩:=rs.items rx zc
    have hH:=f hc.1
    obtain⟨af,rs'⟩:=rs.setL ha zc hc.1 hH (RepL.append q (RepL.cons hw RepL.nil))
    exact⟨a,ys,w,rfl,rfl,hH,by rw[q.len]; exact Nat.lt_of_lt_of_le hc.2 (by decide),p mp _ _ af rs' rfl⟩
   ·rw[if_neg hc] at p; exact p.elim
  ·exact p.elim
 ·exact p.elim
theorem Gif{o e:Expr}{apos cpos:Pos}{fo:Ev D}{f:Ev (List D)}(ho:JE X XQ o fo)(ha:JA X XQ [e] f)(hbase:attributeBase o "append" X.env (eval o X.env)=eval o X.env:=by rfl)
  (hfew:((backTo cpos (starEach [e] X.env)).all (fun x=>!x.1)&&(backToKw cpos (keywordEach [] X.env)).all (fun x=>x.1.isSome)
   && decide ([e].length+([]:List Keyword).length+(if([]:List Keyword).isEmpty then 0 else 1)<30))=true:=by rfl)
  (hline:(apos.endLine==cpos.line)=true:=by rfl) (hs:starEach [e] X.env=(false,eval e X.env)::starEach [] X.env:=by rfl):
  JE X XQ (.Call (.Attribute o "append" apos) [e] [] cpos) (mt Gbn fo f):=Ghb PySem.F.slot_list_append PySem.F.type_list_append Gdg Gsq ho ha hbase hfew hline hs rfl
end
section
variable{X:Cx}{XQ:XW}
theorem Gsr{K:PySem.W.Frag}:UnD K (rU fun i=>.int (-i)) Ggk:=by
 intro XQ σ ρ mp H S x v Q rs rx p
 cases x with
 | int i=>exact⟨i,rx,Gm.ok (R:=Rep K) (show Post K XQ σ ρ mp H (.ok (.int (-i)) S) Q from p) rs rfl⟩
 | _=>exact(show False from p).elim
theorem Gss{a:Expr}{fa:Ev D}{pos:Pos}(ha:JE X XQ a fa):JE X XQ (.UnaryOp .USub a pos) (o1 Ggk fa):=Gvz Gq8 Gsr ha
def ch(o o':D->D->Sto->Out D)(fa fb fc:Ev D):Ev D:=fun ρ S=>(fa ρ S).bind fun x S1=>(fb ρ S1).bind fun y S2=>(o x y S2).bind fun z S3=>match z with
 | .bl k=>if k=true then(fc ρ S3).bind fun w S4=>o' y w S4 else .ok (.bl false) S3
 | _=>.bad
theorem Gst{K:PySem.W.Frag}{r r':R2}{o o':D->D->Sto->Out D}{fa fb fc:Ev D}(hd:OpD K r o)(hd':OpD K r' o')(σ:L2.St)(H:Hp)(Q:VK)(h:rdE K XQ (ch o o' fa fb fc) σ H Q):Gja r r' (rdE K XQ fa) (rdE K XQ fb) (rdE K XQ fc) σ H Q:=by
 obtain⟨mp,ρ,S,G,p⟩:=h
 refine bindP G p fun mp1 H1 x S1 v a1 G1 r1 p1=>?_
 refine bindP G1 p1 fun mp2 H2 y S2 u a2 G2 r2 p2=>?_
 refine hd XQ σ ρ mp2 H2 S2 x y v u _ G2.rs (Rep.aft a2 _ _ r1) r2 ?_
 cases z:o x y S2 with
 | bad=>rw[z] at p2; exact p2
 | exc e S3=>rw[z] at p2; exact p2
 | ok d S3=>
  rw[z] at p2
  intro mp3 H3 zv a3 rs3 r3
  have p3:=Gm.aft p2 a3
  have G3:=G2.aft a3 rs3
  cases d with
  | bl k=>
   refine⟨k,r3,?_⟩
   cases k with
   | true=>exact(if_pos rfl).mpr (bindP (f:=fc) G3 (by simpa[Out.bind] using p3) fun mp4 H4 w S4 wv a4 G4 r4 p4=>hd' XQ σ ρ mp4 H4 S4 y w u wv Q G4.rs (Rep.aft (a3.trans a4) _ _ r2) r4 p4)
   | false=>exact(if_neg Bool.false_ne_true).mpr (Gm.ok (R:=Rep K) (d:=.bl false) (S:=S3) (by simpa[Out.bind] using p3) G3.rs rfl)
  | _=>exact(show False from p3).elim
theorem Gj3{a b c:Expr}{op op':CmpOp}{r r':R2}{o o':D->D->Sto->Out D}{fa fb fc:Ev D}{pos:Pos}(ho:OpR X (compareOp op) r)(hd:OpD X.K r o)(ho':OpR X (compareOp op') r')(hd':OpD X.K r' o')(ha:JE X XQ a fa)(hb:JE X XQ b fb)(hc:JE X XQ c fc)
  (hm:lastMarks [op,op'] [b,c]=false:=by with_unfolding_all rfl):JT X XQ (.Compare a [op,op'] [b,c] pos) (tb (ch o o' fa fb fc)):=PT.mono (Gjb ho ho' ha hb hc hm) fun σ H Q h=>Gst hd hd' σ H _ (Gjp h)
theorem Gpv{K:PySem.W.Frag}:OpD K (rI0 fun i j=>.bl (decide (i<j))) ltD:=od_int0 fun _ _ _ _=>rfl
theorem Gpw{K:PySem.W.Frag}:OpD K (rI0 fun i j=>.bl (decide (i<=j))) leD:=od_int0 fun _ _ _ _=>rfl
end
def XAt(a c:Addr)(h:Heap):Prop:=∃ oe,h.get? a=some oe/\oe.cls=.ref c/\∃ vs,oe.data=.fields vs
section
variable{prog:Program}{w:World}{A:Around}{E:Value->Shared->Prop}{h:Heap}{g:Array GenState}{d:Drawn}{t:Nat}{os:OsState}{a c:Addr}{o:Obj}{K:PySem.W.Frag}
theorem Gsu{M:Model}(x:XAt a c h):PySem.W.Looks M h (typeOf (.ref a)) (.ref c):=by
 obtain⟨oe,h1,h2,_⟩:=x
 exact h2▸(PySem.W.Looks.ld h1).andThen .now
theorem Gsv{tp:Value}{R:Result->Shared->Prop}(X:K.In h)(k:XCl K c)(x:XAt a c h)(hq:R (.ok (.ret (.ref c))) ⟨h,g,d,t,os⟩):
  codeAny (model prog w) A (.call (.builtin "getset_descriptor.__get__") ⟨[.builtin "object.__class__",.ref a,tp],[]⟩) R ⟨h,g,d,t,os⟩:=by
 obtain⟨oe,hx,hc,_⟩:=x
 have hT5:(⟨h,g,d,t,os⟩:Shared).TypeIs (.builtin "object.__class__") "getset_descriptor":=F.typeOf_object_class
 refine codeAny_call_builtin F.slot_gs_get.plain F.entry_gs_get (F.slot_gs_get.check _ _ _ _ _ _ _ _ hT5 (F.args_gs_get _ _ _) ?_)
 have L1:=fun(M:Model)=>PySem.W.looks_mroIn (M:=M) X k.ob
 have ow:=F.owner_object_class
 repeat (any_goals (first | assumption | (with_reducible refine wpAny_loadPart_at hx ?_; rw[hc]) | (rw[ow]; with_reducible refine(L1 _).here ?_) | wp_step))
 refine⟨Code.quiet_builtin _ (by decide +kernel),codeAny_builtin F.entry_object_class ?_⟩
 repeat (any_goals (first | assumption | (with_reducible refine wpAny_loadPart_at hx ?_; rw[hc]) | wp_step))
theorem Gj4{M:Model}{nameV:Value}{Q:Unit->Shared->Prop}(X:K.In h)(k:XCl K c)(x:XAt a c h)(hq:Q () ⟨h,g,d,t,os⟩):wpAny M A (checkBuiltinCall "BaseException.__getattribute__" ⟨[.ref a,nameV],[]⟩) Q E ⟨h,g,d,t,os⟩:=by
 obtain⟨oe,hx,hc,_⟩:=x
 have bk:builtinKind "BaseException.__getattribute__"=some .slot:=by decide +kernel
 have bs:splitId "BaseException.__getattribute__"=some ("BaseException","__getattribute__"):=by decide +kernel
 have ha:=F.args_bexc_ga (.ref a) nameV
 have L1:PySem.W.Looks M h (isSubtype (.ref c) (.type "BaseException")) true:=PySem.W.looks_subIn X k.be
 simp only[checkBuiltinCall,bk,bs]
 refine wpAny_bind ?_
 ·unfold isInstance
  repeat (first | (with_reducible refine wpAny_loadPart_at hx ?_; rw[hc]) | (with_reducible refine L1.here ?_) | wp_step)
  exact hq
theorem Gj5{tk:Tok}{Q:Fin->Shared->Prop}(X:K.In h)(k:XCl K c)(x:XAt a c h)(hq:Q (.done (.ret (.ref c))) ⟨h,g,d,t,os⟩):
  wpAny (model prog w) A (Builtin.«object.__getattribute__» ⟨[.ref a,.str "__class__" tk],[]⟩) Q E ⟨h,g,d,t,os⟩:=by
 obtain⟨oe,hx,hc,hv⟩:=id x
 have hT5:(⟨h,g,d,t,os⟩:Shared).TypeIs (.builtin "object.__class__") "getset_descriptor":=F.typeOf_object_class
 have f5:=F.typeOf_object_class
 have f6:=F.slot_gs_get.lookup
 have f7:=F.slot_gs_set.lookup
 have L1:=fun(M:Model)=>PySem.W.looks_findIn (M:=M) X k.cl
 repeat (any_goals (first | assumption | (with_reducible refine wpAny_loadPart_at hx ?_; rw[hc]) | with_reducible refine(L1 _).here ?_ | wp_step))
 refine Gsv X k x ?_
 repeat (any_goals (first | assumption | wp_step))
theorem Gwb{tk:Tok}{fill expr:Bool}{Q:Value->Shared->Prop}(X:K.In h)(k:XCl K c)(x:XAt a c h)(hq:Q (.ref c) ⟨h,g,d,t,os⟩):
  wpAny (model prog w) A (getAttrBy (.ref a) (.str "__class__" tk) fill expr) Q E ⟨h,g,d,t,os⟩:=by
 obtain⟨oe,hx,hc,hv⟩:=id x
 have f3:=PySem.F.excAttr_ValueError.ga.bind (.ref a)
 have n0:(expr&&onTheHeap (Value.builtin "BaseException.__getattribute__"))=false:=by cases expr<;>rfl
 have n2:(Value.builtin "BaseException.__getattribute__"==Value.builtin "object.__getattribute__")=false:=by decide +kernel
 have n1:(onTheHeap (Value.ref c)&&Value.builtin "BaseException.__getattribute__"==Value.builtin "object.__getattribute__")=false:=by rw[n2]; rfl
 have L1:=fun(M:Model)=>PySem.W.looks_findIn (M:=M) X k.ga
 have L2:=fun(M:Model)=>PySem.W.looks_findIn (M:=M) X k.gt
 repeat (any_goals (first | assumption | (with_reducible refine wpAny_loadPart_at hx ?_; rw[hc]) | with_reducible refine(L1 _).here ?_ | with_reducible refine(L2 _).here ?_ | wp_step))
 refine codeAny_call_builtin PySem.F.excAttr_ValueError.ga.plain F.entry_bexc_ga (Gj4 X k x (Gj5 X k x ?_))
 repeat (any_goals (first | assumption | wp_step))
theorem Gnj{Q:Option Value->Shared->Prop}(X:K.In h)(k:XCl K c)(x:XAt a c h)(hq:Q (some (.ref c)) ⟨h,g,d,t+1,os⟩):wpAny (model prog w) A (getAttr? (.ref a) "__class__") Q E ⟨h,g,d,t,os⟩:=by
 unfold getAttr? getAttrBy?
 repeat (any_goals (first | assumption | with_reducible apply Gwb X k x | wp_step))
end
theorem Gj6{K:PySem.W.Frag}{a c:Addr}(k:XCl K c):PySem.W.KitX K (.ref a) (.ref c) (XAt a c) where
 ty:=fun _ _ _ x=>Gsu x
 it:=fun _ _ X _=>by
  obtain⟨cd,hc⟩:=Option.isSome_iff_exists.mp k.cd
  unfold PySem.W.clsIn at hc
  split at hc
  ·rename_i c' d' cd' sl' ho
   intro A Q E s kp q
   unfold isType loadHead
   exact wpAny_bind (wpAny_loadPart (kp _ _ (X _ _ ho)) (wpAny_pure q))
  ·cases hc
 ne:=fun h tp dd its n sl X htp=>by
  obtain⟨cd,hc⟩:=Option.isSome_iff_exists.mp k.cd
  refine Bool.eq_false_iff.mpr fun q=>?_
  have e:c=tp:=Value.ref.inj (beq_iff_eq.mp q)
  subst e
  unfold PySem.W.clsIn at hc
  split at hc
  ·rename_i c' d' cd' sl' ho
   cases (X _ _ ho).symm.trans htp
  ·cases hc
 ca:=fun{prog w A E Q s} X x q=>by
  obtain⟨hh,g,d,t,os⟩:=s
  exact Gnj X k x q
def tyN:D->String
 | .non=>"NoneType"
 | .bl _=>"bool"
 | .int _=>"int"
 | .str _=>"str"
 | .tup _=>"tuple"
 | .lst _=>"list"
 | .exn _ _=>"exn"
 | .fv _=>"fv"
 | .dct _=>"dct"
def isT(T t:String):Bool:=t==T||(T=="int"&&t=="bool")
def isD(T:String)(x:D)(S:Sto):Out D:=match x with
 | .fv _=>.bad
 | .dct _=>.bad
 | _=>.ok (.bl (isT T (tyN x))) S
def Kit(K:PySem.W.Frag)(T:String):Prop:=T∈["bool","int","str","tuple","list"]/\∀ t∈["NoneType","bool","int","str","tuple","list"],PySem.W.kitOne K (.type t) (.type T)=some (isT T t)
theorem Gnk{K:PySem.W.Frag}:Kit K "int":=by refine⟨by decide,?_⟩; intro t h; simp only[List.mem_cons,List.mem_nil_iff,or_false] at h; rcases h with rfl | rfl | rfl | rfl | rfl | rfl<;>first | rfl | decide +kernel | (with_unfolding_all rfl)
theorem Gj7{K:PySem.W.Frag}:Kit K "bool":=by refine⟨by decide,?_⟩; intro t h; simp only[List.mem_cons,List.mem_nil_iff,or_false] at h; rcases h with rfl | rfl | rfl | rfl | rfl | rfl<;>first | rfl | decide +kernel | (with_unfolding_all rfl)
theorem Js{K:PySem.W.Frag}:Kit K "tuple":=by refine⟨by decide,?_⟩; intro t h; simp only[List.mem_cons,List.mem_nil_iff,or_false] at h; rcases h with rfl | rfl | rfl | rfl | rfl | rfl<;>first | rfl | decide +kernel | (with_unfolding_all rfl)
theorem Xp{K:PySem.W.Frag}:Kit K "str":=by refine⟨by decide,?_⟩; intro t h; simp only[List.mem_cons,List.mem_nil_iff,or_false] at h; rcases h with rfl | rfl | rfl | rfl | rfl | rfl<;>first | rfl | decide +kernel | (with_unfolding_all rfl)
theorem Kg{K:PySem.W.Frag}:Kit K "list":=by refine⟨by decide,?_⟩; intro t h; simp only[List.mem_cons,List.mem_nil_iff,or_false] at h; rcases h with rfl | rfl | rfl | rfl | rfl | rfl<;>first | rfl | decide +kernel | (with_unfolding_all rfl)
section
variable{X:Cx}{XQ:XW}
def Gyo(K:PySem.W.Frag)(T:String):List V->Hp->VK->Prop:=fun vs H Q=>∃ x t,vs=[x,.ty T]/\(match x with
 | .non=>t="NoneType" | .bl _=>t="bool" | .int _=>t="int" | .str _=>t="str"
 | .ref a=>(t="tuple"/\∃ xs,SqT K H a xs)\/(t="list"/\∃ xs,SqL K H a xs)\/(t="exn"/\∃ c dx,XCl K c/\H a=some (XO a c dx))
 | _=>False)/\Q (.bl (isT T t)) H
theorem Gwc{pins:List (Addr×Obj)}{σ:L2.St}{H:Hp}{s:Shared}{a c:Addr}{dx:Option Addr}(I:Inv X pins σ H s)(h:H a=some (XO a c dx)):XAt a c s.heap:=by
 obtain⟨⟨oe,h1,h2,_,h3⟩,_,_⟩:=(show Jw X.prog X.w H s.heap a (XO a c dx) from I.hok a _ h)
 exact⟨oe,h1,h2,h3⟩
theorem Gnl{T:String}(h:T∈["bool","int","str","tuple","list"]):isT T "exn"=false:=by
 simp only[List.mem_cons,List.mem_nil_iff,or_false] at h
 rcases h with rfl | rfl | rfl | rfl | rfl<;>rfl
theorem Gj8{T:String}(k:Kit X.K T):Wo X (.builtin "isinstance") (Gyo X.K T):=by
 intro pins s σ H xs us Q I r ⟨x,t,e,h,q⟩
 subst e
 obtain⟨u,w,rfl,ru,rw'⟩:=Vals.two r
 cases (show w=Value.type T from rw')
 have fin:∀ tk,EP X pins σ Q (.bool (isT T t)) { s with toks:=tk }:=fun tk=>⟨.bl _,H,I.tok tk,rfl,q⟩
 cases x with
 | non=>cases (show u=Value.none from ru); cases (show t="NoneType" from h); exact PySem.W.kia_one PySem.W.kitx_none I.kIn True.intro (k.2 _ (by decide)) (fun z=>nomatch z) fin
 | bl y=>cases (show u=Value.bool y from ru); cases (show t="bool" from h); exact PySem.W.kia_one PySem.W.kitx_bool I.kIn True.intro (k.2 _ (by decide)) (fun z=>nomatch z) fin
 | int i=>obtain⟨tk,e⟩:=(show ∃ t,u=Value.int i t from ru); cases e; cases (show t="int" from h); exact PySem.W.kia_one PySem.W.kitx_int I.kIn True.intro (k.2 _ (by decide)) (fun z=>nomatch z) fin
 | str y=>obtain⟨tk,e⟩:=(show ∃ t,u=Value.str y t from ru); cases e; cases (show t="str" from h); exact PySem.W.kia_one PySem.W.kitx_str I.kIn True.intro (k.2 _ (by decide)) (fun z=>nomatch z) fin
 | ref a=>
  cases (show u=Value.ref a from ru)
  rcases h with⟨rfl,xs,sq⟩ | ⟨rfl,xs,sq⟩ | ⟨rfl,c,dx,xc,hH⟩
  ·obtain⟨its,_,⟨o,h1,h2,_⟩,_⟩:=I.tuple sq
   exact PySem.W.kia_one PySem.W.kitx_tuple I.kIn ⟨o,h1,h2⟩ (k.2 _ (by decide)) (fun z=>nomatch z) fin
  ·obtain⟨its,_,⟨o,n,h1,h2,_⟩,_⟩:=I.list sq
   exact PySem.W.kia_one PySem.W.kitx_list I.kIn ⟨o,h1,h2⟩ (k.2 _ (by decide)) (fun z=>nomatch z) fin
  ·have xa:=Gwc I hH
   have e:isT T "exn"=false:=Gnl k.1
   rw[e] at fin
   exact PySem.W.kia_one (Gj6 xc) I.kIn xa (xc.bt T k.1) (fun z=>nomatch z) fin
 | _=>exact h.elim
theorem Gsw{T:String}{x:Str}{e:Expr}{f:Ev D}{p p2 pos:Pos}(k:Kit X.K T)(hv:bootBuiltins x=some (.type T))(hnx:x≠"__name__")(hdx:(x==("__debug__":Str))=false)(hg:Gl X "isinstance")(hm:X.mg "isinstance"=none)(hgt:Gl X x)(hmt:X.mg x=none)(he:JE X XQ e f)
  (hs:starEach [e,.Name x p2] X.env=(false,eval e X.env)::starEach [.Name x p2] X.env) (hpl:(backTo pos (starEach [.Name x p2] X.env)).any (·.1)=false) (hs2:starEach [.Name x p2] X.env=(false,eval (.Name x p2) X.env)::starEach [] X.env):
  JE X XQ (.Call (.Name "isinstance" p) [e,.Name x p2] [] pos) (o1 (isD T) f):=by
 refine PE.mono (Ge5 (Gj8 k) hg hm (by rfl) (Yo he (Yo (Gmc hgt hmt hv (v:=.ty T) rfl hnx hdx) Gf9 hs2) hs) (by decide) (by decide) hs hpl) fun σ H Q ⟨mp,ρ,S,G,q⟩=>?_
 refine bindP G q fun mp1 H1 d S1 v a1 G1 r1 p1=>?_
 have p2:((∃ c,d=.fv c)\/∃ c,d=.dct c)\/Post X.K XQ σ ρ mp1 H1 (.ok (.bl (isT T (tyN d))) S1) Q:=by cases d<;>first | exact .inr p1 | exact .inl (.inl ⟨_,rfl⟩) | exact .inl (.inr ⟨_,rfl⟩)
 rcases p2 with(⟨c,rfl⟩ | ⟨c,rfl⟩) | p2
 ·exact(show False from p1).elim
 ·exact(show False from p1).elim
 refine⟨v,tyN d,rfl,?_,Gm.ok (R:=Rep X.K) p2 G1.rs rfl⟩
 cases d with
 | non=>cases (show v=.non from r1); exact rfl
 | bl b=>cases (show v=.bl b from r1); exact rfl
 | int b=>cases (show v=.int b from r1); exact rfl
 | str b=>cases (show v=.str b from r1); exact rfl
 | tup l=>obtain⟨a,xs,rfl,sq,_⟩:=Rep.tup r1; exact .inl ⟨rfl,xs,sq⟩
 | lst i=>
  obtain⟨a,rfl,ha,_⟩:=(show ∃ a,v=.ref a/\mp1[i]?=some a/\¬ Dcy H1 a from r1)
  have hl:i<S1.length:=by rw[<- G1.rs.len]; exact(List.getElem?_eq_some_iff.mp ha).1
  obtain⟨a2,xs,e2,_,sq,_⟩:=G1.rs.items r1 (List.getElem?_eq_getElem hl)
  cases e2
  exact .inr (.inl ⟨rfl,xs,sq⟩)
 | exn c n=>
  obtain⟨a,dx,q,rfl,⟨_,xc,hH⟩,_⟩:=(show ∃ a dx p,v=.ref a/\(CN X.K c p/\XCl X.K p/\H1 a=some (XO a p dx))/\∀ i,n=some i->∃ d,dx=some d/\H1 d=some (XA d i) from r1)
  exact .inr (.inr ⟨rfl,q,dx,xc,hH⟩)
 | fv c=>exact(show False from p1).elim
 | dct c=>exact(show False from p1).elim
end
section
variable{X:Cx}{XQ:XW}
def Gae:List D->Option (List Bool)
 | []=>some []
 | .bl b::l=>match Gae l with
  | some r=>some (b::r)
  | none=>none
 | _::_=>none
def Gar(xs:List D)(S:Sto):Out D:=match xs with
 | [.lst i]=>match S[i]? with
  | some c=>match Gae c.xs with
   | some bs=>.ok (.bl (bs.all id)) S
   | none=>.bad
  | none=>.bad
 | _=>.bad
theorem Ghc{K:PySem.W.Frag}{mp:List Addr}{H:Hp}:∀ {l:List D} {vs:List V} {bs:List Bool},RepL K mp H l vs->Gae l=some bs->vs=bs.map V.bl
 | [],vs,bs,h,e=>by cases (show vs=[] from h); cases (Option.some.inj e); rfl
 | .bl b::l,vs,bs,h,e=>by
  obtain⟨v,r,rfl,h1,h2⟩:=(show ∃ v r,vs=v::r/\Rep K mp H (.bl b) v/\RepL K mp H l r from h)
  cases (show v=.bl b from h1)
  cases z:Gae l with
  | none=>simp[Gae,z] at e
  | some q=>
   simp only[Gae,z] at e
   cases (Option.some.inj e)
   rw[Ghc h2 z]
   rfl
 | .non::l,vs,bs,h,e=>by cases e
 | .int _::l,vs,bs,h,e=>by cases e
 | .str _::l,vs,bs,h,e=>by cases e
 | .tup _::l,vs,bs,h,e=>by cases e
 | .lst _::l,vs,bs,h,e=>by cases e
theorem Ge9:∀ {bs:List Bool} {us:List Value},Vals (bs.map V.bl) us->us=bs.map Value.bool
 | [],us,h=>by cases h; rfl
 | b::r,us,h=>by
  cases h with
  | cons h1 h2=>
   cases (show _=Value.bool b from h1)
   rw[Ge9 h2]
   rfl
theorem Gig(bs:List Bool):((List.range bs.length).all fun i=>bs.getD i true)=bs.all id:=by
 rw[Bool.eq_iff_iff,List.all_eq_true,List.all_eq_true]
 constructor
 ·intro h b hb
  obtain⟨i,hi,e⟩:=List.getElem_of_mem hb
  have:=h i (List.mem_range.mpr hi)
  rw[List.getD_eq_getElem?_getD,List.getElem?_eq_getElem hi] at this
  simpa[e] using this
 ·intro h i hi
  have hi:=List.mem_range.mp hi
  rw[List.getD_eq_getElem?_getD,List.getElem?_eq_getElem hi]
  exact h _ (List.getElem_mem hi)
theorem Gd9(hc:X.calm=true):Wo X (.builtin "all") (fun xs H Q=>∃ (p:Addr) (bs:List Bool),xs=[.ref p]/\SqL X.K H p (bs.map V.bl)/\Q (.bl (bs.all id)) H):=by
 intro pins s σ H xs us Q I r ⟨p,bs,e,sq,q⟩
 subst e
 obtain⟨u,rfl,ru⟩:=r.one
 cases (show u=Value.ref p from ru)
 obtain⟨its,rv,pl,hz⟩:=I.list sq
 have ei:=Ge9 rv
 subst ei
 have hl:=pl.isList
 refine call_all_walk (wpAny_pyIter_list hl ?_)
 have hne:p≠s.heap.objs.size:=by
  obtain⟨o,n,ho,_⟩:=pl
  exact Nat.ne_of_lt (Heap.lt_size ho)
 refine⟨s.heap.objs.size,[s.heap.objs.size,p],[s.heap.objs.size],_,_,_,fun i=>bs.getD i true,rfl,Walks.list (by exact I.ok.hd hc) s.heap.objs.size p hne (bs.map Value.bool).toArray,⟨⟨_,Heap.get?_push_size _ rfl,rfl,rfl⟩,hl.push _⟩,fun i v s' Q' E' hP hQ'=>?_,fun h' tk hk=>?_⟩
 ·have hP:(bs.map Value.bool)[i]?=some v:=by simpa using hP
  rw[List.getElem?_map] at hP
  cases z:bs[i]? with
  | none=>rw[z] at hP; cases hP
  | some b=>
   rw[z] at hP
   cases (Option.some.inj hP)
   refine wpAny_truthy_bool ?_
   have e:bs.getD i true=b:=by rw[List.getD_eq_getElem?_getD,z]; rfl
   have hQ2:Q' (bs.getD i true) s':=hQ'
   rw[e] at hQ2
   exact hQ2
 ·have hs:((List.range (bs.map Value.bool).toArray.size).all fun i=>bs.getD i true)=bs.all id:=by simpa using Gig bs
  rw[hs]
  refine⟨.bl _,H,I.kept (h':=h') (t':=tk) fun b o e=>hk b o (fun z=>absurd (Heap.lt_size e) (by rw[show b=s.heap.objs.size from List.mem_singleton.mp z]; exact Nat.lt_irrefl _)) (Heap.get?_push_of_some _ e),rfl,q⟩
theorem Gsx{K:PySem.W.Frag}:BlD K (fun xs H Q=>∃ (p:Addr) (bs:List Bool),xs=[.ref p]/\SqL K H p (bs.map V.bl)/\Q (.bl (bs.all id)) H) Gar:=by
 intro XQ σ ρ mp H S xs vs Q rs r p
 unfold Gar at p
 split at p
 ·obtain⟨v,rfl,h⟩:=RepL.one r
  split at p
  ·rename_i c zc
   split at p
   ·rename_i bs zb
    obtain⟨a,xs,rfl,_,sq,q,_⟩:=rs.items h zc
    rw[Ghc q zb] at sq
    exact⟨a,bs,rfl,sq,Gm.ok (R:=Rep K) p rs rfl⟩
   ·exact p.elim
  ·exact p.elim
 ·exact p.elim
theorem Gsy{p pos:Pos}{e:Expr}{f:Ev (List D)}(hc:X.calm=true)(hg:Gl X "all")(hm:X.mg "all"=none)(ha:JA X XQ [e] f)(he:starEach [e] X.env=(false,eval e X.env)::starEach [] X.env:=by rfl):JE X XQ (.Call (.Name "all" p) [e] [] pos) (b1 Gar f):=Gd8 (Gd9 hc) Gsx hg hm (by rfl) ha (he:=he)
def spar(i j:Nat)(f:Ev (List D)):Sv:=fun ρ S=>bindS (f ρ S) ρ fun ds S1=>match ds with
 | [d,e]=>.nx ((ρ.set i (some d)).set j (some e)) S1
 | _=>.bad
theorem Gsz(i j:Nat){x y:Str}{a b:Expr}{f:Ev (List D)}{px py pt pos:Pos}{kt k2 pt2}(hc:X.calm=true)(hN:X.N.Nodup)(hi:X.N[i]?=some x)(hj:X.N[j]?=some y)(hij:i≠j)
  (hx:X.env.scope.names.lookup x=some .local) (hy:X.env.scope.names.lookup y=some .local) (ha:JA X XQ [a,b] f)
  (hw:swappedStores [.Tuple [.Name x px,.Name y py] kt pt] (.Tuple [a,b] k2 pt2) X.env=pure (some [x,y]))
  (hs:swapsWithSole [.Tuple [.Name x px,.Name y py] kt pt] (.Tuple [a,b] k2 pt2) pos.line X.env=pure false:=by rfl):
  JS X XQ (.Assign [.Tuple [.Name x px,.Name y py] kt pt] (.Tuple [a,b] k2 pt2) pos) (spar i j f):=by
 refine PS.mono (Gqx hc hN hi hj hij hx hy ha hw hs) fun E σ H ⟨mp,ρ,S,G,p⟩=>?_
 refine bindSP G p fun mp1 H1 ds S1 vs a1 G1 r1 p1=>?_
 split at p1
 ·obtain⟨v,w,rfl,h1,h2⟩:=RepL.two r1
  exact⟨v,w,rfl,PostS.nx p1 ((G1.set i h1).set j h2)⟩
 ·exact p1.elim
end
section
variable{X:Cx}{XQ:XW}
def Gfa(x:D)(xs:List D)(S:Sto):Out D:=match x,xs with
 | .lst k,[.int i]=>match S[k]? with
  | some c=>if c.fz=false/\0<=i/\i<=1000000 then(match c.xs[i.toNat]? with
   | some d=>.ok d (S.set k ⟨false,c.xs.eraseIdx i.toNat⟩)
   | none=>.bad) else .bad
  | none=>.bad
 | _,_=>.bad
theorem RepL.erase{K:PySem.W.Frag}{mp:List Addr}{H:Hp}:∀ {l:List D} {vs:List V} (n:Nat),RepL K mp H l vs->RepL K mp H (l.eraseIdx n) (vs.eraseIdx n)
 | [],vs,n,h=>by cases (show vs=[] from h); exact RepL.nil
 | d::l,vs,0,h=>by
  obtain⟨v,r,q,h1,h2⟩:=h
  subst q
  exact h2
 | d::l,vs,n+1,h=>by
  obtain⟨v,r,q,h1,h2⟩:=h
  subst q
  exact RepL.cons h1 (RepL.erase n h2)
theorem Gs0{K:PySem.W.Frag}:MeD K Gjk Gfa:=by
 intro XQ σ ρ mp H S x xs v vs Q rs rx r p
 unfold Gfa at p
 split at p
 ·rename_i k i
  split at p
  ·rename_i c zc
   by_cases hc:c.fz=false/\0<=i/\i<=1000000
   ·rw[if_pos hc] at p
    split at p
    ·rename_i d zd
     obtain⟨w,rfl,hw⟩:=RepL.one r
     cases (show w=.int i from hw)
     obtain⟨a,ys,rfl,ha,sq,q,f⟩:=rs.items rx zc
     have hH:=f hc.1
     obtain⟨y,hy,ry⟩:=q.get zd
     obtain⟨af,rs'⟩:=rs.setL ha zc hc.1 hH (q.erase i.toNat)
     have hl:i.toNat<ys.length:=(List.getElem?_eq_some_iff.mp hy).1
     exact⟨a,ys,i,i.toNat,y,rfl,rfl,hH,by omega,by omega,seqIndex_of hc.2.1 (by omega),hy,p mp _ _ af rs' (Rep.aft af _ _ ry)⟩
    ·exact p.elim
   ·rw[if_neg hc] at p; exact p.elim
  ·exact p.elim
 ·exact p.elim
theorem Gs1{o e:Expr}{apos cpos:Pos}{fo:Ev D}{f:Ev (List D)}(ho:JE X XQ o fo)(ha:JA X XQ [e] f)(hbase:attributeBase o "pop" X.env (eval o X.env)=eval o X.env:=by rfl)
  (hfew:((backTo cpos (starEach [e] X.env)).all (fun x=>!x.1)&&(backToKw cpos (keywordEach [] X.env)).all (fun x=>x.1.isSome)
   && decide ([e].length+([]:List Keyword).length+(if([]:List Keyword).isEmpty then 0 else 1)<30))=true:=by rfl)
  (hline:(apos.endLine==cpos.line)=true:=by rfl) (hs:starEach [e] X.env=(false,eval e X.env)::starEach [] X.env:=by rfl):
  JE X XQ (.Call (.Attribute o "pop" apos) [e] [] cpos) (mt Gfa fo f):=Ghb PySem.F.slot_list_pop PySem.F.type_list_pop Gjl Gs0 ho ha hbase hfew hline hs rfl
end
end DL
namespace DL
open PySem
variable{es:List Expr}{env:PySem.Env}
theorem Gg{c j p}:starEach (.Constant c j p::es) env=(false,eval (.Constant c j p) env)::starEach es env:=rfl
theorem Gb{x p}:starEach (.Name x p::es) env=(false,eval (.Name x p) env)::starEach es env:=rfl
theorem Gv{a b p}:starEach (.Tuple a b p::es) env=(false,eval (.Tuple a b p) env)::starEach es env:=rfl
theorem Hx{f a k p}:starEach (.Call f a k p::es) env=(false,eval (.Call f a k p) env)::starEach es env:=rfl
theorem Gk{a b p}:starEach (.Subscript a b p::es) env=(false,eval (.Subscript a b p) env)::starEach es env:=rfl
theorem Hi{a o b p}:starEach (.BinOp a o b p::es) env=(false,eval (.BinOp a o b p) env)::starEach es env:=rfl
theorem Gbo{o a p}:starEach (.UnaryOp o a p::es) env=(false,eval (.UnaryOp o a p) env)::starEach es env:=rfl
theorem Gj9{a b c p}:starEach (.IfExp a b c p::es) env=(false,eval (.IfExp a b c p) env)::starEach es env:=rfl
theorem Hz{a b c p}:starEach (.ListComp a b c p::es) env=(false,eval (.ListComp a b c p) env)::starEach es env:=rfl
end DL
namespace DL
open PySem PySem.Spec PyProof.Rows L2
variable{h:Heap}{st:Stmt}{od dx:Option Addr}{osl:Array (Option Value)}{doc pm cdv ct v:Value}{fn:Fn}{j k n:Nat}{pos pos' py spos p2 np cpos apos hpos:Pos}{es ifs:List Expr}{t:Ev (List D)}{N N':List Str}{P:Program}{s2:Shared}{H2 H H1:Hp}{C T:Addr}{scope:Scope}{c:List (Str×Addr)}{fp mp:List Addr}{elt tg iter a b:Expr}{y qual:Str}{fa fb fo:Ev D}{K:PySem.W.Frag}{S:Sto}{w:World}{A:Around}{X:Cx}{pins:List (Addr×Obj)}{σ:L2.St}{vs xs:Array Value}{mg:Str->Option Value}{bm:List Value}{oI:Obj}{φ:Heap->Prop}{XQ:XW}{sp:Sp}{body:List Stmt}{fc:Ev Bool}
structure Cal(P:Program)(w:World)(K:PySem.W.Frag)(mg:Str->Option Value)(base:Heap)(x:Str)(ps:List Str)(fn:Fn)(j:Nat):Prop where
 ex:∃ f fd,FnOk P w K mg base CX0 j f fd ps (spD K ps.length fn)/\mg x=some (.ref f)/\PySem.W.keepIn K (.ref f)=true/\Binds K fd ps []
structure Dn(K:PySem.W.Frag)(mg:Str->Option Value)(x:Str)(st:Stmt)(ps:List Str):Prop where
 ex:∃ f fd,Fun K x x st f fd/\mg x=some (.ref f)/\Binds K fd ps []
section
variable{P:Program}{w:World}{K:PySem.W.Frag}{mg:Str->Option Value}{base:Heap}
theorem Gwd{x:Str}{ps:List Str}{f:Addr}{oc:Value}{an:Option Addr}{kV:Value}(X:K.In h)(G:h.Ns mainGlobals mg)(a:PySem.W.nsIn K mainGlobals x=some (some (.ref f)))(l:K.lookup f=some ⟨oc,od,.func (PySem.W.fnOf x x (Hu st) (Ha st) (Gf st) .none kV doc pm an cdv ct),osl⟩)(c:PySem.W.codeIn K cdv x=true)(k:PySem.W.keepIn K (.ref f)=true)(hb:∀ (kV doc pm:Value) (an:Option Addr) (cdv ct:Value) (us:List Value),us.length=ps.length->bindArgs (PySem.W.fnOf x x (Hu st) (Ha st) (Gf st) .none kV doc pm an cdv ct) ⟨us,[]⟩=pure (ps.zip us)):Dn K mg x st ps:=
 ⟨f,_,Gd2 l c k,PySem.W.mg_of X G a,(Gd2 (st:=st) l c k).binds hb⟩
theorem Gs2{x:Str}{ps:List Str}(N:List Str)(k:Nat)(b:Sv)(hfn:fn=fnB N.length b)(d:Dn K mg x st ps)(Sc:FnScope N ps (Gf st))(hb:∀ (f:Addr) (cdv:Value) (A:Around) (outer:List PySem.Env) (s:Shared) (H:Hp) (E:XK),Room k (A.deeper (envOfC x (Gf st) s.heap.objs.size f cdv))→
   JSs (Kq CX0 P w K mg base N x (Gf st) f cdv A outer s H E).nox XN (Ha st) b):Cal P w K mg base x ps fn (k+1):=by
 subst hfn
 obtain⟨f,fd,F,hm,hbi⟩:=d.ex
 exact⟨f,fd,Gpk F Sc (hb f),hm,F.kp,hbi⟩
end
section
variable{X:Cx}{XQ:XW}
theorem Gs3{x:Str}{ps:List Str}{p:Pos}{e:Expr}(C:Cal X.prog X.w X.K X.mg X.base x ps fn j)(hr:Room k X.A)(ha:JA X XQ (e::es) t)(hn:ps.length=n)(hj:j<=k:=by decide)(hg:Gl X x:=by rfl)(hdb:(x==("__debug__":Str))=false:=by decide)(he:starEach (e::es) X.env=(false,eval e X.env)::starEach es X.env:=by rfl)(hpl:(backTo pos (starEach es X.env)).any (·.1)=false:=by rfl):
  JE X XQ (.Call (.Name x p) (e::es) [] pos) (cl n (Go fn) t):=by
 subst hn
 obtain⟨f,fd,F,hm,hk,hb⟩:=C.ex
 exact Gm4 F hr hj hg hm hk hb ha hdb he hpl
theorem Gbp{x:Str}{v:V}{u:Value}{d:D}(hm:X.mg x=some u)(r:He v u)(rep:∀ mp H,Rep X.K mp H d v)(hg:Gl X x)(hd:(x==("__debug__":Str))=false):JE X XQ (.Name x pos) (cn d):=Wq (Gmb hg hm r hd) rep
def Hk(x:Str):Bool:=!(x==("__debug__":Str))&&!(x==("__classdict__":Str))
def okV(sc:Scope)(x:Str):Bool:=(match sc.names.lookup x with
 | some .local=>true
 | some .cell=>true
 | some .free=>true
 | _=>false)&&Hk x
def okL(sc:Scope)(x:Str):Bool:=match sc.names.lookup x with
 | some .local=>true
 | some .cell=>true
 | _=>false
def okG(sc:Scope)(x:Str):Bool:=(match sc.names.lookup x with
 | some .globalImplicit=>true
 | _=>false)&&Hk x
theorem Hk.of{x:Str}(h:Hk x=true):(x==("__debug__":Str))=false/\(x==("__classdict__":Str))=false:=by
 unfold Hk at h
 rw[Bool.and_eq_true] at h
 exact⟨by simpa using h.1,by simpa using h.2⟩
theorem okV.vis{sc:Scope}{x:Str}(h:okV sc x=true):Vis sc x/\Hk x=true:=by
 unfold okV at h
 rw[Bool.and_eq_true] at h
 refine⟨?_,h.2⟩
 have h:=h.1
 split at h
 ·rename_i e; exact .inl e
 ·rename_i e; exact .inr (.inl e)
 ·rename_i e; exact .inr (.inr e)
 ·cases h
theorem okL.loc{sc:Scope}{x:Str}(h:okL sc x=true):Loc sc x:=by
 unfold okL at h
 split at h
 ·rename_i e; exact .inl e
 ·rename_i e; exact .inr e
 ·cases h
theorem okG.gl{sc:Scope}{x:Str}(h:okG sc x=true):sc.names.lookup x=some .globalImplicit/\Hk x=true:=by
 unfold okG at h
 rw[Bool.and_eq_true] at h
 refine⟨?_,h.2⟩
 have h:=h.1
 split at h
 ·rename_i e; exact e
 ·cases h
structure OkV(sc:Scope)(x:Str):Prop where
 h:okV sc x=true
structure OkL(sc:Scope)(x:Str):Prop where
 h:okL sc x=true
structure OkC(sc:Scope)(x:Str):Prop where
 h:sc.names.lookup x=some .local
structure OkG(sc:Scope)(x:Str):Prop where
 h:okG sc x=true
theorem kdV{s:Scope}{x:Str}(h:okV s x=true:=by decide +kernel):OkV s x:=⟨h⟩
theorem kdL{s:Scope}{x:Str}(h:okL s x=true:=by decide +kernel):OkL s x:=⟨h⟩
theorem kdG{s:Scope}{x:Str}(h:okG s x=true:=by decide +kernel):OkG s x:=⟨h⟩
theorem kdS{P:List Str}{s:Scope}(a:s.kind=.function:=by rfl)(b:s.isCoroutine=false:=by rfl)(c:s.isGenerator=false:=by rfl)(d:N.Nodup:=by decide +kernel)(e:N.take P.length=P:=by rfl)(f:∀ x∈P,s.names.lookup x=some .local\/s.names.lookup x=some .cell:=by decide +kernel)(g:∀ y∈s.names,y.2≠.free:=by decide +kernel):FnScope N P s:=⟨a,b,c,d,e,f,g⟩
theorem jv(i:Nat){x:Str}(h:OkV X.env.scope x)(hN:X.N[i]?=some x:=by rfl):JE X XQ (.Name x pos) (vr i):=Gjo i hN (okV.vis h.h).1 (Hk.of (okV.vis h.h).2).1 (Hk.of (okV.vis h.h).2).2
theorem gl{x:Str}(h:OkG X.env.scope x):Gl X x:=(okG.gl h.h).1
theorem jgn(i:Nat){x:Str}(hN:X.N.Nodup)(h:OkL X.env.scope x)(hi:X.N[i]?=some x:=by rfl)(hf:X.fn x=true:=by rfl):JG X (.Name x pos) (gn i):=Gd3 i hN hi (okL.loc h.h) (.inl hf)
theorem jset(i:Nat){x:Str}{e:Expr}{f:Ev D}(hN:X.N.Nodup)(h:OkL X.env.scope x)(he:JE X XQ e f)(hi:X.N[i]?=some x:=by rfl)(hs:swapsWith e (some (.Name x pos')) pos.line X.env=pure false:=by rfl)(hf:X.fn x=true:=by rfl):
  JS X XQ (.Assign [.Name x pos'] e pos) (sa f (gn i)):=Gr3 i hN he hi (okL.loc h.h) hs (.inl hf)
theorem jown{x:Str}{ps:List Str}{p:Pos}{e:Expr}(C:Cal X.prog X.w X.K X.mg X.base x ps fn j)(hr:Room k X.A)(hg:Gl X x)(hp:Hk x=true)(ha:JA X XQ (e::es) t)(hn:ps.length=n:=by rfl)(hj:j<=k:=by decide)(he:starEach (e::es) X.env=(false,eval e X.env)::starEach es X.env:=by rfl)(hpl:(backTo pos (starEach es X.env)).any (·.1)=false:=by rfl):
  JE X XQ (.Call (.Name x p) (e::es) [] pos) (cl n (Go fn) t):=Gs3 C hr ha hn hj hg (Hk.of hp).1 he hpl
def Gka(sc:Scope)(x:Str):Bool:=(match sc.names.lookup x with
 | some .local=>true
 | some .cell=>true
 | some .free=>true
 | _=>false)&&Hk x
theorem Ja{scope:Scope}{env:PySem.Env}{x:Str}{k:NameKind}(hk:k≠.free):∀ (names:List (Str×NameKind)),names.lookup x=some k->(names.map fun(n,k)=>if(k==NameKind.free&&env.scope.kind==.function&&env.kindOf n==some .cell)=true then(n,NameKind.cell) else(n,k)).lookup x=some k
 | [],h=>by simp at h
 | (n,k')::r,h=>by
  rw[List.map_cons]
  by_cases hx:(x==n)=true
  ·rw[List.lookup_cons,hx] at h
   have:k'=k:=by simpa using h
   subst this
   have hb:(k'==NameKind.free)=false:=by simpa using hk
   simp only[hb,Bool.false_and,Bool.false_eq_true,if_false,List.lookup_cons,hx]
  ·have hx:(x==n)=false:=by simpa using hx
   rw[List.lookup_cons,hx] at h
   have:=Ja (scope:=scope) (env:=env) hk r h
   by_cases hq:(k'==NameKind.free&&env.scope.kind==.function&&env.kindOf n==some .cell)=true
   ·simpa only[hq,if_true,List.lookup_cons,hx] using this
   ·simpa only[hq,Bool.false_eq_true,if_false,List.lookup_cons,hx] using this
theorem Gea{x:Str}(h:Gka scope x=true):Vis (blk X s2 H2 C scope c N' fp).env.scope x/\Hk x=true:=by
 unfold Gka at h
 rw[Bool.and_eq_true] at h
 refine⟨?_,h.2⟩
 have h:=h.1
 split at h
 ·rename_i e; exact .inl (lookup_relabel_local e)
 ·rename_i e; exact .inr (.inl (Ja (scope:=scope) (env:=X.env) (by decide) scope.names e))
 ·rename_i e; exact .inr (Jx (scope:=scope) (env:=X.env) scope.names e)
 ·cases h
theorem jvB(i:Nat){x:Str}(h:Gka scope x=true)(hN:N'[i]?=some x:=by rfl):JE (blk X s2 H2 C scope c N' fp) XQ (.Name x pos) (vr i):=
 Gjo i hN (Gea h).1 (Hk.of (Gea (X:=X) (s2:=s2) (H2:=H2) (C:=C) (c:=c) (N':=N') (fp:=fp) h).2).1 (Hk.of (Gea (X:=X) (s2:=s2) (H2:=H2) (C:=C) (c:=c) (N':=N') (fp:=fp) h).2).2
theorem glB{x:Str}(h:okG scope x=true):Gl (blk X s2 H2 C scope c N' fp) x:=
 Ja (scope:=scope) (env:=X.env) (by decide) scope.names (okG.gl h).1
def Gnm(sc:Scope)(x:Str):Bool:=match sc.names.lookup x with
 | some .local=>true
 | some .cell=>true
 | _=>false
theorem Gyp(i:Nat){x:Str}(hN:N'.Nodup)(h:Gnm scope x=true)(hi:N'[i]?=some x:=by rfl):JG (blk X s2 H2 C scope c N' fp) (.Name x pos) (gn i):=by
 unfold Gnm at h
 split at h
 ·rename_i e
  exact Gd3 i hN hi (.inl (lookup_relabel_local e)) (.inr (lookup_relabel_local e))
 ·rename_i e
  exact Gd3 i hN hi (.inr (Ja (scope:=scope) (env:=X.env) (by decide) scope.names e)) (.inl (by show(scope.names.lookup x==some NameKind.cell)=true; rw[e]; rfl))
 ·cases h
theorem jcomp{sc:Scope}{pk:List (Option Nat)}{f:Ev Src}{g:Tg}{t:Ev Bool}{e:Ev D}(hsc:X.env.scope=sc)(hNN:X.N=N)(ct:CompTab sc scope N N' pk)(hcm:X.calm=true)(hi:JI X XQ tg iter f)(hg:∀ cl s2 H2 C fp,JG (blk X s2 H2 C scope cl N' fp) tg g)(ht:∀ cl s2 H2 C fp,JTs (blk X s2 H2 C scope cl N' fp) XN ifs t)(he:∀ cl s2 H2 C fp,JE (blk X s2 H2 C scope cl N' fp) XN elt e)(hs:∀ x,foldedSetIterable iter X.env x=pure x:=by intro _; rfl):JE X XQ (.ListComp elt [⟨tg,iter,ifs,0⟩] scope pos) (cmp f pk g t e):=by
 subst hsc hNN
 exact Gm8 ct hcm hi hg ht he hs
theorem Gkb(i:Nat){sc:Scope}{pk:List (Option Nat)}{f:Ev Src}{g:Tg}{t:Ev Bool}{e:Ev D}(hsc:X.env.scope=sc)(hNN:X.N=N)(ct:CompTab sc scope N N' pk)(hcm:X.calm=true)(hi:JI X XQ tg iter f)(hg:∀ cl s2 H2 C fp,JG (blk X s2 H2 C scope cl N' fp) tg g)(ht:∀ cl s2 H2 C fp,JTs (blk X s2 H2 C scope cl N' fp) XN ifs t)(he:∀ cl s2 H2 C fp,JE (blk X s2 H2 C scope cl N' fp) XN elt e)(hN:X.N.Nodup)(hl:OkL X.env.scope y)(hsw:swapsWith (.ListComp elt [⟨tg,iter,ifs,0⟩] scope pos) (some (.Name y py)) spos.line X.env=pure true)(hy:X.N[i]?=some y:=by rfl)(hs:∀ x,foldedSetIterable iter X.env x=pure x:=by intro _; rfl)(hf:X.fn y=true:=by rfl):
  JS X XQ (.Assign [.Name y py] (.ListComp elt [⟨tg,iter,ifs,0⟩] scope pos) spos) (sa (cmp f pk g t e) (gn i)):=by
 subst hsc hNN
 exact Ggi i ct hcm hi hg ht he hN hy (okL.loc hl.h) hsw hs (.inl hf)
end
section
variable{X:Cx}{XQ:XW}
theorem Gs4{j:Int}(h1:0<j)(h2:j<2^200):j.natAbs.log2<9000:=by
 have h3:j.natAbs<2^200:=by omega
 exact Nat.lt_of_lt_of_le ((Nat.log2_lt (by omega)).mpr h3) (by decide)
theorem Gkc:OpR X (binaryOp .FloorDiv) (rI (fun _ j=>0<j/\j<2^200) fun i j=>.int (i / j)):=opI fun i j _ _ _ _ _ hc q=>by
 have h1:(0:Int)<j:=hc.1
 have h2:j<2^200:=hc.2
 exact floordiv_int (by omega) (by rw[Int.fdiv_eq_ediv_of_nonneg i (by omega)]; exact q) (.inl (PyProof.noPylong_of_log2 (Gs4 h1 h2)))
abbrev Wf:=i2 (fun _ j=>decide (0<j/\j<2^200)) fun i j=>.int (i / j)
theorem Gnn(ha:JE X XQ a fa)(hb:JE X XQ b fb):JE X XQ (.BinOp a .FloorDiv b pos) (o2 Wf fa fb):=Gdi Gkc (Gd7 (fun _ j h=>(of_decide_eq_true h:0<j/\j<2^200)) fun _ _ _ _=>rfl) ha hb
def dmD(xs:List D)(S:Sto):Out D:=match xs with
 | [.int i,.int j]=>if 0<j/\j<2^200 then .ok (.tup [.int (i / j),.int (i%j)]) S else .bad
 | _=>.bad
def Qc:List D->Option (List Int)
 | []=>some []
 | .int i::r=>(Qc r).map (i::·)
 | _::_=>none
theorem RepL.ints:∀ {l:List D} {vs:List V} {ns:List Int},RepL K mp H l vs->Qc l=some ns->vs=ns.map V.int
 | [],vs,ns,h,e=>by
  cases (show vs=[] from h)
  cases (Option.some.inj (show some []=some ns from e))
  rfl
 | d::l,vs,ns,h,e=>by
  obtain⟨v,r,rfl,h1,h2⟩:=h
  cases d with
  | int i=>
   have e:(Qc l).map (i::·)=some ns:=e
   cases z:Qc l with
   | none=>rw[z] at e; cases e
   | some ms=>
    rw[z] at e
    cases (Option.some.inj e)
    cases (show v=.int i from h1)
    rw[RepL.ints h2 z]
    rfl
  | _=>cases (show(none:Option (List Int))=some ns from e)
theorem Gfb{ns:List Int}(its:List Value)(r':Vals (ns.map V.int) its):∃ xs:Array (Int×Tok),its.toArray=intItems xs/\preSum (numAt xs) xs.size=ns.sum/\ns=xs.toList.map (·.1):=by
 have hi:=Ggc r'
 obtain⟨xs,hx⟩:=hi.allInts.items
 have hn:numsOf its.toArray.toList=ns:=by rw[show its.toArray.toList=its from rfl,hi.numsOf]
 rw[hx,nums_intItems] at hn
 refine⟨xs,hx,?_,hn.symm⟩
 rw[preSum_eq,List.take_of_length_le (by simp),hn]
theorem Gkd(hc:X.calm=true):Wo X (.builtin "sum") (fun xs H Q=>∃ (p:Addr) (ns:List Int),xs=[.ref p]/\(SqL X.K H p (ns.map V.int)\/SqT X.K H p (ns.map V.int))/\Q (.int ns.sum) H):=by
 intro pins s σ H xs us Q I r h
 obtain⟨p,ns,rfl,hq,q⟩:=h
 obtain⟨u,rfl,rx⟩:=Ge3 r
 cases rx
 rcases hq with hq | hq
 ·obtain⟨its,r',pl,hz⟩:=I.list hq
  obtain⟨xs,hx,e,_⟩:=Gfb its r'
  have hl:=pl.isList
  rw[hx] at hl
  exact sum_intListG (I.ok.hd hc) hl fun h' tk t' hk=>⟨.int ns.sum,H,I.kept hk,⟨t',by rw[e]⟩,q⟩
 ·obtain⟨its,r',pl,hz⟩:=I.tuple hq
  obtain⟨xs,hx,e,_⟩:=Gfb its r'
  have hl:s.heap.IsTuple p its.toArray:=pl
  rw[hx] at hl
  exact PySem.W.ktm_sumG (I.ok.hd hc) hl fun h' tk t' hk=>⟨.int ns.sum,H,I.kept hk,⟨t',by rw[e]⟩,q⟩
def Gpx(x:D)(S:Sto):Option (List D):=match x with
 | .tup l=>some l
 | .lst i=>(S[i]?).map (·.xs)
 | _=>none
theorem Gs5{x:D}{v:V}{l:List D}(rs:RS K mp H S)(h:Rep K mp H x v)(e:Gpx x S=some l):∃ a xs,v=.ref a/\(SqL K H a xs\/SqT K H a xs)/\RepL K mp H l xs:=by
 cases x with
 | tup ds=>
  cases (Option.some.inj (show some ds=some l from e))
  obtain⟨a,xs,rfl,s,q⟩:=Rep.tup h
  exact⟨a,xs,rfl,.inr s,q⟩
 | lst i=>
  have e:(S[i]?).map (·.xs)=some l:=e
  cases z:S[i]? with
  | none=>rw[z] at e; cases e
  | some c=>
   rw[z] at e
   cases (Option.some.inj e)
   obtain⟨a,xs,rfl,_,s,q,_⟩:=rs.items h z
   exact⟨a,xs,rfl,.inl s,q⟩
 | _=>cases (show(none:Option (List D))=some l from e)
def Gas(xs:List D)(S:Sto):Out D:=match xs with
 | [x]=>match (Gpx x S).bind Qc with
  | some ns=>.ok (.int ns.sum) S
  | none=>.bad
 | _=>.bad
theorem Gs6:BlD K (fun xs H Q=>∃ (p:Addr) (ns:List Int),xs=[.ref p]/\(SqL K H p (ns.map V.int)\/SqT K H p (ns.map V.int))/\Q (.int ns.sum) H) Gas:=by
 intro XQ σ ρ mp H S xs vs Q rs r p
 unfold Gas at p
 split at p
 ·rename_i x
  obtain⟨v,rfl,h⟩:=RepL.one r
  split at p
  ·rename_i ns z
   obtain⟨l,e1,e2⟩:=Option.bind_eq_some_iff.mp z
   obtain⟨a,ys,rfl,sq,q⟩:=Gs5 rs h e1
   cases q.ints e2
   exact⟨a,ns,rfl,sq,Gm.ok (R:=Rep K) p rs rfl⟩
  ·exact p.elim
 ·exact p.elim
theorem Gs7{p:Pos}{e:Expr}{f:Ev (List D)}(hc:X.calm=true)(hg:Gl X "sum")(hm:X.mg "sum"=none)(ha:JA X XQ [e] f)(he:starEach [e] X.env=(false,eval e X.env)::starEach [] X.env:=by rfl):JE X XQ (.Call (.Name "sum" p) [e] [] pos) (b1 Gas f):=Gd8 (Gkd hc) Gs6 hg hm (by rfl) ha (he:=he)
def Gih(xs:List D)(S:Sto):Out D:=match xs with
 | [.int i,.int j]=>.ok (.int (if j>i then j else i)) S
 | _=>.bad
theorem Gs8:BlD K (fun xs H Q=>∃ i j,xs=[.int i,.int j]/\Q (.int (if j>i then j else i)) H) Gih:=by
 intro XQ σ ρ mp H S xs vs Q rs r p
 unfold Gih at p
 split at p
 ·rename_i i j
  obtain⟨v,w,rfl,h1,h2⟩:=RepL.two r
  cases (show v=.int i from h1); cases (show w=.int j from h2)
  exact⟨i,j,rfl,Gm.ok (R:=Rep K) p rs rfl⟩
 ·exact p.elim
theorem Gs9{p:Pos}{e e':Expr}{f:Ev (List D)}(hc:X.calm=true)(hg:Gl X "max")(hm:X.mg "max"=none)(ha:JA X XQ [e,e'] f)(he:starEach [e,e'] X.env=(false,eval e X.env)::starEach [e'] X.env:=by rfl)(hpl:(backTo pos (starEach [e'] X.env)).any (·.1)=false:=by rfl):JE X XQ (.Call (.Name "max" p) [e,e'] [] pos) (b1 Gih f):=Gd8 (Gh7 hc) Gs8 hg hm (by rfl) ha (he:=he) (hpl:=hpl)
def sag(i:Nat)(g:Int->Int->Int)(f:Ev D):Sv:=fun ρ S=>match ρ[i]? with
 | some (some (.int a))=>bindS (f ρ S) ρ fun d S1=>match d with
  | .int b=>.nx (ρ.set i (some (.int (g a b)))) S1
  | _=>.bad
 | _=>.bad
theorem Gyq{i:Nat}{g:Int->Int->Int}{f:Ev D}(E:Ends)(σ:L2.St)(H:Hp)(h:rdS K XQ (sag i g f) E σ H):Gvd i (rdE K XQ f) (ipI g) E σ H:=by
 obtain⟨mp,ρ,S,G,p⟩:=h
 unfold sag at p
 split at p
 ·rename_i a z
  obtain⟨v,e1,r⟩:=G.loc i _ z
  cases (show v=.int a from r)
  refine⟨_,e1,bindSP G p fun mp1 H1 d S1 v a1 G1 r1 p1=>?_⟩
  cases d with
  | int b=>
   cases (show v=.int b from r1)
   exact⟨a,b,rfl,rfl,PostS.nx p1 (G1.set i rfl)⟩
  | _=>exact(show False from p1).elim
 ·exact p.elim
theorem Gta(i:Nat){x:Str}{e:Expr}{f:Ev D}(hN:X.N.Nodup)(h:OkL X.env.scope x)(he:JE X XQ e f)(hi:X.N[i]?=some x:=by rfl)(hf:X.fn x=true:=by rfl):JS X XQ (.AugAssign (.Name x pos') .Add e pos) (sag i (fun a b=>a+b) f):=
 PS.mono (Gqy hN hi (okL.loc h.h) he Gqz (.inl hf)) Gyq
end
theorem Ys{prog:Program}{E:Value->Shared->Prop}{s:Shared}{t sl:Addr}{items:Array Value}{vl vu:Value}{lo hi:Option Int}{Q:Value->Shared->Prop}(ht:IsTup s.heap t items)(hs:s.heap.IsSliceOf sl vl vu .none)(pl:IsPart vl lo)(pu:IsPart vu hi)(hw:HT.sIx items.size 0 lo=0/\HT.sIx items.size items.size hi=items.size)(h:Q (.ref t) s):wpAny (model prog w) A (getItem (.ref t) (.ref sl)) Q E s:=by
 obtain⟨os,hos,hcs,hds⟩:=id hs
 have hTs:s.TypeIs (.ref sl) "slice":=⟨os,hos,hcs⟩
 unfold getItem
 try with_reducible refine wpAny_holding ?_
 first | refine wpAny_bind (wpAny_pure ?_) | skip
 refine wpAny_bind (wpAny_sequenceKey ht.typeIs (by decide) ?_)
 refine wpAny_bind (wpAny_callSpecial?_slot (name:=Str.ofString "__getitem__") ht.typeIs PyProof.Rows.slot_tuple_getitem
  (wpAny_call_entry PyProof.Rows.slot_tuple_getitem ht.typeIs entry_tuple_getitem ?_ (args_tuple_getitem _ _)))
 show wpAny _ _ (Builtin.Tuple.tupleItemsOf (.ref t) >>= _) _ _ s
 refine wpAny_bind (tupleItemsOf_ ht ?_)
 refine wpAny_bind (wpAny_typeOf hTs ?_)
 rw[if_pos (by decide)]
 refine wpAny_bind (HT.Vf hs pl pu ?_)
 show wpAny _ _ (if(((HT.sIx items.size 0 lo:Nat):Int)==0&&(1:Int)==1&&(HT.sIx items.size items.size hi-HT.sIx items.size 0 lo)==items.size)=true then _ else _) _ _ s
 rw[if_pos (by rw[hw.1,hw.2]; simp)]
 unfold Builtin.Tuple.tupleIsExact
 refine wpAny_bind (wpAny_bind (wpAny_typeOf ht.typeIs (wpAny_pure ?_)))
 rw[if_pos (by decide)]
 exact wpAny_bind (wpAny_rule (wpAny_pure ⟨_,rfl,wpAny_pure h⟩))
section
variable{X:Cx}{XQ:XW}
def Gyr(K:PySem.W.Frag):V->Option Int->Option Int->Hp->VK->Prop:=fun x lo hi H Q=>∃ a xs,x=.ref a/\SqT K H a xs/\(HT.sIx xs.length 0 lo=0/\HT.sIx xs.length xs.length hi=xs.length)/\Q (.ref a) H
theorem Gtb:SlR X (Gyr X.K):=by
 intro pins s σ H x v vl vu lo hi sl Q I rx hs pl pu h
 obtain⟨a,xs,rfl,hx,hw,q⟩:=h
 cases rx
 obtain⟨its,r,ht,hz⟩:=I.tuple hx
 have hlen:its.toArray.size=xs.length:=by rw[List.size_toArray]; exact r.length.symm
 refine⟨"tuple",_,PyProof.Rows.slot_tuple_getitem.lookup,ht.typeIs,?_⟩
 exact Ys ht hs pl pu (by rw[hlen]; exact hw) ⟨.ref a,H,I,rfl,q⟩
def Gbq(x:D)(lo hi:Option Int)(S:Sto):Out D:=match x with
 | .tup l=>if HT.sIx l.length 0 lo=0/\HT.sIx l.length l.length hi=l.length then .ok (.tup l) S else .ok (.tup (Um l lo hi)) S
 | .lst i=>match S[i]? with
  | some c=>.ok (.lst S.length) (S++[⟨false,Um c.xs lo hi⟩])
  | none=>.bad
 | _=>.bad
def sl2(fe:Ev D)(fl fh:Ev (Option Int)):Ev D:=fun ρ S=>(fe ρ S).bind fun x S1=>(fl ρ S1).bind fun l S2=>(fh ρ S2).bind fun u S3=>Gbq x l u S3
theorem Gii{e:Expr}{lo hi:Option Expr}{fe:Ev D}{fl fh:Ev (Option Int)}(he:JE X XQ e fe)(hl:JO X XQ lo fl)(hh:JO X XQ hi fh):JE X XQ (.Subscript e (.Slice lo hi none p2) pos) (sl2 fe fl fh):=by
 refine PE.mono (Gjh ((Gmt.or Grf).or Gtb) he hl hh) fun σ H Q ⟨mp,ρ,S,G,p⟩=>?_
 refine bindP G p fun mp1 H1 x S1 v a1 G1 r1 p1=>?_
 refine bindP G1 p1 fun mp2 H2 l S2 l' a2 G2 r2 p2=>?_
 refine bindP G2 p2 fun mp3 H3 u S3 u' a3 G3 r3 p3=>?_
 cases (show l'=l from r2)
 cases (show u'=u from r3)
 have r1:=Rep.aft (a2.trans a3) _ _ r1
 cases x with
 | tup ds=>
  have p3:Post X.K XQ σ ρ mp3 H3 (if HT.sIx ds.length 0 l=0/\HT.sIx ds.length ds.length u=ds.length then .ok (.tup ds) S3 else .ok (.tup (Um ds l u)) S3) Q:=p3
  obtain⟨a,xs,rfl,sq,q⟩:=Rep.tup r1
  by_cases hw:HT.sIx ds.length 0 l=0/\HT.sIx ds.length ds.length u=ds.length
  ·rw[if_pos hw] at p3
   exact .inr ⟨a,xs,rfl,sq,by rw[q.len]; exact hw,Gm.ok (R:=Rep X.K) p3 G3.rs r1⟩
  ·rw[if_neg hw] at p3
   exact .inl (.inr ⟨a,xs,rfl,sq,by rw[q.len]; exact hw,fun t ht=>Wr p3 G3.rs (q.cut l u) ht⟩)
 | lst i=>
  have p3:Post X.K XQ σ ρ mp3 H3 (match S3[i]? with | some c=>.ok (.lst S3.length) (S3++[⟨false,Um c.xs l u⟩]) | none=>.bad) Q:=p3
  cases zc:S3[i]? with
  | none=>rw[zc] at p3; exact p3.elim
  | some c=>
   rw[zc] at p3
   obtain⟨a,xs,rfl,_,sq,q,_⟩:=G3.rs.items r1 zc
   exact .inl (.inl ⟨a,xs,rfl,sq,fun t ht=>Vg p3 G3.rs (q.cut l u) ht⟩)
 | _=>exact(show False from p3).elim
end
theorem turnedL{s:Shared}{g:Heap}{tk:Nat}{ch:List Addr}(I:Inv X pins σ H s)(k:∀ b o,b∉ch->s.heap.get? b=some o->g.get? b=some o)(hf:∀ b∈ch,Gcp X pins H b):Inv X pins σ H { s with heap:=g,toks:=tk }:=by
 have nit:∀ b u,H b=some u->b∉ch:=fun b u e z=>by have:=(hf b z).1; rw[this] at e; cases e
 refine I.step (g':=s.gens) (d':=s.drawn) (ch:=ch) (fun b hb=>?_) (fun b o _ _ hc e _=>k b o hc e) (fun b o _ _ hc e _=>⟨o.slots,k b o hc e⟩) (fun _ _ _ _ n=>n)
  (fun b o hc e=>⟨o,k b o hc e⟩) (fun _ _ e=>e) (fun _ _ _ e=>e) (fun b ps e=>⟨#[],by rw[e]; simp⟩) (fun m hm=>?_) (fun b u e=>?_) I.bare
 ·obtain⟨f0,f1,f2,f3,f4,f5⟩:=hf b hb
  exact⟨f3,f1,f4,f5⟩
 ·obtain⟨o,es,ep,ho,r⟩:=hm
  exact⟨o,es,ep,k _ o (fun z=>(hf _ z).2.1 rfl) ho,r⟩
 ·refine(I.hok b u e).stay (fun c v hc q=>k c v ?_ q) (fun _ q=>q) fun _ _ q=>q
  rcases hc with z | z
  ·rw[z]; exact nit b u e
  ·exact nit c _ z
section
variable{prog:Program}{w:World}{A:Around}{E:Value->Shared->Prop}{s:Shared}
theorem Geb{j t:Addr}{y:Value}{Q:Value->Shared->Prop}(pit:s.heap.IsTupleIter j t k)(pt:s.heap.IsTuple t vs)(py:vs[k]?=some y)(fin:∀ g,g.IsTupleIter j t (k+1)->Heap.SameBut j s.heap g->Q y { s with heap:=g }):wpAny (model prog w) A (Builtin.SmallTypes.nextOf (.ref j)) Q E s:=by
 obtain⟨u,pu,pc,pd⟩:=id pit
 obtain⟨v,pv,_,m,pe⟩:=pt
 unfold Builtin.SmallTypes.nextOf
 refine wpAny_bind (wpAny_callSpecial?_slot (name:=Str.ofString "__next__") pit.typeIs F.slot_tuple_iterator_next (wpAny_call_entry F.slot_tuple_iterator_next pit.typeIs F.entry_tuple_iterator_next ?_ (F.args_tuple_iterator_next_1 _)))
 show wpAny _ _ (field (.ref j) 0 >>= _) _ _ s
 refine wpAny_bind (wpAny_field pu pd (x:=.ref t) rfl ?_)
 show wpAny _ _ (if(Value.ref t==Value.none)=true then _ else _) _ _ _
 rw[if_neg (by exact Bool.false_ne_true)]
 show wpAny _ _ (field (.ref j) 1 >>= _) _ _ s
 refine wpAny_bind (wpAny_field pu pd (x:=.int k 0) rfl ?_)
 show wpAny _ _ (seqItems? (.ref t) >>= _) _ _ _
 refine wpAny_bind (wpAny_seqItems pv pe ?_)
 simp only[Int.toNat_natCast,py]
 refine wpAny_bind (wpAny_setField pu pd (by simp) (wpAny_pure ⟨y,rfl,wpAny_pure (fin _ ?_ (Heap.SameBut.update ..))⟩))
 exact⟨_,Heap.get?_update_self _ pu (Obj.isFreed_of_fields (Obj.data_mapFields pd _)),(Obj.cls_mapFields ..).trans pc,by rw[Obj.data_mapFields pd]; simp[rawInt]⟩
theorem Gke{j t:Addr}{Q:Value->Shared->Prop}(no:A.handled=none)(pit:s.heap.IsTupleIter j t k)(pt:s.heap.IsTuple t vs)(py:vs[k]?=none)(fin:∀ g e,Heap.ExtBut j s.heap g->(∃ o,g.get? e=some o/\o.cls=.type "StopIteration")->E (.ref e) { s with heap:=g }):wpAny (model prog w) A (Builtin.SmallTypes.nextOf (.ref j)) Q E s:=by
 obtain⟨u,pu,pc,pd⟩:=id pit
 obtain⟨v,pv,_,m,pe⟩:=pt
 unfold Builtin.SmallTypes.nextOf
 refine wpAny_bind (wpAny_callSpecial?_slot (name:=Str.ofString "__next__") pit.typeIs F.slot_tuple_iterator_next (wpAny_call_entry F.slot_tuple_iterator_next pit.typeIs F.entry_tuple_iterator_next ?_ (F.args_tuple_iterator_next_1 _)))
 show wpAny _ _ (field (.ref j) 0 >>= _) _ _ s
 refine wpAny_bind (wpAny_field pu pd (x:=.ref t) rfl ?_)
 show wpAny _ _ (if(Value.ref t==Value.none)=true then _ else _) _ _ _
 rw[if_neg (by exact Bool.false_ne_true)]
 show wpAny _ _ (field (.ref j) 1 >>= _) _ _ s
 refine wpAny_bind (wpAny_field pu pd (x:=.int k 0) rfl ?_)
 show wpAny _ _ (seqItems? (.ref t) >>= _) _ _ _
 refine wpAny_bind (wpAny_seqItems pv pe ?_)
 simp only[Int.toNat_natCast,py]
 refine wpAny_bind (wpAny_rule (wpAny_bind (wpAny_setField pu pd (by simp) ?_)))
 show wpAny _ _ (newExc (.type "StopIteration") [] >>= _) _ _ (_:Shared)
 refine wpAny_bind ?_
 simp only[newExc,newTuple]
 refine wpAny_bind (wpAny_newObj_type ?_ (by size_fits))
 refine wpAny_bind (m:=firstArgMember _ _) (wpAny_of_eq (a:=Value.none) (by(first | rfl | (simp only[firstArgMember]; rfl))) ?_)
 refine wpAny_newObj_type ?_ (by size_fits)
 simp only[raiseNew]
 refine wpAny_bind (wpAny_handled ?_)
 first
  | rw[show A.in1.handled=none from no]
  | rw[no]
 refine wpAny_bind (wpAny_pure (wpAny_throw ?_))
 exact fin _ _ (((Heap.SameBut.update ..).extBut.push _).push _) ⟨_,Heap.get?_push_size _ rfl,rfl⟩
end
theorem Gaf{s:Shared}{g:Heap}{tk:Nat}{ch:List Addr}{vs:List V}{us:List Value}(I:Inv X pins σ H s)(hn:H s.heap.objs.size=none)(hz:vs.length<=sizeLine)(rv:Vals vs us)(tt:g.get? s.heap.objs.size=some { cls:=.type "tuple",data:=.seq us.toArray })(k:∀ b o,b∉ch->s.heap.get? b=some o->g.get? b=some o)(hf:∀ b∈ch,Gcp X pins H b)(ltf:∀ b∈ch,b≠s.heap.objs.size):
  Inv X pins σ (upd H s.heap.objs.size (.tup vs)) { s with heap:=g,toks:=tk }:=by
 have I1:Inv X pins σ (upd H s.heap.objs.size (.tup vs)) { s with heap:=s.heap.push { cls:=.type "tuple",data:=.seq us.toArray } }:=
  I.laid (t':=s.toks) (fun b o e=>Heap.get?_push_of_some _ e) (Nat.le_refl _) (show Jw X.prog X.w _ _ _ (.tup vs) from⟨hz,us,rv,IsTup.new _ _⟩)
 refine turnedL (ch:=ch) (s:={ s with heap:=s.heap.push { cls:=.type "tuple",data:=.seq us.toArray } }) I1 (fun b o hb e=>?_) fun b hb=>?_
 ·by_cases hs:b=s.heap.objs.size
  ·subst hs
   rw[Heap.get?_push_size _ rfl] at e
   cases e
   exact tt
  ·have:s.heap.get? b=some o:=by
    rcases Heap.get?_push_cases e with⟨z,_⟩ | z
    ·exact absurd z hs
    ·exact z
   exact k b o hb this
 ·obtain⟨f0,f⟩:=hf b hb
  exact⟨by rw[Gs (ltf b hb)]; exact f0,f⟩
structure Za(z ti to' i j a b:Addr):Prop where
 q1:ti≠z
 q2:to'≠z
 q3:i≠z
 q4:j≠z
 q5:ti≠to'
 q6:ti≠i
 q7:ti≠j
 q8:to'≠i
 q9:to'≠j
 q10:i≠j
 q11:a≠z
 q12:a≠to'
 q13:a≠i
 q14:a≠j
 q15:b≠z
 q16:b≠to'
 q17:b≠i
 q18:b≠j
section
variable{prog:Program}{w:World}{A:Around}{E:Value->Shared->Prop}{s:Shared}
theorem Gno{z ti to' i j a b:Addr}{ys:Array Value}{x y c d:Value}{Q:Option Value->Shared->Prop}(D:Za z ti to' i j a b)(pz:IsZip s.heap z ti to' .none)(pti:IsPair s.heap ti (.ref i) (.ref j))(pto:IsPair s.heap to' c d)(pi':s.heap.IsTupleIter i a k)(pj:s.heap.IsTupleIter j b k)(pa:s.heap.IsTuple a xs)(pb:s.heap.IsTuple b ys)(px:xs[k]?=some x)(py:ys[k]?=some y)(fin:∀ g,IsZip g z ti to' (rawInt s.heap.objs.size)->IsPair g to' x y->g.IsTupleIter i a (k+1)->g.IsTupleIter j b (k+1)->IsPair g s.heap.objs.size x y→
   (∀ b o,b≠z->b≠to'->b≠i->b≠j->s.heap.get? b=some o->g.get? b=some o)->Q (some (.ref s.heap.objs.size)) { s with heap:=g }):wpAny (model prog w) A (pyNext (.ref z)) Q E s:=by
 have ty:s.TypeIs (.ref z) "zip":=⟨_,pz,rfl⟩
 unfold pyNext
 refine wpAny_bind (wpAny_attempt (wpAny_callSpecial?_slot (name:=Str.ofString "__next__") ty F.slot_zip_next (wpAny_call_entry F.slot_zip_next ty F.entry_zip_next ?_ (F.args_zip_next_1 _))))
 show wpAny _ _ (field (.ref z) 2 >>= _) _ _ (_:Shared)
 refine wpAny_bind (wpAny_field pz rfl (x:=.bool false) rfl ?_)
 show wpAny _ _ (field (.ref z) 3 >>= _) _ _ (_:Shared)
 refine wpAny_bind (wpAny_field pz rfl (x:=.ref ti) rfl ?_)
 refine wpAny_bind (wpAny_seqItems pti rfl ?_)
 show wpAny _ _ (Builtin.SmallTypes.ownedTupleIsFree (.ref z) >>= _) _ _ (_:Shared)
 refine wpAny_bind ?_
 unfold Builtin.SmallTypes.ownedTupleIsFree
 refine wpAny_bind (wpAny_field pz rfl (x:=.none) rfl (wpAny_pure ?_))
 simp only[if_true]
 refine wpAny_bind (wpAny_rule ?_)
 refine wpAny_bind (wpAny_field pz rfl (x:=.ref to') rfl ?_)
 refine wpAny_bind (wpAny_setField_rec pz (by simp) fun g1 z1 b1=>?_)
 replace z1:IsZip g1 z ti to' .ellipsis:=z1
 refine wpAny_bind ?_
 simp only[List.zipIdx_cons,List.zipIdx_nil,List.forIn_cons,List.forIn_nil]
 refine wpAny_bind (wpAny_bind (wpAny_onRaise ?_))
 show wpAny _ _ (Builtin.SmallTypes.nextOf (.ref i) >>= _) _ _ (_:Shared)
 refine wpAny_bind (Geb (pi'.extBut b1.extBut D.q3) (pa.extBut b1.extBut D.q11) px fun g2 i2 b2=>wpAny_pure ?_)
 have o2:IsPair g2 to' c d:=b2.extBut _ _ D.q8 (b1.extBut _ _ D.q2 pto)
 refine wpAny_bind (wpAny_seqItems o2 rfl ?_)
 refine wpAny_bind (wpAny_updateSeq_pair o2 fun g3 o3 b3=>?_)
 replace o3:IsPair g3 to' x d:=o3
 refine wpAny_bind (wpAny_letGo (wpAny_pure ?_))
 refine wpAny_bind (wpAny_bind (wpAny_onRaise ?_))
 show wpAny _ _ (Builtin.SmallTypes.nextOf (.ref j) >>= _) _ _ (_:Shared)
 refine wpAny_bind (Geb (((pj.extBut b1.extBut D.q4).extBut b2.extBut D.q10.symm).extBut b3.extBut D.q9.symm) (((pb.extBut b1.extBut D.q15).extBut b2.extBut D.q17).extBut b3.extBut D.q16) py fun g4 j4 b4=>wpAny_pure ?_)
 have o4:IsPair g4 to' x d:=b4.extBut _ _ D.q9 o3
 refine wpAny_bind (wpAny_seqItems o4 rfl ?_)
 refine wpAny_bind (wpAny_updateSeq_pair o4 fun g5 o5 b5=>?_)
 replace o5:IsPair g5 to' x y:=o5
 refine wpAny_bind (wpAny_letGo (wpAny_pure (wpAny_pure ?_)))
 refine wpAny_bind (wpAny_seqItems o5 rfl ?_)
 refine wpAny_bind (wpAny_newTuple ?_)
 have sz:g5.objs.size=s.heap.objs.size:=by rw[b5.1,b4.1,b3.1,b2.1,b1.1]
 have z5:IsZip g5 z ti to' .ellipsis:=b5.extBut _ _ D.q2.symm (b4.extBut _ _ D.q4.symm (b3.extBut _ _ D.q2.symm (b2.extBut _ _ D.q3.symm z1)))
 have k5:∀ b o,b≠z->b≠to'->b≠i->b≠j->s.heap.get? b=some o->g5.get? b=some o:=fun b o c1 c2 c3 c4 e=>
  b5.extBut _ _ c2 (b4.extBut _ _ c4 (b3.extBut _ _ c2 (b2.extBut _ _ c3 (b1.extBut _ _ c1 e))))
 have i5:g5.IsTupleIter i a (k+1):=((i2.extBut b3.extBut D.q8.symm).extBut b4.extBut D.q10).extBut b5.extBut D.q8.symm
 have j5:g5.IsTupleIter j b (k+1):=j4.extBut b5.extBut D.q9.symm
 have zl:z<g5.objs.size:=Heap.lt_size z5
 show wpAny _ _ (Builtin.SmallTypes.ownedTupleHandOut (.ref z) (.ref g5.objs.size) >>= _) _ _ (_:Shared)
 refine wpAny_bind ?_
 unfold Builtin.SmallTypes.ownedTupleHandOut
 have z6:IsZip (g5.push { cls:=.type "tuple",data:=.seq #[x,y] }) z ti to' .ellipsis:=Heap.get?_push_of_some _ z5
 refine wpAny_bind (wpAny_setField_rec z6 (by simp) fun g7 z7 b7=>?_)
 replace z7:IsZip g7 z ti to' (rawInt g5.objs.size):=z7
 refine wpAny_setField_rec z7 (by simp) fun g8 z8 b8=>?_
 replace z8:IsZip g8 z ti to' (rawInt g5.objs.size):=z8
 have up:∀ b o,b≠z->g5.get? b=some o->g8.get? b=some o:=fun b o c1 e=>b8.extBut _ _ c1 (b7.extBut _ _ c1 (Heap.get?_push_of_some _ e))
 have t8:IsPair g8 g5.objs.size x y:=b8.extBut _ _ (Nat.ne_of_gt zl) (b7.extBut _ _ (Nat.ne_of_gt zl) (Heap.get?_push_size _ rfl))
 rw[sz] at z8 t8
 refine wpAny_pure ⟨_,rfl,wpAny_pure ?_⟩
 show Q (some (.ref g5.objs.size)) _
 rw[sz]
 exact fin g8 z8 (up _ _ D.q2 o5) (i5.at fun o e=>up _ o D.q3 e) (j5.at fun o e=>up _ o D.q4 e) t8 fun b o c1 c2 c3 c4 e=>up b o c1 (k5 b o c1 c2 c3 c4 e)
theorem Gtc{z ti to' i j a b:Addr}{ys:Array Value}{c d:Value}{Q:Option Value->Shared->Prop}(no:A.handled=none)(D:Za z ti to' i j a b)(pz:IsZip s.heap z ti to' .none)(pti:IsPair s.heap ti (.ref i) (.ref j))(pto:IsPair s.heap to' c d)(pi':s.heap.IsTupleIter i a k)(pj:s.heap.IsTupleIter j b k)(pa:s.heap.IsTuple a xs)(pb:s.heap.IsTuple b ys)(pe:xs[k]?=none\/ys[k]?=none)(fin:∀ g,(∀ b o,b≠z->b≠to'->b≠i->b≠j->s.heap.get? b=some o->g.get? b=some o)->Q none { s with heap:=g }):wpAny (model prog w) A (pyNext (.ref z)) Q E s:=by
 have ty:s.TypeIs (.ref z) "zip":=⟨_,pz,rfl⟩
 have stop:∀ (g:Heap) (e:Addr),(∀ b o,b≠z->b≠to'->b≠i->b≠j->s.heap.get? b=some o->g.get? b=some o)->(∃ o,g.get? e=some o/\o.cls=.type "StopIteration")→
   wpAny (model prog w) A (do if <- isInstance (.ref e) (.type "StopIteration") then pure none else throw (.ref e)) Q E { s with heap:=g }:=fun g e h1 ⟨o,ho,hc⟩=>by
  refine wpAny_bind (wpAny_isInstance (T:="StopIteration") (b:=true) ⟨o,ho,hc⟩ isSubtype_stop ?_)
  exact wpAny_pure (fin _ h1)
 unfold pyNext
 refine wpAny_bind (wpAny_attempt (wpAny_callSpecial?_slot (name:=Str.ofString "__next__") ty F.slot_zip_next (wpAny_call_entry F.slot_zip_next ty F.entry_zip_next ?_ (F.args_zip_next_1 _))))
 show wpAny _ _ (field (.ref z) 2 >>= _) _ _ (_:Shared)
 refine wpAny_bind (wpAny_field pz rfl (x:=.bool false) rfl ?_)
 show wpAny _ _ (field (.ref z) 3 >>= _) _ _ (_:Shared)
 refine wpAny_bind (wpAny_field pz rfl (x:=.ref ti) rfl ?_)
 refine wpAny_bind (wpAny_seqItems pti rfl ?_)
 show wpAny _ _ (Builtin.SmallTypes.ownedTupleIsFree (.ref z) >>= _) _ _ (_:Shared)
 refine wpAny_bind ?_
 unfold Builtin.SmallTypes.ownedTupleIsFree
 refine wpAny_bind (wpAny_field pz rfl (x:=.none) rfl (wpAny_pure ?_))
 simp only[if_true]
 refine wpAny_bind (wpAny_rule ?_)
 refine wpAny_bind (wpAny_field pz rfl (x:=.ref to') rfl ?_)
 refine wpAny_bind (wpAny_setField_rec pz (by simp) fun g1 z1 b1=>?_)
 replace z1:IsZip g1 z ti to' .ellipsis:=z1
 refine wpAny_bind ?_
 simp only[List.zipIdx_cons,List.zipIdx_nil,List.forIn_cons,List.forIn_nil]
 refine wpAny_bind (wpAny_bind (wpAny_onRaise ?_))
 show wpAny _ _ (Builtin.SmallTypes.nextOf (.ref i) >>= _) _ _ (_:Shared)
 cases hx:xs[k]? with
 | none=>
  refine wpAny_bind (Gke no (pi'.extBut b1.extBut D.q3) (pa.extBut b1.extBut D.q11) hx fun g2 e b2 he=>?_)
  obtain⟨oe,hoe,hce⟩:=he
  have z2:IsZip g2 z ti to' .ellipsis:=b2 _ _ D.q3.symm z1
  have ez:e≠z:=fun x=>by subst x; rw[z2] at hoe; cases hoe; simp at hce
  refine wpAny_setField_rec z2 (by simp) fun g3 _ b3=>?_
  exact stop g3 e (fun b o c1 _ c3 _ x=>b3.extBut _ _ c1 (b2 _ _ c3 (b1.extBut _ _ c1 x))) ⟨oe,b3.extBut _ _ ez hoe,hce⟩
 | some x=>
  have hy:ys[k]?=none:=by
   rcases pe with h | h
   ·rw[hx] at h; cases h
   ·exact h
  refine wpAny_bind (Geb (pi'.extBut b1.extBut D.q3) (pa.extBut b1.extBut D.q11) hx fun g2 i2 b2=>wpAny_pure ?_)
  have o2:IsPair g2 to' c d:=b2.extBut _ _ D.q8 (b1.extBut _ _ D.q2 pto)
  refine wpAny_bind (wpAny_seqItems o2 rfl ?_)
  refine wpAny_bind (wpAny_updateSeq_pair o2 fun g3 o3 b3=>?_)
  refine wpAny_bind (wpAny_letGo (wpAny_pure ?_))
  refine wpAny_bind (wpAny_bind (wpAny_onRaise ?_))
  show wpAny _ _ (Builtin.SmallTypes.nextOf (.ref j) >>= _) _ _ (_:Shared)
  refine wpAny_bind (Gke no (((pj.extBut b1.extBut D.q4).extBut b2.extBut D.q10.symm).extBut b3.extBut D.q9.symm) (((pb.extBut b1.extBut D.q15).extBut b2.extBut D.q17).extBut b3.extBut D.q16) hy fun g4 e b4 he=>?_)
  obtain⟨oe,hoe,hce⟩:=he
  have z4:IsZip g4 z ti to' .ellipsis:=b4 _ _ D.q4.symm (b3.extBut _ _ D.q2.symm (b2.extBut _ _ D.q3.symm z1))
  have ez:e≠z:=fun x=>by subst x; rw[z4] at hoe; cases hoe; simp at hce
  refine wpAny_setField_rec z4 (by simp) fun g5 _ b5=>?_
  exact stop g5 e (fun b o c1 c2 c3 c4 x=>b5.extBut _ _ c1 (b4 _ _ c4 (b3.extBut _ _ c2 (b2.extBut _ _ c3 (b1.extBut _ _ c1 x))))) ⟨oe,b5.extBut _ _ ez hoe,hce⟩
abbrev zg1(g:Heap)(a:Addr):Heap:=g.push { cls:=.type "tuple_iterator",data:=.fields #[.ref a,.int 0 0] }
abbrev zg2(g:Heap)(a b:Addr):Heap:=(zg1 g a).push { cls:=.type "tuple_iterator",data:=.fields #[.ref b,.int 0 0] }
abbrev zg3(g:Heap)(a b:Addr):Heap:=(zg2 g a b).push { cls:=.type "tuple",data:=.seq #[.ref g.objs.size,.ref (zg1 g a).objs.size] }
abbrev zg4(g:Heap)(a b:Addr):Heap:=(zg3 g a b).push { cls:=.type "tuple",data:=.seq #[.none,.none] }
abbrev zg5(g:Heap)(a b:Addr):Heap:=(zg4 g a b).push { cls:=.type "zip",data:=.fields #[.none,.bool false,.bool false,.ref (zg2 g a b).objs.size,.ref (zg3 g a b).objs.size] }
theorem Gkf(a b:Addr)(xs ys:Array Value):
  Meets (Builtin.«zip.__new__» ⟨[.type "zip",.ref a,.ref b],[]⟩) (fun _ R s=>s.heap.IsTuple a xs/\s.heap.IsTuple b ys/\R (.ok (.ret (.ref (zg4 s.heap a b).objs.size))) { s with heap:=zg5 s.heap a b }):=
 .of_wp fun prog w A R s h=>by
  obtain⟨hp,g,d,tk,os⟩:=s; obtain⟨ha,hb,h⟩:=h
  have hsub:=sub_zip
  have h1:Heap.IsTuple (Shared.heap ⟨hp,g,d,tk,os⟩) a xs:=ha
  have h2:Heap.IsTuple (Shared.heap ⟨zg1 hp a,g,d,tk,os⟩) b ys:=Heap.IsTuple.push hb _
  wp_walk using wpAny_pyIter_tuple h1,wpAny_pyIter_tuple h2
  exact⟨_,rfl,h⟩
theorem Gnp{a b:Addr}{ys:Array Value}{Q:Value->Shared->Prop}(pa:s.heap.IsTuple a xs)(pb:s.heap.IsTuple b ys)(fin:∀ g,IsZip g (s.heap.objs.size+4) (s.heap.objs.size+2) (s.heap.objs.size+3) .none->IsPair g (s.heap.objs.size+2) (.ref s.heap.objs.size) (.ref (s.heap.objs.size+1))->IsPair g (s.heap.objs.size+3) .none .none→
   g.IsTupleIter s.heap.objs.size a 0->g.IsTupleIter (s.heap.objs.size+1) b 0->(∀ c o,s.heap.get? c=some o->g.get? c=some o)->Q (.ref (s.heap.objs.size+4)) { s with heap:=g }):
  wpAny (model prog w) A (call (.type "zip") [.ref a,.ref b]) Q E s:=by
 refine callType_new F.called_zip (by decide) (F.typeCall_zip_2 _ _) (F.newCall_zip_2 _ _) (fun obj=>F.args_object_init_3 obj _ _) F.entry_zip_new (Gkf a b xs ys) ⟨pa,pb,?_⟩
 have n1:(zg1 s.heap a).objs.size=s.heap.objs.size+1:=Heap.size_push ..
 have n2:(zg2 s.heap a b).objs.size=s.heap.objs.size+2:=by rw[Heap.size_push,n1]
 have n3:(zg3 s.heap a b).objs.size=s.heap.objs.size+3:=by rw[Heap.size_push,n2]
 have n4:(zg4 s.heap a b).objs.size=s.heap.objs.size+4:=by rw[Heap.size_push,n3]
 have g5:(zg5 s.heap a b).get? (zg4 s.heap a b).objs.size=some _:=Heap.get?_push_size _ rfl
 have g4:(zg5 s.heap a b).get? (zg3 s.heap a b).objs.size=some _:=Heap.get?_push_of_some _ (Heap.get?_push_size _ rfl)
 have g3:(zg5 s.heap a b).get? (zg2 s.heap a b).objs.size=some _:=Heap.get?_push_of_some _ (Heap.get?_push_of_some _ (Heap.get?_push_size _ rfl))
 have g2:(zg5 s.heap a b).get? (zg1 s.heap a).objs.size=some _:=Heap.get?_push_of_some _ (Heap.get?_push_of_some _ (Heap.get?_push_of_some _ (Heap.get?_push_size _ rfl)))
 have g1:(zg5 s.heap a b).get? s.heap.objs.size=some _:=Heap.get?_push_of_some _ (Heap.get?_push_of_some _ (Heap.get?_push_of_some _ (Heap.get?_push_of_some _ (Heap.get?_push_size _ rfl))))
 show _/\_
 rw[n2,n3,n4] at g5
 rw[n1,n2] at g3
 rw[n3] at g4
 rw[n1] at g2
 rw[n4]
 exact⟨⟨_,g5,rfl⟩,fin _ g5 g3 g4 ⟨_,g1,rfl,rfl⟩ ⟨_,g2,rfl,rfl⟩ fun c o x=>Heap.get?_push_of_some _ (Heap.get?_push_of_some _ (Heap.get?_push_of_some _ (Heap.get?_push_of_some _ (Heap.get?_push_of_some _ x))))⟩
end
def Itz(K:PySem.W.Frag)(a b:Addr):It:=
 ⟨fun k H=>∃ xs ys x y,SqT K H a xs/\SqT K H b ys/\xs[k]?=some x/\ys[k]?=some y,
  fun k H v H'=>∃ x y p,(∀ xs,SqT K H a xs->xs[k]?=some x)/\(∀ ys,SqT K H b ys->ys[k]?=some y)/\H p=none/\v=.ref p/\H'=upd H p (.tup [x,y]),
  fun k H=>∃ xs ys,SqT K H a xs/\SqT K H b ys/\(xs.length<=k\/ys.length<=k)⟩
def tnZ(z ti to' i j a b:Addr)(k:Nat)(h:Heap):Prop:=IsZip h z ti to' .none/\IsPair h ti (.ref i) (.ref j)/\(∃ c d,IsPair h to' c d)/\h.IsTupleIter i a k/\h.IsTupleIter j b k
theorem Gkg{x1}(z ti to' i j a b:Addr)(D:Za z ti to' i j a b):
  Turn P w K (.Tuple es x1 pos) (Itz K a b) [z,ti,to',i,j] z (tnZ z ti to' i j a b) where
 mem:=by simp
 obj:=fun k h ⟨s1,s2,⟨c,d,s3⟩,⟨o4,e4,c4,d4⟩,o5,e5,c5,d5⟩ q hq=>by
  simp only[List.mem_cons,List.mem_nil_iff,or_false] at hq
  rcases hq with rfl | rfl | rfl | rfl | rfl
  ·exact⟨_,s1,fun v y=>nomatch (show Data.fields _=Data.cell v from y)⟩
  ·exact⟨_,s2,fun v y=>nomatch (show Data.seq _ _=Data.cell v from y)⟩
  ·exact⟨_,s3,fun v y=>nomatch (show Data.seq _ _=Data.cell v from y)⟩
  ·exact⟨o4,e4,fun v y=>by rw[d4] at y; cases y⟩
  ·exact⟨o5,e5,fun v y=>by rw[d5] at y; cases y⟩
 keep:=fun k h h' ⟨s1,s2,⟨c,d,s3⟩,s4,s5⟩ kk=>⟨kk z (by simp) _ s1,kk ti (by simp) _ s2,⟨c,d,kk to' (by simp) _ s3⟩,s4.at fun o e=>kk i (by simp) o e,s5.at fun o e=>kk j (by simp) o e⟩
 item:=by
  intro X hP hw hK hc k pins s σ H E I hf ⟨s1,s2,⟨c,d,s3⟩,s4,s5⟩ hg
  subst hP hw hK
  obtain⟨xs,ys,x,y,hqa,hqb,hx,hy⟩:=hg
  obtain⟨ita,rva,pa,_⟩:=I.tuple hqa
  obtain⟨itb,rvb,pb,_⟩:=I.tuple hqb
  obtain⟨u,hu,ru⟩:=rva.get hx
  obtain⟨v,hv,rv⟩:=rvb.get hy
  have hn:H s.heap.objs.size=none:=I.hok.fresh (Nat.le_refl _)
  refine Gno D s1 s2 s3 s4 s5 (show s.heap.IsTuple a ita.toArray from pa) (show s.heap.IsTuple b itb.toArray from pb) (x:=u) (y:=v) (by simpa using hu) (by simpa using hv) fun g t1 t2 t3 t4 t5 kk=>?_
  refine⟨_,rfl,wpAny_letOwnedTupleGo_zip t1 fun g2 e2 b2=>?_⟩
  have kk2:∀ q o,q∉[z,ti,to',i,j]->s.heap.get? q=some o->g2.get? q=some o:=fun q o hq h1=>
   b2.extBut q o (fun y=>hq (by simp[y])) (kk q o (fun y=>hq (by simp[y])) (fun y=>hq (by simp[y])) (fun y=>hq (by simp[y])) (fun y=>hq (by simp[y])) h1)
  have zl:s.heap.objs.size≠z:=Nat.ne_of_gt (Heap.lt_size s1)
  have tt2:g2.get? s.heap.objs.size=some { cls:=.type "tuple",data:=.seq [u,v].toArray }:=b2.extBut _ _ zl t5
  have ltf:∀ q∈[z,ti,to',i,j],q≠s.heap.objs.size:=fun q hq=>by
   simp only[List.mem_cons,List.mem_nil_iff,or_false] at hq
   rcases hq with rfl | rfl | rfl | rfl | rfl
   ·exact Ne.symm zl
   ·exact Nat.ne_of_lt (Heap.lt_size s2)
   ·exact Nat.ne_of_lt (Heap.lt_size s3)
   ·obtain⟨o,e1,_⟩:=s4; exact Nat.ne_of_lt (Heap.lt_size e1)
   ·obtain⟨o,e1,_⟩:=s5; exact Nat.ne_of_lt (Heap.lt_size e1)
  have I2:Inv X pins σ (upd H s.heap.objs.size (.tup [x,y])) { s with heap:=g2 }:=
   Gaf (tk:=s.toks) I hn (by rw[sizeLine_eq]; simp only[List.length_cons,List.length_nil]; decide) (.cons ru (.cons rv .nil)) tt2 kk2 hf ltf
  have p2:IsPair g2 ti (.ref i) (.ref j):=b2.extBut _ _ D.q1 (kk ti _ D.q1 D.q5 D.q6 D.q7 s2)
  exact⟨.ref s.heap.objs.size,_,I2,rfl,⟨x,y,_,fun zs hz=>by rw[I.tuple_inj hz hqa]; exact hx,fun zs hz=>by rw[I.tuple_inj hz hqb]; exact hy,hn,rfl,rfl⟩,
   ⟨e2,p2,⟨_,_,b2.extBut _ _ D.q2 t2⟩,t3.extBut b2.extBut D.q3,t4.extBut b2.extBut D.q4⟩,fun q hq=>by
    rw[Gs (ltf q hq)]
    exact(hf q hq).1⟩
 done:=by
  intro X hP hw hK hc k pins s σ H E I hf ⟨s1,s2,⟨c,d,s3⟩,s4,s5⟩ hg
  subst hP hw hK
  obtain⟨xs,ys,hqa,hqb,hx⟩:=hg
  obtain⟨ita,rva,pa,_⟩:=I.tuple hqa
  obtain⟨itb,rvb,pb,_⟩:=I.tuple hqb
  have la:=rva.length
  have lb:=rvb.length
  refine Gtc (I.ok.hd hc) D s1 s2 s3 s4 s5 (show s.heap.IsTuple a ita.toArray from pa) (show s.heap.IsTuple b itb.toArray from pb) ?_ fun g kk=>⟨rfl,turnedL I (fun q o hq e1=>kk q o (fun y=>hq (by simp[y])) (fun y=>hq (by simp[y])) (fun y=>hq (by simp[y])) (fun y=>hq (by simp[y])) e1) hf⟩
  rcases hx with h | h
  ·exact .inl (by simp; omega)
  ·exact .inr (by simp; omega)
 self:=fun _ _ _ _ _ ⟨st,_⟩ h=>wpAny_pyIter_zip st h
section
variable{X:Cx}{XQ:XW}
def zipAt(l m:List D)(k:Nat):Option D:=match l[k]?,m[k]? with
 | some x,some y=>some (.tup [x,y])
 | _,_=>none
theorem Gtd{a b:Addr}{xs ys:List V}{l m:List D}(s:SqT K H a xs)(r:RepL K mp H l xs)(s2:SqT K H b ys)(r2:RepL K mp H m ys):Gib K mp H (Itz K a b) (fun k _=>zipAt l m k):=by
 intro mp' H' S' af rs k
 have s':=af.tup _ _ s
 have r':=RepL.aft af _ _ r
 have s2':=af.tup _ _ s2
 have r2':=RepL.aft af _ _ r2
 show match zipAt l m k with
  | some d=>(Itz K a b).go k H'/\∀ x H2,(Itz K a b).yld k H' x H2->Aft K mp' H' mp' H2/\RS K mp' H2 S'/\Rep K mp' H2 d x
  | none=>(Itz K a b).stop k H'
 unfold zipAt
 cases z:l[k]? with
 | none=>
  refine⟨xs,ys,s',s2',.inl ?_⟩
  rw[r.len]
  exact List.getElem?_eq_none_iff.mp z
 | some d=>
  cases z2:m[k]? with
  | none=>
   refine⟨xs,ys,s',s2',.inr ?_⟩
   rw[r2.len]
   exact List.getElem?_eq_none_iff.mp z2
  | some d2=>
   obtain⟨v,e,q⟩:=r'.get z
   obtain⟨v2,e2,q2⟩:=r2'.get z2
   refine⟨⟨xs,ys,v,v2,s',s2',e,e2⟩,fun x H2 ⟨y,y2,p,h1,h2,h3,h4,h5⟩=>?_⟩
   have h1:=h1 xs s'
   have h2:=h2 ys s2'
   rw[e] at h1
   rw[e2] at h2
   cases h1
   cases h2
   subst h4 h5
   have af2:Aft K mp' H' mp' (upd H' p (.tup [v,v2])):=Ub h3
   exact⟨af2,rs.new h3,p,_,rfl,SqT.of Hj,RepL.cons (Rep.aft af2 _ _ q) (RepL.cons (Rep.aft af2 _ _ q2) RepL.nil)⟩
end
section
variable{X:Cx}{XQ:XW}
def rvD(x:D)(st:Option Int)(S:Sto):Out D:=match x,st with
 | .tup l,some (-1)=>.ok (.tup l.reverse) S
 | _,_=>.bad
def rv(fe:Ev D)(fs:Ev (Option Int)):Ev D:=fun ρ S=>(fe ρ S).bind fun x S1=>(fs ρ S1).bind fun o S2=>rvD x o S2
end
section
variable{X:Cx}{XQ:XW}
inductive JFs(X:Cx)(XQ:XW):List Expr->List (Ev D)->Prop
 | nil:JFs X XQ [] []
 | cons {e:Expr} {f:Ev D} {es:List Expr} {fs:List (Ev D)}:JE X XQ e f->JFs X XQ es fs->JFs X XQ (e::es) (f::fs)
end
theorem Gnq{base:Heap}{x:Str}{ps:List Str}(d:Dn K mg x st ps):Cal P w K mg base x ps (fun _ _=>.bad) j:=by
 obtain⟨f,fd,F,hm,hb⟩:=d.ex
 exact⟨f,fd,⟨fun vs H Q E ⟨mp,ds,S,_,_,_,p⟩=>(show False from p).elim,fun A outer s H args us vs Q E _ _ _ _ ⟨mp,ds,S,_,_,_,p⟩=>(show False from p).elim⟩,hm,F.kp,hb⟩
structure Zb(z ti to' i j l a b c:Addr):Prop where
 tz:ti≠z
 oz:to'≠z
 iz:i≠z
 jz:j≠z
 lz:l≠z
 t_o:ti≠to'
 t_i:ti≠i
 t_j:ti≠j
 t_l:ti≠l
 oi:to'≠i
 oj:to'≠j
 ol:to'≠l
 ij:i≠j
 il:i≠l
 jl:j≠l
 az:a≠z
 ao:a≠to'
 ai:a≠i
 aj:a≠j
 al:a≠l
 bz:b≠z
 bo:b≠to'
 bi:b≠i
 bj:b≠j
 bl:b≠l
 cz:c≠z
 co:c≠to'
 ci:c≠i
 cj:c≠j
 cl:c≠l
section
open Builtin Builtin.Str
variable{prog:Program}{w:World}{A:Around}{E:Value->Shared->Prop}{s:Shared}
end
section
variable{X:Cx}{XQ:XW}
variable{a b:Expr}{fa fb:Ev D}{pos:Pos}
end
structure XB(bm:List Value):Prop where
 v:bm.contains (.type "ValueError")=true
 a:bm.contains (.type "AttributeError")=false
 n:bm.contains (.type "NameError")=false
 b:bm.contains (.type "BaseException")=true
theorem XB.has(x:XB bm)(C:Addr):(Value.ref C::bm).contains (.type "ValueError")=true:=by rw[List.contains_cons,x.v,Bool.or_true]
theorem XB.noA(x:XB bm)(C:Addr):(Value.ref C::bm).contains (.type "AttributeError")=false:=by rw[List.contains_cons,x.a]; rfl
theorem XB.noN(x:XB bm)(C:Addr):(Value.ref C::bm).contains (.type "NameError")=false:=by rw[List.contains_cons,x.n]; rfl
abbrev FV:=PySem.F.excBase_ValueError
theorem Gnr(K:PySem.W.Frag):PySem.W.findCls K (.type "ValueError") (.type "type") "__init__"=some (.val (.builtin "ValueError.__init__")):=by
 first
  | rfl
  | kernel_rfl
theorem Gns{prog:Program}{E:Value->Shared->Prop}{s:Shared}{Q:Value×List Value->Shared->Prop}{pl:Sem Bool}(X:K.In s.heap)(h:Q (.builtin "ValueError.__init__",[]) { s with toks:=s.toks+1 }):
  wpAny (model prog w) A (getMethod (.type "ValueError") (Str.ofString "__init__") pl) Q E s:=by
 have st:opaqueClassAbove (.type "ValueError")=pure none:=by unfold opaqueClassAbove; dsimp only; rw[show Manifest.isStub "ValueError"=false by decide +kernel]; rfl
 have ty:PySem.W.Looks (model prog w) s.heap (typeOf (.type "ValueError")) (.type "type"):=PySem.W.Looks.of_pure (by first | rfl | kernel_rfl)
 have ga:PySem.W.findIn K (.type "type") "__getattribute__"=some (some (.builtin "type.__getattribute__")):=PySem.W.type_tga
 unfold getMethod specialOf
 refine wpAny_bind (wpAny_bind (ty.here ((PySem.W.looks_findIn X ga).here ?_)))
 dsimp only
 rw[if_pos PySem.W.canon_tga]
 refine wpAny_bind (wpAny_mono (Q:=fun v=>Q (v,[])) (E:=E) ?_ (fun _ _ z=>wpAny_pure z) fun _ _ z=>z)
 refine PySem.W.cls_open X (PySem.W.Looks.of_pure st) ty ga (PySem.W.looks_hook X (r:=none) (by rfl)) (by show PySem.W.subIn K _ _=_; rfl) (Gnr K) ?_
 refine wpAny_pure ?_
 show wpAny _ _ (handedOut _) _ _ _
 rw[PySem.W.handedOut_of (by rfl)]
 exact wpAny_pure h
section
variable{prog:Program}{w:World}{A:Around}{E:Value->Shared->Prop}{h:Heap}{g:Array GenState}{d:Drawn}{t:Nat}{os:OsState}
variable{nm q:Str}{C N:Addr}{bs bm:List Value}{hdct:Bool}{sn:List Str}{sub:List Value}{ab:Bool}{col:Option Bool}{dd:Option Addr}{k0 k1 k2 k3 k5:Option Value}
theorem Gnt{e:Addr}{t0:Addr}{Q:Value->Shared->Prop}(x:XB bm)(hC:h.get? C=some (excClassObj nm q C N bs bm hdct sn sub ab col dd k0 k1 k2 k3 k5 "ValueError.__new__"))(he:h.get? e=some { cls:=.ref C,dict:=dx,data:=.fields #[.ref t0,.none,.none,.none,.bool false,.none] })(hq:∀ h',h'.get? e=some { cls:=.ref C,dict:=dx,data:=.fields #[.ref h.objs.size,.none,.none,.none,.bool false,.none] }->(∀ b o,b≠e->h.get? b=some o->h'.get? b=some o)->h'.get? h.objs.size=some { cls:=.type "tuple",data:=.seq #[v] }->Q .none ⟨h',g,d,t,os⟩):
  wpAny (model prog w) A (call (.builtin "ValueError.__init__") [.ref e,v]) Q E ⟨h,g,d,t,os⟩:=by
 have hB:=x.has C
 refine wpAny_call (codeAny_call_builtin FV.init.plain FV.initEntry ?_)
 have chk:∀ {M:Model} {A:Around} {E:Value->Shared->Prop} {Q:Unit->Shared->Prop},Q () ⟨h,g,d,t,os⟩->wpAny M A (checkBuiltinCall "ValueError.__init__" ⟨[.ref e,v],[]⟩) Q E ⟨h,g,d,t,os⟩:=fun hQ=>by
  have ns:=FV.noStar
  simp only[checkBuiltinCall,FV.initKind,FV.initSplit,FV.initRow]
  repeat (first | with_reducible refine wpAny_loadPart_at he ?_ | with_reducible refine wpAny_loadPart_at hC ?_ | (with_reducible refine wpAny_isSubtype_exc hC ?_; rw[hB]) | wp_step)
  exact hQ
 refine chk ?_
 wp_walk
 have le:e≠h.objs.size:=Nat.ne_of_lt (Heap.lt_size he)
 refine hq _ ?_ (fun b o hb ho=>?_) ?_
 ·rw[Heap.get?_update_self _ (Heap.get?_push_of_some _ he) rfl]
  rfl
 ·rw[Heap.get?_update_other _ _ (Ne.symm hb)]
  exact Heap.get?_push_of_some _ ho
 ·rw[Heap.get?_update_other _ _ le]
  exact Heap.get?_push_size _ rfl
theorem Gfc{M:Model}{Q:Unit->Shared->Prop}(x:XB bm)(hC:h.get? C=some (excClassObj nm q C N bs bm hdct sn sub ab col dd k0 k1 k2 k3 k5 "ValueError.__new__"))(hq:Q () ⟨h,g,d,t,os⟩):
  wpAny M A (checkBuiltinCall "ValueError.__new__" ⟨[.ref C,v],[]⟩) Q E ⟨h,g,d,t,os⟩:=by
 have hB:=x.has C
 have ns:=FV.noStar
 simp only[checkBuiltinCall,FV.newKind,FV.newSplit,FV.newRow]
 repeat (first | refine wpAny_loadPart_at hC ?_ | (refine wpAny_isSubtype_exc hC ?_; rw[hB]) | refine wpAny_staticBase_exc hC ?_ | refine wpAny_madeBy_exc hC ?_ | simp only[bne_self_eq_false,Bool.false_eq_true,if_false] | wp_step)
 exact hq
theorem Gwe{R:Result->Shared->Prop}(x:XB bm)(hC:h.get? C=some (excClassObj nm q C N bs bm hdct sn sub ab col dd k0 k1 k2 k3 k5 "ValueError.__new__"))(hq:R (.ok (.ret (.ref (h.objs.size+1)))) ⟨(h.push { cls:=.type "tuple",data:=.seq #[v] }).push { cls:=.ref C,data:=.fields #[.ref h.objs.size,.none,.none,.none,.bool false,.none] },g,d,t,os⟩):
  codeAny (model prog w) A (.builtin "ValueError.__new__" ⟨[.ref C,v],[]⟩) R ⟨h,g,d,t,os⟩:=by
 have he:=FV.ends
 have hB:=x.has C
 have hA:=x.noA C
 have hN:=x.noN C
 refine codeAny_builtinAt FV.entry ?_
 unfold Builtin.«BaseException.__new__»
 refine PySem.wpAt_bind ?_
 show PySem.wpAt _ _ _ (PySem.stack >>= _) _ _ _
 refine PySem.wpAt_bind (PySem.wpAt_stack fun p below=>PySem.wpAt_of_wpAny ?_)
 wp_walk
 refine PySem.wpAt_of_wpAny ?_
 rw[FV.owner]
 repeat (first | with_reducible refine wpAny_madeHere_exc FV.canon hC ?_ | with_reducible refine wpAny_loadPart_at hC ?_ | (with_reducible refine wpAny_isSubtype_exc hC ?_; first | rw[hB] | rw[hA] | rw[hN]) | wp_step)
 show R _ _
 rw[Heap.size_push]
 exact hq
theorem Gte{fI:Addr}{Q:Value->Shared->Prop}(x:XB bm)(X:K.In h)(hC:h.get? C=some (excClassObj nm q C N bs bm hdct sn sub ab col dd k0 k1 k2 k3 k5 "ValueError.__new__"))(hi:PySem.W.findIn K (.ref C) "__init__"=some (some (.ref fI)))(hfI:h.get? fI=some oI)(hfc:oI.cls=.type "function")(hq:∀ h' e,h.objs.size<=e->Heap.MadeExcOf h h' e (.ref C) [v]->wpAny (model prog w) (A.under (.builtin "type.__call__" ⟨[.ref C,v],[]⟩)) (call (.ref fI) [.ref e,v]) (fun r s'=>r=.none/\Q (.ref e) s') E ⟨h',g,d,t,os⟩):
  wpAny (model prog w) A (call (.ref C) [v]) Q E ⟨h,g,d,t,os⟩:=by
 have hB:=x.has C
 have hA:=x.noA C
 have hN:=x.noN C
 have f1:=tc_lookup
 have f2:=tc_bind (.ref C)
 have hT:(⟨h,g,d,t,os⟩:Shared).TypeIs (.ref C) "type":=⟨_,hC,rfl⟩
 refine wpAny_call (codeAny_of_tree ?_)
 show wpAny _ _ (callAny (.ref C) _) _ _ _
 repeat (any_goals (first | assumption | with_reducible refine wpAny_loadPart_at hC ?_ | wp_step))
 refine⟨rfl,?_⟩
 refine codeAny_call_builtin_at (Code.quiet_builtin _ (by decide +kernel)) entry_typeCall (wpAny_check_type_call_sub hC ?_)
 repeat (first | with_reducible refine wpAny_loadPart_at hC ?_ | with_reducible refine wpAny_madeBy_exc hC ?_ | wp_step)
 refine codeAny_call_builtin_code (Code.quiet_builtin _ FV.quiet) (Gfc x hC (Gwe x hC ?_))
 show wpAny _ _ _ _ _ _
 have kp:∀ b o,h.get? b=some o->((h.push { cls:=.type "tuple",data:=.seq #[v] }).push { cls:=.ref C,data:=.fields #[.ref h.objs.size,.none,.none,.none,.bool false,.none] }).get? b=some o:=fun b o e=>Heap.get?_push_of_some _ (Heap.get?_push_of_some _ e)
 have he:((h.push { cls:=.type "tuple",data:=.seq #[v] }).push { cls:=.ref C,data:=.fields #[.ref h.objs.size,.none,.none,.none,.bool false,.none] }).get? (h.objs.size+1)=some { cls:=.ref C,data:=.fields #[.ref h.objs.size,.none,.none,.none,.bool false,.none] }:=by heap_get
 have ht:((h.push { cls:=.type "tuple",data:=.seq #[v] }).push { cls:=.ref C,data:=.fields #[.ref h.objs.size,.none,.none,.none,.bool false,.none] }).get? h.objs.size=some { cls:=.type "tuple",data:=.seq #[v] }:=Heap.get?_push_of_some _ (Heap.get?_push_size _ rfl)
 have hC1:=kp _ _ hC
 have hf1:=kp _ _ hfI
 have X1:=X.keeps kp
 have hcC:(Value.ref C::bm).contains (.ref C)=true:=by simp
 have done:=hq _ (h.objs.size+1) (Nat.le_succ _) ⟨kp,Heap.get?_none_of_le (Nat.le_succ _),h.objs.size,he,Heap.get?_none_of_le (Nat.le_refl _),ht⟩
 generalize (h.push { cls:=.type "tuple",data:=.seq #[v] }).push { cls:=.ref C,data:=.fields #[.ref h.objs.size,.none,.none,.none,.bool false,.none] }=h1 at *
 unfold isInstance
 repeat (first | with_reducible refine wpAny_loadPart_at he ?_ | (with_reducible refine wpAny_isSubtype_exc hC1 ?_; rw[hcC]) | wp_step)
 show wpAny _ _ (typeLookup (.ref C) _) _ _ _
 refine(PySem.W.looks_findIn X1 hi).here ?_
 refine wpAny_holding (wpAny_bind ?_)
 unfold bindSpecial
 refine wpAny_bind (wpAny_typeOf (T:="function") ⟨_,hf1,hfc⟩ ?_)
 rw[if_pos (by decide)]
 refine wpAny_pure (wpAny_bind (wpAny_mono done (fun r s' hr=>?_) fun _ _ x=>x))
 obtain⟨rfl,hQ⟩:=hr
 wp_walk
 exact hQ
end
section
variable{M:Model}{A:Around}{E:Value->Shared->Prop}{env:PySem.Env}
variable{nm q:Str}{C N:Addr}{bs bm:List Value}{hdct:Bool}{sn:List Str}{sub:List Value}{ab:Bool}{col:Option Bool}{dd:Option Addr}{k0 k1 k2 k3 k5:Option Value}{newId:String}
def Wt(h:Heap)(e C:Addr)(dx:Option Addr):Prop:=∃ t:Addr,h.get? e=some { cls:=.ref C,dict:=dx,data:=.fields #[.ref t,.none,.none,.none,.bool false,.none] }
theorem Gag{s:Shared}{x:Sem Value}{Q:Flow->Shared->Prop}(hb:XB bm)(hh:A.handled=none)
  (h:wpAny M A x (fun v s₁=>∃ e dx,v=.ref e/\s₁.heap.get? C=some (excClassObj nm q C N bs bm hdct sn sub ab col dd k0 k1 k2 k3 k5 newId)/\Wt s₁.heap e C dx/\E (.ref e) s₁) E s):
  wpAny M A (raiseStmt env (some x) none) Q E s:=by
 have hB:(Value.ref C::bm).contains (.type "BaseException")=true:=by rw[List.contains_cons,hb.b,Bool.or_true]
 unfold raiseStmt
 refine wpAny_bind (wpAny_mono h (fun v s₁ h₁=>?_) fun _ _ x=>x)
 obtain⟨e,dx,rfl,hC,⟨t,he⟩,hE⟩:=h₁
 obtain⟨hp,g,d,tk,os⟩:=s₁
 repeat (first | with_reducible refine wpAny_loadPart_at he ?_ | with_reducible refine wpAny_loadPart_at hC ?_ | (with_reducible refine wpAny_isSubtype_exc hC ?_; rw[hB]) | wp_step)
 exact wpAny_raiseNew_none hh hE
theorem Gnu{s:Shared}{x:Str}{e1:Expr}{Q:Flow->Shared->Prop}(hb:XB bm)(hh:A.handled=none)(h:wpAny M A (eval (.Name x np) env) (fun f s₁=>f=.ref C/\wpAny M A (spliced (backTo cpos (starEach (e1::es) env))) (fun vs s₂=>
   s₂.heap.get? C=some (excClassObj nm q C N bs bm hdct sn sub ab col dd k0 k1 k2 k3 k5 newId)/\wpAny M A (call (.ref C) vs) (fun v s₃=>∃ e dx,v=.ref e∧
    s₃.heap.get? C=some (excClassObj nm q C N bs bm hdct sn sub ab col dd k0 k1 k2 k3 k5 newId)/\Wt s₃.heap e C dx/\E (.ref e) s₃) E s₂) E s₁) E s)(he:starEach (e1::es) env=(false,eval e1 env)::starEach es env:=by rfl)(hpl:(backTo cpos (starEach es env)).any (·.1)=false:=by rfl):
  wpAny M A (exec (.Raise (some (.Call (.Name x np) (e1::es) [] cpos)) none pos) env) Q E s:=by
 have plain:(backTo cpos (starEach (e1::es) env)).any (·.1)=false:=by
  rw[he]
  show(false||(backTo cpos (starEach es env)).any (·.1))=false
  rw[hpl]; rfl
 rw[arm_exec_Raise]
 have key:wpAny M A (eval (.Call (.Name x np) (e1::es) [] cpos) env) (fun v s₁=>∃ e dx,v=.ref e/\s₁.heap.get? C=some (excClassObj nm q C N bs bm hdct sn sub ab col dd k0 k1 k2 k3 k5 newId)/\Wt s₁.heap e C dx/\E (.ref e) s₁) E s:=by
  refine wpAny_Call_ofName (wpAny_mono h (fun f s₁ h₁=>?_) fun _ _ x=>x)
  obtain⟨rfl,h₁⟩:=h₁
  unfold callWith
  have ev:wpAny M A (evalArgs (.ref C) true (backTo cpos (starEach (e1::es) env)) []) (fun a s₂=>a.kw=[]/\s₂.heap.get? C=some (excClassObj nm q C N bs bm hdct sn sub ab col dd k0 k1 k2 k3 k5 newId)/\wpAny M A (call (.ref C) a.pos) (fun v s₃=>∃ e dx,v=.ref e∧
    s₃.heap.get? C=some (excClassObj nm q C N bs bm hdct sn sub ab col dd k0 k1 k2 k3 k5 newId)/\Wt s₃.heap e C dx/\E (.ref e) s₃) E s₂) E s₁:=by
   rw[he] at h₁ ⊢
   exact PySem.Calls.evalArgs_plain (wpAny_mono h₁ (fun vs s₂ z=>⟨rfl,z⟩) fun _ _ x=>x)
  refine wpAny_bind (wpAny_holding (wpAny_mono ev (fun a s₂ h₂=>wpAny_bind (wpAny_standAt ?_)) fun _ _ x=>x))
  obtain⟨ap,ak⟩:=a
  obtain⟨hk,hC,h₂⟩:=h₂
  obtain rfl:ak=[]:=hk
  obtain⟨hp,g,d,tk,os⟩:=s₂
  simp only[plain]
  refine wpAny_bind (wpAny_keeperOf_exc hC ?_)
  exact wpAny_bind (wpAny_mono h₂ (fun r s₃ hr=>wpAny_bind (wpAny_holding (wpAny_point (wpAny_pure hr)))) fun _ _ x=>x)
 first
  | exact wpAny_bind (wpAny_standAt (Gag hb hh (wpAny_bind (wpAny_mono key (fun v s₃ h₃=>wpAny_bind (wpAny_standAt (wpAny_pure h₃))) fun _ _ x=>x))))
  | (simp only[evalOpt,Option.map]; exact wpAny_bind (wpAny_standAt (Gag hb hh (wpAny_bind (wpAny_mono key (fun v s₃ h₃=>wpAny_bind (wpAny_standAt (wpAny_pure h₃))) fun _ _ x=>x)))))
end
def FX(e C:Addr)(dx:Option Addr):HO:=.ext fun h=>Wt h e C dx
theorem Gpy{e:Addr}(f:Wt h e C dx):Jw P w H h e (FX e C dx):=
 ⟨f,(let ⟨_,q⟩:=f; ⟨_,q⟩),fun _ _ ⟨t,q⟩ k=>⟨t,k _ q⟩⟩
theorem Gkh{a:Addr}{o:HO}(h:H a=some o):upd H a o=H:=by
 funext b
 by_cases c:b=a
 ·subst c; rw[Hj,h]
 ·rw[Gs c]
structure KX(K:PySem.W.Frag)(C:Addr):Prop where
 ex:∃ nm q N bs bm hdct sn sub ab col dd k0 k1 k2 k3 k5,K.lookup C=some (excClassObj nm q C N bs bm hdct sn sub ab col dd k0 k1 k2 k3 k5 "ValueError.__new__")/\XB bm
section
variable{X:Cx}
def tVI(K:PySem.W.Frag)(t:TA):TE:=fun σ H Q=>t σ H fun vs H1=>∃ e v C dx,vs=[.ref e,v]/\H1 e=some (FX e C dx)/\KX K C/\Q .non H1
theorem Gki{t:TA}{p:Pos}{pl:Sem Bool}(hg:Gl X "ValueError")(hm:X.mg "ValueError"=none)(ha:PA X [a,b] t)(ht:eval (.Call (.Attribute (.Name "ValueError" p) "__init__" apos) [a,b] [] pos) X.env=(do
   let ov <- eval (.Name "ValueError" p) X.env
   standAt apos.atName
   let (f,first) <- holding [ov] (getMethod ov "__init__" pl)
   callWith pos f first (backTo pos (starEach [a,b] X.env)) (backToKw pos (keywordEach [] X.env))))(hs:starEach [a,b] X.env=(false,eval a X.env)::starEach [b] X.env:=by rfl)(hpl:(backTo pos (starEach [b] X.env)).any (·.1)=false:=by rfl):
  PE X (.Call (.Attribute (.Name "ValueError" p) "__init__" apos) [a,b] [] pos) (tVI X.K t):=by
 intro pins s σ H Q I h
 refine PySem.W.methodCall_KW (pl:=pl) (Yh I hg hm (by rfl) ?_ (by decide) (by decide)) ht
 refine Gns I.kIn ?_
 have hA:=ha pos pins { s with toks:=s.toks+1 } σ H _ (I.tok _) h
 show wpAny _ _ (callWith pos (.builtin "ValueError.__init__") [] (backTo pos (starEach [a,b] X.env)) _) _ _ _
 rw[hs] at hA ⊢
 refine Calls.callWith_builtin (by show(false||(backTo pos (starEach [b] X.env)).any (·.1))=false; rw[hpl]<;>rfl) (Calls.evalArgs_plain ?_)
 refine thn hA fun us s2 ⟨vs,H2,I2,r2,e,v,C,dx,ev,hH,kx,q⟩=>?_
 subst ev
 cases r2 with
 | cons ra rb=>
  cases rb with
  | cons rv rn=>
   cases rn
   cases ra
   obtain⟨nm,qn,N,bs,bm,hdct,sn,sub,ab,col,dd,k0,k1,k2,k3,k5,lk,xb⟩:=kx.ex
   have hC:=I2.kIn _ _ lk
   obtain⟨⟨t0,he⟩,_,_⟩:=(show Jw X.prog X.w H2 s2.heap e (FX e C dx) from I2.hok e _ hH)
   obtain⟨hp,g,d,tk,os⟩:=s2
   refine Gnt xb hC he fun h' e1 k1' _=>?_
   have I3:=I2.write (h':=h') (x:=e) (e:=e) (o:=FX e C dx) (t':=tk) (by rw[hH]; exact trivial) (.inl rfl) (fun b u hb hu=>k1' b u hb hu) ⟨_,e1⟩ (Gpy ⟨_,e1⟩)
   rw[Gkh hH] at I3
   exact⟨.non,H2,I3,rfl,q⟩
end
def spI(K:PySem.W.Frag):Sp:=fun vs H Q _=>∃ e v C dx,vs=[.ref e,v]/\H e=some (FX e C dx)/\KX K C/\Q .non H
section
variable{X:Cx}{pins:List (Addr×Obj)}{σ:L2.St}{H:Hp}{s:Shared}{C f:Addr}{fd:FuncData}{ps:List Str}{k:Nat}
theorem Gwf{v:V}{u:Value}(kx:KX X.K C)(hi:PySem.W.findIn X.K (.ref C) "__init__"=some (some (.ref f)))(lf:X.K.lookup f=some oI)(hfc:oI.cls=.type "function")(F:FnOk X.prog X.w X.K X.mg X.base CX0 k f fd ps (spI X.K))(hl:ps.length=2)(hr:Room (k+1) X.A)(hb:Binds X.K fd ps [])(I:Inv X pins σ H s)(rv:He v u):
  wpAny (model X.prog X.w) X.A (call (.ref C) [u]) (fun r s'=>∃ e,r=.ref e/\(H e=none/\X.s₀.heap.get? e=none)/\Inv X pins σ (upd H e (FX e C none)) s') X.xe s:=by
 obtain⟨nm,qn,N,bs,bm,hdct,sn,sub,ab,col,dd,k0,k1,k2,k3,k5,lk,xb⟩:=kx.ex
 obtain⟨hp,g,d,tk,os⟩:=s
 refine Gte xb I.kIn (I.kIn _ _ lk) hi (I.kIn _ _ lf) hfc fun h' e le hm=>?_
 have hn:H e=none:=I.hok.fresh le
 have h0:X.s₀.heap.get? e=none:=Heap.get?_none_of_le (Nat.le_trans I.sz le)
 obtain⟨t,ht,_,_⟩:=hm.there
 have I1:Inv X pins σ (upd H e (FX e C none)) ⟨h',g,d,tk,os⟩:=I.laid (t':=tk) hm.keeps le (Gpy ⟨t,ht⟩)
 refine wpAny_call (codeAny_mono (F.run (X.A.under (.builtin "type.__call__" ⟨[.ref C,u],[]⟩)) X.stack ⟨h',g,d,tk,os⟩ (upd H e (FX e C none)) ⟨[.ref e,u],[]⟩ [.ref e,u] [.ref e,v] (fun v' H'=>v'=.non/\H'=upd H e (FX e C none)) E0
  (hr.make C [u] []) (I1.env0.make C [u] []) (by have:=hb ⟨h',g,d,tk,os⟩ [.ref e,u] I1.kIn (by simpa using hl.symm); simpa using this) (.cons rfl (.cons rv .nil)) ⟨e,v,C,none,rfl,Hj,kx,rfl,rfl⟩) fun r s' hq=>?_)
 cases r with
 | error x=>exact hq.elim
 | ok fl=>
  cases fl with
  | ret u'=>
   obtain⟨v',H',I',r',e1,e2⟩:=I1.after hq
   subst e1 e2
   exact⟨r',e,rfl,⟨hn,h0⟩,I'⟩
  | next=>exact hq.elim
  | brk=>exact hq.elim
  | cont=>exact hq.elim
def tRz(C:Addr)(W:L2.St->Hp->Addr->Prop)(t:TA):TS:=fun _ σ H=>t σ H fun vs H1=>∃ v,vs=[v]/\∀ e,H1 e=none->W σ (upd H1 e (FX e C none)) e
theorem Gkj{W:L2.St->Hp->Addr->Prop}{x:Str}{t:TA}(hW:∀ (pins:List (Addr×Obj)) (σ:L2.St) (H:Hp) (e:Addr) (s':Shared),Inv X pins σ H s'->H e=some (FX e C none)->X.s₀.heap.get? e=none->W σ H e->X.xe (.ref e) s')(hcm:X.calm=true)(hg:Gl X x)(hm:X.mg x=some (.ref C))(kx:KX X.K C)(hi:PySem.W.findIn X.K (.ref C) "__init__"=some (some (.ref f)))(lf:X.K.lookup f=some oI)(hfc:oI.cls=.type "function")(F:FnOk X.prog X.w X.K X.mg X.base CX0 k f fd ps (spI X.K))(hl:ps.length=2)(hr:Room (k+1) X.A)(hb:Binds X.K fd ps [])(ha:PA X [a] t)(hdb:(x==("__debug__":Str))=false:=by decide)(he:starEach [a] X.env=(false,eval a X.env)::starEach [] X.env:=by rfl)(hpl:(backTo cpos (starEach [] X.env)).any (·.1)=false:=by rfl):
  PS X (.Raise (some (.Call (.Name x np) [a] [] cpos)) none pos) (tRz C W t):=by
 intro pins s σ H D I h
 obtain⟨nm,qn,N,bs,bm,hdct,sn,sub,ab,col,dd,k0,k1,k2,k3,k5,lk,xb⟩:=id kx.ex
 refine Gnu (C:=C) (nm:=nm) (q:=qn) (N:=N) (bs:=bs) (bm:=bm) (hdct:=hdct) (sn:=sn) (sub:=sub) (ab:=ab) (col:=col) (dd:=dd) (k0:=k0) (k1:=k1) (k2:=k2) (k3:=k3) (k5:=k5) (newId:="ValueError.__new__") xb (I.ok.hd hcm) (Xo I hg hm ⟨rfl,?_⟩ hdb) he hpl
 refine thn (ha cpos pins s σ H _ I h) fun us s1 ⟨vs,H1,I1,r1,v,ev,q⟩=>⟨I1.kIn _ _ lk,?_⟩
 subst ev
 obtain⟨u,rfl,rv⟩:=Ge3 r1
 refine thn (Gwf kx hi lf hfc F hl hr hb I1 rv) fun r s2 ⟨e,er,⟨hn,h0⟩,I2⟩=>?_
 subst er
 have hH:upd H1 e (FX e C none) e=some (FX e C none):=Hj
 obtain⟨fr,_,_⟩:=(show Jw X.prog X.w _ s2.heap e (FX e C none) from I2.hok e _ hH)
 exact⟨e,none,rfl,I2.kIn _ _ lk,fr,hW pins σ _ e s2 I2 hH h0 (q e hn)⟩
end
def Zp(h:Heap)(e C:Addr)(dx:Option Addr):Prop:=∃ t c k u:Value,h.get? e=some { cls:=.ref C,dict:=dx,data:=.fields #[t,.none,c,k,u,.none] }/\(dx=none->c=.none)
theorem Wt.g{e:Addr}(f:Wt h e C dx):Zp h e C dx:=by
 obtain⟨t,q⟩:=f
 exact⟨_,_,_,_,q,fun _=>rfl⟩
def Gtf(fl:Value)(h:Heap)(a T C:Addr)(dx:Option Addr):Prop:=∃ oe vs oT ts a0,h.get? a=some oe/\(oe.cls=.ref C/\oe.dict=dx/\vs[0]?=some a0/\(dx=none->vs[2]?=some .none))/\oe.data=.fields vs/\vs[1]?=some (.ref T)/\T≠a/\h.get? T=some oT/\oT.data=.fields ts/\ts[3]?=some fl
abbrev Fly:=Gtf .none
section
variable{M:Model}{A:Around}{E:Value->Shared->Prop}{s:Shared}{Q:Unit->Shared->Prop}{env:PySem.Env}{outer:List PySem.Env}{L:Addr}{base:Heap}
theorem Gfd{l:List PySem.Env}{a:Addr}{o:Obj}(hl:h.FunFrames base l)(e:h.get? a=some o)(d:o.data=.fields vs):a∉frs l:=fun hm=>by
 obtain⟨_,o',e',nf⟩:=hl.mem hm
 rw[e] at e'
 cases e'
 exact nf vs d
structure Left(fs:List Addr)(no:List Addr)(h h':Heap):Prop where
 keep:∀ b o,b∉fs->b∉no->h.get? b=some o->h'.get? b=some o
 slot:∀ b o,b∈fs->h.get? b=some o->∃ sl,h'.get? b=some { o with slots:=sl }
theorem Gnv(f:Array Value->Array Value)(o:Obj):(Obj.mapFields f o).dict=o.dict:=by
 obtain⟨c,d,dt,sl⟩:=o
 cases dt<;>rfl
theorem Gwg{e:Addr}{oe:Obj}{head a0:Value}{hn:Bool}(hfr:A.frames=some (env::outer))(hl:s.heap.FunFrames base (env::outer))(hf:env.frame=some L)(he:s.heap.get? e=some oe)(hc:oe.cls=.ref C/\oe.dict=dx)(hd:oe.data=.fields vs)(hz:1<vs.size)(h0:vs[0]?=some a0/\(dx=none->vs[2]?=some .none))(hq:∀ h' T,Gtf (rawInt L) h' e T C dx->s.heap.get? T=none->Left (frs (env::outer)) [e] s.heap h'->Q () { s with heap:=h' }):
  wpAny M A (frameOf env >>= fun a=>entryPlaceOf L hn >>= fun pl=>EntryCells.newEntry head a .none (rawInt L) .none pl >>= fun b=>setField (.ref e) 1 b) Q E s:=by
 have nf:=Gfd hl he hd
 refine wpAny_bind (wpAny_frameOf_fun hfr hl hf fun h1 so=>wpAny_bind (wpAny_entryPlaceOf fun pl ip=>?_))
 obtain⟨sz,so1,so2⟩:=so
 have g1:h1.get? e=some oe:=(so1 e nf).trans he
 unfold EntryCells.newEntry newFields
 refine wpAny_bind (wpAny_newObj_type ?_ (ip.sizeOk5 _ _ _ _ _))
 generalize hT:({ cls:=.type "traceback",dict:=none,data:=.fields ([head,.ref L,.none,rawInt L,.none]++(if pl.isEmpty then List.replicate 6 Value.none else pl)).toArray }:Obj)=oT
 have g2:=Heap.get?_push_of_some (h:=h1) oT g1
 have nT:h1.objs.size≠e:=Nat.ne_of_gt (Heap.lt_size g1)
 refine wpAny_setField g2 hd hz ?_
 have d3:=Obj.data_mapFields hd (·.setIfInBounds 1 (Value.ref h1.objs.size))
 have g3:=Heap.get?_update_self (Obj.mapFields (·.setIfInBounds 1 (Value.ref h1.objs.size))) g2 (Obj.isFreed_of_fields d3)
 have t3:((h1.push oT).update e (Obj.mapFields (·.setIfInBounds 1 (Value.ref h1.objs.size)))).get? h1.objs.size=some oT:=(Heap.get?_update_other _ _ (Ne.symm nT)).trans (Heap.get?_push_size h1 (by rw[<- hT]; rfl))
 have kp:∀ b o,b≠e->h1.get? b=some o->((h1.push oT).update e (Obj.mapFields (·.setIfInBounds 1 (Value.ref h1.objs.size)))).get? b=some o:=fun b o hb q=>by
  rw[Heap.get?_update_other _ _ (Ne.symm hb)]
  exact Heap.get?_push_of_some _ q
 refine hq _ h1.objs.size ⟨_,_,oT,_,a0,g3,⟨(Obj.cls_mapFields _ _).trans hc.1,?_,?_⟩,d3,by simp[hz],nT,t3,by rw[<- hT],?_⟩ ?_ ⟨fun b o hb hn q=>kp b o (by simpa using hn) ((so1 b hb).trans q),fun b o hb q=>?_⟩
 ·rw[<- hc.2]
  exact Gnv _ _
 ·rw[Array.getElem?_setIfInBounds_ne (by decide),Array.getElem?_setIfInBounds_ne (by decide)]; exact h0
 ·first | (simp; done) | (rcases ip with rfl | ⟨_,_,_,_,_,_,_,rfl⟩<;>simp)
 ·exact Heap.get?_none_of_le (by rw[sz]; exact Nat.le_refl _)
 ·obtain⟨sl,q'⟩:=so2 b o q
  exact⟨sl,kp b _ (fun z=>nf (by rw[<- z]; exact hb)) q'⟩
theorem fltD{e:Addr}{fl:Value}(f:Gtf fl s.heap e T C dx)(hq:∀ h',Fly h' e T C dx->(∀ b o,b≠T->s.heap.get? b=some o->h'.get? b=some o)->Q () { s with heap:=h' }):wpAny M A (setFlight (.ref e) none) Q E s:=by
 obtain⟨oe,vs,oT,ts,a0,e1,e2,e3,e4,e5,e6,e7,e8⟩:=f
 have h3:3<ts.size:=(Array.getElem?_eq_some_iff.mp e8).1
 refine wpAny_setFlight_none e1 e3 e4 e6 e7 h3 (hq _ ⟨oe,vs,_,_,a0,by rw[Heap.get?_update_other _ _ e5]; exact e1,e2,e3,e4,e5,Heap.get?_update_self _ e6 (Obj.isFreed_of_fields (Obj.data_mapFields e7 _)),Obj.data_mapFields e7 _,by simp[h3]⟩ fun b o hb q=>by rw[Heap.get?_update_other _ _ (Ne.symm hb)]; exact q)
theorem Gpz{e:Addr}(hfr:A.frames=some (env::outer))(hl:s.heap.FunFrames base (env::outer))(hf:env.frame=some L)(fx:Zp s.heap e C dx)(hq:∀ h' T,Fly h' e T C dx->s.heap.get? T=none->Left (frs (env::outer)) [e] s.heap h'->Q () { s with heap:=h' }):wpAny M A (noteFrame (.ref e) env) (fun _ s₂=>wpAny M A (setFlight (.ref e) none) Q E s₂) E s:=by
 obtain⟨t,c,k,u,he,hc⟩:=fx
 unfold noteFrame
 simp only[hf]
 refine wpAny_bind (wpAny_field he rfl rfl ?_)
 show wpAny M A (if(Value.none != Value.none)=true then _ else _) _ _ _
 rw[if_neg (show¬ ((Value.none != Value.none)=true) from by decide)]
 refine Gwg hfr hl hf he ⟨rfl,rfl⟩ rfl (by simp) ⟨rfl,fun z=>by rw[hc z]; rfl⟩ fun h1 T f1 hT lf=>fltD (s:={ s with heap:=h1 }) f1 fun h' f2 kp=>hq h' T f2 hT ⟨fun b o hb hn q=>kp b o (fun z=>by rw[z,hT] at q; cases q) (lf.keep b o hb hn q),fun b o hb q=>?_⟩
 obtain⟨sl,q'⟩:=lf.slot b o hb q
 exact⟨sl,kp b _ (fun z=>by rw[z,hT] at q; cases q) q'⟩
theorem Gp0{a:Addr}(hfr:A.frames=some (env::outer))(hl:s.heap.FunFrames base (env::outer))(hf:env.frame=some L)(fl:Fly s.heap a T C dx)(hq:∀ h' T',Fly h' a T' C dx->(s.heap.get? T'=none\/T'=T)->Left (frs (env::outer)) [a,T] s.heap h'->Q () { s with heap:=h' }):wpAny M A (noteFrame (.ref a) env) (fun _ s₂=>wpAny M A (setFlight (.ref a) none) Q E s₂) E s:=by
 obtain⟨oe,vs,oT,ts,a0,e1,⟨c1,c2,c3⟩,e3,e4,e5,e6,e7,e8⟩:=fl
 have h3:3<ts.size:=(Array.getElem?_eq_some_iff.mp e8).1
 have nfT:=Gfd hl e6 e7
 unfold noteFrame
 simp only[hf]
 refine wpAny_bind (wpAny_field e1 e3 e4 ?_)
 rw[if_pos (show(Value.ref T != Value.none)=true from by simp)]
 refine wpAny_bind (wpAny_field e6 e7 e8 ?_)
 rw[if_neg (show¬ ((Value.none==rawInt L)=true) from by simp[rawInt])]
 refine wpAny_bind (wpAny_setField e6 e7 h3 ?_)
 have ot:∀ b,b≠T->(s.heap.update T (Obj.mapFields (·.setIfInBounds 3 Value.none))).get? b=s.heap.get? b:=fun b hb=>Heap.get?_update_other _ _ (Ne.symm hb)
 have tt:=Heap.get?_update_self (Obj.mapFields (·.setIfInBounds 3 Value.none)) e6 (Obj.isFreed_of_fields (Obj.data_mapFields e7 _))
 have hl2:(s.heap.update T (Obj.mapFields (·.setIfInBounds 3 Value.none))).FunFrames base (env::outer):=hl.of_keeps fun b o q nf=>⟨o,(ot b fun z=>by rw[z,e6] at q; cases q; exact nf ts e7).trans q,rfl⟩
 refine Gwg (s:={ s with heap:=s.heap.update T (Obj.mapFields (·.setIfInBounds 3 Value.none)) }) hfr hl2 hf ((ot a (Ne.symm e5)).trans e1) ⟨c1,c2⟩ e3 (Array.getElem?_eq_some_iff.mp e4).1 c3 fun h1 T1 f1 hT lf=>fltD (s:={ s with heap:=h1 }) f1 fun h' f2 kp=>hq h' T1 f2 (.inl ?_) ⟨fun b o hb hn q=>?_,fun b o hb q=>?_⟩
 ·cases z:s.heap.get? T1 with
  | none=>rfl
  | some o=>
   by_cases c:T1=T
   ·rw[c] at hT
    rw[show(s.heap.update T (Obj.mapFields (·.setIfInBounds 3 Value.none))).get? T=_ from tt] at hT
    cases hT
   ·rw[show(s.heap.update T (Obj.mapFields (·.setIfInBounds 3 Value.none))).get? T1=_ from ot T1 c,z] at hT
    cases hT
 ·simp only[List.mem_cons,List.not_mem_nil,or_false,not_or] at hn
  have q1:(s.heap.update T (Obj.mapFields (·.setIfInBounds 3 Value.none))).get? b=some o:=(ot b hn.2).trans q
  exact kp b o (fun z=>by rw[z] at q1; rw[show _=none from hT] at q1; cases q1) (lf.keep b o hb (by simpa using hn.1) q1)
 ·have nb:b≠T:=fun z=>nfT (by rw[<- z]; exact hb)
  have q1:(s.heap.update T (Obj.mapFields (·.setIfInBounds 3 Value.none))).get? b=some o:=(ot b nb).trans q
  obtain⟨sl,q'⟩:=lf.slot b o hb q1
  exact⟨sl,kp b _ (fun z=>by rw[z] at q1; rw[show _=none from hT] at q1; cases q1) q'⟩
theorem Gtg{e:Addr}(hfr:A.frames=some (env::outer))(hl:s.heap.FunFrames base (env::outer))(hf:env.frame=some L)(fx:Zp s.heap e C dx)(hq:∀ h' T,Fly h' e T C dx->s.heap.get? T=none->Left (frs (env::outer)) [e] s.heap h'->Q () { s with heap:=h' }):wpAny M A (leaving env (.ref e)) Q E s:=by
 unfold leaving
 exact wpAny_bind (Gpz hfr hl hf fx hq)
theorem Gth{a:Addr}(hfr:A.frames=some (env::outer))(hl:s.heap.FunFrames base (env::outer))(hf:env.frame=some L)(fl:Fly s.heap a T C dx)(hq:∀ h' T',Fly h' a T' C dx->(s.heap.get? T'=none\/T'=T)->Left (frs (env::outer)) [a,T] s.heap h'->Q () { s with heap:=h' }):wpAny M A (leaving env (.ref a)) Q E s:=by
 unfold leaving
 exact wpAny_bind (Gp0 hfr hl hf fl hq)
end
def del(H:Hp)(a:Addr):Hp:=fun b=>if b=a then none else H b
theorem Kz{a:Addr}:del H a a=none:=if_pos rfl
theorem Qd{a b:Addr}(h:b≠a):del H a b=H b:=if_neg h
theorem Gij{a:Addr}{o:HO}(x:Jw P w H h a o):∃ u,h.get? a=some u:=by
 cases o with
 | lst xs=>obtain⟨_,_,_,_,e⟩:=x; exact⟨_,e⟩
 | tup xs=>obtain⟨_,_,_,ob,e,_⟩:=x; exact⟨_,e⟩
 | dK kvs=>obtain⟨_,_,_,_,o,_,_,e,_⟩:=x; exact⟨_,e⟩
 | dT kvs=>obtain⟨_,_,_,_,o,_,_,e,_⟩:=x; exact⟨_,e⟩
 | set S n=>obtain⟨o,_,_,_,e,_⟩:=x; exact⟨_,e⟩
 | ins C dx fs=>obtain⟨_,_,_,e,_⟩:=x; exact⟨_,e⟩
 | own y=>obtain⟨_,e⟩:=x; exact⟨_,e⟩
 | xd fs=>obtain⟨_,⟨_,_,_,e,_⟩,_⟩:=x; exact⟨_,e⟩
 | rng lo hi=>obtain⟨_,_,_,e⟩:=x; exact⟨_,e⟩
 | frz ob u=>obtain⟨e,_⟩:=x; exact⟨_,e⟩
 | tbl ps=>exact⟨_,(show h.get? a=some _ from x)⟩
 | met f y=>exact⟨_,(show h.get? a=some _ from x)⟩
 | ext φ=>obtain⟨_,⟨_,e⟩,_⟩:=x; exact⟨_,e⟩
theorem Yt{a:Addr}(k:HOk P w H h)(e:h.get? a=none):H a=none:=by
 cases z:H a with
 | none=>rfl
 | some o=>
  obtain⟨u,q⟩:=Gij (k a o z)
  rw[e] at q
  cases q
def CXe(P:Program)(w:World):CXT:=fun outer H s E e s'=>∃ a T C dx H',e=.ref a/\s'.os=s.os/\AllBare s'.gens/\Un (frs outer) [] H H' s.heap s'.heap/\HOk P w H' s'.heap/\Fly s'.heap a T C dx/\(H' a=none/\H' T=none)/\(s.heap.get? a=none/\s.heap.get? T=none)/\E (.ref C) dx H'
theorem hok_left{h':Heap}{fs no:List Addr}(k:HOk P w H h)(l:Left fs no h h')(hf:∀ b∈fs,H b=none)(hn:∀ b∈no,H b=none):HOk P w H h':=fun b o e=>by
 refine(k b o e).stay (fun c u hc q=>l.keep c u (fun z=>?_) (fun z=>?_) q) (fun _ q=>q) fun _ _ q=>q
 ·have:=hf c z
  rcases hc with rfl | hc
  ·rw[e] at this; cases this
  ·rw[hc] at this; cases this
 ·have:=hn c z
  rcases hc with rfl | hc
  ·rw[e] at this; cases this
  ·rw[hc] at this; cases this
theorem Ghd{a:Addr}(k:HOk P w H h)(ha:H a=some (.ext φ)):HOk P w (del H a) h:=fun b o e=>by
 have nb:b≠a:=fun z=>by rw[z,Kz] at e; cases e
 rw[Qd nb] at e
 refine(k b o e).stay (fun c u _ q=>q) (fun c q=>?_) fun c xs q=>?_
 ·rw[Qd (fun z=>by rw[z,ha] at q; cases q)]; exact q
 ·rw[Qd (fun z=>by rw[z,ha] at q; cases q)]; exact q
theorem Ghe{fs no:List Addr}{L:Addr}{H':Hp}{h1 h2:Heap}(u:Un fs [] H H1 h h1)(l:Left (L::fs) no h1 h2)(hL:h.get? L=none)(hno:∀ b∈no,h.get? b=none)(fr:∀ b,H1 b=none->H' b=none)(tp:∀ b xs,H1 b=some (.tup xs)->H' b=some (.tup xs))(fz:∀ b o v,H1 b=some (.frz o v)->H' b=some (.frz o v))(tb:∀ b ps,H1 b=some (.tbl ps)->H' b=some (.tbl ps)):Un fs [] H H' h h2:=by
 have nL:∀ b o,h.get? b=some o->b≠L:=fun b o e z=>by rw[z,hL] at e; cases e
 have nN:∀ b o,h.get? b=some o->b∉no:=fun b o e z=>by rw[hno b z] at e; cases e
 refine⟨fun b o e n hb hx=>?_,fun b o e n hb hx=>?_,fun b o e n hx=>fr b (u.free b o e n hx),fun b o e hx=>?_,fun b xs e=>tp b xs (u.tups b xs e),fun b o v e=>fz b o v (u.frzs b o v e),fun b ps e=>?_⟩
 ·refine l.keep b o (fun z=>?_) (nN b o e) (u.keep b o e n hb hx)
  rcases List.mem_cons.mp z with z | z
  ·exact nL b o e z
  ·exact hb z
 ·obtain⟨sl,q⟩:=u.slot b o e n hb hx
  obtain⟨sl',q'⟩:=l.slot b _ (List.mem_cons_of_mem _ hb) q
  exact⟨sl',q'⟩
 ·obtain⟨o',q⟩:=u.there b o e hx
  by_cases c:b∈L::fs
  ·obtain⟨sl,q'⟩:=l.slot b o' c q
   exact⟨_,q'⟩
  ·exact⟨o',l.keep b o' c (nN b o e) q⟩
 ·obtain⟨more,q⟩:=u.tbls b ps e
  exact⟨more,tb b _ q⟩
section
variable{P:Program}{w:World}{K:PySem.W.Frag}{mg:Str->Option Value}{base:Heap}{N:List Str}{qual:Str}{scope:Scope}{f:Addr}{cd:Value}{A:Around}{outer:List PySem.Env}{s:Shared}{H:Hp}{E:XK}
theorem Wu{fs:List Addr}{H0:Hp}{h0 h1:Heap}{b:Addr}(u:Un fs [] H0 H1 h0 h1)(e:h1.get? b=none):h0.get? b=none:=by
 cases z:h0.get? b with
 | none=>rfl
 | some o=>
  obtain⟨o',q⟩:=u.there b o z (by simp)
  rw[e] at q
  cases q
theorem Gkk{s1:Shared}{e:Addr}(I:Inv (Kq (CXe P w) P w K mg base N qual scope f cd A outer s H E) pins σ H1 s1)(hH:H1 e=some (.ext φ))(fr:Zp s1.heap e C dx)(le:s.heap.get? e=none)(hE:E (.ref C) dx (del H1 e)):
  (Kq (CXe P w) P w K mg base N qual scope f cd A outer s H E).xe (.ref e) s1:=by
 show wpAny (model P w) _ (leaving (envOfC qual scope s.heap.objs.size f cd) (.ref e)) _ _ s1
 have hL:s.heap.get? s.heap.objs.size=none:=Heap.get?_none_of_le (Nat.le_refl _)
 refine Gtg (base:=base) I.ok.frames I.stack rfl fr fun h' T fl hT lf=>?_
 have hT1:H1 T=none:=Yt I.hok hT
 have dn:∀ b,H1 b=none->del H1 e b=none:=fun b q=>by
  by_cases c:b=e
  ·rw[c,Kz]
  ·rw[Qd c]; exact q
 have ne_of_kind:∀ {b:Addr} {o:HO},H1 b=some o->o≠.ext φ->b≠e:=fun q n z=>n (by rw[z,hH] at q; exact(Option.some.inj q).symm)
 refine⟨e,T,C,dx,del H1 e,rfl,I.os,I.bare,Ghe (L:=s.heap.objs.size) I.base lf hL (fun b hb=>?_) dn (fun b xs q=>?_) (fun b o v q=>?_) (fun b ps q=>?_),hok_left (Ghd I.hok hH) lf (fun b hb=>dn b (I.stkFree b hb)) (fun b hb=>?_),fl,⟨Kz,dn T hT1⟩,⟨le,Wu I.base hT⟩,hE⟩
 ·have:b=e:=by simpa using hb
  rw[this]; exact le
 ·rw[Qd (ne_of_kind q (by intro z; cases z))]; exact q
 ·rw[Qd (ne_of_kind q (by intro z; cases z))]; exact q
 ·rw[Qd (ne_of_kind q (by intro z; cases z))]; exact q
 ·have:b=e:=by simpa using hb
  rw[this]; exact Kz
theorem xe_on{s3:Shared}{e:Value}{E2:XK}(I:Inv (Kq (CXe P w) P w K mg base N qual scope f cd A outer s H E) pins σ H2 s2)(hx:CXe P w (Kq (CXe P w) P w K mg base N qual scope f cd A outer s H E).stack H2 s2 E2 e s3)(hE:∀ C dx H',E2 (.ref C) dx H'->E (.ref C) dx H'):
  (Kq (CXe P w) P w K mg base N qual scope f cd A outer s H E).xe e s3:=by
 obtain⟨a,T,C,dx,H',rfl,os,bare,un,hok,fly,⟨na,nT⟩,⟨oa,oT⟩,hE2⟩:=hx
 obtain⟨h3,g3,d3,t3,o3⟩:=s3
 obtain rfl:o3=s2.os:=os
 have I3:Inv (Kq (CXe P w) P w K mg base N qual scope f cd A outer s H E) pins σ H' { s2 with heap:=h3,gens:=g3,drawn:=d3,toks:=t3 }:=I.call (h':=h3) (g':=g3) (d':=d3) (t':=t3) (ch:=[]) un hok bare (fun b z=>absurd z (by simp))
 show wpAny (model P w) _ (leaving (envOfC qual scope s.heap.objs.size f cd) (.ref a)) _ _ _
 have hL:s.heap.get? s.heap.objs.size=none:=Heap.get?_none_of_le (Nat.le_refl _)
 have a0:s.heap.get? a=none:=Wu I.base oa
 have T0:s.heap.get? T=none:=Wu I.base oT
 refine Gth (base:=base) I3.ok.frames I3.stack rfl fly fun h' T' fl hT lf=>?_
 have nT':H' T'=none:=by
  rcases hT with hT | rfl
  ·exact Yt hok hT
  ·exact nT
 have oT':s.heap.get? T'=none:=by
  rcases hT with hT | rfl
  ·exact Wu I3.base hT
  ·exact T0
 refine⟨a,T',C,dx,H',rfl,I3.os,bare,Ghe (L:=s.heap.objs.size) I3.base lf hL (fun b hb=>?_) (fun b q=>q) (fun b xs q=>q) (fun b o v q=>q) (fun b ps q=>q),hok_left hok lf (fun b hb=>I3.stkFree b hb) (fun b hb=>?_),fl,⟨na,nT'⟩,⟨a0,oT'⟩,hE _ _ _ hE2⟩
 ·simp only[List.mem_cons,List.not_mem_nil,or_false] at hb
  rcases hb with rfl | rfl
  ·exact a0
  ·exact T0
 ·simp only[List.mem_cons,List.not_mem_nil,or_false] at hb
  rcases hb with rfl | rfl
  ·exact na
  ·exact nT
end
def XF(H:Hp)(dx:Option Addr)(fl:Option Int):Prop:=(∀ i,fl=some i->∃ d,dx=some d/\H d=some (XA d i))/\(fl=none->dx=none)
theorem Gnw:XF H none none:=⟨fun _ z=>(nomatch z),fun _=>rfl⟩
def WX(K:PySem.W.Frag)(XQ:XW)(σ:L2.St)(C:Addr)(dx:Option Addr)(H:Hp):Prop:=∃ x mp ρ S,XF H dx x.fld/\CN K x.cls C/\XQ x mp H σ ρ S
structure XL(X:Cx)(XQ:XW):Prop where
 own:∀ (pins:List (Addr×Obj)) (σ:L2.St) (H:Hp) (s:Shared) (e C:Addr) (dx:Option Addr) (φ:Heap->Prop),Inv X pins σ H s->H e=some (.ext φ)->Zp s.heap e C dx->X.s₀.heap.get? e=none->WX X.K XQ σ C dx (del H e)->X.xe (.ref e) s
 cal:∀ (pins:List (Addr×Obj)) (σ:L2.St) (H:Hp) (s:Shared) (e:Value) (s':Shared) (E2:XK),Inv X pins σ H s->CXe X.prog X.w X.stack H s E2 e s'->(∀ C dx H',E2 (.ref C) dx H'->WX X.K XQ σ C dx H')->X.xe e s'
 pas:PassesOwn (model X.prog X.w) X.A X.env X.xe
 pat:∀ hd,PassesOwnAt (model X.prog X.w) (X.A.mark hd) X.A X.env X.xe
theorem XL.own1(L:XL X XQ)(pins:List (Addr×Obj))(σ:L2.St)(H:Hp)(s:Shared)(e C:Addr)(dx:Option Addr)(I:Inv X pins σ H s)(hH:H e=some (FX e C dx))(h0:X.s₀.heap.get? e=none)(w:WX X.K XQ σ C dx (del H e)):X.xe (.ref e) s:=by
 obtain⟨fr,_,_⟩:=(show Jw X.prog X.w H s.heap e (FX e C dx) from I.hok e _ hH)
 exact L.own pins σ H s e C dx _ I hH fr.g h0 w
def Gwh(K:PySem.W.Frag)(mp:List Addr)(H:Hp)(o:Out D)(Q:VK)(E:XK):Prop:=
 match o with
 | .ok d S=>∀ mp' H' v,Aft K mp H mp' H'->RS K mp' H' S->Rep K mp' H' d v->Q v H'
 | .exc x S=>∃ C,CN K x.cls C/\∀ mp' H' dx,Aft K mp H mp' H'->RS K mp' H' S->XF H' dx x.fld->E (.ref C) dx H'
 | .bad=>False
def spX(K:PySem.W.Frag)(n:Nat)(fn:Fn):Sp:=fun vs H Q E=>∃ mp ds S,RS K mp H S/\RepL K mp H ds vs/\ds.length=n/\Gwh K mp H (fn ds S) Q E
def XQd(K:PySem.W.Frag)(E:XK):XW:=fun x _ H _ _ _=>∃ C,CN K x.cls C/\∀ dx,XF H dx x.fld->E (.ref C) dx H
section
variable{P:Program}{w:World}{K:PySem.W.Frag}{mg:Str->Option Value}{base:Heap}
theorem Gkl{f:Addr}{cd:Value}{outer:List PySem.Env}{s:Shared}{E:XK}:XL (Kq (CXe P w) P w K mg base N qual scope f cd A outer s H E) (XQd K E) where
 own:=fun pins σ H1 s1 e C dx φ I hH fr le ⟨x,mp,ρ,S,xf,hc,C',hc',hE⟩=>by
  cases CN.one hc hc'
  exact Gkk I hH fr le (hE dx xf)
 cal:=fun pins σ H2 s2 e s3 E2 I hx hE=>xe_on I hx fun C dx H' q=>by
  obtain⟨x,mp,ρ,S,xf,hc,C',hc',hE⟩:=hE C dx H' q
  cases CN.one hc hc'
  exact hE dx xf
 pas:=PassesOwn.leaving
 pat:=fun _=>PassesOwnAt.leaving
theorem Fun.okX{CX:CXT}{x:Str}{f:Addr}{fd:FuncData}{ps:List Str}(F:Fun K x qual st f fd)(S:FnScope N ps (Gf st))(len:∀ vs H Q E,sp vs H Q E->vs.length=ps.length)(hbody:∀ (cdv:Value) (A:Around) (outer:List PySem.Env) (s:Shared) (H:Hp) (vs:List V) (Q:VK) (E:XK),Room k (A.deeper (envOfC qual (Gf st) s.heap.objs.size f cdv))->sp vs H Q E→
   ∃ t,PSs (Kq CX P w K mg base N qual (Gf st) f cdv A outer s H E) (Ha st) t/\t { nx:=fun _ H'=>Q .non H',rt:=Q } (start N vs) H):FnOk P w K mg base CX (k+1) f fd ps sp:=by
 obtain⟨oc,od,kV,doc,pm,an,cdv,ct,osl,rfl,lk,hcd⟩:=F.ex
 exact Gjf lk hcd S len fun A outer s H vs Q E hr hsp=>hbody cdv A outer s H vs Q E hr hsp
theorem Gti{x:Str}{f:Addr}{fd:FuncData}{ps:List Str}{b:Sv}(F:Fun K x qual st f fd)(Sc:FnScope N ps (Gf st))(hb:∀ (cdv:Value) (A:Around) (outer:List PySem.Env) (s:Shared) (H:Hp) (E:XK) (XQ:XW),Room k (A.deeper (envOfC qual (Gf st) s.heap.objs.size f cdv))->XL (Kq (CXe P w) P w K mg base N qual (Gf st) f cdv A outer s H E) XQ→
   JSs (Kq (CXe P w) P w K mg base N qual (Gf st) f cdv A outer s H E) XQ (Ha st) b):FnOk P w K mg base (CXe P w) (k+1) f fd ps (spX K ps.length (fnB N.length b)):=by
 refine Fun.okX F Sc (fun vs H Q E ⟨mp,ds,S,rs,r,hl,_⟩=>by rw[r.len]; exact hl) fun cdv A outer s H vs Q E hr ⟨mp,ds,S,rs,r,hl,p⟩=>?_
 refine⟨_,hb cdv A outer s H E (XQd K E) hr Gkl,mp,_,S,Gbk rs r,?_⟩
 unfold fnB at p
 show PostS K _ mp H (b (ds.map some++List.replicate (N.length-ds.length) none) S) _
 cases z:b (ds.map some++List.replicate (N.length-ds.length) none) S with
 | rt d S'=>rw[z] at p; exact p
 | nx ρ' S'=>rw[z] at p; exact fun m h v af G=>p m h .non af G.rs rfl
 | bk ρ' S'=>rw[z] at p; exact p.elim
 | ct ρ' S'=>rw[z] at p; exact p.elim
 | exc x ρ' S'=>
  rw[z] at p
  obtain⟨C,hc,q⟩:=p
  exact fun m h v af G=>⟨C,hc,fun dx xf=>q m h dx af G.rs xf⟩
 | bad=>rw[z] at p; exact p.elim
structure CalX(P:Program)(w:World)(K:PySem.W.Frag)(mg:Str->Option Value)(base:Heap)(x:Str)(ps:List Str)(fn:Fn)(j:Nat):Prop where
 ex:∃ f fd,FnOk P w K mg base (CXe P w) j f fd ps (spX K ps.length fn)/\mg x=some (.ref f)/\PySem.W.keepIn K (.ref f)=true/\Binds K fd ps []
theorem Gnx{x:Str}{ps:List Str}(N:List Str)(k:Nat)(b:Sv)(hfn:fn=fnB N.length b)(d:Dn K mg x st ps)(Sc:FnScope N ps (Gf st))(hb:∀ (f:Addr) (cdv:Value) (A:Around) (outer:List PySem.Env) (s:Shared) (H:Hp) (E:XK) (XQ:XW),Room k (A.deeper (envOfC x (Gf st) s.heap.objs.size f cdv))->XL (Kq (CXe P w) P w K mg base N x (Gf st) f cdv A outer s H E) XQ→
   JSs (Kq (CXe P w) P w K mg base N x (Gf st) f cdv A outer s H E) XQ (Ha st) b):CalX P w K mg base x ps fn (k+1):=by
 subst hfn
 obtain⟨f,fd,F,hm,hbi⟩:=d.ex
 exact⟨f,fd,Gti F Sc (hb f),hm,F.kp,hbi⟩
end
section
variable{X:Cx}{XQ:XW}{k:Nat}{f:Addr}{fd:FuncData}{ps:List Str}{fn:Fn}{x:Str}{p pos:Pos}{e:Expr}{es:List Expr}
def Gtj(sp:Sp)(Wx:L2.St->Addr->Option Addr->Hp->Prop)(t:TA):TE:=fun σ H Q=>t σ H fun vs H1=>sp vs H1 Q fun c dx H'=>∃ C,c=.ref C/\Wx σ C dx H'
theorem Gny{Wx:L2.St->Addr->Option Addr->Hp->Prop}{s:Shared}{Q:VK}{us:List Value}{vs:List V}(F:FnOk X.prog X.w X.K X.mg X.base (CXe X.prog X.w) k f fd ps sp)(hr:Room k X.A)(hb:Binds X.K fd ps [])(hx:∀ (pins:List (Addr×Obj)) (σ:L2.St) (H:Hp) (s:Shared) (e:Value) (s':Shared) (E2:XK),Inv X pins σ H s->CXe X.prog X.w X.stack H s E2 e s'->(∀ C dx H',E2 (.ref C) dx H'->Wx σ C dx H')->X.xe e s')(I:Inv X pins σ H s)(r:Vals vs us)(h:sp vs H Q fun c dx H'=>∃ C,c=.ref C/\Wx σ C dx H'):wpAny (model X.prog X.w) X.A (call (.ref f) us) (EP X pins σ Q) X.xe s:=by
 have hl:us.length=ps.length:=by rw[<- r.length]; exact F.len _ _ _ _ h
 refine wpAny_call (codeAny_mono (F.run X.A X.stack s H ⟨us,[]⟩ us vs Q _ hr I.env0 (by have:=hb s us I.kIn (by simpa using hl); simpa using this) r h) fun r s' hq=>?_)
 cases r with
 | error e=>exact hx pins σ H s e s' (fun c dx H'=>∃ C,c=.ref C/\Wx σ C dx H') I hq fun C dx H' ⟨C',e1,q⟩=>by cases e1; exact q
 | ok fl=>
  cases fl with
  | ret u=>exact I.after hq
  | next=>exact False.elim hq
  | brk=>exact False.elim hq
  | cont=>exact False.elim hq
theorem Gkm{Wx:L2.St->Addr->Option Addr->Hp->Prop}{t:TA}(F:FnOk X.prog X.w X.K X.mg X.base (CXe X.prog X.w) k f fd ps sp)(hr:Room k X.A)(hg:Gl X x)(hm:X.mg x=some (.ref f))(hk:PySem.W.keepIn X.K (.ref f)=true)(hb:Binds X.K fd ps [])(hx:∀ (pins:List (Addr×Obj)) (σ:L2.St) (H:Hp) (s:Shared) (e:Value) (s':Shared) (E2:XK),Inv X pins σ H s->CXe X.prog X.w X.stack H s E2 e s'->(∀ C dx H',E2 (.ref C) dx H'->Wx σ C dx H')->X.xe e s')(ha:PA X (e::es) t)(hdb:(x==("__debug__":Str))=false:=by decide)(he:starEach (e::es) X.env=(false,eval e X.env)::starEach es X.env:=by rfl)(hpl:(backTo pos (starEach es X.env)).any (·.1)=false:=by rfl):
  PE X (.Call (.Name x p) (e::es) [] pos) (Gtj sp Wx t):=by
 intro pins s σ H Q I h
 refine wpAny_Call_Name_kw (Xo I hg hm ?_ hdb)
 refine PySem.W.callWith_K (h₀:=X.base) I.ok.mod.kin hk (thn (ha pos pins s σ H _ I h) fun us s1 ⟨vs,H1,I1,r,q⟩=>⟨I1.kIn,?_⟩) he hpl
 exact Gny F hr hb hx I1 r q
def gX(ys:List Str)(fn:Fn):Fn:=fun ds S=>match fn ds S with
 | .ok d S'=>.ok d S'
 | .exc x S'=>if x.cls∈ys then .exc x S' else .bad
 | .bad=>.bad
def XNs(K:PySem.W.Frag)(ys:List Str):Prop:=∀ y∈ys,∃ C,CN K y C/\XCl K C
theorem Gkn{ys:List Str}(xs:XNs X.K ys)(L:XL X XQ)(F:FnOk X.prog X.w X.K X.mg X.base (CXe X.prog X.w) j f fd ps (spX X.K ps.length fn))(hr:Room k X.A)(hj:j<=k)(hg:Gl X x)(hm:X.mg x=some (.ref f))(hk:PySem.W.keepIn X.K (.ref f)=true)(hb:Binds X.K fd ps [])(ha:JA X XQ (e::es) t)(hdb:(x==("__debug__":Str))=false:=by decide)(he:starEach (e::es) X.env=(false,eval e X.env)::starEach es X.env:=by rfl)(hpl:(backTo pos (starEach es X.env)).any (·.1)=false:=by rfl):
  JE X XQ (.Call (.Name x p) (e::es) [] pos) (cl ps.length (gX ys fn) t):=by
 refine PE.mono (Gkm (Wx:=WX X.K XQ) (F.mono hj) hr hg hm hk hb L.cal ha hdb he hpl) fun σ H Q ⟨mp,ρ,S,G,p⟩=>?_
 refine bindP G p fun mp1 H1 ds S1 vs a1 G1 r1 p1=>?_
 by_cases hl:ds.length=ps.length
 ·rw[if_pos hl] at p1
  refine⟨mp1,ds,S1,G1.rs,r1,hl,?_⟩
  unfold gX at p1
  cases z:fn ds S1 with
  | ok d S'=>rw[z] at p1; exact p1
  | exc xx S'=>
   rw[z] at p1
   by_cases hi:xx.cls∈ys
   ·have p1:Gm X.K (Rep X.K) XQ σ ρ mp1 H1 (.exc xx S') Q:=by simpa only[if_pos hi] using p1
    obtain⟨C,hC,_⟩:=xs _ hi
    refine⟨C,hC,fun mp' H' dx af rs xf=>⟨C,rfl,xx,mp',ρ,S',xf,hC,p1 mp' H' af (G1.aft af rs)⟩⟩
   ·have p1:Gm X.K (Rep X.K) XQ σ ρ mp1 H1 .bad Q:=by simpa only[if_neg hi] using p1
    exact p1.elim
  | bad=>rw[z] at p1; exact p1.elim
 ·rw[if_neg hl] at p1; exact p1.elim
theorem Gwi{ys:List Str}(xs:XNs X.K ys)(L:XL X XQ)(C:CalX X.prog X.w X.K X.mg X.base x ps fn j)(hr:Room k X.A)(hg:Gl X x)(hp:Hk x=true)(ha:JA X XQ (e::es) t)(hn:ps.length=n:=by rfl)(hj:j<=k:=by decide)(he:starEach (e::es) X.env=(false,eval e X.env)::starEach es X.env:=by rfl)(hpl:(backTo pos (starEach es X.env)).any (·.1)=false:=by rfl):
  JE X XQ (.Call (.Name x p) (e::es) [] pos) (cl n (gX ys fn) t):=by
 subst hn
 obtain⟨f,fd,F,hm,hk,hb⟩:=C.ex
 exact Gkn xs L F hr hj hg hm hk hb ha (Hk.of hp).1 he hpl
def srs(y:Str)(f:Ev (List D)):Sv:=fun ρ S=>bindS (f ρ S) ρ fun ds S1=>match ds with
 | [_]=>.exc ⟨y,none⟩ ρ S1
 | _=>.bad
structure ClX(P:Program)(w:World)(K:PySem.W.Frag)(mg:Str->Option Value)(base:Heap)(x:Str)(j:Nat):Prop where
 ex:∃ C f fd ps oI,mg x=some (.ref C)/\CN K x C/\KX K C/\PySem.W.findIn K (.ref C) "__init__"=some (some (.ref f))/\K.lookup f=some oI/\oI.cls=.type "function"/\FnOk P w K mg base CX0 j f fd ps (spI K)/\ps.length=2/\Binds K fd ps []
theorem Gko{pos:Pos}(L:XL X XQ)(hcm:X.calm=true)(C:ClX X.prog X.w X.K X.mg X.base x j)(hr:Room k X.A)(hg:Gl X x)(hp:Hk x=true)(ha:JA X XQ [a] t)(hj:j+1<=k:=by decide)(he:starEach [a] X.env=(false,eval a X.env)::starEach [] X.env:=by rfl)(hpl:(backTo cpos (starEach [] X.env)).any (·.1)=false:=by rfl):
  JS X XQ (.Raise (some (.Call (.Name x np) [a] [] cpos)) none pos) (srs x t):=by
 obtain⟨C,f,fd,ps,oI,hm,hc,kx,hi,lf,hfc,F,hl,hb⟩:=C.ex
 refine PS.mono (Gkj (W:=fun σ H e=>WX X.K XQ σ C none (del H e)) (fun pins σ H e s' I hH h0 w=>L.own1 pins σ H s' e C none I hH h0 w) hcm hg hm kx hi lf hfc F hl (hr.mono hj) hb ha (Hk.of hp).1 he hpl) fun E σ H ⟨mp,ρ,S,G,p⟩=>?_
 refine bindSP G p fun mp1 H1 ds S1 vs a1 G1 r1 p1=>?_
 split at p1
 ·obtain⟨v,rfl,_⟩:=RepL.one r1
  refine⟨v,rfl,fun e he=>⟨⟨x,none⟩,mp1,ρ,S1,Gnw,hc,?_⟩⟩
  have e1:del (upd H1 e (FX e C none)) e=H1:=by
   funext b
   by_cases c:b=e
   ·rw[c,Kz,he]
   ·rw[Qd c,Gs c]
  rw[e1]
  exact p1 mp1 H1 σ .refl G1
 ·exact p1.elim
end
structure Plain(X:Cx):Prop where
 stk:X.stack=X.env::X.outer
 fr:X.env.frame=some X.env.locals
 ex:X.ex=[]
structure Landed(X:Cx)(pins:List (Addr×Obj))(σ:L2.St)(H:Hp)(a C:Addr)(dx:Option Addr)(s:Shared):Prop where
 ex:∃ T,Inv X pins σ H s/\Fly s.heap a T C dx/\(H a=none/\H T=none)/\(X.s₀.heap.get? a=none/\X.s₀.heap.get? T=none)/\∀ p∈X.pn++pins,p.1≠a/\p.1≠T
section
variable{X:Cx}{pins:List (Addr×Obj)}{σ:L2.St}{H:Hp}{s:Shared}{A:Around}{E:Value->Shared->Prop}{Q:Unit->Shared->Prop}{M:Model}
theorem Plain.old{b:Addr}(pl:Plain X)(I:Inv X pins σ H s)(e:s.heap.get? b=none):X.s₀.heap.get? b=none:=by
 have u:=I.base
 rw[pl.ex] at u
 exact Wu u e
theorem own_land{e:Addr}(pl:Plain X)(I:Inv X pins σ H s)(hH:H e=some (.ext φ))(fr:Zp s.heap e C dx)(le:X.s₀.heap.get? e=none)(hq:∀ s',Landed X pins σ (del H e) e C dx s'->Q () s'):
  wpAny M X.A (noteFrame (.ref e) X.env) (fun _ s₂=>wpAny M X.A (setFlight (.ref e) none) Q E s₂) E s:=by
 have hfr:X.A.frames=some (X.env::X.outer):=by rw[I.ok.frames,pl.stk]
 have hl:s.heap.FunFrames X.base (X.env::X.outer):=by rw[<- pl.stk]; exact I.stack
 refine Gpz hfr hl pl.fr fr fun h' T fl hT lf=>hq _ ?_
 have dn:∀ b,H b=none->del H e b=none:=fun b q=>by
  by_cases c:b=e
  ·rw[c,Kz]
  ·rw[Qd c]; exact q
 have nk:∀ {b:Addr} {o:HO},H b=some o->o≠.ext φ->b≠e:=fun q n z=>n (by rw[z,hH] at q; exact(Option.some.inj q).symm)
 have ne0:∀ b,H b=none->b≠e:=fun b q z=>by rw[z,hH] at q; cases q
 rw[<- pl.stk] at lf
 have un:Un (frs X.stack) [] H (del H e) s.heap h':=⟨fun b o q n hb _=>lf.keep b o hb (fun z=>ne0 b n (by simpa using z)) q,fun b o q n hb _=>lf.slot b o hb q,fun b o q n _=>dn b n,fun b o q _=>by
   by_cases c:b∈frs X.stack
   ·obtain⟨sl,q'⟩:=lf.slot b o c q
    exact⟨_,q'⟩
   ·by_cases c2:b=e
    ·subst c2
     obtain⟨oe,_,_,_,_,z,_⟩:=fl
     exact⟨_,z⟩
    ·exact⟨o,lf.keep b o c (by simpa using c2) q⟩,
  fun b xs q=>by rw[Qd (nk q (by intro z; cases z))]; exact q,fun b o v q=>by rw[Qd (nk q (by intro z; cases z))]; exact q,fun b ps q=>⟨#[],by rw[Qd (nk q (by intro z; cases z)),q]; simp⟩⟩
 have hk:HOk X.prog X.w (del H e) h':=hok_left (Ghd I.hok hH) lf (fun b hb=>dn b (I.stkFree b hb)) (fun b hb=>by
  have:b=e:=by simpa using hb
  rw[this]; exact Kz)
 refine⟨T,?_,fl,⟨Kz,dn T (Yt I.hok hT)⟩,⟨le,pl.old I hT⟩,fun p hp=>?_⟩
 ·have J:=I.call (h':=h') (g':=s.gens) (d':=s.drawn) (t':=s.toks) (ch:=[]) un hk I.bare (fun b z=>absurd z (by simp))
  exact J
 ·obtain⟨q1,q2,_⟩:=I.pin p hp
  refine⟨ne0 _ q2,fun z=>?_⟩
  rw[z,hT] at q1
  cases q1
theorem call_land{E2:XK}{e:Value}{s':Shared}(pl:Plain X)(I:Inv X pins σ H s)(hx:CXe X.prog X.w X.stack H s E2 e s')(hq:∀ a C dx H' s'',e=.ref a->E2 (.ref C) dx H'->Landed X pins σ H' a C dx s''->Q () s''):
  wpAny M X.A (noteFrame e X.env) (fun _ s₂=>wpAny M X.A (setFlight e none) Q E s₂) E s':=by
 obtain⟨a,T,C,dx,H',rfl,os,bare,un,hok,fly,⟨na,nT⟩,⟨oa,oT⟩,hE2⟩:=hx
 obtain⟨h3,g3,d3,t3,o3⟩:=s'
 obtain rfl:o3=s.os:=os
 have I3:Inv X pins σ H' { s with heap:=h3,gens:=g3,drawn:=d3,toks:=t3 }:=I.call (h':=h3) (g':=g3) (d':=d3) (t':=t3) (ch:=[]) un hok bare (fun b z=>absurd z (by simp))
 have hfr:X.A.frames=some (X.env::X.outer):=by rw[I.ok.frames,pl.stk]
 have hl:h3.FunFrames X.base (X.env::X.outer):=by rw[<- pl.stk]; exact I3.stack
 refine Gp0 (s:={ s with heap:=h3,gens:=g3,drawn:=d3,toks:=t3 }) hfr hl pl.fr fly fun h' T' fl hT lf=>hq a C dx H' _ rfl hE2 ?_
 rw[<- pl.stk] at lf
 have nn:∀ b o,s.heap.get? b=some o->b∉[a,T]:=fun b o q z=>by
  simp only[List.mem_cons,List.not_mem_nil,or_false] at z
  rcases z with rfl | rfl
  ·rw[oa] at q; cases q
  ·rw[oT] at q; cases q
 have un2:Un (frs X.stack) [] H H' s.heap h':=⟨fun b o q n hb hx=>lf.keep b o hb (nn b o q) (un.keep b o q n hb hx),fun b o q n hb hx=>by
   obtain⟨sl,q1⟩:=un.slot b o q n hb hx
   obtain⟨sl',q2⟩:=lf.slot b _ hb q1
   exact⟨sl',q2⟩,un.free,fun b o q hx=>by
   obtain⟨o',q1⟩:=un.there b o q hx
   by_cases c:b∈frs X.stack
   ·obtain⟨sl,q2⟩:=lf.slot b o' c q1
    exact⟨_,q2⟩
   ·exact⟨o',lf.keep b o' c (nn b o q) q1⟩,un.tups,un.frzs,un.tbls⟩
 have nT':H' T'=none:=by
  rcases hT with hT | rfl
  ·exact Yt hok hT
  ·exact nT
 have oT':X.s₀.heap.get? T'=none:=by
  rcases hT with hT | rfl
  ·exact pl.old I3 hT
  ·exact pl.old I oT
 have hk:HOk X.prog X.w H' h':=hok_left hok lf (fun b hb=>I3.stkFree b hb) (fun b hb=>by
  simp only[List.mem_cons,List.not_mem_nil,or_false] at hb
  rcases hb with rfl | rfl
  ·exact na
  ·exact nT)
 refine⟨T',?_,fl,⟨na,nT'⟩,⟨pl.old I oa,oT'⟩,fun p hp=>?_⟩
 ·have J:=I.call (h':=h') (g':=g3) (d':=d3) (t':=t3) (ch:=[]) un2 hk bare (fun b z=>absurd z (by simp))
  exact J
 ·obtain⟨q1,q2,_⟩:=I.pin p hp
  obtain⟨q3,_,_⟩:=I3.pin p hp
  refine And.intro (fun z=>?_) (fun z=>?_)
  ·rw[z,oa] at q1; cases q1
  rcases hT with hT | rfl
  ·rw[z] at q3
   rw[show h3.get? T'=none from hT] at q3
   cases q3
  ·rw[z,oT] at q1; cases q1
end
section
variable{X:Cx}{pins:List (Addr×Obj)}{σ:L2.St}{H:Hp}{s:Shared}{A:Around}{E:Value->Shared->Prop}{Q:Unit->Shared->Prop}{M:Model}
theorem Gnz{it:Addr}{h':Heap}(I:Inv X pins σ H s)(k:∀ b o,b≠it->s.heap.get? b=some o->h'.get? b=some o)(there:∃ o,h'.get? it=some o)(hn:H it=none)(hL:it≠X.env.locals)(h0:X.s₀.heap.get? it=none)(h2:∀ x c,X.env.cells.lookup x=some c->c≠it)(h3:∀ p∈X.pn++pins,p.1≠it):Inv X pins σ H { s with heap:=h' }:=by
 have n0:∀ b o,X.s₀.heap.get? b=some o->b≠it:=fun b o e z=>by rw[z,h0] at e; cases e
 have nit:∀ b u,H b=some u->b≠it:=fun b u e z=>by rw[z,hn] at e; cases e
 have ce:∀ x c,X.env.cells.lookup x=some c->∀ v,s.heap.IsCell c v->h'.IsCell c v:=fun x c e v ⟨o,ho,hd⟩=>⟨o,k c o (h2 x c e) ho,hd⟩
 refine⟨I.ok,I.os,I.bare,⟨fun b o e n hb hx=>k b o (n0 b o e) (I.base.keep b o e n hb hx),fun b o e n hb hx=>?_,I.base.free,fun b o e hx=>?_,I.base.tups,I.base.frzs,I.base.tbls⟩,?_,fun x c e=>?_,I.free,I.freeC,fun p hp=>?_,fun b u e=>?_,I.len⟩
 ·obtain⟨sl,q⟩:=I.base.slot b o e n hb hx
  exact⟨sl,k b _ (n0 b o e) q⟩
 ·obtain⟨o',q⟩:=I.base.there b o e hx
  exact⟨o',k b o' (n0 b o e) q⟩
 ·obtain⟨m,⟨o,es,ep,ho,r⟩,hl⟩:=I.loc
  refine⟨m,⟨o,es,ep,k _ o (Ne.symm hL) ho,r⟩,fun i x v e1 e2 e3=>?_⟩
  obtain⟨u,r,l⟩:=hl i x v e1 e2 e3
  refine⟨u,r,?_⟩
  rcases l with l | ⟨kk,c,e,z⟩
  ·exact .inl l
  ·exact .inr ⟨kk,c,e,ce x c e _ z⟩
 ·obtain⟨v,z⟩:=I.cell x c e
  exact⟨v,ce x c e v z⟩
 ·obtain⟨q1,q2,q3,q4,q5⟩:=I.pin p hp
  exact⟨k _ _ (h3 p hp) q1,q2,q3,q4,q5⟩
 ·refine(I.hok b u e).stay (fun c v hc q=>k c v ?_ q) (fun _ q=>q) fun _ _ q=>q
  rcases hc with z | z
  ·rw[z]; exact nit b u e
  ·exact nit c _ z
theorem Gtk{b:Addr}{o:Obj}(I:Inv X pins σ H s)(e:s.heap.get? b=some o)(d:o.data=.fields vs):b≠X.env.locals/\∀ x c,X.env.cells.lookup x=some c->c≠b:=by
 refine⟨fun z=>?_,fun x c hc z=>?_⟩
 ·obtain⟨m,⟨o',es,ep,ho,hd,_⟩,_⟩:=I.loc
  rw[<- z,e] at ho
  cases ho
  rw[d] at hd
  cases hd
 ·obtain⟨v,o',ho,hd⟩:=I.cell x c hc
  rw[z,e] at ho
  cases ho
  rw[d] at hd
  cases hd
theorem Landed.flight{a:Addr}(l:Landed X pins σ H a C dx s)(hq:∀ s',Landed X pins σ H a C dx s'->Q () s'):wpAny M A (setFlight (.ref a) none) Q E s:=by
 obtain⟨T,I,⟨oe,vs,oT,ts,a0,e1,e2,e3,e4,e5,e6,e7,e8⟩,⟨na,nT⟩,⟨oa,ot⟩,pn⟩:=l.ex
 have h3:3<ts.size:=(Array.getElem?_eq_some_iff.mp e8).1
 refine wpAny_setFlight_none e1 e3 e4 e6 e7 h3 (hq _ ⟨T,?_,?_,⟨na,nT⟩,⟨oa,ot⟩,pn⟩)
 ·have rn:=Gtk I e6 e7
  exact Gnz (it:=T) I (fun b o hb q=>by rw[Heap.get?_update_other _ _ (Ne.symm hb)]; exact q) ⟨_,Heap.get?_update_self _ e6 (Obj.isFreed_of_fields (Obj.data_mapFields e7 _))⟩ nT rn.1 ot rn.2 fun p hp=>(pn p hp).2
 ·exact⟨oe,vs,_,_,a0,by rw[Heap.get?_update_other _ _ e5]; exact e1,e2,e3,e4,e5,Heap.get?_update_self _ e6 (Obj.isFreed_of_fields (Obj.data_mapFields e7 _)),Obj.data_mapFields e7 _,by simp[h3]⟩
abbrev hnd(X:Cx)(a:Addr):Cx:={ X with A:=X.A.mark (some (.ref a)),calm:=false,xe:=fun _ _=>False }
theorem _root_.L2.Inv.hnd(I:Inv X pins σ H s)(a:Addr):Inv (DL.hnd X a) pins σ H s:=
 ⟨⟨I.ok.mod,I.ok.kind,I.ok.glob,I.ok.blt,I.ok.above,I.ok.inj,I.ok.has,I.ok.cab,(fun z=>nomatch z),I.ok.frames,I.ok.stk,I.ok.exf,I.ok.bs,I.ok.bsz,I.ok.noex,I.ok.exfs,I.ok.funs,I.ok.frf⟩,I.os,I.bare,I.base,I.loc,I.cell,I.free,I.freeC,I.pin,I.hok,I.len⟩
theorem _root_.L2.Inv.unhnd{a:Addr}(ok:X.Ok)(I:Inv (DL.hnd X a) pins σ H s):Inv X pins σ H s:=⟨ok,I.os,I.bare,I.base,I.loc,I.cell,I.free,I.freeC,I.pin,I.hok,I.len⟩
end
abbrev trb(X:Cx)(pn:List (Addr×Obj))(xe:Value->Shared->Prop):Cx:={ X with pn:=pn,xe:=xe }
section
variable{X:Cx}{XQ:XW}{pins:List (Addr×Obj)}{σ:L2.St}{H:Hp}{s:Shared}{pn:List (Addr×Obj)}{xe:Value->Shared->Prop}
theorem _root_.L2.Inv.trb(I:Inv X pins σ H s):Inv (DL.trb X (X.pn++pins) xe) [] σ H s:=
 ⟨⟨I.ok.mod,I.ok.kind,I.ok.glob,I.ok.blt,I.ok.above,I.ok.inj,I.ok.has,I.ok.cab,I.ok.hd,I.ok.frames,I.ok.stk,I.ok.exf,I.ok.bs,I.ok.bsz,I.ok.noex,I.ok.exfs,I.ok.funs,I.ok.frf⟩,I.os,I.bare,I.base,I.loc,I.cell,I.free,I.freeC,fun p hp=>I.pin p (by simpa using hp),I.hok,I.len⟩
theorem _root_.L2.Inv.untrb{pins':List (Addr×Obj)}(ok:X.Ok)(I:Inv (DL.trb X (X.pn++pins) xe) pins' σ H s):Inv X pins σ H s:=
 ⟨ok,I.os,I.bare,I.base,I.loc,I.cell,I.free,I.freeC,fun p hp=>I.pin p (List.mem_append_left _ hp),I.hok,I.len⟩
theorem Landed.untrb{pins':List (Addr×Obj)}{a:Addr}(ok:X.Ok)(l:Landed (DL.trb X (X.pn++pins) xe) pins' σ H a C dx s):Landed X pins σ H a C dx s:=by
 obtain⟨T,I,f,n,o,p⟩:=l.ex
 exact⟨T,I.untrb ok,f,n,o,fun q hq=>p q (List.mem_append_left _ hq)⟩
theorem Plain.trb(pl:Plain X):Plain (trb X pn xe):=⟨pl.stk,pl.fr,pl.ex⟩
def Wg(ys:List Str)(hh:XD->Sv)(fb:Sv):Sv:=fun ρ S=>match fb ρ S with
 | .nx ρ' S'=>.nx ρ' S'
 | .rt d S'=>.rt d S'
 | .bk ρ' S'=>.bk ρ' S'
 | .ct ρ' S'=>.ct ρ' S'
 | .exc x ρ' S'=>if x.cls∈ys then hh x ρ' S' else .bad
 | .bad=>.bad
theorem Gn0{hd:ExceptHandler}{ys:List Str}{hh:XD->Sv}{fb:Sv}(pl:Plain X)(hH:∀ (pins:List (Addr×Obj)) (σ:L2.St) (H:Hp) (s:Shared) (a C:Addr) (dx:Option Addr) (x:XD) (mp:List Addr) (ρ:Lc) (S:Sto) (D:Ends),x.cls∈ys->CN X.K x.cls C->XF H dx x.fld->Landed X pins σ H a C dx s->Gd X.K mp H σ ρ S->PostS X.K XQ mp H (hh x ρ S) D->wpAny (model X.prog X.w) X.A (handleBy (.ref a) X.env [hd]) (SP X pins D) X.xe s)(hb:∀ (pn:List (Addr×Obj)) (xe:Value->Shared->Prop) (XQ':XW),XL (trb X pn xe) XQ'->JSs (trb X pn xe) XQ' body fb):JS X XQ (.Try body [hd] [] [] pos) (Wg ys hh fb):=by
 intro pins s σ H D I ⟨mp,ρ,S,G,p⟩
 refine wpAny_Try_except ?_
 have ok:=I.ok
 let Eh:Value->Shared->Prop:=fun e s₁=>wpAny (model X.prog X.w) X.A (noteFrame e X.env) (fun _ s₂=>wpAny (model X.prog X.w) X.A (setFlight e none) (fun _ s₃=>wpAny (model X.prog X.w) X.A (handleBy e X.env [hd]) (SP X pins D) X.xe s₃) X.xe s₂) X.xe s₁
 let XQ':XW:=fun x mp H σ ρ S=>x.cls∈ys/\Gd X.K mp H σ ρ S/\PostS X.K XQ mp H (hh x ρ S) D
 have fin:∀ (pins':List (Addr×Obj)) (σ:L2.St) (H:Hp) (s:Shared) (a C:Addr) (dx:Option Addr),WX X.K XQ' σ C dx H->Landed (DL.trb X (X.pn++pins) Eh) pins' σ H a C dx s->wpAny (model X.prog X.w) X.A (handleBy (.ref a) X.env [hd]) (SP X pins D) X.xe s:=
  fun pins' σ H s a C dx ⟨x,mp,ρ,S,xf,hc,hm,G,p⟩ l=>hH pins σ H s a C dx x mp ρ S D hm hc xf (l.untrb ok) G p
 have L:XL (DL.trb X (X.pn++pins) Eh) XQ':=⟨fun pins' σ H s e C dx φ I hH fr le w=>own_land (X:=DL.trb X (X.pn++pins) Eh) pl.trb I hH fr le fun s' l=>fin pins' σ _ s' e C dx w l,
  fun pins' σ H s e s' E2 I hx hE=>call_land (X:=DL.trb X (X.pn++pins) Eh) pl.trb I hx fun a C dx H' s'' ea q l=>by
   subst ea
   exact fin pins' σ H' s'' a C dx (hE C dx H' q) l,
  PassesOwn.looking,fun _=>PassesOwnAt.looking⟩
 have post:PostS X.K XQ' mp H (fb ρ S) D:=by
  unfold Wg at p
  cases z:fb ρ S with
  | nx ρ' S'=>rw[z] at p; exact p
  | rt d S'=>rw[z] at p; exact p
  | bk ρ' S'=>rw[z] at p; exact p
  | ct ρ' S'=>rw[z] at p; exact p
  | bad=>rw[z] at p; exact p
  | exc x ρ' S'=>
   rw[z] at p
   by_cases hm:x.cls∈ys
   ·have p:PostS X.K XQ mp H (hh x ρ' S') D:=by simpa only[if_pos hm] using p
    exact fun mp' H' σ' af G'=>⟨hm,G',PostS.aft p af⟩
   ·have p:PostS X.K XQ mp H .bad D:=by simpa only[if_neg hm] using p
    exact p.elim
 refine wpAny_mono (hb (X.pn++pins) Eh XQ' L [] s σ H D I.trb ⟨mp,ρ,S,G,post⟩) (fun f s1 q=>?_) fun e s1 q=>q
 cases f with
 | next=>
  obtain⟨σ',H',I',q⟩:=q
  exact wpAny_execs_nil ⟨σ',H',I'.untrb ok,q⟩
 | brk=>
  obtain⟨σ',H',I',q⟩:=q
  exact⟨σ',H',I'.untrb ok,q⟩
 | cont=>
  obtain⟨σ',H',I',q⟩:=q
  exact⟨σ',H',I'.untrb ok,q⟩
 | ret u=>
  obtain⟨v,σ',H',I',r,q⟩:=q
  exact⟨v,σ',H',I'.untrb ok,r,q⟩
structure Cat(K:PySem.W.Frag)(mg:Str->Option Value)(c:Str)(ys:List Str):Prop where
 ex:∃ cs,mg c=some (.ref cs)/\∀ y∈ys,∃ C,CN K y C/\XCl K C/\PySem.W.exmOne K (.ref C) (.ref cs)=some true
def hdl(i:Nat)(fh:Sv)(x:XD):Sv:=fun ρ S=>match fh (ρ.set i (some (.exn x.cls x.fld))) S with
 | .nx ρ' S'=>.nx (ρ'.set i none) S'
 | .rt d S'=>.rt d S'
 | .bk ρ' S'=>.bk (ρ'.set i none) S'
 | .ct ρ' S'=>.ct (ρ'.set i none) S'
 | _=>.bad
def Gfe(fh:Sv)(x:XD):Sv:=fun ρ S=>match fh ρ S with
 | .nx ρ' S'=>.nx ρ' S'
 | .rt d S'=>.rt d S'
 | .bk ρ' S'=>.bk ρ' S'
 | .ct ρ' S'=>.ct ρ' S'
 | _=>.bad
theorem Gtl{M:Model}{a:Addr}(f:Fly h a T C dx):PySem.W.Looks M h (typeOf (.ref a)) (.ref C):=by
 obtain⟨oe,vs,_,_,_,h1,⟨h2,_⟩,_⟩:=f
 exact h2▸(PySem.W.Looks.ld h1).andThen .now
theorem Gtm{c:Str}{ys:List Str}{a:Addr}{R:Result->Shared->Prop}(ct:Cat X.K X.mg c ys)(hg:Gl X c)(hp:Hk c=true)(hy:y∈ys)(hc:CN X.K y C)(l:Landed X pins σ H a C dx s)(hq:R (.ok .brk) s):
  XCl X.K C/\codeAny (model X.prog X.w) (X.A.mark (some (.ref a))) (.handlers (.ref a) [.ExceptHandler (some (.Name c np)) none [] hpos] X.env) R s:=by
 obtain⟨T,I,f,_⟩:=l.ex
 obtain⟨cs,hm,hk⟩:=ct.ex
 obtain⟨C',hc',xc,he⟩:=hk y hy
 cases CN.one hc hc'
 refine⟨xc,codeAny_handlers_test ?_⟩
 refine Xo (X:=hnd X a) (I.hnd a) hg hm ?_ (Hk.of hp).1
 exact(PySem.W.exm_one I.kIn (Gtl f) he).here hq
theorem Gn1{c:Str}{b0:Stmt}{suite:List Stmt}{ys:List Str}{fb fh:Sv}(pl:Plain X)(ct:Cat X.K X.mg c ys)(hg:Gl X c)(hp:Hk c=true)(hb:∀ (pn:List (Addr×Obj)) (xe:Value->Shared->Prop) (XQ':XW),XL (trb X pn xe) XQ'->JSs (trb X pn xe) XQ' body fb)(hs:∀ a,JSs (hnd X a) (fun _ _ _ _ _ _=>False) (b0::suite) fh):
  JS X XQ (.Try body [.ExceptHandler (some (.Name c np)) none (b0::suite) hpos] [] [] pos) (Wg ys (Gfe fh) fb):=by
 refine Gn0 pl (fun pins σ H s a C dx x mp ρ S D hy hc xf l G p=>?_) hb
 refine wpAny_handleBy_cons ?_ (by intro q; cases q)
 obtain⟨xc,hit⟩:=Gtm (np:=np) (hpos:=hpos) (R:=fun r s₁=>match r with
   | .ok .brk=>codeAny (model X.prog X.w) (X.A.mark (some (.ref a))) (.handlers (.ref a) [.ExceptHandler none none (b0::suite) hpos] X.env) (fun r s₂=>match r with
     | .ok f=>SP X pins D f s₂
     | .error x=>cameBackBy (model X.prog X.w) X.A X.env X.xe x s₂) s₁
   | .ok _=>wpAny (model X.prog X.w) X.A (handleBy (.ref a) X.env []) (SP X pins D) X.xe s₁
   | .error x=>cameBackBy (model X.prog X.w) X.A X.env X.xe x s₁) ct hg hp hy hc l (by
  refine codeAny_handlers_suite (l.flight fun s1 l1=>?_)
  obtain⟨T,I1,_⟩:=l1.ex
  have ok:=I1.ok
  refine wpAny_mono (hs a pins s1 _ _ D (I1.hnd a) ⟨mp,_,S,G,?_⟩) (fun f s3 q=>?_) (fun e s3 q=>q.elim)
  ·unfold Gfe at p
   cases z:fh ρ S with
   | nx ρ' S'=>rw[z] at p; exact p
   | rt d S'=>rw[z] at p; exact p
   | bk ρ' S'=>rw[z] at p; exact p
   | ct ρ' S'=>rw[z] at p; exact p
   | exc x ρ' S'=>rw[z] at p; exact p.elim
   | bad=>rw[z] at p; exact p.elim
  ·cases f with
   | next=>
    obtain⟨σ',H',I',q⟩:=q
    exact⟨_,H',I'.unhnd ok,q⟩
   | brk=>
    obtain⟨σ',H',I',q⟩:=q
    exact⟨_,H',I'.unhnd ok,q⟩
   | cont=>
    obtain⟨σ',H',I',q⟩:=q
    exact⟨_,H',I'.unhnd ok,q⟩
   | ret u=>
    obtain⟨v,σ',H',I',r,q⟩:=q
    exact⟨v,_,H',I'.unhnd ok,r,q⟩)
 exact hit
end
structure Isx(K:PySem.W.Frag)(mg:Str->Option Value)(x:Str)(ys sub:List Str):Prop where
 ex:∃ cs,mg x=some (.ref cs)/\∀ y∈ys,∃ C,CN K y C/\PySem.W.kitOne K (.ref C) (.ref cs)=some (decide (y∈sub))
structure IsxB(K:PySem.W.Frag)(T:String)(ys sub:List Str):Prop where
 ex:∀ y∈ys,∃ C,CN K y C/\PySem.W.kitOne K (.ref C) (.type T)=some (decide (y∈sub))
def Gn2(K:PySem.W.Frag)(c:Addr):Bool:=
 (PySem.W.findIn K (.ref c) "__getattribute__"==some (some (.builtin "BaseException.__getattribute__")))&&((PySem.W.findIn K (.ref c) "__getattr__"==some none)&&((PySem.W.findIn K (.ref c) "__class__"==some (some (.builtin "object.__class__")))
  && ((PySem.W.clsIn K c).isSome&&((PySem.W.mroIn K c (.type "object")==some true)&&((PySem.W.subIn K (.ref c) (.type "BaseException")==some true)&&["bool","int","str","tuple","list"].all fun T=>PySem.W.kitOne K (.ref c) (.type T)==some false)))))
theorem Gkp{c:Addr}(h:Gn2 K c=true):XCl K c:=by
 unfold Gn2 at h
 simp only[Bool.and_eq_true,beq_iff_eq,List.all_eq_true] at h
 obtain⟨h1,h2,h3,h4,h5,h6,h7⟩:=h
 exact⟨h1,h2,h3,h4,h5,h6,h7⟩
def xrowB(K:PySem.W.Frag)(cs:Addr)(l:List (Str×Addr))(p:Str×Addr):Bool:=
 (PySem.W.nsIn K mainGlobals p.1==some (some (.ref p.2)))&&(Gn2 K p.2&&((PySem.W.exmOne K (.ref p.2) (.ref cs)==some true)&&((PySem.W.kitOne K (.ref p.2) (.type "ValueError")==some true)&&l.all fun q=>PySem.W.kitOne K (.ref p.2) (.ref q.2)==some (decide (p.1∈[q.1])))))
def Gkq(K:PySem.W.Frag)(cs:Addr)(l m:List (Str×Addr)):Bool:=(l.all fun p=>xrowB K cs m p)&&m.all fun q=>PySem.W.nsIn K mainGlobals q.1==some (some (.ref q.2))
structure XT(K:PySem.W.Frag)(mg:Str->Option Value)(sup:Str)(ys ms:List Str):Prop where
 cat:Cat K mg sup ys
 isx:∀ x∈ms,Isx K mg x ys [x]
 val:IsxB K "ValueError" ys ys
 xns:XNs K ys
theorem Gwj{sup:Str}{cs:Addr}{l m:List (Str×Addr)}(X:K.In h)(G:h.Ns mainGlobals mg)(a:PySem.W.nsIn K mainGlobals sup=some (some (.ref cs)))(t:Gkq K cs l m=true):XT K mg sup (l.map (·.1)) (m.map (·.1)):=by
 unfold Gkq at t
 rw[Bool.and_eq_true] at t
 obtain⟨t,tm⟩:=t
 have qm:∀ r∈m,CN K r.1 r.2:=fun r hr=>beq_iff_eq.mp (List.all_eq_true.mp tm r hr)
 have q:∀ p∈l,CN K p.1 p.2/\XCl K p.2/\PySem.W.exmOne K (.ref p.2) (.ref cs)=some true/\PySem.W.kitOne K (.ref p.2) (.type "ValueError")=some true/\∀ r∈m,PySem.W.kitOne K (.ref p.2) (.ref r.2)=some (decide (p.1∈[r.1])):=fun p hp=>by
  have z:=List.all_eq_true.mp t p hp
  unfold xrowB at z
  simp only[Bool.and_eq_true,beq_iff_eq,List.all_eq_true] at z
  obtain⟨h1,h2,h3,h4,h5⟩:=z
  exact⟨h1,Gkp h2,h3,h4,h5⟩
 refine⟨⟨cs,PySem.W.mg_of X G a,fun y hy=>?_⟩,fun x hx=>?_,⟨fun y hy=>?_⟩,fun y hy=>?_⟩
 ·obtain⟨p,hp,rfl⟩:=List.mem_map.mp hy
  obtain⟨h1,h2,h3,h4,h5⟩:=q p hp
  exact⟨p.2,h1,h2,h3⟩
 ·obtain⟨r,hr,rfl⟩:=List.mem_map.mp hx
  refine⟨r.2,PySem.W.mg_of X G (qm r hr),fun y hy=>?_⟩
  obtain⟨p,hp,rfl⟩:=List.mem_map.mp hy
  obtain⟨h1,h2,h3,h4,h5⟩:=q p hp
  exact⟨p.2,h1,h5 r hr⟩
 ·obtain⟨p,hp,rfl⟩:=List.mem_map.mp hy
  obtain⟨h1,h2,h3,h4,h5⟩:=q p hp
  exact⟨p.2,h1,by rw[h4,decide_eq_true hy]⟩
 ·obtain⟨p,hp,rfl⟩:=List.mem_map.mp hy
  obtain⟨h1,h2,h3,h4,h5⟩:=q p hp
  exact⟨p.2,h1,h2⟩
def kxB(K:PySem.W.Frag)(C:Addr):Bool:=match K.lookup C with
 | some ⟨.type "type",_,.cls cd,sl⟩=>(match cd.mro,sl.toList with
  | .ref C'::bm,[_,_,_,_,some (.builtin n),_]=>C'==C&&(!cd.hasDel&&(n=="ValueError.__new__"&&(bm.contains (.type "ValueError")&&(!bm.contains (.type "AttributeError")&&(!bm.contains (.type "NameError")&&bm.contains (.type "BaseException"))))))
  | _,_=>false)
 | _=>false
theorem Gwk(q:kxB K C=true):KX K C:=by
 unfold kxB at q
 split at q
 ·rename_i dd cd sl ho
  split at q
  ·rename_i C' bm k0 k1 k2 k3 n k5 hm hs
   simp only[Bool.and_eq_true,beq_iff_eq,Bool.not_eq_true'] at q
   obtain⟨rfl,hdel,hn,h1,h2,h3,h4⟩:=q
   subst hn
   obtain⟨nm,bs,mro,ns,qn,hd,sn,sub,ab,col,del⟩:=cd
   dsimp only at hm hdel
   subst hm hdel
   have hsl:sl=#[k0,k1,k2,k3,some (.builtin "ValueError.__new__"),k5]:=by
    obtain⟨l⟩:=sl
    simp only at hs
    rw[hs]
   subst hsl
   exact⟨nm,qn,ns,bs,bm,hd,sn,sub,ab,col,dd,k0,k1,k2,k3,k5,ho,⟨h1,h2,h3,h4⟩⟩
  ·cases q
 ·cases q
def Gbr(K:PySem.W.Frag)(c f:Addr):Bool:=kxB K c&&(PySem.W.findIn K (.ref c) "__init__"==some (some (.ref f)))
section
variable{P:Program}{w:World}{K:PySem.W.Frag}{mg:Str->Option Value}{base:Heap}
structure IniX(P:Program)(w:World)(K:PySem.W.Frag)(mg:Str->Option Value)(base:Heap)(f:Addr)(j:Nat):Prop where
 ex:∃ fd ps oI,K.lookup f=some oI/\oI.cls=.type "function"/\FnOk P w K mg base CX0 j f fd ps (spI K)/\ps.length=2/\Binds K fd ps []
theorem Vl{x:Str}{f:Addr}(X:K.In h)(G:h.Ns mainGlobals mg)(i:IniX P w K mg base f j)(a:PySem.W.nsIn K mainGlobals x=some (some (.ref C)))(t:Gbr K C f=true):ClX P w K mg base x j:=by
 obtain⟨fd,ps,oI,l,c,F,n,b⟩:=i.ex
 unfold Gbr at t
 simp only[Bool.and_eq_true,beq_iff_eq] at t
 exact⟨C,f,fd,ps,oI,PySem.W.mg_of X G a,a,Gwk t.1,t.2,l,c,F,n,b⟩
abbrev Gp1(K:PySem.W.Frag):TS:=Gpd (tVI K (Gje (Gqj 0) (Gje (Gqj 1) Gvl)))
theorem ini_mk{f:Addr}{an:Option Addr}{kV:Value}(l:K.lookup f=some ⟨.type "function",od,.func (PySem.W.fnOf "__init__" "SummitError.__init__" (Hu st) (Ha st) (Gf st) .none kV doc pm an cdv ct),osl⟩)(c:PySem.W.codeIn K cdv "SummitError.__init__"=true)(k:PySem.W.keepIn K (.ref f)=true)(Sc:FnScope ["self","text"] ["self","text"] (Gf st))(hb:∀ (f:Addr) (cdv:Value) (A:Around) (outer:List PySem.Env) (s:Shared) (H:Hp) (E:XK),PSs (Kq CX0 P w K mg base ["self","text"] "SummitError.__init__" (Gf st) f cdv A outer s H E).nox (Ha st) (Gp1 K))(bi:∀ (kV doc pm:Value) (an:Option Addr) (cdv ct:Value) (us:List Value),us.length=2->bindArgs (PySem.W.fnOf "__init__" "SummitError.__init__" (Hu st) (Ha st) (Gf st) .none kV doc pm an cdv ct) ⟨us,[]⟩=pure ((["self","text"]:List Str).zip us)):IniX P w K mg base f 1:=by
 have F:=Gd2 (st:=st) l c k
 refine⟨_,["self","text"],_,l,rfl,?_,rfl,F.binds bi⟩
 refine Fun.ok F Sc (fun vs H Q E ⟨e,v,C,dx,ev,_⟩=>by rw[ev]; rfl) fun cdv A outer s H vs Q E hr ⟨e,v,C,dx,ev,hH,kx,q⟩=>?_
 refine⟨_,hb _ cdv A outer s H E,?_⟩
 subst ev
 exact⟨.ref e,rfl,v,rfl,e,v,C,dx,rfl,hH,kx,q⟩
end
section
variable{X:Cx}{XQ:XW}
def Gys(i j:Int):Prop:=(-1000000000000<=i/\i<=1000000000000) /\ -1000000000000<=j/\j<=1000000000000
instance {i j:Int}:Decidable (Gys i j):=inferInstanceAs (Decidable ((-1000000000000<=i/\i<=1000000000000) /\ -1000000000000<=j/\j<=1000000000000))
end
structure FvT(K:PySem.W.Frag)(mg:Str->Option Value)(x:Str):Prop where
 ex:∃ f,CN K x f/\mg x=some (.ref f)
def Gkr:List Value->Bool
 | .ref _::r=>Gkr r
 | l=>l==[.type "ValueError",.type "Exception",.type "BaseException",.type "object"]
structure KA(K:PySem.W.Frag)(C:Addr):Prop where
 sa:PySem.W.findIn K (.ref C) "__setattr__"=some (some (.builtin "object.__setattr__"))
 ve:(PySem.W.clsIn K C).any (fun cd=>Gkr cd.mro)=true
 na:PySem.W.findIn K (.ref C) "at"=some none
 hd:PySem.W.hasDictIn K C=true
section
variable{X:Cx}{pins:List (Addr×Obj)}{σ:L2.St}{H:Hp}{s:Shared}{C e:Addr}
structure BaseI(K:PySem.W.Frag)(mg:Str->Option Value)(x:Str)(f:Addr):Prop where
 ex:∃ cs mc,mg x=some (.ref cs)/\PySem.W.readsIn K cs mc=true/\PySem.W.findCls K (.ref cs) mc "__init__"=some (.val (.ref f))/\PySem.W.specialIn K (.ref cs) "__getattribute__"=some (some (.builtin "type.__getattribute__"))/\PySem.W.keepIn K (.ref f)=true
end
def spJ(K:PySem.W.Frag):Sp:=fun vs H Q _=>∃ e n C,vs=[.ref e,.int n]/\H e=some (FX e C none)/\(KX K C/\KA K C)/\∀ d,H d=none->d≠e->Q .non (upd (upd H e (FX e C (some d))) d (XA d n))
section
variable{P:Program}{w:World}{K:PySem.W.Frag}{mg:Str->Option Value}{base:Heap}
structure IniJ(P:Program)(w:World)(K:PySem.W.Frag)(mg:Str->Option Value)(base:Heap)(f:Addr)(j:Nat):Prop where
 ex:∃ fd ps oI,K.lookup f=some oI/\oI.cls=.type "function"/\FnOk P w K mg base CX0 j f fd ps (spJ K)/\ps.length=2/\Binds K fd ps []
end
section
variable{X:Cx}{pins:List (Addr×Obj)}{σ:L2.St}{H:Hp}{s:Shared}{C f:Addr}{fd:FuncData}{ps:List Str}{k:Nat}
structure ClJ(P:Program)(w:World)(K:PySem.W.Frag)(mg:Str->Option Value)(base:Heap)(x:Str)(j:Nat):Prop where
 ex:∃ C f fd ps oI,mg x=some (.ref C)/\CN K x C/\(KX K C/\KA K C)/\PySem.W.findIn K (.ref C) "__init__"=some (some (.ref f))/\K.lookup f=some oI/\oI.cls=.type "function"/\FnOk P w K mg base CX0 j f fd ps (spJ K)/\ps.length=2/\Binds K fd ps []
end
section
variable{P:Program}{w:World}{A:Around}{E:Value->Shared->Prop}{env:PySem.Env}{s:Shared}
variable{nm q:Str}{C N:Addr}{bs bm:List Value}{hdct:Bool}{sn:List Str}{sub:List Value}{ab:Bool}{col:Option Bool}{dd:Option Addr}{k0 k1 k2 k3 k5:Option Value}{newId:String}
end
structure RoomQ(k:Nat)(A:Around):Prop where
 dp:A.depth+3*k+5<recursionLimit
 un:A.units+16*k+200<cLine
 gd:A.guards=some []
structure FnQ(P:Program)(w:World)(K:PySem.W.Frag)(mg:Str->Option Value)(base:Heap)(k:Nat)(f:Addr)(fd:FuncData)(ps:List Str)(sp:Sp):Prop where
 len:∀ vs H Q E,sp vs H Q E->vs.length=ps.length
 run:∀ (A:Around) (outer:List PySem.Env) (s:Shared) (H:Hp) (args:Args) (us:List Value) (vs:List V) (Q:VK) (E:XK),RoomQ k A->Env0 P w K mg base A outer s H->BindsTo s fd args (ps.zip us)->Vals vs us->sp vs H Q E→
  codeAny (model P w) A (.call (.ref f) args) (CR CX0 outer P w H s Q E) s
section
variable{P:Program}{w:World}{K:PySem.W.Frag}{mg:Str->Option Value}{base:Heap}
structure IniXQ(P:Program)(w:World)(K:PySem.W.Frag)(mg:Str->Option Value)(base:Heap)(f:Addr)(j:Nat):Prop where
 ex:∃ fd ps oI,K.lookup f=some oI/\oI.cls=.type "function"/\FnQ P w K mg base j f fd ps (spI K)/\ps.length=2/\Binds K fd ps []
structure IniJQ(P:Program)(w:World)(K:PySem.W.Frag)(mg:Str->Option Value)(base:Heap)(f:Addr)(j:Nat):Prop where
 ex:∃ fd ps oI,K.lookup f=some oI/\oI.cls=.type "function"/\FnQ P w K mg base j f fd ps (spJ K)/\ps.length=2/\Binds K fd ps []
end
section
variable{X:Cx}{pins:List (Addr×Obj)}{σ:L2.St}{H:Hp}{s:Shared}{C f:Addr}{fd:FuncData}{ps:List Str}{k:Nat}
structure ClJQ(P:Program)(w:World)(K:PySem.W.Frag)(mg:Str->Option Value)(base:Heap)(x:Str)(j:Nat):Prop where
 ex:∃ C f fd ps oI,mg x=some (.ref C)/\CN K x C/\(KX K C/\KA K C)/\PySem.W.findIn K (.ref C) "__init__"=some (some (.ref f))/\K.lookup f=some oI/\oI.cls=.type "function"/\FnQ P w K mg base j f fd ps (spJ K)/\ps.length=2/\Binds K fd ps []
end
abbrev hx(X:Cx)(a:Addr):Cx:={ X with A:=X.A.mark (some (.ref a)),calm:=false }
structure GE(X:Cx)(XQ:XW)(e:Expr)(f:Ev D):Prop where
 h:JE X XQ e f
structure GA(X:Cx)(XQ:XW)(es:List Expr)(f:Ev (List D)):Prop where
 h:JA X XQ es f
structure GT(X:Cx)(XQ:XW)(e:Expr)(f:Ev Bool):Prop where
 h:JT X XQ e f
structure GW(X:Cx)(XQ:XW)(e:Expr)(f:Ev Bool):Prop where
 h:JW X XQ e f
structure GO(X:Cx)(XQ:XW)(e:Option Expr)(f:Ev (Option Int)):Prop where
 h:JO X XQ e f
structure GS(X:Cx)(XQ:XW)(st:Stmt)(f:Sv):Prop where
 h:JS X XQ st f
structure GSs(X:Cx)(XQ:XW)(st:List Stmt)(f:Sv):Prop where
 h:JSs X XQ st f
structure GI(X:Cx)(XQ:XW)(tg it:Expr)(f:Ev Src):Prop where
 h:JI X XQ tg it f
structure GG(X:Cx)(tg:Expr)(g:Tg):Prop where
 h:JG X tg g
structure GGs(X:Cx)(ts:List Expr)(g:Tgs):Prop where
 h:JGs X ts g
structure GTs(Y:Cx)(XQ:XW)(ifs:List Expr)(t:Ev Bool):Prop where
 h:JTs Y XQ ifs t
theorem Kh{j pos}:GE X XQ (.Constant .none j pos) (cn .non):=⟨Grn ⟩
theorem Gbs{b:Bool}{j pos}:GE X XQ (.Constant (.bool b) j pos) (cn (.bl b)):=⟨Gvy ⟩
theorem ge_int{i:Int}{j pos}:GE X XQ (.Constant (.int i) j pos) (cn (.int i)):=⟨Grm ⟩
theorem Gz{x:Str}{j pos}:GE X XQ (.Constant (.str x) j pos) (cn (.str x)):=⟨Gro ⟩
theorem Gp(ha:GE X XQ a fa)(hb:GE X XQ b fb):GE X XQ (.BinOp a .Add b pos) (o2 Gx fa fb):=⟨Gsg ha.h hb.h⟩
theorem Wv(ha:GE X XQ a fa)(hb:GE X XQ b fb):GE X XQ (.BinOp a .Sub b pos) (o2 Yr fa fb):=⟨Gsc ha.h hb.h⟩
theorem Jo(ha:GE X XQ a fa)(hb:GE X XQ b fb):GE X XQ (.BinOp a .Mult b pos) (o2 Je fa fb):=⟨Gsi ha.h hb.h⟩
theorem Uo(ha:GE X XQ a fa)(hb:GE X XQ b fb):GE X XQ (.BinOp a .Mod b pos) (o2 Wl fa fb):=⟨Gsd ha.h hb.h⟩
theorem Yu(ha:GE X XQ a fa)(hb:GE X XQ b fb):GE X XQ (.BinOp a .FloorDiv b pos) (o2 Wf fa fb):=⟨Gnn ha.h hb.h⟩
theorem Gtn(ha:GE X XQ a fa)(hb:GE X XQ b fb):GE X XQ (.BinOp a .Pow b pos) (o2 Ge8 fa fb):=⟨Gse ha.h hb.h⟩
theorem Gwl(ha:GE X XQ a fa)(hb:GE X XQ b fb):GE X XQ (.Compare a [.Lt] [b] pos) (o2 ltD fa fb):=⟨Gv6 ha.h hb.h⟩
theorem Gp2(ha:GE X XQ a fa)(hb:GE X XQ b fb):GE X XQ (.Compare a [.LtE] [b] pos) (o2 leD fa fb):=⟨Gv7 ha.h hb.h⟩
theorem Gks(ha:GE X XQ a fa)(hb:GE X XQ b fb):GE X XQ (.Compare a [.GtE] [b] pos) (o2 geD fa fb):=⟨Gv8 ha.h hb.h⟩
theorem Xx(hu:X.A.units+64<cLine)(ha:GE X XQ a fa)(hb:GE X XQ b fb):GE X XQ (.Compare a [.Eq] [b] pos) (o2 eqD fa fb):=⟨Gv2 hu ha.h hb.h⟩
theorem Gp3(hu:X.A.units+64<cLine)(ha:GE X XQ a fa)(hb:GE X XQ b fb):GE X XQ (.Compare a [.NotEq] [b] pos) (o2 neD fa fb):=⟨Gv4 hu ha.h hb.h⟩
theorem Gec(ha:GE X XQ a fa)(hb:GE X XQ b fb):GE X XQ (.Compare a [.Is] [b] pos) (o2 Vh fa fb):=⟨Gso ha.h hb.h⟩
theorem Gn3(ha:GE X XQ a fa)(hb:GE X XQ b fb):GE X XQ (.Compare a [.IsNot] [b] pos) (o2 Gdk fa fb):=⟨Gng ha.h hb.h⟩
theorem Qo{rest:List Expr}{f g:Ev D}(ha:GE X XQ a f)(hb:GE X XQ (.BoolOp .And (b::rest) pos) g):GE X XQ (.BoolOp .And (a::b::rest) pos) (va f g):=⟨Grx ha.h hb.h⟩
theorem Qp{op}{f:Ev D}(h:GE X XQ a f):GE X XQ (.BoolOp op [a] pos) f:=⟨Grw h.h⟩
theorem Gto{f:Ev D}(ha:GE X XQ a f):GE X XQ (.UnaryOp .Not a pos) (vn f):=⟨Gry ha.h⟩
theorem Ggl(ha:GE X XQ a fa):GE X XQ (.UnaryOp .USub a pos) (o1 Ggk fa):=⟨Gss ha.h⟩
theorem Qq{c:Expr}(hc:GT X XQ c fc)(ha:GE X XQ a fa)(hb:GE X XQ b fb):GE X XQ (.IfExp c a b pos) (ie fc fa fb):=⟨Grz hc.h ha.h hb.h⟩
theorem Gj(ha:GE X XQ a fa)(hb:GE X XQ b fb)(hs:Yq b:=by intro _ _; rfl):GE X XQ (.Subscript a b pos) (o2 getD fa fb):=⟨Gsk ha.h hb.h hs⟩
theorem Kr{e:Expr}{lo hi:Option Expr}{fe:Ev D}{fl fh:Ev (Option Int)}(he:GE X XQ e fe)(hl:GO X XQ lo fl)(hh:GO X XQ hi fh):GE X XQ (.Subscript e (.Slice lo hi none p2) pos) (sl2 fe fl fh):=⟨Gii he.h hl.h hh.h⟩
theorem Jy{f:Ev (List D)}(h:GA X XQ es f):GE X XQ (.List es pos) (ls f):=⟨Grr h.h⟩
theorem Gq{f:Ev (List D)}{x1}(h:GA X XQ es f):GE X XQ (.Tuple es x1 pos) (tp f):=⟨Grq h.h⟩
theorem Gtp{T:String}{x:Str}{e:Expr}{f:Ev D}{p:Pos}(k:Kit X.K T)(hv:bootBuiltins x=some (.type T))(hnx:x≠"__name__")(hdx:(x==("__debug__":Str))=false)(hg:Gl X "isinstance")(hm:X.mg "isinstance"=none)(hgt:Gl X x)(hmt:X.mg x=none)(he:GE X XQ e f)(hs:starEach [e,.Name x p2] X.env=(false,eval e X.env)::starEach [.Name x p2] X.env)(hpl:(backTo pos (starEach [.Name x p2] X.env)).any (·.1)=false)(hs2:starEach [.Name x p2] X.env=(false,eval (.Name x p2) X.env)::starEach [] X.env):GE X XQ (.Call (.Name "isinstance" p) [e,.Name x p2] [] pos) (o1 (isD T) f):=⟨Gsw k hv hnx hdx hg hm hgt hmt he.h hs hpl hs2⟩
theorem Jg{p:Pos}{e:Expr}{f:Ev (List D)}(hg:Gl X "len")(hm:X.mg "len"=none)(ha:GA X XQ [e] f)(he:starEach [e] X.env=(false,eval e X.env)::starEach [] X.env:=by rfl):GE X XQ (.Call (.Name "len" p) [e] [] pos) (b1 Jf f):=⟨Gsn hg hm ha.h he⟩
theorem Gn4{p:Pos}{e:Expr}{f:Ev (List D)}(hg:Gl X "list")(hm:X.mg "list"=none)(ha:GA X XQ [e] f)(he:starEach [e] X.env=(false,eval e X.env)::starEach [] X.env:=by rfl):GE X XQ (.Call (.Name "list" p) [e] [] pos) (b1 Gad f):=⟨Gne hg hm ha.h he⟩
theorem Ww{p:Pos}{e:Expr}{f:Ev (List D)}(hg:Gl X "tuple")(hm:X.mg "tuple"=none)(ha:GA X XQ [e] f)(he:starEach [e] X.env=(false,eval e X.env)::starEach [] X.env:=by rfl):GE X XQ (.Call (.Name "tuple" p) [e] [] pos) (b1 Gbm f):=⟨Gj1 hg hm ha.h he⟩
theorem Gtq{p:Pos}{e e':Expr}{f:Ev (List D)}(hc:X.calm=true)(hg:Gl X "max")(hm:X.mg "max"=none)(ha:GA X XQ [e,e'] f)(he:starEach [e,e'] X.env=(false,eval e X.env)::starEach [e'] X.env:=by rfl)(hpl:(backTo pos (starEach [e'] X.env)).any (·.1)=false:=by rfl):GE X XQ (.Call (.Name "max" p) [e,e'] [] pos) (b1 Gih f):=⟨Gs9 hc hg hm ha.h he hpl⟩
theorem Ged{p:Pos}{e:Expr}{f:Ev (List D)}(hc:X.calm=true)(hg:Gl X "all")(hm:X.mg "all"=none)(ha:GA X XQ [e] f)(he:starEach [e] X.env=(false,eval e X.env)::starEach [] X.env:=by rfl):GE X XQ (.Call (.Name "all" p) [e] [] pos) (b1 Gar f):=⟨Gsy hc hg hm ha.h he⟩
theorem Gee{p:Pos}{e:Expr}{f:Ev (List D)}(hc:X.calm=true)(hg:Gl X "sum")(hm:X.mg "sum"=none)(ha:GA X XQ [e] f)(he:starEach [e] X.env=(false,eval e X.env)::starEach [] X.env:=by rfl):GE X XQ (.Call (.Name "sum" p) [e] [] pos) (b1 Gas f):=⟨Gs7 hc hg hm ha.h he⟩
theorem Vi{o e:Expr}{f:Ev (List D)}(ho:GE X XQ o fo)(ha:GA X XQ [e] f)(hbase:attributeBase o "append" X.env (eval o X.env)=eval o X.env:=by rfl)(hfew:((backTo cpos (starEach [e] X.env)).all (fun x=>!x.1)&&(backToKw cpos (keywordEach [] X.env)).all (fun x=>x.1.isSome)
   && decide ([e].length+([]:List Keyword).length+(if([]:List Keyword).isEmpty then 0 else 1)<30))=true:=by rfl)(hline:(apos.endLine==cpos.line)=true:=by rfl)(hs:starEach [e] X.env=(false,eval e X.env)::starEach [] X.env:=by rfl):GE X XQ (.Call (.Attribute o "append" apos) [e] [] cpos) (mt Gbn fo f):=⟨Gif ho.h ha.h hbase hfew hline hs⟩
theorem Gtr{o e:Expr}{f:Ev (List D)}(ho:GE X XQ o fo)(ha:GA X XQ [e] f)(hbase:attributeBase o "pop" X.env (eval o X.env)=eval o X.env:=by rfl)(hfew:((backTo cpos (starEach [e] X.env)).all (fun x=>!x.1)&&(backToKw cpos (keywordEach [] X.env)).all (fun x=>x.1.isSome)
   && decide ([e].length+([]:List Keyword).length+(if([]:List Keyword).isEmpty then 0 else 1)<30))=true:=by rfl)(hline:(apos.endLine==cpos.line)=true:=by rfl)(hs:starEach [e] X.env=(false,eval e X.env)::starEach [] X.env:=by rfl):GE X XQ (.Call (.Attribute o "pop" apos) [e] [] cpos) (mt Gfa fo f):=⟨Gs1 ho.h ha.h hbase hfew hline hs⟩
theorem Gkt(ha:GE X XQ a fa)(hb:GE X XQ b fb):GT X XQ (.Compare a [.Lt] [b] pos) (tb (o2 ltD fa fb)):=⟨Gv9 ha.h hb.h⟩
theorem Gff(ha:GE X XQ a fa)(hb:GE X XQ b fb):GT X XQ (.Compare a [.Gt] [b] pos) (tb (o2 gtD fa fb)):=⟨Gwa ha.h hb.h⟩
theorem Jq(hu:X.A.units+64<cLine)(ha:GE X XQ a fa)(hb:GE X XQ b fb):GT X XQ (.Compare a [.Eq] [b] pos) (tb (o2 eqD fa fb)):=⟨Gv3 hu ha.h hb.h⟩
theorem Yv(hu:X.A.units+64<cLine)(ha:GE X XQ a fa)(hb:GE X XQ b fb):GT X XQ (.Compare a [.NotEq] [b] pos) (tb (o2 neD fa fb)):=⟨Gv5 hu ha.h hb.h⟩
theorem Gbt(ha:GE X XQ a fa)(hb:GE X XQ b fb):GT X XQ (.Compare a [.Is] [b] pos) (tb (o2 Vh fa fb)):=⟨Gsp ha.h hb.h⟩
theorem Gfg{c:Expr}{op op':CmpOp}{r r':R2}{o o':D->D->Sto->Out D}{fc:Ev D}(ho:OpR X (compareOp op) r)(hd:OpD X.K r o)(ho':OpR X (compareOp op') r')(hd':OpD X.K r' o')(ha:GE X XQ a fa)(hb:GE X XQ b fb)(hc:GE X XQ c fc)(hm:lastMarks [op,op'] [b,c]=false:=by with_unfolding_all rfl):GT X XQ (.Compare a [op,op'] [b,c] pos) (tb (ch o o' fa fb fc)):=⟨Gj3 ho hd ho' hd' ha.h hb.h hc.h hm⟩
theorem Gbu{f:Ev Bool}(h:GT X XQ a f):GT X XQ (.UnaryOp .Not a pos) (tn f):=⟨Grt h.h⟩
theorem Jp{e:Expr}{f:Ev D}(h:GE X XQ e f)(he:∀ whole,isTrue e X.env whole=(do let v <- whole; standAt e.pos; holding [v] (truthy v)):=by intro _; rfl):GT X XQ e (tt f):=⟨Grs h.h he⟩
theorem Yw{f:Ev Bool}(h:GT X XQ a f):GW X XQ (.BoolOp .And [a] pos) f:=⟨Gmz h.h⟩
theorem Wy{f:Ev Bool}(h:GT X XQ a f):GW X XQ (.BoolOp .Or [a] pos) f:=⟨Gru h.h⟩
theorem Gbv{rest:List Expr}{f g:Ev Bool}(h:GT X XQ a f)(hb:GW X XQ (.BoolOp .And (b::rest) pos) g):GW X XQ (.BoolOp .And (a::b::rest) pos) (ta f g):=⟨Grv h.h hb.h⟩
theorem Gah{rest:List Expr}{f g:Ev Bool}(h:GT X XQ a f)(hb:GW X XQ (.BoolOp .Or (b::rest) pos) g):GW X XQ (.BoolOp .Or (a::b::rest) pos) (to f g):=⟨Gv0 h.h hb.h⟩
theorem Gc :GA X XQ [] an:=⟨Grp ⟩
theorem Ga{e:Expr}{f:Ev D}{g:Ev (List D)}(ha:GE X XQ e f)(hr:GA X XQ es g)(hs:starEach (e::es) X.env=(false,eval e X.env)::starEach es X.env:=by rfl):GA X XQ (e::es) (ac f g):=⟨Gmv ha.h hr.h hs⟩
theorem Vm :GO X XQ none onone:=⟨Gnh ⟩
theorem Vn{e:Expr}{f:Ev D}(h:GE X XQ e f):GO X XQ (some e) (osome f):=⟨Gni h.h⟩
theorem Gdl{f:Ev (List D)}{p:Pos}(hg:Gl X "range")(hm:X.mg "range"=none)(ha:GA X XQ [a] f)(hs:starEach [a] X.env=[(false,eval a X.env)]:=by rfl):GI X XQ tg (.Call (.Name "range" p) [a] [] pos) (ir1 f):=⟨Gic hg hm ha.h hs⟩
theorem Gik{f:Ev (List D)}{p:Pos}(hg:Gl X "range")(hm:X.mg "range"=none)(ha:GA X XQ [a,b] f)(hs:starEach [a,b] X.env=[(false,eval a X.env),(false,eval b X.env)]:=by rfl)(hs2:starEach [b] X.env=[(false,eval b X.env)]:=by rfl):GI X XQ tg (.Call (.Name "range" p) [a,b] [] pos) (ir2 f):=⟨Gid hg hm ha.h hs hs2⟩
theorem Vo{l:Expr}{f:Ev D}(hl:GE X XQ l f):GI X XQ tg l (isrc f):=⟨Gr9 hl.h⟩
theorem ggn(i:Nat){x:Str}(hN:X.N.Nodup)(h:OkL X.env.scope x)(hi:X.N[i]?=some x:=by rfl)(hf:X.fn x=true:=by rfl):GG X (.Name x pos) (gn i):=⟨jgn i hN h hi hf⟩
theorem Gyt(i:Nat){x:Str}(hN:N'.Nodup)(h:Gnm scope x=true)(hi:N'[i]?=some x:=by rfl):GG (blk X s2 H2 C scope c N' fp) (.Name x pos) (gn i):=⟨Gyp i hN h hi⟩
theorem Jc{m:Nat}{k:Tgs}(hc:X.calm=true)(h:GGs X es k)(hn:(assignEach es X.env).length=n:=by rfl)(hst:(assignEach es X.env).findIdx? (·.1)=none:=by rfl):GG X (.Tuple es m pos) (gt k n):=⟨Gr1 hc h.h hn hst⟩
theorem Hm :GGs X [] gnil:=⟨Gm3 ⟩
theorem Gi{e:Expr}{g:Tg}{k:Tgs}(h1:GG X e g)(h2:GGs X es k)(hs:(assignEach (e::es) X.env).map (·.2)=assign e X.env::(assignEach es X.env).map (·.2):=by rfl):GGs X (e::es) (gcons g k):=⟨Gjs h1.h h2.h hs⟩
theorem Gu :GSs X XQ [] skip:=⟨Gm0 ⟩
theorem Ge{rest:List Stmt}{f g:Sv}(h1:GS X XQ st f)(h2:GSs X XQ rest g):GSs X XQ (st::rest) (sq f g):=⟨Gjq h1.h h2.h⟩
theorem Gh{f:Sv}(h1:GS X XQ st f):GSs X XQ [st] f:=⟨Gm1 h1.h⟩
theorem Gn{e:Expr}{f:Ev D}(he:GE X XQ e f):GS X XQ (.Return (some e) pos) (sret f):=⟨Gr0 he.h⟩
theorem Hf{c:Expr}{a b:List Stmt}{f g:Sv}(hc:GT X XQ c fc)(ha:GSs X XQ a f)(hb:GSs X XQ b g):GS X XQ (.If c a b pos) (sif fc f g):=⟨Gv1 hc.h ha.h hb.h⟩
theorem gset(i:Nat){x:Str}{e:Expr}{f:Ev D}(hN:X.N.Nodup)(h:OkL X.env.scope x)(he:GE X XQ e f)(hi:X.N[i]?=some x:=by rfl)(hs:swapsWith e (some (.Name x pos')) pos.line X.env=pure false:=by rfl)(hf:X.fn x=true:=by rfl):GS X XQ (.Assign [.Name x pos'] e pos) (sa f (gn i)):=⟨jset i hN h he.h hi hs hf⟩
theorem Gku(i:Nat){sc:Scope}{pk:List (Option Nat)}{f:Ev Src}{g:Tg}{t:Ev Bool}{e:Ev D}(hsc:X.env.scope=sc)(hNN:X.N=N)(ct:CompTab sc scope N N' pk)(hcm:X.calm=true)(hi:GI X XQ tg iter f)(hg:∀ cl s2 H2 C fp,GG (blk X s2 H2 C scope cl N' fp) tg g)(ht:∀ cl s2 H2 C fp,GTs (blk X s2 H2 C scope cl N' fp) XN ifs t)(he:∀ cl s2 H2 C fp,GE (blk X s2 H2 C scope cl N' fp) XN elt e)(hN:X.N.Nodup)(hl:OkL X.env.scope y)(hsw:swapsWith (.ListComp elt [⟨tg,iter,ifs,0⟩] scope pos) (some (.Name y py)) spos.line X.env=pure true)(hy:X.N[i]?=some y:=by rfl)(hs:∀ x,foldedSetIterable iter X.env x=pure x:=by intro _; rfl)(hf:X.fn y=true:=by rfl):GS X XQ (.Assign [.Name y py] (.ListComp elt [⟨tg,iter,ifs,0⟩] scope pos) spos) (sa (cmp f pk g t e) (gn i)):=⟨Gkb i hsc hNN ct hcm hi.h (fun z0 z1 z2 z3 z4=>(hg z0 z1 z2 z3 z4).h) (fun z0 z1 z2 z3 z4=>(ht z0 z1 z2 z3 z4).h) (fun z0 z1 z2 z3 z4=>(he z0 z1 z2 z3 z4).h) hN hl hsw hy hs hf⟩
theorem Ki{e:Expr}{f:Ev D}{g:Tg}(he:GE X XQ e f)(hg:GG X tg g)(hs:swapsWithSole [tg] e pos.line X.env=pure false:=by rfl)(hw:swappedStores [tg] e X.env=pure none:=by rfl)(h1:(assignEach [tg] X.env).map (·.2)=[assign tg X.env]:=by rfl):GS X XQ (.Assign [tg] e pos) (sa f g):=⟨Gr2 he.h hg.h hs hw h1⟩
theorem Ggm(i j:Nat){x:Str}{f:Ev (List D)}{px pt:Pos}{kt k2 pt2}(hc:X.calm=true)(hN:X.N.Nodup)(hi:X.N[i]?=some x)(hj:X.N[j]?=some y)(hij:i≠j)(hx:X.env.scope.names.lookup x=some .local)(hy:X.env.scope.names.lookup y=some .local)(ha:GA X XQ [a,b] f)(hw:swappedStores [.Tuple [.Name x px,.Name y py] kt pt] (.Tuple [a,b] k2 pt2) X.env=pure (some [x,y]))(hs:swapsWithSole [.Tuple [.Name x px,.Name y py] kt pt] (.Tuple [a,b] k2 pt2) pos.line X.env=pure false:=by rfl):GS X XQ (.Assign [.Tuple [.Name x px,.Name y py] kt pt] (.Tuple [a,b] k2 pt2) pos) (spar i j f):=⟨Gsz i j hc hN hi hj hij hx hy ha.h hw hs⟩
theorem Yx{ob ix e:Expr}{f fi:Ev D}(he:GE X XQ e f)(hob:GE X XQ ob fo)(hix:GE X XQ ix fi)(hs:swapsWithSole [.Subscript ob ix p2] e pos.line X.env=pure false:=by rfl)(hw:swappedStores [.Subscript ob ix p2] e X.env=pure none:=by rfl)(h1:(assignEach [.Subscript ob ix p2] X.env).map (·.2)=[assign (.Subscript ob ix p2) X.env]:=by rfl)(ha:∀ v,assign (.Subscript ob ix p2) X.env v=(do
   let ov <- holding [v] (eval ob X.env)
   let iv <- holding [v,ov] (eval ix X.env)
   standAt p2
   holding [v,ov,iv] (setItem ov iv v)
   release [v,ov,iv] []):=by intro _; rfl):GS X XQ (.Assign [.Subscript ob ix p2] e pos) (ss f fo fi Xu):=⟨Gjz he.h hob.h hix.h hs hw h1 ha⟩
theorem Kj{e:Expr}{f:Ev D}(he:GE X XQ e f)(hs:swapsWith e none pos.line X.env=pure false:=by rfl):GS X XQ (.Expr e pos) (sx f):=⟨Gm2 he.h hs⟩
theorem Ggn{f:Ev Src}{g:Tg}{b:Sv}(hp:PassesOwn (model X.prog X.w) X.A X.env X.xe)(hc:X.calm=true)(hi:GI X XQ tg iter f)(hg:GG X tg g)(hb:GSs X XQ body b)(hs:∀ x,foldedSetIterable iter X.env x=pure x:=by intro _; rfl):GS X XQ (.For tg iter body [] pos) (sfor f g b):=⟨Gr5 hp hc hi.h hg.h hb.h hs⟩
theorem Gfh(fuel:Nat){c:Expr}{b:Sv}(hp:PassesOwn (model X.prog X.w) X.A X.env X.xe)(hc:GT X XQ c fc)(hb:GSs X XQ body b):GS X XQ (.While c body [] pos) (whN fc b fuel):=⟨Gjv fuel hp hc.h hb.h⟩
theorem Gts(i:Nat){x:Str}{e:Expr}{f:Ev D}(hN:X.N.Nodup)(h:OkL X.env.scope x)(he:GE X XQ e f)(hi:X.N[i]?=some x:=by rfl)(hf:X.fn x=true:=by rfl):GS X XQ (.AugAssign (.Name x pos') .Add e pos) (sag i (fun a b=>a+b) f):=⟨Gta i hN h he.h hi hf⟩
theorem Gai:GS X XQ (.Continue pos) sct:=⟨Ge7 ⟩
theorem gv(i:Nat){x:Str}(h:OkV X.env.scope x)(hN:X.N[i]?=some x:=by rfl):GE X XQ (.Name x pos) (vr i):=⟨jv i h hN⟩
theorem gvB(i:Nat){x:Str}(h:Gka scope x=true)(hN:N'[i]?=some x:=by rfl):GE (blk X s2 H2 C scope c N' fp) XQ (.Name x pos) (vr i):=⟨jvB i h hN⟩
theorem gown{x:Str}{ps:List Str}{p:Pos}{e:Expr}(C:Cal X.prog X.w X.K X.mg X.base x ps fn j)(hr:Room k X.A)(hg:Gl X x)(hp:Hk x=true)(ha:GA X XQ (e::es) t)(hn:ps.length=n:=by rfl)(hj:j<=k:=by decide)(he:starEach (e::es) X.env=(false,eval e X.env)::starEach es X.env:=by rfl)(hpl:(backTo pos (starEach es X.env)).any (·.1)=false:=by rfl):GE X XQ (.Call (.Name x p) (e::es) [] pos) (cl n (Go fn) t):=⟨jown C hr hg hp ha.h hn hj he hpl⟩
theorem gcomp{sc:Scope}{pk:List (Option Nat)}{f:Ev Src}{g:Tg}{t:Ev Bool}{e:Ev D}(hsc:X.env.scope=sc)(hNN:X.N=N)(ct:CompTab sc scope N N' pk)(hcm:X.calm=true)(hi:GI X XQ tg iter f)(hg:∀ cl s2 H2 C fp,GG (blk X s2 H2 C scope cl N' fp) tg g)(ht:∀ cl s2 H2 C fp,GTs (blk X s2 H2 C scope cl N' fp) XN ifs t)(he:∀ cl s2 H2 C fp,GE (blk X s2 H2 C scope cl N' fp) XN elt e)(hs:∀ x,foldedSetIterable iter X.env x=pure x:=by intro _; rfl):GE X XQ (.ListComp elt [⟨tg,iter,ifs,0⟩] scope pos) (cmp f pk g t e):=⟨jcomp hsc hNN ct hcm hi.h (fun z0 z1 z2 z3 z4=>(hg z0 z1 z2 z3 z4).h) (fun z0 z1 z2 z3 z4=>(ht z0 z1 z2 z3 z4).h) (fun z0 z1 z2 z3 z4=>(he z0 z1 z2 z3 z4).h) hs⟩
theorem Kc{Y:Cx}:GTs Y XQ [] ttrue:=⟨Gm7 ⟩
theorem GW.jt{e:Expr}{f:Ev Bool}(h:GW X XQ e f):GT X XQ e f:=⟨JW.jt h.h⟩
def Gn5:Stmt->List Stmt
 | .ClassDef _ _ _ b _ _ _ _ _ _ _=>b
 | _=>[]
section
variable{X:Cx}{XQ:XW}{k:Nat}{x:Str}{p pos:Pos}{e:Expr}{es:List Expr}
theorem Gwm{ps:List Str}{ys:List Str}(xs:XNs X.K ys)(L:XL X XQ)(C:CalX X.prog X.w X.K X.mg X.base x ps fn j)(hr:Room k X.A)(hg:Gl X x)(hp:Hk x=true)(ha:GA X XQ (e::es) t)(hn:ps.length=n:=by rfl)(hj:j<=k:=by decide)(he:starEach (e::es) X.env=(false,eval e X.env)::starEach es X.env:=by rfl)(hpl:(backTo pos (starEach es X.env)).any (·.1)=false:=by rfl):
  GE X XQ (.Call (.Name x p) (e::es) [] pos) (cl n (gX ys fn) t):=⟨Gwi xs L C hr hg hp ha.h hn hj he hpl⟩
theorem Gkv{pos:Pos}(L:XL X XQ)(hcm:X.calm=true)(C:ClX X.prog X.w X.K X.mg X.base x j)(hr:Room k X.A)(hg:Gl X x)(hp:Hk x=true)(ha:GA X XQ [a] t)(hj:j+1<=k:=by decide)(he:starEach [a] X.env=(false,eval a X.env)::starEach [] X.env:=by rfl)(hpl:(backTo cpos (starEach [] X.env)).any (·.1)=false:=by rfl):
  GS X XQ (.Raise (some (.Call (.Name x np) [a] [] cpos)) none pos) (srs x t):=⟨Gko L hcm C hr hg hp ha.h hj he hpl⟩
theorem Ghf{c:Str}{pos:Pos}{b0:Stmt}{suite:List Stmt}{ys:List Str}{fb fh:Sv}(pl:Plain X)(ct:Cat X.K X.mg c ys)(hg:Gl X c)(hp:Hk c=true)(hb:∀ (pn:List (Addr×Obj)) (xe:Value->Shared->Prop) (XQ':XW),XL (trb X pn xe) XQ'->GSs (trb X pn xe) XQ' body fb)(hs:∀ a,GSs (hnd X a) XN (b0::suite) fh):
  GS X XQ (.Try body [.ExceptHandler (some (.Name c np)) none (b0::suite) hpos] [] [] pos) (Wg ys (Gfe fh) fb):=⟨Gn1 pl ct hg hp (fun a b c d=>(hb a b c d).h) fun a=>(hs a).h⟩
end
structure FH(K:PySem.W.Frag)(x:Str)(st:Stmt):Prop where
 ex:∃ (f:Addr) (oc:Value) (od an:Option Addr) (osl:Array (Option Value)) (kV doc pm cdv ct:Value),PySem.W.nsIn K mainGlobals x=some (some (.ref f))/\K.lookup f=some ⟨oc,od,.func (PySem.W.fnOf x x (Hu st) (Ha st) (Gf st) .none kV doc pm an cdv ct),osl⟩/\PySem.W.codeIn K cdv x=true/\PySem.W.keepIn K (.ref f)=true
section
variable{K:PySem.W.Frag}{mg:Str->Option Value}
theorem Gwn{x:Str}{f:Addr}{oc:Value}{an:Option Addr}{kV:Value}(a:PySem.W.nsIn K mainGlobals x=some (some (.ref f)))(l:K.lookup f=some ⟨oc,od,.func (PySem.W.fnOf x x (Hu st) (Ha st) (Gf st) .none kV doc pm an cdv ct),osl⟩)(c:PySem.W.codeIn K cdv x=true)(k:PySem.W.keepIn K (.ref f)=true):FH K x st:=⟨f,oc,od,an,osl,kV,doc,pm,cdv,ct,a,l,c,k⟩
theorem FH.dn{x:Str}{ps:List Str}(F:FH K x st)(X:K.In h)(G:h.Ns mainGlobals mg)(hb:∀ (kV doc pm:Value) (an:Option Addr) (cdv ct:Value) (us:List Value),us.length=ps.length->bindArgs (PySem.W.fnOf x x (Hu st) (Ha st) (Gf st) .none kV doc pm an cdv ct) ⟨us,[]⟩=pure (ps.zip us)):Dn K mg x st ps:=by
 obtain⟨f,oc,od,an,osl,kV,doc,pm,cdv,ct,a,l,c,k⟩:=F.ex
 exact Gwd X G a l c k hb
end
section
variable{K:PySem.W.Frag}{h:Heap}{mg:Str->Option Value}{x:Str}
theorem Gn6{t:Tok}(X:K.In h)(G:h.Ns mainGlobals mg)(a:PySem.W.nsIn K mainGlobals x=some (some (.str y t))):∃ u v,mg x=some u/\He v u/\∀ mp H,Rep K mp H (.str y) v:=
 ⟨_,.str y,PySem.W.mg_of X G a,⟨t,rfl⟩,fun _ _=>rfl⟩
theorem Gkw{p:Addr}{t:Tok}{sl:Array (Option Value)}(X:K.In h)(G:h.Ns mainGlobals mg)(a:PySem.W.nsIn K mainGlobals x=some (some (.ref p)))(l:K.lookup p=some { cls:=.type "tuple",dict:=none,data:=.seq #[.str y t] n,slots:=sl }):
  ∃ u v,mg x=some u/\He v u/\∀ mp H,Rep K mp H (.tup [.str y]) v:=
 ⟨_,.ref p,PySem.W.mg_of X G a,rfl,fun _ _=>⟨p,[.str y],rfl,.inr ⟨_,_,n,l,rfl,rfl,by rw[sizeLine_eq]; simp,.cons ⟨t,rfl⟩ .nil⟩,RepL.cons rfl RepL.nil⟩⟩
end
structure FnS(N P:List Str)(sc:Scope):Prop where
 s:FnScope N P sc
 v:N.all (okV sc)=true
 l:N.all (okL sc)=true
theorem kdF{P:List Str}{s:Scope}(a:s.kind=.function:=by rfl)(b:s.isCoroutine=false:=by rfl)(c:s.isGenerator=false:=by rfl)(d:N.Nodup:=by decide +kernel)(e:N.take P.length=P:=by rfl)(f:∀ x∈P,s.names.lookup x=some .local\/s.names.lookup x=some .cell:=by decide +kernel)(g:∀ y∈s.names,y.2≠.free:=by decide +kernel)(v:N.all (okV s)=true:=by decide +kernel)(l:N.all (okL s)=true:=by decide +kernel):FnS N P s:=⟨⟨a,b,c,d,e,f,g⟩,v,l⟩
theorem FnS.nd{P:List Str}{sc:Scope}(S:FnS N P sc):N.Nodup:=S.s.nd
theorem Gkx{i:Nat}{x:Str}(h:N[i]?=some x):x∈N:=List.mem_of_getElem? h
theorem FnS.ov{P:List Str}{sc:Scope}{i:Nat}{x:Str}(S:FnS N P sc)(h:N[i]?=some x):OkV sc x:=⟨List.all_eq_true.mp S.v x (Gkx h)⟩
theorem FnS.ol{P:List Str}{sc:Scope}{i:Nat}{x:Str}(S:FnS N P sc)(h:N[i]?=some x):OkL sc x:=⟨List.all_eq_true.mp S.l x (Gkx h)⟩
theorem kdC{sc:Scope}{pk:List (Option Nat)}(a:scope.kind=.function:=by rfl)(b:∀ y∈scope.names,y.2=.cell->scope.names.lookup y.1=some .cell:=by decide +kernel)(c:∀ y∈scope.names,y.2=.local->scope.names.lookup y.1=some .local:=by decide +kernel)(d:∀ y∈scope.names,y.2=.free->sc.names.lookup y.1=some .cell\/sc.names.lookup y.1=some .free:=by decide +kernel)(e:pk.length=N'.length:=by rfl)(f:((List.range N'.length).all fun i=>match pk[i]? with
  | some (some j)=>match N[j]?,N'[i]? with
   | some x,some y=>(x==y)&&((sc.names.lookup y==some NameKind.cell)||(sc.names.lookup y==some NameKind.free))&&(scope.names.lookup y==some NameKind.free)
   | _,_=>false
  | _=>true)=true:=by decide +kernel):CompTab sc scope N N' pk:=⟨a,b,c,d,e,f⟩
section
variable{X:Cx}{XQ:XW}{k:Nat}{x:Str}{p pos:Pos}{e:Expr}{es:List Expr}{P:List Str}{f:Ev D}
theorem gw(i:Nat)(S:FnS X.N P X.env.scope)(hN:X.N[i]?=some x:=by rfl):GE X XQ (.Name x pos) (vr i):=gv i (S.ov hN) hN
theorem gG(s:Scope)(h:okG s x=true:=by decide +kernel)(hs:X.env.scope=s:=by rfl):Gl X x:=gl ⟨hs▸h⟩
theorem ggw(i:Nat)(S:FnS X.N P X.env.scope)(hi:X.N[i]?=some x:=by rfl)(hf:X.fn x=true:=by rfl):GG X (.Name x pos) (gn i):=ggn i S.nd (S.ol hi) hi hf
theorem gsew(i:Nat)(S:FnS X.N P X.env.scope)(he:GE X XQ e f)(hi:X.N[i]?=some x:=by rfl)(hs:swapsWith e (some (.Name x pos')) pos.line X.env=pure false:=by rfl)(hf:X.fn x=true:=by rfl):
  GS X XQ (.Assign [.Name x pos'] e pos) (sa f (gn i)):=gset i S.nd (S.ol hi) he hi hs hf
theorem gsiw(i:Nat)(S:FnS X.N P X.env.scope)(he:GE X XQ e f)(hi:X.N[i]?=some x:=by rfl)(hf:X.fn x=true:=by rfl):GS X XQ (.AugAssign (.Name x pos') .Add e pos) (sag i (fun a b=>a+b) f):=Gts i S.nd (S.ol hi) he hi hf
theorem gow{ps:List Str}(s:Scope)(C:Cal X.prog X.w X.K X.mg X.base x ps fn j)(hr:Room k X.A)(ha:GA X XQ (e::es) t)(hg:okG s x=true:=by decide +kernel)(hn:ps.length=n:=by rfl)(hj:j<=k:=by decide)(hs:X.env.scope=s:=by rfl)(he:starEach (e::es) X.env=(false,eval e X.env)::starEach es X.env:=by rfl)(hpl:(backTo pos (starEach es X.env)).any (·.1)=false:=by rfl):
  GE X XQ (.Call (.Name x p) (e::es) [] pos) (cl n (Go fn) t):=gown C hr (gG s hg hs) (okG.gl hg).2 ha hn hj he hpl
theorem Gfi{ps:List Str}{ys:List Str}(s:Scope)(xs:XNs X.K ys)(L:XL X XQ)(C:CalX X.prog X.w X.K X.mg X.base x ps fn j)(hr:Room k X.A)(ha:GA X XQ (e::es) t)(hg:okG s x=true:=by decide +kernel)(hn:ps.length=n:=by rfl)(hj:j<=k:=by decide)(hs:X.env.scope=s:=by rfl)(he:starEach (e::es) X.env=(false,eval e X.env)::starEach es X.env:=by rfl)(hpl:(backTo pos (starEach es X.env)).any (·.1)=false:=by rfl):
  GE X XQ (.Call (.Name x p) (e::es) [] pos) (cl n (gX ys fn) t):=Gwm xs L C hr (gG s hg hs) (okG.gl hg).2 ha hn hj he hpl
theorem Wz(s:Scope)(L:XL X XQ)(C:ClX X.prog X.w X.K X.mg X.base x j)(hr:Room k X.A)(ha:GA X XQ [a] t)(hg:okG s x=true:=by decide +kernel)(hcm:X.calm=true:=by rfl)(hj:j+1<=k:=by decide)(hs:X.env.scope=s:=by rfl)(he:starEach [a] X.env=(false,eval a X.env)::starEach [] X.env:=by rfl)(hpl:(backTo cpos (starEach [] X.env)).any (·.1)=false:=by rfl):
  GS X XQ (.Raise (some (.Call (.Name x np) [a] [] cpos)) none pos) (srs x t):=Gkv L hcm C hr (gG s hg hs) (okG.gl hg).2 ha hj he hpl
theorem Ho{T:String}(g1:Gl X "isinstance")(g2:Gl X x)(k:Kit X.K T)(hm:X.mg "isinstance"=none)(hmt:X.mg x=none)(he:GE X XQ e f)(hv:bootBuiltins x=some (.type T):=by rfl)(hnx:x≠"__name__":=by decide +kernel)(hdx:(x==("__debug__":Str))=false:=by decide +kernel)(hs:starEach [e,.Name x p2] X.env=(false,eval e X.env)::starEach [.Name x p2] X.env:=by rfl)(hpl:(backTo pos (starEach [.Name x p2] X.env)).any (·.1)=false:=by rfl)(hs2:starEach [.Name x p2] X.env=(false,eval (.Name x p2) X.env)::starEach [] X.env:=by rfl):GE X XQ (.Call (.Name "isinstance" p) [e,.Name x p2] [] pos) (o1 (isD T) f):=Gtp k hv hnx hdx g1 hm g2 hmt he hs hpl hs2
theorem Xy{sc:Scope}{pk:List (Option Nat)}{f:Ev Src}{g:Tg}{t:Ev Bool}{e:Ev D}(S:FnS N P sc)(hi:GI X XQ tg iter f)(hg:∀ cl s2 H2 C fp,GG (blk X s2 H2 C scope cl N' fp) tg g)(ht:∀ cl s2 H2 C fp,GTs (blk X s2 H2 C scope cl N' fp) XN ifs t)(he:∀ cl s2 H2 C fp,GE (blk X s2 H2 C scope cl N' fp) XN elt e)(ct:CompTab sc scope N N' pk:=by exact kdC)(hsc:X.env.scope=sc:=by rfl)(hNN:X.N=N:=by rfl)(hcm:X.calm=true:=by rfl)(hs:∀ x,foldedSetIterable iter X.env x=pure x:=by intro _; rfl):GE X XQ (.ListComp elt [⟨tg,iter,ifs,0⟩] scope pos) (cmp f pk g t e):=gcomp hsc hNN ct hcm hi hg ht he hs
theorem Gp4(i:Nat){sc:Scope}{pk:List (Option Nat)}{f:Ev Src}{g:Tg}{t:Ev Bool}{e:Ev D}(S:FnS N P sc)(hi:GI X XQ tg iter f)(hg:∀ cl s2 H2 C fp,GG (blk X s2 H2 C scope cl N' fp) tg g)(ht:∀ cl s2 H2 C fp,GTs (blk X s2 H2 C scope cl N' fp) XN ifs t)(he:∀ cl s2 H2 C fp,GE (blk X s2 H2 C scope cl N' fp) XN elt e)(ct:CompTab sc scope N N' pk:=by exact kdC)(hsc:X.env.scope=sc:=by rfl)(hNN:X.N=N:=by rfl)(hcm:X.calm=true:=by rfl)(hsw:swapsWith (.ListComp elt [⟨tg,iter,ifs,0⟩] scope pos) (some (.Name y py)) spos.line X.env=pure true:=by rfl)(hy:N[i]?=some y:=by rfl)(hs:∀ x,foldedSetIterable iter X.env x=pure x:=by intro _; rfl)(hf:X.fn y=true:=by rfl):GS X XQ (.Assign [.Name y py] (.ListComp elt [⟨tg,iter,ifs,0⟩] scope pos) spos) (sa (cmp f pk g t e) (gn i)):=
 Gku i hsc hNN ct hcm hi hg ht he (hNN▸S.nd) (hsc▸S.ol hy) hsw (hNN▸hy) hs hf
section
variable{s2:Shared}{H2:Hp}{C:Addr}{scope:Scope}{c:List (Str×Addr)}{N':List Str}{fp:List Addr}
theorem Ko(i:Nat)(h:Gka scope x=true:=by decide +kernel)(hN:N'[i]?=some x:=by rfl):GE (blk X s2 H2 C scope c N' fp) XQ (.Name x pos) (vr i):=gvB i h hN
theorem Jz(i:Nat)(h:Gnm scope x=true:=by decide +kernel)(hN:N'.Nodup:=by decide +kernel)(hi:N'[i]?=some x:=by rfl):GG (blk X s2 H2 C scope c N' fp) (.Name x pos) (gn i):=Gyt i hN h hi
theorem Gil{ps:List Str}(Q:Cal X.prog X.w X.K X.mg X.base x ps fn j)(hr:Room k X.A)(ha:GA (blk X s2 H2 C scope c N' fp) XQ (e::es) t)(hg:okG scope x=true:=by decide +kernel)(hn:ps.length=n:=by rfl)(hj:j<=k:=by decide)(he:starEach (e::es) (blk X s2 H2 C scope c N' fp).env=(false,eval e (blk X s2 H2 C scope c N' fp).env)::starEach es (blk X s2 H2 C scope c N' fp).env:=by rfl)(hpl:(backTo pos (starEach es (blk X s2 H2 C scope c N' fp).env)).any (·.1)=false:=by rfl):
  GE (blk X s2 H2 C scope c N' fp) XQ (.Call (.Name x p) (e::es) [] pos) (cl n (Go fn) t):=gown (X:=blk X s2 H2 C scope c N' fp) Q hr (glB hg) (okG.gl hg).2 ha hn hj he hpl
end
end
section
variable{P:Program}{w:World}{K:PySem.W.Frag}{mg:Str->Option Value}{base:Heap}{x:Str}{st:Stmt}{ps N:List Str}{fn:Fn}
abbrev GH(K:PySem.W.Frag)(mg:Str->Option Value):Prop:=∃ h:Heap,K.In h/\h.Ns mainGlobals mg
theorem calw{b:Sv}(k:Nat)(F:FH K x st)(g:GH K mg)(S:FnS N ps (Gf st))(hfn:fn=fnB N.length b)
  (hb:∀ (f:Addr) (cdv:Value) (A:Around) (outer:List PySem.Env) (s:Shared) (H:Hp) (E:XK),Room k (A.deeper (envOfC x (Gf st) s.heap.objs.size f cdv))→
   JSs (Kq CX0 P w K mg base N x (Gf st) f cdv A outer s H E).nox XN (Ha st) b)
  (ha:∀ (kV doc pm:Value) (an:Option Addr) (cdv ct:Value) (us:List Value),us.length=ps.length->bindArgs (PySem.W.fnOf x x (Hu st) (Ha st) (Gf st) .none kV doc pm an cdv ct) ⟨us,[]⟩=pure (ps.zip us):=by first | exact(fun _ _ _ _ _ _ us hl=>match us,hl with | [_],_=>rfl) | exact(fun _ _ _ _ _ _ us hl=>match us,hl with | [_,_],_=>rfl) | exact(fun _ _ _ _ _ _ us hl=>match us,hl with | [_,_,_],_=>rfl) | exact(fun _ _ _ _ _ _ us hl=>match us,hl with | [_,_,_,_],_=>rfl) | exact(fun _ _ _ _ _ _ us hl=>match us,hl with | [_,_,_,_,_],_=>rfl) | exact(fun _ _ _ _ _ _ us hl=>match us,hl with | [_,_,_,_,_,_],_=>rfl)):Cal P w K mg base x ps fn (k+1):=
 let ⟨_,X,G⟩:=g; Gs2 N k b hfn (F.dn X G ha) S.s hb
theorem calxw{b:Sv}(k:Nat)(F:FH K x st)(g:GH K mg)(S:FnS N ps (Gf st))(hfn:fn=fnB N.length b)
  (hb:∀ (f:Addr) (cdv:Value) (A:Around) (outer:List PySem.Env) (s:Shared) (H:Hp) (E:XK) (XQ:XW),Room k (A.deeper (envOfC x (Gf st) s.heap.objs.size f cdv))->XL (Kq (CXe P w) P w K mg base N x (Gf st) f cdv A outer s H E) XQ→
   JSs (Kq (CXe P w) P w K mg base N x (Gf st) f cdv A outer s H E) XQ (Ha st) b)
  (ha:∀ (kV doc pm:Value) (an:Option Addr) (cdv ct:Value) (us:List Value),us.length=ps.length->bindArgs (PySem.W.fnOf x x (Hu st) (Ha st) (Gf st) .none kV doc pm an cdv ct) ⟨us,[]⟩=pure (ps.zip us):=by first | exact(fun _ _ _ _ _ _ us hl=>match us,hl with | [_],_=>rfl) | exact(fun _ _ _ _ _ _ us hl=>match us,hl with | [_,_],_=>rfl) | exact(fun _ _ _ _ _ _ us hl=>match us,hl with | [_,_,_],_=>rfl) | exact(fun _ _ _ _ _ _ us hl=>match us,hl with | [_,_,_,_],_=>rfl) | exact(fun _ _ _ _ _ _ us hl=>match us,hl with | [_,_,_,_,_],_=>rfl) | exact(fun _ _ _ _ _ _ us hl=>match us,hl with | [_,_,_,_,_,_],_=>rfl)):CalX P w K mg base x ps fn (k+1):=
 let ⟨_,X,G⟩:=g; Gnx N k b hfn (F.dn X G ha) S.s hb
theorem FH.fnx{f:Addr}(F:FH K x st)(X:K.In h)(G:h.Ns mainGlobals mg)(hm:mg x=some (.ref f)):∃ od an osl kV doc pm cdv ct,∃ oc:Value,PySem.W.keepIn K (.ref f)=true/\PySem.W.codeIn K cdv x=true/\K.lookup f=some ⟨oc,od,.func (PySem.W.fnOf x x (Hu st) (Ha st) (Gf st) .none kV doc pm an cdv ct),osl⟩:=by
 obtain⟨f',oc,od,an,osl,kV,doc,pm,cdv,ct,a,l,c,k⟩:=F.ex
 have e:=hm.symm.trans (PySem.W.mg_of X G a)
 cases e
 exact⟨od,an,osl,kV,doc,pm,cdv,ct,oc,k,c,l⟩
end
def Gky(neg:Bool)(x y:D)(S:Sto):Out D:=match toP S 40 x,toP S 40 y with
 | some p,some (.list l)=>if(SeqAt.shaped p&&SeqAt.shaped (.list l))=true then .ok (.bl (if neg=true then !(l.any fun z=>PyData.eqv z p) else l.any fun z=>PyData.eqv z p)) S else .bad
 | some p,some (.tuple l)=>if(SeqAt.shaped p&&SeqAt.shaped (.tuple l))=true then .ok (.bl (if neg=true then !(l.any fun z=>PyData.eqv z p) else l.any fun z=>PyData.eqv z p)) S else .bad
 | _,_=>.bad
abbrev inP:=Gky false
section
variable{X:Cx}{XQ:XW}{a b:Expr}{fa fb:Ev D}{pos:Pos}
theorem Gtt(neg:Bool)(hu:X.A.units+65<cLine):OpX X (compareOp (if neg=true then .NotIn else .In)) (Gky neg):=by
 intro pins s σ ρ XQ mp H S x y v u vv uv Q I rs rx ry rv ru p _
 unfold Gky at p
 cases z1:toP S 40 x with
 | none=>simp only[z1] at p; exact p.elim
 | some a=>
  cases z2:toP S 40 y with
  | none=>simp only[z1,z2] at p; exact p.elim
  | some b=>
   simp only[z1,z2] at p
   obtain⟨as,ra⟩:=Zo I rs 40 x v vv a rx rv z1
   obtain⟨bs,rb⟩:=Zo I rs 40 y u uv b ry ru z2
   cases b with
   | list l=>
    simp only at p
    by_cases hs:(SeqAt.shaped a&&SeqAt.shaped (.list l))=true
    ·rw[if_pos hs] at p
     rw[Bool.and_eq_true] at hs
     cases neg
     ·exact SeqAt.in_list_reads rb ra (SeqAt.canLay_of_shaped hs.2) (SeqAt.canLay_of_shaped hs.1) (room_in_shaped hs.1 hu) ⟨.bl _,H,I,rfl,Gm.ok (R:=Rep X.K) p rs rfl⟩
     ·exact SeqAt.notIn_list_reads rb ra (SeqAt.canLay_of_shaped hs.2) (SeqAt.canLay_of_shaped hs.1) (room_in_shaped hs.1 hu) ⟨.bl _,H,I,rfl,Gm.ok (R:=Rep X.K) p rs rfl⟩
    ·rw[if_neg hs] at p; exact p.elim
   | tuple l=>
    simp only at p
    by_cases hs:(SeqAt.shaped a&&SeqAt.shaped (.tuple l))=true
    ·rw[if_pos hs] at p
     rw[Bool.and_eq_true] at hs
     cases neg
     ·exact SeqAt.in_tuple_reads rb ra (SeqAt.canLay_of_shaped hs.2) (SeqAt.canLay_of_shaped hs.1) (room_in_shaped hs.1 hu) ⟨.bl _,H,I,rfl,Gm.ok (R:=Rep X.K) p rs rfl⟩
     ·exact SeqAt.notIn_tuple_reads rb ra (SeqAt.canLay_of_shaped hs.2) (SeqAt.canLay_of_shaped hs.1) (room_in_shaped hs.1 hu) ⟨.bl _,H,I,rfl,Gm.ok (R:=Rep X.K) p rs rfl⟩
    ·rw[if_neg hs] at p; exact p.elim
   | _=>exact p.elim
theorem Gtu(neg:Bool)(x y:D)(S:Sto)(e:XD)(S':Sto):Gky neg x y S≠.exc e S':=by
 unfold Gky
 split
 ·split<;>exact fun z=>nomatch z
 ·split<;>exact fun z=>nomatch z
 ·exact fun z=>nomatch z
theorem Gef(hr:Room k X.A)(ha:GE X XQ a fa)(hb:GE X XQ b fb)(hm:behindInMarks .In b=false:=by rfl):GT X XQ (.Compare a [.In] [b] pos) (tb (o2 inP fa fb)):=⟨Gd6 (Gtt false (by have:=hr.un; omega)) (Gtu false) ha.h hb.h hm⟩
end
theorem Ghg{x:Str}{p:Addr}{sl:Array (Option Value)}{i j:Int}{t u:Tok}(X:K.In h)(G:h.Ns mainGlobals mg)(a:PySem.W.nsIn K mainGlobals x=some (some (.ref p)))(l:K.lookup p=some { cls:=.type "tuple",dict:=none,data:=.seq #[.int i t,.int j u] n,slots:=sl }):
  ∃ u v,mg x=some u/\He v u/\∀ mp H,Rep K mp H (.tup [.int i,.int j]) v:=
 ⟨_,.ref p,PySem.W.mg_of X G a,rfl,fun _ _=>⟨p,[.int i,.int j],rfl,.inr ⟨_,_,n,l,rfl,rfl,by rw[sizeLine_eq]; simp,.cons ⟨t,rfl⟩ (.cons ⟨u,rfl⟩ .nil)⟩,RepL.cons rfl (RepL.cons rfl RepL.nil)⟩⟩
def Izl(K:PySem.W.Frag)(a b:Addr):It:=
 ⟨fun k H=>∃ xs ys x y,SqL K H a xs/\SqL K H b ys/\xs[k]?=some x/\ys[k]?=some y,
  fun k H v H'=>∃ x y p,(∀ xs,SqL K H a xs->xs[k]?=some x)/\(∀ ys,SqL K H b ys->ys[k]?=some y)/\H p=none/\v=.ref p/\H'=upd H p (.tup [x,y]),
  fun k H=>∃ xs ys,SqL K H a xs/\SqL K H b ys/\(xs.length<=k\/ys.length<=k)⟩
def tnL(z ti to' i j a b:Addr)(k:Nat)(h:Heap):Prop:=IsZip h z ti to' .none/\IsPair h ti (.ref i) (.ref j)/\(∃ c d,IsPair h to' c d)/\h.IsListIter i a k/\h.IsListIter j b k
theorem Gim{x1}(z ti to' i j a b:Addr)(D:ZipApart z ti to' i j a b):
  Turn P w K (.Tuple es x1 pos) (Izl K a b) [z,ti,to',i,j] z (tnL z ti to' i j a b) where
 mem:=by simp
 obj:=fun k h ⟨s1,s2,⟨c,d,s3⟩,⟨o4,e4,c4,d4⟩,o5,e5,c5,d5⟩ q hq=>by
  simp only[List.mem_cons,List.mem_nil_iff,or_false] at hq
  rcases hq with rfl | rfl | rfl | rfl | rfl
  ·exact⟨_,s1,fun v y=>nomatch (show Data.fields _=Data.cell v from y)⟩
  ·exact⟨_,s2,fun v y=>nomatch (show Data.seq _ _=Data.cell v from y)⟩
  ·exact⟨_,s3,fun v y=>nomatch (show Data.seq _ _=Data.cell v from y)⟩
  ·exact⟨o4,e4,fun v y=>by rw[d4] at y; cases y⟩
  ·exact⟨o5,e5,fun v y=>by rw[d5] at y; cases y⟩
 keep:=fun k h h' ⟨s1,s2,⟨c,d,s3⟩,s4,s5⟩ kk=>⟨kk z (by simp) _ s1,kk ti (by simp) _ s2,⟨c,d,kk to' (by simp) _ s3⟩,s4.at fun o e=>kk i (by simp) o e,s5.at fun o e=>kk j (by simp) o e⟩
 item:=by
  intro X hP hw hK hc k pins s σ H E I hf ⟨s1,s2,⟨c,d,s3⟩,s4,s5⟩ hg
  subst hP hw hK
  obtain⟨xs,ys,x,y,hqa,hqb,hx,hy⟩:=hg
  obtain⟨ita,rva,pa,_⟩:=I.list hqa
  obtain⟨itb,rvb,pb,_⟩:=I.list hqb
  obtain⟨u,hu,ru⟩:=rva.get hx
  obtain⟨v,hv,rv⟩:=rvb.get hy
  have hn:H s.heap.objs.size=none:=I.hok.fresh (Nat.le_refl _)
  refine wpAny_pyNext_zip_item D s1 s2 s3 s4 s5 pa.isList pb.isList (x:=u) (y:=v) (by simpa using hu) (by simpa using hv) fun g t1 t2 t3 t4 t5 _ kk=>?_
  refine⟨_,rfl,wpAny_letOwnedTupleGo_zip t1 fun g2 e2 b2=>?_⟩
  have kk2:∀ q o,q∉[z,ti,to',i,j]->s.heap.get? q=some o->g2.get? q=some o:=fun q o hq h1=>
   b2.extBut q o (fun y=>hq (by simp[y])) (kk q o (fun y=>hq (by simp[y])) (fun y=>hq (by simp[y])) (fun y=>hq (by simp[y])) (fun y=>hq (by simp[y])) h1)
  have zl:s.heap.objs.size≠z:=Nat.ne_of_gt (Heap.lt_size s1)
  have tt2:g2.get? s.heap.objs.size=some { cls:=.type "tuple",data:=.seq [u,v].toArray }:=b2.extBut _ _ zl t5
  have ltf:∀ q∈[z,ti,to',i,j],q≠s.heap.objs.size:=fun q hq=>by
   simp only[List.mem_cons,List.mem_nil_iff,or_false] at hq
   rcases hq with rfl | rfl | rfl | rfl | rfl
   ·exact Ne.symm zl
   ·exact Nat.ne_of_lt (Heap.lt_size s2)
   ·exact Nat.ne_of_lt (Heap.lt_size s3)
   ·obtain⟨o,e1,_⟩:=s4; exact Nat.ne_of_lt (Heap.lt_size e1)
   ·obtain⟨o,e1,_⟩:=s5; exact Nat.ne_of_lt (Heap.lt_size e1)
  have I2:Inv X pins σ (upd H s.heap.objs.size (.tup [x,y])) { s with heap:=g2 }:=
   Gaf (tk:=s.toks) I hn (by rw[sizeLine_eq]; simp only[List.length_cons,List.length_nil]; decide) (.cons ru (.cons rv .nil)) tt2 kk2 hf ltf
  have p2:IsPair g2 ti (.ref i) (.ref j):=b2.extBut _ _ D.TIz (kk ti _ D.TIz D.TITO D.TIi1 D.TIi2 s2)
  exact⟨.ref s.heap.objs.size,_,I2,rfl,⟨x,y,_,fun zs hz=>by rw[I.list_inj hz hqa]; exact hx,fun zs hz=>by rw[I.list_inj hz hqb]; exact hy,hn,rfl,rfl⟩,
   ⟨e2,p2,⟨_,_,b2.extBut _ _ D.TOz t2⟩,t3.extBut b2.extBut D.i1z,t4.extBut b2.extBut D.i2z⟩,fun q hq=>by
    rw[Gs (ltf q hq)]
    exact(hf q hq).1⟩
 done:=by
  intro X hP hw hK hc k pins s σ H E I hf ⟨s1,s2,⟨c,d,s3⟩,s4,s5⟩ hg
  subst hP hw hK
  obtain⟨xs,ys,hqa,hqb,hx⟩:=hg
  obtain⟨ita,rva,pa,_⟩:=I.list hqa
  obtain⟨itb,rvb,pb,_⟩:=I.list hqb
  have la:=rva.length
  have lb:=rvb.length
  refine wpAny_pyNext_zip_end (I.ok.hd hc) D s1 s2 s3 s4 s5 pa.isList pb.isList ?_ fun g kk=>⟨rfl,turnedL I (fun q o hq e1=>kk q o (fun y=>hq (by simp[y])) (fun y=>hq (by simp[y])) (fun y=>hq (by simp[y])) (fun y=>hq (by simp[y])) e1) hf⟩
  rcases hx with h | h
  ·exact .inl (by simp; omega)
  ·exact .inr (by simp; omega)
 self:=fun _ _ _ _ _ ⟨st,_⟩ h=>wpAny_pyIter_zip st h
section
variable{X:Cx}{XQ:XW}
def zlS(i j:Nat)(k:Nat)(S:Sto):Option D:=match (S[i]?).bind fun c=>c.xs[k]?,(S[j]?).bind fun c=>c.xs[k]? with
 | some x,some y=>some (.tup [x,y])
 | _,_=>none
theorem Gtv{a b:Addr}{i:Nat}(hi:mp[i]?=some a)(hj:mp[j]?=some b)(n1:¬ Dcy H a)(n2:¬ Dcy H b):Gib K mp H (Izl K a b) (zlS i j):=by
 intro mp' H' S' af rs k
 have hi':=af.pre i a hi
 have hj':=af.pre j b hj
 have li:i<S'.length:=by rw[<- rs.len]; exact(List.getElem?_eq_some_iff.mp hi').1
 have lj:j<S'.length:=by rw[<- rs.len]; exact(List.getElem?_eq_some_iff.mp hj').1
 have hc:S'[i]?=some S'[i]:=List.getElem?_eq_getElem li
 have hd:S'[j]?=some S'[j]:=List.getElem?_eq_getElem lj
 obtain⟨a2,xs,e1,e2,sq,r,_⟩:=rs.items (v:=.ref a) ⟨a,rfl,hi',af.ndc i a hi n1⟩ hc
 obtain⟨b2,ys,f1,f2,sq2,r2,_⟩:=rs.items (v:=.ref b) ⟨b,rfl,hj',af.ndc j b hj n2⟩ hd
 cases e1
 cases f1
 show match zlS i j k S' with
  | some d=>(Izl K a b).go k H'/\∀ x H2,(Izl K a b).yld k H' x H2->Aft K mp' H' mp' H2/\RS K mp' H2 S'/\Rep K mp' H2 d x
  | none=>(Izl K a b).stop k H'
 unfold zlS
 simp only[hc,hd,Option.bind_some]
 cases z:(S'[i]).xs[k]? with
 | none=>
  refine⟨xs,ys,sq,sq2,.inl ?_⟩
  rw[r.len]
  exact List.getElem?_eq_none_iff.mp z
 | some d=>
  cases z2:(S'[j]).xs[k]? with
  | none=>
   refine⟨xs,ys,sq,sq2,.inr ?_⟩
   rw[r2.len]
   exact List.getElem?_eq_none_iff.mp z2
  | some d2=>
   obtain⟨v,e,q⟩:=r.get z
   obtain⟨v2,e2,q2⟩:=r2.get z2
   refine⟨⟨xs,ys,v,v2,sq,sq2,e,e2⟩,fun x H2 ⟨y,y2,p,h1,h2,h3,h4,h5⟩=>?_⟩
   have h1:=h1 xs sq
   have h2:=h2 ys sq2
   rw[e] at h1
   rw[e2] at h2
   cases h1
   cases h2
   subst h4 h5
   have af2:Aft K mp' H' mp' (upd H' p (.tup [v,v2])):=Ub h3
   exact⟨af2,rs.new h3,p,_,rfl,SqT.of Hj,RepL.cons (Rep.aft af2 _ _ q) (RepL.cons (Rep.aft af2 _ _ q2) RepL.nil)⟩
end
section
variable{X:Cx}{XQ:XW}
def mt0(o:D->List D->Sto->Out D)(fo:Ev D):Ev D:=fun ρ S=>(fo ρ S).bind fun x S1=>if isLst x S1=true then o x [] S1 else .bad
@[simp] theorem Gyu{o:D->List D->Sto->Out D}{ρ:Lc}:mt0 o fo ρ S=(fo ρ S).bind fun x S1=>if isLst x S1=true then o x [] S1 else .bad:=id rfl
def iZg(K:PySem.W.Frag)(ta:TA):TI:=fun σ H R=>ta σ H fun xs H1=>∃ a b,xs=[.ref a,.ref b]/\(((∃ ys,SqT K H1 a ys)/\(∃ ys,SqT K H1 b ys)/\R (Itz K a b) H1)\/((∃ ys,SqL K H1 a ys)/\(∃ ys,SqL K H1 b ys)/\R (Izl K a b) H1))
theorem Gn7{x1}{tp:Pos}{ta:TA}{p:Pos}(hg:Gl X "zip")(hm:X.mg "zip"=none)(ha:PA X [a,b] ta)(hs:starEach [a,b] X.env=(false,eval a X.env)::starEach [b] X.env:=by rfl)(hpl:(backTo pos (starEach [b] X.env)).any (·.1)=false:=by rfl):
  PI X (.Tuple es x1 tp) (.Call (.Name "zip" p) [a,b] [] pos) (iZg X.K ta):=by
 intro pins s σ H R I h
 refine wpAny_Call_Name_kw (Yh I hg hm (by rfl) ?_ (by decide) (by decide))
 refine PyProof.Rows.callWith_type1 (thn (ha pos pins s σ H _ I h) fun us s1 ⟨vs,H1,I1,r1,q1⟩=>?_) hs hpl
 obtain⟨c,d,e,q⟩:=q1
 subst e
 obtain⟨u,u',rfl,rx,ry⟩:=Gpf r1
 cases rx
 cases ry
 have fp:∀ q,q∈[s1.heap.objs.size+4,s1.heap.objs.size+2,s1.heap.objs.size+3,s1.heap.objs.size,s1.heap.objs.size+1]->s1.heap.objs.size<=q:=fun q hq=>by
  simp only[List.mem_cons,List.mem_nil_iff,or_false] at hq
  rcases hq with rfl | rfl | rfl | rfl | rfl
  ·exact Nat.le_add_right _ _
  ·exact Nat.le_add_right _ _
  ·exact Nat.le_add_right _ _
  ·exact Nat.le_refl _
  ·exact Nat.le_add_right _ _
 rcases q with⟨⟨ys,hqa⟩,⟨zs,hqb⟩,q⟩ | ⟨⟨ys,hqa⟩,⟨zs,hqb⟩,q⟩
 ·obtain⟨ita,_,pa,_⟩:=I1.tuple hqa
  obtain⟨itb,_,pb,_⟩:=I1.tuple hqb
  have ca:c<s1.heap.objs.size:=by obtain⟨o,e1,_⟩:=(show s1.heap.IsTuple c ita.toArray from pa); exact Heap.lt_size e1
  have cb:d<s1.heap.objs.size:=by obtain⟨o,e1,_⟩:=(show s1.heap.IsTuple d itb.toArray from pb); exact Heap.lt_size e1
  refine Gnp (show s1.heap.IsTuple c ita.toArray from pa) (show s1.heap.IsTuple d itb.toArray from pb) fun g t1 t2 t3 t4 t5 kk=>?_
  refine wpAny_pyIter_zip t1 ?_
  have I2:Inv X pins σ H1 { s1 with heap:=g }:=I1.kept (t':=s1.toks) kk
  have Z:=zipApart_new ca cb
  have D:Za (s1.heap.objs.size+4) (s1.heap.objs.size+2) (s1.heap.objs.size+3) s1.heap.objs.size (s1.heap.objs.size+1) c d:=
   ⟨Z.TIz,Z.TOz,Z.i1z,Z.i2z,Z.TITO,Z.TIi1,Z.TIi2,Z.TOi1,Z.TOi2,Z.i12,Z.l1z,Z.l1TO,Z.l1i1,Z.l1i2,Z.l2z,Z.l2TO,Z.l2i1,Z.l2i2⟩
  exact⟨s1.heap.objs.size+4,[s1.heap.objs.size+4,s1.heap.objs.size+2,s1.heap.objs.size+3,s1.heap.objs.size,s1.heap.objs.size+1],_,_,H1,rfl,I2,Gkg _ _ _ _ _ c d D,⟨t1,t2,⟨_,_,t3⟩,t4,t5⟩,fun q hq=>I1.fpOk (fp q hq) (I1.hok.fresh (fp q hq)),q⟩
 ·obtain⟨ita,_,pa,_⟩:=I1.list hqa
  obtain⟨itb,_,pb,_⟩:=I1.list hqb
  have ca:c<s1.heap.objs.size:=by obtain⟨o,e1,_⟩:=pa.isList; exact Heap.lt_size e1
  have cb:d<s1.heap.objs.size:=by obtain⟨o,e1,_⟩:=pb.isList; exact Heap.lt_size e1
  refine call_zip_2 pa.isList pb.isList fun g t1 t2 t3 t4 t5 _ kk=>?_
  refine wpAny_pyIter_zip t1 ?_
  have I2:Inv X pins σ H1 { s1 with heap:=g }:=I1.kept (t':=s1.toks) kk
  exact⟨s1.heap.objs.size+4,[s1.heap.objs.size+4,s1.heap.objs.size+2,s1.heap.objs.size+3,s1.heap.objs.size,s1.heap.objs.size+1],_,_,H1,rfl,I2,Gim _ _ _ _ _ c d (zipApart_new ca cb),⟨t1,t2,⟨_,_,t3⟩,t4,t5⟩,fun q hq=>I1.fpOk (fp q hq) (I1.hok.fresh (fp q hq)),q⟩
def Ghh(f:Ev (List D)):Ev Src:=fun ρ S=>(f ρ S).bind fun ds S1=>match ds with
 | [.tup l,.tup m]=>.ok ⟨fun k _=>zipAt l m k,l.length+1⟩ S1
 | [.lst i,.lst j]=>match S1[i]?,S1[j]? with
  | some c,some _=>.ok ⟨zlS i j,c.xs.length+1⟩ S1
  | _,_=>.bad
 | _=>.bad
theorem Geg{x1}{tp:Pos}{f:Ev (List D)}{p:Pos}(hg:Gl X "zip")(hm:X.mg "zip"=none)(ha:GA X XQ [a,b] f)(hs:starEach [a,b] X.env=(false,eval a X.env)::starEach [b] X.env:=by rfl)(hpl:(backTo pos (starEach [b] X.env)).any (·.1)=false:=by rfl):
  GI X XQ (.Tuple es x1 tp) (.Call (.Name "zip" p) [a,b] [] pos) (Ghh f):=⟨by
 refine PI.mono (Gn7 hg hm ha.h hs hpl) fun σ H R ⟨mp,ρ,S,G,p⟩=>?_
 refine bindP G p fun mp1 H1 ds S1 vs a1 G1 r1 p1=>?_
 split at p1
 ·rename_i l m
  obtain⟨v,v2,rfl,h1,h2⟩:=RepL.two r1
  obtain⟨c,xs,rfl,s,q⟩:=Rep.tup h1
  obtain⟨d,ys,rfl,s2,q2⟩:=Rep.tup h2
  exact⟨c,d,rfl,.inl ⟨⟨xs,s⟩,⟨ys,s2⟩,Gm.ok (R:=kI X.K) (d:=⟨fun k _=>zipAt l m k,l.length+1⟩) (S:=S1) p1 G1.rs (Gtd s q s2 q2)⟩⟩
 ·rename_i i j
  split at p1
  ·rename_i c c2 zc zd
   obtain⟨v,v2,rfl,h1,h2⟩:=RepL.two r1
   obtain⟨a2,xs,rfl,e2,sq,q,_⟩:=G1.rs.items h1 zc
   obtain⟨b2,ys,rfl,f2,sq2,q2,_⟩:=G1.rs.items h2 zd
   exact⟨a2,b2,rfl,.inr ⟨⟨xs,sq⟩,⟨ys,sq2⟩,Gm.ok (R:=kI X.K) (d:=⟨zlS i j,c.xs.length+1⟩) (S:=S1) p1 G1.rs (Gtv e2 f2 (Rep.nd h1) (Rep.nd h2))⟩⟩
  ·exact p1.elim
 ·exact p1.elim⟩
end
inductive DP:List (Option Expr)->List Expr->List (Str×D)->Prop
 | nil:DP [] [] []
 | i {k:Str} {i:Int} {j j' p p'} {ks vs l}:DP ks vs l->DP (some (.Constant (.str k) j p)::ks) (.Constant (.int i) j' p'::vs) ((k,.int i)::l)
 | s {k x:Str} {j j' p p'} {ks vs l}:DP ks vs l->DP (some (.Constant (.str k) j p)::ks) (.Constant (.str x) j' p'::vs) ((k,.str x)::l)
def dsub(l:List (Str×D))(fb:Ev D):Ev D:=fun ρ S=>(fb ρ S).bind fun y S1=>match y with
 | .str k=>match l.lookup k with
  | some (.int i)=>.ok (.int i) S1
  | some (.str x)=>.ok (.str x) S1
  | _=>.bad
 | _=>.bad
@[simp] theorem Gxy{l:List (Str×D)}{ρ:Lc}:dsub l fb ρ S=(fb ρ S).bind fun y S1=>match y with
 | .str k=>match l.lookup k with
  | some (.int i)=>.ok (.int i) S1
  | some (.str x)=>.ok (.str x) S1
  | _=>.bad
 | _=>.bad:=id rfl
def Gtw(K:PySem.W.Frag)(C:Addr):Bool:=Gn2 K C&&(PySem.W.exmOne K (.ref C) (.ref C)==some true)
theorem Gtx{x:Str}(X:K.In h)(G:h.Ns mainGlobals mg)(a:PySem.W.nsIn K mainGlobals x=some (some (.ref C)))(t:Gtw K C=true):Cat K mg x [x]:=by
 unfold Gtw at t
 rw[Bool.and_eq_true,beq_iff_eq] at t
 refine⟨C,PySem.W.mg_of X G a,fun y hy=>?_⟩
 cases List.mem_singleton.mp hy
 exact⟨C,a,Gkp t.1,t.2⟩
inductive Nms(mg:Str->Option Value):List Str->List Addr->Prop
 | nil:Nms mg [] []
 | cons {x:Str} {c:Addr} {xs:List Str} {cs:List Addr} (h:mg x=some (.ref c)) (t:Nms mg xs cs):Nms mg (x::xs) (c::cs)
structure IsT(K:PySem.W.Frag)(mg:Str->Option Value)(xs ys:List Str):Prop where
 ex:∃ cs,Nms mg xs cs/\∀ y∈ys,∃ C,CN K y C/\PySem.W.kitAny K (.ref C) (cs.map Value.ref)=some (decide (y∈xs))
inductive GNs(X:Cx)(s:Scope):List Expr->List Str->Prop
 | nil:GNs X s [] []
 | cons {x:Str} {p:Pos} {es:List Expr} {xs:List Str} (t:GNs X s es xs) (hg:okG s x=true:=by decide +kernel) (hs:starEach (.Name x p::es) X.env=(false,eval (.Name x p) X.env)::starEach es X.env:=by rfl):GNs X s (.Name x p::es) (x::xs)
section
variable{X:Cx}{XQ:XW}
variable{a b:Expr}{fa fb:Ev D}{pos:Pos}
end
section
variable{X:Cx}{pins:List (Addr×Obj)}{σ:L2.St}{H:Hp}{s:Shared}{mp:List Addr}
mutual
theorem Gfj(I:Inv X pins σ H s):∀ (d:D) (v:V) (u:Value) (κ:NK),Rep X.K mp H d v->He v u->nkO d=some κ->∃ as,Reads s.heap u (pk κ) as
 | .int i,v,u,κ,h,r,e=>by
  cases (show v=.int i from h); obtain⟨t,rfl⟩:=(show ∃ t,u=Value.int i t from r)
  simp only[nkO,Option.some.injEq] at e
  subst e
  simp only[pk]
  exact⟨_,.int i t⟩
 | .tup l,v,u,κ,h,r,e=>by
  obtain⟨a,xs,rfl,sq,q⟩:=Rep.tup h
  cases (show u=Value.ref a from r)
  obtain⟨its,rv,⟨o,ho,hc,k,hd⟩,_⟩:=I.tuple sq
  simp only[nkO] at e
  obtain⟨ks,e1,rfl⟩:=Option.map_eq_some_iff.mp e
  obtain⟨as,ra⟩:=readsL_nk I l xs its ks q rv e1
  simp only[pk]
  exact⟨as,.tuple ho hc hd (by simpa using ra)⟩
 | .non,_,_,_,_,_,e=>by simp[nkO] at e
 | .bl _,_,_,_,_,_,e=>by simp[nkO] at e
 | .str _,_,_,_,_,_,e=>by simp[nkO] at e
 | .lst _,_,_,_,_,_,e=>by simp[nkO] at e
 | .exn _ _,_,_,_,_,_,e=>by simp[nkO] at e
 | .fv _,_,_,_,_,_,e=>by simp[nkO] at e
 | .dct _,_,_,_,_,_,e=>by simp[nkO] at e
theorem readsL_nk(I:Inv X pins σ H s):∀ (l:List D) (vs:List V) (us:List Value) (ks:List NK),RepL X.K mp H l vs->Vals vs us->nkOs l=some ks->∃ as,ReadsAll s.heap us (pks ks) as
 | [],vs,us,ks,h,r,e=>by
  cases (show vs=[] from h); cases r
  simp only[nkOs,Option.some.injEq] at e
  subst e
  simp only[pks]
  exact⟨_,.nil⟩
 | d::l,vs,us,ks,h,r,e=>by
  obtain⟨v,vr,rfl,h1,h2⟩:=(show ∃ v r,vs=v::r/\Rep X.K mp H d v/\RepL X.K mp H l r from h)
  cases r with
  | cons r1 r2=>
   simp only[nkOs] at e
   obtain⟨k,e1,e2⟩:=Option.bind_eq_some_iff.mp e
   obtain⟨q,e3,rfl⟩:=Option.map_eq_some_iff.mp e2
   obtain⟨as,ra⟩:=Gfj I d v _ k h1 r1 e1
   obtain⟨bs,rb⟩:=readsL_nk I l vr _ q h2 r2 e3
   simp only[pks]
   exact⟨_,.cons ra rb⟩
end
end
abbrev KVs:=List (NK×Addr×V)
def Gat(kvs:KVs)(κ:NK):Option V:=(kvs.find? fun q=>decide (q.1=κ)).map (·.2.2)
def Ggo(kvs:KVs)(κ:NK)(b:Addr)(v:V):KVs:=if(Gat kvs κ).isSome then kvs.map (fun q=>if q.1=κ then(q.1,q.2.1,v) else q) else kvs++[(κ,b,v)]
def KT:KVs->List (NK×Addr×Value)->Prop:=Paired fun p q=>p.1=q.1/\p.2.1=q.2.1/\He p.2.2 q.2.2
theorem Gfk{q:NK×Addr×V}{r:KVs}{κ:NK}(e:q.1=κ):Gat (q::r) κ=some q.2.2:=by simp[Gat,List.find?_cons,e]
theorem Gfl{q:NK×Addr×V}{r:KVs}{κ:NK}(e:¬ q.1=κ):Gat (q::r) κ=Gat r κ:=by simp[Gat,List.find?_cons,e]
theorem KT.val{kvs:KVs}{xs:List (NK×Addr×Value)}(r:KT kvs xs)(k:NK):Gf2 (Gat kvs k) ((atKey xs k).map (·.2)):=by
 unfold KT at r
 induction r with
 | nil=>exact True.intro
 | @cons p q ps qs h t ih=>
  obtain⟨h1,_,h2⟩:=h
  by_cases e:p.1=k
  ·have e':q.1=k:=h1.symm.trans e
   have b:atKey (q::qs) k=some q.2:=by simp[atKey,List.find?_cons,e']
   rw[Gfk e,b]; exact h2
  ·have e':¬ q.1=k:=fun z=>e (h1.trans z)
   have b:atKey (q::qs) k=atKey qs k:=by simp[atKey,List.find?_cons,e']
   rw[Gfl e,b]; exact ih
theorem Gdm{v:Option V}{o:Option Value}(r:Gf2 v o):v.isSome=o.isSome:=by
 cases v<;>cases o<;>first | rfl | exact r.elim
theorem KT.repl{kvs:KVs}{xs:List (NK×Addr×Value)}(r:KT kvs xs)(k:NK){y:V}{u:Value}(ry:He y u):KT (kvs.map fun q=>if q.1=k then(q.1,q.2.1,y) else q) (xs.map (putAt k u)):=by
 unfold KT at r ⊢
 induction r with
 | nil=>exact .nil
 | @cons p q ps qs h t ih=>
  rw[List.map_cons,List.map_cons]
  refine .cons ?_ ih
  obtain⟨h1,h2,h3⟩:=h
  unfold putAt
  by_cases e:p.1=k
  ·rw[if_pos e,if_pos (h1.symm.trans e)]; exact⟨h1,h2,ry⟩
  ·rw[if_neg e,if_neg (fun z=>e (h1.trans z))]; exact⟨h1,h2,h3⟩
theorem Xa{α β:Type}{F:α->β->Prop}:∀ {l:List α} {m:List β} {a:α} {b:β},Paired F l m->F a b->Paired F (l++[a]) (m++[b])
 | _,_,_,_,.nil,h=>.cons h .nil
 | _,_,_,_,.cons r t,h=>.cons r (Xa t h)
theorem KT.put{kvs:KVs}{xs:List (NK×Addr×Value)}(r:KT kvs xs)(k:NK){b:Addr}{y:V}{u:Value}(ry:He y u):KT (Ggo kvs k b y) (storedH xs k b u):=by
 have e:(Gat kvs k).isSome=(atKey xs k).isSome:=by rw[Gdm (r.val k),Option.isSome_map]
 unfold Ggo storedH
 rw[e]
 by_cases q:(atKey xs k).isSome=true
 ·rw[if_pos q,if_pos q]; exact r.repl k ry
 ·rw[if_neg q,if_neg q]; exact Xa r ⟨rfl,rfl,ry⟩
theorem Gkz(kvs:KVs)(κ:NK)(b:Addr)(v:V):(Ggo kvs κ b v).length<=kvs.length+1:=by
 unfold Ggo
 split<;>simp
def Gcs(K:PySem.W.Frag)(H:Hp)(κ:NK)(b:Addr):Prop:=(pk κ).depth<=8/\∃ mp k,nkO k=some κ/\Rep K mp H k (.ref b)
section
variable{X:Cx}{XQ:XW}{pins:List (Addr×Obj)}{σ:L2.St}{H:Hp}{s:Shared}
theorem Gcs.is{κ:NK}{b:Addr}(I:Inv X pins σ H s)(k:Gcs X.K H κ b):(nestKind X.prog X.w).is s.heap κ b:=by
 obtain⟨d,mp,k,e,r⟩:=k
 exact⟨Gfj I k _ _ κ r rfl e,d⟩
theorem Yj{α β:Type}{F:α->β->Prop}:∀ {l:List α} {m:List β} {b:β},Paired F l m->b∈m->∃ a∈l,F a b
 | _,_,_,.nil,h=>by simp at h
 | _,_,_,.cons r t,h=>by
  rcases List.mem_cons.mp h with rfl | h
  ·exact⟨_,List.mem_cons_self,r⟩
  ·obtain⟨a,h1,h2⟩:=Yj t h
   exact⟨a,List.mem_cons_of_mem _ h1,h2⟩
theorem Gk0{a:Addr}{kvs:KVs}(I:Inv X pins σ H s)(e:H a=some (.dT kvs))(ks:∀ q∈kvs,Gcs X.K H q.1 q.2.1):kvs.length<=sizeLine/\(a==sysModules)=false/\∃ xs,KT kvs xs/\s.heap.DictOfH (nestKind X.prog X.w) a xs:=by
 obtain⟨z,y,xs,r,o,es,ep,h1,h2,h3,h4,h5⟩:=(show Jw X.prog X.w H s.heap a (.dT kvs) from I.hok a _ e)
 refine⟨z,y,xs,r,o,es,ep,h1,h2,h3,h4,fun x hx=>?_,h5⟩
 obtain⟨q,hq,e1,e2,_⟩:=Yj r hx
 rw[<- e1,<- e2]
 exact(ks q hq).is I
def Gwo(K:PySem.W.Frag):R2:=fun x y H Q=>∃ a b κ kvs v,x=.ref a/\y=.ref b/\H a=some (.dT kvs)/\(∀ q∈kvs,Gcs K H q.1 q.2.1)/\Gcs K H κ b/\Gat kvs κ=some v/\Q v H
theorem Gn8(hu:X.A.units+20<cLine):IxR X (Gwo X.K):=by
 intro value slice pins s σ H x y v u Q I rx ry h hs
 obtain⟨a,b,κ,kvs,z,rfl,rfl,ea,ks,kb,ev,q⟩:=h
 cases (show v=Value.ref a from rx)
 cases (show u=Value.ref b from ry)
 obtain⟨hz,hd,xs,rel,dd⟩:=Gk0 I ea ks
 obtain⟨w',hw,rw'⟩:=Gf2.some_of (v:=z) (o:=(atKey xs κ).map (·.2)) (by rw[<- ev]; exact rel.val κ)
 obtain⟨p,hp,hp2⟩:=Option.map_eq_some_iff.mp hw
 refine subscriptTail_builtinR (x:=p.2) dd.typeIs slot_dict_getitem.lookup (wpAny_getItem_heap (by show X.A.in1.units+10<cLine; first | omega | (simp[Around.in1]; omega)) (kb.is I) dd hp ⟨rfl,?_⟩) hs
 rw[hp2]
 exact⟨z,H,I.tok _,rw',q⟩
def Gp5(K:PySem.W.Frag):Gh3:=fun o i v H Q=>∃ a b κ kvs,o=.ref a/\i=.ref b/\H a=some (.dT kvs)/\(∀ q∈kvs,Gcs K H q.1 q.2.1)/\Gcs K H κ b/\kvs.length<sizeLine/\Q (upd H a (.dT (Ggo kvs κ b v)))
theorem Gk1(hu:X.A.units+20<cLine):Gmf X (Gp5 X.K):=by
 intro pins s σ H o i v ov iv u Q I ro ri rv h
 obtain⟨a,b,κ,kvs,rfl,rfl,ea,ks,kb,hl,q⟩:=h
 cases (show ov=Value.ref a from ro)
 cases (show iv=Value.ref b from ri)
 obtain⟨hz,hd,xs,rel,dd⟩:=Gk0 I ea ks
 have hz':xs.length<=sizeLine:=by rw[<- Paired.length rel]; exact hz
 have hl':=Gkz kvs κ b v
 refine wpAny_setItem_heap (hsz:=hz') (by show X.A.in1.units+10<cLine; first | omega | (simp[Around.in1]; omega)) (kb.is I) dd fun h' dd' hs=>⟨_,?_,q⟩
 obtain⟨o,es,ep,hq,h2,h3,h4,_,h5⟩:=dd'
 exact I.write (x:=a) (e:=a) (by rw[ea]; exact True.intro) (.inl rfl) (fun c q hc z=>(hs.2 c hc).trans z) ⟨o,hq⟩ ⟨by omega,hd,_,rel.put κ rv,o,es,ep,hq,h2,h3,h4,h5⟩
end
def dlook(κ:NK):List D->Option D
 | []=>none
 | .tup [k,e]::r=>if nkO k=some κ then some e else dlook κ r
 | _::r=>dlook κ r
def drepl(κ:NK)(z:D):D->D
 | .tup [k,e]=>if nkO k=some κ then .tup [k,z] else .tup [k,e]
 | d=>d
def dput(κ:NK)(k z:D)(l:List D):List D:=if(dlook κ l).isSome=true then l.map (drepl κ z) else l++[.tup [k,z]]
def Gct(x:D):Option NK:=match x with
 | .tup l=>match nkO (.tup l) with
  | some κ=>if(pk κ).depth<=8 then some κ else none
  | none=>none
 | _=>none
def Gfm(neg:Bool)(x y:D)(S:Sto):Out D:=match y with
 | .dct i=>match S[i]?,Gct x with
  | some c,some κ=>if c.fz=false then .ok (.bl (if neg=true then !(dlook κ c.xs).isSome else(dlook κ c.xs).isSome)) S else .bad
  | _,_=>.bad
 | _=>.bad
def Gdn(x y:D)(S:Sto):Out D:=match x with
 | .dct i=>match S[i]?,Gct y with
  | some c,some κ=>if c.fz=false then match dlook κ c.xs with
   | some e=>.ok e S
   | none=>.bad
   else .bad
  | _,_=>.bad
 | _=>.bad
def Gdo(x y z:D)(S:Sto):Option Sto:=match x with
 | .dct i=>match S[i]?,Gct y with
  | some c,some κ=>if c.fz=false/\c.xs.length<1000000 then some (S.set i ⟨false,dput κ y z c.xs⟩) else none
  | _,_=>none
 | _=>none
def dnew:Ev D:=fun _ S=>.ok (.dct S.length) (S++[⟨false,[]⟩])
section
variable{K:PySem.W.Frag}{mp:List Addr}{H:Hp}
theorem Geh{x:D}{κ:NK}{v:V}(h:Rep K mp H x v)(e:Gct x=some κ):nkO x=some κ/\∃ b,v=.ref b/\Gcs K H κ b:=by
 unfold Gct at e
 split at e
 ·rename_i l
  split at e
  ·rename_i κ' z
   split at e
   ·rename_i hd
    cases (Option.some.inj e)
    obtain⟨b,xs,rfl,_⟩:=Rep.tup h
    exact⟨z,b,rfl,hd,mp,_,z,h⟩
   ·cases e
  ·cases e
 ·cases e
theorem Gei{l:List D}{kvs:KVs}(r:Paired (Gap K mp H) l kvs):∀ q∈kvs,Gcs K H q.1 q.2.1:=by
 intro q hq
 obtain⟨d,_,k,e,_,⟨h1,h2⟩,h3,_⟩:=Yj r hq
 exact⟨h2,mp,k,h1,h3⟩
theorem Gej{l:List D}{kvs:KVs}(r:Paired (Gap K mp H) l kvs)(κ:NK):(dlook κ l).isSome=(Gat kvs κ).isSome/\∀ e,dlook κ l=some e->∃ v,Gat kvs κ=some v/\Rep K mp H e v:=by
 induction r with
 | nil=>exact⟨rfl,fun e z=>nomatch z⟩
 | @cons d q ds qs h t ih=>
  obtain⟨k,e,rfl,⟨h1,_⟩,_,h3⟩:=h
  by_cases c:q.1=κ
  ·have hc:nkO k=some κ:=by rw[h1,c]
   rw[Gfk c]
   simp only[dlook,hc,if_true]
   exact⟨rfl,fun e' z=>⟨_,rfl,by cases z; exact h3⟩⟩
  ·have hc:¬ nkO k=some κ:=by rw[h1]; exact fun z=>c (Option.some.inj z)
   rw[Gfl c]
   simp only[dlook,hc,if_false]
   exact ih
theorem Gn9{l:List D}{kvs:KVs}{z:D}{w:V}(r:Paired (Gap K mp H) l kvs)(κ:NK)(hz:Rep K mp H z w):Paired (Gap K mp H) (l.map (drepl κ z)) (kvs.map fun q=>if q.1=κ then(q.1,q.2.1,w) else q):=by
 induction r with
 | nil=>exact .nil
 | @cons d q ds qs h t ih=>
  rw[List.map_cons,List.map_cons]
  refine .cons ?_ ih
  obtain⟨k,e,rfl,⟨h1,hd⟩,h2,h3⟩:=h
  by_cases c:q.1=κ
  ·have hc:nkO k=some κ:=by rw[h1,c]
   rw[if_pos c]
   simp only[drepl,hc,if_true]
   exact⟨k,z,rfl,⟨h1,hd⟩,h2,hz⟩
  ·have hc:¬ nkO k=some κ:=by rw[h1]; exact fun z=>c (Option.some.inj z)
   rw[if_neg c]
   simp only[drepl,hc,if_false]
   exact⟨k,e,rfl,⟨h1,hd⟩,h2,h3⟩
theorem Gty{l:List D}{kvs:KVs}{k z:D}{b:Addr}{w:V}{κ:NK}(r:Paired (Gap K mp H) l kvs)(hk:nkO k=some κ)(kb:Gcs K H κ b)(hb:Rep K mp H k (.ref b))(hz:Rep K mp H z w):Paired (Gap K mp H) (dput κ k z l) (Ggo kvs κ b w):=by
 unfold dput Ggo
 rw[(Gej r κ).1]
 by_cases c:(Gat kvs κ).isSome=true
 ·rw[if_pos c,if_pos c]; exact Gn9 r κ hz
 ·rw[if_neg c,if_neg c]; exact Xa r ⟨k,z,rfl,⟨hk,kb.1⟩,hb,hz⟩
theorem RS.pairs{S:Sto}{i:Nat}{c:Cell}{v:V}(r:RS K mp H S)(h:Rep K mp H (.dct i) v)(e:S[i]?=some c)(f:c.fz=false):∃ a kvs,v=.ref a/\mp[i]?=some a/\H a=some (.dT kvs)/\Paired (Gap K mp H) c.xs kvs:=by
 obtain⟨a,ev,ea,kvs,hk⟩:=(show ∃ a,v=.ref a/\mp[i]?=some a/\Dcy H a from h)
 rcases r.cell i a c ea e with⟨xs,q,z⟩ | ⟨_,kvs',e',rr⟩
 ·rw[f,if_neg Bool.false_ne_true,hk] at z
  cases z
 ·exact⟨a,kvs',ev,ea,e',rr⟩
theorem RS.setDc{S:Sto}{i:Nat}{a:Addr}{c:Cell}{kvs kvs':KVs}{ds:List D}(r:RS K mp H S)(hi:mp[i]?=some a)(hc:S[i]?=some c)(hf:c.fz=false)(ha:H a=some (.dT kvs))(q:Paired (Gap K mp H) ds kvs'):
  Aft K mp H mp (upd H a (.dT kvs'))/\RS K mp (upd H a (.dT kvs')) (S.set i ⟨false,ds⟩):=by
 have af:Aft K mp H mp (upd H a (.dT kvs')):=by
  refine⟨fun _ _ e=>e,fun b ys s=>?_,fun b φ s=>by rw[Gs (Wm s ha (by intro z; cases z))]; exact s,fun j b e n ⟨kvs,z⟩=>?_,fun b ⟨l,z⟩=>?_⟩
  ·rcases s with(s | ⟨ob,s⟩) | s
   ·exact .inl (.inl (by rw[Gs (Wm s ha (by intro z; cases z))]; exact s))
   ·exact .inl (.inr ⟨ob,by rw[Gs (Wm s ha (by intro z; cases z))]; exact s⟩)
   ·exact .inr s
  ·by_cases hb:b=a
   ·subst hb; exact n ⟨_,ha⟩
   ·rw[Gs hb] at z; exact n ⟨_,z⟩
  ·by_cases hb:b=a
   ·subst hb; exact⟨_,Hj⟩
   ·exact⟨l,by rw[Gs hb]; exact z⟩
 refine⟨af,⟨by simp[r.len],fun j b cj e1 e2=>?_,fun j k b cj ck e1 e2 e3 e4 f1 f2=>?_⟩⟩
 ·by_cases hj:j=i
  ·subst hj
   rw[hi] at e1
   cases e1
   rw[List.getElem?_set_self (List.getElem?_eq_some_iff.mp hc).1] at e2
   cases e2
   exact .inr ⟨rfl,kvs',Hj,Paired.mapP q fun _ _ z=>z.aft af⟩
  ·rw[List.getElem?_set_ne (Ne.symm hj)] at e2
   rcases r.cell j b cj e1 e2 with⟨ys,h1,h2⟩ | ⟨f,l,e,rr⟩
   ·refine .inl ⟨ys,RepL.aft af _ _ h1,?_⟩
    cases z:cj.fz with
    | true=>
     rw[z] at h2
     have h2:SqF K H b ys:=(if_pos rfl).mp h2
     refine(if_pos rfl).mpr ?_
     rcases h2 with⟨ob,s⟩ | s
     ·exact .inl ⟨ob,by rw[Gs (Wm s ha (by intro z; cases z))]; exact s⟩
     ·exact .inr s
    | false=>
     rw[z,if_neg Bool.false_ne_true] at h2
     rw[if_neg Bool.false_ne_true,Gs (Wm h2 ha (by intro z; cases z))]
     exact h2
   ·have hb:b≠a:=fun hb=>by
     subst hb
     exact hj (r.inj j i b cj c e1 hi e2 hc f hf)
    exact .inr ⟨f,l,by rw[Gs hb]; exact e,Paired.mapP rr fun _ _ z=>z.aft af⟩
 ·have fz:∀ (j:Nat) (cj:Cell),(S.set i ⟨false,ds⟩)[j]?=some cj->cj.fz=false->∃ c',S[j]?=some c'/\c'.fz=false:=fun j cj e f=>by
   by_cases hj:j=i
   ·subst hj
    exact⟨c,hc,hf⟩
   ·rw[List.getElem?_set_ne (Ne.symm hj)] at e
    exact⟨cj,e,f⟩
  obtain⟨c1,g1,g2⟩:=fz j cj e3 f1
  obtain⟨c2,g3,g4⟩:=fz k ck e4 f2
  exact r.inj j k b c1 c2 e1 e2 g1 g3 g2 g4
theorem RS.newDc{S:Sto}{p:Addr}(r:RS K mp H S)(h:H p=none)(hp:∀ i:Nat,mp[i]?≠some p):
  Aft K mp H (mp++[p]) (upd H p (.dT []))/\RS K (mp++[p]) (upd H p (.dT [])) (S++[⟨false,[]⟩])/\(mp++[p])[S.length]?=some p:=by
 have ne:∀ (i:Nat) (a:Addr),mp[i]?=some a->a≠p:=fun i a e z=>hp i (z▸e)
 have af:Aft K mp H (mp++[p]) (upd H p (.dT [])):=by
  refine⟨fun i a e=>by rw[List.getElem?_append_left (List.getElem?_eq_some_iff.mp e).1]; exact e,fun b ys s=>?_,fun b φ s=>by rw[Gs (Hc s h)]; exact s,fun j b e n ⟨kvs,z⟩=>?_,fun b ⟨l,z⟩=>⟨l,by rw[Gs (Hc z h)]; exact z⟩⟩
  ·rcases s with(s | ⟨ob,s⟩) | s
   ·exact .inl (.inl (by rw[Gs (Hc s h)]; exact s))
   ·exact .inl (.inr ⟨ob,by rw[Gs (Hc s h)]; exact s⟩)
   ·exact .inr s
  ·rw[Gs (ne j b e)] at z; exact n ⟨_,z⟩
 have hl:=r.len
 have lastp:(mp++[p])[S.length]?=some p:=by rw[<- hl]; simp
 have old:∀ (i:Nat) (a:Addr),i<S.length->(mp++[p])[i]?=some a->mp[i]?=some a:=fun i a hi e1=>by
  rw[List.getElem?_append_left (by omega)] at e1; exact e1
 refine⟨af,⟨by simp[hl],fun i a c e1 e2=>?_,fun i j a ci cj e1 e2 e3 e4 f1 f2=>?_⟩,lastp⟩
 ·by_cases hi:i<S.length
  ·rw[List.getElem?_append_left hi] at e2
   exact(r.cell i a c (old i a hi e1) e2).new h af
  ·have hi':i=S.length:=by
    have:=(List.getElem?_eq_some_iff.mp e2).1
    simp at this
    omega
   subst hi'
   rw[lastp] at e1
   cases e1
   simp at e2
   subst e2
   exact .inr ⟨rfl,[],Hj,.nil⟩
 ·have hi:=(List.getElem?_eq_some_iff.mp e3).1
  have hj:=(List.getElem?_eq_some_iff.mp e4).1
  simp at hi hj
  by_cases hi':i<S.length
  ·have o1:=old i a hi' e1
   by_cases hj':j<S.length
   ·rw[List.getElem?_append_left hi'] at e3
    rw[List.getElem?_append_left hj'] at e4
    exact r.inj i j a ci cj o1 (old j a hj' e2) e3 e4 f1 f2
   ·have:j=S.length:=by omega
    subst this
    rw[lastp] at e2
    cases e2
    exact absurd rfl (ne i _ o1)
  ·have:i=S.length:=by omega
   subst this
   rw[lastp] at e1
   cases e1
   by_cases hj':j<S.length
   ·exact absurd rfl (ne j _ (old j _ hj' e2))
   ·omega
theorem RS.off{X:Cx}{pins:List (Addr×Obj)}{σ:L2.St}{s:Shared}{S:Sto}(r:RS X.K mp H S)(I:Inv X pins σ H s)(i:Nat):mp[i]?≠some s.heap.objs.size:=fun e=>by
 have hl:i<S.length:=by rw[<- r.len]; exact(List.getElem?_eq_some_iff.mp e).1
 have hn:H s.heap.objs.size=none:=I.hok.fresh (Nat.le_refl _)
 rcases r.cell i _ _ e (List.getElem?_eq_getElem hl) with⟨xs,q,z⟩ | ⟨_,kvs',e',rr⟩
 ·cases f:(S[i]).fz with
  | true=>
   rw[f] at z
   have z:SqF X.K H _ xs:=(if_pos rfl).mp z
   rcases z with⟨ob,z⟩ | ⟨o,its,n,lk,_⟩
   ·rw[hn] at z; cases z
   ·exact absurd (Heap.lt_size (I.kIn _ o lk)) (Nat.lt_irrefl _)
  | false=>rw[f,if_neg Bool.false_ne_true,hn] at z; cases z
 ·rw[hn] at e'; cases e'
end
section
variable{X:Cx}{XQ:XW}
theorem Goa(neg:Bool)(hu:X.A.units+20<cLine):OpX X (compareOp (if neg=true then .NotIn else .In)) (Gfm neg):=by
 intro pins s σ ρ XQ mp H S x y v u vv uv Q I rs rx ry rv ru p _
 unfold Gfm at p
 split at p
 ·rename_i i
  split at p
  ·rename_i c κ zc zk
   by_cases hf:c.fz=false
   ·rw[if_pos hf] at p
    obtain⟨hk,b,rfl,kb⟩:=Geh rx zk
    obtain⟨a,kvs,rfl,ha,hH,rr⟩:=rs.pairs ry zc hf
    cases (show vv=Value.ref b from rv)
    cases (show uv=Value.ref a from ru)
    obtain⟨hz,hd,xs,rel,dd⟩:=Gk0 I hH (Gei rr)
    have e:(atKey xs κ).isSome=(dlook κ c.xs).isSome:=by
     rw[(Gej rr κ).1,Gdm (rel.val κ),Option.isSome_map]
    cases neg with
    | true=>
     refine wpAny_notIn_heap (knd:=nestKind X.prog X.w) (by show X.A.in1.units+10<cLine; first | omega | (simp[Around.in1]; omega)) (kb.is I) hd dd ?_
     rw[e]
     exact⟨.bl _,H,I.tok _,rfl,Gm.ok (R:=Rep X.K) p rs rfl⟩
    | false=>
     refine wpAny_in_heap (knd:=nestKind X.prog X.w) (by show X.A.in1.units+10<cLine; first | omega | (simp[Around.in1]; omega)) (kb.is I) hd dd ?_
     rw[e]
     exact⟨.bl _,H,I.tok _,rfl,Gm.ok (R:=Rep X.K) p rs rfl⟩
   ·rw[if_neg hf] at p; exact p.elim
  ·exact p.elim
 ·exact p.elim
theorem Gob(neg:Bool)(x y:D)(S:Sto)(e:XD)(S':Sto):Gfm neg x y S≠.exc e S':=by
 unfold Gfm
 split
 ·split
  ·split<;>(intro z; cases z)
  ·intro z; cases z
 ·intro z; cases z
theorem Goc{K:PySem.W.Frag}:OpD K (Gwo K) Gdn:=by
 intro XQ σ ρ mp H S x y v u Q rs rx ry p
 unfold Gdn at p
 split at p
 ·rename_i i
  split at p
  ·rename_i c κ zc zk
   by_cases hf:c.fz=false
   ·rw[if_pos hf] at p
    split at p
    ·rename_i e ze
     obtain⟨hk,b,rfl,kb⟩:=Geh ry zk
     obtain⟨a,kvs,rfl,ha,hH,rr⟩:=rs.pairs rx zc hf
     obtain⟨w,hw,rw'⟩:=(Gej rr κ).2 e ze
     exact⟨a,b,κ,kvs,w,rfl,rfl,hH,Gei rr,kb,hw,Gm.ok (R:=Rep K) p rs rw'⟩
    ·exact p.elim
   ·rw[if_neg hf] at p; exact p.elim
  ·exact p.elim
 ·exact p.elim
theorem God{K:PySem.W.Frag}:Gr4 (Gp5 K) K Gdo:=by
 intro mp H S S' x y z v u w Q rs rx ry rz e k
 unfold Gdo at e
 split at e
 ·rename_i i
  split at e
  ·rename_i c κ zc zk
   split at e
   ·rename_i hf
    cases (Option.some.inj e)
    obtain⟨hk,b,rfl,kb⟩:=Geh ry zk
    obtain⟨a,kvs,rfl,ha,hH,rr⟩:=rs.pairs rx zc hf.1
    obtain⟨af,rs'⟩:=rs.setDc ha zc hf.1 hH (Gty rr hk kb ry rz)
    have hl:kvs.length<sizeLine:=by rw[<- Paired.length rr]; exact Nat.lt_of_lt_of_le hf.2 (by decide)
    exact⟨a,b,κ,kvs,rfl,rfl,hH,Gei rr,kb,hl,k _ af rs'⟩
   ·cases e
  ·cases e
 ·cases e
variable{k:Nat}{a b:Expr}{fa fb:Ev D}{pos:Pos}
theorem Goe(hr:Room k X.A)(ha:GE X XQ a fa)(hb:GE X XQ b fb)(hs:Yq b:=by intro _ _; rfl):GE X XQ (.Subscript a b pos) (o2 Gdn fa fb):=⟨Gpi (Gn8 (by have:=hr.un; omega)) Goc ha.h hb.h hs⟩
theorem Gtz(hr:Room k X.A)(ha:GE X XQ a fa)(hb:GE X XQ b fb)(hm:behindInMarks .NotIn b=false:=by rfl):GT X XQ (.Compare a [.NotIn] [b] pos) (tb (o2 (Gfm true) fa fb)):=⟨Gd6 (Goa true (by have:=hr.un; omega)) (Gob true) ha.h hb.h hm⟩
theorem Gof:JE X XQ (.Dict [] [] pos) dnew:=by
 intro pins s σ H Q I ⟨mp,ρ,S,G,p⟩
 have hb:sysModules<s.heap.objs.size:=by
  have h:mainGlobals<s.heap.objs.size:=(I.mod.glob.keeps I.bk).lt
  exact Nat.lt_trans (by decide) h
 have hn:H s.heap.objs.size=none:=I.hok.fresh (Nat.le_refl _)
 obtain⟨af,rs,la⟩:=G.rs.newDc hn (G.rs.off I)
 refine wpAny_Dict_empty ⟨.ref s.heap.objs.size,_,I.laid (a:=s.heap.objs.size) (o:=.dT []) (t':=s.toks) (fun _ _ q=>Heap.get?_push_of_some _ q) (Nat.le_refl _)
  ⟨Nat.zero_le _,beq_eq_false_iff_ne.mpr (Ne.symm (Nat.ne_of_lt hb)),[],.nil,_,#[],0,Heap.get?_push_size _ rfl,⟨rfl,rfl,rfl⟩,rfl,rfl,List.nodup_nil⟩,rfl,?_⟩
 exact(show Post X.K XQ σ ρ mp H (.ok (.dct S.length) (S++[⟨false,[]⟩])) Q from p) _ _ _ af rs ⟨_,rfl,la,_,Hj⟩
theorem Gog:GE X XQ (.Dict [] [] pos) dnew:=⟨Gof⟩
end
structure FHd(K:PySem.W.Frag)(x:Str)(st:Stmt)(d:Int):Prop where
 ex:∃ (f T:Addr) (oc:Value) (od an:Option Addr) (osl sl:Array (Option Value)) (kV doc pm cdv ct:Value) (t:Tok) (n:Nat),PySem.W.nsIn K mainGlobals x=some (some (.ref f))/\K.lookup f=some ⟨oc,od,.func (PySem.W.fnOf x x (Hu st) (Ha st) (Gf st) (.ref T) kV doc pm an cdv ct),osl⟩/\PySem.W.codeIn K cdv x=true/\PySem.W.keepIn K (.ref f)=true∧
  K.lookup T=some { cls:=.type "tuple",dict:=none,data:=.seq #[.int d t] n,slots:=sl }
section
variable{P:Program}{w:World}{K:PySem.W.Frag}{mg:Str->Option Value}{base:Heap}
theorem Gt0{x:Str}{st:Stmt}{d:Int}{f T:Addr}{oc:Value}{od an:Option Addr}{osl sl:Array (Option Value)}{kV doc pm cdv ct:Value}{t:Tok}{n:Nat}(a:PySem.W.nsIn K mainGlobals x=some (some (.ref f)))
  (l:K.lookup f=some ⟨oc,od,.func (PySem.W.fnOf x x (Hu st) (Ha st) (Gf st) (.ref T) kV doc pm an cdv ct),osl⟩) (c:PySem.W.codeIn K cdv x=true) (k:PySem.W.keepIn K (.ref f)=true) (lT:K.lookup T=some { cls:=.type "tuple",dict:=none,data:=.seq #[.int d t] n,slots:=sl }):FHd K x st d:=⟨f,T,oc,od,an,osl,sl,kV,doc,pm,cdv,ct,t,n,a,l,c,k,lT⟩
structure CalD(P:Program)(w:World)(K:PySem.W.Frag)(mg:Str->Option Value)(base:Heap)(x:Str)(ps:List Str)(fn:Fn)(d:Int)(j:Nat):Prop where
 ex:∃ f fd t,FnOk P w K mg base (CXe P w) j f fd ps (spX K ps.length fn)/\mg x=some (.ref f)/\PySem.W.keepIn K (.ref f)=true/\Binds K fd ps []/\Binds K fd ps [.int d t]
theorem CalD.x{x:Str}{ps:List Str}{fn:Fn}{d:Int}{j:Nat}(C:CalD P w K mg base x ps fn d j):CalX P w K mg base x ps fn j:=
 let ⟨f,fd,_,h1,h2,h3,h4,_⟩:=C.ex; ⟨f,fd,h1,h2,h3,h4⟩
theorem caldw{x:Str}{st:Stmt}{N ps:List Str}{fn:Fn}{d:Int}{b:Sv}(k:Nat)(F:FHd K x st d)(g:GH K mg)(S:FnS N ps (Gf st))(hfn:fn=fnB N.length b)
  (hb:∀ (f:Addr) (cdv:Value) (A:Around) (outer:List PySem.Env) (s:Shared) (H:Hp) (E:XK) (XQ:XW),Room k (A.deeper (envOfC x (Gf st) s.heap.objs.size f cdv))->XL (Kq (CXe P w) P w K mg base N x (Gf st) f cdv A outer s H E) XQ→
   JSs (Kq (CXe P w) P w K mg base N x (Gf st) f cdv A outer s H E) XQ (Ha st) b)
  (ha:∀ (s:Shared) (T:Addr) (o:Obj) (t:Tok) (n:Nat) (kV doc pm:Value) (an:Option Addr) (cdv ct:Value) (us:List Value),us.length=ps.length->s.heap.get? T=some o->o.data=.seq #[.int d t] n->BindsTo s (PySem.W.fnOf x x (Hu st) (Ha st) (Gf st) (.ref T) kV doc pm an cdv ct) ⟨us,[]⟩ (ps.zip us))
  (ha1:∀ (s:Shared) (T:Addr) (o:Obj) (t:Tok) (n:Nat) (kV doc pm:Value) (an:Option Addr) (cdv ct:Value) (us:List Value),us.length+1=ps.length->s.heap.get? T=some o->o.data=.seq #[.int d t] n->BindsTo s (PySem.W.fnOf x x (Hu st) (Ha st) (Gf st) (.ref T) kV doc pm an cdv ct) ⟨us,[]⟩ (ps.zip (us++[Value.int d t]))):
  CalD P w K mg base x ps fn d (k+1):=by
 subst hfn
 obtain⟨_,X,G⟩:=g
 obtain⟨f,T,oc,od,an,osl,sl,kV,doc,pm,cdv,ct,t,n,a,l,c,kp,lT⟩:=F.ex
 refine⟨f,_,t,Gjf l c S.s (fun vs H Q E ⟨mp,ds,S,rs,r,hl,_⟩=>by rw[r.len]; exact hl) fun A outer s H vs Q E hr ⟨mp,ds,S,rs,r,hl,p⟩=>?_,PySem.W.mg_of X G a,kp,fun s us X hl=>?_,fun s us X hl=>ha1 s T _ t n kV doc pm an cdv ct us (by rw[<- hl,List.length_append]; rfl) (X T _ lT) rfl⟩
 ·refine⟨_,hb f cdv A outer s H E (XQd K E) hr Gkl,mp,_,S,Gbk rs r,?_⟩
  unfold fnB at p
  show PostS K _ mp H (b (ds.map some++List.replicate (N.length-ds.length) none) S) _
  cases z:b (ds.map some++List.replicate (N.length-ds.length) none) S with
  | rt d S'=>rw[z] at p; exact p
  | nx ρ' S'=>rw[z] at p; exact fun m h v af G=>p m h .non af G.rs rfl
  | bk ρ' S'=>rw[z] at p; exact p.elim
  | ct ρ' S'=>rw[z] at p; exact p.elim
  | exc x ρ' S'=>
   rw[z] at p
   obtain⟨C,hc,q⟩:=p
   exact fun m h v af G=>⟨C,hc,fun dx xf=>q m h dx af G.rs xf⟩
  | bad=>rw[z] at p; exact p.elim
 ·rw[List.append_nil] at hl ⊢
  exact ha s T _ t n kV doc pm an cdv ct us hl (X T _ lT) rfl
end
section
variable{X:Cx}{XQ:XW}{k:Nat}{f:Addr}{fd:FuncData}{ps:List Str}{fn:Fn}{x:Str}{p pos:Pos}{e:Expr}{es:List Expr}
theorem Goh{ob ix e:Expr}{f fo fi:Ev D}{pos p2:Pos}(hr:Room k X.A)(he:GE X XQ e f)(hob:GE X XQ ob fo)(hix:GE X XQ ix fi)(hs:swapsWithSole [.Subscript ob ix p2] e pos.line X.env=pure false:=by rfl)(hw:swappedStores [.Subscript ob ix p2] e X.env=pure none:=by rfl)(h1:(assignEach [.Subscript ob ix p2] X.env).map (·.2)=[assign (.Subscript ob ix p2) X.env]:=by rfl)(ha:∀ v,assign (.Subscript ob ix p2) X.env v=(do
   let ov <- holding [v] (eval ob X.env)
   let iv <- holding [v,ov] (eval ix X.env)
   standAt p2
   holding [v,ov,iv] (setItem ov iv v)
   release [v,ov,iv] []):=by intro _; rfl):GS X XQ (.Assign [.Subscript ob ix p2] e pos) (ss f fo fi Gdo):=⟨Gjt (Gk1 (by have:=hr.un; omega)) God he.h hob.h hix.h hs hw h1 ha⟩
def Gdp(d:Int)(fn:Fn):Fn:=fun ds S=>fn (ds++[.int d]) S
theorem Gwp{d:Int}{j n:Nat}{ys:List Str}{t:Ev (List D)}(s:Scope)(xs:XNs X.K ys)(L:XL X XQ)(C:CalD X.prog X.w X.K X.mg X.base x ps fn d j)(hr:Room k X.A)(ha:GA X XQ (e::es) t)(hg:okG s x=true:=by decide +kernel)(hn:ps.length=n+1:=by rfl)(hj:j<=k:=by decide)(hs:X.env.scope=s:=by rfl)
  (he:starEach (e::es) X.env=(false,eval e X.env)::starEach es X.env:=by rfl) (hpl:(backTo pos (starEach es X.env)).any (·.1)=false:=by rfl):
  GE X XQ (.Call (.Name x p) (e::es) [] pos) (cl n (gX ys (Gdp d fn)) t):=by
 obtain⟨f,fd,tk,F,hm,hk,_,hb⟩:=C.ex
 have F:=F.mono hj
 have hdb:=(Hk.of (okG.gl hg).2).1
 refine⟨?_⟩
 intro pins s0 σ H Q I ⟨mp,ρ,S,G,p⟩
 refine wpAny_Call_Name_kw (Xo I (gG s hg hs) hm ?_ hdb)
 refine PySem.W.callWith_K (h₀:=X.base) I.ok.mod.kin hk (thn (ha.h pos pins s0 σ H _ I (bindP G p fun mp1 H1 ds S1 vs a1 G1 r1 p1=>(⟨mp1,ρ,ds,S1,G1,r1,p1⟩:∃ mp1 ρ ds S1,Gd X.K mp1 H1 σ ρ S1/\RepL X.K mp1 H1 ds vs/\Post X.K XQ σ ρ mp1 H1 (if ds.length=n then gX ys (Gdp d fn) ds S1 else .bad) Q))) fun us s1 ⟨vs,H1,I1,r,mp1,ρ1,ds,S1,G1,r1,p1⟩=>⟨I1.kIn,?_⟩) he hpl
 by_cases hl:ds.length=n
 ·rw[if_pos hl] at p1
  have r2:Vals (vs++[V.int d]) (us++[Value.int d tk]):=r.append (.cons ⟨tk,rfl⟩ .nil)
  have rl:RepL X.K mp1 H1 (ds++[.int d]) (vs++[V.int d]):=RepL.append r1 (RepL.cons rfl RepL.nil)
  have hll:(ds++[D.int d]).length=ps.length:=by rw[hn,List.length_append,hl]; rfl
  have h:spX X.K ps.length fn (vs++[V.int d]) H1 Q fun c dx H'=>∃ C,c=.ref C/\WX X.K XQ σ C dx H':=by
   refine⟨mp1,ds++[.int d],S1,G1.rs,rl,hll,?_⟩
   unfold gX Gdp at p1
   cases z:fn (ds++[.int d]) S1 with
   | ok d S'=>rw[z] at p1; exact p1
   | exc xx S'=>
    rw[z] at p1
    by_cases hi:xx.cls∈ys
    ·have p1:Gm X.K (Rep X.K) XQ σ ρ1 mp1 H1 (.exc xx S') Q:=by simpa only[if_pos hi] using p1
     obtain⟨C,hC,_⟩:=xs _ hi
     refine⟨C,hC,fun mp' H' dx af rs xf=>⟨C,rfl,xx,mp',ρ1,S',xf,hC,p1 mp' H' af (G1.aft af rs)⟩⟩
    ·have p1:Gm X.K (Rep X.K) XQ σ ρ1 mp1 H1 .bad Q:=by simpa only[if_neg hi] using p1
     exact p1.elim
   | bad=>rw[z] at p1; exact p1.elim
  have hlu:(us++[Value.int d tk]).length=ps.length:=by rw[<- r2.length,rl.len]; exact hll
  refine wpAny_call (codeAny_mono (F.run X.A X.stack s1 H1 ⟨us,[]⟩ (us++[Value.int d tk]) (vs++[V.int d]) Q _ hr I1.env0 (hb s1 us I1.kIn hlu) r2 h) fun r s' hq=>?_)
  cases r with
  | error e=>exact L.cal pins σ H1 s1 e s' (fun c dx H'=>∃ C,c=.ref C/\WX X.K XQ σ C dx H') I1 hq fun C dx H' ⟨C',e1,q⟩=>by cases e1; exact q
  | ok fl=>
   cases fl with
   | ret u=>exact I1.after hq
   | next=>exact False.elim hq
   | brk=>exact False.elim hq
   | cont=>exact False.elim hq
 ·rw[if_neg hl] at p1; exact p1.elim
end
end DL
namespace Law
open PySem PySem.Spec PyProof.Rows L2 DL
variable{X:Cx}{XQ:XW}{pos:Pos}
def top(i:Nat):Stmt:=PySem.Challenge.pw_summitwater_k74_long_rings.main.body.getD i (.Pass ⟨0,0,0,0⟩)
abbrev Up:Stmt:=top 14
abbrev Uq:Stmt:=top 15
abbrev Zq:Stmt:=top 16
abbrev Yk:Stmt:=top 17
abbrev Ur:Stmt:=top 18
abbrev Gbw:Stmt:=top 19
abbrev Zr:Stmt:=top 22
abbrev Gbx:Stmt:=top 23
abbrev Vp:Stmt:=top 25
abbrev Xb:Stmt:=top 26
abbrev Yy:Stmt:=top 27
abbrev Us:Stmt:=top 36
abbrev Wh:Stmt:=top 31
abbrev Qr:Stmt:=top 37
abbrev Xc:Stmt:=top 30
abbrev Ut:Stmt:=top 35
abbrev Vq:Stmt:=top 33
abbrev Uu:Stmt:=top 34
abbrev Gby:Stmt:=top 40
abbrev Uv:Stmt:=top 39
abbrev Xd:Stmt:=top 38
abbrev Qe:Stmt:=top 32
abbrev Vr:Stmt:=top 29
abbrev Vs:Stmt:=top 42
abbrev Wi:Stmt:=top 46
abbrev Qs:Stmt:=top 48
abbrev Gek:Stmt:=top 47
abbrev Xe:Stmt:=top 51
abbrev Xz:Stmt:=top 53
abbrev Vt:Stmt:=top 54
abbrev Vu:Stmt:=top 55
abbrev Qt:Stmt:=top 56
abbrev Vv:Stmt:=top 57
abbrev Uw:Stmt:=top 58
abbrev Qu:Stmt:=top 59
abbrev Qv:Stmt:=top 60
abbrev Vw:Stmt:=top 61
abbrev Gbz:Stmt:=top 62
def c_CHAMBER:D:=(.tup [(.str "chamber")])
def c_END:D:=(.tup [(.str "end")])
def c_LEFT_COMES:D:=(.tup [(.int 2),(.int 3)])
def c_RIGHT_COMES:D:=(.tup [(.int 1),(.int 3)])
def c_UP:D:=(.str "up")
def ys:List Str:=["NoGate","Dry","Full","NoSpring","NoBarge","NoRoom","Uneven","Shallow","TooMany"]
def ms:List Str:=["NoGate","Dry","Full","NoSpring","NoBarge","NoRoom","Uneven","Shallow","TooMany"]
structure Hs(K:PySem.W.Frag):Prop where
 h_has_spring:FH K "has_spring" Up
 h_most_water:FH K "most_water" Uq
 h_is_dry:FH K "is_dry" Zq
 h_is_full:FH K "is_full" Yk
 h_is_shallow:FH K "is_shallow" Ur
 h_holds:FH K "holds" Gbw
 h_higher:FH K "higher" Zr
 h_lower:FH K "lower" Gbx
 h_barges_of:FH K "barges_of" Vp
 h_with_barges:FH K "with_barges" Xb
 h_with_more:FH K "with_more" Yy
 h_check_gate:FH K "check_gate" Us
 h_place_behind:FH K "place_behind" Wh
 h_check_water:FH K "check_water" Qr
 h_place_ahead:FH K "place_ahead" Xc
 h_check_move:FH K "check_move" Ut
 h_check_let:FH K "check_let" Vq
 h_check_feed:FH K "check_feed" Uu
 h_moved:FH K "moved" Gby
 h_with_water:FH K "with_water" Uv
 h_let_down:FH K "let_down" Xd
 h_is_last_move:FH K "is_last_move" Qe
 h_deed_done:FH K "deed_done" Vr
 h_ask_holds:FH K "ask_holds" Vs
 h_without_gone:FH K "without_gone" Wi
 h_with_comers:FH K "with_comers" Qs
 h_hour:FH K "hour" Gek
 h_for_ever:FHd K "for_ever" Xe 600
 h__law_mixed:FH K "_law_mixed" Xz
 h__law_tape:FH K "_law_tape" Vt
 h__law_take:FH K "_law_take" Vu
 h__law_number:FH K "_law_number" Qt
 h__law_same:FH K "_law_same" Vv
 h__law_scene:FH K "_law_scene" Uw
 h__law_keeper:FH K "_law_keeper" Qu
 h__law_common:FH K "_law_common" Qv
 h__law_told:FH K "_law_told" Vw
 h_law:FH K "law" Gbz
 z_ValueError:PySem.W.nsIn K mainGlobals "ValueError"=some none
 z_all:PySem.W.nsIn K mainGlobals "all"=some none
 z_bool:PySem.W.nsIn K mainGlobals "bool"=some none
 z_int:PySem.W.nsIn K mainGlobals "int"=some none
 z_isinstance:PySem.W.nsIn K mainGlobals "isinstance"=some none
 z_len:PySem.W.nsIn K mainGlobals "len"=some none
 z_list:PySem.W.nsIn K mainGlobals "list"=some none
 z_max:PySem.W.nsIn K mainGlobals "max"=some none
 z_range:PySem.W.nsIn K mainGlobals "range"=some none
 z_str:PySem.W.nsIn K mainGlobals "str"=some none
 z_sum:PySem.W.nsIn K mainGlobals "sum"=some none
 z_tuple:PySem.W.nsIn K mainGlobals "tuple"=some none
 z_zip:PySem.W.nsIn K mainGlobals "zip"=some none
structure Txt(K:PySem.W.Frag)(mg:Str->Option Value):Prop where
 b_ValueError:mg "ValueError"=none
 b_all:mg "all"=none
 b_bool:mg "bool"=none
 b_int:mg "int"=none
 b_isinstance:mg "isinstance"=none
 b_len:mg "len"=none
 b_list:mg "list"=none
 b_max:mg "max"=none
 b_range:mg "range"=none
 b_str:mg "str"=none
 b_sum:mg "sum"=none
 b_tuple:mg "tuple"=none
 b_zip:mg "zip"=none
 k_CHAMBER:∃ u v,mg "CHAMBER"=some u/\He v u/\∀ mp H,Rep K mp H c_CHAMBER v
 k_END:∃ u v,mg "END"=some u/\He v u/\∀ mp H,Rep K mp H c_END v
 k_LEFT_COMES:∃ u v,mg "LEFT_COMES"=some u/\He v u/\∀ mp H,Rep K mp H c_LEFT_COMES v
 k_RIGHT_COMES:∃ u v,mg "RIGHT_COMES"=some u/\He v u/\∀ mp H,Rep K mp H c_RIGHT_COMES v
 k_UP:∃ u v,mg "UP"=some u/\He v u/\∀ mp H,Rep K mp H c_UP v
 xt:XT K mg "SummitError" ys ms
 cat_TooMany:Cat K mg "TooMany" ["TooMany"]
theorem Txt.c_CHAMBER(T:Txt X.K X.mg)(hg:Gl X "CHAMBER"):GE X XQ (.Name "CHAMBER" pos) (cn c_CHAMBER):=let ⟨u,v,h1,h2,h3⟩:=T.k_CHAMBER; ⟨Gbp h1 h2 h3 hg (by decide +kernel)⟩
theorem Txt.c_END(T:Txt X.K X.mg)(hg:Gl X "END"):GE X XQ (.Name "END" pos) (cn c_END):=let ⟨u,v,h1,h2,h3⟩:=T.k_END; ⟨Gbp h1 h2 h3 hg (by decide +kernel)⟩
theorem Txt.c_LEFT_COMES(T:Txt X.K X.mg)(hg:Gl X "LEFT_COMES"):GE X XQ (.Name "LEFT_COMES" pos) (cn c_LEFT_COMES):=let ⟨u,v,h1,h2,h3⟩:=T.k_LEFT_COMES; ⟨Gbp h1 h2 h3 hg (by decide +kernel)⟩
theorem Txt.c_RIGHT_COMES(T:Txt X.K X.mg)(hg:Gl X "RIGHT_COMES"):GE X XQ (.Name "RIGHT_COMES" pos) (cn c_RIGHT_COMES):=let ⟨u,v,h1,h2,h3⟩:=T.k_RIGHT_COMES; ⟨Gbp h1 h2 h3 hg (by decide +kernel)⟩
theorem Txt.c_UP(T:Txt X.K X.mg)(hg:Gl X "UP"):GE X XQ (.Name "UP" pos) (cn c_UP):=let ⟨u,v,h1,h2,h3⟩:=T.k_UP; ⟨Gbp h1 h2 h3 hg (by decide +kernel)⟩
abbrev Ku:Stmt:=(Gn5 (top 1)).getD 0 (.Pass ⟨0,0,0,0⟩)
theorem sc_init:FnScope ["self","text"] ["self","text"] (Gf Ku):=kdS
theorem Gwq:OkG (Gf Ku) "ValueError":=⟨by decide +kernel⟩
theorem Goi:OkV (Gf Ku) "self":=⟨by decide +kernel⟩
theorem Goj:OkV (Gf Ku) "text":=⟨by decide +kernel⟩
theorem Gin{P:Program}{w:World}{K:PySem.W.Frag}{mg:Str->Option Value}{base:Heap}(hm:mg "ValueError"=none)(f:Addr)(cdv:Value)(A:Around)(outer:List PySem.Env)(s:Shared)(H:Hp)(E:XK):PSs (Kq CX0 P w K mg base ["self","text"] "SummitError.__init__" (Gf Ku) f cdv A outer s H E).nox (Ha Ku) (Gp1 K):=by
 conv=>arg 2; whnf
 exact Gg4 (Gg5 (Gki (gl Gwq) hm (Yo (Gf4 (i:=0) rfl (okV.vis Goi.h).1) (Yo (Gf4 (i:=1) rfl (okV.vis Goj.h).1) Gf9)) rfl))
structure All(P:Program)(w:World)(K:PySem.W.Frag)(mg:Str->Option Value)(base:Heap):Prop where
 h:Hs K
 g:GH K mg
 t:Txt K mg
 X_Dry:ClX P w K mg base "Dry" 1
 X_Full:ClX P w K mg base "Full" 1
 X_NoBarge:ClX P w K mg base "NoBarge" 1
 X_NoGate:ClX P w K mg base "NoGate" 1
 X_NoRoom:ClX P w K mg base "NoRoom" 1
 X_NoSpring:ClX P w K mg base "NoSpring" 1
 X_Shallow:ClX P w K mg base "Shallow" 1
 X_TooMany:ClX P w K mg base "TooMany" 1
 X_Uneven:ClX P w K mg base "Uneven" 1
section
variable{P:Program}{w:World}{K:PySem.W.Frag}{mg:Str->Option Value}{base:Heap}
def Jk:Sv:=(sret (va (o2 eqD (o2 getD (vr 0) (cn (.int 0))) (cn (.str "pound"))) (o2 Gdk (o2 getD (vr 0) (cn (.int 4))) (cn .non))))
def Qi:Fn:=fnB 1 Jk
theorem Gcu:FnS ["place"] ["place"] (Gf Up):=kdF
abbrev z0:=Gf Up
theorem Gb0(Al:All P w K mg base):Cal P w K mg base "has_spring" ["place"] Qi 1:=by
 have Sc:=Gcu
 refine calw (b:=Jk) 0 Al.h.h_has_spring Al.g Sc rfl fun _ _ _ _ _ _ _ hr=>?_
 conv=>arg 3; whnf
 refine GSs.h ?_
 exact(Gh (Gn (Qo (Xx hr.units (Gj (gw 0 Sc) ge_int) Gz) (Qp (Gn3 (Gj (gw 0 Sc) ge_int) Kh)))))
def Kk:Sv:=(sq (sif (tb (o2 eqD (vr 0) (cn c_END)))
  (sret (cn (.int 0)))
  skip)
  (sret (ie (tb (o2 eqD (vr 0) (cn c_CHAMBER))) (cn (.int 1)) (o2 getD (vr 0) (cn (.int 1))))))
def Jt:Fn:=fnB 1 Kk
theorem Gcv:FnS ["place"] ["place"] (Gf Uq):=kdF
abbrev z1:=Gf Uq
theorem Gb1(Al:All P w K mg base):Cal P w K mg base "most_water" ["place"] Jt 1:=by
 have Sc:=Gcv
 have T:=Al.t
 refine calw (b:=Kk) 0 Al.h.h_most_water Al.g Sc rfl fun _ _ _ _ _ _ _ hr=>?_
 conv=>arg 3; whnf
 refine GSs.h ?_
 exact(Ge (Hf (Jq hr.units (gw 0 Sc) (T.c_END (gG z1)))
  (Gh (Gn ge_int))
  Gu)
  (Gh (Gn (Qq (Jq hr.units (gw 0 Sc) (T.c_CHAMBER (gG z1))) ge_int (Gj (gw 0 Sc) ge_int)))))
def Yz:Sv:=(sret (va (o2 neD (vr 0) (cn c_END)) (o2 eqD (vr 1) (cn (.int 0)))))
def Gb2:Fn:=fnB 2 Yz
theorem Gio:FnS ["place","level"] ["place","level"] (Gf Zq):=kdF
abbrev z2:=Gf Zq
theorem Ggp(Al:All P w K mg base):Cal P w K mg base "is_dry" ["place","level"] Gb2 1:=by
 have Sc:=Gio
 have T:=Al.t
 refine calw (b:=Yz) 0 Al.h.h_is_dry Al.g Sc rfl fun _ _ _ _ _ _ _ hr=>?_
 conv=>arg 3; whnf
 refine GSs.h ?_
 exact(Gh (Gn (Qo (Gp3 hr.units (gw 0 Sc) (T.c_END (gG z2))) (Qp (Xx hr.units (gw 1 Sc) ge_int)))))
def Xq:Sv:=(sret (va (o2 neD (vr 0) (cn c_END)) (o2 geD (vr 1) (cl 1 (Go Jt) (ac (vr 0) an)))))
def Xr:Fn:=fnB 2 Xq
theorem Ggq:FnS ["place","level"] ["place","level"] (Gf Yk):=kdF
abbrev z3:=Gf Yk
theorem Gaj(Al:All P w K mg base):Cal P w K mg base "is_full" ["place","level"] Xr 2:=by
 have Sc:=Ggq
 have T:=Al.t
 refine calw (b:=Xq) 1 Al.h.h_is_full Al.g Sc rfl fun _ _ _ _ _ _ _ hr=>?_
 conv=>arg 3; whnf
 refine GSs.h ?_
 exact(Gh (Gn (Qo (Gp3 hr.units (gw 0 Sc) (T.c_END (gG z3))) (Qp (Gks (gw 1 Sc) (gow z3 (Gb1 Al) hr (Ga (gw 0 Sc) Gc Gb)))))))
def Zc:Sv:=(sret (va (o2 eqD (o2 getD (vr 0) (cn (.int 0))) (cn (.str "pound"))) (o2 ltD (vr 1) (o2 getD (vr 0) (cn (.int 2))))))
def Vx:Fn:=fnB 2 Zc
theorem Gcw:FnS ["place","level"] ["place","level"] (Gf Ur):=kdF
abbrev z4:=Gf Ur
theorem Xf(Al:All P w K mg base):Cal P w K mg base "is_shallow" ["place","level"] Vx 1:=by
 have Sc:=Gcw
 refine calw (b:=Zc) 0 Al.h.h_is_shallow Al.g Sc rfl fun _ _ _ _ _ _ _ hr=>?_
 conv=>arg 3; whnf
 refine GSs.h ?_
 exact(Gh (Gn (Qo (Xx hr.units (Gj (gw 0 Sc) ge_int) Gz) (Qp (Gwl (gw 1 Sc) (Gj (gw 0 Sc) ge_int))))))
def Ghi:Sv:=(sq (sif (tb (o2 eqD (vr 0) (cn c_END)))
  (sret (cn (.bl true)))
  skip)
  (sret (o2 leD (vr 1) (ie (tb (o2 eqD (vr 0) (cn c_CHAMBER))) (cn (.int 1)) (o2 getD (vr 0) (cn (.int 3)))))))
def Ghj:Fn:=fnB 2 Ghi
theorem Gk2:FnS ["place","barges"] ["place","barges"] (Gf Gbw):=kdF
abbrev z5:=Gf Gbw
theorem Gip(Al:All P w K mg base):Cal P w K mg base "holds" ["place","barges"] Ghj 1:=by
 have Sc:=Gk2
 have T:=Al.t
 refine calw (b:=Ghi) 0 Al.h.h_holds Al.g Sc rfl fun _ _ _ _ _ _ _ hr=>?_
 conv=>arg 3; whnf
 refine GSs.h ?_
 exact(Ge (Hf (Jq hr.units (gw 0 Sc) (T.c_END (gG z5)))
  (Gh (Gn Gbs))
  Gu)
  (Gh (Gn (Gp2 (gw 1 Sc) (Qq (Jq hr.units (gw 0 Sc) (T.c_CHAMBER (gG z5))) ge_int (Gj (gw 0 Sc) ge_int))))))
def Zd:Sv:=(sret (ie (tb (o2 eqD (o2 getD (o2 getD (vr 0) (cn (.int 1))) (vr 1)) (cn c_UP))) (o2 Gx (vr 1) (cn (.int 1))) (vr 1)))
def Xg:Fn:=fnB 2 Zd
theorem Giq:FnS ["canal","gate"] ["canal","gate"] (Gf Zr):=kdF
abbrev z6:=Gf Zr
theorem Yl(Al:All P w K mg base):Cal P w K mg base "higher" ["canal","gate"] Xg 1:=by
 have Sc:=Giq
 have T:=Al.t
 refine calw (b:=Zd) 0 Al.h.h_higher Al.g Sc rfl fun _ _ _ _ _ _ _ hr=>?_
 conv=>arg 3; whnf
 refine GSs.h ?_
 exact(Gh (Gn (Qq (Jq hr.units (Gj (Gj (gw 0 Sc) ge_int) (gw 1 Sc)) (T.c_UP (gG z6))) (Gp (gw 1 Sc) ge_int) (gw 1 Sc))))
def Ga9:Sv:=(sret (ie (tb (o2 eqD (o2 getD (o2 getD (vr 0) (cn (.int 1))) (vr 1)) (cn c_UP))) (vr 1) (o2 Gx (vr 1) (cn (.int 1)))))
def Ze:Fn:=fnB 2 Ga9
theorem Gk3:FnS ["canal","gate"] ["canal","gate"] (Gf Gbx):=kdF
abbrev z7:=Gf Gbx
theorem Zs(Al:All P w K mg base):Cal P w K mg base "lower" ["canal","gate"] Ze 1:=by
 have Sc:=Gk3
 have T:=Al.t
 refine calw (b:=Ga9) 0 Al.h.h_lower Al.g Sc rfl fun _ _ _ _ _ _ _ hr=>?_
 conv=>arg 3; whnf
 refine GSs.h ?_
 exact(Gh (Gn (Qq (Jq hr.units (Gj (Gj (gw 0 Sc) ge_int) (gw 1 Sc)) (T.c_UP (gG z7))) (gw 1 Sc) (Gp (gw 1 Sc) ge_int))))
def Gak:Sv:=(sret (ie (tb (o2 eqD (vr 1) (cn (.str "right")))) (o2 getD (vr 0) (cn (.int 1))) (o2 getD (vr 0) (cn (.int 2)))))
def Uc:Fn:=fnB 2 Gak
theorem Gel:FnS ["stand","word"] ["stand","word"] (Gf Vp):=kdF
abbrev z8:=Gf Vp
theorem Ux(Al:All P w K mg base):Cal P w K mg base "barges_of" ["stand","word"] Uc 1:=by
 have Sc:=Gel
 refine calw (b:=Gak) 0 Al.h.h_barges_of Al.g Sc rfl fun _ _ _ _ _ _ _ hr=>?_
 conv=>arg 3; whnf
 refine GSs.h ?_
 exact(Gh (Gn (Qq (Jq hr.units (gw 1 Sc) Gz) (Gj (gw 0 Sc) ge_int) (Gj (gw 0 Sc) ge_int))))
def Ya:Sv:=(sq (sa (vr 0) (gt (gcons (gn 3) (gcons (gn 4) (gcons (gn 5) gnil))) 3))
  (sret (ie (tb (o2 eqD (vr 1) (cn (.str "right")))) (tp (ac (vr 3) (ac (vr 2) (ac (vr 5) an)))) (tp (ac (vr 3) (ac (vr 4) (ac (vr 2) an)))))))
def Yb:Fn:=fnB 6 Ya
theorem Gb3:FnS ["stand","word","row","levels","rights","lefts"] ["stand","word","row"] (Gf Xb):=kdF
theorem Gau(Al:All P w K mg base):Cal P w K mg base "with_barges" ["stand","word","row"] Yb 1:=by
 have Sc:=Gb3
 refine calw (b:=Ya) 0 Al.h.h_with_barges Al.g Sc rfl fun _ _ _ _ _ _ _ hr=>?_
 conv=>arg 3; whnf
 refine GSs.h ?_
 exact(Ge (Ki (gw 0 Sc) (Jc rfl (Gi (ggw 3 Sc) (Gi (ggw 4 Sc) (Gi (ggw 5 Sc) Hm)))))
  (Gh (Gn (Qq (Jq hr.units (gw 1 Sc) Gz) (Gq (Ga (gw 3 Sc) (Ga (gw 2 Sc) (Ga (gw 5 Sc) Gc Gb) Gb) Gb)) (Gq (Ga (gw 3 Sc) (Ga (gw 4 Sc) (Ga (gw 2 Sc) Gc Gb) Gb) Gb))))))
def Qa:Sv:=(sret (o2 Gx (o2 Gx (sl2 (vr 0) onone (osome (vr 1))) (tp (ac (o2 Gx (o2 getD (vr 0) (vr 1)) (vr 2)) an))) (sl2 (vr 0) (osome (o2 Gx (vr 1) (cn (.int 1)))) onone)))
def Jb:Fn:=fnB 3 Qa
theorem Gem:FnS ["row","place","many"] ["row","place","many"] (Gf Yy):=kdF
theorem Jm(Al:All P w K mg base):Cal P w K mg base "with_more" ["row","place","many"] Jb 1:=by
 have Sc:=Gem
 refine calw (b:=Qa) 0 Al.h.h_with_more Al.g Sc rfl fun _ _ _ _ _ _ _ hr=>?_
 conv=>arg 3; whnf
 refine GSs.h ?_
 exact(Gh (Gn (Gp (Gp (Kr (gw 0 Sc) Vm (Vn (gw 1 Sc))) (Gq (Ga (Gp (Gj (gw 0 Sc) (gw 1 Sc)) (gw 2 Sc)) Gc Hi))) (Kr (gw 0 Sc) (Vn (Gp (gw 1 Sc) ge_int)) Vm))))
def Ju:Sv:=(sif (tn (tb (ch leD ltD (cn (.int 0)) (vr 1) (b1 Jf (ac (o2 getD (vr 0) (cn (.int 1))) an)))))
  (srs "NoGate" (ac (cn (.str "there is no such gate")) an))
  skip)
def Qj:Fn:=fnB 2 Ju
theorem Gcx:FnS ["canal","gate"] ["canal","gate"] (Gf Us):=kdF
abbrev z11:=Gf Us
theorem Xh(Al:All P w K mg base):CalX P w K mg base "check_gate" ["canal","gate"] Qj 3:=by
 have Sc:=Gcx
 have T:=Al.t
 refine calxw (b:=Ju) 2 Al.h.h_check_gate Al.g Sc rfl fun _ _ _ _ _ _ _ _ hr L=>?_
 conv=>arg 3; whnf
 refine GSs.h ?_
 exact(Gh (Hf (Gbu (Gfg Gi8 Gpw Gg6 Gpv ge_int (gw 1 Sc) (Jg (gG z11) T.b_len (Ga (Gj (gw 0 Sc) ge_int) Gc Gk))))
  (Gh (Wz z11 L Al.X_NoGate hr (Ga Gz Gc Gg)))
  Gu))
def Xi:Sv:=(sq (sa (vr 0) (gt (gcons (gn 1) (gcons (gn 2) gnil)) 2))
  (sret (ie (tb (o2 eqD (vr 1) (cn (.str "right")))) (o2 Gx (vr 2) (cn (.int 1))) (vr 2))))
def Kl:Fn:=fnB 3 Xi
theorem Gav:FnS ["deed","word","gate"] ["deed"] (Gf Wh):=kdF
theorem Ks(Al:All P w K mg base):Cal P w K mg base "place_behind" ["deed"] Kl 1:=by
 have Sc:=Gav
 refine calw (b:=Xi) 0 Al.h.h_place_behind Al.g Sc rfl fun _ _ _ _ _ _ _ hr=>?_
 conv=>arg 3; whnf
 refine GSs.h ?_
 exact(Ge (Ki (gw 0 Sc) (Jc rfl (Gi (ggw 1 Sc) (Gi (ggw 2 Sc) Hm))))
  (Gh (Gn (Qq (Jq hr.units (gw 1 Sc) Gz) (Gp (gw 2 Sc) ge_int) (gw 2 Sc)))))
def Yc:Sv:=(sq (sa (o2 getD (vr 0) (cn (.int 0))) (gn 3))
  (sq (sa (cl 2 (Go Xg) (ac (vr 0) (ac (vr 2) an))) (gn 4))
  (sq (sa (cl 2 (Go Ze) (ac (vr 0) (ac (vr 2) an))) (gn 5))
  (sq (sif (ta (tb (o2 eqD (o2 getD (vr 3) (vr 4)) (cn c_CHAMBER))) (tb (o2 eqD (o2 getD (vr 1) (vr 4)) (cn (.int 1)))))
  (srs "Uneven" (ac (cn (.str "the higher chamber is full")) an))
  skip)
  (sq (sif (ta (tb (o2 eqD (o2 getD (vr 3) (vr 5)) (cn c_CHAMBER))) (tb (o2 eqD (o2 getD (vr 1) (vr 5)) (cn (.int 0)))))
  (srs "Uneven" (ac (cn (.str "the lower chamber is empty")) an))
  skip)
  (sif (to (tt (cl 2 (Go Vx) (ac (o2 getD (vr 3) (vr 4)) (ac (o2 getD (vr 1) (vr 4)) an)))) (tt (cl 2 (Go Vx) (ac (o2 getD (vr 3) (vr 5)) (ac (o2 getD (vr 1) (vr 5)) an)))))
  (srs "Shallow" (ac (cn (.str "the pound's level is below its deep")) an))
  skip))))))
def Yd:Fn:=fnB 6 Yc
theorem Gb4:FnS ["canal","levels","gate","places","high","low"] ["canal","levels","gate"] (Gf Qr):=kdF
abbrev z13:=Gf Qr
theorem Gaw(Al:All P w K mg base):CalX P w K mg base "check_water" ["canal","levels","gate"] Yd 3:=by
 have Sc:=Gb4
 have T:=Al.t
 refine calxw (b:=Yc) 2 Al.h.h_check_water Al.g Sc rfl fun _ _ _ _ _ _ _ _ hr L=>?_
 conv=>arg 3; whnf
 refine GSs.h ?_
 exact(Ge (gsew 3 Sc (Gj (gw 0 Sc) ge_int))
  (Ge (gsew 4 Sc (gow z13 (Yl Al) hr (Ga (gw 0 Sc) (Ga (gw 2 Sc) Gc Gb) Gb)))
  (Ge (gsew 5 Sc (gow z13 (Zs Al) hr (Ga (gw 0 Sc) (Ga (gw 2 Sc) Gc Gb) Gb)))
  (Ge (Hf (GW.jt (Gbv (Jq hr.units (Gj (gw 3 Sc) (gw 4 Sc)) (T.c_CHAMBER (gG z13))) (Yw (Jq hr.units (Gj (gw 1 Sc) (gw 4 Sc)) ge_int))))
  (Gh (Wz z13 L Al.X_Uneven hr (Ga Gz Gc Gg)))
  Gu)
  (Ge (Hf (GW.jt (Gbv (Jq hr.units (Gj (gw 3 Sc) (gw 5 Sc)) (T.c_CHAMBER (gG z13))) (Yw (Jq hr.units (Gj (gw 1 Sc) (gw 5 Sc)) ge_int))))
  (Gh (Wz z13 L Al.X_Uneven hr (Ga Gz Gc Gg)))
  Gu)
  (Gh (Hf (GW.jt (Gah (Jp (gow z13 (Xf Al) hr (Ga (Gj (gw 3 Sc) (gw 4 Sc)) (Ga (Gj (gw 1 Sc) (gw 4 Sc)) Gc Gk) Gk))) (Wy (Jp (gow z13 (Xf Al) hr (Ga (Gj (gw 3 Sc) (gw 5 Sc)) (Ga (Gj (gw 1 Sc) (gw 5 Sc)) Gc Gk) Gk))))))
  (Gh (Wz z13 L Al.X_Shallow hr (Ga Gz Gc Gg)))
  Gu)))))))
def Ye:Sv:=(sq (sa (vr 0) (gt (gcons (gn 1) (gcons (gn 2) gnil)) 2))
  (sret (ie (tb (o2 eqD (vr 1) (cn (.str "right")))) (vr 2) (o2 Gx (vr 2) (cn (.int 1))))))
def Uy:Fn:=fnB 3 Ye
theorem Gb5:FnS ["deed","word","gate"] ["deed"] (Gf Xc):=kdF
theorem Wj(Al:All P w K mg base):Cal P w K mg base "place_ahead" ["deed"] Uy 1:=by
 have Sc:=Gb5
 refine calw (b:=Ye) 0 Al.h.h_place_ahead Al.g Sc rfl fun _ _ _ _ _ _ _ hr=>?_
 conv=>arg 3; whnf
 refine GSs.h ?_
 exact(Ge (Ki (gw 0 Sc) (Jc rfl (Gi (ggw 1 Sc) (Gi (ggw 2 Sc) Hm))))
  (Gh (Gn (Qq (Jq hr.units (gw 1 Sc) Gz) (gw 2 Sc) (Gp (gw 2 Sc) ge_int)))))
def Zf:Sv:=(sq (sa (vr 2) (gt (gcons (gn 3) (gcons (gn 4) gnil)) 2))
  (sq (sx (cl 2 (gX ys Qj) (ac (vr 0) (ac (vr 4) an))))
  (sq (sif (tb (o2 eqD (o2 getD (cl 2 (Go Uc) (ac (vr 1) (ac (vr 3) an))) (cl 1 (Go Uy) (ac (vr 2) an))) (cn (.int 0))))
  (srs "NoBarge" (ac (cn (.str "there is no barge that goes this way")) an))
  skip)
  (sq (sa (cl 1 (Go Kl) (ac (vr 2) an)) (gn 5))
  (sq (sif (tn (tt (cl 2 (Go Ghj) (ac (o2 getD (o2 getD (vr 0) (cn (.int 0))) (vr 5)) (ac (o2 Gx (o2 Gx (o2 getD (o2 getD (vr 1) (cn (.int 1))) (vr 5)) (o2 getD (o2 getD (vr 1) (cn (.int 2))) (vr 5))) (cn (.int 1))) an)))))
  (srs "NoRoom" (ac (cn (.str "the place that the barge comes to has no room")) an))
  skip)
  (sx (cl 3 (gX ys Yd) (ac (vr 0) (ac (o2 getD (vr 1) (cn (.int 0))) (ac (vr 4) an))))))))))
def Zg:Fn:=fnB 6 Zf
theorem Gcy:FnS ["canal","stand","deed","word","gate","target"] ["canal","stand","deed"] (Gf Ut):=kdF
abbrev z15:=Gf Ut
theorem Gb6(Al:All P w K mg base):CalX P w K mg base "check_move" ["canal","stand","deed"] Zg 4:=by
 have Sc:=Gcy
 have T:=Al.t
 refine calxw (b:=Zf) 3 Al.h.h_check_move Al.g Sc rfl fun _ _ _ _ _ _ _ _ hr L=>?_
 conv=>arg 3; whnf
 refine GSs.h ?_
 exact(Ge (Ki (gw 2 Sc) (Jc rfl (Gi (ggw 3 Sc) (Gi (ggw 4 Sc) Hm))))
  (Ge (Kj (Gfi z15 T.xt.xns L (Xh Al) hr (Ga (gw 0 Sc) (Ga (gw 4 Sc) Gc Gb) Gb)))
  (Ge (Hf (Jq hr.units (Gj (gow z15 (Ux Al) hr (Ga (gw 1 Sc) (Ga (gw 3 Sc) Gc Gb) Gb)) (gow z15 (Wj Al) hr (Ga (gw 2 Sc) Gc Gb))) ge_int)
  (Gh (Wz z15 L Al.X_NoBarge hr (Ga Gz Gc Gg)))
  Gu)
  (Ge (gsew 5 Sc (gow z15 (Ks Al) hr (Ga (gw 2 Sc) Gc Gb)))
  (Ge (Hf (Gbu (Jp (gow z15 (Gip Al) hr (Ga (Gj (Gj (gw 0 Sc) ge_int) (gw 5 Sc)) (Ga (Gp (Gp (Gj (Gj (gw 1 Sc) ge_int) (gw 5 Sc)) (Gj (Gj (gw 1 Sc) ge_int) (gw 5 Sc))) ge_int) Gc Hi) Gk))))
  (Gh (Wz z15 L Al.X_NoRoom hr (Ga Gz Gc Gg)))
  Gu)
  (Gh (Kj (Gfi z15 T.xt.xns L (Gaw Al) hr (Ga (gw 0 Sc) (Ga (Gj (gw 1 Sc) ge_int) (Ga (gw 4 Sc) Gc Gb) Gk) Gb)))))))))
def Ud:Sv:=(sq (sx (cl 2 (gX ys Qj) (ac (vr 0) (ac (vr 2) an))))
  (sq (spar 3 4 (ac (o2 getD (vr 0) (cn (.int 0))) (ac (o2 getD (vr 1) (cn (.int 0))) an)))
  (sq (sa (cl 2 (Go Xg) (ac (vr 0) (ac (vr 2) an))) (gn 5))
  (sq (sa (cl 2 (Go Ze) (ac (vr 0) (ac (vr 2) an))) (gn 6))
  (sq (sif (tt (cl 2 (Go Gb2) (ac (o2 getD (vr 3) (vr 5)) (ac (o2 getD (vr 4) (vr 5)) an))))
  (srs "Dry" (ac (cn (.str "the higher place has no lockful")) an))
  skip)
  (sif (tt (cl 2 (Go Xr) (ac (o2 getD (vr 3) (vr 6)) (ac (o2 getD (vr 4) (vr 6)) an))))
  (srs "Full" (ac (cn (.str "the lower place takes no lockful")) an))
  skip))))))
def Ue:Fn:=fnB 7 Ud
theorem Gen:FnS ["canal","stand","gate","places","levels","high","low"] ["canal","stand","gate"] (Gf Vq):=kdF
abbrev z16:=Gf Vq
theorem Gwr:OkC z16 "levels":=⟨by decide +kernel⟩
theorem Gws:OkC z16 "places":=⟨by decide +kernel⟩
theorem Gcz(Al:All P w K mg base):CalX P w K mg base "check_let" ["canal","stand","gate"] Ue 4:=by
 have Sc:=Gen
 have T:=Al.t
 refine calxw (b:=Ud) 3 Al.h.h_check_let Al.g Sc rfl fun _ _ _ _ _ _ _ _ hr L=>?_
 conv=>arg 3; whnf
 refine GSs.h ?_
 exact(Ge (Kj (Gfi z16 T.xt.xns L (Xh Al) hr (Ga (gw 0 Sc) (Ga (gw 2 Sc) Gc Gb) Gb)))
  (Ge (Ggm 3 4 rfl Sc.nd rfl rfl (by decide) Gws.h Gwr.h (Ga (Gj (gw 0 Sc) ge_int) (Ga (Gj (gw 1 Sc) ge_int) Gc Gk) Gk) (by rfl))
  (Ge (gsew 5 Sc (gow z16 (Yl Al) hr (Ga (gw 0 Sc) (Ga (gw 2 Sc) Gc Gb) Gb)))
  (Ge (gsew 6 Sc (gow z16 (Zs Al) hr (Ga (gw 0 Sc) (Ga (gw 2 Sc) Gc Gb) Gb)))
  (Ge (Hf (Jp (gow z16 (Ggp Al) hr (Ga (Gj (gw 3 Sc) (gw 5 Sc)) (Ga (Gj (gw 4 Sc) (gw 5 Sc)) Gc Gk) Gk)))
  (Gh (Wz z16 L Al.X_Dry hr (Ga Gz Gc Gg)))
  Gu)
  (Gh (Hf (Jp (gow z16 (Gaj Al) hr (Ga (Gj (gw 3 Sc) (gw 6 Sc)) (Ga (Gj (gw 4 Sc) (gw 6 Sc)) Gc Gk) Gk)))
  (Gh (Wz z16 L Al.X_Full hr (Ga Gz Gc Gg)))
  Gu)))))))
def Qk:Sv:=(sq (spar 3 4 (ac (o2 getD (vr 0) (cn (.int 0))) (ac (o2 getD (vr 1) (cn (.int 0))) an)))
  (sq (sif (to (tn (tb (ch leD ltD (cn (.int 0)) (vr 2) (b1 Jf (ac (vr 3) an))))) (tn (tt (cl 1 (Go Qi) (ac (o2 getD (vr 3) (vr 2)) an)))))
  (srs "NoSpring" (ac (cn (.str "there is no spring at this place")) an))
  skip)
  (sif (tt (cl 2 (Go Xr) (ac (o2 getD (vr 3) (vr 2)) (ac (o2 getD (vr 4) (vr 2)) an))))
  (srs "Full" (ac (cn (.str "the pound is at its brim")) an))
  skip)))
def Ql:Fn:=fnB 5 Qk
theorem Gc0:FnS ["canal","stand","number","places","levels"] ["canal","stand","number"] (Gf Uu):=kdF
abbrev z17:=Gf Uu
theorem Gwt:OkC z17 "levels":=⟨by decide +kernel⟩
theorem Gwu:OkC z17 "places":=⟨by decide +kernel⟩
theorem Gb7(Al:All P w K mg base):CalX P w K mg base "check_feed" ["canal","stand","number"] Ql 3:=by
 have Sc:=Gc0
 have T:=Al.t
 refine calxw (b:=Qk) 2 Al.h.h_check_feed Al.g Sc rfl fun _ _ _ _ _ _ _ _ hr L=>?_
 conv=>arg 3; whnf
 refine GSs.h ?_
 exact(Ge (Ggm 3 4 rfl Sc.nd rfl rfl (by decide) Gwu.h Gwt.h (Ga (Gj (gw 0 Sc) ge_int) (Ga (Gj (gw 1 Sc) ge_int) Gc Gk) Gk) (by rfl))
  (Ge (Hf (GW.jt (Gah (Gbu (Gfg Gi8 Gpw Gg6 Gpv ge_int (gw 2 Sc) (Jg (gG z17) T.b_len (Ga (gw 3 Sc) Gc Gb)))) (Wy (Gbu (Jp (gow z17 (Gb0 Al) hr (Ga (Gj (gw 3 Sc) (gw 2 Sc)) Gc Gk)))))))
  (Gh (Wz z17 L Al.X_NoSpring hr (Ga Gz Gc Gg)))
  Gu)
  (Gh (Hf (Jp (gow z17 (Gaj Al) hr (Ga (Gj (gw 3 Sc) (gw 2 Sc)) (Ga (Gj (gw 4 Sc) (gw 2 Sc)) Gc Gk) Gk)))
  (Gh (Wz z17 L Al.X_Full hr (Ga Gz Gc Gg)))
  Gu))))
def Ghk:Sv:=(sq (sa (o2 getD (vr 1) (cn (.int 0))) (gn 2))
  (sq (sa (cl 3 (Go Jb) (ac (cl 2 (Go Uc) (ac (vr 0) (ac (vr 2) an))) (ac (cl 1 (Go Uy) (ac (vr 1) an)) (ac (o1 Ggk (cn (.int 1))) an)))) (gn 3))
  (sret (cl 3 (Go Yb) (ac (vr 0) (ac (vr 2) (ac (cl 3 (Go Jb) (ac (vr 3) (ac (cl 1 (Go Kl) (ac (vr 1) an)) (ac (cn (.int 1)) an)))) an)))))))
def Ghl:Fn:=fnB 4 Ghk
theorem Gk4:FnS ["stand","deed","word","row"] ["stand","deed"] (Gf Gby):=kdF
abbrev z18:=Gf Gby
theorem Gir(Al:All P w K mg base):Cal P w K mg base "moved" ["stand","deed"] Ghl 2:=by
 have Sc:=Gk4
 refine calw (b:=Ghk) 1 Al.h.h_moved Al.g Sc rfl fun _ _ _ _ _ _ _ hr=>?_
 conv=>arg 3; whnf
 refine GSs.h ?_
 exact(Ge (gsew 2 Sc (Gj (gw 1 Sc) ge_int))
  (Ge (gsew 3 Sc (gow z18 (Jm Al) hr (Ga (gow z18 (Ux Al) hr (Ga (gw 0 Sc) (Ga (gw 2 Sc) Gc Gb) Gb)) (Ga (gow z18 (Wj Al) hr (Ga (gw 1 Sc) Gc Gb)) (Ga (Ggl ge_int) Gc Gbo) Hx) Hx)))
  (Gh (Gn (gow z18 (Gau Al) hr (Ga (gw 0 Sc) (Ga (gw 2 Sc) (Ga (gow z18 (Jm Al) hr (Ga (gw 3 Sc) (Ga (gow z18 (Ks Al) hr (Ga (gw 1 Sc) Gc Gb)) (Ga ge_int Gc Gg) Hx) Gb)) Gc Hx) Gb) Gb))))))
def Vy:Sv:=(sq (sif (tb (o2 eqD (o2 getD (o2 getD (vr 0) (cn (.int 0))) (vr 2)) (cn c_END)))
  (sret (vr 1))
  skip)
  (sret (cl 3 (Go Jb) (ac (vr 1) (ac (vr 2) (ac (vr 3) an))))))
def Km:Fn:=fnB 4 Vy
theorem Gc1:FnS ["canal","levels","place","many"] ["canal","levels","place","many"] (Gf Uv):=kdF
abbrev z19:=Gf Uv
theorem Xj(Al:All P w K mg base):Cal P w K mg base "with_water" ["canal","levels","place","many"] Km 2:=by
 have Sc:=Gc1
 have T:=Al.t
 refine calw (b:=Vy) 1 Al.h.h_with_water Al.g Sc rfl fun _ _ _ _ _ _ _ hr=>?_
 conv=>arg 3; whnf
 refine GSs.h ?_
 exact(Ge (Hf (Jq hr.units (Gj (Gj (gw 0 Sc) ge_int) (gw 2 Sc)) (T.c_END (gG z19)))
  (Gh (Gn (gw 1 Sc)))
  Gu)
  (Gh (Gn (gow z19 (Jm Al) hr (Ga (gw 1 Sc) (Ga (gw 2 Sc) (Ga (gw 3 Sc) Gc Gb) Gb) Gb)))))
def Ym:Sv:=(sq (sa (vr 1) (gt (gcons (gn 3) (gcons (gn 4) (gcons (gn 5) gnil))) 3))
  (sq (sa (cl 4 (Go Km) (ac (vr 0) (ac (vr 3) (ac (cl 2 (Go Xg) (ac (vr 0) (ac (vr 2) an))) (ac (o1 Ggk (cn (.int 1))) an))))) (gn 3))
  (sq (sa (cl 4 (Go Km) (ac (vr 0) (ac (vr 3) (ac (cl 2 (Go Ze) (ac (vr 0) (ac (vr 2) an))) (ac (cn (.int 1)) an))))) (gn 3))
  (sret (tp (ac (vr 3) (ac (vr 4) (ac (vr 5) an))))))))
def Vz:Fn:=fnB 6 Ym
theorem Gfn:FnS ["canal","stand","gate","levels","rights","lefts"] ["canal","stand","gate"] (Gf Xd):=kdF
abbrev z20:=Gf Xd
theorem Geo(Al:All P w K mg base):Cal P w K mg base "let_down" ["canal","stand","gate"] Vz 3:=by
 have Sc:=Gfn
 refine calw (b:=Ym) 2 Al.h.h_let_down Al.g Sc rfl fun _ _ _ _ _ _ _ hr=>?_
 conv=>arg 3; whnf
 refine GSs.h ?_
 exact(Ge (Ki (gw 1 Sc) (Jc rfl (Gi (ggw 3 Sc) (Gi (ggw 4 Sc) (Gi (ggw 5 Sc) Hm)))))
  (Ge (gsew 3 Sc (gow z20 (Xj Al) hr (Ga (gw 0 Sc) (Ga (gw 3 Sc) (Ga (gow z20 (Yl Al) hr (Ga (gw 0 Sc) (Ga (gw 2 Sc) Gc Gb) Gb)) (Ga (Ggl ge_int) Gc Gbo) Hx) Gb) Gb)))
  (Ge (gsew 3 Sc (gow z20 (Xj Al) hr (Ga (gw 0 Sc) (Ga (gw 3 Sc) (Ga (gow z20 (Zs Al) hr (Ga (gw 0 Sc) (Ga (gw 2 Sc) Gc Gb) Gb)) (Ga ge_int Gc Gg) Hx) Gb) Gb)))
  (Gh (Gn (Gq (Ga (gw 3 Sc) (Ga (gw 4 Sc) (Ga (gw 5 Sc) Gc Gb) Gb) Gb)))))))
def Xk:Sv:=(sret (o2 eqD (cl 1 (Go Kl) (ac (vr 1) an)) (ie (tb (o2 eqD (o2 getD (vr 1) (cn (.int 0))) (cn (.str "right")))) (o2 Yr (b1 Jf (ac (o2 getD (vr 0) (cn (.int 0))) an)) (cn (.int 1))) (cn (.int 0)))))
def Xl:Fn:=fnB 2 Xk
theorem Gax:FnS ["canal","deed"] ["canal","deed"] (Gf Qe):=kdF
abbrev z21:=Gf Qe
theorem Zt(Al:All P w K mg base):Cal P w K mg base "is_last_move" ["canal","deed"] Xl 2:=by
 have Sc:=Gax
 have T:=Al.t
 refine calw (b:=Xk) 1 Al.h.h_is_last_move Al.g Sc rfl fun _ _ _ _ _ _ _ hr=>?_
 conv=>arg 3; whnf
 refine GSs.h ?_
 exact(Gh (Gn (Xx hr.units (gow z21 (Ks Al) hr (Ga (gw 1 Sc) Gc Gb)) (Qq (Jq hr.units (Gj (gw 1 Sc) ge_int) Gz) (Wv (Jg (gG z21) T.b_len (Ga (Gj (gw 0 Sc) ge_int) Gc Gk)) ge_int) ge_int))))
def Jj:Sv:=(sq (sa (vr 2) (gt (gcons (gn 3) (gcons (gn 4) gnil)) 2))
  (sq (sif (tb (o2 eqD (vr 3) (cn (.str "let"))))
  (sq (sx (cl 3 (gX ys Ue) (ac (vr 0) (ac (vr 1) (ac (vr 4) an)))))
  (sret (tp (ac (cl 3 (Go Vz) (ac (vr 0) (ac (vr 1) (ac (vr 4) an)))) (ac (cn (.int 0)) (ac (cn (.int 0)) an))))))
  skip)
  (sq (sif (tb (o2 eqD (vr 3) (cn (.str "feed"))))
  (sq (sx (cl 3 (gX ys Ql) (ac (vr 0) (ac (vr 1) (ac (vr 4) an)))))
  (sq (sa (vr 1) (gt (gcons (gn 5) (gcons (gn 6) (gcons (gn 7) gnil))) 3))
  (sret (tp (ac (tp (ac (cl 3 (Go Jb) (ac (vr 5) (ac (vr 4) (ac (cn (.int 1)) an)))) (ac (vr 6) (ac (vr 7) an)))) (ac (o2 getD (o2 getD (o2 getD (vr 0) (cn (.int 0))) (vr 4)) (cn (.int 4))) (ac (cn (.int 0)) an)))))))
  skip)
  (sq (sx (cl 3 (gX ys Zg) (ac (vr 0) (ac (vr 1) (ac (vr 2) an)))))
  (sret (tp (ac (cl 2 (Go Ghl) (ac (vr 1) (ac (vr 2) an))) (ac (cn (.int 0)) (ac (ie (tt (cl 2 (Go Xl) (ac (vr 0) (ac (vr 2) an)))) (cn (.int 1)) (cn (.int 0))) an)))))))))
def Ke:Fn:=fnB 8 Jj
theorem Gep:FnS ["canal","stand","deed","word","number","levels","rights","lefts"] ["canal","stand","deed"] (Gf Vr):=kdF
abbrev z22:=Gf Vr
theorem Gc2(Al:All P w K mg base):CalX P w K mg base "deed_done" ["canal","stand","deed"] Ke 5:=by
 have Sc:=Gep
 have T:=Al.t
 refine calxw (b:=Jj) 4 Al.h.h_deed_done Al.g Sc rfl fun _ _ _ _ _ _ _ _ hr L=>?_
 conv=>arg 3; whnf
 refine GSs.h ?_
 exact(Ge (Ki (gw 2 Sc) (Jc rfl (Gi (ggw 3 Sc) (Gi (ggw 4 Sc) Hm))))
  (Ge (Hf (Jq hr.units (gw 3 Sc) Gz)
  (Ge (Kj (Gfi z22 T.xt.xns L (Gcz Al) hr (Ga (gw 0 Sc) (Ga (gw 1 Sc) (Ga (gw 4 Sc) Gc Gb) Gb) Gb)))
  (Gh (Gn (Gq (Ga (gow z22 (Geo Al) hr (Ga (gw 0 Sc) (Ga (gw 1 Sc) (Ga (gw 4 Sc) Gc Gb) Gb) Gb)) (Ga ge_int (Ga ge_int Gc Gg) Gg) Hx)))))
  Gu)
  (Ge (Hf (Jq hr.units (gw 3 Sc) Gz)
  (Ge (Kj (Gfi z22 T.xt.xns L (Gb7 Al) hr (Ga (gw 0 Sc) (Ga (gw 1 Sc) (Ga (gw 4 Sc) Gc Gb) Gb) Gb)))
  (Ge (Ki (gw 1 Sc) (Jc rfl (Gi (ggw 5 Sc) (Gi (ggw 6 Sc) (Gi (ggw 7 Sc) Hm)))))
  (Gh (Gn (Gq (Ga (Gq (Ga (gow z22 (Jm Al) hr (Ga (gw 5 Sc) (Ga (gw 4 Sc) (Ga ge_int Gc Gg) Gb) Gb)) (Ga (gw 6 Sc) (Ga (gw 7 Sc) Gc Gb) Gb) Hx)) (Ga (Gj (Gj (Gj (gw 0 Sc) ge_int) (gw 4 Sc)) ge_int) (Ga ge_int Gc Gg) Gk) Gv))))))
  Gu)
  (Ge (Kj (Gfi z22 T.xt.xns L (Gb6 Al) hr (Ga (gw 0 Sc) (Ga (gw 1 Sc) (Ga (gw 2 Sc) Gc Gb) Gb) Gb)))
  (Gh (Gn (Gq (Ga (gow z22 (Gir Al) hr (Ga (gw 1 Sc) (Ga (gw 2 Sc) Gc Gb) Gb)) (Ga ge_int (Ga (Qq (Jp (gow z22 (Zt Al) hr (Ga (gw 0 Sc) (Ga (gw 2 Sc) Gc Gb) Gb))) ge_int ge_int) Gc Gj9) Gg) Hx))))))))
def Ug:Sv:=(sq (sa (vr 1) (gt (gcons (gn 2) (gcons (gn 3) (gcons (gn 4) gnil))) 3))
  (sq (sif (tb (o2 eqD (vr 2) (cn (.str "least"))))
  (sret (o2 geD (o2 getD (o2 getD (vr 0) (cn (.int 0))) (vr 3)) (vr 4)))
  skip)
  (sq (sif (tb (o2 eqD (vr 2) (cn (.str "most"))))
  (sret (o2 leD (o2 getD (o2 getD (vr 0) (cn (.int 0))) (vr 3)) (vr 4)))
  skip)
  (sret (o2 geD (o2 getD (cl 2 (Go Uc) (ac (vr 0) (ac (vr 2) an))) (vr 3)) (vr 4))))))
def Hb:Fn:=fnB 5 Ug
theorem Geq:FnS ["stand","ask","word","place","number"] ["stand","ask"] (Gf Vs):=kdF
abbrev z23:=Gf Vs
theorem Gc3(Al:All P w K mg base):Cal P w K mg base "ask_holds" ["stand","ask"] Hb 2:=by
 have Sc:=Geq
 refine calw (b:=Ug) 1 Al.h.h_ask_holds Al.g Sc rfl fun _ _ _ _ _ _ _ hr=>?_
 conv=>arg 3; whnf
 refine GSs.h ?_
 exact(Ge (Ki (gw 1 Sc) (Jc rfl (Gi (ggw 2 Sc) (Gi (ggw 3 Sc) (Gi (ggw 4 Sc) Hm)))))
  (Ge (Hf (Jq hr.units (gw 2 Sc) Gz)
  (Gh (Gn (Gks (Gj (Gj (gw 0 Sc) ge_int) (gw 3 Sc)) (gw 4 Sc))))
  Gu)
  (Ge (Hf (Jq hr.units (gw 2 Sc) Gz)
  (Gh (Gn (Gp2 (Gj (Gj (gw 0 Sc) ge_int) (gw 3 Sc)) (gw 4 Sc))))
  Gu)
  (Gh (Gn (Gks (Gj (gow z23 (Ux Al) hr (Ga (gw 0 Sc) (Ga (gw 2 Sc) Gc Gb) Gb)) (gw 3 Sc)) (gw 4 Sc)))))))
def Qw:Sv:=(sq (sa (vr 0) (gt (gcons (gn 1) (gcons (gn 2) (gcons (gn 3) gnil))) 3))
  (sret (tp (ac (vr 1) (ac (o2 Gx (sl2 (vr 2) onone (osome (o1 Ggk (cn (.int 1))))) (tp (ac (cn (.int 0)) an))) (ac (o2 Gx (tp (ac (cn (.int 0)) an)) (sl2 (vr 3) (osome (cn (.int 1))) onone)) an))))))
def Kn:Fn:=fnB 4 Qw
theorem Gay:FnS ["stand","levels","rights","lefts"] ["stand"] (Gf Wi):=kdF
theorem Zu(Al:All P w K mg base):Cal P w K mg base "without_gone" ["stand"] Kn 1:=by
 have Sc:=Gay
 refine calw (b:=Qw) 0 Al.h.h_without_gone Al.g Sc rfl fun _ _ _ _ _ _ _ hr=>?_
 conv=>arg 3; whnf
 refine GSs.h ?_
 exact(Ge (Ki (gw 0 Sc) (Jc rfl (Gi (ggw 1 Sc) (Gi (ggw 2 Sc) (Gi (ggw 3 Sc) Hm)))))
  (Gh (Gn (Gq (Ga (gw 1 Sc) (Ga (Gp (Kr (gw 2 Sc) Vm (Vn (Ggl ge_int))) (Gq (Ga ge_int Gc Gg))) (Ga (Gp (Gq (Ga ge_int Gc Gg)) (Kr (gw 3 Sc) (Vn ge_int) Vm)) Gc Hi) Hi) Gb)))))
def Uz:Sv:=(sq (sa (vr 0) (gt (gcons (gn 3) (gcons (gn 4) (gcons (gn 5) gnil))) 3))
  (sq (sa (o2 Yr (b1 Jf (ac (vr 5) an)) (cn (.int 1))) (gn 6))
  (sq (sa (cn (.int 0)) (gn 7))
  (sq (sif (ta (tb (o2 inP (vr 2) (cn c_RIGHT_COMES))) (tb (o2 ltD (o2 getD (vr 4) (cn (.int 0))) (vr 1))))
  (sa (cl 3 (Go Jb) (ac (vr 4) (ac (cn (.int 0)) (ac (cn (.int 1)) an)))) (gn 4))
  (sif (tb (o2 inP (vr 2) (cn c_RIGHT_COMES)))
  (sag 7 (fun a b=>a+b) (cn (.int 1)))
  skip))
  (sq (sif (ta (tb (o2 inP (vr 2) (cn c_LEFT_COMES))) (tb (o2 ltD (o2 getD (vr 5) (vr 6)) (vr 1))))
  (sa (cl 3 (Go Jb) (ac (vr 5) (ac (vr 6) (ac (cn (.int 1)) an)))) (gn 5))
  (sif (tb (o2 inP (vr 2) (cn c_LEFT_COMES)))
  (sag 7 (fun a b=>a+b) (cn (.int 1)))
  skip))
  (sret (tp (ac (tp (ac (vr 3) (ac (vr 4) (ac (vr 5) an)))) (ac (vr 7) an)))))))))
def Jn:Fn:=fnB 8 Uz
theorem Gb8:FnS ["stand","crowd","coming","levels","rights","lefts","last","turned"] ["stand","crowd","coming"] (Gf Qs):=kdF
abbrev z25:=Gf Qs
theorem Gaz(Al:All P w K mg base):Cal P w K mg base "with_comers" ["stand","crowd","coming"] Jn 2:=by
 have Sc:=Gb8
 have T:=Al.t
 refine calw (b:=Uz) 1 Al.h.h_with_comers Al.g Sc rfl fun _ _ _ _ _ _ _ hr=>?_
 conv=>arg 3; whnf
 refine GSs.h ?_
 exact(Ge (Ki (gw 0 Sc) (Jc rfl (Gi (ggw 3 Sc) (Gi (ggw 4 Sc) (Gi (ggw 5 Sc) Hm)))))
  (Ge (gsew 6 Sc (Wv (Jg (gG z25) T.b_len (Ga (gw 5 Sc) Gc Gb)) ge_int))
  (Ge (gsew 7 Sc ge_int)
  (Ge (Hf (GW.jt (Gbv (Gef hr (gw 2 Sc) (T.c_RIGHT_COMES (gG z25))) (Yw (Gkt (Gj (gw 4 Sc) ge_int) (gw 1 Sc)))))
  (Gh (gsew 4 Sc (gow z25 (Jm Al) hr (Ga (gw 4 Sc) (Ga ge_int (Ga ge_int Gc Gg) Gg) Gb))))
  (Gh (Hf (Gef hr (gw 2 Sc) (T.c_RIGHT_COMES (gG z25)))
  (Gh (gsiw 7 Sc ge_int))
  Gu)))
  (Ge (Hf (GW.jt (Gbv (Gef hr (gw 2 Sc) (T.c_LEFT_COMES (gG z25))) (Yw (Gkt (Gj (gw 5 Sc) (gw 6 Sc)) (gw 1 Sc)))))
  (Gh (gsew 5 Sc (gow z25 (Jm Al) hr (Ga (gw 5 Sc) (Ga (gw 6 Sc) (Ga ge_int Gc Gg) Gb) Gb))))
  (Gh (Hf (Gef hr (gw 2 Sc) (T.c_LEFT_COMES (gG z25)))
  (Gh (gsiw 7 Sc ge_int))
  Gu)))
  (Gh (Gn (Gq (Ga (Gq (Ga (gw 3 Sc) (Ga (gw 4 Sc) (Ga (gw 5 Sc) Gc Gb) Gb) Gb)) (Ga (gw 7 Sc) Gc Gb) Gv)))))))))
def Zv:Sv:=(sa (cl 3 (gX ys Ke) (ac (vr 0) (ac (vr 5) (ac (vr 8) an)))) (gt (gcons (gn 9) (gcons (gn 10) (gcons (gn 11) gnil))) 3))
def Gdq:Sv:=sct
def Gy:Sv:=(sq (sif (tn (tt (b1 Gar (ac (cmp (isrc (vr 7)) [none,some 5] (gn 0) ttrue (cl 2 (Go Hb) (ac (vr 1) (ac (vr 0) an)))) an))))
  sct
  skip)
  (sq (Wg ys (Gfe Gdq) Zv)
  (sret (tp (ac (cl 1 (Go Kn) (ac (vr 9) an)) (ac (vr 8) (ac (vr 10) (ac (vr 11) (ac (vr 6) an)))))))))
def Ggr:Sv:=(sq (sa (cl 3 (Go Jn) (ac (vr 3) (ac (vr 2) (ac (vr 4) an)))) (gt (gcons (gn 5) (gcons (gn 6) gnil)) 2))
  (sq (sfor (isrc (vr 1)) (gt (gcons (gn 7) (gcons (gn 8) gnil)) 2) Gy)
  (sret (tp (ac (vr 5) (ac (cn .non) (ac (cn (.int 0)) (ac (cn (.int 0)) (ac (vr 6) an)))))))))
def Gb9:Fn:=fnB 12 Ggr
theorem Gok:FnS ["canal","rule","crowd","stand","coming","ahead","turned","asks","deed","behind","price","gain"] ["canal","rule","crowd","stand","coming"] (Gf Gek):=kdF
abbrev z26:=Gf Gek
theorem Gc4:Hk "SummitError"=true:=by decide +kernel
theorem Gk5(Al:All P w K mg base):Cal P w K mg base "hour" ["canal","rule","crowd","stand","coming"] Gb9 6:=by
 have Sc:=Gok
 have T:=Al.t
 refine calw (b:=Ggr) 5 Al.h.h_hour Al.g Sc rfl fun _ _ _ _ _ _ _ hr=>?_
 conv=>arg 3; whnf
 refine GSs.h ?_
 exact(Ge (Ki (gow z26 (Gaz Al) hr (Ga (gw 3 Sc) (Ga (gw 2 Sc) (Ga (gw 4 Sc) Gc Gb) Gb) Gb)) (Jc rfl (Gi (ggw 5 Sc) (Gi (ggw 6 Sc) Hm))))
  (Ge (Ggn PassesOwn.never rfl (Vo (gw 1 Sc)) (Jc rfl (Gi (ggw 7 Sc) (Gi (ggw 8 Sc) Hm)))
  (Ge (Hf (Gbu (Jp (Ged rfl (gG z26) T.b_all (Ga (Xy (N':=["ask","ahead"]) (pk:=[none,some 5]) Sc (Vo (gw 7 Sc)) (fun cl s2 H2 C fp=>(Jz 0)) (fun cl s2 H2 C fp=>Kc) (fun cl s2 H2 C fp=>(Gil (Gc3 Al) hr (Ga (Ko 1) (Ga (Ko 0) Gc Gb) Gb)))) Gc Hz))))
  (Gh Gai)
  Gu)
  (Ge (Ghf ⟨rfl,rfl,rfl⟩ T.xt.cat (gG z26) Gc4 (fun pn xe XQ L=>(Gh (Ki (Gfi z26 T.xt.xns L (Gc2 Al) hr (Ga (gw 0 Sc) (Ga (gw 5 Sc) (Ga (gw 8 Sc) Gc Gb) Gb) Gb)) (Jc rfl (Gi (ggw 9 Sc) (Gi (ggw 10 Sc) (Gi (ggw 11 Sc) Hm)))))))
  (fun a=>(Gh Gai)))
  (Gh (Gn (Gq (Ga (gow z26 (Zu Al) hr (Ga (gw 9 Sc) Gc Gb)) (Ga (gw 8 Sc) (Ga (gw 10 Sc) (Ga (gw 11 Sc) (Ga (gw 6 Sc) Gc Gb) Gb) Gb) Gb) Hx)))))))
  (Gh (Gn (Gq (Ga (gw 5 Sc) (Ga Kh (Ga ge_int (Ga ge_int (Ga (gw 6 Sc) Gc Gb) Gg) Gg) Gg) Gb))))))
def Hn:Sv:=(sq (sif (tb (o2 eqD (b1 Jf (ac (vr 8) an)) (vr 5)))
  (srs "TooMany" (ac (cn (.str "lead and ring together are more than the limit")) an))
  skip)
  (sq (ss (b1 Jf (ac (vr 8) an)) (vr 9) (tp (ac (vr 6) (ac (vr 7) an))) Gdo)
  (sq (sa (cl 5 (Go Gb9) (ac (vr 0) (ac (vr 1) (ac (vr 2) (ac (vr 6) (ac (o2 getD (vr 4) (vr 7)) an)))))) (gt (gcons (gn 6) (gcons (gn 10) (gcons (gn 11) (gcons (gn 12) (gcons (gn 13) gnil))))) 5))
  (sq (sx (mt Gbn (vr 8) (ac (tp (ac (vr 11) (ac (vr 12) (ac (vr 13) an)))) an)))
  (sa (o2 Wl (o2 Gx (vr 7) (cn (.int 1))) (b1 Jf (ac (vr 4) an))) (gn 7))))))
def Jd:Ev Bool:=(tb (o2 (Gfm true) (tp (ac (vr 6) (ac (vr 7) an))) (vr 9)))
def Wa:Sv:=(sq (sa (vr 3) (gn 6))
  (sq (sa (cn (.int 0)) (gn 7))
  (sq (sa (ls an) (gn 8))
  (sq (sa dnew (gn 9))
  (sq (whN Jd Hn 3000)
  (sq (sa (o2 Gdn (vr 9) (tp (ac (vr 6) (ac (vr 7) an)))) (gn 14))
  (sq (sa (sl2 (vr 8) (osome (vr 14)) onone) (gn 15))
  (sq (sa (b1 Gas (ac (cmp (isrc (vr 15)) [none,none,none] (gt (gcons (gn 0) (gcons (gn 1) (gcons (gn 2) gnil))) 3) ttrue (vr 0)) an)) (gn 11))
  (sq (sa (b1 Gas (ac (cmp (isrc (vr 15)) [none,none,none] (gt (gcons (gn 0) (gcons (gn 1) (gcons (gn 2) gnil))) 3) ttrue (vr 1)) an)) (gn 12))
  (sq (sa (b1 Gas (ac (cmp (isrc (vr 15)) [none,none,none] (gt (gcons (gn 0) (gcons (gn 1) (gcons (gn 2) gnil))) 3) ttrue (vr 2)) an)) (gn 13))
  (sret (tp (ac (vr 14) (ac (b1 Jf (ac (vr 15) an)) (ac (vr 11) (ac (vr 12) (ac (vr 13) an)))))))))))))))))
def Hl:Fn:=fnB 16 Wa
theorem Gfo:FnS ["canal","rule","crowd","stand","comings","limit","behind","place","hours","firsts","deed","price","gain","turned","lead","ring"] ["canal","rule","crowd","stand","comings","limit"] (Gf Xe):=kdF
abbrev z27:=Gf Xe
theorem Zh(Al:All P w K mg base):CalD P w K mg base "for_ever" ["canal","rule","crowd","stand","comings","limit"] Hl 600 7:=by
 have Sc:=Gfo
 have T:=Al.t
 refine caldw (b:=Wa) 6 Al.h.h_for_ever Al.g Sc rfl (fun _ _ _ _ _ _ _ _ hr L=>?_) (fun s T o t n kV doc pm an cdv ct us hl ho hd=>match us,hl with | [_,_,_,_,_,_],_=>.of_defaults rfl ho hd rfl rfl) (fun s T o t n kV doc pm an cdv ct us hl ho hd=>match us,hl with | [_,_,_,_,_],_=>.of_defaults rfl ho hd rfl rfl)
 conv=>arg 3; whnf
 refine GSs.h ?_
 exact(Ge (gsew 6 Sc (gw 3 Sc))
  (Ge (gsew 7 Sc ge_int)
  (Ge (gsew 8 Sc (Jy Gc))
  (Ge (gsew 9 Sc Gog)
  (Ge (Gfh 3000 L.pas (Gtz hr (Gq (Ga (gw 6 Sc) (Ga (gw 7 Sc) Gc Gb) Gb)) (gw 9 Sc))
  (Ge (Hf (Jq hr.units (Jg (gG z27) T.b_len (Ga (gw 8 Sc) Gc Gb)) (gw 5 Sc))
  (Gh (Wz z27 L Al.X_TooMany hr (Ga Gz Gc Gg)))
  Gu)
  (Ge (Goh hr (Jg (gG z27) T.b_len (Ga (gw 8 Sc) Gc Gb)) (gw 9 Sc) (Gq (Ga (gw 6 Sc) (Ga (gw 7 Sc) Gc Gb) Gb)))
  (Ge (Ki (gow z27 (Gk5 Al) hr (Ga (gw 0 Sc) (Ga (gw 1 Sc) (Ga (gw 2 Sc) (Ga (gw 6 Sc) (Ga (Gj (gw 4 Sc) (gw 7 Sc)) Gc Gk) Gb) Gb) Gb) Gb)) (Jc rfl (Gi (ggw 6 Sc) (Gi (ggw 10 Sc) (Gi (ggw 11 Sc) (Gi (ggw 12 Sc) (Gi (ggw 13 Sc) Hm)))))))
  (Ge (Kj (Vi (gw 8 Sc) (Ga (Gq (Ga (gw 11 Sc) (Ga (gw 12 Sc) (Ga (gw 13 Sc) Gc Gb) Gb) Gb)) Gc Gv)))
  (Gh (gsew 7 Sc (Uo (Gp (gw 7 Sc) ge_int) (Jg (gG z27) T.b_len (Ga (gw 4 Sc) Gc Gb))))))))))
  (Ge (gsew 14 Sc (Goe hr (gw 9 Sc) (Gq (Ga (gw 6 Sc) (Ga (gw 7 Sc) Gc Gb) Gb))))
  (Ge (gsew 15 Sc (Kr (gw 8 Sc) (Vn (gw 14 Sc)) Vm))
  (Ge (gsew 11 Sc (Gee rfl (gG z27) T.b_sum (Ga (Xy (N':=["paid","gained","away"]) (pk:=[none,none,none]) Sc (Vo (gw 15 Sc)) (fun cl s2 H2 C fp=>(Jc rfl (Gi (Jz 0) (Gi (Jz 1) (Gi (Jz 2) Hm))))) (fun cl s2 H2 C fp=>Kc) (fun cl s2 H2 C fp=>(Ko 0))) Gc Hz)))
  (Ge (gsew 12 Sc (Gee rfl (gG z27) T.b_sum (Ga (Xy (N':=["paid","gained","away"]) (pk:=[none,none,none]) Sc (Vo (gw 15 Sc)) (fun cl s2 H2 C fp=>(Jc rfl (Gi (Jz 0) (Gi (Jz 1) (Gi (Jz 2) Hm))))) (fun cl s2 H2 C fp=>Kc) (fun cl s2 H2 C fp=>(Ko 1))) Gc Hz)))
  (Ge (gsew 13 Sc (Gee rfl (gG z27) T.b_sum (Ga (Xy (N':=["paid","gained","away"]) (pk:=[none,none,none]) Sc (Vo (gw 15 Sc)) (fun cl s2 H2 C fp=>(Jc rfl (Gi (Jz 0) (Gi (Jz 1) (Gi (Jz 2) Hm))))) (fun cl s2 H2 C fp=>Kc) (fun cl s2 H2 C fp=>(Ko 2))) Gc Hz)))
  (Gh (Gn (Gq (Ga (gw 14 Sc) (Ga (Jg (gG z27) T.b_len (Ga (gw 15 Sc) Gc Gb)) (Ga (gw 11 Sc) (Ga (gw 12 Sc) (Ga (gw 13 Sc) Gc Gb) Gb) Gb) Hx) Gb))))))))))))))
def Wb:Sv:=(sq (sa (o2 Wl (o2 Je (o2 Gx (o2 Gx (o2 Wl (vr 0) (cn (.int 1000000007))) (o2 Je (cn (.int 40692)) (vr 1))) (cn (.int 1))) (cn (.int 48271))) (cn (.int 2147483647))) (gn 2))
  (sq (sa (o2 Wl (o2 Je (vr 2) (vr 2)) (cn (.int 998244353))) (gn 2))
  (sret (o2 Wf (o2 Wl (o2 Gx (o2 Je (vr 2) (cn (.int 69621))) (o2 Je (cn (.int 7919)) (vr 1))) (cn (.int 1000000007))) (cn (.int 7))))))
def Jl:Fn:=fnB 3 Wb
theorem Gc5:FnS ["cell","turn","stir"] ["cell","turn"] (Gf Xz):=kdF
theorem Xm(Al:All P w K mg base):Cal P w K mg base "_law_mixed" ["cell","turn"] Jl 1:=by
 have Sc:=Gc5
 refine calw (b:=Wb) 0 Al.h.h__law_mixed Al.g Sc rfl fun _ _ _ _ _ _ _ hr=>?_
 conv=>arg 3; whnf
 refine GSs.h ?_
 exact(Ge (gsew 2 Sc (Uo (Jo (Gp (Gp (Uo (gw 0 Sc) ge_int) (Jo ge_int (gw 1 Sc))) ge_int) ge_int) ge_int))
  (Ge (gsew 2 Sc (Uo (Jo (gw 2 Sc) (gw 2 Sc)) ge_int))
  (Gh (Gn (Yu (Uo (Gp (Jo (gw 2 Sc) ge_int) (Jo ge_int (gw 1 Sc))) ge_int) ge_int)))))
def Qx:Sv:=(sa (o2 Wl (o2 Gx (o2 Je (vr 1) (cn (.int 69621))) (vr 2)) (cn (.int 2147483647))) (gn 1))
def Qb:Sv:=(sq (sa (cn (.int 0)) (gn 1))
  (sq (sfor (isrc (sl2 (vr 0) onone (osome (cn (.int 63))))) (gn 2) Qx)
  (sret (ls (ac (b1 Gad (ac (sl2 (vr 0) onone (osome (cn (.int 63)))) an)) (ac (cn (.int 0)) (ac (vr 1) (ac (cn (.int 0)) an))))))))
def Xn:Fn:=fnB 3 Qb
theorem Ger:FnS ["script","seed","cell"] ["script"] (Gf Vt):=kdF
abbrev z29:=Gf Vt
theorem Gc6(Al:All P w K mg base):Cal P w K mg base "_law_tape" ["script"] Xn 1:=by
 have Sc:=Ger
 have T:=Al.t
 refine calw (b:=Qb) 0 Al.h.h__law_tape Al.g Sc rfl fun _ _ _ _ _ _ _ hr=>?_
 conv=>arg 3; whnf
 refine GSs.h ?_
 exact(Ge (gsew 1 Sc ge_int)
  (Ge (Ggn PassesOwn.never rfl (Vo (Kr (gw 0 Sc) Vm (Vn ge_int))) (ggw 2 Sc)
  (Gh (gsew 1 Sc (Uo (Gp (Jo (gw 1 Sc) ge_int) (gw 2 Sc)) ge_int))))
  (Gh (Gn (Jy (Ga (Gn4 (gG z29) T.b_list (Ga (Kr (gw 0 Sc) Vm (Vn ge_int)) Gc Gk)) (Ga ge_int (Ga (gw 1 Sc) (Ga ge_int Gc Gg) Gb) Gg) Hx))))))
def Gal:Sv:=(sq (ss (o2 Gx (o2 getD (vr 0) (cn (.int 3))) (cn (.int 1))) (vr 0) (cn (.int 3)) Xu)
  (sq (sif (ta (tb (o2 eqD (o2 getD (vr 0) (cn (.int 1))) (cn (.int 0)))) (tb (o2 gtD (b1 Jf (ac (o2 getD (vr 0) (cn (.int 0))) an)) (cn (.int 0)))))
  (sq (sa (mt Gfa (o2 getD (vr 0) (cn (.int 0))) (ac (cn (.int 0)) an)) (gn 2))
  (sq (sif (tb (o2 ltD (vr 2) (o2 Ge8 (cn (.int 10)) (cn (.int 18)))))
  (sret (o2 Wl (cl 2 (Go Jl) (ac (vr 2) (ac (o2 getD (vr 0) (cn (.int 3))) an))) (vr 1)))
  skip)
  (ss (vr 2) (vr 0) (cn (.int 1)) Xu)))
  skip)
  (sq (sif (tb (o2 gtD (o2 getD (vr 0) (cn (.int 1))) (cn (.int 0))))
  (sq (sa (o2 Wl (o2 getD (vr 0) (cn (.int 1))) (vr 1)) (gn 3))
  (sq (ss (o2 Wf (o2 getD (vr 0) (cn (.int 1))) (vr 1)) (vr 0) (cn (.int 1)) Xu)
  (sret (vr 3))))
  skip)
  (sret (o2 Wl (cl 2 (Go Jl) (ac (o2 getD (vr 0) (cn (.int 2))) (ac (o2 getD (vr 0) (cn (.int 3))) an))) (vr 1))))))
def Gw:Fn:=fnB 4 Gal
theorem Ges:FnS ["tape","many","cell","found"] ["tape","many"] (Gf Vu):=kdF
abbrev z30:=Gf Vu
theorem Hd(Al:All P w K mg base):Cal P w K mg base "_law_take" ["tape","many"] Gw 2:=by
 have Sc:=Ges
 have T:=Al.t
 refine calw (b:=Gal) 1 Al.h.h__law_take Al.g Sc rfl fun _ _ _ _ _ _ _ hr=>?_
 conv=>arg 3; whnf
 refine GSs.h ?_
 exact(Ge (Yx (Gp (Gj (gw 0 Sc) ge_int) ge_int) (gw 0 Sc) ge_int)
  (Ge (Hf (GW.jt (Gbv (Jq hr.units (Gj (gw 0 Sc) ge_int) ge_int) (Yw (Gff (Jg (gG z30) T.b_len (Ga (Gj (gw 0 Sc) ge_int) Gc Gk)) ge_int))))
  (Ge (gsew 2 Sc (Gtr (Gj (gw 0 Sc) ge_int) (Ga ge_int Gc Gg)))
  (Ge (Hf (Gkt (gw 2 Sc) (Gtn ge_int ge_int))
  (Gh (Gn (Uo (gow z30 (Xm Al) hr (Ga (gw 2 Sc) (Ga (Gj (gw 0 Sc) ge_int) Gc Gk) Gb)) (gw 1 Sc))))
  Gu)
  (Gh (Yx (gw 2 Sc) (gw 0 Sc) ge_int))))
  Gu)
  (Ge (Hf (Gff (Gj (gw 0 Sc) ge_int) ge_int)
  (Ge (gsew 3 Sc (Uo (Gj (gw 0 Sc) ge_int) (gw 1 Sc)))
  (Ge (Yx (Yu (Gj (gw 0 Sc) ge_int) (gw 1 Sc)) (gw 0 Sc) ge_int)
  (Gh (Gn (gw 3 Sc)))))
  Gu)
  (Gh (Gn (Uo (gow z30 (Xm Al) hr (Ga (Gj (gw 0 Sc) ge_int) (Ga (Gj (gw 0 Sc) ge_int) Gc Gk) Gk)) (gw 1 Sc)))))))
def Va:Sv:=(sret (va (o1 (isD "int") (vr 0)) (vn (o1 (isD "bool") (vr 0)))))
def Kv:Fn:=fnB 1 Va
theorem Gca:FnS ["found"] ["found"] (Gf Qt):=kdF
abbrev z31:=Gf Qt
theorem Qf(Al:All P w K mg base):Cal P w K mg base "_law_number" ["found"] Kv 1:=by
 have Sc:=Gca
 have T:=Al.t
 refine calw (b:=Va) 0 Al.h.h__law_number Al.g Sc rfl fun _ _ _ _ _ _ _ hr=>?_
 conv=>arg 3; whnf
 refine GSs.h ?_
 exact(Gh (Gn (Qo (Ho (gG z31) (gG z31) Gnk T.b_isinstance T.b_int (gw 0 Sc)) (Qp (Gto (Ho (gG z31) (gG z31) Gj7 T.b_isinstance T.b_bool (gw 0 Sc)))))))
def Hq(fr:Fn):Sv:=(sq (sif (to (tt (o1 (isD "tuple") (vr 1))) (tt (o1 (isD "list") (vr 1))))
  (sq (sif (to (tb (o2 neD (o1 (isD "tuple") (vr 0)) (o1 (isD "tuple") (vr 1)))) (tb (o2 neD (o1 (isD "list") (vr 0)) (o1 (isD "list") (vr 1)))))
  (sret (cn (.bl false)))
  skip)
  (sq (sif (tb (o2 neD (b1 Jf (ac (vr 0) an)) (b1 Jf (ac (vr 1) an))))
  (sret (cn (.bl false)))
  skip)
  (sret (b1 Gar (ac (cmp (Ghh (ac (vr 0) (ac (vr 1) an))) [none,none] (gt (gcons (gn 0) (gcons (gn 1) gnil)) 2) ttrue (cl 2 (Go fr) (ac (vr 0) (ac (vr 1) an)))) an)))))
  skip)
  (sq (sif (tb (o2 Vh (vr 1) (cn .non)))
  (sret (o2 Vh (vr 0) (cn .non)))
  skip)
  (sq (sif (tt (o1 (isD "str") (vr 1)))
  (sret (va (o1 (isD "str") (vr 0)) (o2 eqD (vr 0) (vr 1))))
  skip)
  (sret (va (cl 1 (Go Kv) (ac (vr 0) an)) (o2 eqD (vr 0) (vr 1)))))))
def Kw:Fn:=fun _ _=>.bad
def Vb:Fn:=fnB 2 (Hq Kw)
def Vc:Fn:=fnB 2 (Hq Vb)
def Yf:Fn:=fnB 2 (Hq Vc)
def Uh:Fn:=Yf
theorem Wc:FnS ["found","due"] ["found","due"] (Gf Vv):=kdF
abbrev z32:=Gf Vv
theorem Ga0(Al:All P w K mg base):Cal P w K mg base "_law_same" ["found","due"] Kw 2:=let ⟨_,X,G⟩:=Al.g; Gnq (Al.h.h__law_same.dn X G fun _ _ _ _ _ _ us hl=>match us,hl with | [_,_],_=>rfl)
theorem Ga1(Al:All P w K mg base):Cal P w K mg base "_law_same" ["found","due"] Vb 3:=by
 have Sc:=Wc
 have T:=Al.t
 have C_REC:=Ga0 Al
 refine calw (b:=Hq Kw) 2 Al.h.h__law_same Al.g Sc rfl fun _ _ _ _ _ _ _ hr=>?_
 conv=>arg 3; whnf
 refine GSs.h ?_
 exact(Ge (Hf (GW.jt (Gah (Jp (Ho (gG z32) (gG z32) Js T.b_isinstance T.b_tuple (gw 1 Sc))) (Wy (Jp (Ho (gG z32) (gG z32) Kg T.b_isinstance T.b_list (gw 1 Sc))))))
  (Ge (Hf (GW.jt (Gah (Yv hr.units (Ho (gG z32) (gG z32) Js T.b_isinstance T.b_tuple (gw 0 Sc)) (Ho (gG z32) (gG z32) Js T.b_isinstance T.b_tuple (gw 1 Sc))) (Wy (Yv hr.units (Ho (gG z32) (gG z32) Kg T.b_isinstance T.b_list (gw 0 Sc)) (Ho (gG z32) (gG z32) Kg T.b_isinstance T.b_list (gw 1 Sc))))))
  (Gh (Gn Gbs))
  Gu)
  (Ge (Hf (Yv hr.units (Jg (gG z32) T.b_len (Ga (gw 0 Sc) Gc Gb)) (Jg (gG z32) T.b_len (Ga (gw 1 Sc) Gc Gb)))
  (Gh (Gn Gbs))
  Gu)
  (Gh (Gn (Ged rfl (gG z32) T.b_all (Ga (Xy (N':=["one","other"]) (pk:=[none,none]) Sc (Geg (gG z32) T.b_zip (Ga (gw 0 Sc) (Ga (gw 1 Sc) Gc Gb) Gb)) (fun cl s2 H2 C fp=>(Jc rfl (Gi (Jz 0) (Gi (Jz 1) Hm)))) (fun cl s2 H2 C fp=>Kc) (fun cl s2 H2 C fp=>(Gil C_REC hr (Ga (Ko 0) (Ga (Ko 1) Gc Gb) Gb)))) Gc Hz))))))
  Gu)
  (Ge (Hf (Gbt (gw 1 Sc) Kh)
  (Gh (Gn (Gec (gw 0 Sc) Kh)))
  Gu)
  (Ge (Hf (Jp (Ho (gG z32) (gG z32) Xp T.b_isinstance T.b_str (gw 1 Sc)))
  (Gh (Gn (Qo (Ho (gG z32) (gG z32) Xp T.b_isinstance T.b_str (gw 0 Sc)) (Qp (Xx hr.units (gw 0 Sc) (gw 1 Sc))))))
  Gu)
  (Gh (Gn (Qo (gow z32 (Qf Al) hr (Ga (gw 0 Sc) Gc Gb)) (Qp (Xx hr.units (gw 0 Sc) (gw 1 Sc)))))))))
theorem Ga2(Al:All P w K mg base):Cal P w K mg base "_law_same" ["found","due"] Vc 4:=by
 have Sc:=Wc
 have T:=Al.t
 have C_REC:=Ga1 Al
 refine calw (b:=Hq Vb) 3 Al.h.h__law_same Al.g Sc rfl fun _ _ _ _ _ _ _ hr=>?_
 conv=>arg 3; whnf
 refine GSs.h ?_
 exact(Ge (Hf (GW.jt (Gah (Jp (Ho (gG z32) (gG z32) Js T.b_isinstance T.b_tuple (gw 1 Sc))) (Wy (Jp (Ho (gG z32) (gG z32) Kg T.b_isinstance T.b_list (gw 1 Sc))))))
  (Ge (Hf (GW.jt (Gah (Yv hr.units (Ho (gG z32) (gG z32) Js T.b_isinstance T.b_tuple (gw 0 Sc)) (Ho (gG z32) (gG z32) Js T.b_isinstance T.b_tuple (gw 1 Sc))) (Wy (Yv hr.units (Ho (gG z32) (gG z32) Kg T.b_isinstance T.b_list (gw 0 Sc)) (Ho (gG z32) (gG z32) Kg T.b_isinstance T.b_list (gw 1 Sc))))))
  (Gh (Gn Gbs))
  Gu)
  (Ge (Hf (Yv hr.units (Jg (gG z32) T.b_len (Ga (gw 0 Sc) Gc Gb)) (Jg (gG z32) T.b_len (Ga (gw 1 Sc) Gc Gb)))
  (Gh (Gn Gbs))
  Gu)
  (Gh (Gn (Ged rfl (gG z32) T.b_all (Ga (Xy (N':=["one","other"]) (pk:=[none,none]) Sc (Geg (gG z32) T.b_zip (Ga (gw 0 Sc) (Ga (gw 1 Sc) Gc Gb) Gb)) (fun cl s2 H2 C fp=>(Jc rfl (Gi (Jz 0) (Gi (Jz 1) Hm)))) (fun cl s2 H2 C fp=>Kc) (fun cl s2 H2 C fp=>(Gil C_REC hr (Ga (Ko 0) (Ga (Ko 1) Gc Gb) Gb)))) Gc Hz))))))
  Gu)
  (Ge (Hf (Gbt (gw 1 Sc) Kh)
  (Gh (Gn (Gec (gw 0 Sc) Kh)))
  Gu)
  (Ge (Hf (Jp (Ho (gG z32) (gG z32) Xp T.b_isinstance T.b_str (gw 1 Sc)))
  (Gh (Gn (Qo (Ho (gG z32) (gG z32) Xp T.b_isinstance T.b_str (gw 0 Sc)) (Qp (Xx hr.units (gw 0 Sc) (gw 1 Sc))))))
  Gu)
  (Gh (Gn (Qo (gow z32 (Qf Al) hr (Ga (gw 0 Sc) Gc Gb)) (Qp (Xx hr.units (gw 0 Sc) (gw 1 Sc)))))))))
theorem Ga3(Al:All P w K mg base):Cal P w K mg base "_law_same" ["found","due"] Yf 5:=by
 have Sc:=Wc
 have T:=Al.t
 have C_REC:=Ga2 Al
 refine calw (b:=Hq Vc) 4 Al.h.h__law_same Al.g Sc rfl fun _ _ _ _ _ _ _ hr=>?_
 conv=>arg 3; whnf
 refine GSs.h ?_
 exact(Ge (Hf (GW.jt (Gah (Jp (Ho (gG z32) (gG z32) Js T.b_isinstance T.b_tuple (gw 1 Sc))) (Wy (Jp (Ho (gG z32) (gG z32) Kg T.b_isinstance T.b_list (gw 1 Sc))))))
  (Ge (Hf (GW.jt (Gah (Yv hr.units (Ho (gG z32) (gG z32) Js T.b_isinstance T.b_tuple (gw 0 Sc)) (Ho (gG z32) (gG z32) Js T.b_isinstance T.b_tuple (gw 1 Sc))) (Wy (Yv hr.units (Ho (gG z32) (gG z32) Kg T.b_isinstance T.b_list (gw 0 Sc)) (Ho (gG z32) (gG z32) Kg T.b_isinstance T.b_list (gw 1 Sc))))))
  (Gh (Gn Gbs))
  Gu)
  (Ge (Hf (Yv hr.units (Jg (gG z32) T.b_len (Ga (gw 0 Sc) Gc Gb)) (Jg (gG z32) T.b_len (Ga (gw 1 Sc) Gc Gb)))
  (Gh (Gn Gbs))
  Gu)
  (Gh (Gn (Ged rfl (gG z32) T.b_all (Ga (Xy (N':=["one","other"]) (pk:=[none,none]) Sc (Geg (gG z32) T.b_zip (Ga (gw 0 Sc) (Ga (gw 1 Sc) Gc Gb) Gb)) (fun cl s2 H2 C fp=>(Jc rfl (Gi (Jz 0) (Gi (Jz 1) Hm)))) (fun cl s2 H2 C fp=>Kc) (fun cl s2 H2 C fp=>(Gil C_REC hr (Ga (Ko 0) (Ga (Ko 1) Gc Gb) Gb)))) Gc Hz))))))
  Gu)
  (Ge (Hf (Gbt (gw 1 Sc) Kh)
  (Gh (Gn (Gec (gw 0 Sc) Kh)))
  Gu)
  (Ge (Hf (Jp (Ho (gG z32) (gG z32) Xp T.b_isinstance T.b_str (gw 1 Sc)))
  (Gh (Gn (Qo (Ho (gG z32) (gG z32) Xp T.b_isinstance T.b_str (gw 0 Sc)) (Qp (Xx hr.units (gw 0 Sc) (gw 1 Sc))))))
  Gu)
  (Gh (Gn (Qo (gow z32 (Qf Al) hr (Ga (gw 0 Sc) Gc Gb)) (Qp (Xx hr.units (gw 0 Sc) (gw 1 Sc)))))))))
theorem Gc7(Al:All P w K mg base):Cal P w K mg base "_law_same" ["found","due"] Uh 5:=Ga3 Al
def Kd:Sv:=(sq (sa (cl 2 (Go Gw) (ac (vr 0) (ac (o2 Gx (vr 6) (cn (.int 1))) an))) (gn 8))
  (sx (mt Gbn (vr 7) (ac (tp (ac (cn (.str "pound")) (ac (vr 6) (ac (vr 8) (ac (o2 Gx (cn (.int 1)) (cl 2 (Go Gw) (ac (vr 0) (ac (cn (.int 4)) an)))) (ac (cl 2 (Go Gw) (ac (vr 0) (ac (cn (.int 100)) an))) an)))))) an))))
def Wd:Sv:=(sq (sa (ls (ac (b1 Gih (ac (vr 1) (ac (vr 4) an))) (ac (cn (.int 1)) an))) (gn 5))
  (sq (sa (cmp (isrc (vr 5)) [none,some 0] (gn 0) ttrue (o2 Gx (vr 0) (cl 2 (Go Gw) (ac (vr 1) (ac (o2 Yr (cn (.int 10)) (vr 0)) an))))) (gn 5))
  (sq (sa (ls an) (gn 7))
  (sq (sfor (isrc (vr 5)) (gn 6) Kd)
  (sq (sa (o2 Gx (o2 Gx (ls (ac (tp (ac (cn (.str "end")) an)) an)) (o2 Je (ls (ac (tp (ac (cn (.str "chamber")) an)) an)) (o2 Gx (vr 2) (cn (.int 1))))) (ls (ac (o2 getD (vr 7) (cn (.int 0))) (ac (tp (ac (cn (.str "chamber")) an)) (ac (o2 getD (vr 7) (cn (.int 1))) an))))) (gn 9))
  (sq (sa (o2 Gx (o2 Gx (vr 9) (o2 Je (ls (ac (tp (ac (cn (.str "chamber")) an)) an)) (o2 Gx (vr 3) (cn (.int 1))))) (ls (ac (tp (ac (cn (.str "end")) an)) an))) (gn 9))
  (sq (sa (o2 Gx (o2 Gx (o2 Je (ls (ac (cn (.str "up")) an)) (o2 Gx (vr 2) (cn (.int 2)))) (ls (ac (cn (.str "down")) (ac (cn (.str "up")) an)))) (o2 Je (ls (ac (cn (.str "down")) an)) (o2 Gx (vr 3) (cn (.int 2))))) (gn 10))
  (sq (sa (o2 Je (ls (ac (cn (.int 0)) an)) (b1 Jf (ac (vr 9) an))) (gn 11))
  (sq (ss (vr 4) (vr 11) (o2 Gx (vr 2) (cn (.int 2))) Xu)
  (sq (sa (cl 2 (Go Gw) (ac (vr 0) (ac (cn (.int 5)) an))) (gn 12))
  (sq (sa (o2 Je (tp (ac (cn (.int 0)) an)) (o2 Yr (b1 Jf (ac (vr 9) an)) (cn (.int 1)))) (gn 13))
  (sret (tp (ac (tp (ac (b1 Gbm (ac (vr 9) an)) (ac (b1 Gbm (ac (vr 10) an)) an))) (ac (vr 12) (ac (tp (ac (b1 Gbm (ac (vr 11) an)) (ac (o2 Gx (tp (ac (vr 12) an)) (vr 13)) (ac (o2 Gx (vr 13) (tp (ac (vr 12) an))) an)))) an))))))))))))))))
def Qm:Fn:=fnB 14 Wd
theorem Gc8:FnS ["tape","many","left","right","begun","brims","brim","pounds","deep","places","gates","levels","crowd","none"] ["tape","many","left","right","begun"] (Gf Uw):=kdF
abbrev z33:=Gf Uw
theorem Gcb(Al:All P w K mg base):Cal P w K mg base "_law_scene" ["tape","many","left","right","begun"] Qm 3:=by
 have Sc:=Gc8
 have T:=Al.t
 refine calw (b:=Wd) 2 Al.h.h__law_scene Al.g Sc rfl fun _ _ _ _ _ _ _ hr=>?_
 conv=>arg 3; whnf
 refine GSs.h ?_
 exact(Ge (gsew 5 Sc (Jy (Ga (Gtq rfl (gG z33) T.b_max (Ga (gw 1 Sc) (Ga (gw 4 Sc) Gc Gb) Gb)) (Ga ge_int Gc Gg) Hx)))
  (Ge (Gp4 5 (N':=["brim","tape"]) (pk:=[none,some 0]) Sc (Vo (gw 5 Sc)) (fun cl s2 H2 C fp=>(Jz 0)) (fun cl s2 H2 C fp=>Kc) (fun cl s2 H2 C fp=>(Gp (Ko 0) (Gil (Hd Al) hr (Ga (Ko 1) (Ga (Wv ge_int (Ko 0)) Gc Hi) Gb)))))
  (Ge (gsew 7 Sc (Jy Gc))
  (Ge (Ggn PassesOwn.never rfl (Vo (gw 5 Sc)) (ggw 6 Sc)
  (Ge (gsew 8 Sc (gow z33 (Hd Al) hr (Ga (gw 0 Sc) (Ga (Gp (gw 6 Sc) ge_int) Gc Hi) Gb)))
  (Gh (Kj (Vi (gw 7 Sc) (Ga (Gq (Ga Gz (Ga (gw 6 Sc) (Ga (gw 8 Sc) (Ga (Gp ge_int (gow z33 (Hd Al) hr (Ga (gw 0 Sc) (Ga ge_int Gc Gg) Gb))) (Ga (gow z33 (Hd Al) hr (Ga (gw 0 Sc) (Ga ge_int Gc Gg) Gb)) Gc Hx) Hi) Gb) Gb) Gg)) Gc Gv))))))
  (Ge (gsew 9 Sc (Gp (Gp (Jy (Ga (Gq (Ga Gz Gc Gg)) Gc Gv)) (Jo (Jy (Ga (Gq (Ga Gz Gc Gg)) Gc Gv)) (Gp (gw 2 Sc) ge_int))) (Jy (Ga (Gj (gw 7 Sc) ge_int) (Ga (Gq (Ga Gz Gc Gg)) (Ga (Gj (gw 7 Sc) ge_int) Gc Gk) Gv) Gk))))
  (Ge (gsew 9 Sc (Gp (Gp (gw 9 Sc) (Jo (Jy (Ga (Gq (Ga Gz Gc Gg)) Gc Gv)) (Gp (gw 3 Sc) ge_int))) (Jy (Ga (Gq (Ga Gz Gc Gg)) Gc Gv))))
  (Ge (gsew 10 Sc (Gp (Gp (Jo (Jy (Ga Gz Gc Gg)) (Gp (gw 2 Sc) ge_int)) (Jy (Ga Gz (Ga Gz Gc Gg) Gg))) (Jo (Jy (Ga Gz Gc Gg)) (Gp (gw 3 Sc) ge_int))))
  (Ge (gsew 11 Sc (Jo (Jy (Ga ge_int Gc Gg)) (Jg (gG z33) T.b_len (Ga (gw 9 Sc) Gc Gb))))
  (Ge (Yx (gw 4 Sc) (gw 11 Sc) (Gp (gw 2 Sc) ge_int))
  (Ge (gsew 12 Sc (gow z33 (Hd Al) hr (Ga (gw 0 Sc) (Ga ge_int Gc Gg) Gb)))
  (Ge (gsew 13 Sc (Jo (Gq (Ga ge_int Gc Gg)) (Wv (Jg (gG z33) T.b_len (Ga (gw 9 Sc) Gc Gb)) ge_int)))
  (Gh (Gn (Gq (Ga (Gq (Ga (Ww (gG z33) T.b_tuple (Ga (gw 9 Sc) Gc Gb)) (Ga (Ww (gG z33) T.b_tuple (Ga (gw 10 Sc) Gc Gb)) Gc Hx) Hx)) (Ga (gw 12 Sc) (Ga (Gq (Ga (Ww (gG z33) T.b_tuple (Ga (gw 11 Sc) Gc Gb)) (Ga (Gp (Gq (Ga (gw 12 Sc) Gc Gb)) (gw 13 Sc)) (Ga (Gp (gw 13 Sc) (Gq (Ga (gw 12 Sc) Gc Gb))) Gc Hi) Hi) Hx)) Gc Gv) Gb) Gv)))))))))))))))
def Vd:Sv:=(sq (sa (o2 Gx (vr 1) (cn (.int 2))) (gn 3))
  (sq (sa (o2 Gx (vr 1) (cn (.int 4))) (gn 4))
  (sq (sa (cmp (ir1 (ac (o2 Gx (vr 1) (cn (.int 1))) an)) [none] (gn 0) ttrue (tp (ac (tp an) (ac (tp (ac (cn (.str "let")) (ac (vr 0) an))) an)))) (gn 5))
  (sq (sx (mt Gbn (vr 5) (ac (tp (ac (tp (ac (tp (ac (cn (.str "least")) (ac (vr 4) (ac (cn (.int 1)) an)))) (ac (tp (ac (cn (.str "least")) (ac (vr 3) (ac (cn (.int 1)) an)))) an))) (ac (tp (ac (cn (.str "let")) (ac (o2 Gx (vr 1) (cn (.int 1))) an))) an))) an)))
  (sq (sx (mt Gbn (vr 5) (ac (tp (ac (tp (ac (tp (ac (cn (.str "least")) (ac (vr 4) (ac (cn (.int 1)) an)))) an)) (ac (tp (ac (cn (.str "let")) (ac (vr 4) an))) an))) an)))
  (sq (sa (o2 Gx (vr 5) (cmp (ir2 (ac (o2 Gx (vr 4) (cn (.int 1))) (ac (o2 Gx (o2 Gx (vr 4) (vr 2)) (cn (.int 2))) an))) [none] (gn 0) ttrue (tp (ac (tp an) (ac (tp (ac (cn (.str "let")) (ac (vr 0) an))) an))))) (gn 5))
  (sq (sx (mt Gbn (vr 5) (ac (tp (ac (tp (ac (tp (ac (cn (.str "most")) (ac (vr 3) (ac (o2 Yr (vr 0) (cn (.int 1))) an)))) an)) (ac (tp (ac (cn (.str "feed")) (ac (vr 3) an))) an))) an)))
  (sret (b1 Gbm (ac (o2 Gx (vr 5) (ls (ac (tp (ac (tp an) (ac (tp (ac (cn (.str "feed")) (ac (vr 4) an))) an))) an))) an))))))))))
def Kx:Fn:=fnB 6 Vd
theorem Gcc:FnS ["many","left","right","one","other","rows"] ["many","left","right"] (Gf Qu):=kdF
abbrev z34:=Gf Qu
theorem Ga4(Al:All P w K mg base):Cal P w K mg base "_law_keeper" ["many","left","right"] Kx 1:=by
 have Sc:=Gcc
 have T:=Al.t
 refine calw (b:=Vd) 0 Al.h.h__law_keeper Al.g Sc rfl fun _ _ _ _ _ _ _ hr=>?_
 conv=>arg 3; whnf
 refine GSs.h ?_
 exact(Ge (gsew 3 Sc (Gp (gw 1 Sc) ge_int))
  (Ge (gsew 4 Sc (Gp (gw 1 Sc) ge_int))
  (Ge (Gp4 5 (N':=["gate"]) (pk:=[none]) Sc (Gdl (gG z34) T.b_range (Ga (Gp (gw 1 Sc) ge_int) Gc Hi)) (fun cl s2 H2 C fp=>(Jz 0)) (fun cl s2 H2 C fp=>Kc) (fun cl s2 H2 C fp=>(Gq (Ga (Gq Gc) (Ga (Gq (Ga Gz (Ga (Ko 0) Gc Gb) Gg)) Gc Gv) Gv))))
  (Ge (Kj (Vi (gw 5 Sc) (Ga (Gq (Ga (Gq (Ga (Gq (Ga Gz (Ga (gw 4 Sc) (Ga ge_int Gc Gg) Gb) Gg)) (Ga (Gq (Ga Gz (Ga (gw 3 Sc) (Ga ge_int Gc Gg) Gb) Gg)) Gc Gv) Gv)) (Ga (Gq (Ga Gz (Ga (Gp (gw 1 Sc) ge_int) Gc Hi) Gg)) Gc Gv) Gv)) Gc Gv)))
  (Ge (Kj (Vi (gw 5 Sc) (Ga (Gq (Ga (Gq (Ga (Gq (Ga Gz (Ga (gw 4 Sc) (Ga ge_int Gc Gg) Gb) Gg)) Gc Gv)) (Ga (Gq (Ga Gz (Ga (gw 4 Sc) Gc Gb) Gg)) Gc Gv) Gv)) Gc Gv)))
  (Ge (gsew 5 Sc (Gp (gw 5 Sc) (Xy (N':=["gate"]) (pk:=[none]) Sc (Gik (gG z34) T.b_range (Ga (Gp (gw 4 Sc) ge_int) (Ga (Gp (Gp (gw 4 Sc) (gw 2 Sc)) ge_int) Gc Hi) Hi)) (fun cl s2 H2 C fp=>(Jz 0)) (fun cl s2 H2 C fp=>Kc) (fun cl s2 H2 C fp=>(Gq (Ga (Gq Gc) (Ga (Gq (Ga Gz (Ga (Ko 0) Gc Gb) Gg)) Gc Gv) Gv))))))
  (Ge (Kj (Vi (gw 5 Sc) (Ga (Gq (Ga (Gq (Ga (Gq (Ga Gz (Ga (gw 3 Sc) (Ga (Wv (gw 0 Sc) ge_int) Gc Hi) Gb) Gg)) Gc Gv)) (Ga (Gq (Ga Gz (Ga (gw 3 Sc) Gc Gb) Gg)) Gc Gv) Gv)) Gc Gv)))
  (Gh (Gn (Ww (gG z34) T.b_tuple (Ga (Gp (gw 5 Sc) (Jy (Ga (Gq (Ga (Gq Gc) (Ga (Gq (Ga Gz (Ga (gw 4 Sc) Gc Gb) Gg)) Gc Gv) Gv)) Gc Gv))) Gc Hi)))))))))))
def Jv:Sv:=(spar 0 1 (ac (vr 1) (ac (o2 Wl (vr 0) (vr 1)) an)))
def Jh:Ev Bool:=(tb (o2 gtD (vr 1) (cn (.int 0))))
def Ve:Sv:=(sq (whN Jh Jv 3000)
  (sret (vr 0)))
def Ka:Fn:=fnB 2 Ve
theorem Gcd:FnS ["one","other"] ["one","other"] (Gf Qv):=kdF
abbrev z35:=Gf Qv
theorem Gwv:OkC z35 "one":=⟨by decide +kernel⟩
theorem Gww:OkC z35 "other":=⟨by decide +kernel⟩
theorem Ga5(Al:All P w K mg base):Cal P w K mg base "_law_common" ["one","other"] Ka 1:=by
 have Sc:=Gcd
 refine calw (b:=Ve) 0 Al.h.h__law_common Al.g Sc rfl fun _ _ _ _ _ _ _ hr=>?_
 conv=>arg 3; whnf
 refine GSs.h ?_
 exact(Ge (Gfh 3000 PassesOwn.never (Gff (gw 1 Sc) ge_int)
  (Gh (Ggm 0 1 rfl Sc.nd rfl rfl (by decide) Gwv.h Gww.h (Ga (gw 1 Sc) (Ga (Uo (gw 0 Sc) (gw 1 Sc)) Gc Hi) Gb) (by rfl))))
  (Gh (Gn (gw 0 Sc))))
def Jr:Sv:=(sif (tb (o2 Vh (vr 5) (cn .non)))
  (sa (cl 5 (gX ys (Gdp 600 Hl)) (ac (vr 0) (ac (vr 1) (ac (vr 2) (ac (vr 3) (ac (vr 4) an)))))) (gn 6))
  (sa (cl 6 (gX ys Hl) (ac (vr 0) (ac (vr 1) (ac (vr 2) (ac (vr 3) (ac (vr 4) (ac (vr 5) an))))))) (gn 6)))
def Qy:Sv:=(sa (cn .non) (gn 6))
def Kf:Sv:=(sq (sa (cn .non) (gn 6))
  (sq (Wg ["TooMany"] (Gfe Qy) Jr)
  (sret (vr 6))))
def Ht:Fn:=fnB 7 Kf
theorem Get:FnS ["canal","rule","crowd","stand","comings","limit","found"] ["canal","rule","crowd","stand","comings","limit"] (Gf Vw):=kdF
abbrev z36:=Gf Vw
theorem Gis:Hk "TooMany"=true:=by decide +kernel
theorem Gc9(Al:All P w K mg base):Cal P w K mg base "_law_told" ["canal","rule","crowd","stand","comings","limit"] Ht 8:=by
 have Sc:=Get
 have T:=Al.t
 refine calw (b:=Kf) 7 Al.h.h__law_told Al.g Sc rfl fun _ _ _ _ _ _ _ hr=>?_
 conv=>arg 3; whnf
 refine GSs.h ?_
 exact(Ge (gsew 6 Sc Kh)
  (Ge (Ghf ⟨rfl,rfl,rfl⟩ T.cat_TooMany (gG z36) Gis (fun pn xe XQ L=>(Gh (Hf (Gbt (gw 5 Sc) Kh)
  (Gh (gsew 6 Sc (Gwp z36 T.xt.xns L (Zh Al) hr (Ga (gw 0 Sc) (Ga (gw 1 Sc) (Ga (gw 2 Sc) (Ga (gw 3 Sc) (Ga (gw 4 Sc) Gc Gb) Gb) Gb) Gb) Gb))))
  (Gh (gsew 6 Sc (Gfi z36 T.xt.xns L (Zh Al).x hr (Ga (gw 0 Sc) (Ga (gw 1 Sc) (Ga (gw 2 Sc) (Ga (gw 3 Sc) (Ga (gw 4 Sc) (Ga (gw 5 Sc) Gc Gb) Gb) Gb) Gb) Gb) Gb)))))))
  (fun a=>(Gh (gsew 6 Sc Kh))))
  (Gh (Gn (gw 6 Sc)))))
def Gk6:Sv:=(sq (sa (cl 1 (Go Xn) (ac (vr 0) an)) (gn 1))
  (sq (sa (o2 Gx (cn (.int 1)) (cl 2 (Go Gw) (ac (vr 1) (ac (cn (.int 9)) an)))) (gn 2))
  (sq (sa (cl 2 (Go Gw) (ac (vr 1) (ac (cn (.int 7)) an))) (gn 3))
  (sq (sa (cl 2 (Go Gw) (ac (vr 1) (ac (o2 Yr (cn (.int 7)) (vr 3)) an))) (gn 4))
  (sq (sa (cl 2 (Go Gw) (ac (vr 1) (ac (cn (.int 10)) an))) (gn 5))
  (sq (sa (b1 Gbm (ac (cmp (ir1 (ac (o2 Gx (cn (.int 1)) (cl 2 (Go Gw) (ac (vr 1) (ac (cn (.int 20)) an)))) an)) [none,some 1] (gn 0) ttrue (cl 2 (Go Gw) (ac (vr 1) (ac (cn (.int 4)) an)))) an)) (gn 6))
  (sq (sa (cl 5 (Go Qm) (ac (vr 1) (ac (vr 2) (ac (vr 3) (ac (vr 4) (ac (vr 5) an)))))) (gt (gcons (gn 7) (gcons (gn 8) (gcons (gn 9) gnil))) 3))
  (sq (sa (cl 3 (Go Kx) (ac (vr 2) (ac (vr 3) (ac (vr 4) an)))) (gn 10))
  (sq (sa (o2 Gx (o2 Gx (o2 Je (vr 2) (o2 Gx (vr 3) (cn (.int 3)))) (vr 4)) (cn (.int 3))) (gn 11))
  (sq (sa (o2 Wf (o2 Je (vr 11) (b1 Jf (ac (vr 6) an))) (cl 2 (Go Ka) (ac (vr 11) (ac (b1 Jf (ac (vr 6) an)) an)))) (gn 12))
  (sq (sa (cn (.int 0)) (gn 13))
  (sq (sif (tb (o2 gtD (vr 5) (vr 2)))
  (sa (o2 Gx (cn (.int 1)) (o2 Je (o2 Yr (vr 5) (vr 2)) (o2 Gx (vr 3) (cn (.int 2))))) (gn 13))
  skip)
  (sq (sa (o2 Gx (o2 Je (vr 2) (o2 getD (o2 getD (o2 getD (vr 7) (cn (.int 0))) (o2 Gx (vr 3) (cn (.int 2)))) (cn (.int 4)))) (o2 getD (o2 getD (o2 getD (vr 7) (cn (.int 0))) (o2 Gx (vr 3) (cn (.int 4)))) (cn (.int 4)))) (gn 14))
  (sq (sa (o2 Je (o2 Wf (vr 12) (vr 11)) (vr 14)) (gn 15))
  (sq (sa (b1 Gas (ac (cmp (isrc (vr 6)) [none] (gn 0) ttrue (o2 getD (ls (ac (cn (.int 0)) (ac (cn (.int 1)) (ac (cn (.int 1)) (ac (cn (.int 2)) an))))) (vr 0))) an)) (gn 16))
  (sq (sa (o2 Je (o2 Wf (vr 12) (b1 Jf (ac (vr 6) an))) (vr 16)) (gn 17))
  (sq (sa (o2 getD (ls (ac (cn .non) (ac (o2 Gx (vr 13) (vr 12)) (ac (o2 Yr (o2 Gx (vr 13) (vr 12)) (cn (.int 1))) (ac (cn (.int 2000)) an))))) (cl 2 (Go Gw) (ac (vr 1) (ac (cn (.int 4)) an)))) (gn 18))
  (sq (sa (ie (tb (o2 Vh (vr 18) (cn .non))) (cn (.int 600)) (vr 18)) (gn 19))
  (sq (sa (cl 6 (Go Ht) (ac (vr 7) (ac (vr 10) (ac (vr 8) (ac (vr 9) (ac (vr 6) (ac (vr 18) an))))))) (gn 20))
  (sq (sif (tb (o2 gtD (o2 Gx (vr 13) (vr 12)) (vr 19)))
  (sret (o2 Vh (vr 20) (cn .non)))
  skip)
  (sret (cl 2 (Go Uh) (ac (vr 20) (ac (tp (ac (vr 13) (ac (vr 12) (ac (vr 15) (ac (cn (.int 0)) (ac (vr 17) an)))))) an))))))))))))))))))))))))
def Gce:Fn:=fnB 21 Gk6
theorem Gt1:FnS ["script","tape","many","left","right","begun","comings","canal","crowd","stand","rule","hours","ring","lead","once","price","comers","turned","limit","most","found"] ["script"] (Gf Gbz):=kdF
abbrev z37:=Gf Gbz
theorem Gol(Al:All P w K mg base){f:Addr}{fd:FuncData}(F:Fun K "law" "law" Gbz f fd):FnOk P w K mg base CX0 9 f fd ["script"] (spD K 1 Gce):=by
 have Sc:=Gt1
 have T:=Al.t
 refine Gpk (b:=Gk6) F Sc.s fun cdv A outer s H E hr=>?_
 conv=>arg 3; whnf
 refine GSs.h ?_
 exact(Ge (gsew 1 Sc (gow z37 (Gc6 Al) hr (Ga (gw 0 Sc) Gc Gb)))
  (Ge (gsew 2 Sc (Gp ge_int (gow z37 (Hd Al) hr (Ga (gw 1 Sc) (Ga ge_int Gc Gg) Gb))))
  (Ge (gsew 3 Sc (gow z37 (Hd Al) hr (Ga (gw 1 Sc) (Ga ge_int Gc Gg) Gb)))
  (Ge (gsew 4 Sc (gow z37 (Hd Al) hr (Ga (gw 1 Sc) (Ga (Wv ge_int (gw 3 Sc)) Gc Hi) Gb)))
  (Ge (gsew 5 Sc (gow z37 (Hd Al) hr (Ga (gw 1 Sc) (Ga ge_int Gc Gg) Gb)))
  (Ge (gsew 6 Sc (Ww (gG z37) T.b_tuple (Ga (Xy (N':=["k","tape"]) (pk:=[none,some 1]) Sc (Gdl (gG z37) T.b_range (Ga (Gp ge_int (gow z37 (Hd Al) hr (Ga (gw 1 Sc) (Ga ge_int Gc Gg) Gb))) Gc Hi)) (fun cl s2 H2 C fp=>(Jz 0)) (fun cl s2 H2 C fp=>Kc) (fun cl s2 H2 C fp=>(Gil (Hd Al) hr (Ga (Ko 1) (Ga ge_int Gc Gg) Gb)))) Gc Hz)))
  (Ge (Ki (gow z37 (Gcb Al) hr (Ga (gw 1 Sc) (Ga (gw 2 Sc) (Ga (gw 3 Sc) (Ga (gw 4 Sc) (Ga (gw 5 Sc) Gc Gb) Gb) Gb) Gb) Gb)) (Jc rfl (Gi (ggw 7 Sc) (Gi (ggw 8 Sc) (Gi (ggw 9 Sc) Hm)))))
  (Ge (gsew 10 Sc (gow z37 (Ga4 Al) hr (Ga (gw 2 Sc) (Ga (gw 3 Sc) (Ga (gw 4 Sc) Gc Gb) Gb) Gb)))
  (Ge (gsew 11 Sc (Gp (Gp (Jo (gw 2 Sc) (Gp (gw 3 Sc) ge_int)) (gw 4 Sc)) ge_int))
  (Ge (gsew 12 Sc (Yu (Jo (gw 11 Sc) (Jg (gG z37) T.b_len (Ga (gw 6 Sc) Gc Gb))) (gow z37 (Ga5 Al) hr (Ga (gw 11 Sc) (Ga (Jg (gG z37) T.b_len (Ga (gw 6 Sc) Gc Gb)) Gc Hx) Gb))))
  (Ge (gsew 13 Sc ge_int)
  (Ge (Hf (Gff (gw 5 Sc) (gw 2 Sc))
  (Gh (gsew 13 Sc (Gp ge_int (Jo (Wv (gw 5 Sc) (gw 2 Sc)) (Gp (gw 3 Sc) ge_int)))))
  Gu)
  (Ge (gsew 14 Sc (Gp (Jo (gw 2 Sc) (Gj (Gj (Gj (gw 7 Sc) ge_int) (Gp (gw 3 Sc) ge_int)) ge_int)) (Gj (Gj (Gj (gw 7 Sc) ge_int) (Gp (gw 3 Sc) ge_int)) ge_int)))
  (Ge (gsew 15 Sc (Jo (Yu (gw 12 Sc) (gw 11 Sc)) (gw 14 Sc)))
  (Ge (gsew 16 Sc (Gee rfl (gG z37) T.b_sum (Ga (Xy (N':=["coming"]) (pk:=[none]) Sc (Vo (gw 6 Sc)) (fun cl s2 H2 C fp=>(Jz 0)) (fun cl s2 H2 C fp=>Kc) (fun cl s2 H2 C fp=>(Gj (Jy (Ga ge_int (Ga ge_int (Ga ge_int (Ga ge_int Gc Gg) Gg) Gg) Gg)) (Ko 0)))) Gc Hz)))
  (Ge (gsew 17 Sc (Jo (Yu (gw 12 Sc) (Jg (gG z37) T.b_len (Ga (gw 6 Sc) Gc Gb))) (gw 16 Sc)))
  (Ge (gsew 18 Sc (Gj (Jy (Ga Kh (Ga (Gp (gw 13 Sc) (gw 12 Sc)) (Ga (Wv (Gp (gw 13 Sc) (gw 12 Sc)) ge_int) (Ga ge_int Gc Gg) Hi) Hi) Gg)) (gow z37 (Hd Al) hr (Ga (gw 1 Sc) (Ga ge_int Gc Gg) Gb))))
  (Ge (gsew 19 Sc (Qq (Gbt (gw 18 Sc) Kh) ge_int (gw 18 Sc)))
  (Ge (gsew 20 Sc (gow z37 (Gc9 Al) hr (Ga (gw 7 Sc) (Ga (gw 10 Sc) (Ga (gw 8 Sc) (Ga (gw 9 Sc) (Ga (gw 6 Sc) (Ga (gw 18 Sc) Gc Gb) Gb) Gb) Gb) Gb) Gb)))
  (Ge (Hf (Gff (Gp (gw 13 Sc) (gw 12 Sc)) (gw 19 Sc))
  (Gh (Gn (Gec (gw 20 Sc) Kh)))
  Gu)
  (Gh (Gn (gow z37 (Gc7 Al) hr (Ga (gw 20 Sc) (Ga (Gq (Ga (gw 13 Sc) (Ga (gw 12 Sc) (Ga (gw 15 Sc) (Ga ge_int (Ga (gw 17 Sc) Gc Gb) Gg) Gb) Gb) Gb)) Gc Gv) Gb))))))))))))))))))))))))
end
theorem Gt2{l:PySem.W.OpenLaw}{w:World}{K:PySem.W.Frag}{h:Heap}{mg:Str->Option Value}{fa:Addr}(X:K.In h)(G:h.Ns mainGlobals mg)(hfa:mg "law"=some (.ref fa))(HS:Hs K)
  {kp_CHAMBER:Addr} {kt_CHAMBER:Tok} {kn_CHAMBER:Nat} {ks_CHAMBER:Array (Option Value)} (ka_CHAMBER:PySem.W.nsIn K mainGlobals "CHAMBER"=some (some (.ref kp_CHAMBER))) (kl_CHAMBER:K.lookup kp_CHAMBER=some { cls:=.type "tuple",dict:=none,data:=.seq #[.str "chamber" kt_CHAMBER] kn_CHAMBER,slots:=ks_CHAMBER })
  {kp_END:Addr} {kt_END:Tok} {kn_END:Nat} {ks_END:Array (Option Value)} (ka_END:PySem.W.nsIn K mainGlobals "END"=some (some (.ref kp_END))) (kl_END:K.lookup kp_END=some { cls:=.type "tuple",dict:=none,data:=.seq #[.str "end" kt_END] kn_END,slots:=ks_END })
  {kp_LEFT_COMES:Addr} {kt0_LEFT_COMES kt1_LEFT_COMES:Tok} {kn_LEFT_COMES:Nat} {ks_LEFT_COMES:Array (Option Value)} (ka_LEFT_COMES:PySem.W.nsIn K mainGlobals "LEFT_COMES"=some (some (.ref kp_LEFT_COMES))) (kl_LEFT_COMES:K.lookup kp_LEFT_COMES=some { cls:=.type "tuple",dict:=none,data:=.seq #[.int 2 kt0_LEFT_COMES,.int 3 kt1_LEFT_COMES] kn_LEFT_COMES,slots:=ks_LEFT_COMES })
  {kp_RIGHT_COMES:Addr} {kt0_RIGHT_COMES kt1_RIGHT_COMES:Tok} {kn_RIGHT_COMES:Nat} {ks_RIGHT_COMES:Array (Option Value)} (ka_RIGHT_COMES:PySem.W.nsIn K mainGlobals "RIGHT_COMES"=some (some (.ref kp_RIGHT_COMES))) (kl_RIGHT_COMES:K.lookup kp_RIGHT_COMES=some { cls:=.type "tuple",dict:=none,data:=.seq #[.int 1 kt0_RIGHT_COMES,.int 3 kt1_RIGHT_COMES] kn_RIGHT_COMES,slots:=ks_RIGHT_COMES })
  {kt_UP:Tok} (ka_UP:PySem.W.nsIn K mainGlobals "UP"=some (some (.str "up" kt_UP)))
  {cc_SummitError:Addr} (ca_SummitError:PySem.W.nsIn K mainGlobals "SummitError"=some (some (.ref cc_SummitError)))
  {cc_NoGate:Addr} (ca_NoGate:PySem.W.nsIn K mainGlobals "NoGate"=some (some (.ref cc_NoGate)))
  {cc_Dry:Addr} (ca_Dry:PySem.W.nsIn K mainGlobals "Dry"=some (some (.ref cc_Dry)))
  {cc_Full:Addr} (ca_Full:PySem.W.nsIn K mainGlobals "Full"=some (some (.ref cc_Full)))
  {cc_NoSpring:Addr} (ca_NoSpring:PySem.W.nsIn K mainGlobals "NoSpring"=some (some (.ref cc_NoSpring)))
  {cc_NoBarge:Addr} (ca_NoBarge:PySem.W.nsIn K mainGlobals "NoBarge"=some (some (.ref cc_NoBarge)))
  {cc_NoRoom:Addr} (ca_NoRoom:PySem.W.nsIn K mainGlobals "NoRoom"=some (some (.ref cc_NoRoom)))
  {cc_Uneven:Addr} (ca_Uneven:PySem.W.nsIn K mainGlobals "Uneven"=some (some (.ref cc_Uneven)))
  {cc_Shallow:Addr} (ca_Shallow:PySem.W.nsIn K mainGlobals "Shallow"=some (some (.ref cc_Shallow)))
  {cc_TooMany:Addr} (ca_TooMany:PySem.W.nsIn K mainGlobals "TooMany"=some (some (.ref cc_TooMany)))
  (xtb:Gkq K cc_SummitError [("NoGate",cc_NoGate),("Dry",cc_Dry),("Full",cc_Full),("NoSpring",cc_NoSpring),("NoBarge",cc_NoBarge),("NoRoom",cc_NoRoom),("Uneven",cc_Uneven),("Shallow",cc_Shallow),("TooMany",cc_TooMany)] [("NoGate",cc_NoGate),("Dry",cc_Dry),("Full",cc_Full),("NoSpring",cc_NoSpring),("NoBarge",cc_NoBarge),("NoRoom",cc_NoRoom),("Uneven",cc_Uneven),("Shallow",cc_Shallow),("TooMany",cc_TooMany)]=true)
  (catb_TooMany:Gtw K cc_TooMany=true)
  {fi:Addr} {odI anI:Option Addr} {slI:Array (Option Value)} {kVI dcI pmI cdI ctI:Value} (iI:PySem.W.findIn K (.ref cc_SummitError) "__init__"=some (some (.ref fi))) (lI:K.lookup fi=some ⟨.type "function",odI,.func (PySem.W.fnOf "__init__" "SummitError.__init__" (Hu Ku) (Ha Ku) (Gf Ku) .none kVI dcI pmI anI cdI ctI),slI⟩) (cI:PySem.W.codeIn K cdI "SummitError.__init__"=true) (kI:PySem.W.keepIn K (.ref fi)=true)
  (cx_Dry:Gbr K cc_Dry fi=true)
  (cx_Full:Gbr K cc_Full fi=true)
  (cx_NoBarge:Gbr K cc_NoBarge fi=true)
  (cx_NoGate:Gbr K cc_NoGate fi=true)
  (cx_NoRoom:Gbr K cc_NoRoom fi=true)
  (cx_NoSpring:Gbr K cc_NoSpring fi=true)
  (cx_Shallow:Gbr K cc_Shallow fi=true)
  (cx_TooMany:Gbr K cc_TooMany fi=true)
  (cx_Uneven:Gbr K cc_Uneven fi=true)
  : ∃ fd:FuncData,(∀ (s:Shared) (v:Value),BindsTo s fd ⟨[v],[]⟩ [("script",v)])/\∀ base:Heap,K.In base->base.Ns mainGlobals mg->FnOk l.prog w K mg base CX0 9 fa fd ["script"] (spD K 1 Gce):=by
 obtain⟨_,_,_,_,_,_,_,_,_,k_law,c_law,l_law⟩:=HS.h_law.fnx X G hfa
 have F:=Gd2 (st:=Gbz) l_law c_law k_law
 have T:Txt K mg:=⟨PySem.W.mg_none_of X G HS.z_ValueError,PySem.W.mg_none_of X G HS.z_all,PySem.W.mg_none_of X G HS.z_bool,PySem.W.mg_none_of X G HS.z_int,PySem.W.mg_none_of X G HS.z_isinstance,PySem.W.mg_none_of X G HS.z_len,PySem.W.mg_none_of X G HS.z_list,PySem.W.mg_none_of X G HS.z_max,PySem.W.mg_none_of X G HS.z_range,PySem.W.mg_none_of X G HS.z_str,PySem.W.mg_none_of X G HS.z_sum,PySem.W.mg_none_of X G HS.z_tuple,PySem.W.mg_none_of X G HS.z_zip,Gkw X G ka_CHAMBER kl_CHAMBER,Gkw X G ka_END kl_END,Ghg X G ka_LEFT_COMES kl_LEFT_COMES,Ghg X G ka_RIGHT_COMES kl_RIGHT_COMES,Gn6 X G ka_UP,Gwj X G ca_SummitError xtb,Gtx X G ca_TooMany catb_TooMany⟩
 have hVE:mg "ValueError"=none:=PySem.W.mg_none_of X G HS.z_ValueError
 have ini:∀ base:Heap,IniX l.prog w K mg base fi 1:=fun base=>ini_mk (st:=Ku) lI cI kI sc_init (Gin hVE) (fun _ _ _ _ _ _ us hl=>match us,hl with | [_,_],_=>rfl)
 exact⟨_,fun s v=>.of_eq rfl,fun base _ _=>Gol ⟨HS,⟨h,X,G⟩,T,Vl X G (ini base) ca_Dry cx_Dry,Vl X G (ini base) ca_Full cx_Full,Vl X G (ini base) ca_NoBarge cx_NoBarge,Vl X G (ini base) ca_NoGate cx_NoGate,Vl X G (ini base) ca_NoRoom cx_NoRoom,Vl X G (ini base) ca_NoSpring cx_NoSpring,Vl X G (ini base) ca_Shallow cx_Shallow,Vl X G (ini base) ca_TooMany cx_TooMany,Vl X G (ini base) ca_Uneven cx_Uneven⟩ F⟩
end Law
namespace WM
def stp(b l d:Int):Int:=min b (l+d)
def F(b:Int)(ds:List Int)(x:Int):Int:=ds.foldl (stp b) x
def AP(ds:List Int)(x:Int):Prop:=∀ j,1<=j->j<=ds.length->0<=x+(ds.take j).sum
inductive R where
 | dry (k:Nat) | lev (l:Int)
def R.bind(o:R)(g:Int->R):R:=match o with
 | .dry k=>.dry k
 | .lev l=>g l
def most(b:Int)(ds:List Int):Int:=F b ds.tail b
def start(ds:List Int)(mn:Int):Int:=max 0 (-mn)
structure IsMin(ds:List Int)(mn:Int):Prop where
 le:∀ j,1<=j->j<=ds.length->mn<=(ds.take j).sum
 at':∃ j,1<=j/\j<=ds.length/\mn=(ds.take j).sum
end WM
namespace DL
open PySem PySem.Spec PyProof.Rows L2
variable{d:D}{fa:Ev D}{k:Nat}
section
variable{ρ:Lc}{S:Sto}{α β:Type}
@[simp] theorem Gba{a:α}{g:α->Sto->Out β}:(Out.ok a S).bind g=g a S:=id rfl
@[simp] theorem Gwx{g:α->Sto->Out β}:(Out.bad:Out α).bind g=.bad:=id rfl
@[simp] theorem Gcf{a:α}{g:α->Sto->OS}:bindS (Out.ok a S) ρ g=g a S:=id rfl
@[simp] theorem Gu3{g:α->Sto->OS}:bindS (Out.bad:Out α) ρ g=.bad:=id rfl
@[simp] theorem Gp6{i:Nat}:vr i ρ S=match ρ[i]? with
 | some (some d)=>.ok d S
 | _=>.bad:=id rfl
@[simp] theorem Gze:cn d ρ S=.ok d S:=id rfl
@[simp] theorem Gzf:an ρ S=.ok [] S:=id rfl
@[simp] theorem Gfp{f:Ev D}{g:Ev (List D)}:ac f g ρ S=(f ρ S).bind fun x S1=>(g ρ S1).bind fun xs S2=>.ok (x::xs) S2:=id rfl
@[simp] theorem Gwy{o:D->D->Sto->Out D}{fb:Ev D}:o2 o fa fb ρ S=(fa ρ S).bind fun x S1=>(fb ρ S1).bind fun y S2=>o x y S2:=id rfl
@[simp] theorem Gzg{o:D->Sto->Out D}:o1 o fa ρ S=(fa ρ S).bind fun x S1=>o x S1:=id rfl
@[simp] theorem Gfq{o:List D->Sto->Out D}{f:Ev (List D)}:b1 o f ρ S=(f ρ S).bind o:=id rfl
@[simp] theorem Gzh{n:Nat}{fn:Fn}{t:Ev (List D)}:cl n fn t ρ S=(t ρ S).bind fun ds S1=>if ds.length=n then fn ds S1 else .bad:=id rfl
@[simp] theorem Gwz{fn:Fn}{ds:List D}:Go fn ds S=match fn ds S with
 | .ok d S'=>.ok d S'
 | _=>.bad:=id rfl
@[simp] theorem Gzi{f:Ev D}:tb f ρ S=(f ρ S).bind fun x S1=>match x with
 | .bl b=>.ok b S1
 | _=>.bad:=id rfl
@[simp] theorem Gk7{f:Ev D}:tt f ρ S=(f ρ S).bind fun x S1=>match Zn x S1 with
 | some b=>.ok b S1
 | none=>.bad:=id rfl
@[simp] theorem Gk8{f:Ev Bool}:tn f ρ S=(f ρ S).bind fun b S1=>.ok (!b) S1:=id rfl
@[simp] theorem Gzj{f g:Ev Bool}:ta f g ρ S=(f ρ S).bind fun b S1=>if b=true then g ρ S1 else .ok false S1:=id rfl
@[simp] theorem Gzk{f g:Ev Bool}:to f g ρ S=(f ρ S).bind fun b S1=>if b=true then .ok true S1 else g ρ S1:=id rfl
@[simp] theorem Gzl{f g:Ev D}:va f g ρ S=(f ρ S).bind fun x S1=>match x with
 | .bl b=>if b=true then g ρ S1 else .ok (.bl false) S1
 | _=>.bad:=id rfl
@[simp] theorem Gzm{f g:Ev D}:vo f g ρ S=(f ρ S).bind fun x S1=>match x with
 | .bl b=>if b=true then .ok (.bl true) S1 else g ρ S1
 | _=>.bad:=id rfl
@[simp] theorem Gzn{f:Ev D}:vn f ρ S=(f ρ S).bind fun x S1=>match x with
 | .bl b=>.ok (.bl (!b)) S1
 | _=>.bad:=id rfl
@[simp] theorem Gzo{c:Ev Bool}{f g:Ev D}:ie c f g ρ S=(c ρ S).bind fun b S1=>if b=true then f ρ S1 else g ρ S1:=id rfl
@[simp] theorem Gzp{f:Ev (List D)}:tp f ρ S=(f ρ S).bind fun xs S1=>if xs.length<=1000000 then .ok (.tup xs) S1 else .bad:=id rfl
@[simp] theorem Gzq{f:Ev (List D)}:ls f ρ S=(f ρ S).bind fun xs S1=>if xs.length<=1000000 then .ok (.lst S1.length) (S1++[⟨false,xs⟩]) else .bad:=id rfl
@[simp] theorem Gyv{fe:Ev D}{fl fh:Ev (Option Int)}:sl2 fe fl fh ρ S=(fe ρ S).bind fun x S1=>(fl ρ S1).bind fun l S2=>(fh ρ S2).bind fun u S3=>Gbq x l u S3:=id rfl
@[simp] theorem Gw0:onone ρ S=.ok none S:=id rfl
@[simp] theorem Gw1{f:Ev D}:osome f ρ S=(f ρ S).bind fun x S1=>match x with
 | .int i=>.ok (some i) S1
 | _=>.bad:=id rfl
@[simp] theorem Gzr{o:D->List D->Sto->Out D}{fo:Ev D}{f:Ev (List D)}:mt o fo f ρ S=(fo ρ S).bind fun x S1=>if isLst x S1=true then(f ρ S1).bind fun xs S2=>o x xs S2 else .bad:=id rfl
@[simp] theorem Gzs{o o':D->D->Sto->Out D}{fb fc:Ev D}:ch o o' fa fb fc ρ S=(fa ρ S).bind fun x S1=>(fb ρ S1).bind fun y S2=>(o x y S2).bind fun z S3=>match z with
 | .bl b=>if b=true then(fc ρ S3).bind fun w S4=>o' y w S4 else .ok (.bl false) S3
 | _=>.bad:=id rfl
@[simp] theorem Gam{f g:Sv}:sq f g ρ S=match f ρ S with
 | .nx ρ' S'=>g ρ' S'
 | .rt d S'=>.rt d S'
 | .bk ρ' S'=>.bk ρ' S'
 | .ct ρ' S'=>.ct ρ' S'
 | .exc x ρ' S'=>.exc x ρ' S'
 | .bad=>.bad:=id rfl
@[simp] theorem Ui{f:Ev D}{g:Tg}:sa f g ρ S=bindS (f ρ S) ρ fun d S1=>match g d ρ with
 | some ρ'=>.nx ρ' S1
 | none=>.bad:=id rfl
@[simp] theorem Gzt{i:Nat}:gn i d ρ=some (ρ.set i (some d)):=id rfl
@[simp] theorem Gxz{f:Ev D}:sret f ρ S=bindS (f ρ S) ρ fun d S1=>.rt d S1:=id rfl
@[simp] theorem Ggs{c:Ev Bool}{f g:Sv}:sif c f g ρ S=bindS (c ρ S) ρ fun b S1=>if b=true then f ρ S1 else g ρ S1:=id rfl
@[simp] theorem Gzu{f:Ev D}:sx f ρ S=bindS (f ρ S) ρ fun _ S1=>.nx ρ S1:=id rfl
@[simp] theorem Gx0:skip ρ S=.nx ρ S:=id rfl
@[simp] theorem Gzv{f fo fi:Ev D}{o:D->D->D->Sto->Option Sto}:ss f fo fi o ρ S=bindS (f ρ S) ρ fun d S1=>bindS (fo ρ S1) ρ fun x S2=>bindS (fi ρ S2) ρ fun y S3=>match o x y d S3 with
 | some S4=>.nx ρ S4
 | none=>.bad:=id rfl
@[simp] theorem Gyw{i:Nat}{g:Int->Int->Int}{f:Ev D}:sag i g f ρ S=match ρ[i]? with
 | some (some (.int a))=>bindS (f ρ S) ρ fun d S1=>match d with
  | .int b=>.nx (ρ.set i (some (.int (g a b)))) S1
  | _=>.bad
 | _=>.bad:=id rfl
@[simp] theorem Ghm{f:Ev D}:isrc f ρ S=(f ρ S).bind Gdj:=id rfl
@[simp] theorem Gom{f:Ev Src}{g:Tg}{b:Sv}:sfor f g b ρ S=bindS (f ρ S) ρ fun s S1=>Ky s.nxt g b s.fuel 0 ρ S1:=id rfl
section
variable{i j:Int}
@[simp] theorem Gyx:Gx (.int i) (.int j) S=.ok (.int (i+j)) S:=id rfl
@[simp] theorem Gyy:Yr (.int i) (.int j) S=.ok (.int (i-j)) S:=id rfl
@[simp] theorem Gzw:Ggk (.int i) S=.ok (.int (-i)) S:=id rfl
theorem Gk9(h1 : -(2^64)<j)(h2:j<2^64):Je (.int i) (.int j) S=.ok (.int (i*j)) S:=by
 show(if(-(2^64)<i/\i<2^64)\/(-(2^64)<j/\j<2^64) then Out.ok (D.int (i*j)) S else .bad)=_
 rw[if_pos (.inr ⟨h1,h2⟩)]
theorem Gdr(h1 : -(2^64)<i)(h2:i<2^64):Je (.int i) (.int j) S=.ok (.int (i*j)) S:=by
 show(if(-(2^64)<i/\i<2^64)\/(-(2^64)<j/\j<2^64) then Out.ok (D.int (i*j)) S else .bad)=_
 rw[if_pos (.inl ⟨h1,h2⟩)]
theorem Yn(h:0<j):Wl (.int i) (.int j) S=.ok (.int (i%j)) S:=by
 show(if decide (0<j)=true then Out.ok (D.int (i%j)) S else .bad)=_
 rw[if_pos (by simpa using h)]
theorem Gcg(h:0<j)(h2:j<2^200):Wf (.int i) (.int j) S=.ok (.int (i / j)) S:=by
 show(if decide (0<j/\j<2^200)=true then Out.ok (D.int (i / j)) S else .bad)=_
 rw[if_pos (decide_eq_true ⟨h,h2⟩)]
theorem Ggt{n:Nat}(h:(n:Int)<=1000000)(h2:i.natAbs<2^64):Ge8 (.int i) (.int n) S=.ok (.int (i^n)) S:=by
 show(if decide (0<=(n:Int)/\(n:Int)<=1000000/\i.natAbs<2^64)=true then Out.ok (D.int (i^(n:Int).toNat)) S else .bad)=_
 rw[if_pos (decide_eq_true ⟨by omega,h,h2⟩)]
 rfl
@[simp] theorem Gzx:Ge8 (.int 10) (.int 6) S=.ok (.int 1000000) S:=Ggt (n:=6) (by decide) (by decide)
@[simp] theorem Gyz:Ge8 (.int 10) (.int 15) S=.ok (.int 1000000000000000) S:=Ggt (n:=15) (by decide) (by decide)
@[simp] theorem Gy0:Ge8 (.int 10) (.int 18) S=.ok (.int 1000000000000000000) S:=Ggt (n:=18) (by decide) (by decide)
@[simp] theorem Gzy:ltD (.int i) (.int j) S=.ok (.bl (decide (i<j))) S:=id rfl
@[simp] theorem Gzz:leD (.int i) (.int j) S=.ok (.bl (decide (i<=j))) S:=id rfl
@[simp] theorem Gz0:gtD (.int i) (.int j) S=.ok (.bl (decide (j<i))) S:=id rfl
@[simp] theorem Gz1:geD (.int i) (.int j) S=.ok (.bl (decide (j<=i))) S:=id rfl
@[simp] theorem Gy1:Gyn [.int i,.int j] S=.ok (.int (min i j)) S:=by
 show Out.ok (D.int (if j<i then j else i)) S=_
 congr 2
 omega
@[simp] theorem Gy2:Gih [.int i,.int j] S=.ok (.int (max i j)) S:=by
 show Out.ok (D.int (if j>i then j else i)) S=_
 congr 2
 omega
@[simp] theorem Gz2:eqD (.int i) (.int j) S=.ok (.bl (decide (i=j))) S:=by
 simp only[eqD,toP]
 simp[SeqAt.shaped,PyData.eqv]
 rfl
@[simp] theorem Gz3:neD (.int i) (.int j) S=.ok (.bl (!decide (i=j))) S:=by
 simp only[neD,toP]
 simp[SeqAt.shaped,PyData.eqv]
 rfl
theorem Gw2{x y:Str}(hx:PyData.strOk x=true)(hy:PyData.strOk y=true):eqD (.str x) (.str y) S=.ok (.bl (x==y)) S:=by
 simp only[eqD,toP]
 simp[SeqAt.shaped,PyData.eqv,PyData.canLay0,PyData.depth,hx,hy]
end
@[simp] theorem Gz4{l:List D}:Jf [.tup l] S=.ok (.int l.length) S:=id rfl
theorem Gds{c:Cell}(h:S[k]?=some c):Jf [.lst k] S=.ok (.int c.xs.length) S:=by
 show(match S[k]? with | some c=>Out.ok (D.int c.xs.length) S | none=>.bad)=_
 rw[h]
theorem Qh{c:Cell}{i:Int}(h:S[k]?=some c)(e:atI c.xs i=some d):getD (.lst k) (.int i) S=.ok d S:=by
 show(match S[k]? with | some c=>(match atI c.xs i with | some d=>Out.ok d S | none=>.bad) | none=>.bad)=_
 rw[h]
 show(match atI c.xs i with | some d=>Out.ok d S | none=>.bad)=_
 rw[e]
theorem Wk{l:List D}{i:Int}(e:atI l i=some d):getD (.tup l) (.int i) S=.ok d S:=by
 show(match atI l i with | some d=>Out.ok d S | none=>.bad)=_
 rw[e]
theorem Qg{α:Type}{l:List α}{i:Int}{d:α}(h0:0<=i)(e:l[i.toNat]?=some d):atI l i=some d:=by
 unfold atI ixN
 have:i.toNat<l.length:=(List.getElem?_eq_some_iff.mp e).1
 rw[if_pos h0,if_pos (by omega)]
 exact e
theorem Ghn{xs:List D}{i:Int}(h:S[k]?=some ⟨false,xs⟩)(h0:0<=i)(h1:i<xs.length):Xu (.lst k) (.int i) d S=some (S.set k ⟨false,xs.set i.toNat d⟩):=by
 show(match S[k]? with | some c=>(match ixN c.xs.length i with | some j=>if c.fz=false then some (S.set k ⟨false,c.xs.set j d⟩) else none | none=>none) | none=>none)=_
 rw[h]
 show(match ixN xs.length i with | some j=>if false=false then some (S.set k ⟨false,xs.set j d⟩) else none | none=>none)=_
 unfold ixN
 rw[if_pos h0,if_pos h1]
 rfl
@[simp] theorem Gz5{l:List Int}:Gas [.tup (l.map D.int)] S=.ok (.int l.sum) S:=by
 have:∀ l:List Int,Qc (l.map D.int)=some l:=fun l=>by
  induction l with
  | nil=>rfl
  | cons a r ih=>show(Qc (r.map D.int)).map (a::·)=_; rw[ih]; rfl
 show(match (some (l.map D.int)).bind Qc with | some ns=>Out.ok (D.int ns.sum) S | none=>.bad)=_
 rw[Option.bind_some,this]
theorem Gfr:∀ l:List Int,Qc (l.map D.int)=some l
 | []=>rfl
 | a::r=>by show(Qc (r.map D.int)).map (a::·)=_; rw[Gfr r]; rfl
end
end DL
namespace Law
open PySem PySem.Spec PyProof.Rows L2 DL
variable{c:Cell}{t k j n:Nat}{S S1 S2 S':Sto}{m:Int}{ds xs l:List D}{d:D}{ρ:Lc}{M:List Int}{α:Type}{κ:NK}
theorem Gfs{c t:Int}:∃ r,Jl [.int c,.int t] S=.ok (.int r) S:=by
 have sqr:∀ x:Int,Je (.int (x%2147483647)) (.int (x%2147483647)) S=.ok (.int (x%2147483647*(x%2147483647))) S:=fun x=>Gk9 (by omega) (by omega)
 simp[Jl,fnB,Wb,Yn,Gk9,Gdr,Gcg,sqr]
def Geu:Sv:=sif (ta (tb (o2 eqD (o2 DL.getD (vr 0) (cn (.int 1))) (cn (.int 0)))) (tb (o2 gtD (b1 Jf (ac (o2 DL.getD (vr 0) (cn (.int 0))) an)) (cn (.int 0)))))
  (sq (sa (mt Gfa (o2 DL.getD (vr 0) (cn (.int 0))) (ac (cn (.int 0)) an)) (gn 2))
  (sq (sif (tb (o2 ltD (vr 2) (o2 Ge8 (cn (.int 10)) (cn (.int 18)))))
  (sret (o2 Wl (cl 2 (Go Jl) (ac (vr 2) (ac (o2 DL.getD (vr 0) (cn (.int 3))) an))) (vr 1)))
  DL.skip)
  (ss (vr 2) (vr 0) (cn (.int 1)) Xu)))
  DL.skip
def Git:Sv:=(sq (sif (tb (o2 gtD (o2 DL.getD (vr 0) (cn (.int 1))) (cn (.int 0))))
  (sq (sa (o2 Wl (o2 DL.getD (vr 0) (cn (.int 1))) (vr 1)) (gn 3))
  (sq (ss (o2 Wf (o2 DL.getD (vr 0) (cn (.int 1))) (vr 1)) (vr 0) (cn (.int 1)) Xu)
  (sret (vr 3))))
  DL.skip)
  (sret (o2 Wl (cl 2 (Go Jl) (ac (o2 DL.getD (vr 0) (cn (.int 2))) (ac (o2 DL.getD (vr 0) (cn (.int 3))) an))) (vr 1))))
def fin(o:OS):Out D:=match o with
 | .rt d S'=>.ok d S'
 | .nx _ S'=>.ok .non S'
 | .exc x _ S'=>.exc x S'
 | _=>.bad
theorem Hg{m:Nat}{b:Sv}:fnB m b ds S=fin (b (ds.map some++List.replicate (m-ds.length) none) S):=rfl
@[simp] theorem Gy3:fin (.rt d S)=.ok d S:=rfl
structure Tp(S:Sto)(t k:Nat):Prop where
 ex:∃ (a sd n:Int) (xs:List Int),S[t]?=some ⟨false,[.lst k,.int a,.int sd,.int n]⟩/\S[k]?=some ⟨false,xs.map D.int⟩
 ne:t≠k
structure Sm(S S':Sto)(t k:Nat):Prop where
 len:S'.length=S.length
 get:∀ i,i≠t->i≠k->S'[i]?=S[i]?
theorem Sm.trans(a:Sm S S1 t k)(b:Sm S1 S2 t k):Sm S S2 t k:=⟨b.len.trans a.len,fun i h1 h2=>(b.get i h1 h2).trans (a.get i h1 h2)⟩
theorem Sm.set(h:j=t\/j=k):Sm S (S.set j c) t k:=⟨by simp,fun i h1 h2=>by
 rw[List.getElem?_set_ne]
 rcases h with h | h
 ·rw[h]; exact Ne.symm h1
 ·rw[h]; exact Ne.symm h2⟩
theorem Gon(h:Tp S t k)(hm:0<m)(hm2:m<2^200):∃ r S',Gw [.lst t,.int m] S=.ok (.int r) S'/\0<=r/\r<m/\Tp S' t k/\Sm S S' t k:=by
 obtain⟨⟨a,sd,n,xs,e1,e2⟩,ne⟩:=h
 have lt:t<S.length:=(List.getElem?_eq_some_iff.mp e1).1
 have lk:k<S.length:=(List.getElem?_eq_some_iff.mp e2).1
 have g3:getD (.lst t) (.int 3) S=.ok (.int n) S:=Qh e1 rfl
 have s3:Xu (.lst t) (.int 3) (.int (n+1)) S=some (S.set t ⟨false,[.lst k,.int a,.int sd,.int (n+1)]⟩):=Ghn e1 (by decide) (by simp)
 have e1':(S.set t ⟨false,[.lst k,.int a,.int sd,.int (n+1)]⟩)[t]?=some ⟨false,[.lst k,.int a,.int sd,.int (n+1)]⟩:=List.getElem?_set_self lt
 have e2':(S.set t ⟨false,[.lst k,.int a,.int sd,.int (n+1)]⟩)[k]?=some ⟨false,xs.map D.int⟩:=by rw[List.getElem?_set_ne ne]; exact e2
 have sm1:Sm S (S.set t ⟨false,[.lst k,.int a,.int sd,.int (n+1)]⟩) t k:=Sm.set (.inl rfl)
 generalize hS1:S.set t ⟨false,[.lst k,.int a,.int sd,.int (n+1)]⟩=S1 at *
 have lt':t<S1.length:=(List.getElem?_eq_some_iff.mp e1').1
 have lk':k<S1.length:=(List.getElem?_eq_some_iff.mp e2').1
 have g0:getD (.lst t) (.int 0) S1=.ok (.lst k) S1:=Qh e1' rfl
 have g1:getD (.lst t) (.int 1) S1=.ok (.int a) S1:=Qh e1' rfl
 have g2:getD (.lst t) (.int 2) S1=.ok (.int sd) S1:=Qh e1' rfl
 have g3':getD (.lst t) (.int 3) S1=.ok (.int (n+1)) S1:=Qh e1' rfl
 have ln:Jf [.lst k] S1=.ok (.int xs.length) S1:=by rw[Gds e2']; simp
 have rest:∀ (S2:Sto) (a2:Int) (q:Option D),S2[t]?=some ⟨false,[.lst k,.int a2,.int sd,.int (n+1)]⟩->(∃ ys:List Int,S2[k]?=some ⟨false,ys.map D.int⟩)->Sm S S2 t k->∃ r S',fin (Git [some (.lst t),some (.int m),q,none] S2)=.ok (.int r) S'/\0<=r/\r<m/\Tp S' t k/\Sm S S' t k:=by
  intro S2 a2 q h1 h2 sm
  have h0:DL.getD (.lst t) (.int 1) S2=.ok (.int a2) S2:=Qh h1 rfl
  have h02:DL.getD (.lst t) (.int 2) S2=.ok (.int sd) S2:=Qh h1 rfl
  have h03:DL.getD (.lst t) (.int 3) S2=.ok (.int (n+1)) S2:=Qh h1 rfl
  have hs:∀ d,Xu (.lst t) (.int 1) d S2=some (S2.set t ⟨false,[.lst k,d,.int sd,.int (n+1)]⟩):=fun d=>Ghn h1 (by decide) (by simp)
  have lt2:t<S2.length:=(List.getElem?_eq_some_iff.mp h1).1
  by_cases c:0<a2
  ·refine⟨a2%m,S2.set t ⟨false,[.lst k,.int (a2 / m),.int sd,.int (n+1)]⟩,?_,Int.emod_nonneg _ (by omega),Int.emod_lt_of_pos _ hm,⟨?_,ne⟩,sm.trans (Sm.set (.inl rfl))⟩
   ·simp[Git,h0,c,Yn hm,Gcg hm hm2,hs]
   ·obtain⟨ys,h2⟩:=h2
    exact⟨_,_,_,ys,List.getElem?_set_self lt2,by rw[List.getElem?_set_ne ne]; exact h2⟩
  ·obtain⟨r,hr⟩:=Gfs (c:=sd) (t:=n+1) (S:=S2)
   refine⟨r%m,S2,?_,Int.emod_nonneg _ (by omega),Int.emod_lt_of_pos _ hm,⟨?_,ne⟩,sm⟩
   ·simp[Git,h0,h02,h03,c,hr,Yn hm]
   ·obtain⟨ys,h2⟩:=h2
    exact⟨_,_,_,ys,h1,h2⟩
 show ∃ r S',fnB 4 (sq (ss (o2 Gx (o2 DL.getD (vr 0) (cn (.int 3))) (cn (.int 1))) (vr 0) (cn (.int 3)) Xu) (sq Geu Git)) [.lst t,.int m] S=.ok (.int r) S'/\_
 rw[Hg,Gam]
 have st1:ss (o2 Gx (o2 DL.getD (vr 0) (cn (.int 3))) (cn (.int 1))) (vr 0) (cn (.int 3)) Xu ([D.lst t,D.int m].map some++List.replicate (4-[D.lst t,D.int m].length) none) S=.nx [some (.lst t),some (.int m),none,none] S1:=by
  simp[g3,s3]
 rw[st1]
 by_cases c:a=0/\0<xs.length
 ·obtain⟨c1,c2⟩:=c
  cases xs with
  | nil=>simp at c2
  | cons x ys=>
   have pp:Gfa (.lst k) [.int 0] S1=.ok (.int x) (S1.set k ⟨false,ys.map D.int⟩):=by
    simp only[Gfa,e2']
    simp
   have il:isLst (.lst k) S1=true:=by simp only[isLst,e2']
   have q1:(S1.set k ⟨false,ys.map D.int⟩)[t]?=some ⟨false,[.lst k,.int a,.int sd,.int (n+1)]⟩:=by rw[List.getElem?_set_ne (Ne.symm ne)]; exact e1'
   have q2:(S1.set k ⟨false,ys.map D.int⟩)[k]?=some ⟨false,ys.map D.int⟩:=List.getElem?_set_self lk'
   have sm2:Sm S (S1.set k ⟨false,ys.map D.int⟩) t k:=sm1.trans (Sm.set (.inr rfl))
   generalize hS2:S1.set k ⟨false,ys.map D.int⟩=S2 at *
   have g3'':DL.getD (.lst t) (.int 3) S2=.ok (.int (n+1)) S2:=Qh q1 rfl
   by_cases c3:x<1000000000000000000
   ·obtain⟨r,hr⟩:=Gfs (c:=x) (t:=n+1) (S:=S2)
    refine⟨r%m,S2,?_,Int.emod_nonneg _ (by omega),Int.emod_lt_of_pos _ hm,⟨⟨_,_,_,ys,q1,q2⟩,ne⟩,sm2⟩
    simp[Geu,g0,g1,c1,ln,il,pp,c3,g3'',hr,Yn hm]
   ·have lt2:t<S2.length:=(List.getElem?_eq_some_iff.mp q1).1
    have hs:Xu (.lst t) (.int 1) (.int x) S2=some (S2.set t ⟨false,[.lst k,.int x,.int sd,.int (n+1)]⟩):=Ghn q1 (by decide) (by simp)
    obtain⟨r,S',h1,h2,h3,h4,h5⟩:=rest (S2.set t ⟨false,[.lst k,.int x,.int sd,.int (n+1)]⟩) x (some (.int x)) (List.getElem?_set_self lt2) ⟨ys,by rw[List.getElem?_set_ne ne]; exact q2⟩ (sm2.trans (Sm.set (.inl rfl)))
    refine⟨r,S',?_,h2,h3,h4,h5⟩
    rw[<- h1]
    have st2:Geu [some (.lst t),some (.int m),none,none] S1=.nx [some (.lst t),some (.int m),some (.int x),none] (S2.set t ⟨false,[.lst k,.int x,.int sd,.int (n+1)]⟩):=by
     simp[Geu,g0,g1,c1,ln,il,pp,c3,hs]
    show fin (sq Geu Git [some (.lst t),some (.int m),none,none] S1)=_
    rw[Gam,st2]
 ·obtain⟨r,S',h1,h2,h3,h4,h5⟩:=rest S1 a none e1' ⟨xs,e2'⟩ sm1
  refine⟨r,S',?_,h2,h3,h4,h5⟩
  rw[<- h1]
  have st2:Geu [some (.lst t),some (.int m),none,none] S1=.nx [some (.lst t),some (.int m),none,none] S1:=by
   by_cases ca:a=0
   ·have:¬ 0<xs.length:=fun z=>c ⟨ca,z⟩
    simp[Geu,g0,g1,ca,ln,this]
   ·simp[Geu,g1,ca]
  show fin (sq Geu Git [some (.lst t),some (.int m),none,none] S1)=_
  rw[Gam,st2]
theorem Gch{c:Ev Bool}{b:Sv}:whN c b (n+1) ρ S=bindS (c ρ S) ρ fun t S1=>if t=true then(match b ρ S1 with
    | .nx ρ2 S2=>whN c b n ρ2 S2
    | .ct ρ2 S2=>whN c b n ρ2 S2
    | .bk ρ2 S2=>.nx ρ2 S2
    | .rt d S2=>.rt d S2
    | .exc x ρ2 S2=>.exc x ρ2 S2
    | .bad=>.bad) else .nx ρ S1:=rfl
theorem Tp.app(h:Tp S t k):Tp (S++[c]) t k:=by
 obtain⟨⟨a,sd,n,xs,e1,e2⟩,ne⟩:=h
 have lt:t<S.length:=(List.getElem?_eq_some_iff.mp e1).1
 have lk:k<S.length:=(List.getElem?_eq_some_iff.mp e2).1
 exact⟨⟨a,sd,n,xs,by rw[List.getElem?_append_left lt]; exact e1,by rw[List.getElem?_append_left lk]; exact e2⟩,ne⟩
theorem Tp.lt(h:Tp S t k):t<S.length/\k<S.length:=by
 obtain⟨⟨a,sd,n,xs,e1,e2⟩,ne⟩:=h
 exact⟨(List.getElem?_eq_some_iff.mp e1).1,(List.getElem?_eq_some_iff.mp e2).1⟩
theorem Tp.set{q:Nat}(h:Tp S t k)(h1:q≠t)(h2:q≠k):Tp (S.set q c) t k:=by
 obtain⟨⟨a,sd,n,xs,e1,e2⟩,ne⟩:=h
 exact⟨⟨a,sd,n,xs,by rw[List.getElem?_set_ne h1]; exact e1,by rw[List.getElem?_set_ne h2]; exact e2⟩,ne⟩
structure Kp(S S':Sto)(t k:Nat):Prop where
 len:S.length<=S'.length
 get:∀ i,i<S.length->i≠t->i≠k->S'[i]?=S[i]?
theorem Kp.trans(a:Kp S S1 t k)(b:Kp S1 S2 t k):Kp S S2 t k:=⟨Nat.le_trans a.len b.len,fun i h h1 h2=>(b.get i (Nat.lt_of_lt_of_le h a.len) h1 h2).trans (a.get i h h1 h2)⟩
theorem Kp.at{q:Nat}(a:Kp S S' t k)(e:S[q]?=some c)(h1:q≠t)(h2:q≠k):S'[q]?=some c:=(a.get q (List.getElem?_eq_some_iff.mp e).1 h1 h2).trans e
theorem Hw:(S++[c])[S.length]?=some c:=by rw[List.getElem?_append_right (Nat.le_refl _)]; simp
theorem Xs{d:Cell}{q:Nat}(e:S[q]?=some d):(S++[c])[q]?=some d:=by
 rw[List.getElem?_append_left (List.getElem?_eq_some_iff.mp e).1]; exact e
theorem Gr{f g:Sv}{ρ':Lc}(h:f ρ S=.nx ρ' S'):fin (sq f g ρ S)=fin (g ρ' S'):=by rw[Gam,h]
theorem Sm.kp(s:Sm S S' t k):Kp S S' t k:=⟨Nat.le_of_eq s.len.symm,fun i _ h1 h2=>s.get i h1 h2⟩
theorem draw(h:Tp S t k)(hm:0<m)(hm2:m<2^200):∃ r S',Gw [.lst t,.int m] S=.ok (.int r) S'/\0<=r/\r<m/\Tp S' t k/\Kp S S' t k:=by
 obtain⟨r,S',e,a,b,c,d⟩:=Gon h hm hm2
 exact⟨r,S',e,a,b,c,d.kp⟩
inductive Pl where
 | e | c | p (br de ro:Int) (pr:D)
def Pl.toD:Pl->D
 | .e=>.tup [.str "end"]
 | .c=>.tup [.str "chamber"]
 | .p br de ro pr=>.tup [.str "pound",.int br,.int de,.int ro,pr]
def Pl.ok:Pl->Prop
 | .p br de ro pr=>1<=br/\br<=9/\0<=de/\de<=br/\1<=ro/\ro<=4/\(pr=.non\/∃ i,pr=.int i/\0<=i/\i<=99)
 | _=>True
theorem Gft{q:Nat}(e:S[q]?=some ⟨false,xs⟩)(h:xs.length<1000000):Gbn (.lst q) [d] S=.ok .non (S.set q ⟨false,xs++[d]⟩):=by
 simp only[Gbn,e]
 simp[h]
theorem isL{q:Nat}(e:S[q]?=some c):isLst (.lst q) S=true:=by simp only[isLst,e]
theorem We{nxt:Nat->Sto->Option D}{g:Tg}{b:Sv}{l:List D}(I:Nat->Lc->Sto->Prop)(hn:∀ k ρ S,I k ρ S->nxt k S=l[k]?)(hs:∀ k d ρ S,l[k]?=some d->I k ρ S->∃ ρ1 ρ2 S2,g d ρ=some ρ1/\b ρ1 S=.nx ρ2 S2/\I (k+1) ρ2 S2):
  ∀ (n k:Nat) (ρ:Lc) (S:Sto),k<=l.length->I k ρ S->l.length<n+k->∃ ρ' S',Ky nxt g b n k ρ S=.nx ρ' S'/\I l.length ρ' S'
 | 0,k,ρ,S,h1,_,h2=>by omega
 | n+1,k,ρ,S,h1,hI,h2=>by
  unfold Ky
  rw[hn k ρ S hI]
  cases z:l[k]? with
  | none=>
   have:k=l.length:=by have:=List.getElem?_eq_none_iff.mp z; omega
   subst this
   exact⟨ρ,S,rfl,hI⟩
  | some d=>
   obtain⟨ρ1,ρ2,S2,h3,h4,h5⟩:=hs k d ρ S z hI
   have hk:k<l.length:=(List.getElem?_eq_some_iff.mp z).1
   obtain⟨ρ',S',h6,h7⟩:=We I hn hs n (k+1) ρ2 S2 hk h5 (by omega)
   refine⟨ρ',S',?_,h7⟩
   simp only[h3,h4]
   exact h6
def Ga6(l:List D):Src:=⟨fun k _=>l[k]?,l.length+1⟩
def Xv(i n:Nat):Src:=⟨fun k S=>(S[i]?).bind fun c=>c.xs[k]?,n+1⟩
theorem Gho{i:Nat}(e:S[i]?=some c):Gdj (.lst i) S=.ok (Xv i c.xs.length) S:=by
 simp only[Gdj,e]
 rfl
theorem Gw3:l.length<(Ga6 l).fuel+0:=Nat.lt_succ_self _
theorem Ghp:(rsrc 0 n).nxt k S=((List.range n).map fun k:Nat=>D.int (k:Int))[k]?:=by
 show(if k<n then some (D.int (0+k)) else none)=_
 rw[List.getElem?_map]
 by_cases c:k<n
 ·rw[if_pos c,List.getElem?_range c]; simp
 ·rw[if_neg c,List.getElem?_eq_none (by simp; omega)]; rfl
theorem Gt3(h:((List.range n).map fun k:Nat=>D.int (k:Int))[k]?=some d):k<n/\d=.int k:=by
 have hk:k<n:=by have:=(List.getElem?_eq_some_iff.mp h).1; simpa using this
 rw[List.getElem?_map,List.getElem?_range hk] at h
 exact⟨hk,(Option.some.inj h).symm⟩
theorem Gla{f:Ev (List D)}(h:f ρ S=.ok [.int n] S')(hn:n<=1000000):ir1 f ρ S=.ok (rsrc 0 n) S':=by
 unfold ir1
 rw[h]
 show(if -1000000000000<=(n:Int)/\(n:Int)<=1000000000000 then Out.ok (rsrc 0 (n:Int).toNat) S' else .bad)=_
 rw[if_pos (by omega)]; rfl
theorem Ggu{i:Nat}{a b:List D}(h1:S[i]?=some ⟨false,a⟩)(h2:S[j]?=some ⟨false,b⟩)(h:a.length+b.length<=1000000):Gx (.lst i) (.lst j) S=.ok (.lst S.length) (S++[⟨false,a++b⟩]):=by
 simp only[Gx,h1,h2]
 simp[h]
theorem Goo{i:Nat}(e:S[i]?=some ⟨false,[d]⟩)(hn:n<=1000):Je (.lst i) (.int n) S=.ok (.lst S.length) (S++[⟨false,List.replicate n d⟩]):=by
 have fl:∀ n:Nat,(List.replicate n [d]).flatten=List.replicate n d:=fun n=>by
  induction n with
  | zero=>rfl
  | succ n ih=>rw[List.replicate_succ,List.flatten_cons,ih]; rfl
 simp only[Je,e]
 rw[if_pos (by simp; omega)]
 simp[fl]
theorem Gfu{q:Nat}(e:S[q]?=some c):Gbm [.lst q] S=.ok (.tup c.xs) S:=by
 simp only[Gbm,e]
def Pl.isC:Pl->Bool
 | .c=>true
 | _=>false
def Pl.isE:Pl->Bool
 | .e=>true
 | _=>false
theorem stok(s:String):PyData.strOk (Str.ofString s)=true:=by
 unfold PyData.strOk
 have hc:∀ c:Char,c.toNat<1114112:=fun c=>by
  rcases c.valid with h | ⟨_,h⟩
  ·exact Nat.lt_of_lt_of_le h (by decide)
  ·exact h
 rw[Str.ofString_eq_toList]
 simp[hc]
theorem Gop{p:Pl}(h:p.ok):eqD p.toD (.tup [.str "chamber"]) S=.ok (.bl p.isC) S:=by
 have n1:(Str.ofString "end"==Str.ofString "chamber")=false:=by decide +kernel
 have n2:(Str.ofString "pound"==Str.ofString "chamber")=false:=by decide +kernel
 cases p with
 | e=>simp[Pl.toD,eqD,toP,Ul,SeqAt.shaped,PyData.canLay0,PyData.canLayAll0,PyData.depth,PyData.depthAll,stok,PyData.eqv,PyData.eqvAll,n1,Pl.isC]
 | c=>simp[Pl.toD,eqD,toP,Ul,SeqAt.shaped,PyData.canLay0,PyData.canLayAll0,PyData.depth,PyData.depthAll,stok,PyData.eqv,PyData.eqvAll,Pl.isC]
 | p br de ro pr=>
  obtain⟨_,_,_,_,_,_,h⟩:=h
  rcases h with rfl | ⟨i,rfl,_⟩
  ·simp[Pl.toD,eqD,toP,Ul,SeqAt.shaped,PyData.canLay0,PyData.canLayAll0,PyData.depth,PyData.depthAll,stok,PyData.eqv,PyData.eqvAll,n2,Pl.isC]
  ·simp[Pl.toD,eqD,toP,Ul,SeqAt.shaped,PyData.canLay0,PyData.canLayAll0,PyData.depth,PyData.depthAll,stok,PyData.eqv,PyData.eqvAll,n2,Pl.isC]
theorem Gev{p:Pl}(h:p.ok):eqD p.toD (.tup [.str "end"]) S=.ok (.bl p.isE) S:=by
 have n1:(Str.ofString "chamber"==Str.ofString "end")=false:=by decide +kernel
 have n2:(Str.ofString "pound"==Str.ofString "end")=false:=by decide +kernel
 cases p with
 | e=>simp[Pl.toD,eqD,toP,Ul,SeqAt.shaped,PyData.canLay0,PyData.canLayAll0,PyData.depth,PyData.depthAll,stok,PyData.eqv,PyData.eqvAll,Pl.isE]
 | c=>simp[Pl.toD,eqD,toP,Ul,SeqAt.shaped,PyData.canLay0,PyData.canLayAll0,PyData.depth,PyData.depthAll,stok,PyData.eqv,PyData.eqvAll,n1,Pl.isE]
 | p br de ro pr=>
  obtain⟨_,_,_,_,_,_,h⟩:=h
  rcases h with rfl | ⟨i,rfl,_⟩
  ·simp[Pl.toD,eqD,toP,Ul,SeqAt.shaped,PyData.canLay0,PyData.canLayAll0,PyData.depth,PyData.depthAll,stok,PyData.eqv,PyData.eqvAll,n2,Pl.isE]
  ·simp[Pl.toD,eqD,toP,Ul,SeqAt.shaped,PyData.canLay0,PyData.canLayAll0,PyData.depth,PyData.depthAll,stok,PyData.eqv,PyData.eqvAll,n2,Pl.isE]
theorem Gt4{l:List Int}(h:(l.map D.int)[k]?=some d):∃ i,d=.int i/\l[k]?=some i:=by
 rw[List.getElem?_map] at h
 cases z:l[k]? with
 | none=>rw[z] at h; cases h
 | some i=>rw[z] at h; cases h; exact⟨i,rfl,rfl⟩
theorem Gt5{q:Nat}{lo hi:Option Int}(e:S[q]?=some c):Gbq (.lst q) lo hi S=.ok (.lst S.length) (S++[⟨false,DL.Um c.xs lo hi⟩]):=by
 simp only[Gbq,e]
theorem Gt6{q:Nat}(e:S[q]?=some c):Gad [.lst q] S=.ok (.lst S.length) (S++[⟨false,c.xs⟩]):=by
 simp only[Gad,e]
theorem Goq{ns:List Int}{lo hi:Option Int}:∃ ys:List Int,DL.Um (ns.map D.int) lo hi=ys.map D.int:=
 ⟨(ns.drop (HT.sIx (ns.map D.int).length 0 lo)).take (HT.sIx (ns.map D.int).length (ns.map D.int).length hi-HT.sIx (ns.map D.int).length 0 lo),by unfold DL.Um; rw[List.map_take,List.map_drop]⟩
theorem Gor{q:Nat}{fz:Bool}{ns:List Int}(e:S[q]?=some ⟨fz,ns.map D.int⟩):∃ (t k:Nat) (S':Sto),Xn [.lst q] S=.ok (.lst t) S'/\Tp S' t k:=by
 obtain⟨ys,hy⟩:=Goq (ns:=ns) (lo:=none) (hi:=some 63)
 have s1:Gbq (.lst q) none (some 63) S=.ok (.lst S.length) (S++[⟨false,ys.map D.int⟩]):=by rw[Gt5 e,hy]
 have q1:(S++[⟨false,ys.map D.int⟩])[S.length]?=some (⟨false,ys.map D.int⟩:Cell):=Hw
 have e1:=Xs (c:=⟨false,ys.map D.int⟩) e
 generalize hS1:S++[⟨false,ys.map D.int⟩]=S1 at *
 have hsrc:Gdj (.lst S.length) S1=.ok (Xv S.length (ys.map D.int).length) S1:=Gho q1
 obtain⟨ρ',S',ef,sd,g,e2,e3⟩:=We (nxt:=(Xv S.length (ys.map D.int).length).nxt) (g:=gn 2) (b:=Qx) (l:=ys.map D.int) (fun k ρ S'=>∃ sd g,ρ=[some (.lst q),some (.int sd),g]/\S'=S1)
  (fun k ρ S2 ⟨_,_,_,h⟩=>by
   subst h
   show(S2[S.length]?).bind (fun c=>c.xs[k]?)=_
   rw[q1]; rfl) (fun k d ρ S2 hd ⟨sd,g,h1,h2⟩=>by
   obtain⟨i,rfl,_⟩:=Gt4 hd
   subst h1 h2
   exact⟨_,[some (.lst q),some (.int ((sd*69621+i)%2147483647)),some (.int i)],_,rfl,by simp[Qx,Gk9,Yn],_,_,rfl,rfl⟩) (Xv S.length (ys.map D.int).length).fuel 0 [some (.lst q),some (.int 0),none] S1 (Nat.zero_le _) ⟨0,none,rfl,rfl⟩ (Nat.lt_succ_self _)
 subst e2 e3
 have s2:Gbq (.lst q) none (some 63) S'=.ok (.lst S'.length) (S'++[⟨false,ys.map D.int⟩]):=by rw[Gt5 e1,hy]
 have q2:(S'++[⟨false,ys.map D.int⟩])[S'.length]?=some (⟨false,ys.map D.int⟩:Cell):=Hw
 generalize hS2:S'++[⟨false,ys.map D.int⟩]=S2 at *
 have s3:=Gt6 q2
 have q3:(S2++[⟨false,ys.map D.int⟩])[S2.length]?=some (⟨false,ys.map D.int⟩:Cell):=Hw
 have l3:(S2++[(⟨false,ys.map D.int⟩:Cell)]).length=S2.length+1:=by simp
 have s3:Gad [.lst S'.length] S2=.ok (.lst S2.length) (S2++[⟨false,ys.map D.int⟩]):=s3
 generalize hS3:S2++[⟨false,ys.map D.int⟩]=S3 at *
 refine⟨S3.length,S2.length,S3++[⟨false,[.lst S2.length,.int 0,.int sd,.int 0]⟩],?_,⟨⟨0,sd,0,ys,Hw,Xs q3⟩,by omega⟩⟩
 refine(Hg (m:=3) (b:=Qb)).trans ?_
 show fin (Qb [some (.lst q),none,none] S)=_
 unfold Qb
 refine(Gr (ρ':=[some (.lst q),some (.int 0),none]) (S':=S) (by simp)).trans ?_
 refine(Gr (ρ':=[some (.lst q),some (.int sd),g]) (S':=S') ?_).trans ?_
 ·simp[s1,hsrc,-List.length_map]
  exact ef
 ·simp[s2,s3]
structure Ex(S S':Sto):Prop where
 len:S.length<=S'.length
 get:∀ i,i<S.length->S'[i]?=S[i]?
theorem Ex.refl:Ex S S:=⟨Nat.le_refl _,fun _ _=>rfl⟩
theorem Ex.trans(a:Ex S S1)(b:Ex S1 S2):Ex S S2:=⟨Nat.le_trans a.len b.len,fun i h=>(b.get i (Nat.lt_of_lt_of_le h a.len)).trans (a.get i h)⟩
theorem Ex.app:Ex S (S++[c]):=⟨by simp,fun i h=>by rw[List.getElem?_append_left h]⟩
theorem Ex.setq{S0:Sto}{q:Nat}(a:Ex S0 S)(h:S0.length<=q):Ex S0 (S.set q c):=⟨by simp; exact a.len,fun i hi=>by rw[List.getElem?_set_ne (by omega)]; exact a.get i hi⟩
theorem Ex.at{q:Nat}(a:Ex S S')(e:S[q]?=some c):S'[q]?=some c:=(a.get q (List.getElem?_eq_some_iff.mp e).1).trans e
theorem Tp.ext(h:Tp S t k)(x:Ex S S'):Tp S' t k:=by
 obtain⟨⟨a,b,c,xs,e1,e2⟩,ne⟩:=h
 exact⟨⟨a,b,c,xs,x.at e1,x.at e2⟩,ne⟩
theorem Qz{a:Nat}{e:Ev D}(h:e ρ S=.ok d S2)(q:S2[a]?=some ⟨false,xs⟩)(hl:xs.length<1000000):cbody a ttrue e ρ S=.nx ρ (S2.set a ⟨false,xs++[d]⟩):=by
 show bindS (ttrue ρ S) ρ _=_
 show bindS (e ρ S) ρ _=_
 rw[h]
 simp only[Gcf,q]
 rw[if_pos (by simp[hl])]
theorem Zw{f:Ev Src}{pk:List (Option Nat)}{g:Tg}{c:Ev Bool}{e:Ev D}{ρ':Lc}{s:Src}(h:f ρ S=.ok s S1)(l:Ky s.nxt g (cbody S1.length c e) s.fuel 0 (pkS pk ρ) (S1++[⟨false,[]⟩])=.nx ρ' S'):cmp f pk g c e ρ S=.ok (.lst S1.length) S':=by
 unfold cmp
 rw[h]
 simp only[Gba,l]
theorem p0e:DL.getD (.tup (d::l)) (.int 0) S=.ok d S:=Wk (Qg (by decide) rfl)
theorem p1e{e:D}:DL.getD (.tup (e::d::l)) (.int 1) S=.ok d S:=Wk (Qg (by decide) rfl)
theorem Ghq:∀ bs:List Bool,Gae (bs.map D.bl)=some bs
 | []=>rfl
 | b::r=>by
  show(match Gae (r.map D.bl) with | some r=>some (b::r) | none=>none)=_
  rw[Ghq r]
theorem Gp7{i:Nat}{bs:List Bool}(e:S[i]?=some ⟨false,bs.map D.bl⟩):Gar [.lst i] S=.ok (.bl (bs.all id)) S:=by
 simp only[Gar,e,Ghq]
theorem Glb{pk:List (Option Nat)}{e:Ev D}{f:Ev D}(rest:Lc)(v:D->Bool)(hf:f ρ S=.ok (.tup l) S)(hp:pkS pk ρ=none::rest)(hl:l.length<1000)(he:∀ d∈l,∀ S':Sto,Ex S S'->∃ S'',e (some d::rest) S'=.ok (.bl (v d)) S''/\Ex S' S''):
  ∃ S',(cmp (isrc f) pk (gn 0) ttrue e ρ S).bind (fun x S1=>Gar [x] S1)=.ok (.bl (l.all v)) S'/\Ex S S':=by
 obtain⟨ρ',S',el,g,hρ,hq,hx⟩:=We (nxt:=(Ga6 l).nxt) (g:=gn 0) (b:=cbody S.length ttrue e) (l:=l)
  (fun i ρ S'=>∃ g,ρ=g::rest/\S'[S.length]?=some ⟨false,((l.take i).map v).map D.bl⟩/\Ex S S')
  (fun _ _ _ _=>rfl) (fun i d ρ S' hd ⟨g,h1,h2,h3⟩=>by
   subst h1
   have hi:i<l.length:=(List.getElem?_eq_some_iff.mp hd).1
   obtain⟨S'',e1,e2⟩:=he d (List.mem_of_getElem? hd) S' h3
   have q'':=e2.at h2
   have lq:S.length<S''.length:=(List.getElem?_eq_some_iff.mp q'').1
   refine⟨_,_,_,rfl,Qz e1 q'' (by simp; omega),some d,rfl,?_,(h3.trans e2).setq (Nat.le_refl _)⟩
   rw[List.getElem?_set_self lq]
   have:l.take (i+1)=l.take i++[d]:=by rw[List.take_add_one,hd]; rfl
   rw[this]
   simp) (Ga6 l).fuel 0 (none::rest) (S++[⟨false,[]⟩]) (Nat.zero_le _) ⟨none,rfl,by simp[Hw],Ex.app⟩ Gw3
 rw[List.take_length] at hq
 have hc:=Zw (pk:=pk) (ρ:=ρ) (S:=S) (f:=isrc f) (s:=Ga6 l) (S1:=S) (by rw[Ghm,hf]; rfl) (by rw[hp]; exact el)
 refine⟨S',?_,hx⟩
 rw[hc,Gba,Gp7 hq]
 simp[List.all_map]
def wat:Pl->Int
 | .e=>0
 | .c=>1
 | .p br _ _ _=>br
theorem Glc{p:Pl}(h:p.ok):Jt [p.toD] S=.ok (.int (wat p)) S:=by
 have e1:=fun S=>Gev (S:=S) h
 have e2:=fun S=>Gop (S:=S) h
 cases p with
 | e=>simp[Jt,fnB,Kk,c_END,c_CHAMBER,e1,Pl.isE,wat]
 | c=>simp[Jt,fnB,Kk,c_END,c_CHAMBER,e1,e2,Pl.isE,Pl.isC,wat]
 | p br de ro pr=>
  have g:∀ S,DL.getD (Pl.toD (.p br de ro pr)) (.int 1) S=.ok (.int br) S:=fun S=>p1e
  simp[Jt,fnB,Kk,c_END,c_CHAMBER,e1,e2,Pl.isE,Pl.isC,wat,g]
def hol:Pl->Int->Bool
 | .e,_=>true
 | .c,b=>decide (b<=1)
 | .p _ _ ro _,b=>decide (b<=ro)
def stD(L R F:List Int):D:=.tup [.tup (L.map D.int),.tup (R.map D.int),.tup (F.map D.int)]
theorem Uj{L:List Int}{i:Int}(h:L[k]?=some i):DL.getD (.tup (L.map D.int)) (.int k) S=.ok (.int i) S:=
 Wk (Qg (by omega) (by rw[Int.toNat_natCast,List.getElem?_map,h]; rfl))
theorem Zx{a b:List D}(h:a.length+b.length<=1000000):Gx (.tup a) (.tup b) S=.ok (.tup (a++b)) S:=by
 show(if a.length+b.length<=1000000 then Out.ok (D.tup (a++b)) S else .bad)=_
 rw[if_pos h]
theorem Gos(h:1<=M.length):Gbq (.tup (M.map D.int)) none (some (-1)) S=.ok (.tup ((M.take (M.length-1)).map D.int)) S:=by
 have e2:HT.sIx (M.map D.int).length (M.map D.int).length (some (-1))=M.length-1:=by
  show(if(-1:Int)<0 then((-1:Int)+((M.map D.int).length:Int)).toNat else min (-1:Int).toNat (M.map D.int).length)=_
  rw[if_pos (by decide)]
  simp
  omega
 show(if HT.sIx (M.map D.int).length 0 none=0/\HT.sIx (M.map D.int).length (M.map D.int).length (some (-1))=(M.map D.int).length then Out.ok (D.tup (M.map D.int)) S else .ok (.tup (DL.Um (M.map D.int) none (some (-1)))) S)=_
 rw[if_neg (by rw[e2,List.length_map]; omega)]
 unfold DL.Um
 rw[e2,HT.Wp,List.map_take]
 rfl
theorem Gld{x:D}:Gbq (.tup (x::l)) (some 1) none S=.ok (.tup l) S:=by
 have e1:HT.sIx (x::l).length 0 (some 1)=1:=by
  have:=HT.Ga8 (x::l).length 0 1
  rw[show((1:Nat):Int)=1 from rfl] at this
  rw[this]
  simp
 show(if HT.sIx (x::l).length 0 (some 1)=0/\HT.sIx (x::l).length (x::l).length none=(x::l).length then Out.ok (D.tup (x::l)) S else .ok (.tup (DL.Um (x::l) (some 1) none)) S)=_
 rw[if_neg (by rw[e1]; simp)]
 unfold DL.Um
 rw[e1,HT.Wp]
 simp
theorem Got(h:1<=M.length):Gbq (.tup (M.map D.int)) (some 1) none S=.ok (.tup ((M.drop 1).map D.int)) S:=by
 cases M with
 | nil=>simp at h
 | cons a M=>exact Gld
theorem Gou(h:k<M.length):Gbq (.tup (M.map D.int)) none (some (k:Int)) S=.ok (.tup ((M.take k).map D.int)) S:=by
 have e2:HT.sIx (M.map D.int).length (M.map D.int).length (some (k:Int))=k:=by
  rw[HT.Ga8,List.length_map]
  omega
 show(if HT.sIx (M.map D.int).length 0 none=0/\HT.sIx (M.map D.int).length (M.map D.int).length (some (k:Int))=(M.map D.int).length then Out.ok (D.tup (M.map D.int)) S else .ok (.tup (DL.Um (M.map D.int) none (some (k:Int)))) S)=_
 rw[if_neg (by rw[e2,List.length_map]; omega)]
 unfold DL.Um
 rw[e2,HT.Wp,List.map_take]
 rfl
theorem Gov(h:k<M.length):Gbq (.tup (M.map D.int)) (some ((k:Int)+1)) none S=.ok (.tup ((M.drop (k+1)).map D.int)) S:=by
 have e1:HT.sIx (M.map D.int).length 0 (some ((k:Int)+1))=k+1:=by
  have:=HT.Ga8 (M.map D.int).length 0 (k+1)
  rw[show((k+1:Nat):Int)=(k:Int)+1 from by push_cast; rfl] at this
  rw[this,List.length_map]
  omega
 show(if HT.sIx (M.map D.int).length 0 (some ((k:Int)+1))=0/\HT.sIx (M.map D.int).length (M.map D.int).length none=(M.map D.int).length then Out.ok (D.tup (M.map D.int)) S else .ok (.tup (DL.Um (M.map D.int) (some ((k:Int)+1)) none)) S)=_
 rw[if_neg (by rw[e1]; omega)]
 unfold DL.Um
 rw[e1,HT.Wp,List.map_drop,List.take_of_length_le (by simp)]
theorem Gbb{r:Int}(h:M[k]?=some r)(hl:M.length<=1000):Jb [.tup (M.map D.int),.int k,.int m] S=.ok (.tup ((M.set k (r+m)).map D.int)) S:=by
 have hk:k<M.length:=(List.getElem?_eq_some_iff.mp h).1
 have g:=Uj (S:=S) h
 have a1:Gx (.tup ((M.take k).map D.int)) (.tup [.int (r+m)]) S=.ok (.tup ((M.take k).map D.int++[.int (r+m)])) S:=Zx (by simp; omega)
 have a2:Gx (.tup ((M.take k).map D.int++[.int (r+m)])) (.tup ((M.drop (k+1)).map D.int)) S=.ok (.tup ((M.take k).map D.int++[.int (r+m)]++(M.drop (k+1)).map D.int)) S:=Zx (by simp; omega)
 refine(Hg (m:=3) (b:=Qa)).trans ?_
 show fin (Qa [some (.tup (M.map D.int)),some (.int k),some (.int m)] S)=_
 have e:(M.take k).map D.int++[.int (r+m)]++(M.drop (k+1)).map D.int=(M.set k (r+m)).map D.int:=by
  rw[List.set_eq_take_append_cons_drop,if_pos hk]
  simp
 rw[e] at a2
 simp[Qa,Gou hk,Gov hk,g,a1,a2,-List.map_take,-List.map_drop,-List.map_set]
def gd(u:Bool):D:=.str (if u=true then "up" else "down")
def cD(ps:List Pl)(us:List Bool):D:=.tup [.tup (ps.map Pl.toD),.tup (us.map gd)]
theorem Gt7{a b:Char}(h:a.toNat=b.toNat):a=b:=by
 have:=congrArg Char.ofNat h
 rwa [Char.ofNat_toNat,Char.ofNat_toNat] at this
theorem Gle:∀ {a b:List Char},a.map Char.toNat=b.map Char.toNat->a=b
 | [],[],_=>rfl
 | [],_::_,h=>by simp at h
 | _::_,[],h=>by simp at h
 | x::a,y::b,h=>by
  rw[List.map_cons,List.map_cons] at h
  obtain⟨h1,h2⟩:=List.cons.inj h
  rw[Gt7 h1,Gle h2]
theorem Gt8{s t:String}(h:Str.ofString s=Str.ofString t):s=t:=by
 rw[Str.ofString_eq_toList,Str.ofString_eq_toList] at h
 have h1:(s.toList.map Char.toNat).toArray=(t.toList.map Char.toNat).toArray:=congrArg Str.cps h
 exact String.toList_inj.mp (Gle (congrArg Array.toList h1))
theorem ell{s t:String}:eqD (.str (Str.ofString s)) (.str (Str.ofString t)) S=.ok (.bl (decide (s=t))) S:=by
 rw[Gw2 (stok s) (stok t)]
 by_cases c:s=t
 ·subst c; simp
 ·rw[decide_eq_false c]
  congr 2
  exact beq_eq_false_iff_ne.mpr fun h=>c (Gt8 h)
theorem Gfv{x y:D}{b:Bool}(h:eqD x y S=.ok (.bl b) S):neD x y S=.ok (.bl (!b)) S:=by
 unfold eqD at h
 unfold neD
 split at h
 ·rename_i p q hp hq
  by_cases hs:(SeqAt.shaped p&&SeqAt.shaped q)=true
  ·rw[if_pos hs] at h ⊢
   have:PyData.eqv p q=b:=by
    injection h with h1 _
    injection h1
   rw[this]
  ·rw[if_neg hs] at h
   cases h
 ·cases h
section
variable{ps:List Pl}{us:List Bool}{S:Sto}{k:Nat}{p:Pl}{u:Bool}
theorem cd0:DL.getD (cD ps us) (.int 0) S=.ok (.tup (ps.map Pl.toD)) S:=p0e
theorem cd1:DL.getD (cD ps us) (.int 1) S=.ok (.tup (us.map gd)) S:=p1e
theorem gP(h:ps[k]?=some p):DL.getD (.tup (ps.map Pl.toD)) (.int k) S=.ok p.toD S:=Wk (Qg (by omega) (by rw[Int.toNat_natCast,List.getElem?_map,h]; rfl))
theorem gU(h:us[k]?=some u):DL.getD (.tup (us.map gd)) (.int k) S=.ok (gd u) S:=Wk (Qg (by omega) (by rw[Int.toNat_natCast,List.getElem?_map,h]; rfl))
theorem upE:eqD (gd u) (.str "up") S=.ok (.bl u) S:=by cases u<;>simp[gd,ell]
def hiI(u:Bool)(k:Nat):Nat:=if u=true then k+1 else k
def loI(u:Bool)(k:Nat):Nat:=if u=true then k else k+1
theorem Ghr(h:us[k]?=some u):Xg [cD ps us,.int k] S=.ok (.int (hiI u k)) S:=by
 have k1:c_UP=.str "up":=rfl
 show fnB 2 Zd _ S=_
 rw[Hg]
 simp only[Zd,k1]
 cases u<;>simp[cd1,gU h,upE,hiI,fin]
theorem Glf(h:us[k]?=some u):Ze [cD ps us,.int k] S=.ok (.int (loI u k)) S:=by
 have k1:c_UP=.str "up":=rfl
 show fnB 2 Ga9 _ S=_
 rw[Hg]
 simp only[Ga9,k1]
 cases u<;>simp[cd1,gU h,upE,loI,fin]
theorem Gt9{l:Int}(h:p.ok):Gb2 [p.toD,.int l] S=.ok (.bl (!p.isE&&decide (l=0))) S:=by
 have k1:c_END=.tup [.str "end"]:=rfl
 have e:=Gfv (Gev (S:=S) h)
 show fnB 2 Yz _ S=_
 rw[Hg]
 generalize p.toD=pd at *
 simp only[Yz,k1]
 cases hE:p.isE<;>rw[hE] at e<;>simp[e,fin]
theorem Ghs{l:Int}(h:p.ok):Xr [p.toD,.int l] S=.ok (.bl (!p.isE&&decide (wat p<=l))) S:=by
 have k1:c_END=.tup [.str "end"]:=rfl
 have e:=Gfv (Gev (S:=S) h)
 have wt:=Glc (S:=S) h
 show fnB 2 Xq _ S=_
 rw[Hg]
 generalize p.toD=pd at *
 simp only[Xq,k1]
 cases hE:p.isE<;>rw[hE] at e<;>simp[e,wt,fin]
def spr:Pl->D
 | .p _ _ _ pr=>pr
 | _=>.non
theorem Giu(h:p.ok):Qi [p.toD] S=.ok (.bl (match spr p with | .int _=>true | _=>false)) S:=by
 show fnB 1 Jk _ S=_
 rw[Hg]
 have g4:∀ {a b c d e:D},DL.getD (.tup [a,b,c,d,e]) (.int 4) S=.ok e S:=Wk (Qg (by decide) rfl)
 cases p with
 | e=>simp[Jk,Pl.toD,p0e,ell,spr,fin]
 | c=>simp[Jk,Pl.toD,p0e,ell,spr,fin]
 | p br de ro pr=>
  obtain⟨_,_,_,_,_,_,h⟩:=h
  rcases h with rfl | ⟨i,rfl,_⟩
  ·have:Gdk .non .non S=.ok (.bl false) S:=rfl
   simp[Jk,Pl.toD,p0e,g4,ell,spr,this,fin]
  ·have:Gdk (.int i) .non S=.ok (.bl true) S:=rfl
   simp[Jk,Pl.toD,p0e,g4,ell,spr,this,fin]
theorem Gow{n:Int}:Qj [cD ps us,.int n] S=if 0<=n/\n<us.length then .ok .non S else .exc ⟨"NoGate",none⟩ S:=by
 have ln:Jf [.tup (us.map gd)] S=.ok (.int us.length) S:=by simp[Jf]
 show fnB 2 Ju _ S=_
 rw[Hg]
 by_cases c0:0<=n
 ·by_cases c1:n<us.length
  ·rw[if_pos ⟨c0,c1⟩]
   simp[Ju,cd1,ln,c0,c1,fin]
  ·rw[if_neg (fun h=>c1 h.2)]
   simp[Ju,cd1,ln,c0,c1,srs,fin]
 ·rw[if_neg (fun h=>c0 h.1)]
  simp[Ju,cd1,ln,c0,srs,fin]
end
theorem Gdt{f:Fn}(h:f ds S=.ok d S'):gX ys f ds S=.ok d S':=by simp only[gX,h]
theorem Gci{f:Fn}{x:XD}(h:f ds S=.exc x S')(hx:x.cls∈ys):gX ys f ds S=.exc x S':=by simp only[gX,h,if_pos hx]
@[simp] theorem Gz6{g:Tgs}:gt g n (.tup ds) ρ=if ds.length=n then g ds ρ else none:=id rfl
@[simp] theorem Gz7{g:Tg}{c:Tgs}:gcons g c (d::ds) ρ=(g d ρ).bind fun ρ'=>c ds ρ':=id rfl
@[simp] theorem Gz8:gnil [] ρ=some ρ:=id rfl
@[simp] theorem Gy4{i:Nat}{f:Ev (List D)}:spar i j f ρ S=bindS (f ρ S) ρ fun ds S1=>match ds with
 | [d,e]=>.nx ((ρ.set i (some d)).set j (some e)) S1
 | _=>.bad:=id rfl
@[simp] theorem Gw4{β:Type}{x:XD}{g:α->Sto->Out β}:(Out.exc x S:Out α).bind g=.exc x S:=id rfl
@[simp] theorem Gu4{x:XD}{g:α->Sto->OS}:bindS (Out.exc x S:Out α) ρ g=.exc x ρ S:=id rfl
abbrev iD(L:List Int):D:=.tup (L.map D.int)
structure St(ps:List Pl)(L R F:List Int):Prop where
 lL:L.length=ps.length
 lR:R.length=ps.length
 lF:F.length=ps.length
 g:∀ (i:Nat) (p:Pl) (l r f:Int),ps[i]?=some p->L[i]?=some l->R[i]?=some r->F[i]?=some f->0<=l/\l<=wat p/\0<=r/\0<=f/\hol p (r+f)=true
theorem Gdu{l:List α}{i:Nat}(h:i<l.length):∃ a,l[i]?=some a:=⟨l[i],List.getElem?_eq_getElem h⟩
theorem Gew:∀ {L:List Int} {i:Nat} {a v:Int},L[i]?=some a->(L.set i v).sum=L.sum-a+v
 | [],_,_,_,h=>by simp at h
 | x::l,0,a,v,h=>by simp at h; subst h; simp; omega
 | x::l,i+1,a,v,h=>by
  have:=Gew (v:=v) (L:=l) (i:=i) (a:=a) (by simpa using h)
  simp[this]; omega
def spb(p:Pl):Bool:=match spr p with | .int _=>true | _=>false
def adj(p:Pl)(h:Nat)(a m:Int)(L:List Int):List Int:=if p.isE=true then L else L.set h (a+m)
def mv(M:List Int)(i j:Nat)(a b:Int):List Int:=(M.set i (a-1)).set j (b+1)
section
variable{ps:List Pl}{us:List Bool}{S:Sto}{k h l:Nat}{p q:Pl}{u:Bool}{L R F:List Int}{a b:Int}
theorem st0:DL.getD (stD L R F) (.int 0) S=.ok (iD L) S:=p0e
theorem Ght(hp:ps[h]?=some p)(ok:p.ok)(ha:L[h]?=some a)(hl:L.length<=1000):Km [cD ps us,iD L,.int h,.int m] S=.ok (iD (adj p h a m L)) S:=by
 have k1:c_END=.tup [.str "end"]:=rfl
 have e:=Gev (S:=S) ok
 have g:=gP (S:=S) hp
 have mo:=Gbb (S:=S) (m:=m) ha hl
 unfold Km
 rw[Hg]
 generalize p.toD=pd at *
 simp only[Vy,k1]
 cases hE:p.isE<;>rw[hE] at e<;>simp[e,cd0,g,mo,adj,hE,fin]
theorem Gua(hu:us[k]?=some u)(hh:hiI u k=h)(hl:loI u k=l)(h1:ps[h]?=some p)(h2:ps[l]?=some q)(j1:p.ok)(j2:q.ok)(a1:L[h]?=some a)(a2:L[l]?=some b)(ne:h≠l)(ln:L.length<=1000):Vz [cD ps us,stD L R F,.int k] S=.ok (stD (adj q l b 1 (adj p h a (-1) L)) R F) S:=by
 have e1:=Ghr (ps:=ps) (S:=S) hu
 have e2:=Glf (ps:=ps) (S:=S) hu
 rw[hh] at e1
 rw[hl] at e2
 have w1:=Ght (us:=us) (S:=S) (m := -1) h1 j1 a1 ln
 have a3:(adj p h a (-1) L)[l]?=some b:=by
  unfold adj
  split
  ·exact a2
  ·rw[List.getElem?_set_ne ne]; exact a2
 have l3:(adj p h a (-1) L).length<=1000:=by
  unfold adj
  split
  ·exact ln
  ·rw[List.length_set]; exact ln
 have w2:=Ght (us:=us) (S:=S) (m:=1) h2 j2 a3 l3
 unfold Vz
 rw[Hg]
 generalize cD ps us=cd at *
 simp[Ym,stD,e1,e2,w1,w2,fin]
theorem Gox(hu:us[k]?=some u)(hh:hiI u k=h)(hl:loI u k=l)(h1:ps[h]?=some p)(h2:ps[l]?=some q)(j1:p.ok)(j2:q.ok)(a1:L[h]?=some a)(a2:L[l]?=some b):Ue [cD ps us,stD L R F,.int k] S=if(!p.isE&&decide (a=0))=true then .exc ⟨"Dry",none⟩ S else if(!q.isE&&decide (wat q<=b))=true then .exc ⟨"Full",none⟩ S else .ok .non S:=by
 have e1:=Ghr (ps:=ps) (S:=S) hu
 have e2:=Glf (ps:=ps) (S:=S) hu
 rw[hh] at e1
 rw[hl] at e2
 have gt:=Gdt ((Gow (ps:=ps) (us:=us) (S:=S) (n:=k)).trans (if_pos ⟨by omega,by have:=(List.getElem?_eq_some_iff.mp hu).1; omega⟩))
 have d1:=Gt9 (S:=S) (l:=a) j1
 have d2:=Ghs (S:=S) (l:=b) j2
 have g0:=cd0 (ps:=ps) (us:=us) (S:=S)
 have s0:=st0 (L:=L) (R:=R) (F:=F) (S:=S)
 have p1:=gP (S:=S) h1
 have p2:=gP (S:=S) h2
 have i1:=Uj (S:=S) a1
 have i2:=Uj (S:=S) a2
 unfold Ue
 rw[Hg]
 generalize cD ps us=cd at *
 generalize stD L R F=sd at *
 generalize p.toD=pd at *
 generalize q.toD=qd at *
 cases c1:(!p.isE&&decide (a=0))<;>rw[c1] at d1
 ·cases c2:(!q.isE&&decide (wat q<=b))<;>rw[c2] at d2<;>simp[Ud,gt,g0,s0,e1,e2,p1,p2,i1,i2,d1,d2,srs,Zn,fin]
 ·simp[Ud,gt,g0,s0,e1,e2,p1,p2,i1,i2,d1,srs,Zn,fin]
theorem Glg(h1:ps[k]?=some p)(j1:p.ok)(a1:L[k]?=some a):Ql [cD ps us,stD L R F,.int k] S=if spb p=true then(if(!p.isE&&decide (wat p<=a))=true then .exc ⟨"Full",none⟩ S else .ok .non S) else .exc ⟨"NoSpring",none⟩ S:=by
 have d1:Qi [p.toD] S=.ok (.bl (spb p)) S:=Giu j1
 have d2:=Ghs (S:=S) (l:=a) j1
 have g0:=cd0 (ps:=ps) (us:=us) (S:=S)
 have s0:=st0 (L:=L) (R:=R) (F:=F) (S:=S)
 have p1:=gP (S:=S) h1
 have i1:=Uj (S:=S) a1
 have ln:Jf [.tup (ps.map Pl.toD)] S=.ok (.int ps.length) S:=by simp[Jf]
 have c0:(0:Int)<=k:=by omega
 have c1:(k:Int)<ps.length:=by have:=(List.getElem?_eq_some_iff.mp h1).1; omega
 unfold Ql
 rw[Hg]
 generalize cD ps us=cd at *
 generalize stD L R F=sd at *
 generalize p.toD=pd at *
 generalize (k:Int)=ki at *
 generalize spb p=b1 at *
 cases b1
 ·simp[Qk,g0,s0,ln,p1,i1,d1,c0,c1,srs,Zn,fin]
 ·cases c2:(!p.isE&&decide (wat p<=a))<;>rw[c2] at d2<;>simp[Qk,g0,s0,ln,p1,i1,d1,d2,c0,c1,srs,Zn,fin]
end
def wd(rt:Bool):Str:=if rt=true then "right" else "left"
def dd(w:Str)(k:Nat):D:=.tup [.str w,.int k]
inductive Done(ps:List Pl)(us:List Bool)(L R F:List Int):Str->Nat->List Int->List Int->List Int->Int->Int->Prop
 | lt {k:Nat} {u:Bool} {p q:Pl} {L':List Int} (hu:us[k]?=some u) (h1:ps[hiI u k]?=some p) (h2:ps[loI u k]?=some q) (hs:L'.sum=L.sum+(if p.isE=true then 1 else 0)-(if q.isE=true then 1 else 0)):Done ps us L R F "let" k L' R F 0 0
 | fd {k:Nat} {p:Pl} {i:Int} {L':List Int} (h1:ps[k]?=some p) (h2:spr p=.int i) (hs:L'.sum=L.sum+1):Done ps us L R F "feed" k L' R F i 0
 | rt {k:Nat} {a b:Int} (hk:k<us.length) (ha:R[k]?=some a) (hb:R[k+1]?=some b):Done ps us L R F "right" k L (mv R k (k+1) a b) F 0 (if k+2=ps.length then 1 else 0)
 | lf {k:Nat} {a b:Int} (hk:k<us.length) (ha:F[k+1]?=some a) (hb:F[k]?=some b):Done ps us L R F "left" k L R (mv F (k+1) k a b) 0 (if k=0 then 1 else 0)
section
variable{ps:List Pl}{us:List Bool}{S:Sto}{k h l i j:Nat}{p q:Pl}{u rt:Bool}{L R F:List Int}{a b v:Int}
theorem Glh{x:Int}(h:(M.set i v)[j]?=some x):(j=i/\x=v)\/M[j]?=some x:=by
 by_cases c:i=j
 ·subst c
  by_cases z:i<M.length
  ·rw[List.getElem?_set_self z] at h
   exact .inl ⟨rfl,(Option.some.inj h).symm⟩
  ·rw[List.getElem?_eq_none (by rw[List.length_set]; omega)] at h
   cases h
 ·rw[List.getElem?_set_ne c] at h
  exact .inr h
theorem Gli{N:List Int}{x:Int}(hl:M.length=N.length)(h:M[j]?=some x):∃ y,N[j]?=some y:=Gdu (by have:=(List.getElem?_eq_some_iff.mp h).1; omega)
theorem St.rset(s:St ps L R F)(h0:0<=v)(h1:∀ p f,ps[i]?=some p->F[i]?=some f->hol p (v+f)=true):St ps L (R.set i v) F:=by
 refine⟨s.lL,by rw[List.length_set]; exact s.lR,s.lF,fun i p' l' r f e1 e2 e3 e4=>?_⟩
 obtain⟨r0,e0⟩:=Gli (N:=R) (by rw[List.length_set]) e3
 have g:=s.g i p' l' r0 f e1 e2 e0 e4
 rcases Glh e3 with⟨rfl,rfl⟩ | e3
 ·exact⟨g.1,g.2.1,h0,g.2.2.2.1,h1 _ _ e1 e4⟩
 ·exact s.g i p' l' r f e1 e2 e3 e4
theorem St.fset(s:St ps L R F)(h0:0<=v)(h1:∀ p r,ps[i]?=some p->R[i]?=some r->hol p (r+v)=true):St ps L R (F.set i v):=by
 refine⟨s.lL,s.lR,by rw[List.length_set]; exact s.lF,fun i p' l' r f e1 e2 e3 e4=>?_⟩
 obtain⟨f0,e0⟩:=Gli (N:=F) (by rw[List.length_set]) e4
 have g:=s.g i p' l' r f0 e1 e2 e3 e0
 rcases Glh e4 with⟨rfl,rfl⟩ | e4
 ·exact⟨g.1,g.2.1,g.2.2.1,h0,h1 _ _ e1 e3⟩
 ·exact s.g i p' l' r f e1 e2 e3 e4
theorem Gp8(s:St ps L R F)(hi:i<ps.length):∃ p l r f,ps[i]?=some p/\L[i]?=some l/\R[i]?=some r/\F[i]?=some f/\0<=l/\l<=wat p/\0<=r/\0<=f/\hol p (r+f)=true:=by
 obtain⟨p,e1⟩:=Gdu hi
 obtain⟨l,e2⟩:=Gdu (show i<L.length by have:=s.lL; omega)
 obtain⟨r,e3⟩:=Gdu (show i<R.length by have:=s.lR; omega)
 obtain⟨f,e4⟩:=Gdu (show i<F.length by have:=s.lF; omega)
 exact⟨p,l,r,f,e1,e2,e3,e4,s.g i p l r f e1 e2 e3 e4⟩
theorem Glj{l:List α}{i:Nat}{a:α}(h:l[i]?=some a):a∈l:=List.mem_iff_getElem?.mpr ⟨i,h⟩
end
def com(c:Int):Int:=if c=0 then 0 else if c=3 then 2 else 1
structure Hou(ps:List Pl)(cr:Int)(L R F:List Int)(m:Nat):Prop where
 st:St ps L R F
 len:ps.length=m+1
 rz:R[m]?=some 0
 fz:F[0]?=some 0
 r0:∃ r,R[0]?=some r/\r<=cr
 fm:∃ f,F[m]?=some f/\f<=cr
structure Can(ps:List Pl)(us:List Bool)(m:Nat):Prop where
 ok:∀ p∈ps,p.ok
 len:ps.length=m+1
 gts:us.length=m
 m1:2<=m
 m2:m<=12
 e0:ps[0]?=some .e
 em:ps[m]?=some .e
section
variable{ps:List Pl}{us:List Bool}{S:Sto}{k i j z y m:Nat}{L R F M L' R' F':List Int}{a b cr c pr ga:Int}{w:Str}
theorem Gy5(hc:0<=c/\c<=3):inP (.int c) c_RIGHT_COMES S=.ok (.bl (decide (c=1\/c=3))) S:=by
 rcases(by omega:c=0\/c=1\/c=2\/c=3) with rfl | rfl | rfl | rfl<;>rfl
theorem Gy6(hc:0<=c/\c<=3):inP (.int c) c_LEFT_COMES S=.ok (.bl (decide (c=2\/c=3))) S:=by
 rcases(by omega:c=0\/c=1\/c=2\/c=3) with rfl | rfl | rfl | rfl<;>rfl
def cmR(c cr r:Int)(R:List Int):List Int:=if(c=1\/c=3)/\r<cr then R.set 0 (r+1) else R
def cmF(c cr f:Int)(m:Nat)(F:List Int):List Int:=if(c=2\/c=3)/\f<cr then F.set m (f+1) else F
def cmT(c cr r f:Int):Int:=(if(c=1\/c=3)/\¬ r<cr then 1 else 0)+(if(c=2\/c=3)/\¬ f<cr then 1 else 0)
theorem Gub(C:Can ps us m)(H:Hou ps cr L R F m)(hc:0<=c/\c<=3):∃ r f,R[0]?=some r/\F[m]?=some f/\(∀ S,Jn [stD L R F,.int cr,.int c] S=.ok (.tup [stD L (cmR c cr r R) (cmF c cr f m F),.int (cmT c cr r f)]) S)/\Hou ps cr L (cmR c cr r R) (cmF c cr f m F) m/\0<=cmT c cr r f/\cmT c cr r f<=com c/\(cmR c cr r R).sum+(cmF c cr f m F).sum=R.sum+F.sum+com c-cmT c cr r f:=by
 unfold cmR cmF cmT
 obtain⟨s,hl,rz,fz,⟨r,r0,rc⟩,⟨f,fm,fc⟩⟩:=H
 have hm:=C.m1
 have lR:=s.lR
 have lF:=s.lF
 have m2:=C.m2
 have q1:=fun S=>Gy5 (S:=S) hc
 have q2:=fun S=>Gy6 (S:=S) hc
 have gr:∀ S,DL.getD (iD R) (.int 0) S=.ok (.int r) S:=fun S=>Uj (k:=0) r0
 have gf:∀ S,DL.getD (iD F) (.int m) S=.ok (.int f) S:=fun S=>Uj fm
 have mr:∀ S,Jb [iD R,.int 0,.int 1] S=.ok (iD (R.set 0 (r+1))) S:=fun S=>Gbb (k:=0) (m:=1) r0 (by omega)
 have mf:=fun S=>Gbb (S:=S) (m:=1) fm (by omega)
 have ln:∀ S,Jf [iD F] S=.ok (.int ((m:Int)+1)) S:=fun S=>by simp[Jf]; omega
 have p0:0<=r:=by
  obtain⟨p,l,r',f',e1,e2,e3,e4,_,_,e5,_⟩:=Gp8 (i:=0) s (by omega)
  rw[r0] at e3; cases e3; exact e5
 have p1:0<=f:=by
  obtain⟨p,l,r',f',e1,e2,e3,e4,_,_,_,e5,_⟩:=Gp8 (i:=m) s (by omega)
  rw[fm] at e4; cases e4; exact e5
 refine⟨r,f,r0,fm,?_,⟨?_,hl,?_,?_,?_,?_⟩,?_,?_,?_⟩
 ·intro S
  unfold Jn
  rw[Hg]
  unfold stD
  generalize R.set 0 (r+1)=R1 at *
  generalize F.set m (f+1)=F1 at *
  simp only[Uz]
  generalize c_RIGHT_COMES=t1 at *
  generalize c_LEFT_COMES=t2 at *
  by_cases x0:c=1\/c=3
  ·simp only[decide_eq_true x0] at q1
   by_cases y0:c=2\/c=3
   ·simp only[decide_eq_true y0] at q2
    by_cases x1:r<cr<;>by_cases x2:f<cr<;>simp[q1,q2,gr,gf,mr,mf,ln,x0,y0,x1,x2,fin]
   ·simp only[decide_eq_false y0] at q2
    by_cases x1:r<cr<;>simp[q1,q2,gr,mr,ln,x0,y0,x1,fin]
  ·simp only[decide_eq_false x0] at q1
   by_cases y0:c=2\/c=3
   ·simp only[decide_eq_true y0] at q2
    by_cases x2:f<cr<;>simp[q1,q2,gf,mf,ln,x0,y0,x2,fin]
   ·simp only[decide_eq_false y0] at q2
    simp[q1,q2,ln,x0,y0,fin]
 ·have s1:St ps L (if(c=1\/c=3)/\r<cr then R.set 0 (r+1) else R) F:=by
   split
   ·exact s.rset (by omega) fun p f e1 e2=>by rw[C.e0] at e1; cases e1; rfl
   ·exact s
  generalize (if(c=1\/c=3)/\r<cr then R.set 0 (r+1) else R)=R1 at s1 ⊢
  split
  ·exact s1.fset (by omega) fun p f e1 e2=>by rw[C.em] at e1; cases e1; rfl
  ·exact s1
 ·split
  ·rw[List.getElem?_set_ne (by omega)]; exact rz
  ·exact rz
 ·split
  ·rw[List.getElem?_set_ne (by omega)]; exact fz
  ·exact fz
 ·split
  ·exact⟨r+1,List.getElem?_set_self (by omega),by omega⟩
  ·exact⟨r,r0,rc⟩
 ·split
  ·exact⟨f+1,List.getElem?_set_self (by omega),by omega⟩
  ·exact⟨f,fm,fc⟩
 ·split<;>split<;>omega
 ·unfold com
  rcases(by omega:c=0\/c=1\/c=2\/c=3) with rfl | rfl | rfl | rfl<;>simp<;>(repeat' split)<;>omega
 ·have h1:(R.set 0 (r+1)).sum=R.sum+1:=by rw[Gew r0]; omega
  have h2:(F.set m (f+1)).sum=F.sum+1:=by rw[Gew fm]; omega
  unfold com
  by_cases x1:r<cr<;>by_cases x2:f<cr<;>rcases(by omega:c=0\/c=1\/c=2\/c=3) with rfl | rfl | rfl | rfl<;>simp[x1,x2,h1,h2]<;>omega
theorem Guc(h:M.length=m+1):M.take m++[0]=M.set m 0:=by
 rw[List.set_eq_take_append_cons_drop,if_pos (by omega),List.drop_eq_nil_of_le (by omega)]
theorem Goy(hR:R.length=m+1)(hF:F.length=m+1)(hm:m<=900):Kn [stD L R F] S=.ok (stD L (R.set m 0) (F.set 0 0)) S:=by
 have e1:=Gos (M:=R) (S:=S) (by omega)
 have e2:=Got (M:=F) (S:=S) (by omega)
 have e3:Gx (.tup ((R.take (R.length-1)).map D.int)) (.tup [.int 0]) S=.ok (iD (R.set m 0)) S:=by
  rw[Zx (by simp; omega)]
  have:R.length-1=m:=by omega
  rw[this,<- Guc hR]; simp
 have e4:Gx (.tup [.int 0]) (.tup ((F.drop 1).map D.int)) S=.ok (iD (F.set 0 0)) S:=by
  rw[Zx (by simp; omega)]
  cases F with
  | nil=>simp at hF
  | cons x l=>simp
 unfold Kn
 rw[Hg]
 unfold stD
 generalize R.set m 0=R1 at *
 generalize F.set 0 0=F1 at *
 simp only[Qw]
 generalize (R.take (R.length-1)).map D.int=R2 at *
 generalize (F.drop 1).map D.int=F2 at *
 simp[e1,e2,e3,e4,fin]
end
def Ref(cd sd:D)(w:Str)(k:Nat):Prop:=∃ c,c∈ys/\∀ S,Ke [cd,sd,dd w k] S=.exc ⟨c,none⟩ S
def Dne(cd sd:D)(w:Str)(k:Nat)(sd':D)(pr ga:Int):Prop:=∀ S,Ke [cd,sd,dd w k] S=.ok (.tup [sd',.int pr,.int ga]) S
def Gfw(p q:Pl)(a b:Int):Prop:=(!p.isE&&decide (a=0))=true\/(!q.isE&&decide (wat q<=b))=true
def Ggv(p:Pl)(a:Int):Prop:=spb p=false\/(!p.isE&&decide (wat p<=a))=true
section
variable{ps:List Pl}{us:List Bool}{S:Sto}{k h l i j m:Nat}{p q:Pl}{u rt:Bool}{L R F:List Int}{a b c d e:Int}
theorem Gw5(hu:us[k]?=some u)(hh:hiI u k=h)(hl:loI u k=l)(h1:ps[h]?=some p)(h2:ps[l]?=some q)(jp:p.ok)(jq:q.ok)(a1:L[h]?=some a)(a2:L[l]?=some b)(ne:h≠l)(ln:L.length<=1000):
  (Gfw p q a b->Ref (cD ps us) (stD L R F) "let" k)/\(¬ Gfw p q a b->Dne (cD ps us) (stD L R F) "let" k (stD (adj q l b 1 (adj p h a (-1) L)) R F) 0 0):=by
 have ck:=fun S=>Gox (R:=R) (F:=F) (S:=S) hu hh hl h1 h2 jp jq a1 a2
 have lk:=fun S=>Gua (R:=R) (F:=F) (S:=S) hu hh hl h1 h2 jp jq a1 a2 ne ln
 have y1:("Dry":Str)∈ys:=by decide
 have y2:("Full":Str)∈ys:=by decide
 have e0:dd "let" k=.tup [.str "let",.int k]:=rfl
 unfold Ref Dne Ke Gfw
 simp only[Hg]
 generalize stD (adj q l b 1 (adj p h a (-1) L)) R F=sd2 at *
 by_cases c1:(!p.isE&&decide (a=0))=true
 ·simp only[if_pos c1] at ck
  have ck:=fun S=>Gci (ck S) y1
  generalize cD ps us=cd at *
  generalize stD L R F=sd at *
  exact⟨fun _=>⟨_,y1,fun S=>by simp[e0,Jj,ell,ck,fin]⟩,fun z=>absurd (.inl c1) z⟩
 simp only[if_neg c1] at ck
 by_cases c2:(!q.isE&&decide (wat q<=b))=true
 ·simp only[if_pos c2] at ck
  have ck:=fun S=>Gci (ck S) y2
  generalize cD ps us=cd at *
  generalize stD L R F=sd at *
  exact⟨fun _=>⟨_,y2,fun S=>by simp[e0,Jj,ell,ck,fin]⟩,fun z=>absurd (.inr c2) z⟩
 simp only[if_neg c2] at ck
 have ck:=fun S=>Gdt (ck S)
 generalize cD ps us=cd at *
 generalize stD L R F=sd at *
 exact⟨fun z=>z.elim (fun z=>absurd z c1) (fun z=>absurd z c2),fun _ S=>by simp[e0,Jj,ell,ck,lk,fin]⟩
theorem Glk(h1:ps[k]?=some p)(jp:p.ok)(a1:L[k]?=some a)(ln:L.length<=1000):
  (Ggv p a->Ref (cD ps us) (stD L R F) "feed" k)/\(¬ Ggv p a->∃ pr,spr p=.int pr/\Dne (cD ps us) (stD L R F) "feed" k (stD (L.set k (a+1)) R F) pr 0):=by
 have ck:=fun S=>Glg (us:=us) (R:=R) (F:=F) (S:=S) h1 jp a1
 have mo:=fun S=>Gbb (S:=S) (m:=1) a1 ln
 have y1:("NoSpring":Str)∈ys:=by decide
 have y2:("Full":Str)∈ys:=by decide
 have e0:dd "feed" k=.tup [.str "feed",.int k]:=rfl
 unfold Ref Dne Ke Ggv
 simp only[Hg]
 by_cases c1:spb p=true
 ·simp only[if_pos c1] at ck
  have:∃ br de ro i,p=.p br de ro (.int i):=by
   cases p with
   | e=>exact absurd c1 (by simp[spb,spr])
   | c=>exact absurd c1 (by simp[spb,spr])
   | p br de ro pr=>
    rcases jp.2.2.2.2.2.2 with rfl | ⟨x,rfl,_⟩
    ·exact absurd c1 (by simp[spb,spr])
    ·exact⟨_,_,_,_,rfl⟩
  obtain⟨br,de,ro,pr,rfl⟩:=this
  by_cases c2:(!Pl.isE (.p br de ro (.int pr))&&decide (wat (.p br de ro (.int pr))<=a))=true
  ·simp only[if_pos c2] at ck
   have ck:=fun S=>Gci (ck S) y2
   generalize cD ps us=cd at *
   generalize stD L R F=sd at *
   exact⟨fun _=>⟨_,y2,fun S=>by simp[e0,Jj,ell,ck,fin]⟩,fun z=>absurd (.inr c2) z⟩
  simp only[if_neg c2] at ck
  have ck:=fun S=>Gdt (ck S)
  have g0:=fun S=>cd0 (ps:=ps) (us:=us) (S:=S)
  have p1:=fun S=>gP (S:=S) h1
  have p4:∀ S,DL.getD (Pl.toD (.p br de ro (.int pr))) (.int 4) S=.ok (.int pr) S:=fun S=>Wk (Qg (by decide) rfl)
  refine⟨fun z=>z.elim (fun z=>by rw[c1] at z; cases z) (fun z=>absurd z c2),fun _=>⟨pr,rfl,?_⟩⟩
  generalize cD ps us=cd at *
  generalize Pl.toD (.p br de ro (.int pr))=pd at *
  generalize L.set k (a+1)=L2 at *
  unfold stD at ck ⊢
  intro S
  simp[e0,Jj,ell,ck,mo,g0,p1,p4,fin]
 ·simp only[if_neg c1] at ck
  have ck:=fun S=>Gci (ck S) y1
  generalize cD ps us=cd at *
  generalize stD L R F=sd at *
  exact⟨fun _=>⟨_,y1,fun S=>by simp[e0,Jj,ell,ck,fin]⟩,fun z=>absurd (.inl (by simpa using c1)) z⟩
end
structure Row where
 as:List (Str×Nat×Int)
 w:Str
 k:Nat
def Kb(a:Str×Nat×Int):D:=.tup [.str a.1,.int a.2.1,.int a.2.2]
def Ji(r:Row):D:=.tup [.tup (r.as.map Kb),dd r.w r.k]
def Gy7(n:Nat)(a:Str×Nat×Int):Prop:=(a.1="least"\/a.1="most"\/∃ rt,a.1=wd rt)/\a.2.1<n
structure RowG(n:Nat)(r:Row):Prop where
 as:∀ a∈r.as,Gy7 n a
 few:r.as.length<=4
 dd:(r.w="let"/\r.k+1<n)\/(r.w="feed"/\r.k<n)\/((∃ rt,r.w=wd rt)/\r.k+1<n)
structure Hr(ps:List Pl)(us:List Bool)(rows:List Row)(cr:Int)(m:Nat)(L R F:List Int)(c:Int)(L' R' F':List Int)(o:D)(pr ga t:Int):Prop where
 hou:Hou ps cr L' R' F' m
 t0:0<=t
 t1:t<=com c
 bar:R'.sum+F'.sum=R.sum+F.sum+com c-t-ga
 dn:(o=.non/\pr=0/\ga=0/\L'.sum=L.sum)\/∃ row∈rows,o=dd row.w row.k/\∃ La Ra Fa Lb Rb Fb,Done ps us La Ra Fa row.w row.k Lb Rb Fb pr ga/\L'.sum=L.sum+(Lb.sum-La.sum)
@[simp] theorem Gy8:Gdj (.tup l) S=.ok (Ga6 l) S:=id rfl
section
variable{ps:List Pl}{us:List Bool}{S:Sto}{k m:Nat}{L R F L' R' F':List Int}{cr c pr ga t:Int}{w:Str}{rows:List Row}
theorem Gll{i:Nat}{n l:Int}(e:L[i]?=some l):Hb [stD L R F,Kb ("least",i,n)] S=.ok (.bl (decide (n<=l))) S:=by
 have s0:=st0 (L:=L) (R:=R) (F:=F) (S:=S)
 have g1:=Uj (S:=S) e
 unfold Hb Kb
 rw[Hg]
 generalize stD L R F=sd at *
 simp[Ug,ell,s0,g1,fin]
theorem Glm{i:Nat}{n l:Int}(e:L[i]?=some l):Hb [stD L R F,Kb ("most",i,n)] S=.ok (.bl (decide (l<=n))) S:=by
 have s0:=st0 (L:=L) (R:=R) (F:=F) (S:=S)
 have g1:=Uj (S:=S) e
 unfold Hb Kb
 rw[Hg]
 generalize stD L R F=sd at *
 simp[Ug,ell,s0,g1,fin]
end
def Stp(g:Tg)(b:Sv)(I:Lc->Prop)(d:D):Prop:=∀ ρ S,I ρ->∃ ρ1 ρ2 S2,g d ρ=some ρ1/\(b ρ1 S=.nx ρ2 S2\/b ρ1 S=.ct ρ2 S2)/\I ρ2/\Ex S S2
def Rtn(g:Tg)(b:Sv)(I:Lc->Prop)(d r:D):Prop:=∀ ρ S,I ρ->∃ ρ1 S2,g d ρ=some ρ1/\b ρ1 S=.rt r S2/\Ex S S2
def Giv(nxt:Nat->Sto->Option D)(g:Tg)(b:Sv)(I:Lc->Prop)(r:D)(n k:Nat):Prop:=∀ ρ S,I ρ->∃ S',Ky nxt g b n k ρ S=.rt r S'/\Ex S S'
section
variable{nxt nxt':Nat->Sto->Option D}{g g':Tg}{b b':Sv}{l:List D}{I I':Lc->Prop}{d r:D}{n k:Nat}
theorem Gln(hn:∀ k S,nxt k S=l[k]?)(z:l[k]?=some d)(h:Stp g b I d):∀ ρ S,I ρ->∃ ρ2 S2,Ky nxt g b (n+1) k ρ S=Ky nxt g b n (k+1) ρ2 S2/\I ρ2/\Ex S S2:=fun ρ S hI=>by
 obtain⟨ρ1,ρ2,S2,e1,e2 | e2,hI2,ex⟩:=h ρ S hI
 ·exact⟨ρ2,S2,by rw[Ky]; simp only[hn,z,e1,e2],hI2,ex⟩
 ·exact⟨ρ2,S2,by rw[Ky]; simp only[hn,z,e1,e2],hI2,ex⟩
theorem Gw6(hn:∀ k S,nxt k S=l[k]?)(z:l[k]?=some d)(h:Stp g b I d)(q:Giv nxt g b I r n (k+1)):Giv nxt g b I r (n+1) k:=fun ρ S hI=>by
 obtain⟨ρ2,S2,e,hI2,ex⟩:=Gln hn z h ρ S hI
 obtain⟨S',e',ex'⟩:=q ρ2 S2 hI2
 exact⟨S',e.trans e',ex.trans ex'⟩
theorem Gw7(hn:∀ k S,nxt k S=l[k]?)(z:l[k]?=some d)(h:Rtn g b I d r):Giv nxt g b I r (n+1) k:=fun ρ S hI=>by
 obtain⟨ρ1,S2,e1,e2,ex⟩:=h ρ S hI
 exact⟨S2,by rw[Ky]; simp only[hn,z,e1,e2],ex⟩
end
def Xw(cd rl sd a t x1 x2 x3 x4 x5:Option D)(cr c:Int):Lc:=[cd,rl,some (.int cr),sd,some (.int c),a,t,x1,x2,x3,x4,x5]
section
variable{ps:List Pl}{us:List Bool}{S:Sto}{k m:Nat}{L R F L' R' F':List Int}{cr c pr ga t:Int}{w:Str}{rows:List Row}
def vOf(f:Fn)(x d:D):Bool:=match f [x,d] [] with | .ok (.bl b) _=>b | _=>false
theorem Glo{f:Fn}{E:Lc}{x:D}{rl:List (Str×Nat×Int)}{i:Nat}(hf:∀ a∈rl,∃ b,∀ S,f [x,Kb a] S=.ok (.bl b) S)(hl:rl.length<=4)(h1:E[i]?=some (some (.tup (rl.map Kb))))(h2:E[j]?=some (some x))(S1:Sto):
  ∃ S2,(b1 Gar (ac (cmp (isrc (vr i)) [none,some j] (gn 0) ttrue (cl 2 (Go f) (ac (vr 1) (ac (vr 0) an)))) an)) E S1=.ok (.bl ((rl.map Kb).all (vOf f x))) S2/\Ex S1 S2:=by
 obtain⟨S2,al,ex⟩:=Glb (l:=rl.map Kb) (pk:=[none,some j]) (e:=cl 2 (Go f) (ac (vr 1) (ac (vr 0) an))) (ρ:=E) (f:=vr i) (S:=S1)
  [some x] (vOf f x) (by simp[h1]) (by simp[pkS,h2]) (by simp; omega) (fun d hd S' _=>by
   obtain⟨a,ha,rfl⟩:=List.mem_map.mp hd
   obtain⟨b,hb⟩:=hf a ha
   exact⟨S',by simp[hb,vOf],Ex.refl⟩)
 refine⟨S2,?_,ex⟩
 rw[<- al]
 simp
 generalize cmp _ _ _ _ _ _ _=o
 cases o<;>rfl
end
section
variable{ps:List Pl}{us:List Bool}{S:Sto}{k m:Nat}{L R F L' R' F':List Int}{cr c pr ga t:Int}{cd rl sd ah:D}{r:Row}
abbrev gH:Tg:=gt (gcons (gn 7) (gcons (gn 8) gnil)) 2
def IH(cd rl sd ah:D)(t cr c:Int)(ρ:Lc):Prop:=∃ x1 x2 x3 x4 x5,ρ=Xw (some cd) (some rl) (some sd) (some ah) (some (.int t)) x1 x2 x3 x4 x5 cr c
def Ggw(ah:D)(r:Row):Bool:=(r.as.map Kb).all (vOf Hb ah)
theorem Gex(hf:∀ a∈r.as,∃ b,∀ S,Hb [ah,Kb a] S=.ok (.bl b) S)(few:r.as.length<=4)(x3 x4 x5:Option D)(S1:Sto):
  ∃ S2,(b1 Gar (ac (cmp (isrc (vr 7)) [none,some 5] (gn 0) ttrue (cl 2 (Go Hb) (ac (vr 1) (ac (vr 0) an)))) an)) (Xw (some cd) (some rl) (some sd) (some ah) (some (.int t)) (some (.tup (r.as.map Kb))) (some (dd r.w r.k)) x3 x4 x5 cr c) S1=.ok (.bl (Ggw ah r)) S2/\Ex S1 S2:=
 Glo (f:=Hb) (E:=Xw (some cd) (some rl) (some sd) (some ah) (some (.int t)) (some (.tup (r.as.map Kb))) (some (dd r.w r.k)) x3 x4 x5 cr c) (x:=ah) (rl:=r.as) (i:=7) (j:=5) hf few rfl rfl S1
theorem Gy9(hf:∀ a∈r.as,∃ b,∀ S,Hb [ah,Kb a] S=.ok (.bl b) S)(few:r.as.length<=4)(hv:Ggw ah r=false):Stp gH Gy (IH cd rl sd ah t cr c) (Ji r):=fun ρ S1 ⟨x1,x2,x3,x4,x5,hρ⟩=>by
 subst hρ
 obtain⟨S2,go,ex⟩:=Gex (cd:=cd) (rl:=rl) (sd:=sd) (t:=t) (cr:=cr) (c:=c) hf few x3 x4 x5 S1
 rw[hv] at go
 exact⟨Xw (some cd) (some rl) (some sd) (some ah) (some (.int t)) (some (.tup (r.as.map Kb))) (some (dd r.w r.k)) x3 x4 x5 cr c,Xw (some cd) (some rl) (some sd) (some ah) (some (.int t)) (some (.tup (r.as.map Kb))) (some (dd r.w r.k)) x3 x4 x5 cr c,S2,by simp[Ji,Xw],.inr (by simp only[Xw] at go ⊢; simp only[Gy]; rw[Gam,Ggs]; simp only[Gk8,Gk7,go]; simp[Zn,sct]),⟨_,_,x3,x4,x5,rfl⟩,ex⟩
theorem Gw8(hf:∀ a∈r.as,∃ b,∀ S,Hb [ah,Kb a] S=.ok (.bl b) S)(few:r.as.length<=4)(hv:Ggw ah r=true)(hd:Ref cd ah r.w r.k):Stp gH Gy (IH cd rl sd ah t cr c) (Ji r):=fun ρ S1 ⟨x1,x2,x3,x4,x5,hρ⟩=>by
 subst hρ
 obtain⟨S2,go,ex⟩:=Gex (cd:=cd) (rl:=rl) (sd:=sd) (t:=t) (cr:=cr) (c:=c) hf few x3 x4 x5 S1
 rw[hv] at go
 obtain⟨x,hy,ee⟩:=hd
 have ee:=Gci (ee S2) hy
 exact⟨Xw (some cd) (some rl) (some sd) (some ah) (some (.int t)) (some (.tup (r.as.map Kb))) (some (dd r.w r.k)) x3 x4 x5 cr c,Xw (some cd) (some rl) (some sd) (some ah) (some (.int t)) (some (.tup (r.as.map Kb))) (some (dd r.w r.k)) x3 x4 x5 cr c,S2,by simp[Ji,Xw],.inr (by simp only[Xw] at go ⊢; simp only[Gy]; rw[Gam,Ggs]; simp only[Gk8,Gk7,go]; simp[Zn,Wg,Gfe,Gdq,Zv,ee,hy,sct]),⟨_,_,x3,x4,x5,rfl⟩,ex⟩
theorem Gw9{R1 F1:List Int}(hf:∀ a∈r.as,∃ b,∀ S,Hb [ah,Kb a] S=.ok (.bl b) S)(few:r.as.length<=4)(hv:Ggw ah r=true)(hd:Dne cd ah r.w r.k (stD M R1 F1) pr ga)(l1:R1.length=m+1)(l2:F1.length=m+1)(hm:m<=900):Rtn gH Gy (IH cd rl sd ah t cr c) (Ji r) (.tup [stD M (R1.set m 0) (F1.set 0 0),dd r.w r.k,.int pr,.int ga,.int t]):=fun ρ S1 ⟨x1,x2,x3,x4,x5,hρ⟩=>by
 subst hρ
 obtain⟨S2,go,ex⟩:=Gex (cd:=cd) (rl:=rl) (sd:=sd) (t:=t) (cr:=cr) (c:=c) hf few x3 x4 x5 S1
 rw[hv] at go
 have ee:=Gdt (hd S2)
 have gg:=Goy (L:=M) (S:=S2) l1 l2 hm
 refine⟨Xw (some cd) (some rl) (some sd) (some ah) (some (.int t)) (some (.tup (r.as.map Kb))) (some (dd r.w r.k)) x3 x4 x5 cr c,S2,by simp[Ji,Xw],?_,ex⟩
 simp only[Xw] at go ⊢
 simp only[Gy]; rw[Gam,Ggs]; simp only[Gk8,Gk7,go]
 simp[Zn,Wg,Zv,ee,gg]
theorem Gxa{rows:List Row}(e1:∀ S,Jn [sd,.int cr,.int c] S=.ok (.tup [ah,.int t]) S)(q:Giv (Ga6 (rows.map Ji)).nxt gH Gy (IH cd (.tup (rows.map Ji)) sd ah t cr c) d (Ga6 (rows.map Ji)).fuel 0):∀ S,∃ S',Gb9 [cd,.tup (rows.map Ji),.int cr,sd,.int c] S=.ok d S'/\Ex S S':=fun S=>by
 obtain⟨S',ef,hx⟩:=q (Xw (some cd) (some (.tup (rows.map Ji))) (some sd) (some ah) (some (.int t)) none none none none none cr c) S ⟨_,_,_,_,_,rfl⟩
 refine⟨S',?_,hx⟩
 unfold Gb9
 rw[Hg]
 simp only[Ggr]
 simp only[Xw] at ef
 simp[e1,ef,fin]
def mc(c:Int):Int:=if c=1 then 2 else if c=2 then 1 else c
end
abbrev S3:=List Int×List Int×List Int
variable{st:Nat->S3}
def stE(s:S3):D:=stD s.1 s.2.1 s.2.2
structure One where
 o:D
 pr:Int
 ga:Int
 t:Int
def EvH(cd rl:D)(cr:Int)(f:Nat->Int)(st:Nat->S3)(on:Nat->One):Prop:=
 ∀ (i:Nat) (S:Sto),∃ S',Gb9 [cd,rl,.int cr,stE (st i),.int (f i)] S=.ok (.tup [stE (st (i+1)),(on i).o,.int (on i).pr,.int (on i).ga,.int (on i).t]) S'/\Ex S S'
def kS(s:S3):NK:=.t [.t (s.1.map .i),.t (s.2.1.map .i),.t (s.2.2.map .i)]
theorem Ghu:∀ (l:List Int),nkOs (l.map D.int)=some (l.map NK.i)
 | []=>rfl
 | a::r=>by simp only[List.map_cons,nkOs,nkO,Ghu r,Option.bind_some,Option.map_some]
theorem Gxb(s:S3):nkO (stE s)=some (kS s):=by
 unfold stE stD kS
 simp only[nkO,nkOs,Ghu,Option.bind_some,Option.map_some]
theorem Xt:∀ {l m:List Int},l.map NK.i=m.map NK.i->l=m
 | [],[],_=>rfl
 | [],_::_,h=>by simp at h
 | _::_,[],h=>by simp at h
 | a::r,b::q,h=>by
  simp only[List.map_cons,List.cons.injEq,NK.i.injEq] at h
  rw[h.1,Xt h.2]
theorem Gud{a b:S3}(h:kS a=kS b):a=b:=by
 obtain⟨a1,a2,a3⟩:=a
 obtain⟨b1,b2,b3⟩:=b
 simp only[kS,NK.t.injEq,List.cons.injEq,and_true] at h
 obtain⟨h1,h2,h3⟩:=h
 rw[Xt h1,Xt h2,Xt h3]
theorem Ghv:∀ (l:List Int),PyData.depthAll (pks (l.map NK.i))=0
 | []=>rfl
 | a::r=>by simp only[List.map_cons,pks,pk,PyData.depthAll,PyData.depth,Ghv r]; rfl
def kk(st:Nat->S3)(n i:Nat):NK:=.t [kS (st i),.i ((i%n:Nat):Int)]
abbrev kd(st:Nat->S3)(n i:Nat):D:=.tup [stE (st i),.int ((i%n:Nat):Int)]
theorem Ghw{i:Nat}:nkO (kd st n i)=some (kk st n i):=by
 show nkO (.tup [stE (st i),.int _])=_
 rw[nkO,nkOs,Gxb]
 simp only[nkOs,nkO,Option.bind_some,Option.map_some]
 rfl
theorem Ggx{i:Nat}:Gct (kd st n i)=some (kk st n i):=by
 have e:Gct (kd st n i)=(match nkO (kd st n i) with | some κ=>if(pk κ).depth<=8 then some κ else none | none=>none):=rfl
 rw[e,Ghw]
 have:(pk (kk st n i)).depth<=8:=by
  simp only[kk,kS,pk,pks,PyData.depth,PyData.depthAll,Ghv]
  decide
 simp only[this,if_true]
theorem Gue{i:Nat}(h:kk st n i=kk st n j):st i=st j/\i%n=j%n:=by
 simp only[kk,NK.t.injEq,List.cons.injEq,NK.i.injEq,and_true] at h
 exact⟨Gud h.1,by omega⟩
def prD(st:Nat->S3)(n j:Nat):D:=.tup [kd st n j,.int (j:Int)]
def fsL(st:Nat->S3)(n i:Nat):List D:=(List.range i).map (prD st n)
theorem Gxc{i:Nat}:fsL st n (i+1)=fsL st n i++[prD st n i]:=by unfold fsL; rw[List.range_succ]; simp
theorem Goz{i:Nat}:(fsL st n i).length=i:=by simp[fsL]
theorem Glp{st:Nat->S3}{n:Nat}{κ:NK}:∀ (m a:Nat),(∀ j,a<=j->j<a+m->kk st n j≠κ)->dlook κ ((List.range' a m).map (prD st n))=none
 | 0,a,_=>rfl
 | m+1,a,h=>by
  have h0:¬ nkO (kd st n a)=some κ:=by rw[Ghw]; exact fun z=>h a (Nat.le_refl _) (by omega) (Option.some.inj z)
  rw[List.range'_succ,List.map_cons]
  unfold prD
  rw[dlook,if_neg h0]
  exact Glp m (a+1) fun j h1 h2=>h j (by omega) (by omega)
theorem Glq{st:Nat->S3}{n j:Nat}{κ:NK}:∀ (m a:Nat),a<=j->j<a+m->kk st n j=κ->(∀ b,a<=b->b<j->kk st n b≠κ)->dlook κ ((List.range' a m).map (prD st n))=some (.int (j:Int))
 | 0,a,h1,h2,_,_=>by omega
 | m+1,a,h1,h2,h3,h=>by
  rw[List.range'_succ,List.map_cons]
  by_cases e:a=j
  ·subst e
   have h0:nkO (kd st n a)=some κ:=by rw[Ghw,h3]
   unfold prD
   rw[dlook,if_pos h0]
  ·have h0:¬ nkO (kd st n a)=some κ:=by rw[Ghw]; exact fun z=>h a (Nat.le_refl _) (by omega) (Option.some.inj z)
   unfold prD
   rw[dlook,if_neg h0]
   exact Glq m (a+1) (by omega) (by omega) h3 fun b h1 h2=>h b (by omega) h2
theorem look_new{i:Nat}(h:∀ j,j<i->kk st n j≠κ):dlook κ (fsL st n i)=none:=by
 unfold fsL
 rw[List.range_eq_range']
 exact Glp i 0 fun j _ h2=>h j (by omega)
theorem Glr{i:Nat}(hj:j<i)(e:kk st n j=κ)(h:∀ b,b<j->kk st n b≠κ):dlook κ (fsL st n i)=some (.int (j:Int)):=by
 unfold fsL
 rw[List.range_eq_range']
 exact Glq i 0 (Nat.zero_le _) (by omega) e fun b _ h2=>h b h2
theorem Gza{f:Nat}{x:D}{neg:Bool}(e:S[f]?=some ⟨false,xs⟩)(k:Gct x=some κ):Gfm neg x (.dct f) S=.ok (.bl (if neg=true then !(dlook κ xs).isSome else(dlook κ xs).isSome)) S:=by
 simp only[Gfm,e,k,if_true]
theorem Guf{f:Nat}{x v:D}(e:S[f]?=some ⟨false,xs⟩)(k:Gct x=some κ)(h:dlook κ xs=some v):Gdn (.dct f) x S=.ok v S:=by
 simp only[Gdn,e,k,h,if_true]
theorem Gug{f:Nat}{x z:D}(e:S[f]?=some ⟨false,xs⟩)(k:Gct x=some κ)(h:dlook κ xs=none)(hl:xs.length<1000000):Gdo (.dct f) x z S=some (S.set f ⟨false,xs++[.tup [x,z]]⟩):=by
 have:dput κ x z xs=xs++[.tup [x,z]]:=by unfold dput; rw[h]; rfl
 simp only[Gdo,e,k,this,hl,and_self,if_true]
theorem Gls{c:Ev Bool}{b:Sv}(p:Nat)(I:Nat->Lc->Sto->Prop)(hc:∀ j ρ S,j<p->I j ρ S->c ρ S=.ok true S)(hs:∀ j ρ S,j<p->I j ρ S->∃ ρ2 S2,b ρ S=.nx ρ2 S2/\I (j+1) ρ2 S2):
  ∀ (r j f:Nat) (ρ:Lc) (S:Sto),j+r=p->I j ρ S->∃ ρ' S',I p ρ' S'/\whN c b (f+r) ρ S=whN c b f ρ' S'
 | 0,j,f,ρ,S,e,h=>⟨ρ,S,by rw[<- e]; exact h,rfl⟩
 | r+1,j,f,ρ,S,e,h=>by
  obtain⟨ρ2,S2,e1,h2⟩:=hs j ρ S (by omega) h
  obtain⟨ρ',S',h3,e3⟩:=Gls p I hc hs r (j+1) f ρ2 S2 (by omega) h2
  refine⟨ρ',S',h3,?_⟩
  rw[<- e3]
  show whN c b (f+r+1) ρ S=_
  rw[whN,hc j ρ S (by omega) h]
  simp only[bindS,if_true,e1]
def hrD(x:One):D:=.tup [.int x.pr,.int x.ga,.int x.t]
def hrL(on:Nat->One)(i:Nat):List D:=(List.range i).map fun j=>hrD (on j)
theorem Gxd{on:Nat->One}{i:Nat}:hrL on (i+1)=hrL on i++[hrD (on i)]:=by unfold hrL; rw[List.range_succ]; simp
theorem Gbc{on:Nat->One}{i:Nat}:(hrL on i).length=i:=by simp[hrL]
abbrev cum(cs:List Int)(i:Nat):Int:=cs.getD (i%cs.length) 0
def Gcj(cd rl s0:D)(cr:Int)(cs:List Int)(lim:Int)(s:D)(p:Int)(h:Nat)(x10 x11 x12 x13:Option D):Lc:=
 [some cd,some rl,some (.int cr),some s0,some (.tup (cs.map D.int)),some (.int lim),some s,some (.int p),some (.lst h),some (.dct (h+1)),x10,x11,x12,x13,none,none]
def IF(S:Sto)(cd rl s0:D)(cr:Int)(cs:List Int)(lim:Int)(st:Nat->S3)(on:Nat->One)(i:Nat)(ρ:Lc)(S':Sto):Prop:=
 ∃ x10 x11 x12 x13,ρ=Gcj cd rl s0 cr cs lim (stE (st i)) ((i%cs.length:Nat):Int) S.length x10 x11 x12 x13/\Ex S S'/\S'[S.length]?=some ⟨false,hrL on i⟩/\S'[S.length+1]?=some ⟨false,fsL st cs.length i⟩
section
variable{cd rl s0:D}{cr lim:Int}{cs:List Int}{st:Nat->S3}{on:Nat->One}{S:Sto}{i:Nat}{ρ:Lc}{S':Sto}
theorem Go0{S:Sto}(h0:0<cs.length):DL.getD (.tup (cs.map D.int)) (.int ((i%cs.length:Nat):Int)) S=.ok (.int (cum cs i)) S:=by
 have hl:i%cs.length<cs.length:=Nat.mod_lt _ h0
 refine Wk (Qg (by omega) ?_)
 rw[List.getElem?_map,Int.toNat_natCast,List.getElem?_eq_getElem hl]
 simp[cum,List.getD,List.getElem?_eq_getElem hl]
theorem Guh{S:Sto}(h0:0<n):Wl (.int (((i%n:Nat):Int)+1)) (.int (n:Int)) S=.ok (.int (((i+1)%n:Nat):Int)) S:=by
 rw[Yn (by omega)]
 have:(((i%n:Nat):Int)+1)%(n:Int)=(((i+1)%n:Nat):Int):=by
  have e:(i%n+1)%n=(i+1)%n:=by rw[Nat.add_mod,Nat.mod_mod,<- Nat.add_mod]
  rw[<- e]
  push_cast
  rfl
 rw[this]
theorem Gbd(h:IF S cd rl s0 cr cs lim st on i ρ S'):Jd ρ S'=.ok (!(dlook (kk st cs.length i) (fsL st cs.length i)).isSome) S':=by
 obtain⟨x10,x11,x12,x13,rfl,hx,hh,hf⟩:=h
 have k:=Gza (neg:=true) hf (Ggx (st:=st) (n:=cs.length) (i:=i))
 simp only[if_true,kd] at k
 simp only[Jd,Gcj]
 generalize stE (st i)=sd at *
 generalize ((i%cs.length:Nat):Int)=p at *
 generalize (dlook (kk st cs.length i) (fsL st cs.length i)).isSome=b at *
 simp[k]
theorem Ghx(h0:0<cs.length)(hl:cs.length<=1000)(hv:EvH cd rl cr (cum cs) st on)(h:IF S cd rl s0 cr cs lim st on i ρ S')(hi:(i:Int)≠lim)(hs:i<5000)(hn:dlook (kk st cs.length i) (fsL st cs.length i)=none):
  ∃ ρ2 S2,Hn ρ S'=.nx ρ2 S2/\IF S cd rl s0 cr cs lim st on (i+1) ρ2 S2:=by
 obtain⟨x10,x11,x12,x13,rfl,hx,hh,hf⟩:=h
 have ln:=Gds hh
 simp only[Gbc] at ln
 have ds:=Gug (z:=.int (i:Int)) hf (Ggx (st:=st) (n:=cs.length) (i:=i)) hn (by rw[Goz]; omega)
 have lf:S.length+1<S'.length:=(List.getElem?_eq_some_iff.mp hf).1
 have f1:(S'.set (S.length+1) ⟨false,fsL st cs.length i++[.tup [kd st cs.length i,.int (i:Int)]]⟩)[S.length+1]?=some ⟨false,fsL st cs.length (i+1)⟩:=by
  rw[List.getElem?_set_self lf,Gxc]; rfl
 have h1:(S'.set (S.length+1) ⟨false,fsL st cs.length i++[.tup [kd st cs.length i,.int (i:Int)]]⟩)[S.length]?=some ⟨false,hrL on i⟩:=by
  rw[List.getElem?_set_ne (by omega)]; exact hh
 have x1:Ex S (S'.set (S.length+1) ⟨false,fsL st cs.length i++[.tup [kd st cs.length i,.int (i:Int)]]⟩):=hx.setq (by omega)
 generalize S'.set (S.length+1) ⟨false,fsL st cs.length i++[.tup [kd st cs.length i,.int (i:Int)]]⟩=S1 at *
 obtain⟨S2,e2,x2⟩:=hv i S1
 have h2:=x2.at h1
 have f2:=x2.at f1
 have l2:S.length<S2.length:=(List.getElem?_eq_some_iff.mp h2).1
 have ap:=Gft (d:=hrD (on i)) h2 (by rw[Gbc]; omega)
 unfold hrD at ap
 have il:=isL h2
 have gc:=Go0 (i:=i) (S:=S1) h0
 have mn:=fun S=>Guh (i:=i) (S:=S) h0
 have lc:∀ S,Jf [.tup (cs.map D.int)] S=.ok (.int (cs.length:Int)) S:=fun S=>by simp[Jf]
 refine⟨Gcj cd rl s0 cr cs lim (stE (st (i+1))) (((i+1)%cs.length:Nat):Int) S.length (some (on i).o) (some (.int (on i).pr)) (some (.int (on i).ga)) (some (.int (on i).t)),S2.set S.length ⟨false,hrL on (i+1)⟩,?_,_,_,_,_,rfl,(x1.trans x2).setq (Nat.le_refl _),by rw[List.getElem?_set_self l2],by rw[List.getElem?_set_ne (by omega)]; exact f2⟩
 rw[Gxd]
 unfold hrD
 simp only[kd] at ds
 simp only[Hn,Gcj]
 generalize cum cs i=c at *
 generalize ((i%cs.length:Nat):Int)=p at *
 generalize (((i+1)%cs.length:Nat):Int)=p' at *
 generalize (cs.length:Int)=n at *
 generalize cs.map D.int=ct at *
 generalize stE (st i)=sd at *
 generalize stE (st (i+1))=sd' at *
 generalize (on i).o=o at *
 simp[ln,hi,ds,gc,e2,il,ap,lc,mn]
theorem Glt(h:IF S cd rl s0 cr cs lim st on i ρ S')(hi:(i:Int)=lim):∃ ρ2,Hn ρ S'=.exc ⟨"TooMany",none⟩ ρ2 S':=by
 obtain⟨x10,x11,x12,x13,rfl,hx,hh,hf⟩:=h
 have ln:=Gds hh
 simp only[Gbc] at ln
 refine⟨Gcj cd rl s0 cr cs lim (stE (st i)) ((i%cs.length:Nat):Int) S.length x10 x11 x12 x13,?_⟩
 simp only[Hn,Gcj]
 generalize stE (st i)=sd at *
 generalize ((i%cs.length:Nat):Int)=p at *
 simp[ln,hi,srs]
end
theorem Ghy{i:Nat}{fz:Bool}{L:List Int}(e:S[i]?=some ⟨fz,L.map D.int⟩):Gas [.lst i] S=.ok (.int L.sum) S:=by
 show(match ((S[i]?).map (·.xs)).bind Qc with | some ns=>Out.ok (D.int ns.sum) S | none=>.bad)=_
 rw[e]
 show(match Qc (L.map D.int) with | some ns=>Out.ok (D.int ns.sum) S | none=>.bad)=_
 rw[DL.Gfr]
theorem Glu(h:n<=l.length):DL.Um l (some (n:Int)) none=l.drop n:=by
 unfold DL.Um
 rw[HT.Ga8,HT.Wp,Nat.min_eq_left h]
 rw[List.take_of_length_le]
 simp
abbrev g3:Tg:=gt (gcons (gn 0) (gcons (gn 1) (gcons (gn 2) gnil))) 3
theorem Gui{q:Nat}{xs:List One}(v:One->Int)(hq:S[q]?=some ⟨false,xs.map hrD⟩)(hl:xs.length<100000)(h15:ρ[15]?=some (some (.lst q)))(he:∀ (x:One) (S':Sto),vr k [some (.int x.pr),some (.int x.ga),some (.int x.t)] S'=.ok (.int (v x)) S'):
  ∃ S',cmp (isrc (vr 15)) [none,none,none] g3 ttrue (vr k) ρ S=.ok (.lst S.length) S'/\Gas [.lst S.length] S'=.ok (.int (xs.map v).sum) S'/\Ex S S':=by
 obtain⟨ρ',S',el,y0,y1,y2,hρ,h2,hx⟩:=We (nxt:=(Xv q xs.length).nxt) (g:=g3) (b:=cbody S.length ttrue (vr k)) (l:=xs.map hrD)
  (fun i ρ S'=>∃ y0 y1 y2,ρ=[y0,y1,y2]/\S'[S.length]?=some ⟨false,((xs.take i).map v).map D.int⟩/\Ex S S')
  (fun i _ S' ⟨_,_,_,_,_,hx⟩=>by simp[Xv,hx.at hq]) (fun i d ρ S' hd ⟨y0,y1,y2,h1,h2,h3⟩=>by
   subst h1
   rw[List.getElem?_map] at hd
   cases z:xs[i]? with
   | none=>rw[z] at hd; cases hd
   | some x=>
    rw[z] at hd; cases hd
    have hi:i<xs.length:=(List.getElem?_eq_some_iff.mp z).1
    have lq:S.length<S'.length:=(List.getElem?_eq_some_iff.mp h2).1
    refine⟨[some (.int x.pr),some (.int x.ga),some (.int x.t)],[some (.int x.pr),some (.int x.ga),some (.int x.t)],_,by simp[hrD],Qz (he x S') h2 (by simp; omega),_,_,_,rfl,?_,h3.setq (Nat.le_refl _)⟩
    rw[List.getElem?_set_self lq,List.take_add_one,z]
    simp) (Xv q xs.length).fuel 0 [none,none,none] (S++[⟨false,[]⟩]) (Nat.zero_le _) ⟨none,none,none,rfl,by simp[Hw],Ex.app⟩ (by simp[Xv])
 rw[List.length_map,List.take_of_length_le (Nat.le_refl _)] at h2
 have src:=Gho hq
 simp only[List.length_map] at src
 refine⟨S',Zw (S1:=S) (s:=Xv q xs.length) (by simp[h15,src]) el,Ghy h2,hx⟩
def smF(on:Nat->One)(v:One->Int)(j p:Nat):Int:=((((List.range p).map on).drop j).map v).sum
structure Met(st:Nat->S3)(n p j:Nat):Prop where
 lt:j<p
 eq:kk st n j=kk st n p
 nw:∀ i,i<p->∀ b,b<i->kk st n b≠kk st n i
section
variable{cd rl s0:D}{cr lim:Int}{cs:List Int}{st:Nat->S3}{on:Nat->One}{S:Sto}{i p j:Nat}
def Glv(on:Nat->One)(p j:Nat):D:=.tup [.int (j:Int),.int ((p-j:Nat):Int),.int (smF on One.pr j p),.int (smF on One.ga j p),.int (smF on One.t j p)]
theorem IF.init:IF S cd rl (stE (st 0)) cr cs lim st on 0 (Gcj cd rl (stE (st 0)) cr cs lim (stE (st 0)) 0 S.length none none none none) ((S++[⟨false,[]⟩])++[⟨false,[]⟩]):=by
 refine⟨none,none,none,none,by simp,Ex.app.trans Ex.app,?_,?_⟩
 ·exact(Ex.app.at Hw)
 ·have:=Hw (S:=S++[(⟨false,[]⟩:Cell)]) (c:=⟨false,[]⟩)
  simp only[List.length_append,List.length_cons,List.length_nil] at this
  exact this
theorem Gxe(h0:0<cs.length)(hl:cs.length<=1000)(hv:EvH cd rl cr (cum cs) st on)(M:Met st cs.length p j)(hp:(p:Int)<=lim)(hm:lim<2900):
  ∃ S',Hl [cd,rl,.int cr,stE (st 0),.tup (cs.map D.int),.int lim] S=.ok (Glv on p j) S'/\Ex S S':=by
 have hj:=M.lt
 have nw:∀ i,i<p->dlook (kk st cs.length i) (fsL st cs.length i)=none:=fun i hi=>look_new fun b hb=>M.nw i hi b hb
 obtain⟨ρ',S1,hI,ew⟩:=Gls (c:=Jd) (b:=Hn) p (IF S cd rl (stE (st 0)) cr cs lim st on) (fun i ρ S' hi h=>by rw[Gbd h,nw i hi]; rfl)
  (fun i ρ S' hi h=>Ghx h0 hl hv h (by omega) (by omega) (nw i hi)) p 0 (3000-p) (Gcj cd rl (stE (st 0)) cr cs lim (stE (st 0)) 0 S.length none none none none) ((S++[⟨false,[]⟩])++[⟨false,[]⟩]) (by omega) IF.init
 have ef:3000-p+p=3000:=by omega
 rw[ef] at ew
 obtain⟨f,ff⟩:∃ f,3000-p=f+1:=⟨3000-p-1,by omega⟩
 have lk:dlook (kk st cs.length p) (fsL st cs.length p)=some (.int (j:Int)):=Glr hj M.eq fun b hb e=>M.nw j hj b hb (e.trans M.eq.symm)
 have et:=Gbd hI
 rw[lk] at et
 have ew2:whN Jd Hn (3000-p) ρ' S1=.nx ρ' S1:=by
  rw[ff,Gch,et]
  simp only[bindS,Option.isSome_some,Bool.not_true,Bool.false_eq_true,if_false]
 have ew:=ew.trans ew2
 obtain⟨x10,x11,x12,x13,rfl,hx,hh,hf⟩:=hI
 have dg:=Guf hf (Ggx (st:=st) (n:=cs.length) (i:=p)) lk
 simp only[kd] at dg
 have sl:=Gt5 (lo:=some (j:Int)) (hi:=none) hh
 simp only at sl
 rw[Glu (by rw[Gbc]; omega)] at sl
 have er:(hrL on p).drop j=(((List.range p).map on).drop j).map hrD:=by
  unfold hrL
  rw[<- List.map_drop,<- List.map_drop,List.map_map]
  rfl
 rw[er] at sl
 have lx:(((List.range p).map on).drop j).length=p-j:=by simp
 have q2:(S1++[(⟨false,(((List.range p).map on).drop j).map hrD⟩:Cell)])[S1.length]?=some ⟨false,(((List.range p).map on).drop j).map hrD⟩:=Hw
 have x2:Ex S (S1++[(⟨false,(((List.range p).map on).drop j).map hrD⟩:Cell)]):=hx.trans Ex.app
 generalize S1++[(⟨false,(((List.range p).map on).drop j).map hrD⟩:Cell)]=S2 at *
 have hxs:∃ xs,xs=((List.range p).map on).drop j:=⟨_,rfl⟩
 obtain⟨xs,exs⟩:=hxs
 have e3:∀ v,smF on v j p=(xs.map v).sum:=fun v=>by rw[exs]; rfl
 unfold Glv
 rw[e3,e3,e3]
 rw[<- exs] at q2 lx
 obtain⟨S3,c3,s3,x3⟩:=Gui (S:=S2) (q:=S1.length) (k:=0) (xs:=xs) (ρ:=[some cd,some rl,some (.int cr),some (stE (st 0)),some (.tup (cs.map D.int)),some (.int lim),some (stE (st p)),some (.int ((p%cs.length:Nat):Int)),some (.lst S.length),some (.dct (S.length+1)),x10,x11,x12,x13,some (.int j),some (.lst S1.length)]) One.pr q2 (by omega) rfl (fun x S'=>rfl)
 obtain⟨S4,c4,s4,x4⟩:=Gui (S:=S3) (q:=S1.length) (k:=1) (xs:=xs) (ρ:=[some cd,some rl,some (.int cr),some (stE (st 0)),some (.tup (cs.map D.int)),some (.int lim),some (stE (st p)),some (.int ((p%cs.length:Nat):Int)),some (.lst S.length),some (.dct (S.length+1)),x10,some (.int (xs.map One.pr).sum),x12,x13,some (.int j),some (.lst S1.length)]) One.ga (x3.at q2) (by omega) rfl (fun x S'=>rfl)
 obtain⟨S5,c5,s5,x5⟩:=Gui (S:=S4) (q:=S1.length) (k:=2) (xs:=xs) (ρ:=[some cd,some rl,some (.int cr),some (stE (st 0)),some (.tup (cs.map D.int)),some (.int lim),some (stE (st p)),some (.int ((p%cs.length:Nat):Int)),some (.lst S.length),some (.dct (S.length+1)),x10,some (.int (xs.map One.pr).sum),some (.int (xs.map One.ga).sum),x13,some (.int j),some (.lst S1.length)]) One.t (x4.at (x3.at q2)) (by omega) rfl (fun x S'=>rfl)
 have l5:=Gds (x5.at (x4.at (x3.at q2)))
 simp only[List.length_map,lx] at l5
 refine⟨S5,?_,x2.trans (x3.trans (x4.trans x5))⟩
 unfold Gcj at ew
 generalize stE (st 0)=z0 at *
 generalize stE (st p)=zp at *
 generalize ((p%cs.length:Nat):Int)=pl at *
 generalize cs.map D.int=ct at *
 generalize (xs.map One.pr).sum=w1 at *
 generalize (xs.map One.ga).sum=w2 at *
 generalize (xs.map One.t).sum=w3 at *
 unfold Hl
 rw[Hg]
 simp only[Wa]
 refine(Gr (ρ':=[some cd,some rl,some (.int cr),some z0,some (.tup ct),some (.int lim),some z0,none,none,none,none,none,none,none,none,none]) (S':=S) (by simp)).trans ?_
 refine(Gr (ρ':=[some cd,some rl,some (.int cr),some z0,some (.tup ct),some (.int lim),some z0,some (.int 0),none,none,none,none,none,none,none,none]) (S':=S) (by simp)).trans ?_
 refine(Gr (ρ':=[some cd,some rl,some (.int cr),some z0,some (.tup ct),some (.int lim),some z0,some (.int 0),some (.lst S.length),none,none,none,none,none,none,none]) (S':=S++[⟨false,[]⟩]) (by simp)).trans ?_
 refine(Gr (ρ':=[some cd,some rl,some (.int cr),some z0,some (.tup ct),some (.int lim),some z0,some (.int 0),some (.lst S.length),some (.dct (S.length+1)),none,none,none,none,none,none]) (S':=(S++[⟨false,[]⟩])++[⟨false,[]⟩]) (by simp[dnew])).trans ?_
 refine(Gr (ρ':=[some cd,some rl,some (.int cr),some z0,some (.tup ct),some (.int lim),some zp,some (.int pl),some (.lst S.length),some (.dct (S.length+1)),x10,x11,x12,x13,none,none]) (S':=S1) ew).trans ?_
 refine(Gr (ρ':=[some cd,some rl,some (.int cr),some z0,some (.tup ct),some (.int lim),some zp,some (.int pl),some (.lst S.length),some (.dct (S.length+1)),x10,x11,x12,x13,some (.int j),none]) (S':=S1) (by simp[dg])).trans ?_
 refine(Gr (ρ':=[some cd,some rl,some (.int cr),some z0,some (.tup ct),some (.int lim),some zp,some (.int pl),some (.lst S.length),some (.dct (S.length+1)),x10,x11,x12,x13,some (.int j),some (.lst S1.length)]) (S':=S2) (by simp[sl])).trans ?_
 refine(Gr (ρ':=[some cd,some rl,some (.int cr),some z0,some (.tup ct),some (.int lim),some zp,some (.int pl),some (.lst S.length),some (.dct (S.length+1)),x10,some (.int w1),x12,x13,some (.int j),some (.lst S1.length)]) (S':=S3) (by rw[Ui,Gfq,Gfp,c3]; simp[s3])).trans ?_
 refine(Gr (ρ':=[some cd,some rl,some (.int cr),some z0,some (.tup ct),some (.int lim),some zp,some (.int pl),some (.lst S.length),some (.dct (S.length+1)),x10,some (.int w1),some (.int w2),x13,some (.int j),some (.lst S1.length)]) (S':=S4) (by rw[Ui,Gfq,Gfp,c4]; simp[s4])).trans ?_
 refine(Gr (ρ':=[some cd,some rl,some (.int cr),some z0,some (.tup ct),some (.int lim),some zp,some (.int pl),some (.lst S.length),some (.dct (S.length+1)),x10,some (.int w1),some (.int w2),some (.int w3),some (.int j),some (.lst S1.length)]) (S':=S5) (by rw[Ui,Gfq,Gfp,c5]; simp[s5])).trans ?_
 simp[l5,fin]
theorem Gxf(h0:0<cs.length)(hl:cs.length<=1000)(hv:EvH cd rl cr (cum cs) st on)(hn:∀ i:Nat,(i:Int)<=lim->∀ b,b<i->kk st cs.length b≠kk st cs.length i)(hm0:0<=lim)(hm:lim<2900):
  ∃ S',Hl [cd,rl,.int cr,stE (st 0),.tup (cs.map D.int),.int lim] S=.exc ⟨"TooMany",none⟩ S'/\Ex S S':=by
 obtain⟨p,rfl⟩:∃ p:Nat,lim=p:=⟨lim.toNat,by omega⟩
 have nw:∀ i,i<=p->dlook (kk st cs.length i) (fsL st cs.length i)=none:=fun i hi=>look_new fun b hb=>hn i (by omega) b hb
 obtain⟨ρ',S1,hI,ew⟩:=Gls (c:=Jd) (b:=Hn) p (IF S cd rl (stE (st 0)) cr cs p st on) (fun i ρ S' hi h=>by rw[Gbd h,nw i (by omega)]; rfl)
  (fun i ρ S' hi h=>Ghx h0 hl hv h (by omega) (by omega) (nw i (by omega))) p 0 (3000-p) (Gcj cd rl (stE (st 0)) cr cs p (stE (st 0)) 0 S.length none none none none) ((S++[⟨false,[]⟩])++[⟨false,[]⟩]) (by omega) IF.init
 have ef:3000-p+p=3000:=by omega
 rw[ef] at ew
 obtain⟨f,ff⟩:∃ f,3000-p=f+1:=⟨3000-p-1,by omega⟩
 have et:=Gbd hI
 rw[nw p (Nat.le_refl _)] at et
 obtain⟨ρ2,er⟩:=Glt hI rfl
 have ew2:whN Jd Hn (3000-p) ρ' S1=.exc ⟨"TooMany",none⟩ ρ2 S1:=by
  rw[ff,Gch,et]
  simp only[bindS,Option.isSome_none,Bool.not_false,if_true,er]
 have ew:=ew.trans ew2
 obtain⟨_,_,_,_,_,hx,_,_⟩:=hI
 refine⟨S1,?_,hx⟩
 unfold Gcj at ew
 generalize stE (st 0)=z0 at *
 generalize cs.map D.int=ct at *
 unfold Hl
 rw[Hg]
 simp only[Wa]
 refine(Gr (ρ':=[some cd,some rl,some (.int cr),some z0,some (.tup ct),some (.int p),some z0,none,none,none,none,none,none,none,none,none]) (S':=S) (by simp)).trans ?_
 refine(Gr (ρ':=[some cd,some rl,some (.int cr),some z0,some (.tup ct),some (.int p),some z0,some (.int 0),none,none,none,none,none,none,none,none]) (S':=S) (by simp)).trans ?_
 refine(Gr (ρ':=[some cd,some rl,some (.int cr),some z0,some (.tup ct),some (.int p),some z0,some (.int 0),some (.lst S.length),none,none,none,none,none,none,none]) (S':=S++[⟨false,[]⟩]) (by simp)).trans ?_
 refine(Gr (ρ':=[some cd,some rl,some (.int cr),some z0,some (.tup ct),some (.int p),some z0,some (.int 0),some (.lst S.length),some (.dct (S.length+1)),none,none,none,none,none,none]) (S':=(S++[⟨false,[]⟩])++[⟨false,[]⟩]) (by simp[dnew])).trans ?_
 rw[Gam]
 rw[ew]
 rfl
end
end Law
namespace SM
variable{t t' bg:Nat}
structure Q where
 a:Nat
 b:Bool
 c:Option Nat
variable(l r y:Nat)
def nx(q:Q):Q:=match q.c with
 | some c=>if c<=l+1 then(if c=1 then⟨q.a,q.b,none⟩ else⟨q.a,q.b,some (c-1)⟩) else(if c=l+r+5 then⟨q.a,q.b,none⟩ else⟨q.a,q.b,some (c+1)⟩)
 | none=>if q.b=true then(if 1<=q.a then⟨q.a-1,true,some (l+1)⟩ else⟨0,false,some (l+5)⟩) else(if q.a<y then⟨q.a+1,false,none⟩ else⟨q.a,true,none⟩)
def per:Nat:=y*(l+3)+r+3
inductive Ok:Q->Nat->Prop
 | f (a:Nat) (h:a<=y):Ok ⟨a,false,none⟩ a
 | g (a:Nat) (h:a<=y):Ok ⟨a,true,none⟩ (y+1+(y-a)*(l+2))
 | p (a c:Nat) (h:a+1<=y) (h1:1<=c) (h2:c<=l+1):Ok ⟨a,true,some c⟩ (y+1+(y-a-1)*(l+2)+(l+2-c))
 | q (c:Nat) (h1:l+5<=c) (h2:c<=l+r+5):Ok ⟨0,false,some c⟩ (y+1+y*(l+2)+(c-(l+4)))
inductive Big(bg:Nat):Q->Nat->Prop
 | f:Big bg ⟨bg,false,none⟩ 0
 | g (a:Nat) (h:y<a) (h2:a<=bg):Big bg ⟨a,true,none⟩ (1+(bg-a)*(l+2))
 | p (a c:Nat) (h:y<=a) (h2:a+1<=bg) (h1:1<=c) (h3:c<=l+1):Big bg ⟨a,true,some c⟩ (1+(bg-a-1)*(l+2)+(l+2-c))
variable{l r y}
theorem per_eq:per l r y=y+1+y*(l+2)+(r+2):=by unfold per; rw[show l+3=(l+2)+1 by omega,Nat.mul_succ]; omega
theorem Gck{x m:Nat}(h:1<=x):x*m=(x-1)*m+m:=by
 obtain⟨z,rfl⟩:∃ z,x=z+1:=⟨x-1,by omega⟩
 rw[Nat.succ_mul]; simp
theorem Ghz{q:Q}(h:Ok l r y q t):(t+1<per l r y/\Ok l r y (nx l r y q) (t+1))\/(t+1=per l r y/\Ok l r y (nx l r y q) 0):=by
 rw[per_eq]
 cases h with
 | f _ h=>
  left
  refine⟨by omega,?_⟩
  simp only[nx,Bool.false_eq_true,if_false]
  by_cases c:t<y
  ·rw[if_pos c]; exact .f _ (by omega)
  ·rw[if_neg c]
   have e:y=t:=by omega
   subst e
   have:=Ok.g (l:=l) (r:=r) (y:=y) y (Nat.le_refl _)
   simpa using this
 | g a h=>
  left
  have hm:(y-a)*(l+2)<=y*(l+2):=Nat.mul_le_mul_right _ (by omega)
  refine⟨by omega,?_⟩
  simp only[nx,if_true]
  by_cases c:1<=a
  ·rw[if_pos c]
   have:=Ok.p (l:=l) (r:=r) (y:=y) (a-1) (l+1) (by omega) (by omega) (Nat.le_refl _)
   rw[show y-(a-1)-1=y-a by omega,show l+2-(l+1)=1 by omega] at this
   exact this
  ·rw[if_neg c]
   have e:a=0:=by omega
   subst e
   have:=Ok.q (l:=l) (r:=r) (y:=y) (l+5) (Nat.le_refl _) (by omega)
   rw[show l+5-(l+4)=1 by omega] at this
   simpa using this
 | p a c h h1 h2=>
  left
  have hm:(y-a-1)*(l+2)+(l+2)<=y*(l+2):=by
   rw[<- Nat.succ_mul]; exact Nat.mul_le_mul_right _ (by omega)
  refine⟨by omega,?_⟩
  simp only[nx]
  rw[if_pos h2]
  by_cases e:c=1
  ·subst e
   rw[if_pos rfl]
   have:=Ok.g (l:=l) (r:=r) (y:=y) a (by omega)
   rw[Gck (show 1<=y-a by omega)] at this
   rw[show y+1+(y-a-1)*(l+2)+(l+2-1)+1=y+1+((y-a-1)*(l+2)+(l+2)) by omega]
   exact this
  ·rw[if_neg e]
   have:=Ok.p (l:=l) (r:=r) (y:=y) a (c-1) h (by omega) (by omega)
   rw[show l+2-(c-1)=l+2-c+1 by omega] at this
   exact this
 | q c h1 h2=>
  simp only[nx]
  rw[if_neg (by omega)]
  by_cases e:c=l+r+5
  ·right
   rw[if_pos e]
   exact⟨by omega,.f 0 (Nat.zero_le _)⟩
  ·left
   rw[if_neg e]
   refine⟨by omega,?_⟩
   have:=Ok.q (l:=l) (r:=r) (y:=y) (c+1) (by omega) (by omega)
   rw[show c+1-(l+4)=c-(l+4)+1 by omega] at this
   exact this
theorem Gxg{q:Q}(h:Ok l r y q t):t<per l r y:=by
 rcases Ghz h with⟨h,_⟩ | ⟨h,_⟩<;>omega
theorem dm{m x z u v:Nat}(hu:u<m)(hv:v<m)(h:x*m+u=z*m+v):x=z/\u=v:=by
 have h1:(x*m+u) / m=x:=by rw[Nat.mul_comm,Nat.mul_add_div (by omega),Nat.div_eq_of_lt hu]; simp
 have h2:(z*m+v) / m=z:=by rw[Nat.mul_comm,Nat.mul_add_div (by omega),Nat.div_eq_of_lt hv]; simp
 have e:x=z:=by rw[<- h1,<- h2,h]
 subst e
 exact⟨rfl,by omega⟩
theorem Guj{q q':Q}(h:Ok l r y q t)(h':Ok l r y q' t):q=q':=by
 generalize ht:t=t' at h'
 cases h with
 | f a h=>
  cases h' with
  | f a' h'=>subst ht; rfl
  | g a' h'=>omega
  | p a' c' h' h1' h2'=>omega
  | q c' h1' h2'=>omega
 | g a h=>
  have hm:(y-a)*(l+2)<=y*(l+2):=Nat.mul_le_mul_right _ (by omega)
  cases h' with
  | f a' h'=>omega
  | g a' h'=>
   have:=dm (m:=l+2) (x:=y-a) (z:=y-a') (u:=0) (v:=0) (by omega) (by omega) (by omega)
   have e:a=a':=by omega
   subst e; rfl
  | p a' c' h' h1' h2'=>
   have:=dm (m:=l+2) (x:=y-a) (z:=y-a'-1) (u:=0) (v:=l+2-c') (by omega) (by omega) (by omega)
   omega
  | q c' h1' h2'=>omega
 | p a c h h1 h2=>
  have hm:(y-a-1)*(l+2)+(l+2)<=y*(l+2):=by
   rw[<- Nat.succ_mul]; exact Nat.mul_le_mul_right _ (by omega)
  cases h' with
  | f a' h'=>omega
  | g a' h'=>
   have:=dm (m:=l+2) (x:=y-a-1) (z:=y-a') (u:=l+2-c) (v:=0) (by omega) (by omega) (by omega)
   omega
  | p a' c' h' h1' h2'=>
   have:=dm (m:=l+2) (x:=y-a-1) (z:=y-a'-1) (u:=l+2-c) (v:=l+2-c') (by omega) (by omega) (by omega)
   have e:a=a':=by omega
   have e2:c=c':=by omega
   subst e e2; rfl
  | q c' h1' h2'=>omega
 | q c h1 h2=>
  cases h' with
  | f a' h'=>omega
  | g a' h'=>
   have hm:(y-a')*(l+2)<=y*(l+2):=Nat.mul_le_mul_right _ (by omega)
   omega
  | p a' c' h' h1' h2'=>
   have hm:(y-a'-1)*(l+2)+(l+2)<=y*(l+2):=by
    rw[<- Nat.succ_mul]; exact Nat.mul_le_mul_right _ (by omega)
   omega
  | q c' h1' h2'=>
   have e:c=c':=by omega
   subst e; rfl
theorem Guk{q:Q}(h:Ok l r y q t)(h':Ok l r y q t'):t=t':=by
 cases h<;>cases h'<;>first | rfl | omega
def lead(l y bg:Nat):Nat:=if y<bg then 1+(bg-y)*(l+2) else 0
theorem Gfx{q:Q}(hb:y<bg)(h:Big l y bg q t):(t+1<lead l y bg/\Big l y bg (nx l r y q) (t+1))\/(t+1=lead l y bg/\Ok l r y (nx l r y q) (y+1)):=by
 unfold lead
 rw[if_pos hb]
 cases h with
 | f=>
  left
  have hm:l+2<=(bg-y)*(l+2):=Nat.le_mul_of_pos_left _ (by omega)
  refine⟨by omega,?_⟩
  simp only[nx,Bool.false_eq_true,if_false]
  rw[if_neg (by omega)]
  have:=Big.g (l:=l) (y:=y) (bg:=bg) bg hb (Nat.le_refl _)
  simpa using this
 | g a h h2=>
  left
  have hm:(bg-a)*(l+2)+(l+2)<=(bg-y)*(l+2):=by
   rw[<- Nat.succ_mul]; exact Nat.mul_le_mul_right _ (by omega)
  refine⟨by omega,?_⟩
  simp only[nx,if_true]
  rw[if_pos (by omega)]
  have:=Big.p (l:=l) (y:=y) (bg:=bg) (a-1) (l+1) (by omega) (by omega) (by omega) (Nat.le_refl _)
  rw[show bg-(a-1)-1=bg-a by omega,show l+2-(l+1)=1 by omega] at this
  exact this
 | p a c h h2 h1 h3=>
  have hm:(bg-a-1)*(l+2)+(l+2)<=(bg-y)*(l+2):=by
   rw[<- Nat.succ_mul]; exact Nat.mul_le_mul_right _ (by omega)
  simp only[nx]
  rw[if_pos h3]
  by_cases e:c=1
  ·subst e
   rw[if_pos rfl]
   by_cases ea:a=y
   ·right
    subst ea
    refine⟨?_,?_⟩
    ·rw[Gck (show 1<=bg-a by omega)]; omega
    ·have:=Ok.g (l:=l) (r:=r) (y:=a) a (Nat.le_refl _)
     simpa using this
   ·left
    have hm2:(bg-a-1)*(l+2)+(l+2)+(l+2)<=(bg-y)*(l+2):=by
     rw[<- Nat.succ_mul,<- Nat.succ_mul]; exact Nat.mul_le_mul_right _ (by omega)
    refine⟨by omega,?_⟩
    have:=Big.g (l:=l) (y:=y) (bg:=bg) a (by omega) (by omega)
    rw[Gck (show 1<=bg-a by omega)] at this
    rw[show 1+(bg-a-1)*(l+2)+(l+2-1)+1=1+((bg-a-1)*(l+2)+(l+2)) by omega]
    exact this
  ·left
   rw[if_neg e]
   refine⟨by omega,?_⟩
   have:=Big.p (l:=l) (y:=y) (bg:=bg) a (c-1) h h2 (by omega) (by omega)
   rw[show l+2-(c-1)=l+2-c+1 by omega] at this
   exact this
theorem Go1{q:Q}(hb:y<bg)(h:Big l y bg q t)(h':Ok l r y q t'):False:=by
 cases h<;>cases h'<;>omega
theorem Go2{q:Q}(h:Big l y bg q t)(h':Big l y bg q t'):t=t':=by
 cases h<;>cases h'<;>first | rfl | omega
def run(l r y bg:Nat):Nat->Q
 | 0=>⟨bg,false,none⟩
 | i+1=>nx l r y (run l r y bg i)
def c0(y bg:Nat):Nat:=if y<bg then y+1 else bg
variable{bg:Nat}
theorem run_big(hb:y<bg):∀ i,i<lead l y bg->Big l y bg (run l r y bg i) i
 | 0,_=>.f
 | i+1,h=>by
  have:=run_big hb i (by omega)
  rcases Gfx (r:=r) hb this with⟨_,z⟩ | ⟨z,_⟩
  ·exact z
  ·omega
theorem Gfy:Ok l r y (run l r y bg (lead l y bg)) (c0 y bg):=by
 unfold c0
 by_cases hb:y<bg
 ·rw[if_pos hb]
  have hl:1<=lead l y bg:=by unfold lead; rw[if_pos hb]; exact Nat.le_add_right _ _
  obtain⟨k,hk⟩:∃ k,lead l y bg=k+1:=⟨lead l y bg-1,by omega⟩
  have:=run_big (l:=l) (r:=r) hb k (by omega)
  rcases Gfx (r:=r) hb this with⟨z,_⟩ | ⟨z,w⟩
  ·omega
  ·rw[hk]; exact w
 ·rw[if_neg hb]
  have:lead l y bg=0:=by unfold lead; rw[if_neg hb]
  rw[this]
  exact .f bg (by omega)
theorem Gxh:c0 y bg<per l r y:=Gxg (Gfy (l:=l) (r:=r) (y:=y) (bg:=bg))
theorem run_ok(i:Nat):Ok l r y (run l r y bg (lead l y bg+i)) ((c0 y bg+i)%per l r y):=by
 induction i with
 | zero=>
  rw[Nat.add_zero,Nat.add_zero,Nat.mod_eq_of_lt (Gxh (l:=l) (r:=r))]
  exact Gfy
 | succ i ih=>
  have hp:0<per l r y:=by unfold per; omega
  have hm:=Nat.mod_lt (c0 y bg+i) hp
  have e:(c0 y bg+(i+1))%per l r y=((c0 y bg+i)%per l r y+1)%per l r y:=by rw[<- Nat.add_assoc,Nat.add_mod,Nat.add_mod ((c0 y bg+i)%per l r y) 1,Nat.mod_mod]
  rw[e]
  rcases Ghz ih with⟨z,w⟩ | ⟨z,w⟩
  ·rw[Nat.mod_eq_of_lt z]; exact w
  ·rw[z,Nat.mod_self]; exact w
theorem run_same{i j:Nat}(hij:i<j):run l r y bg i=run l r y bg j↔lead l y bg<=i/\(j-i)%per l r y=0:=by
 have hp:0<per l r y:=by unfold per; omega
 constructor
 ·intro e
  by_cases hi:lead l y bg<=i
  ·refine⟨hi,?_⟩
   obtain⟨u,rfl⟩:∃ u,i=lead l y bg+u:=⟨i-lead l y bg,by omega⟩
   obtain⟨v,rfl⟩:∃ v,j=lead l y bg+v:=⟨j-lead l y bg,by omega⟩
   have h1:=run_ok (l:=l) (r:=r) (y:=y) (bg:=bg) u
   have h2:=run_ok (l:=l) (r:=r) (y:=y) (bg:=bg) v
   rw[e] at h1
   have:=Guk h1 h2
   have h3:(c0 y bg+v)%per l r y=(c0 y bg+u)%per l r y:=this.symm
   have:=Nat.sub_mod_eq_zero_of_mod_eq h3
   rwa [show c0 y bg+v-(c0 y bg+u)=lead l y bg+v-(lead l y bg+u) by omega] at this
  ·exfalso
   have hb:y<bg:=by
    rcases Nat.lt_or_ge y bg with z | z
    ·exact z
    ·exfalso; apply hi; unfold lead; rw[if_neg (by omega)]; exact Nat.zero_le _
   have h1:=run_big (l:=l) (r:=r) hb i (by omega)
   by_cases hj:j<lead l y bg
   ·have h2:=run_big (l:=l) (r:=r) hb j hj
    rw[e] at h1
    have:=Go2 h1 h2
    omega
   ·obtain⟨v,rfl⟩:∃ v,j=lead l y bg+v:=⟨j-lead l y bg,by omega⟩
    have h2:=run_ok (l:=l) (r:=r) (y:=y) (bg:=bg) v
    rw[e] at h1
    exact Go1 hb h1 h2
 ·rintro⟨hi,hm⟩
  obtain⟨u,rfl⟩:∃ u,i=lead l y bg+u:=⟨i-lead l y bg,by omega⟩
  obtain⟨v,rfl⟩:∃ v,j=lead l y bg+v:=⟨j-lead l y bg,by omega⟩
  have h1:=run_ok (l:=l) (r:=r) (y:=y) (bg:=bg) u
  have h2:=run_ok (l:=l) (r:=r) (y:=y) (bg:=bg) v
  have e:(c0 y bg+v)%per l r y=(c0 y bg+u)%per l r y:=by
   rw[show c0 y bg+v=c0 y bg+u+(lead l y bg+v-(lead l y bg+u)) by omega,Nat.add_mod,hm,Nat.add_zero,Nat.mod_mod]
  rw[e] at h2
  exact Guj h1 h2
end SM
namespace Law
open PySem PySem.Spec PyProof.Rows L2 DL WM
theorem Gxi{st:Nat->S3}{n a b:Nat}(h1:st a=st b)(h2:a%n=b%n):kk st n a=kk st n b:=by unfold kk; rw[h1,h2]
def SG(g:Nat->Int)(a:Nat):Nat->Int
 | 0=>0
 | k+1=>SG g a k+g (a+k)
theorem Zy{g:Nat->Int}{a m:Nat}:∀ k,SG g a (m+k)=SG g a m+SG g (a+m) k
 | 0=>by simp[SG]
 | k+1=>by
  show SG g a (m+k)+g (a+(m+k))=SG g a m+(SG g (a+m) k+g (a+m+k))
  rw[Zy k,<- Nat.add_assoc]; omega
theorem Gcl{g:Nat->Int}{a:Nat}:∀ k,((List.range' a k).map g).sum=SG g a k
 | 0=>rfl
 | k+1=>by
  rw[List.range'_concat,List.map_append,List.sum_append,Gcl k]
  simp[SG]
theorem Ggy:∀ (p j:Nat),(List.range p).drop j=List.range' j (p-j):=fun p j=>by
 apply List.ext_getElem?
 intro i
 rw[List.getElem?_drop]
 by_cases h:j+i<p
 ·rw[List.getElem?_range h,List.getElem?_range' (by omega)]; simp
 ·rw[List.getElem?_eq_none (by simp; omega),List.getElem?_eq_none (by simp; omega)]
theorem Ggz{on:Nat->One}{p j:Nat}{v:One->Int}:smF on v j p=SG (fun i=>v (on i)) j (p-j):=by
 unfold smF
 rw[<- List.map_drop,Ggy,List.map_map,Gcl]
 rfl
structure Sc where
 l:Nat
 r:Nat
 y:Nat
 brA:Int
 deA:Int
 roA:Int
 pA:Int
 brB:Int
 deB:Int
 roB:Int
 pB:Int
 cr:Int
namespace Sc
variable(K:Sc)
def PA:Pl:=.p K.brA K.deA K.roA (.int K.pA)
def PB:Pl:=.p K.brB K.deB K.roB (.int K.pB)
def Pf(i:Nat):Pl:=if i=0\/i=K.l+K.r+6 then .e else if i=K.l+2 then K.PA else if i=K.l+4 then K.PB else .c
def Uf(i:Nat):Bool:=decide (i<=K.l+1\/i=K.l+3)
def ps:List Pl:=(List.range (K.l+K.r+7)).map K.Pf
def us:List Bool:=(List.range (K.l+K.r+6)).map K.Uf
def Lf(q:SM.Q)(i:Nat):Int:=if i=K.l+2 then(q.a:Int) else if i=K.l+4 then(if q.b=true then 1 else 0) else if q.c=some i then 1 else 0
def Lv(q:SM.Q):List Int:=(List.range (K.l+K.r+7)).map (K.Lf q)
def R:List Int:=(List.range (K.l+K.r+7)).map fun i=>if i=0 then K.cr else 0
def F:List Int:=(List.range (K.l+K.r+7)).map fun i=>if i=K.l+K.r+6 then K.cr else 0
def Rf(k:Nat):Row:=if k<=K.l then⟨[],"let",k⟩ else if k=K.l+1 then⟨[("least",K.l+4,1),("least",K.l+2,1)],"let",K.l+1⟩ else if k=K.l+2 then⟨[("least",K.l+4,1)],"let",K.l+4⟩ else if k<=K.l+K.r+3 then⟨[],"let",k+2⟩ else if k=K.l+K.r+4 then⟨[("most",K.l+2,(K.y:Int)-1)],"feed",K.l+2⟩ else⟨[],"feed",K.l+4⟩
def rows:List Row:=(List.range (K.l+K.r+6)).map K.Rf
structure Ok:Prop where
 lr:K.l+K.r<=6
 y1:1<=K.y
 yb:(K.y:Int)<=K.brA
 a:K.PA.ok
 b:K.PB.ok
 c0:0<=K.cr
end Sc
section
variable{K:Sc}
theorem rg{α:Type}{f:Nat->α}{n i:Nat}(h:i<n):((List.range n).map f)[i]?=some (f i):=by rw[List.getElem?_map,List.getElem?_range h]; rfl
theorem Sc.Ok.pok(O:K.Ok)(i:Nat):(K.Pf i).ok:=by
 unfold Sc.Pf
 split
 ·trivial
 ·split
  ·exact O.a
  ·split
   ·exact O.b
   ·trivial
theorem Ua{q q':SM.Q}{i:Nat}{v:Int}(h:∀ j,j<K.l+K.r+7->K.Lf q' j=if j=i then v else K.Lf q j):(K.Lv q).set i v=K.Lv q':=by
 apply List.ext_getElem?
 intro j
 unfold Sc.Lv
 by_cases hj:j<K.l+K.r+7
 ·rw[rg hj,h j hj]
  by_cases e:j=i
  ·subst e
   rw[if_pos rfl,List.getElem?_set_self (by simpa using hj)]
  ·rw[if_neg e,List.getElem?_set_ne (Ne.symm e),rg hj]
 ·rw[List.getElem?_eq_none (by simp; omega),List.getElem?_eq_none (by simp; omega)]
theorem Gfz{f:Nat->Int}{n i:Nat}(h:f i=0):((List.range n).map f).set i 0=(List.range n).map f:=by
 apply List.ext_getElem?
 intro j
 by_cases hj:j<n
 ·by_cases e:i=j
  ·subst e
   rw[List.getElem?_set_self (by simpa using hj),rg hj,h]
  ·rw[List.getElem?_set_ne e]
 ·rw[List.getElem?_eq_none (by simp; omega),List.getElem?_eq_none (by simp; omega)]
theorem Zz(O:K.Ok){q:SM.Q}{g h o:Nat}(hg:g<K.l+K.r+6)(hh:hiI (K.Uf g) g=h)(hl:loI (K.Uf g) g=o):
  (Gfw (K.Pf h) (K.Pf o) (K.Lf q h) (K.Lf q o)->Ref (cD K.ps K.us) (stD (K.Lv q) K.R K.F) "let" g)∧
  (¬ Gfw (K.Pf h) (K.Pf o) (K.Lf q h) (K.Lf q o)->Dne (cD K.ps K.us) (stD (K.Lv q) K.R K.F) "let" g (stD (adj (K.Pf o) o (K.Lf q o) 1 (adj (K.Pf h) h (K.Lf q h) (-1) (K.Lv q))) K.R K.F) 0 0):=by
 have h1:h<K.l+K.r+7:=by rw[<- hh]; unfold hiI; split<;>omega
 have h2:o<K.l+K.r+7:=by rw[<- hl]; unfold loI; split<;>omega
 have ne:h≠o:=by rw[<- hh,<- hl]; unfold hiI loI; split<;>omega
 exact Gw5 (rg hg) hh hl (rg h1) (rg h2) (O.pok _) (O.pok _) (rg h1) (rg h2) ne (by simp[Sc.Lv]; have:=O.lr; omega)
theorem Gg0{q:SM.Q}{r:Row}(h:∀ a∈r.as,(a.1="least"\/a.1="most")/\a.2.1<K.l+K.r+7):∀ a∈r.as,∃ b,∀ S,Hb [stD (K.Lv q) K.R K.F,Kb a] S=.ok (.bl b) S:=fun a ha=>by
 obtain⟨w,i,n⟩:=a
 obtain⟨h1,h2⟩:=h _ ha
 rcases h1 with h1 | h1
 ·have h1:w="least":=h1
  subst h1
  exact⟨_,fun S=>Gll (rg h2)⟩
 ·have h1:w="most":=h1
  subst h1
  exact⟨_,fun S=>Glm (rg h2)⟩
theorem Giw{q:SM.Q}{i:Nat}{n:Int}(h:i<K.l+K.r+7):vOf Hb (stD (K.Lv q) K.R K.F) (Kb ("least",i,n))=decide (n<=K.Lf q i):=by
 have e:=Gll (L:=K.Lv q) (R:=K.R) (F:=K.F) (S:=[]) (i:=i) (n:=n) (l:=K.Lf q i) (rg h)
 unfold vOf; rw[e]
theorem Gxj{q:SM.Q}{i:Nat}{n:Int}(h:i<K.l+K.r+7):vOf Hb (stD (K.Lv q) K.R K.F) (Kb ("most",i,n))=decide (K.Lf q i<=n):=by
 have e:=Glm (L:=K.Lv q) (R:=K.R) (F:=K.F) (S:=[]) (i:=i) (n:=n) (l:=K.Lf q i) (rg h)
 unfold vOf; rw[e]
theorem Gdv(O:K.Ok)(k:Nat):(∀ a∈(K.Rf k).as,(a.1="least"\/a.1="most")/\a.2.1<K.l+K.r+7)/\(K.Rf k).as.length<=4:=by
 unfold Sc.Rf
 split
 ·simp
 ·split
  ·simp; omega
  ·split
   ·simp; omega
   ·split
    ·simp
    ·split
     ·simp; omega
     ·simp
variable{cd rl sd:D}{t cr c:Int}
theorem first{I:Lc->Prop}{d:D}{j:Nat}(hj:j<K.l+K.r+6)(h:∀ k,k<j->Stp gH Gy I (Ji (K.Rf k)))(hr:Rtn gH Gy I (Ji (K.Rf j)) d):Giv (Ga6 (K.rows.map Ji)).nxt gH Gy I d (Ga6 (K.rows.map Ji)).fuel 0:=by
 have hn:∀ k S,(Ga6 (K.rows.map Ji)).nxt k S=(K.rows.map Ji)[k]?:=fun _ _=>rfl
 have hg:∀ k,k<K.l+K.r+6->(K.rows.map Ji)[k]?=some (Ji (K.Rf k)):=fun k hk=>by
  unfold Sc.rows
  rw[List.getElem?_map,rg hk]; rfl
 have main:∀ n k,k<=j->j<k+n->Giv (Ga6 (K.rows.map Ji)).nxt gH Gy I d n k:=by
  intro n
  induction n with
  | zero=>intro k h1 h2; omega
  | succ n ih=>
   intro k h1 h2
   by_cases e:k=j
   ·subst e
    exact Gw7 hn (hg k hj) hr
   ·exact Gw6 hn (hg k (by omega)) (h k (by omega)) (ih (k+1) (by omega) (by omega))
 exact main _ 0 (Nat.zero_le _) (by show j<0+((K.rows.map Ji).length+1); simp[Sc.rows]; omega)
end
end Law
namespace Law
open PySem PySem.Spec PyProof.Rows L2 DL WM
variable{k h t n l r:Nat}{a m:Int}{L:List Int}{S:Sto}{ρ:Lc}
section
variable{K:Sc}
theorem Go3(h:k<=K.l):K.Rf k=⟨[],"let",k⟩:=by unfold Sc.Rf; rw[if_pos h]
theorem Gul:K.Rf (K.l+1)=⟨[("least",K.l+4,1),("least",K.l+2,1)],"let",K.l+1⟩:=by unfold Sc.Rf; rw[if_neg (by omega),if_pos rfl]
theorem Gum:K.Rf (K.l+2)=⟨[("least",K.l+4,1)],"let",K.l+4⟩:=by unfold Sc.Rf; rw[if_neg (by omega),if_neg (by omega),if_pos rfl]
theorem Go4(h1:K.l+3<=k)(h2:k<=K.l+K.r+3):K.Rf k=⟨[],"let",k+2⟩:=by unfold Sc.Rf; rw[if_neg (by omega),if_neg (by omega),if_neg (by omega),if_pos h2]
theorem Glw:K.Rf (K.l+K.r+4)=⟨[("most",K.l+2,(K.y:Int)-1)],"feed",K.l+2⟩:=by unfold Sc.Rf; rw[if_neg (by omega),if_neg (by omega),if_neg (by omega),if_neg (by omega),if_pos rfl]
theorem Gp9:K.Rf (K.l+K.r+5)=⟨[],"feed",K.l+4⟩:=by unfold Sc.Rf; rw[if_neg (by omega),if_neg (by omega),if_neg (by omega),if_neg (by omega),if_neg (by omega)]
theorem Gcm{i:Nat}(h:(1<=i/\i<=K.l+1)\/i=K.l+3\/(K.l+5<=i/\i<=K.l+K.r+5)):K.Pf i=.c:=by unfold Sc.Pf; rw[if_neg (by omega),if_neg (by omega),if_neg (by omega)]
theorem Glx:K.Pf (K.l+2)=K.PA:=by unfold Sc.Pf; rw[if_neg (by omega),if_pos rfl]
theorem Gly:K.Pf (K.l+4)=K.PB:=by unfold Sc.Pf; rw[if_neg (by omega),if_neg (by omega),if_pos rfl]
theorem Go5:K.Pf 0=.e:=by unfold Sc.Pf; rw[if_pos (.inl rfl)]
theorem Go6:K.Pf (K.l+K.r+6)=.e:=by unfold Sc.Pf; rw[if_pos (.inr rfl)]
theorem Vj{q:SM.Q}{i:Nat}(h:i≠K.l+2)(h2:i≠K.l+4):K.Lf q i=if q.c=some i then 1 else 0:=by unfold Sc.Lf; rw[if_neg h,if_neg h2]
theorem Ga7{q:SM.Q}:K.Lf q (K.l+2)=q.a:=by unfold Sc.Lf; rw[if_pos rfl]
theorem Gcn{q:SM.Q}:K.Lf q (K.l+4)=if q.b=true then 1 else 0:=by unfold Sc.Lf; rw[if_neg (by omega),if_pos rfl]
theorem u_t{g:Nat}(h:g<=K.l+1):K.Uf g=true:=decide_eq_true (.inl h)
theorem u_f{g:Nat}(h:K.l+4<=g):K.Uf g=false:=decide_eq_false (by omega)
def VQ(K:Sc)(q:SM.Q):Prop:=(q.a:Int)<=K.brA/\∀ c,q.c=some c->(1<=c/\c<=K.l+1)\/(K.l+5<=c/\c<=K.l+K.r+5/\q.b=false)
def prQ(K:Sc)(q:SM.Q):Int:=match q.c with
 | some _=>0
 | none=>if q.b=true then 0 else if q.a<K.y then K.pA else K.pB
def jQ(K:Sc)(q:SM.Q):Nat:=match q.c with
 | some c=>if c<=K.l+1 then c-1 else c-2
 | none=>if q.b=true then(if 1<=q.a then K.l+1 else K.l+2) else(if q.a<K.y then K.l+K.r+4 else K.l+K.r+5)
variable{rl sd:D}{t cr c:Int}{q:SM.Q}
abbrev IK(K:Sc)(q:SM.Q)(rl sd:D)(t cr c:Int):=IH (cD K.ps K.us) rl sd (stD (K.Lv q) K.R K.F) t cr c
theorem Glz(O:K.Ok)(hv:Ggw (stD (K.Lv q) K.R K.F) (K.Rf k)=true)(h:Ref (cD K.ps K.us) (stD (K.Lv q) K.R K.F) (K.Rf k).w (K.Rf k).k):Stp gH Gy (IK K q rl sd t cr c) (Ji (K.Rf k)):=Gw8 (Gg0 (Gdv O k).1) (Gdv O k).2 hv h
theorem Gl0(O:K.Ok)(hv:Ggw (stD (K.Lv q) K.R K.F) (K.Rf k)=false):Stp gH Gy (IK K q rl sd t cr c) (Ji (K.Rf k)):=Gy9 (Gg0 (Gdv O k).1) (Gdv O k).2 hv
theorem Gl1(O:K.Ok)(hk:k<=K.l)(h:q.c≠some (k+1)):Stp gH Gy (IK K q rl sd t cr c) (Ji (K.Rf k)):=by
 refine Glz O (by rw[Go3 hk]; rfl) ?_
 rw[Go3 hk]
 refine(Zz O (q:=q) (g:=k) (h:=k+1) (o:=k) (by omega) (by rw[u_t (by omega)]; rfl) (by rw[u_t (by omega)]; rfl)).1 (.inl ?_)
 rw[Gcm (.inl ⟨by omega,by omega⟩),Vj (by omega) (by omega),if_neg h]
 rfl
theorem Gqa(O:K.Ok)(h1:K.l+3<=k)(h2:k<=K.l+K.r+3)(h:q.c≠some (k+2)):Stp gH Gy (IK K q rl sd t cr c) (Ji (K.Rf k)):=by
 refine Glz O (by rw[Go4 h1 h2]; rfl) ?_
 rw[Go4 h1 h2]
 refine(Zz O (q:=q) (g:=k+2) (h:=k+2) (o:=k+3) (by omega) (by rw[u_f (by omega)]; rfl) (by rw[u_f (by omega)]; rfl)).1 (.inl ?_)
 rw[Gcm (.inr (.inr ⟨by omega,by omega⟩)),Vj (by omega) (by omega),if_neg h]
 rfl
theorem Gun(O:K.Ok)(h:q.b=false\/q.a=0):Stp gH Gy (IK K q rl sd t cr c) (Ji (K.Rf (K.l+1))):=by
 refine Gl0 O ?_
 rw[Gul]
 show([Kb ("least",K.l+4,1),Kb ("least",K.l+2,1)].all _)=false
 rw[List.all_cons,List.all_cons,Giw (by omega),Giw (by omega),Gcn,Ga7]
 rcases h with h | h
 ·rw[h]; simp
 ·rw[h]; simp
theorem Gxk(O:K.Ok)(h:q.b=false):Stp gH Gy (IK K q rl sd t cr c) (Ji (K.Rf (K.l+2))):=by
 refine Gl0 O ?_
 rw[Gum]
 show([Kb ("least",K.l+4,1)].all _)=false
 rw[List.all_cons,Giw (by omega),Gcn,h]
 simp
theorem Gxl(O:K.Ok)(h:K.y<=q.a):Stp gH Gy (IK K q rl sd t cr c) (Ji (K.Rf (K.l+K.r+4))):=by
 refine Gl0 O ?_
 rw[Glw]
 show([Kb ("most",K.l+2,(K.y:Int)-1)].all _)=false
 rw[List.all_cons,Gxj (by omega),Ga7,decide_eq_false (by omega)]
 rfl
theorem ret(O:K.Ok){q':SM.Q}{M:List Int}{pr:Int}(hv:Ggw (stD (K.Lv q) K.R K.F) (K.Rf k)=true)(hd:Dne (cD K.ps K.us) (stD (K.Lv q) K.R K.F) (K.Rf k).w (K.Rf k).k (stD M K.R K.F) pr 0)(hM:M=K.Lv q'):
  Rtn gH Gy (IK K q rl sd t cr c) (Ji (K.Rf k)) (.tup [stD (K.Lv q') K.R K.F,dd (K.Rf k).w (K.Rf k).k,.int pr,.int 0,.int t]):=by
 subst hM
 have:=Gw9 (rl:=rl) (sd:=sd) (t:=t) (cr:=cr) (c:=c) (m:=K.l+K.r+6) (Gg0 (Gdv O k).1) (Gdv O k).2 hv hd (by simp[Sc.R]) (by simp[Sc.F]) (by have:=O.lr; omega)
 have e1:K.R.set (K.l+K.r+6) 0=K.R:=Gfz (by simp)
 have e2:K.F.set 0 0=K.F:=Gfz (by simp)
 rw[e1,e2] at this
 exact this
theorem Gqb:adj .e h a m L=L:=rfl
theorem Gan:adj .c h a m L=L.set h (a+m):=rfl
theorem Gxm:adj K.PA h a m L=L.set h (a+m):=rfl
theorem Gxn:adj K.PB h a m L=L.set h (a+m):=rfl
theorem Gl2(O:K.Ok)(hV:VQ K q):jQ K q<K.l+K.r+6/\(∀ k,k<jQ K q->Stp gH Gy (IK K q rl sd t cr c) (Ji (K.Rf k)))∧
  Rtn gH Gy (IK K q rl sd t cr c) (Ji (K.Rf (jQ K q))) (.tup [stD (K.Lv (SM.nx K.l K.r K.y q)) K.R K.F,dd (K.Rf (jQ K q)).w (K.Rf (jQ K q)).k,.int (prQ K q),.int 0,.int t]):=by
 obtain⟨ha,hc⟩:=hV
 obtain⟨a,b,oc⟩:=q
 cases oc with
 | some x=>
  have hx:=hc x rfl
  by_cases hl:x<=K.l+1
  ·have h1:1<=x:=by rcases hx with h | h<;>omega
   have ej:jQ K ⟨a,b,some x⟩=x-1:=by simp[jQ,hl]
   rw[ej]
   refine⟨by omega,fun k hk=>Gl1 O (by omega) (by intro z; cases z; omega),?_⟩
   obtain⟨k,rfl⟩:∃ k,x=k+1:=⟨x-1,by omega⟩
   have hk:k<=K.l:=by omega
   rw[Nat.add_sub_cancel]
   have hd:=(Zz O (q:=⟨a,b,some (k+1)⟩) (g:=k) (h:=k+1) (o:=k) (by omega) (by rw[u_t (by omega)]; rfl) (by rw[u_t (by omega)]; rfl)).2
   have eh:K.Lf ⟨a,b,some (k+1)⟩ (k+1)=1:=by rw[Vj (by omega) (by omega),if_pos rfl]
   have el:K.Lf ⟨a,b,some (k+1)⟩ k=0:=by rw[Vj (by omega) (by omega),if_neg (by simp)]
   rw[Gcm (.inl ⟨by omega,by omega⟩),eh,el] at hd
   refine ret O (M:=adj (K.Pf k) k 0 1 (adj .c (k+1) 1 (-1) (K.Lv ⟨a,b,some (k+1)⟩))) (by rw[Go3 hk]; rfl) ?_ ?_
   ·rw[Go3 hk]
    refine hd fun z=>?_
    rcases z with z | z
    ·simp[Pl.isE] at z
    ·by_cases k0:k=0
     ·subst k0; rw[Go5] at z; simp[Pl.isE] at z
     ·rw[Gcm (.inl ⟨by omega,by omega⟩)] at z; simp[Pl.isE,wat] at z
   ·by_cases k0:k=0
    ·subst k0
     rw[Go5,Gqb,Gan]
     refine Ua fun j hj=>?_
     simp only[SM.nx,if_pos hl,if_true]
     by_cases e:j=0+1
     ·subst e; rw[if_pos rfl,Vj (by omega) (by omega)]; simp
     ·rw[if_neg e]; unfold Sc.Lf; simp only[reduceCtorEq,if_false]
      have:¬ (some (0+1)=some j):=by intro z; cases z; exact e rfl
      simp[this]
    ·rw[Gcm (.inl ⟨by omega,by omega⟩),Gan,Gan]
     have m1:(K.Lv ⟨a,b,some (k+1)⟩).set (k+1) (1 + -1)=K.Lv ⟨a,b,none⟩:=Ua fun j hj=>by
      by_cases e:j=k+1
      ·subst e; rw[if_pos rfl,Vj (by omega) (by omega)]; simp
      ·rw[if_neg e]; unfold Sc.Lf
       have:¬ (some (k+1)=some j):=by intro z; cases z; exact e rfl
       simp[this]
     rw[m1]
     simp only[SM.nx,if_pos hl]
     rw[if_neg (by omega)]
     refine Ua fun j hj=>?_
     by_cases e:j=k
     ·subst e; rw[if_pos rfl,Vj (by omega) (by omega)]; simp
     ·rw[if_neg e]; unfold Sc.Lf
      have:¬ (some k=some j):=by intro z; cases z; exact e rfl
      simp[this]
  ·have hx2:K.l+5<=x/\x<=K.l+K.r+5/\b=false:=by rcases hx with h | h<;>first | omega | exact h
   obtain⟨h1,h2,hb⟩:=hx2
   subst hb
   have ej:jQ K ⟨a,false,some x⟩=x-2:=by simp[jQ,hl]
   rw[ej]
   refine⟨by omega,fun k hk=>?_,?_⟩
   ·by_cases e1:k<=K.l
    ·exact Gl1 O e1 (by intro z; cases z; omega)
    ·by_cases e2:k=K.l+1
     ·subst e2; exact Gun O (.inl rfl)
     ·by_cases e3:k=K.l+2
      ·subst e3; exact Gxk O rfl
      ·exact Gqa O (by omega) (by omega) (by intro z; cases z; omega)
   ·obtain⟨k,rfl⟩:∃ k,x=k+2:=⟨x-2,by omega⟩
    rw[Nat.add_sub_cancel]
    have hd:=(Zz O (q:=⟨a,false,some (k+2)⟩) (g:=k+2) (h:=k+2) (o:=k+3) (by omega) (by rw[u_f (by omega)]; rfl) (by rw[u_f (by omega)]; rfl)).2
    have eh:K.Lf ⟨a,false,some (k+2)⟩ (k+2)=1:=by rw[Vj (by omega) (by omega),if_pos rfl]
    have el:K.Lf ⟨a,false,some (k+2)⟩ (k+3)=0:=by rw[Vj (by omega) (by omega),if_neg (by simp)]
    rw[Gcm (i:=k+2) (.inr (.inr ⟨by omega,by omega⟩)),eh,el] at hd
    refine ret O (M:=adj (K.Pf (k+3)) (k+3) 0 1 (adj .c (k+2) 1 (-1) (K.Lv ⟨a,false,some (k+2)⟩))) (by rw[Go4 (by omega) (by omega)]; rfl) ?_ ?_
    ·rw[Go4 (by omega) (by omega)]
     refine hd fun z=>?_
     rcases z with z | z
     ·simp[Pl.isE] at z
     ·by_cases k0:k+3=K.l+K.r+6
      ·rw[k0,Go6] at z; simp[Pl.isE] at z
      ·rw[Gcm (.inr (.inr ⟨by omega,by omega⟩))] at z; simp[Pl.isE,wat] at z
    ·have m1:(K.Lv ⟨a,false,some (k+2)⟩).set (k+2) (1 + -1)=K.Lv ⟨a,false,none⟩:=Ua fun j hj=>by
      by_cases e:j=k+2
      ·subst e; rw[if_pos rfl,Vj (by omega) (by omega)]; simp
      ·rw[if_neg e]; unfold Sc.Lf
       have:¬ (some (k+2)=some j):=by intro z; cases z; exact e rfl
       simp[this]
     simp only[SM.nx]
     rw[if_neg hl]
     by_cases k0:k+3=K.l+K.r+6
     ·rw[k0,Go6,Gqb,Gan,m1,if_pos (by omega)]
     ·rw[Gcm (.inr (.inr ⟨by omega,by omega⟩)),Gan,Gan,m1,if_neg (by omega)]
      refine Ua fun j hj=>?_
      by_cases e:j=k+3
      ·subst e; rw[if_pos rfl,Vj (by omega) (by omega)]; simp
      ·rw[if_neg e]; unfold Sc.Lf
       have:¬ (some (k+2+1)=some j):=by intro z; cases z; exact e rfl
       simp[this]
 | none=>
  have nl:∀ k,k<=K.l->Stp gH Gy (IK K ⟨a,b,none⟩ rl sd t cr c) (Ji (K.Rf k)):=fun k hk=>Gl1 O hk (by simp)
  cases b with
  | true=>
   by_cases h1:1<=a
   ·have ej:jQ K ⟨a,true,none⟩=K.l+1:=by simp[jQ,h1]
    rw[ej]
    refine⟨by omega,fun k hk=>nl k (by omega),?_⟩
    have hd:=(Zz O (q:=⟨a,true,none⟩) (g:=K.l+1) (h:=K.l+2) (o:=K.l+1) (by omega) (by rw[u_t (by omega)]; rfl) (by rw[u_t (by omega)]; rfl)).2
    have el:K.Lf ⟨a,true,none⟩ (K.l+1)=0:=by rw[Vj (by omega) (by omega),if_neg (by simp)]
    rw[Glx,Gcm (.inl ⟨by omega,by omega⟩),Ga7,el] at hd
    refine ret O (M:=adj .c (K.l+1) 0 1 (adj K.PA (K.l+2) a (-1) (K.Lv ⟨a,true,none⟩))) ?_ ?_ ?_
    ·rw[Gul]
     show([Kb ("least",K.l+4,1),Kb ("least",K.l+2,1)].all _)=true
     rw[List.all_cons,List.all_cons,Giw (by omega),Giw (by omega),Gcn,Ga7]
     simp; omega
    ·rw[Gul]
     refine hd fun z=>?_
     rcases z with z | z
     ·simp[Sc.PA,Pl.isE] at z; omega
     ·simp[Pl.isE,wat] at z
    ·rw[Gan,Gxm]
     have m1:(K.Lv ⟨a,true,none⟩).set (K.l+2) ((a:Int) + -1)=K.Lv ⟨a-1,true,none⟩:=Ua fun j hj=>by
      by_cases e:j=K.l+2
      ·subst e; rw[if_pos rfl,Ga7]; show((a-1:Nat):Int)=_; omega
      ·rw[if_neg e]; unfold Sc.Lf; rw[if_neg e,if_neg e]
     rw[m1]
     simp only[SM.nx,if_true,if_pos h1]
     refine Ua fun j hj=>?_
     by_cases e:j=K.l+1
     ·subst e; rw[if_pos rfl,Vj (by omega) (by omega)]; simp
     ·rw[if_neg e]; unfold Sc.Lf
      have:¬ (some (K.l+1)=some j):=by intro z; cases z; exact e rfl
      simp[this]
   ·have e0:a=0:=by omega
    subst e0
    have ej:jQ K ⟨0,true,none⟩=K.l+2:=by simp[jQ]
    rw[ej]
    refine⟨by omega,fun k hk=>?_,?_⟩
    ·by_cases e1:k<=K.l
     ·exact nl k e1
     ·have:k=K.l+1:=by omega
      subst this; exact Gun O (.inr rfl)
    ·have hd:=(Zz O (q:=⟨0,true,none⟩) (g:=K.l+4) (h:=K.l+4) (o:=K.l+5) (by omega) (by rw[u_f (by omega)]; rfl) (by rw[u_f (by omega)]; rfl)).2
     have el:K.Lf ⟨0,true,none⟩ (K.l+5)=0:=by rw[Vj (by omega) (by omega),if_neg (by simp)]
     have eh:K.Lf ⟨0,true,none⟩ (K.l+4)=1:=by rw[Gcn]; rfl
     rw[Gly,Gcm (.inr (.inr ⟨by omega,by omega⟩)),eh,el] at hd
     refine ret O (M:=adj .c (K.l+5) 0 1 (adj K.PB (K.l+4) 1 (-1) (K.Lv ⟨0,true,none⟩))) ?_ ?_ ?_
     ·rw[Gum]
      show([Kb ("least",K.l+4,1)].all _)=true
      rw[List.all_cons,Giw (by omega),Gcn]
      simp
     ·rw[Gum]
      refine hd fun z=>?_
      rcases z with z | z
      ·simp[Sc.PB,Pl.isE] at z
      ·simp[Pl.isE,wat] at z
     ·rw[Gan,Gxn]
      have m1:(K.Lv ⟨0,true,none⟩).set (K.l+4) (1 + -1)=K.Lv ⟨0,false,none⟩:=Ua fun j hj=>by
       by_cases e:j=K.l+4
       ·subst e; rw[if_pos rfl,Gcn]; rfl
       ·rw[if_neg e]; unfold Sc.Lf; rw[if_neg e,if_neg e]
      rw[m1]
      simp only[SM.nx,if_true]
      rw[if_neg (by omega)]
      refine Ua fun j hj=>?_
      by_cases e:j=K.l+5
      ·subst e; rw[if_pos rfl,Vj (by omega) (by omega)]; simp
      ·rw[if_neg e]; unfold Sc.Lf
       have:¬ (some (K.l+5)=some j):=by intro z; cases z; exact e rfl
       simp[this]
  | false=>
   have pre:∀ k,k<K.l+K.r+4->Stp gH Gy (IK K ⟨a,false,none⟩ rl sd t cr c) (Ji (K.Rf k)):=fun k hk=>by
    by_cases e1:k<=K.l
    ·exact nl k e1
    ·by_cases e2:k=K.l+1
     ·subst e2; exact Gun O (.inl rfl)
     ·by_cases e3:k=K.l+2
      ·subst e3; exact Gxk O rfl
      ·exact Gqa O (by omega) (by omega) (by simp)
   by_cases h1:a<K.y
   ·have ej:jQ K ⟨a,false,none⟩=K.l+K.r+4:=by simp[jQ,h1]
    rw[ej]
    refine⟨by omega,pre,?_⟩
    obtain⟨pr,e1,hd⟩:=(Glk (us:=K.us) (R:=K.R) (F:=K.F) (k:=K.l+2) (p:=K.Pf (K.l+2)) (L:=K.Lv ⟨a,false,none⟩) (a:=K.Lf ⟨a,false,none⟩ (K.l+2)) (ps:=K.ps) (rg (by omega)) (O.pok _) (rg (by omega)) (by simp[Sc.Lv]; have:=O.lr; omega)).2 (fun z=>by
     rw[Glx,Ga7] at z
     rcases z with z | z
     ·simp[spb,spr,Sc.PA] at z
     ·have:=O.yb
      simp[Sc.PA,Pl.isE,wat] at z
      have z:=of_decide_eq_true z; omega)
    rw[Glx] at e1
    have e1:pr=K.pA:=by simp[Sc.PA,spr] at e1; omega
    subst e1
    rw[Ga7] at hd
    have hp:prQ K ⟨a,false,none⟩=K.pA:=by simp[prQ,h1]
    rw[hp]
    refine ret O (M:=(K.Lv ⟨a,false,none⟩).set (K.l+2) ((a:Int)+1)) ?_ (by rw[Glw]; exact hd) ?_
    ·rw[Glw]
     show([Kb ("most",K.l+2,(K.y:Int)-1)].all _)=true
     rw[List.all_cons,Gxj (by omega),Ga7,decide_eq_true (show((a:Int)<=(K.y:Int)-1) by omega)]
     rfl
    ·simp only[SM.nx,Bool.false_eq_true,if_false,if_pos h1]
     refine Ua fun j hj=>?_
     by_cases e:j=K.l+2
     ·subst e; rw[if_pos rfl,Ga7]; show((a+1:Nat):Int)=_; omega
     ·rw[if_neg e]; unfold Sc.Lf; rw[if_neg e,if_neg e]
   ·have ej:jQ K ⟨a,false,none⟩=K.l+K.r+5:=by simp[jQ,h1]
    rw[ej]
    refine⟨by omega,fun k hk=>?_,?_⟩
    ·by_cases e:k=K.l+K.r+4
     ·subst e; exact Gxl O (by show K.y<=a; omega)
     ·exact pre k (by omega)
    ·have eb:K.Lf ⟨a,false,none⟩ (K.l+4)=0:=by rw[Gcn]; rfl
     obtain⟨pr,e1,hd⟩:=(Glk (us:=K.us) (R:=K.R) (F:=K.F) (k:=K.l+4) (p:=K.Pf (K.l+4)) (L:=K.Lv ⟨a,false,none⟩) (a:=K.Lf ⟨a,false,none⟩ (K.l+4)) (ps:=K.ps) (rg (by omega)) (O.pok _) (rg (by omega)) (by simp[Sc.Lv]; have:=O.lr; omega)).2 (fun z=>by
      rw[Gly,eb] at z
      have hB:=O.b
      simp only[Sc.PB,Pl.ok] at hB
      rcases z with z | z
      ·simp[spb,spr,Sc.PB] at z
      ·simp[Sc.PB,Pl.isE,wat] at z
       have z:=of_decide_eq_true z; omega)
     rw[Gly] at e1
     have e1:pr=K.pB:=by simp[Sc.PB,spr] at e1; omega
     subst e1
     rw[eb] at hd
     have hp:prQ K ⟨a,false,none⟩=K.pB:=by simp[prQ,h1]
     rw[hp]
     refine ret O (M:=(K.Lv ⟨a,false,none⟩).set (K.l+4) (0+1)) (by rw[Gp9]; rfl) (by rw[Gp9]; exact hd) ?_
     simp only[SM.nx,Bool.false_eq_true,if_false,if_neg h1]
     refine Ua fun j hj=>?_
     by_cases e:j=K.l+4
     ·subst e; rw[if_pos rfl,Gcn]; rfl
     ·rw[if_neg e]; unfold Sc.Lf; rw[if_neg e,if_neg e]
end
section
variable{K:Sc}{q q':SM.Q}{c:Int}{bg:Nat}{cs:List Int}
theorem Gxo(O:K.Ok):Can K.ps K.us (K.l+K.r+6) where
 ok:=fun p hp=>by
  obtain⟨i,_,rfl⟩:=List.mem_map.mp hp
  exact O.pok i
 len:=by simp[Sc.ps]
 gts:=by simp[Sc.us]
 m1:=by omega
 m2:=by have:=O.lr; omega
 e0:=by unfold Sc.ps; rw[rg (by omega),Go5]
 em:=by unfold Sc.ps; rw[rg (by omega),Go6]
theorem Gxp(O:K.Ok)(hV:VQ K q):Hou K.ps K.cr (K.Lv q) K.R K.F (K.l+K.r+6) where
 st:={
  lL:=by simp[Sc.ps,Sc.Lv]
  lR:=by simp[Sc.ps,Sc.R]
  lF:=by simp[Sc.ps,Sc.F]
  g:=fun i p l r f h1 h2 h3 h4=>by
   have hi:i<K.l+K.r+7:=by have:=(List.getElem?_eq_some_iff.mp h1).1; simpa[Sc.ps] using this
   unfold Sc.ps at h1; rw[rg hi] at h1
   unfold Sc.Lv at h2; rw[rg hi] at h2
   unfold Sc.R at h3; rw[rg hi] at h3
   unfold Sc.F at h4; rw[rg hi] at h4
   have h1:=Option.some.inj h1
   have h2:=Option.some.inj h2
   have h3:=Option.some.inj h3
   have h4:=Option.some.inj h4
   subst h1 h2 h3 h4
   have c0:=O.c0
   obtain⟨v1,v2⟩:=hV
   have oA:=O.a
   have oB:=O.b
   simp only[Sc.PA,Pl.ok] at oA
   simp only[Sc.PB,Pl.ok] at oB
   by_cases e0:i=0
   ·subst e0
    have nc:q.c≠some 0:=fun z=>by have:=v2 _ z; omega
    rw[Vj (by omega) (by omega),if_neg nc,Go5,if_pos rfl,if_neg (by omega)]
    exact⟨Int.le_refl _,Int.le_refl _,c0,Int.le_refl _,rfl⟩
   ·by_cases em:i=K.l+K.r+6
    ·subst em
     have nc:q.c≠some (K.l+K.r+6):=fun z=>by have:=v2 _ z; omega
     rw[Vj (by omega) (by omega),if_neg nc,Go6,if_neg e0,if_pos rfl]
     exact⟨Int.le_refl _,Int.le_refl _,Int.le_refl _,c0,rfl⟩
    ·rw[if_neg e0,if_neg em]
     by_cases eA:i=K.l+2
     ·subst eA
      rw[Ga7,Glx]
      refine⟨by omega,v1,Int.le_refl _,Int.le_refl _,?_⟩
      show decide ((0:Int)+0<=K.roA)=true
      exact decide_eq_true (by omega)
     ·by_cases eB:i=K.l+4
      ·subst eB
       rw[Gcn,Gly]
       refine⟨by split<;>omega,?_,Int.le_refl _,Int.le_refl _,?_⟩
       ·show(if q.b=true then(1:Int) else 0)<=K.brB
        split<;>omega
       ·show decide ((0:Int)+0<=K.roB)=true
        exact decide_eq_true (by omega)
      ·rw[Vj eA eB,Gcm (by omega)]
       refine⟨by split<;>omega,?_,Int.le_refl _,Int.le_refl _,rfl⟩
       show(if q.c=some i then(1:Int) else 0)<=1
       split<;>omega }
 len:=by simp[Sc.ps]
 rz:=by unfold Sc.R; rw[rg (by omega),if_neg (by omega)]
 fz:=by unfold Sc.F; rw[rg (by omega),if_neg (by omega)]
 r0:=⟨K.cr,by unfold Sc.R; rw[rg (by omega),if_pos rfl],Int.le_refl _⟩
 fm:=⟨K.cr,by unfold Sc.F; rw[rg (by omega),if_pos rfl],Int.le_refl _⟩
theorem Gxq(O:K.Ok)(hV:VQ K q)(hc:0<=c/\c<=3)(S:Sto):Jn [stD (K.Lv q) K.R K.F,.int K.cr,.int c] S=.ok (.tup [stD (K.Lv q) K.R K.F,.int (com c)]) S:=by
 obtain⟨r,f,h1,h2,h3,_⟩:=Gub (Gxo O) (Gxp O hV) hc
 have e1:r=K.cr:=by
  unfold Sc.R at h1; rw[rg (by omega),if_pos rfl] at h1; exact(Option.some.inj h1).symm
 have e2:f=K.cr:=by
  unfold Sc.F at h2; rw[rg (by omega),if_pos rfl] at h2; exact(Option.some.inj h2).symm
 subst e1 e2
 rw[h3]
 have a1:cmR c K.cr K.cr K.R=K.R:=if_neg (fun z=>absurd z.2 (Int.lt_irrefl _))
 have a2:cmF c K.cr K.cr (K.l+K.r+6) K.F=K.F:=if_neg (fun z=>absurd z.2 (Int.lt_irrefl _))
 have a3:cmT c K.cr K.cr K.cr=com c:=by
  unfold cmT com
  rcases(by omega:c=0\/c=1\/c=2\/c=3) with rfl | rfl | rfl | rfl<;>simp
 rw[a1,a2,a3]
def stK(K:Sc)(bg i:Nat):S3:=(K.Lv (SM.run K.l K.r K.y bg i),K.R,K.F)
def onQ(K:Sc)(q:SM.Q)(t:Int):One:=⟨dd (K.Rf (jQ K q)).w (K.Rf (jQ K q)).k,prQ K q,0,t⟩
def onK(K:Sc)(bg:Nat)(cs:List Int)(i:Nat):One:=onQ K (SM.run K.l K.r K.y bg i) (com (cum cs i))
theorem Gzb(O:K.Ok)(h:SM.Ok K.l K.r K.y q t):VQ K q:=by
 have:=O.yb
 cases h with
 | f _ h=>exact⟨by show(t:Int)<=_; omega,fun c z=>by cases z⟩
 | g a h=>exact⟨by show(a:Int)<=_; omega,fun c z=>by cases z⟩
 | p a x h1 h2 h3=>exact⟨by show(a:Int)<=_; omega,fun c z=>by cases z; left; omega⟩
 | q x h1 h2=>exact⟨by show((0:Nat):Int)<=_; omega,fun c z=>by cases z; right; exact⟨by omega,by omega,rfl⟩⟩
theorem Gxr(hb:(bg:Int)<=K.brA)(h:SM.Big K.l K.y bg q t):VQ K q:=by
 cases h with
 | f=>exact⟨hb,fun c z=>by cases z⟩
 | g a h1 h2=>exact⟨by show(a:Int)<=_; omega,fun c z=>by cases z⟩
 | p a x h1 h2 h3 h4=>exact⟨by show(a:Int)<=_; omega,fun c z=>by cases z; left; omega⟩
theorem Gl3(O:K.Ok)(hb:(bg:Int)<=K.brA)(i:Nat):VQ K (SM.run K.l K.r K.y bg i):=by
 by_cases h:i<SM.lead K.l K.y bg
 ·have hy:K.y<bg:=by
   by_cases c:K.y<bg
   ·exact c
   ·unfold SM.lead at h; rw[if_neg c] at h; omega
  exact Gxr hb (SM.run_big hy i h)
 ·have:=SM.run_ok (l:=K.l) (r:=K.r) (y:=K.y) (bg:=bg) (i-SM.lead K.l K.y bg)
  rw[show SM.lead K.l K.y bg+(i-SM.lead K.l K.y bg)=i by omega] at this
  exact Gzb O this
theorem Go7(h0:0<cs.length)(hc:∀ c∈cs,0<=c/\c<=3)(i:Nat):0<=cum cs i/\cum cs i<=3:=by
 have hi:i%cs.length<cs.length:=Nat.mod_lt _ h0
 unfold cum
 rw[List.getD_eq_getElem?_getD,List.getElem?_eq_getElem hi]
 exact hc _ (List.getElem_mem hi)
theorem Gzc(O:K.Ok)(hb:(bg:Int)<=K.brA)(h0:0<cs.length)(hc:∀ c∈cs,0<=c/\c<=3):EvH (cD K.ps K.us) (.tup (K.rows.map Ji)) K.cr (cum cs) (stK K bg) (onK K bg cs):=fun i S=>by
 have hV:=Gl3 O hb i
 obtain⟨h1,h2,h3⟩:=Gl2 (rl:=.tup (K.rows.map Ji)) (sd:=stD (K.Lv (SM.run K.l K.r K.y bg i)) K.R K.F) (t:=com (cum cs i)) (cr:=K.cr) (c:=cum cs i) O hV
 exact Gxa (fun S=>Gxq O hV (Go7 h0 hc i) S) (first h1 h2 h3) S
theorem Guo(hV:VQ K q)(hV':VQ K q')(h:K.Lv q=K.Lv q'):q=q':=by
 have at':∀ i,i<K.l+K.r+7->K.Lf q i=K.Lf q' i:=fun i hi=>by
  have e:=congrArg (fun l=>l[i]?) h
  simp only[Sc.Lv] at e
  rw[rg hi,rg hi] at e
  exact Option.some.inj e
 have ha:=at' (K.l+2) (by omega)
 rw[Ga7,Ga7] at ha
 have hb:=at' (K.l+4) (by omega)
 rw[Gcn,Gcn] at hb
 have side:∀ {p p':SM.Q},VQ K p->(∀ i,i<K.l+K.r+7->K.Lf p i=K.Lf p' i)->∀ x,p.c=some x->p'.c=some x:=fun{p p'} v e x hx=>by
  have vx:=v.2 x hx
  have:=e x (by omega)
  rw[Vj (by omega) (by omega),Vj (by omega) (by omega),if_pos hx] at this
  by_cases z:p'.c=some x
  ·exact z
  ·rw[if_neg z] at this; omega
 have hc:q.c=q'.c:=by
  cases z:q.c with
  | some x=>exact(side hV at' x z).symm
  | none=>
   cases z':q'.c with
   | none=>rfl
   | some x=>rw[side hV' (fun i hi=>(at' i hi).symm) x z'] at z; cases z
 obtain⟨a,b,c⟩:=q
 obtain⟨a',b',c'⟩:=q'
 simp only at ha hb hc
 have ea:a=a':=by omega
 have eb:b=b':=by cases b<;>cases b'<;>simp at hb ⊢
 rw[ea,eb,hc]
theorem Gxs(O:K.Ok)(hb:(bg:Int)<=K.brA)(h0:0<n):Met (stK K bg) n (SM.lead K.l K.y bg+Nat.lcm (SM.per K.l K.r K.y) n) (SM.lead K.l K.y bg):=by
 have hT:0<SM.per K.l K.r K.y:=by unfold SM.per; omega
 have hL:0<Nat.lcm (SM.per K.l K.r K.y) n:=Nat.lcm_pos hT h0
 refine⟨by omega,Gxi ?_ ?_,fun i hi b hbi z=>?_⟩
 ·have:=(SM.run_same (l:=K.l) (r:=K.r) (y:=K.y) (bg:=bg) (show SM.lead K.l K.y bg<SM.lead K.l K.y bg+Nat.lcm (SM.per K.l K.r K.y) n by omega)).mpr ⟨Nat.le_refl _,by
   rw[Nat.add_sub_cancel_left]; exact Nat.mod_eq_zero_of_dvd (Nat.dvd_lcm_left _ _)⟩
  unfold stK
  rw[this]
 ·rw[Nat.add_mod,Nat.mod_eq_zero_of_dvd (Nat.dvd_lcm_right _ n),Nat.add_zero,Nat.mod_mod]
 ·obtain⟨z1,z2⟩:=Gue z
  have e:=Guo (Gl3 O hb b) (Gl3 O hb i) (congrArg Prod.fst z1)
  obtain⟨g1,g2⟩:=(SM.run_same hbi).mp e
  have d1:=Nat.dvd_of_mod_eq_zero g2
  have d2:n ∣ i-b:=⟨i / n-b / n,by
   have a1:=Nat.div_add_mod i n
   have a2:=Nat.div_add_mod b n
   rw[Nat.mul_sub]
   omega⟩
  have:=Nat.le_of_dvd (by omega) (Nat.lcm_dvd d1 d2)
  omega
theorem SG_congr{f g:Nat->Int}{a b:Nat}:∀ k,(∀ i,i<k->f (a+i)=g (b+i))->SG f a k=SG g b k
 | 0,_=>rfl
 | k+1,h=>by
  show SG f a k+f (a+k)=SG g b k+g (b+k)
  rw[SG_congr k (fun i hi=>h i (by omega)),h k (by omega)]
theorem SG_zero{f:Nat->Int}{a:Nat}:∀ k,(∀ i,i<k->f (a+i)=0)->SG f a k=0
 | 0,_=>rfl
 | k+1,h=>by
  show SG f a k+f (a+k)=0
  rw[SG_zero k (fun i hi=>h i (by omega)),h k (by omega)]; rfl
theorem SG_con{f:Nat->Int}{a:Nat}{v:Int}:∀ k,(∀ i,i<k->f (a+i)=v)->SG f a k=(k:Int)*v
 | 0,_=>by simp[SG]
 | k+1,h=>by
  show SG f a k+f (a+k)=_
  rw[SG_con k (fun i hi=>h i (by omega)),h k (by omega)]
  push_cast
  rw[Int.add_mul,Int.one_mul]
theorem Gl4{f:Nat->Int}{T:Nat}(h:∀ i,f (i+T)=f i):∀ a,SG f a T=SG f 0 T
 | 0=>rfl
 | a+1=>by
  have e1:=Zy (g:=f) (a:=a) (m:=1) T
  have e2:=Zy (g:=f) (a:=a) (m:=T) 1
  rw[Nat.add_comm 1 T,e2] at e1
  simp only[SG,Nat.add_zero,Int.zero_add] at e1
  rw[h a] at e1
  have:=Gl4 h a
  omega
theorem Gg1{f:Nat->Int}{T:Nat}(h:∀ i,f (i+T)=f i)(a:Nat):∀ m,SG f a (m*T)=(m:Int)*SG f 0 T
 | 0=>by simp[SG]
 | m+1=>by
  rw[Nat.succ_mul,Zy,Gg1 h a m,Gl4 h (a+m*T)]
  push_cast
  rw[Int.add_mul,Int.one_mul]
def hQ(K:Sc)(t:Nat):Int:=if t<K.y then K.pA else if t=K.y then K.pB else 0
theorem Gxt(h:SM.Ok K.l K.r K.y q t):prQ K q=hQ K t:=by
 cases h with
 | f _ h=>
  unfold prQ hQ
  simp only[Bool.false_eq_true,if_false]
  by_cases c:t<K.y
  ·rw[if_pos c,if_pos c]
  ·rw[if_neg c,if_neg c,if_pos (by omega)]
 | g a h=>unfold hQ; rw[if_neg (by omega),if_neg (by omega)]; rfl
 | p a x h1 h2 h3=>unfold hQ; rw[if_neg (by omega),if_neg (by omega)]; rfl
 | q x h1 h2=>unfold hQ; rw[if_neg (by omega),if_neg (by omega)]; rfl
theorem Gup(h0:0<n):smF (onK K bg cs) One.pr (SM.lead K.l K.y bg) (SM.lead K.l K.y bg+Nat.lcm (SM.per K.l K.r K.y) n)=((Nat.lcm (SM.per K.l K.r K.y) n / SM.per K.l K.r K.y:Nat):Int)*((K.y:Int)*K.pA+K.pB):=by
 have hT:0<SM.per K.l K.r K.y:=by unfold SM.per; omega
 rw[Ggz,Nat.add_sub_cancel_left]
 have e1:SG (fun i=>(onK K bg cs i).pr) (SM.lead K.l K.y bg) (Nat.lcm (SM.per K.l K.r K.y) n)=SG (fun i=>hQ K (i%SM.per K.l K.r K.y)) (SM.c0 K.y bg) (Nat.lcm (SM.per K.l K.r K.y) n):=SG_congr _ fun i hi=>Gxt (SM.run_ok i)
 rw[e1]
 generalize hL:Nat.lcm (SM.per K.l K.r K.y) n=L
 have hd:SM.per K.l K.r K.y ∣ L:=hL▸Nat.dvd_lcm_left _ _
 have eL:L=(L / SM.per K.l K.r K.y)*SM.per K.l K.r K.y:=(Nat.div_mul_cancel hd).symm
 conv=>lhs; rw[eL]
 rw[Gg1 (fun i=>by rw[Nat.add_mod_right])]
 congr 1
 have eT:SM.per K.l K.r K.y=K.y+(1+(K.y*(K.l+2)+(K.r+2))):=by rw[SM.per_eq]; omega
 rw[SG_congr (g:=hQ K) (b:=0) (SM.per K.l K.r K.y) (fun i hi=>by rw[Nat.zero_add,Nat.mod_eq_of_lt hi]),eT,Zy,Zy,SG_con (v:=K.pA) K.y (fun i hi=>by unfold hQ; rw[if_pos (by omega)]),SG_zero (K.y*(K.l+2)+(K.r+2)) (fun i hi=>by unfold hQ; rw[if_neg (by omega),if_neg (by omega)])]
 simp only[SG,hQ,Nat.add_zero,Nat.zero_add,Int.zero_add,Int.add_zero,Nat.lt_irrefl,if_false,if_true]
theorem Guq{T:Nat}(h0:0<cs.length):smF (onK K bg cs) One.t (SM.lead K.l K.y bg) (SM.lead K.l K.y bg+Nat.lcm T cs.length)=((Nat.lcm T cs.length / cs.length:Nat):Int)*(cs.map com).sum:=by
 rw[Ggz,Nat.add_sub_cancel_left]
 generalize hL:Nat.lcm T cs.length=L
 have hd:cs.length ∣ L:=hL▸Nat.dvd_lcm_right _ _
 have eL:L=(L / cs.length)*cs.length:=(Nat.div_mul_cancel hd).symm
 conv=>lhs; rw[eL]
 show SG (fun i=>com (cum cs i)) _ _=_
 rw[Gg1 (fun i=>by unfold cum; rw[Nat.add_mod_right]),<- Gcl]
 congr 2
 apply List.ext_getElem?
 intro i
 by_cases hi:i<cs.length
 ·rw[List.getElem?_map,List.getElem?_range' hi,List.getElem?_map,List.getElem?_eq_getElem hi]
  simp only[Option.map_some,Nat.zero_add,Nat.one_mul]
  unfold cum
  rw[Nat.mod_eq_of_lt hi,List.getD_eq_getElem?_getD,List.getElem?_eq_getElem hi]
  rfl
 ·rw[List.getElem?_eq_none (by simp; omega),List.getElem?_eq_none (by simp; omega)]
theorem Gur{L:Nat}:smF (onK K bg cs) One.ga (SM.lead K.l K.y bg) (SM.lead K.l K.y bg+L)=0:=by
 rw[Ggz]
 exact SG_zero _ fun i _=>rfl
end
theorem Gl5{S0:Sto}{i:Nat}{f:Ev Src}(d:Tp S t k)(hn:n<=400)(hf:f ρ S0=.ok (rsrc 0 n) S)(hp:pkS [none,some i] ρ=[none,some (.lst t)]):
  ∃ (cs:List Int) (S':Sto),cmp f [none,some i] (gn 0) ttrue (cl 2 (Go Gw) (ac (vr 1) (ac (cn (.int 4)) an))) ρ S0=.ok (.lst S.length) S'/\S'[S.length]?=some ⟨false,cs.map D.int⟩/\cs.length=n/\(∀ c∈cs,0<=c/\c<=3)/\Tp S' t k:=by
 have lt:=d.lt
 obtain⟨ρ',S',ef,g,cs,rfl,q,l,b,d'⟩:=We (nxt:=(rsrc 0 n).nxt) (g:=gn 0) (b:=cbody S.length ttrue (cl 2 (Go Gw) (ac (vr 1) (ac (cn (.int 4)) an)))) (l:=(List.range n).map fun k:Nat=>D.int (k:Int))
  (fun i ρ S'=>∃ (g:Option D) (cs:List Int),ρ=[g,some (.lst t)]/\S'[S.length]?=some ⟨false,cs.map D.int⟩/\cs.length=i/\(∀ c∈cs,0<=c/\c<=3)/\Tp S' t k)
  (fun i _ S _=>Ghp) (fun i dt ρ S1 hd ⟨g,cs,e,q,l,b,d1⟩=>by
   obtain⟨hi,rfl⟩:=Gt3 hd
   subst e
   obtain⟨r,S2,e2,r0,r1,d2,k2⟩:=draw (m:=4) d1 (by decide) (by decide)
   have q2:=k2.at q (by omega) (by omega)
   have lq:S.length<S2.length:=(List.getElem?_eq_some_iff.mp q2).1
   refine⟨[some (.int i),some (.lst t)],[some (.int i),some (.lst t)],S2.set S.length ⟨false,cs.map D.int++[.int r]⟩,rfl,Qz (by simp[e2]) q2 (by simp; omega),some (.int i),cs++[r],rfl,by rw[List.getElem?_set_self lq]; simp,by simp[l],fun c hc=>?_,d2.set (by omega) (by omega)⟩
   rcases List.mem_append.mp hc with hc | hc
   ·exact b c hc
   ·rw[List.mem_singleton.mp hc]; omega)
  (rsrc 0 n).fuel 0 [none,some (.lst t)] (S++[⟨false,[]⟩]) (Nat.zero_le _) ⟨none,[],rfl,by simp[Hw],rfl,by simp,d.app⟩ (by simp[rsrc])
 exact⟨cs,S',Zw hf (by rw[hp]; exact ef),q,by simpa using l,b,d'⟩
theorem Gey{f:Ev Src}{s:Src}{xs:List D}{pk:List (Option Nat)}{e:Ev D}{S1:Sto}(rest:Lc)(v:D->D)(hf:f ρ S=.ok s S1)(hn:∀ k S',Ex S1 S'->s.nxt k S'=xs[k]?)(hu:xs.length<s.fuel)(hp:pkS pk ρ=none::rest)(hl:xs.length<100000)(he:∀ d∈xs,∀ S':Sto,Ex S1 S'->∃ S'',e (some d::rest) S'=.ok (v d) S''/\Ex S' S''):
  ∃ S',cmp f pk (gn 0) ttrue e ρ S=.ok (.lst S1.length) S'/\S'[S1.length]?=some ⟨false,xs.map v⟩/\Ex S1 S':=by
 obtain⟨ρ',S',el,g,hρ,hq,hx⟩:=We (nxt:=s.nxt) (g:=gn 0) (b:=cbody S1.length ttrue e) (l:=xs)
  (fun i ρ S'=>∃ g,ρ=g::rest/\S'[S1.length]?=some ⟨false,(xs.take i).map v⟩/\Ex S1 S')
  (fun k _ S' ⟨_,_,_,hx⟩=>hn k S' hx) (fun i d ρ S' hd ⟨g,h1,h2,h3⟩=>by
   subst h1
   have hi:i<xs.length:=(List.getElem?_eq_some_iff.mp hd).1
   obtain⟨S'',e1,e2⟩:=he d (List.mem_of_getElem? hd) S' h3
   have q'':=e2.at h2
   have lq:S1.length<S''.length:=(List.getElem?_eq_some_iff.mp q'').1
   refine⟨_,_,_,rfl,Qz e1 q'' (by simp; omega),some d,rfl,?_,(h3.trans e2).setq (Nat.le_refl _)⟩
   rw[List.getElem?_set_self lq]
   have:xs.take (i+1)=xs.take i++[d]:=by rw[List.take_add_one,hd]; rfl
   rw[this]
   simp) s.fuel 0 (none::rest) (S1++[⟨false,[]⟩]) (Nat.zero_le _) ⟨none,rfl,by simp[Hw],Ex.app⟩ (by omega)
 rw[List.take_length] at hq
 exact⟨S',Zw hf (by rw[hp]; exact el),hq,hx⟩
theorem Gl6{S:Sto}:∀ (n a b:Nat),b<n->whN Jh Jv n [some (.int a),some (.int b)] S=.nx [some (.int (Nat.gcd a b:Nat)),some (.int 0)] S
 | 0,_,_,h=>absurd h (Nat.not_lt_zero _)
 | n+1,a,b,h=>by
  rw[Gch]
  by_cases c:b=0
  ·subst c
   simp[Jh]
  ·have hb:0<b:=Nat.pos_of_ne_zero c
   have hm:Wl (.int a) (.int b) S=.ok (.int ((a%b:Nat):Int)) S:=by rw[Yn (by omega)]; rfl
   have hc:(0:Int)<(b:Int):=by omega
   have ih:=Gl6 (S:=S) n b (a%b) (by have:=Nat.mod_lt a hb; omega)
   have e:Nat.gcd b (a%b)=Nat.gcd a b:=by rw[Nat.gcd_comm b (a%b),<- Nat.gcd_rec,Nat.gcd_comm]
   rw[e] at ih
   generalize ((a%b:Nat):Int)=x at *
   generalize ((Nat.gcd a b:Nat):Int)=y at *
   generalize (b:Int)=b' at *
   generalize (a:Int)=a' at *
   have h1:Jh [some (.int a'),some (.int b')] S=.ok true S:=by simp[Jh,hc]
   have h2:Jv [some (.int a'),some (.int b')] S=.nx [some (.int b'),some (.int x)] S:=by simp[Jv,hm]
   rw[h1]
   simp only[Gcf,if_true,h2]
   exact ih
theorem Gix{a b:Nat}(h:b<3000):Ka [.int a,.int b] S=.ok (.int (Nat.gcd a b:Nat)) S:=by
 unfold Ka
 rw[Hg]
 simp only[Ve]
 refine(Gr (ρ':=[some (.int (Nat.gcd a b:Nat)),some (.int 0)]) (S':=S) (Gl6 3000 a b h)).trans ?_
 simp[fin]
section
variable{cd rl sd ct d:D}{cr lim:Int}{S S':Sto}
theorem Gus(e:Hl [cd,rl,.int cr,sd,ct,.int lim] S=.ok d S'):Ht [cd,rl,.int cr,sd,ct,.int lim] S=.ok d S':=by
 have h:=Gdt e
 have hn:Vh (.int lim) .non S=.ok (.bl false) S:=rfl
 unfold Ht
 rw[Hg]
 simp only[Kf]
 simp[Wg,Jr,hn,h,fin]
theorem Gut(e:Hl [cd,rl,.int cr,sd,ct,.int lim] S=.exc ⟨"TooMany",none⟩ S'):Ht [cd,rl,.int cr,sd,ct,.int lim] S=.ok .non S':=by
 have h:=Gci e (by decide)
 have hn:Vh (.int lim) .non S=.ok (.bl false) S:=rfl
 unfold Ht
 rw[Hg]
 simp only[Kf]
 simp[Wg,Gfe,Jr,Qy,hn,h,fin]
theorem Go8(e:Hl [cd,rl,.int cr,sd,ct,.int 600] S=.ok d S'):Ht [cd,rl,.int cr,sd,ct,.non] S=.ok d S':=by
 have e':Gdp 600 Hl [cd,rl,.int cr,sd,ct] S=.ok d S':=e
 have h:=Gdt e'
 have hn:Vh .non .non S=.ok (.bl true) S:=rfl
 unfold Ht
 rw[Hg]
 simp only[Kf]
 simp[Wg,Jr,hn,h,fin]
theorem Go9(e:Hl [cd,rl,.int cr,sd,ct,.int 600] S=.exc ⟨"TooMany",none⟩ S'):Ht [cd,rl,.int cr,sd,ct,.non] S=.ok .non S':=by
 have e':Gdp 600 Hl [cd,rl,.int cr,sd,ct] S=.exc ⟨"TooMany",none⟩ S':=e
 have h:=Gci e' (by decide)
 have hn:Vh .non .non S=.ok (.bl true) S:=rfl
 unfold Ht
 rw[Hg]
 simp only[Kf]
 simp[Wg,Gfe,Jr,Qy,hn,h,fin]
end
def LE(e:Ev D)(ρ:Lc)(S:Sto)(xs:List D):Prop:=∃ a S',e ρ S=.ok (.lst a) S'/\S'[a]?=some ⟨false,xs⟩/\Ex S S'
def LN(e:Ev D)(ρ:Lc)(S:Sto)(xs:List D):Prop:=∃ a S',e ρ S=.ok (.lst a) S'/\S'[a]?=some ⟨false,xs⟩/\Ex S S'/\S.length<=a
section
variable{e1 e2:Ev D}{ρ:Lc}{S:Sto}{xs ys:List D}{d:D}
theorem LN.le(h:LN e1 ρ S xs):LE e1 ρ S xs:=let ⟨a,S',h1,h2,h3,_⟩:=h; ⟨a,S',h1,h2,h3⟩
theorem Gaa(h1:LE e1 ρ S xs)(h2:∀ S',Ex S S'->LE e2 ρ S' ys)(hl:xs.length+ys.length<=1000000):LN (o2 Gx e1 e2) ρ S (xs++ys):=by
 obtain⟨a,S1,f1,q1,x1⟩:=h1
 obtain⟨b,S2,f2,q2,x2⟩:=h2 S1 x1
 have ad:=Ggu (x2.at q1) q2 hl
 exact⟨S2.length,_,by simp[f1,f2,ad],Hw,(x1.trans x2).trans Ex.app,Nat.le_trans x1.len x2.len⟩
theorem Zi{f:Ev (List D)}(h:f ρ S=.ok xs S)(hl:xs.length<=1000000):LN (ls f) ρ S xs:=⟨S.length,S++[⟨false,xs⟩],by simp[h,hl],Hw,Ex.app,Nat.le_refl _⟩
theorem Gco(h1:LE e1 ρ S [d])(h2:∀ S',Ex S S'->e2 ρ S'=.ok (.int n) S')(hn:n<=1000):LN (o2 Je e1 e2) ρ S (List.replicate n d):=by
 obtain⟨a,S1,f1,q1,x1⟩:=h1
 have m:=Goo q1 hn
 exact⟨S1.length,_,by simp[f1,h2 S1 x1,m],Hw,x1.trans Ex.app,x1.len⟩
theorem Gxu{i a:Nat}(h:ρ[i]?=some (some (.lst a)))(q:S[a]?=some ⟨false,xs⟩):LE (vr i) ρ S xs:=⟨a,S,by simp[h],q,Ex.refl⟩
end
theorem Guu{f:Ev (List D)}{S':Sto}{i:Nat}{j:Int}(h:f ρ S=.ok [.int i,.int j] S')(hj:j=(i:Int)+n)(hi:i<=1000000)(hn:n<=1000000):ir2 f ρ S=.ok (rsrc i n) S':=by
 unfold ir2
 rw[h]
 show(if(-1000000000000<=(i:Int)/\(i:Int)<=1000000000000) /\ -1000000000000<=j/\j<=1000000000000 then Out.ok (rsrc i (j-i).toNat) S' else .bad)=_
 rw[if_pos (by omega),show(j-(i:Int)).toNat=n by omega]
theorem Guv{i:Nat}:(rsrc i n).nxt k S=((List.range n).map fun k:Nat=>D.int ((i:Int)+k))[k]?:=by
 show(if k<n then some (D.int ((i:Int)+k)) else none)=_
 rw[List.getElem?_map]
 by_cases c:k<n
 ·rw[if_pos c,List.getElem?_range c]; rfl
 ·rw[if_neg c,List.getElem?_eq_none (by simp; omega)]; rfl
def letD(d:D):D:=.tup [.tup [],.tup [.str "let",d]]
def kpL(y l r:Nat):List D:=((((((List.range (l+1)).map fun k:Nat=>D.int (k:Int)).map letD++[.tup [.tup [.tup [.str "least",.int ((l:Int)+4),.int 1],.tup [.str "least",.int ((l:Int)+2),.int 1]],.tup [.str "let",.int ((l:Int)+1)]]])++[.tup [.tup [.tup [.str "least",.int ((l:Int)+4),.int 1]],.tup [.str "let",.int ((l:Int)+4)]]])++((List.range (r+1)).map fun k:Nat=>D.int (((l+5:Nat):Int)+k)).map letD)++[.tup [.tup [.tup [.str "most",.int ((l:Int)+2),.int ((y:Int)-1)]],.tup [.str "feed",.int ((l:Int)+2)]]])++[.tup [.tup [],.tup [.str "feed",.int ((l:Int)+4)]]]
theorem Giy{y:Nat}(hl:l+r<=6):∃ S',Kx [.int y,.int l,.int r] S=.ok (.tup (kpL y l r)) S'/\Ex S S':=by
 unfold kpL
 obtain⟨S1,e1,q1,x1⟩:=Gey (S:=S) (S1:=S) (f:=ir1 (ac (o2 Gx (vr 1) (cn (.int 1))) an)) (s:=rsrc 0 (l+1)) (xs:=(List.range (l+1)).map fun k:Nat=>D.int (k:Int)) (pk:=[none]) (e:=tp (ac (tp an) (ac (tp (ac (cn (.str "let")) (ac (vr 0) an))) an))) (ρ:=[some (.int y),some (.int l),some (.int r),some (.int ((l:Int)+2)),some (.int ((l:Int)+4)),none]) [] letD
  (Gla (n:=l+1) (by simp) (by omega)) (fun k S' _=>Ghp) (by simp[rsrc]) rfl (by simp; omega) (fun d hd S' _=>⟨S',by simp[letD],Ex.refl⟩)
 have l1:S.length<S1.length:=(List.getElem?_eq_some_iff.mp q1).1
 generalize hA:((List.range (l+1)).map fun k:Nat=>D.int (k:Int)).map letD=A at *
 have lA:A.length=l+1:=by rw[<- hA]; simp
 generalize hB:D.tup [.tup [.tup [.str "least",.int ((l:Int)+4),.int 1],.tup [.str "least",.int ((l:Int)+2),.int 1]],.tup [.str "let",.int ((l:Int)+1)]]=B at *
 generalize hC:D.tup [.tup [.tup [.str "least",.int ((l:Int)+4),.int 1]],.tup [.str "let",.int ((l:Int)+4)]]=C at *
 have a1:=Gft (d:=B) q1 (by rw[lA]; omega)
 have i1:=isL q1
 have q2:(S1.set S.length ⟨false,A++[B]⟩)[S.length]?=some ⟨false,A++[B]⟩:=List.getElem?_set_self l1
 have x2:Ex S (S1.set S.length ⟨false,A++[B]⟩):=x1.setq (Nat.le_refl _)
 generalize S1.set S.length ⟨false,A++[B]⟩=S2 at *
 have l2:S.length<S2.length:=(List.getElem?_eq_some_iff.mp q2).1
 have a2:=Gft (d:=C) q2 (by simp[lA]; omega)
 have i2:=isL q2
 have q3:(S2.set S.length ⟨false,A++[B]++[C]⟩)[S.length]?=some ⟨false,A++[B]++[C]⟩:=List.getElem?_set_self l2
 have x3:Ex S (S2.set S.length ⟨false,A++[B]++[C]⟩):=x2.setq (Nat.le_refl _)
 generalize S2.set S.length ⟨false,A++[B]++[C]⟩=S3 at *
 obtain⟨S4,e4,q4,x4⟩:=Gey (S:=S3) (S1:=S3) (f:=ir2 (ac (o2 Gx (vr 4) (cn (.int 1))) (ac (o2 Gx (o2 Gx (vr 4) (vr 2)) (cn (.int 2))) an))) (s:=rsrc ((l+5:Nat):Int) (r+1)) (xs:=(List.range (r+1)).map fun k:Nat=>D.int (((l+5:Nat):Int)+k)) (pk:=[none]) (e:=tp (ac (tp an) (ac (tp (ac (cn (.str "let")) (ac (vr 0) an))) an))) (ρ:=[some (.int y),some (.int l),some (.int r),some (.int ((l:Int)+2)),some (.int ((l:Int)+4)),some (.lst S.length)]) [] letD
  (Guu (i:=l+5) (n:=r+1) (j:=(l:Int)+4+r+2) (by simp; omega) (by omega) (by omega) (by omega)) (fun k S' _=>Guv) (by simp[rsrc]) rfl (by simp; omega) (fun d hd S' _=>⟨S',by simp[letD],Ex.refl⟩)
 generalize hD:((List.range (r+1)).map fun k:Nat=>D.int (((l+5:Nat):Int)+k)).map letD=DD at *
 have lD:DD.length=r+1:=by rw[<- hD]; simp
 have q34:=x4.at q3
 have a4:=Ggu q34 q4 (by simp[lA,lD]; omega)
 have q5:(S4++[⟨false,A++[B]++[C]++DD⟩])[S4.length]?=some ⟨false,A++[B]++[C]++DD⟩:=Hw
 have x5:Ex S (S4++[⟨false,A++[B]++[C]++DD⟩]):=x3.trans (x4.trans Ex.app)
 have l4:S.length<=S4.length:=Nat.le_trans x3.len x4.len
 generalize S4++[⟨false,A++[B]++[C]++DD⟩]=S5 at *
 generalize hF:D.tup [.tup [.tup [.str "most",.int ((l:Int)+2),.int ((y:Int)-1)]],.tup [.str "feed",.int ((l:Int)+2)]]=F at *
 generalize hG:D.tup [.tup [],.tup [.str "feed",.int ((l:Int)+4)]]=G at *
 have l5:S4.length<S5.length:=(List.getElem?_eq_some_iff.mp q5).1
 have a5:=Gft (d:=F) q5 (by simp[lA,lD]; omega)
 have i5:=isL q5
 have q6:(S5.set S4.length ⟨false,A++[B]++[C]++DD++[F]⟩)[S4.length]?=some ⟨false,A++[B]++[C]++DD++[F]⟩:=List.getElem?_set_self l5
 have x6:Ex S (S5.set S4.length ⟨false,A++[B]++[C]++DD++[F]⟩):=x5.setq l4
 generalize S5.set S4.length ⟨false,A++[B]++[C]++DD++[F]⟩=S6 at *
 have q6':(S6++[⟨false,[G]⟩])[S4.length]?=some ⟨false,A++[B]++[C]++DD++[F]⟩:=Xs q6
 have q7:(S6++[⟨false,[G]⟩])[S6.length]?=some ⟨false,[G]⟩:=Hw
 have a7:=Ggu q6' q7 (by simp[lA,lD]; omega)
 have x7:Ex S (S6++[⟨false,[G]⟩]):=x6.trans Ex.app
 have g7:G=D.tup [.tup [],.tup [.str "feed",.int ((l:Int)+4)]]:=hG.symm
 generalize hS7:S6++[(⟨false,[G]⟩:Cell)]=S7 at *
 have q8:(S7++[⟨false,A++[B]++[C]++DD++[F]++[G]⟩])[S7.length]?=some ⟨false,A++[B]++[C]++DD++[F]++[G]⟩:=Hw
 have t8:=Gfu q8
 simp only at t8
 generalize A++[B]++[C]++DD++[F]++[G]=W at *
 refine⟨S7++[⟨false,W⟩],?_,x7.trans Ex.app⟩
 unfold Kx
 rw[Hg]
 simp only[Vd]
 refine(Gr (ρ':=[some (.int y),some (.int l),some (.int r),some (.int ((l:Int)+2)),none,none]) (S':=S) (by simp)).trans ?_
 refine(Gr (ρ':=[some (.int y),some (.int l),some (.int r),some (.int ((l:Int)+2)),some (.int ((l:Int)+4)),none]) (S':=S) (by simp)).trans ?_
 refine(Gr (ρ':=[some (.int y),some (.int l),some (.int r),some (.int ((l:Int)+2)),some (.int ((l:Int)+4)),some (.lst S.length)]) (S':=S1) (by rw[Ui,e1]; rfl)).trans ?_
 refine(Gr (ρ':=[some (.int y),some (.int l),some (.int r),some (.int ((l:Int)+2)),some (.int ((l:Int)+4)),some (.lst S.length)]) (S':=S2) (by simp[i1,hB,a1])).trans ?_
 refine(Gr (ρ':=[some (.int y),some (.int l),some (.int r),some (.int ((l:Int)+2)),some (.int ((l:Int)+4)),some (.lst S.length)]) (S':=S3) (by simp[i2,hC,a2])).trans ?_
 refine(Gr (ρ':=[some (.int y),some (.int l),some (.int r),some (.int ((l:Int)+2)),some (.int ((l:Int)+4)),some (.lst S4.length)]) (S':=S5) (by rw[Ui,Gwy]; simp only[Gp6,List.getElem?_cons_succ,List.getElem?_cons_zero,Gba,e4,a4]; rfl)).trans ?_
 refine(Gr (ρ':=[some (.int y),some (.int l),some (.int r),some (.int ((l:Int)+2)),some (.int ((l:Int)+4)),some (.lst S4.length)]) (S':=S6) (by simp[i5,hF,a5])).trans ?_
 simp[hG,hS7,a7,t8,fin]
theorem Gpa{K:Sc}(h:K.l+K.r<=6):kpL K.y K.l K.r=K.rows.map Ji:=by
 obtain⟨l,r,y,_,_,_,_,_,_,_,_,_⟩:=K
 simp only at h
 rcases(by omega:l=0\/l=1\/l=2\/l=3\/l=4\/l=5\/l=6) with rfl | rfl | rfl | rfl | rfl | rfl | rfl<;>
 rcases(by omega:r=0\/r=1\/r=2\/r=3\/r=4\/r=5\/r=6) with rfl | rfl | rfl | rfl | rfl | rfl | rfl<;>first | omega | rfl
theorem Gh0{nxt:Nat->Sto->Option D}{g:Tg}{b:Sv}{x1 x2:D}{ρ0 ρa ρ1 ρb ρ2:Lc}{S0 S1 S2:Sto}(n0:nxt 0 S0=some x1)(t0:g x1 ρ0=some ρa)(c0:b ρa S0=.nx ρ1 S1)(n1:nxt 1 S1=some x2)(t1:g x2 ρ1=some ρb)(c1:b ρb S1=.nx ρ2 S2)(n2:nxt 2 S2=none):Ky nxt g b 3 0 ρ0 S0=.nx ρ2 S2:=by
 rw[Ky]; simp only[n0,t0,c0]; rw[Ky]; simp only[n1,t1,c1]; rw[Ky]; simp only[n2]
section
variable{S:Sto}{t k:Nat}
theorem Gl7(d:Tp S t k){x:Int}(h1:1<=x)(h2:x<=9){q:Nat}(hq:S[q]?=some ⟨false,[.int x,.int 1]⟩)(nt:q≠t)(nk:q≠k){y l r bg:D}:∃ (z1 z2:Int) (S':Sto),cmp (isrc (vr 5)) [none,some 0] (gn 0) ttrue (o2 Gx (vr 0) (cl 2 (Go Gw) (ac (vr 1) (ac (o2 Yr (cn (.int 10)) (vr 0)) an)))) [some (.lst t),some y,some l,some r,some bg,some (.lst q),none,none,none,none,none,none,none,none] S=.ok (.lst S.length) S'/\S'[S.length]?=some ⟨false,[.int z1,.int z2]⟩/\x<=z1/\z1<=9/\1<=z2/\z2<=9/\Tp S' t k:=by
 have lt:=d.lt
 have lq:q<S.length:=(List.getElem?_eq_some_iff.mp hq).1
 obtain⟨r1,S1,e1,a1,b1',d1,k1⟩:=draw (m:=10-x) (d.app (c:=⟨false,[]⟩)) (by omega) (by omega)
 have q1:S1[S.length]?=some ⟨false,[]⟩:=k1.at Hw (by omega) (by omega)
 have hq1:S1[q]?=_:=k1.at (Xs hq) nt nk
 have c1:=Qz (a:=S.length) (e:=o2 Gx (vr 0) (cl 2 (Go Gw) (ac (vr 1) (ac (o2 Yr (cn (.int 10)) (vr 0)) an)))) (ρ:=[some (.int x),some (.lst t)]) (S:=S++[⟨false,[]⟩]) (d:=.int (x+r1)) (by simp[e1]) q1 (by simp)
 have l1:S.length<S1.length:=(List.getElem?_eq_some_iff.mp q1).1
 have q2:(S1.set S.length ⟨false,[]++[.int (x+r1)]⟩)[S.length]?=some ⟨false,[.int (x+r1)]⟩:=List.getElem?_set_self l1
 have hq2:(S1.set S.length ⟨false,[]++[.int (x+r1)]⟩)[q]?=some ⟨false,[.int x,.int 1]⟩:=by rw[List.getElem?_set_ne (by omega)]; exact hq1
 have d2:Tp (S1.set S.length ⟨false,[]++[.int (x+r1)]⟩) t k:=d1.set (by omega) (by omega)
 generalize S1.set S.length ⟨false,[]++[.int (x+r1)]⟩=S2 at *
 obtain⟨r3,S3,e3,a3,b3',d3,k3⟩:=draw (m:=9) d2 (by decide) (by decide)
 have q3:S3[S.length]?=some ⟨false,[.int (x+r1)]⟩:=k3.at q2 (by omega) (by omega)
 have hq3:S3[q]?=_:=k3.at hq2 nt nk
 have c3:=Qz (a:=S.length) (e:=o2 Gx (vr 0) (cl 2 (Go Gw) (ac (vr 1) (ac (o2 Yr (cn (.int 10)) (vr 0)) an)))) (ρ:=[some (.int 1),some (.lst t)]) (S:=S2) (d:=.int (1+r3)) (by simp[e3]) q3 (by simp)
 have l3:S.length<S3.length:=(List.getElem?_eq_some_iff.mp q3).1
 have hq4:(S3.set S.length ⟨false,[.int (x+r1)]++[.int (1+r3)]⟩)[q]?=some ⟨false,[.int x,.int 1]⟩:=by rw[List.getElem?_set_ne (by omega)]; exact hq3
 refine⟨x+r1,1+r3,S3.set S.length ⟨false,[.int (x+r1)]++[.int (1+r3)]⟩,?_,List.getElem?_set_self l3,by omega,by omega,by omega,by omega,d3.set (by omega) (by omega)⟩
 refine Zw (s:=Xv q 2) (S1:=S) (by have:=Gho hq; simp[this]) (Gh0 (x1:=.int x) (x2:=.int 1) (by simp[Xv,Xs hq]) rfl c1 (by simp[Xv,hq2]) rfl c3 (by show((S3.set S.length ⟨false,[.int (x+r1)]++[.int (1+r3)]⟩)[q]?).bind _=none; rw[hq4]; rfl))
theorem Gf0(d:Tp S t k){x:Int}(h1:1<=x)(h2:x<=9){p q:Nat}{xs:List D}(hp:S[p]?=some ⟨false,xs⟩)(nt:p≠t)(nk:p≠k)(lx:xs.length<1000){y l r bg:D}{x8:Option D}:∃ (de ro pr:Int) (S':Sto),Kd [some (.lst t),some y,some l,some r,some bg,some (.lst q),some (.int x),some (.lst p),x8,none,none,none,none,none] S=.nx [some (.lst t),some y,some l,some r,some bg,some (.lst q),some (.int x),some (.lst p),some (.int de),none,none,none,none,none] S'/\S'[p]?=some ⟨false,xs++[(Pl.p x de ro (.int pr)).toD]⟩/\(Pl.p x de ro (.int pr)).ok/\Tp S' t k/\S.length<=S'.length/\∀ i,i<S.length->i≠t->i≠k->i≠p->S'[i]?=S[i]?:=by
 obtain⟨de,S1,e1,a1,b1',d1,k1⟩:=draw (m:=x+1) d (by omega) (by omega)
 obtain⟨ro,S2,e2,a2,b2',d2,k2⟩:=draw (m:=4) d1 (by decide) (by decide)
 obtain⟨pr,S3,e3,a3,b3',d3,k3⟩:=draw (m:=100) d2 (by decide) (by decide)
 have kk3:=k1.trans (k2.trans k3)
 have p1:=k1.at hp nt nk
 have p3:=kk3.at hp nt nk
 have i1:=isL p1
 have lp:p<S3.length:=(List.getElem?_eq_some_iff.mp p3).1
 have ap:=Gft (d:=(Pl.p x de (1+ro) (.int pr)).toD) p3 (by omega)
 refine⟨de,1+ro,pr,S3.set p ⟨false,xs++[(Pl.p x de (1+ro) (.int pr)).toD]⟩,?_,List.getElem?_set_self lp,⟨h1,h2,a1,by omega,by omega,by omega,.inr ⟨pr,rfl,a3,by omega⟩⟩,d3.set nt nk,by simp; exact kk3.len,fun i hi n1 n2 n3=>by rw[List.getElem?_set_ne (Ne.symm n3)]; exact kk3.get i hi n1 n2⟩
 simp only[Pl.toD] at ap ⊢
 simp[Kd,e1,i1,e2,e3,ap]
end
theorem Gxv(h2:2<=k)(h3:k<=1000):Je (.tup [.int 0]) (.int k) S=.ok (.tup ((List.replicate k (0:Int)).map D.int)) S:=by
 show(if 0<[D.int 0].length/\(2<=(k:Int)/\(k:Int)<=1000000)/\[D.int 0].length*(k:Int).toNat<=1000000 then Out.ok (D.tup (List.replicate (k:Int).toNat [D.int 0]).flatten) S else .bad)=_
 rw[if_pos ⟨by simp,⟨by omega,by omega⟩,by simp; omega⟩,Int.toNat_natCast]
 simp
abbrev chD:D:=.tup [.str "chamber"]
abbrev enD:D:=.tup [.str "end"]
def scA(l:Nat)(p1 p2:D):List D:=([enD]++List.replicate (l+1) chD)++[p1,chD,p2]
def scP(l r:Nat)(p1 p2:D):List D:=(scA l p1 p2++List.replicate (r+1) chD)++[enD]
def scG(l r:Nat):List D:=(List.replicate (l+2) (.str "up")++[.str "down",.str "up"])++List.replicate (r+2) (.str "down")
theorem Guw{K:Sc}{bg:Nat}(h:K.l+K.r<=6):scP K.l K.r K.PA.toD K.PB.toD=K.ps.map Pl.toD/\scG K.l K.r=K.us.map gd/\(List.replicate (K.l+K.r+7) (D.int 0)).set (K.l+2) (.int bg)=(K.Lv ⟨bg,false,none⟩).map D.int/\[D.int K.cr]++(List.replicate (K.l+K.r+6) (0:Int)).map D.int=K.R.map D.int/\(List.replicate (K.l+K.r+6) (0:Int)).map D.int++[D.int K.cr]=K.F.map D.int:=by
 obtain⟨l,r,y,_,_,_,_,_,_,_,_,_⟩:=K
 simp only at h
 rcases(by omega:l=0\/l=1\/l=2\/l=3\/l=4\/l=5\/l=6) with rfl | rfl | rfl | rfl | rfl | rfl | rfl<;>
 rcases(by omega:r=0\/r=1\/r=2\/r=3\/r=4\/r=5\/r=6) with rfl | rfl | rfl | rfl | rfl | rfl | rfl<;>first | omega | exact⟨rfl,rfl,rfl,rfl,rfl⟩
theorem Gqc{p1 p2:D}:(scP l r p1 p2).length=l+r+7:=by simp[scP,scA]; omega
theorem Gl8{y bg:Nat}(d:Tp S t k)(hy:1<=y)(hy9:y<=9)(hlr:l+r<=6)(hbg:bg<=9):∃ (K:Sc) (S':Sto),Qm [.lst t,.int y,.int l,.int r,.int bg] S=.ok (.tup [cD K.ps K.us,.int K.cr,stD (K.Lv ⟨bg,false,none⟩) K.R K.F]) S'/\K.l=l/\K.r=r/\K.y=y/\K.Ok/\(bg:Int)<=K.brA/\Tp S' t k:=by
 have lt:=d.lt
 generalize hx:max (y:Int) (bg:Int)=x
 have x1:1<=x:=by omega
 have x9:x<=9:=by omega
 obtain⟨z1,z2,S1,e1,q1,g1,g2,g3,g4,d1⟩:=Gl7 (S:=S++[⟨false,[.int x,.int 1]⟩]) (y:=.int y) (l:=.int l) (r:=.int r) (bg:=.int bg) d.app x1 x9 (q:=S.length) Hw (by omega) (by omega)
 have lq:(S++[(⟨false,[.int x,.int 1]⟩:Cell)]).length=S.length+1:=by simp
 rw[lq] at e1 q1
 have l1:S.length+1<S1.length:=(List.getElem?_eq_some_iff.mp q1).1
 have d2:Tp (S1++[⟨false,[]⟩]) t k:=d1.app
 have q2:(S1++[(⟨false,[]⟩:Cell)])[S.length+1]?=some ⟨false,[.int z1,.int z2]⟩:=Xs q1
 have p2:(S1++[(⟨false,[]⟩:Cell)])[S1.length]?=some ⟨false,[]⟩:=Hw
 have l2:(S1++[(⟨false,[]⟩:Cell)]).length=S1.length+1:=by simp
 have lt1:=d1.lt
 have ls1:ls an [some (.lst t),some (.int y),some (.int l),some (.int r),some (.int bg),some (.lst (S.length+1)),none,none,none,none,none,none,none,none] S1=.ok (.lst S1.length) (S1++[⟨false,[]⟩]):=by simp
 generalize S1++[(⟨false,[]⟩:Cell)]=S2 at *
 obtain⟨de1,ro1,pr1,S3,e3,p3,o3,d3,n3,k3⟩:=Gf0 (S:=S2) (y:=.int y) (l:=.int l) (r:=.int r) (bg:=.int bg) (q:=S.length+1) (x8:=none) d2 (x:=z1) (by omega) g2 p2 (by omega) (by omega) (by simp)
 have q3:S3[S.length+1]?=some ⟨false,[.int z1,.int z2]⟩:=(k3 _ (by omega) (by omega) (by omega) (by omega)).trans q2
 rw[List.nil_append] at p3
 obtain⟨de2,ro2,pr2,S4,e4,p4,o4,d4,n4,k4⟩:=Gf0 (S:=S3) (y:=.int y) (l:=.int l) (r:=.int r) (bg:=.int bg) (q:=S.length+1) (x8:=some (.int de1)) d3 (x:=z2) g3 g4 p3 (by omega) (by omega) (by simp)
 have q4:S4[S.length+1]?=some ⟨false,[.int z1,.int z2]⟩:=(k4 _ (by omega) (by omega) (by omega) (by omega)).trans q3
 have p4:S4[S1.length]?=some ⟨false,[(Pl.p z1 de1 ro1 (.int pr1)).toD,(Pl.p z2 de2 ro2 (.int pr2)).toD]⟩:=p4
 have f4:Ky (Xv (S.length+1) 2).nxt (gn 6) Kd 3 0 [some (.lst t),some (.int y),some (.int l),some (.int r),some (.int bg),some (.lst (S.length+1)),none,some (.lst S1.length),none,none,none,none,none,none] S2=.nx [some (.lst t),some (.int y),some (.int l),some (.int r),some (.int bg),some (.lst (S.length+1)),some (.int z2),some (.lst S1.length),some (.int de2),none,none,none,none,none] S4:=
  Gh0 (x1:=.int z1) (x2:=.int z2) (by simp[Xv,q2]) rfl e3 (by simp[Xv,q3]) rfl e4 (by simp[Xv,q4])
 have s2:=Gho q2
 obtain⟨K,rfl,rfl,rfl,hPA,hPB,hbA,hK⟩:∃ K:Sc,K.l=l/\K.r=r/\K.y=y/\K.PA=Pl.p z1 de1 ro1 (.int pr1)/\K.PB=Pl.p z2 de2 ro2 (.int pr2)/\K.brA=z1/\True:=⟨⟨l,r,y,z1,de1,ro1,pr1,z2,de2,ro2,pr2,0⟩,rfl,rfl,rfl,rfl,rfl,rfl,trivial⟩
 rw[<- hPA] at o3
 rw[<- hPB] at o4
 rw[<- hPA,<- hPB] at p4
 generalize hA:K.PA.toD=A at *
 generalize hB:K.PB.toD=B at *
 have gA:∀ S',Ex S4 S'->DL.getD (.lst S1.length) (.int 0) S'=.ok A S':=fun S' x=>Qh (x.at p4) rfl
 have gB:∀ S',Ex S4 S'->DL.getD (.lst S1.length) (.int 1) S'=.ok B S':=fun S' x=>Qh (x.at p4) rfl
 have lt4:=d4.lt
 obtain⟨a5,S5,e5,q5,x5,n5⟩:LN (o2 Gx (o2 Gx (ls (ac (tp (ac (cn (.str "end")) an)) an)) (o2 Je (ls (ac (tp (ac (cn (.str "chamber")) an)) an)) (o2 Gx (vr 2) (cn (.int 1))))) (ls (ac (o2 DL.getD (vr 7) (cn (.int 0))) (ac (tp (ac (cn (.str "chamber")) an)) (ac (o2 DL.getD (vr 7) (cn (.int 1))) an))))) [some (.lst t),some (.int K.y),some (.int K.l),some (.int K.r),some (.int bg),some (.lst (S.length+1)),some (.int z2),some (.lst S1.length),some (.int de2),none,none,none,none,none] S4 (scA K.l A B):=
  Gaa (LN.le (Gaa (LN.le (Zi (by simp) (by simp))) (fun S' x=>LN.le (Gco (n:=K.l+1) (LN.le (Zi (by simp) (by simp))) (fun S' x=>by simp) (by omega))) (by simp; omega))) (fun S' x=>LN.le (Zi (by simp[gA S' x,gB S' x]) (by simp))) (by simp; omega)
 obtain⟨a6,S6,e6,q6,x6,n6⟩:LN (o2 Gx (o2 Gx (vr 9) (o2 Je (ls (ac (tp (ac (cn (.str "chamber")) an)) an)) (o2 Gx (vr 3) (cn (.int 1))))) (ls (ac (tp (ac (cn (.str "end")) an)) an))) [some (.lst t),some (.int K.y),some (.int K.l),some (.int K.r),some (.int bg),some (.lst (S.length+1)),some (.int z2),some (.lst S1.length),some (.int de2),some (.lst a5),none,none,none,none] S5 (scP K.l K.r A B):=
  Gaa (LN.le (Gaa (Gxu rfl q5) (fun S' x=>LN.le (Gco (n:=K.r+1) (LN.le (Zi (by simp) (by simp))) (fun S' x=>by simp) (by omega))) (by simp[scA]; omega))) (fun S' x=>LN.le (Zi (by simp) (by simp))) (by simp[scA]; omega)
 obtain⟨a7,S7,e7,q7,x7,n7⟩:LN (o2 Gx (o2 Gx (o2 Je (ls (ac (cn (.str "up")) an)) (o2 Gx (vr 2) (cn (.int 2)))) (ls (ac (cn (.str "down")) (ac (cn (.str "up")) an)))) (o2 Je (ls (ac (cn (.str "down")) an)) (o2 Gx (vr 3) (cn (.int 2))))) [some (.lst t),some (.int K.y),some (.int K.l),some (.int K.r),some (.int bg),some (.lst (S.length+1)),some (.int z2),some (.lst S1.length),some (.int de2),some (.lst a6),none,none,none,none] S6 (scG K.l K.r):=
  Gaa (LN.le (Gaa (LN.le (Gco (n:=K.l+2) (LN.le (Zi (by simp) (by simp))) (fun S' x=>by simp) (by omega))) (fun S' x=>LN.le (Zi (by simp) (by simp))) (by simp; omega))) (fun S' x=>LN.le (Gco (n:=K.r+2) (LN.le (Zi (by simp) (by simp))) (fun S' x=>by simp) (by omega))) (by simp; omega)
 have ln:∀ S',Ex S6 S'->Jf [.lst a6] S'=.ok (.int ((K.l+K.r+7:Nat):Int)) S':=fun S' x=>by rw[Gds (x.at q6)]; simp only[Gqc]
 obtain⟨a8,S8,e8,q8,x8,n8⟩:LN (o2 Je (ls (ac (cn (.int 0)) an)) (b1 Jf (ac (vr 9) an))) [some (.lst t),some (.int K.y),some (.int K.l),some (.int K.r),some (.int bg),some (.lst (S.length+1)),some (.int z2),some (.lst S1.length),some (.int de2),some (.lst a6),some (.lst a7),none,none,none] S7 (List.replicate (K.l+K.r+7) (.int 0)):=
  Gco (n:=K.l+K.r+7) (LN.le (Zi (by simp) (by simp))) (fun S' x=>by
   have:=ln S' (x7.trans x)
   generalize ((K.l+K.r+7:Nat):Int)=nn at *
   simp[this]) (by omega)
 have st8:=Ghn (d:=D.int bg) (i:=(K.l:Int)+2) q8 (by omega) (by simp; omega)
 rw[show((K.l:Int)+2).toNat=K.l+2 by omega] at st8
 have l8:a8<S8.length:=(List.getElem?_eq_some_iff.mp q8).1
 have q9:(S8.set a8 ⟨false,(List.replicate (K.l+K.r+7) (D.int 0)).set (K.l+2) (.int bg)⟩)[a8]?=some ⟨false,(List.replicate (K.l+K.r+7) (D.int 0)).set (K.l+2) (.int bg)⟩:=List.getElem?_set_self l8
 have x79:Ex S7 (S8.set a8 ⟨false,(List.replicate (K.l+K.r+7) (D.int 0)).set (K.l+2) (.int bg)⟩):=x8.setq n8
 generalize S8.set a8 ⟨false,(List.replicate (K.l+K.r+7) (D.int 0)).set (K.l+2) (.int bg)⟩=S9 at *
 have x49:Ex S4 S9:=x5.trans (x6.trans (x7.trans x79))
 have d9:Tp S9 t k:=d4.ext x49
 obtain⟨cr,S10,e10,c0,c5,d10,k10⟩:=draw (m:=5) d9 (by decide) (by decide)
 have len4:S4.length<=S5.length:=x5.len
 have len5:=x6.len
 have len6:=x7.len
 have q10:=k10.at q9 (by omega) (by omega)
 have p10:=k10.at ((x7.trans x79).at q6) (by omega) (by omega)
 have u10:=k10.at (x79.at q7) (by omega) (by omega)
 have ln10:Jf [.lst a6] S10=.ok (.int ((K.l+K.r+7:Nat):Int)) S10:=by rw[Gds p10]; simp only[Gqc]
 have m10:=Gxv (k:=K.l+K.r+6) (S:=S10) (by omega) (by omega)
 have t1:=Gfu p10
 have t2:=Gfu u10
 have t3:=Gfu q10
 simp only at t1 t2 t3
 obtain⟨K',w1,w2,w3,w4,w5,w6,w7⟩:∃ K':Sc,K'.l=K.l/\K'.r=K.r/\K'.y=K.y/\K'.PA=K.PA/\K'.PB=K.PB/\K'.brA=K.brA/\K'.cr=cr:=⟨{ K with cr:=cr },rfl,rfl,rfl,rfl,rfl,rfl,rfl⟩
 obtain⟨v1,v2,v3,v4,v5⟩:=Guw (K:=K') (bg:=bg) (by omega)
 rw[w1,w2,w4,w5,hA,hB] at v1
 rw[w1,w2] at v2 v3 v4 v5
 rw[w7] at v4 v5
 have ad1:Gx (.tup [.int cr]) (.tup ((List.replicate (K.l+K.r+6) (0:Int)).map D.int)) S10=.ok (.tup (K'.R.map D.int)) S10:=by rw[Zx (by simp; omega),v4]
 have ad2:Gx (.tup ((List.replicate (K.l+K.r+6) (0:Int)).map D.int)) (.tup [.int cr]) S10=.ok (.tup (K'.F.map D.int)) S10:=by rw[Zx (by simp; omega),v5]
 rw[v1] at t1
 rw[v2] at t2
 rw[v3] at t3
 have sub:((K.l+K.r+7:Nat):Int)-1=((K.l+K.r+6:Nat):Int):=by omega
 refine⟨K',S10,?_,w1,w2,w3,⟨by omega,by omega,by rw[w3,w6]; omega,by rw[w4]; exact o3,by rw[w5]; exact o4,by omega⟩,by rw[w6]; omega,d10⟩
 unfold cD stD
 rw[w7]
 generalize (List.replicate (K.l+K.r+6) (0:Int)).map D.int=zz at *
 generalize K'.ps.map Pl.toD=PS at *
 generalize K'.us.map gd=US at *
 generalize (K'.Lv ⟨bg,false,none⟩).map D.int=LL at *
 generalize K'.R.map D.int=RR at *
 generalize K'.F.map D.int=FF at *
 generalize ((K.l+K.r+7:Nat):Int)=n7' at *
 generalize ((K.l+K.r+6:Nat):Int)=n6' at *
 unfold Qm
 rw[Hg]
 simp only[Wd]
 refine(Gr (ρ':=[some (.lst t),some (.int K.y),some (.int K.l),some (.int K.r),some (.int bg),some (.lst S.length),none,none,none,none,none,none,none,none]) (S':=S++[⟨false,[.int x,.int 1]⟩]) (by simp[hx])).trans ?_
 refine(Gr (ρ':=[some (.lst t),some (.int K.y),some (.int K.l),some (.int K.r),some (.int bg),some (.lst (S.length+1)),none,none,none,none,none,none,none,none]) (S':=S1) (by rw[Ui,e1]; rfl)).trans ?_
 refine(Gr (ρ':=[some (.lst t),some (.int K.y),some (.int K.l),some (.int K.r),some (.int bg),some (.lst (S.length+1)),none,some (.lst S1.length),none,none,none,none,none,none]) (S':=S2) (by rw[Ui,ls1]; rfl)).trans ?_
 refine(Gr (ρ':=[some (.lst t),some (.int K.y),some (.int K.l),some (.int K.r),some (.int bg),some (.lst (S.length+1)),some (.int z2),some (.lst S1.length),some (.int de2),none,none,none,none,none]) (S':=S4) (by simp only[Gom,Ghm,Gp6,List.getElem?_cons_succ,List.getElem?_cons_zero,Gba,s2,Gcf]; exact f4)).trans ?_
 refine(Gr (ρ':=[some (.lst t),some (.int K.y),some (.int K.l),some (.int K.r),some (.int bg),some (.lst (S.length+1)),some (.int z2),some (.lst S1.length),some (.int de2),some (.lst a5),none,none,none,none]) (S':=S5) (by rw[Ui,e5]; rfl)).trans ?_
 refine(Gr (ρ':=[some (.lst t),some (.int K.y),some (.int K.l),some (.int K.r),some (.int bg),some (.lst (S.length+1)),some (.int z2),some (.lst S1.length),some (.int de2),some (.lst a6),none,none,none,none]) (S':=S6) (by rw[Ui,e6]; rfl)).trans ?_
 refine(Gr (ρ':=[some (.lst t),some (.int K.y),some (.int K.l),some (.int K.r),some (.int bg),some (.lst (S.length+1)),some (.int z2),some (.lst S1.length),some (.int de2),some (.lst a6),some (.lst a7),none,none,none]) (S':=S7) (by rw[Ui,e7]; rfl)).trans ?_
 refine(Gr (ρ':=[some (.lst t),some (.int K.y),some (.int K.l),some (.int K.r),some (.int bg),some (.lst (S.length+1)),some (.int z2),some (.lst S1.length),some (.int de2),some (.lst a6),some (.lst a7),some (.lst a8),none,none]) (S':=S8) (by rw[Ui,e8]; rfl)).trans ?_
 refine(Gr (ρ':=[some (.lst t),some (.int K.y),some (.int K.l),some (.int K.r),some (.int bg),some (.lst (S.length+1)),some (.int z2),some (.lst S1.length),some (.int de2),some (.lst a6),some (.lst a7),some (.lst a8),none,none]) (S':=S9) (by simp[st8])).trans ?_
 refine(Gr (ρ':=[some (.lst t),some (.int K.y),some (.int K.l),some (.int K.r),some (.int bg),some (.lst (S.length+1)),some (.int z2),some (.lst S1.length),some (.int de2),some (.lst a6),some (.lst a7),some (.lst a8),some (.int cr),none]) (S':=S10) (by simp[e10])).trans ?_
 refine(Gr (ρ':=[some (.lst t),some (.int K.y),some (.int K.l),some (.int K.r),some (.int bg),some (.lst (S.length+1)),some (.int z2),some (.lst S1.length),some (.int de2),some (.lst a6),some (.lst a7),some (.lst a8),some (.int cr),some (.tup zz)]) (S':=S10) (by simp[ln10,sub,m10])).trans ?_
 simp[t1,t2,t3,ad1,ad2,fin]
end Law
namespace Law
open PySem PySem.Spec PyProof.Rows L2 DL
variable{S:Sto}
def lev:Nat->Fn
 | 0=>Kw
 | n+1=>fnB 2 (Hq (lev n))
theorem Gux{i:Int}:Kv [.int i] S=.ok (.bl true) S:=by
 simp[Kv,fnB,Va,isD,isT,tyN]
theorem Gzd{b:Bool}:neD (.bl b) (.bl b) S=.ok (.bl false) S:=by cases b<;>rfl
def SmE(n:Nat)(S:Sto)(x y:D):Prop:=∀ S',Ex S S'->∃ S'',lev n [x,y] S'=.ok (.bl true) S''/\Ex S' S''
section
variable{S:Sto}{n:Nat}
theorem Guy{i:Int}:SmE (n+1) S (.int i) (.int i):=fun S' _=>by
 refine⟨S',?_,Ex.refl⟩
 have h1:Vh (.int i) .non S'=.ok (.bl false) S':=rfl
 show fnB 2 (Hq (lev n)) _ S'=_
 rw[Hg]
 simp[Hq,isD,isT,tyN,Zn,h1,Gux,fin]
theorem Gpb{f:Ev Src}{s:Src}{zs:List (D×D)}{e:Ev D}{ρ:Lc}(hf:f ρ S=.ok s S)(hn:∀ k S',Ex S S'->s.nxt k S'=(zs.map fun p=>D.tup [p.1,p.2])[k]?)(hu:zs.length<s.fuel)(hp:pkS [none,none] ρ=[none,none])(hl:zs.length<100000)
  (he:∀ p∈zs,∀ S':Sto,Ex S S'->∃ S'',e [some p.1,some p.2] S'=.ok (.bl true) S''/\Ex S' S''):
  ∃ S',cmp f [none,none] (gt (gcons (gn 0) (gcons (gn 1) gnil)) 2) ttrue e ρ S=.ok (.lst S.length) S'/\Gar [.lst S.length] S'=.ok (.bl true) S'/\Ex S S':=by
 obtain⟨ρ',S',el,g,g',hρ,hq,hx⟩:=We (nxt:=s.nxt) (g:=gt (gcons (gn 0) (gcons (gn 1) gnil)) 2) (b:=cbody S.length ttrue e) (l:=zs.map fun p=>D.tup [p.1,p.2])
  (fun i ρ S'=>∃ g g',ρ=[g,g']/\S'[S.length]?=some ⟨false,((List.replicate i true)).map D.bl⟩/\Ex S S')
  (fun k _ S' ⟨_,_,_,_,hx⟩=>hn k S' hx) (fun i d ρ S' hd ⟨g,g',h1,h2,h3⟩=>by
   subst h1
   rw[List.getElem?_map] at hd
   cases z:zs[i]? with
   | none=>rw[z] at hd; cases hd
   | some p=>
    rw[z] at hd; cases hd
    have hi:i<zs.length:=(List.getElem?_eq_some_iff.mp z).1
    obtain⟨S'',e1,e2⟩:=he p (Glj z) S' h3
    have q'':=e2.at h2
    have lq:S.length<S''.length:=(List.getElem?_eq_some_iff.mp q'').1
    refine⟨[some p.1,some p.2],[some p.1,some p.2],_,by simp,Qz e1 q'' (by simp; omega),some p.1,some p.2,rfl,?_,(h3.trans e2).setq (Nat.le_refl _)⟩
    rw[List.getElem?_set_self lq,List.replicate_succ']
    simp) s.fuel 0 [none,none] (S++[⟨false,[]⟩]) (Nat.zero_le _) ⟨none,none,rfl,by simp[Hw],Ex.app⟩ (by simp; omega)
 refine⟨S',Zw hf (by rw[hp]; exact el),?_,hx⟩
 rw[Gp7 hq]; simp
theorem Guz{l l':List D}(hl:l.length=l'.length)(h1:l.length<100000)(h:∀ (k:Nat) (d d':D),l[k]?=some d->l'[k]?=some d'->SmE n S d d'):SmE (n+1) S (.tup l) (.tup l'):=fun S' hx=>by
 obtain⟨S'',e1,e2,ex⟩:=Gpb (f:=Ghh (ac (vr 0) (ac (vr 1) an))) (S:=S') (s:=⟨fun k _=>zipAt l l' k,l.length+1⟩) (zs:=l.zip l') (e:=cl 2 (Go (lev n)) (ac (vr 0) (ac (vr 1) an))) (ρ:=[some (.tup l),some (.tup l')]) (by simp[Ghh]) (fun k S1 _=>by
   rw[List.getElem?_map]
   simp only[zipAt,List.getElem?_zip_eq_some]
   cases z:l[k]? with
   | none=>
    have:(l.zip l')[k]?=none:=List.getElem?_eq_none (by have:=List.getElem?_eq_none_iff.mp z; simp; omega)
    rw[this]; rfl
   | some d=>
    have hk:=(List.getElem?_eq_some_iff.mp z).1
    obtain⟨d',z'⟩:=Gdu (show k<l'.length by omega)
    have:(l.zip l')[k]?=some (d,d'):=List.getElem?_zip_eq_some.mpr ⟨z,z'⟩
    rw[z',this]; rfl) (by simp; omega) rfl (by simp; omega) (fun p hp S1 hx1=>by
   obtain⟨k,hk⟩:=List.mem_iff_getElem?.mp hp
   obtain⟨z1,z2⟩:=List.getElem?_zip_eq_some.mp hk
   obtain⟨S2,e,x⟩:=h k p.1 p.2 z1 z2 S1 (hx.trans hx1)
   exact⟨S2,by simp[e],x⟩)
 refine⟨S'',?_,ex⟩
 have ln:∀ S,Jf [.tup l] S=.ok (.int l.length) S:=fun S=>by simp[Jf]
 have ln':∀ S,Jf [.tup l'] S=.ok (.int l.length) S:=fun S=>by simp[Jf,hl]
 show fnB 2 (Hq (lev n)) _ S'=_
 rw[Hg]
 simp[Hq,isD,isT,tyN,Zn,Gzd,ln,ln',e1,e2,fin]
theorem Gu0{l:List D}(h1:l.length<100000)(h:∀ d∈l,SmE n S d d):SmE (n+1) S (.tup l) (.tup l):=Guz rfl h1 fun k d d' h1 h2=>by
 rw[h1] at h2; cases h2
 exact h d (Glj h1)
end
theorem Gu1{cs:List Int}{ρ:Lc}(hc:∀ c∈cs,0<=c/\c<=3)(hl:cs.length<=1000)(r6:ρ[6]?=some (some (.tup (cs.map D.int)))):∃ S',b1 Gas (ac (cmp (isrc (vr 6)) [none] (gn 0) ttrue (o2 DL.getD (ls (ac (cn (.int 0)) (ac (cn (.int 1)) (ac (cn (.int 1)) (ac (cn (.int 2)) an))))) (vr 0))) an) ρ S=.ok (.int (cs.map com).sum) S'/\Ex S S':=by
 obtain⟨S',e,q,x⟩:=Gey (S:=S) (S1:=S) (f:=isrc (vr 6)) (s:=Ga6 (cs.map D.int)) (xs:=cs.map D.int) (pk:=[none]) (e:=o2 DL.getD (ls (ac (cn (.int 0)) (ac (cn (.int 1)) (ac (cn (.int 1)) (ac (cn (.int 2)) an))))) (vr 0)) (ρ:=ρ) [] (fun d=>match d with | .int c=>.int (com c) | d=>d)
  (by simp[r6]) (fun k S' _=>rfl) (Nat.lt_succ_self _) rfl (by simp; omega) (fun d hd S' _=>by
   obtain⟨c,hc',rfl⟩:=List.mem_map.mp hd
   refine⟨S'++[⟨false,[.int 0,.int 1,.int 1,.int 2]⟩],?_,Ex.app⟩
   have g:DL.getD (.lst S'.length) (.int c) (S'++[⟨false,[.int 0,.int 1,.int 1,.int 2]⟩])=.ok (.int (com c)) (S'++[⟨false,[.int 0,.int 1,.int 1,.int 2]⟩]):=by
    rcases(by have:=hc c hc'; omega:c=0\/c=1\/c=2\/c=3) with rfl | rfl | rfl | rfl<;>exact Qh Hw rfl
   simp[g])
 have q:S'[S.length]?=some ⟨false,(cs.map com).map D.int⟩:=by rw[q,List.map_map,List.map_map]; rfl
 have sm:=Ghy q
 exact⟨S',by rw[Gfq,Gfp,e]; simp[sm],x⟩
section
variable{K:Sc}{cs:List Int}{bg:Nat}
abbrev ldK(K:Sc)(bg:Nat):Nat:=SM.lead K.l K.y bg
abbrev rgK(K:Sc)(n:Nat):Nat:=Nat.lcm (SM.per K.l K.r K.y) n
theorem Gl9(O:K.Ok)(hb:(bg:Int)<=K.brA)(h0:0<cs.length)(hl:cs.length<=1000)(hc:∀ c∈cs,0<=c/\c<=3){lm:D}{ms:Int}(hm:(lm=.non/\ms=600)\/lm=.int ms)(m0:0<=ms)(m1:ms<2900)(S:Sto):
  ∃ fd S',Ht [cD K.ps K.us,.tup (K.rows.map Ji),.int K.cr,stD (K.Lv ⟨bg,false,none⟩) K.R K.F,.tup (cs.map D.int),lm] S=.ok fd S'/\((((ldK K bg+rgK K cs.length:Nat):Int)<=ms/\fd=Glv (onK K bg cs) (ldK K bg+rgK K cs.length) (ldK K bg))\/(ms<((ldK K bg+rgK K cs.length:Nat):Int)/\fd=.non)):=by
 have ev:=Gzc O hb h0 hc
 have M:=Gxs (n:=cs.length) O hb h0
 have s0:stE (stK K bg 0)=stD (K.Lv ⟨bg,false,none⟩) K.R K.F:=rfl
 by_cases c:((ldK K bg+rgK K cs.length:Nat):Int)<=ms
 ·obtain⟨S',e,_⟩:=Gxe (S:=S) (lim:=ms) h0 hl ev M c m1
  rw[s0] at e
  refine⟨_,S',?_,.inl ⟨c,rfl⟩⟩
  rcases hm with⟨rfl,rfl⟩ | rfl
  ·exact Go8 e
  ·exact Gus e
 ·have c':ms<((SM.lead K.l K.y bg+Nat.lcm (SM.per K.l K.r K.y) cs.length:Nat):Int):=Int.not_le.mp c
  obtain⟨S',e,_⟩:=Gxf (S:=S) (lim:=ms) h0 hl ev (fun i hi b hbi=>M.nw i (by omega) b hbi) m0 m1
  rw[s0] at e
  refine⟨_,S',?_,.inr ⟨c',rfl⟩⟩
  rcases hm with⟨rfl,rfl⟩ | rfl
  ·exact Go9 e
  ·exact Gut e
theorem Gxw(h0:0<cs.length):Glv (onK K bg cs) (ldK K bg+rgK K cs.length) (ldK K bg)=.tup [.int (ldK K bg),.int (rgK K cs.length),.int (((rgK K cs.length / SM.per K.l K.r K.y:Nat):Int)*((K.y:Int)*K.pA+K.pB)),.int 0,.int (((rgK K cs.length / cs.length:Nat):Int)*(cs.map com).sum)]:=by
 unfold Glv
 rw[Gup h0,Gur,Guq h0,Nat.add_sub_cancel_left]
theorem Gxx{a b c d e:Int}(S:Sto):∃ S',Uh [.tup [.int a,.int b,.int c,.int d,.int e],.tup [.int a,.int b,.int c,.int d,.int e]] S=.ok (.bl true) S':=by
 have:SmE 3 S (.tup [.int a,.int b,.int c,.int d,.int e]) (.tup [.int a,.int b,.int c,.int d,.int e]):=Gu0 (by simp) fun x hx=>by
  simp only[List.mem_cons,List.not_mem_nil,or_false] at hx
  rcases hx with rfl | rfl | rfl | rfl | rfl<;>exact Guy
 obtain⟨S',e,_⟩:=this S Ex.refl
 exact⟨S',e⟩
end
theorem Gu2{q:Nat}{fz:Bool}{ns:List Int}(e:S[q]?=some ⟨fz,ns.map D.int⟩):∃ S',Gce [.lst q] S=.ok (.bl true) S':=by
 obtain⟨t,k,S1,f1,d1⟩:=Gor e
 obtain⟨m,S2,f2,a2,b2,d2,_⟩:=draw (m:=9) d1 (by decide) (by decide)
 obtain⟨y,hy⟩:∃ y:Nat,1+m=y:=⟨(1+m).toNat,by omega⟩
 obtain⟨l',S3,f3,a3,b3,d3,_⟩:=draw (m:=7) d2 (by decide) (by decide)
 obtain⟨l,rfl⟩:∃ l:Nat,l'=l:=⟨l'.toNat,by omega⟩
 obtain⟨r',S4,f4,a4,b4,d4,_⟩:=draw (m:=7-(l:Int)) d3 (by omega) (by omega)
 obtain⟨r,rfl⟩:∃ r:Nat,r'=r:=⟨r'.toNat,by omega⟩
 obtain⟨bg',S5,f5,a5,b5,d5,_⟩:=draw (m:=10) d4 (by decide) (by decide)
 obtain⟨bg,rfl⟩:∃ bg:Nat,bg'=bg:=⟨bg'.toNat,by omega⟩
 obtain⟨w,S6,f6,a6,b6,d6,_⟩:=draw (m:=20) d5 (by decide) (by decide)
 obtain⟨n,hn⟩:∃ n:Nat,1+w=n:=⟨(1+w).toNat,by omega⟩
 obtain⟨cs,S7,f7,q7,l7,c7,d7⟩:=Gl5 (S0:=S5) (S:=S6) (n:=n) (i:=1) (f:=ir1 (ac (o2 Gx (cn (.int 1)) (cl 2 (Go Gw) (ac (vr 1) (ac (cn (.int 20)) an)))) an)) (ρ:=[some (.lst q),some (.lst t),some (.int y),some (.int l),some (.int r),some (.int bg),none,none,none,none,none,none,none,none,none,none,none,none,none,none,none]) d6 (by omega) (Gla (by simp[f6,hn]) (by omega)) rfl
 have tu:=Gfu q7
 simp only at tu
 have n0:0<cs.length:=by omega
 have n20:cs.length<=20:=by omega
 have lc:∀ S,Jf [.tup (cs.map D.int)] S=.ok (.int (cs.length:Int)) S:=fun S=>by simp[Jf]
 obtain⟨K,S8,f8,rfl,rfl,rfl,O,hb,d8⟩:=Gl8 (bg:=bg) d7 (y:=y) (l:=l) (r:=r) (by omega) (by omega) (by omega) (by omega)
 obtain⟨S9,f9,x9⟩:=Giy (S:=S8) (y:=K.y) (l:=K.l) (r:=K.r) O.lr
 rw[Gpa O.lr] at f9
 have d9:=d8.ext x9
 have hlr:=O.lr
 obtain⟨T,hT⟩:∃ T:Nat,SM.per K.l K.r K.y=T:=⟨_,rfl⟩
 have Tb:T<=84:=by
  rw[<- hT]; unfold SM.per
  have:K.y*(K.l+3)<=9*(K.l+3):=Nat.mul_le_mul_right _ (by omega)
  omega
 have T1:0<T:=by rw[<- hT]; unfold SM.per; omega
 have eT:(K.y:Int)*((K.l:Int)+3)+(K.r:Int)+3=(T:Int):=by rw[<- hT]; unfold SM.per; push_cast; rfl
 have mT:∀ S,Je (.int (K.y:Int)) (.int ((K.l:Int)+3)) S=.ok (.int ((K.y:Int)*((K.l:Int)+3))) S:=fun S=>Gdr (by omega) (by omega)
 have cm:∀ S,Ka [.int (T:Int),.int (cs.length:Int)] S=.ok (.int (Nat.gcd T cs.length:Nat)) S:=fun S=>Gix (by omega)
 have g1':0<Nat.gcd T cs.length:=Nat.gcd_pos_of_pos_left _ T1
 have gle:Nat.gcd T cs.length<=T:=Nat.gcd_le_left _ T1
 have mn:∀ S,Je (.int (T:Int)) (.int (cs.length:Int)) S=.ok (.int ((T:Int)*(cs.length:Int))) S:=fun S=>Gdr (by omega) (by omega)
 have dv:∀ S,Wf (.int ((T:Int)*(cs.length:Int))) (.int (Nat.gcd T cs.length:Nat)) S=.ok (.int (rgK K cs.length)) S:=fun S=>by
  rw[Gcg (by omega) (by omega)]
  unfold rgK
  rw[hT]
  unfold Nat.lcm
  push_cast
  rfl
 have rb:rgK K cs.length<=1680:=by
  unfold rgK
  rw[hT]
  unfold Nat.lcm
  refine Nat.le_trans (Nat.div_le_self _ _) ?_
  exact Nat.le_trans (Nat.mul_le_mul Tb n20) (by decide)
 have r1:0<rgK K cs.length:=Nat.lcm_pos (by rw[hT]; exact T1) n0
 have lb:ldK K bg<=73:=by
  unfold ldK SM.lead
  split
  ·have:(bg-K.y)*(K.l+2)<=9*(K.l+2):=Nat.mul_le_mul_right _ (by omega)
   omega
  ·omega
 have ml:∀ S,Je (.int ((bg:Int)-(K.y:Int))) (.int ((K.l:Int)+2)) S=.ok (.int (((bg:Int)-(K.y:Int))*((K.l:Int)+2))) S:=fun S=>Gdr (by omega) (by omega)
 have el:K.y<bg->1+((bg:Int)-(K.y:Int))*((K.l:Int)+2)=((ldK K bg:Nat):Int):=fun h=>by
  unfold ldK SM.lead
  rw[if_pos h]
  obtain⟨w,hw⟩:∃ w,bg-K.y=w:=⟨_,rfl⟩
  rw[show(bg:Int)-(K.y:Int)=(w:Int) by omega,hw]
  push_cast
  rfl
 have en:¬ K.y<bg->ldK K bg=0:=fun h=>by unfold ldK SM.lead; rw[if_neg h]
 have gp0:∀ S,DL.getD (cD K.ps K.us) (.int 0) S=.ok (.tup (K.ps.map Pl.toD)) S:=fun S=>p0e
 have gpA:∀ S,DL.getD (.tup (K.ps.map Pl.toD)) (.int ((K.l:Int)+2)) S=.ok K.PA.toD S:=fun S=>by
  have:(K.ps.map Pl.toD)[K.l+2]?=some K.PA.toD:=by unfold Sc.ps; rw[List.getElem?_map,rg (by omega),Glx]; rfl
  have e2:((K.l:Int)+2)=((K.l+2:Nat):Int):=by push_cast; rfl
  rw[e2]
  exact Wk (Qg (by omega) (by rw[Int.toNat_natCast]; exact this))
 have gpB:∀ S,DL.getD (.tup (K.ps.map Pl.toD)) (.int ((K.l:Int)+4)) S=.ok K.PB.toD S:=fun S=>by
  have:(K.ps.map Pl.toD)[K.l+4]?=some K.PB.toD:=by unfold Sc.ps; rw[List.getElem?_map,rg (by omega),Gly]; rfl
  have e2:((K.l:Int)+4)=((K.l+4:Nat):Int):=by push_cast; rfl
  rw[e2]
  exact Wk (Qg (by omega) (by rw[Int.toNat_natCast]; exact this))
 have g4A:∀ S,DL.getD K.PA.toD (.int 4) S=.ok (.int K.pA) S:=fun S=>Wk (Qg (by decide) rfl)
 have g4B:∀ S,DL.getD K.PB.toD (.int 4) S=.ok (.int K.pB) S:=fun S=>Wk (Qg (by decide) rfl)
 have mo:∀ S,Je (.int (K.y:Int)) (.int K.pA) S=.ok (.int ((K.y:Int)*K.pA)) S:=fun S=>Gdr (by omega) (by omega)
 obtain⟨on,hon⟩:∃ on:Int,(K.y:Int)*K.pA+K.pB=on:=⟨_,rfl⟩
 have d12:∀ S,Wf (.int (rgK K cs.length:Nat)) (.int (T:Int)) S=.ok (.int ((rgK K cs.length / T:Nat):Int)) S:=fun S=>by rw[Gcg (by omega) (by omega)]; push_cast; rfl
 have d13:∀ S,Wf (.int (rgK K cs.length:Nat)) (.int (cs.length:Int)) S=.ok (.int ((rgK K cs.length / cs.length:Nat):Int)) S:=fun S=>by rw[Gcg (by omega) (by omega)]; push_cast; rfl
 have u1:rgK K cs.length / T<=1680:=Nat.le_trans (Nat.div_le_self _ _) rb
 have u2:rgK K cs.length / cs.length<=1680:=Nat.le_trans (Nat.div_le_self _ _) rb
 have mulv:∀ (v:Nat),v<=1680->∀ S (z:Int),Je (.int (v:Int)) (.int z) S=.ok (.int ((v:Int)*z)) S:=fun v hv S z=>Gdr (by omega) (by omega)
 have mp:∀ S (z:Int),Je (.int ((rgK K cs.length / T:Nat):Int)) (.int z) S=.ok (.int (((rgK K cs.length / T:Nat):Int)*z)) S:=mulv _ u1
 have mq:∀ S (z:Int),Je (.int ((rgK K cs.length / cs.length:Nat):Int)) (.int z) S=.ok (.int (((rgK K cs.length / cs.length:Nat):Int)*z)) S:=mulv _ u2
 obtain⟨co,hco⟩:∃ co:Int,(cs.map com).sum=co:=⟨_,rfl⟩
 obtain⟨S10,f10,x10⟩:=Gu1 (S:=S9) (cs:=cs) (ρ:=[some (.lst q),some (.lst t),some (.int K.y),some (.int K.l),some (.int K.r),some (.int bg),some (.tup (cs.map D.int)),some (cD K.ps K.us),some (.int K.cr),some (stD (K.Lv ⟨bg,false,none⟩) K.R K.F),some (.tup (K.rows.map Ji)),some (.int T),some (.int (rgK K cs.length:Nat)),some (.int (ldK K bg:Nat)),some (.int on),some (.int (((rgK K cs.length / T:Nat):Int)*on)),none,none,none,none,none]) c7 (by omega) rfl
 rw[hco] at f10
 have d10:=d9.ext x10
 have hp:((ldK K bg+rgK K cs.length:Nat):Int)=(ldK K bg:Int)+(rgK K cs.length:Int):=by push_cast; rfl
 obtain⟨c,S11,f11,a11,b11,d11,k11⟩:=draw (m:=4) (d10.app (c:=⟨false,[.non,.int ((ldK K bg:Int)+(rgK K cs.length:Int)),.int ((ldK K bg:Int)+(rgK K cs.length:Int)-1),.int 2000]⟩)) (by decide) (by decide)
 have lt10:=d10.lt
 have q11:=k11.at (Hw (S:=S10) (c:=⟨false,[.non,.int ((ldK K bg:Int)+(rgK K cs.length:Int)),.int ((ldK K bg:Int)+(rgK K cs.length:Int)-1),.int 2000]⟩)) (by omega) (by omega)
 obtain⟨lm,ms,gl,hm,m0,m1⟩:∃ (lm:D) (ms:Int),DL.getD (.lst S10.length) (.int c) S11=.ok lm S11/\((lm=.non/\ms=600)\/lm=.int ms)/\0<=ms/\ms<2900:=by
  rcases(by omega:c=0\/c=1\/c=2\/c=3) with h | h | h | h<;>rw[h]
  ·exact⟨.non,600,Qh q11 rfl,.inl ⟨rfl,rfl⟩,by decide,by decide⟩
  ·exact⟨_,(ldK K bg:Int)+(rgK K cs.length:Int),Qh q11 rfl,.inr rfl,by omega,by omega⟩
  ·exact⟨_,(ldK K bg:Int)+(rgK K cs.length:Int)-1,Qh q11 rfl,.inr rfl,by omega,by omega⟩
  ·exact⟨_,2000,Qh q11 rfl,.inr rfl,by decide,by decide⟩
 have ml11:ie (tb (o2 Vh (vr 18) (cn .non))) (cn (.int 600)) (vr 18) [some (.lst q),some (.lst t),some (.int K.y),some (.int K.l),some (.int K.r),some (.int bg),some (.tup (cs.map D.int)),some (cD K.ps K.us),some (.int K.cr),some (stD (K.Lv ⟨bg,false,none⟩) K.R K.F),some (.tup (K.rows.map Ji)),some (.int T),some (.int (rgK K cs.length:Nat)),some (.int (ldK K bg:Nat)),some (.int on),some (.int (((rgK K cs.length / T:Nat):Int)*on)),some (.int co),some (.int (((rgK K cs.length / cs.length:Nat):Int)*co)),some lm,none,none] S11=.ok (.int ms) S11:=by
  rcases hm with⟨rfl,rfl⟩ | rfl
  ·have h:Vh .non .non S11=.ok (.bl true) S11:=rfl
   simp[h]
  ·have h:Vh (.int ms) .non S11=.ok (.bl false) S11:=rfl
   simp[h]
 obtain⟨fd,S12,f12,h12⟩:=Gl9 (bg:=bg) O hb n0 (by omega) c7 hm m0 m1 S11
 rw[Gxw n0,hT,hon,hco,hp] at h12
 generalize cD K.ps K.us=cd at *
 generalize stD (K.Lv ⟨bg,false,none⟩) K.R K.F=sd at *
 generalize K.rows.map Ji=rl at *
 generalize K.PA.toD=PA at *
 generalize K.PB.toD=PB at *
 generalize K.ps.map Pl.toD=PS at *
 generalize cs.map D.int=ct at *
 generalize ((rgK K cs.length / T:Nat):Int)=vT at *
 generalize ((rgK K cs.length / cs.length:Nat):Int)=vN at *
 have fend:∃ S',fin ((sq (sif (tb (o2 gtD (o2 Gx (vr 13) (vr 12)) (vr 19)))
  (sret (o2 Vh (vr 20) (cn .non)))
  skip)
  (sret (cl 2 (Go Uh) (ac (vr 20) (ac (tp (ac (vr 13) (ac (vr 12) (ac (vr 15) (ac (cn (.int 0)) (ac (vr 17) an)))))) an))))) [some (.lst q),some (.lst t),some (.int K.y),some (.int K.l),some (.int K.r),some (.int bg),some (.tup ct),some cd,some (.int K.cr),some sd,some (.tup rl),some (.int T),some (.int (rgK K cs.length:Nat)),some (.int (ldK K bg:Nat)),some (.int on),some (.int (vT*on)),some (.int co),some (.int (vN*co)),some lm,some (.int ms),some fd] S12)=.ok (.bl true) S':=by
  generalize ((rgK K cs.length:Nat):Int)=rn at *
  generalize ((ldK K bg:Nat):Int)=ln at *
  rcases h12 with⟨h,rfl⟩ | ⟨h,rfl⟩
  ·obtain⟨S13,e13⟩:=Gxx (a:=ln) (b:=rn) (c:=vT*on) (d:=0) (e:=vN*co) S12
   have h':¬ ms<ln+rn:=by omega
   exact⟨S13,by simp[h',e13,fin]⟩
  ·have hh:Vh .non .non S12=.ok (.bl true) S12:=rfl
   exact⟨S12,by simp[h,hh,fin]⟩
 obtain⟨S13,fend⟩:=fend
 refine⟨S13,?_⟩
 unfold Gce
 rw[Hg]
 simp only[Gk6]
 refine(Gr (ρ':=[some (.lst q),some (.lst t),none,none,none,none,none,none,none,none,none,none,none,none,none,none,none,none,none,none,none]) (S':=S1) (by simp[f1])).trans ?_
 refine(Gr (ρ':=[some (.lst q),some (.lst t),some (.int K.y),none,none,none,none,none,none,none,none,none,none,none,none,none,none,none,none,none,none]) (S':=S2) (by simp[f2,hy])).trans ?_
 refine(Gr (ρ':=[some (.lst q),some (.lst t),some (.int K.y),some (.int K.l),none,none,none,none,none,none,none,none,none,none,none,none,none,none,none,none,none]) (S':=S3) (by simp[f3])).trans ?_
 refine(Gr (ρ':=[some (.lst q),some (.lst t),some (.int K.y),some (.int K.l),some (.int K.r),none,none,none,none,none,none,none,none,none,none,none,none,none,none,none,none]) (S':=S4) (by simp[f4])).trans ?_
 refine(Gr (ρ':=[some (.lst q),some (.lst t),some (.int K.y),some (.int K.l),some (.int K.r),some (.int bg),none,none,none,none,none,none,none,none,none,none,none,none,none,none,none]) (S':=S5) (by simp[f5])).trans ?_
 refine(Gr (ρ':=[some (.lst q),some (.lst t),some (.int K.y),some (.int K.l),some (.int K.r),some (.int bg),some (.tup ct),none,none,none,none,none,none,none,none,none,none,none,none,none,none]) (S':=S7) (by rw[Ui,Gfq,Gfp,f7]; simp[tu])).trans ?_
 refine(Gr (ρ':=[some (.lst q),some (.lst t),some (.int K.y),some (.int K.l),some (.int K.r),some (.int bg),some (.tup ct),some cd,some (.int K.cr),some sd,none,none,none,none,none,none,none,none,none,none,none]) (S':=S8) (by simp[f8])).trans ?_
 refine(Gr (ρ':=[some (.lst q),some (.lst t),some (.int K.y),some (.int K.l),some (.int K.r),some (.int bg),some (.tup ct),some cd,some (.int K.cr),some sd,some (.tup rl),none,none,none,none,none,none,none,none,none,none]) (S':=S9) (by simp[f9])).trans ?_
 refine(Gr (ρ':=[some (.lst q),some (.lst t),some (.int K.y),some (.int K.l),some (.int K.r),some (.int bg),some (.tup ct),some cd,some (.int K.cr),some sd,some (.tup rl),some (.int T),none,none,none,none,none,none,none,none,none]) (S':=S9) (by simp[mT,eT])).trans ?_
 refine(Gr (ρ':=[some (.lst q),some (.lst t),some (.int K.y),some (.int K.l),some (.int K.r),some (.int bg),some (.tup ct),some cd,some (.int K.cr),some sd,some (.tup rl),some (.int T),some (.int (rgK K cs.length:Nat)),none,none,none,none,none,none,none,none]) (S':=S9) (by
  generalize ((rgK K cs.length:Nat):Int)=rn at *
  generalize ((Nat.gcd T cs.length:Nat):Int)=gg at *
  simp[lc,mn,cm,dv])).trans ?_
 refine(Gr (ρ':=[some (.lst q),some (.lst t),some (.int K.y),some (.int K.l),some (.int K.r),some (.int bg),some (.tup ct),some cd,some (.int K.cr),some sd,some (.tup rl),some (.int T),some (.int (rgK K cs.length:Nat)),some (.int 0),none,none,none,none,none,none,none]) (S':=S9) (by simp)).trans ?_
 refine(Gr (ρ':=[some (.lst q),some (.lst t),some (.int K.y),some (.int K.l),some (.int K.r),some (.int bg),some (.tup ct),some cd,some (.int K.cr),some sd,some (.tup rl),some (.int T),some (.int (rgK K cs.length:Nat)),some (.int (ldK K bg:Nat)),none,none,none,none,none,none,none]) (S':=S9) (by
  by_cases h:K.y<bg
  ·have h':(K.y:Int)<(bg:Int):=by omega
   have:=el h
   generalize ((rgK K cs.length:Nat):Int)=rn at *
   generalize ((ldK K bg:Nat):Int)=ln at *
   simp[h,h',ml,this]
  ·have h':¬ (K.y:Int)<(bg:Int):=by omega
   rw[en h]
   generalize ((rgK K cs.length:Nat):Int)=rn at *
   simp[h,h'])).trans ?_
 generalize ((rgK K cs.length:Nat):Int)=rn at *
 generalize ((ldK K bg:Nat):Int)=ln at *
 refine(Gr (ρ':=[some (.lst q),some (.lst t),some (.int K.y),some (.int K.l),some (.int K.r),some (.int bg),some (.tup ct),some cd,some (.int K.cr),some sd,some (.tup rl),some (.int T),some (.int rn),some (.int ln),some (.int on),none,none,none,none,none,none]) (S':=S9) (by simp[gp0,gpA,gpB,g4A,g4B,mo,hon])).trans ?_
 refine(Gr (ρ':=[some (.lst q),some (.lst t),some (.int K.y),some (.int K.l),some (.int K.r),some (.int bg),some (.tup ct),some cd,some (.int K.cr),some sd,some (.tup rl),some (.int T),some (.int rn),some (.int ln),some (.int on),some (.int (vT*on)),none,none,none,none,none]) (S':=S9) (by simp[d12,mp])).trans ?_
 refine(Gr (ρ':=[some (.lst q),some (.lst t),some (.int K.y),some (.int K.l),some (.int K.r),some (.int bg),some (.tup ct),some cd,some (.int K.cr),some sd,some (.tup rl),some (.int T),some (.int rn),some (.int ln),some (.int on),some (.int (vT*on)),some (.int co),none,none,none,none]) (S':=S10) (by rw[Ui,f10]; rfl)).trans ?_
 refine(Gr (ρ':=[some (.lst q),some (.lst t),some (.int K.y),some (.int K.l),some (.int K.r),some (.int bg),some (.tup ct),some cd,some (.int K.cr),some sd,some (.tup rl),some (.int T),some (.int rn),some (.int ln),some (.int on),some (.int (vT*on)),some (.int co),some (.int (vN*co)),none,none,none]) (S':=S10) (by simp[lc,d13,mq])).trans ?_
 refine(Gr (ρ':=[some (.lst q),some (.lst t),some (.int K.y),some (.int K.l),some (.int K.r),some (.int bg),some (.tup ct),some cd,some (.int K.cr),some sd,some (.tup rl),some (.int T),some (.int rn),some (.int ln),some (.int on),some (.int (vT*on)),some (.int co),some (.int (vN*co)),some lm,none,none]) (S':=S11) (by simp[f11,gl])).trans ?_
 refine(Gr (ρ':=[some (.lst q),some (.lst t),some (.int K.y),some (.int K.l),some (.int K.r),some (.int bg),some (.tup ct),some cd,some (.int K.cr),some sd,some (.tup rl),some (.int T),some (.int rn),some (.int ln),some (.int on),some (.int (vT*on)),some (.int co),some (.int (vN*co)),some lm,some (.int ms),none]) (S':=S11) (by rw[Ui,ml11]; rfl)).trans ?_
 refine(Gr (ρ':=[some (.lst q),some (.lst t),some (.int K.y),some (.int K.l),some (.int K.r),some (.int bg),some (.tup ct),some cd,some (.int K.cr),some sd,some (.tup rl),some (.int T),some (.int rn),some (.int ln),some (.int on),some (.int (vT*on)),some (.int co),some (.int (vN*co)),some lm,some (.int ms),some fd]) (S':=S12) (by simp[f12])).trans ?_
 exact fend
theorem Gf1{K:PySem.W.Frag}{mp:List Addr}{H:Hp}:∀ ns:List Int,RepL K mp H (ns.map D.int) (ns.map V.int)
 | []=>RepL.nil
 | a::r=>RepL.cons rfl (Gf1 r)
theorem hsp(K:PySem.W.Frag)(H:Hp)(a:Addr)(ns:List Int)(hl:ns.length<=63)(hO:Only H)(hS:SqL K H a (ns.map V.int)):spD K 1 Gce [.ref a] H (fun v _=>v=.bl true) fun _ _ _=>False:=by
 have hF:SqF K H a (ns.map V.int):=by
  rcases hS with(h | h) | h
  ·rcases hO a with z | ⟨o,xs,z⟩
   ·rw[z] at h; cases h
   ·rw[z] at h; cases h
  ·exact .inl h
  ·exact .inr h
 obtain⟨S',e⟩:=Gu2 (S:=[⟨true,ns.map D.int⟩]) (q:=0) (fz:=true) (ns:=ns) rfl
 refine⟨[a],[.lst 0],[⟨true,ns.map D.int⟩],⟨rfl,fun i b c h1 h2=>?_,fun i j b ci cj h1 h2 h3 h4 h5 h6=>?_⟩,RepL.cons ⟨a,rfl,rfl,fun⟨_,z⟩=>by rcases hO a with y | ⟨o,xs,y⟩<;>(rw[y] at z; cases z)⟩ RepL.nil,rfl,?_⟩
 ·cases i with
  | zero=>
   cases (Option.some.inj h1)
   cases (Option.some.inj h2)
   exact .inl ⟨ns.map V.int,Gf1 ns,(if_pos rfl).mpr hF⟩
  | succ i=>simp at h1
 ·cases i with
  | zero=>cases (Option.some.inj h3); cases h5
  | succ i=>simp at h1
 ·show Gpj K [a] H (Gce [.lst 0] [⟨true,ns.map D.int⟩]) _
  rw[e]
  exact fun mp' H' v _ _ h=>h
end Law
def PySem.W.Fast.tw1998546025545864441:Nat:=0
def PySem.W.Fast.tw16606528382174686165:Nat:=0
def PySem.W.Fast.tw9497748516723614519:Nat:=0
def PySem.W.Fast.tw11857191032598075334:Nat:=0
def PySem.W.Fast.tw12336843905174151062:Nat:=0
def PySem.W.Fast.tw11998923493284132929:Nat:=0
def PySem.W.Fast.tw7403575318936487053:Nat:=0
def PySem.W.Fast.tw10998743554541256064:Nat:=0
def PySem.W.Fast.tw7677548173384983951:Nat:=0
def PySem.W.Fast.tw577572721106597302:Nat:=0
def PySem.W.Fast.tw15332789946653013252:Nat:=0
def PySem.W.Fast.tw4382488078460014410:Nat:=0
def PySem.W.Fast.tw15937564458112648360:Nat:=0
def PySem.W.Fast.tw13764925201001810253:Nat:=0
def PySem.W.Fast.tw4079558694918323613:Nat:=0
def PySem.W.Fast.tw14780811542216608805:Nat:=0
def PySem.W.Fast.tw4245225975357524906:Nat:=0
def PySem.W.Fast.tw11635889726834243420:Nat:=0
def PySem.W.Fast.tw773285699940682601:Nat:=0
def PySem.W.Fast.tw17573026226484667600:Nat:=0
def PySem.W.Fast.tw5674917606186209288:Nat:=0
def PySem.W.Fast.tw16086980324341640597:Nat:=0
def PySem.W.Fast.tw2384752521324086570:Nat:=0
def PySem.W.Fast.tw4259322594938744244:Nat:=0
def PySem.W.Fast.tw8579850510283116932:Nat:=0
def PySem.W.Fast.tw3598511620881507079:Nat:=0
def PySem.W.Fast.tw12850093686635339698:Nat:=0
def PySem.W.Fast.tw14906208550082764061:Nat:=0
def PySem.W.Fast.tw17543669495722373574:Nat:=0
def PySem.W.Fast.tw13262881099776519549:Nat:=0
def PySem.W.Fast.tw7144991571680312689:Nat:=0
def PySem.W.Fast.tw925232275808238003:Nat:=0
def PySem.W.Fast.tw13972870226324969656:Nat:=0
def PySem.W.Fast.tw5512255642720184761:Nat:=0
def PySem.W.Fast.tw14698048190467465403:Nat:=0
def PySem.W.Fast.tw15271132831805107824:Nat:=0
def PySem.W.Fast.tw3665537729858644860:Nat:=0
def PySem.W.Fast.tw1353258199446028452:Nat:=0
def PySem.W.Fast.tw2971831830248130550:Nat:=0
def PySem.W.Fast.tw7533658926805084388:Nat:=0
def PySem.W.Fast.tw5931374391492325254:Nat:=0
def PySem.W.Fast.tw963656811337928263:Nat:=0
def PySem.W.Fast.tw7181789489925595701:Nat:=0
def PySem.W.Fast.tw2149343971043018362:Nat:=0
def PySem.W.Fast.tw9621980752567588395:Nat:=0
def PySem.W.Fast.tw12022337751802891860:Nat:=0
def PySem.W.Fast.tw8506338502621635354:Nat:=0
def PySem.W.Fast.tw2337163050186670286:Nat:=0
def PySem.W.Fast.tw7264671321099618729:Nat:=0
def PySem.W.Fast.tw8191016867706776676:Nat:=0
def PySem.W.Fast.tw13273083166505020645:Nat:=0
def PySem.W.Fast.tw11606426227932312540:Nat:=0
def PySem.W.Fast.tw4500040105120747492:Nat:=0
def PySem.W.Fast.tw17181039350202312789:Nat:=0
def PySem.W.Fast.tw10792497643284684572:Nat:=0
def PySem.W.Fast.tw4185109169052172553:Nat:=0
def PySem.W.Fast.tw15261391021122166675:Nat:=0
def PySem.W.Fast.tw6378105144822973096:Nat:=0
def PySem.W.Fast.tw5233101225854498153:Nat:=0
def PySem.W.Fast.tw12168810729205495844:Nat:=0
def PySem.W.Fast.tw803229370676437952:Nat:=0
def PySem.W.Fast.tw4783684013278183255:Nat:=0
def PySem.W.Fast.tw2521689667051203837:Nat:=0
def PySem.W.Fast.tw17179702826595981433:Nat:=0
def PySem.W.Fast.tw17530611274281245164:Nat:=0
def PySem.W.Fast.tw14607825182603773388:Nat:=0
def PySem.W.Fast.tw18027620410283280663:Nat:=0
def PySem.W.Fast.tw5013685925168870096:Nat:=0
def PySem.W.Fast.tw17032762922031861684:Nat:=0
open PySem PySem.W PyProof.Rows
set_option maxHeartbeats 0 in
theorem PySem.Challenge.cw_summitwater_k74_long_rings_holds : PySem.Challenge.rw_summitwater_k74_long_rings.Holds := by
 w_on; o_law; k_head; (case hw=>w_witness2)
 k_fill
 refine L2.Gjn (l:=PySem.Challenge.rw_summitwater_k74_long_rings) (n:=63) (k:=9) (x:="script") (CX:=L2.CX0) (sp:=fun K=>DL.spD K 1 Law.Gce) rfl (by decide) rfl ⟨rfl,by decide,by decide,rfl⟩ (fun w h Y=>PySem.W.kIn_of Y) ?F Law.hsp (fun _ _ _ _ z=>z)
 case F=>
  intro w mg fa h KX G hmg
  refine' Law.Gt2 KX G hmg ?HS ?x0 ?x1 ?x2 ?x3 ?x4 ?x5 ?x6 ?x7 ?x8 ?x9 ?x10 ?x11 ?x12 ?x13 ?x14 ?x15 ?x16 ?x17 ?x18 ?x19 ?x20 ?x21 ?x22 ?x23 ?x24 ?x25 ?x26 ?x27 ?x28 ?x29 ?x30 ?x31 ?x32 ?x33
  (case HS=>constructor<;>first | (refine' DL.Gt0 ?a ?l ?c ?k ?t; (case a=>k_is); (case l=>k_is); (case c=>k_is); (case k=>k_is); (case t=>k_is)) | (refine' DL.Gwn ?a ?l ?c ?k; (case a=>k_is); (case l=>k_is); (case c=>k_is); (case k=>k_is)) | k_is)
  (case x0=>k_is)
  (case x1=>k_is)
  (case x2=>k_is)
  (case x3=>k_is)
  (case x4=>k_is)
  (case x5=>k_is)
  (case x6=>k_is)
  (case x7=>k_is)
  (case x8=>k_is)
  (case x9=>k_is)
  (case x10=>k_is)
  (case x11=>k_is)
  (case x12=>k_is)
  (case x13=>k_is)
  (case x14=>k_is)
  (case x15=>k_is)
  (case x16=>k_is)
  (case x17=>k_is)
  (case x18=>k_is)
  (case x19=>kernel_rfl!)
  (case x20=>kernel_rfl!)
  (case x21=>k_is)
  (case x22=>k_is)
  (case x23=>k_is)
  (case x24=>k_is)
  (case x25=>kernel_rfl!)
  (case x26=>kernel_rfl!)
  (case x27=>kernel_rfl!)
  (case x28=>kernel_rfl!)
  (case x29=>kernel_rfl!)
  (case x30=>kernel_rfl!)
  (case x31=>kernel_rfl!)
  (case x32=>kernel_rfl!)
  (case x33=>kernel_rfl!)
