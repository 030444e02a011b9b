import PyProof.Rows.All
import Wide.All
import OpenK.AllK
import Wide.FinOn
import Lean
import PyProof.EqAt
import PyProof.EqKinds
import PyProof.TupleCall
import PyProof.FactsAll.tuple_2
import PyProof.ListMulRoad
import PyProof.ExcArgsOwn
import PyProof.ZipIter
import PyProof.EnumFor
import PyProof.Rows.StrJoin2
import PyProof.FString
import PyProof.StrBlockH
import PyProof.StrWalks
import PyProof.EnumMake
import KE.KIntText
import PyProof.CallStr
import PyProof.ExcInit
import PyProof.ExcClass3
import PyProof.ExcBaseAll.ValueError
import PyProof.NsDelKeeps
import KE.KTryMore
import PyProof.Rows.CountFlat
import PyProof.Rows.KernelRfl
import PyProof.ListRange
import PyProof.InstStoreFacts
import PyProof.Rows.InDataRows
import PyProof.DictTable
import PyProof.DictRoads
import PyProof.DictStraight
import PyProof.Rows.TupTab
import PyProof.Rows.TupDisplay
import PyProof.DictTruth
import PySem.Challenge.RW_summitwater_k20_stands_met
set_option compiler.extract_closed false
noncomputable section
set_option maxHeartbeats 4000000
set_option Elab.async false
set_option linter.all false
set_option maxRecDepth 100000
abbrev Aa:=@List.getElem?_eq_some_iff
abbrev Ab:=@Nat.le_refl
abbrev Ac:=@Option.some.inj
abbrev Ad:=@List.getElem?_set_ne
abbrev Ae:=@List.mem_cons
abbrev Af:=@List.getElem?_eq_getElem
abbrev Ag:=@PySem.Heap.lt_size
abbrev Ah:=@List.getElem?_set_self
abbrev Ai:=@Nat.lt_of_lt_of_le
abbrev Aj:=@Nat.le_trans
abbrev Ak:=@List.size_toArray
abbrev Am:=@List.length_map
abbrev An:=@Bool.false_ne_true
abbrev Ao:=@PySem.Heap.get?_push_of_some
abbrev Ap:=@List.mem_of_getElem?
abbrev Aq:=@Bool.and_eq_true
abbrev Ar:=@List.getElem?_append_left
abbrev As:=@List.getElem?_map
abbrev At:=@List.map_cons
abbrev Au:=@List.mem_cons_of_mem
abbrev Av:=@List.lookup_cons
abbrev Aw:=@List.mem_cons_self
abbrev Ax:=@Nat.ne_of_lt
abbrev Ay:=@Bool.false_eq_true
abbrev Az:=@List.length_append
abbrev AA:=@Nat.lt_irrefl
abbrev AB:=@Nat.zero_le
abbrev AC:=@List.not_mem_nil
abbrev AD:=@PySem.Heap.get?_push_size
abbrev AE:=@List.getElem?_cons_succ
abbrev AF:=@List.mem_append
abbrev AG:=@Int.toNat_natCast
abbrev AH:=@PySem.Heap.get?_update_other
abbrev AI:=@List.append_assoc
abbrev AJ:=@List.all_eq_true
abbrev AK:=@List.mem_map
abbrev AL:=@List.getElem?_cons_zero
abbrev AM:=@List.mem_append_right
abbrev AN:=@List.mem_nil_iff
abbrev AO:=@List.replicate_succ
abbrev AQ:=@List.mem_singleton
abbrev AR:=@Bool.eq_false_iff
abbrev AS:=@List.sum_cons
abbrev AT:=@List.map_append
abbrev AU:=@List.append_nil
abbrev AV:=@PySem.Heap.get?_none_of_le
abbrev AW:=@List.length_take
abbrev AX:=@PySem.Heap.get?_update_self
abbrev AY:=@List.flatten_cons
abbrev AZ:=@List.length_cons
abbrev A0:=@List.getElem?_append_right
abbrev A1:=@Nat.lt_succ_self
abbrev A2:=@List.getElem?_eq_none_iff
abbrev A3:=@List.getElem_mem
abbrev A4:=@List.getElem?_range
abbrev A5:=@List.take_add_one
abbrev A6:=@List.nodup_append
abbrev A7:=@List.mem_iff_getElem?
abbrev A8:=@List.nodup_cons
abbrev A9:=@List.length_set
abbrev Ba:=@Option.bind_some
abbrev Bb:=@PySem.Heap.size_push
abbrev Bc:=@Int.emod_nonneg
abbrev Bd:=@List.filter_append
abbrev Be:=@List.length_filter_le
abbrev Bg:=@Nat.add_assoc
abbrev Bh:=@List.mem_filter
abbrev Bi:=@List.mem_range
abbrev Bj:=@Nat.le_of_lt
abbrev Bk:=@List.mem_append_left
abbrev Bl:=@Nat.ne_of_gt
abbrev Bm:=@List.map_nil
abbrev Bn:=@Nat.le_succ
abbrev Bo:=@List.length_nil
abbrev Bp:=@List.contains_cons
abbrev Bq:=@List.find?_cons
abbrev Br:=@Int.emod_lt_of_pos
abbrev Bs:=@List.getElem?_eq_none
abbrev Bt:=@List.take_length
abbrev Bu:=@List.eq_of_mem_replicate
abbrev Bv:=@List.filterMap_cons
abbrev Bw:=@Option.isSome_iff_exists
abbrev Bx:=@List.take_of_length_le
abbrev By:=PySem.W.Frag
abbrev Bz:=PySem.Value
abbrev BA:=PySem.Shared
abbrev BB:=PySem.Addr
abbrev BC:=Option
abbrev BD:=PySem.Program
namespace L2
open PySem PySem.Spec PyProof.Rows
abbrev Key:=Sum Int Str
noncomputable def Gtd:Key->Bz->Bool
 | .inl k,v=>Value.isInt k v
 | .inr x,v=>Value.isStrOf x v
noncomputable def Hbz(w:World):Key->Int
 | .inl k=>hashInt k
 | .inr x=>hashStr w x
def Ji:∀ {k:Key} {v:Bz},Gtd k v=true->(∃ i t,k=Sum.inl i/\v=Value.int i t)\/(∃ x t,k=Sum.inr x/\v=Value.str x t)
 | .inl i,v,h=>by
  obtain⟨t,e⟩:=Value.isInt_shape (k:=i) (v:=v) h
  exact .inl ⟨i,t,rfl,e⟩
 | .inr x,v,h=>by
  obtain⟨t,e⟩:=Value.isStrOf_shape (x:=x) (v:=v) h
  exact .inr ⟨x,t,rfl,e⟩
def Gug(a b:Int):decide ((Sum.inl a:Key)=Sum.inl b)=(a==b):=by
 by_cases e:a=b
 ·subst e; simp
 ·have h:¬ (Sum.inl a:Key)=Sum.inl b:=fun q=>e (Sum.inl.inj q)
  rw[decide_eq_false h]
  exact(beq_eq_false_iff_ne.mpr e).symm
def Guh(a b:Str):decide ((Sum.inr a:Key)=Sum.inr b)=decide (a=b):=by
 by_cases e:a=b
 ·subst e; simp
 ·have h:¬ (Sum.inr a:Key)=Sum.inr b:=fun q=>e (Sum.inr.inj q)
  rw[decide_eq_false h,decide_eq_false e]
def Gui(a:Int)(b:Str):decide ((Sum.inl a:Key)=Sum.inr b)=false:=decide_eq_false (fun q=>nomatch q)
def Guj(a:Str)(b:Int):decide ((Sum.inr a:Key)=Sum.inl b)=false:=decide_eq_false (fun q=>nomatch q)
def Giy(prog:BD)(w:World):PySem.KeyKind prog w Key where
 is:=Gtd
 hash:=Hbz w
 inj:=fun v a b ha hb=>by
  rcases Ji ha with⟨i,t,rfl,rfl⟩ | ⟨x,t,rfl,rfl⟩
  ·rcases Ji hb with⟨j,u,rfl,e⟩ | ⟨y,u,rfl,e⟩
   ·injection e with e1 _; rw[e1]
   ·exact nomatch e
  ·rcases Ji hb with⟨j,u,rfl,e⟩ | ⟨y,u,rfl,e⟩
   ·exact nomatch e
   ·injection e with e1 _; rw[e1]
 byValue:=fun k v h=>by
  rcases Ji h with⟨i,t,rfl,rfl⟩ | ⟨x,t,rfl,rfl⟩<;>rfl
 pyHash:=fun hv h=>by
  rcases Ji hv with⟨i,t,rfl,rfl⟩ | ⟨x,t,rfl,rfl⟩
  ·exact wpAny_pyHash_int h
  ·exact wpAny_pyHash_str h
 eqBool:=fun hu hv h=>by
  rcases Ji hu with⟨i,t,rfl,rfl⟩ | ⟨x,t,rfl,rfl⟩
  ·rcases Ji hv with⟨j,u,rfl,rfl⟩ | ⟨y,u,rfl,rfl⟩
   ·rw[Gug] at h; exact wpAny_eqBool_int h
   ·rw[Gui] at h; exact SeqAt.EqAt.int_str i t y u _ _ _ _ h
  ·rcases Ji hv with⟨j,u,rfl,rfl⟩ | ⟨y,u,rfl,rfl⟩
   ·rw[Guj] at h; exact SeqAt.EqAt.str_int x t j u _ _ _ _ h
   ·rw[Guh] at h; exact wpAny_eqBool_str h
 «strs»:=fun k x t v h=>by
  rcases Ji h with⟨i,u,rfl,e⟩ | ⟨y,u,rfl,e⟩
  ·exact nomatch e
  ·injection e with e1 _
   subst e1
   cases v<;>rfl
inductive V where
 | non | bl (b:Bool) | int (i:Int) | str (x:Str) | byt (b:Array UInt8) | flt (b:UInt64) | ref (a:BB) | ty (n:String)
 deriving DecidableEq
def Hf:V->Bz->Prop
 | .non,u=>u=Value.none
 | .bl b,u=>u=Value.bool b
 | .int i,u=>∃ t,u=Value.int i t
 | .str x,u=>∃ t,u=Value.str x t
 | .byt b,u=>∃ t,u=Value.bytes b t
 | .flt b,u=>∃ t,u=Value.float b t
 | .ref a,u=>u=Value.ref a
 | .ty n,u=>u=Value.type n
abbrev Vals:List V->List Bz->Prop:=Paired Hf
def Vals.length{xs:List V}{us:List Bz}(r:Vals xs us):xs.length=us.length:=Paired.length r
def Vals.get:∀ {xs:List V} {us:List Bz} {i:Nat} {x:V},Vals xs us->xs[i]?=some x->∃ u,us[i]?=some u/\Hf x u
 | _,_,_,_,.nil,e=>by simp at e
 | _,_,0,_,.cons r _,e=>by simp at e; subst e; exact⟨_,rfl,r⟩
 | _,_,i+1,x,.cons _ t,e=>by
  obtain⟨u,h1,h2⟩:=Vals.get (i:=i) (x:=x) t (by simpa using e)
  exact⟨u,by simpa using h1,h2⟩
def Vals.set{x:V}{u:Bz}(r:Hf x u):∀ {xs:List V} {us:List Bz} (i:Nat),Vals xs us->Vals (xs.set i x) (us.set i u)
 | _,_,_,.nil=>.nil
 | _,_,0,.cons _ t=>.cons r t
 | _,_,i+1,.cons q t=>.cons q (Vals.set r i t)
def Vals.append:∀ {xs ys:List V} {us ws:List Bz},Vals xs us->Vals ys ws->Vals (xs++ys) (us++ws)
 | _,_,_,_,.nil,s=>s
 | _,_,_,_,.cons r t,s=>.cons r (Vals.append t s)
def Vals.take:∀ {xs:List V} {us:List Bz} (n:Nat),Vals xs us->Vals (xs.take n) (us.take n)
 | _,_,0,_=>.nil
 | _,_,_+1,.nil=>.nil
 | _,_,n+1,.cons r t=>.cons r (Vals.take n t)
def Vals.drop:∀ {xs:List V} {us:List Bz} (n:Nat),Vals xs us->Vals (xs.drop n) (us.drop n)
 | _,_,0,r=>r
 | _,_,_+1,.nil=>.nil
 | _,_,n+1,.cons _ t=>Vals.drop n t
def Gpy:BC V->BC Bz->Prop
 | some v,some u=>Hf v u
 | none,none=>True
 | _,_=>False
def KV{κ:Type}:List (κ×V)->List (κ×Bz)->Prop:=Paired fun(p:κ×V) (q:κ×Bz)=>p.1=q.1/\Hf p.2 q.2
noncomputable def kV:Key->V
 | .inl i=>.int i
 | .inr x=>.str x
inductive NK where
 | i (n:Int) | t (l:List NK)
mutual
def pk:NK->PyData
 | .i n=>.int n
 | .t l=>.tuple (pks l)
def pks:List NK->List PyData
 | []=>[]
 | k::r=>pk k::pks r
end
mutual
theorem Zk:∀ (x y:NK),PyData.eqv (pk x) (pk y)=true↔x=y
 | .i n,.i m=>by simp[pk,PyData.eqv]
 | .i n,.t m=>by simp[pk,PyData.eqv]
 | .t n,.i m=>by simp[pk,PyData.eqv]
 | .t l,.t m=>by simp only[pk,PyData.eqv,pks_eqv l m,NK.t.injEq]
theorem pks_eqv:∀ (x y:List NK),PyData.eqvAll (pks x) (pks y)=true↔x=y
 | [],[]=>by simp[pks,PyData.eqvAll]
 | [],_::_=>by simp[pks,PyData.eqvAll]
 | _::_,[]=>by simp[pks,PyData.eqvAll]
 | a::r,b::q=>by simp only[pks,PyData.eqvAll,Aq,Zk a b,pks_eqv r q,List.cons.injEq]
end
instance:DecidableEq NK:=fun x y=>if h:PyData.eqv (pk x) (pk y)=true then isTrue ((Zk x y).mp h) else isFalse fun e=>h ((Zk x y).mpr e)
def Guk(x y:NK):PyData.eqv (pk x) (pk y)=decide (x=y):=by
 by_cases h:x=y
 ·rw[decide_eq_true h,(Zk x y).mpr h]
 ·rw[decide_eq_false h]
  cases e:PyData.eqv (pk x) (pk y) with
  | false=>rfl
  | true=>exact absurd ((Zk x y).mp e) h
def Gul{x y:NK}(h:pk x=pk y):x=y:=(Zk x y).mp (by rw[h]; exact(Zk y y).mpr rfl)
mutual
theorem Ghq:∀ (x:NK),(pk x).canLay0=true
 | .i n=>by simp[pk,PyData.canLay0]
 | .t l=>by simp[pk,PyData.canLay0,pks_can l]
theorem pks_can:∀ (x:List NK),PyData.canLayAll0 (pks x)=true
 | []=>by simp[pks,PyData.canLayAll0]
 | a::r=>by simp[pks,PyData.canLayAll0,Ghq a,pks_can r]
end
mutual
def nkh:NK->Int
 | .i n=>hashInt n
 | .t l=>reduceHash (Builtin.Tuple.tupleHashOf (nkhs l))
def nkhs:List NK->List Int
 | []=>[]
 | k::r=>nkh k::nkhs r
end
mutual
def nkd:NK->Nat
 | .i _=>1
 | .t l=>nkds l+1
def nkds:List NK->Nat
 | []=>0
 | k::r=>nkd k+nkds r
end
def Gcg:∀ (l m:List NK),nkhs (l++m)=nkhs l++nkhs m
 | [],m=>by simp[nkhs]
 | a::r,m=>by simp[nkhs,Gcg r m]
def Gch:∀ (l m:List NK),nkds (l++m)=nkds l+nkds m
 | [],m=>by simp[nkds]
 | a::r,m=>by simp[nkds,Gch r m]; omega
def Ga2:∀ {l:List NK} {k:NK},k∈l->(pk k).depth<=PyData.depthAll (pks l)
 | [],k,h=>by simp at h
 | a::r,k,h=>by
  rcases Ae.mp h with rfl | h
  ·simp only[pks,PyData.depthAll]; omega
  ·have:=Ga2 h
   simp only[pks,PyData.depthAll]; omega
def Giz(k:NK):Prop:=∀ (prog:BD) (w:World) (A:Around) (E:Bz->BA->Prop) (s:BA) (v:Bz) (as:List BB) (Q:Int->BA->Prop),
 Reads s.heap v (pk k) as->A.units+(pk k).depth<cLine->Q (nkh k) { s with toks:=s.toks+nkd k }->wpAny (model prog w) A (pyHash v) Q E s
def Gev(k:NK):Prop:=∀ (prog:BD) (w:World) (A:Around) (E:Bz->BA->Prop) (s:BA) (v:Bz) (as:List BB) (n:Nat) (Q:Bool->BA->Prop),
 Reads s.heap v (pk k) as->(pk k).depth<=n->Q true s->wpAny (model prog w) A (eqIsQuiet n v) Q E s
def Glx{l:List NK}(ih:∀ k∈l,Giz k):Giz (.t l):=by
 intro prog w A E s v as Q r hu h
 simp only[pk] at r
 cases r with
 | @tuple a o vs n xs as ho hc hd rs=>
  have hT:s.TypeIs (.ref a) "tuple":=⟨o,ho,hc⟩
  have hdep:(pk (.t l)).depth=PyData.depthAll (pks l)+1:=by simp[pk,PyData.depth]
  rw[hdep] at hu
  unfold pyHash
  unfold pyHashByItsType
  refine wpAny_bind (wpAny_cRoomFor_or (.inr (by omega)) ?_)
  refine wpAny_bind (wpAny_specialOf hT F.slot_tuple_hash.lookup ?_)
  rw[if_neg (by rw[beq_builtin_none]; exact An)]
  refine wpAny_bind (wpAny_specialOf hT F.slot_tuple_hash.lookup ?_)
  show wpAny _ _ (callSpecialIfBoundUnlessNone? (.ref a) "__hash__" _ >>= _) Q E s
  refine wpAny_bind (wpAny_callSpecialIfBoundUnlessNone?_slot hT F.slot_tuple_hash (wpAny_call_entry F.slot_tuple_hash hT F.entry_tuple_hash ?_ (F.args_tuple_hash_1 _)))
  show wpAny _ _ (Builtin.Tuple.tupleItemsOf (.ref a) >>= _) _ _ s
  refine wpAny_bind (wpAny_tupleItemsOf ho hd ?_)
  refine wpAny_bind ?_
  rw[<- Array.forIn_toList]
  refine wpAny_forIn_list _
   (fun rest (b:Array Int) s'=>∃ done left cs,l=done++left/\ReadsAll s.heap rest (pks left) cs/\b.toList=nkhs done/\s'={ s with toks:=s.toks+nkds done })
   _ ?_ ?_ _ _ ⟨[],l,as,rfl,rs,rfl,rfl⟩
  ·rintro x rest b s' ⟨done,left,cs,el,hl,hb,rfl⟩
   cases left with
   | nil=>simp only[pks] at hl; cases hl
   | cons k left=>
    simp only[pks] at hl
    cases hl with
    | @cons _ _ _ _ c1 c2 h1 h2=>
     have hk:k∈l:=by rw[el]; simp
     have hdk:=Ga2 hk
     refine wpAny_bind (ih k hk prog w _ _ _ x c1 _ h1 (by first | omega | (show A.units+1+_<cLine; omega)) ?_)
     first
      | exact wpAny_pure ⟨done++[k],left,c2,by simp[el],h2,by simp[hb,Gcg,nkhs],by simp[Gch,nkds,Bg]⟩
      | exact wpAny_bind (wpAny_pure (wpAny_pure ⟨done++[k],left,c2,by simp[el],h2,by simp[hb,Gcg,nkhs],by simp[Gch,nkds,Bg]⟩))
  ·rintro b s' ⟨done,left,cs,el,hl,hb,rfl⟩
   cases left with
   | cons k left=>simp only[pks] at hl; cases hl
   | nil=>
    rw[AU] at el
    subst el
    show wpAny _ _ (retInt (Builtin.Tuple.tupleHashOf b.toList)) _ _ _
    rw[hb]
    refine wpAny_ret_mkInt ?_
    show wpAny _ _ (if(decide (-(2:Int)^63<=Builtin.Tuple.tupleHashOf (nkhs l))&&decide (Builtin.Tuple.tupleHashOf (nkhs l)<2^63))=true then _ else _) Q E _
    unfold nkh reduceHash at h
    simp only[nkd] at h
    by_cases hr:(decide (-(2:Int)^63<=Builtin.Tuple.tupleHashOf (nkhs l))&&decide (Builtin.Tuple.tupleHashOf (nkhs l)<2^63))=true
    ·rw[if_pos hr]
     rw[if_pos hr] at h
     exact wpAny_pure (by simpa[Bg] using h)
    ·rw[if_neg hr]
     rw[if_neg hr] at h
     exact wpAny_bind (wpAny_rule (wpAny_pure (by simpa[Bg] using h)))
mutual
theorem hash_ok:∀ k:NK,Giz k
 | .i n=>by
  intro prog w A E s v as Q r hu h
  simp only[pk] at r
  cases r
  exact wpAny_pyHash_int h
 | .t l=>Glx (hash_all l)
theorem hash_all:∀ (l:List NK) (k:NK),k∈l->Giz k
 | [],k,h=>by simp at h
 | a::r,k,h=>(Ae.mp h).elim (fun e=>e▸hash_ok a) (fun m=>hash_all r k m)
end
def Gkz{l:List NK}(ih:∀ k∈l,Gev k):Gev (.t l):=by
 intro prog w A E s v as n Q r hn h
 simp only[pk] at r
 cases r with
 | @tuple a o vs n' xs as ho hc hd rs=>
  have hT:s.TypeIs (.ref a) "tuple":=⟨o,ho,hc⟩
  have hdep:(pk (.t l)).depth=PyData.depthAll (pks l)+1:=by simp[pk,PyData.depth]
  rw[hdep] at hn
  cases n with
  | zero=>omega
  | succ n=>
   unfold eqIsQuiet
   refine wpAny_bind (wpAny_specialOf hT F.slot_tuple_eq.lookup ?_)
   show wpAny _ _ (isInstance (.ref a) (.type "tuple") >>= _) _ _ s
   refine wpAny_bind (wpAny_isInstance hT isSubtype_tuple_tuple ?_)
   simp only[Bool.not_true,Ay,if_false]
   refine wpAny_bind (wpAny_seqItems ho hd ?_)
   refine wpAny_bind ?_
   show wpAny _ _ (forIn vs _ _) _ _ s
   rw[<- Array.forIn_toList]
   refine wpAny_forIn_list _ (fun rest r s'=>r.1=none/\s'=s/\∃ left cs,(∀ k∈left,k∈l)/\ReadsAll s.heap rest (pks left) cs) _ ?_ ?_ _ _ ⟨rfl,rfl,l,as,fun _ h=>h,rs⟩
   ·rintro x rest r s' ⟨hr,rfl,left,cs,hm,hl⟩
    cases left with
    | nil=>simp only[pks] at hl; cases hl
    | cons k left=>
     simp only[pks] at hl
     cases hl with
     | @cons _ _ _ _ c1 c2 h1 h2=>
      have hk:=hm k Aw
      have hdk:=Ga2 hk
      refine wpAny_bind (ih k hk prog w _ _ _ x c1 n _ h1 (by omega) ?_)
      simp only[Bool.not_true,Ay,if_false]
      exact wpAny_pure ⟨rfl,rfl,left,c2,fun q hq=>hm q (Au _ hq),h2⟩
   ·rintro⟨r1,r2⟩ s' ⟨hr,rfl,_⟩
    simp only at hr
    subst hr
    exact wpAny_pure h
mutual
theorem quiet_ok:∀ k:NK,Gev k
 | .i m=>by
  intro prog w A E s v as n Q r hn h
  simp only[pk] at r
  cases r
  rw[eqIsQuiet_byValue n (by rfl)]
  exact wpAny_pure h
 | .t l=>Gkz (quiet_all l)
theorem quiet_all:∀ (l:List NK) (k:NK),k∈l->Gev k
 | [],k,h=>by simp at h
 | a::r,k,h=>(Ae.mp h).elim (fun e=>e▸quiet_ok a) (fun m=>quiet_all r k m)
end
mutual
theorem Gge:∀ (k:NK) {h h':Heap} {v:Bz} {as:List BB} {d:BB} {o:Obj} {es:Array DictEntry} {ep:Nat},Reads h v (pk k) as->h.get? d=some o->o.data=.dict es ep->Heap.SameBut d h h'->Reads h' v (pk k) as
 | .i n,h,h',v,as,d,o,es,ep,r,_,_,_=>by
  simp only[pk] at r ⊢
  cases r
  exact .int _ _
 | .t l,h,h',v,as,d,o,es,ep,r,ho,hd,hs=>by
  simp only[pk] at r ⊢
  cases r with
  | @tuple a o' vs n' xs as ho' hc hd' rs=>
   have hne:a≠d:=by
    rintro rfl
    obtain rfl:o'=o:=Ac (ho'.symm.trans ho)
    rw[hd] at hd'
    exact nomatch hd'
   exact .tuple ((hs.2 a hne).trans ho') hc hd' (pks_keeps l rs ho hd hs)
theorem pks_keeps:∀ (l:List NK) {h h':Heap} {v:List Bz} {as:List BB} {d:BB} {o:Obj} {es:Array DictEntry} {ep:Nat},ReadsAll h v (pks l) as->h.get? d=some o->o.data=.dict es ep->Heap.SameBut d h h'->ReadsAll h' v (pks l) as
 | [],h,h',v,as,d,o,es,ep,r,_,_,_=>by
  simp only[pks] at r ⊢
  cases r
  exact .nil
 | k::l,h,h',v,as,d,o,es,ep,r,ho,hd,hs=>by
  simp only[pks] at r ⊢
  cases r with
  | cons r1 r2=>exact .cons (Gge k r1 ho hd hs) (pks_keeps l r2 ho hd hs)
end
def Hb0(h:Heap)(k:NK)(a:BB):Prop:=(∃ as,Reads h (.ref a) (pk k) as)/\(pk k).depth<=8
noncomputable def nestKind (prog:BD) (w:World):HeapKind prog w NK where
 is:=Hb0
 hash:=nkh
 draws:=nkd
 room:=fun A=>A.units+10<cLine
 inj:=fun⟨⟨_,hx⟩,_⟩ ⟨⟨_,hy⟩,_⟩=>Gul (hx.unique _ _ hy).1
 keeps:=fun⟨⟨as,x⟩,q⟩ ho hd hs=>⟨⟨as,Gge _ x ho hd hs⟩,q⟩
 pyHash:=fun hu ⟨⟨as,x⟩,q⟩ h=>hash_ok _ _ _ _ _ _ _ as _ x (by omega) h
 eqBool:=fun hu ⟨⟨as,x⟩,q⟩ ⟨⟨bs,y⟩,q'⟩ h=>SeqAt.eqAt_reads _ _ _ _ _ _ as bs x y (Ghq _) (Ghq _) (by omega) _ _ _ _ (by rw[Guk]; exact h)
 quiet:=fun⟨⟨as,x⟩,q⟩ h=>quiet_ok _ _ _ _ _ _ _ as 8 _ x q h
inductive HO where
 | lst (xs:List V)
 | tup (xs:List V)
 | dK (kvs:List (Key×V)) | dT (kvs:List (NK×BB×V))
 | set (S:Int->Bool) (n:Nat)
 | ins (C dx:BB) (fs:List (Str×V))
 | own (x:BB)
 | xd (fs:List (Str×V))
 | met (f x:BB)
 | rng (lo hi:Int)
 | frz (o:Obj) (u:HO)
 | tbl (ps:Array Bz)
 | ext (φ:Heap->Prop)
abbrev Hp:=BB->BC HO
noncomputable def upd(H:Hp)(a:BB)(o:HO):Hp:=fun b=>if b=a then some o else H b
def Hj{H:Hp}{a:BB}{o:HO}:upd H a o a=some o:=by unfold upd; rw[if_pos rfl]
def Gn{H:Hp}{a b:BB}{o:HO}(h:b≠a):upd H a o b=H b:=by unfold upd; rw[if_neg h]
def Xw{H:Hp}{a b:BB}{o u:HO}(h:H a=some o)(h':H b=some u)(d:o≠u):a≠b:=by
 intro e; subst e; rw[h] at h'; exact d (Ac h')
def Hd{H:Hp}{a b:BB}{o:HO}(h:H a=some o)(h':H b=none):a≠b:=by
 intro e; subst e; rw[h] at h'; cases h'
section
variable(P:BD)(w:World)
def Kj(H:Hp)(h:Heap)(a:BB):HO->Prop
 | .lst xs=>xs.length<=sizeLine/\∃ (its:List Bz) (n:Nat),Vals xs its/\h.get? a=some { cls:=.type "list",data:=.seq its.toArray n }
 | .tup xs=>xs.length<=sizeLine/\∃ its:List Bz,Vals xs its/\IsTup h a its.toArray
 | .dK kvs=>kvs.length<=sizeLine/\(a==sysModules)=false/\∃ vs,KV kvs vs/\h.DictOf (Giy P w) a vs
 | .dT kvs=>kvs.length<=sizeLine/\(a==sysModules)=false/\∃ xs:List (NK×BB×Bz),
   Paired (fun(p:NK×BB×V) (q:NK×BB×Bz)=>p.1=q.1/\p.2.1=q.2.1/\Hf p.2.2 q.2.2) kvs xs∧
   ∃ o es ep,h.get? a=some o/\o.ExactDict/\o.data=.dict es ep/\es.toList=xs.map (entryOfKey (nestKind P w))/\(xs.map (·.1)).Nodup
 | .set S n=>h.SetOf (intKind P w) a S n
 | .ins C dx fs=>H dx=some (.own a)/\fs.length<=1000/\dx≠a/\h.get? a=some (PySem.W.instObj C dx)∧
   ∃ mA,h.Ns1 dx mA/\(∀ f,Gpy (fs.lookup f) (mA f))/\PySem.Within mA (fs.map (·.1))
 | .own _=>∃ o,h.get? a=some o
 | .xd fs=>∃ mA,h.Ns1 a mA/\∀ f,Gpy (fs.lookup f) (mA f)
 | .rng lo hi=>∃ t u v,h.get? a=some { cls:=.type "range",data:=.fields #[.int lo t,.int hi u,.int 1 v] }
 | .frz o u=>h.get? a=some o/\Kj H h a u
 | .tbl ps=>h.get? a=some { cls:=.none,data:=.fields ps }
 | .met f x=>h.get? a=some (PySem.W.methodObj (.ref f) (.ref x))
 | .ext φ=>φ h/\(∃ o,h.get? a=some o)/\∀ h1 h2:Heap,φ h1->(∀ o,h1.get? a=some o->h2.get? a=some o)->φ h2
def HOk(H:Hp)(h:Heap):Prop:=∀ a o,H a=some o->Kj P w H h a o
end
section
variable{P:BD}{w:World}{H H':Hp}{h h':Heap}{a:BB}{o:HO}
def Kj.lt(x:Kj P w H h a o):a<h.objs.size:=by
 cases o with
 | lst xs=>obtain⟨_,_,_,_,e⟩:=x; exact Ag e
 | tup xs=>obtain⟨_,_,_,p⟩:=x; exact p.lt
 | dK kvs=>obtain⟨_,_,_,_,o,_,_,e,_⟩:=x; exact Ag e
 | dT kvs=>obtain⟨_,_,_,_,o,_,_,e,_⟩:=x; exact Ag e
 | set S n=>obtain⟨o,_,_,_,e,_⟩:=x; exact Ag e
 | ins C dx fs=>obtain⟨_,_,_,e,_⟩:=x; exact Ag e
 | own y=>obtain⟨_,e⟩:=x; exact Ag e
 | xd fs=>obtain⟨_,⟨_,_,_,e,_⟩,_⟩:=x; exact Ag e
 | rng lo hi=>obtain⟨_,_,_,e⟩:=x; exact Ag e
 | frz ob u=>obtain⟨e,_⟩:=x; exact Ag e
 | tbl ps=>exact Ag (show h.get? a=some _ from x)
 | met f y=>exact Ag (show h.get? a=some _ from x)
 | ext φ=>obtain⟨_,⟨_,e⟩,_⟩:=x; exact Ag e
def Paired.mapP{α β:Type}{F G:α->β->Prop}:∀ {l₁:List α} {l₂:List β},Paired F l₁ l₂->(∀ a b,F a b->G a b)->Paired G l₁ l₂
 | _,_,.nil,_=>.nil
 | _,_,.cons r t,f=>.cons (f _ _ r) (Paired.mapP t f)
def Kj.stay(x:Kj P w H h a o)(k:∀ b u,(b=a\/H b=some (.own a))->h.get? b=some u->h'.get? b=some u)
  (ho:∀ b,H b=some (.own a)->H' b=some (.own a)) (ht:∀ b xs,H b=some (.tup xs)->H' b=some (.tup xs)):Kj P w H' h' a o:=by
 induction o with
 | lst xs=>obtain⟨z,its,n,r,e⟩:=x; exact⟨z,its,n,r,k _ _ (.inl rfl) e⟩
 | tup xs=>obtain⟨z,its,r,ob,e,c⟩:=x; exact⟨z,its,r,ob,k _ _ (.inl rfl) e,c⟩
 | dK kvs=>obtain⟨z,y,vs,r,ob,es,ep,e,c⟩:=x; exact⟨z,y,vs,r,ob,es,ep,k _ _ (.inl rfl) e,c⟩
 | dT kvs=>
  obtain⟨z,y,xs,r,ob,es,ep,e,c⟩:=x
  exact⟨z,y,xs,r,ob,es,ep,k _ _ (.inl rfl) e,c⟩
 | set S n=>obtain⟨ob,es,ep,t,e,c⟩:=x; exact⟨ob,es,ep,t,k _ _ (.inl rfl) e,c⟩
 | ins C dx fs=>
  obtain⟨d,z,ne,e,mA,⟨od,es,ep,e2,c⟩,r⟩:=x
  exact⟨ho _ d,z,ne,k _ _ (.inl rfl) e,mA,⟨od,es,ep,k _ _ (.inr d) e2,c⟩,r⟩
 | own y=>obtain⟨ob,e⟩:=x; exact⟨ob,k _ _ (.inl rfl) e⟩
 | xd fs=>obtain⟨mA,⟨od,es,ep,e,c⟩,r⟩:=x; exact⟨mA,⟨od,es,ep,k _ _ (.inl rfl) e,c⟩,r⟩
 | rng lo hi=>obtain⟨t,u,v,e⟩:=x; exact⟨t,u,v,k _ _ (.inl rfl) e⟩
 | frz ob u ih=>obtain⟨e,q⟩:=x; exact⟨k _ _ (.inl rfl) e,ih q⟩
 | tbl ps=>
  have e:h.get? a=some { cls:=.none,data:=.fields ps }:=x
  show h'.get? a=some { cls:=.none,data:=.fields ps }
  exact k a _ (.inl rfl) e
 | met f y=>
  have e:h.get? a=some (PySem.W.methodObj (.ref f) (.ref y)):=x
  show h'.get? a=some (PySem.W.methodObj (.ref f) (.ref y))
  exact k a _ (.inl rfl) e
 | ext φ=>obtain⟨p,⟨o,e⟩,st⟩:=x; exact⟨st _ _ p fun o q=>k _ _ (.inl rfl) q,⟨o,k _ _ (.inl rfl) e⟩,st⟩
def HOk.lt(x:HOk P w H h)(e:H a=some o):a<h.objs.size:=(x a o e).lt
def HOk.fresh(x:HOk P w H h)(e:h.objs.size<=a):H a=none:=by
 cases q:H a with
 | none=>rfl
 | some u=>exact absurd (Ai (x.lt q) e) (AA _)
def HOk.kept(x:HOk P w H h)(k:∀ b u,h.get? b=some u->h'.get? b=some u):HOk P w H h':=fun a o e=>
 (x a o e).stay (fun b u _ q=>k b u q) (fun _ q=>q) fun _ _ q=>q
def HOk.laid(x:HOk P w H h)(k:∀ b u,h.get? b=some u->h'.get? b=some u)(hp:h.objs.size<=a)(new:Kj P w (upd H a o) h' a o):HOk P w (upd H a o) h':=fun b u e=>by
 have hn:=x.fresh hp
 by_cases hb:b=a
 ·subst hb; rw[Hj] at e; cases e; exact new
 ·rw[Gn hb] at e
  exact(x b u e).stay (fun c v _ q=>k c v q) (fun c q=>by rw[Gn (Hd q hn)]; exact q) fun c xs q=>by rw[Gn (Hd q hn)]; exact q
end
def Rd(H:Hp)(a:BB)(u:HO):Prop:=H a=some u\/∃ o,H a=some (.frz o u)
def Rd.ok{P:BD}{w:World}{H:Hp}{h:Heap}{a:BB}{u:HO}(r:Rd H a u)(x:HOk P w H h):Kj P w H h a u:=by
 rcases r with r | ⟨o,r⟩
 ·exact x a u r
 ·obtain⟨_,q⟩:=x a _ r
  exact q
def Mut:BC HO->Prop
 | some (.lst _)=>True
 | some (.dK _)=>True
 | some (.dT _)=>True
 | some (.set _ _)=>True
 | some (.ins _ _ _)=>True
 | some (.ext _)=>True
 | _=>False
def HOk.write{P:BD}{w:World}{H:Hp}{h h':Heap}{x e:BB}{o':HO}(ok:HOk P w H h)(mu:Mut (H x))(he:e=x\/H e=some (.own x))(k:∀ b u,b≠e->h.get? b=some u->h'.get? b=some u)(heo:∃ u,h'.get? e=some u)(new:Kj P w (upd H x o') h' x o'):HOk P w (upd H x o') h':=fun b u q=>by
 have nown:∀ c y,H c=some (.own y)->c≠x:=fun c y r z=>by subst z; rw[r] at mu; exact mu
 have ntup:∀ c xs,H c=some (.tup xs)->c≠x:=fun c xs r z=>by subst z; rw[r] at mu; exact mu
 by_cases hb:b=x
 ·subst hb; rw[Hj] at q; cases q; exact new
 ·rw[Gn hb] at q
  by_cases hbe:b=e
  ·have q':H b=some (.own x):=by
    rcases he with z | z
    ·exact absurd (hbe.trans z) hb
    ·rw[hbe]; exact z
   rw[q] at q'; cases q'
   obtain⟨v,hv⟩:=heo
   exact⟨v,by rw[hbe]; exact hv⟩
  ·refine(ok b u q).stay (fun c v hc r=>k c v ?_ r) (fun c r=>by rw[Gn (nown c b r)]; exact r) fun c xs r=>by rw[Gn (ntup c xs r)]; exact r
   rcases hc with rfl | hc
   ·exact hbe
   ·rintro rfl
    rcases he with z | z
    ·exact nown c b hc z
    ·rw[hc] at z; cases z; exact hb rfl
structure Un(fs ex:List BB)(H H':Hp)(h h':Heap):Prop where
 keep:∀ b o,h.get? b=some o->H b=none->b∉fs->b∉ex->h'.get? b=some o
 slot:∀ b o,h.get? b=some o->H b=none->b∈fs->b∉ex->∃ sl,h'.get? b=some { o with slots:=sl }
 free:∀ b o,h.get? b=some o->H b=none->b∉ex->H' b=none
 there:∀ b o,h.get? b=some o->b∉ex->∃ o',h'.get? b=some o'
 tups:∀ b xs,H b=some (.tup xs)->H' b=some (.tup xs)
 frzs:∀ b o u,H b=some (.frz o u)->H' b=some (.frz o u)
 tbls:∀ b ps,H b=some (.tbl ps)->∃ more,H' b=some (.tbl (ps++more))
section
variable{fs fs' ex ex':List BB}{H H1 H2:Hp}{h h1 h2 h':Heap}{a x e:BB}{o:HO}
noncomputable def Un.any(u:Un fs ex H H1 h h1){b:BB}{ob:Obj}(q:h.get? b=some ob)(n:H b=none)(hx:b∉ex):∃ sl,h1.get? b=some { ob with slots:=sl }:=by
 by_cases hb:b∈fs
 ·exact u.slot b ob q n hb hx
 ·exact⟨ob.slots,u.keep b ob q n hb hx⟩
def Un.kept(k:∀ b u,h.get? b=some u->h'.get? b=some u):Un fs ex H H h h':=
 ⟨fun b ob q _ _ _=>k b ob q,fun b ob q _ _ _=>⟨ob.slots,k b ob q⟩,fun _ _ _ n _=>n,fun b ob q _=>⟨ob,k b ob q⟩,fun _ _ q=>q,fun _ _ _ q=>q,fun _ ps q=>⟨#[],by rw[q]; simp⟩⟩
def Un.refl:Un fs ex H H h h:=Un.kept fun _ _ q=>q
def Un.laid(k:∀ b u,h.get? b=some u->h'.get? b=some u)(hp:h.objs.size<=a)(hn:H a=none):Un fs ex H (upd H a o) h h' where
 keep:=fun b u q _ _ _=>k b u q
 slot:=fun b u q _ _ _=>⟨u.slots,k b u q⟩
 free:=fun b u q n _=>by rw[Gn (Ax (Ai (Ag q) hp))]; exact n
 there:=fun b u q _=>⟨u,k b u q⟩
 tups:=fun b xs q=>by rw[Gn (Hd q hn)]; exact q
 frzs:=fun b u xs q=>by rw[Gn (Hd q hn)]; exact q
 tbls:=fun b ps q=>⟨#[],by rw[Gn (Hd q hn),q]; simp⟩
def Un.write(mu:Mut (H x))(he:e=x\/H e=some (.own x))(k:∀ b u,b≠e->h.get? b=some u->h'.get? b=some u)(heo:∃ u,h'.get? e=some u):Un fs ex H (upd H x o) h h':=by
 have hx:∀ b,H b=none->b≠x:=fun b n z=>by subst z; rw[n] at mu; exact mu
 have hb:∀ b,H b=none->b≠e:=fun b n z=>by
  subst z
  rcases he with r | r
  ·exact hx b n r
  ·rw[n] at r; cases r
 have hm:∀ b u,H b=some u->¬ Mut (some u)->b≠x:=fun b u q nm z=>by subst z; rw[q] at mu; exact nm mu
 refine⟨fun b u q n _ _=>k b u (hb b n) q,fun b u q n _ _=>⟨u.slots,k b u (hb b n) q⟩,fun b u q n _=>by rw[Gn (hx b n)]; exact n,fun b u q _=>?_,
  fun b xs q=>by rw[Gn (hm b _ q fun z=>z)]; exact q,fun b u xs q=>by rw[Gn (hm b _ q fun z=>z)]; exact q,fun b ps q=>⟨#[],by rw[Gn (hm b _ q fun z=>z),q]; simp⟩⟩
 by_cases hbe:b=e
 ·subst hbe; exact heo
 ·exact⟨u,k b u hbe q⟩
end
noncomputable def trk(h:Heap)(H:Hp):List BB:=(List.range h.objs.size).filter fun a=>(H a).isSome
def Gew(h:Heap)(H:Hp):Heap:=PySem.W.hideAll h (trk h H)
def Gk0(h:Heap)(H:Hp):(Gew h H).objs.size=h.objs.size:=PySem.W.hideAll_size _ _
def Gly{h:Heap}{H:Hp}{b:BB}{o:Obj}(e:h.get? b=some o)(n:H b=none):(Gew h H).get? b=some o:=
 PySem.W.hideAll_get _ e fun hm=>by
  have q:(H b).isSome=true:=(Bh.mp hm).2
  rw[n] at q; simp at q
def of_hidT{h:Heap}{H:Hp}{b:BB}{o:Obj}(e:(Gew h H).get? b=some o):h.get? b=some o/\H b=none:=by
 have e':h.get? b=some o:=PySem.W.of_hideAll (trk h H) e
 refine⟨e',?_⟩
 cases q:H b with
 | none=>rfl
 | some x=>
  have hm:b∈trk h H:=Bh.mpr ⟨Bi.mpr (Ag e'),by simp[q]⟩
  have z:(Gew h H).get? b=none:=PySem.W.hideAll_none (trk h H) hm
  rw[z] at e; cases e
noncomputable def Gpz(g h:Heap)(L:BB):List (BB×Obj):=(List.range h.objs.size).filterMap fun a=>if a=L\/(g.get? a).isSome=true then none else(h.get? a).map fun o=>(a,o)
def rest(g h:Heap)(L d:BB):List (BB×Obj):=(Gpz g h L).filter fun p=>decide (p.1≠d)
structure Mod(K:By)(mg:Str->BC Bz)(base:Heap):Prop where
 kin:K.In base
 glob:base.Ns mainGlobals mg
 blt:∃ mb,base.Ns builtinsNs mb/\∀ x:Str,x≠"__name__"->mb x=bootBuiltins x
 nolimit:base.NoLimit
structure Cx where
 prog:BD
 w:World
 K:By
 mg:Str->BC Bz
 base:Heap
 A:Around
 N:List Str
 s₀:BA
 H₀:Hp
 env:Env
 outer:List Env
 stack:List Env
 ex:List BB
 fn:Str->Bool
 calm:Bool
 pn:List (BB×Obj)
 xe:Bz->BA->Prop
noncomputable def frs(l:List Env):List BB:=l.filterMap (·.frame)
abbrev Cx.fs(X:Cx):List BB:=frs X.outer
def Vis(sc:Scope)(x:Str):Prop:=sc.names.lookup x=some .local\/sc.names.lookup x=some .cell\/sc.names.lookup x=some .free
def Loc(sc:Scope)(x:Str):Prop:=sc.names.lookup x=some .local\/sc.names.lookup x=some .cell
def Look(env:Env)(h:Heap)(m:Str->BC Bz)(x:Str)(u:Bz):Prop:=
 (env.kindOf x=some .local/\m x=some u)\/((env.kindOf x=some .cell\/env.kindOf x=some .free)/\∃ c,env.cells.lookup x=some c/\h.IsCell c (some u))
structure Cx.Ok(X:Cx):Prop where
 mod:Mod X.K X.mg X.base
 kind:X.env.scope.kind=.function
 glob:X.env.globals=mainGlobals
 blt:X.env.builtins=builtinsNs
 above:X.s₀.heap.objs.size<=X.env.locals
 inj:∀ x y c,X.env.cells.lookup x=some c->X.env.cells.lookup y=some c->x=y
 has:∀ x,(X.env.kindOf x=some .cell\/X.env.kindOf x=some .free)->∃ c,X.env.cells.lookup x=some c
 cab:∀ x c,X.fn x=true->X.env.cells.lookup x=some c->X.s₀.heap.objs.size<=c
 hd:X.calm=true->X.A.handled=none
 frames:X.A.frames=some X.stack
 stk:X.stack=X.outer\/(X.stack=X.env::X.outer/\X.env.frame=some X.env.locals)
 exf:∀ b∈X.ex,b≠X.env.locals/\∀ x c,X.env.cells.lookup x=some c->c≠b
 bs:∀ b o,X.base.get? b=some o->X.s₀.heap.get? b=some o/\X.H₀ b=none
 bsz:X.base.objs.size<=X.s₀.heap.objs.size
 noex:∀ b o,X.base.get? b=some o->b∉X.ex
 exfs:∀ b∈X.ex,b∉X.fs
 funs:X.s₀.heap.FunFrames X.base X.outer
 frf:∀ b∈X.fs,X.H₀ b=none
structure Inv(X:Cx)(pins:List (BB×Obj))(σ:List (BC V))(H:Hp)(s:BA):Prop where
 ok:X.Ok
 os:s.os=X.s₀.os
 bare:AllBare s.gens
 base:Un X.fs X.ex X.H₀ H X.s₀.heap s.heap
 loc:∃ m,s.heap.Ns X.env.locals m/\∀ (i:Nat) (x:Str) (v:V),X.N[i]?=some x->σ[i]?=some (some v)->Vis X.env.scope x->∃ u,Hf v u/\Look X.env s.heap m x u
 cell:∀ x c,X.env.cells.lookup x=some c->∃ v,s.heap.IsCell c v
 free:H X.env.locals=none
 freeC:∀ x c,X.env.cells.lookup x=some c->H c=none
 pin:∀ p∈X.pn++pins,s.heap.get? p.1=some p.2/\H p.1=none/\p.1≠X.env.locals/\p.1∉X.fs/\∀ v,p.2.data≠.cell v
 hok:HOk X.prog X.w H s.heap
 len:σ.length=X.N.length
section
variable{X:Cx}{pins:List (BB×Obj)}{σ:List (BC V)}{H H':Hp}{s:BA}{h':Heap}
def Cx.Ok.nofr(ok:X.Ok){b:BB}{o:Obj}(e:X.base.get? b=some o):b∉X.fs:=fun hb=>by
 have:=(ok.funs.mem hb).1
 rw[e] at this; cases this
def Inv.bs(I:Inv X pins σ H s):∀ b o,X.base.get? b=some o->s.heap.get? b=some o/\H b=none:=fun b o e=>
 ⟨I.base.keep b o (I.ok.bs b o e).1 (I.ok.bs b o e).2 (I.ok.nofr e) (I.ok.noex b o e),I.base.free b o (I.ok.bs b o e).1 (I.ok.bs b o e).2 (I.ok.noex b o e)⟩
def Inv.bk(I:Inv X pins σ H s):∀ b o,X.base.get? b=some o->s.heap.get? b=some o:=fun b o e=>(I.bs b o e).1
def Inv.mod(I:Inv X pins σ H s):Mod X.K X.mg X.base:=I.ok.mod
def Inv.kIn(I:Inv X pins σ H s):X.K.In s.heap:=I.ok.mod.kin.keeps I.bk
def Inv.lt(I:Inv X pins σ H s):X.env.locals<s.heap.objs.size:=let ⟨_,hn,_⟩:=I.loc; hn.lt
def Inv.sz(I:Inv X pins σ H s):X.s₀.heap.objs.size<=s.heap.objs.size:=Aj I.ok.above (Bj I.lt)
def Inv.nofs(I:Inv X pins σ H s){a:BB}(h:s.heap.objs.size<=a):a∉X.fs:=fun hb=>by
 obtain⟨_,o,ho,_⟩:=I.ok.funs.mem hb
 exact absurd (Ai (Ag ho) (Aj I.sz h)) (AA _)
def Inv.cne(I:Inv X pins σ H s):∀ x c,X.env.cells.lookup x=some c->c≠X.env.locals:=fun x c e z=>by
 obtain⟨v,o,ho,hd⟩:=I.cell x c e
 obtain⟨m,⟨o',es,ep,ho',hd',_⟩,_⟩:=I.loc
 rw[z,ho'] at ho; cases ho; rw[hd'] at hd; cases hd
def Inv.funs(I:Inv X pins σ H s):s.heap.FunFrames X.base X.outer:=by
 have all:∀ (l:List Env),(∀ b∈frs l,b∈X.fs)->X.s₀.heap.FunFrames X.base l->s.heap.FunFrames X.base l:=by
  intro l
  induction l with
  | nil=>intro _ _; trivial
  | cons env r ih=>
   intro hs hl
   obtain⟨hk,⟨L,o,hf,hn,ho,hd⟩,hr⟩:=hl
   have hL:L∈X.fs:=hs L (by unfold frs; rw[Bv,hf]; exact Aw)
   obtain⟨sl,e⟩:=I.base.slot L o ho (I.ok.frf L hL) hL fun z=>I.ok.exfs L z hL
   exact⟨hk,⟨L,_,hf,hn,e,hd⟩,ih (fun b hb=>hs b (by unfold frs; rw[Bv,hf]; exact Au _ hb)) hr⟩
 exact all X.outer (fun _ hb=>hb) I.ok.funs
def Inv.stack(I:Inv X pins σ H s):s.heap.FunFrames X.base X.stack:=by
 rcases I.ok.stk with e | ⟨e,hf⟩
 ·rw[e]; exact I.funs
 ·rw[e]
  obtain⟨m,hn,_⟩:=I.loc
  refine .cons (by rw[I.ok.kind]; decide) hf hn ?_ I.funs
  exact AV (Aj I.ok.bsz I.ok.above)
def Inv.stkSub(I:Inv X pins σ H s):∀ b∈frs X.stack,b∈X.env.locals::X.fs:=fun b hb=>by
 rcases I.ok.stk with e | ⟨e,hf⟩
 ·rw[e] at hb; exact Au _ hb
 ·rw[e] at hb
  unfold frs at hb
  rw[Bv,hf] at hb
  exact hb
def Inv.stkFree(I:Inv X pins σ H s):∀ b∈frs X.stack,H b=none:=fun b hb=>by
 rcases Ae.mp (I.stkSub b hb) with e | hb
 ·rw[e]; exact I.free
 ·obtain⟨_,o,ho,_⟩:=I.ok.funs.mem hb
  exact I.base.free b o ho (I.ok.frf b hb) fun z=>I.ok.exfs b z hb
def Inv.step{g':Array GenState}{t':Nat}{d':Drawn}{ch:List BB}(I:Inv X pins σ H s)
  (hch:∀ b∈ch,(b∈X.ex\/X.s₀.heap.objs.size<=b)/\b≠X.env.locals/\(∀ x c,X.env.cells.lookup x=some c->c≠b)/\∀ p∈X.pn++pins,p.1≠b)
  (keep:∀ b o,b≠X.env.locals->b∉X.fs->b∉ch->s.heap.get? b=some o->H b=none->h'.get? b=some o)
  (slot:∀ b o,b≠X.env.locals->b∈X.fs->b∉ch->s.heap.get? b=some o->H b=none->∃ sl,h'.get? b=some { o with slots:=sl }) (free:∀ b o,b∉ch->s.heap.get? b=some o->H b=none->H' b=none)
  (there:∀ b o,b∉ch->s.heap.get? b=some o->∃ o',h'.get? b=some o')
  (tups:∀ b xs,H b=some (.tup xs)->H' b=some (.tup xs)) (frzs:∀ b o u,H b=some (.frz o u)->H' b=some (.frz o u)) (tbls:∀ b ps,H b=some (.tbl ps)->∃ more,H' b=some (.tbl (ps++more)))
  (ns:∀ m,s.heap.Ns X.env.locals m->h'.Ns X.env.locals m) (hok:HOk X.prog X.w H' h') (hg:AllBare g'):
  Inv X pins σ H' { s with heap:=h',gens:=g',drawn:=d',toks:=t' }:=by
 have neL:∀ b o,X.s₀.heap.get? b=some o->b≠X.env.locals:=fun b o e=>Ax (Ai (Ag e) I.ok.above)
 have neC:∀ b o,X.s₀.heap.get? b=some o->b∉X.ex->b∉ch:=fun b o e hx hb=>by
  rcases(hch b hb).1 with z | z
  ·exact hx z
  ·exact absurd (Ai (Ag e) z) (AA _)
 have cellK:∀ x c,X.env.cells.lookup x=some c->∀ v,s.heap.IsCell c v->h'.IsCell c v:=fun x c e v ⟨o,ho,hd⟩=>by
  have nch:c∉ch:=fun z=>(hch c z).2.2.1 x c e rfl
  by_cases hc:c∈X.fs
  ·obtain⟨sl,q⟩:=slot c o (I.cne x c e) hc nch ho (I.freeC x c e)
   exact⟨_,q,hd⟩
  ·exact⟨o,keep c o (I.cne x c e) hc nch ho (I.freeC x c e),hd⟩
 refine⟨I.ok,I.os,hg,⟨fun b o e n hb hx=>?_,fun b o e n hb hx=>?_,fun b o e n hx=>?_,fun b o e hx=>?_,fun b xs e=>tups b xs (I.base.tups b xs e),fun b o xs e=>frzs b o xs (I.base.frzs b o xs e),fun b ps e=>?_⟩,?_,fun x c e=>?_,?_,fun x c e=>?_,fun p hp=>?_,hok,I.len⟩
 ·exact keep b o (neL b o e) hb (neC b o e hx) (I.base.keep b o e n hb hx) (I.base.free b o e n hx)
 ·obtain⟨sl,e1⟩:=I.base.slot b o e n hb hx
  obtain⟨sl',e2⟩:=slot b _ (neL b o e) hb (neC b o e hx) e1 (I.base.free b o e n hx)
  exact⟨sl',e2⟩
 ·obtain⟨o',e1⟩:=I.base.there b o e hx
  exact free b o' (neC b o e hx) e1 (I.base.free b o e n hx)
 ·obtain⟨o',e1⟩:=I.base.there b o e hx
  exact there b o' (neC b o e hx) e1
 ·obtain⟨m1,e1⟩:=I.base.tbls b ps e
  obtain⟨m2,e2⟩:=tbls b _ e1
  exact⟨m1++m2,by rw[e2,Array.append_assoc]⟩
 ·obtain⟨m,hn,hl⟩:=I.loc
  refine⟨m,ns m hn,fun i x v e1 e2 e3=>?_⟩
  obtain⟨u,r,l⟩:=hl i x v e1 e2 e3
  refine⟨u,r,?_⟩
  rcases l with l | ⟨k,c,e,z⟩
  ·exact .inl l
  ·exact .inr ⟨k,c,e,cellK x c e _ z⟩
 ·obtain⟨v,z⟩:=I.cell x c e
  exact⟨v,cellK x c e v z⟩
 ·obtain⟨m,⟨o,_,_,ho,_⟩,_⟩:=I.loc
  exact free _ o (fun z=>(hch _ z).2.1 rfl) ho I.free
 ·obtain⟨v,o,ho,hd⟩:=I.cell x c e
  exact free c o (fun z=>(hch c z).2.2.1 x c e rfl) ho (I.freeC x c e)
 ·obtain⟨e,n,ne,nf,d⟩:=I.pin p hp
  have nch:p.1∉ch:=fun z=>(hch p.1 z).2.2.2 p hp rfl
  exact⟨keep p.1 p.2 ne nf nch e n,free p.1 p.2 nch e n,ne,nf,d⟩
def Inv.un{t':Nat}(I:Inv X pins σ H s)(u:Un X.fs [] H H' s.heap h')(hok:HOk X.prog X.w H' h'):Inv X pins σ H' { s with heap:=h',toks:=t' }:=by
 obtain⟨m,⟨o,es,ep,ho,r⟩,_⟩:=id I.loc
 obtain⟨sl,hL⟩:=u.any ho I.free (by simp)
 exact I.step (g':=s.gens) (d':=s.drawn) (ch:=[]) (fun _ z=>nomatch z) (fun b o _ hb _ e n=>u.keep b o e n hb (by simp)) (fun b o _ hb _ e n=>u.slot b o e n hb (by simp)) (fun b o _ e n=>u.free b o e n (by simp)) (fun b o _ e=>u.there b o e (by simp)) u.tups u.frzs u.tbls (fun m' hm=>by
  obtain⟨o',es',ep',ho',r'⟩:=hm
  rw[ho] at ho'; cases ho'
  exact⟨_,es',ep',hL,r'⟩) hok I.bare
def Inv.call{g':Array GenState}{t':Nat}{d':Drawn}{ch:List BB}(I:Inv X pins σ H s)(u:Un (frs X.stack) ch H H' s.heap h')(hok:HOk X.prog X.w H' h')(hg:AllBare g')
  (hch:∀ b∈ch,(b∈X.ex\/X.s₀.heap.objs.size<=b)/\b≠X.env.locals/\(∀ x c,X.env.cells.lookup x=some c->c≠b)/\∀ p∈X.pn++pins,p.1≠b):
  Inv X pins σ H' { s with heap:=h',gens:=g',drawn:=d',toks:=t' }:=by
 obtain⟨m,⟨o,es,ep,ho,r⟩,_⟩:=id I.loc
 obtain⟨sl,hL⟩:=u.any ho I.free fun z=>(hch _ z).2.1 rfl
 exact I.step (ch:=ch) hch (fun b o hL hb hc e n=>u.keep b o e n (fun z=>(Ae.mp (I.stkSub b z)).elim hL hb) hc) (fun b o _ _ hc e n=>u.any e n hc) (fun b o hc e n=>u.free b o e n hc) (fun b o hc e=>u.there b o e hc) u.tups u.frzs u.tbls (fun m' hm=>by
  obtain⟨o',es',ep',ho',r'⟩:=hm
  rw[ho] at ho'; cases ho'
  exact⟨_,es',ep',hL,r'⟩) hok hg
def Inv.turned{t':Nat}{it:BB}(I:Inv X pins σ H s)(k:∀ b o,b≠it->s.heap.get? b=some o->h'.get? b=some o)(hn:H it=none)(hL:it≠X.env.locals)
  (h1:it∈X.ex\/X.s₀.heap.objs.size<=it) (h2:∀ x c,X.env.cells.lookup x=some c->c≠it) (h3:∀ p∈X.pn++pins,p.1≠it):Inv X pins σ H { s with heap:=h',toks:=t' }:=by
 have nit:∀ b u,H b=some u->b≠it:=fun b u e z=>by rw[z,hn] at e; cases e
 refine I.step (g':=s.gens) (d':=s.drawn) (ch:=[it]) (fun b hb=>?_) (fun b o _ _ hc e _=>k b o (fun z=>hc (by simp[z])) e) (fun b o _ _ hc e _=>⟨o.slots,k b o (fun z=>hc (by simp[z])) e⟩) (fun _ _ _ _ n=>n)
  (fun b o hc e=>⟨o,k b o (fun z=>hc (by simp[z])) e⟩) (fun _ _ e=>e) (fun _ _ _ e=>e) (fun b ps e=>⟨#[],by rw[e]; simp⟩) (fun m hm=>?_) (fun b u e=>?_) I.bare
 ·have e:b=it:=by simpa using hb
  subst e
  exact⟨h1,hL,h2,h3⟩
 ·obtain⟨o,es,ep,ho,r⟩:=hm
  exact⟨o,es,ep,k _ o (Ne.symm hL) ho,r⟩
 ·refine(I.hok b u e).stay (fun c v hc q=>k c v ?_ q) (fun _ q=>q) fun _ _ q=>q
  rcases hc with z | z
  ·rw[z]; exact nit b u e
  ·exact nit c _ z
def Inv.tok(I:Inv X pins σ H s)(t:Nat):Inv X pins σ H { s with toks:=t }:=I.un (h':=s.heap) (t':=t) Un.refl I.hok
def Inv.kept{t':Nat}(I:Inv X pins σ H s)(k:∀ b u,s.heap.get? b=some u->h'.get? b=some u):Inv X pins σ H { s with heap:=h',toks:=t' }:=I.un (Un.kept k) (I.hok.kept k)
def Inv.laid{a:BB}{o:HO}{t':Nat}(I:Inv X pins σ H s)(k:∀ b u,s.heap.get? b=some u->h'.get? b=some u)(hp:s.heap.objs.size<=a)(new:Kj X.prog X.w (upd H a o) h' a o):
  Inv X pins σ (upd H a o) { s with heap:=h',toks:=t' }:=I.un (Un.laid k hp (I.hok.fresh hp)) (I.hok.laid k hp new)
def Inv.write{x e:BB}{o:HO}{t':Nat}(I:Inv X pins σ H s)(mu:Mut (H x))(he:e=x\/H e=some (.own x))(k:∀ b u,b≠e->s.heap.get? b=some u->h'.get? b=some u)(heo:∃ u,h'.get? e=some u)
  (new:Kj X.prog X.w (upd H x o) h' x o):Inv X pins σ (upd H x o) { s with heap:=h',toks:=t' }:=I.un (Un.write mu he k heo) (I.hok.write mu he k heo new)
def Inv.pins_of{pins':List (BB×Obj)}(I:Inv X pins σ H s)(h:∀ p∈pins',s.heap.get? p.1=some p.2/\H p.1=none/\p.1≠X.env.locals/\p.1∉X.fs/\∀ v,p.2.data≠.cell v):Inv X pins' σ H s:=
 ⟨I.ok,I.os,I.bare,I.base,I.loc,I.cell,I.free,I.freeC,fun p hp=>(AF.mp hp).elim (fun z=>I.pin p (Bk _ z)) (h p),I.hok,I.len⟩
def Gci{N:List Str}(hN:N.Nodup){i j:Nat}{x:Str}(a:N[i]?=some x)(b:N[j]?=some x):i=j:=by
 obtain⟨h1,e1⟩:=Aa.mp a
 obtain⟨h2,e2⟩:=Aa.mp b
 exact(List.getElem_inj hN).mp (e1.trans e2.symm)
noncomputable def Gea{M:Model}{A:Around}{E:Bz->BA->Prop}{i:Nat}{x:Str}{v:V}{u:Bz}{Q:Unit->BA->Prop}(I:Inv X pins σ H s)(hN:X.N.Nodup)(hi:X.N[i]?=some x)(hx:Loc X.env.scope x)(r:Hf v u)
  (h:∀ s',Inv X pins (σ.set i (some v)) H s'->(∃ a,Heap.SameBut a s.heap s'.heap/\(a=X.env.locals\/X.env.cells.lookup x=some a))->Q () s') (hf:X.fn x=true\/X.env.scope.names.lookup x=some .local:=by first | exact .inl rfl | exact .inr rfl | assumption):wpAny M A (storeName X.env x u) Q E s:=by
 obtain⟨m,hn,hl⟩:=id I.loc
 have hcls:(X.env.scope.kind==.class||(X.env.scope.kind==.module&&X.env.locals != X.env.globals))=false:=by rw[I.ok.kind]; rfl
 have hiσ:i<σ.length:=by rw[I.len]; exact(Aa.mp hi).1
 have cne:=I.cne
 have tracked:∀ {a:BB} {h':Heap},(∃ o,s.heap.get? a=some o/\H a=none)->Heap.SameBut a s.heap h'->HOk X.prog X.w H h':=fun{a h'} ha hs b ob e=>by
  obtain⟨_,_,hfree⟩:=ha
  refine(I.hok b ob e).stay (fun c w' hc q=>(hs.2 c ?_).trans q) (fun _ q=>q) fun _ _ q=>q
  rintro rfl
  rcases hc with rfl | hc
  ·rw[hfree] at e; cases e
  ·rw[hfree] at hc; cases hc
 rcases hx with hk | hk
 ·refine wpAny_storeName_local hk hn (fun h' hn' hs=>?_) hcls
  obtain⟨oL,_,_,hoL,_⟩:=id hn
  refine h _ ⟨I.ok,I.os,I.bare,⟨fun b o e n hb hx=>?_,fun b o e n hb hx=>?_,I.base.free,fun b o e hx=>?_,I.base.tups,I.base.frzs,I.base.tbls⟩,⟨_,hn',fun j y v' e1 e2 e3=>?_⟩,fun y c e=>?_,I.free,I.freeC,fun p hp=>?_,tracked ⟨oL,hoL,I.free⟩ hs,by simpa using I.len⟩ ⟨_,hs,.inl rfl⟩
  ·exact(hs.2 b (Ax (Ai (Ag e) I.ok.above))).trans (I.base.keep b o e n hb hx)
  ·obtain⟨sl,e1⟩:=I.base.slot b o e n hb hx
   exact⟨sl,(hs.2 b (Ax (Ai (Ag e) I.ok.above))).trans e1⟩
  ·obtain⟨o',e1⟩:=I.base.there b o e hx
   exact⟨o',(hs.2 b (Ax (Ai (Ag e) I.ok.above))).trans e1⟩
  ·by_cases hj:j=i
   ·subst hj
    rw[hi] at e1; cases e1
    rw[Ah hiσ] at e2
    cases e2
    exact⟨u,r,.inl ⟨hk,by simp⟩⟩
   ·rw[Ad (Ne.symm hj)] at e2
    obtain⟨u',r',q⟩:=hl j y v' e1 e2 e3
    refine⟨u',r',?_⟩
    rcases q with⟨k,e⟩ | ⟨k,c,e,z⟩
    ·refine .inl ⟨k,?_⟩
     have:y≠x:=fun e=>hj (Gci hN e1 (e▸hi))
     simp[this,e]
    ·exact .inr ⟨k,c,e,z.sameBut hs (cne y c e)⟩
  ·obtain⟨w',z⟩:=I.cell y c e
   exact⟨w',z.sameBut hs (cne y c e)⟩
  ·obtain⟨e,n,ne,nf,d⟩:=I.pin p hp
   exact⟨(hs.2 p.1 ne).trans e,n,ne,nf,d⟩
 ·have hfn:X.fn x=true:=by
   rcases hf with z | z
   ·exact z
   ·rw[z] at hk; cases hk
  obtain⟨c,hc⟩:=I.ok.has x (.inl hk)
  obtain⟨w',z⟩:=I.cell x c hc
  refine wpAny_storeName_cell I.ok.kind hk hc z (fun h' hc' hs=>?_)
  obtain⟨oc,hoc,hocd⟩:=id z
  refine h { s with heap:=h' } ⟨I.ok,I.os,I.bare,⟨fun b o e n hb hx=>?_,fun b o e n hb hx=>?_,I.base.free,fun b o e hx=>?_,I.base.tups,I.base.frzs,I.base.tbls⟩,⟨m,hn.sameBut hs (Ne.symm (cne x c hc)),fun j y v' e1 e2 e3=>?_⟩,fun y c' e=>?_,I.free,I.freeC,fun p hp=>?_,tracked ⟨oc,hoc,I.freeC x c hc⟩ hs,by simpa using I.len⟩ ⟨c,hs,.inr hc⟩
  ·exact(hs.2 b (Ax (Ai (Ag e) (I.ok.cab x c hfn hc)))).trans (I.base.keep b o e n hb hx)
  ·obtain⟨sl,e1⟩:=I.base.slot b o e n hb hx
   exact⟨sl,(hs.2 b (Ax (Ai (Ag e) (I.ok.cab x c hfn hc)))).trans e1⟩
  ·obtain⟨o',e1⟩:=I.base.there b o e hx
   exact⟨o',(hs.2 b (Ax (Ai (Ag e) (I.ok.cab x c hfn hc)))).trans e1⟩
  ·by_cases hj:j=i
   ·subst hj
    rw[hi] at e1; cases e1
    rw[Ah hiσ] at e2
    cases e2
    exact⟨u,r,.inr ⟨.inl hk,c,hc,hc'⟩⟩
   ·rw[Ad (Ne.symm hj)] at e2
    obtain⟨u',r',q⟩:=hl j y v' e1 e2 e3
    refine⟨u',r',?_⟩
    rcases q with q | ⟨k,c',e,z'⟩
    ·exact .inl q
    ·refine .inr ⟨k,c',e,z'.sameBut hs ?_⟩
     rintro rfl
     exact hj (Gci hN e1 (I.ok.inj _ _ _ e hc▸hi))
  ·by_cases hcc:c'=c
   ·subst hcc; exact⟨_,hc'⟩
   ·obtain⟨w2,z2⟩:=I.cell y c' e
    exact⟨w2,z2.sameBut hs hcc⟩
  ·obtain⟨e,n,ne,nf,d⟩:=I.pin p hp
   refine⟨(hs.2 p.1 ?_).trans e,n,ne,nf,d⟩
   intro q
   rw[q,hoc] at e
   have q':oc=p.2:=Ac e
   exact d w' (by rw[<- q']; exact hocd)
def Wl{M:Model}{A:Around}{E:Bz->BA->Prop}{i:Nat}{x:Str}{v:V}{u:Bz}{Q:Unit->BA->Prop}(I:Inv X pins σ H s)(hN:X.N.Nodup)(hi:X.N[i]?=some x)(hx:Loc X.env.scope x)(r:Hf v u)
  (h:∀ s',Inv X pins (σ.set i (some v)) H s'->Q () s') (hf:X.fn x=true\/X.env.scope.names.lookup x=some .local:=by first | exact .inl rfl | exact .inr rfl | assumption):wpAny M A (storeName X.env x u) Q E s:=
 Gea I hN hi hx r (fun s' I' _=>h s' I') hf
def Inv.call'{s':BA}{ch:List BB}(I:Inv X pins σ H s)(ho:s'.os=s.os)(u:Un (frs X.stack) ch H H' s.heap s'.heap)(hok:HOk X.prog X.w H' s'.heap)(hg:AllBare s'.gens)
  (hch:∀ b∈ch,(b∈X.ex\/X.s₀.heap.objs.size<=b)/\b≠X.env.locals/\(∀ x c,X.env.cells.lookup x=some c->c≠b)/\∀ p∈X.pn++pins,p.1≠b):Inv X pins σ H' s':=by
 obtain⟨h',g',d',t',o'⟩:=s'
 have e:o'=s.os:=ho
 subst e
 exact I.call (g':=g') (t':=t') (d':=d') u hok hg hch
end
abbrev XK:=Bz->BC BB->Hp->Prop
abbrev St:=List (BC V)
abbrev VK:=V->Hp->Prop
abbrev TE:=St->Hp->VK->Prop
abbrev TT:=St->Hp->(Bool->Hp->Prop)->Prop
abbrev TA:=St->Hp->(List V->Hp->Prop)->Prop
structure Ends where
 nx:St->Hp->Prop
 rt:VK
 bk:St->Hp->Prop:=fun _ _=>False
 ct:St->Hp->Prop:=fun _ _=>False
abbrev TS:=Ends->St->Hp->Prop
def EP(X:Cx)(pins:List (BB×Obj))(σ:St)(Q:VK)(u:Bz)(s':BA):Prop:=∃ v H',Inv X pins σ H' s'/\Hf v u/\Q v H'
def TP(X:Cx)(pins:List (BB×Obj))(σ:St)(Q:Bool->Hp->Prop)(b:Bool)(s':BA):Prop:=∃ H',Inv X pins σ H' s'/\Q b H'
def AP(X:Cx)(pins:List (BB×Obj))(σ:St)(Q:List V->Hp->Prop)(us:List Bz)(s':BA):Prop:=∃ vs H',Inv X pins σ H' s'/\Vals vs us/\Q vs H'
def SP(X:Cx)(pins:List (BB×Obj))(D:Ends)(f:Flow)(s':BA):Prop:=
 match f with
 | .next=>∃ σ' H',Inv X pins σ' H' s'/\D.nx σ' H'
 | .brk=>∃ σ' H',Inv X pins σ' H' s'/\D.bk σ' H'
 | .cont=>∃ σ' H',Inv X pins σ' H' s'/\D.ct σ' H'
 | .ret u=>∃ v σ' H',Inv X pins σ' H' s'/\Hf v u/\D.rt v H'
def PE(X:Cx)(e:Expr)(t:TE):Prop:=
 ∀ (pins:List (BB×Obj)) (s:BA) (σ:St) (H:Hp) (Q:VK),Inv X pins σ H s->t σ H Q->wpAny (model X.prog X.w) X.A (eval e X.env) (EP X pins σ Q) X.xe s
def PT(X:Cx)(e:Expr)(t:TT):Prop:=
 ∀ (pins:List (BB×Obj)) (s:BA) (σ:St) (H:Hp) (Q:Bool->Hp->Prop),Inv X pins σ H s->t σ H Q->wpAny (model X.prog X.w) X.A (isTrue e X.env (eval e X.env)) (TP X pins σ Q) X.xe s
def PW(X:Cx)(e:Expr)(t:TT):Prop:=
 ∀ (whole:Sem Bz) (pins:List (BB×Obj)) (s:BA) (σ:St) (H:Hp) (Q:Bool->Hp->Prop),Inv X pins σ H s->t σ H Q->wpAny (model X.prog X.w) X.A (isTrue e X.env whole) (TP X pins σ Q) X.xe s
def PW.pt{X:Cx}{e:Expr}{t:TT}(h:PW X e t):PT X e t:=h _
def PA(X:Cx)(es:List Expr)(t:TA):Prop:=
 ∀ (pos:Pos) (pins:List (BB×Obj)) (s:BA) (σ:St) (H:Hp) (Q:List V->Hp->Prop),Inv X pins σ H s->t σ H Q->wpAny (model X.prog X.w) X.A (spliced (backTo pos (starEach es X.env))) (AP X pins σ Q) X.xe s
def PS(X:Cx)(st:Stmt)(t:TS):Prop:=
 ∀ (pins:List (BB×Obj)) (s:BA) (σ:St) (H:Hp) (D:Ends),Inv X pins σ H s->t D σ H->wpAny (model X.prog X.w) X.A (exec st X.env) (SP X pins D) X.xe s
def PSs(X:Cx)(st:List Stmt)(t:TS):Prop:=
 ∀ (pins:List (BB×Obj)) (s:BA) (σ:St) (H:Hp) (D:Ends),Inv X pins σ H s->t D σ H->wpAny (model X.prog X.w) X.A (execs st X.env) (SP X pins D) X.xe s
def thn{α:Type}{t:Sem α}{Q Q':α->BA->Prop}{M:Model}{A:Around}{E:Bz->BA->Prop}{s:BA}(h:wpAny M A t Q E s)(hQ:∀ a s,Q a s->Q' a s):wpAny M A t Q' E s:=wpAny_mono h hQ fun _ _ x=>x
section
variable{X:Cx}
def Gum(i:Nat):TE:=fun σ H Q=>∃ v,σ[i]?=some (some v)/\Q v H
def tC(v:V):TE:=fun _ H Q=>Q v H
noncomputable def Gex{i:Nat}{x:Str}{pos:Pos}(hN:X.N[i]?=some x)(hv:Vis X.env.scope x)(hd:(x==("__debug__":Str))=false:=by decide)(hcd:(x==("__classdict__":Str))=false:=by decide):PE X (.Name x pos) (Gum i):=by
 intro pins s σ H Q I h
 obtain⟨v,e,h⟩:=h
 obtain⟨m,hn,hl⟩:=I.loc
 obtain⟨u,r,l⟩:=hl i x v hN e hv
 have fin:EP X pins σ Q u s:=⟨v,H,I,r,h⟩
 rcases l with⟨hk,hm⟩ | ⟨hk,c,hc,hcell⟩
 ·exact wpAny_Name (wpAny_loadName_local I.ok.kind hk hn hm fin) hd
 ·rcases hk with hk | hk
  ·exact wpAny_Name (wpAny_loadName_cell I.ok.kind hk hc hcell fin) hd
  ·exact wpAny_Name (wpAny_loadName_free I.ok.kind hk hc hcell fin hcd) hd
def Gun{i j pos}:PE X (.Constant (.int i) j pos) (tC (.int i)):=fun _ _ _ H _ I h=>wpAny_Constant_int ⟨.int i,H,I.tok _,⟨_,rfl⟩,h⟩
def Gy7{b j pos}:PE X (.Constant (.bool b) j pos) (tC (.bl b)):=fun _ _ _ H _ I h=>Constant_bool ⟨.bl b,H,I,rfl,h⟩
def Guo{j pos}:PE X (.Constant .none j pos) (tC .non):=fun _ _ _ H _ I h=>Constant_none ⟨.non,H,I,rfl,h⟩
def Gup{x j pos}:PE X (.Constant (.str x) j pos) (tC (.str x)):=fun _ _ _ H _ I h=>Calls.Constant_str ⟨.str x,H,I.tok _,⟨_,rfl⟩,h⟩
def Gl(X:Cx)(x:Str):Prop:=X.env.kindOf x=some .globalImplicit
noncomputable def Yt{E:Bz->BA->Prop}{pins:List (BB×Obj)}{s:BA}{σ:St}{H:Hp}{x:Str}{u:Bz}{pos:Pos}{Q:Bz->BA->Prop}(I:Inv X pins σ H s)(hg:Gl X x)(hm:X.mg x=some u)(h:Q u s)
  (hd:(x==("__debug__":Str))=false:=by decide):wpAny (model X.prog X.w) X.A (eval (.Name x pos) X.env) Q E s:=
 Calls.Name_function_global I.ok.kind hg (Calls.loadGlobal_global (by rw[I.ok.glob]; exact I.mod.glob.keeps I.bk) hm h) hd
noncomputable def Xx{E:Bz->BA->Prop}{pins:List (BB×Obj)}{s:BA}{σ:St}{H:Hp}{x:Str}{u:Bz}{pos:Pos}{Q:Bz->BA->Prop}(I:Inv X pins σ H s)(hg:Gl X x)(hm:X.mg x=none)(hv:bootBuiltins x=some u)(h:Q u s)
  (hn:x≠"__name__":=by decide) (hd:(x==("__debug__":Str))=false:=by decide):wpAny (model X.prog X.w) X.A (eval (.Name x pos) X.env) Q E s:=by
 obtain⟨mb,h1,h2⟩:=I.mod.blt
 exact Calls.Name_function_global I.ok.kind hg (Calls.loadGlobal_builtin (by rw[I.ok.glob]; exact I.mod.glob.keeps I.bk) hm (by rw[I.ok.blt]; exact h1.keeps I.bk) ((h2 x hn).trans hv) h) hd
def Gey{x:Str}{v:V}{u:Bz}{pos:Pos}(hg:Gl X x)(hm:X.mg x=some u)(r:Hf v u)(hd:(x==("__debug__":Str))=false:=by decide):PE X (.Name x pos) (tC v):=
 fun _ _ _ H _ I h=>Yt I hg hm ⟨v,H,I,r,h⟩ hd
def Gi0{x:Str}{v:V}{u:Bz}{pos:Pos}(hg:Gl X x)(hm:X.mg x=none)(hv:bootBuiltins x=some u)(r:Hf v u)(hn:x≠"__name__":=by decide)(hd:(x==("__debug__":Str))=false:=by decide):PE X (.Name x pos) (tC v):=
 fun _ _ _ H _ I h=>Xx I hg hm hv ⟨v,H,I,r,h⟩ hn hd
variable{a b:Expr}{ta tb:TE}{pos:Pos}
variable{tA tB':TT}{rest:List Expr}
def Hb1(t u:TT):TT:=fun σ H Q=>t σ H fun c H1=>if c=true then u σ H1 Q else Q false H1
def tOr(t u:TT):TT:=fun σ H Q=>t σ H fun c H1=>if c=true then Q true H1 else u σ H1 Q
def Hb2(t:TT):TT:=fun σ H Q=>t σ H fun c H1=>Q (!c) H1
def Gp0(ha:PT X a tA):PW X (.BoolOp .And [a] pos) tA:=by
 intro wh pins s σ H Q I h
 refine isTrue_and (thn (ha pins s σ H Q I h) fun c s1 e=>?_)
 cases c with
 | true=>exact isTrue_and_nil e
 | false=>exact e
def Guq(ha:PT X a tA):PW X (.BoolOp .Or [a] pos) tA:=by
 intro wh pins s σ H Q I h
 refine isTrue_or (thn (ha pins s σ H Q I h) fun c s1 e=>?_)
 cases c with
 | false=>exact isTrue_or_nil e
 | true=>exact e
def Gur(ha:PT X a tA)(hb:PW X (.BoolOp .And (b::rest) pos) tB'):PW X (.BoolOp .And (a::b::rest) pos) (Hb1 tA tB'):=by
 intro wh pins s σ H Q I h
 refine isTrue_and (thn (ha pins s σ H _ I h) fun c s1 ⟨H1,I1,q1⟩=>?_)
 cases c with
 | true=>exact hb wh pins s1 σ H1 Q I1 q1
 | false=>exact⟨H1,I1,q1⟩
def Gy8(ha:PT X a tA)(hb:PW X (.BoolOp .Or (b::rest) pos) tB'):PW X (.BoolOp .Or (a::b::rest) pos) (tOr tA tB'):=by
 intro wh pins s σ H Q I h
 refine isTrue_or (thn (ha pins s σ H _ I h) fun c s1 ⟨H1,I1,q1⟩=>?_)
 cases c with
 | true=>exact⟨H1,I1,q1⟩
 | false=>exact hb wh pins s1 σ H1 Q I1 q1
def Gus(ha:PT X a tA):PT X (.UnaryOp .Not a pos) (Hb2 tA):=by
 intro pins s σ H Q I h
 exact isTrue_not (ha pins s σ H (fun c H1=>Q (!c) H1) I h)
def Gy9(ta tb:TE):TE:=fun σ H Q=>ta σ H fun x H1=>∃ c,x=.bl c/\if c=true then tb σ H1 Q else Q (.bl false) H1
def Gza(ta:TE):TE:=fun σ H Q=>ta σ H fun x H1=>∃ c,x=.bl c/\Q (.bl (!c)) H1
def Gut{op}{t:TE}(h:PE X a t):PE X (.BoolOp op [a] pos) t:=fun pins s σ H Q I hw=>BoolOp_one (h pins s σ H Q I hw)
def Guu(ha:PE X a ta)(hb:PE X (.BoolOp .And (b::rest) pos) tb):PE X (.BoolOp .And (a::b::rest) pos) (Gy9 ta tb):=by
 intro pins s σ H Q I h
 refine BoolOp_and (thn (ha pins s σ H _ I h) fun v s1 ⟨x,H1,I1,r1,q1⟩=>?_)
 obtain⟨c,rfl,q1⟩:=q1
 cases r1
 refine wpAny_truthy_bool ?_
 cases c with
 | true=>exact hb pins s1 σ H1 Q I1 q1
 | false=>exact⟨.bl false,H1,I1,rfl,q1⟩
def Guv(ha:PE X a ta):PE X (.UnaryOp .Not a pos) (Gza ta):=by
 intro pins s σ H Q I h
 refine UnaryOp_ (thn (ha pins s σ H _ I h) fun v s1 ⟨x,H1,I1,r1,q1⟩=>?_)
 obtain⟨c,rfl,q1⟩:=q1
 cases r1
 exact not_of (wpAny_truthy_bool ⟨.bl (!c),H1,I1,rfl,q1⟩)
def tIf(t:TT)(ta tb:TE):TE:=fun σ H Q=>t σ H fun c H1=>if c=true then ta σ H1 Q else tb σ H1 Q
def Glz{c:Expr}(hc:PT X c tA)(ha:PE X a ta)(hb:PE X b tb):PE X (.IfExp c a b pos) (tIf tA ta tb):=by
 intro pins s σ H Q I h
 refine wpAny_IfExp (thn (hc pins s σ H _ I h) fun d s1 ⟨H1,I1,q1⟩=>?_)
 cases d with
 | true=>exact ha pins s1 σ H1 Q I1 q1
 | false=>exact hb pins s1 σ H1 Q I1 q1
end
def SqL(K:By)(H:Hp)(a:BB)(xs:List V):Prop:=
 Rd H a (.lst xs)∨
  ∃ (o:Obj) (its:Array Bz) (n:Nat),K.lookup a=some o/\o.cls=.type "list"/\o.dict=none/\o.data=.seq its n/\its.size<=sizeLine/\Vals xs its.toList
def SqT(K:By)(H:Hp)(a:BB)(xs:List V):Prop:=
 Rd H a (.tup xs)∨
  ∃ (o:Obj) (its:Array Bz) (n:Nat),K.lookup a=some o/\o.cls=.type "tuple"/\o.data=.seq its n/\its.size<=sizeLine/\Vals xs its.toList
noncomputable def Hb3:Bz->BC V
 | .none=>some .non
 | .bool b=>some (.bl b)
 | .int i _=>some (.int i)
 | .str x _=>some (.str x)
 | .bytes b _=>some (.byt b)
 | .float b _=>some (.flt b)
 | .ref a=>some (.ref a)
 | .type n=>some (.ty n)
 | _=>none
def Hf.abs{x:V}{u:Bz}(r:Hf x u):Hb3 u=some x:=by
 cases x with
 | non=>cases r; rfl
 | bl _=>cases r; rfl
 | int _=>obtain⟨t,rfl⟩:=r; rfl
 | str _=>obtain⟨t,rfl⟩:=r; rfl
 | byt _=>obtain⟨t,rfl⟩:=r; rfl
 | flt _=>obtain⟨t,rfl⟩:=r; rfl
 | ref _=>cases r; rfl
 | ty _=>cases r; rfl
def Hf.inj{x y:V}{u:Bz}(r:Hf x u)(q:Hf y u):x=y:=Ac (r.abs.symm.trans q.abs)
def Vals.inj:∀ {xs ys:List V} {us:List Bz},Vals xs us->Vals ys us->xs=ys
 | _,_,_,.nil,.nil=>rfl
 | _,_,_,.cons r t,.cons r' t'=>by rw[r.inj r',Vals.inj t t']
section
variable{X:Cx}{pins:List (BB×Obj)}{σ:St}{H:Hp}{s:BA}{a:BB}{xs ys:List V}
def SqL.of{K:By}(h:H a=some (.lst xs)):SqL K H a xs:=.inl (.inl h)
def SqT.of{K:By}(h:H a=some (.tup xs)):SqT K H a xs:=.inl (.inl h)
def Inv.list(I:Inv X pins σ H s)(h:SqL X.K H a xs):∃ its:List Bz,Vals xs its/\PlainL s.heap a its.toArray/\xs.length<=sizeLine:=by
 rcases h with h | ⟨o,its,n,hk,hc,hd,hs,hz,r⟩
 ·obtain⟨z,its,n,r,e⟩:=h.ok I.hok
  exact⟨its,r,⟨_,n,e,rfl,rfl,rfl⟩,z⟩
 ·refine⟨its.toList,r,⟨o,n,I.kIn a o hk,hc,hd,by simpa using hs⟩,?_⟩
  have e:=r.length
  simp only[Array.length_toList] at e
  omega
def Inv.tuple(I:Inv X pins σ H s)(h:SqT X.K H a xs):∃ its:List Bz,Vals xs its/\IsTup s.heap a its.toArray/\xs.length<=sizeLine:=by
 rcases h with h | ⟨o,its,n,hk,hc,hs,hz,r⟩
 ·obtain⟨z,its,r,p⟩:=h.ok I.hok
  exact⟨its,r,p,z⟩
 ·refine⟨its.toList,r,⟨o,I.kIn a o hk,hc,n,by simpa using hs⟩,?_⟩
  have e:=r.length
  simp only[Array.length_toList] at e
  omega
def Inv.list_inj(I:Inv X pins σ H s)(h:SqL X.K H a xs)(h':SqL X.K H a ys):xs=ys:=by
 obtain⟨its,r,⟨o,n,e,_,_,d⟩,_⟩:=I.list h
 obtain⟨its',r',⟨o',n',e',_,_,d'⟩,_⟩:=I.list h'
 rw[e] at e'; cases e'
 rw[d] at d'
 injection d' with d1 _
 have:its=its':=by simpa using congrArg Array.toList d1
 subst this
 exact r.inj r'
def Inv.tuple_inj(I:Inv X pins σ H s)(h:SqT X.K H a xs)(h':SqT X.K H a ys):xs=ys:=by
 obtain⟨its,r,⟨o,e,_,n,d⟩,_⟩:=I.tuple h
 obtain⟨its',r',⟨o',e',_,n',d'⟩,_⟩:=I.tuple h'
 rw[e] at e'; cases e'
 rw[d] at d'
 injection d' with d1 _
 have:its=its':=by simpa using congrArg Array.toList d1
 subst this
 exact r.inj r'
end
noncomputable abbrev Cx.wish(X:Cx)(E:Bz->BA->Prop):Cx:={ X with xe:=E }
abbrev Cx.nox(X:Cx):Cx:=X.wish fun _ _=>False
noncomputable def Cx.Ok.wish{X:Cx}(ok:X.Ok)(E:Bz->BA->Prop):(X.wish E).Ok:=
 ⟨ok.mod,ok.kind,ok.glob,ok.blt,ok.above,ok.inj,ok.has,ok.cab,ok.hd,ok.frames,ok.stk,ok.exf,ok.bs,ok.bsz,ok.noex,ok.exfs,ok.funs,ok.frf⟩
def Cx.Ok.unwish{X:Cx}{E:Bz->BA->Prop}(ok:(X.wish E).Ok):X.Ok:=
 ⟨ok.mod,ok.kind,ok.glob,ok.blt,ok.above,ok.inj,ok.has,ok.cab,ok.hd,ok.frames,ok.stk,ok.exf,ok.bs,ok.bsz,ok.noex,ok.exfs,ok.funs,ok.frf⟩
section
variable{X:Cx}{pins:List (BB×Obj)}{σ:St}{H:Hp}{s:BA}{E:Bz->BA->Prop}
noncomputable def Inv.wish(I:Inv X pins σ H s)(E:Bz->BA->Prop):Inv (X.wish E) pins σ H s:=⟨I.ok.wish E,I.os,I.bare,I.base,I.loc,I.cell,I.free,I.freeC,I.pin,I.hok,I.len⟩
def Inv.unwish(I:Inv (X.wish E) pins σ H s):Inv X pins σ H s:=⟨I.ok.unwish,I.os,I.bare,I.base,I.loc,I.cell,I.free,I.freeC,I.pin,I.hok,I.len⟩
def SP.unwish{D:Ends}{f:Flow}{s':BA}(h:SP (X.wish E) pins D f s'):SP X pins D f s':=by
 cases f with
 | next=>obtain⟨σ',H',I,q⟩:=h; exact⟨σ',H',I.unwish,q⟩
 | brk=>obtain⟨σ',H',I,q⟩:=h; exact⟨σ',H',I.unwish,q⟩
 | cont=>obtain⟨σ',H',I,q⟩:=h; exact⟨σ',H',I.unwish,q⟩
 | ret u=>obtain⟨v,σ',H',I,r,q⟩:=h; exact⟨v,σ',H',I.unwish,r,q⟩
def PSs.nox{st:List Stmt}{t:TS}(h:PSs X.nox st t):PSs X st t:=fun pins s σ H D I hw=>
 wpAny_mono (h pins s σ H D (I.wish _) hw) (fun _ _ q=>q.unwish) fun _ _ z=>False.elim z
end
section
variable{X:Cx}{st:Stmt}{rest:List Stmt}{t u:TS}{e:Expr}{te:TE}{pos:Pos}
def Gzb:TS:=fun D σ H=>D.nx σ H
def Hb4(t u:TS):TS:=fun D σ H=>t { D with nx:=u D } σ H
def Gp1:PSs X [] Gzb:=fun _ _ σ H _ I h=>wpAny_execs_nil ⟨σ,H,I,h⟩
def Gl0(h1:PS X st t)(h2:PSs X rest u):PSs X (st::rest) (Hb4 t u):=by
 intro pins s σ H D I h
 refine wpAny_execs_cons (thn (h1 pins s σ H { D with nx:=u D } I h) fun f s1 q=>?_)
 cases f with
 | next=>
  obtain⟨σ',H',I',q⟩:=q
  exact h2 pins s1 σ' H' D I' q
 | ret v=>exact q
 | brk=>exact q
 | cont=>exact q
def Gi1(h1:PS X st t):PSs X [st] t:=by
 intro pins s σ H D I h
 refine wpAny_execs_cons (thn (h1 pins s σ H D I h) fun f s1 q=>?_)
 cases f with
 | next=>exact wpAny_execs_nil q
 | ret v=>exact q
 | brk=>exact q
 | cont=>exact q
def Gzc:TS:=fun D σ H=>D.ct σ H
def Ggf:PS X (.Continue pos) Gzc:=fun _ _ σ H _ I h=>wpAny_Continue ⟨σ,H,I,h⟩
def Inv.quiet{pins:List (BB×Obj)}{σ:St}{H:Hp}{s:BA}(I:Inv X pins σ H s):interactive X.env=false:=by simp[interactive,I.ok.kind]
def Gte(te:TE):TS:=fun D σ H=>te σ H fun _ H1=>D.nx σ H1
noncomputable def Gi2(he:PE X e te)(hs:swapsWith e none pos.line X.env=pure false:=by rfl):PS X (.Expr e pos) (Gte te):=by
 intro pins s σ H D I h
 exact wpAny_Expr_any (thn (he pins s σ H _ I h) fun v s1 ⟨x,H1,I1,r1,q1⟩=>⟨σ,H1,I1,q1⟩) I.quiet hs
def Hb5(te:TE):TS:=fun D σ H=>te σ H D.rt
def Guw(he:PE X e te):PS X (.Return (some e) pos) (Hb5 te):=by
 intro pins s σ H D I h
 exact wpAny_Return_some (thn (he pins s σ H _ I h) fun v s1 ⟨x,H1,I1,r1,q1⟩=>⟨x,σ,H1,I1,r1,q1⟩)
def Hb6(c:TT)(t u:TS):TS:=fun D σ H=>c σ H fun b H1=>if b=true then t D σ H1 else u D σ H1
def Gzd{c:Expr}{a b:List Stmt}{tc:TT}(hc:PT X c tc)(ha:PSs X a t)(hb:PSs X b u):PS X (.If c a b pos) (Hb6 tc t u):=by
 intro pins s σ H D I h
 refine wpAny_If (thn (hc pins s σ H _ I h) fun d s1 ⟨H1,I1,q1⟩=>?_)
 cases d with
 | true=>exact ha pins s1 σ H1 D I1 q1
 | false=>exact hb pins s1 σ H1 D I1 q1
end
abbrev TG:=V->St->Hp->(St->Hp->Prop)->Prop
abbrev TGs:=List V->St->Hp->(St->Hp->Prop)->Prop
def PG(X:Cx)(target:Expr)(t:TG):Prop:=
 ∀ (pins:List (BB×Obj)) (s:BA) (σ:St) (H:Hp) (v:V) (u:Bz) (Q:St->Hp->Prop),Inv X pins σ H s->Hf v u->t v σ H Q→
  wpAny (model X.prog X.w) X.A (assign target X.env u) (fun _ s'=>∃ σ' H',Inv X pins σ' H' s'/\Q σ' H') X.xe s
def PGs(X:Cx)(ts:List Expr)(t:TGs):Prop:=
 ∀ (pins:List (BB×Obj)) (s:BA) (σ:St) (H:Hp) (vs:List V) (us:List Bz) (Q:St->Hp->Prop),Inv X pins σ H s->Vals vs us->t vs σ H Q→
  wpAny (model X.prog X.w) X.A (assignInOrder ((assignEach ts X.env).map (·.2)) us) (fun _ s'=>∃ σ' H',Inv X pins σ' H' s'/\Q σ' H') X.xe s
abbrev Gk1:=V->V->V->Hp->(Hp->Prop)->Prop
def Gp2(X:Cx)(t:Gk1):Prop:=
 ∀ (pins:List (BB×Obj)) (s:BA) (σ:St) (H:Hp) (o i v:V) (ov iv u:Bz) (Q:Hp->Prop),Inv X pins σ H s->Hf o ov->Hf i iv->Hf v u->t o i v H Q→
  wpAny (model X.prog X.w) X.A (setItem ov iv u) (fun _ s'=>∃ H',Inv X pins σ H' s'/\Q H') X.xe s
abbrev TIp:=V->V->Hp->VK->Prop
def PIp(X:Cx)(op:Operator)(t:TIp):Prop:=
 ∀ (pins:List (BB×Obj)) (s:BA) (σ:St) (H:Hp) (x y:V) (v u:Bz) (Q:VK),Inv X pins σ H s->Hf x v->Hf y u->t x y H Q→
  wpAny (model X.prog X.w) X.A (inplaceOp op v u) (EP X pins σ Q) X.xe s
section
variable{X:Cx}{pos:Pos}
def gName(i:Nat):TG:=fun v σ H Q=>Q (σ.set i (some v)) H
def Gp3{i:Nat}{x:Str}(hN:X.N.Nodup)(hi:X.N[i]?=some x)(hx:Loc X.env.scope x)(hf:X.fn x=true\/X.env.scope.names.lookup x=some .local:=by first | exact .inl rfl | exact .inr rfl | assumption):PG X (.Name x pos) (gName i):=by
 intro pins s σ H v u Q I r h
 exact wpAny_assign_Name (Wl I hN hi hx r (fun s' I'=>⟨_,H,I',h⟩) hf)
def Hb7:TGs:=fun vs σ H Q=>vs=[]/\Q σ H
def Gze(t:TG)(u:TGs):TGs:=fun vs σ H Q=>∃ v r,vs=v::r/\t v σ H fun σ' H'=>u r σ' H' Q
def Gi3:PGs X [] Hb7:=by
 intro pins s σ H vs us Q I r h
 obtain⟨e,h⟩:=h
 subst e
 cases r
 exact assignInOrder_nil ⟨σ,H,I,h⟩
noncomputable def Gcj{e:Expr}{es:List Expr}{t:TG}{u:TGs}(h1:PG X e t)(h2:PGs X es u)
  (hs:(assignEach (e::es) X.env).map (·.2)=assign e X.env::(assignEach es X.env).map (·.2):=by rfl):PGs X (e::es) (Gze t u):=by
 intro pins s σ H vs us Q I r h
 obtain⟨v,vr,e1,h⟩:=h
 subst e1
 cases r with
 | cons r rr=>
  rw[hs]
  refine assignInOrder_cons (thn (h1 pins s σ H _ _ _ I r h) fun _ s1 ⟨σ1,H1,I1,q1⟩=>?_)
  exact h2 pins s1 σ1 H1 _ _ Q I1 rr q1
def Hb8(K:By)(n:Nat)(t:TGs):TG:=fun v σ H Q=>∃ a xs,v=.ref a/\SqT K H a xs/\xs.length=n/\t xs σ H Q
noncomputable def Gl1{es:List Expr}{k:Nat}{t:TGs}{n:Nat}(hc:X.calm=true)(h:PGs X es t)
  (hn:(assignEach es X.env).length=n:=by rfl) (hst:(assignEach es X.env).findIdx? (·.1)=none:=by rfl):PG X (.Tuple es k pos) (Hb8 X.K n t):=by
 intro pins s σ H v u Q I r hw
 obtain⟨a,xs,e1,hq,hl,hw⟩:=hw
 subst e1
 cases r
 obtain⟨its,rv,ht,hz⟩:=I.tuple hq
 refine assign_Tuple_tuple (I.ok.hd hc) ht (by simp[hn,<- hl,rv.length]) hst fun h' hx=>?_
 have I1:Inv X pins σ H { s with heap:=h' }:=I.kept (t':=s.toks) fun b o e=>hx b o (Ax (Ag e)) e
 exact h pins _ σ H xs _ Q I1 (by simpa using rv) hw
def Hb9(to ti:TE)(t:Gk1):TG:=fun v σ H Q=>to σ H fun o H1=>ti σ H1 fun i H2=>t o i v H2 fun H3=>Q σ H3
noncomputable def Ghr{o i:Expr}{to ti:TE}{t:Gk1}(ho:PE X o to)(hi:PE X i ti)(hs:Gp2 X t)
  (ha:∀ v,assign (.Subscript o i pos) X.env v=(do
   let ov <- holding [v] (eval o X.env)
   let iv <- holding [v,ov] (eval i X.env)
   standAt pos
   holding [v,ov,iv] (setItem ov iv v)
   release [v,ov,iv] []):=by intro _; rfl):PG X (.Subscript o i pos) (Hb9 to ti t):=by
 intro pins s σ H v u Q I r h
 rw[ha]
 refine wpAny_bind (wpAny_holding (thn (ho pins s σ H _ I h) fun ov s1 ⟨x,H1,I1,r1,q1⟩=>?_))
 refine wpAny_bind (wpAny_holding (thn (hi pins s1 σ H1 _ I1 q1) fun iv s2 ⟨y,H2,I2,r2,q2⟩=>?_))
 refine wpAny_bind (wpAny_standAt (wpAny_bind (wpAny_holding (thn (hs pins s2 σ H2 x y v ov iv u _ I2 r1 r2 r q2) fun _ s3 ⟨H3,I3,q3⟩=>?_))))
 exact wpAny_release ⟨σ,H3,I3,q3⟩
def Gp4(te:TE)(g:TG):TS:=fun D σ H=>te σ H fun x H1=>g x σ H1 D.nx
noncomputable def Ghs{tg e:Expr}{te:TE}{g:TG}(he:PE X e te)(hg:PG X tg g)(hs:swapsWithSole [tg] e pos.line X.env=pure false:=by rfl)(hw:swappedStores [tg] e X.env=pure none:=by rfl)
  (h1:(assignEach [tg] X.env).map (·.2)=[assign tg X.env]:=by rfl):PS X (.Assign [tg] e pos) (Gp4 te g):=by
 intro pins s σ H D I h
 refine wpAny_Assign_stores (thn (he pins s σ H _ I h) fun v s1 ⟨x,H1,I1,r1,q1⟩=>?_) hs hw
 rw[h1]
 exact thn (hg pins s1 σ H1 x v _ I1 r1 q1) fun _ s2 q=>q
def Gux{i:Nat}{x:Str}{e:Expr}{te:TE}{pos':Pos}(hN:X.N.Nodup)(hi:X.N[i]?=some x)(hx:Loc X.env.scope x)(he:PE X e te)(hs:swapsWith e (some (.Name x pos')) pos.line X.env=pure false:=by rfl)(hf:X.fn x=true\/X.env.scope.names.lookup x=some .local:=by first | exact .inl rfl | exact .inr rfl | assumption):
  PS X (.Assign [.Name x pos'] e pos) (Gp4 te (gName i)):=by
 intro pins s σ H D I h
 refine wpAny_Assign_Name (thn (he pins s σ H _ I h) fun v s1 ⟨y,H1,I1,r1,q1⟩=>?_) hs
 exact Wl I1 hN hi hx r1 (fun s2 I2=>⟨_,H1,I2,q1⟩) hf
def Hca(i j:Nat)(ta:TA):TS:=fun D σ H=>ta σ H fun vs H1=>∃ v w,vs=[v,w]/\D.nx ((σ.set i (some v)).set j (some w)) H1
def Guy{i j:Nat}{x y:Str}{a b:Expr}{ta:TA}{px py pt:Pos}{kt k2 pt2}(hc:X.calm=true)(hN:X.N.Nodup)(hi:X.N[i]?=some x)(hj:X.N[j]?=some y)(hij:i≠j)
  (hx:X.env.scope.names.lookup x=some .local) (hy:X.env.scope.names.lookup y=some .local) (ha:PA X [a,b] ta)
  (hw:swappedStores [.Tuple [.Name x px,.Name y py] kt pt] (.Tuple [a,b] k2 pt2) X.env=pure (some [x,y]))
  (hs:swapsWithSole [.Tuple [.Name x px,.Name y py] kt pt] (.Tuple [a,b] k2 pt2) pos.line X.env=pure false:=by rfl):
  PS X (.Assign [.Tuple [.Name x px,.Name y py] kt pt] (.Tuple [a,b] k2 pt2) pos) (Hca i j ta):=by
 intro pins s σ H D I h
 rw[exec_Assign_arm]
 refine wpAny_bind (wpAny_standAt ?_)
 rw[hs]
 refine wpAny_bind (wpAny_pure ?_)
 rw[if_neg (by decide)]
 refine wpAny_bind (Tuple_ (thn (ha _ pins s σ H _ I h) fun us s1 ⟨vs,H1,I1,r1,q1⟩=>?_))
 obtain⟨v,w,e1,q1⟩:=q1
 subst e1
 obtain⟨u1,u2,rfl,rv,rw'⟩:∃ u1 u2,us=[u1,u2]/\Hf v u1/\Hf w u2:=by
  cases r1 with
  | cons p q=>
   cases q with
   | cons p' q'=>
    cases q'
    exact⟨_,_,rfl,p,p'⟩
 refine wpAny_newObj_type ?_ (by show 2<=sizeLine; decide)
 have I2:Inv X pins σ H1 { s1 with heap:=s1.heap.push { cls:=.type "tuple",data:=.seq [u1,u2].toArray } }:=I1.kept (t':=s1.toks) fun b o e=>Ao _ e
 rw[hw]
 refine wpAny_bind (wpAny_pure ?_)
 show wpAny (model X.prog X.w) X.A (do rule "assign.swapped-stores"; let items <- unpackItems (.ref s1.heap.objs.size) 2 none; assignInOrder [fun v=>bindName X.env y v,fun v=>bindName X.env x v] items.reverse; pure Flow.next) _ _ _
 refine wpAny_bind (wpAny_rule (wpAny_bind (unpackItems_tuple (items:=#[u1,u2]) (I.ok.hd hc) (IsTup.new s1.heap _) fun h' hx'=>?_)))
 have I3:=I2.kept (h':=h') (t':=s1.toks) fun b o e=>hx' b o (Ax (Ag e)) e
 show wpAny _ _ (assignInOrder [fun v=>bindName X.env y v,fun v=>bindName X.env x v] [u2,u1] >>= fun _=>pure Flow.next) _ _ _
 refine wpAny_bind (assignInOrder_cons (wpAny_bindName (Wl I3 hN hj (.inl hy) rw' (fun s2 I4=>?_) (.inr hy))))
 refine assignInOrder_cons (wpAny_bindName (Wl I4 hN hi (.inl hx) rv (fun s3 I5=>assignInOrder_nil (wpAny_pure ?_)) (.inr hx)))
 rw[List.set_comm _ _ (Ne.symm hij)] at I5
 exact⟨_,H1,I5,q1⟩
def Gzf(i:Nat)(te:TE)(ti:TIp):TS:=fun D σ H=>∃ x,σ[i]?=some (some x)/\te σ H fun y H1=>ti x y H1 fun z H2=>D.nx (σ.set i (some z)) H2
def Guz{i:Nat}{x:Str}{e:Expr}{te:TE}{op:Operator}{ti:TIp}{pos':Pos}(hN:X.N.Nodup)(hi:X.N[i]?=some x)(hx:Loc X.env.scope x)(he:PE X e te)(ho:PIp X op ti)(hf:X.fn x=true\/X.env.scope.names.lookup x=some .local:=by first | exact .inl rfl | exact .inr rfl | assumption):
  PS X (.AugAssign (.Name x pos') op e pos) (Gzf i te ti):=by
 intro pins s σ H D I h
 obtain⟨v,e1,h⟩:=h
 obtain⟨m,hn,hl⟩:=I.loc
 have vis:Vis X.env.scope x:=by rcases hx with k | k; exact .inl k; exact .inr (.inl k)
 obtain⟨u,r,l⟩:=hl i x v hi e1 vis
 refine wpAny_AugAssign_Name ?_
 have go:wpAny (model X.prog X.w) X.A (eval e X.env) (fun w s₂=>wpAny (model X.prog X.w) X.A (inplaceOp op u w) (fun r s₃=>wpAny (model X.prog X.w) X.A (storeName X.env x r) (fun _=>SP X pins D .next) X.xe s₃) X.xe s₂) X.xe s:=by
  refine thn (he pins s σ H _ I h) fun w s1 ⟨y,H1,I1,r1,q1⟩=>?_
  refine thn (ho pins s1 σ H1 v y u w _ I1 r r1 q1) fun z s2 ⟨zv,H2,I2,r2,q2⟩=>?_
  exact Wl I2 hN hi hx r2 (fun s3 I3=>⟨_,H2,I3,q2⟩) hf
 rcases l with⟨hk,hm⟩ | ⟨hk,c,hc,hcell⟩
 ·exact wpAny_loadName_local I.ok.kind hk hn hm go
 ·rcases hk with hk | hk
  ·exact wpAny_loadName_cell I.ok.kind hk hc hcell go
  ·rcases hx with k | k
   ·have:X.env.scope.names.lookup x=some .free:=hk
    rw[k] at this; cases this
   ·have:X.env.scope.names.lookup x=some .free:=hk
    rw[k] at this; cases this
def ipI(f:Int->Int->Int):TIp:=fun x y H Q=>∃ i j,x=.int i/\y=.int j/\Q (.int (f i j)) H
def Gu0:PIp X .Add (ipI fun i j=>i+j):=by
 intro pins s σ H x y v u Q I r1 r2 h
 obtain⟨i,j,e1,e2,q⟩:=h
 subst e1; subst e2
 obtain⟨t,rfl⟩:=r1
 obtain⟨t',rfl⟩:=r2
 exact iadd_int ⟨.int _,H,I.tok _,⟨_,rfl⟩,q⟩
end
section
variable{X:Cx}{pos:Pos}
def Gu1(c:TT)(tb:TS):TS:=fun D σ H=>∃ W:Nat->St->Hp->Prop,(∃ m,W m σ H)/\∀ m σ H,W m σ H→
 c σ H fun b H1=>if b=true then ∃ N:St->Hp->Prop,(∀ σ' H',N σ' H'->∃ m',m'<m/\W m' σ' H')/\tb { D with nx:=N,ct:=N,bk:=D.nx } σ H1 else D.nx σ H1
def Gl2{c:Expr}{body:List Stmt}{tc:TT}{tb:TS}(hp:PassesOwn (model X.prog X.w) X.A X.env X.xe)(hc:PT X c tc)(hb:PSs X body tb):PS X (.While c body [] pos) (Gu1 tc tb):=by
 intro pins s σ H D I h
 obtain⟨W,⟨m0,w0⟩,turn⟩:=h
 refine wpAny_While (codeAny_whileLoop (fun n s'=>∃ σ' H',Inv X pins σ' H' s'/\W n σ' H') ?_ m0 ⟨σ,H,I,w0⟩)
 rintro n s1 ⟨σ1,H1,I1,w1⟩
 refine wpAny_passesOwn hp (thn (hc pins s1 σ1 H1 _ I1 (turn n σ1 H1 w1)) fun b s2 ⟨H2,I2,q2⟩=>?_)
 cases b with
 | true=>
  obtain⟨N,hN,q2⟩:=q2
  rw[if_pos rfl]
  refine wpAny_passesOwn hp (thn (hb pins s2 σ1 H2 _ I2 q2) fun f s3 q3=>?_)
  cases f with
  | next=>
   obtain⟨σ3,H3,I3,n3⟩:=q3
   obtain⟨m',hm,w3⟩:=hN σ3 H3 n3
   exact⟨m',hm,σ3,H3,I3,w3⟩
  | cont=>
   obtain⟨σ3,H3,I3,n3⟩:=q3
   obtain⟨m',hm,w3⟩:=hN σ3 H3 n3
   exact⟨m',hm,σ3,H3,I3,w3⟩
  | brk=>exact q3
  | ret v=>exact q3
 | false=>
  rw[if_neg An]
  exact wpAny_execs_nil ⟨σ1,H2,I2,q2⟩
end
structure It where
 go:Nat->Hp->Prop
 yld:Nat->Hp->V->Hp->Prop
 stop:Nat->Hp->Prop
def Gdo(X:Cx)(pins:List (BB×Obj))(H:Hp)(b:BB):Prop:=
 H b=none/\b≠X.env.locals/\b∉X.fs/\(b∈X.ex\/X.s₀.heap.objs.size<=b)/\(∀ x c,X.env.cells.lookup x=some c->c≠b)/\∀ p∈X.pn++pins,p.1≠b
def Inv.fpOk{X:Cx}{pins:List (BB×Obj)}{σ:St}{H H':Hp}{s:BA}{b:BB}(I:Inv X pins σ H s)(hb:s.heap.objs.size<=b)(hn:H' b=none):Gdo X pins H' b:=by
 refine⟨hn,Bl (Ai I.lt hb),I.nofs hb,.inr (Aj I.sz hb),fun x c e z=>?_,fun p hp z=>?_⟩
 ·obtain⟨v,q⟩:=I.cell x c e
  exact absurd (Ai q.lt (by rw[z]; exact hb)) (AA _)
 ·exact absurd (Ai (Ag (I.pin p hp).1) (by rw[z]; exact hb)) (AA _)
structure Turn(P:BD)(w:World)(K:By)(tg:Expr)(J:It)(fp:List BB)(it:BB)(tn:Nat->Heap->Prop):Prop where
 mem:it∈fp
 obj:∀ i h,tn i h->∀ b∈fp,∃ o,h.get? b=some o/\∀ v,o.data≠.cell v
 keep:∀ i h h',tn i h->(∀ b∈fp,∀ o,h.get? b=some o->h'.get? b=some o)->tn i h'
 item:∀ (X:Cx),X.prog=P->X.w=w->X.K=K->X.calm=true->∀ (i:Nat) (pins:List (BB×Obj)) (s:BA) (σ:St) (H:Hp) (E:Bz->BA->Prop),Inv X pins σ H s->(∀ b∈fp,Gdo X pins H b)->tn i s.heap->J.go i H→
  wpAny (model P w) X.A (pyNext (.ref it)) (fun r s1=>∃ u,r=some u∧
   wpAny (model P w) X.A (letOwnedTupleGo tg (.ref it) u) (fun _ s2=>∃ x H',Inv X pins σ H' s2/\Hf x u/\J.yld i H x H'/\tn (i+1) s2.heap/\∀ b∈fp,H' b=none) E s1) E s
 done:∀ (X:Cx),X.prog=P->X.w=w->X.K=K->X.calm=true->∀ (i:Nat) (pins:List (BB×Obj)) (s:BA) (σ:St) (H:Hp) (E:Bz->BA->Prop),Inv X pins σ H s->(∀ b∈fp,Gdo X pins H b)->tn i s.heap->J.stop i H→
  wpAny (model P w) X.A (pyNext (.ref it)) (fun r s1=>r=none/\Inv X pins σ H s1) E s
 self:∀ (A:Around) (i:Nat) (s:BA) (Q:Bz->BA->Prop) (E:Bz->BA->Prop),tn i s.heap->Q (.ref it) s->wpAny (model P w) A (pyIter (.ref it)) Q E s
abbrev TI:=St->Hp->(It->Hp->Prop)->Prop
def PIE(X:Cx)(pins:List (BB×Obj))(σ:St)(tg:Expr)(R:It->Hp->Prop)(itv:Bz)(s2:BA):Prop:=
 ∃ (it:BB) (fp:List BB) (tn:Nat->Heap->Prop) (J:It) (H':Hp),itv=.ref it/\Inv X pins σ H' s2/\Turn X.prog X.w X.K tg J fp it tn/\tn 0 s2.heap/\(∀ b∈fp,Gdo X pins H' b)/\R J H'
def PI(X:Cx)(tg iter:Expr)(wi:TI):Prop:=
 ∀ (pins:List (BB×Obj)) (s:BA) (σ:St) (H:Hp) (R:It->Hp->Prop),Inv X pins σ H s->wi σ H R→
  wpAny (model X.prog X.w) X.A (eval iter X.env) (fun v s1=>wpAny (model X.prog X.w) X.A (pyIter v) (PIE X pins σ tg R) X.xe s1) X.xe s
def Gl3{M:Model}{A:Around}{E:Bz->BA->Prop}{s:BA}{tg:Expr}{it:BB}{u:Bz}{o:Obj}{n:String}{vs:Array Bz}{Q:Unit->BA->Prop}(ho:s.heap.get? it=some o)(hc:o.cls=.type n)(hd:o.data=.fields vs)
  (hn:["enumerate","zip","dict_itemiterator","dict_reverseitemiterator","odict_iterator","itertools.zip_longest","itertools.pairwise"].contains n=false) (hQ:Q () s):wpAny M A (letOwnedTupleGo tg (.ref it) u) Q E s:=by
 unfold letOwnedTupleGo
 cases tg<;>first
  | exact wpAny_pure hQ
  | (cases u<;>first
    | exact wpAny_pure hQ
    | (refine wpAny_bind (wpAny_load ho ?_)
       rw[hc,hd]
       show wpAny M A (if(["enumerate","zip","dict_itemiterator","dict_reverseitemiterator","odict_iterator","itertools.zip_longest","itertools.pairwise"].contains n&&vs[0]?==some (rawInt _))=true then _ else _) Q E s
       rw[if_neg (by intro h; rw[hn,Bool.false_and] at h; cases h)]
       exact wpAny_pure hQ))
noncomputable def Itl(K:By)(a:BB):It:=
 ⟨fun i H=>∃ xs x,SqL K H a xs/\xs[i]?=some x,fun i H x H'=>H'=H/\∀ xs,SqL K H a xs->xs[i]?=some x,fun i H=>∃ xs,SqL K H a xs/\xs.length<=i⟩
noncomputable def Itt(K:By)(a:BB):It:=
 ⟨fun i H=>∃ xs x,SqT K H a xs/\xs[i]?=some x,fun i H x H'=>H'=H/\∀ xs,SqT K H a xs->xs[i]?=some x,fun i H=>∃ xs,SqT K H a xs/\xs.length<=i⟩
noncomputable def Itr(lo:Int)(n:Nat):It:=⟨fun i _=>i<n,fun i H x H'=>H'=H/\x=.int (lo+i),fun i _=>n<=i⟩
def turn_list{P:BD}{w:World}{K:By}{tg:Expr}(a it:BB):Turn P w K tg (Itl K a) [it] it (fun i h=>h.IsListIter it a i) where
 mem:=by simp
 obj:=fun i h st b hb=>by
  have e:b=it:=by simpa using hb
  subst e
  obtain⟨o,e,c,d⟩:=st
  exact⟨o,e,fun v z=>by rw[d] at z; cases z⟩
 keep:=fun i h h' st k=>st.at fun o e=>k it (by simp) o e
 item:=by
  intro X hP hw hK hc i pins s σ H E I hf st hg
  subst hP hw hK
  obtain⟨xs,x,hq,hx⟩:=hg
  obtain⟨its,rv,p,hz⟩:=I.list hq
  obtain⟨u,hu,ru⟩:=rv.get hx
  obtain⟨f0,f1,f2,f3,f4,f5⟩:=hf it (by simp)
  refine wpAny_pyNext_list_item st p.isList (x:=u) (by simpa using hu) fun h' st' sb=>?_
  have I1:Inv X pins σ H { s with heap:=h' }:=I.turned (t':=s.toks) (fun b o hb e=>(sb.2 b hb).trans e) f0 f1 f3 f4 f5
  obtain⟨o,e,c,d⟩:=id st'
  exact⟨u,rfl,Gl3 (s:={ s with heap:=h' }) e c d (by decide) ⟨x,H,I1,ru,⟨rfl,fun ys hy=>by rw[I.list_inj hy hq]; exact hx⟩,st',fun b hb=>(hf b hb).1⟩⟩
 done:=by
  intro X hP hw hK hc i pins s σ H E I hf st hg
  subst hP hw hK
  obtain⟨xs,hq,hx⟩:=hg
  obtain⟨its,rv,p,hz⟩:=I.list hq
  obtain⟨f0,f1,f2,f3,f4,f5⟩:=hf it (by simp)
  have hl:=rv.length
  exact wpAny_pyNext_list_end (I.ok.hd hc) st p.isList (by simp; omega) fun h' eb=>⟨rfl,I.turned (t':=s.toks) (fun b o hb e=>eb b o hb e) f0 f1 f3 f4 f5⟩
 self:=fun _ _ _ _ _ st h=>wpAny_pyIter_listiter st h
def turn_tuple{P:BD}{w:World}{K:By}{tg:Expr}(a it:BB):Turn P w K tg (Itt K a) [it] it (fun i h=>h.IsTupleIter it a i) where
 mem:=by simp
 obj:=fun i h st b hb=>by
  have e:b=it:=by simpa using hb
  subst e
  obtain⟨o,e,c,d⟩:=st
  exact⟨o,e,fun v z=>by rw[d] at z; cases z⟩
 keep:=fun i h h' st k=>st.at fun o e=>k it (by simp) o e
 item:=by
  intro X hP hw hK hc i pins s σ H E I hf st hg
  subst hP hw hK
  obtain⟨xs,x,hq,hx⟩:=hg
  obtain⟨its,rv,p,hz⟩:=I.tuple hq
  obtain⟨u,hu,ru⟩:=rv.get hx
  obtain⟨f0,f1,f2,f3,f4,f5⟩:=hf it (by simp)
  refine wpAny_pyNext_tuple_item st (show s.heap.IsTuple a its.toArray from p) (x:=u) (by simpa using hu) fun h' st' sb=>?_
  have I1:Inv X pins σ H { s with heap:=h' }:=I.turned (t':=s.toks) (fun b o hb e=>(sb.2 b hb).trans e) f0 f1 f3 f4 f5
  obtain⟨o,e,c,d⟩:=id st'
  exact⟨u,rfl,Gl3 (s:={ s with heap:=h' }) e c d (by decide) ⟨x,H,I1,ru,⟨rfl,fun ys hy=>by rw[I.tuple_inj hy hq]; exact hx⟩,st',fun b hb=>(hf b hb).1⟩⟩
 done:=by
  intro X hP hw hK hc i pins s σ H E I hf st hg
  subst hP hw hK
  obtain⟨xs,hq,hx⟩:=hg
  obtain⟨its,rv,p,hz⟩:=I.tuple hq
  obtain⟨f0,f1,f2,f3,f4,f5⟩:=hf it (by simp)
  have hl:=rv.length
  exact wpAny_pyNext_tuple_end (I.ok.hd hc) st (show s.heap.IsTuple a its.toArray from p) (by simp; omega) fun h' eb=>⟨rfl,I.turned (t':=s.toks) (fun b o hb e=>eb b o hb e) f0 f1 f3 f4 f5⟩
 self:=fun _ _ _ _ _ st h=>wpAny_pyIter_tupleiter st h
def turn_range{P:BD}{w:World}{K:By}{tg:Expr}(it:BB)(lo:Int)(n:Nat):Turn P w K tg (Itr lo n) [it] it (fun i h=>IsRangeIter h it (lo+(i:Nat)*1) ((n:Int)-(i:Nat)) 1) where
 mem:=by simp
 obj:=fun i h st b hb=>by
  have e:b=it:=by simpa using hb
  subst e
  exact⟨_,st,fun v z=>by
   have z':Data.fields _=Data.cell v:=z
   cases z'⟩
 keep:=fun i h h' st k=>k it (by simp) _ st
 item:=by
  intro X hP hw hK hc i pins s σ H E I hf st hg
  subst hP hw hK
  obtain⟨f0,f1,f2,f3,f4,f5⟩:=hf it (by simp)
  have W:=Walks.range (prog:=X.prog) (w:=X.w) (I.ok.hd hc) it lo 1 n
  refine W.item i s _ _ hg st fun v h' tk hv st' kk=>?_
  obtain⟨t,rfl⟩:=hv
  have I1:Inv X pins σ H { s with heap:=h',toks:=tk }:=I.turned (fun b o hb e=>kk b o (by simpa using hb) e) f0 f1 f3 f4 f5
  refine⟨_,rfl,Gl3 (s:={ s with heap:=h',toks:=tk }) (n:="range_iterator") st' rfl rfl (by decide) ⟨.int (lo+i),H,I1,⟨t,?_⟩,⟨rfl,rfl⟩,st',fun b hb=>(hf b hb).1⟩⟩
  rw[Int.mul_one]
 done:=by
  intro X hP hw hK hc i pins s σ H E I hf st hg
  subst hP hw hK
  obtain⟨f0,f1,f2,f3,f4,f5⟩:=hf it (by simp)
  exact wpAny_pyNext_range_end (I.ok.hd hc) st (by have:n<=i:=hg; omega) fun h' eb=>⟨rfl,I.turned (t':=s.toks) (fun b o hb e=>eb b o hb e) f0 f1 f3 f4 f5⟩
 self:=fun _ _ _ _ _ st h=>wpAny_pyIter_rangeiter st h
section
variable{X:Cx}{tg:Expr}
def Ggg{pins:List (BB×Obj)}{σ:St}{H:Hp}{s:BA}{R:It->Hp->Prop}{E:Bz->BA->Prop}{lo hi:Int}{t u v:Tok}{tk:Nat}(I:Inv X pins σ H s)(h1 : -(2^62)<=lo)(h2:lo<2^62)(h3 : -(2^62)<=hi)(h4:hi<2^62)
  (q:R (Itr lo (hi-lo).toNat) H):wpAny (model X.prog X.w) X.A (pyIter (.ref s.heap.objs.size)) (PIE X pins σ tg R) E { s with heap:=s.heap.push { cls:=.type "range",data:=.fields #[.int lo t,.int hi u,.int 1 v] },toks:=tk }:=by
 refine wpAny_pyIter_range (IsRange.new ..) (small_one h1 h2 h3 h4) ?_
 have I1:Inv X pins σ H { s with heap:=s.heap.push { cls:=.type "range",data:=.fields #[.int lo t,.int hi u,.int 1 v] },toks:=tk }:=I.kept fun b o e=>Ao _ e
 refine⟨(s.heap.push { cls:=.type "range",data:=.fields #[.int lo t,.int hi u,.int 1 v] }).objs.size,[(s.heap.push { cls:=.type "range",data:=.fields #[.int lo t,.int hi u,.int 1 v] }).objs.size],_,_,H,rfl,
  I1.kept (t':=tk) fun b o e=>Ao _ e,turn_range _ lo (hi-lo).toNat,?_,fun b hb=>?_,q⟩
 ·have e1:lo+((0:Nat):Int)*1=lo:=by simp
  have e2:(((hi-lo).toNat:Nat):Int)-((0:Nat):Int)=Builtin.Range.rangeSize lo hi 1:=by rw[rangeSize_one]; split<;>omega
  show IsRangeIter _ _ (lo+((0:Nat):Int)*1) ((((hi-lo).toNat:Nat):Int)-((0:Nat):Int)) 1
  rw[e1,e2]
  exact AD _ rfl
 ·have e:b=(s.heap.push { cls:=.type "range",data:=.fields #[.int lo t,.int hi u,.int 1 v] }).objs.size:=by simpa using hb
  subst e
  exact I1.fpOk (Ab _) (I1.hok.fresh (Ab _))
def Gzg(ta:TA):TI:=fun σ H R=>ta σ H fun vs H1=>∃ j:Int,vs=[.int j] /\ -(2^62)<=j/\j<2^62/\R (Itr 0 j.toNat) H1
def Gzh(ta:TA):TI:=fun σ H R=>ta σ H fun vs H1=>∃ i j:Int,vs=[.int i,.int j]/\(-(2^62)<=i/\i<2^62 /\ -(2^62)<=j/\j<2^62)/\R (Itr i (j-i).toNat) H1
def Gk2{a:Expr}{ta:TA}{p pos:Pos}(hg:Gl X "range")(hm:X.mg "range"=none)(ha:PA X [a] ta)(hs:starEach [a] X.env=[(false,eval a X.env)]:=by rfl):PI X tg (.Call (.Name "range" p) [a] [] pos) (Gzg ta):=by
 intro pins s σ H R I h
 refine Call_ (Xx I hg hm boot_range (PyProof.Rows.callWith_type1 (thn (ha pos pins s σ H _ I h) fun us s1 ⟨vs,H1,I1,r1,q1⟩=>?_) hs rfl))
 obtain⟨j,e,q1,q2,q⟩:=q1
 subst e
 cases r1 with
 | cons r rr=>
  cases rr
  obtain⟨t,rfl⟩:=r
  exact call_range_1 (Ggg I1 (by omega) (by omega) q1 q2 (by simpa using q))
def Gk3{a b:Expr}{ta:TA}{p pos:Pos}(hg:Gl X "range")(hm:X.mg "range"=none)(ha:PA X [a,b] ta)(hs:starEach [a,b] X.env=[(false,eval a X.env),(false,eval b X.env)]:=by rfl)(hs2:starEach [b] X.env=[(false,eval b X.env)]:=by rfl):
  PI X tg (.Call (.Name "range" p) [a,b] [] pos) (Gzh ta):=by
 intro pins s σ H R I h
 refine Call_ (Xx I hg hm boot_range (PyProof.Rows.callWith_type1 (thn (ha pos pins s σ H _ I h) fun us s1 ⟨vs,H1,I1,r1,q1⟩=>?_) (by rw[hs,hs2]) (by rw[hs2]; rfl)))
 obtain⟨i,j,e,⟨q1,q2,q3,q4⟩,q⟩:=q1
 subst e
 cases r1 with
 | cons r rr=>
  cases rr with
  | cons r' rr=>
   cases rr
   obtain⟨t,rfl⟩:=r
   obtain⟨t',rfl⟩:=r'
   exact call_range_2 (Ggg I1 q1 q2 q3 q4 q)
def Hcb(wi:TI)(g:TG)(tb:TS):TS:=fun D σ H=>wi σ H fun J H1=>∃ W:Nat->Nat->St->Hp->Prop,(∃ m,W 0 m σ H1)/\∀ i m σ H,W i m σ H→
 (J.stop i H/\D.nx σ H)\/(J.go i H/\∃ N:St->Hp->Prop,(∀ σ' H',N σ' H'->∃ m',m'<m/\W (i+1) m' σ' H')/\∀ x H',J.yld i H x H'->g x σ H' fun σ2 H2=>tb { D with nx:=N,ct:=N,bk:=D.nx } σ2 H2)
noncomputable def Gck(fp:List BB)(h:Heap):List (BB×Obj):=fp.filterMap fun b=>(h.get? b).map fun o=>(b,o)
def Xa{fp:List BB}{h:Heap}{b:BB}{o:Obj}(hb:b∈fp)(e:h.get? b=some o):(b,o)∈Gck fp h:=List.mem_filterMap.mpr ⟨b,hb,by rw[e]; rfl⟩
def Gk4{fp:List BB}{h:Heap}{p:BB×Obj}(hp:p∈Gck fp h):p.1∈fp/\h.get? p.1=some p.2:=by
 obtain⟨b,hb,e⟩:=List.mem_filterMap.mp hp
 cases q:h.get? b with
 | none=>rw[q] at e; cases e
 | some o=>
  rw[q] at e
  have e':(b,o)=p:=Ac e
  subst e'
  exact⟨hb,q⟩
def Inv.pinned{pins:List (BB×Obj)}{σ:St}{H:Hp}{s:BA}{fp:List BB}(I:Inv X pins σ H s)(hf:∀ b∈fp,Gdo X pins H b)(ho:∀ b∈fp,∃ o,s.heap.get? b=some o/\∀ v,o.data≠.cell v):Inv X (pins++Gck fp s.heap) σ H s:=
 I.pins_of fun p hp=>(AF.mp hp).elim (fun z=>I.pin p (AM _ z)) fun z=>by
  obtain⟨hb,e⟩:=Gk4 z
  obtain⟨f0,f1,f2,_⟩:=hf p.1 hb
  obtain⟨o,e',d⟩:=ho p.1 hb
  rw[e] at e'; cases e'
  exact⟨e,f0,f1,f2,d⟩
def Inv.unpinned{pins pl:List (BB×Obj)}{σ:St}{H:Hp}{s:BA}(I:Inv X (pins++pl) σ H s):Inv X pins σ H s:=I.pins_of fun p hp=>I.pin p (AM _ (Bk _ hp))
def Gu2{iter:Expr}{body:List Stmt}{wi:TI}{g:TG}{tb:TS}{pos:Pos}(hp:PassesOwn (model X.prog X.w) X.A X.env X.xe)(hc:X.calm=true)(hi:PI X tg iter wi)(hg:PG X tg g)(hb:PSs X body tb)
  (hs:∀ x,foldedSetIterable iter X.env x=pure x:=by intro _; rfl):PS X (.For tg iter body [] pos) (Hcb wi g tb):=by
 intro pins s σ H D I h
 refine wpAny_For (thn (hi pins s σ H _ I h) fun v s1 h1=>thn h1 fun itv s2 h2=>?_) hs
 obtain⟨it,fp,tn,J,H2,e,I2,T,st2,f2,W,⟨m0,w0⟩,turn⟩:=h2
 subst e
 have stat:∀ {H':Hp},(∀ b∈fp,H' b=none)->∀ b∈fp,Gdo X pins H' b:=fun hn b hb=>⟨hn b hb,(f2 b hb).2⟩
 refine codeAny_forLoop_any (fun n s'=>∃ i σ' H',Inv X pins σ' H' s'/\tn i s'.heap/\(∀ b∈fp,H' b=none)/\W i n σ' H') ?_ m0 ⟨0,σ,H2,I2,st2,fun b hb=>(f2 b hb).1,w0⟩
 rintro n s3 ⟨i,σ3,H3,I3,st3,fr3,w3⟩
 rcases turn i n σ3 H3 w3 with⟨stop,qn⟩ | ⟨go,N,hN,step⟩
 ·refine wpAny_passesOwn hp (thn (T.done X rfl rfl rfl hc i pins s3 σ3 H3 X.xe I3 (stat fr3) st3 stop) fun r s4 ⟨hr,I4⟩=>?_)
  subst hr
  exact wpAny_execs_nil ⟨σ3,H3,I4,qn⟩
 ·refine wpAny_passesOwn hp (thn (T.item X rfl rfl rfl hc i pins s3 σ3 H3 X.xe I3 (stat fr3) st3 go) fun r s4 ⟨u,hr,h4⟩=>?_)
  subst hr
  refine wpAny_passesOwn hp (thn h4 fun _ s5 ⟨x,H5,I5,r5,y5,st5,fr5⟩=>?_)
  have I5':=I5.pinned (stat fr5) (T.obj _ _ st5)
  refine wpAny_passesOwn hp (thn (hg _ s5 σ3 H5 x u _ I5' r5 (step x H5 y5)) fun _ s6 ⟨σ6,H6,I6,q6⟩=>?_)
  refine wpAny_passesOwn hp (thn (hb _ s6 σ6 H6 _ I6 q6) fun f s7 q7=>?_)
  have again:∀ {σ7:St} {H7:Hp},Inv X (pins++Gck fp s5.heap) σ7 H7 s7->N σ7 H7->∃ m,m<n/\∃ i σ' H',Inv X pins σ' H' s7/\tn i s7.heap/\(∀ b∈fp,H' b=none)/\W i m σ' H':=fun{σ7 H7} I7 n7=>by
   obtain⟨m',hm,w7⟩:=hN σ7 H7 n7
   refine⟨m',hm,i+1,σ7,H7,I7.unpinned,T.keep _ _ _ st5 fun b hb o e=>(I7.pin (b,o) (AM _ (AM _ (Xa hb e)))).1,fun b hb=>?_,w7⟩
   obtain⟨o,e,d⟩:=T.obj _ _ st5 b hb
   exact(I7.pin (b,o) (AM _ (AM _ (Xa hb e)))).2.1
  cases f with
  | next=>obtain⟨σ7,H7,I7,n7⟩:=q7; exact again I7 n7
  | cont=>obtain⟨σ7,H7,I7,n7⟩:=q7; exact again I7 n7
  | brk=>obtain⟨σ7,H7,I7,q7⟩:=q7; exact⟨σ7,H7,I7.unpinned,q7⟩
  | ret v=>obtain⟨x7,σ7,H7,I7,r7,q7⟩:=q7; exact⟨x7,σ7,H7,I7.unpinned,r7,q7⟩
end
abbrev R2:=V->V->Hp->VK->Prop
def OpR(X:Cx)(f:Bz->Bz->Sem Bz)(r:R2):Prop:=
 ∀ (pins:List (BB×Obj)) (s:BA) (σ:St) (H:Hp) (x y:V) (v u:Bz) (Q:VK),Inv X pins σ H s->Hf x v->Hf y u->r x y H Q→
  wpAny (model X.prog X.w) X.A (f v u) (EP X pins σ Q) X.xe s
def UnR(X:Cx)(f:Bz->Sem Bz)(r:V->Hp->VK->Prop):Prop:=
 ∀ (pins:List (BB×Obj)) (s:BA) (σ:St) (H:Hp) (x:V) (v:Bz) (Q:VK),Inv X pins σ H s->Hf x v->r x H Q→
  wpAny (model X.prog X.w) X.A (f v) (EP X pins σ Q) X.xe s
def Xq(X:Cx)(f:Bz)(r:List V->Hp->VK->Prop):Prop:=
 ∀ (pins:List (BB×Obj)) (s:BA) (σ:St) (H:Hp) (xs:List V) (us:List Bz) (Q:VK),Inv X pins σ H s->Vals xs us->r xs H Q→
  wpAny (model X.prog X.w) X.A (call f us) (EP X pins σ Q) X.xe s
def Hcc(X:Cx)(r:V->Hp->(Bool->Hp->Prop)->Prop):Prop:=
 ∀ (pins:List (BB×Obj)) (s:BA) (σ:St) (H:Hp) (x:V) (v:Bz) (Q:Bool->Hp->Prop),Inv X pins σ H s->Hf x v->r x H Q→
  wpAny (model X.prog X.w) X.A (truthy v) (TP X pins σ Q) X.xe s
def tOp(r:R2)(ta tb:TE):TE:=fun σ H Q=>ta σ H fun x H1=>tb σ H1 fun y H2=>r x y H2 Q
def tUn(r:V->Hp->VK->Prop)(ta:TE):TE:=fun σ H Q=>ta σ H fun x H1=>r x H1 Q
def rI(C:Int->Int->Prop)(g:Int->Int->V):R2:=fun x y H Q=>∃ i j,x=.int i/\y=.int j/\C i j/\Q (g i j) H
def rI0(g:Int->Int->V):R2:=fun x y H Q=>∃ i j,x=.int i/\y=.int j/\Q (g i j) H
def rU(g:Int->V):V->Hp->VK->Prop:=fun x H Q=>∃ i,x=.int i/\Q (g i) H
section
variable{X:Cx}{a b c:Expr}{ta tb tc:TE}{pos:Pos}
def Gu3(ha:PE X a ta)(hb:PE X b tb){pins:List (BB×Obj)}{s:BA}{σ:St}{H:Hp}{R:V->V->Hp->Prop}(I:Inv X pins σ H s)
  (h:ta σ H fun x H1=>tb σ H1 fun y H2=>R x y H2) {Q:Bz->BA->Prop} {f:Bz->Bz->Sem Bz}
  (hf:∀ v u s2 x y H2,Inv X pins σ H2 s2->Hf x v->Hf y u->R x y H2->wpAny (model X.prog X.w) X.A (f v u) Q X.xe s2):
  wpAny (model X.prog X.w) X.A (eval a X.env) (fun v s₁=>wpAny (model X.prog X.w) X.A (eval b X.env) (fun u s₂=>wpAny (model X.prog X.w) X.A (f v u) Q X.xe s₂) X.xe s₁) X.xe s:=by
 refine thn (ha pins s σ H _ I h) fun v s1 ⟨x,H1,I1,r1,q1⟩=>?_
 refine thn (hb pins s1 σ H1 _ I1 q1) fun u s2 ⟨y,H2,I2,r2,q2⟩=>?_
 exact hf v u s2 x y H2 I2 r1 r2 q2
def Gzi{op:Operator}{r:R2}(ho:OpR X (binaryOp op) r)(ha:PE X a ta)(hb:PE X b tb):PE X (.BinOp a op b pos) (tOp r ta tb):=by
 intro pins s σ H Q I h
 exact wpAny_BinOp (Gu3 ha hb I h fun v u s2 x y H2 I2 rx ry q=>ho pins s2 σ H2 x y v u Q I2 rx ry q)
def Gzj{op:UnaryOp}{r:V->Hp->VK->Prop}(ho:UnR X (unaryOp op) r)(ha:PE X a ta):PE X (.UnaryOp op a pos) (tUn r ta):=by
 intro pins s σ H Q I h
 exact UnaryOp_ (thn (ha pins s σ H _ I h) fun v s1 ⟨x,H1,I1,r1,q1⟩=>ho pins s1 σ H1 x v Q I1 r1 q1)
def opI{f:Bz->Bz->Sem Bz}{C:Int->Int->Prop}{g:Int->Int->Int}
  (rule:∀ (i j:Int) (t u:Tok) (s:BA) (Q:Bz->BA->Prop) (E:Bz->BA->Prop),C i j->Q (.int (g i j) s.toks) { s with toks:=s.toks+1 }->wpAny (model X.prog X.w) X.A (f (.int i t) (.int j u)) Q E s):
  OpR X f (rI C fun i j=>.int (g i j)):=by
 intro pins s σ H x y v u Q I rx ry h
 obtain⟨i,j,rfl,rfl,hc,q⟩:=h
 obtain⟨t,rfl⟩:=rx
 obtain⟨t',rfl⟩:=ry
 exact rule i j t t' s _ _ hc ⟨.int (g i j),H,I.tok _,⟨_,rfl⟩,q⟩
def opI0{f:Bz->Bz->Sem Bz}{g:Int->Int->Int}
  (rule:∀ (i j:Int) (t u:Tok) (s:BA) (Q:Bz->BA->Prop) (E:Bz->BA->Prop),Q (.int (g i j) s.toks) { s with toks:=s.toks+1 }->wpAny (model X.prog X.w) X.A (f (.int i t) (.int j u)) Q E s):
  OpR X f (rI0 fun i j=>.int (g i j)):=by
 intro pins s σ H x y v u Q I rx ry h
 obtain⟨i,j,rfl,rfl,q⟩:=h
 obtain⟨t,rfl⟩:=rx
 obtain⟨t',rfl⟩:=ry
 exact rule i j t t' s _ _ ⟨.int (g i j),H,I.tok _,⟨_,rfl⟩,q⟩
def opB0{f:Bz->Bz->Sem Bz}{g:Int->Int->Bool}
  (rule:∀ (i j:Int) (t u:Tok) (s:BA) (Q:Bz->BA->Prop) (E:Bz->BA->Prop),Q (.bool (g i j)) s->wpAny (model X.prog X.w) X.A (f (.int i t) (.int j u)) Q E s):
  OpR X f (rI0 fun i j=>.bl (g i j)):=by
 intro pins s σ H x y v u Q I rx ry h
 obtain⟨i,j,rfl,rfl,q⟩:=h
 obtain⟨t,rfl⟩:=rx
 obtain⟨t',rfl⟩:=ry
 exact rule i j t t' s _ _ ⟨.bl (g i j),H,I,rfl,q⟩
def Hcd(i j:Int):Prop:=0<=j/\j<=1000000/\i.natAbs<2^64
def CMul(i j:Int):Prop:=(-(2^64)<i/\i<2^64)\/(-(2^64)<j/\j<2^64)
def CMul.ok{i j:Int}(h:CMul i j):IntMulOk i j:=by
 rcases h with⟨h1,h2⟩ | ⟨h1,h2⟩
 ·exact .of_left (intBits_le_64 h1 h2)
 ·exact .of_right (intBits_le_64 h1 h2)
def Gu4:OpR X (binaryOp .Add) (rI0 fun i j=>.int (i+j)):=opI0 fun _ _ _ _ _ _ _ q=>add_int q
def Gu5:OpR X (binaryOp .Sub) (rI0 fun i j=>.int (i-j)):=opI0 fun _ _ _ _ _ _ _ q=>sub_int q
def Gu6:OpR X (binaryOp .Mult) (rI CMul fun i j=>.int (i*j)):=opI fun _ _ _ _ _ _ _ hc q=>mul_int q hc.ok
def Gu7:OpR X (binaryOp .Mod) (rI (fun _ j=>0<j) fun i j=>.int (i%j)):=opI fun i j _ _ _ _ _ hc q=>by
 have h1:(0:Int)<j:=hc
 exact mod_int' (by omega) (by rw[Int.fmod_eq_emod_of_nonneg i (by omega)]; exact q)
def Gu8:OpR X (binaryOp .Pow) (rI Hcd fun i j=>.int (i^j.toNat)):=opI fun _ _ _ _ _ _ _ hc q=>pow_int_small hc.1 hc.2.1 hc.2.2 q
def unI{f:Bz->Sem Bz}{g:Int->Int}
  (rule:∀ (i:Int) (t:Tok) (s:BA) (Q:Bz->BA->Prop) (E:Bz->BA->Prop),Q (.int (g i) s.toks) { s with toks:=s.toks+1 }->wpAny (model X.prog X.w) X.A (f (.int i t)) Q E s):
  UnR X f (rU fun i=>.int (g i)):=by
 intro pins s σ H x v Q I rx h
 obtain⟨i,rfl,q⟩:=h
 obtain⟨t,rfl⟩:=rx
 exact rule i t s _ _ ⟨.int (g i),H,I.tok _,⟨_,rfl⟩,q⟩
def Gu9:UnR X (unaryOp .USub) (rU fun i=>.int (-i)):=unI fun _ _ _ _ _ q=>neg_int q
end
section
variable{X:Cx}{a b c:Expr}{ta tb tc:TE}{pos:Pos}
def Gl4{pins:List (BB×Obj)}{σ:St}{H:Hp}{s:BA}{Q:VK}{k k':Bool}(I:Inv X pins σ H s)(q:Q (.bl k) H)(e:k=k'):EP X pins σ Q (.bool k') s:=by
 subst e
 exact⟨.bl k,H,I,rfl,q⟩
def Gi4:OpR X (compareOp .Lt) (rI0 fun i j=>.bl (decide (i<j))):=opB0 fun _ _ _ _ _ _ _ q=>lt_int q
def Gl5:OpR X (compareOp .LtE) (rI0 fun i j=>.bl (decide (i<=j))):=opB0 fun _ _ _ _ _ _ _ q=>le_int q
def Gzk:OpR X (compareOp .Gt) (rI0 fun i j=>.bl (decide (j<i))):=opB0 fun _ _ _ _ _ _ _ q=>gt_int q
def Gtf:OpR X (compareOp .GtE) (rI0 fun i j=>.bl (decide (j<=i))):=opB0 fun _ _ _ _ _ _ _ q=>ge_int q
def Gva:OpR X (compareOp .Is) (fun x y H Q=>y=.non/\Q (.bl (decide (x=.non))) H):=by
 intro pins s σ H x y v u Q I rx ry h
 obtain⟨rfl,q⟩:=h
 cases ry
 refine is_none_gen (Gl4 I q ?_)
 cases x<;>first
  | (cases rx; rfl)
  | (obtain⟨t,rfl⟩:=rx; rfl)
def Gp5:OpR X (compareOp .IsNot) (fun x y H Q=>y=.non/\Q (.bl (!decide (x=.non))) H):=by
 intro pins s σ H x y v u Q I rx ry h
 obtain⟨rfl,q⟩:=h
 cases ry
 refine isnot_none_gen (Gl4 I q ?_)
 cases x<;>first
  | (cases rx; rfl)
  | (obtain⟨t,rfl⟩:=rx; rfl)
def OpR.or{f:Bz->Bz->Sem Bz}{r r':R2}(h:OpR X f r)(h':OpR X f r'):OpR X f (fun x y H Q=>r x y H Q\/r' x y H Q):=by
 intro pins s σ H x y v u Q I rx ry q
 rcases q with q | q
 ·exact h pins s σ H x y v u Q I rx ry q
 ·exact h' pins s σ H x y v u Q I rx ry q
noncomputable def nomark(b:Expr){op:CmpOp}(h:op≠.In:=by decide)(h2:op≠.NotIn:=by decide):behindInMarks op b=false:=by
 have e1:(op==CmpOp.In)=false:=by cases op<;>first | rfl | exact absurd rfl h
 have e2:(op==CmpOp.NotIn)=false:=by cases op<;>first | rfl | exact absurd rfl h2
 cases b<;>simp[behindInMarks,e1,e2]
def Gp6{op:CmpOp}{r:R2}(ho:OpR X (compareOp op) r)(ha:PE X a ta)(hb:PE X b tb)(hm:behindInMarks op b=false):PE X (.Compare a [op] [b] pos) (tOp r ta tb):=by
 intro pins s σ H Q I h
 exact wpAny_Compare1 (Gu3 ha hb I h fun v u s2 x y H2 I2 rx ry q=>ho pins s2 σ H2 x y v u Q I2 rx ry q) hm
def Gtg(t:TE):TT:=fun σ H Q=>t σ H fun x H'=>∃ k,x=.bl k/\Q k H'
def Gp7{op:CmpOp}{r:R2}(ho:OpR X (compareOp op) r)(ha:PE X a ta)(hb:PE X b tb)(hm:behindInMarks op b=false):PT X (.Compare a [op] [b] pos) (Gtg (tOp r ta tb)):=by
 intro pins s σ H Q I h
 refine wpAny_isTrue_Compare1 (thn (ha pins s σ H _ I h) fun v s1 ⟨x,H1,I1,r1,q1⟩=>thn (hb pins s1 σ H1 _ I1 q1) fun u s2 ⟨y,H2,I2,r2,q2⟩=>
  thn (ho pins s2 σ H2 x y v u _ I2 r1 r2 q2) fun c s3 ⟨z,H3,I3,r3,k,e,q3⟩=>?_) hm
 subst e
 cases r3
 exact wpAny_truthy_bool ⟨H3,I3,q3⟩
def Gl6(r r':R2)(ta tb tc:TE):TE:=fun σ H Q=>ta σ H fun x H1=>tb σ H1 fun y H2=>r x y H2 fun z H3=>∃ k,z=.bl k∧
 (if k=true then tc σ H3 fun w' H4=>r' y w' H4 Q else Q (.bl false) H3)
noncomputable def Gl7{op op':CmpOp}{r r':R2}(ho:OpR X (compareOp op) r)(ho':OpR X (compareOp op') r')(ha:PE X a ta)(hb:PE X b tb)(hc:PE X c tc)
  (hm:lastMarks [op,op'] [b,c]=false:=by with_unfolding_all rfl):PT X (.Compare a [op,op'] [b,c] pos) (Gtg (Gl6 r r' ta tb tc)):=by
 intro pins s σ H Q I h
 refine isTrue_chain (thn (ha pins s σ H _ I h) fun v s1 ⟨x,H1,I1,r1,q1⟩=>test_link (thn (hb pins s1 σ H1 _ I1 q1) fun u s2 ⟨y,H2,I2,r2,q2⟩=>
  thn (ho pins s2 σ H2 x y v u _ I2 r1 r2 q2) fun d s3 ⟨z,H3,I3,r3,k,e,q3⟩=>?_)) hm
 subst e
 cases r3
 refine wpAny_truthy_bool ?_
 cases k with
 | false=>
  obtain⟨k',e',q'⟩:=q3
  cases e'
  exact ite_ff ⟨H3,I3,q'⟩
 | true=>
  refine ite_tt (test_last (thn (hc pins s3 σ H3 _ I3 q3) fun w' s4 ⟨z',H4,I4,r4,q4⟩=>thn (ho' pins s4 σ H4 y z' u w' _ I4 r2 r4 q4) fun d' s5 ⟨z2,H5,I5,r5,k2,e2,q5⟩=>?_))
  subst e2
  cases r5
  exact wpAny_truthy_bool ⟨H5,I5,q5⟩
def Gvb(K:By)(x:V)(H:Hp)(k:Bool):Prop:=
 match x with
 | .non=>k=false
 | .bl b=>k=b
 | .int i=>k=(i != 0)
 | .str y=>y.length<=sizeLine/\k=((y.length:Int) != 0)
 | .byt y=>y.size<=sizeLine/\k=((y.size:Int) != 0)
 | .ref p=>(∃ xs,SqL K H p xs/\k=!xs.isEmpty)\/(∃ xs,SqT K H p xs/\k=!xs.isEmpty)\/∃ kvs,H p=some (.dK kvs)/\k=!kvs.isEmpty
 | _=>False
def Ght{κ:Type}{kvs:List (κ×V)}{vs:List (κ×Bz)}(r:KV kvs vs):(!vs.isEmpty)=!kvs.isEmpty:=by
 cases r<;>rfl
def Gcl{xs:List V}{its:List Bz}(r:Vals xs its):(!its.toArray.isEmpty)=!xs.isEmpty:=by
 cases r<;>simp
def Zl:(sizeLine:Nat)<2^63:=by rw[sizeLine_eq]; decide
def Gvc:Hcc X (fun x H Q=>∃ k,Gvb X.K x H k/\Q k H):=by
 intro pins s σ H x v Q I rx h
 obtain⟨k,e,q⟩:=h
 have hl:=Zl
 have hs:sizeLine=16777216:=sizeLine_eq
 cases x with
 | non=>
  cases rx
  have e':k=false:=e
  subst e'
  exact truthy_none ⟨H,I,q⟩
 | bl b=>
  cases rx
  have e':k=b:=e
  subst e'
  exact wpAny_truthy_bool ⟨H,I,q⟩
 | int i=>
  obtain⟨t,rfl⟩:=rx
  have e':k=(i != 0):=e
  subst e'
  exact PySem.P.truthy_int ⟨H,I,q⟩
 | str y=>
  obtain⟨t,rfl⟩:=rx
  obtain⟨hy,e'⟩:y.length<=sizeLine/\k=((y.length:Int) != 0):=e
  subst e'
  exact PySem.P.truthy_str (by omega) ⟨H,I.tok _,q⟩
 | byt y=>
  obtain⟨t,rfl⟩:=rx
  obtain⟨hy,e'⟩:y.size<=sizeLine/\k=((y.size:Int) != 0):=e
  subst e'
  exact PySem.W.truthy_bytes (by omega) ⟨H,I.tok _,q⟩
 | ref p=>
  cases rx
  have e':(∃ xs,SqL X.K H p xs/\k=!xs.isEmpty)\/(∃ xs,SqT X.K H p xs/\k=!xs.isEmpty)\/∃ kvs,H p=some (.dK kvs)/\k=!kvs.isEmpty:=e
  rcases e' with⟨xs,hx,e'⟩ | ⟨xs,hx,e'⟩ | ⟨kvs,hx,e'⟩
  ·subst e'
   obtain⟨its,r,pl,hz⟩:=I.list hx
   have hlen:=r.length
   exact wpAny_truthy_list pl.isList (by simp only[Ak]; omega) ⟨H,I.tok _,by rw[Gcl r]; exact q⟩
  ·subst e'
   obtain⟨its,r,pl,hz⟩:=I.tuple hx
   have hlen:=r.length
   exact truthy_tuple pl (by simp only[Ak]; omega) ⟨H,I.tok _,by rw[Gcl r]; exact q⟩
  ·subst e'
   obtain⟨hz,hS,vs,r,m⟩:kvs.length<=sizeLine/\(p==sysModules)=false/\∃ vs,KV kvs vs/\s.heap.DictOf (Giy X.prog X.w) p vs:=I.hok p _ hx
   have hlen:kvs.length=vs.length:=Paired.length r
   exact wpAny_truthy_dict hS m (by omega) ⟨H,I.tok _,by rw[Ght r]; exact q⟩
 | _=>exact(show False from e).elim
def Gl8(ha:PE X a ta)(he:∀ whole,isTrue a X.env whole=(do let v <- whole; standAt a.pos; holding [v] (truthy v))):
  PT X a (fun σ H Q=>ta σ H fun x H'=>∃ k,Gvb X.K x H' k/\Q k H'):=by
 intro pins s σ H Q I h
 exact isTrue_plain (thn (ha pins s σ H _ I h) fun v s1 ⟨x,H1,I1,r1,q1⟩=>Gvc pins s1 σ H1 x v Q I1 r1 q1) (he _)
def Ghu:OpR X (binaryOp .Add) (fun x y H Q=>∃ i j,x=.str i/\y=.str j/\i.length+j.length<=sizeLine/\Q (.str (i++j)) H):=by
 intro pins s σ H x y v u Q I rx ry h
 obtain⟨i,j,rfl,rfl,hz,q⟩:=h
 obtain⟨t,rfl⟩:=rx
 obtain⟨t',rfl⟩:=ry
 exact add_str (fun t' tk=>⟨.str (i++j),H,I.tok _,⟨_,rfl⟩,q⟩) hz
def Gcm{x:V}{us:List Bz}(r:Vals [x] us):∃ u,us=[u]/\Hf x u:=by
 cases r with
 | cons r1 r2=>cases r2; exact⟨_,rfl,r1⟩
def Gzl{x y:V}{us:List Bz}(r:Vals [x,y] us):∃ u w',us=[u,w']/\Hf x u/\Hf y w':=by
 cases r with
 | cons r1 r2=>
  cases r2 with
  | cons r3 r4=>cases r4; exact⟨_,_,rfl,r1,r3⟩
def Gk5(hc:X.calm=true):Xq X (.builtin "min") (fun xs H Q=>∃ i j,xs=[.int i,.int j]/\Q (.int (if j<i then j else i)) H):=by
 intro pins s σ H xs us Q I r h
 obtain⟨i,j,rfl,q⟩:=h
 obtain⟨u,w',rfl,⟨t,rfl⟩,⟨t',rfl⟩⟩:=Gzl r
 refine min_two_ints (I.ok.hd hc) fun h' tk k=>⟨_,H,I.kept k,?_,q⟩
 by_cases hj:j<i
 ·rw[if_pos hj,if_pos hj]; exact⟨_,rfl⟩
 ·rw[if_neg hj,if_neg hj]; exact⟨_,rfl⟩
def Gk6:Xq X (.type "int") (fun xs H Q=>(∃ i,xs=[.int i]/\Q (.int i) H)\/∃ k,xs=[.bl k]/\Q (.int (if k then 1 else 0)) H):=by
 intro pins s σ H xs us Q I r h
 rcases h with⟨i,rfl,q⟩ | ⟨k,rfl,q⟩
 ·obtain⟨u,rfl,t,rfl⟩:=Gcm r
  exact call_int_int ⟨.int i,H,I,⟨_,rfl⟩,q⟩
 ·obtain⟨u,rfl,r1⟩:=Gcm r
  cases r1
  exact call_int_bool ⟨.int (if k then 1 else 0),H,I.tok _,⟨_,rfl⟩,q⟩
def Gzm(K:By)(x:V)(H:Hp)(n:Nat):Prop:=
 match x with
 | .str y=>y.length<=sizeLine/\n=y.length
 | .byt y=>y.size<=sizeLine/\n=y.size
 | .ref p=>(∃ xs,SqL K H p xs/\n=xs.length)\/∃ xs,SqT K H p xs/\n=xs.length
 | _=>False
def Gl9:Xq X (.builtin "len") (fun xs H Q=>∃ x n,xs=[x]/\Gzm X.K x H n/\Q (.int n) H):=by
 intro pins s σ H xs us Q I r h
 obtain⟨x,n,rfl,e,q⟩:=h
 obtain⟨u,rfl,rx⟩:=Gcm r
 have hl:=Zl
 have hs:sizeLine=16777216:=sizeLine_eq
 cases x with
 | str y=>
  obtain⟨t,rfl⟩:=rx
  obtain⟨hy,e'⟩:y.length<=sizeLine/\n=y.length:=e
  subst e'
  exact len_str (by omega) ⟨.int _,H,I.tok _,⟨_,rfl⟩,q⟩
 | byt y=>
  obtain⟨t,rfl⟩:=rx
  obtain⟨hy,e'⟩:y.size<=sizeLine/\n=y.size:=e
  subst e'
  exact PySem.W.len_bytes (by omega) ⟨.int _,H,I.tok _,⟨_,rfl⟩,q⟩
 | ref p=>
  cases rx
  have e':(∃ xs,SqL X.K H p xs/\n=xs.length)\/∃ xs,SqT X.K H p xs/\n=xs.length:=e
  rcases e' with⟨xs,hx,e'⟩ | ⟨xs,hx,e'⟩
  ·subst e'
   obtain⟨its,r',pl,hz⟩:=I.list hx
   have hlen:=r'.length
   exact Calls.call_len_list pl.isList (by simp only[Ak]; omega) ⟨.int xs.length,H,I.tok _,⟨_,by simp only[Ak]; rw[hlen]⟩,q⟩
  ·subst e'
   obtain⟨its,r',pl,hz⟩:=I.tuple hx
   have hlen:=r'.length
   exact len_tuple pl (by simp only[Ak]; omega) ⟨.int xs.length,H,I.tok _,⟨_,by simp only[Ak]; rw[hlen]⟩,q⟩
 | _=>exact(show False from e).elim
end
structure ObjM(h:Heap)(x dx C:BB)(mA:Str->BC Bz):Prop where
 obj:h.get? x=some (PySem.W.instObj C dx)
 ns:h.Ns1 dx mA
 ne:dx≠x
structure Cls(K:By)(C:BB):Prop where
 pg:PySem.W.plainGet K C Str.empty=true
 hd:PySem.W.hasDictIn K C=true
 po:PySem.W.plainOver K C=true
 sa:PySem.W.findIn K (.ref C) "__setattr__"=some (some (.builtin "object.__setattr__"))
structure Con(K:By)(C:BB)(f:Str)(v:V)(u:Bz):Prop where
 at_:PySem.W.findIn K (.ref C) f=some (some u)
 rel:Hf v u
 get:PySem.W.specialIn K u "__get__"=some none
 cp:PySem.W.copiedNames.contains f=false
structure Meth(K:By)(C:BB)(m:Str)(f:BB):Prop where
 at_:PySem.W.findIn K (.ref C) m=some (some (.ref f))
 fn:PySem.W.isFn K (.ref f)=true
 kp:PySem.W.keepIn K (.ref f)=true
section
variable{X:Cx}{pins:List (BB×Obj)}{σ:St}{H:Hp}{s:BA}{A:Around}{E:Bz->BA->Prop}{Q:Bz->BA->Prop}{c:Bz}{b:Bool}
inductive TyOf(K:By)(H:Hp):V->Bz->Prop where
 | non:TyOf K H .non (.type "NoneType")
 | bl (x:Bool):TyOf K H (.bl x) (.type "bool")
 | int (i:Int):TyOf K H (.int i) (.type "int")
 | str (x:Str):TyOf K H (.str x) (.type "str")
 | flt (x:UInt64):TyOf K H (.flt x) (.type "float")
 | lst {a:BB} {xs:List V} (e:H a=some (.lst xs)):TyOf K H (.ref a) (.type "list")
 | frz {a:BB} {o:Obj} {xs:List V} (e:H a=some (.frz o (.lst xs))):TyOf K H (.ref a) (.type "list")
 | tup {a:BB} {xs:List V} (e:H a=some (.tup xs)):TyOf K H (.ref a) (.type "tuple")
 | dK {a:BB} {kvs:List (Key×V)} (e:H a=some (.dK kvs)):TyOf K H (.ref a) (.type "dict")
 | dT {a:BB} {kvs:List (NK×BB×V)} (e:H a=some (.dT kvs)):TyOf K H (.ref a) (.type "dict")
 | ins {a C dx:BB} {fs:List (Str×V)} (e:H a=some (.ins C dx fs)) (cl:Cls K C) (ha:PySem.W.findIn K (.ref C) "__class__"=some (some (.builtin "object.__class__")))
   (hn:PySem.W.specialIn K (.builtin "object.__class__") "__get__"=some (some (.builtin "getset_descriptor.__get__"))) (htk:PySem.W.takesIn K (.builtin "object.__class__")=some true)
   (hm:PySem.W.mroIn K C (.type "object")=some true):TyOf K H (.ref a) (.ref C)
end
structure Room(k:Nat)(A:Around):Prop where
 hd:A.handled=none
 dp:A.depth+3*k+5<recursionLimit
 un:A.units+16*k+200<cLine
 gd:A.guards=some []
def Room.mono{j k:Nat}{A:Around}(r:Room k A)(h:j<=k):Room j A:=⟨r.hd,by have:=r.dp; omega,by have:=r.un; omega,r.gd⟩
def Room.deeper{k:Nat}{A:Around}(r:Room (k+1) A)(env:Env):Room k (A.deeper env):=
 ⟨r.hd,by have:=r.dp; show A.depth+1+3*k+5<_; omega,by have:=r.un; show A.units+3+16*k+200<_; omega,by first | exact r.gd | (simpa[Around.deeper] using r.gd)⟩
def Ghv{A:Around}{C:BB}{us:List Bz}{kw:List (Str×Bz)}:(A.under (.builtin "type.__call__" ⟨.ref C::us,kw⟩)).depth=A.depth+1:=by
 first | rfl | simp[Around.under,Code.weight,Code.isCreation,Code.isGuard,Code.isCaller,Code.frames,Code.isFrame,guardIds]
def Ghw{A:Around}{C:BB}{us:List Bz}{kw:List (Str×Bz)}:(A.under (.builtin "type.__call__" ⟨.ref C::us,kw⟩)).units=A.units+1:=by
 first | rfl | simp[Around.under,Code.cUnits,Code.frames,Code.isFrame]
def Room.make{k:Nat}{A:Around}(r:Room (k+1) A)(C:BB)(us:List Bz)(kw:List (Str×Bz)):Room k (A.under (.builtin "type.__call__" ⟨.ref C::us,kw⟩)):=
 ⟨r.hd,by have:=r.dp; rw[Ghv]; omega,by have:=r.un; rw[Ghw]; omega,by first | exact r.gd | (simpa[Around.under,pushGuards,Code.guards,Code.isGuard,guardIds] using r.gd)⟩
def Room.depth{k:Nat}{A:Around}(r:Room k A):A.depth<recursionLimit:=by have:=r.dp; omega
def Room.units{k:Nat}{A:Around}(r:Room k A):A.units+64<cLine:=by have:=r.un; omega
def Gzn:TA:=fun _ H Q=>Q [] H
def Gma(ta:TE)(tr:TA):TA:=fun σ H Q=>ta σ H fun x H1=>tr σ H1 fun xs H2=>Q (x::xs) H2
section
variable{X:Cx}{e:Expr}{es:List Expr}{te:TE}{t:TA}{pos:Pos}
def pa_nil:PA X [] Gzn:=fun _ _ _ _ H Q I h=>Calls.spliced_nil ⟨[],H,I,.nil,h⟩
noncomputable def Vb(ha:PE X e te)(hr:PA X es t)(hs:starEach (e::es) X.env=(false,eval e X.env)::starEach es X.env:=by rfl):PA X (e::es) (Gma te t):=by
 intro pos pins s σ H Q I h
 rw[hs]
 show wpAny _ _ (spliced ((false,eval e X.env)::backTo pos (starEach es X.env))) _ _ s
 refine Calls.spliced_cons (thn (ha pins s σ H _ I h) fun u s1 ⟨x,H1,I1,r1,q1⟩=>?_)
 exact thn (hr pos pins s1 σ H1 _ I1 q1) fun us s2 ⟨xs,H2,I2,r2,q2⟩=>⟨x::xs,H2,I2,.cons r1 r2,q2⟩
def Hce(t:TA):TE:=fun σ H Q=>t σ H fun xs H1=>xs.length<=sizeLine/\∀ p,H1 p=none->Q (.ref p) (upd H1 p (.tup xs))
def Hcf(t:TA):TE:=fun σ H Q=>t σ H fun xs H1=>xs.length<=sizeLine/\∀ p,H1 p=none->Q (.ref p) (upd H1 p (.lst xs))
def Gvd{x1}(h:PA X es t):PE X (.Tuple es x1 pos) (Hce t):=by
 intro pins s σ H Q I hq
 refine wpAny_Tuple_spliced (thn (h pos pins s σ H _ I hq) fun us s1 ⟨xs,H1,I1,r,z,q⟩=>⟨by rw[<- r.length]; exact z,?_⟩)
 have hf:H1 s1.heap.objs.size=none:=I1.hok.fresh (Ab _)
 refine⟨.ref s1.heap.objs.size,upd H1 s1.heap.objs.size (.tup xs),I1.laid (t':=s1.toks) (fun b u e=>Ao _ e) (Ab _) ?_,rfl,q _ hf⟩
 exact⟨z,us,r,⟨_,AD _ rfl,rfl,_,rfl⟩⟩
def Gve(h:PA X es t):PE X (.List es pos) (Hcf t):=by
 intro pins s σ H Q I hq
 refine wpAny_List_spliced (thn (h pos pins s σ H _ I hq) fun us s1 ⟨xs,H1,I1,r,z,q⟩=>⟨by rw[<- r.length]; exact z,?_⟩)
 have hf:H1 s1.heap.objs.size=none:=I1.hok.fresh (Ab _)
 refine⟨.ref s1.heap.objs.size,upd H1 s1.heap.objs.size (.lst xs),I1.laid (t':=s1.toks) (fun b u e=>Ao _ e) (Ab _) ?_,rfl,q _ hf⟩
 exact⟨z,us,0,r,AD _ rfl⟩
end
abbrev Sp:=List V->Hp->VK->XK->Prop
abbrev CXT:=List Env->Hp->BA->XK->Bz->BA->Prop
structure Env0(P:BD)(w:World)(K:By)(mg:Str->BC Bz)(base:Heap)(A:Around)(outer:List Env)(s:BA)(H:Hp):Prop where
 frames:A.frames=some outer
 mod:Mod K mg base
 bs:∀ b o,base.get? b=some o->s.heap.get? b=some o/\H b=none
 bsz:base.objs.size<=s.heap.objs.size
 funs:s.heap.FunFrames base outer
 frf:∀ b∈frs outer,H b=none
 hok:HOk P w H s.heap
 bare:AllBare s.gens
def CE(outer:List Env)(P:BD)(w:World)(H:Hp)(s:BA)(Q:VK)(u:Bz)(s':BA):Prop:=
 ∃ v H',s'.os=s.os/\AllBare s'.gens/\Un (frs outer) [] H H' s.heap s'.heap/\HOk P w H' s'.heap/\Hf v u/\Q v H'
def CR(CX:CXT)(outer:List Env)(P:BD)(w:World)(H:Hp)(s:BA)(Q:VK)(E:XK)(r:Result)(s':BA):Prop:=
 match r with
 | .ok (.ret u)=>CE outer P w H s Q u s'
 | .ok _=>False
 | .error e=>CX outer H s E e s'
structure FnOk(P:BD)(w:World)(K:By)(mg:Str->BC Bz)(base:Heap)(CX:CXT)(k:Nat)(f:BB)(fd:FuncData)(ps:List Str)(sp:Sp):Prop where
 len:∀ vs H Q E,sp vs H Q E->vs.length=ps.length
 run:∀ (A:Around) (outer:List Env) (s:BA) (H:Hp) (args:Args) (us:List Bz) (vs:List V) (Q:VK) (E:XK),Room k A->Env0 P w K mg base A outer s H->BindsTo s fd args (ps.zip us)->Vals vs us->sp vs H Q E→
  codeAny (model P w) A (.call (.ref f) args) (CR CX outer P w H s Q E) s
def FnOk.mono{P:BD}{w:World}{K:By}{mg:Str->BC Bz}{base:Heap}{CX:CXT}{j k:Nat}{f:BB}{fd:FuncData}{ps:List Str}{sp:Sp}(F:FnOk P w K mg base CX j f fd ps sp)(h:j<=k):
  FnOk P w K mg base CX k f fd ps sp:=⟨F.len,fun A outer s H args us vs Q E hr=>F.run A outer s H args us vs Q E (hr.mono h)⟩
def Env0.make{P:BD}{w:World}{K:By}{mg:Str->BC Bz}{base:Heap}{A:Around}{outer:List Env}{s:BA}{H:Hp}(e:Env0 P w K mg base A outer s H)(C:BB)(us:List Bz)(kw:List (Str×Bz)):
  Env0 P w K mg base (A.under (.builtin "type.__call__" ⟨.ref C::us,kw⟩)) outer s H:=⟨by first | exact e.frames | (simpa[Around.under,Code.envs,Code.isFrame,pushEnvs] using e.frames),e.mod,e.bs,e.bsz,e.funs,e.frf,e.hok,e.bare⟩
section
variable{X:Cx}{pins:List (BB×Obj)}{σ:St}{H:Hp}{s s':BA}
def Inv.env0(I:Inv X pins σ H s):Env0 X.prog X.w X.K X.mg X.base X.A X.stack s H:=
 ⟨I.ok.frames,I.ok.mod,I.bs,Aj I.ok.bsz I.sz,I.stack,I.stkFree,I.hok,I.bare⟩
def Inv.after{Q:VK}{u:Bz}(I:Inv X pins σ H s)(h:CE X.stack X.prog X.w H s Q u s'):EP X pins σ Q u s':=by
 obtain⟨v,H',os,bare,un,hok,r,q⟩:=h
 obtain⟨hh,g,d,t,os'⟩:=s'
 obtain rfl:os'=s.os:=os
 exact⟨v,H',I.call (h':=hh) (g':=g) (d':=d) (t':=t) (ch:=[]) un hok bare (fun b z=>absurd z (by simp)),r,q⟩
end
def Gzo(sp:Sp)(dvs:List V)(E:XK)(t:TA):TE:=fun σ H Q=>t σ H fun vs H1=>sp (vs++dvs) H1 Q E
def Binds(K:By)(fd:FuncData)(ps:List Str)(ds:List Bz):Prop:=
 ∀ (s:BA) (us:List Bz),K.In s.heap->(us++ds).length=ps.length->BindsTo s fd ⟨us,[]⟩ (ps.zip (us++ds))
noncomputable def Binds.all{K:By}{fd:FuncData}{ps:List Str}(h:∀ us:List Bz,us.length=ps.length->bindArgs fd ⟨us,[]⟩=pure (ps.zip us)):Binds K fd ps []:=fun s us _ hl=>by
 rw[AU] at hl ⊢
 exact .of_eq (h us hl)
def Passes(CX:CXT)(X:Cx)(E:XK):Prop:=∀ (pins:List (BB×Obj)) (σ:St) (H:Hp) (s:BA) (e:Bz) (s':BA),Inv X pins σ H s->CX X.stack H s E e s'->X.xe e s'
section
variable{X:Cx}{CX:CXT}{k:Nat}{f C:BB}{fd:FuncData}{ps:List Str}{sp:Sp}{dvs:List V}{ds:List Bz}{E:XK}{x m:Str}{p pos apos:Pos}{e o:Expr}{es:List Expr}{ta:TE}{t:TA}
def Gvf{pins:List (BB×Obj)}{σ:St}{H:Hp}{s:BA}{Q:VK}{us:List Bz}{vs:List V}(F:FnOk X.prog X.w X.K X.mg X.base CX k f fd ps sp)(hr:Room k X.A)(hb:Binds X.K fd ps ds)(hd:Vals dvs ds)(hx:Passes CX X E)
  (I:Inv X pins σ H s) (r:Vals vs us) (h:sp (vs++dvs) H Q E):wpAny (model X.prog X.w) X.A (call (.ref f) us) (EP X pins σ Q) X.xe s:=by
 have r2:Vals (vs++dvs) (us++ds):=r.append hd
 have hl:(us++ds).length=ps.length:=by rw[<- r2.length]; exact F.len _ _ _ _ h
 refine wpAny_call (codeAny_mono (F.run X.A X.stack s H ⟨us,[]⟩ (us++ds) (vs++dvs) Q E hr I.env0 (hb s us I.kIn hl) r2 h) fun r s' hq=>?_)
 cases r with
 | error e=>exact hx pins σ H s e s' I hq
 | ok fl=>
  cases fl with
  | ret u=>exact I.after hq
  | next=>exact False.elim hq
  | brk=>exact False.elim hq
  | cont=>exact False.elim hq
def Gp8(F:FnOk X.prog X.w X.K X.mg X.base CX k f fd ps sp)(hr:Room k X.A)(hg:Gl X x)(hm:X.mg x=some (.ref f))(hk:PySem.W.keepIn X.K (.ref f)=true)(hb:Binds X.K fd ps ds)(hd:Vals dvs ds)(hx:Passes CX X E)
  (ha:PA X (e::es) t) (hdb:(x==("__debug__":Str))=false:=by decide) (he:starEach (e::es) X.env=(false,eval e X.env)::starEach es X.env:=by rfl) (hpl:(backTo pos (starEach es X.env)).any (·.1)=false:=by rfl):
  PE X (.Call (.Name x p) (e::es) [] pos) (Gzo sp dvs E t):=by
 intro pins s σ H Q I h
 refine wpAny_Call_Name_kw (Yt I hg hm ?_ hdb)
 refine PySem.W.callWith_K (h₀:=X.base) I.ok.mod.kin hk (thn (ha pos pins s σ H _ I h) fun us s1 ⟨vs,H1,I1,r,q⟩=>⟨I1.kIn,?_⟩) he hpl
 exact Gvf F hr hb hd hx I1 r q
structure Mk(K:By)(C f:BB):Prop where
 makes:PySem.W.makesIn K C=true
 init:PySem.W.findIn K (.ref C) "__init__"=some (some (.ref f))
 fn:PySem.W.isFn K (.ref f)=true
 kp:PySem.W.keepIn K (.ref C)=true
end
section
variable{X:Cx}{CX:CXT}{k:Nat}{f C:BB}{fd:FuncData}{ps ks:List Str}{sp:Sp}{E:XK}{x m:Str}{p pos apos kpos:Pos}{e o:Expr}{es:List Expr}{kws:List Keyword}{te ta:TE}{t tk:TA}{nm:BC Str}
structure KBinds(K:By)(fd:FuncData)(ps ks:List Str)(g:List Bz->List Bz->List Bz)(gV:List V->List V->List V):Prop where
 to:∀ (s:BA) (us ws:List Bz),K.In s.heap->(g us ws).length=ps.length->BindsTo s fd ⟨us,ks.zip ws⟩ (ps.zip (g us ws))
 rel:∀ {vs:List V} {us:List Bz} {zs:List V} {ws:List Bz},Vals vs us->Vals zs ws->Vals (gV vs zs) (g us ws)
variable{g:List Bz->List Bz->List Bz}{gV:List V->List V->List V}
end
structure FnScope(N P:List Str)(sc:Scope):Prop where
 kind:sc.kind=.function
 co:sc.isCoroutine=false
 gen:sc.isGenerator=false
 nd:N.Nodup
 pre:N.take P.length=P
 par:∀ x∈P,sc.names.lookup x=some .local\/sc.names.lookup x=some .cell
 nofree:∀ y∈sc.names,y.2≠.free
def Geb{kindOf:Str->BC NameKind}{x:Str}:∀ {binds:List (Str×Bz)} {m:Str->BC Bz},(∀ v,(x,v)∉binds)->bindL kindOf binds m x=m x
 | [],_,_=>rfl
 | (n,v)::r,m,h=>by
  unfold bindL
  rw[Geb fun w hw=>h w (Au _ hw)]
  split
  ·have:x≠n:=by rintro rfl; exact h v Aw
   simp[this]
  ·rfl
def Gec{kindOf:Str->BC NameKind}{x:Str}:∀ {binds:List (Str×Bz)} {m:Str->BC Bz},(∀ v,(x,v)∉binds)->bindC kindOf binds m x=m x
 | [],_,_=>rfl
 | (n,v)::r,m,h=>by
  unfold bindC
  rw[Gec fun w hw=>h w (Au _ hw)]
  split
  ·rfl
  ·have:x≠n:=by rintro rfl; exact h v Aw
   simp[this]
def Ged{kindOf:Str->BC NameKind}{x:Str}{v:Bz}:∀ {P:List Str} {vs:List Bz} {i:Nat} {m:Str->BC Bz},P.Nodup->P[i]?=some x->vs[i]?=some v->kindOf x=some .local→
  bindL kindOf (P.zip vs) m x=some v
 | [],_,_,_,_,h,_,_=>by simp at h
 | _::_,[],_,_,_,_,h,_=>by simp at h
 | p::P,w::vs,0,m,nd,h1,h2,hk=>by
  simp at h1 h2; subst h1; subst h2
  show bindL kindOf ((p,w)::P.zip vs) m p=_
  unfold bindL
  rw[Geb fun v hv=>(A8.mp nd).1 (List.of_mem_zip hv).1,if_pos hk]
  simp
 | p::P,w::vs,i+1,m,nd,h1,h2,hk=>by
  show bindL kindOf ((p,w)::P.zip vs) m x=_
  unfold bindL
  exact Ged (i:=i) (A8.mp nd).2 (by simpa using h1) (by simpa using h2) hk
def Gee{kindOf:Str->BC NameKind}{x:Str}{v:Bz}:∀ {P:List Str} {vs:List Bz} {i:Nat} {m:Str->BC Bz},P.Nodup->P[i]?=some x->vs[i]?=some v->kindOf x≠some .local→
  bindC kindOf (P.zip vs) m x=some v
 | [],_,_,_,_,h,_,_=>by simp at h
 | _::_,[],_,_,_,_,h,_=>by simp at h
 | p::P,w::vs,0,m,nd,h1,h2,hk=>by
  simp at h1 h2; subst h1; subst h2
  show bindC kindOf ((p,w)::P.zip vs) m p=_
  unfold bindC
  rw[Gec fun v hv=>(A8.mp nd).1 (List.of_mem_zip hv).1,if_neg hk]
  simp
 | p::P,w::vs,i+1,m,nd,h1,h2,hk=>by
  show bindC kindOf ((p,w)::P.zip vs) m x=_
  unfold bindC
  exact Gee (i:=i) (A8.mp nd).2 (by simpa using h1) (by simpa using h2) hk
noncomputable def start(N:List Str)(vs:List V):St:=vs.map some++List.replicate (N.length-vs.length) none
noncomputable def Qy(CX:CXT)(P:BD)(w:World)(K:By)(mg:Str->BC Bz)(base:Heap)(N:List Str)(qual:Str)(scope:Scope)(f:BB)(cd:Bz)(A:Around)(outer:List Env)(s:BA)(H:Hp)(E:XK):Cx where
 prog:=P
 w:=w
 K:=K
 mg:=mg
 base:=base
 A:=A.deeper (envOfC qual scope s.heap.objs.size f cd)
 N:=N
 s₀:=s
 H₀:=H
 env:=envOfC qual scope s.heap.objs.size f cd
 outer:=outer
 stack:=envOfC qual scope s.heap.objs.size f cd::outer
 ex:=[]
 calm:=true
 fn:=fun _=>true
 pn:=[]
 xe:=fun e s'=>wpAny (model P w) (A.deeper (envOfC qual scope s.heap.objs.size f cd)) (leaving (envOfC qual scope s.heap.objs.size f cd) e) (fun _ s''=>CX outer H s E e s'') (fun e' s''=>CX outer H s E e' s'') s'
def Ggh{sc:Scope}{n:Nat}{x:Str}(h:sc.names.lookup x=some .cell):∃ c,(cellsFrom n sc.names []).lookup x=some c:=by
 have q:=PySem.W.cellsFrom_some sc.names n [] (.inl h)
 exact Bw.mp q
def Gk7{CX:CXT}{P:BD}{w:World}{K:By}{mg:Str->BC Bz}{base:Heap}{N ps:List Str}{qual:Str}{scope:Scope}{f:BB}{cd:Bz}{A:Around}{outer:List Env}{s s1:BA}{H:Hp}{E:XK}{us:List Bz}{vs:List V}
  (S:FnScope N ps scope) (hd:A.handled=none) (e0:Env0 P w K mg base A outer s H) (hl:vs.length=ps.length) (r:Vals vs us)
  (x:InCallC s s.heap.objs.size (bindL (envOfC qual scope s.heap.objs.size f cd).kindOf (ps.zip us) fun _=>none) (cellsFrom (s.heap.objs.size+1) scope.names []) (bindC (envOfC qual scope s.heap.objs.size f cd).kindOf (ps.zip us) fun _=>none) s1):
  Inv (Qy CX P w K mg base N qual scope f cd A outer s H E) [] (start N vs) H s1:=by
 have hpl:ps.length<=N.length:=by have:=congrArg List.length S.pre; rw[AW] at this; omega
 obtain⟨h1,tk,rfl,hk⟩:=x.done
 have noA:∀ b:BB,b∉(Qy CX P w K mg base N qual scope f cd A outer s H E).ex:=fun b z=>absurd (show b∈([]:List BB) from z) (by simp)
 refine⟨⟨e0.mod,S.kind,rfl,rfl,Ab _,fun y z c h1 h2=>?_,fun y hy=>?_,fun y c _ h=>?_,fun _=>hd,Around.frames_deeper e0.frames,.inr ⟨rfl,rfl⟩,fun b z=>absurd z (noA b),e0.bs,e0.bsz,fun b _ _=>noA b,fun b z=>absurd z (noA b),e0.funs,e0.frf⟩,
  rfl,e0.bare,Un.kept hk,⟨_,x.toInCall.ns,fun i y v h1 h2 h3=>?_⟩,fun y c h=>⟨_,x.cell y c h⟩,e0.hok.fresh (Ab _),fun y c h=>?_,fun p hp=>absurd (show p∈([]:List (BB×Obj)) from hp) (by simp),e0.hok.kept hk,?_⟩
 ·exact name_of_addr x.apart (PySem.mem_of_lookup h1) (PySem.mem_of_lookup h2)
 ·have hy:scope.names.lookup y=some .cell\/scope.names.lookup y=some .free:=hy
  rcases hy with hy | hy
  ·exact Ggh hy
  ·exact absurd rfl (S.nofree _ (PySem.mem_of_lookup hy))
 ·exact Bj (x.above y c (PySem.mem_of_lookup h))
 ·have hi:i<vs.length:=by
   unfold start at h2
   by_cases hi:i<vs.length
   ·exact hi
   ·rw[A0 (by simpa using hi)] at h2
    rw[List.getElem?_replicate] at h2
    split at h2<;>cases h2
  have ha:vs[i]?=some v:=by
   unfold start at h2
   rw[Ar (by simpa using hi),As] at h2
   cases e:vs[i]? with
   | none=>rw[e] at h2; cases h2
   | some a=>rw[e] at h2; cases h2; rfl
  obtain⟨u,hu,rv⟩:=r.get ha
  have hp:ps[i]?=some y:=by
   rw[<- S.pre,List.getElem?_take_of_lt (by omega)]; exact h1
  have ndP:ps.Nodup:=by rw[<- S.pre]; exact S.nd.sublist (List.take_sublist _ _)
  refine⟨u,rv,?_⟩
  rcases S.par y (Ap hp) with k | k
  ·exact .inl ⟨k,Ged ndP hp hu k⟩
  ·obtain⟨c,e⟩:=Ggh (n:=s.heap.objs.size+1) k
   refine .inr ⟨.inl k,c,e,?_⟩
   have q:=x.cell y c e
   rw[Gee ndP hp hu (by show scope.names.lookup y≠_; rw[k]; decide)] at q
   exact q
 ·exact e0.hok.fresh (Bj (x.above y c (PySem.mem_of_lookup h)))
 ·unfold start
  show _=N.length
  rw[Az,Am,List.length_replicate]
  omega
def Gmb{CX:CXT}{P:BD}{w:World}{K:By}{mg:Str->BC Bz}{base:Heap}{k:Nat}{f:BB}{name qual:Str}{params:Arguments}{body:List Stmt}{scope:Scope}{dV kV doc pm cdv ct oc:Bz}{an od:BC BB}
  {osl:Array (BC Bz)} {N ps:List Str} {sp:Sp} (lk:K.lookup f=some ⟨oc,od,.func (PySem.W.fnOf name qual params body scope dV kV doc pm an cdv ct),osl⟩) (hcd:PySem.W.codeIn K cdv qual=true) (S:FnScope N ps scope)
  (len:∀ vs H Q E,sp vs H Q E->vs.length=ps.length)
  (hbody:∀ (A:Around) (outer:List Env) (s:BA) (H:Hp) (vs:List V) (Q:VK) (E:XK),Room k (A.deeper (envOfC qual scope s.heap.objs.size f cdv))->sp vs H Q E→
   ∃ t,PSs (Qy CX P w K mg base N qual scope f cdv A outer s H E) body t/\t { nx:=fun _ H'=>Q .non H',rt:=Q } (start N vs) H):
  FnOk P w K mg base CX (k+1) f (PySem.W.fnOf name qual params body scope dV kV doc pm an cdv ct) ps sp:=by
 refine⟨len,fun A outer s H args us vs Q E hr e0 hb r hsp=>?_⟩
 have hl:=len _ _ _ _ hsp
 have KX:K.In s.heap:=e0.mod.kin.keeps fun b o e=>(e0.bs b o e).1
 have lim:s.heap.NoLimit:=e0.mod.nolimit.keeps fun b o e=>(e0.bs b o e).1
 have hkind:∀ y∈ps.zip us,scope.names.lookup y.1=some .local\/(scope.names.lookup y.1=some .cell/\((cellsFrom (s.heap.objs.size+1) scope.names []).lookup y.1).isSome=true):=fun⟨n,v⟩ hy=>by
  rcases S.par n (List.of_mem_zip hy).1 with q | q
  ·exact .inl q
  ·exact .inr ⟨q,PySem.W.cellsFrom_some _ _ _ (.inl q)⟩
 refine codeAny_call_function hr.depth (KX _ _ lk) rfl S.co S.gen rfl (PySem.W.codeRec_of KX hcd) (hb _ _ _ _ ?_)
 refine wpAny_newFunctionEnv_cells S.kind hkind fun env he s1 x=>?_
 subst he
 refine⟨lim.keeps x.toInCall.keep,codeAny_func ?_⟩
 obtain⟨t,ht,hq⟩:=hbody A outer s H vs Q E (hr.deeper _) hsp
 have I:Inv (Qy CX P w K mg base N qual scope f cdv A outer s H E) [] (start N vs) H s1:=Gk7 S hr.hd e0 hl r x
 refine wpAny_mono (ht [] s1 (start N vs) H _ I hq) (fun fl s' hs=>?_) fun e s' hs=>hs
 have fin:∀ {σ':St} {H':Hp} {v:V} {u:Bz},Inv (Qy CX P w K mg base N qual scope f cdv A outer s H E) [] σ' H' s'->Hf v u->Q v H'->CE outer P w H s Q u s':=
  fun{σ' H' v u} J rv q=>⟨v,H',J.os,J.bare,J.base,J.hok,rv,q⟩
 cases fl with
 | ret u=>
  obtain⟨v,σ',H',J,rv,q⟩:=hs
  exact fin J rv q
 | next=>
  obtain⟨σ',H',J,q⟩:=hs
  exact fin (v:=V.non) (u:=Value.none) J rfl q
 | brk=>
  obtain⟨_,_,_,q⟩:=hs
  exact False.elim q
 | cont=>
  obtain⟨_,_,_,q⟩:=hs
  exact False.elim q
section
variable{X:Cx}{x:Str}{p pos:Pos}{e:Expr}{es:List Expr}{t:TA}{id T:String}{r:List V->Hp->VK->Prop}
def tCB(r:List V->Hp->VK->Prop)(t:TA):TE:=fun σ H Q=>t σ H fun vs H1=>r vs H1 Q
def Zy(hc:Xq X (.builtin id) r)(hg:Gl X x)(hm:X.mg x=none)(hv:bootBuiltins x=some (.builtin id))(ha:PA X (e::es) t)(hn:x≠"__name__":=by decide)(hdb:(x==("__debug__":Str))=false:=by decide)
  (he:starEach (e::es) X.env=(false,eval e X.env)::starEach es X.env:=by rfl) (hpl:(backTo pos (starEach es X.env)).any (·.1)=false:=by rfl):PE X (.Call (.Name x p) (e::es) [] pos) (tCB r t):=by
 intro pins s σ H Q I h
 refine wpAny_Call_Name_kw (Xx I hg hm hv ?_ hn hdb)
 exact PyProof.Rows.callWith_builtin1 (thn (ha pos pins s σ H _ I h) fun us s1 ⟨vs,H1,I1,r1,q1⟩=>hc pins s1 σ H1 vs us Q I1 r1 q1) he hpl
def Gk8(hc:Xq X (.type T) r)(hg:Gl X x)(hm:X.mg x=none)(hv:bootBuiltins x=some (.type T))(ha:PA X (e::es) t)(hn:x≠"__name__":=by decide)(hdb:(x==("__debug__":Str))=false:=by decide)
  (he:starEach (e::es) X.env=(false,eval e X.env)::starEach es X.env:=by rfl) (hpl:(backTo pos (starEach es X.env)).any (·.1)=false:=by rfl):PE X (.Call (.Name x p) (e::es) [] pos) (tCB r t):=by
 intro pins s σ H Q I h
 refine wpAny_Call_Name_kw (Xx I hg hm hv ?_ hn hdb)
 exact PyProof.Rows.callWith_type1 (thn (ha pos pins s σ H _ I h) fun us s1 ⟨vs,H1,I1,r1,q1⟩=>hc pins s1 σ H1 vs us Q I1 r1 q1) he hpl
end
end L2
namespace HT
open PySem PyProof.Rows
section
open PySem.SeqAt
open PySem.AutoSeq1 (wpAny_loadPart')
open PySem.MeetsSeq PySem.MeetsSeq2 PySem.MeetsSeq3
end
section
variable{prog:BD}{w:World}{A:Around}{E:Bz->BA->Prop}{s:BA}
def Gp9{t b:BB}{vs ws:List Bz}{Q:Bz->BA->Prop}(ht:IsTup s.heap t vs.toArray)(hb:IsTup s.heap b ws.toArray)(hv:vs≠[])
  (h1:ws=[]->Q (.ref t) s) (h2:ws≠[]->Q (.ref s.heap.objs.size) { s with heap:=s.heap.push { cls:=.type "tuple",data:=.seq (vs++ws).toArray } })
  (hsz:vs.length+ws.length<=sizeLine):wpAny (model prog w) A (binaryOp .Add (.ref t) (.ref b)) Q E s:=by
 obtain⟨⟨cls,dd,data,sl⟩,ho,hc,n,hd⟩:=id ht
 obtain⟨⟨cls2,dd2,data2,sl2⟩,ho2,hc2,n2,hd2⟩:=id hb
 simp only at hc hd hc2 hd2
 subst hc hd hc2 hd2
 have e:vs.toArray++ws.toArray=(vs++ws).toArray:=by simp
 by_cases hw:ws=[]
 ·exact concat_meets ⟨_,ho,rfl⟩ ⟨_,ho2,rfl⟩ noFill_tuple_add seq_tuple_add PySem.F.slot_tuple_add PySem.F.entry_tuple_add (PySem.F.args_tuple_add_2 _ _)
   (tuple_addW1 t b vs.toArray ws.toArray n n2 dd dd2 sl sl2 (by simpa using hv) (by simp[hw])) ⟨ho,ho2,h1 hw⟩
 ·refine concat_meets ⟨_,ho,rfl⟩ ⟨_,ho2,rfl⟩ noFill_tuple_add seq_tuple_add PySem.F.slot_tuple_add PySem.F.entry_tuple_add (PySem.F.args_tuple_add_2 _ _)
   (tuple_addW2 t b vs.toArray ws.toArray n n2 dd dd2 sl sl2 (by simpa using hv) (by simpa using hw) (by rw[Ak,Ak]; exact hsz)) ⟨ho,ho2,?_⟩
  rw[e]
  exact h2 hw
noncomputable def sIx(n d:Nat):BC Int->Nat
 | none=>d
 | some v=>if v<0 then(v+(n:Int)).toNat else min v.toNat n
def Ggi(n d:Nat):sIx n d none=d:=rfl
def Gi5(n d k:Nat):sIx n d (some (k:Int))=min k n:=by
 show(if(k:Int)<0 then((k:Int)+(n:Int)).toNat else min (k:Int).toNat n)=min k n
 rw[if_neg (by omega),AG]
def Gvg(n d:Nat)(hd:d<=n)(o:BC Int):sIx n d o<=n:=by
 cases o with
 | none=>exact hd
 | some v=>
  show(if v<0 then(v+(n:Int)).toNat else min v.toNat n)<=n
  by_cases hv:v<0
  ·rw[if_pos hv]; omega
  ·rw[if_neg hv]; exact Nat.min_le_right _ _
def Gi6(v:Int)(n d:Nat):(if v<0 then max (v+(n:Int)) 0 else min v (n:Int))=((sIx n d (some v):Nat):Int):=by
 show(if v<0 then max (v+(n:Int)) 0 else min v (n:Int))=(((if v<0 then(v+(n:Int)).toNat else min v.toNat n):Nat):Int)
 by_cases hv:v<0
 ·simp only[if_pos hv]; omega
 ·simp only[if_neg hv]; omega
def Ghx(lo hi:BC Int)(n:Nat):Builtin.Slice.sliceAdjust lo hi 1 (n:Int)=(((sIx n 0 lo:Nat):Int),((sIx n n hi:Nat):Int)):=by
 have h1:¬ ((1:Int)<0):=by omega
 unfold Builtin.Slice.sliceAdjust
 simp only[h1,if_false]
 refine Prod.ext ?_ ?_
 ·cases lo with
  | none=>rfl
  | some v=>exact Gi6 v n 0
 ·cases hi with
  | none=>rfl
  | some v=>exact Gi6 v n n
def Ghy(i j:Nat):Builtin.Slice.slicePlaces (i:Int) (j:Int) 1=j-i:=by
 unfold Builtin.Slice.slicePlaces
 have h1:(1:Int)>0:=by omega
 simp only[h1,if_true,Int.ediv_one]
 split<;>omega
def Gcn{v:Bz}{o:BC Int}{Q:BC Int->BA->Prop}(p:IsPart v o)(h:Q o s):wpAny (model prog w) A (Builtin.Slice.slicePartIndex v) Q E s:=by
 cases p with
 | none=>exact slicePart_none h
 | int i t=>exact slicePart_int h
def Wm{sl:BB}{vl vu:Bz}{lo hi:BC Int}{n:Nat}{Q:Int×Int×Nat->BA->Prop}(hs:s.heap.IsSliceOf sl vl vu .none)(pl:IsPart vl lo)(pu:IsPart vu hi)
  (h:Q (((sIx n 0 lo:Nat):Int),1,sIx n n hi-sIx n 0 lo) s):wpAny (model prog w) A (Builtin.Slice.sliceApplied (.ref sl) (pure (n:Int))) Q E s:=by
 obtain⟨os,hos,hcs,hds⟩:=id hs
 unfold Builtin.Slice.sliceApplied Builtin.Slice.sliceFields
 refine wpAny_bind (wpAny_bind (wpAny_field hos hds (x:=vl) rfl (wpAny_bind (wpAny_field hos hds (x:=vu) rfl (wpAny_bind (wpAny_field hos hds (x:=.none) rfl (wpAny_pure ?_)))))))
 refine wpAny_bind (slicePart_none ?_)
 show wpAny _ _ (if((1:Int)==0)=true then _ else _) _ _ s
 rw[if_neg (by decide)]
 refine wpAny_bind (Gcn pl (wpAny_bind (Gcn pu (wpAny_bind (wpAny_pure ?_)))))
 show wpAny _ _ (match Builtin.Slice.sliceAdjust lo hi 1 (n:Int) with | (lo,hi)=>pure (lo,(1:Int),Builtin.Slice.slicePlaces lo hi 1)) _ _ s
 rw[Ghx lo hi n]
 show wpAny _ _ (pure (((sIx n 0 lo:Nat):Int),(1:Int),Builtin.Slice.slicePlaces ((sIx n 0 lo:Nat):Int) ((sIx n n hi:Nat):Int) 1)) _ _ s
 rw[Ghy]
 exact wpAny_pure h
def Gmc(xs:Array Bz)(i k:Nat):((List.range k).filterMap fun(m:Nat)=>xs[((i:Int)+(m:Int)*1).toNat]?).toArray=((xs.toList.drop i).take k).toArray:=by
 have e:(fun(m:Nat)=>xs[((i:Int)+(m:Int)*1).toNat]?)=fun m=>xs[i+m]?:=by
  funext m
  have:((i:Int)+(m:Int)*1).toNat=i+m:=by omega
  rw[this]
 rw[e]
 have:=pick_run xs i k
 rw[List.filterMap_map] at this
 have e2:((fun x=>xs[x]?)∘fun x=>i+x)=fun m=>xs[i+m]?:=rfl
 rw[e2] at this
 rw[this]
def Zz{t sl:BB}{items:Array Bz}{vl vu:Bz}{lo hi:BC Int}{Q:Bz->BA->Prop}(ht:IsTup s.heap t items)(hs:s.heap.IsSliceOf sl vl vu .none)(pl:IsPart vl lo)(pu:IsPart vu hi)
  (hw:¬ (sIx items.size 0 lo=0/\sIx items.size items.size hi=items.size))
  (h:Q (.ref s.heap.objs.size) { s with heap:=s.heap.push { cls:=.type "tuple",data:=.seq ((items.toList.drop (sIx items.size 0 lo)).take (sIx items.size items.size hi-sIx items.size 0 lo)).toArray } })
  (hsz:items.size<=sizeLine):wpAny (model prog w) A (getItem (.ref t) (.ref sl)) Q E s:=by
 have htake:sizeOk (.seq ((items.toList.drop (sIx items.size 0 lo)).take (sIx items.size items.size hi-sIx items.size 0 lo)).toArray):=by
  show((items.toList.drop (sIx items.size 0 lo)).take (sIx items.size items.size hi-sIx items.size 0 lo)).toArray.size<=sizeLine
  rw[Ak,AW,List.length_drop,Array.length_toList]
  omega
 have hj:sIx items.size items.size hi<=items.size:=Gvg _ _ (Ab _) hi
 obtain⟨os,hos,hcs,hds⟩:=id hs
 have hTs:s.TypeIs (.ref sl) "slice":=⟨os,hos,hcs⟩
 unfold getItem
 try with_reducible refine wpAny_holding ?_
 first | refine wpAny_bind (wpAny_pure ?_) | skip
 refine wpAny_bind (wpAny_sequenceKey ht.typeIs (by decide) ?_)
 refine wpAny_bind (wpAny_callSpecial?_slot (name:=Str.ofString "__getitem__") ht.typeIs PyProof.Rows.slot_tuple_getitem
  (wpAny_call_entry PyProof.Rows.slot_tuple_getitem ht.typeIs entry_tuple_getitem ?_ (args_tuple_getitem _ _)))
 show wpAny _ _ (Builtin.Tuple.tupleItemsOf (.ref t) >>= _) _ _ s
 refine wpAny_bind (tupleItemsOf_ ht ?_)
 refine wpAny_bind (wpAny_typeOf hTs ?_)
 rw[if_pos (by decide)]
 refine wpAny_bind (Wm hs pl pu ?_)
 have hno:¬ ((((sIx items.size 0 lo:Nat):Int)==0&&(1:Int)==1&&(sIx items.size items.size hi-sIx items.size 0 lo)==items.size)=true):=by
  intro q
  rw[Aq,Aq] at q
  have q1:((sIx items.size 0 lo:Nat):Int)=0:=eq_of_beq q.1.1
  have q2:sIx items.size items.size hi-sIx items.size 0 lo=items.size:=eq_of_beq q.2
  exact hw ⟨by omega,by omega⟩
 show wpAny _ _ (if(((sIx items.size 0 lo:Nat):Int)==0&&(1:Int)==1&&(sIx items.size items.size hi-sIx items.size 0 lo)==items.size)=true then _ else _) _ _ s
 rw[if_neg hno,Gmc]
 first
  | exact wpAny_bind (m:=Builtin.Tuple.tupleExact _) (wpAny_newObj_type (wpAny_pure ⟨_,rfl,wpAny_pure h⟩) htake)
  | exact wpAny_bind (m:=Builtin.Tuple.tupleExact _) (wpAny_newObj_type (wpAny_bind (wpAny_pure (wpAny_pure ⟨_,rfl,wpAny_pure h⟩))) htake)
  | exact wpAny_bind (wpAny_bind (m:=Builtin.Tuple.tupleExact _) (wpAny_newObj_type (wpAny_pure (wpAny_pure ⟨_,rfl,wpAny_pure h⟩)) htake))
  | exact wpAny_bind (wpAny_bind (m:=Builtin.Tuple.tupleExact _) (wpAny_newObj_type (wpAny_pure ⟨_,rfl,wpAny_pure h⟩) htake))
end
end HT
namespace L2
open PySem PySem.Spec PyProof.Rows
variable{xs:List V}{n:Nat}{pins:List (BB×Obj)}{σ:St}{H:Hp}{its:List Bz}
abbrev TO:=St->Hp->(BC Int->Hp->Prop)->Prop
def PO(X:Cx)(e:BC Expr)(t:TO):Prop:=
 ∀ (pins:List (BB×Obj)) (s:BA) (σ:St) (H:Hp) (Q:BC Int->Hp->Prop),Inv X pins σ H s->t σ H Q→
  wpAny (model X.prog X.w) X.A (evalPart e X.env) (fun u s'=>∃ o H',Inv X pins σ H' s'/\IsPart u o/\Q o H') X.xe s
def Gqa:TO:=fun _ H Q=>Q none H
def Gzp(t:TE):TO:=fun σ H Q=>t σ H fun x H1=>∃ i,x=.int i/\Q (some i) H1
section
variable{X:Cx}{e:Expr}{te:TE}{lo hi:BC Expr}{tl th:TO}{pos p2:Pos}
def Gqb:PO X none Gqa:=by
 intro pins s σ H Q I h
 rw[evalPart_none]
 exact wpAny_pure ⟨none,H,I,.none,h⟩
def Gqc(h:PE X e te):PO X (some e) (Gzp te):=by
 intro pins s σ H Q I hw
 rw[evalPart_some]
 refine thn (h pins s σ H _ I hw) fun u s1 ⟨x,H1,I1,r1,q1⟩=>?_
 obtain⟨i,rfl,q⟩:=q1
 obtain⟨t,rfl⟩:=r1
 exact⟨some i,H1,I1,.int i t,q⟩
def SlR(X:Cx)(r:V->BC Int->BC Int->Hp->VK->Prop):Prop:=
 ∀ (pins:List (BB×Obj)) (s:BA) (σ:St) (H:Hp) (x:V) (v vl vu:Bz) (lo hi:BC Int) (sl:BB) (Q:VK),Inv X pins σ H s->Hf x v->s.heap.IsSliceOf sl vl vu .none->IsPart vl lo->IsPart vu hi->r x lo hi H Q→
  ∃ T id,typeLookup (.type T) "__getitem__"=pure (some (.builtin id))/\s.TypeIs v T/\wpAny (model X.prog X.w) X.A (getItem v (.ref sl)) (EP X pins σ Q) X.xe s
def SlR.or{r r':V->BC Int->BC Int->Hp->VK->Prop}(h:SlR X r)(h':SlR X r'):SlR X (fun x lo hi H Q=>r x lo hi H Q\/r' x lo hi H Q):=by
 intro pins s σ H x v vl vu lo hi sl Q I rx hs pl pu q
 rcases q with q | q
 ·exact h pins s σ H x v vl vu lo hi sl Q I rx hs pl pu q
 ·exact h' pins s σ H x v vl vu lo hi sl Q I rx hs pl pu q
def tSl(r:V->BC Int->BC Int->Hp->VK->Prop)(te:TE)(tl th:TO):TE:=fun σ H Q=>te σ H fun x H1=>tl σ H1 fun l H2=>th σ H2 fun u H3=>r x l u H3 Q
def Gmd{r:V->BC Int->BC Int->Hp->VK->Prop}(hr:SlR X r)(he:PE X e te)(hl:PO X lo tl)(hu:PO X hi th):PE X (.Subscript e (.Slice lo hi none p2) pos) (tSl r te tl th):=by
 intro pins s σ H Q I h
 refine Subscript_ (thn (he pins s σ H _ I h) fun v s1 ⟨x,H1,I1,r1,q1⟩=>?_)
 refine wpAny_Slice (thn (hl pins s1 σ H1 _ I1 q1) fun vl s2 ⟨l,H2,I2,pl,q2⟩=>thn (hu pins s2 σ H2 _ I2 q2) fun vu s3 ⟨u,H3,I3,pu,q3⟩=>?_)
 rw[evalPart_none]
 refine wpAny_pure ?_
 have I4:Inv X pins σ H3 { s3 with heap:=s3.heap.push { cls:=.type "slice",data:=.fields #[vl,vu,.none] } }:=I3.kept (t':=s3.toks) fun b ob q=>Ao _ q
 obtain⟨T,id,hT,ht,hg⟩:=hr pins { s3 with heap:=s3.heap.push { cls:=.type "slice",data:=.fields #[vl,vu,.none] } } σ H3 x v vl vu l u s3.heap.objs.size Q I4 r1 (Heap.IsSliceOf.new ..) pl pu q3
 show wpAny (model X.prog X.w) X.A (subscriptTail e (.Slice lo hi none p2) v (.ref s3.heap.objs.size)) (EP X pins σ Q) X.xe { s3 with heap:=s3.heap.push { cls:=.type "slice",data:=.fields #[vl,vu,.none] } }
 exact tail_any (ops:=[.ref s3.heap.objs.size,v]) ht hT hg (by with_unfolding_all rfl)
def Ggj(xs:List V)(lo hi:BC Int):List V:=(xs.drop (HT.sIx xs.length 0 lo)).take (HT.sIx xs.length xs.length hi-HT.sIx xs.length 0 lo)
def Gbo(xs:List V)(lo hi:BC Int):(Ggj xs lo hi).length<=xs.length:=by
 unfold Ggj
 rw[AW,List.length_drop]
 omega
def Hcg(K:By):V->BC Int->BC Int->Hp->VK->Prop:=fun x lo hi H Q=>∃ a xs,x=.ref a/\SqT K H a xs∧
 ¬ (HT.sIx xs.length 0 lo=0/\HT.sIx xs.length xs.length hi=xs.length)/\∀ p,H p=none->Q (.ref p) (upd H p (.tup (Ggj xs lo hi)))
def Gvh:SlR X (Hcg X.K):=by
 intro pins s σ H x v vl vu lo hi sl Q I rx hs pl pu h
 obtain⟨a,xs,rfl,hx,hw,q⟩:=h
 cases rx
 obtain⟨its,r,ht,hz⟩:=I.tuple hx
 have hlen:its.toArray.size=xs.length:=by rw[Ak]; exact r.length.symm
 refine⟨"tuple",_,PyProof.Rows.slot_tuple_getitem.lookup,ht.typeIs,?_⟩
 refine HT.Zz ht hs pl pu (by rw[hlen]; exact hw) ?_ (by rw[hlen]; exact hz)
 rw[hlen]
 refine⟨.ref s.heap.objs.size,_,I.laid (t':=s.toks) (o:=.tup (Ggj xs lo hi)) (fun b ob q=>Ao _ q) (Ab _) ?_,rfl,q _ (I.hok.fresh (Ab _))⟩
 exact⟨Aj (Gbo xs lo hi) hz,_,(r.drop (HT.sIx xs.length 0 lo)).take (HT.sIx xs.length xs.length hi-HT.sIx xs.length 0 lo),IsTup.new _ _⟩
def Gth(K:By):R2:=fun x y H Q=>∃ a b xs ys,x=.ref a/\y=.ref b/\SqT K H a xs/\SqT K H b ys/\xs≠[]/\xs.length+ys.length<=sizeLine∧
 (ys=[]->Q (.ref a) H)/\(ys≠[]->∀ p,H p=none->Q (.ref p) (upd H p (.tup (xs++ys))))
def Vals.nil_iff{us:List Bz}(r:Vals xs us):us=[]↔xs=[]:=by
 cases r with
 | nil=>simp
 | cons _ _=>simp
def Gqd:OpR X (binaryOp .Add) (Gth X.K):=by
 intro pins s σ H x y v u Q I rx ry h
 obtain⟨a,b,xs,ys,rfl,rfl,ha,hb,hx,hz,q1,q2⟩:=h
 cases rx
 cases ry
 obtain⟨its,r1,p1,_⟩:=I.tuple ha
 obtain⟨its2,r2,p2,_⟩:=I.tuple hb
 refine HT.Gp9 p1 p2 (fun z=>hx (r1.nil_iff.mp z)) (fun z=>⟨.ref a,H,I,rfl,q1 (r2.nil_iff.mp z)⟩) (fun z=>?_) (by rw[<- r1.length,<- r2.length]; exact hz)
 refine⟨.ref s.heap.objs.size,_,I.laid (t':=s.toks) (o:=.tup (xs++ys)) (fun b ob q=>Ao _ q) (Ab _) ?_,rfl,q2 (fun w=>z (r2.nil_iff.mpr w)) _ (I.hok.fresh (Ab _))⟩
 exact⟨by rw[Az]; exact hz,_,r1.append r2,IsTup.new _ _⟩
end
noncomputable def ixN(n:Nat)(i:Int):BC Nat:=if 0<=i then(if i<n then some i.toNat else none) else if -(n:Int)<=i then some (i+n).toNat else none
def atI{α:Type}(xs:List α)(i:Int):BC α:=(ixN xs.length i).bind fun j=>xs[j]?
def Gi7{i:Int}{j:Nat}(h:ixN n i=some j):seqIndex? i n=some j/\j<n /\ -(n:Int)<=i/\i<n:=by
 unfold ixN at h
 by_cases h0:0<=i
 ·rw[if_pos h0] at h
  by_cases h1:i<n
  ·rw[if_pos h1] at h
   have e:i.toNat=j:=Ac h
   exact⟨by rw[seqIndex_of h0 h1,e],by omega,by omega,h1⟩
  ·rw[if_neg h1] at h; cases h
 ·rw[if_neg h0] at h
  by_cases h1 : -(n:Int)<=i
  ·rw[if_pos h1] at h
   have e:(i+n).toNat=j:=Ac h
   exact⟨by rw[seqIndex_neg (by omega) h1,e],by omega,h1,by omega⟩
  ·rw[if_neg h1] at h; cases h
def Gez{α:Type}{xs:List α}{i:Int}{v:α}(h:atI xs i=some v):∃ j,seqIndex? i xs.length=some j/\xs[j]?=some v/\j<xs.length /\ -(xs.length:Int)<=i/\i<xs.length:=by
 unfold atI at h
 cases e:ixN xs.length i with
 | none=>rw[e] at h; cases h
 | some j=>
  rw[e] at h
  obtain⟨h1,h2,h3,h4⟩:=Gi7 e
  exact⟨j,h1,h,h2,h3,h4⟩
def Gb8(b:Expr):Prop:=∀ o i,subscripted b false o i=operate [o,i] (getItem o i)
def IxR(X:Cx)(r:R2):Prop:=
 ∀ (value slice:Expr) (pins:List (BB×Obj)) (s:BA) (σ:St) (H:Hp) (x y:V) (v u:Bz) (Q:VK),Inv X pins σ H s->Hf x v->Hf y u->r x y H Q→
  subscripted slice false v u=operate [v,u] (getItem v u)->wpAny (model X.prog X.w) X.A (subscriptTail value slice v u) (EP X pins σ Q) X.xe s
def MtR(X:Cx)(id:String)(r:V->List V->Hp->VK->Prop):Prop:=
 ∀ (pins:List (BB×Obj)) (s:BA) (σ:St) (H:Hp) (x:V) (xs:List V) (v:Bz) (us:List Bz) (Q:VK),Inv X pins σ H s->Hf x v->Vals xs us->r x xs H Q→
  wpAny (model X.prog X.w) X.A (call (.builtin id) (v::us)) (EP X pins σ Q) X.xe s
section
variable{X:Cx}{a b:Expr}{ta tb:TE}{pos:Pos}
def IxR.or{r r':R2}(h:IxR X r)(h':IxR X r'):IxR X (fun x y H Q=>r x y H Q\/r' x y H Q):=by
 intro value slice pins s σ H x y v u Q I rx ry q hs
 rcases q with q | q
 ·exact h value slice pins s σ H x y v u Q I rx ry q hs
 ·exact h' value slice pins s σ H x y v u Q I rx ry q hs
def Gzq{r:R2}(hr:IxR X r)(ha:PE X a ta)(hb:PE X b tb)(hs:Gb8 b):PE X (.Subscript a b pos) (tOp r ta tb):=by
 intro pins s σ H Q I h
 exact Subscript_ (Gu3 ha hb I h fun v u s2 x y H2 I2 rx ry q=>hr a b pins s2 σ H2 x y v u Q I2 rx ry q (hs _ _))
def Gzr(K:By):R2:=fun x y H Q=>∃ p xs i v,x=.ref p/\y=.int i/\SqL K H p xs/\atI xs i=some v/\Q v H
def Gzs(K:By):R2:=fun x y H Q=>∃ p xs i v,x=.ref p/\y=.int i/\SqT K H p xs/\atI xs i=some v/\Q v H
def Gzt:R2:=fun x y H Q=>∃ z i c,x=.str z/\y=.int i/\z.length<=sizeLine/\atI z.cps.toList i=some c/\Q (.str ⟨#[c]⟩) H
def Gqe:IxR X (Gzr X.K):=by
 intro value slice pins s σ H x y v u Q I rx ry h hs
 obtain⟨p,xs,i,z,rfl,rfl,hq,he,q⟩:=h
 cases rx
 obtain⟨t,rfl⟩:=ry
 obtain⟨its,r,pl,hz⟩:=I.list hq
 obtain⟨j,h1,h2,h3,h4,h5⟩:=Gez he
 obtain⟨w,ew,rw'⟩:=r.get h2
 have hl:=r.length
 have hn:=Zl
 have fin:EP X pins σ Q w s:=⟨z,H,I,rw',q⟩
 by_cases h0:0<=i
 ·have hj:i.toNat=j:=by
   rw[seqIndex_of h0 h5] at h1
   exact Ac h1
  exact item_listR pl.isList h0 (by omega) (by rw[hj]; simpa using ew) fin hs
 ·have hj:(i+(its.toArray.size:Int)).toNat=j:=by
   rw[seqIndex_neg (by omega) h4] at h1
   rw[Ak,<- hl]
   exact Ac h1
  exact subscriptTail_builtinR (x:=w) pl.isList.typeIs slot_list_getitem.lookup
   (wpAny_getItem_list_neg (Q:=fun r s'=>r=w/\EP X pins σ Q r s') pl.isList (by omega) (by rw[Ak]<;>omega) (by omega) (by rw[hj]; simpa using ew) ⟨rfl,fin⟩) hs
def Gvi:IxR X (Gzs X.K):=by
 intro value slice pins s σ H x y v u Q I rx ry h hs
 obtain⟨p,xs,i,z,rfl,rfl,hq,he,q⟩:=h
 cases rx
 obtain⟨t,rfl⟩:=ry
 obtain⟨its,r,pl,hz⟩:=I.tuple hq
 obtain⟨j,h1,h2,h3,h4,h5⟩:=Gez he
 obtain⟨w,ew,rw'⟩:=r.get h2
 have hl:=r.length
 have hn:=Zl
 have fin:EP X pins σ Q w s:=⟨z,H,I,rw',q⟩
 exact subscriptTail_builtinR (x:=w) pl.typeIs slot_tuple_getitem.lookup
  (getItem_tuple (j:=j) (Q:=fun r s'=>r=w/\EP X pins σ Q r s') pl (by omega) (by omega) (by rw[Ak,<- hl]; exact h1) (by simpa using ew) ⟨rfl,fin⟩) hs
def Gvj:IxR X Gzt:=by
 intro value slice pins s σ H x y v u Q I rx ry h hs
 obtain⟨z,i,c,rfl,rfl,hz,he,q⟩:=h
 obtain⟨t,rfl⟩:=rx
 obtain⟨t',rfl⟩:=ry
 obtain⟨j,h1,h2,h3,h4,h5⟩:=Gez he
 have hl:z.cps.toList.length=z.length:=by simp[Str.length]
 rw[hl] at h1 h4 h5
 have hn:=Zl
 exact tail_any (typeIs_str s z t) slot_str_getitem.lookup (getItem_str (c:=c) (by
  have e1:decide (i < -(2^63:Int))=false:=decide_eq_false (by omega)
  have e2:decide (i≥2^63)=false:=decide_eq_false (by omega)
  rw[e1,e2,Bool.or_false]) (by rw[h1]; simpa using h2) ⟨.str ⟨#[c]⟩,H,I.tok _,⟨_,rfl⟩,q⟩) hs
def rIx(K:By):R2:=fun x y H Q=>Gzr K x y H Q\/Gzs K x y H Q\/Gzt x y H Q
def Gvk:IxR X (rIx X.K):=Gqe.or (Gvi.or Gvj)
def Ghz(its:List Bz)(n j:Nat)(u:Bz):Obj.mapSeq (·.setIfInBounds j u) { cls:=.type "list",data:=.seq its.toArray n }={ cls:=.type "list",data:=.seq (its.set j u).toArray n }:=by
 simp[Obj.mapSeq]
def Inv.lst{s:BA}{p:BB}(I:Inv X pins σ H s)(h:H p=some (.lst xs)):
  ∃ (its:List Bz) (n:Nat),Vals xs its/\s.heap.get? p=some { cls:=.type "list",data:=.seq its.toArray n }/\xs.length<=sizeLine:=by
 obtain⟨z,its,n,r,e⟩:=I.hok p _ h
 exact⟨its,n,r,e,z⟩
def Inv.lstUpd{s:BA}{p:BB}{ys:List V}{its':List Bz}{n':Nat}{f:Obj->Obj}(I:Inv X pins σ H s)(h:H p=some (.lst xs))(ho:s.heap.get? p=some { cls:=.type "list",data:=.seq its.toArray n })(hf:f { cls:=.type "list",data:=.seq its.toArray n }={ cls:=.type "list",data:=.seq its'.toArray n' })(r:Vals ys its')(hz:ys.length<=sizeLine)(t:Nat):
  Inv X pins σ (upd H p (.lst ys)) { s with heap:=s.heap.update p f,toks:=t }:=by
 have e:(s.heap.update p f).get? p=some { cls:=.type "list",data:=.seq its'.toArray n' }:=by
  rw[AX f ho (by rw[hf]<;>rfl),hf]
 refine I.write (x:=p) (e:=p) (by rw[h]; trivial) (.inl rfl) (fun b u hb q=>(AH _ _ (Ne.symm hb)).trans q) ⟨_,e⟩ ?_
 exact⟨hz,its',n',r,e⟩
def Gti:V->V->V->Hp->(Hp->Prop)->Prop:=fun o i v H Q=>∃ p xs k j,o=.ref p/\i=.int k/\H p=some (.lst xs)/\ixN xs.length k=some j/\Q (upd H p (.lst (xs.set j v)))
def Gco:Gp2 X Gti:=by
 intro pins s σ H o i v ov iv u Q I ro ri rv h
 obtain⟨p,xs,k,j,rfl,rfl,hp,hj,q⟩:=h
 cases ro
 obtain⟨t,rfl⟩:=ri
 obtain⟨its,n,r,ho,hz⟩:=I.lst hp
 obtain⟨h1,h2,h3,h4⟩:=Gi7 hj
 have hl:=r.length
 have hn:=Zl
 have I':Inv X pins σ (upd H p (.lst (xs.set j v))) { s with heap:=s.heap.update p (Obj.mapSeq (·.setIfInBounds j u)) }:=
  I.lstUpd hp ho (Ghz its n j u) (r.set rv j) (by rw[A9]; exact hz) s.toks
 by_cases h0:0<=k
 ·have hk:k.toNat=j:=by
   rw[seqIndex_of h0 h4] at h1
   exact Ac h1
  exact PySem.W.ki_setAt ho h0 (by omega) (by rw[Ak,<- hl]; exact h4) (by rw[hk]; exact⟨_,I',q⟩)
 ·have hk:(k+(its.toArray.size:Int)).toNat=j:=by
   rw[seqIndex_neg (by omega) h3] at h1
   rw[Ak,<- hl]
   exact Ac h1
  exact PySem.W.ki_setBack ho (by omega) (by rw[Ak,<- hl]; exact h3) (by omega) (by rw[hk]; exact⟨_,I',q⟩)
def Ge0(lo hi:BC Int)(n:Nat):(sliceBounds lo hi none n).1=((HT.sIx n 0 lo:Nat):Int)/\(sliceBounds lo hi none n).2.1=((HT.sIx n n hi:Nat):Int)/\(sliceBounds lo hi none n).2.2=1:=by
 refine⟨?_,?_,rfl⟩
 ·cases lo with
  | none=>simp[sliceBounds,HT.sIx]
  | some i=>
   simp only[sliceBounds,HT.sIx,Option.getD_none,show(1:Int)>0 by decide,if_true]
   by_cases h:i<0
   ·simp only[h,if_true]<;>omega
   ·simp only[h,if_false]<;>omega
 ·cases hi with
  | none=>simp[sliceBounds,HT.sIx]
  | some i=>
   simp only[sliceBounds,HT.sIx,Option.getD_none,show(1:Int)>0 by decide,if_true]
   by_cases h:i<0
   ·simp only[h,if_true]<;>omega
   ·simp only[h,if_false]<;>omega
def Gdp(its:List Bz)(lo hi:BC Int):slicePick its.toArray lo hi none=((its.drop (HT.sIx its.length 0 lo)).take (HT.sIx its.length its.length hi-HT.sIx its.length 0 lo)).toArray:=by
 obtain⟨h1,h2,h3⟩:=Ge0 lo hi its.toArray.size
 unfold slicePick
 rw[h1,h2,h3]
 simp only[sliceRange_one,pick_run,Ak]<;>rfl
def Hch(K:By):V->BC Int->BC Int->Hp->VK->Prop:=fun x lo hi H Q=>∃ a xs,x=.ref a/\SqL K H a xs/\∀ p,H p=none->Q (.ref p) (upd H p (.lst (Ggj xs lo hi)))
def Gqf:SlR X (Hch X.K):=by
 intro pins s σ H x v vl vu lo hi sl Q I rx hs pl pu h
 obtain⟨a,xs,rfl,hx,q⟩:=h
 cases rx
 obtain⟨its,r,ht,hz⟩:=I.list hx
 have hlen:=r.length
 refine⟨"list",_,slot_list_getitem.lookup,ht.isList.typeIs,?_⟩
 refine wpAny_getItem_list_slice ht.isList hs pl pu .none (by simp) ?_ (by rw[Ak]<;>omega)
 rw[Gdp,<- hlen]
 refine⟨.ref s.heap.objs.size,_,I.laid (t':=s.toks) (o:=.lst (Ggj xs lo hi)) (fun b ob q=>Ao _ q) (Ab _) ?_,rfl,q _ (I.hok.fresh (Ab _))⟩
 exact⟨Aj (Gbo xs lo hi) hz,_,0,(r.drop (HT.sIx xs.length 0 lo)).take (HT.sIx xs.length xs.length hi-HT.sIx xs.length 0 lo),AD _ rfl⟩
def Ge1:Xq X (.type "list") (fun xs H Q=>∃ p ys,xs=[.ref p]/\(SqL X.K H p ys\/SqT X.K H p ys)/\∀ l,H l=none->Q (.ref l) (upd H l (.lst ys))):=by
 intro pins s σ H xs us Q I r h
 obtain⟨p,ys,rfl,hq,q⟩:=h
 obtain⟨u,rfl,rx⟩:=Gcm r
 cases rx
 have fin:∀ (its:List Bz),Vals ys its->ys.length<=sizeLine->∀ (h':Heap) (c':Nat),(∀ b o',s.heap.get? b=some o'->h'.get? b=some o')→
   h'.get? s.heap.objs.size=some { cls:=.type "list",dict:=none,data:=.seq its.toArray c',slots:=#[] }->EP X pins σ Q (.ref s.heap.objs.size) { s with heap:=h' }:=fun its r' hz h' c' kp e=>
  ⟨.ref s.heap.objs.size,_,I.laid (t':=s.toks) kp (Ab _) (show Kj X.prog X.w _ h' _ (.lst ys) from⟨hz,its,c',r',e⟩),rfl,q _ (I.hok.fresh (Ab _))⟩
 rcases hq with hq | hq
 ·obtain⟨its,r',pl,hz⟩:=I.list hq
  have hlen:=r'.length
  obtain⟨o,ho,hc,n,hd⟩:=pl.isList
  exact call_list_seq p (.inl rfl) ho hc hd (fun h' c' kp e=>fin its r' hz h' c' kp e) (by simp only[Ak]<;>omega)
 ·obtain⟨its,r',pl,hz⟩:=I.tuple hq
  have hlen:=r'.length
  obtain⟨o,ho,hc,n,hd⟩:=pl
  exact call_list_seq p (.inr rfl) ho hc hd (fun h' c' kp e=>fin its r' hz h' c' kp e) (by simp only[Ak]<;>omega)
def Gdq:Xq X (.type "tuple") (fun xs H Q=>∃ p ys,xs=[.ref p]/\((SqL X.K H p ys/\∀ l,H l=none->Q (.ref l) (upd H l (.tup ys)))\/(SqT X.K H p ys/\Q (.ref p) H))):=by
 intro pins s σ H xs us Q I r h
 obtain⟨p,ys,rfl,h⟩:=h
 obtain⟨u,rfl,rx⟩:=Gcm r
 cases rx
 rcases h with⟨hq,q⟩ | ⟨hq,q⟩
 ·obtain⟨its,r',pl,hz⟩:=I.list hq
  have hlen:=r'.length
  refine call_tuple_list pl.isList (fun h' kp=>?_) (by simp only[Ak]<;>omega)
  have I1:Inv X pins σ H { s with heap:=h' }:=I.kept (t':=s.toks) kp
  have I2:Inv X pins σ (upd H h'.objs.size (.tup ys)) { s with heap:=h'.push { cls:=.type "tuple",data:=.seq its.toArray } }:=
   I1.laid (t':=s.toks) (fun b o e=>Ao _ e) (Ab _) (show Kj X.prog X.w _ _ _ (.tup ys) from⟨hz,its,r',IsTup.new _ _⟩)
  exact⟨.ref h'.objs.size,_,I2,rfl,q _ (I1.hok.fresh (Ab _))⟩
 ·obtain⟨its,r',pl,hz⟩:=I.tuple hq
  exact call_tuple_same pl ⟨.ref p,H,I,rfl,q⟩
def tyV(K:By)(T:String)(x:V)(H:Hp):Prop:=match x with
 | .str _=>T="str"
 | .int _=>T="int"
 | .ref p=>(T="list"/\∃ xs,SqL K H p xs)\/(T="tuple"/\∃ o,K.lookup p=some o/\o.cls=.type "tuple"/\o.dict=none)∨
   (T="dict"/\((∃ kvs,H p=some (.dK kvs))\/∃ kvs,H p=some (.dT kvs)))\/(T="set"/\∃ S n,H p=some (.set S n))
 | _=>False
def Gme{s:BA}{T:String}{x:V}{v:Bz}(I:Inv X pins σ H s)(r:Hf x v)(ty:tyV X.K T x H):
  s.TypeIs v T/\∀ a,v=.ref a->∃ ob,s.heap.get? a=some ob/\ob.dict=none:=by
 cases x with
 | str z=>
  obtain⟨t,rfl⟩:=r
  cases (show T="str" from ty)
  exact⟨typeIs_str s z t,fun _ e=>nomatch e⟩
 | int i=>
  obtain⟨t,rfl⟩:=r
  cases (show T="int" from ty)
  exact⟨typeIs_int s i t,fun _ e=>nomatch e⟩
 | ref p=>
  cases r
  rcases ty with⟨rfl,xs,hq⟩ | ⟨rfl,o,hk,hc,hd⟩ | ⟨rfl,hk⟩ | ⟨rfl,S,n,hk⟩
  ·obtain⟨its,_,pl,_⟩:=I.list hq
   refine⟨pl.isList.typeIs,fun a e=>?_⟩
   cases e
   obtain⟨o,n,e,c,hd,_⟩:=pl
   exact⟨o,e,hd⟩
  ·refine⟨⟨o,I.kIn p o hk,hc⟩,fun a e=>?_⟩
   cases e
   exact⟨o,I.kIn _ o hk,hd⟩
  ·have z:∃ o,s.heap.get? p=some o/\o.ExactDict:=by
    rcases hk with⟨kvs,hk⟩ | ⟨kvs,hk⟩
    ·obtain⟨_,_,_,_,o,_,_,e,ex,_⟩:=I.hok p _ hk
     exact⟨o,e,ex⟩
    ·obtain⟨_,_,_,_,o,_,_,e,ex,_⟩:=I.hok p _ hk
     exact⟨o,e,ex⟩
   obtain⟨o,e,ex⟩:=z
   refine⟨⟨o,e,ex.1⟩,fun a e2=>?_⟩
   cases e2
   exact⟨o,e,ex.2.1⟩
  ·obtain⟨o,_,_,_,e,ex,_⟩:=I.hok p _ hk
   refine⟨⟨o,e,ex.1⟩,fun a e2=>?_⟩
   cases e2
   exact⟨o,e,ex.2.1⟩
 | _=>exact False.elim ty
def Hci(K:By)(T:String)(r:V->List V->Hp->VK->Prop)(to:TE):TE:=fun σ H Q=>to σ H fun x H1=>tyV K T x H1/\r x [] H1 Q
def tBM(K:By)(T:String)(r:V->List V->Hp->VK->Prop)(to:TE)(t:TA):TE:=fun σ H Q=>to σ H fun x H1=>tyV K T x H1/\t σ H1 fun xs H2=>r x xs H2 Q
variable{o e:Expr}{es:List Expr}{to:TE}{t:TA}{name:Str}{apos cpos:Pos}{T id:String}{r:V->List V->Hp->VK->Prop}
noncomputable def Gvl(pa:PlainAttrs T)(slot:Slot T name id)(hty:typeOf (.builtin id)=pure (.type "method_descriptor"))(hm:MtR X id r)(ho:PE X o to)
  (hbase:attributeBase o name X.env (eval o X.env)=eval o X.env:=by rfl) (hline:(apos.endLine==cpos.line)=true:=by rfl):PE X (.Call (.Attribute o name apos) [] [] cpos) (Hci X.K T r to):=by
 intro pins s σ H Q I h
 refine wpAny_Call_method0_late hbase hline (thn (ho pins s σ H _ I h) fun v s1 ⟨x,H1,I1,r1,ty,q1⟩=>?_)
 obtain⟨h1,h2⟩:=Gme I1 r1 ty
 exact⟨T,id,pa,slot,hty,h1,h2,Calls.callWith_builtin rfl (PySem.evalArgs_none (hm pins s1 σ H1 x [] v [] Q I1 r1 .nil q1))⟩
def Gzu(pa:PlainAttrs T)(slot:Slot T name id)(hty:typeOf (.builtin id)=pure (.type "method_descriptor"))(hm:MtR X id r)(ho:PE X o to)(ha:PA X (e::es) t)
  (hbase:attributeBase o name X.env (eval o X.env)=eval o X.env:=by rfl)
  (hfew:((backTo cpos (starEach (e::es) X.env)).all (fun x=>!x.1)&&(backToKw cpos (keywordEach [] X.env)).all (fun x=>x.1.isSome)
   && decide ((e::es).length+([]:List Keyword).length+(if([]:List Keyword).isEmpty then 0 else 1)<30))=true:=by rfl)
  (hline:(apos.endLine==cpos.line)=true:=by rfl) (hs:starEach (e::es) X.env=(false,eval e X.env)::starEach es X.env:=by rfl) (hplain:(backTo cpos (starEach es X.env)).any (·.1)=false:=by rfl):
  PE X (.Call (.Attribute o name apos) (e::es) [] cpos) (tBM X.K T r to t):=by
 intro pins s σ H Q I h
 refine wpAny_Call_method_late hbase hfew hline rfl (thn (ho pins s σ H _ I h) fun v s1 ⟨x,H1,I1,r1,ty,q1⟩=>?_)
 obtain⟨h1,h2⟩:=Gme I1 r1 ty
 refine⟨T,id,pa,slot,hty,h1,h2,?_⟩
 have hA:=ha cpos pins s1 σ H1 _ I1 q1
 rw[hs] at hA ⊢
 refine Calls.callWith_builtin (by show(false||(backTo cpos (starEach es X.env)).any (·.1))=false; rw[hplain]<;>rfl) (Calls.evalArgs_plain ?_)
 exact thn hA fun us s2 ⟨vs,H2,I2,r2,q2⟩=>hm pins s2 σ H2 x vs v us Q I2 r1 r2 q2
end
def MtM(X:Cx)(id:String)(r:V->List V->Hp->VK->Prop):Prop:=
 ∀ (pins:List (BB×Obj)) (s:BA) (σ:St) (H:Hp) (x:V) (xs:List V) (v:Bz) (us:List Bz) (Q:VK),Inv X pins σ H s->Hf x v->Vals xs us->r x xs H Q→
  wpAny (model X.prog X.w) X.A (call (.builtin id) (v::us)) (EP X pins σ Q) X.xe s
def Vals.one:∀ {x:V} {us:List Bz},Vals [x] us->∃ u,us=[u]/\Hf x u
 | _,_,.cons r .nil=>⟨_,rfl,r⟩
def Vals.two:∀ {x y:V} {us:List Bz},Vals [x,y] us->∃ u v,us=[u,v]/\Hf x u/\Hf y v
 | _,_,_,.cons r (.cons q .nil)=>⟨_,_,rfl,r,q⟩
def Vals.zero:∀ {us:List Bz},Vals [] us->us=[]
 | _,.nil=>rfl
def Vals.rep{us:List Bz}(h:Vals xs us):∀ k:Nat,Vals (List.replicate k xs).flatten (List.replicate k us).flatten
 | 0=>.nil
 | k+1=>by
  rw[AO,AO,AY,AY]
  exact Vals.append h (Vals.rep h k)
def Ga3(its:List Bz):∀ (k:Nat) (acc:List Bz),
  List.foldl (fun x1 x2=>x1++x2) acc.toArray (List.replicate k its.toArray)=(acc++(List.replicate k its).flatten).toArray
 | 0,acc=>by simp
 | k+1,acc=>by
  have e:acc.toArray++its.toArray=(acc++its).toArray:=by simp
  have e2:(acc++its)++(List.replicate k its).flatten=acc++(List.replicate (k+1) its).flatten:=by
   rw[AO,AY,AI]
  rw[<- e2,<- Ga3 its k (acc++its),<- e,AO,List.foldl_cons]
section
variable{X:Cx}{pins:List (BB×Obj)}{σ:St}{H:Hp}{s:BA}{l b:BB}{xs ys zs:List V}
def Inv.lset{its':List Bz}{f:Array Bz->Array Bz}{t':Nat}(I:Inv X pins σ H s)(hH:H l=some (.lst xs))(e:s.heap.get? l=some { cls:=.type "list",data:=.seq its.toArray n })(hf:f its.toArray=its'.toArray)(hv:Vals ys its')(hz:ys.length<=sizeLine):
  Inv X pins σ (upd H l (.lst ys)) { s with heap:=s.heap.update l (Obj.mapSeq f),toks:=t' }:=by
 have q:=PySem.IsL.update e f
 rw[hf] at q
 refine I.write (x:=l) (e:=l) (by rw[hH]; exact trivial) (.inl rfl) (fun b' u hb hu=>(AH s.heap (Obj.mapSeq f) (Ne.symm hb)).trans hu) ⟨_,q⟩ ?_
 exact⟨hz,its',_,hv,q⟩
def Inv.lnew{t':Nat}(I:Inv X pins σ H s)(hv:Vals ys its)(hz:ys.length<=sizeLine):
  Inv X pins σ (upd H s.heap.objs.size (.lst ys)) { s with heap:=s.heap.push { cls:=.type "list",data:=.seq its.toArray },toks:=t' }:=
 I.laid (fun _ _ q=>Ao _ q) (Ab _) ⟨hz,its,0,hv,AD _ rfl⟩
def Inv.fresh(I:Inv X pins σ H s):H s.heap.objs.size=none:=I.hok.fresh (Ab _)
def Inv.lstM(I:Inv X pins σ H s)(hH:H l=some (.lst xs)):xs.length<=sizeLine/\∃ (its:List Bz) (n:Nat),Vals xs its/\xs.length=its.length/\s.heap.get? l=some { cls:=.type "list",data:=.seq its.toArray n }:=by
 obtain⟨z,its,n,r,e⟩:=I.hok l _ hH
 exact⟨z,its,n,r,r.length,e⟩
def Gmf(h:n<=sizeLine):Builtin.List.listTooLong n=false:=by
 unfold Builtin.List.listTooLong
 exact decide_eq_false (by omega)
end
section
variable{X:Cx}
def Gi8:V->List V->Hp->VK->Prop:=fun x vs H Q=>∃ l xs y,x=.ref l/\vs=[y]/\H l=some (.lst xs)/\xs.length<sizeLine/\Q .non (upd H l (.lst (xs++[y])))
def Gef:MtM X "list.append" Gi8:=by
 intro pins s σ H x vs v us Q I rx rv h
 obtain⟨l,xs,y,rfl,rfl,hH,hz,q⟩:=h
 cases rx
 obtain⟨u,rfl,ru⟩:=rv.one
 obtain⟨z,its,n,r,hl,e⟩:=I.lstM hH
 refine call_meets F.slot_list_append ⟨_,e,rfl⟩ F.entry_list_append (F.args_list_append_2 _ _) (PySem.list_append l its.toArray n u (by rw[Ak]; omega)) ⟨e,?_⟩
 refine⟨.non,_,I.lset (its':=its++[u]) hH e (by simp) (r.append (.cons ru .nil)) ?_,rfl,q⟩
 rw[Az,List.length_singleton]
 omega
def Gmg:V->List V->Hp->VK->Prop:=fun x vs H Q=>∃ l xs,x=.ref l/\vs=[]/\H l=some (.lst xs)/\Q .non (upd H l (.lst []))
def Gmh:MtM X "list.clear" Gmg:=by
 intro pins s σ H x vs v us Q I rx rv h
 obtain⟨l,xs,rfl,rfl,hH,q⟩:=h
 cases rx
 have hus:=rv.zero
 subst hus
 obtain⟨z,its,n,r,hl,e⟩:=I.lstM hH
 refine call_meets F.slot_list_clear ⟨_,e,rfl⟩ F.entry_list_clear (F.args_list_clear_1 _) (AutoSeq1.list_clear_list_0 l its.toArray n (by rw[Ak]; omega)) ⟨e,?_⟩
 exact⟨.non,_,I.lset (its':=[]) (ys:=[]) hH e rfl .nil (AB _),rfl,q⟩
def Gzv:R2:=fun x y H Q=>∃ l b xs zs,x=.ref l/\y=.ref b/\H l=some (.lst xs)/\H b=some (.lst zs)/\xs.length+zs.length<=sizeLine/\∀ p,H p=none->Q (.ref p) (upd H p (.lst (xs++zs)))
def Gvm:OpR X (binaryOp .Add) Gzv:=by
 intro pins s σ H x y v u Q I rx ry h
 obtain⟨l,b,xs,zs,rfl,rfl,hH,hB,hz,q⟩:=h
 cases rx
 cases ry
 obtain⟨z,its,n,r,hl,e⟩:=I.lstM hH
 obtain⟨z2,its2,n2,r2,hl2,e2⟩:=I.lstM hB
 refine PySem.P.add_list e e2 ?_ (by rw[Ak,Ak]; omega)
 have ea:its.toArray++its2.toArray=(its++its2).toArray:=by simp
 rw[ea]
 exact⟨.ref _,_,I.lnew (t':=s.toks) (r.append r2) (by rw[Az]; omega),rfl,q _ I.fresh⟩
def Gzw:R2:=fun x y H Q=>∃ l k xs,x=.ref l/\y=.int k/\H l=some (.lst xs) /\ -(2^63)<=k/\k<2^63/\xs.length*k.toNat<=sizeLine∧
 ∀ p,H p=none->Q (.ref p) (upd H p (.lst (List.replicate k.toNat xs).flatten))
def Ge2{α:Type}(xs:List α)(k:Nat):(List.replicate k xs).flatten.length=k*xs.length:=by
 induction k with
 | zero=>simp
 | succ k ih=>rw[AO,AY,Az,ih,Nat.succ_mul,Nat.add_comm]
def Gvn:OpR X (binaryOp .Mult) Gzw:=by
 intro pins s σ H x y v u Q I rx ry h
 obtain⟨l,k,xs,rfl,rfl,hH,h1,h2,hz,q⟩:=h
 cases rx
 obtain⟨t,rfl⟩:=ry
 obtain⟨z,its,n,r,hl,e⟩:=I.lstM hH
 have hlen:its.toArray.size*k.toNat<=sizeLine:=by rw[Ak,<- hl]; exact hz
 have hcap:¬ its.toArray.size*k.toNat>(2^63-1) / 8:=by
  have:(sizeLine:Nat)<=(2^63-1) / 8:=by decide
  omega
 have hfit:¬ (!Builtin.List.listFitsIndex k)=true:=by
  rw[fitsIndex_both h1 h2]
  exact An
 have hlong:¬ Builtin.List.listTooLong (its.toArray.size*k.toNat)=true:=by
  rw[Gmf hlen]
  exact An
 have hnew:List.foldl (fun x1 x2=>x1++x2) #[] (List.replicate (if its.toArray.isEmpty=true then 0 else k.toNat) its.toArray)=(List.replicate k.toNat its).flatten.toArray:=by
  have f0:∀ m:Nat,List.foldl (fun x1 x2=>x1++x2) #[] (List.replicate m its.toArray)=(List.replicate m its).flatten.toArray:=fun m=>by
   have:=Ga3 its m []
   rw[List.nil_append] at this
   exact this
  rw[f0]
  cases its with
  | nil=>simp
  | cons a r'=>rw[if_neg (by simp)]
 refine wpAny_binaryOp_repeat_ref (T:="list") (U:="int") (by decide) ⟨_,e,rfl⟩ (fun s'=>typeIs_int s' k t) noFill_list_mul F.fills_int_mul F.slot_int_rmul repeat_list F.slot_int_index.lookup
  (call_meets F.slot_int_rmul (typeIs_int s k t) F.entry_int_rmul (F.args_int_rmul_2 _ _) (int___rmul___int_list k t l its.toArray n)
   ⟨e,rfl,⟨_,e,rfl⟩,call_meets F.slot_list_mul ⟨_,e,rfl⟩ F.entry_list_mul (F.args_list_mul_2 _ _) (AutoListH.list___mul___list_int_3 l its.toArray n k t hfit hcap hlong) ⟨e,?_⟩⟩)
 rw[hnew]
 exact⟨.ref _,_,I.lnew (t':=s.toks) (r.rep k.toNat) (by rw[Ge2,Nat.mul_comm]; exact hz),rfl,q _ I.fresh⟩
end
end L2
namespace Att
open PySem PySem.W PySem.Calls PyProof.Rows
def Gb1{P:Params}{h:Heap}:∀ (ns:List Int) (vs:List Bz),WellAll P h vs (ns.map WData.int)->IntsAre vs ns:=by
 intro ns
 induction ns with
 | nil=>
  intro vs w
  rw[Bm] at w
  cases w
  exact .nil
 | cons n ns ih=>
  intro vs w
  rw[At] at w
  cases w with
  | cons a b=>
   cases a
   exact .cons _ _ (ih _ b)
def Gk9{l:OpenLaw}{n:Nat}(hn:l.most=some n){P:Params}{h:Heap}{args:List WData}{vals:List Bz}
  (hpre:l.row.toRowW.claim.pre args=true) (hwl:WellAll P h vals args):
  ∃ a vs ns,vals=[Value.ref a]/\args=[WData.list (ns.map WData.int)]/\h.get? a=some { cls:=.type "list",data:=.seq vs.toArray }/\IntsAre vs ns/\ns.length<=n:=by
 have hsh:WShape.hasAll [] args [.list .int]=true:=(pre_splitW hpre).1
 have hc:l.pre.holds [] { args:=args }=true:=(pre_splitW hpre).2
 obtain⟨d,r,rfl,h1,h2⟩:=hasAllW_cons hsh
 obtain rfl:=hasAllW_nil h2
 obtain⟨xs,rfl,h3⟩:=hasW_list h1
 obtain⟨ns,rfl⟩:=items_int h3
 have hlen:ns.length<=n:=by
  unfold OpenLaw.pre at hc
  have h4:(WTm.not (.lt (.lit (.int (n:Int))) (.len (.arg 0)))).holds [] { args:=[.list (ns.map .int)] }=true:=by
   have h4:=(holds_andW hc).1
   rw[hn] at h4
   exact h4
  have h5:=condW_of h4 (w_not (w_lt w_lit (w_len_list (w_arg rfl))))
  rw[Am] at h5
  refine Nat.le_of_not_lt fun q=>?_
  have q':(n:Int)<((ns.length:Nat):Int):=by omega
  first
   | (rw[decide_eq_true q'] at h5; exact absurd h5 (by decide))
   | (simp at h5; omega)
 cases hwl with
 | cons w1 w2=>
  cases w2
  cases w1 with
  | list ho hall=>exact⟨_,_,ns,rfl,rfl,ho,Gb1 ns _ hall,hlen⟩
def post_true(l:OpenLaw)(args:List WData):l.row.toRowW.claim.post args (.bool true) args=true:=
 postW_of (r:=l.row.toRowW) (X:=(true==true))
  (show WShape.has [] (.bool true) .bool=true by first | rfl | decide | simp[WShape.has,WShape.arms,WShape.armsAll])
  (show(WTm.eq .res (.lit (.bool true))).value [] { args:=args,res:=some (.bool true),after:=args }=some (.bool (true==true)) from w_eq_bool (w_res rfl) w_lit) rfl
def attach_call{l:OpenLaw}{n:Nat}{q:BD}{loose:List Str}{XP:(Str->BC Bz)->Heap->Prop}{YP:World->Heap->Prop}{d:DefRec}
  (hn:l.most=some n) (hdf:d.params.defaults=[])
  (call:∀ (w:World) (s₀ s₁:BA) (mg mb:Str->BC Bz) (fa:BB) (o:Obj) (pm cd doc:Bz) (a:BB) (vs:List Bz) (ns:List Int),
   Ground q loose [] XP w s₀ mg mb s₁.heap->YP w s₁.heap→
   s₁.heap.get? fa=some o->o.data=.func (docDef d.name d.params d.body d.scope pm cd doc)->s₁.heap.CodeRec cd d.name->mg d.name=some (.ref fa)→
   s₁.heap.get? a=some { cls:=.type "list",data:=.seq vs.toArray }->IntsAre vs ns->ns.length<=n->s₁.gens=#[]→
   codeAny (model l.prog w) callerA (.call (.ref fa) ⟨[.ref a],[]⟩) (fun r s'=>r=.ok (.ret (.bool true))/\OldK s₁.heap s'.heap/\s'.os=s₁.os/\AllBare s'.gens) s₁):
  WalkO q loose XP YP l.row.toRowW d [] (fun f vs=>PySem.call f vs):=by
 intro w s₀ s₁ mg mb G Y fa o pm cd doc dV kV ho hd hcd hD hmg hg args vals as hpre hlay hrd hwl hlo
 obtain rfl:dV=.none:=Dflts.none hD hdf
 obtain rfl:kV=.none:=Dflts.noKw hD
 obtain⟨a,vs,ns,rfl,rfl,hobj,hints,hlen⟩:=Gk9 hn hpre hwl
 refine enter_call (codeAny_mono (call w s₀ s₁ mg mb fa o pm cd doc a vs ns G Y ho (fd_plain hd) hcd hmg hobj hints hlen hg) fun r s' hq=>?_)
 obtain⟨rfl,h2,h3,h4⟩:=hq
 exact⟨.inl ⟨.bool true,.bool true,[],rfl,fun _=>rfl,.bool true,post_true l _,fun _=>⟨List.Pairwise.nil,fun _ hm=>(nomatch hm)⟩⟩,h2,h3,h4⟩
end Att
namespace L2
open PySem PySem.Spec PyProof.Rows
variable{k:Nat}{fd:FuncData}{qual:Str}{st:Stmt}{f:BB}
def Geg:∀ {vs:List Bz} {ns:List Int},IntsAre vs ns->Vals (ns.map V.int) vs
 | _,_,.nil=>.nil
 | _,_,.cons n t h=>.cons ⟨t,rfl⟩ (Geg h)
def Only(H:Hp):Prop:=∀ b,H b=none\/∃ o xs,H b=some (.frz o (.lst xs))
def Gmi{P:BD}{w:World}{K:By}{mg mb:Str->BC Bz}{CX:CXT}{fa a:BB}{x:Str}{sp:Sp}{s₁:BA}{vs:List Bz}{ns:List Int}(KX:K.In s₁.heap)(hns:s₁.heap.Ns mainGlobals mg)(hb:s₁.heap.Ns builtinsNs mb)(hbb:∀ x:Str,x≠"__name__"->mb x=bootBuiltins x)(hlim:s₁.heap.NoLimit)(hg:s₁.gens=#[])(ha:s₁.heap.get? a=some { cls:=.type "list",data:=.seq vs.toArray })(hi:IntsAre vs ns)(hl:ns.length<=sizeLine)(hr:Room k callerA)(F:∀ base:Heap,K.In base->base.Ns mainGlobals mg->FnOk P w K mg base CX k fa fd [x] sp)(hbind:∀ (s:BA) (u:Bz),BindsTo s fd ⟨[u],[]⟩ [(x,u)])(hsp:∀ H:Hp,Only H->SqL K H a (ns.map V.int)->sp [.ref a] H (fun v _=>v=.bl true) fun _ _ _=>False)(hCX:∀ H e s',CX [] H s₁ (fun _ _ _=>False) e s'->False):
  codeAny (model P w) callerA (.call (.ref fa) ⟨[.ref a],[]⟩) (fun r s'=>r=.ok (.ret (.bool true))/\OldK s₁.heap s'.heap/\s'.os=s₁.os/\AllBare s'.gens) s₁:=by
 have rv:=Geg hi
 have lenV:=hi.length
 have core:∀ H:Hp,Only H->SqL K H a (ns.map V.int)->HOk P w H s₁.heap->(∀ b,H b≠none->b=a)->(H a≠none->K.lookup a=none)→
   codeAny (model P w) callerA (.call (.ref fa) ⟨[.ref a],[]⟩) (fun r s'=>r=.ok (.ret (.bool true))/\OldK s₁.heap s'.heap/\s'.os=s₁.os/\AllBare s'.gens) s₁:=by
  intro H hO hS hok hA hK
  have base_of:∀ {b:BB} {o:Obj},s₁.heap.get? b=some o->H b=none->(Gew s₁.heap H).get? b=some o:=fun e n=>Gly e n
  have noA:∀ {b:BB} {o:Obj} {es:Array DictEntry} {ep:Nat},s₁.heap.get? b=some o->o.data=.dict es ep->H b=none:=fun{b o es ep} e d=>by
   cases q:H b with
   | none=>rfl
   | some u=>
    have e':b=a:=hA b (by rw[q]; simp)
    subst e'
    rw[ha] at e; cases e
    have d':Data.seq vs.toArray _=Data.dict es ep:=d
    cases d'
  have nsK:∀ {b:BB} {m:Str->BC Bz},s₁.heap.Ns b m->(Gew s₁.heap H).Ns b m:=fun{b m} ⟨o,es,ep,e,d,r⟩=>⟨o,es,ep,base_of e (noA e d),d,r⟩
  have hKb:K.In (Gew s₁.heap H):=fun b o e=>base_of (KX b o e) (by
   cases q:H b with
   | none=>rfl
   | some u=>
    have e':b=a:=hA b (by rw[q]; simp)
    subst e'
    rw[hK (by rw[q]; simp)] at e; cases e)
  have hM:Mod K mg (Gew s₁.heap H):=⟨hKb,nsK hns,⟨mb,nsK hb,hbb⟩,let ⟨mc,h1,h2⟩:=hlim; ⟨mc,nsK h1,h2⟩⟩
  have e0:Env0 P w K mg (Gew s₁.heap H) callerA [] s₁ H:=⟨rfl,hM,fun b o e=>of_hidT e,Nat.le_of_eq (Gk0 _ _),trivial,fun b hb=>absurd (show b∈([]:List BB) from hb) (by simp),hok,.of_eq hg⟩
  refine codeAny_mono ((F _ hKb (nsK hns)).run callerA [] s₁ H ⟨[.ref a],[]⟩ [.ref a] [.ref a] _ _ hr e0 (hbind s₁ (.ref a)) (.cons rfl .nil) (hsp H hO hS)) fun r s' h=>?_
  cases r with
  | error e=>exact(hCX H e s' h).elim
  | ok fl=>
   cases fl with
   | next=>exact False.elim h
   | brk=>exact False.elim h
   | cont=>exact False.elim h
   | ret u=>
    obtain⟨v,H',os,bare,un,hok',r',q⟩:=h
    have q':v=.bl true:=q
    subst q'
    obtain rfl:u=Value.bool true:=r'
    refine⟨rfl,OldK.of_keep fun b o e=>?_,os,bare⟩
    cases q:H b with
    | none=>exact un.keep b o e q (by intro z; exact absurd (show b∈([]:List BB) from z) (by simp)) (by simp)
    | some u=>
     rcases hO b with z | ⟨ob,xs,z⟩
     ·rw[q] at z; cases z
     ·have z2:=un.frzs b ob _ z
      obtain⟨e1,_⟩:=hok b _ z
      obtain⟨e2,_⟩:=hok' b _ z2
      rw[e] at e1; cases e1
      exact e2
 cases hk:K.lookup a with
 | some o=>
  have e:=KX a o hk
  rw[ha] at e
  cases e
  refine core (fun _=>none) (fun _=>.inl rfl) (.inr ⟨_,vs.toArray,_,hk,rfl,rfl,rfl,by rw[Ak,lenV]; exact hl,by simpa using rv⟩) (fun b u z=>by have z':(none:BC HO)=some u:=z; cases z') (fun b z=>absurd rfl z) fun z=>absurd rfl z
 | none=>
  refine core (fun b=>if b=a then some (.frz { cls:=.type "list",data:=.seq vs.toArray } (.lst (ns.map V.int))) else none) (fun b=>?_) (.inl (.inr ⟨{ cls:=.type "list",data:=.seq vs.toArray },if_pos rfl⟩)) (fun b u z=>?_) (fun b z=>?_) fun _=>hk
  ·by_cases hb:b=a
   ·exact .inr ⟨_,_,if_pos hb⟩
   ·exact .inl (if_neg hb)
  ·by_cases hb:b=a
   ·have z':=(if_pos hb).symm.trans z
    cases z'
    subst hb
    exact⟨ha,by rw[Am]; exact hl,vs,_,rv,ha⟩
   ·have z':=(if_neg hb).symm.trans z
    cases z'
  ·by_cases hb:b=a
   ·exact hb
   ·exact absurd (if_neg hb) z
def Gqg{l:PySem.W.OpenLaw}{n:Nat}{q:BD}{loose:List Str}{XP:(Str->BC Bz)->Heap->Prop}{YP:World->Heap->Prop}{d:DefRec}{K:Params->By}{CX:World->CXT}{sp:World->Sp}{x:Str}(hn:l.most=some n)(hn2:n<=sizeLine)(hdf:d.params.defaults=[])(hr:Room k callerA)(hY:∀ (w:World) (h:Heap),YP w h->(K w.params).In h)(F:∀ (w:World) (mg:Str->BC Bz) (fa:BB) (h:Heap),(K w.params).In h->h.Ns mainGlobals mg->mg d.name=some (.ref fa)→
   ∃ fd:FuncData,(∀ (s:BA) (u:Bz),BindsTo s fd ⟨[u],[]⟩ [(x,u)])∧
    ∀ base:Heap,(K w.params).In base->base.Ns mainGlobals mg->FnOk l.prog w (K w.params) mg base (CX w) k fa fd [x] (sp w))(hsp:∀ (w:World) (H:Hp) (a:BB) (ns:List Int),ns.length<=n->Only H->SqL (K w.params) H a (ns.map V.int)->sp w [.ref a] H (fun v _=>v=.bl true) fun _ _ _=>False)(hCX:∀ (w:World) (H:Hp) (s:BA) (e:Bz) (s':BA),CX w [] H s (fun _ _ _=>False) e s'->False):
  PySem.W.WalkO q loose XP YP l.row.toRowW d [] (fun f vs=>PySem.call f vs):=by
 refine Att.attach_call hn hdf fun w s₀ s₁ mg mb fa o pm cd doc a vs ns G Y ho hd hcd hmg hobj hints hlen hg=>?_
 have KX:=hY w _ Y
 obtain⟨fd,hb,hF⟩:=F w mg fa _ KX G.T.g hmg
 exact Gmi KX G.T.g G.T.b G.T.builtins G.T.nolimit hg hobj hints (Aj hlen hn2) hr hF hb (fun H hO hS=>hsp w H a ns hlen hO hS) fun H e s'=>hCX w H s₁ e s'
def Gmj{l:PySem.W.OpenLaw}{n:Nat}{q:BD}{loose:List Str}{XP:(Str->BC Bz)->Heap->Prop}{YP:World->Heap->Prop}{d:DefRec}{K:Params->By}{CX:CXT}{sp:By->Sp}{x:Str}(hn:l.most=some n)(hn2:n<=sizeLine)(hdf:d.params.defaults=[])(hr:Room k callerA)(hY:∀ (w:World) (h:Heap),YP w h->(K w.params).In h)(F:∀ (w:World) (mg:Str->BC Bz) (fa:BB) (h:Heap),(K w.params).In h->h.Ns mainGlobals mg->mg d.name=some (.ref fa)→
   ∃ fd:FuncData,(∀ (s:BA) (u:Bz),BindsTo s fd ⟨[u],[]⟩ [(x,u)])∧
    ∀ base:Heap,(K w.params).In base->base.Ns mainGlobals mg->FnOk l.prog w (K w.params) mg base CX k fa fd [x] (sp (K w.params)))(hsp:∀ (K:By) (H:Hp) (a:BB) (ns:List Int),ns.length<=n->Only H->SqL K H a (ns.map V.int)->sp K [.ref a] H (fun v _=>v=.bl true) fun _ _ _=>False)(hCX:∀ (H:Hp) (s:BA) (e:Bz) (s':BA),CX [] H s (fun _ _ _=>False) e s'->False):
  PySem.W.WalkO q loose XP YP l.row.toRowW d [] (fun f vs=>PySem.call f vs):=
 Gqg (K:=K) (CX:=fun _=>CX) (sp:=fun w=>sp (K w.params)) hn hn2 hdf hr hY F (fun w H a ns h1 h2 h3=>hsp (K w.params) H a ns h1 h2 h3) fun _ H s e s'=>hCX H s e s'
noncomputable def Hz(s:Stmt):Arguments:=match s with
 | .FunctionDef _ a _ _ _ _ _ _ _ _=>a
 | _=>{ posonlyargs:=[],args:=[],vararg:=none,kwonlyargs:=[],kw_defaults:=[],kwarg:=none,defaults:=[] }
noncomputable def Hb(s:Stmt):List Stmt:=match s with
 | .FunctionDef _ _ b _ _ _ _ _ _ _=>b
 | _=>[]
noncomputable def Gc(s:Stmt):Scope:=match s with
 | .FunctionDef _ _ _ _ _ _ sc _ _ _=>sc
 | _=>{ kind:=.function,names:=[],isGenerator:=false,isCoroutine:=false }
abbrev CX0:CXT:=fun _ _ _ _ _ _=>False
noncomputable abbrev E0:XK:=fun _ _ _=>False
def Gzx{X:Cx}:Passes CX0 X E0:=fun _ _ _ _ _ _ _ h=>h.elim
structure Fun(K:By)(x qual:Str)(st:Stmt)(f:BB)(fd:FuncData):Prop where
 ex:∃ (oc:Bz) (od:BC BB) (kV doc pm:Bz) (an:BC BB) (cdv ct:Bz) (osl:Array (BC Bz)),
  fd=PySem.W.fnOf x qual (Hz st) (Hb st) (Gc st) .none kV doc pm an cdv ct/\K.lookup f=some ⟨oc,od,.func fd,osl⟩/\PySem.W.codeIn K cdv qual=true
 kp:PySem.W.keepIn K (.ref f)=true
section
variable{P:BD}{w:World}{K:By}{mg:Str->BC Bz}{base:Heap}
def Fun.ok{x:Str}{N ps:List Str}{sp:Sp}(F:Fun K x qual st f fd)(S:FnScope N ps (Gc st))(len:∀ vs H Q E,sp vs H Q E->vs.length=ps.length)(hbody:∀ (cdv:Bz) (A:Around) (outer:List Env) (s:BA) (H:Hp) (vs:List V) (Q:VK) (E:XK),Room k (A.deeper (envOfC qual (Gc st) s.heap.objs.size f cdv))->sp vs H Q E→
   ∃ t,PSs (Qy CX0 P w K mg base N qual (Gc st) f cdv A outer s H E).nox (Hb st) t/\t { nx:=fun _ H'=>Q .non H',rt:=Q } (start N vs) H):FnOk P w K mg base CX0 (k+1) f fd ps sp:=by
 obtain⟨oc,od,kV,doc,pm,an,cdv,ct,osl,rfl,lk,hcd⟩:=F.ex
 refine Gmb lk hcd S len fun A outer s H vs Q E hr hsp=>?_
 obtain⟨t,h,q⟩:=hbody cdv A outer s H vs Q E hr hsp
 exact⟨t,h.nox,q⟩
def Fun.binds{x:Str}{ps:List Str}(F:Fun K x qual st f fd)(h:∀ (kV doc pm:Bz) (an:BC BB) (cdv ct:Bz) (us:List Bz),us.length=ps.length->bindArgs (PySem.W.fnOf x qual (Hz st) (Hb st) (Gc st) .none kV doc pm an cdv ct) ⟨us,[]⟩=pure (ps.zip us)):Binds K fd ps []:=by
 obtain⟨oc,od,kV,doc,pm,an,cdv,ct,osl,rfl,lk,hcd⟩:=F.ex
 exact .all (h kV doc pm an cdv ct)
def Ge3{x:Str}{oc:Bz}{od an:BC BB}{osl:Array (BC Bz)}{kV doc pm cdv ct:Bz}(l:K.lookup f=some ⟨oc,od,.func (PySem.W.fnOf x qual (Hz st) (Hb st) (Gc st) .none kV doc pm an cdv ct),osl⟩)(c:PySem.W.codeIn K cdv qual=true)(k:PySem.W.keepIn K (.ref f)=true):Fun K x qual st f (PySem.W.fnOf x qual (Hz st) (Hb st) (Gc st) .none kV doc pm an cdv ct):=⟨⟨oc,od,kV,doc,pm,an,cdv,ct,osl,rfl,l,c⟩,k⟩
end
end L2
namespace DL
open PySem PySem.Spec PyProof.Rows L2
inductive D where
 | non | bl (b:Bool) | int (i:Int) | str (x:Str) | tup (l:List D) | lst (i:Nat) | exn (c:Str) (n:BC Int) | fv (x:Str) | dct (i:Nat)
structure Cell where
 fz:Bool
 xs:List D
abbrev Sto:=List Cell
abbrev Lc:=List (BC D)
structure XD where
 cls:Str
 fld:BC Int
inductive Out(α:Type) where
 | ok (a:α) (S:Sto)
 | exc (x:XD) (S:Sto)
 | bad
noncomputable def Out.bind{α β:Type}(o:Out α)(g:α->Sto->Out β):Out β:=
 match o with
 | .ok a S=>g a S
 | .exc x S=>.exc x S
 | .bad=>.bad
structure XCl(K:By)(c:BB):Prop where
 ga:PySem.W.findIn K (.ref c) "__getattribute__"=some (some (.builtin "BaseException.__getattribute__"))
 gt:PySem.W.findIn K (.ref c) "__getattr__"=some none
 cl:PySem.W.findIn K (.ref c) "__class__"=some (some (.builtin "object.__class__"))
 cd:(PySem.W.clsIn K c).isSome=true
 ob:PySem.W.mroIn K c (.type "object")=some true
 be:PySem.W.subIn K (.ref c) (.type "BaseException")=some true
 bt:∀ T∈["bool","int","str","tuple","list"],PySem.W.kitOne K (.ref c) (.type T)=some false
def CN(K:By)(y:Str)(c:BB):Prop:=PySem.W.nsIn K mainGlobals y=some (some (.ref c))
def CN.one{K:By}{y:Str}{c d:BB}(h:CN K y c)(g:CN K y d):c=d:=Value.ref.inj (Ac (Ac (h.symm.trans g)))
noncomputable def XO(a c:BB)(dx:BC BB):HO:=.ext fun h=>∃ oe,h.get? a=some oe/\oe.cls=.ref c/\oe.dict=dx/\∃ vs,oe.data=.fields vs
noncomputable def XA(d:BB)(n:Int):HO:=.ext fun h=>∃ t,h.Ns d fun y=>if y="at" then some (.int n t) else none
def Dcy(H:Hp)(a:BB):Prop:=∃ kvs,H a=some (.dT kvs)
mutual
def Rep(K:By)(mp:List BB)(H:Hp):D->V->Prop
 | .non,v=>v=.non
 | .bl b,v=>v=.bl b
 | .int i,v=>v=.int i
 | .str x,v=>v=.str x
 | .tup l,v=>∃ a xs,v=.ref a/\SqT K H a xs/\RepL K mp H l xs
 | .lst i,v=>∃ a,v=.ref a/\mp[i]?=some a/\¬ Dcy H a
 | .exn c n,v=>∃ a dx p,v=.ref a/\(CN K c p/\XCl K p/\H a=some (XO a p dx))/\∀ i,n=some i->∃ d,dx=some d/\H d=some (XA d i)
 | .fv x,v=>∃ a,v=.ref a/\CN K x a
 | .dct i,v=>∃ a,v=.ref a/\mp[i]?=some a/\Dcy H a
def RepL(K:By)(mp:List BB)(H:Hp):List D->List V->Prop
 | [],vs=>vs=[]
 | d::l,vs=>∃ v r,vs=v::r/\Rep K mp H d v/\RepL K mp H l r
end
structure Aft(K:By)(mp:List BB)(H:Hp)(mp':List BB)(H':Hp):Prop where
 pre:∀ (i:Nat) (a:BB),mp[i]?=some a->mp'[i]?=some a
 tup:∀ a xs,SqT K H a xs->SqT K H' a xs
 ext:∀ a φ,H a=some (.ext φ)->H' a=some (.ext φ)
 ndc:∀ (i:Nat) (a:BB),mp[i]?=some a->¬ Dcy H a->¬ Dcy H' a
 dcy:∀ a,Dcy H a->Dcy H' a
def Aft.refl{K:By}{mp:List BB}{H:Hp}:Aft K mp H mp H:=⟨fun _ _ h=>h,fun _ _ h=>h,fun _ _ h=>h,fun _ _ _ h=>h,fun _ h=>h⟩
def Aft.trans{K:By}{mp mp1 mp2:List BB}{H H1 H2:Hp}(a:Aft K mp H mp1 H1)(b:Aft K mp1 H1 mp2 H2):Aft K mp H mp2 H2:=
 ⟨fun i x h=>b.pre i x (a.pre i x h),fun x xs h=>b.tup x xs (a.tup x xs h),fun x f h=>b.ext x f (a.ext x f h),fun i x e h=>b.ndc i x (a.pre i x e) (a.ndc i x e h),fun x h=>b.dcy x (a.dcy x h)⟩
mutual
theorem Rep.aft{K:By}{mp mp':List BB}{H H':Hp}(a:Aft K mp H mp' H'):∀ (d:D) (v:V),Rep K mp H d v->Rep K mp' H' d v
 | .non,v,h=>h
 | .bl _,v,h=>h
 | .int _,v,h=>h
 | .str _,v,h=>h
 | .tup l,v,h=>by
  obtain⟨p,xs,e,s,r⟩:=(show ∃ a xs,v=.ref a/\SqT K H a xs/\RepL K mp H l xs from h)
  exact⟨p,xs,e,a.tup _ _ s,RepL.aft a l xs r⟩
 | .lst i,v,h=>by
  obtain⟨p,e,s,n⟩:=(show ∃ a,v=.ref a/\mp[i]?=some a/\¬ Dcy H a from h)
  exact⟨p,e,a.pre _ _ s,a.ndc _ _ s n⟩
 | .exn c n,v,h=>by
  obtain⟨p,dx,q,e,⟨s0,s1,s⟩,r⟩:=(show ∃ a dx p,v=.ref a/\(CN K c p/\XCl K p/\H a=some (XO a p dx))/\∀ i,n=some i->∃ d,dx=some d/\H d=some (XA d i) from h)
  exact⟨p,dx,q,e,⟨s0,s1,a.ext _ _ s⟩,fun i z=>let ⟨d,z1,z2⟩:=r i z; ⟨d,z1,a.ext _ _ z2⟩⟩
 | .fv x,v,h=>h
 | .dct i,v,h=>by
  obtain⟨p,e,s,n⟩:=(show ∃ a,v=.ref a/\mp[i]?=some a/\Dcy H a from h)
  exact⟨p,e,a.pre _ _ s,a.dcy _ n⟩
theorem RepL.aft{K:By}{mp mp':List BB}{H H':Hp}(a:Aft K mp H mp' H'):∀ (l:List D) (vs:List V),RepL K mp H l vs->RepL K mp' H' l vs
 | [],vs,h=>h
 | d::l,vs,h=>by
  obtain⟨v,r,e,h1,h2⟩:=(show ∃ v r,vs=v::r/\Rep K mp H d v/\RepL K mp H l r from h)
  exact⟨v,r,e,Rep.aft a d v h1,RepL.aft a l r h2⟩
end
section
variable{K:By}{mp:List BB}{H:Hp}
def RepL.nil:RepL K mp H [] []:=rfl
def RepL.cons{d:D}{v:V}{l:List D}{r:List V}(h:Rep K mp H d v)(t:RepL K mp H l r):RepL K mp H (d::l) (v::r):=⟨v,r,rfl,h,t⟩
def RepL.len:∀ {l:List D} {vs:List V},RepL K mp H l vs->vs.length=l.length
 | [],vs,h=>by cases (show vs=[] from h); rfl
 | d::l,vs,h=>by
  obtain⟨v,r,e,h1,h2⟩:=h
  subst e
  simp[RepL.len h2]
def RepL.get:∀ {l:List D} {vs:List V} {i:Nat} {d:D},RepL K mp H l vs->l[i]?=some d->∃ v,vs[i]?=some v/\Rep K mp H d v
 | [],_,_,_,_,e=>by simp at e
 | d::l,vs,0,_,h,e=>by
  obtain⟨v,r,q,h1,h2⟩:=h
  subst q
  simp at e
  subst e
  exact⟨v,rfl,h1⟩
 | d::l,vs,i+1,x,h,e=>by
  obtain⟨v,r,q,h1,h2⟩:=h
  subst q
  obtain⟨v',a,b⟩:=RepL.get (i:=i) (d:=x) h2 (by simpa using e)
  exact⟨v',by simpa using a,b⟩
def RepL.append:∀ {l m:List D} {vs ws:List V},RepL K mp H l vs->RepL K mp H m ws->RepL K mp H (l++m) (vs++ws)
 | [],m,vs,ws,h,g=>by cases (show vs=[] from h); exact g
 | d::l,m,vs,ws,h,g=>by
  obtain⟨v,r,q,h1,h2⟩:=h
  subst q
  exact⟨v,r++ws,rfl,h1,RepL.append h2 g⟩
def RepL.take:∀ {l:List D} {vs:List V} (n:Nat),RepL K mp H l vs->RepL K mp H (l.take n) (vs.take n)
 | [],vs,n,h=>by cases (show vs=[] from h); simp; exact RepL.nil
 | d::l,vs,0,h=>by simp; exact RepL.nil
 | d::l,vs,n+1,h=>by
  obtain⟨v,r,q,h1,h2⟩:=h
  subst q
  simpa using RepL.cons h1 (RepL.take n h2)
def RepL.drop:∀ {l:List D} {vs:List V} (n:Nat),RepL K mp H l vs->RepL K mp H (l.drop n) (vs.drop n)
 | [],vs,n,h=>by cases (show vs=[] from h); simp; exact RepL.nil
 | d::l,vs,0,h=>by simpa using h
 | d::l,vs,n+1,h=>by
  obtain⟨v,r,q,h1,h2⟩:=h
  subst q
  simpa using RepL.drop n h2
def RepL.set:∀ {l:List D} {vs:List V} {d:D} {v:V} (n:Nat),RepL K mp H l vs->Rep K mp H d v->RepL K mp H (l.set n d) (vs.set n v)
 | [],vs,d,v,n,h,g=>by cases (show vs=[] from h); simp; exact RepL.nil
 | x::l,vs,d,v,0,h,g=>by
  obtain⟨v',r,q,h1,h2⟩:=h
  subst q
  simpa using RepL.cons g h2
 | x::l,vs,d,v,n+1,h,g=>by
  obtain⟨v',r,q,h1,h2⟩:=h
  subst q
  simpa using RepL.cons h1 (RepL.set n h2 g)
end
def SqF(K:By)(H:Hp)(a:BB)(xs:List V):Prop:=
 (∃ o,H a=some (.frz o (.lst xs)))∨
  ∃ (o:Obj) (its:Array Bz) (n:Nat),K.lookup a=some o/\o.cls=.type "list"/\o.dict=none/\o.data=.seq its n/\its.size<=sizeLine/\Vals xs its.toList
noncomputable def SqF.sq{K:By}{H:Hp}{a:BB}{xs:List V}(h:SqF K H a xs):SqL K H a xs:=by
 rcases h with h | h
 ·exact .inl (.inr h)
 ·exact .inr h
def Gzy(K:By)(mp:List BB)(H:Hp)(a:BB)(c:Cell):Prop:=
 ∃ xs,RepL K mp H c.xs xs/\(if c.fz=true then SqF K H a xs else H a=some (.lst xs))
mutual
def nkO:D->BC NK
 | .int i=>some (.i i)
 | .tup l=>(nkOs l).map .t
 | _=>none
def nkOs:List D->BC (List NK)
 | []=>some []
 | d::r=>(nkO d).bind fun k=>(nkOs r).map fun q=>k::q
end
def Gb2(K:By)(mp:List BB)(H:Hp)(d:D)(q:NK×BB×V):Prop:=
 ∃ k e,d=.tup [k,e]/\(nkO k=some q.1/\(pk q.1).depth<=8)/\Rep K mp H k (.ref q.2.1)/\Rep K mp H e q.2.2
def Gzz(K:By)(mp:List BB)(H:Hp)(a:BB)(c:Cell):Prop:=
 c.fz=false/\∃ kvs,H a=some (.dT kvs)/\Paired (Gb2 K mp H) c.xs kvs
def Gb2.aft{K:By}{mp mp':List BB}{H H':Hp}(a:Aft K mp H mp' H'){d:D}{q:NK×BB×V}(p:Gb2 K mp H d q):Gb2 K mp' H' d q:=
 let ⟨k,e,h1,h2,h3,h4⟩:=p; ⟨k,e,h1,h2,Rep.aft a _ _ h3,Rep.aft a _ _ h4⟩
def Ga4(K:By)(mp:List BB)(H:Hp)(a:BB)(c:Cell):Prop:=Gzy K mp H a c\/Gzz K mp H a c
def Ga4.low{K:By}{mp:List BB}{H:Hp}{a:BB}{c:Cell}(q:Ga4 K mp H a c)(f:c.fz=false):∃ o,H a=some o:=by
 rcases q with⟨xs,_,e⟩ | ⟨_,kvs,e,_⟩
 ·rw[f,if_neg An] at e; exact⟨_,e⟩
 ·exact⟨_,e⟩
structure RS(K:By)(mp:List BB)(H:Hp)(S:Sto):Prop where
 len:mp.length=S.length
 cell:∀ (i:Nat) (a:BB) (c:Cell),mp[i]?=some a->S[i]?=some c->Ga4 K mp H a c
 inj:∀ (i j:Nat) (a:BB) (ci cj:Cell),mp[i]?=some a->mp[j]?=some a->S[i]?=some ci->S[j]?=some cj->ci.fz=false->cj.fz=false->i=j
structure Gd(K:By)(mp:List BB)(H:Hp)(σ:L2.St)(ρ:Lc)(S:Sto):Prop where
 rs:RS K mp H S
 len:σ.length=ρ.length
 loc:∀ (i:Nat) (d:D),ρ[i]?=some (some d)->∃ v,σ[i]?=some (some v)/\Rep K mp H d v
def Gd.aft{K:By}{mp mp':List BB}{H H':Hp}{σ:L2.St}{ρ:Lc}{S S':Sto}(g:Gd K mp H σ ρ S)(a:Aft K mp H mp' H')(r:RS K mp' H' S'):Gd K mp' H' σ ρ S':=
 ⟨r,g.len,fun i d h=>let ⟨v,e,q⟩:=g.loc i d h; ⟨v,e,q.aft a⟩⟩
abbrev XW:=XD->List BB->Hp->L2.St->Lc->Sto->Prop
abbrev RL(α β:Type):=List BB->Hp->α->β->Prop
def Gj{α β:Type}(K:By)(R:RL α β)(XQ:XW)(σ:L2.St)(ρ:Lc)(mp:List BB)(H:Hp)(o:Out α)(Q:β->Hp->Prop):Prop:=
 match o with
 | .ok d S=>∀ mp' H' v,Aft K mp H mp' H'->RS K mp' H' S->R mp' H' d v->Q v H'
 | .exc x S=>∀ mp' H',Aft K mp H mp' H'->Gd K mp' H' σ ρ S->XQ x mp' H' σ ρ S
 | .bad=>False
def Gj.aft{α β:Type}{K:By}{R:RL α β}{XQ:XW}{σ:L2.St}{ρ:Lc}{mp mp':List BB}{H H':Hp}{o:Out α}{Q:β->Hp->Prop}(p:Gj K R XQ σ ρ mp H o Q)(a:Aft K mp H mp' H'):Gj K R XQ σ ρ mp' H' o Q:=by
 cases o with
 | ok d S=>exact fun m h v b=>p m h v (a.trans b)
 | exc x S=>exact fun m h b=>p m h (a.trans b)
 | bad=>exact p
def Gj.ok{α β:Type}{K:By}{R:RL α β}{XQ:XW}{σ:L2.St}{ρ:Lc}{mp:List BB}{H:Hp}{d:α}{S:Sto}{v:β}{Q:β->Hp->Prop}(p:Gj K R XQ σ ρ mp H (.ok d S) Q)(r:RS K mp H S)(h:R mp H d v):Q v H:=p mp H v .refl r h
abbrev Post(K:By)(XQ:XW):=Gj (β:=V) K (Rep K) XQ
abbrev Ev(α:Type):=Lc->Sto->Out α
def rdG{α β:Type}(K:By)(R:RL α β)(XQ:XW)(f:Ev α):L2.St->Hp->(β->Hp->Prop)->Prop:=fun σ H Q=>∃ mp ρ S,Gd K mp H σ ρ S/\Gj K R XQ σ ρ mp H (f ρ S) Q
def kB:RL Bool Bool:=fun _ _ a b=>b=a
def kO:RL (BC Int) (BC Int):=fun _ _ a b=>b=a
abbrev rdE(K:By)(XQ:XW)(f:Ev D):TE:=rdG K (Rep K) XQ f
abbrev rdA(K:By)(XQ:XW)(f:Ev (List D)):TA:=rdG K (RepL K) XQ f
abbrev rdT(K:By)(XQ:XW)(f:Ev Bool):TT:=rdG K kB XQ f
abbrev rdO(K:By)(XQ:XW)(f:Ev (BC Int)):TO:=rdG K kO XQ f
def JE(X:Cx)(XQ:XW)(e:Expr)(f:Ev D):Prop:=PE X e (rdE X.K XQ f)
def JA(X:Cx)(XQ:XW)(es:List Expr)(f:Ev (List D)):Prop:=PA X es (rdA X.K XQ f)
def JT(X:Cx)(XQ:XW)(e:Expr)(f:Ev Bool):Prop:=PT X e (rdT X.K XQ f)
def JW(X:Cx)(XQ:XW)(e:Expr)(f:Ev Bool):Prop:=PW X e (rdT X.K XQ f)
def JO(X:Cx)(XQ:XW)(e:BC Expr)(f:Ev (BC Int)):Prop:=PO X e (rdO X.K XQ f)
def PE.mono{X:Cx}{e:Expr}{t t':TE}(h:PE X e t)(m:∀ σ H Q,t' σ H Q->t σ H Q):PE X e t':=fun pins s σ H Q I q=>h pins s σ H Q I (m σ H Q q)
def PT.mono{X:Cx}{e:Expr}{t t':TT}(h:PT X e t)(m:∀ σ H Q,t' σ H Q->t σ H Q):PT X e t':=fun pins s σ H Q I q=>h pins s σ H Q I (m σ H Q q)
def PW.mono{X:Cx}{e:Expr}{t t':TT}(h:PW X e t)(m:∀ σ H Q,t' σ H Q->t σ H Q):PW X e t':=fun wh pins s σ H Q I q=>h wh pins s σ H Q I (m σ H Q q)
def PO.mono{X:Cx}{e:BC Expr}{t t':TO}(h:PO X e t)(m:∀ σ H Q,t' σ H Q->t σ H Q):PO X e t':=fun pins s σ H Q I q=>h pins s σ H Q I (m σ H Q q)
def PA.mono{X:Cx}{e:List Expr}{t t':TA}(h:PA X e t)(m:∀ σ H Q,t' σ H Q->t σ H Q):PA X e t':=fun pos pins s σ H Q I q=>h pos pins s σ H Q I (m σ H Q q)
def PS.mono{X:Cx}{e:Stmt}{t t':TS}(h:PS X e t)(m:∀ D σ H,t' D σ H->t D σ H):PS X e t':=fun pins s σ H D I q=>h pins s σ H D I (m D σ H q)
def PSs.mono{X:Cx}{e:List Stmt}{t t':TS}(h:PSs X e t)(m:∀ D σ H,t' D σ H->t D σ H):PSs X e t':=fun pins s σ H D I q=>h pins s σ H D I (m D σ H q)
def bindP{α β γ δ:Type}{K:By}{R:RL α β}{R':RL γ δ}{XQ:XW}{mp:List BB}{H:Hp}{σ:L2.St}{ρ:Lc}{S:Sto}{f:Ev α}{g:α->Sto->Out γ}{Q:δ->Hp->Prop}{Q1:β->Hp->Prop}(G:Gd K mp H σ ρ S)(p:Gj K R' XQ σ ρ mp H ((f ρ S).bind g) Q)
  (k:∀ mp1 H1 d S1 v,Aft K mp H mp1 H1->Gd K mp1 H1 σ ρ S1->R mp1 H1 d v->Gj K R' XQ σ ρ mp1 H1 (g d S1) Q->Q1 v H1):rdG K R XQ f σ H Q1:=by
 refine⟨mp,ρ,S,G,?_⟩
 cases e:f ρ S with
 | ok d S1=>
  rw[e] at p
  exact fun mp1 H1 v a rs r=>k mp1 H1 d S1 v a (G.aft a rs) r (Gj.aft p a)
 | exc x S1=>rw[e] at p; exact p
 | bad=>rw[e] at p; exact p
noncomputable def vr(i:Nat):Ev D:=fun ρ S=>match ρ[i]? with
 | some (some d)=>.ok d S
 | _=>.bad
noncomputable def cn(d:D):Ev D:=fun _ S=>.ok d S
section
variable{X:Cx}{XQ:XW}
def Gmk(i:Nat){x:Str}{pos:Pos}(hN:X.N[i]?=some x:=by rfl)(hv:Vis X.env.scope x:=by first | exact Or.inl rfl | exact Or.inr (Or.inl rfl) | exact Or.inr (Or.inr rfl))(hd:(x==("__debug__":Str))=false:=by decide)
  (hcd:(x==("__classdict__":Str))=false:=by decide):JE X XQ (.Name x pos) (vr i):=by
 refine PE.mono (Gex hN hv hd hcd) fun σ H Q ⟨mp,ρ,S,G,p⟩=>?_
 unfold vr at p
 cases e:ρ[i]? with
 | none=>rw[e] at p; exact p.elim
 | some o=>
  rw[e] at p
  cases o with
  | none=>exact p.elim
  | some d=>
   obtain⟨v,h1,h2⟩:=G.loc i d e
   exact⟨v,h1,Gj.ok p G.rs h2⟩
def Wn{e:Expr}{d:D}{v:V}(h:PE X e (tC v))(r:∀ mp H,Rep X.K mp H d v):JE X XQ e (cn d):=
 PE.mono h fun σ H Q ⟨mp,ρ,S,G,p⟩=>Gj.ok p G.rs (r mp H)
def Gvo{i:Int}{j pos}:JE X XQ (.Constant (.int i) j pos) (cn (.int i)):=Wn Gun fun _ _=>rfl
def Gz0{b:Bool}{j pos}:JE X XQ (.Constant (.bool b) j pos) (cn (.bl b)):=Wn Gy7 fun _ _=>rfl
def Gvp{j pos}:JE X XQ (.Constant .none j pos) (cn .non):=Wn Guo fun _ _=>rfl
def Gvq{x:Str}{j pos}:JE X XQ (.Constant (.str x) j pos) (cn (.str x)):=Wn Gup fun _ _=>rfl
noncomputable def an:Ev (List D):=fun _ S=>.ok [] S
def ac(f:Ev D)(g:Ev (List D)):Ev (List D):=fun ρ S=>(f ρ S).bind fun x S1=>(g ρ S1).bind fun xs S2=>.ok (x::xs) S2
def Gvr:JA X XQ [] an:=PA.mono pa_nil fun σ H Q ⟨mp,ρ,S,G,p⟩=>Gj.ok p G.rs RepL.nil
def Gqh{e:Expr}{es:List Expr}{f:Ev D}{g:Ev (List D)}(ha:JE X XQ e f)(hr:JA X XQ es g)(hs:starEach (e::es) X.env=(false,eval e X.env)::starEach es X.env:=by rfl):JA X XQ (e::es) (ac f g):=by
 refine PA.mono (Vb ha hr hs) fun σ H Q ⟨mp,ρ,S,G,p⟩=>?_
 refine bindP G p fun mp1 H1 x S1 v a1 G1 r1 p1=>?_
 refine bindP G1 p1 fun mp2 H2 xs S2 vs a2 G2 r2 p2=>?_
 exact Gj.ok p2 G2.rs (RepL.cons (Rep.aft a2 _ _ r1) r2)
def Vr{K:By}{mp:List BB}{H:Hp}{p:BB}{o:HO}(h:H p=none)(hd:∀ kvs,o≠.dT kvs:=by intro _ z; cases z):Aft K mp H mp (upd H p o):=by
 refine⟨fun _ _ e=>e,fun a xs s=>?_,fun a φ s=>by rw[Gn (Hd s h)]; exact s,fun i a e n ⟨kvs,z⟩=>?_,fun a ⟨kvs,z⟩=>⟨kvs,by rw[Gn (Hd z h)]; exact z⟩⟩
 ·rcases s with(s | ⟨ob,s⟩) | s
  ·exact .inl (.inl (by rw[Gn (Hd s h)]; exact s))
  ·exact .inl (.inr ⟨ob,by rw[Gn (Hd s h)]; exact s⟩)
  ·exact .inr s
 ·by_cases hb:a=p
  ·subst hb; rw[Hj] at z; exact hd kvs (Ac z)
  ·rw[Gn hb] at z; exact n ⟨kvs,z⟩
def Gqi{K:By}{H:Hp}{p a:BB}{o:HO}{xs:List V}(h:H p=none)(s:SqF K H a xs):SqF K (upd H p o) a xs:=by
 rcases s with⟨ob,s⟩ | s
 ·exact .inl ⟨ob,by rw[Gn (Hd s h)]; exact s⟩
 ·exact .inr s
def Ga4.new{K:By}{mp mp':List BB}{H:Hp}{p a:BB}{o:HO}{c:Cell}(h:H p=none)(af:Aft K mp H mp' (upd H p o))(q:Ga4 K mp H a c):Ga4 K mp' (upd H p o) a c:=by
 rcases q with⟨xs,r,e⟩ | ⟨f,kvs,e,r⟩
 case inr=>exact .inr ⟨f,kvs,by rw[Gn (Hd e h)]; exact e,Paired.mapP r fun _ _ z=>z.aft af⟩
 refine .inl ⟨xs,RepL.aft af _ _ r,?_⟩
 cases z:c.fz with
 | true=>rw[z] at e; exact(if_pos rfl).mpr (Gqi h ((if_pos rfl).mp e))
 | false=>
  rw[z,if_neg An] at e
  rw[if_neg An,Gn (Hd e h)]
  exact e
def RS.new{K:By}{mp:List BB}{H:Hp}{S:Sto}{p:BB}{o:HO}(r:RS K mp H S)(h:H p=none)(hd:∀ kvs,o≠.dT kvs:=by intro _ z; cases z):RS K mp (upd H p o) S:=
 ⟨r.len,fun i a c e1 e2=>(r.cell i a c e1 e2).new h (Vr h hd),r.inj⟩
def RS.newL{K:By}{mp:List BB}{H:Hp}{S:Sto}{p:BB}{ds:List D}{vs:List V}(r:RS K mp H S)(h:H p=none)(q:RepL K mp H ds vs):
  Aft K mp H (mp++[p]) (upd H p (.lst vs))/\RS K (mp++[p]) (upd H p (.lst vs)) (S++[⟨false,ds⟩])/\(mp++[p])[S.length]?=some p:=by
 have af:Aft K mp H (mp++[p]) (upd H p (.lst vs)):=⟨fun i a e=>by rw[Ar (Aa.mp e).1]; exact e,(Vr (mp:=mp) h).tup,(Vr (K:=K) (mp:=mp) h).ext,(Vr (K:=K) (mp:=mp) h).ndc,(Vr (K:=K) (mp:=mp) h).dcy⟩
 have hl:=r.len
 have lastp:(mp++[p])[S.length]?=some p:=by rw[<- hl]; simp
 refine⟨af,⟨by simp[hl],fun i a c e1 e2=>?_,fun i j a ci cj e1 e2 e3 e4 f1 f2=>?_⟩,lastp⟩
 ·by_cases hi:i<S.length
  ·rw[Ar (by omega)] at e1
   rw[Ar hi] at e2
   exact(r.cell i a c e1 e2).new h af
  ·have hi':i=S.length:=by
    have:=(Aa.mp e2).1
    simp at this
    omega
   subst hi'
   rw[lastp] at e1
   cases e1
   simp at e2
   subst e2
   exact .inl ⟨vs,RepL.aft af _ _ q,by simp[Hj]⟩
 ·have old:∀ (i:Nat) (a:BB) (c:Cell),i<S.length->(mp++[p])[i]?=some a->(S++[⟨false,ds⟩])[i]?=some c->c.fz=false->mp[i]?=some a/\S[i]?=some c/\a≠p:=fun i a c hi e1 e2 f=>by
   rw[Ar (by omega)] at e1
   rw[Ar hi] at e2
   refine⟨e1,e2,?_⟩
   obtain⟨o,e⟩:=(r.cell i a c e1 e2).low f
   exact Hd e h
  have hi:=(Aa.mp e3).1
  have hj:=(Aa.mp e4).1
  simp at hi hj
  by_cases hi':i<S.length
  ·obtain⟨o1,o2,o3⟩:=old i a ci hi' e1 e3 f1
   by_cases hj':j<S.length
   ·obtain⟨u1,u2,u3⟩:=old j a cj hj' e2 e4 f2
    exact r.inj i j a ci cj o1 u1 o2 u2 f1 f2
   ·have:j=S.length:=by omega
    subst this
    rw[lastp] at e2
    cases e2
    exact absurd rfl o3
  ·have:i=S.length:=by omega
   subst this
   rw[lastp] at e1
   cases e1
   by_cases hj':j<S.length
   ·obtain⟨u1,u2,u3⟩:=old j _ cj hj' e2 e4 f2
    exact absurd rfl u3
   ·omega
def RS.setL{K:By}{mp:List BB}{H:Hp}{S:Sto}{i:Nat}{a:BB}{c:Cell}{xs vs:List V}{ds:List D}(r:RS K mp H S)(hi:mp[i]?=some a)(hc:S[i]?=some c)(hf:c.fz=false)(ha:H a=some (.lst xs))(q:RepL K mp H ds vs):
  Aft K mp H mp (upd H a (.lst vs))/\RS K mp (upd H a (.lst vs)) (S.set i ⟨false,ds⟩):=by
 have af:Aft K mp H mp (upd H a (.lst vs)):=by
  refine⟨fun _ _ e=>e,fun b ys s=>?_,fun b φ s=>by rw[Gn (Xw s ha (by intro z; cases z))]; exact s,fun j b e n ⟨kvs,z⟩=>?_,fun b ⟨kvs,z⟩=>⟨kvs,by rw[Gn (Xw z ha (by intro z; cases z))]; exact z⟩⟩
  ·rcases s with(s | ⟨ob,s⟩) | s
   ·exact .inl (.inl (by rw[Gn (Xw s ha (by intro z; cases z))]; exact s))
   ·exact .inl (.inr ⟨ob,by rw[Gn (Xw s ha (by intro z; cases z))]; exact s⟩)
   ·exact .inr s
  ·by_cases hb:b=a
   ·subst hb; rw[Hj] at z; cases z
   ·rw[Gn hb] at z; exact n ⟨kvs,z⟩
 refine⟨af,⟨by simp[r.len],fun j b cj e1 e2=>?_,fun j k b cj ck e1 e2 e3 e4 f1 f2=>?_⟩⟩
 ·by_cases hj:j=i
  ·subst hj
   rw[hi] at e1
   cases e1
   rw[Ah (Aa.mp hc).1] at e2
   cases e2
   exact .inl ⟨vs,RepL.aft af _ _ q,by simp[Hj]⟩
  ·rw[Ad (Ne.symm hj)] at e2
   rcases r.cell j b cj e1 e2 with⟨ys,h1,h2⟩ | ⟨f,kvs,e,rr⟩
   case inr=>exact .inr ⟨f,kvs,by rw[Gn (Xw e ha (by intro z; cases z))]; exact e,Paired.mapP rr fun _ _ z=>z.aft af⟩
   refine .inl ⟨ys,RepL.aft af _ _ h1,?_⟩
   cases z:cj.fz with
   | true=>
    rw[z] at h2
    have h2:SqF K H b ys:=(if_pos rfl).mp h2
    refine(if_pos rfl).mpr ?_
    rcases h2 with⟨ob,s⟩ | s
    ·exact .inl ⟨ob,by rw[Gn (Xw s ha (by intro z; cases z))]; exact s⟩
    ·exact .inr s
   | false=>
    rw[z,if_neg An] at h2
    rw[if_neg An]
    have hb:b≠a:=fun hb=>by
     subst hb
     exact hj (r.inj j i b cj c e1 hi e2 hc z hf)
    rw[Gn hb]
    exact h2
 ·have fz:∀ (j:Nat) (cj:Cell),(S.set i ⟨false,ds⟩)[j]?=some cj->cj.fz=false->∃ c',S[j]?=some c'/\c'.fz=false:=fun j cj e f=>by
   by_cases hj:j=i
   ·subst hj
    exact⟨c,hc,hf⟩
   ·rw[Ad (Ne.symm hj)] at e
    exact⟨cj,e,f⟩
  obtain⟨c1,g1,g2⟩:=fz j cj e3 f1
  obtain⟨c2,g3,g4⟩:=fz k ck e4 f2
  exact r.inj j k b c1 c2 e1 e2 g1 g3 g2 g4
def RS.items{K:By}{mp:List BB}{H:Hp}{S:Sto}{i:Nat}{c:Cell}{v:V}(r:RS K mp H S)(h:Rep K mp H (.lst i) v)(e:S[i]?=some c):∃ a xs,v=.ref a/\mp[i]?=some a/\SqL K H a xs/\RepL K mp H c.xs xs/\(c.fz=false->H a=some (.lst xs)):=by
 obtain⟨a,ev,ea,n⟩:=(show ∃ a,v=.ref a/\mp[i]?=some a/\¬ Dcy H a from h)
 rcases r.cell i a c ea e with⟨xs,q,z⟩ | ⟨f,kvs,e,rr⟩
 case inr=>exact absurd ⟨kvs,e⟩ n
 cases f:c.fz with
 | true=>rw[f] at z; exact⟨a,xs,ev,ea,((if_pos rfl).mp z:SqF K H a xs).sq,q,fun w=>nomatch w⟩
 | false=>rw[f,if_neg An] at z; exact⟨a,xs,ev,ea,SqL.of z,q,fun _=>z⟩
def Rep.nd{K:By}{mp:List BB}{H:Hp}{i:Nat}{a:BB}(h:Rep K mp H (.lst i) (.ref a)):¬ Dcy H a:=by
 obtain⟨b,e,_,n⟩:=(show ∃ b,V.ref a=.ref b/\mp[i]?=some b/\¬ Dcy H b from h)
 cases e
 exact n
def Gh0{H:Hp}{a:BB}{xs:List V}(h:H a=some (.lst xs)):¬ Dcy H a:=fun⟨_,z⟩=>by rw[h] at z; cases z
def Rep.tup{K:By}{mp:List BB}{H:Hp}{l:List D}{v:V}(h:Rep K mp H (.tup l) v):∃ a xs,v=.ref a/\SqT K H a xs/\RepL K mp H l xs:=h
def OpD(K:By)(r:R2)(o:D->D->Sto->Out D):Prop:=
 ∀ (XQ:XW) (σ:L2.St) (ρ:Lc) (mp:List BB) (H:Hp) (S:Sto) (x y:D) (v u:V) (Q:VK),RS K mp H S->Rep K mp H x v->Rep K mp H y u->Post K XQ σ ρ mp H (o x y S) Q->r v u H Q
def o2(o:D->D->Sto->Out D)(fa fb:Ev D):Ev D:=fun ρ S=>(fa ρ S).bind fun x S1=>(fb ρ S1).bind fun y S2=>o x y S2
def Gqj{r:R2}{o:D->D->Sto->Out D}{fa fb:Ev D}(hd:OpD X.K r o):∀ σ H Q,rdE X.K XQ (o2 o fa fb) σ H Q->tOp r (rdE X.K XQ fa) (rdE X.K XQ fb) σ H Q:=by
 intro σ H Q ⟨mp,ρ,S,G,p⟩
 refine bindP G p fun mp1 H1 x S1 v a1 G1 r1 p1=>?_
 refine bindP G1 p1 fun mp2 H2 y S2 u a2 G2 r2 p2=>?_
 exact hd XQ σ ρ mp2 H2 S2 x y v u Q G2.rs (Rep.aft a2 _ _ r1) r2 p2
def Geh{a b:Expr}{fa fb:Ev D}{op:Operator}{r:R2}{o:D->D->Sto->Out D}{pos:Pos}(ho:OpR X (binaryOp op) r)(hd:OpD X.K r o)(ha:JE X XQ a fa)(hb:JE X XQ b fb):JE X XQ (.BinOp a op b pos) (o2 o fa fb):=
 PE.mono (Gzi ho ha hb) (Gqj hd)
def Ge4{a b:Expr}{fa fb:Ev D}{op:CmpOp}{r:R2}{o:D->D->Sto->Out D}{pos:Pos}(ho:OpR X (compareOp op) r)(hd:OpD X.K r o)(ha:JE X XQ a fa)(hb:JE X XQ b fb)(hm:behindInMarks op b=false):JE X XQ (.Compare a [op] [b] pos) (o2 o fa fb):=
 PE.mono (Gp6 ho ha hb hm) (Gqj hd)
def Gz1{a b:Expr}{fa fb:Ev D}{r:R2}{o:D->D->Sto->Out D}{pos:Pos}(hr:IxR X r)(hd:OpD X.K r o)(ha:JE X XQ a fa)(hb:JE X XQ b fb)(hs:Gb8 b):JE X XQ (.Subscript a b pos) (o2 o fa fb):=
 PE.mono (Gzq hr ha hb hs) (Gqj hd)
def UnD(K:By)(r:V->Hp->VK->Prop)(o:D->Sto->Out D):Prop:=
 ∀ (XQ:XW) (σ:L2.St) (ρ:Lc) (mp:List BB) (H:Hp) (S:Sto) (x:D) (v:V) (Q:VK),RS K mp H S->Rep K mp H x v->Post K XQ σ ρ mp H (o x S) Q->r v H Q
def o1(o:D->Sto->Out D)(fa:Ev D):Ev D:=fun ρ S=>(fa ρ S).bind fun x S1=>o x S1
def Gz2{a:Expr}{fa:Ev D}{op:UnaryOp}{r:V->Hp->VK->Prop}{o:D->Sto->Out D}{pos:Pos}(ho:UnR X (unaryOp op) r)(hd:UnD X.K r o)(ha:JE X XQ a fa):JE X XQ (.UnaryOp op a pos) (o1 o fa):=by
 refine PE.mono (Gzj ho ha) fun σ H Q ⟨mp,ρ,S,G,p⟩=>?_
 exact bindP G p fun mp1 H1 x S1 v a1 G1 r1 p1=>hd XQ σ ρ mp1 H1 S1 x v Q G1.rs r1 p1
def tp(f:Ev (List D)):Ev D:=fun ρ S=>(f ρ S).bind fun xs S1=>if xs.length<=1000000 then .ok (.tup xs) S1 else .bad
def ls(f:Ev (List D)):Ev D:=fun ρ S=>(f ρ S).bind fun xs S1=>if xs.length<=1000000 then .ok (.lst S1.length) (S1++[⟨false,xs⟩]) else .bad
def line_le{n:Nat}(h:n<=1000000):n<=sizeLine:=Aj h (by decide)
def Xy{K:By}{σ:L2.St}{ρ:Lc}{mp:List BB}{H:Hp}{S:Sto}{ds:List D}{vs:List V}{Q:VK}{p:BB}(po:Post K XQ σ ρ mp H (.ok (.tup ds) S) Q)(r:RS K mp H S)(q:RepL K mp H ds vs)(h:H p=none):Q (.ref p) (upd H p (.tup vs)):=by
 have af:Aft K mp H mp (upd H p (.tup vs)):=Vr h
 exact po mp _ _ af (r.new h) ⟨p,vs,rfl,SqT.of Hj,RepL.aft af _ _ q⟩
def Wo{K:By}{σ:L2.St}{ρ:Lc}{mp:List BB}{H:Hp}{S:Sto}{ds:List D}{vs:List V}{Q:VK}{p:BB}(po:Post K XQ σ ρ mp H (.ok (.lst S.length) (S++[⟨false,ds⟩])) Q)(r:RS K mp H S)(q:RepL K mp H ds vs)(h:H p=none):Q (.ref p) (upd H p (.lst vs)):=by
 obtain⟨af,rs,e⟩:=r.newL h q
 exact po _ _ _ af rs ⟨p,rfl,e,Gh0 Hj⟩
def Gvs{es:List Expr}{f:Ev (List D)}{x1}{pos:Pos}(h:JA X XQ es f):JE X XQ (.Tuple es x1 pos) (tp f):=by
 refine PE.mono (Gvd h) fun σ H Q ⟨mp,ρ,S,G,p⟩=>?_
 refine bindP G p fun mp1 H1 xs S1 vs a1 G1 r1 p1=>?_
 by_cases hl:xs.length<=1000000
 ·rw[if_pos hl] at p1
  exact⟨by rw[r1.len]; exact line_le hl,fun q hq=>Xy p1 G1.rs r1 hq⟩
 ·rw[if_neg hl] at p1; exact p1.elim
def Gvt{es:List Expr}{f:Ev (List D)}{pos:Pos}(h:JA X XQ es f):JE X XQ (.List es pos) (ls f):=by
 refine PE.mono (Gve h) fun σ H Q ⟨mp,ρ,S,G,p⟩=>?_
 refine bindP G p fun mp1 H1 xs S1 vs a1 G1 r1 p1=>?_
 by_cases hl:xs.length<=1000000
 ·rw[if_pos hl] at p1
  exact⟨by rw[r1.len]; exact line_le hl,fun q hq=>Wo p1 G1.rs r1 hq⟩
 ·rw[if_neg hl] at p1; exact p1.elim
noncomputable def Vq:D->Sto->BC Bool
 | .non,_=>some false
 | .bl b,_=>some b
 | .int i,_=>some (i != 0)
 | .str y,_=>if y.length<=1000000 then some ((y.length:Int) != 0) else none
 | .tup l,_=>some (!l.isEmpty)
 | .lst i,S=>match S[i]? with
  | some c=>some (!c.xs.isEmpty)
  | none=>none
 | .exn _ _,_=>none
 | .fv _,_=>none
 | .dct _,_=>none
def tt(f:Ev D):Ev Bool:=fun ρ S=>(f ρ S).bind fun x S1=>match Vq x S1 with
 | some b=>.ok b S1
 | none=>.bad
def RepL.empty{K:By}{mp:List BB}{H:Hp}{l:List D}{vs:List V}(h:RepL K mp H l vs):(!l.isEmpty)=!vs.isEmpty:=by
 have e:=h.len
 cases l<;>cases vs<;>simp_all
def Gqk{K:By}{mp:List BB}{H:Hp}{S:Sto}{x:D}{v:V}{b:Bool}(r:RS K mp H S)(h:Rep K mp H x v)(e:Vq x S=some b):Gvb K v H b:=by
 cases x with
 | non=>cases (show v=.non from h); exact(Ac e).symm
 | bl c=>cases (show v=.bl c from h); exact(Ac e).symm
 | int i=>cases (show v=.int i from h); exact(Ac e).symm
 | str y=>
  cases (show v=.str y from h)
  have e:(if y.length<=1000000 then some ((y.length:Int) != 0) else none)=some b:=e
  by_cases hl:y.length<=1000000
  ·rw[if_pos hl] at e; exact⟨line_le hl,(Ac e).symm⟩
  ·rw[if_neg hl] at e; cases e
 | tup l=>
  obtain⟨a,xs,rfl,s,q⟩:=Rep.tup h
  exact .inr (.inl ⟨xs,s,by rw[<- q.empty]; exact(Ac e).symm⟩)
 | lst i=>
  have e:(match S[i]? with | some c=>some (!c.xs.isEmpty) | none=>none)=some b:=e
  cases z:S[i]? with
  | none=>rw[z] at e; cases e
  | some c=>
   rw[z] at e
   obtain⟨a,xs,rfl,_,s,q,_⟩:=r.items h z
   exact .inl ⟨xs,s,by rw[<- q.empty]; exact(Ac e).symm⟩
 | exn c n=>cases (show(none:BC Bool)=some b from e)
 | fv c=>cases (show(none:BC Bool)=some b from e)
 | dct c=>cases (show(none:BC Bool)=some b from e)
def Gvu{e:Expr}{f:Ev D}(h:JE X XQ e f)(he:∀ whole,isTrue e X.env whole=(do let v <- whole; standAt e.pos; holding [v] (truthy v)):=by intro _; rfl):JT X XQ e (tt f):=by
 refine PT.mono (Gl8 h he) fun σ H Q ⟨mp,ρ,S,G,p⟩=>?_
 refine bindP G p fun mp1 H1 x S1 v a1 G1 r1 p1=>?_
 cases z:Vq x S1 with
 | none=>rw[z] at p1; exact p1.elim
 | some b=>
  rw[z] at p1
  exact⟨b,Gqk G1.rs r1 z,Gj.ok p1 G1.rs rfl⟩
def tb(f:Ev D):Ev Bool:=fun ρ S=>(f ρ S).bind fun x S1=>match x with
 | .bl b=>.ok b S1
 | _=>.bad
def Gml{K:By}{f:Ev D}{σ:L2.St}{H:Hp}{Q:Bool->Hp->Prop}(h:rdT K XQ (tb f) σ H Q):rdE K XQ f σ H fun x H1=>∃ k,x=.bl k/\Q k H1:=by
 obtain⟨mp,ρ,S,G,p⟩:=h
 refine bindP G p fun mp1 H1 x S1 v a1 G1 r1 p1=>?_
 cases x with
 | bl b=>exact⟨b,r1,Gj.ok p1 G1.rs rfl⟩
 | _=>exact p1.elim
def Ge5{a b:Expr}{fa fb:Ev D}{op:CmpOp}{r:R2}{o:D->D->Sto->Out D}{pos:Pos}(ho:OpR X (compareOp op) r)(hd:OpD X.K r o)(ha:JE X XQ a fa)(hb:JE X XQ b fb)(hm:behindInMarks op b=false):JT X XQ (.Compare a [op] [b] pos) (tb (o2 o fa fb)):=
 PT.mono (Gp7 ho ha hb hm) fun σ H Q h=>Gqj hd σ H _ (Gml h)
def tn(f:Ev Bool):Ev Bool:=fun ρ S=>(f ρ S).bind fun b S1=>.ok (!b) S1
def ta(f g:Ev Bool):Ev Bool:=fun ρ S=>(f ρ S).bind fun b S1=>if b=true then g ρ S1 else .ok false S1
def to(f g:Ev Bool):Ev Bool:=fun ρ S=>(f ρ S).bind fun b S1=>if b=true then .ok true S1 else g ρ S1
def Gvv{a:Expr}{f:Ev Bool}{pos:Pos}(h:JT X XQ a f):JT X XQ (.UnaryOp .Not a pos) (tn f):=
 PT.mono (Gus h) fun σ H Q ⟨mp,ρ,S,G,p⟩=>bindP G p fun mp1 H1 b S1 c a1 G1 r1 p1=>by
  cases (show c=b from r1)
  exact Gj.ok p1 G1.rs rfl
def Gql{a:Expr}{f:Ev Bool}{pos:Pos}(h:JT X XQ a f):JW X XQ (.BoolOp .And [a] pos) f:=Gp0 h
def Gvw{a:Expr}{f:Ev Bool}{pos:Pos}(h:JT X XQ a f):JW X XQ (.BoolOp .Or [a] pos) f:=Guq h
def Gvx{a b:Expr}{rest:List Expr}{f g:Ev Bool}{pos:Pos}(h:JT X XQ a f)(hb:JW X XQ (.BoolOp .And (b::rest) pos) g):JW X XQ (.BoolOp .And (a::b::rest) pos) (ta f g):=
 PW.mono (Gur h hb) fun σ H Q ⟨mp,ρ,S,G,p⟩=>bindP G p fun mp1 H1 b S1 c a1 G1 r1 p1=>by
  cases (show c=b from r1)
  cases b with
  | true=>exact(if_pos rfl).mpr ⟨mp1,ρ,S1,G1,by simpa using p1⟩
  | false=>exact(if_neg An).mpr (Gj.ok (R:=kB) (d:=false) (S:=S1) (by simpa using p1) G1.rs rfl)
def Gz3{a b:Expr}{rest:List Expr}{f g:Ev Bool}{pos:Pos}(h:JT X XQ a f)(hb:JW X XQ (.BoolOp .Or (b::rest) pos) g):JW X XQ (.BoolOp .Or (a::b::rest) pos) (to f g):=
 PW.mono (Gy8 h hb) fun σ H Q ⟨mp,ρ,S,G,p⟩=>bindP G p fun mp1 H1 b S1 c a1 G1 r1 p1=>by
  cases (show c=b from r1)
  cases b with
  | false=>exact(if_neg An).mpr ⟨mp1,ρ,S1,G1,by simpa using p1⟩
  | true=>exact(if_pos rfl).mpr (Gj.ok (R:=kB) (d:=true) (S:=S1) (by simpa using p1) G1.rs rfl)
def JW.jt{e:Expr}{f:Ev Bool}(h:JW X XQ e f):JT X XQ e f:=PW.pt h
def va(f g:Ev D):Ev D:=fun ρ S=>(f ρ S).bind fun x S1=>match x with
 | .bl b=>if b=true then g ρ S1 else .ok (.bl false) S1
 | _=>.bad
def vo(f g:Ev D):Ev D:=fun ρ S=>(f ρ S).bind fun x S1=>match x with
 | .bl b=>if b=true then .ok (.bl true) S1 else g ρ S1
 | _=>.bad
def vn(f:Ev D):Ev D:=fun ρ S=>(f ρ S).bind fun x S1=>match x with
 | .bl b=>.ok (.bl (!b)) S1
 | _=>.bad
def Gvy{a:Expr}{op}{f:Ev D}{pos:Pos}(h:JE X XQ a f):JE X XQ (.BoolOp op [a] pos) f:=Gut h
def Gvz{a b:Expr}{rest:List Expr}{f g:Ev D}{pos:Pos}(ha:JE X XQ a f)(hb:JE X XQ (.BoolOp .And (b::rest) pos) g):JE X XQ (.BoolOp .And (a::b::rest) pos) (va f g):=
 PE.mono (Guu ha hb) fun σ H Q ⟨mp,ρ,S,G,p⟩=>bindP G p fun mp1 H1 x S1 v a1 G1 r1 p1=>by
  cases x with
  | bl b=>
   refine⟨b,r1,?_⟩
   cases b with
   | true=>exact(if_pos rfl).mpr ⟨mp1,ρ,S1,G1,by simpa using p1⟩
   | false=>exact(if_neg An).mpr (Gj.ok (R:=Rep X.K) (d:=.bl false) (S:=S1) (by simpa using p1) G1.rs rfl)
  | _=>exact p1.elim
def Gv0{a:Expr}{f:Ev D}{pos:Pos}(ha:JE X XQ a f):JE X XQ (.UnaryOp .Not a pos) (vn f):=
 PE.mono (Guv ha) fun σ H Q ⟨mp,ρ,S,G,p⟩=>bindP G p fun mp1 H1 x S1 v a1 G1 r1 p1=>by
  cases x with
  | bl b=>exact⟨b,r1,Gj.ok p1 G1.rs rfl⟩
  | _=>exact p1.elim
def ie(c:Ev Bool)(f g:Ev D):Ev D:=fun ρ S=>(c ρ S).bind fun b S1=>if b=true then f ρ S1 else g ρ S1
def Gv1{a b c:Expr}{fc:Ev Bool}{fa fb:Ev D}{pos:Pos}(hc:JT X XQ c fc)(ha:JE X XQ a fa)(hb:JE X XQ b fb):JE X XQ (.IfExp c a b pos) (ie fc fa fb):=
 PE.mono (Glz hc ha hb) fun σ H Q ⟨mp,ρ,S,G,p⟩=>bindP G p fun mp1 H1 b S1 c a1 G1 r1 p1=>by
  cases (show c=b from r1)
  cases b with
  | true=>exact(if_pos rfl).mpr ⟨mp1,ρ,S1,G1,by simpa using p1⟩
  | false=>exact(if_neg An).mpr ⟨mp1,ρ,S1,G1,by simpa using p1⟩
end
inductive OS where
 | nx (ρ:Lc) (S:Sto) | rt (d:D) (S:Sto) | bk (ρ:Lc) (S:Sto) | ct (ρ:Lc) (S:Sto) | exc (x:XD) (ρ:Lc) (S:Sto) | bad
abbrev Sv:=Lc->Sto->OS
def PostS(K:By)(XQ:XW)(mp:List BB)(H:Hp)(o:OS)(E:Ends):Prop:=
 match o with
 | .nx ρ S=>∀ mp' H' σ',Aft K mp H mp' H'->Gd K mp' H' σ' ρ S->E.nx σ' H'
 | .rt d S=>∀ mp' H' v,Aft K mp H mp' H'->RS K mp' H' S->Rep K mp' H' d v->E.rt v H'
 | .bk ρ S=>∀ mp' H' σ',Aft K mp H mp' H'->Gd K mp' H' σ' ρ S->E.bk σ' H'
 | .ct ρ S=>∀ mp' H' σ',Aft K mp H mp' H'->Gd K mp' H' σ' ρ S->E.ct σ' H'
 | .exc x ρ S=>∀ mp' H' σ',Aft K mp H mp' H'->Gd K mp' H' σ' ρ S->XQ x mp' H' σ' ρ S
 | .bad=>False
def PostS.aft{K:By}{XQ:XW}{mp mp':List BB}{H H':Hp}{o:OS}{E:Ends}(p:PostS K XQ mp H o E)(a:Aft K mp H mp' H'):PostS K XQ mp' H' o E:=by
 cases o with
 | nx ρ S=>exact fun m h v b=>p m h v (a.trans b)
 | rt d S=>exact fun m h v b=>p m h v (a.trans b)
 | bk ρ S=>exact fun m h v b=>p m h v (a.trans b)
 | ct ρ S=>exact fun m h v b=>p m h v (a.trans b)
 | exc x ρ S=>exact fun m h v b=>p m h v (a.trans b)
 | bad=>exact p
def rdS(K:By)(XQ:XW)(f:Sv):TS:=fun E σ H=>∃ mp ρ S,Gd K mp H σ ρ S/\PostS K XQ mp H (f ρ S) E
def JS(X:Cx)(XQ:XW)(st:Stmt)(f:Sv):Prop:=PS X st (rdS X.K XQ f)
def JSs(X:Cx)(XQ:XW)(st:List Stmt)(f:Sv):Prop:=PSs X st (rdS X.K XQ f)
noncomputable def bindS{α:Type}(o:Out α)(ρ:Lc)(k:α->Sto->OS):OS:=
 match o with
 | .ok a S=>k a S
 | .exc x S=>.exc x ρ S
 | .bad=>.bad
def bindSP{α β:Type}{K:By}{R:RL α β}{XQ:XW}{mp:List BB}{H:Hp}{σ:L2.St}{ρ:Lc}{S:Sto}{f:Ev α}{g:α->Sto->OS}{E:Ends}{Q1:β->Hp->Prop}(G:Gd K mp H σ ρ S)(p:PostS K XQ mp H (bindS (f ρ S) ρ g) E)
  (k:∀ mp1 H1 d S1 v,Aft K mp H mp1 H1->Gd K mp1 H1 σ ρ S1->R mp1 H1 d v->PostS K XQ mp1 H1 (g d S1) E->Q1 v H1):rdG K R XQ f σ H Q1:=by
 refine⟨mp,ρ,S,G,?_⟩
 cases e:f ρ S with
 | ok d S1=>
  rw[e] at p
  exact fun mp1 H1 v a rs r=>k mp1 H1 d S1 v a (G.aft a rs) r (PostS.aft p a)
 | exc x S1=>rw[e] at p; exact fun m h b c=>p m h σ b c
 | bad=>rw[e] at p; exact p
noncomputable def skip:Sv:=fun ρ S=>.nx ρ S
noncomputable def sq(f g:Sv):Sv:=fun ρ S=>match f ρ S with
 | .nx ρ' S'=>g ρ' S'
 | .rt d S'=>.rt d S'
 | .bk ρ' S'=>.bk ρ' S'
 | .ct ρ' S'=>.ct ρ' S'
 | .exc x ρ' S'=>.exc x ρ' S'
 | .bad=>.bad
section
variable{X:Cx}{XQ:XW}
def PostS.nx{K:By}{mp:List BB}{H:Hp}{σ:L2.St}{ρ:Lc}{S:Sto}{E:Ends}(p:PostS K XQ mp H (.nx ρ S) E)(G:Gd K mp H σ ρ S):E.nx σ H:=p mp H σ .refl G
def PostS.rt{K:By}{mp:List BB}{H:Hp}{d:D}{v:V}{S:Sto}{E:Ends}(p:PostS K XQ mp H (.rt d S) E)(r:RS K mp H S)(h:Rep K mp H d v):E.rt v H:=p mp H v .refl r h
def Gqm:JSs X XQ [] skip:=PSs.mono Gp1 fun E σ H ⟨mp,ρ,S,G,p⟩=>PostS.nx p G
def Gmm{st:Stmt}{rest:List Stmt}{f g:Sv}(h1:JS X XQ st f)(h2:JSs X XQ rest g):JSs X XQ (st::rest) (sq f g):=by
 refine PSs.mono (Gl0 h1 h2) fun E σ H ⟨mp,ρ,S,G,p⟩=>⟨mp,ρ,S,G,?_⟩
 unfold sq at p
 cases e:f ρ S with
 | nx ρ' S'=>rw[e] at p; exact fun m h v a G'=>⟨m,ρ',S',G',PostS.aft p a⟩
 | rt d S'=>rw[e] at p; exact p
 | bk ρ' S'=>rw[e] at p; exact p
 | ct ρ' S'=>rw[e] at p; exact p
 | exc x ρ' S'=>rw[e] at p; exact p
 | bad=>rw[e] at p; exact p
def Gqn{st:Stmt}{f:Sv}(h1:JS X XQ st f):JSs X XQ [st] f:=Gi1 h1
noncomputable def sct:Sv:=fun ρ S=>.ct ρ S
def Ggk{pos:Pos}:JS X XQ (.Continue pos) sct:=PS.mono Ggf fun E σ H ⟨mp,ρ,S,G,p⟩=>p mp H σ .refl G
def sx(f:Ev D):Sv:=fun ρ S=>bindS (f ρ S) ρ fun _ S1=>.nx ρ S1
def Gqo{e:Expr}{f:Ev D}{pos:Pos}(he:JE X XQ e f)(hs:swapsWith e none pos.line X.env=pure false:=by rfl):JS X XQ (.Expr e pos) (sx f):=
 PS.mono (Gi2 he hs) fun E σ H ⟨mp,ρ,S,G,p⟩=>bindSP G p fun mp1 H1 d S1 v a1 G1 r1 p1=>PostS.nx p1 G1
def sret(f:Ev D):Sv:=fun ρ S=>bindS (f ρ S) ρ fun d S1=>.rt d S1
def Gv2{e:Expr}{f:Ev D}{pos:Pos}(he:JE X XQ e f):JS X XQ (.Return (some e) pos) (sret f):=
 PS.mono (Guw he) fun E σ H ⟨mp,ρ,S,G,p⟩=>bindSP G p fun mp1 H1 d S1 v a1 G1 r1 p1=>PostS.rt p1 G1.rs r1
def sif(c:Ev Bool)(f g:Sv):Sv:=fun ρ S=>bindS (c ρ S) ρ fun b S1=>if b=true then f ρ S1 else g ρ S1
def Gz4{c:Expr}{a b:List Stmt}{fc:Ev Bool}{f g:Sv}{pos:Pos}(hc:JT X XQ c fc)(ha:JSs X XQ a f)(hb:JSs X XQ b g):JS X XQ (.If c a b pos) (sif fc f g):=
 PS.mono (Gzd hc ha hb) fun E σ H ⟨mp,ρ,S,G,p⟩=>bindSP G p fun mp1 H1 b S1 c a1 G1 r1 p1=>by
  cases (show c=b from r1)
  cases b with
  | true=>exact(if_pos rfl).mpr ⟨mp1,ρ,S1,G1,by simpa using p1⟩
  | false=>exact(if_neg An).mpr ⟨mp1,ρ,S1,G1,by simpa using p1⟩
def Gd.set{K:By}{mp:List BB}{H:Hp}{σ:L2.St}{ρ:Lc}{S:Sto}{d:D}{v:V}(G:Gd K mp H σ ρ S)(i:Nat)(r:Rep K mp H d v):Gd K mp H (σ.set i (some v)) (ρ.set i (some d)) S:=by
 refine⟨G.rs,by simp[G.len],fun j e h=>?_⟩
 by_cases hj:j=i
 ·subst hj
  have hl:j<ρ.length:=by
   have:=(Aa.mp h).1
   simpa using this
  rw[Ah hl] at h
  cases h
  exact⟨v,by rw[Ah (by rw[G.len]; exact hl)],r⟩
 ·rw[Ad (Ne.symm hj)] at h ⊢
  exact G.loc j e h
abbrev Tg:=D->Lc->BC Lc
def Gmn(K:By)(g:Tg):TG:=fun v σ H Q=>∃ mp ρ S d ρ',Gd K mp H σ ρ S/\Rep K mp H d v/\g d ρ=some ρ'/\∀ σ',Gd K mp H σ' ρ' S->Q σ' H
def JG(X:Cx)(tg:Expr)(g:Tg):Prop:=PG X tg (Gmn X.K g)
def PG.mono{X:Cx}{e:Expr}{t t':TG}(h:PG X e t)(m:∀ v σ H Q,t' v σ H Q->t v σ H Q):PG X e t':=fun pins s σ H v u Q I r q=>h pins s σ H v u Q I r (m v σ H Q q)
noncomputable def gn(i:Nat):Tg:=fun d ρ=>some (ρ.set i (some d))
def Ge6(i:Nat){x:Str}{pos:Pos}(hN:X.N.Nodup)(hi:X.N[i]?=some x:=by rfl)(hx:Loc X.env.scope x:=by first | exact Or.inl rfl | exact Or.inr rfl)(hf:X.fn x=true\/X.env.scope.names.lookup x=some .local:=by first | exact .inl rfl | exact .inr rfl | assumption):JG X (.Name x pos) (gn i):=
 PG.mono (Gp3 hN hi hx hf) fun v σ H Q ⟨mp,ρ,S,d,ρ',G,r,e,k⟩=>by
  cases (Ac e)
  exact k _ (G.set i r)
abbrev Tgs:=List D->Lc->BC Lc
def Hcj(K:By)(g:Tgs):TGs:=fun vs σ H Q=>∃ mp ρ S ds ρ',Gd K mp H σ ρ S/\RepL K mp H ds vs/\g ds ρ=some ρ'/\∀ σ',Gd K mp H σ' ρ' S->Q σ' H
def JGs(X:Cx)(ts:List Expr)(g:Tgs):Prop:=PGs X ts (Hcj X.K g)
def PGs.mono{X:Cx}{e:List Expr}{t t':TGs}(h:PGs X e t)(m:∀ v σ H Q,t' v σ H Q->t v σ H Q):PGs X e t':=fun pins s σ H v u Q I r q=>h pins s σ H v u Q I r (m v σ H Q q)
noncomputable def gnil:Tgs:=fun ds ρ=>match ds with
 | []=>some ρ
 | _::_=>none
def gcons(g:Tg)(k:Tgs):Tgs:=fun ds ρ=>match ds with
 | []=>none
 | d::r=>(g d ρ).bind fun ρ'=>k r ρ'
def Gqp:JGs X [] gnil:=PGs.mono Gi3 fun vs σ H Q ⟨mp,ρ,S,ds,ρ',G,r,e,k⟩=>by
 cases ds with
 | nil=>
  cases (show some ρ=some ρ' from e)
  exact⟨r,k _ G⟩
 | cons _ _=>cases (show(none:BC Lc)=some ρ' from e)
def Gmo{e:Expr}{es:List Expr}{g:Tg}{k:Tgs}(h1:JG X e g)(h2:JGs X es k)
  (hs:(assignEach (e::es) X.env).map (·.2)=assign e X.env::(assignEach es X.env).map (·.2):=by rfl):JGs X (e::es) (gcons g k):=
 PGs.mono (Gcj h1 h2 hs) fun vs σ H Q ⟨mp,ρ,S,ds,ρ',G,r,e,q⟩=>by
  cases ds with
  | nil=>cases (show(none:BC Lc)=some ρ' from e)
  | cons d ds=>
   have e:(g d ρ).bind (fun ρ'=>k ds ρ')=some ρ':=e
   obtain⟨v,vr,ev,h3,h4⟩:=(show ∃ v r,vs=v::r/\Rep X.K mp H d v/\RepL X.K mp H ds r from r)
   cases z:g d ρ with
   | none=>rw[z] at e; cases e
   | some ρ1=>
    rw[z] at e
    exact⟨v,vr,ev,mp,ρ,S,d,ρ1,G,h3,z,fun σ1 G1=>⟨mp,ρ1,S,ds,ρ',G1,h4,e,q⟩⟩
noncomputable def gt(k:Tgs)(n:Nat):Tg:=fun d ρ=>match d with
 | .tup ds=>if ds.length=n then k ds ρ else none
 | _=>none
def Gv3{es:List Expr}{m:Nat}{k:Tgs}{n:Nat}{pos:Pos}(hc:X.calm=true)(h:JGs X es k)
  (hn:(assignEach es X.env).length=n:=by rfl) (hst:(assignEach es X.env).findIdx? (·.1)=none:=by rfl):JG X (.Tuple es m pos) (gt k n):=
 PG.mono (Gl1 hc h hn hst) fun v σ H Q ⟨mp,ρ,S,d,ρ',G,r,e,q⟩=>by
  cases d with
  | tup ds=>
   have e:(if ds.length=n then k ds ρ else none)=some ρ':=e
   obtain⟨a,xs,ev,sq,rl⟩:=Rep.tup r
   by_cases hl:ds.length=n
   ·rw[if_pos hl] at e
    exact⟨a,xs,ev,sq,by rw[rl.len]; exact hl,mp,ρ,S,ds,ρ',G,rl,e,q⟩
   ·rw[if_neg hl] at e; cases e
  | _=>cases (show(none:BC Lc)=some ρ' from e)
def sa(f:Ev D)(g:Tg):Sv:=fun ρ S=>bindS (f ρ S) ρ fun d S1=>match g d ρ with
 | some ρ'=>.nx ρ' S1
 | none=>.bad
def Hck{K:By}{f:Ev D}{g:Tg}(E:Ends)(σ:L2.St)(H:Hp)(h:rdS K XQ (sa f g) E σ H):Gp4 (rdE K XQ f) (Gmn K g) E σ H:=by
 obtain⟨mp,ρ,S,G,p⟩:=h
 refine bindSP G p fun mp1 H1 d S1 v a1 G1 r1 p1=>?_
 cases z:g d ρ with
 | none=>rw[z] at p1; exact p1.elim
 | some ρ'=>
  rw[z] at p1
  exact⟨mp1,ρ,S1,d,ρ',G1,r1,z,fun σ' G'=>PostS.nx p1 G'⟩
def Gv4{tg e:Expr}{f:Ev D}{g:Tg}{pos:Pos}(he:JE X XQ e f)(hg:JG X tg g)(hs:swapsWithSole [tg] e pos.line X.env=pure false:=by rfl)(hw:swappedStores [tg] e X.env=pure none:=by rfl)
  (h1:(assignEach [tg] X.env).map (·.2)=[assign tg X.env]:=by rfl):JS X XQ (.Assign [tg] e pos) (sa f g):=
 PS.mono (Ghs he hg hs hw h1) Hck
def Gv5(i:Nat){x:Str}{e:Expr}{f:Ev D}{pos pos':Pos}(hN:X.N.Nodup)(he:JE X XQ e f)(hi:X.N[i]?=some x:=by rfl)(hx:Loc X.env.scope x:=by first | exact Or.inl rfl | exact Or.inr rfl)(hs:swapsWith e (some (.Name x pos')) pos.line X.env=pure false:=by rfl)
  (hf:X.fn x=true\/X.env.scope.names.lookup x=some .local:=by first | exact .inl rfl | exact .inr rfl | assumption):JS X XQ (.Assign [.Name x pos'] e pos) (sa f (gn i)):=
 PS.mono (Gux hN hi hx he hs hf) fun E σ H ⟨mp,ρ,S,G,p⟩=>bindSP G p fun mp1 H1 d S1 v a1 G1 r1 p1=>PostS.nx p1 (G1.set i r1)
def Gv6(t:Gk1)(K:By)(o:D->D->D->Sto->BC Sto):Prop:=
 ∀ (mp:List BB) (H:Hp) (S S':Sto) (x y z:D) (v u w:V) (Q:Hp->Prop),RS K mp H S->Rep K mp H x v->Rep K mp H y u->Rep K mp H z w->o x y z S=some S'->(∀ H',Aft K mp H mp H'->RS K mp H' S'->Q H')->t v u w H Q
def ss(f fo fi:Ev D)(o:D->D->D->Sto->BC Sto):Sv:=fun ρ S=>bindS (f ρ S) ρ fun d S1=>bindS (fo ρ S1) ρ fun x S2=>bindS (fi ρ S2) ρ fun y S3=>match o x y d S3 with
 | some S4=>.nx ρ S4
 | none=>.bad
def Gmp{ob ix e:Expr}{f fo fi:Ev D}{t:Gk1}{o:D->D->D->Sto->BC Sto}{pos p2:Pos}(hset:Gp2 X t)(ho:Gv6 t X.K o)(he:JE X XQ e f)(hob:JE X XQ ob fo)(hix:JE X XQ ix fi)
  (hs:swapsWithSole [.Subscript ob ix p2] e pos.line X.env=pure false:=by rfl) (hw:swappedStores [.Subscript ob ix p2] e X.env=pure none:=by rfl)
  (h1:(assignEach [.Subscript ob ix p2] X.env).map (·.2)=[assign (.Subscript ob ix p2) X.env]:=by rfl) (ha:∀ v,assign (.Subscript ob ix p2) X.env v=(do
   let ov <- holding [v] (eval ob X.env)
   let iv <- holding [v,ov] (eval ix X.env)
   standAt p2
   holding [v,ov,iv] (setItem ov iv v)
   release [v,ov,iv] []):=by intro _; rfl):JS X XQ (.Assign [.Subscript ob ix p2] e pos) (ss f fo fi o):=by
 refine PS.mono (Ghs he (Ghr hob hix hset ha) hs hw h1) fun E σ H ⟨mp,ρ,S,G,p⟩=>?_
 refine bindSP G p fun mp1 H1 d S1 v a1 G1 r1 p1=>?_
 refine bindSP G1 p1 fun mp2 H2 x S2 vx a2 G2 r2 p2=>?_
 refine bindSP G2 p2 fun mp3 H3 y S3 vy a3 G3 r3 p3=>?_
 cases z:o x y d S3 with
 | none=>rw[z] at p3; exact p3.elim
 | some S4=>
  rw[z] at p3
  exact ho mp3 H3 S3 S4 x y d vx vy v _ G3.rs (Rep.aft a3 _ _ r2) r3 (Rep.aft (a2.trans a3) _ _ r1) z fun H' af rs=>p3 mp3 H' σ af (G3.aft af rs)
structure Src where
 nxt:Nat->Sto->BC D
 fuel:Nat
def Gmq(K:By)(mp0:List BB)(H0:Hp)(J:It)(nxt:Nat->Sto->BC D):Prop:=
 ∀ (mp:List BB) (H:Hp) (S:Sto),Aft K mp0 H0 mp H->RS K mp H S->∀ k,match nxt k S with
  | some d=>J.go k H/\∀ x H',J.yld k H x H'->Aft K mp H mp H'/\RS K mp H' S/\Rep K mp H' d x
  | none=>J.stop k H
def kI(K:By):RL Src It:=fun mp H s J=>Gmq K mp H J s.nxt
abbrev rdI(K:By)(XQ:XW)(f:Ev Src):TI:=rdG K (kI K) XQ f
def JI(X:Cx)(XQ:XW)(tg iter:Expr)(f:Ev Src):Prop:=PI X tg iter (rdI X.K XQ f)
def PI.mono{X:Cx}{tg e:Expr}{t t':TI}(h:PI X tg e t)(m:∀ σ H Q,t' σ H Q->t σ H Q):PI X tg e t':=fun pins s σ H Q I q=>h pins s σ H Q I (m σ H Q q)
noncomputable def Kb(nxt:Nat->Sto->BC D)(g:Tg)(b:Sv):Nat->Nat->Sv
 | 0,_,_,_=>.bad
 | n+1,k,ρ,S=>match nxt k S with
  | none=>.nx ρ S
  | some d=>match g d ρ with
   | none=>.bad
   | some ρ1=>match b ρ1 S with
    | .nx ρ2 S2=>Kb nxt g b n (k+1) ρ2 S2
    | .ct ρ2 S2=>Kb nxt g b n (k+1) ρ2 S2
    | .bk ρ2 S2=>.nx ρ2 S2
    | .rt d S2=>.rt d S2
    | .exc x ρ2 S2=>.exc x ρ2 S2
    | .bad=>.bad
def sfor(f:Ev Src)(g:Tg)(b:Sv):Sv:=fun ρ S=>bindS (f ρ S) ρ fun s S1=>Kb s.nxt g b s.fuel 0 ρ S1
def Gv7{tg iter:Expr}{body:List Stmt}{f:Ev Src}{g:Tg}{b:Sv}{pos:Pos}(hp:PassesOwn (model X.prog X.w) X.A X.env X.xe)(hc:X.calm=true)(hi:JI X XQ tg iter f)(hg:JG X tg g)(hb:JSs X XQ body b)
  (hs:∀ x,foldedSetIterable iter X.env x=pure x:=by intro _; rfl):JS X XQ (.For tg iter body [] pos) (sfor f g b):=by
 refine PS.mono (Gu2 hp hc hi hg hb hs) fun E σ H ⟨mp,ρ,S,G,p⟩=>?_
 refine bindSP G p fun mp1 H1 s S1 J a1 G1 j1 p1=>?_
 refine⟨fun i m σ' H'=>∃ mp' ρ' S',Aft X.K mp1 H1 mp' H'/\Gd X.K mp' H' σ' ρ' S'/\PostS X.K XQ mp' H' (Kb s.nxt g b m i ρ' S') E,⟨s.fuel,mp1,ρ,S1,.refl,G1,p1⟩,?_⟩
 rintro i m σ' H' ⟨mp',ρ',S',a',G',p'⟩
 cases m with
 | zero=>exact(show False from p').elim
 | succ n=>
  have j:=j1 mp' H' S' a' G'.rs i
  unfold Kb at p'
  cases z:s.nxt i S' with
  | none=>
   rw[z] at j p'
   exact .inl ⟨j,PostS.nx p' G'⟩
  | some d=>
   rw[z] at j p'
   obtain⟨j1,j2⟩:=j
   refine .inr ⟨j1,fun σ2 H2=>∃ mp2 ρ2 S2,Aft X.K mp1 H1 mp2 H2/\Gd X.K mp2 H2 σ2 ρ2 S2/\PostS X.K XQ mp2 H2 (Kb s.nxt g b n (i+1) ρ2 S2) E,fun σ2 H2 q=>⟨n,A1 n,q⟩,fun x H2 y=>?_⟩
   obtain⟨a2,r2,x2⟩:=j2 x H2 y
   have G2:=G'.aft a2 r2
   cases zg:g d ρ' with
   | none=>simp only[zg] at p'; exact p'.elim
   | some ρ1=>
    simp only[zg] at p'
    refine⟨mp',ρ',S',d,ρ1,G2,x2,zg,fun σ3 G3=>⟨mp',ρ1,S',G3,?_⟩⟩
    have p2:=PostS.aft p' a2
    cases zb:b ρ1 S' with
    | nx ρ2 S2=>simp only[zb] at p2; exact fun m h v af G4=>⟨m,ρ2,S2,(a'.trans a2).trans af,G4,PostS.aft p2 af⟩
    | ct ρ2 S2=>simp only[zb] at p2; exact fun m h v af G4=>⟨m,ρ2,S2,(a'.trans a2).trans af,G4,PostS.aft p2 af⟩
    | bk ρ2 S2=>simp only[zb] at p2; exact p2
    | rt d S2=>simp only[zb] at p2; exact p2
    | exc x ρ2 S2=>simp only[zb] at p2; exact p2
    | bad=>simp only[zb] at p2; exact p2
def Gi9:D->Sto->Out Src
 | .tup l,S=>.ok ⟨fun k _=>l[k]?,l.length+1⟩ S
 | .lst i,S=>match S[i]? with
  | some c=>.ok ⟨fun k S=>(S[i]?).bind fun c=>c.xs[k]?,c.xs.length+1⟩ S
  | none=>.bad
 | _,_=>.bad
end
section
variable{X:Cx}{XQ:XW}
def Hcl(K:By)(tl:TE):TI:=fun σ H R=>tl σ H fun x H1=>∃ a,x=.ref a/\(((∃ xs,SqL K H1 a xs)/\R (Itl K a) H1)\/((∃ xs,SqT K H1 a xs)/\R (Itt K a) H1))
def Gv8{tg l:Expr}{tl:TE}(hl:PE X l tl):PI X tg l (Hcl X.K tl):=by
 intro pins s σ H R I h
 refine thn (hl pins s σ H _ I h) fun v s1 ⟨x,H1,I1,r1,q1⟩=>?_
 obtain⟨a,e,q⟩:=q1
 subst e
 cases r1
 rcases q with⟨⟨xs,hq⟩,q⟩ | ⟨⟨xs,hq⟩,q⟩
 ·obtain⟨its,rv,p,hz⟩:=I1.list hq
  refine wpAny_pyIter_list p.isList ?_
  refine⟨s1.heap.objs.size,[s1.heap.objs.size],_,_,H1,rfl,I1.kept (t':=s1.toks) fun b o e=>Ao _ e,turn_list a _,⟨_,AD _ rfl,rfl,rfl⟩,fun b hb=>?_,q⟩
  have e:b=s1.heap.objs.size:=by simpa using hb
  subst e
  exact I1.fpOk (Ab _) (I1.hok.fresh (Ab _))
 ·obtain⟨its,rv,p,hz⟩:=I1.tuple hq
  refine wpAny_pyIter_tuple (show s1.heap.IsTuple a its.toArray from p) ?_
  refine⟨s1.heap.objs.size,[s1.heap.objs.size],_,_,H1,rfl,I1.kept (t':=s1.toks) fun b o e=>Ao _ e,turn_tuple a _,⟨_,AD _ rfl,rfl,rfl⟩,fun b hb=>?_,q⟩
  have e:b=s1.heap.objs.size:=by simpa using hb
  subst e
  exact I1.fpOk (Ab _) (I1.hok.fresh (Ab _))
def isrc(f:Ev D):Ev Src:=fun ρ S=>(f ρ S).bind Gi9
def Gv9{K:By}{mp:List BB}{H:Hp}{a:BB}{xs:List V}{l:List D}(s:SqT K H a xs)(r:RepL K mp H l xs):Gmq K mp H (Itt K a) (fun k _=>l[k]?):=by
 intro mp' H' S' af rs k
 show match l[k]? with
  | some d=>(Itt K a).go k H'/\∀ x H2,(Itt K a).yld k H' x H2->Aft K mp' H' mp' H2/\RS K mp' H2 S'/\Rep K mp' H2 d x
  | none=>(Itt K a).stop k H'
 cases z:l[k]? with
 | none=>
  refine⟨xs,af.tup _ _ s,?_⟩
  rw[r.len]
  exact A2.mp z
 | some d=>
  have r':=RepL.aft af _ _ r
  obtain⟨v,e,q⟩:=r'.get z
  refine⟨⟨xs,v,af.tup _ _ s,e⟩,fun x H2 ⟨h1,h2⟩=>?_⟩
  subst h1
  have e2:=h2 xs (af.tup _ _ s)
  rw[e] at e2
  cases e2
  exact⟨.refl,rs,q⟩
def Gwa{K:By}{mp:List BB}{H:Hp}{a:BB}{i:Nat}(hi:mp[i]?=some a)(nd:¬ Dcy H a):Gmq K mp H (Itl K a) (fun k S=>(S[i]?).bind fun c=>c.xs[k]?):=by
 intro mp' H' S' af rs k
 have hi':=af.pre i a hi
 have hl:i<S'.length:=by rw[<- rs.len]; exact(Aa.mp hi').1
 have hc:S'[i]?=some S'[i]:=Af hl
 obtain⟨a2,xs,e1,e2,sq,r,_⟩:=rs.items (v:=.ref a) ⟨a,rfl,hi',af.ndc i a hi nd⟩ hc
 cases e1
 simp only[hc,Ba]
 cases z:(S'[i]).xs[k]? with
 | none=>
  refine⟨xs,sq,?_⟩
  rw[r.len]
  exact A2.mp z
 | some d=>
  obtain⟨v,e,q⟩:=r.get z
  refine⟨⟨xs,v,sq,e⟩,fun x H2 ⟨h1,h2⟩=>?_⟩
  subst h1
  have e2:=h2 xs sq
  rw[e] at e2
  cases e2
  exact⟨.refl,rs,q⟩
def Gwb{tg l:Expr}{f:Ev D}(hl:JE X XQ l f):JI X XQ tg l (isrc f):=by
 refine PI.mono (Gv8 hl) fun σ H R ⟨mp,ρ,S,G,p⟩=>?_
 refine bindP G p fun mp1 H1 d S1 v a1 G1 r1 p1=>?_
 cases d with
 | tup ds=>
  obtain⟨a,xs,rfl,s,q⟩:=Rep.tup r1
  exact⟨a,rfl,.inr ⟨⟨xs,s⟩,Gj.ok (R:=kI X.K) (d:=⟨fun k _=>ds[k]?,ds.length+1⟩) (S:=S1) p1 G1.rs (Gv9 s q)⟩⟩
 | lst i=>
  have p1:Gj X.K (kI X.K) XQ σ ρ mp1 H1 (match S1[i]? with | some c=>.ok ⟨fun k S=>(S[i]?).bind fun c=>c.xs[k]?,c.xs.length+1⟩ S1 | none=>.bad) R:=p1
  cases z:S1[i]? with
  | none=>rw[z] at p1; exact p1.elim
  | some c=>
   rw[z] at p1
   obtain⟨a,xs,rfl,ha,s,q,_⟩:=G1.rs.items r1 z
   exact⟨a,rfl,.inl ⟨⟨xs,s⟩,Gj.ok (R:=kI X.K) (d:=⟨fun k S=>(S[i]?).bind fun c=>c.xs[k]?,c.xs.length+1⟩) (S:=S1) p1 G1.rs (Gwa ha (Rep.nd r1))⟩⟩
 | _=>exact(show False from p1).elim
noncomputable def rsrc(lo:Int)(n:Nat):Src:=⟨fun k _=>if k<n then some (.int (lo+k)) else none,n+1⟩
def Gmr{K:By}{mp:List BB}{H:Hp}{lo:Int}{n:Nat}:Gmq K mp H (Itr lo n) (rsrc lo n).nxt:=by
 intro mp' H' S' af rs k
 show match (if k<n then some (D.int (lo+k)) else none) with
  | some d=>(Itr lo n).go k H'/\∀ x H2,(Itr lo n).yld k H' x H2->Aft K mp' H' mp' H2/\RS K mp' H2 S'/\Rep K mp' H2 d x
  | none=>(Itr lo n).stop k H'
 by_cases h:k<n
 ·rw[if_pos h]
  refine⟨h,fun x H2 ⟨h1,h2⟩=>?_⟩
  subst h1 h2
  exact⟨.refl,rs,rfl⟩
 ·rw[if_neg h]
  exact Nat.not_lt.mp h
def ir1(f:Ev (List D)):Ev Src:=fun ρ S=>(f ρ S).bind fun ds S1=>match ds with
 | [.int j]=>if -1000000000000<=j/\j<=1000000000000 then .ok (rsrc 0 j.toNat) S1 else .bad
 | _=>.bad
def ir2(f:Ev (List D)):Ev Src:=fun ρ S=>(f ρ S).bind fun ds S1=>match ds with
 | [.int i,.int j]=>if(-1000000000000<=i/\i<=1000000000000) /\ -1000000000000<=j/\j<=1000000000000 then .ok (rsrc i (j-i).toNat) S1 else .bad
 | _=>.bad
def RepL.one{K:By}{mp:List BB}{H:Hp}{d:D}{vs:List V}(h:RepL K mp H [d] vs):∃ v,vs=[v]/\Rep K mp H d v:=by
 obtain⟨v,r,rfl,h1,h2⟩:=h
 cases (show r=[] from h2)
 exact⟨v,rfl,h1⟩
def RepL.two{K:By}{mp:List BB}{H:Hp}{d e:D}{vs:List V}(h:RepL K mp H [d,e] vs):∃ v w,vs=[v,w]/\Rep K mp H d v/\Rep K mp H e w:=by
 obtain⟨v,r,rfl,h1,h2⟩:=h
 obtain⟨w,rfl,h3⟩:=RepL.one h2
 exact⟨v,w,rfl,h1,h3⟩
def Gla{tg a:Expr}{f:Ev (List D)}{p pos:Pos}(hg:Gl X "range")(hm:X.mg "range"=none)(ha:JA X XQ [a] f)(hs:starEach [a] X.env=[(false,eval a X.env)]:=by rfl):JI X XQ tg (.Call (.Name "range" p) [a] [] pos) (ir1 f):=by
 refine PI.mono (Gk2 hg hm ha hs) fun σ H R ⟨mp,ρ,S,G,p⟩=>?_
 refine bindP G p fun mp1 H1 ds S1 vs a1 G1 r1 p1=>?_
 split at p1
 ·rename_i j
  by_cases hb : -1000000000000<=j/\j<=1000000000000
  ·rw[if_pos hb] at p1
   obtain⟨v,rfl,h1⟩:=RepL.one r1
   cases (show v=.int j from h1)
   refine⟨j,rfl,by omega,by omega,Gj.ok (R:=kI X.K) (d:=rsrc 0 j.toNat) (S:=S1) p1 G1.rs Gmr⟩
  ·rw[if_neg hb] at p1; exact p1.elim
 ·exact p1.elim
def Glb{tg a b:Expr}{f:Ev (List D)}{p pos:Pos}(hg:Gl X "range")(hm:X.mg "range"=none)(ha:JA X XQ [a,b] f)(hs:starEach [a,b] X.env=[(false,eval a X.env),(false,eval b X.env)]:=by rfl)(hs2:starEach [b] X.env=[(false,eval b X.env)]:=by rfl):JI X XQ tg (.Call (.Name "range" p) [a,b] [] pos) (ir2 f):=by
 refine PI.mono (Gk3 hg hm ha hs hs2) fun σ H R ⟨mp,ρ,S,G,p⟩=>?_
 refine bindP G p fun mp1 H1 ds S1 vs a1 G1 r1 p1=>?_
 split at p1
 ·rename_i i j
  by_cases hb:(-1000000000000<=i/\i<=1000000000000) /\ -1000000000000<=j/\j<=1000000000000
  ·rw[if_pos hb] at p1
   obtain⟨v,w,rfl,h1,h2⟩:=RepL.two r1
   cases (show v=.int i from h1)
   cases (show w=.int j from h2)
   refine⟨i,j,rfl,⟨by omega,by omega,by omega,by omega⟩,Gj.ok (R:=kI X.K) (d:=rsrc i (j-i).toNat) (S:=S1) p1 G1.rs Gmr⟩
  ·rw[if_neg hb] at p1; exact p1.elim
 ·exact p1.elim
def whN(c:Ev Bool)(b:Sv):Nat->Sv
 | 0,_,_=>.bad
 | n+1,ρ,S=>bindS (c ρ S) ρ fun t S1=>if t=true then(match b ρ S1 with
    | .nx ρ2 S2=>whN c b n ρ2 S2
    | .ct ρ2 S2=>whN c b n ρ2 S2
    | .bk ρ2 S2=>.nx ρ2 S2
    | .rt d S2=>.rt d S2
    | .exc x ρ2 S2=>.exc x ρ2 S2
    | .bad=>.bad) else .nx ρ S1
def Gms(fuel:Nat){c:Expr}{body:List Stmt}{fc:Ev Bool}{b:Sv}{pos:Pos}(hp:PassesOwn (model X.prog X.w) X.A X.env X.xe)(hc:JT X XQ c fc)(hb:JSs X XQ body b):JS X XQ (.While c body [] pos) (whN fc b fuel):=by
 refine PS.mono (Gl2 hp hc hb) fun E σ H ⟨mp,ρ,S,G,p⟩=>?_
 refine⟨fun m σ' H'=>∃ mp' ρ' S',Gd X.K mp' H' σ' ρ' S'/\PostS X.K XQ mp' H' (whN fc b m ρ' S') E,⟨fuel,mp,ρ,S,G,p⟩,?_⟩
 rintro m σ' H' ⟨mp',ρ',S',G',p'⟩
 cases m with
 | zero=>exact(show False from p').elim
 | succ n=>
  refine bindSP G' p' fun mp1 H1 t S1 t' a1 G1 r1 p1=>?_
  cases (show t'=t from r1)
  cases t with
  | false=>exact(if_neg An).mpr (PostS.nx (by simpa using p1) G1)
  | true=>
   refine(if_pos rfl).mpr ⟨fun σ2 H2=>∃ mp2 ρ2 S2,Gd X.K mp2 H2 σ2 ρ2 S2/\PostS X.K XQ mp2 H2 (whN fc b n ρ2 S2) E,fun σ2 H2 q=>⟨n,A1 n,q⟩,⟨mp1,ρ',S1,G1,?_⟩⟩
   simp only[if_true] at p1
   cases zb:b ρ' S1 with
   | nx ρ2 S2=>simp only[zb] at p1; exact fun m h v af G4=>⟨m,ρ2,S2,G4,PostS.aft p1 af⟩
   | ct ρ2 S2=>simp only[zb] at p1; exact fun m h v af G4=>⟨m,ρ2,S2,G4,PostS.aft p1 af⟩
   | bk ρ2 S2=>simp only[zb] at p1; exact p1
   | rt d S2=>simp only[zb] at p1; exact p1
   | exc x ρ2 S2=>simp only[zb] at p1; exact p1
   | bad=>simp only[zb] at p1; exact p1
end
abbrev Fn:=List D->Sto->Out D
def Gtj(K:By)(mp:List BB)(H:Hp)(o:Out D)(Q:VK):Prop:=
 match o with
 | .ok d S=>∀ mp' H' v,Aft K mp H mp' H'->RS K mp' H' S->Rep K mp' H' d v->Q v H'
 | _=>False
def spD(K:By)(n:Nat)(fn:Fn):Sp:=fun vs H Q _=>∃ mp ds S,RS K mp H S/\RepL K mp H ds vs/\ds.length=n/\Gtj K mp H (fn ds S) Q
noncomputable def fnB(m:Nat)(b:Sv):Fn:=fun ds S=>match b (ds.map some++List.replicate (m-ds.length) none) S with
 | .rt d S'=>.ok d S'
 | .nx _ S'=>.ok .non S'
 | .exc x _ S'=>.exc x S'
 | _=>.bad
def Gcp{K:By}{mp:List BB}{H:Hp}{S:Sto}{N:List Str}{ds:List D}{vs:List V}(r:RS K mp H S)(h:RepL K mp H ds vs):Gd K mp H (start N vs) (ds.map some++List.replicate (N.length-ds.length) none) S:=by
 have hl:=h.len
 refine⟨r,by simp[L2.start,hl],fun i d e=>?_⟩
 by_cases hi:i<ds.length
 ·rw[Ar (by simpa using hi),As] at e
  cases z:ds[i]? with
  | none=>rw[z] at e; cases e
  | some d'=>
   rw[z] at e
   cases e
   obtain⟨v,e1,q⟩:=h.get z
   refine⟨v,?_,q⟩
   unfold L2.start
   rw[Ar (by simp[hl]; exact hi),As,e1]
   rfl
 ·rw[A0 (by simpa using hi),List.getElem?_replicate] at e
  split at e
  ·cases e
  ·cases e
def Gtk{P:BD}{w:World}{K:By}{mg:Str->BC Bz}{base:Heap}{x qual:Str}{st:Stmt}{f:BB}{fd:FuncData}{N ps:List Str}{k:Nat}{b:Sv}(F:Fun K x qual st f fd)(Sc:FnScope N ps (Gc st))(hb:∀ (cdv:Bz) (A:Around) (outer:List PySem.Env) (s:BA) (H:Hp) (E:XK),Room k (A.deeper (envOfC qual (Gc st) s.heap.objs.size f cdv))→
   JSs (Qy CX0 P w K mg base N qual (Gc st) f cdv A outer s H E).nox (fun _ _ _ _ _ _=>False) (Hb st) b):FnOk P w K mg base CX0 (k+1) f fd ps (spD K ps.length (fnB N.length b)):=by
 refine F.ok Sc (fun vs H Q E ⟨mp,ds,S,rs,r,hl,_⟩=>by rw[r.len]; exact hl) fun cdv A outer s H vs Q E hr ⟨mp,ds,S,rs,r,hl,p⟩=>?_
 refine⟨_,hb cdv A outer s H E hr,mp,_,S,Gcp rs r,?_⟩
 unfold fnB at p
 show PostS K _ mp H (b (ds.map some++List.replicate (N.length-ds.length) none) S) _
 cases z:b (ds.map some++List.replicate (N.length-ds.length) none) S with
 | rt d S'=>rw[z] at p; exact p
 | nx ρ' S'=>rw[z] at p; exact fun m h v af G=>p m h .non af G.rs rfl
 | bk ρ' S'=>rw[z] at p; exact p.elim
 | ct ρ' S'=>rw[z] at p; exact p.elim
 | exc x ρ' S'=>rw[z] at p; exact p.elim
 | bad=>rw[z] at p; exact p.elim
section
variable{X:Cx}{XQ:XW}{k:Nat}{f:BB}{fd:FuncData}{ps:List Str}{fn:Fn}{x:Str}{p pos:Pos}{e:Expr}{es:List Expr}{t:Ev (List D)}
def cl(n:Nat)(fn:Fn)(t:Ev (List D)):Ev D:=fun ρ S=>(t ρ S).bind fun ds S1=>if ds.length=n then fn ds S1 else .bad
noncomputable def Gi(fn:Fn):Fn:=fun ds S=>match fn ds S with
 | .ok d S'=>.ok d S'
 | _=>.bad
def Gqq{j:Nat}(F:FnOk X.prog X.w X.K X.mg X.base CX0 j f fd ps (spD X.K ps.length fn))(hr:Room k X.A)(hj:j<=k)(hg:Gl X x)(hm:X.mg x=some (.ref f))(hk:PySem.W.keepIn X.K (.ref f)=true)(hb:Binds X.K fd ps [])
  (ha:JA X XQ (e::es) t) (hdb:(x==("__debug__":Str))=false:=by decide) (he:starEach (e::es) X.env=(false,eval e X.env)::starEach es X.env:=by rfl) (hpl:(backTo pos (starEach es X.env)).any (·.1)=false:=by rfl):
  JE X XQ (.Call (.Name x p) (e::es) [] pos) (cl ps.length (Gi fn) t):=by
 refine PE.mono (Gp8 (F.mono hj) hr hg hm hk hb .nil (Gzx) ha hdb he hpl) fun σ H Q ⟨mp,ρ,S,G,p⟩=>?_
 refine bindP G p fun mp1 H1 ds S1 vs a1 G1 r1 p1=>?_
 by_cases hl:ds.length=ps.length
 ·rw[if_pos hl] at p1
  refine⟨mp1,ds,S1,G1.rs,by rw[AU]; exact r1,hl,?_⟩
  unfold Gi at p1
  cases z:fn ds S1 with
  | ok d S'=>rw[z] at p1; exact p1
  | exc x S'=>rw[z] at p1; exact p1.elim
  | bad=>rw[z] at p1; exact p1.elim
 ·rw[if_neg hl] at p1; exact p1.elim
end
def Ge7{prog:BD}{w:World}{A:Around}{R:Result->BA->Prop}{s:BA}{elt target iter:Expr}{ifs:List Expr}{scope:Scope}{pos:Pos}{it acc:Bz}{env:PySem.Env}(I:Nat->BA->Prop)(turn:∀ n s,I n s->wpAny (model prog w) A (pyNext it) (fun r s₁=>match r with
   | none=>R (.ok .next) s₁
   | some v=>wpAny (model prog w) A (letOwnedTupleGo target it v) (fun _ s₁=>wpAny (model prog w) A (assign target env v) (fun _ s₂=>
     wpAny (model prog w) A (forIn ifs true fun c r=>if r=true then do let ok <- isTrue c env (eval c env); pure (ForInStep.yield ok) else pure (ForInStep.yield r)) (fun ok s₃=>
      if ok=true then wpAny (model prog w) A (eval elt env) (fun x s₄=>
       wpAny (model prog w) A (call (.builtin "list.append") [acc,x]) (fun _ s₅=>∃ m,m<n/\I m s₅) (fun _ _=>False) s₄) (fun _ _=>False) s₃
      else ∃ m,m<n/\I m s₃) (fun _ _=>False) s₂) (fun _ _=>False) s₁) (fun _ _=>False) s₁) (fun _ _=>False) s)(n:Nat)(h:I n s):
  codeAny (model prog w) A (.compLoop (.ListComp elt [⟨target,iter,ifs,0⟩] scope pos) 0 it acc env) R s:=by
 have noE:∀ {α:Type} {m:Sem α} {Q:α->BA->Prop} {E':Bz->BA->Prop} {s:BA},wpAny (model prog w) A m Q (fun _ _=>False) s->wpAny (model prog w) A m Q E' s:=fun h=>wpAny_mono h (fun _ _ q=>q) fun _ _ z=>z.elim
 refine codeAny_loop rfl I (fun n s hI=>?_) n h
 show wpAny _ A ((compTurn (.ListComp elt [⟨target,iter,ifs,0⟩] scope pos) 0 it acc env).onRaise (fun x=>do noteFrame x env; theTreesLotGoes x)) _ _ s
 refine wpAny_noted ?_
 rw[compTurn_list]
 refine wpAny_bind (wpAny_standAt (wpAny_bind (noE (wpAny_mono (turn n s hI) (fun r s₁ h₁=>?_) fun _ _ z=>z))))
 cases r with
 | none=>exact wpAny_pure h₁
 | some v=>
  refine wpAny_bind (noE (wpAny_mono h₁ (fun _ s₁ h₁=>?_) fun _ _ z=>z))
  refine wpAny_bind (noE (wpAny_mono h₁ (fun _ s₂ h₂=>wpAny_bind (noE (wpAny_mono h₂ (fun ok s₃ h₃=>?_) fun _ _ z=>z))) fun _ _ z=>z))
  cases ok with
  | false=>exact wpAny_pure ⟨rfl,h₃⟩
  | true=>
   exact wpAny_bind (wpAny_bind (noE (wpAny_mono h₃ (fun x s₄ h₄=>wpAny_bind (noE (wpAny_mono h₄ (fun _ s₅ h₅=>wpAny_pure (wpAny_pure ⟨rfl,h₅⟩)) fun _ _ z=>z))) fun _ _ z=>z)))
def blk(X:Cx)(s2:BA)(H2:Hp)(C:BB)(scope:Scope)(cl:List (Str×BB))(N':List Str)(fp:List BB):Cx:=
 { X with N:=N',s₀:=s2,H₀:=H2,env:=compEnvC scope cl C X.env,outer:=X.stack,ex:=fp,fn:=fun x=>scope.names.lookup x==some NameKind.cell,pn:=[],xe:=fun _ _=>False }
structure CompSc(X:Cx)(scope:Scope)(cl:List (Str×BB))(N':List Str)(pk:List (BC Nat)):Prop where
 kind:scope.kind=.function
 cell:∀ y∈scope.names,y.2=.cell->scope.names.lookup y.1=some .cell
 names:∀ y∈scope.names,y.2=.local->scope.names.lookup y.1=some .local
 clos:closureFor scope X.env=pure cl
 sub:∀ x c,cl.lookup x=some c->X.env.cells.lookup x=some c
 has:∀ x,((relabel scope X.env).names.lookup x=some .cell\/(relabel scope X.env).names.lookup x=some .free)->(x,NameKind.cell)∈scope.names\/∃ c,cl.lookup x=some c
 len:pk.length=N'.length
 take:∀ (i j:Nat) (x:Str),pk[i]?=some (some j)->N'[i]?=some x->X.N[j]?=some x/\(X.env.kindOf x=some .cell\/X.env.kindOf x=some .free)/\((relabel scope X.env).names.lookup x=some .cell\/(relabel scope X.env).names.lookup x=some .free)/\scope.names.lookup x=some .free
def pkS{α:Type}(pk:List (BC Nat))(σ:List (BC α)):List (BC α):=pk.map fun o=>o.bind fun j=>(σ[j]?).bind id
def PTs(Y:Cx)(ifs:List Expr)(t:TT):Prop:=
 ∀ (pins:List (BB×Obj)) (s:BA) (σ:L2.St) (H:Hp) (Q:Bool->Hp->Prop),Inv Y pins σ H s->t σ H Q→
  wpAny (model Y.prog Y.w) Y.A (forIn ifs true fun c r=>if r=true then do let ok <- isTrue c Y.env (eval c Y.env); pure (ForInStep.yield ok) else pure (ForInStep.yield r)) (TP Y pins σ Q) Y.xe s
def Gqr{Y:Cx}:PTs Y [] (fun _ H Q=>Q true H):=fun _ _ _ H _ I h=>wpAny_tests_nil ⟨H,I,h⟩
def Gqs{Y:Cx}{c:Expr}{t:TT}(h:PT Y c t):PTs Y [c] t:=fun pins s σ H Q I q=>wpAny_tests_one (h pins s σ H Q I q)
def Gmt(wi:TI)(pk:List (BC Nat))(g:TG)(tt:TT)(te:TE):TE:=fun σ H Q=>wi σ H fun J H1=>∀ a,H1 a=none->∃ W:Nat->Nat->L2.St->Hp->Prop,(∃ m,W 0 m (pkS pk σ) (upd H1 a (.lst [])))/\∀ i m σ' H',W i m σ' H'→
 (J.stop i H'/\Q (.ref a) H')\/(J.go i H'/\∀ x H2,J.yld i H' x H2->g x σ' H2 fun σ3 H3=>tt σ3 H3 fun b H4=>if b=true then te σ3 H4 fun v H5=>∃ xs,H5 a=some (.lst xs)/\xs.length<sizeLine/\∃ m',m'<m/\W (i+1) m' σ3 (upd H5 a (.lst (xs++[v])))
  else ∃ m',m'<m/\W (i+1) m' σ3 H4)
def Gmu{P:BD}{w:World}{H:Hp}{h h':Heap}{C:BB}(k:HOk P w H h)(hn:H C=none)(hs:Heap.SameBut C h h'):HOk P w H h':=fun b ob e=>by
 refine(k b ob e).stay (fun c w' hc q=>(hs.2 c ?_).trans q) (fun _ q=>q) fun _ _ q=>q
 rintro rfl
 rcases hc with rfl | hc
 ·rw[hn] at e; cases e
 ·rw[hn] at hc; cases hc
def Jb:∀ (names:List (Str×NameKind)) (n:Nat) (acc:List (Str×BB)),cellsFrom n names acc=cellsFrom n names []++acc
 | [],_,_=>rfl
 | (x,k)::r,n,acc=>by
  unfold cellsFrom
  by_cases hk:(k==NameKind.cell)=true
  ·rw[if_pos hk,if_pos hk,Jb r (n+1) ((x,n)::acc),Jb r (n+1) [(x,n)],AI]
   rfl
  ·rw[if_neg hk,if_neg hk,Jb r n acc]
def Vy:∀ (names:List (Str×NameKind)) (n:Nat) (x:Str) (c:BB),(x,c)∈cellsFrom n names []->(x,NameKind.cell)∈names
 | [],_,_,_,h=>by simp[cellsFrom] at h
 | (y,k)::r,n,x,c,h=>by
  unfold cellsFrom at h
  by_cases hk:(k==NameKind.cell)=true
  ·rw[if_pos hk,Jb] at h
   rcases AF.mp h with h | h
   ·exact Au _ (Vy r (n+1) x c h)
   ·have:x=y:=by simpa using(AQ.mp h▸rfl:(x,c).1=(y,n).1)
    have hk:k=.cell:=by simpa using hk
    subst this hk
    exact Aw
  ·rw[if_neg hk] at h
   exact Au _ (Vy r n x c h)
def Vk{x:Str}:∀ (a b:List (Str×BB)),(a++b).lookup x=match a.lookup x with
  | some c=>some c
  | none=>b.lookup x
 | [],_=>rfl
 | (y,c)::r,b=>by
  rw[List.cons_append,Av,Av]
  cases h:x==y with
  | true=>rfl
  | false=>exact Vk r b
def Ue:∀ (names:List (Str×NameKind)) (n:Nat) (x:Str),(x,NameKind.cell)∈names->∃ c,(cellsFrom n names []).lookup x=some c
 | [],_,_,h=>by simp at h
 | (y,k)::r,n,x,h=>by
  unfold cellsFrom
  by_cases hx:(x,NameKind.cell)∈r
  ·by_cases hk:(k==NameKind.cell)=true
   ·rw[if_pos hk,Jb,Vk]
    obtain⟨c,hc⟩:=Ue r (n+1) x hx
    rw[hc]; exact⟨c,rfl⟩
   ·rw[if_neg hk]
    exact Ue r n x hx
  ·rcases Ae.mp h with h | h
   ·cases h
    rw[if_pos (by rfl),Jb,Vk]
    cases e:(cellsFrom (n+1) r []).lookup y with
    | some c=>exact⟨c,rfl⟩
    | none=>exact⟨n,by simp[Av]⟩
   ·exact absurd h hx
def Gb3{M:Model}{A:Around}{E:Bz->BA->Prop}{s:BA}{scope:Scope}{globals:BB}{cl:List (Str×BB)}{qual:Str}{env:PySem.Env}{Q:PySem.Env->BA->Prop}
  (hQ:∀ h',h'=pushCells (s.heap.push { cls:=.type "dict",data:=.dict #[] }) scope.names→
   Q { scope:=scope,locals:=s.heap.objs.size,globals:=globals,cells:=cellsFrom (s.heap.objs.size+1) scope.names cl,qual:=qual,func:=none,code:=env.code,frame:=env.frame,builtins:=env.builtins } { s with heap:=h' }):
  wpAny M A (newFunctionEnv scope globals cl [] qual none .none (some env)) Q E s:=by
 simp only[newFunctionEnv,Option.isSome_some,if_true]
 refine wpAny_bind (wpAny_alloc ?_)
 refine wpAny_bind (wpAny_layCells _ (fun name kind cells=>by cases hkc:kind==NameKind.cell<;>simp[hkc]) _ _ _ _ ?_)
 rw[show({ s with heap:=s.heap.push { cls:=.type "dict",data:=.dict #[] } }:BA).heap.objs.size=s.heap.objs.size+1 from Bb ..]
 rw[List.forIn_nil]
 exact wpAny_bind (wpAny_pure (wpAny_pure (hQ _ rfl)))
section
variable{X:Cx}
def Gcq{elt tg iter:Expr}{ifs:List Expr}{scope:Scope}{pos:Pos}{cl:List (Str×BB)}{N':List Str}{pk:List (BC Nat)}{g:TG}{tt:TT}{te:TE}(cs:CompSc X scope cl N' pk)(hcm:X.calm=true)
  (hg:∀ cl s2 H2 C fp,PG (blk X s2 H2 C scope cl N' fp) tg g) (ht:∀ cl s2 H2 C fp,PTs (blk X s2 H2 C scope cl N' fp) ifs tt) (he:∀ cl s2 H2 C fp,PE (blk X s2 H2 C scope cl N' fp) elt te)
  {pins:List (BB×Obj)} {σ:L2.St} {H2:Hp} {s2:BA} {it:BB} {fp:List BB} {tn:Nat->Heap->Prop} {J:It} (I2:Inv X pins σ H2 s2) (T:Turn X.prog X.w X.K tg J fp it tn) (st2:tn 0 s2.heap) (f2:∀ b∈fp,Gdo X pins H2 b)
  {Q:VK} (hQ:∀ a,H2 a=none->∃ W:Nat->Nat->L2.St->Hp->Prop,(∃ m,W 0 m (pkS pk σ) (upd H2 a (.lst [])))/\∀ i m σ' H',W i m σ' H'→
   (J.stop i H'/\Q (.ref a) H')\/(J.go i H'/\∀ x H3,J.yld i H' x H3->g x σ' H3 fun σ3 H3=>tt σ3 H3 fun b H4=>if b=true then te σ3 H4 fun v H5=>∃ xs,H5 a=some (.lst xs)/\xs.length<sizeLine/\∃ m',m'<m/\W (i+1) m' σ3 (upd H5 a (.lst (xs++[v])))
    else ∃ m',m'<m/\W (i+1) m' σ3 H4)) {E:Bz->BA->Prop} {RR:Bz->BB->Result->BA->Prop}
  (hRR:∀ D C s' (H':Hp),Q (.ref D) H'->(∃ m,s'.heap.Ns C m)->Inv X pins σ H' s'->H' C=none->s2.heap.objs.size<=C->RR (.ref D) C (.ok .next) s'):
  wpAny (model X.prog X.w) X.A (newList []) (fun acc s₃=>wpAny (model X.prog X.w) X.A (newFunctionEnv scope X.env.globals cl [] X.env.qual none .none (some X.env)) (fun cenv s₄=>
   codeAny (model X.prog X.w) X.A (.compStart (.ListComp elt [⟨tg,iter,ifs,0⟩] scope pos) 0 (.ref it) acc { cenv with scope:=relabel scope X.env }) (RR acc cenv.locals) s₄) E s₃) E s2:=by
 have hD:H2 s2.heap.objs.size=none:=I2.hok.fresh (Ab _)
 obtain⟨W,⟨m0,w0⟩,turn⟩:=hQ s2.heap.objs.size hD
 refine wpAny_newObj_type (Gb3 (fun h₁ hh₁=>?_))
 dsimp only at hh₁ ⊢
 generalize hHh:s2.heap.push { cls:=.type "list",dict:=none,data:=.seq ([]:List Bz).toArray }=Hh at hh₁ ⊢
 have hC:Hh.objs.size=s2.heap.objs.size+1:=by rw[<- hHh,Bb]
 have hDC:s2.heap.objs.size≠Hh.objs.size:=by rw[hC]; exact Ax (A1 _)
 have hCle:s2.heap.objs.size<=Hh.objs.size:=by rw[hC]; exact Bn _
 have below:∀ b,b<s2.heap.objs.size->b≠Hh.objs.size/\b≠s2.heap.objs.size:=fun b hb=>⟨by rw[hC]; exact Ax (Nat.lt_succ_of_lt hb),Ax hb⟩
 have hns₁:h₁.Ns Hh.objs.size (fun _=>none):=by rw[hh₁]; exact(Heap.Ns.new Hh (.type "dict")).keeps (pushCells_keeps _ _)
 have old0:∀ b o,Hh.get? b=some o->h₁.get? b=some o:=fun b o e=>by rw[hh₁]; exact pushCells_keeps _ _ b o (Ao _ e)
 have old:∀ b o,s2.heap.get? b=some o->h₁.get? b=some o:=fun b o e=>old0 b o (by rw[<- hHh]; exact Ao _ e)
 have hacc:h₁.get? s2.heap.objs.size=some { cls:=.type "list",dict:=none,data:=.seq ([]:List Bz).toArray }:=old0 _ _ (by rw[<- hHh]; exact AD _ rfl)
 have own:=cellsFrom_ok scope.names (Hh.push { cls:=.type "dict",data:=.dict #[] }) (Hh.objs.size+1) [] ⟨fun _ _ hm=>(nomatch hm),List.Pairwise.nil⟩ (by rw[Bb]; exact Ab _)
 rw[Bb,<- hh₁] at own
 generalize hcs:cellsFrom (Hh.objs.size+1) scope.names cl=cs' at *
 have csl:∀ x c,cs'.lookup x=some c->((x,c)∈cellsFrom (Hh.objs.size+1) scope.names []/\h₁.IsCell c none/\Hh.objs.size+1<=c/\scope.names.lookup x=some .cell)\/((x,NameKind.cell)∉scope.names/\X.env.cells.lookup x=some c):=fun x c h=>by
  rw[<- hcs,Jb,Vk] at h
  cases e:(cellsFrom (Hh.objs.size+1) scope.names []).lookup x with
  | some c'=>
   rw[e] at h
   cases h
   have m:=mem_of_lookup e
   exact .inl ⟨m,(own.empty x c m).1,(own.empty x c m).2,cs.cell (x,.cell) (Vy _ _ _ _ m) rfl⟩
  | none=>
   rw[e] at h
   refine .inr ⟨fun hm=>?_,cs.sub x c h⟩
   obtain⟨c',q⟩:=Ue scope.names (Hh.objs.size+1) x hm
   rw[e] at q; cases q
 have cshas:∀ x,((relabel scope X.env).names.lookup x=some .cell\/(relabel scope X.env).names.lookup x=some .free)->∃ c,cs'.lookup x=some c:=fun x h=>by
  rw[<- hcs,Jb,Vk]
  cases e:(cellsFrom (Hh.objs.size+1) scope.names []).lookup x with
  | some c=>exact⟨c,rfl⟩
  | none=>
   rcases cs.has x h with hm | hm
   ·obtain⟨c',q⟩:=Ue scope.names (Hh.objs.size+1) x hm
    rw[e] at q; cases q
   ·exact hm
 have lts:∀ x c,X.env.cells.lookup x=some c->c<s2.heap.objs.size:=fun x c h=>by
  obtain⟨v,o,ho,hd⟩:=I2.cell x c h
  exact Ag ho
 let Y:=blk X s2 H2 Hh.objs.size scope cs' N' fp
 have fpLt:∀ b∈fp,b<s2.heap.objs.size:=fun b hb=>by
  obtain⟨o,e,_⟩:=T.obj _ _ st2 b hb
  exact Ag e
 have okY:Y.Ok:=by
  refine⟨I2.ok.mod,(by show(relabel scope X.env).kind=.function; exact cs.kind),I2.ok.glob,I2.ok.blt,hCle,fun x y c h1 h2=>?_,cshas,(fun x c z h=>by
   rcases csl x c h with⟨_,_,q,_⟩ | ⟨q,_⟩
   ·show s2.heap.objs.size<=c
    rw[hC] at q; omega
   ·have z:scope.names.lookup x=some .cell:=by simpa[Y,blk] using z
    exact absurd (mem_of_lookup z) q),I2.ok.hd,I2.ok.frames,.inl rfl,fun b hb=>⟨Ax (by rw[show Y.env.locals=Hh.objs.size from rfl,hC]; exact Nat.lt_succ_of_lt (fpLt b hb)),fun x c h=>by
   rcases csl x c h with⟨_,_,q,_⟩ | ⟨_,q⟩
   ·exact fun z=>absurd (Ai (fpLt b hb) (Aj (by rw[hC]; omega) (z▸q))) (AA _)
   ·exact(f2 b hb).2.2.2.2.1 x c q⟩,I2.bs,Aj I2.ok.bsz I2.sz,fun b o e hb=>?_,fun b hb hs=>?_,I2.stack,I2.stkFree⟩
  ·rcases csl x c h1 with⟨m1,_,q1,_⟩ | ⟨_,q1⟩<;>rcases csl y c h2 with⟨m2,_,q2,_⟩ | ⟨_,q2⟩
   ·exact name_of_addr own.apart m1 m2
   ·exact absurd (Ai (lts y c q2) (Aj (by rw[hC]; omega) q1)) (AA _)
   ·exact absurd (Ai (lts x c q1) (Aj (by rw[hC]; omega) q2)) (AA _)
   ·exact I2.ok.inj x y c q1 q2
  ·rcases(f2 b hb).2.2.2.1 with z | z
   ·exact I2.ok.noex b o e z
   ·exact absurd (Ai (Ag e) (Aj I2.ok.bsz z)) (AA _)
  ·rcases Ae.mp (I2.stkSub b hs) with z | z
   ·exact(f2 b hb).2.1 z
   ·exact(f2 b hb).2.2.1 z
 have hokY:HOk X.prog X.w (upd H2 s2.heap.objs.size (.lst [])) h₁:=I2.hok.laid old (Ab _) ⟨by decide,[],0,.nil,hacc⟩
 have IY:∀ tk,Inv Y [] (pkS pk σ) (upd H2 s2.heap.objs.size (.lst [])) { s2 with heap:=h₁,toks:=tk }:=fun tk=>by
  refine⟨okY,rfl,I2.bare,?_,⟨_,hns₁,fun i x v h1 h2 h3=>?_⟩,fun x c h=>?_,?_,fun x c h=>?_,fun p hp=>absurd (show p∈([]:List (BB×Obj)) from hp) (by simp),hokY,by show(pkS pk σ).length=N'.length; rw[<- cs.len]; simp[pkS]⟩
  ·exact Un.laid old (Ab _) hD
  ·unfold pkS at h2
   rw[As] at h2
   cases e:pk[i]? with
   | none=>rw[e] at h2; cases h2
   | some o=>
    rw[e] at h2
    cases o with
    | none=>cases h2
    | some j=>
     have h2:(σ[j]?).bind id=some v:=Ac h2
     have h2:σ[j]?=some (some v):=by
      cases z:σ[j]? with
      | none=>rw[z] at h2; cases h2
      | some q=>
       rw[z] at h2
       have h2:q=some v:=h2
       rw[h2]
     obtain⟨n1,n2,n3,n4⟩:=cs.take i j x e h1
     obtain⟨m,_,hl⟩:=I2.loc
     have vis:Vis X.env.scope x:=by
      rcases n2 with n2 | n2
      ·exact .inr (.inl n2)
      ·exact .inr (.inr n2)
     obtain⟨u,r,l⟩:=hl j x v n1 h2 vis
     refine⟨u,r,.inr ⟨n3,?_⟩⟩
     rcases l with⟨k,_⟩ | ⟨_,c,hc,⟨o,ho,hd⟩⟩
     ·rcases n2 with n2 | n2<;>rw[k] at n2<;>cases n2
     ·obtain⟨c',hc'⟩:=cshas x n3
      rcases csl x c' hc' with⟨_,_,_,q⟩ | ⟨_,e2⟩
      ·rw[n4] at q; cases q
      rw[hc] at e2
      cases e2
      exact⟨c,hc',o,old c o ho,hd⟩
  ·rcases csl x c h with⟨_,q,_,_⟩ | ⟨_,q⟩
   ·exact⟨none,q⟩
   obtain⟨v,o,ho,hd⟩:=I2.cell x c q
   exact⟨v,o,old c o ho,hd⟩
  ·show upd H2 s2.heap.objs.size (.lst []) Hh.objs.size=none
   rw[Gn (Ne.symm hDC)]
   exact I2.hok.fresh hCle
  ·rcases csl x c h with⟨_,_,z,_⟩ | ⟨_,z⟩
   ·show upd H2 s2.heap.objs.size (.lst []) c=none
    have z:s2.heap.objs.size+2<=c:=by rw[hC] at z; exact z
    rw[Gn (Bl (by omega:s2.heap.objs.size<c))]
    exact I2.hok.fresh (by omega)
   have q:=I2.freeC x c z
   obtain⟨v,o,ho,hd⟩:=I2.cell x c z
   show upd H2 s2.heap.objs.size (.lst []) c=none
   rw[Gn (below c (Ag ho)).2]
   exact q
 have stat:∀ {H':Hp},(∀ b∈fp,H' b=none)->∀ b∈fp,Gdo Y [] H' b:=fun hn b hb=>
  ⟨hn b hb,(okY.exf b hb).1,okY.exfs b hb,.inl hb,(okY.exf b hb).2,fun p hp=>absurd (show p∈([]:List (BB×Obj)) from hp) (by simp)⟩
 have fin:∀ (H':Hp) (σ':L2.St) (s':BA),Inv Y [] σ' H' s'->∀ h',Heap.SameBut Hh.objs.size s'.heap h'->Inv X pins σ H' { s' with heap:=h' }:=fun H' σ' s' I' h' hs=>by
  have sub:∀ b o,s2.heap.get? b=some o->b≠Hh.objs.size:=fun b o e=>(below b (Ag e)).1
  have un:Un (frs X.stack) fp H2 H' s2.heap s'.heap:=I'.base
  refine I2.call' (ch:=fp) I'.os ⟨fun b o e n hb hx=>(hs.2 b (sub b o e)).trans (un.keep b o e n hb hx),fun b o e n hb hx=>?_,un.free,fun b o e hx=>?_,un.tups,un.frzs,un.tbls⟩ (Gmu I'.hok I'.free hs) I'.bare fun b hb=>⟨(f2 b hb).2.2.2.1,(f2 b hb).2.1,(f2 b hb).2.2.2.2.1,(f2 b hb).2.2.2.2.2⟩
  ·obtain⟨sl,q⟩:=un.slot b o e n hb hx
   exact⟨sl,(hs.2 b (sub b o e)).trans q⟩
  ·obtain⟨o',q⟩:=un.there b o e hx
   exact⟨o',(hs.2 b (sub b o e)).trans q⟩
 have loop:∀ s3:BA,(∃ tk,s3={ s2 with heap:=h₁,toks:=tk })→
   codeAny (model X.prog X.w) X.A (.compLoop (.ListComp elt [⟨tg,iter,ifs,0⟩] scope pos) 0 (.ref it) (.ref s2.heap.objs.size) (compEnvC scope cs' Hh.objs.size X.env)) (RR (.ref s2.heap.objs.size) Hh.objs.size) s3:=by
  rintro s3 ⟨tk,rfl⟩
  refine Ge7 (fun n s'=>∃ i σ' H',Inv Y [] σ' H' s'/\tn i s'.heap/\(∀ b∈fp,H' b=none)/\W i n σ' H') ?_ m0 ⟨0,_,_,IY tk,T.keep _ _ _ st2 (fun b _ o e=>old b o e),fun b hb=>by rw[Gn (below b (fpLt b hb)).2]; exact(f2 b hb).1,w0⟩
  rintro n s4 ⟨i,σ4,H4,I4,st4,fr4,w4⟩
  rcases turn i n σ4 H4 w4 with⟨stop,qn⟩ | ⟨go,step⟩
  ·refine wpAny_mono (T.done Y rfl rfl rfl hcm i [] s4 σ4 H4 (fun _ _=>False) I4 (stat fr4) st4 stop) (fun r s5 ⟨hr,I5⟩=>?_) fun _ _ z=>z
   subst hr
   obtain⟨m,hn,_⟩:=I5.loc
   exact hRR _ _ s5 H4 qn ⟨m,hn⟩ (fin H4 σ4 s5 I5 s5.heap (.refl ..)) I5.free hCle
  ·refine wpAny_mono (T.item Y rfl rfl rfl hcm i [] s4 σ4 H4 (fun _ _=>False) I4 (stat fr4) st4 go) (fun r s5 ⟨u,hr,h5⟩=>?_) fun _ _ z=>z
   subst hr
   refine wpAny_mono h5 (fun _ s6 ⟨x,H6,I6,r6,y6,st6,fr6⟩=>?_) fun _ _ z=>z
   have I6':=I6.pinned (stat fr6) (T.obj _ _ st6)
   refine wpAny_mono (hg cs' s2 H2 Hh.objs.size fp _ s6 σ4 H6 x u _ I6' r6 (step x H6 y6)) (fun _ s7 ⟨σ7,H7,I7,q7⟩=>?_) fun _ _ z=>z
   refine wpAny_mono (ht cs' s2 H2 Hh.objs.size fp _ s7 σ7 H7 _ I7 q7) (fun ok s8 ⟨H8,I8,q8⟩=>?_) fun _ _ z=>z
   have back:∀ {σ9:L2.St} {H9:Hp} {s9:BA},Inv Y ([]++Gck fp s6.heap) σ9 H9 s9->Inv Y [] σ9 H9 s9/\tn (i+1) s9.heap/\∀ b∈fp,H9 b=none:=fun{σ9 H9 s9} I9=>
    ⟨I9.unpinned,T.keep _ _ _ st6 fun b hb o e=>(I9.pin (b,o) (AM _ (AM _ (Xa hb e)))).1,fun b hb=>by
     obtain⟨o,e,d⟩:=T.obj _ _ st6 b hb
     exact(I9.pin (b,o) (AM _ (AM _ (Xa hb e)))).2.1⟩
   cases ok with
   | false=>
    obtain⟨m',hm,w'⟩:=(if_neg An).mp q8
    obtain⟨b1,b2,b3⟩:=back I8
    exact(if_neg An).mpr ⟨m',hm,i+1,σ7,H8,b1,b2,b3,w'⟩
   | true=>
    refine(if_pos rfl).mpr ?_
    refine wpAny_mono (he cs' s2 H2 Hh.objs.size fp _ s8 σ7 H8 _ I8 ((if_pos rfl).mp q8)) (fun ux s9 ⟨v,H9,I9,r9,xs,ex,hx,m',hm,w'⟩=>?_) fun _ _ z=>z
    refine wpAny_mono (Gef (X:=Y) _ s9 σ7 H9 (.ref s2.heap.objs.size) [v] (.ref s2.heap.objs.size) [ux] (fun _ H'=>H'=upd H9 s2.heap.objs.size (.lst (xs++[v]))) I9 rfl (.cons r9 .nil) ⟨_,xs,v,rfl,rfl,ex,hx,rfl⟩) (fun _ s10 ⟨_,H10,I10,_,e10⟩=>?_) fun _ _ z=>z
    subst e10
    obtain⟨b1,b2,b3⟩:=back I10
    exact⟨m',hm,i+1,σ7,_,b1,b2,b3,w'⟩
 exact codeAny_compStart_list (loop _ ⟨_,rfl⟩) (T.self _ 0 _ _ _ (T.keep _ _ _ st2 fun b _ o e=>old b o e) (loop _ ⟨_,rfl⟩))
def Gja{pins:List (BB×Obj)}{σ σ2:L2.St}{H2 H':Hp}{s2 s':BA}{C:BB}{h':Heap}(I2:Inv X pins σ2 H2 s2)(I:Inv X pins σ H' s')(hn:H' C=none)(hC:s2.heap.objs.size<=C)(hs:Heap.SameBut C s'.heap h'):Inv X pins σ H' { s' with heap:=h' }:=by
 refine I.turned (t':=s'.toks) (it:=C) (fun b o hb e=>(hs.2 b hb).trans e) hn (fun z=>?_) (.inr (Aj I2.sz hC)) (fun x c h z=>?_) fun p hp z=>?_
 ·exact absurd (Ai I2.lt (by rw[<- z]; exact hC)) (AA _)
 ·obtain⟨v,q⟩:=I2.cell x c h
  exact absurd (Ai q.lt (by rw[z]; exact hC)) (AA _)
 ·exact absurd (Ai (Ag (I2.pin p hp).1) (by rw[z]; exact hC)) (AA _)
def Zm{env:PySem.Env}:∀ (names:List (Str×NameKind)) (acc:List (Str×BB)),(∀ x∈names,x.2=.free->∃ c,env.cells.lookup x.1=some c)->(∀ x c,acc.lookup x=some c->env.cells.lookup x=some c)→
  ∃ cl,(forIn names acc fun x cs=>(if(x.2==NameKind.free)=true then do let c <- cellOf env x.1; pure (ForInStep.yield ((x.1,c)::cs)) else pure (ForInStep.yield cs):Sem _))=pure cl/\(∀ x c,cl.lookup x=some c->env.cells.lookup x=some c)∧
   (∀ x,(∃ c,acc.lookup x=some c)\/(x,NameKind.free)∈names->∃ c,cl.lookup x=some c)
 | [],acc,_,ha=>⟨acc,rfl,ha,fun x h=>by
   rcases h with h | h
   ·exact h
   ·simp at h⟩
 | (n,k)::r,acc,hn,ha=>by
  have hr:∀ x∈r,x.2=.free->∃ c,env.cells.lookup x.1=some c:=fun x hx=>hn x (Au _ hx)
  by_cases hk:k=.free
  ·subst hk
   obtain⟨c,hc⟩:=hn (n,.free) Aw rfl
   obtain⟨cl,e,h1,h2⟩:=Zm r ((n,c)::acc) hr (fun x c' h=>by
    rw[Av] at h
    by_cases hx:(x==n)=true
    ·rw[hx] at h
     cases h
     have:x=n:=by simpa using hx
     rw[this]; exact hc
    ·have hx:(x==n)=false:=by simpa using hx
     rw[hx] at h
     exact ha x c' h)
   refine⟨cl,?_,h1,fun x h=>h2 x ?_⟩
   ·rw[List.forIn_cons]
    simp only[beq_self_eq_true,if_true]
    have q:cellOf env n=pure c:=by unfold cellOf; rw[hc]
    rw[q]
    exact e
   ·rcases h with⟨c',h⟩ | h
    ·left
     rw[Av]
     by_cases hx:(x==n)=true
     ·rw[hx]; exact⟨c,rfl⟩
     ·have hx:(x==n)=false:=by simpa using hx
      rw[hx]; exact⟨c',h⟩
    ·rcases Ae.mp h with h | h
     ·left
      cases h
      exact⟨c,by rw[Av,beq_self_eq_true]⟩
     ·exact .inr h
  ·have hb:(k==NameKind.free)=false:=by simpa using hk
   obtain⟨cl,e,h1,h2⟩:=Zm r acc hr ha
   refine⟨cl,?_,h1,fun x h=>h2 x ?_⟩
   ·rw[List.forIn_cons]
    simp only[hb,Ay,if_false]
    exact e
   ·rcases h with h | h
    ·exact .inl h
    ·rcases Ae.mp h with h | h
     ·cases h; exact absurd rfl hk
     ·exact .inr h
def Gh1{env:PySem.Env}{scope:Scope}(hn:∀ x∈scope.names,x.2=.free->∃ c,env.cells.lookup x.1=some c):∃ cl,closureFor scope env=pure cl/\(∀ x c,cl.lookup x=some c->env.cells.lookup x=some c)/\(∀ x,(x,NameKind.free)∈scope.names->∃ c,cl.lookup x=some c):=by
 obtain⟨cl,e,h1,h2⟩:=Zm (env:=env) scope.names [] hn (fun x c h=>by simp at h)
 refine⟨cl,?_,h1,fun x h=>h2 x (.inr h)⟩
 unfold closureFor
 have e2:(forIn scope.names ([]:List (Str×BB)) fun x r=>(match x with
   | (name,kind)=>if(kind==NameKind.free)=true then do let c <- cellOf env name; pure (ForInStep.yield ((name,c)::r)) else pure (ForInStep.yield r):Sem _))=pure cl:=e
 first
  | exact congrArg (fun m=>m >>= fun cs=>pure cs) e2
  | (show(do let cs <- forIn scope.names ([]:List (Str×BB)) fun x r=>_; pure cs)=_; rw[e2]; rfl)
structure CompTab(sc scope:Scope)(N N':List Str)(pk:List (BC Nat)):Prop where
 kind:scope.kind=.function
 cell:∀ y∈scope.names,y.2=.cell->scope.names.lookup y.1=some .cell
 names:∀ y∈scope.names,y.2=.local->scope.names.lookup y.1=some .local
 free:∀ y∈scope.names,y.2=.free->sc.names.lookup y.1=some .cell\/sc.names.lookup y.1=some .free
 len:pk.length=N'.length
 take:((List.range N'.length).all fun i=>match pk[i]? with
  | some (some j)=>match N[j]?,N'[i]? with
   | some x,some y=>(x==y)&&((sc.names.lookup y==some NameKind.cell)||(sc.names.lookup y==some NameKind.free))&&(scope.names.lookup y==some NameKind.free)
   | _,_=>false
  | _=>true)=true
def Xz{scope:Scope}{env:PySem.Env}{x:Str}:∀ (names:List (Str×NameKind)),((names.map fun(n,k)=>if(k==NameKind.free&&env.scope.kind==.function&&env.kindOf n==some .cell)=true then(n,NameKind.cell) else(n,k)).lookup x=some .cell∨
   (names.map fun(n,k)=>if(k==NameKind.free&&env.scope.kind==.function&&env.kindOf n==some .cell)=true then(n,NameKind.cell) else(n,k)).lookup x=some .free)->(x,NameKind.cell)∈names\/(x,NameKind.free)∈names
 | [],h=>by simp at h
 | (n,k)::r,h=>by
  rw[At] at h
  by_cases hx:(x==n)=true
  ·have e:x=n:=by simpa using hx
   subst e
   by_cases hq:(k==NameKind.free&&env.scope.kind==.function&&env.kindOf x==some .cell)=true
   ·have:k=.free:=by
     rw[Aq,Aq] at hq
     simpa using hq.1.1
    subst this
    exact .inr Aw
   ·simp only[hq,Ay,if_false,Av,beq_self_eq_true] at h
    rcases h with h | h
    ·have:k=.cell:=by simpa using h
     subst this
     exact .inl Aw
    ·have:k=.free:=by simpa using h
     subst this
     exact .inr Aw
  ·have hx:(x==n)=false:=by simpa using hx
   refine(Xz (scope:=scope) (env:=env) r ?_).imp (Au _) (Au _)
   by_cases hq:(k==NameKind.free&&env.scope.kind==.function&&env.kindOf n==some .cell)=true
   ·simpa only[hq,if_true,Av,hx] using h
   ·simpa only[hq,Ay,if_false,Av,hx] using h
def Kz{scope:Scope}{env:PySem.Env}{x:Str}:∀ (names:List (Str×NameKind)),names.lookup x=some .free->((names.map fun(n,k)=>if(k==NameKind.free&&env.scope.kind==.function&&env.kindOf n==some .cell)=true then(n,NameKind.cell) else(n,k)).lookup x=some .cell∨
   (names.map fun(n,k)=>if(k==NameKind.free&&env.scope.kind==.function&&env.kindOf n==some .cell)=true then(n,NameKind.cell) else(n,k)).lookup x=some .free)
 | [],h=>by simp at h
 | (n,k)::r,h=>by
  rw[At]
  by_cases hx:(x==n)=true
  ·rw[Av,hx] at h
   have:k=.free:=by simpa using h
   subst this
   by_cases hq:(NameKind.free==NameKind.free&&env.scope.kind==.function&&env.kindOf n==some .cell)=true
   ·left; simp only[hq,if_true,Av,hx]
   ·right; simp only[hq,Ay,if_false,Av,hx]
  ·have hx:(x==n)=false:=by simpa using hx
   rw[Av,hx] at h
   have:=Kz (scope:=scope) (env:=env) r h
   by_cases hq:(k==NameKind.free&&env.scope.kind==.function&&env.kindOf n==some .cell)=true
   ·simpa only[hq,if_true,Av,hx] using this
   ·simpa only[hq,Ay,if_false,Av,hx] using this
def CompTab.sc{scope:Scope}{N':List Str}{pk:List (BC Nat)}(t:CompTab X.env.scope scope X.N N' pk)(ok:X.Ok):∃ cl,CompSc X scope cl N' pk:=by
 obtain⟨cl,e,h1,h2⟩:=Gh1 (env:=X.env) (scope:=scope) fun x hx hf=>ok.has x.1 (t.free x hx hf)
 refine⟨cl,t.kind,t.cell,t.names,e,h1,fun x h=>(Xz (scope:=scope) (env:=X.env) scope.names h).imp id (h2 x),t.len,fun i j x hp hn=>?_⟩
 have hi:i<N'.length:=(Aa.mp hn).1
 have q:=AJ.mp t.take i (Bi.mpr hi)
 simp only[hp,hn] at q
 cases hj:X.N[j]? with
 | none=>simp[hj] at q
 | some y=>
  simp only[hj,Aq,Bool.or_eq_true,beq_iff_eq] at q
  obtain⟨⟨e1,e2⟩,e3⟩:=q
  subst e1
  exact⟨rfl,e2,Kz (scope:=scope) (env:=X.env) scope.names e3,e3⟩
def Gqt{elt tg iter:Expr}{ifs:List Expr}{scope:Scope}{pos:Pos}{N':List Str}{pk:List (BC Nat)}{wi:TI}{g:TG}{tt:TT}{te:TE}(ct:CompTab X.env.scope scope X.N N' pk)(hcm:X.calm=true)(hi:PI X tg iter wi)
  (hg:∀ cl s2 H2 C fp,PG (blk X s2 H2 C scope cl N' fp) tg g) (ht:∀ cl s2 H2 C fp,PTs (blk X s2 H2 C scope cl N' fp) ifs tt) (he:∀ cl s2 H2 C fp,PE (blk X s2 H2 C scope cl N' fp) elt te)
  (hs:∀ x,foldedSetIterable iter X.env x=pure x:=by intro _; rfl):PE X (.ListComp elt [⟨tg,iter,ifs,0⟩] scope pos) (Gmt wi pk g tt te):=by
 intro pins s σ H Q I h
 obtain⟨cl,cs⟩:=ct.sc I.ok
 rw[eval_ListComp]
 refine wpAny_comprehension_free (use:=none) rfl hs cs.clos cs.kind cs.names (thn (hi pins s σ H _ I h) fun x s1 h1=>thn h1 fun itv s2 h2=>?_)
 obtain⟨it,fp,tn,J,H2,e,I2,T,st2,f2,hQ⟩:=h2
 subst e
 refine Gcq cs hcm hg ht he I2 T st2 f2 hQ (RR:=fun acc C=>compPost (model X.prog X.w) X.A X.xe none (EP X pins σ Q) acc C) fun D C s' H' q hn inv hf hC=>?_
 obtain⟨m,hn⟩:=hn
 exact⟨m,hn,fun h' hs'=>⟨.ref D,H',Gja I2 inv hf hC hs',rfl,q⟩⟩
def Gh2{i:Nat}{y:Str}{py spos:Pos}{elt tg iter:Expr}{ifs:List Expr}{scope:Scope}{pos:Pos}{N':List Str}{pk:List (BC Nat)}{wi:TI}{g:TG}{tt:TT}{te:TE}(ct:CompTab X.env.scope scope X.N N' pk)(hcm:X.calm=true)(hi:PI X tg iter wi)
  (hg:∀ cl s2 H2 C fp,PG (blk X s2 H2 C scope cl N' fp) tg g) (ht:∀ cl s2 H2 C fp,PTs (blk X s2 H2 C scope cl N' fp) ifs tt) (he:∀ cl s2 H2 C fp,PE (blk X s2 H2 C scope cl N' fp) elt te)
  (hN:X.N.Nodup) (hy:X.N[i]?=some y) (hx:Loc X.env.scope y) (hsw:swapsWith (.ListComp elt [⟨tg,iter,ifs,0⟩] scope pos) (some (.Name y py)) spos.line X.env=pure true)
  (hs:∀ x,foldedSetIterable iter X.env x=pure x:=by intro _; rfl) (hf:X.fn y=true\/X.env.scope.names.lookup y=some .local:=by first | exact .inl rfl | exact .inr rfl | assumption):
  PS X (.Assign [.Name y py] (.ListComp elt [⟨tg,iter,ifs,0⟩] scope pos) spos) (Gp4 (Gmt wi pk g tt te) (gName i)):=by
 intro pins s σ H E I h
 obtain⟨cl,cs⟩:=ct.sc I.ok
 rw[exec_Assign_Name_used _ _ _ _ hsw]
 refine wpAny_bind (wpAny_standAt (wpAny_bind ?_))
 show wpAny _ X.A (do let _ <- comprehension (.ListComp elt [⟨tg,iter,ifs,0⟩] scope pos) scope X.env _ (newList []) false (eval iter X.env) (some (assign (.Name y py) X.env))) _ _ s
 refine wpAny_bind (wpAny_mono (wpAny_comprehension_free (use:=some (assign (.Name y py) X.env)) (Q:=fun _ s'=>SP X pins E .next s') rfl hs cs.clos cs.kind cs.names
  (thn (hi pins s σ H _ I h) fun x s1 h1=>thn h1 fun itv s2 h2=>?_)) (fun _ s' hq=>wpAny_pure (wpAny_pure hq)) fun _ _ e=>e)
 obtain⟨it,fp,tn,J,H2,e,I2,T,st2,f2,hQ⟩:=h2
 subst e
 refine Gcq cs hcm hg ht he I2 T st2 f2 (Q:=fun x H1=>gName i x σ H1 E.nx) hQ (RR:=fun acc C=>compPost (model X.prog X.w) X.A X.xe (some (assign (.Name y py) X.env)) (fun _ s'=>SP X pins E .next s') acc C) fun D C s' H' q hn inv hfr hC=>?_
 obtain⟨m,hn⟩:=hn
 show wpAny _ X.A (assign (.Name y py) X.env (.ref D)) _ _ _
 refine wpAny_assign_Name (Gea inv hN hy hx (v:=.ref D) rfl (fun s'' I'' hch=>?_) hf)
 obtain⟨a,hsb,ha⟩:=hch
 have hCa:C≠a:=by
  rcases ha with ha | ha
  ·rintro rfl
   exact absurd (Ai I2.lt (by rw[<- ha]; exact hC)) (AA _)
  ·rintro rfl
   obtain⟨v,z⟩:=I2.cell y _ ha
   exact absurd (Ai z.lt hC) (AA _)
 exact⟨m,hn.sameBut hsb hCa,fun h' hs'=>⟨_,H',Gja I2 I'' hfr hC hs',q⟩⟩
abbrev XN:XW:=fun _ _ _ _ _ _=>False
def cbody(a:Nat)(t:Ev Bool)(e:Ev D):Sv:=fun ρ S=>bindS (t ρ S) ρ fun b S1=>if b=true then bindS (e ρ S1) ρ fun d S2=>(match S2[a]? with
  | some c=>if c.fz=false/\c.xs.length<1000000 then .nx ρ (S2.set a ⟨false,c.xs++[d]⟩) else .bad
  | none=>.bad) else .nx ρ S1
def cmp(f:Ev Src)(pk:List (BC Nat))(g:Tg)(t:Ev Bool)(e:Ev D):Ev D:=fun ρ S=>(f ρ S).bind fun src S1=>match Kb src.nxt g (cbody S1.length t e) src.fuel 0 (pkS pk ρ) (S1++[⟨false,[]⟩]) with
 | .nx _ S'=>.ok (.lst S1.length) S'
 | _=>.bad
def Gbp(K:By)(XQ:XW)(σ:L2.St)(ρ:Lc)(a:Nat)(mp:List BB)(H:Hp)(o:OS)(Q:VK):Prop:=match o with
 | .nx _ S=>Post K XQ σ ρ mp H (.ok (.lst a) S) Q
 | _=>False
def Gbp.aft{K:By}{XQ:XW}{σ:L2.St}{ρ:Lc}{a:Nat}{mp mp':List BB}{H H':Hp}{o:OS}{Q:VK}(p:Gbp K XQ σ ρ a mp H o Q)(af:Aft K mp H mp' H'):Gbp K XQ σ ρ a mp' H' o Q:=by
 cases o with
 | nx r S=>exact Gj.aft (show Post K XQ σ ρ mp H (.ok (.lst a) S) Q from p) af
 | _=>exact p
def Gd.pick{K:By}{mp:List BB}{H:Hp}{σ:L2.St}{ρ:Lc}{S:Sto}(G:Gd K mp H σ ρ S)(pk:List (BC Nat)):Gd K mp H (pkS pk σ) (pkS pk ρ) S:=by
 refine⟨G.rs,by simp[pkS],fun i d h=>?_⟩
 unfold pkS at h ⊢
 rw[As] at h ⊢
 cases e:pk[i]? with
 | none=>rw[e] at h; cases h
 | some o=>
  rw[e] at h
  cases o with
  | none=>cases h
  | some j=>
   have h:(ρ[j]?).bind id=some d:=Ac h
   have h:ρ[j]?=some (some d):=by
    cases z:ρ[j]? with
    | none=>rw[z] at h; cases h
    | some q=>
     rw[z] at h
     have h:q=some d:=h
     rw[h]
   obtain⟨v,e1,r⟩:=G.loc j d h
   refine⟨v,?_,r⟩
   show some ((σ[j]?).bind id)=some (some v)
   rw[e1]
   rfl
def JTs(Y:Cx)(XQ:XW)(ifs:List Expr)(t:Ev Bool):Prop:=PTs Y ifs (rdT Y.K XQ t)
noncomputable def ttrue:Ev Bool:=fun _ S=>.ok true S
def Gqu{Y:Cx}{XQ:XW}:JTs Y XQ [] ttrue:=fun pins s σ H Q I ⟨mp,ρ,S,G,p⟩=>Gqr pins s σ H Q I (Gj.ok (show Gj Y.K kB XQ σ ρ mp H (.ok true S) Q from p) G.rs rfl)
def Gqv{Y:Cx}{XQ:XW}{c:Expr}{t:Ev Bool}(h:JT Y XQ c t):JTs Y XQ [c] t:=Gqs h
def Gtl{K:By}{XQ:XW}{f:Ev Src}{pk:List (BC Nat)}{g:Tg}{t:Ev Bool}{e:Ev D}(σ:L2.St)(H:Hp)(Q:VK)(h:rdE K XQ (cmp f pk g t e) σ H Q):Gmt (rdI K XQ f) pk (Gmn K g) (rdT K XN t) (rdE K XN e) σ H Q:=by
 obtain⟨mp,ρ,S,G,p⟩:=h
 refine bindP G p fun mp1 H1 src S1 J a1 G1 j1 p1=>?_
 intro a ha
 obtain⟨af,rs,la⟩:=G1.rs.newL ha (RepL.nil:RepL K mp1 H1 [] [])
 have p1:Gbp K XQ σ ρ S1.length (mp1++[a]) (upd H1 a (.lst [])) (Kb src.nxt g (cbody S1.length t e) src.fuel 0 (pkS pk ρ) (S1++[⟨false,[]⟩])) Q:=by
  cases z:Kb src.nxt g (cbody S1.length t e) src.fuel 0 (pkS pk ρ) (S1++[⟨false,[]⟩]) with
  | nx r S'=>rw[z] at p1; exact Gj.aft p1 af
  | rt d S'=>rw[z] at p1; exact p1
  | bk r S'=>rw[z] at p1; exact p1
  | ct r S'=>rw[z] at p1; exact p1
  | exc x r S'=>rw[z] at p1; exact p1
  | bad=>rw[z] at p1; exact p1
 refine⟨fun i m σ' H'=>∃ mp' ρ' S',Aft K mp1 H1 mp' H'/\Gd K mp' H' σ' ρ' S'/\(mp'[S1.length]?=some a/\¬ Dcy H' a)/\Gbp K XQ σ ρ S1.length mp' H' (Kb src.nxt g (cbody S1.length t e) m i ρ' S') Q,⟨src.fuel,_,_,_,af,(G1.pick pk).aft af rs,⟨la,Gh0 Hj⟩,p1⟩,?_⟩
 rintro i m σ' H' ⟨mp',ρ',S',a',G',⟨la',nd'⟩,p'⟩
 cases m with
 | zero=>exact(show False from p').elim
 | succ n=>
  have j:=j1 mp' H' S' a' G'.rs i
  unfold Kb at p'
  cases z:src.nxt i S' with
  | none=>
   rw[z] at j p'
   exact .inl ⟨j,Gj.ok (show Post K XQ σ ρ mp' H' (.ok (.lst S1.length) S') Q from p') G'.rs ⟨a,rfl,la',nd'⟩⟩
  | some d=>
   rw[z] at j p'
   obtain⟨j1,j2⟩:=j
   refine .inr ⟨j1,fun x H2 y=>?_⟩
   obtain⟨a2,r2,x2⟩:=j2 x H2 y
   have nd2:=a2.ndc _ _ la' nd'
   have G2:=G'.aft a2 r2
   cases zg:g d ρ' with
   | none=>simp only[zg] at p'; exact p'.elim
   | some ρ1=>
    simp only[zg] at p'
    refine⟨mp',ρ',S',d,ρ1,G2,x2,zg,fun σ3 G3=>⟨mp',ρ1,S',G3,?_⟩⟩
    have p2:=Gbp.aft p' a2
    unfold cbody at p2
    cases zt:t ρ1 S' with
    | exc x S2=>simp only[zt,bindS] at p2; exact p2.elim
    | bad=>simp only[zt,bindS] at p2; exact p2.elim
    | ok b S2=>
     simp only[zt,bindS] at p2
     intro mp3 H3 b' a3 rs3 e3
     cases (show b'=b from e3)
     have G4:=G3.aft a3 rs3
     cases b with
     | false=>
      simp only[Ay,if_false] at p2
      exact(if_neg An).mpr ⟨n,A1 n,mp3,ρ1,S2,(a'.trans a2).trans a3,G4,⟨a3.pre _ _ la',a3.ndc _ _ la' nd2⟩,Gbp.aft p2 a3⟩
     | true=>
      simp only[if_true] at p2
      refine(if_pos rfl).mpr ⟨mp3,ρ1,S2,G4,?_⟩
      cases ze:e ρ1 S2 with
      | exc x S3=>simp only[ze] at p2; exact p2.elim
      | bad=>simp only[ze] at p2; exact p2.elim
      | ok d2 S3=>
       simp only[ze] at p2
       intro mp4 H4 v a4 rs4 r4
       have la4:=a4.pre _ _ (a3.pre _ _ la')
       have nd4:=a4.ndc _ _ (a3.pre _ _ la') (a3.ndc _ _ la' nd2)
       have G5:=G4.aft a4 rs4
       cases zc:S3[S1.length]? with
       | none=>simp only[zc] at p2; exact p2.elim
       | some c=>
        simp only[zc] at p2
        by_cases hc:c.fz=false/\c.xs.length<1000000
        ·rw[if_pos hc] at p2
         obtain⟨a5,xs,e5,h5,s5,r5,f5⟩:=rs4.items (v:=.ref a) ⟨a,rfl,la4,nd4⟩ zc
         cases e5
         have h5:=f5 hc.1
         obtain⟨af6,rs6⟩:=rs4.setL la4 zc hc.1 h5 (RepL.append r5 (RepL.cons r4 RepL.nil))
         refine⟨xs,h5,?_,n,A1 n,mp4,ρ1,_,(((a'.trans a2).trans a3).trans a4).trans af6,G5.aft af6 rs6,⟨la4,Gh0 Hj⟩,Gbp.aft p2 ((a3.trans a4).trans af6)⟩
         rw[r5.len]
         exact Ai hc.2 (by decide)
        ·rw[if_neg hc] at p2; exact p2.elim
variable{XQ:XW}
def Gqw{elt tg iter:Expr}{ifs:List Expr}{scope:Scope}{pos:Pos}{N':List Str}{pk:List (BC Nat)}{f:Ev Src}{g:Tg}{t:Ev Bool}{e:Ev D}(ct:CompTab X.env.scope scope X.N N' pk)(hcm:X.calm=true)(hi:JI X XQ tg iter f)
  (hg:∀ cl s2 H2 C fp,JG (blk X s2 H2 C scope cl N' fp) tg g) (ht:∀ cl s2 H2 C fp,JTs (blk X s2 H2 C scope cl N' fp) XN ifs t) (he:∀ cl s2 H2 C fp,JE (blk X s2 H2 C scope cl N' fp) XN elt e)
  (hs:∀ x,foldedSetIterable iter X.env x=pure x:=by intro _; rfl):JE X XQ (.ListComp elt [⟨tg,iter,ifs,0⟩] scope pos) (cmp f pk g t e):=
 PE.mono (Gqt (g:=Gmn X.K g) (tt:=rdT X.K XN t) (te:=rdE X.K XN e) ct hcm hi hg ht he hs) Gtl
def Gh3(i:Nat){y:Str}{py spos:Pos}{elt tg iter:Expr}{ifs:List Expr}{scope:Scope}{pos:Pos}{N':List Str}{pk:List (BC Nat)}{f:Ev Src}{g:Tg}{t:Ev Bool}{e:Ev D}(ct:CompTab X.env.scope scope X.N N' pk)(hcm:X.calm=true)(hi:JI X XQ tg iter f)
  (hg:∀ cl s2 H2 C fp,JG (blk X s2 H2 C scope cl N' fp) tg g) (ht:∀ cl s2 H2 C fp,JTs (blk X s2 H2 C scope cl N' fp) XN ifs t) (he:∀ cl s2 H2 C fp,JE (blk X s2 H2 C scope cl N' fp) XN elt e)
  (hN:X.N.Nodup) (hy:X.N[i]?=some y:=by rfl) (hx:Loc X.env.scope y:=by first | exact Or.inl rfl | exact Or.inr rfl) (hsw:swapsWith (.ListComp elt [⟨tg,iter,ifs,0⟩] scope pos) (some (.Name y py)) spos.line X.env=pure true:=by rfl)
  (hs:∀ x,foldedSetIterable iter X.env x=pure x:=by intro _; rfl) (hf:X.fn y=true\/X.env.scope.names.lookup y=some .local:=by first | exact .inl rfl | exact .inr rfl | assumption):
  JS X XQ (.Assign [.Name y py] (.ListComp elt [⟨tg,iter,ifs,0⟩] scope pos) spos) (sa (cmp f pk g t e) (gn i)):=by
 refine PS.mono (Gh2 (g:=Gmn X.K g) (tt:=rdT X.K XN t) (te:=rdE X.K XN e) ct hcm hi hg ht he hN hy hx hsw hs hf) fun E σ H ⟨mp,ρ,S,G,p⟩=>Gtl σ H _ ?_
 exact bindSP G p fun mp1 H1 d S1 v a1 G1 r1 p1=>PostS.nx p1 (G1.set i r1)
end
def Glc:fillsNumberSlot (.type "tuple") "mul"=pure false:=
 PySem.fillsNumberSlot_seq (id:="tuple.__mul__") (r:=some (.builtin "tuple.__rmul__")) F.slot_tuple_mul.lookup (by decide +kernel) F.slot_tuple_rmul.lookup (by decide +kernel)
def Gh4:seqRepeat? (.type "tuple")=pure (some (.builtin "tuple.__mul__")):=by
 unfold seqRepeat?
 rw[PySem.seqSlot_of (T:="tuple") (name:="__mul__") (id:="tuple.__mul__") F.slot_tuple_mul.lookup (by decide +kernel),PySem.seqSlot_of (T:="tuple") (name:="__rmul__") (id:="tuple.__rmul__") F.slot_tuple_rmul.lookup (by decide +kernel)]
 rfl
def Gwc(x:Int)(t:Tok)(l:BB)(xs:Array Bz)(n:Nat)(d:BC BB)(sl:Array (BC Bz)):
  Meets (Builtin.«int.__rmul__» ⟨[.int x t,.ref l],[]⟩) (fun _ R s=>s.heap.get? l=some { cls:=.type "tuple",dict:=d,data:=.seq xs n,slots:=sl }/\R (.ok (.ret Value.notImplemented)) s):=
 .of_wp fun prog w A R s h=>by obtain⟨hp,g,d,tk,os⟩:=s; obtain⟨hl,h⟩:=h; wp_walk; exact⟨_,rfl,h⟩
def Gwd(x:Int)(t:Tok)(l:BB)(xs:Array Bz)(n:Nat)(d:BC BB)(sl:Array (BC Bz))(c0:¬ (decide (x < -2^63)||decide (x≥2^63))=true)(c1:¬ (xs.isEmpty||x==1)=true)(c2:¬ (decide (x<=0)||xs.isEmpty)=true)(c3:¬ (xs.size:Int)*x>(2^63-1) / 8)(c4:¬ Builtin.Tuple.tupleTooMany ((xs.size:Int)*x)=true)(c5:(List.foldl (fun x1 x2=>x1++x2) #[] (List.replicate x.toNat xs)).size<=sizeLine):
  Meets (Builtin.«tuple.__mul__» ⟨[.ref l,.int x t],[]⟩) (fun _ R s=>s.heap.get? l=some { cls:=.type "tuple",dict:=d,data:=.seq xs n,slots:=sl }/\R (.ok (.ret (Value.ref s.heap.objs.size))) { s with heap:=s.heap.push { cls:=Value.type "tuple",data:=Data.seq (List.foldl (fun x1 x2=>x1++x2) #[] (List.replicate x.toNat xs)) },toks:=s.toks }):=
 .of_wp fun prog w A R s h=>by
  obtain⟨hp,g,d,tk,os⟩:=s; obtain⟨hl,h⟩:=h
  wp_walk
  refine wpAny_ite_false (decide_eq_false c0) ?_
  wp_walk using wpAny_loadPart' hl
  refine wpAny_ite_false (decide_eq_false c3) ?_
  wp_walk
  exact⟨_,rfl,h⟩
section
variable{X:Cx}
def Gtm(K:By):R2:=fun x y H Q=>∃ a k xs,x=.ref a/\y=.int k/\SqT K H a xs/\xs≠[]/\2<=k/\k<=1000000/\xs.length*k.toNat<=sizeLine/\∀ p,H p=none->Q (.ref p) (upd H p (.tup (List.replicate k.toNat xs).flatten))
def Gqx:OpR X (binaryOp .Mult) (Gtm X.K):=by
 intro pins s σ H x y v u Q I rx ry ⟨a,k,xs,e1,e2,ha,hne,k2,k3,hz,q⟩
 subst e1 e2
 cases rx
 obtain⟨t,rfl⟩:=ry
 obtain⟨its,r1,p1,_⟩:=I.tuple ha
 obtain⟨⟨cls,dd,data,sl⟩,ho,hc,n,hd⟩:=id p1
 simp only at hc hd
 subst hc hd
 have hl:xs.length=its.length:=r1.length
 have hne':its≠[]:=fun z=>hne (r1.nil_iff.mp z)
 have hie:its.toArray.isEmpty=false:=by
  cases its with
  | nil=>exact absurd rfl hne'
  | cons _ _=>rfl
 have hnew:List.foldl (fun x1 x2=>x1++x2) #[] (List.replicate k.toNat its.toArray)=(List.replicate k.toNat its).flatten.toArray:=by
  have:=Ga3 its k.toNat []
  rw[List.nil_append] at this
  exact this
 have hsz:(its.toArray.size:Int)*k<=(sizeLine:Int):=by
  rw[Ak,<- hl]
  have h1:((xs.length*k.toNat:Nat):Int)<=(sizeLine:Int):=by exact_mod_cast hz
  rw[Int.natCast_mul,Int.toNat_of_nonneg (by omega)] at h1
  exact h1
 have hsl:(sizeLine:Int)<=(2^63-1) / 8:=by decide
 refine wpAny_binaryOp_repeat_ref (T:="tuple") (U:="int") (by decide) ⟨_,ho,rfl⟩ (fun s'=>typeIs_int s' k t) Glc F.fills_int_mul F.slot_int_rmul Gh4 F.slot_int_index.lookup
  (call_meets F.slot_int_rmul (typeIs_int s k t) F.entry_int_rmul (F.args_int_rmul_2 _ _) (Gwc k t a its.toArray n dd sl)
   ⟨ho,rfl,⟨_,ho,rfl⟩,call_meets F.slot_tuple_mul ⟨_,ho,rfl⟩ F.entry_tuple_mul (F.args_tuple_mul_2 _ _) (Gwd k t a its.toArray n dd sl ?c0 ?c1 ?c2 ?c3 ?c4 ?c5) ⟨ho,?_⟩⟩)
 case c0=>simp; omega
 case c1=>rw[hie]; simp; omega
 case c2=>rw[hie]; simp; omega
 case c3=>omega
 case c4=>unfold Builtin.Tuple.tupleTooMany; simp; omega
 case c5=>rw[hnew,Ak,Ge2,<- hl,Nat.mul_comm]; exact hz
 rw[hnew]
 refine⟨.ref s.heap.objs.size,_,I.laid (t':=s.toks) (o:=.tup (List.replicate k.toNat xs).flatten) (fun b ob q=>Ao _ q) (Ab _) ?_,rfl,q _ (I.hok.fresh (Ab _))⟩
 exact⟨by rw[Ge2,Nat.mul_comm]; exact hz,_,r1.rep k.toNat,IsTup.new _ _⟩
end
noncomputable def Jq{α β:Type}(f:α->BC β):List α->BC (List β)
 | []=>some []
 | x::l=>match f x,Jq f l with
  | some y,some ys=>some (y::ys)
  | _,_=>none
def toP(S:Sto):Nat->D->BC PyData
 | 0,_=>none
 | n+1,d=>match d with
  | .non=>some .none
  | .bl b=>some (.bool b)
  | .int i=>some (.int i)
  | .str x=>some (.str x)
  | .tup l=>(Jq (toP S n) l).map .tuple
  | .lst i=>match S[i]? with
   | some c=>(Jq (toP S n) c.xs).map .list
   | none=>none
  | .exn _ _=>none
  | .fv _=>none
  | .dct _=>none
section
variable{X:Cx}{pins:List (BB×Obj)}{σ:L2.St}{H:Hp}{s:BA}{mp:List BB}{S:Sto}
def Ge8{f:D->BC PyData}{K:By}(hf:∀ (d:D) (v:V) (u:Bz) (p:PyData),Rep K mp H d v->Hf v u->f d=some p->∃ as,Reads s.heap u p as):∀ (l:List D) (vs:List V) (us:List Bz) (ps:List PyData),RepL K mp H l vs->Vals vs us->Jq f l=some ps->∃ as,ReadsAll s.heap us ps as
 | [],vs,us,ps,h,r,e=>by
  cases (show vs=[] from h); cases r
  cases (Ac e)
  exact⟨_,.nil⟩
 | d::l,vs,us,ps,h,r,e=>by
  obtain⟨v,vr,rfl,h1,h2⟩:=(show ∃ v r,vs=v::r/\Rep K mp H d v/\RepL K mp H l r from h)
  cases r with
  | cons r1 r2=>
   cases z1:f d with
   | none=>simp only[Jq,z1] at e; cases e
   | some p=>
    cases z2:Jq f l with
    | none=>simp only[Jq,z1,z2] at e; cases e
    | some qs=>
     simp only[Jq,z1,z2] at e
     cases (Ac e)
     obtain⟨as,ra⟩:=hf d v _ p h1 r1 z1
     obtain⟨bs,rb⟩:=Ge8 hf l vr _ qs h2 r2 z2
     exact⟨_,.cons ra rb⟩
def Zn(I:Inv X pins σ H s)(rs:RS X.K mp H S):∀ (n:Nat) (d:D) (v:V) (u:Bz) (p:PyData),Rep X.K mp H d v->Hf v u->toP S n d=some p->∃ as,Reads s.heap u p as:=by
 intro n
 induction n with
 | zero=>intro d v u p h r e; cases e
 | succ n ih=>
  intro d v u p h r e
  cases d with
  | non=>
   cases (show v=.non from h); cases (show u=Value.none from r)
   cases (Ac e)
   exact⟨_,.none⟩
  | bl b=>
   cases (show v=.bl b from h); cases (show u=Value.bool b from r)
   cases (Ac e)
   exact⟨_,.bool b⟩
  | int i=>
   cases (show v=.int i from h); obtain⟨t,rfl⟩:=(show ∃ t,u=Value.int i t from r)
   cases (Ac e)
   exact⟨_,.int i t⟩
  | str x=>
   cases (show v=.str x from h); obtain⟨t,rfl⟩:=(show ∃ t,u=Value.str x t from r)
   cases (Ac e)
   exact⟨_,.str x t⟩
  | tup l=>
   obtain⟨a,xs,rfl,sq,q⟩:=Rep.tup h
   cases (show u=Value.ref a from r)
   obtain⟨its,rv,⟨o,ho,hc,k,hd⟩,_⟩:=I.tuple sq
   have e:(Jq (toP S n) l).map PyData.tuple=some p:=e
   cases z:Jq (toP S n) l with
   | none=>rw[z] at e; cases e
   | some ps=>
    rw[z] at e
    cases (Ac e)
    obtain⟨as,ra⟩:=Ge8 ih l xs its ps q rv z
    exact⟨as,.tuple ho hc hd (by simpa using ra)⟩
  | lst i=>
   have e:(match S[i]? with | some c=>(Jq (toP S n) c.xs).map PyData.list | none=>none)=some p:=e
   cases zc:S[i]? with
   | none=>rw[zc] at e; cases e
   | some c=>
    rw[zc] at e
    obtain⟨a,xs,rfl,_,sq,q,_⟩:=rs.items h zc
    cases (show u=Value.ref a from r)
    obtain⟨its,rv,⟨o,k,ho,hc,_,hd⟩,_⟩:=I.list sq
    have e:(Jq (toP S n) c.xs).map PyData.list=some p:=e
    cases z:Jq (toP S n) c.xs with
    | none=>rw[z] at e; cases e
    | some ps=>
     rw[z] at e
     cases (Ac e)
     obtain⟨as,ra⟩:=Ge8 ih c.xs xs its ps q rv z
     exact⟨_,.list ho hc hd (by simpa using ra)⟩
  | exn c n=>cases (show(none:BC PyData)=some p from e)
  | fv c=>cases (show(none:BC PyData)=some p from e)
  | dct c=>cases (show(none:BC PyData)=some p from e)
end
def eqD(x y:D)(S:Sto):Out D:=match toP S 40 x,toP S 40 y with
 | some p,some q=>if(SeqAt.shaped p&&SeqAt.shaped q)=true then .ok (.bl (PyData.eqv p q)) S else .bad
 | _,_=>.bad
def neD(x y:D)(S:Sto):Out D:=match toP S 40 x,toP S 40 y with
 | some p,some q=>if(SeqAt.shaped p&&SeqAt.shaped q)=true then .ok (.bl (!PyData.eqv p q)) S else .bad
 | _,_=>.bad
section
variable{X:Cx}{XQ:XW}
def OpX(X:Cx)(f:Bz->Bz->Sem Bz)(o:D->D->Sto->Out D):Prop:=
 ∀ (pins:List (BB×Obj)) (s:BA) (σ:L2.St) (ρ:Lc) (XQ:XW) (mp:List BB) (H:Hp) (S:Sto) (x y:D) (v u:V) (vv uv:Bz) (Q:VK),Inv X pins σ H s->RS X.K mp H S->Rep X.K mp H x v->Rep X.K mp H y u->Hf v vv->Hf u uv->Post X.K XQ σ ρ mp H (o x y S) Q→
  (∀ (e:XD) (S':Sto),o x y S≠.exc e S')->wpAny (model X.prog X.w) X.A (f vv uv) (EP X pins σ Q) X.xe s
def Gmv{a b:Expr}{op:CmpOp}{fa fb:Ev D}{o:D->D->Sto->Out D}{pos:Pos}(ho:OpX X (compareOp op) o)(hno:∀ x y S e S',o x y S≠.exc e S')(ha:JE X XQ a fa)(hb:JE X XQ b fb)(hm:behindInMarks op b=false):JE X XQ (.Compare a [op] [b] pos) (o2 o fa fb):=by
 intro pins s σ H Q I ⟨mp,ρ,S,G,p⟩
 refine wpAny_Compare1 (thn (ha pins s σ H _ I (bindP G p fun mp1 H1 x S1 v a1 G1 r1 p1=>(⟨mp1,ρ,S1,x,G1,r1,p1⟩:∃ mp1 ρ S1 x,Gd X.K mp1 H1 σ ρ S1/\Rep X.K mp1 H1 x v/\Post X.K XQ σ ρ mp1 H1 ((fb ρ S1).bind fun y S2=>o x y S2) Q))) fun vv s1 ⟨v,H1,I1,rv,mp1,ρ1,S1,x,G1,r1,p1⟩=>?_) hm
 refine thn (hb pins s1 σ H1 _ I1 (bindP G1 p1 fun mp2 H2 y S2 u a2 G2 r2 p2=>(⟨mp2,ρ1,S2,x,y,v,G2,Rep.aft a2 _ _ r1,r2,rfl,p2⟩:∃ mp2 ρ S2 x y v',Gd X.K mp2 H2 σ ρ S2/\Rep X.K mp2 H2 x v'/\Rep X.K mp2 H2 y u/\v'=v/\Post X.K XQ σ ρ mp2 H2 (o x y S2) Q))) fun uv s2 ⟨u,H2,I2,ru,mp2,ρ2,S2,x2,y,v',G2,rx,ry,ev,p2⟩=>?_
 subst ev
 exact ho pins s2 σ ρ2 XQ mp2 H2 S2 x2 y _ u vv uv Q I2 G2.rs rx ry rv ru p2 (hno _ _ _)
def Gcr{a b:Expr}{op:CmpOp}{fa fb:Ev D}{o:D->D->Sto->Out D}{pos:Pos}(ho:OpX X (compareOp op) o)(hno:∀ x y S e S',o x y S≠.exc e S')(ha:JE X XQ a fa)(hb:JE X XQ b fb)(hm:behindInMarks op b=false):JT X XQ (.Compare a [op] [b] pos) (tb (o2 o fa fb)):=by
 intro pins s σ H Q I h
 obtain⟨mp,ρ,S,G,p⟩:=Gml h
 refine wpAny_isTrue_Compare1 (thn (ha pins s σ H _ I (bindP G p fun mp1 H1 x S1 v a1 G1 r1 p1=>(⟨mp1,ρ,S1,x,G1,r1,p1⟩:∃ mp1 ρ S1 x,Gd X.K mp1 H1 σ ρ S1/\Rep X.K mp1 H1 x v/\Post X.K XQ σ ρ mp1 H1 ((fb ρ S1).bind fun y S2=>o x y S2) (fun x H1=>∃ k,x=.bl k/\Q k H1)))) fun vv s1 ⟨v,H1,I1,rv,mp1,ρ1,S1,x,G1,r1,p1⟩=>?_) hm
 refine thn (hb pins s1 σ H1 _ I1 (bindP G1 p1 fun mp2 H2 y S2 u a2 G2 r2 p2=>(⟨mp2,ρ1,S2,x,y,v,G2,Rep.aft a2 _ _ r1,r2,rfl,p2⟩:∃ mp2 ρ S2 x y v',Gd X.K mp2 H2 σ ρ S2/\Rep X.K mp2 H2 x v'/\Rep X.K mp2 H2 y u/\v'=v/\Post X.K XQ σ ρ mp2 H2 (o x y S2) (fun x H1=>∃ k,x=.bl k/\Q k H1)))) fun uv s2 ⟨u,H2,I2,ru,mp2,ρ2,S2,x2,y,v',G2,rx,ry,ev,p2⟩=>?_
 subst ev
 refine thn (ho pins s2 σ ρ2 XQ mp2 H2 S2 x2 y _ u vv uv _ I2 G2.rs rx ry rv ru p2 (hno _ _ _)) fun c s3 ⟨z,H3,I3,r3,k,e,q3⟩=>?_
 subst e
 cases r3
 exact wpAny_truthy_bool ⟨H3,I3,q3⟩
def Gtn(hu:X.A.units+64<cLine):OpX X (compareOp .Eq) eqD:=by
 intro pins s σ ρ XQ mp H S x y v u vv uv Q I rs rx ry rv ru p _
 unfold eqD at p
 cases z1:toP S 40 x with
 | none=>simp only[z1] at p; exact p.elim
 | some a=>
  cases z2:toP S 40 y with
  | none=>simp only[z1,z2] at p; exact p.elim
  | some b=>
   simp only[z1,z2] at p
   by_cases hs:(SeqAt.shaped a&&SeqAt.shaped b)=true
   ·rw[if_pos hs] at p
    obtain⟨as,ra⟩:=Zn I rs 40 x v vv a rx rv z1
    obtain⟨bs,rb⟩:=Zn I rs 40 y u uv b ry ru z2
    rw[Aq] at hs
    exact SeqAt.compareEq_shaped ra rb hs.1 hs.2 hu ⟨.bl _,H,I,rfl,Gj.ok (R:=Rep X.K) p rs rfl⟩
   ·rw[if_neg hs] at p; exact p.elim
def Gto(hu:X.A.units+64<cLine):OpX X (compareOp .NotEq) neD:=by
 intro pins s σ ρ XQ mp H S x y v u vv uv Q I rs rx ry rv ru p _
 unfold neD at p
 cases z1:toP S 40 x with
 | none=>simp only[z1] at p; exact p.elim
 | some a=>
  cases z2:toP S 40 y with
  | none=>simp only[z1,z2] at p; exact p.elim
  | some b=>
   simp only[z1,z2] at p
   by_cases hs:(SeqAt.shaped a&&SeqAt.shaped b)=true
   ·rw[if_pos hs] at p
    obtain⟨as,ra⟩:=Zn I rs 40 x v vv a rx rv z1
    obtain⟨bs,rb⟩:=Zn I rs 40 y u uv b ry ru z2
    rw[Aq] at hs
    exact SeqAt.compareNe_shaped ra rb hs.1 hs.2 hu ⟨.bl _,H,I,rfl,Gj.ok (R:=Rep X.K) p rs rfl⟩
   ·rw[if_neg hs] at p; exact p.elim
def Gtp(x y:D)(S:Sto)(e:XD)(S':Sto):eqD x y S≠.exc e S':=by
 unfold eqD
 split
 ·split<;>exact fun z=>nomatch z
 ·exact fun z=>nomatch z
def Gtq(x y:D)(S:Sto)(e:XD)(S':Sto):neD x y S≠.exc e S':=by
 unfold neD
 split
 ·split<;>exact fun z=>nomatch z
 ·exact fun z=>nomatch z
def Gz5{a b:Expr}{fa fb:Ev D}{pos:Pos}(hu:X.A.units+64<cLine)(ha:JE X XQ a fa)(hb:JE X XQ b fb):JE X XQ (.Compare a [.Eq] [b] pos) (o2 eqD fa fb):=Gmv (Gtn hu) Gtp ha hb (nomark _)
def Gz6{a b:Expr}{fa fb:Ev D}{pos:Pos}(hu:X.A.units+64<cLine)(ha:JE X XQ a fa)(hb:JE X XQ b fb):JT X XQ (.Compare a [.Eq] [b] pos) (tb (o2 eqD fa fb)):=Gcr (Gtn hu) Gtp ha hb (nomark _)
def Gz7{a b:Expr}{fa fb:Ev D}{pos:Pos}(hu:X.A.units+64<cLine)(ha:JE X XQ a fa)(hb:JE X XQ b fb):JE X XQ (.Compare a [.NotEq] [b] pos) (o2 neD fa fb):=Gmv (Gto hu) Gtq ha hb (nomark _)
def Gz8{a b:Expr}{fa fb:Ev D}{pos:Pos}(hu:X.A.units+64<cLine)(ha:JE X XQ a fa)(hb:JE X XQ b fb):JT X XQ (.Compare a [.NotEq] [b] pos) (tb (o2 neD fa fb)):=Gcr (Gto hu) Gtq ha hb (nomark _)
noncomputable def i2(C:Int->Int->Bool)(g:Int->Int->D):D->D->Sto->Out D:=fun x y S=>match x,y with
 | .int i,.int j=>if C i j=true then .ok (g i j) S else .bad
 | _,_=>.bad
def Ge9{K:By}{C:Int->Int->Prop}{c:Int->Int->Bool}{g:Int->Int->V}{gd:Int->Int->D}(hc:∀ i j,c i j=true->C i j)(hg:∀ mp H i j,Rep K mp H (gd i j) (g i j)):OpD K (rI C g) (i2 c gd):=by
 intro XQ σ ρ mp H S x y v u Q rs rx ry p
 cases x with
 | int i=>
  cases y with
  | int j=>
   have p:Post K XQ σ ρ mp H (if c i j=true then .ok (gd i j) S else .bad) Q:=p
   by_cases h:c i j=true
   ·rw[if_pos h] at p
    exact⟨i,j,rx,ry,hc i j h,Gj.ok (R:=Rep K) p rs (hg mp H i j)⟩
   ·rw[if_neg h] at p; exact p.elim
  | _=>exact(show False from p).elim
 | _=>exact(show False from p).elim
def od_int0{K:By}{g:Int->Int->V}{gd:Int->Int->D}(hg:∀ mp H i j,Rep K mp H (gd i j) (g i j)):OpD K (rI0 g) (i2 (fun _ _=>true) gd):=by
 intro XQ σ ρ mp H S x y v u Q rs rx ry p
 obtain⟨i,j,h1,h2,_,h3⟩:=Ge9 (C:=fun _ _=>True) (c:=fun _ _=>true) (fun _ _ _=>trivial) hg XQ σ ρ mp H S x y v u Q rs rx ry p
 exact⟨i,j,h1,h2,h3⟩
abbrev Ql:=i2 (fun _ _=>true) fun i j=>.int (i-j)
abbrev Xb:=i2 (fun _ j=>decide (0<j)) fun i j=>.int (i%j)
abbrev Gfa:=i2 (fun i j=>decide (0<=j/\j<=1000000/\i.natAbs<2^64)) fun i j=>.int (i^j.toNat)
abbrev ltD:=i2 (fun _ _=>true) fun i j=>.bl (decide (i<j))
abbrev leD:=i2 (fun _ _=>true) fun i j=>.bl (decide (i<=j))
abbrev gtD:=i2 (fun _ _=>true) fun i j=>.bl (decide (j<i))
abbrev geD:=i2 (fun _ _=>true) fun i j=>.bl (decide (j<=i))
section
variable{a b:Expr}{fa fb:Ev D}{pos:Pos}
def Gwe(ha:JE X XQ a fa)(hb:JE X XQ b fb):JE X XQ (.BinOp a .Sub b pos) (o2 Ql fa fb):=Geh Gu5 (od_int0 fun _ _ _ _=>rfl) ha hb
def Gwf(ha:JE X XQ a fa)(hb:JE X XQ b fb):JE X XQ (.BinOp a .Mod b pos) (o2 Xb fa fb):=Geh Gu7 (Ge9 (fun _ _ h=>of_decide_eq_true h) fun _ _ _ _=>rfl) ha hb
def Gwg(ha:JE X XQ a fa)(hb:JE X XQ b fb):JE X XQ (.BinOp a .Pow b pos) (o2 Gfa fa fb):=Geh Gu8 (Ge9 (fun i j h=>(of_decide_eq_true h:0<=j/\j<=1000000/\i.natAbs<2^64)) fun _ _ _ _=>rfl) ha hb
def Gz9(ha:JE X XQ a fa)(hb:JE X XQ b fb):JE X XQ (.Compare a [.Lt] [b] pos) (o2 ltD fa fb):=Ge4 Gi4 (od_int0 fun _ _ _ _=>rfl) ha hb (nomark _)
def Haa(ha:JE X XQ a fa)(hb:JE X XQ b fb):JE X XQ (.Compare a [.LtE] [b] pos) (o2 leD fa fb):=Ge4 Gl5 (od_int0 fun _ _ _ _=>rfl) ha hb (nomark _)
def Hab(ha:JE X XQ a fa)(hb:JE X XQ b fb):JE X XQ (.Compare a [.GtE] [b] pos) (o2 geD fa fb):=Ge4 Gtf (od_int0 fun _ _ _ _=>rfl) ha hb (nomark _)
def Hac(ha:JE X XQ a fa)(hb:JE X XQ b fb):JT X XQ (.Compare a [.Lt] [b] pos) (tb (o2 ltD fa fb)):=Ge5 Gi4 (od_int0 fun _ _ _ _=>rfl) ha hb (nomark _)
def Had(ha:JE X XQ a fa)(hb:JE X XQ b fb):JT X XQ (.Compare a [.Gt] [b] pos) (tb (o2 gtD fa fb)):=Ge5 Gzk (od_int0 fun _ _ _ _=>rfl) ha hb (nomark _)
def Hae(ha:JE X XQ a fa)(hb:JE X XQ b fb):JT X XQ (.Compare a [.GtE] [b] pos) (tb (o2 geD fa fb)):=Ge5 Gtf (od_int0 fun _ _ _ _=>rfl) ha hb (nomark _)
end
noncomputable def Gu(x y:D)(S:Sto):Out D:=match x,y with
 | .int i,.int j=>.ok (.int (i+j)) S
 | .str a,.str b=>if a.length+b.length<=1000000 then .ok (.str (a++b)) S else .bad
 | .lst i,.lst j=>match S[i]?,S[j]? with
  | some c,some e=>if(c.fz=false/\e.fz=false)/\c.xs.length+e.xs.length<=1000000 then .ok (.lst S.length) (S++[⟨false,c.xs++e.xs⟩]) else .bad
  | _,_=>.bad
 | .tup a,.tup b=>if a.length+b.length<=1000000 then .ok (.tup (a++b)) S else .bad
 | _,_=>.bad
def Gtr(K:By):R2:=fun x y H Q=>∃ a b ys,x=.ref a/\y=.ref b/\SqT K H a []/\SqT K H b ys/\Q (.ref b) H
def Gqy:OpR X (binaryOp .Add) (Gtr X.K):=by
 intro pins s σ H x y v u Q I rx ry ⟨a,b,ys,e1,e2,ha,hb,q⟩
 subst e1 e2
 cases rx; cases ry
 obtain⟨its,r1,p1,_⟩:=I.tuple ha
 obtain⟨its2,r2,p2,_⟩:=I.tuple hb
 have ei:=r1.nil_iff.mpr rfl
 subst ei
 obtain⟨⟨cls,dd,data,sl⟩,ho,hc,n,hd⟩:=id p1
 obtain⟨⟨cls2,dd2,data2,sl2⟩,ho2,hc2,n2,hd2⟩:=id p2
 simp only at hc hd hc2 hd2
 subst hc hd hc2 hd2
 exact concat_meets ⟨_,ho,rfl⟩ ⟨_,ho2,rfl⟩ noFill_tuple_add seq_tuple_add PySem.F.slot_tuple_add PySem.F.entry_tuple_add (PySem.F.args_tuple_add_2 _ _)
  (tuple_addW0 a b [].toArray its2.toArray n n2 dd dd2 sl sl2 (by rfl)) ⟨ho,ho2,⟨.ref b,H,I,rfl,q⟩⟩
def Gts(K:By):R2:=fun x y H Q=>rI0 (fun i j=>.int (i+j)) x y H Q\/(∃ i j,x=.str i/\y=.str j/\i.length+j.length<=sizeLine/\Q (.str (i++j)) H)\/Gzv x y H Q\/Gth K x y H Q\/Gtr K x y H Q
def Gqz:OpR X (binaryOp .Add) (Gts X.K):=Gu4.or (Ghu.or (Gvm.or (Gqd.or Gqy)))
def Gwh{K:By}:OpD K (Gts K) Gu:=by
 intro XQ σ ρ mp H S x y v u Q rs rx ry p
 unfold Gu at p
 split at p
 ·exact .inl ⟨_,_,rx,ry,Gj.ok (R:=Rep K) p rs rfl⟩
 ·rename_i a b
  by_cases h:a.length+b.length<=1000000
  ·rw[if_pos h] at p
   exact .inr (.inl ⟨_,_,rx,ry,line_le h,Gj.ok (R:=Rep K) p rs rfl⟩)
  ·rw[if_neg h] at p; exact p.elim
 ·rename_i i j
  split at p
  ·rename_i c e zc ze
   by_cases h:(c.fz=false/\e.fz=false)/\c.xs.length+e.xs.length<=1000000
   ·rw[if_pos h] at p
    obtain⟨a1,xs,rfl,_,_,q1,f1⟩:=rs.items rx zc
    obtain⟨a2,ys,rfl,_,_,q2,f2⟩:=rs.items ry ze
    refine .inr (.inr (.inl ⟨a1,a2,xs,ys,rfl,rfl,f1 h.1.1,f2 h.1.2,by rw[q1.len,q2.len]; exact line_le h.2,fun q hq=>Wo p rs (q1.append q2) hq⟩))
   ·rw[if_neg h] at p; exact p.elim
  ·exact p.elim
 ·rename_i a b
  by_cases h:a.length+b.length<=1000000
  ·rw[if_pos h] at p
   obtain⟨a1,xs,rfl,s1,q1⟩:=Rep.tup rx
   obtain⟨a2,ys,rfl,s2,q2⟩:=Rep.tup ry
   have l1:=q1.len
   have l2:=q2.len
   by_cases he:xs=[]
   ·subst he
    have ea:a=[]:=by cases a with | nil=>rfl | cons _ _=>simp at l1
    subst ea
    exact .inr (.inr (.inr (.inr ⟨a1,a2,ys,rfl,rfl,s1,s2,Gj.ok (R:=Rep K) p rs ry⟩)))
   ·refine .inr (.inr (.inr (.inl ⟨a1,a2,xs,ys,rfl,rfl,s1,s2,he,by rw[l1,l2]; exact line_le h,fun z=>?_,fun _ q hq=>Xy p rs (q1.append q2) hq⟩)))
    subst z
    have eb:b=[]:=by cases b with | nil=>rfl | cons _ _=>simp at l2
    subst eb
    rw[AU] at p
    exact Gj.ok (R:=Rep K) p rs rx
  ·rw[if_neg h] at p; exact p.elim
 ·exact p.elim
def Gwi{a b:Expr}{fa fb:Ev D}{pos:Pos}(ha:JE X XQ a fa)(hb:JE X XQ b fb):JE X XQ (.BinOp a .Add b pos) (o2 Gu fa fb):=Geh Gqz Gwh ha hb
noncomputable def Jc(x y:D)(S:Sto):Out D:=match x,y with
 | .int i,.int j=>if(-(2^64)<i/\i<2^64)\/(-(2^64)<j/\j<2^64) then .ok (.int (i*j)) S else .bad
 | .lst i,.int k=>match S[i]? with
  | some c=>if c.fz=false/\(-1000000<=k/\k<=1000000)/\c.xs.length*k.toNat<=1000000 then .ok (.lst S.length) (S++[⟨false,(List.replicate k.toNat c.xs).flatten⟩]) else .bad
  | none=>.bad
 | .tup l,.int k=>if 0<l.length/\(2<=k/\k<=1000000)/\l.length*k.toNat<=1000000 then .ok (.tup (List.replicate k.toNat l).flatten) S else .bad
 | _,_=>.bad
def Gtt(K:By):R2:=fun x y H Q=>rI CMul (fun i j=>.int (i*j)) x y H Q\/Gzw x y H Q\/Gtm K x y H Q
def Gq0:OpR X (binaryOp .Mult) (Gtt X.K):=Gu6.or (Gvn.or Gqx)
def RepL.flat{K:By}{mp:List BB}{H:Hp}{l:List D}{vs:List V}(h:RepL K mp H l vs):∀ k:Nat,RepL K mp H (List.replicate k l).flatten (List.replicate k vs).flatten
 | 0=>RepL.nil
 | k+1=>by
  rw[AO,AO,AY,AY]
  exact RepL.append h (RepL.flat h k)
def Gwj{K:By}:OpD K (Gtt K) Jc:=by
 intro XQ σ ρ mp H S x y v u Q rs rx ry p
 unfold Jc at p
 split at p
 ·rename_i i j
  by_cases h:(-(2^64)<i/\i<2^64)\/(-(2^64)<j/\j<2^64)
  ·rw[if_pos h] at p
   exact .inl ⟨_,_,rx,ry,h,Gj.ok (R:=Rep K) p rs rfl⟩
  ·rw[if_neg h] at p; exact p.elim
 ·rename_i i k
  split at p
  ·rename_i c zc
   by_cases h:c.fz=false/\(-1000000<=k/\k<=1000000)/\c.xs.length*k.toNat<=1000000
   ·rw[if_pos h] at p
    obtain⟨a1,xs,rfl,_,_,q1,f1⟩:=rs.items rx zc
    exact .inr (.inl ⟨a1,k,xs,rfl,ry,f1 h.1,by omega,by omega,by rw[q1.len]; exact line_le h.2.2,fun q hq=>Wo p rs (q1.flat _) hq⟩)
   ·rw[if_neg h] at p; exact p.elim
  ·exact p.elim
 ·rename_i l k
  by_cases h:0<l.length/\(2<=k/\k<=1000000)/\l.length*k.toNat<=1000000
  ·rw[if_pos h] at p
   obtain⟨a1,xs,rfl,s1,q1⟩:=Rep.tup rx
   have hl:=q1.len
   exact .inr (.inr ⟨a1,k,xs,rfl,ry,s1,fun z=>by rw[z] at hl; simp at hl; omega,h.2.1.1,h.2.1.2,by rw[q1.len]; exact line_le h.2.2,fun q hq=>Xy p rs (q1.flat _) hq⟩)
  ·rw[if_neg h] at p; exact p.elim
 ·exact p.elim
def Gwk{a b:Expr}{fa fb:Ev D}{pos:Pos}(ha:JE X XQ a fa)(hb:JE X XQ b fb):JE X XQ (.BinOp a .Mult b pos) (o2 Jc fa fb):=Geh Gq0 Gwj ha hb
noncomputable def Ggl(x:D)(S:Sto):Out D:=match x with
 | .int i=>.ok (.int (-i)) S
 | _=>.bad
def getD(x y:D)(S:Sto):Out D:=match x,y with
 | .tup l,.int i=>match atI l i with
  | some d=>.ok d S
  | none=>.bad
 | .lst k,.int i=>match S[k]? with
  | some c=>match atI c.xs i with
   | some d=>.ok d S
   | none=>.bad
  | none=>.bad
 | .str z,.int i=>if z.length<=1000000 then(match atI z.cps.toList i with
  | some c=>.ok (.str ⟨#[c]⟩) S
  | none=>.bad) else .bad
 | _,_=>.bad
def RepL.atI{K:By}{mp:List BB}{H:Hp}{l:List D}{vs:List V}{i:Int}{d:D}(h:RepL K mp H l vs)(e:L2.atI l i=some d):∃ v,L2.atI vs i=some v/\Rep K mp H d v:=by
 unfold L2.atI at e ⊢
 rw[h.len]
 cases z:ixN l.length i with
 | none=>rw[z] at e; cases e
 | some j=>
  rw[z] at e
  exact h.get e
def Gwl{K:By}:OpD K (rIx K) getD:=by
 intro XQ σ ρ mp H S x y v u Q rs rx ry p
 unfold getD at p
 split at p
 ·rename_i l i
  split at p
  ·rename_i d zd
   obtain⟨a,xs,rfl,sq,q⟩:=Rep.tup rx
   obtain⟨w,hw,rw'⟩:=q.atI zd
   exact .inr (.inl ⟨a,xs,i,w,rfl,ry,sq,hw,Gj.ok (R:=Rep K) p rs rw'⟩)
  ·exact p.elim
 ·rename_i k i
  split at p
  ·rename_i c zc
   split at p
   ·rename_i d zd
    obtain⟨a,xs,rfl,_,sq,q,_⟩:=rs.items rx zc
    obtain⟨w,hw,rw'⟩:=q.atI zd
    exact .inl ⟨a,xs,i,w,rfl,ry,sq,hw,Gj.ok (R:=Rep K) p rs rw'⟩
   ·exact p.elim
  ·exact p.elim
 ·rename_i z i
  by_cases h:z.length<=1000000
  ·rw[if_pos h] at p
   split at p
   ·rename_i c zc
    exact .inr (.inr ⟨z,i,c,rx,ry,line_le h,zc,Gj.ok (R:=Rep K) p rs rfl⟩)
   ·exact p.elim
  ·rw[if_neg h] at p; exact p.elim
 ·exact p.elim
def Gwm{a b:Expr}{fa fb:Ev D}{pos:Pos}(ha:JE X XQ a fa)(hb:JE X XQ b fb)(hs:Gb8 b:=by intro _ _; rfl):JE X XQ (.Subscript a b pos) (o2 getD fa fb):=Gz1 Gvk Gwl ha hb hs
def Hm(x y z:D)(S:Sto):BC Sto:=match x,y with
 | .lst k,.int i=>match S[k]? with
  | some c=>match ixN c.xs.length i with
   | some j=>if c.fz=false then some (S.set k ⟨false,c.xs.set j z⟩) else none
   | none=>none
  | none=>none
 | _,_=>none
def Gh5{K:By}:Gv6 Gti K Hm:=by
 intro mp H S S' x y z v u w Q rs rx ry rz e k
 unfold Hm at e
 split at e
 ·rename_i kk i
  split at e
  ·rename_i c zc
   split at e
   ·rename_i j zj
    by_cases hf:c.fz=false
    ·rw[if_pos hf] at e
     cases (Ac e)
     obtain⟨a,xs,rfl,ha,sq,q,f⟩:=rs.items rx zc
     have hH:=f hf
     obtain⟨af,rs'⟩:=rs.setL ha zc hf hH (q.set j rz)
     exact⟨a,xs,i,j,rfl,ry,hH,by rw[q.len]; exact zj,k _ af rs'⟩
    ·rw[if_neg hf] at e; cases e
   ·cases e
  ·cases e
 ·cases e
def Gmw{ob ix e:Expr}{f fo fi:Ev D}{pos p2:Pos}(he:JE X XQ e f)(hob:JE X XQ ob fo)(hix:JE X XQ ix fi)
  (hs:swapsWithSole [.Subscript ob ix p2] e pos.line X.env=pure false:=by rfl) (hw:swappedStores [.Subscript ob ix p2] e X.env=pure none:=by rfl)
  (h1:(assignEach [.Subscript ob ix p2] X.env).map (·.2)=[assign (.Subscript ob ix p2) X.env]:=by rfl) (ha:∀ v,assign (.Subscript ob ix p2) X.env v=(do
   let ov <- holding [v] (eval ob X.env)
   let iv <- holding [v,ov] (eval ix X.env)
   standAt p2
   holding [v,ov,iv] (setItem ov iv v)
   release [v,ov,iv] []):=by intro _; rfl):JS X XQ (.Assign [.Subscript ob ix p2] e pos) (ss f fo fi Hm):=Gmp Gco Gh5 he hob hix hs hw h1 ha
end
section
variable{X:Cx}{XQ:XW}
def BlD(K:By)(r:List V->Hp->VK->Prop)(o:List D->Sto->Out D):Prop:=
 ∀ (XQ:XW) (σ:L2.St) (ρ:Lc) (mp:List BB) (H:Hp) (S:Sto) (xs:List D) (vs:List V) (Q:VK),RS K mp H S->RepL K mp H xs vs->Post K XQ σ ρ mp H (o xs S) Q->r vs H Q
def b1(o:List D->Sto->Out D)(f:Ev (List D)):Ev D:=fun ρ S=>(f ρ S).bind o
def cbR{r:List V->Hp->VK->Prop}{o:List D->Sto->Out D}{f:Ev (List D)}(hd:BlD X.K r o)(σ:L2.St)(H:Hp)(Q:VK)(h:rdE X.K XQ (b1 o f) σ H Q):tCB r (rdA X.K XQ f) σ H Q:=by
 obtain⟨mp,ρ,S,G,p⟩:=h
 exact bindP G p fun mp1 H1 xs S1 vs a1 G1 r1 p1=>hd XQ σ ρ mp1 H1 S1 xs vs Q G1.rs r1 p1
def Gh6{id:String}{x:Str}{p pos:Pos}{e:Expr}{es:List Expr}{r:List V->Hp->VK->Prop}{o:List D->Sto->Out D}{f:Ev (List D)}(hc:Xq X (.builtin id) r)(hd:BlD X.K r o)(hg:Gl X x)(hm:X.mg x=none)(hv:bootBuiltins x=some (.builtin id))(ha:JA X XQ (e::es) f)(hn:x≠"__name__":=by decide)(hdb:(x==("__debug__":Str))=false:=by decide)
  (he:starEach (e::es) X.env=(false,eval e X.env)::starEach es X.env:=by rfl) (hpl:(backTo pos (starEach es X.env)).any (·.1)=false:=by rfl):JE X XQ (.Call (.Name x p) (e::es) [] pos) (b1 o f):=
 PE.mono (Zy hc hg hm hv ha hn hdb he hpl) (cbR hd)
def Gmx{T:String}{x:Str}{p pos:Pos}{e:Expr}{es:List Expr}{r:List V->Hp->VK->Prop}{o:List D->Sto->Out D}{f:Ev (List D)}(hc:Xq X (.type T) r)(hd:BlD X.K r o)(hg:Gl X x)(hm:X.mg x=none)(hv:bootBuiltins x=some (.type T))(ha:JA X XQ (e::es) f)(hn:x≠"__name__":=by decide)(hdb:(x==("__debug__":Str))=false:=by decide)
  (he:starEach (e::es) X.env=(false,eval e X.env)::starEach es X.env:=by rfl) (hpl:(backTo pos (starEach es X.env)).any (·.1)=false:=by rfl):JE X XQ (.Call (.Name x p) (e::es) [] pos) (b1 o f):=
 PE.mono (Gk8 hc hg hm hv ha hn hdb he hpl) (cbR hd)
noncomputable def Gy(xs:List D)(S:Sto):Out D:=match xs with
 | [.str z]=>if z.length<=1000000 then .ok (.int z.length) S else .bad
 | [.tup l]=>.ok (.int l.length) S
 | [.lst i]=>match S[i]? with
  | some c=>.ok (.int c.xs.length) S
  | none=>.bad
 | _=>.bad
def Gwn{K:By}:BlD K (fun xs H Q=>∃ x n,xs=[x]/\Gzm K x H n/\Q (.int n) H) Gy:=by
 intro XQ σ ρ mp H S xs vs Q rs r p
 unfold Gy at p
 split at p
 ·rename_i z
  obtain⟨v,rfl,h⟩:=RepL.one r
  cases (show v=.str z from h)
  by_cases hz:z.length<=1000000
  ·rw[if_pos hz] at p
   exact⟨_,_,rfl,⟨line_le hz,rfl⟩,Gj.ok (R:=Rep K) p rs rfl⟩
  ·rw[if_neg hz] at p; exact p.elim
 ·rename_i l
  obtain⟨v,rfl,h⟩:=RepL.one r
  obtain⟨a,xs,rfl,sq,q⟩:=Rep.tup h
  exact⟨_,xs.length,rfl,.inr ⟨xs,sq,rfl⟩,Gj.ok (R:=Rep K) p rs (by rw[q.len]; rfl)⟩
 ·rename_i i
  obtain⟨v,rfl,h⟩:=RepL.one r
  split at p
  ·rename_i c zc
   obtain⟨a,xs,rfl,_,sq,q,_⟩:=rs.items h zc
   exact⟨_,xs.length,rfl,.inl ⟨xs,sq,rfl⟩,Gj.ok (R:=Rep K) p rs (by rw[q.len]; rfl)⟩
  ·exact p.elim
 ·exact p.elim
def Gwo{p pos:Pos}{e:Expr}{f:Ev (List D)}(hg:Gl X "len")(hm:X.mg "len"=none)(ha:JA X XQ [e] f)(he:starEach [e] X.env=(false,eval e X.env)::starEach [] X.env:=by rfl):JE X XQ (.Call (.Name "len" p) [e] [] pos) (b1 Gy f):=Gh6 Gl9 Gwn hg hm PySem.boot_len ha (he:=he)
noncomputable def Qo(xs:List D)(S:Sto):Out D:=match xs with
 | [.tup l]=>.ok (.lst S.length) (S++[⟨false,l⟩])
 | [.lst i]=>match S[i]? with
  | some c=>.ok (.lst S.length) (S++[⟨false,c.xs⟩])
  | none=>.bad
 | _=>.bad
def Gq1{K:By}:BlD K (fun xs H Q=>∃ p ys,xs=[.ref p]/\(SqL K H p ys\/SqT K H p ys)/\∀ l,H l=none->Q (.ref l) (upd H l (.lst ys))) Qo:=by
 intro XQ σ ρ mp H S xs vs Q rs r p
 unfold Qo at p
 split at p
 ·obtain⟨v,rfl,h⟩:=RepL.one r
  obtain⟨a,xs,rfl,sq,q⟩:=Rep.tup h
  exact⟨a,xs,rfl,.inr sq,fun l hl=>Wo p rs q hl⟩
 ·obtain⟨v,rfl,h⟩:=RepL.one r
  split at p
  ·rename_i c zc
   obtain⟨a,xs,rfl,_,sq,q,_⟩:=rs.items h zc
   exact⟨a,xs,rfl,.inl sq,fun l hl=>Wo p rs q hl⟩
  ·exact p.elim
 ·exact p.elim
noncomputable def Kc(xs:List D)(S:Sto):Out D:=match xs with
 | [.tup l]=>.ok (.tup l) S
 | [.lst i]=>match S[i]? with
  | some c=>.ok (.tup c.xs) S
  | none=>.bad
 | _=>.bad
def Gmy{K:By}:BlD K (fun xs H Q=>∃ p ys,xs=[.ref p]/\((SqL K H p ys/\∀ l,H l=none->Q (.ref l) (upd H l (.tup ys)))\/(SqT K H p ys/\Q (.ref p) H))) Kc:=by
 intro XQ σ ρ mp H S xs vs Q rs r p
 unfold Kc at p
 split at p
 ·obtain⟨v,rfl,h⟩:=RepL.one r
  obtain⟨a,xs,rfl,sq,q⟩:=Rep.tup h
  exact⟨a,xs,rfl,.inr ⟨sq,Gj.ok (R:=Rep K) p rs h⟩⟩
 ·obtain⟨v,rfl,h⟩:=RepL.one r
  split at p
  ·rename_i c zc
   obtain⟨a,xs,rfl,_,sq,q,_⟩:=rs.items h zc
   exact⟨a,xs,rfl,.inl ⟨sq,fun l hl=>Xy p rs q hl⟩⟩
  ·exact p.elim
 ·exact p.elim
def Gq2{p pos:Pos}{e:Expr}{f:Ev (List D)}(hg:Gl X "list")(hm:X.mg "list"=none)(ha:JA X XQ [e] f)(he:starEach [e] X.env=(false,eval e X.env)::starEach [] X.env:=by rfl):JE X XQ (.Call (.Name "list" p) [e] [] pos) (b1 Qo f):=Gmx Ge1 Gq1 hg hm (by rfl) ha (he:=he)
def Gmz{p pos:Pos}{e:Expr}{f:Ev (List D)}(hg:Gl X "tuple")(hm:X.mg "tuple"=none)(ha:JA X XQ [e] f)(he:starEach [e] X.env=(false,eval e X.env)::starEach [] X.env:=by rfl):JE X XQ (.Call (.Name "tuple" p) [e] [] pos) (b1 Kc f):=Gmx Gdq Gmy hg hm (by rfl) ha (he:=he)
noncomputable def Gld(xs:List D)(S:Sto):Out D:=match xs with
 | [.int i,.int j]=>.ok (.int (if j<i then j else i)) S
 | _=>.bad
def Gwp{K:By}:BlD K (fun xs H Q=>∃ i j,xs=[.int i,.int j]/\Q (.int (if j<i then j else i)) H) Gld:=by
 intro XQ σ ρ mp H S xs vs Q rs r p
 unfold Gld at p
 split at p
 ·rename_i i j
  obtain⟨v,w,rfl,h1,h2⟩:=RepL.two r
  cases (show v=.int i from h1); cases (show w=.int j from h2)
  exact⟨i,j,rfl,Gj.ok (R:=Rep K) p rs rfl⟩
 ·exact p.elim
def Gwq{p pos:Pos}{e e':Expr}{f:Ev (List D)}(hc:X.calm=true)(hg:Gl X "min")(hm:X.mg "min"=none)(ha:JA X XQ [e,e'] f)(he:starEach [e,e'] X.env=(false,eval e X.env)::starEach [e'] X.env:=by rfl)(hpl:(backTo pos (starEach [e'] X.env)).any (·.1)=false:=by rfl):JE X XQ (.Call (.Name "min" p) [e,e'] [] pos) (b1 Gld f):=Gh6 (Gk5 hc) Gwp hg hm (by rfl) ha (he:=he) (hpl:=hpl)
noncomputable def Gaa(xs:List D)(S:Sto):Out D:=match xs with
 | [.int i]=>.ok (.int i) S
 | [.bl b]=>.ok (.int (if b then 1 else 0)) S
 | _=>.bad
def Gwr{K:By}:BlD K (fun xs H Q=>(∃ i,xs=[.int i]/\Q (.int i) H)\/∃ k,xs=[.bl k]/\Q (.int (if k then 1 else 0)) H) Gaa:=by
 intro XQ σ ρ mp H S xs vs Q rs r p
 unfold Gaa at p
 split at p
 ·rename_i i
  obtain⟨v,rfl,h⟩:=RepL.one r
  cases (show v=.int i from h)
  exact .inl ⟨i,rfl,Gj.ok (R:=Rep K) p rs rfl⟩
 ·rename_i b
  obtain⟨v,rfl,h⟩:=RepL.one r
  cases (show v=.bl b from h)
  exact .inr ⟨b,rfl,Gj.ok (R:=Rep K) p rs rfl⟩
 ·exact p.elim
def Gq3{p pos:Pos}{e:Expr}{f:Ev (List D)}(hg:Gl X "int")(hm:X.mg "int"=none)(ha:JA X XQ [e] f)(he:starEach [e] X.env=(false,eval e X.env)::starEach [] X.env:=by rfl):JE X XQ (.Call (.Name "int" p) [e] [] pos) (b1 Gaa f):=Gmx Gk6 Gwr hg hm (by rfl) ha (he:=he)
noncomputable def Gcs(x y:D)(S:Sto):Out D:=match x,y with
 | .non,.non=>.ok (.bl true) S
 | .bl _,.non=>.ok (.bl false) S
 | .int _,.non=>.ok (.bl false) S
 | .str _,.non=>.ok (.bl false) S
 | .tup _,.non=>.ok (.bl false) S
 | .lst _,.non=>.ok (.bl false) S
 | .exn _ _,.non=>.ok (.bl false) S
 | _,_=>.bad
noncomputable def Gei(x y:D)(S:Sto):Out D:=match x,y with
 | .non,.non=>.ok (.bl false) S
 | .bl _,.non=>.ok (.bl true) S
 | .int _,.non=>.ok (.bl true) S
 | .str _,.non=>.ok (.bl true) S
 | .tup _,.non=>.ok (.bl true) S
 | .lst _,.non=>.ok (.bl true) S
 | .exn _ _,.non=>.ok (.bl true) S
 | _,_=>.bad
def Gws{K:By}:OpD K (fun x y H Q=>y=.non/\Q (.bl (decide (x=.non))) H) Gcs:=by
 intro XQ σ ρ mp H S x y v u Q rs rx ry p
 cases y with
 | non=>
  refine⟨ry,?_⟩
  cases x with
  | non=>cases (show v=.non from rx); exact Gj.ok (R:=Rep K) p rs (by rfl)
  | bl b=>cases (show v=.bl b from rx); exact Gj.ok (R:=Rep K) p rs (by rfl)
  | int b=>cases (show v=.int b from rx); exact Gj.ok (R:=Rep K) p rs (by rfl)
  | str b=>cases (show v=.str b from rx); exact Gj.ok (R:=Rep K) p rs (by rfl)
  | tup l=>obtain⟨a,xs,rfl,_⟩:=Rep.tup rx; exact Gj.ok (R:=Rep K) p rs (by rfl)
  | lst i=>obtain⟨a,rfl,_⟩:=(show ∃ a,v=.ref a/\mp[i]?=some a/\¬ Dcy H a from rx); exact Gj.ok (R:=Rep K) p rs (by rfl)
  | exn c n=>obtain⟨a,dx,_,rfl,_⟩:=(show ∃ a dx p,v=.ref a/\(CN K c p/\XCl K p/\H a=some (XO a p dx))/\∀ i,n=some i->∃ d,dx=some d/\H d=some (XA d i) from rx); exact Gj.ok (R:=Rep K) p rs (by rfl)
  | fv c=>exact(show False from p).elim
  | dct c=>exact(show False from p).elim
 | _=>cases x<;>exact(show False from p).elim
def Gq4{K:By}:OpD K (fun x y H Q=>y=.non/\Q (.bl (!decide (x=.non))) H) Gei:=by
 intro XQ σ ρ mp H S x y v u Q rs rx ry p
 cases y with
 | non=>
  refine⟨ry,?_⟩
  cases x with
  | non=>cases (show v=.non from rx); exact Gj.ok (R:=Rep K) p rs (by rfl)
  | bl b=>cases (show v=.bl b from rx); exact Gj.ok (R:=Rep K) p rs (by rfl)
  | int b=>cases (show v=.int b from rx); exact Gj.ok (R:=Rep K) p rs (by rfl)
  | str b=>cases (show v=.str b from rx); exact Gj.ok (R:=Rep K) p rs (by rfl)
  | tup l=>obtain⟨a,xs,rfl,_⟩:=Rep.tup rx; exact Gj.ok (R:=Rep K) p rs (by rfl)
  | lst i=>obtain⟨a,rfl,_⟩:=(show ∃ a,v=.ref a/\mp[i]?=some a/\¬ Dcy H a from rx); exact Gj.ok (R:=Rep K) p rs (by rfl)
  | exn c n=>obtain⟨a,dx,_,rfl,_⟩:=(show ∃ a dx p,v=.ref a/\(CN K c p/\XCl K p/\H a=some (XO a p dx))/\∀ i,n=some i->∃ d,dx=some d/\H d=some (XA d i) from rx); exact Gj.ok (R:=Rep K) p rs (by rfl)
  | fv c=>exact(show False from p).elim
  | dct c=>exact(show False from p).elim
 | _=>cases x<;>exact(show False from p).elim
section
variable{a b:Expr}{fa fb:Ev D}{pos:Pos}
def Gwt(ha:JE X XQ a fa)(hb:JE X XQ b fb):JT X XQ (.Compare a [.Is] [b] pos) (tb (o2 Gcs fa fb)):=Ge5 Gva Gws ha hb (nomark _)
def Gq5(ha:JE X XQ a fa)(hb:JE X XQ b fb):JE X XQ (.Compare a [.IsNot] [b] pos) (o2 Gei fa fb):=Ge4 Gp5 Gq4 ha hb (nomark _)
end
def Vz(xs:List D)(lo hi:BC Int):List D:=(xs.drop (HT.sIx xs.length 0 lo)).take (HT.sIx xs.length xs.length hi-HT.sIx xs.length 0 lo)
def RepL.cut{K:By}{mp:List BB}{H:Hp}{l:List D}{vs:List V}(h:RepL K mp H l vs)(lo hi:BC Int):RepL K mp H (Vz l lo hi) (Ggj vs lo hi):=by
 unfold Vz Ggj
 rw[h.len]
 exact(h.drop _).take _
def slD(x:D)(lo hi:BC Int)(S:Sto):Out D:=match x with
 | .tup l=>if HT.sIx l.length 0 lo=0/\HT.sIx l.length l.length hi=l.length then .bad else .ok (.tup (Vz l lo hi)) S
 | .lst i=>match S[i]? with
  | some c=>.ok (.lst S.length) (S++[⟨false,Vz c.xs lo hi⟩])
  | none=>.bad
 | _=>.bad
def sl(fe:Ev D)(fl fh:Ev (BC Int)):Ev D:=fun ρ S=>(fe ρ S).bind fun x S1=>(fl ρ S1).bind fun l S2=>(fh ρ S2).bind fun u S3=>slD x l u S3
noncomputable def onone:Ev (BC Int):=fun _ S=>.ok none S
def osome(f:Ev D):Ev (BC Int):=fun ρ S=>(f ρ S).bind fun x S1=>match x with
 | .int i=>.ok (some i) S1
 | _=>.bad
def Gq6:JO X XQ none onone:=PO.mono Gqb fun σ H Q ⟨mp,ρ,S,G,p⟩=>Gj.ok (R:=kO) (show Gj X.K kO XQ σ ρ mp H (.ok none S) Q from p) G.rs rfl
def Gq7{e:Expr}{f:Ev D}(h:JE X XQ e f):JO X XQ (some e) (osome f):=PO.mono (Gqc h) fun σ H Q ⟨mp,ρ,S,G,p⟩=>bindP G p fun mp1 H1 x S1 v a1 G1 r1 p1=>by
 cases x with
 | int i=>exact⟨i,r1,Gj.ok (R:=kO) p1 G1.rs rfl⟩
 | _=>exact(show False from p1).elim
def MeD(K:By)(r:V->List V->Hp->VK->Prop)(o:D->List D->Sto->Out D):Prop:=
 ∀ (XQ:XW) (σ:L2.St) (ρ:Lc) (mp:List BB) (H:Hp) (S:Sto) (x:D) (xs:List D) (v:V) (vs:List V) (Q:VK),RS K mp H S->Rep K mp H x v->RepL K mp H xs vs->Post K XQ σ ρ mp H (o x xs S) Q->r v vs H Q
noncomputable def isLst(x:D)(S:Sto):Bool:=match x with
 | .lst i=>match S[i]? with
  | some _=>true
  | none=>false
 | _=>false
def mt(o:D->List D->Sto->Out D)(fo:Ev D)(f:Ev (List D)):Ev D:=fun ρ S=>(fo ρ S).bind fun x S1=>if isLst x S1=true then(f ρ S1).bind fun xs S2=>o x xs S2 else .bad
def Gfb{id:String}{name:Str}{o e:Expr}{es:List Expr}{apos cpos:Pos}{r:V->List V->Hp->VK->Prop}{od:D->List D->Sto->Out D}{fo:Ev D}{f:Ev (List D)}(slot:Slot "list" name id)(hty:typeOf (.builtin id)=pure (.type "method_descriptor"))(hm:MtM X id r)(hd:MeD X.K r od)(ho:JE X XQ o fo)(ha:JA X XQ (e::es) f)
  (hbase:attributeBase o name X.env (eval o X.env)=eval o X.env:=by rfl)
  (hfew:((backTo cpos (starEach (e::es) X.env)).all (fun x=>!x.1)&&(backToKw cpos (keywordEach [] X.env)).all (fun x=>x.1.isSome)
   && decide ((e::es).length+([]:List Keyword).length+(if([]:List Keyword).isEmpty then 0 else 1)<30))=true:=by rfl)
  (hline:(apos.endLine==cpos.line)=true:=by rfl) (hs:starEach (e::es) X.env=(false,eval e X.env)::starEach es X.env:=by rfl) (hplain:(backTo cpos (starEach es X.env)).any (·.1)=false:=by rfl):
  JE X XQ (.Call (.Attribute o name apos) (e::es) [] cpos) (mt od fo f):=by
 refine PE.mono (Gzu PySem.F.plainAttrs_list slot hty hm ho ha hbase hfew hline hs hplain) fun σ H Q ⟨mp,ρ,S,G,p⟩=>?_
 refine bindP G p fun mp1 H1 x S1 v a1 G1 r1 p1=>?_
 by_cases hl:isLst x S1=true
 ·rw[if_pos hl] at p1
  have ty:tyV X.K "list" v H1:=by
   cases x with
   | lst i=>
    cases zc:S1[i]? with
    | none=>simp[isLst,zc] at hl
    | some c=>
     obtain⟨a,xs,rfl,_,sq,_⟩:=G1.rs.items r1 zc
     exact .inl ⟨rfl,xs,sq⟩
   | _=>simp[isLst] at hl
  exact⟨ty,bindP G1 p1 fun mp2 H2 xs S2 vs a2 G2 r2 p2=>hd XQ σ ρ mp2 H2 S2 x xs v vs Q G2.rs (Rep.aft a2 _ _ r1) r2 p2⟩
 ·rw[if_neg hl] at p1; exact p1.elim
noncomputable def Gdr(x:D)(xs:List D)(S:Sto):Out D:=match x,xs with
 | .lst i,[d]=>match S[i]? with
  | some c=>if c.fz=false/\c.xs.length<1000000 then .ok .non (S.set i ⟨false,c.xs++[d]⟩) else .bad
  | none=>.bad
 | _,_=>.bad
def Gwu{K:By}:MeD K Gi8 Gdr:=by
 intro XQ σ ρ mp H S x xs v vs Q rs rx r p
 unfold Gdr at p
 split at p
 ·rename_i i d
  split at p
  ·rename_i c zc
   by_cases hc:c.fz=false/\c.xs.length<1000000
   ·rw[if_pos hc] at p
    obtain⟨w,rfl,hw⟩:=RepL.one r
    obtain⟨a,ys,rfl,ha,sq,q,f⟩:=rs.items rx zc
    have hH:=f hc.1
    obtain⟨af,rs'⟩:=rs.setL ha zc hc.1 hH (RepL.append q (RepL.cons hw RepL.nil))
    exact⟨a,ys,w,rfl,rfl,hH,by rw[q.len]; exact Ai hc.2 (by decide),p mp _ _ af rs' rfl⟩
   ·rw[if_neg hc] at p; exact p.elim
  ·exact p.elim
 ·exact p.elim
def Gle{o e:Expr}{apos cpos:Pos}{fo:Ev D}{f:Ev (List D)}(ho:JE X XQ o fo)(ha:JA X XQ [e] f)(hbase:attributeBase o "append" X.env (eval o X.env)=eval o X.env:=by rfl)
  (hfew:((backTo cpos (starEach [e] X.env)).all (fun x=>!x.1)&&(backToKw cpos (keywordEach [] X.env)).all (fun x=>x.1.isSome)
   && decide ([e].length+([]:List Keyword).length+(if([]:List Keyword).isEmpty then 0 else 1)<30))=true:=by rfl)
  (hline:(apos.endLine==cpos.line)=true:=by rfl) (hs:starEach [e] X.env=(false,eval e X.env)::starEach [] X.env:=by rfl):
  JE X XQ (.Call (.Attribute o "append" apos) [e] [] cpos) (mt Gdr fo f):=Gfb PySem.F.slot_list_append PySem.F.type_list_append Gef Gwu ho ha hbase hfew hline hs rfl
end
section
variable{X:Cx}{XQ:XW}
def Gwv{K:By}:UnD K (rU fun i=>.int (-i)) Ggl:=by
 intro XQ σ ρ mp H S x v Q rs rx p
 cases x with
 | int i=>exact⟨i,rx,Gj.ok (R:=Rep K) (show Post K XQ σ ρ mp H (.ok (.int (-i)) S) Q from p) rs rfl⟩
 | _=>exact(show False from p).elim
def Gww{a:Expr}{fa:Ev D}{pos:Pos}(ha:JE X XQ a fa):JE X XQ (.UnaryOp .USub a pos) (o1 Ggl fa):=Gz2 Gu9 Gwv ha
def ch(o o':D->D->Sto->Out D)(fa fb fc:Ev D):Ev D:=fun ρ S=>(fa ρ S).bind fun x S1=>(fb ρ S1).bind fun y S2=>(o x y S2).bind fun z S3=>match z with
 | .bl k=>if k=true then(fc ρ S3).bind fun w S4=>o' y w S4 else .ok (.bl false) S3
 | _=>.bad
def Gwx{K:By}{r r':R2}{o o':D->D->Sto->Out D}{fa fb fc:Ev D}(hd:OpD K r o)(hd':OpD K r' o')(σ:L2.St)(H:Hp)(Q:VK)(h:rdE K XQ (ch o o' fa fb fc) σ H Q):Gl6 r r' (rdE K XQ fa) (rdE K XQ fb) (rdE K XQ fc) σ H Q:=by
 obtain⟨mp,ρ,S,G,p⟩:=h
 refine bindP G p fun mp1 H1 x S1 v a1 G1 r1 p1=>?_
 refine bindP G1 p1 fun mp2 H2 y S2 u a2 G2 r2 p2=>?_
 refine hd XQ σ ρ mp2 H2 S2 x y v u _ G2.rs (Rep.aft a2 _ _ r1) r2 ?_
 cases z:o x y S2 with
 | bad=>rw[z] at p2; exact p2
 | exc e S3=>rw[z] at p2; exact p2
 | ok d S3=>
  rw[z] at p2
  intro mp3 H3 zv a3 rs3 r3
  have p3:=Gj.aft p2 a3
  have G3:=G2.aft a3 rs3
  cases d with
  | bl k=>
   refine⟨k,r3,?_⟩
   cases k with
   | true=>exact(if_pos rfl).mpr (bindP (f:=fc) G3 (by simpa[Out.bind] using p3) fun mp4 H4 w S4 wv a4 G4 r4 p4=>hd' XQ σ ρ mp4 H4 S4 y w u wv Q G4.rs (Rep.aft (a3.trans a4) _ _ r2) r4 p4)
   | false=>exact(if_neg An).mpr (Gj.ok (R:=Rep K) (d:=.bl false) (S:=S3) (by simpa[Out.bind] using p3) G3.rs rfl)
  | _=>exact(show False from p3).elim
def Gm0{a b c:Expr}{op op':CmpOp}{r r':R2}{o o':D->D->Sto->Out D}{fa fb fc:Ev D}{pos:Pos}(ho:OpR X (compareOp op) r)(hd:OpD X.K r o)(ho':OpR X (compareOp op') r')(hd':OpD X.K r' o')(ha:JE X XQ a fa)(hb:JE X XQ b fb)(hc:JE X XQ c fc)
  (hm:lastMarks [op,op'] [b,c]=false:=by with_unfolding_all rfl):JT X XQ (.Compare a [op,op'] [b,c] pos) (tb (ch o o' fa fb fc)):=PT.mono (Gl7 ho ho' ha hb hc hm) fun σ H Q h=>Gwx hd hd' σ H _ (Gml h)
def Gtu{K:By}:OpD K (rI0 fun i j=>.bl (decide (i<j))) ltD:=od_int0 fun _ _ _ _=>rfl
def Gtv{K:By}:OpD K (rI0 fun i j=>.bl (decide (i<=j))) leD:=od_int0 fun _ _ _ _=>rfl
end
def XAt(a c:BB)(h:Heap):Prop:=∃ oe,h.get? a=some oe/\oe.cls=.ref c/\∃ vs,oe.data=.fields vs
section
variable{prog:BD}{w:World}{A:Around}{E:Bz->BA->Prop}{h:Heap}{g:Array GenState}{d:Drawn}{t:Nat}{os:OsState}{a c:BB}{o:Obj}{K:By}
def Gwy{M:Model}(x:XAt a c h):PySem.W.Looks M h (typeOf (.ref a)) (.ref c):=by
 obtain⟨oe,h1,h2,_⟩:=x
 exact h2▸(PySem.W.Looks.ld h1).andThen .now
def Gwz{tp:Bz}{R:Result->BA->Prop}(X:K.In h)(k:XCl K c)(x:XAt a c h)(hq:R (.ok (.ret (.ref c))) ⟨h,g,d,t,os⟩):
  codeAny (model prog w) A (.call (.builtin "getset_descriptor.__get__") ⟨[.builtin "object.__class__",.ref a,tp],[]⟩) R ⟨h,g,d,t,os⟩:=by
 obtain⟨oe,hx,hc,_⟩:=x
 have hT5:(⟨h,g,d,t,os⟩:BA).TypeIs (.builtin "object.__class__") "getset_descriptor":=F.typeOf_object_class
 refine codeAny_call_builtin F.slot_gs_get.plain F.entry_gs_get (F.slot_gs_get.check _ _ _ _ _ _ _ _ hT5 (F.args_gs_get _ _ _) ?_)
 have L1:=fun(M:Model)=>PySem.W.looks_mroIn (M:=M) X k.ob
 have ow:=F.owner_object_class
 repeat (any_goals (first | assumption | (with_reducible refine wpAny_loadPart_at hx ?_; rw[hc]) | (rw[ow]; with_reducible refine(L1 _).here ?_) | wp_step))
 refine⟨Code.quiet_builtin _ (by decide +kernel),codeAny_builtin F.entry_object_class ?_⟩
 repeat (any_goals (first | assumption | (with_reducible refine wpAny_loadPart_at hx ?_; rw[hc]) | wp_step))
def Gm1{M:Model}{nameV:Bz}{Q:Unit->BA->Prop}(X:K.In h)(k:XCl K c)(x:XAt a c h)(hq:Q () ⟨h,g,d,t,os⟩):wpAny M A (checkBuiltinCall "BaseException.__getattribute__" ⟨[.ref a,nameV],[]⟩) Q E ⟨h,g,d,t,os⟩:=by
 obtain⟨oe,hx,hc,_⟩:=x
 have bk:builtinKind "BaseException.__getattribute__"=some .slot:=by decide +kernel
 have bs:splitId "BaseException.__getattribute__"=some ("BaseException","__getattribute__"):=by decide +kernel
 have ha:=F.args_bexc_ga (.ref a) nameV
 have L1:PySem.W.Looks M h (isSubtype (.ref c) (.type "BaseException")) true:=PySem.W.looks_subIn X k.be
 simp only[checkBuiltinCall,bk,bs]
 refine wpAny_bind ?_
 ·unfold isInstance
  repeat (first | (with_reducible refine wpAny_loadPart_at hx ?_; rw[hc]) | (with_reducible refine L1.here ?_) | wp_step)
  exact hq
def Gm2{tk:Tok}{Q:Fin->BA->Prop}(X:K.In h)(k:XCl K c)(x:XAt a c h)(hq:Q (.done (.ret (.ref c))) ⟨h,g,d,t,os⟩):
  wpAny (model prog w) A (Builtin.«object.__getattribute__» ⟨[.ref a,.str "__class__" tk],[]⟩) Q E ⟨h,g,d,t,os⟩:=by
 obtain⟨oe,hx,hc,hv⟩:=id x
 have hT5:(⟨h,g,d,t,os⟩:BA).TypeIs (.builtin "object.__class__") "getset_descriptor":=F.typeOf_object_class
 have f5:=F.typeOf_object_class
 have f6:=F.slot_gs_get.lookup
 have f7:=F.slot_gs_set.lookup
 have L1:=fun(M:Model)=>PySem.W.looks_findIn (M:=M) X k.cl
 repeat (any_goals (first | assumption | (with_reducible refine wpAny_loadPart_at hx ?_; rw[hc]) | with_reducible refine(L1 _).here ?_ | wp_step))
 refine Gwz X k x ?_
 repeat (any_goals (first | assumption | wp_step))
def Haf{tk:Tok}{fill expr:Bool}{Q:Bz->BA->Prop}(X:K.In h)(k:XCl K c)(x:XAt a c h)(hq:Q (.ref c) ⟨h,g,d,t,os⟩):
  wpAny (model prog w) A (getAttrBy (.ref a) (.str "__class__" tk) fill expr) Q E ⟨h,g,d,t,os⟩:=by
 obtain⟨oe,hx,hc,hv⟩:=id x
 have f3:=PySem.F.excAttr_ValueError.ga.bind (.ref a)
 have n0:(expr&&onTheHeap (Value.builtin "BaseException.__getattribute__"))=false:=by cases expr<;>rfl
 have n2:(Value.builtin "BaseException.__getattribute__"==Value.builtin "object.__getattribute__")=false:=by decide +kernel
 have n1:(onTheHeap (Value.ref c)&&Value.builtin "BaseException.__getattribute__"==Value.builtin "object.__getattribute__")=false:=by rw[n2]; rfl
 have L1:=fun(M:Model)=>PySem.W.looks_findIn (M:=M) X k.ga
 have L2:=fun(M:Model)=>PySem.W.looks_findIn (M:=M) X k.gt
 repeat (any_goals (first | assumption | (with_reducible refine wpAny_loadPart_at hx ?_; rw[hc]) | with_reducible refine(L1 _).here ?_ | with_reducible refine(L2 _).here ?_ | wp_step))
 refine codeAny_call_builtin PySem.F.excAttr_ValueError.ga.plain F.entry_bexc_ga (Gm1 X k x (Gm2 X k x ?_))
 repeat (any_goals (first | assumption | wp_step))
def Gq8{Q:BC Bz->BA->Prop}(X:K.In h)(k:XCl K c)(x:XAt a c h)(hq:Q (some (.ref c)) ⟨h,g,d,t+1,os⟩):wpAny (model prog w) A (getAttr? (.ref a) "__class__") Q E ⟨h,g,d,t,os⟩:=by
 unfold getAttr? getAttrBy?
 repeat (any_goals (first | assumption | with_reducible apply Haf X k x | wp_step))
end
def Ggm{K:By}{a c:BB}(k:XCl K c):PySem.W.KitX K (.ref a) (.ref c) (XAt a c) where
 ty:=fun _ _ _ x=>Gwy x
 it:=fun _ _ X _=>by
  obtain⟨cd,hc⟩:=Bw.mp k.cd
  unfold PySem.W.clsIn at hc
  split at hc
  ·rename_i c' d' cd' sl' ho
   intro A Q E s kp q
   unfold isType loadHead
   exact wpAny_bind (wpAny_loadPart (kp _ _ (X _ _ ho)) (wpAny_pure q))
  ·cases hc
 ne:=fun h tp dd its n sl X htp=>by
  obtain⟨cd,hc⟩:=Bw.mp k.cd
  refine AR.mpr fun q=>?_
  have e:c=tp:=Value.ref.inj (beq_iff_eq.mp q)
  subst e
  unfold PySem.W.clsIn at hc
  split at hc
  ·rename_i c' d' cd' sl' ho
   cases (X _ _ ho).symm.trans htp
  ·cases hc
 ca:=fun{prog w A E Q s} X x q=>by
  obtain⟨hh,g,d,t,os⟩:=s
  exact Gq8 X k x q
noncomputable def tyN:D->String
 | .non=>"NoneType"
 | .bl _=>"bool"
 | .int _=>"int"
 | .str _=>"str"
 | .tup _=>"tuple"
 | .lst _=>"list"
 | .exn _ _=>"exn"
 | .fv _=>"fv"
 | .dct _=>"dct"
noncomputable def isT(T t:String):Bool:=t==T||(T=="int"&&t=="bool")
def isD(T:String)(x:D)(S:Sto):Out D:=match x with
 | .fv _=>.bad
 | .dct _=>.bad
 | _=>.ok (.bl (isT T (tyN x))) S
def Kit(K:By)(T:String):Prop:=T∈["bool","int","str","tuple","list"]/\∀ t∈["NoneType","bool","int","str","tuple","list"],PySem.W.kitOne K (.type t) (.type T)=some (isT T t)
def Gq9{K:By}:Kit K "int":=by refine⟨by decide,?_⟩; intro t h; simp only[Ae,AN,or_false] at h; rcases h with rfl | rfl | rfl | rfl | rfl | rfl<;>first | rfl | decide +kernel | (with_unfolding_all rfl)
def Gm3{K:By}:Kit K "bool":=by refine⟨by decide,?_⟩; intro t h; simp only[Ae,AN,or_false] at h; rcases h with rfl | rfl | rfl | rfl | rfl | rfl<;>first | rfl | decide +kernel | (with_unfolding_all rfl)
def Glf{K:By}:Kit K "tuple":=by refine⟨by decide,?_⟩; intro t h; simp only[Ae,AN,or_false] at h; rcases h with rfl | rfl | rfl | rfl | rfl | rfl<;>first | rfl | decide +kernel | (with_unfolding_all rfl)
def Gjb{K:By}:Kit K "str":=by refine⟨by decide,?_⟩; intro t h; simp only[Ae,AN,or_false] at h; rcases h with rfl | rfl | rfl | rfl | rfl | rfl<;>first | rfl | decide +kernel | (with_unfolding_all rfl)
def Gm4{K:By}:Kit K "list":=by refine⟨by decide,?_⟩; intro t h; simp only[Ae,AN,or_false] at h; rcases h with rfl | rfl | rfl | rfl | rfl | rfl<;>first | rfl | decide +kernel | (with_unfolding_all rfl)
section
variable{X:Cx}{XQ:XW}
def Hcm(K:By)(T:String):List V->Hp->VK->Prop:=fun vs H Q=>∃ x t,vs=[x,.ty T]/\(match x with
 | .non=>t="NoneType" | .bl _=>t="bool" | .int _=>t="int" | .str _=>t="str"
 | .ref a=>(t="tuple"/\∃ xs,SqT K H a xs)\/(t="list"/\∃ xs,SqL K H a xs)\/(t="exn"/\∃ c dx,XCl K c/\H a=some (XO a c dx))
 | _=>False)/\Q (.bl (isT T t)) H
def Gtw{pins:List (BB×Obj)}{σ:L2.St}{H:Hp}{s:BA}{a c:BB}{dx:BC BB}(I:Inv X pins σ H s)(h:H a=some (XO a c dx)):XAt a c s.heap:=by
 obtain⟨⟨oe,h1,h2,_,h3⟩,_,_⟩:=(show Kj X.prog X.w H s.heap a (XO a c dx) from I.hok a _ h)
 exact⟨oe,h1,h2,h3⟩
def Gra{T:String}(h:T∈["bool","int","str","tuple","list"]):isT T "exn"=false:=by
 simp only[Ae,AN,or_false] at h
 rcases h with rfl | rfl | rfl | rfl | rfl<;>rfl
def Gm5{T:String}(k:Kit X.K T):Xq X (.builtin "isinstance") (Hcm X.K T):=by
 intro pins s σ H xs us Q I r ⟨x,t,e,h,q⟩
 subst e
 obtain⟨u,w,rfl,ru,rw'⟩:=Vals.two r
 cases (show w=Value.type T from rw')
 have fin:∀ tk,EP X pins σ Q (.bool (isT T t)) { s with toks:=tk }:=fun tk=>⟨.bl _,H,I.tok tk,rfl,q⟩
 cases x with
 | non=>cases (show u=Value.none from ru); cases (show t="NoneType" from h); exact PySem.W.kia_one PySem.W.kitx_none I.kIn True.intro (k.2 _ (by decide)) (fun z=>nomatch z) fin
 | bl y=>cases (show u=Value.bool y from ru); cases (show t="bool" from h); exact PySem.W.kia_one PySem.W.kitx_bool I.kIn True.intro (k.2 _ (by decide)) (fun z=>nomatch z) fin
 | int i=>obtain⟨tk,e⟩:=(show ∃ t,u=Value.int i t from ru); cases e; cases (show t="int" from h); exact PySem.W.kia_one PySem.W.kitx_int I.kIn True.intro (k.2 _ (by decide)) (fun z=>nomatch z) fin
 | str y=>obtain⟨tk,e⟩:=(show ∃ t,u=Value.str y t from ru); cases e; cases (show t="str" from h); exact PySem.W.kia_one PySem.W.kitx_str I.kIn True.intro (k.2 _ (by decide)) (fun z=>nomatch z) fin
 | ref a=>
  cases (show u=Value.ref a from ru)
  rcases h with⟨rfl,xs,sq⟩ | ⟨rfl,xs,sq⟩ | ⟨rfl,c,dx,xc,hH⟩
  ·obtain⟨its,_,⟨o,h1,h2,_⟩,_⟩:=I.tuple sq
   exact PySem.W.kia_one PySem.W.kitx_tuple I.kIn ⟨o,h1,h2⟩ (k.2 _ (by decide)) (fun z=>nomatch z) fin
  ·obtain⟨its,_,⟨o,n,h1,h2,_⟩,_⟩:=I.list sq
   exact PySem.W.kia_one PySem.W.kitx_list I.kIn ⟨o,h1,h2⟩ (k.2 _ (by decide)) (fun z=>nomatch z) fin
  ·have xa:=Gtw I hH
   have e:isT T "exn"=false:=Gra k.1
   rw[e] at fin
   exact PySem.W.kia_one (Ggm xc) I.kIn xa (xc.bt T k.1) (fun z=>nomatch z) fin
 | _=>exact h.elim
def Gw0{T:String}{x:Str}{e:Expr}{f:Ev D}{p p2 pos:Pos}(k:Kit X.K T)(hv:bootBuiltins x=some (.type T))(hnx:x≠"__name__")(hdx:(x==("__debug__":Str))=false)(hg:Gl X "isinstance")(hm:X.mg "isinstance"=none)(hgt:Gl X x)(hmt:X.mg x=none)(he:JE X XQ e f)
  (hs:starEach [e,.Name x p2] X.env=(false,eval e X.env)::starEach [.Name x p2] X.env) (hpl:(backTo pos (starEach [.Name x p2] X.env)).any (·.1)=false) (hs2:starEach [.Name x p2] X.env=(false,eval (.Name x p2) X.env)::starEach [] X.env):
  JE X XQ (.Call (.Name "isinstance" p) [e,.Name x p2] [] pos) (o1 (isD T) f):=by
 refine PE.mono (Zy (Gm5 k) hg hm (by rfl) (Vb he (Vb (Gi0 hgt hmt hv (v:=.ty T) rfl hnx hdx) pa_nil hs2) hs) (by decide) (by decide) hs hpl) fun σ H Q ⟨mp,ρ,S,G,q⟩=>?_
 refine bindP G q fun mp1 H1 d S1 v a1 G1 r1 p1=>?_
 have p2:((∃ c,d=.fv c)\/∃ c,d=.dct c)\/Post X.K XQ σ ρ mp1 H1 (.ok (.bl (isT T (tyN d))) S1) Q:=by cases d<;>first | exact .inr p1 | exact .inl (.inl ⟨_,rfl⟩) | exact .inl (.inr ⟨_,rfl⟩)
 rcases p2 with(⟨c,rfl⟩ | ⟨c,rfl⟩) | p2
 ·exact(show False from p1).elim
 ·exact(show False from p1).elim
 refine⟨v,tyN d,rfl,?_,Gj.ok (R:=Rep X.K) p2 G1.rs rfl⟩
 cases d with
 | non=>cases (show v=.non from r1); exact rfl
 | bl b=>cases (show v=.bl b from r1); exact rfl
 | int b=>cases (show v=.int b from r1); exact rfl
 | str b=>cases (show v=.str b from r1); exact rfl
 | tup l=>obtain⟨a,xs,rfl,sq,_⟩:=Rep.tup r1; exact .inl ⟨rfl,xs,sq⟩
 | lst i=>
  obtain⟨a,rfl,ha,_⟩:=(show ∃ a,v=.ref a/\mp1[i]?=some a/\¬ Dcy H1 a from r1)
  have hl:i<S1.length:=by rw[<- G1.rs.len]; exact(Aa.mp ha).1
  obtain⟨a2,xs,e2,_,sq,_⟩:=G1.rs.items r1 (Af hl)
  cases e2
  exact .inr (.inl ⟨rfl,xs,sq⟩)
 | exn c n=>
  obtain⟨a,dx,q,rfl,⟨_,xc,hH⟩,_⟩:=(show ∃ a dx p,v=.ref a/\(CN X.K c p/\XCl X.K p/\H1 a=some (XO a p dx))/\∀ i,n=some i->∃ d,dx=some d/\H1 d=some (XA d i) from r1)
  exact .inr (.inr ⟨rfl,q,dx,xc,hH⟩)
 | fv c=>exact(show False from p1).elim
 | dct c=>exact(show False from p1).elim
end
section
variable{X:Cx}{XQ:XW}
def spar(i j:Nat)(f:Ev (List D)):Sv:=fun ρ S=>bindS (f ρ S) ρ fun ds S1=>match ds with
 | [d,e]=>.nx ((ρ.set i (some d)).set j (some e)) S1
 | _=>.bad
def Gw1(i j:Nat){x y:Str}{a b:Expr}{f:Ev (List D)}{px py pt pos:Pos}{kt k2 pt2}(hc:X.calm=true)(hN:X.N.Nodup)(hi:X.N[i]?=some x)(hj:X.N[j]?=some y)(hij:i≠j)
  (hx:X.env.scope.names.lookup x=some .local) (hy:X.env.scope.names.lookup y=some .local) (ha:JA X XQ [a,b] f)
  (hw:swappedStores [.Tuple [.Name x px,.Name y py] kt pt] (.Tuple [a,b] k2 pt2) X.env=pure (some [x,y]))
  (hs:swapsWithSole [.Tuple [.Name x px,.Name y py] kt pt] (.Tuple [a,b] k2 pt2) pos.line X.env=pure false:=by rfl):
  JS X XQ (.Assign [.Tuple [.Name x px,.Name y py] kt pt] (.Tuple [a,b] k2 pt2) pos) (spar i j f):=by
 refine PS.mono (Guy hc hN hi hj hij hx hy ha hw hs) fun E σ H ⟨mp,ρ,S,G,p⟩=>?_
 refine bindSP G p fun mp1 H1 ds S1 vs a1 G1 r1 p1=>?_
 split at p1
 ·obtain⟨v,w,rfl,h1,h2⟩:=RepL.two r1
  exact⟨v,w,rfl,PostS.nx p1 ((G1.set i h1).set j h2)⟩
 ·exact p1.elim
end
section
variable{X:Cx}{XQ:XW}
def Gtx(X:Cx)(id:String)(o:List D->Sto->Out D):Prop:=
 ∀ (pins:List (BB×Obj)) (s:BA) (σ:L2.St) (ρ:Lc) (XQ:XW) (mp:List BB) (H:Hp) (S:Sto) (ds:List D) (vs:List V) (us:List Bz) (Q:VK),Inv X pins σ H s->RS X.K mp H S->RepL X.K mp H ds vs->Vals vs us->Post X.K XQ σ ρ mp H (o ds S) Q→
  (∀ (e:XD) (S':Sto),o ds S≠.exc e S')->wpAny (model X.prog X.w) X.A (call (.builtin id) us) (EP X pins σ Q) X.xe s
def Grb{id:String}{x:Str}{p pos:Pos}{e:Expr}{es:List Expr}{o:List D->Sto->Out D}{f:Ev (List D)}(hc:Gtx X id o)(hno:∀ ds S e S',o ds S≠.exc e S')(hg:Gl X x)(hm:X.mg x=none)(hv:bootBuiltins x=some (.builtin id))(ha:JA X XQ (e::es) f)(hn:x≠"__name__":=by decide)(hdb:(x==("__debug__":Str))=false:=by decide)
  (he:starEach (e::es) X.env=(false,eval e X.env)::starEach es X.env:=by rfl) (hpl:(backTo pos (starEach es X.env)).any (·.1)=false:=by rfl):JE X XQ (.Call (.Name x p) (e::es) [] pos) (b1 o f):=by
 intro pins s σ H Q I ⟨mp,ρ,S,G,q⟩
 refine wpAny_Call_Name_kw (Xx I hg hm hv ?_ hn hdb)
 refine PyProof.Rows.callWith_builtin1 (thn (ha pos pins s σ H _ I (bindP G q fun mp1 H1 ds S1 vs a1 G1 r1 p1=>(⟨mp1,ρ,S1,ds,G1,r1,p1⟩:∃ mp1 ρ S1 ds,Gd X.K mp1 H1 σ ρ S1/\RepL X.K mp1 H1 ds vs/\Post X.K XQ σ ρ mp1 H1 (o ds S1) Q))) fun us s1 ⟨vs,H1,I1,rv,mp1,ρ1,S1,ds,G1,r1,p1⟩=>?_) he hpl
 exact hc pins s1 σ ρ1 XQ mp1 H1 S1 ds vs us Q I1 G1.rs r1 rv p1 (hno _ _)
def Qp(xs:List D)(S:Sto):Out D:=match xs with
 | [.non]=>.ok (.str "None") S
 | [.bl b]=>.ok (.str (if b then "True" else "False")) S
 | [.int i]=>if i.natAbs.log2<1920 then .ok (.str (toString i)) S else .bad
 | [.str x]=>if(reprText x).length<=1000000 then .ok (.str (reprText x)) S else .bad
 | [d]=>match toP S 40 d with
  | some p=>if(p.showable&&!p.hasDict&&decide (p.depth<=60))=true/\p.shown.length<=1000000 then .ok (.str p.shown) S else .bad
  | none=>.bad
 | _=>.bad
def Grc(ds:List D)(S:Sto)(e:XD)(S':Sto):Qp ds S≠.exc e S':=by
 unfold Qp
 split<;>(try split)<;>(try split)<;>exact fun z=>nomatch z
def Grd{k:Nat}(hr:Room k X.A):Gtx X "repr" Qp:=by
 intro pins s σ ρ XQ mp H S ds vs us Q I rs r rv p hno
 clear hno
 have big:∀ (d:D) (v:V) (a:BB) (u:Bz),Rep X.K mp H d v->v=.ref a->Hf v u->Post X.K XQ σ ρ mp H (match toP S 40 d with
   | some p=>if(p.showable&&!p.hasDict&&decide (p.depth<=60))=true/\p.shown.length<=1000000 then .ok (.str p.shown) S else .bad
   | none=>.bad) Q->wpAny (model X.prog X.w) X.A (call (.builtin "repr") [u]) (EP X pins σ Q) X.xe s:=by
  intro d v a u rd ev ru p
  subst ev
  cases z:toP S 40 d with
  | none=>rw[z] at p; exact p.elim
  | some q=>
   rw[z] at p
   by_cases h:(q.showable&&!q.hasDict&&decide (q.depth<=60))=true/\q.shown.length<=1000000
   ·have p:Post X.K XQ σ ρ mp H (.ok (.str q.shown) S) Q:=by simpa only[if_pos h] using p
    obtain⟨as,ra⟩:=Zn I rs 40 d _ u q rd ru z
    cases (show u=Value.ref a from ru)
    have h1:=h.1
    rw[Aq,Aq] at h1
    have hd:q.depth<=60:=of_decide_eq_true h1.2
    have hu:=hr.units
    refine repr_of_reads' ra h1.1.1 (fun z=>by rw[z] at h1; simp at h1) hr.gd (by omega) (fun _ _ e=>e) (fun h' u' tk hk=>?_) (line_le h.2)
    exact⟨.str q.shown,H,I.kept (h':=h') (t':=tk) hk,⟨_,rfl⟩,Gj.ok p rs rfl⟩
   ·simp only[if_neg h] at p; exact p.elim
 unfold Qp at p
 split at p
 ·obtain⟨v,rfl,h⟩:=RepL.one r
  obtain⟨u,rfl,ru⟩:=Vals.one rv
  cases (show v=.non from h); cases (show u=Value.none from ru)
  exact PySem.P.repr_of_none ⟨.str "None",H,I.tok _,⟨_,rfl⟩,Gj.ok (R:=Rep X.K) p rs rfl⟩
 ·rename_i b
  obtain⟨v,rfl,h⟩:=RepL.one r
  obtain⟨u,rfl,ru⟩:=Vals.one rv
  cases (show v=.bl b from h); cases (show u=Value.bool b from ru)
  exact PySem.P.repr_of_bool ⟨.str _,H,I.tok _,⟨_,rfl⟩,Gj.ok (R:=Rep X.K) p rs (by cases b<;>rfl)⟩
 ·rename_i i
  obtain⟨v,rfl,h⟩:=RepL.one r
  obtain⟨u,rfl,ru⟩:=Vals.one rv
  cases (show v=.int i from h); obtain⟨t,rfl⟩:=(show ∃ t,u=Value.int i t from ru)
  by_cases hi:i.natAbs.log2<1920
  ·rw[if_pos hi] at p
   exact PySem.P.repr_of_int hi ⟨.str _,H,I.tok _,⟨_,rfl⟩,Gj.ok (R:=Rep X.K) p rs rfl⟩
  ·rw[if_neg hi] at p; exact p.elim
 ·rename_i x
  obtain⟨v,rfl,h⟩:=RepL.one r
  obtain⟨u,rfl,ru⟩:=Vals.one rv
  cases (show v=.str x from h); obtain⟨t,rfl⟩:=(show ∃ t,u=Value.str x t from ru)
  by_cases hi:(reprText x).length<=1000000
  ·rw[if_pos hi] at p
   exact PySem.P.repr_of_str ⟨.str _,H,I.tok _,⟨_,rfl⟩,Gj.ok (R:=Rep X.K) p rs rfl⟩ (line_le hi)
  ·rw[if_neg hi] at p; exact p.elim
 ·rename_i d n1 n2 n3 n4
  obtain⟨v,rfl,h⟩:=RepL.one r
  obtain⟨u,rfl,ru⟩:=Vals.one rv
  cases d with
  | non=>exact absurd rfl n1
  | bl b=>exact absurd rfl (n2 b)
  | int i=>exact absurd rfl (n3 i)
  | str x=>exact absurd rfl (n4 x)
  | tup l=>obtain⟨a,xs,ev,_⟩:=Rep.tup h; exact big _ v a u h ev ru p
  | lst i=>obtain⟨a,ev,_⟩:=(show ∃ a,v=.ref a/\mp[i]?=some a/\¬ Dcy H a from h); exact big _ v a u h ev ru p
  | exn c n=>obtain⟨a,dx,_,ev,_⟩:=(show ∃ a dx p,v=.ref a/\(CN X.K c p/\XCl X.K p/\H a=some (XO a p dx))/\∀ i,n=some i->∃ d,dx=some d/\H d=some (XA d i) from h); exact big _ v a u h ev ru p
  | fv c=>obtain⟨a,ev,_⟩:=(show ∃ a,v=.ref a/\CN X.K c a from h); exact big _ v a u h ev ru p
  | dct c=>obtain⟨a,ev,_⟩:=(show ∃ a,v=.ref a/\mp[c]?=some a/\Dcy H a from h); exact big _ v a u h ev ru p
 ·exact p.elim
def Gre{k:Nat}{p pos:Pos}{e:Expr}{f:Ev (List D)}(hr:Room k X.A)(hg:Gl X "repr")(hm:X.mg "repr"=none)(ha:JA X XQ [e] f)(he:starEach [e] X.env=(false,eval e X.env)::starEach [] X.env:=by rfl):JE X XQ (.Call (.Name "repr" p) [e] [] pos) (b1 Qp f):=Grb (Grd hr) Grc hg hm (by rfl) ha (he:=he)
end
end DL
namespace DL
open PySem
variable{es:List Expr}{env:PySem.Env}
def Gb{c j p}:starEach (.Constant c j p::es) env=(false,eval (.Constant c j p) env)::starEach es env:=rfl
def Gf{x p}:starEach (.Name x p::es) env=(false,eval (.Name x p) env)::starEach es env:=rfl
def Hn{a b p}:starEach (.Tuple a b p::es) env=(false,eval (.Tuple a b p) env)::starEach es env:=rfl
def Gjc{a p}:starEach (.List a p::es) env=(false,eval (.List a p) env)::starEach es env:=rfl
def Ho{f a k p}:starEach (.Call f a k p::es) env=(false,eval (.Call f a k p) env)::starEach es env:=rfl
def Gq{a b p}:starEach (.Subscript a b p::es) env=(false,eval (.Subscript a b p) env)::starEach es env:=rfl
def Jj{a o b p}:starEach (.BinOp a o b p::es) env=(false,eval (.BinOp a o b p) env)::starEach es env:=rfl
def Gh7{o a p}:starEach (.UnaryOp o a p::es) env=(false,eval (.UnaryOp o a p) env)::starEach es env:=rfl
def Gh8{a o b p}:starEach (.Compare a o b p::es) env=(false,eval (.Compare a o b p) env)::starEach es env:=rfl
def Gm6{a b c p}:starEach (.IfExp a b c p::es) env=(false,eval (.IfExp a b c p) env)::starEach es env:=rfl
def Gbq{a b c p}:starEach (.ListComp a b c p::es) env=(false,eval (.ListComp a b c p) env)::starEach es env:=rfl
end DL
namespace DL
open PySem PySem.Spec PyProof.Rows L2
variable{h:Heap}{st b0:Stmt}{ps N N' sub:List Str}{f fa fb fo:Ev D}{od dx:BC BB}{osl:Array (BC Bz)}{doc pm cdv ct v:Bz}{fn:Fn}{j k n:Nat}{p pos' py spos p2 np cpos apos hpos:Pos}{es ifs:List Expr}{t:Ev (List D)}{P:BD}{H2 H H1:Hp}{C:BB}{scope:Scope}{c:List (Str×BB)}{fp:List BB}{elt tg iter a b o:Expr}{y qual:Str}{K:By}{w:World}{A:Around}{Q:Bz->BA->Prop}{fh:Sv}{X:Cx}{pins:List (BB×Obj)}{σ:L2.St}{vs:Array Bz}{bm:List Bz}{oI:Obj}{T:String}{φ:Heap->Prop}{XQ:XW}{sp:Sp}{ρ:Lc}{S:Sto}{body suite:List Stmt}{fc:Ev Bool}
structure Cal(P:BD)(w:World)(K:By)(mg:Str->BC Bz)(base:Heap)(x:Str)(ps:List Str)(fn:Fn)(j:Nat):Prop where
 ex:∃ f fd,FnOk P w K mg base CX0 j f fd ps (spD K ps.length fn)/\mg x=some (.ref f)/\PySem.W.keepIn K (.ref f)=true/\Binds K fd ps []
structure Dn(K:By)(mg:Str->BC Bz)(x:Str)(st:Stmt)(ps:List Str):Prop where
 ex:∃ f fd,Fun K x x st f fd/\mg x=some (.ref f)/\Binds K fd ps []
section
variable{P:BD}{w:World}{K:By}{mg:Str->BC Bz}{base:Heap}
def Hag{x:Str}{f:BB}{oc:Bz}{an:BC BB}{kV:Bz}(X:K.In h)(G:h.Ns mainGlobals mg)(a:PySem.W.nsIn K mainGlobals x=some (some (.ref f)))(l:K.lookup f=some ⟨oc,od,.func (PySem.W.fnOf x x (Hz st) (Hb st) (Gc st) .none kV doc pm an cdv ct),osl⟩)(c:PySem.W.codeIn K cdv x=true)(k:PySem.W.keepIn K (.ref f)=true)(hb:∀ (kV doc pm:Bz) (an:BC BB) (cdv ct:Bz) (us:List Bz),us.length=ps.length->bindArgs (PySem.W.fnOf x x (Hz st) (Hb st) (Gc st) .none kV doc pm an cdv ct) ⟨us,[]⟩=pure (ps.zip us)):Dn K mg x st ps:=
 ⟨f,_,Ge3 l c k,PySem.W.mg_of X G a,(Ge3 (st:=st) l c k).binds hb⟩
def Gw2{x:Str}(N:List Str)(k:Nat)(b:Sv)(hfn:fn=fnB N.length b)(d:Dn K mg x st ps)(Sc:FnScope N ps (Gc st))(hb:∀ (f:BB) (cdv:Bz) (A:Around) (outer:List PySem.Env) (s:BA) (H:Hp) (E:XK),Room k (A.deeper (envOfC x (Gc st) s.heap.objs.size f cdv))→
   JSs (Qy CX0 P w K mg base N x (Gc st) f cdv A outer s H E).nox XN (Hb st) b):Cal P w K mg base x ps fn (k+1):=by
 subst hfn
 obtain⟨f,fd,F,hm,hbi⟩:=d.ex
 exact⟨f,fd,Gtk F Sc (hb f),hm,F.kp,hbi⟩
end
section
variable{X:Cx}{XQ:XW}
def Gw3{x:Str}{pos:Pos}{e:Expr}(C:Cal X.prog X.w X.K X.mg X.base x ps fn j)(hr:Room k X.A)(ha:JA X XQ (e::es) t)(hn:ps.length=n)(hj:j<=k:=by decide)(hg:Gl X x:=by rfl)(hdb:(x==("__debug__":Str))=false:=by decide)(he:starEach (e::es) X.env=(false,eval e X.env)::starEach es X.env:=by rfl)(hpl:(backTo pos (starEach es X.env)).any (·.1)=false:=by rfl):
  JE X XQ (.Call (.Name x p) (e::es) [] pos) (cl n (Gi fn) t):=by
 subst hn
 obtain⟨f,fd,F,hm,hk,hb⟩:=C.ex
 exact Gqq F hr hj hg hm hk hb ha hdb he hpl
def Gh9{x:Str}{v:V}{u:Bz}{d:D}{pos:Pos}(hm:X.mg x=some u)(r:Hf v u)(rep:∀ mp H,Rep X.K mp H d v)(hg:Gl X x)(hd:(x==("__debug__":Str))=false):JE X XQ (.Name x pos) (cn d):=Wn (Gey hg hm r hd) rep
noncomputable def Gw(x:Str):Bool:=!(x==("__debug__":Str))&&!(x==("__classdict__":Str))
def okV(sc:Scope)(x:Str):Bool:=(match sc.names.lookup x with
 | some .local=>true
 | some .cell=>true
 | some .free=>true
 | _=>false)&&Gw x
noncomputable def okL(sc:Scope)(x:Str):Bool:=match sc.names.lookup x with
 | some .local=>true
 | some .cell=>true
 | _=>false
def okG(sc:Scope)(x:Str):Bool:=(match sc.names.lookup x with
 | some .globalImplicit=>true
 | _=>false)&&Gw x
def Gw.of{x:Str}(h:Gw x=true):(x==("__debug__":Str))=false/\(x==("__classdict__":Str))=false:=by
 unfold Gw at h
 rw[Aq] at h
 exact⟨by simpa using h.1,by simpa using h.2⟩
def okV.vis{sc:Scope}{x:Str}(h:okV sc x=true):Vis sc x/\Gw x=true:=by
 unfold okV at h
 rw[Aq] at h
 refine⟨?_,h.2⟩
 have h:=h.1
 split at h
 ·rename_i e; exact .inl e
 ·rename_i e; exact .inr (.inl e)
 ·rename_i e; exact .inr (.inr e)
 ·cases h
def okL.loc{sc:Scope}{x:Str}(h:okL sc x=true):Loc sc x:=by
 unfold okL at h
 split at h
 ·rename_i e; exact .inl e
 ·rename_i e; exact .inr e
 ·cases h
def okG.gl{sc:Scope}{x:Str}(h:okG sc x=true):sc.names.lookup x=some .globalImplicit/\Gw x=true:=by
 unfold okG at h
 rw[Aq] at h
 refine⟨?_,h.2⟩
 have h:=h.1
 split at h
 ·rename_i e; exact e
 ·cases h
structure OkV(sc:Scope)(x:Str):Prop where
 h:okV sc x=true
structure OkL(sc:Scope)(x:Str):Prop where
 h:okL sc x=true
structure OkC(sc:Scope)(x:Str):Prop where
 h:sc.names.lookup x=some .local
structure OkG(sc:Scope)(x:Str):Prop where
 h:okG sc x=true
def kdV{s:Scope}{x:Str}(h:okV s x=true:=by decide +kernel):OkV s x:=⟨h⟩
def kdL{s:Scope}{x:Str}(h:okL s x=true:=by decide +kernel):OkL s x:=⟨h⟩
def kdG{s:Scope}{x:Str}(h:okG s x=true:=by decide +kernel):OkG s x:=⟨h⟩
noncomputable def kdS{P:List Str}{s:Scope}(a:s.kind=.function:=by rfl)(b:s.isCoroutine=false:=by rfl)(c:s.isGenerator=false:=by rfl)(d:N.Nodup:=by decide +kernel)(e:N.take P.length=P:=by rfl)(f:∀ x∈P,s.names.lookup x=some .local\/s.names.lookup x=some .cell:=by decide +kernel)(g:∀ y∈s.names,y.2≠.free:=by decide +kernel):FnScope N P s:=⟨a,b,c,d,e,f,g⟩
def jv(i:Nat){x:Str}{pos:Pos}(h:OkV X.env.scope x)(hN:X.N[i]?=some x:=by rfl):JE X XQ (.Name x pos) (vr i):=Gmk i hN (okV.vis h.h).1 (Gw.of (okV.vis h.h).2).1 (Gw.of (okV.vis h.h).2).2
def gl{x:Str}(h:OkG X.env.scope x):Gl X x:=(okG.gl h.h).1
def jgn(i:Nat){x:Str}{pos:Pos}(hN:X.N.Nodup)(h:OkL X.env.scope x)(hi:X.N[i]?=some x:=by rfl)(hf:X.fn x=true:=by rfl):JG X (.Name x pos) (gn i):=Ge6 i hN hi (okL.loc h.h) (.inl hf)
def jset(i:Nat){x:Str}{e:Expr}{pos:Pos}(hN:X.N.Nodup)(h:OkL X.env.scope x)(he:JE X XQ e f)(hi:X.N[i]?=some x:=by rfl)(hs:swapsWith e (some (.Name x pos')) pos.line X.env=pure false:=by rfl)(hf:X.fn x=true:=by rfl):
  JS X XQ (.Assign [.Name x pos'] e pos) (sa f (gn i)):=Gv5 i hN he hi (okL.loc h.h) hs (.inl hf)
def jown{x:Str}{pos:Pos}{e:Expr}(C:Cal X.prog X.w X.K X.mg X.base x ps fn j)(hr:Room k X.A)(hg:Gl X x)(hp:Gw x=true)(ha:JA X XQ (e::es) t)(hn:ps.length=n:=by rfl)(hj:j<=k:=by decide)(he:starEach (e::es) X.env=(false,eval e X.env)::starEach es X.env:=by rfl)(hpl:(backTo pos (starEach es X.env)).any (·.1)=false:=by rfl):
  JE X XQ (.Call (.Name x p) (e::es) [] pos) (cl n (Gi fn) t):=Gw3 C hr ha hn hj hg (Gw.of hp).1 he hpl
def Gm7(sc:Scope)(x:Str):Bool:=(match sc.names.lookup x with
 | some .local=>true
 | some .cell=>true
 | some .free=>true
 | _=>false)&&Gw x
def Jk{scope:Scope}{env:PySem.Env}{x:Str}{k:NameKind}(hk:k≠.free):∀ (names:List (Str×NameKind)),names.lookup x=some k->(names.map fun(n,k)=>if(k==NameKind.free&&env.scope.kind==.function&&env.kindOf n==some .cell)=true then(n,NameKind.cell) else(n,k)).lookup x=some k
 | [],h=>by simp at h
 | (n,k')::r,h=>by
  rw[At]
  by_cases hx:(x==n)=true
  ·rw[Av,hx] at h
   have:k'=k:=by simpa using h
   subst this
   have hb:(k'==NameKind.free)=false:=by simpa using hk
   simp only[hb,Bool.false_and,Ay,if_false,Av,hx]
  ·have hx:(x==n)=false:=by simpa using hx
   rw[Av,hx] at h
   have:=Jk (scope:=scope) (env:=env) hk r h
   by_cases hq:(k'==NameKind.free&&env.scope.kind==.function&&env.kindOf n==some .cell)=true
   ·simpa only[hq,if_true,Av,hx] using this
   ·simpa only[hq,Ay,if_false,Av,hx] using this
def Gfc{s2:BA}{x:Str}(h:Gm7 scope x=true):Vis (blk X s2 H2 C scope c N' fp).env.scope x/\Gw x=true:=by
 unfold Gm7 at h
 rw[Aq] at h
 refine⟨?_,h.2⟩
 have h:=h.1
 split at h
 ·rename_i e; exact .inl (lookup_relabel_local e)
 ·rename_i e; exact .inr (.inl (Jk (scope:=scope) (env:=X.env) (by decide) scope.names e))
 ·rename_i e; exact .inr (Kz (scope:=scope) (env:=X.env) scope.names e)
 ·cases h
def jvB(i:Nat){s2:BA}{x:Str}{pos:Pos}(h:Gm7 scope x=true)(hN:N'[i]?=some x:=by rfl):JE (blk X s2 H2 C scope c N' fp) XQ (.Name x pos) (vr i):=
 Gmk i hN (Gfc h).1 (Gw.of (Gfc (X:=X) (s2:=s2) (H2:=H2) (C:=C) (c:=c) (N':=N') (fp:=fp) h).2).1 (Gw.of (Gfc (X:=X) (s2:=s2) (H2:=H2) (C:=C) (c:=c) (N':=N') (fp:=fp) h).2).2
def glB{s2:BA}{x:Str}(h:okG scope x=true):Gl (blk X s2 H2 C scope c N' fp) x:=
 Jk (scope:=scope) (env:=X.env) (by decide) scope.names (okG.gl h).1
noncomputable def Grf(sc:Scope)(x:Str):Bool:=match sc.names.lookup x with
 | some .local=>true
 | some .cell=>true
 | _=>false
def Hcn(i:Nat){s2:BA}{x:Str}{pos:Pos}(hN:N'.Nodup)(h:Grf scope x=true)(hi:N'[i]?=some x:=by rfl):JG (blk X s2 H2 C scope c N' fp) (.Name x pos) (gn i):=by
 unfold Grf at h
 split at h
 ·rename_i e
  exact Ge6 i hN hi (.inl (lookup_relabel_local e)) (.inr (lookup_relabel_local e))
 ·rename_i e
  exact Ge6 i hN hi (.inr (Jk (scope:=scope) (env:=X.env) (by decide) scope.names e)) (.inl (by show(scope.names.lookup x==some NameKind.cell)=true; rw[e]; rfl))
 ·cases h
def jcomp{sc:Scope}{pos:Pos}{pk:List (BC Nat)}{f:Ev Src}{g:Tg}{t:Ev Bool}{e:Ev D}(hsc:X.env.scope=sc)(hNN:X.N=N)(ct:CompTab sc scope N N' pk)(hcm:X.calm=true)(hi:JI X XQ tg iter f)(hg:∀ cl s2 H2 C fp,JG (blk X s2 H2 C scope cl N' fp) tg g)(ht:∀ cl s2 H2 C fp,JTs (blk X s2 H2 C scope cl N' fp) XN ifs t)(he:∀ cl s2 H2 C fp,JE (blk X s2 H2 C scope cl N' fp) XN elt e)(hs:∀ x,foldedSetIterable iter X.env x=pure x:=by intro _; rfl):JE X XQ (.ListComp elt [⟨tg,iter,ifs,0⟩] scope pos) (cmp f pk g t e):=by
 subst hsc hNN
 exact Gqw ct hcm hi hg ht he hs
def Gm8(i:Nat){sc:Scope}{pos:Pos}{pk:List (BC Nat)}{f:Ev Src}{g:Tg}{t:Ev Bool}{e:Ev D}(hsc:X.env.scope=sc)(hNN:X.N=N)(ct:CompTab sc scope N N' pk)(hcm:X.calm=true)(hi:JI X XQ tg iter f)(hg:∀ cl s2 H2 C fp,JG (blk X s2 H2 C scope cl N' fp) tg g)(ht:∀ cl s2 H2 C fp,JTs (blk X s2 H2 C scope cl N' fp) XN ifs t)(he:∀ cl s2 H2 C fp,JE (blk X s2 H2 C scope cl N' fp) XN elt e)(hN:X.N.Nodup)(hl:OkL X.env.scope y)(hsw:swapsWith (.ListComp elt [⟨tg,iter,ifs,0⟩] scope pos) (some (.Name y py)) spos.line X.env=pure true)(hy:X.N[i]?=some y:=by rfl)(hs:∀ x,foldedSetIterable iter X.env x=pure x:=by intro _; rfl)(hf:X.fn y=true:=by rfl):
  JS X XQ (.Assign [.Name y py] (.ListComp elt [⟨tg,iter,ifs,0⟩] scope pos) spos) (sa (cmp f pk g t e) (gn i)):=by
 subst hsc hNN
 exact Gh3 i ct hcm hi hg ht he hN hy (okL.loc hl.h) hsw hs (.inl hf)
end
section
variable{X:Cx}{XQ:XW}
def Gw4{j:Int}(h1:0<j)(h2:j<2^200):j.natAbs.log2<9000:=by
 have h3:j.natAbs<2^200:=by omega
 exact Ai ((Nat.log2_lt (by omega)).mpr h3) (by decide)
def Gm9:OpR X (binaryOp .FloorDiv) (rI (fun _ j=>0<j/\j<2^200) fun i j=>.int (i / j)):=opI fun i j _ _ _ _ _ hc q=>by
 have h1:(0:Int)<j:=hc.1
 have h2:j<2^200:=hc.2
 exact floordiv_int (by omega) (by rw[Int.fdiv_eq_ediv_of_nonneg i (by omega)]; exact q) (.inl (PyProof.noPylong_of_log2 (Gw4 h1 h2)))
abbrev Vs:=i2 (fun _ j=>decide (0<j/\j<2^200)) fun i j=>.int (i / j)
def Grg{pos:Pos}(ha:JE X XQ a fa)(hb:JE X XQ b fb):JE X XQ (.BinOp a .FloorDiv b pos) (o2 Vs fa fb):=Geh Gm9 (Ge9 (fun _ j h=>(of_decide_eq_true h:0<j/\j<2^200)) fun _ _ _ _=>rfl) ha hb
noncomputable def Gct:List D->BC (List Int)
 | []=>some []
 | .int i::r=>(Gct r).map (i::·)
 | _::_=>none
noncomputable def Hah(x:D)(S:Sto):BC (List D):=match x with
 | .tup l=>some l
 | .lst i=>(S[i]?).map (·.xs)
 | _=>none
def Hco(xs:List D)(S:Sto):Out D:=match xs with
 | [x]=>match (Hah x S).bind Gct with
  | some ns=>.ok (.int ns.sum) S
  | none=>.bad
 | _=>.bad
noncomputable def Hcp(xs:List D)(S:Sto):Out D:=match xs with
 | [.int i,.int j]=>.ok (.int (if j>i then j else i)) S
 | _=>.bad
def sag(i:Nat)(g:Int->Int->Int)(f:Ev D):Sv:=fun ρ S=>match ρ[i]? with
 | some (some (.int a))=>bindS (f ρ S) ρ fun d S1=>match d with
  | .int b=>.nx (ρ.set i (some (.int (g a b)))) S1
  | _=>.bad
 | _=>.bad
def Hcq{i:Nat}{g:Int->Int->Int}(E:Ends)(σ:L2.St)(H:Hp)(h:rdS K XQ (sag i g f) E σ H):Gzf i (rdE K XQ f) (ipI g) E σ H:=by
 obtain⟨mp,ρ,S,G,p⟩:=h
 unfold sag at p
 split at p
 ·rename_i a z
  obtain⟨v,e1,r⟩:=G.loc i _ z
  cases (show v=.int a from r)
  refine⟨_,e1,bindSP G p fun mp1 H1 d S1 v a1 G1 r1 p1=>?_⟩
  cases d with
  | int b=>
   cases (show v=.int b from r1)
   exact⟨a,b,rfl,rfl,PostS.nx p1 (G1.set i rfl)⟩
  | _=>exact(show False from p1).elim
 ·exact p.elim
def Gw5(i:Nat){x:Str}{e:Expr}{pos:Pos}(hN:X.N.Nodup)(h:OkL X.env.scope x)(he:JE X XQ e f)(hi:X.N[i]?=some x:=by rfl)(hf:X.fn x=true:=by rfl):JS X XQ (.AugAssign (.Name x pos') .Add e pos) (sag i (fun a b=>a+b) f):=
 PS.mono (Guz hN hi (okL.loc h.h) he Gu0 (.inl hf)) Hcq
end
def Gab{prog:BD}{E:Bz->BA->Prop}{s:BA}{t sl:BB}{items:Array Bz}{vl vu:Bz}{lo hi:BC Int}(ht:IsTup s.heap t items)(hs:s.heap.IsSliceOf sl vl vu .none)(pl:IsPart vl lo)(pu:IsPart vu hi)(hw:HT.sIx items.size 0 lo=0/\HT.sIx items.size items.size hi=items.size)(h:Q (.ref t) s):wpAny (model prog w) A (getItem (.ref t) (.ref sl)) Q E s:=by
 obtain⟨os,hos,hcs,hds⟩:=id hs
 have hTs:s.TypeIs (.ref sl) "slice":=⟨os,hos,hcs⟩
 unfold getItem
 try with_reducible refine wpAny_holding ?_
 first | refine wpAny_bind (wpAny_pure ?_) | skip
 refine wpAny_bind (wpAny_sequenceKey ht.typeIs (by decide) ?_)
 refine wpAny_bind (wpAny_callSpecial?_slot (name:=Str.ofString "__getitem__") ht.typeIs PyProof.Rows.slot_tuple_getitem
  (wpAny_call_entry PyProof.Rows.slot_tuple_getitem ht.typeIs entry_tuple_getitem ?_ (args_tuple_getitem _ _)))
 show wpAny _ _ (Builtin.Tuple.tupleItemsOf (.ref t) >>= _) _ _ s
 refine wpAny_bind (tupleItemsOf_ ht ?_)
 refine wpAny_bind (wpAny_typeOf hTs ?_)
 rw[if_pos (by decide)]
 refine wpAny_bind (HT.Wm hs pl pu ?_)
 show wpAny _ _ (if(((HT.sIx items.size 0 lo:Nat):Int)==0&&(1:Int)==1&&(HT.sIx items.size items.size hi-HT.sIx items.size 0 lo)==items.size)=true then _ else _) _ _ s
 rw[if_pos (by rw[hw.1,hw.2]; simp)]
 unfold Builtin.Tuple.tupleIsExact
 refine wpAny_bind (wpAny_bind (wpAny_typeOf ht.typeIs (wpAny_pure ?_)))
 rw[if_pos (by decide)]
 exact wpAny_bind (wpAny_rule (wpAny_pure ⟨_,rfl,wpAny_pure h⟩))
section
variable{X:Cx}{XQ:XW}
def Hcr(K:By):V->BC Int->BC Int->Hp->VK->Prop:=fun x lo hi H Q=>∃ a xs,x=.ref a/\SqT K H a xs/\(HT.sIx xs.length 0 lo=0/\HT.sIx xs.length xs.length hi=xs.length)/\Q (.ref a) H
def Gw6:SlR X (Hcr X.K):=by
 intro pins s σ H x v vl vu lo hi sl Q I rx hs pl pu h
 obtain⟨a,xs,rfl,hx,hw,q⟩:=h
 cases rx
 obtain⟨its,r,ht,hz⟩:=I.tuple hx
 have hlen:its.toArray.size=xs.length:=by rw[Ak]; exact r.length.symm
 refine⟨"tuple",_,PyProof.Rows.slot_tuple_getitem.lookup,ht.typeIs,?_⟩
 exact Gab ht hs pl pu (by rw[hlen]; exact hw) ⟨.ref a,H,I,rfl,q⟩
def Gia(x:D)(lo hi:BC Int)(S:Sto):Out D:=match x with
 | .tup l=>if HT.sIx l.length 0 lo=0/\HT.sIx l.length l.length hi=l.length then .ok (.tup l) S else .ok (.tup (Vz l lo hi)) S
 | .lst i=>match S[i]? with
  | some c=>.ok (.lst S.length) (S++[⟨false,Vz c.xs lo hi⟩])
  | none=>.bad
 | _=>.bad
def sl2(fe:Ev D)(fl fh:Ev (BC Int)):Ev D:=fun ρ S=>(fe ρ S).bind fun x S1=>(fl ρ S1).bind fun l S2=>(fh ρ S2).bind fun u S3=>Gia x l u S3
def Glg{e:Expr}{lo hi:BC Expr}{fe:Ev D}{fl fh:Ev (BC Int)}{pos:Pos}(he:JE X XQ e fe)(hl:JO X XQ lo fl)(hh:JO X XQ hi fh):JE X XQ (.Subscript e (.Slice lo hi none p2) pos) (sl2 fe fl fh):=by
 refine PE.mono (Gmd ((Gqf.or Gvh).or Gw6) he hl hh) fun σ H Q ⟨mp,ρ,S,G,p⟩=>?_
 refine bindP G p fun mp1 H1 x S1 v a1 G1 r1 p1=>?_
 refine bindP G1 p1 fun mp2 H2 l S2 l' a2 G2 r2 p2=>?_
 refine bindP G2 p2 fun mp3 H3 u S3 u' a3 G3 r3 p3=>?_
 cases (show l'=l from r2)
 cases (show u'=u from r3)
 have r1:=Rep.aft (a2.trans a3) _ _ r1
 cases x with
 | tup ds=>
  have p3:Post X.K XQ σ ρ mp3 H3 (if HT.sIx ds.length 0 l=0/\HT.sIx ds.length ds.length u=ds.length then .ok (.tup ds) S3 else .ok (.tup (Vz ds l u)) S3) Q:=p3
  obtain⟨a,xs,rfl,sq,q⟩:=Rep.tup r1
  by_cases hw:HT.sIx ds.length 0 l=0/\HT.sIx ds.length ds.length u=ds.length
  ·rw[if_pos hw] at p3
   exact .inr ⟨a,xs,rfl,sq,by rw[q.len]; exact hw,Gj.ok (R:=Rep X.K) p3 G3.rs r1⟩
  ·rw[if_neg hw] at p3
   exact .inl (.inr ⟨a,xs,rfl,sq,by rw[q.len]; exact hw,fun t ht=>Xy p3 G3.rs (q.cut l u) ht⟩)
 | lst i=>
  have p3:Post X.K XQ σ ρ mp3 H3 (match S3[i]? with | some c=>.ok (.lst S3.length) (S3++[⟨false,Vz c.xs l u⟩]) | none=>.bad) Q:=p3
  cases zc:S3[i]? with
  | none=>rw[zc] at p3; exact p3.elim
  | some c=>
   rw[zc] at p3
   obtain⟨a,xs,rfl,_,sq,q,_⟩:=G3.rs.items r1 zc
   exact .inl (.inl ⟨a,xs,rfl,sq,fun t ht=>Wo p3 G3.rs (q.cut l u) ht⟩)
 | _=>exact(show False from p3).elim
end
def turnedL{s:BA}{g:Heap}{tk:Nat}{ch:List BB}(I:Inv X pins σ H s)(k:∀ b o,b∉ch->s.heap.get? b=some o->g.get? b=some o)(hf:∀ b∈ch,Gdo X pins H b):Inv X pins σ H { s with heap:=g,toks:=tk }:=by
 have nit:∀ b u,H b=some u->b∉ch:=fun b u e z=>by have:=(hf b z).1; rw[this] at e; cases e
 refine I.step (g':=s.gens) (d':=s.drawn) (ch:=ch) (fun b hb=>?_) (fun b o _ _ hc e _=>k b o hc e) (fun b o _ _ hc e _=>⟨o.slots,k b o hc e⟩) (fun _ _ _ _ n=>n)
  (fun b o hc e=>⟨o,k b o hc e⟩) (fun _ _ e=>e) (fun _ _ _ e=>e) (fun b ps e=>⟨#[],by rw[e]; simp⟩) (fun m hm=>?_) (fun b u e=>?_) I.bare
 ·obtain⟨f0,f1,f2,f3,f4,f5⟩:=hf b hb
  exact⟨f3,f1,f4,f5⟩
 ·obtain⟨o,es,ep,ho,r⟩:=hm
  exact⟨o,es,ep,k _ o (fun z=>(hf _ z).2.1 rfl) ho,r⟩
 ·refine(I.hok b u e).stay (fun c v hc q=>k c v ?_ q) (fun _ q=>q) fun _ _ q=>q
  rcases hc with z | z
  ·rw[z]; exact nit b u e
  ·exact nit c _ z
def Ggn{s:BA}{g:Heap}{tk:Nat}{ch:List BB}{vs:List V}{us:List Bz}(I:Inv X pins σ H s)(hn:H s.heap.objs.size=none)(hz:vs.length<=sizeLine)(rv:Vals vs us)(tt:g.get? s.heap.objs.size=some { cls:=.type "tuple",data:=.seq us.toArray })(k:∀ b o,b∉ch->s.heap.get? b=some o->g.get? b=some o)(hf:∀ b∈ch,Gdo X pins H b)(ltf:∀ b∈ch,b≠s.heap.objs.size):
  Inv X pins σ (upd H s.heap.objs.size (.tup vs)) { s with heap:=g,toks:=tk }:=by
 have I1:Inv X pins σ (upd H s.heap.objs.size (.tup vs)) { s with heap:=s.heap.push { cls:=.type "tuple",data:=.seq us.toArray } }:=
  I.laid (t':=s.toks) (fun b o e=>Ao _ e) (Ab _) (show Kj X.prog X.w _ _ _ (.tup vs) from⟨hz,us,rv,IsTup.new _ _⟩)
 refine turnedL (ch:=ch) (s:={ s with heap:=s.heap.push { cls:=.type "tuple",data:=.seq us.toArray } }) I1 (fun b o hb e=>?_) fun b hb=>?_
 ·by_cases hs:b=s.heap.objs.size
  ·subst hs
   rw[AD _ rfl] at e
   cases e
   exact tt
  ·have:s.heap.get? b=some o:=by
    rcases Heap.get?_push_cases e with⟨z,_⟩ | z
    ·exact absurd z hs
    ·exact z
   exact k b o hb this
 ·obtain⟨f0,f⟩:=hf b hb
  exact⟨by rw[Gn (ltf b hb)]; exact f0,f⟩
structure Za(z ti to' i j a b:BB):Prop where
 q1:ti≠z
 q2:to'≠z
 q3:i≠z
 q4:j≠z
 q5:ti≠to'
 q6:ti≠i
 q7:ti≠j
 q8:to'≠i
 q9:to'≠j
 q10:i≠j
 q11:a≠z
 q12:a≠to'
 q13:a≠i
 q14:a≠j
 q15:b≠z
 q16:b≠to'
 q17:b≠i
 q18:b≠j
section
variable{X:Cx}{XQ:XW}
noncomputable def rvD(x:D)(st:BC Int)(S:Sto):Out D:=match x,st with
 | .tup l,some (-1)=>.ok (.tup l.reverse) S
 | _,_=>.bad
def rv(fe:Ev D)(fs:Ev (BC Int)):Ev D:=fun ρ S=>(fe ρ S).bind fun x S1=>(fs ρ S1).bind fun o S2=>rvD x o S2
end
section
variable{X:Cx}{XQ:XW}
inductive JFs(X:Cx)(XQ:XW):List Expr->List (Ev D)->Prop
 | nil:JFs X XQ [] []
 | cons {e:Expr} {f:Ev D} {es:List Expr} {fs:List (Ev D)}:JE X XQ e f->JFs X XQ es fs->JFs X XQ (e::es) (f::fs)
end
structure Zb(z ti to' i j l a b c:BB):Prop where
 tz:ti≠z
 oz:to'≠z
 iz:i≠z
 jz:j≠z
 lz:l≠z
 t_o:ti≠to'
 t_i:ti≠i
 t_j:ti≠j
 t_l:ti≠l
 oi:to'≠i
 oj:to'≠j
 ol:to'≠l
 ij:i≠j
 il:i≠l
 jl:j≠l
 az:a≠z
 ao:a≠to'
 ai:a≠i
 aj:a≠j
 al:a≠l
 bz:b≠z
 bo:b≠to'
 bi:b≠i
 bj:b≠j
 bl:b≠l
 cz:c≠z
 co:c≠to'
 ci:c≠i
 cj:c≠j
 cl:c≠l
section
open Builtin Builtin.Str
variable{prog:BD}{w:World}{A:Around}{E:Bz->BA->Prop}{s:BA}
end
section
variable{X:Cx}{XQ:XW}
variable{a b:Expr}{fa fb:Ev D}{pos:Pos}
end
def Iel(K:By)(a:BB):It:=
 ⟨fun i H=>∃ xs x,SqL K H a xs/\xs[i]?=some x,fun i H x H'=>∃ y p,(∀ xs,SqL K H a xs->xs[i]?=some y)/\H p=none/\x=.ref p/\H'=upd H p (.tup [.int i,y]),fun i H=>∃ xs,SqL K H a xs/\xs.length<=i⟩
def Gib{x1}{pos:Pos}(a it e:BB)(ne:e≠it):
  Turn P w K (.Tuple es x1 pos) (Iel K a) [e,it] e (fun i h=>(∃ old,IsEnum h e it i old)/\h.IsListIter it a i) where
 mem:=by simp
 obj:=fun i h ⟨⟨old,st⟩,o,e1,c,d⟩ b hb=>by
  rcases Ae.mp hb with rfl | hb
  ·exact⟨_,st,fun v z=>by
    have z':Data.fields _=Data.cell v:=z
    cases z'⟩
  ·have eb:b=it:=by simpa using hb
   subst eb
   exact⟨o,e1,fun v z=>by rw[d] at z; cases z⟩
 keep:=fun i h h' ⟨⟨old,st⟩,ti⟩ k=>⟨⟨old,k e (by simp) _ st⟩,ti.at fun o e1=>k it (by simp) o e1⟩
 item:=by
  intro X hP hw hK hc i pins s σ H E I hf ⟨⟨old,st⟩,ti⟩ hg
  subst hP hw hK
  obtain⟨xs,x,hq,hx⟩:=hg
  obtain⟨its,rv,p,hz⟩:=I.list hq
  obtain⟨u,hu,ru⟩:=rv.get hx
  have hn:H s.heap.objs.size=none:=I.hok.fresh (Ab _)
  refine wpAny_pyNext_enum_item st ti p.isList (x:=u) (by simpa using hu) ne fun g oe ti' tt _ kk=>?_
  refine⟨_,rfl,wpAny_letOwnedTupleGo_enum oe fun g2 e2 b2=>?_⟩
  have kk2:∀ b o,b∉[e,it]->s.heap.get? b=some o->g2.get? b=some o:=fun b o hb h1=>
   b2.extBut b o (fun z=>hb (by simp[z])) (kk b o (fun z=>hb (by simp[z])) (fun z=>hb (by simp[z])) h1)
  have el:s.heap.objs.size≠e:=Bl (Ag st)
  have tt2:g2.get? s.heap.objs.size=some { cls:=.type "tuple",data:=.seq #[.int i s.toks,u] }:=b2.extBut _ _ el tt
  have ltf:∀ b∈[e,it],b≠s.heap.objs.size:=fun b hb=>by
   rcases Ae.mp hb with rfl | hb
   ·exact Ne.symm el
   ·have eb:b=it:=by simpa using hb
    subst eb
    obtain⟨o,e1,_⟩:=ti
    exact Ax (Ag e1)
  have I2:Inv X pins σ (upd H s.heap.objs.size (.tup [.int i,x])) { s with heap:=g2,toks:=s.toks+1 }:=
   Ggn I hn (by rw[sizeLine_eq]; simp only[AZ,Bo]; decide) (.cons ⟨s.toks,rfl⟩ (.cons ru .nil)) tt2 kk2 hf ltf
  exact⟨.ref s.heap.objs.size,_,I2,rfl,⟨x,_,fun ys hy=>by rw[I.list_inj hy hq]; exact hx,hn,rfl,rfl⟩,⟨⟨u,e2⟩,ti'.extBut b2.extBut (Ne.symm ne)⟩,fun b hb=>by
   rw[Gn (ltf b hb)]
   exact(hf b hb).1⟩
 done:=by
  intro X hP hw hK hc i pins s σ H E I hf ⟨⟨old,st⟩,ti⟩ hg
  subst hP hw hK
  obtain⟨xs,hq,hx⟩:=hg
  obtain⟨its,rv,p,hz⟩:=I.list hq
  have hl:=rv.length
  exact wpAny_pyNext_enum_end (I.ok.hd hc) st ti p.isList (by simp; omega) fun g eb=>⟨rfl,turnedL I (fun b o hb e1=>eb b o (fun z=>hb (by simp[z])) e1) hf⟩
 self:=fun _ _ _ _ _ ⟨⟨_,st⟩,_⟩ h=>wpAny_pyIter_enum st h
section
variable{X:Cx}{XQ:XW}
def Hcs(K:By)(ta:TA):TI:=fun σ H R=>ta σ H fun xs H1=>∃ a,xs=[.ref a]/\(∃ ys,SqL K H1 a ys)/\R (Iel K a) H1
def Gna{x1}{tp:Pos}{ta:TA}{pos:Pos}(hg:Gl X "enumerate")(hm:X.mg "enumerate"=none)(ha:PA X [a] ta)(hs:starEach [a] X.env=[(false,eval a X.env)]:=by rfl):
  PI X (.Tuple es x1 tp) (.Call (.Name "enumerate" p) [a] [] pos) (Hcs X.K ta):=by
 intro pins s σ H R I h
 refine wpAny_Call_Name_kw (Xx I hg hm (by rfl) ?_ (by decide) (by decide))
 refine PyProof.Rows.callWith_type1 (thn (ha pos pins s σ H _ I h) fun us s1 ⟨vs,H1,I1,r1,q1⟩=>?_) hs rfl
 obtain⟨c,e,⟨ys,hq⟩,q⟩:=q1
 subst e
 obtain⟨u,rfl,rx⟩:=Gcm r1
 cases rx
 obtain⟨its,rv,pt,hz⟩:=I1.list hq
 refine call_enumerate_list pt.isList fun g e1 i1 _ kk=>?_
 refine wpAny_pyIter_enum e1 ?_
 have I2:Inv X pins σ H1 { s1 with heap:=g }:=I1.kept (t':=s1.toks) kk
 refine⟨s1.heap.objs.size+1,[s1.heap.objs.size+1,s1.heap.objs.size],_,_,H1,rfl,I2,Gib c s1.heap.objs.size (s1.heap.objs.size+1) (Nat.succ_ne_self _),⟨⟨.none,e1⟩,i1⟩,fun b hb=>?_,q⟩
 have hb':s1.heap.objs.size<=b:=by
  rcases Ae.mp hb with rfl | hb
  ·exact Bn _
  ·have eb:b=s1.heap.objs.size:=by simpa using hb
   exact Nat.le_of_eq eb.symm
 exact I1.fpOk hb' (I1.hok.fresh hb')
def Gcu(f:Ev (List D)):Ev Src:=fun ρ S=>(f ρ S).bind fun ds S1=>match ds with
 | [.lst i]=>match S1[i]? with
  | some c=>.ok ⟨fun k S=>(S[i]?).bind fun c=>(c.xs[k]?).map fun d=>.tup [.int k,d],c.xs.length+1⟩ S1
  | none=>.bad
 | _=>.bad
def Gw7{mp:List BB}{a:BB}{i:Nat}(hi:mp[i]?=some a)(nd:¬ Dcy H a):Gmq K mp H (Iel K a) (fun k S=>(S[i]?).bind fun c=>(c.xs[k]?).map fun d=>.tup [.int k,d]):=by
 intro mp' H' S' af rs k
 have hi':=af.pre i a hi
 have hl:i<S'.length:=by rw[<- rs.len]; exact(Aa.mp hi').1
 have hc:S'[i]?=some S'[i]:=Af hl
 obtain⟨a2,xs,e1,e2,sq,r,_⟩:=rs.items (v:=.ref a) ⟨a,rfl,hi',af.ndc i a hi nd⟩ hc
 cases e1
 simp only[hc,Ba]
 cases z:(S'[i]).xs[k]? with
 | none=>
  refine⟨xs,sq,?_⟩
  rw[r.len]
  exact A2.mp z
 | some d=>
  obtain⟨v,e,q⟩:=r.get z
  refine⟨⟨xs,v,sq,e⟩,fun x H2 ⟨y,p,h2,h3,h4,h5⟩=>?_⟩
  have h2:=h2 xs sq
  rw[e] at h2
  cases h2
  subst h4 h5
  have af2:Aft K mp' H' mp' (upd H' p (.tup [.int k,v])):=Vr h3
  exact⟨af2,rs.new h3,p,_,rfl,SqT.of Hj,RepL.cons rfl (RepL.cons (Rep.aft af2 _ _ q) RepL.nil)⟩
def Gnb{x1}{tp:Pos}{f:Ev (List D)}{pos:Pos}(hg:Gl X "enumerate")(hm:X.mg "enumerate"=none)(ha:JA X XQ [a] f)(hs:starEach [a] X.env=[(false,eval a X.env)]:=by rfl):
  JI X XQ (.Tuple es x1 tp) (.Call (.Name "enumerate" p) [a] [] pos) (Gcu f):=by
 refine PI.mono (Gna hg hm ha hs) fun σ H R ⟨mp,ρ,S,G,p⟩=>?_
 refine bindP G p fun mp1 H1 ds S1 vs a1 G1 r1 p1=>?_
 split at p1
 ·rename_i i
  split at p1
  ·rename_i c zc
   obtain⟨v,rfl,h1⟩:=RepL.one r1
   obtain⟨a2,xs,rfl,e2,sq,q,_⟩:=G1.rs.items h1 zc
   exact⟨a2,rfl,⟨xs,sq⟩,Gj.ok (R:=kI X.K) (d:=⟨fun k S=>(S[i]?).bind fun c=>(c.xs[k]?).map fun d=>.tup [.int k,d],c.xs.length+1⟩) (S:=S1) p1 G1.rs (Gw7 e2 (Rep.nd h1))⟩
  ·exact p1.elim
 ·exact p1.elim
end
structure XB(bm:List Bz):Prop where
 v:bm.contains (.type "ValueError")=true
 a:bm.contains (.type "AttributeError")=false
 n:bm.contains (.type "NameError")=false
 b:bm.contains (.type "BaseException")=true
def XB.has(x:XB bm)(C:BB):(Value.ref C::bm).contains (.type "ValueError")=true:=by rw[Bp,x.v,Bool.or_true]
def XB.noA(x:XB bm)(C:BB):(Value.ref C::bm).contains (.type "AttributeError")=false:=by rw[Bp,x.a]; rfl
def XB.noN(x:XB bm)(C:BB):(Value.ref C::bm).contains (.type "NameError")=false:=by rw[Bp,x.n]; rfl
abbrev FV:=PySem.F.excBase_ValueError
def Grh(K:By):PySem.W.findCls K (.type "ValueError") (.type "type") "__init__"=some (.val (.builtin "ValueError.__init__")):=by
 first
  | rfl
  | kernel_rfl
def Gri{prog:BD}{E:Bz->BA->Prop}{s:BA}{Q:Bz×List Bz->BA->Prop}{pl:Sem Bool}(X:K.In s.heap)(h:Q (.builtin "ValueError.__init__",[]) { s with toks:=s.toks+1 }):
  wpAny (model prog w) A (getMethod (.type "ValueError") (Str.ofString "__init__") pl) Q E s:=by
 have st:opaqueClassAbove (.type "ValueError")=pure none:=by unfold opaqueClassAbove; dsimp only; rw[show Manifest.isStub "ValueError"=false by decide +kernel]; rfl
 have ty:PySem.W.Looks (model prog w) s.heap (typeOf (.type "ValueError")) (.type "type"):=PySem.W.Looks.of_pure (by first | rfl | kernel_rfl)
 have ga:PySem.W.findIn K (.type "type") "__getattribute__"=some (some (.builtin "type.__getattribute__")):=PySem.W.type_tga
 unfold getMethod specialOf
 refine wpAny_bind (wpAny_bind (ty.here ((PySem.W.looks_findIn X ga).here ?_)))
 dsimp only
 rw[if_pos PySem.W.canon_tga]
 refine wpAny_bind (wpAny_mono (Q:=fun v=>Q (v,[])) (E:=E) ?_ (fun _ _ z=>wpAny_pure z) fun _ _ z=>z)
 refine PySem.W.cls_open X (PySem.W.Looks.of_pure st) ty ga (PySem.W.looks_hook X (r:=none) (by rfl)) (by show PySem.W.subIn K _ _=_; rfl) (Grh K) ?_
 refine wpAny_pure ?_
 show wpAny _ _ (handedOut _) _ _ _
 rw[PySem.W.handedOut_of (by rfl)]
 exact wpAny_pure h
section
variable{prog:BD}{w:World}{A:Around}{E:Bz->BA->Prop}{h:Heap}{g:Array GenState}{d:Drawn}{t:Nat}{os:OsState}
variable{nm q:Str}{C N:BB}{bs bm:List Bz}{hdct:Bool}{sn:List Str}{sub:List Bz}{ab:Bool}{col:BC Bool}{dd:BC BB}{k0 k1 k2 k3 k5:BC Bz}
def Grj{e:BB}{t0:BB}(x:XB bm)(hC:h.get? C=some (excClassObj nm q C N bs bm hdct sn sub ab col dd k0 k1 k2 k3 k5 "ValueError.__new__"))(he:h.get? e=some { cls:=.ref C,dict:=dx,data:=.fields #[.ref t0,.none,.none,.none,.bool false,.none] })(hq:∀ h',h'.get? e=some { cls:=.ref C,dict:=dx,data:=.fields #[.ref h.objs.size,.none,.none,.none,.bool false,.none] }->(∀ b o,b≠e->h.get? b=some o->h'.get? b=some o)->h'.get? h.objs.size=some { cls:=.type "tuple",data:=.seq #[v] }->Q .none ⟨h',g,d,t,os⟩):
  wpAny (model prog w) A (call (.builtin "ValueError.__init__") [.ref e,v]) Q E ⟨h,g,d,t,os⟩:=by
 have hB:=x.has C
 refine wpAny_call (codeAny_call_builtin FV.init.plain FV.initEntry ?_)
 have chk:∀ {M:Model} {A:Around} {E:Bz->BA->Prop} {Q:Unit->BA->Prop},Q () ⟨h,g,d,t,os⟩->wpAny M A (checkBuiltinCall "ValueError.__init__" ⟨[.ref e,v],[]⟩) Q E ⟨h,g,d,t,os⟩:=fun hQ=>by
  have ns:=FV.noStar
  simp only[checkBuiltinCall,FV.initKind,FV.initSplit,FV.initRow]
  repeat (first | with_reducible refine wpAny_loadPart_at he ?_ | with_reducible refine wpAny_loadPart_at hC ?_ | (with_reducible refine wpAny_isSubtype_exc hC ?_; rw[hB]) | wp_step)
  exact hQ
 refine chk ?_
 wp_walk
 have le:e≠h.objs.size:=Ax (Ag he)
 refine hq _ ?_ (fun b o hb ho=>?_) ?_
 ·rw[AX _ (Ao _ he) rfl]
  rfl
 ·rw[AH _ _ (Ne.symm hb)]
  exact Ao _ ho
 ·rw[AH _ _ le]
  exact AD _ rfl
def Ggo{M:Model}{Q:Unit->BA->Prop}(x:XB bm)(hC:h.get? C=some (excClassObj nm q C N bs bm hdct sn sub ab col dd k0 k1 k2 k3 k5 "ValueError.__new__"))(hq:Q () ⟨h,g,d,t,os⟩):
  wpAny M A (checkBuiltinCall "ValueError.__new__" ⟨[.ref C,v],[]⟩) Q E ⟨h,g,d,t,os⟩:=by
 have hB:=x.has C
 have ns:=FV.noStar
 simp only[checkBuiltinCall,FV.newKind,FV.newSplit,FV.newRow]
 repeat (first | refine wpAny_loadPart_at hC ?_ | (refine wpAny_isSubtype_exc hC ?_; rw[hB]) | refine wpAny_staticBase_exc hC ?_ | refine wpAny_madeBy_exc hC ?_ | simp only[bne_self_eq_false,Ay,if_false] | wp_step)
 exact hq
def Hai{R:Result->BA->Prop}(x:XB bm)(hC:h.get? C=some (excClassObj nm q C N bs bm hdct sn sub ab col dd k0 k1 k2 k3 k5 "ValueError.__new__"))(hq:R (.ok (.ret (.ref (h.objs.size+1)))) ⟨(h.push { cls:=.type "tuple",data:=.seq #[v] }).push { cls:=.ref C,data:=.fields #[.ref h.objs.size,.none,.none,.none,.bool false,.none] },g,d,t,os⟩):
  codeAny (model prog w) A (.builtin "ValueError.__new__" ⟨[.ref C,v],[]⟩) R ⟨h,g,d,t,os⟩:=by
 have he:=FV.ends
 have hB:=x.has C
 have hA:=x.noA C
 have hN:=x.noN C
 refine codeAny_builtinAt FV.entry ?_
 unfold Builtin.«BaseException.__new__»
 refine PySem.wpAt_bind ?_
 show PySem.wpAt _ _ _ (PySem.stack >>= _) _ _ _
 refine PySem.wpAt_bind (PySem.wpAt_stack fun p below=>PySem.wpAt_of_wpAny ?_)
 wp_walk
 refine PySem.wpAt_of_wpAny ?_
 rw[FV.owner]
 repeat (first | with_reducible refine wpAny_madeHere_exc FV.canon hC ?_ | with_reducible refine wpAny_loadPart_at hC ?_ | (with_reducible refine wpAny_isSubtype_exc hC ?_; first | rw[hB] | rw[hA] | rw[hN]) | wp_step)
 show R _ _
 rw[Bb]
 exact hq
def Gw8{fI:BB}(x:XB bm)(X:K.In h)(hC:h.get? C=some (excClassObj nm q C N bs bm hdct sn sub ab col dd k0 k1 k2 k3 k5 "ValueError.__new__"))(hi:PySem.W.findIn K (.ref C) "__init__"=some (some (.ref fI)))(hfI:h.get? fI=some oI)(hfc:oI.cls=.type "function")(hq:∀ h' e,h.objs.size<=e->Heap.MadeExcOf h h' e (.ref C) [v]->wpAny (model prog w) (A.under (.builtin "type.__call__" ⟨[.ref C,v],[]⟩)) (call (.ref fI) [.ref e,v]) (fun r s'=>r=.none/\Q (.ref e) s') E ⟨h',g,d,t,os⟩):
  wpAny (model prog w) A (call (.ref C) [v]) Q E ⟨h,g,d,t,os⟩:=by
 have hB:=x.has C
 have hA:=x.noA C
 have hN:=x.noN C
 have f1:=tc_lookup
 have f2:=tc_bind (.ref C)
 have hT:(⟨h,g,d,t,os⟩:BA).TypeIs (.ref C) "type":=⟨_,hC,rfl⟩
 refine wpAny_call (codeAny_of_tree ?_)
 show wpAny _ _ (callAny (.ref C) _) _ _ _
 repeat (any_goals (first | assumption | with_reducible refine wpAny_loadPart_at hC ?_ | wp_step))
 refine⟨rfl,?_⟩
 refine codeAny_call_builtin_at (Code.quiet_builtin _ (by decide +kernel)) entry_typeCall (wpAny_check_type_call_sub hC ?_)
 repeat (first | with_reducible refine wpAny_loadPart_at hC ?_ | with_reducible refine wpAny_madeBy_exc hC ?_ | wp_step)
 refine codeAny_call_builtin_code (Code.quiet_builtin _ FV.quiet) (Ggo x hC (Hai x hC ?_))
 show wpAny _ _ _ _ _ _
 have kp:∀ b o,h.get? b=some o->((h.push { cls:=.type "tuple",data:=.seq #[v] }).push { cls:=.ref C,data:=.fields #[.ref h.objs.size,.none,.none,.none,.bool false,.none] }).get? b=some o:=fun b o e=>Ao _ (Ao _ e)
 have he:((h.push { cls:=.type "tuple",data:=.seq #[v] }).push { cls:=.ref C,data:=.fields #[.ref h.objs.size,.none,.none,.none,.bool false,.none] }).get? (h.objs.size+1)=some { cls:=.ref C,data:=.fields #[.ref h.objs.size,.none,.none,.none,.bool false,.none] }:=by heap_get
 have ht:((h.push { cls:=.type "tuple",data:=.seq #[v] }).push { cls:=.ref C,data:=.fields #[.ref h.objs.size,.none,.none,.none,.bool false,.none] }).get? h.objs.size=some { cls:=.type "tuple",data:=.seq #[v] }:=Ao _ (AD _ rfl)
 have hC1:=kp _ _ hC
 have hf1:=kp _ _ hfI
 have X1:=X.keeps kp
 have hcC:(Value.ref C::bm).contains (.ref C)=true:=by simp
 have done:=hq _ (h.objs.size+1) (Bn _) ⟨kp,AV (Bn _),h.objs.size,he,AV (Ab _),ht⟩
 generalize (h.push { cls:=.type "tuple",data:=.seq #[v] }).push { cls:=.ref C,data:=.fields #[.ref h.objs.size,.none,.none,.none,.bool false,.none] }=h1 at *
 unfold isInstance
 repeat (first | with_reducible refine wpAny_loadPart_at he ?_ | (with_reducible refine wpAny_isSubtype_exc hC1 ?_; rw[hcC]) | wp_step)
 show wpAny _ _ (typeLookup (.ref C) _) _ _ _
 refine(PySem.W.looks_findIn X1 hi).here ?_
 refine wpAny_holding (wpAny_bind ?_)
 unfold bindSpecial
 refine wpAny_bind (wpAny_typeOf (T:="function") ⟨_,hf1,hfc⟩ ?_)
 rw[if_pos (by decide)]
 refine wpAny_pure (wpAny_bind (wpAny_mono done (fun r s' hr=>?_) fun _ _ x=>x))
 obtain⟨rfl,hQ⟩:=hr
 wp_walk
 exact hQ
end
section
variable{M:Model}{A:Around}{E:Bz->BA->Prop}{env:PySem.Env}
variable{nm q:Str}{C N:BB}{bs bm:List Bz}{hdct:Bool}{sn:List Str}{sub:List Bz}{ab:Bool}{col:BC Bool}{dd:BC BB}{k0 k1 k2 k3 k5:BC Bz}{newId:String}
def Ya(h:Heap)(e C:BB)(dx:BC BB):Prop:=∃ t:BB,h.get? e=some { cls:=.ref C,dict:=dx,data:=.fields #[.ref t,.none,.none,.none,.bool false,.none] }
def Gbr{s:BA}{x:Sem Bz}{Q:Flow->BA->Prop}(hb:XB bm)(hh:A.handled=none)
  (h:wpAny M A x (fun v s₁=>∃ e dx,v=.ref e/\s₁.heap.get? C=some (excClassObj nm q C N bs bm hdct sn sub ab col dd k0 k1 k2 k3 k5 newId)/\Ya s₁.heap e C dx/\E (.ref e) s₁) E s):
  wpAny M A (raiseStmt env (some x) none) Q E s:=by
 have hB:(Value.ref C::bm).contains (.type "BaseException")=true:=by rw[Bp,hb.b,Bool.or_true]
 unfold raiseStmt
 refine wpAny_bind (wpAny_mono h (fun v s₁ h₁=>?_) fun _ _ x=>x)
 obtain⟨e,dx,rfl,hC,⟨t,he⟩,hE⟩:=h₁
 obtain⟨hp,g,d,tk,os⟩:=s₁
 repeat (first | with_reducible refine wpAny_loadPart_at he ?_ | with_reducible refine wpAny_loadPart_at hC ?_ | (with_reducible refine wpAny_isSubtype_exc hC ?_; rw[hB]) | wp_step)
 exact wpAny_raiseNew_none hh hE
def Grk{s:BA}{x:Str}{pos:Pos}{e1:Expr}{Q:Flow->BA->Prop}(hb:XB bm)(hh:A.handled=none)(h:wpAny M A (eval (.Name x np) env) (fun f s₁=>f=.ref C/\wpAny M A (spliced (backTo cpos (starEach (e1::es) env))) (fun vs s₂=>
   s₂.heap.get? C=some (excClassObj nm q C N bs bm hdct sn sub ab col dd k0 k1 k2 k3 k5 newId)/\wpAny M A (call (.ref C) vs) (fun v s₃=>∃ e dx,v=.ref e∧
    s₃.heap.get? C=some (excClassObj nm q C N bs bm hdct sn sub ab col dd k0 k1 k2 k3 k5 newId)/\Ya s₃.heap e C dx/\E (.ref e) s₃) E s₂) E s₁) E s)(he:starEach (e1::es) env=(false,eval e1 env)::starEach es env:=by rfl)(hpl:(backTo cpos (starEach es env)).any (·.1)=false:=by rfl):
  wpAny M A (exec (.Raise (some (.Call (.Name x np) (e1::es) [] cpos)) none pos) env) Q E s:=by
 have plain:(backTo cpos (starEach (e1::es) env)).any (·.1)=false:=by
  rw[he]
  show(false||(backTo cpos (starEach es env)).any (·.1))=false
  rw[hpl]; rfl
 rw[arm_exec_Raise]
 have key:wpAny M A (eval (.Call (.Name x np) (e1::es) [] cpos) env) (fun v s₁=>∃ e dx,v=.ref e/\s₁.heap.get? C=some (excClassObj nm q C N bs bm hdct sn sub ab col dd k0 k1 k2 k3 k5 newId)/\Ya s₁.heap e C dx/\E (.ref e) s₁) E s:=by
  refine wpAny_Call_ofName (wpAny_mono h (fun f s₁ h₁=>?_) fun _ _ x=>x)
  obtain⟨rfl,h₁⟩:=h₁
  unfold callWith
  have ev:wpAny M A (evalArgs (.ref C) true (backTo cpos (starEach (e1::es) env)) []) (fun a s₂=>a.kw=[]/\s₂.heap.get? C=some (excClassObj nm q C N bs bm hdct sn sub ab col dd k0 k1 k2 k3 k5 newId)/\wpAny M A (call (.ref C) a.pos) (fun v s₃=>∃ e dx,v=.ref e∧
    s₃.heap.get? C=some (excClassObj nm q C N bs bm hdct sn sub ab col dd k0 k1 k2 k3 k5 newId)/\Ya s₃.heap e C dx/\E (.ref e) s₃) E s₂) E s₁:=by
   rw[he] at h₁ ⊢
   exact PySem.Calls.evalArgs_plain (wpAny_mono h₁ (fun vs s₂ z=>⟨rfl,z⟩) fun _ _ x=>x)
  refine wpAny_bind (wpAny_holding (wpAny_mono ev (fun a s₂ h₂=>wpAny_bind (wpAny_standAt ?_)) fun _ _ x=>x))
  obtain⟨ap,ak⟩:=a
  obtain⟨hk,hC,h₂⟩:=h₂
  obtain rfl:ak=[]:=hk
  obtain⟨hp,g,d,tk,os⟩:=s₂
  simp only[plain]
  refine wpAny_bind (wpAny_keeperOf_exc hC ?_)
  exact wpAny_bind (wpAny_mono h₂ (fun r s₃ hr=>wpAny_bind (wpAny_holding (wpAny_point (wpAny_pure hr)))) fun _ _ x=>x)
 first
  | exact wpAny_bind (wpAny_standAt (Gbr hb hh (wpAny_bind (wpAny_mono key (fun v s₃ h₃=>wpAny_bind (wpAny_standAt (wpAny_pure h₃))) fun _ _ x=>x))))
  | (simp only[evalOpt,Option.map]; exact wpAny_bind (wpAny_standAt (Gbr hb hh (wpAny_bind (wpAny_mono key (fun v s₃ h₃=>wpAny_bind (wpAny_standAt (wpAny_pure h₃))) fun _ _ x=>x)))))
end
noncomputable def FX(e C:BB)(dx:BC BB):HO:=.ext fun h=>Ya h e C dx
def Gty{e:BB}(f:Ya h e C dx):Kj P w H h e (FX e C dx):=
 ⟨f,(let ⟨_,q⟩:=f; ⟨_,q⟩),fun _ _ ⟨t,q⟩ k=>⟨t,k _ q⟩⟩
def Gnc{a:BB}{o:HO}(h:H a=some o):upd H a o=H:=by
 funext b
 by_cases c:b=a
 ·subst c; rw[Hj,h]
 ·rw[Gn c]
structure KX(K:By)(C:BB):Prop where
 ex:∃ nm q N bs bm hdct sn sub ab col dd k0 k1 k2 k3 k5,K.lookup C=some (excClassObj nm q C N bs bm hdct sn sub ab col dd k0 k1 k2 k3 k5 "ValueError.__new__")/\XB bm
section
variable{X:Cx}
def tVI(K:By)(t:TA):TE:=fun σ H Q=>t σ H fun vs H1=>∃ e v C dx,vs=[.ref e,v]/\H1 e=some (FX e C dx)/\KX K C/\Q .non H1
def Gnd{t:TA}{pos:Pos}{pl:Sem Bool}(hg:Gl X "ValueError")(hm:X.mg "ValueError"=none)(ha:PA X [a,b] t)(ht:eval (.Call (.Attribute (.Name "ValueError" p) "__init__" apos) [a,b] [] pos) X.env=(do
   let ov <- eval (.Name "ValueError" p) X.env
   standAt apos.atName
   let (f,first) <- holding [ov] (getMethod ov "__init__" pl)
   callWith pos f first (backTo pos (starEach [a,b] X.env)) (backToKw pos (keywordEach [] X.env))))(hs:starEach [a,b] X.env=(false,eval a X.env)::starEach [b] X.env:=by rfl)(hpl:(backTo pos (starEach [b] X.env)).any (·.1)=false:=by rfl):
  PE X (.Call (.Attribute (.Name "ValueError" p) "__init__" apos) [a,b] [] pos) (tVI X.K t):=by
 intro pins s σ H Q I h
 refine PySem.W.methodCall_KW (pl:=pl) (Xx I hg hm (by rfl) ?_ (by decide) (by decide)) ht
 refine Gri I.kIn ?_
 have hA:=ha pos pins { s with toks:=s.toks+1 } σ H _ (I.tok _) h
 show wpAny _ _ (callWith pos (.builtin "ValueError.__init__") [] (backTo pos (starEach [a,b] X.env)) _) _ _ _
 rw[hs] at hA ⊢
 refine Calls.callWith_builtin (by show(false||(backTo pos (starEach [b] X.env)).any (·.1))=false; rw[hpl]<;>rfl) (Calls.evalArgs_plain ?_)
 refine thn hA fun us s2 ⟨vs,H2,I2,r2,e,v,C,dx,ev,hH,kx,q⟩=>?_
 subst ev
 cases r2 with
 | cons ra rb=>
  cases rb with
  | cons rv rn=>
   cases rn
   cases ra
   obtain⟨nm,qn,N,bs,bm,hdct,sn,sub,ab,col,dd,k0,k1,k2,k3,k5,lk,xb⟩:=kx.ex
   have hC:=I2.kIn _ _ lk
   obtain⟨⟨t0,he⟩,_,_⟩:=(show Kj X.prog X.w H2 s2.heap e (FX e C dx) from I2.hok e _ hH)
   obtain⟨hp,g,d,tk,os⟩:=s2
   refine Grj xb hC he fun h' e1 k1' _=>?_
   have I3:=I2.write (h':=h') (x:=e) (e:=e) (o:=FX e C dx) (t':=tk) (by rw[hH]; exact trivial) (.inl rfl) (fun b u hb hu=>k1' b u hb hu) ⟨_,e1⟩ (Gty ⟨_,e1⟩)
   rw[Gnc hH] at I3
   exact⟨.non,H2,I3,rfl,q⟩
end
def spI(K:By):Sp:=fun vs H Q _=>∃ e v C dx,vs=[.ref e,v]/\H e=some (FX e C dx)/\KX K C/\Q .non H
section
variable{X:Cx}{pins:List (BB×Obj)}{σ:L2.St}{H:Hp}{s:BA}{C f:BB}{fd:FuncData}{ps:List Str}{k:Nat}
def Haj{v:V}{u:Bz}(kx:KX X.K C)(hi:PySem.W.findIn X.K (.ref C) "__init__"=some (some (.ref f)))(lf:X.K.lookup f=some oI)(hfc:oI.cls=.type "function")(F:FnOk X.prog X.w X.K X.mg X.base CX0 k f fd ps (spI X.K))(hl:ps.length=2)(hr:Room (k+1) X.A)(hb:Binds X.K fd ps [])(I:Inv X pins σ H s)(rv:Hf v u):
  wpAny (model X.prog X.w) X.A (call (.ref C) [u]) (fun r s'=>∃ e,r=.ref e/\(H e=none/\X.s₀.heap.get? e=none)/\Inv X pins σ (upd H e (FX e C none)) s') X.xe s:=by
 obtain⟨nm,qn,N,bs,bm,hdct,sn,sub,ab,col,dd,k0,k1,k2,k3,k5,lk,xb⟩:=kx.ex
 obtain⟨hp,g,d,tk,os⟩:=s
 refine Gw8 xb I.kIn (I.kIn _ _ lk) hi (I.kIn _ _ lf) hfc fun h' e le hm=>?_
 have hn:H e=none:=I.hok.fresh le
 have h0:X.s₀.heap.get? e=none:=AV (Aj I.sz le)
 obtain⟨t,ht,_,_⟩:=hm.there
 have I1:Inv X pins σ (upd H e (FX e C none)) ⟨h',g,d,tk,os⟩:=I.laid (t':=tk) hm.keeps le (Gty ⟨t,ht⟩)
 refine wpAny_call (codeAny_mono (F.run (X.A.under (.builtin "type.__call__" ⟨[.ref C,u],[]⟩)) X.stack ⟨h',g,d,tk,os⟩ (upd H e (FX e C none)) ⟨[.ref e,u],[]⟩ [.ref e,u] [.ref e,v] (fun v' H'=>v'=.non/\H'=upd H e (FX e C none)) E0
  (hr.make C [u] []) (I1.env0.make C [u] []) (by have:=hb ⟨h',g,d,tk,os⟩ [.ref e,u] I1.kIn (by simpa using hl.symm); simpa using this) (.cons rfl (.cons rv .nil)) ⟨e,v,C,none,rfl,Hj,kx,rfl,rfl⟩) fun r s' hq=>?_)
 cases r with
 | error x=>exact hq.elim
 | ok fl=>
  cases fl with
  | ret u'=>
   obtain⟨v',H',I',r',e1,e2⟩:=I1.after hq
   subst e1 e2
   exact⟨r',e,rfl,⟨hn,h0⟩,I'⟩
  | next=>exact hq.elim
  | brk=>exact hq.elim
  | cont=>exact hq.elim
def tRz(C:BB)(W:L2.St->Hp->BB->Prop)(t:TA):TS:=fun _ σ H=>t σ H fun vs H1=>∃ v,vs=[v]/\∀ e,H1 e=none->W σ (upd H1 e (FX e C none)) e
def Gne{W:L2.St->Hp->BB->Prop}{x:Str}{pos:Pos}{t:TA}(hW:∀ (pins:List (BB×Obj)) (σ:L2.St) (H:Hp) (e:BB) (s':BA),Inv X pins σ H s'->H e=some (FX e C none)->X.s₀.heap.get? e=none->W σ H e->X.xe (.ref e) s')(hcm:X.calm=true)(hg:Gl X x)(hm:X.mg x=some (.ref C))(kx:KX X.K C)(hi:PySem.W.findIn X.K (.ref C) "__init__"=some (some (.ref f)))(lf:X.K.lookup f=some oI)(hfc:oI.cls=.type "function")(F:FnOk X.prog X.w X.K X.mg X.base CX0 k f fd ps (spI X.K))(hl:ps.length=2)(hr:Room (k+1) X.A)(hb:Binds X.K fd ps [])(ha:PA X [a] t)(hdb:(x==("__debug__":Str))=false:=by decide)(he:starEach [a] X.env=(false,eval a X.env)::starEach [] X.env:=by rfl)(hpl:(backTo cpos (starEach [] X.env)).any (·.1)=false:=by rfl):
  PS X (.Raise (some (.Call (.Name x np) [a] [] cpos)) none pos) (tRz C W t):=by
 intro pins s σ H D I h
 obtain⟨nm,qn,N,bs,bm,hdct,sn,sub,ab,col,dd,k0,k1,k2,k3,k5,lk,xb⟩:=id kx.ex
 refine Grk (C:=C) (nm:=nm) (q:=qn) (N:=N) (bs:=bs) (bm:=bm) (hdct:=hdct) (sn:=sn) (sub:=sub) (ab:=ab) (col:=col) (dd:=dd) (k0:=k0) (k1:=k1) (k2:=k2) (k3:=k3) (k5:=k5) (newId:="ValueError.__new__") xb (I.ok.hd hcm) (Yt I hg hm ⟨rfl,?_⟩ hdb) he hpl
 refine thn (ha cpos pins s σ H _ I h) fun us s1 ⟨vs,H1,I1,r1,v,ev,q⟩=>⟨I1.kIn _ _ lk,?_⟩
 subst ev
 obtain⟨u,rfl,rv⟩:=Gcm r1
 refine thn (Haj kx hi lf hfc F hl hr hb I1 rv) fun r s2 ⟨e,er,⟨hn,h0⟩,I2⟩=>?_
 subst er
 have hH:upd H1 e (FX e C none) e=some (FX e C none):=Hj
 obtain⟨fr,_,_⟩:=(show Kj X.prog X.w _ s2.heap e (FX e C none) from I2.hok e _ hH)
 exact⟨e,none,rfl,I2.kIn _ _ lk,fr,hW pins σ _ e s2 I2 hH h0 (q e hn)⟩
end
def Ga5(h:Heap)(e C:BB)(dx:BC BB):Prop:=∃ t c k u:Bz,h.get? e=some { cls:=.ref C,dict:=dx,data:=.fields #[t,.none,c,k,u,.none] }/\(dx=none->c=.none)
def Ya.g{e:BB}(f:Ya h e C dx):Ga5 h e C dx:=by
 obtain⟨t,q⟩:=f
 exact⟨_,_,_,_,q,fun _=>rfl⟩
def Gw9(fl:Bz)(h:Heap)(a T C:BB)(dx:BC BB):Prop:=∃ oe vs oT ts a0,h.get? a=some oe/\(oe.cls=.ref C/\oe.dict=dx/\vs[0]?=some a0/\(dx=none->vs[2]?=some .none))/\oe.data=.fields vs/\vs[1]?=some (.ref T)/\T≠a/\h.get? T=some oT/\oT.data=.fields ts/\ts[3]?=some fl
abbrev Fly:=Gw9 .none
section
variable{M:Model}{A:Around}{E:Bz->BA->Prop}{s:BA}{Q:Unit->BA->Prop}{env:PySem.Env}{outer:List PySem.Env}{L:BB}{base:Heap}
def Ggp{l:List PySem.Env}{a:BB}{o:Obj}(hl:h.FunFrames base l)(e:h.get? a=some o)(d:o.data=.fields vs):a∉frs l:=fun hm=>by
 obtain⟨_,o',e',nf⟩:=hl.mem hm
 rw[e] at e'
 cases e'
 exact nf vs d
structure Left(fs:List BB)(no:List BB)(h h':Heap):Prop where
 keep:∀ b o,b∉fs->b∉no->h.get? b=some o->h'.get? b=some o
 slot:∀ b o,b∈fs->h.get? b=some o->∃ sl,h'.get? b=some { o with slots:=sl }
def Grl(f:Array Bz->Array Bz)(o:Obj):(Obj.mapFields f o).dict=o.dict:=by
 obtain⟨c,d,dt,sl⟩:=o
 cases dt<;>rfl
def Hak{e:BB}{oe:Obj}{head a0:Bz}{hn:Bool}(hfr:A.frames=some (env::outer))(hl:s.heap.FunFrames base (env::outer))(hf:env.frame=some L)(he:s.heap.get? e=some oe)(hc:oe.cls=.ref C/\oe.dict=dx)(hd:oe.data=.fields vs)(hz:1<vs.size)(h0:vs[0]?=some a0/\(dx=none->vs[2]?=some .none))(hq:∀ h' T,Gw9 (rawInt L) h' e T C dx->s.heap.get? T=none->Left (frs (env::outer)) [e] s.heap h'->Q () { s with heap:=h' }):
  wpAny M A (frameOf env >>= fun a=>entryPlaceOf L hn >>= fun pl=>EntryCells.newEntry head a .none (rawInt L) .none pl >>= fun b=>setField (.ref e) 1 b) Q E s:=by
 have nf:=Ggp hl he hd
 refine wpAny_bind (wpAny_frameOf_fun hfr hl hf fun h1 so=>wpAny_bind (wpAny_entryPlaceOf fun pl ip=>?_))
 obtain⟨sz,so1,so2⟩:=so
 have g1:h1.get? e=some oe:=(so1 e nf).trans he
 unfold EntryCells.newEntry newFields
 refine wpAny_bind (wpAny_newObj_type ?_ (ip.sizeOk5 _ _ _ _ _))
 generalize hT:({ cls:=.type "traceback",dict:=none,data:=.fields ([head,.ref L,.none,rawInt L,.none]++(if pl.isEmpty then List.replicate 6 Value.none else pl)).toArray }:Obj)=oT
 have g2:=Ao (h:=h1) oT g1
 have nT:h1.objs.size≠e:=Bl (Ag g1)
 refine wpAny_setField g2 hd hz ?_
 have d3:=Obj.data_mapFields hd (·.setIfInBounds 1 (Value.ref h1.objs.size))
 have g3:=AX (Obj.mapFields (·.setIfInBounds 1 (Value.ref h1.objs.size))) g2 (Obj.isFreed_of_fields d3)
 have t3:((h1.push oT).update e (Obj.mapFields (·.setIfInBounds 1 (Value.ref h1.objs.size)))).get? h1.objs.size=some oT:=(AH _ _ (Ne.symm nT)).trans (AD h1 (by rw[<- hT]; rfl))
 have kp:∀ b o,b≠e->h1.get? b=some o->((h1.push oT).update e (Obj.mapFields (·.setIfInBounds 1 (Value.ref h1.objs.size)))).get? b=some o:=fun b o hb q=>by
  rw[AH _ _ (Ne.symm hb)]
  exact Ao _ q
 refine hq _ h1.objs.size ⟨_,_,oT,_,a0,g3,⟨(Obj.cls_mapFields _ _).trans hc.1,?_,?_⟩,d3,by simp[hz],nT,t3,by rw[<- hT],?_⟩ ?_ ⟨fun b o hb hn q=>kp b o (by simpa using hn) ((so1 b hb).trans q),fun b o hb q=>?_⟩
 ·rw[<- hc.2]
  exact Grl _ _
 ·rw[Array.getElem?_setIfInBounds_ne (by decide),Array.getElem?_setIfInBounds_ne (by decide)]; exact h0
 ·first | (simp; done) | (rcases ip with rfl | ⟨_,_,_,_,_,_,_,rfl⟩<;>simp)
 ·exact AV (by rw[sz]; exact Ab _)
 ·obtain⟨sl,q'⟩:=so2 b o q
  exact⟨sl,kp b _ (fun z=>nf (by rw[<- z]; exact hb)) q'⟩
def fltD{e T:BB}{fl:Bz}(f:Gw9 fl s.heap e T C dx)(hq:∀ h',Fly h' e T C dx->(∀ b o,b≠T->s.heap.get? b=some o->h'.get? b=some o)->Q () { s with heap:=h' }):wpAny M A (setFlight (.ref e) none) Q E s:=by
 obtain⟨oe,vs,oT,ts,a0,e1,e2,e3,e4,e5,e6,e7,e8⟩:=f
 have h3:3<ts.size:=(Array.getElem?_eq_some_iff.mp e8).1
 refine wpAny_setFlight_none e1 e3 e4 e6 e7 h3 (hq _ ⟨oe,vs,_,_,a0,by rw[AH _ _ e5]; exact e1,e2,e3,e4,e5,AX _ e6 (Obj.isFreed_of_fields (Obj.data_mapFields e7 _)),Obj.data_mapFields e7 _,by simp[h3]⟩ fun b o hb q=>by rw[AH _ _ (Ne.symm hb)]; exact q)
def Gtz{e:BB}(hfr:A.frames=some (env::outer))(hl:s.heap.FunFrames base (env::outer))(hf:env.frame=some L)(fx:Ga5 s.heap e C dx)(hq:∀ h' T,Fly h' e T C dx->s.heap.get? T=none->Left (frs (env::outer)) [e] s.heap h'->Q () { s with heap:=h' }):wpAny M A (noteFrame (.ref e) env) (fun _ s₂=>wpAny M A (setFlight (.ref e) none) Q E s₂) E s:=by
 obtain⟨t,c,k,u,he,hc⟩:=fx
 unfold noteFrame
 simp only[hf]
 refine wpAny_bind (wpAny_field he rfl rfl ?_)
 show wpAny M A (if(Value.none != Value.none)=true then _ else _) _ _ _
 rw[if_neg (show¬ ((Value.none != Value.none)=true) from by decide)]
 refine Hak hfr hl hf he ⟨rfl,rfl⟩ rfl (by simp) ⟨rfl,fun z=>by rw[hc z]; rfl⟩ fun h1 T f1 hT lf=>fltD (s:={ s with heap:=h1 }) f1 fun h' f2 kp=>hq h' T f2 hT ⟨fun b o hb hn q=>kp b o (fun z=>by rw[z,hT] at q; cases q) (lf.keep b o hb hn q),fun b o hb q=>?_⟩
 obtain⟨sl,q'⟩:=lf.slot b o hb q
 exact⟨sl,kp b _ (fun z=>by rw[z,hT] at q; cases q) q'⟩
def Gt0{a T:BB}(hfr:A.frames=some (env::outer))(hl:s.heap.FunFrames base (env::outer))(hf:env.frame=some L)(fl:Fly s.heap a T C dx)(hq:∀ h' T',Fly h' a T' C dx->(s.heap.get? T'=none\/T'=T)->Left (frs (env::outer)) [a,T] s.heap h'->Q () { s with heap:=h' }):wpAny M A (noteFrame (.ref a) env) (fun _ s₂=>wpAny M A (setFlight (.ref a) none) Q E s₂) E s:=by
 obtain⟨oe,vs,oT,ts,a0,e1,⟨c1,c2,c3⟩,e3,e4,e5,e6,e7,e8⟩:=fl
 have h3:3<ts.size:=(Array.getElem?_eq_some_iff.mp e8).1
 have nfT:=Ggp hl e6 e7
 unfold noteFrame
 simp only[hf]
 refine wpAny_bind (wpAny_field e1 e3 e4 ?_)
 rw[if_pos (show(Value.ref T != Value.none)=true from by simp)]
 refine wpAny_bind (wpAny_field e6 e7 e8 ?_)
 rw[if_neg (show¬ ((Value.none==rawInt L)=true) from by simp[rawInt])]
 refine wpAny_bind (wpAny_setField e6 e7 h3 ?_)
 have ot:∀ b,b≠T->(s.heap.update T (Obj.mapFields (·.setIfInBounds 3 Value.none))).get? b=s.heap.get? b:=fun b hb=>AH _ _ (Ne.symm hb)
 have tt:=AX (Obj.mapFields (·.setIfInBounds 3 Value.none)) e6 (Obj.isFreed_of_fields (Obj.data_mapFields e7 _))
 have hl2:(s.heap.update T (Obj.mapFields (·.setIfInBounds 3 Value.none))).FunFrames base (env::outer):=hl.of_keeps fun b o q nf=>⟨o,(ot b fun z=>by rw[z,e6] at q; cases q; exact nf ts e7).trans q,rfl⟩
 refine Hak (s:={ s with heap:=s.heap.update T (Obj.mapFields (·.setIfInBounds 3 Value.none)) }) hfr hl2 hf ((ot a (Ne.symm e5)).trans e1) ⟨c1,c2⟩ e3 (Array.getElem?_eq_some_iff.mp e4).1 c3 fun h1 T1 f1 hT lf=>fltD (s:={ s with heap:=h1 }) f1 fun h' f2 kp=>hq h' T1 f2 (.inl ?_) ⟨fun b o hb hn q=>?_,fun b o hb q=>?_⟩
 ·cases z:s.heap.get? T1 with
  | none=>rfl
  | some o=>
   by_cases c:T1=T
   ·rw[c] at hT
    rw[show(s.heap.update T (Obj.mapFields (·.setIfInBounds 3 Value.none))).get? T=_ from tt] at hT
    cases hT
   ·rw[show(s.heap.update T (Obj.mapFields (·.setIfInBounds 3 Value.none))).get? T1=_ from ot T1 c,z] at hT
    cases hT
 ·simp only[Ae,AC,or_false,not_or] at hn
  have q1:(s.heap.update T (Obj.mapFields (·.setIfInBounds 3 Value.none))).get? b=some o:=(ot b hn.2).trans q
  exact kp b o (fun z=>by rw[z] at q1; rw[show _=none from hT] at q1; cases q1) (lf.keep b o hb (by simpa using hn.1) q1)
 ·have nb:b≠T:=fun z=>nfT (by rw[<- z]; exact hb)
  have q1:(s.heap.update T (Obj.mapFields (·.setIfInBounds 3 Value.none))).get? b=some o:=(ot b nb).trans q
  obtain⟨sl,q'⟩:=lf.slot b o hb q1
  exact⟨sl,kp b _ (fun z=>by rw[z] at q1; rw[show _=none from hT] at q1; cases q1) q'⟩
def Gxa{e:BB}(hfr:A.frames=some (env::outer))(hl:s.heap.FunFrames base (env::outer))(hf:env.frame=some L)(fx:Ga5 s.heap e C dx)(hq:∀ h' T,Fly h' e T C dx->s.heap.get? T=none->Left (frs (env::outer)) [e] s.heap h'->Q () { s with heap:=h' }):wpAny M A (leaving env (.ref e)) Q E s:=by
 unfold leaving
 exact wpAny_bind (Gtz hfr hl hf fx hq)
def Gxb{a T:BB}(hfr:A.frames=some (env::outer))(hl:s.heap.FunFrames base (env::outer))(hf:env.frame=some L)(fl:Fly s.heap a T C dx)(hq:∀ h' T',Fly h' a T' C dx->(s.heap.get? T'=none\/T'=T)->Left (frs (env::outer)) [a,T] s.heap h'->Q () { s with heap:=h' }):wpAny M A (leaving env (.ref a)) Q E s:=by
 unfold leaving
 exact wpAny_bind (Gt0 hfr hl hf fl hq)
end
noncomputable def del(H:Hp)(a:BB):Hp:=fun b=>if b=a then none else H b
def Uk{a:BB}:del H a a=none:=if_pos rfl
def Uu{a b:BB}(h:b≠a):del H a b=H b:=if_neg h
def Glh{a:BB}{o:HO}(x:Kj P w H h a o):∃ u,h.get? a=some u:=by
 cases o with
 | lst xs=>obtain⟨_,_,_,_,e⟩:=x; exact⟨_,e⟩
 | tup xs=>obtain⟨_,_,_,ob,e,_⟩:=x; exact⟨_,e⟩
 | dK kvs=>obtain⟨_,_,_,_,o,_,_,e,_⟩:=x; exact⟨_,e⟩
 | dT kvs=>obtain⟨_,_,_,_,o,_,_,e,_⟩:=x; exact⟨_,e⟩
 | set S n=>obtain⟨o,_,_,_,e,_⟩:=x; exact⟨_,e⟩
 | ins C dx fs=>obtain⟨_,_,_,e,_⟩:=x; exact⟨_,e⟩
 | own y=>obtain⟨_,e⟩:=x; exact⟨_,e⟩
 | xd fs=>obtain⟨_,⟨_,_,_,e,_⟩,_⟩:=x; exact⟨_,e⟩
 | rng lo hi=>obtain⟨_,_,_,e⟩:=x; exact⟨_,e⟩
 | frz ob u=>obtain⟨e,_⟩:=x; exact⟨_,e⟩
 | tbl ps=>exact⟨_,(show h.get? a=some _ from x)⟩
 | met f y=>exact⟨_,(show h.get? a=some _ from x)⟩
 | ext φ=>obtain⟨_,⟨_,e⟩,_⟩:=x; exact⟨_,e⟩
def Gac{a:BB}(k:HOk P w H h)(e:h.get? a=none):H a=none:=by
 cases z:H a with
 | none=>rfl
 | some o=>
  obtain⟨u,q⟩:=Glh (k a o z)
  rw[e] at q
  cases q
def CXe(P:BD)(w:World):CXT:=fun outer H s E e s'=>∃ a T C dx H',e=.ref a/\s'.os=s.os/\AllBare s'.gens/\Un (frs outer) [] H H' s.heap s'.heap/\HOk P w H' s'.heap/\Fly s'.heap a T C dx/\(H' a=none/\H' T=none)/\(s.heap.get? a=none/\s.heap.get? T=none)/\E (.ref C) dx H'
def hok_left{h':Heap}{fs no:List BB}(k:HOk P w H h)(l:Left fs no h h')(hf:∀ b∈fs,H b=none)(hn:∀ b∈no,H b=none):HOk P w H h':=fun b o e=>by
 refine(k b o e).stay (fun c u hc q=>l.keep c u (fun z=>?_) (fun z=>?_) q) (fun _ q=>q) fun _ _ q=>q
 ·have:=hf c z
  rcases hc with rfl | hc
  ·rw[e] at this; cases this
  ·rw[hc] at this; cases this
 ·have:=hn c z
  rcases hc with rfl | hc
  ·rw[e] at this; cases this
  ·rw[hc] at this; cases this
def Gjd{a:BB}(k:HOk P w H h)(ha:H a=some (.ext φ)):HOk P w (del H a) h:=fun b o e=>by
 have nb:b≠a:=fun z=>by rw[z,Uk] at e; cases e
 rw[Uu nb] at e
 refine(k b o e).stay (fun c u _ q=>q) (fun c q=>?_) fun c xs q=>?_
 ·rw[Uu (fun z=>by rw[z,ha] at q; cases q)]; exact q
 ·rw[Uu (fun z=>by rw[z,ha] at q; cases q)]; exact q
def Gje{fs no:List BB}{L:BB}{H':Hp}{h1 h2:Heap}(u:Un fs [] H H1 h h1)(l:Left (L::fs) no h1 h2)(hL:h.get? L=none)(hno:∀ b∈no,h.get? b=none)(fr:∀ b,H1 b=none->H' b=none)(tp:∀ b xs,H1 b=some (.tup xs)->H' b=some (.tup xs))(fz:∀ b o v,H1 b=some (.frz o v)->H' b=some (.frz o v))(tb:∀ b ps,H1 b=some (.tbl ps)->H' b=some (.tbl ps)):Un fs [] H H' h h2:=by
 have nL:∀ b o,h.get? b=some o->b≠L:=fun b o e z=>by rw[z,hL] at e; cases e
 have nN:∀ b o,h.get? b=some o->b∉no:=fun b o e z=>by rw[hno b z] at e; cases e
 refine⟨fun b o e n hb hx=>?_,fun b o e n hb hx=>?_,fun b o e n hx=>fr b (u.free b o e n hx),fun b o e hx=>?_,fun b xs e=>tp b xs (u.tups b xs e),fun b o v e=>fz b o v (u.frzs b o v e),fun b ps e=>?_⟩
 ·refine l.keep b o (fun z=>?_) (nN b o e) (u.keep b o e n hb hx)
  rcases Ae.mp z with z | z
  ·exact nL b o e z
  ·exact hb z
 ·obtain⟨sl,q⟩:=u.slot b o e n hb hx
  obtain⟨sl',q'⟩:=l.slot b _ (Au _ hb) q
  exact⟨sl',q'⟩
 ·obtain⟨o',q⟩:=u.there b o e hx
  by_cases c:b∈L::fs
  ·obtain⟨sl,q'⟩:=l.slot b o' c q
   exact⟨_,q'⟩
  ·exact⟨o',l.keep b o' c (nN b o e) q⟩
 ·obtain⟨more,q⟩:=u.tbls b ps e
  exact⟨more,tb b _ q⟩
section
variable{P:BD}{w:World}{K:By}{mg:Str->BC Bz}{base:Heap}{N:List Str}{qual:Str}{scope:Scope}{f:BB}{cd:Bz}{A:Around}{outer:List PySem.Env}{s:BA}{H:Hp}{E:XK}
def Yb{fs:List BB}{H0:Hp}{h0 h1:Heap}{b:BB}(u:Un fs [] H0 H1 h0 h1)(e:h1.get? b=none):h0.get? b=none:=by
 cases z:h0.get? b with
 | none=>rfl
 | some o=>
  obtain⟨o',q⟩:=u.there b o z (by simp)
  rw[e] at q
  cases q
def Gnf{s1:BA}{e:BB}(I:Inv (Qy (CXe P w) P w K mg base N qual scope f cd A outer s H E) pins σ H1 s1)(hH:H1 e=some (.ext φ))(fr:Ga5 s1.heap e C dx)(le:s.heap.get? e=none)(hE:E (.ref C) dx (del H1 e)):
  (Qy (CXe P w) P w K mg base N qual scope f cd A outer s H E).xe (.ref e) s1:=by
 show wpAny (model P w) _ (leaving (envOfC qual scope s.heap.objs.size f cd) (.ref e)) _ _ s1
 have hL:s.heap.get? s.heap.objs.size=none:=AV (Ab _)
 refine Gxa (base:=base) I.ok.frames I.stack rfl fr fun h' T fl hT lf=>?_
 have hT1:H1 T=none:=Gac I.hok hT
 have dn:∀ b,H1 b=none->del H1 e b=none:=fun b q=>by
  by_cases c:b=e
  ·rw[c,Uk]
  ·rw[Uu c]; exact q
 have ne_of_kind:∀ {b:BB} {o:HO},H1 b=some o->o≠.ext φ->b≠e:=fun q n z=>n (by rw[z,hH] at q; exact(Ac q).symm)
 refine⟨e,T,C,dx,del H1 e,rfl,I.os,I.bare,Gje (L:=s.heap.objs.size) I.base lf hL (fun b hb=>?_) dn (fun b xs q=>?_) (fun b o v q=>?_) (fun b ps q=>?_),hok_left (Gjd I.hok hH) lf (fun b hb=>dn b (I.stkFree b hb)) (fun b hb=>?_),fl,⟨Uk,dn T hT1⟩,⟨le,Yb I.base hT⟩,hE⟩
 ·have:b=e:=by simpa using hb
  rw[this]; exact le
 ·rw[Uu (ne_of_kind q (by intro z; cases z))]; exact q
 ·rw[Uu (ne_of_kind q (by intro z; cases z))]; exact q
 ·rw[Uu (ne_of_kind q (by intro z; cases z))]; exact q
 ·have:b=e:=by simpa using hb
  rw[this]; exact Uk
def xe_on{s2 s3:BA}{e:Bz}{E2:XK}(I:Inv (Qy (CXe P w) P w K mg base N qual scope f cd A outer s H E) pins σ H2 s2)(hx:CXe P w (Qy (CXe P w) P w K mg base N qual scope f cd A outer s H E).stack H2 s2 E2 e s3)(hE:∀ C dx H',E2 (.ref C) dx H'->E (.ref C) dx H'):
  (Qy (CXe P w) P w K mg base N qual scope f cd A outer s H E).xe e s3:=by
 obtain⟨a,T,C,dx,H',rfl,os,bare,un,hok,fly,⟨na,nT⟩,⟨oa,oT⟩,hE2⟩:=hx
 obtain⟨h3,g3,d3,t3,o3⟩:=s3
 obtain rfl:o3=s2.os:=os
 have I3:Inv (Qy (CXe P w) P w K mg base N qual scope f cd A outer s H E) pins σ H' { s2 with heap:=h3,gens:=g3,drawn:=d3,toks:=t3 }:=I.call (h':=h3) (g':=g3) (d':=d3) (t':=t3) (ch:=[]) un hok bare (fun b z=>absurd z (by simp))
 show wpAny (model P w) _ (leaving (envOfC qual scope s.heap.objs.size f cd) (.ref a)) _ _ _
 have hL:s.heap.get? s.heap.objs.size=none:=AV (Ab _)
 have a0:s.heap.get? a=none:=Yb I.base oa
 have T0:s.heap.get? T=none:=Yb I.base oT
 refine Gxb (base:=base) I3.ok.frames I3.stack rfl fly fun h' T' fl hT lf=>?_
 have nT':H' T'=none:=by
  rcases hT with hT | rfl
  ·exact Gac hok hT
  ·exact nT
 have oT':s.heap.get? T'=none:=by
  rcases hT with hT | rfl
  ·exact Yb I3.base hT
  ·exact T0
 refine⟨a,T',C,dx,H',rfl,I3.os,bare,Gje (L:=s.heap.objs.size) I3.base lf hL (fun b hb=>?_) (fun b q=>q) (fun b xs q=>q) (fun b o v q=>q) (fun b ps q=>q),hok_left hok lf (fun b hb=>I3.stkFree b hb) (fun b hb=>?_),fl,⟨na,nT'⟩,⟨a0,oT'⟩,hE _ _ _ hE2⟩
 ·simp only[Ae,AC,or_false] at hb
  rcases hb with rfl | rfl
  ·exact a0
  ·exact T0
 ·simp only[Ae,AC,or_false] at hb
  rcases hb with rfl | rfl
  ·exact na
  ·exact nT
end
def XF(H:Hp)(dx:BC BB)(fl:BC Int):Prop:=(∀ i,fl=some i->∃ d,dx=some d/\H d=some (XA d i))/\(fl=none->dx=none)
def Grm:XF H none none:=⟨fun _ z=>(nomatch z),fun _=>rfl⟩
def WX(K:By)(XQ:XW)(σ:L2.St)(C:BB)(dx:BC BB)(H:Hp):Prop:=∃ x mp ρ S,XF H dx x.fld/\CN K x.cls C/\XQ x mp H σ ρ S
structure XL(X:Cx)(XQ:XW):Prop where
 own:∀ (pins:List (BB×Obj)) (σ:L2.St) (H:Hp) (s:BA) (e C:BB) (dx:BC BB) (φ:Heap->Prop),Inv X pins σ H s->H e=some (.ext φ)->Ga5 s.heap e C dx->X.s₀.heap.get? e=none->WX X.K XQ σ C dx (del H e)->X.xe (.ref e) s
 cal:∀ (pins:List (BB×Obj)) (σ:L2.St) (H:Hp) (s:BA) (e:Bz) (s':BA) (E2:XK),Inv X pins σ H s->CXe X.prog X.w X.stack H s E2 e s'->(∀ C dx H',E2 (.ref C) dx H'->WX X.K XQ σ C dx H')->X.xe e s'
 pas:PassesOwn (model X.prog X.w) X.A X.env X.xe
 pat:∀ hd,PassesOwnAt (model X.prog X.w) (X.A.mark hd) X.A X.env X.xe
def XL.own1(L:XL X XQ)(pins:List (BB×Obj))(σ:L2.St)(H:Hp)(s:BA)(e C:BB)(dx:BC BB)(I:Inv X pins σ H s)(hH:H e=some (FX e C dx))(h0:X.s₀.heap.get? e=none)(w:WX X.K XQ σ C dx (del H e)):X.xe (.ref e) s:=by
 obtain⟨fr,_,_⟩:=(show Kj X.prog X.w H s.heap e (FX e C dx) from I.hok e _ hH)
 exact L.own pins σ H s e C dx _ I hH fr.g h0 w
def Hal(K:By)(mp:List BB)(H:Hp)(o:Out D)(Q:VK)(E:XK):Prop:=
 match o with
 | .ok d S=>∀ mp' H' v,Aft K mp H mp' H'->RS K mp' H' S->Rep K mp' H' d v->Q v H'
 | .exc x S=>∃ C,CN K x.cls C/\∀ mp' H' dx,Aft K mp H mp' H'->RS K mp' H' S->XF H' dx x.fld->E (.ref C) dx H'
 | .bad=>False
def spX(K:By)(n:Nat)(fn:Fn):Sp:=fun vs H Q E=>∃ mp ds S,RS K mp H S/\RepL K mp H ds vs/\ds.length=n/\Hal K mp H (fn ds S) Q E
def XQd(K:By)(E:XK):XW:=fun x _ H _ _ _=>∃ C,CN K x.cls C/\∀ dx,XF H dx x.fld->E (.ref C) dx H
section
variable{P:BD}{w:World}{K:By}{mg:Str->BC Bz}{base:Heap}
def Gng{f:BB}{cd:Bz}{outer:List PySem.Env}{s:BA}{E:XK}:XL (Qy (CXe P w) P w K mg base N qual scope f cd A outer s H E) (XQd K E) where
 own:=fun pins σ H1 s1 e C dx φ I hH fr le ⟨x,mp,ρ,S,xf,hc,C',hc',hE⟩=>by
  cases CN.one hc hc'
  exact Gnf I hH fr le (hE dx xf)
 cal:=fun pins σ H2 s2 e s3 E2 I hx hE=>xe_on I hx fun C dx H' q=>by
  obtain⟨x,mp,ρ,S,xf,hc,C',hc',hE⟩:=hE C dx H' q
  cases CN.one hc hc'
  exact hE dx xf
 pas:=PassesOwn.leaving
 pat:=fun _=>PassesOwnAt.leaving
def Fun.okX{CX:CXT}{x:Str}{f:BB}{fd:FuncData}(F:Fun K x qual st f fd)(S:FnScope N ps (Gc st))(len:∀ vs H Q E,sp vs H Q E->vs.length=ps.length)(hbody:∀ (cdv:Bz) (A:Around) (outer:List PySem.Env) (s:BA) (H:Hp) (vs:List V) (Q:VK) (E:XK),Room k (A.deeper (envOfC qual (Gc st) s.heap.objs.size f cdv))->sp vs H Q E→
   ∃ t,PSs (Qy CX P w K mg base N qual (Gc st) f cdv A outer s H E) (Hb st) t/\t { nx:=fun _ H'=>Q .non H',rt:=Q } (start N vs) H):FnOk P w K mg base CX (k+1) f fd ps sp:=by
 obtain⟨oc,od,kV,doc,pm,an,cdv,ct,osl,rfl,lk,hcd⟩:=F.ex
 exact Gmb lk hcd S len fun A outer s H vs Q E hr hsp=>hbody cdv A outer s H vs Q E hr hsp
def Gxc{x:Str}{f:BB}{fd:FuncData}{b:Sv}(F:Fun K x qual st f fd)(Sc:FnScope N ps (Gc st))(hb:∀ (cdv:Bz) (A:Around) (outer:List PySem.Env) (s:BA) (H:Hp) (E:XK) (XQ:XW),Room k (A.deeper (envOfC qual (Gc st) s.heap.objs.size f cdv))->XL (Qy (CXe P w) P w K mg base N qual (Gc st) f cdv A outer s H E) XQ→
   JSs (Qy (CXe P w) P w K mg base N qual (Gc st) f cdv A outer s H E) XQ (Hb st) b):FnOk P w K mg base (CXe P w) (k+1) f fd ps (spX K ps.length (fnB N.length b)):=by
 refine Fun.okX F Sc (fun vs H Q E ⟨mp,ds,S,rs,r,hl,_⟩=>by rw[r.len]; exact hl) fun cdv A outer s H vs Q E hr ⟨mp,ds,S,rs,r,hl,p⟩=>?_
 refine⟨_,hb cdv A outer s H E (XQd K E) hr Gng,mp,_,S,Gcp rs r,?_⟩
 unfold fnB at p
 show PostS K _ mp H (b (ds.map some++List.replicate (N.length-ds.length) none) S) _
 cases z:b (ds.map some++List.replicate (N.length-ds.length) none) S with
 | rt d S'=>rw[z] at p; exact p
 | nx ρ' S'=>rw[z] at p; exact fun m h v af G=>p m h .non af G.rs rfl
 | bk ρ' S'=>rw[z] at p; exact p.elim
 | ct ρ' S'=>rw[z] at p; exact p.elim
 | exc x ρ' S'=>
  rw[z] at p
  obtain⟨C,hc,q⟩:=p
  exact fun m h v af G=>⟨C,hc,fun dx xf=>q m h dx af G.rs xf⟩
 | bad=>rw[z] at p; exact p.elim
structure CalX(P:BD)(w:World)(K:By)(mg:Str->BC Bz)(base:Heap)(x:Str)(ps:List Str)(fn:Fn)(j:Nat):Prop where
 ex:∃ f fd,FnOk P w K mg base (CXe P w) j f fd ps (spX K ps.length fn)/\mg x=some (.ref f)/\PySem.W.keepIn K (.ref f)=true/\Binds K fd ps []
def Grn{x:Str}(N:List Str)(k:Nat)(b:Sv)(hfn:fn=fnB N.length b)(d:Dn K mg x st ps)(Sc:FnScope N ps (Gc st))(hb:∀ (f:BB) (cdv:Bz) (A:Around) (outer:List PySem.Env) (s:BA) (H:Hp) (E:XK) (XQ:XW),Room k (A.deeper (envOfC x (Gc st) s.heap.objs.size f cdv))->XL (Qy (CXe P w) P w K mg base N x (Gc st) f cdv A outer s H E) XQ→
   JSs (Qy (CXe P w) P w K mg base N x (Gc st) f cdv A outer s H E) XQ (Hb st) b):CalX P w K mg base x ps fn (k+1):=by
 subst hfn
 obtain⟨f,fd,F,hm,hbi⟩:=d.ex
 exact⟨f,fd,Gxc F Sc (hb f),hm,F.kp,hbi⟩
end
section
variable{X:Cx}{XQ:XW}{k:Nat}{f:BB}{fd:FuncData}{ps:List Str}{fn:Fn}{x:Str}{p pos:Pos}{e:Expr}{es:List Expr}
def Gxd(sp:Sp)(Wx:L2.St->BB->BC BB->Hp->Prop)(t:TA):TE:=fun σ H Q=>t σ H fun vs H1=>sp vs H1 Q fun c dx H'=>∃ C,c=.ref C/\Wx σ C dx H'
def Gjf{Wx:L2.St->BB->BC BB->Hp->Prop}{s:BA}{Q:VK}{us:List Bz}{vs:List V}(F:FnOk X.prog X.w X.K X.mg X.base (CXe X.prog X.w) k f fd ps sp)(hr:Room k X.A)(hb:Binds X.K fd ps [])(hx:∀ (pins:List (BB×Obj)) (σ:L2.St) (H:Hp) (s:BA) (e:Bz) (s':BA) (E2:XK),Inv X pins σ H s->CXe X.prog X.w X.stack H s E2 e s'->(∀ C dx H',E2 (.ref C) dx H'->Wx σ C dx H')->X.xe e s')(I:Inv X pins σ H s)(r:Vals vs us)(h:sp vs H Q fun c dx H'=>∃ C,c=.ref C/\Wx σ C dx H'):wpAny (model X.prog X.w) X.A (call (.ref f) us) (EP X pins σ Q) X.xe s:=by
 have hl:us.length=ps.length:=by rw[<- r.length]; exact F.len _ _ _ _ h
 refine wpAny_call (codeAny_mono (F.run X.A X.stack s H ⟨us,[]⟩ us vs Q _ hr I.env0 (by have:=hb s us I.kIn (by simpa using hl); simpa using this) r h) fun r s' hq=>?_)
 cases r with
 | error e=>exact hx pins σ H s e s' (fun c dx H'=>∃ C,c=.ref C/\Wx σ C dx H') I hq fun C dx H' ⟨C',e1,q⟩=>by cases e1; exact q
 | ok fl=>
  cases fl with
  | ret u=>exact I.after hq
  | next=>exact False.elim hq
  | brk=>exact False.elim hq
  | cont=>exact False.elim hq
def Gnh{Wx:L2.St->BB->BC BB->Hp->Prop}{t:TA}(F:FnOk X.prog X.w X.K X.mg X.base (CXe X.prog X.w) k f fd ps sp)(hr:Room k X.A)(hg:Gl X x)(hm:X.mg x=some (.ref f))(hk:PySem.W.keepIn X.K (.ref f)=true)(hb:Binds X.K fd ps [])(hx:∀ (pins:List (BB×Obj)) (σ:L2.St) (H:Hp) (s:BA) (e:Bz) (s':BA) (E2:XK),Inv X pins σ H s->CXe X.prog X.w X.stack H s E2 e s'->(∀ C dx H',E2 (.ref C) dx H'->Wx σ C dx H')->X.xe e s')(ha:PA X (e::es) t)(hdb:(x==("__debug__":Str))=false:=by decide)(he:starEach (e::es) X.env=(false,eval e X.env)::starEach es X.env:=by rfl)(hpl:(backTo pos (starEach es X.env)).any (·.1)=false:=by rfl):
  PE X (.Call (.Name x p) (e::es) [] pos) (Gxd sp Wx t):=by
 intro pins s σ H Q I h
 refine wpAny_Call_Name_kw (Yt I hg hm ?_ hdb)
 refine PySem.W.callWith_K (h₀:=X.base) I.ok.mod.kin hk (thn (ha pos pins s σ H _ I h) fun us s1 ⟨vs,H1,I1,r,q⟩=>⟨I1.kIn,?_⟩) he hpl
 exact Gjf F hr hb hx I1 r q
noncomputable def gX(ys:List Str)(fn:Fn):Fn:=fun ds S=>match fn ds S with
 | .ok d S'=>.ok d S'
 | .exc x S'=>if x.cls∈ys then .exc x S' else .bad
 | .bad=>.bad
def XNs(K:By)(ys:List Str):Prop:=∀ y∈ys,∃ C,CN K y C/\XCl K C
def Gni{ys:List Str}(xs:XNs X.K ys)(L:XL X XQ)(F:FnOk X.prog X.w X.K X.mg X.base (CXe X.prog X.w) j f fd ps (spX X.K ps.length fn))(hr:Room k X.A)(hj:j<=k)(hg:Gl X x)(hm:X.mg x=some (.ref f))(hk:PySem.W.keepIn X.K (.ref f)=true)(hb:Binds X.K fd ps [])(ha:JA X XQ (e::es) t)(hdb:(x==("__debug__":Str))=false:=by decide)(he:starEach (e::es) X.env=(false,eval e X.env)::starEach es X.env:=by rfl)(hpl:(backTo pos (starEach es X.env)).any (·.1)=false:=by rfl):
  JE X XQ (.Call (.Name x p) (e::es) [] pos) (cl ps.length (gX ys fn) t):=by
 refine PE.mono (Gnh (Wx:=WX X.K XQ) (F.mono hj) hr hg hm hk hb L.cal ha hdb he hpl) fun σ H Q ⟨mp,ρ,S,G,p⟩=>?_
 refine bindP G p fun mp1 H1 ds S1 vs a1 G1 r1 p1=>?_
 by_cases hl:ds.length=ps.length
 ·rw[if_pos hl] at p1
  refine⟨mp1,ds,S1,G1.rs,r1,hl,?_⟩
  unfold gX at p1
  cases z:fn ds S1 with
  | ok d S'=>rw[z] at p1; exact p1
  | exc xx S'=>
   rw[z] at p1
   by_cases hi:xx.cls∈ys
   ·have p1:Gj X.K (Rep X.K) XQ σ ρ mp1 H1 (.exc xx S') Q:=by simpa only[if_pos hi] using p1
    obtain⟨C,hC,_⟩:=xs _ hi
    refine⟨C,hC,fun mp' H' dx af rs xf=>⟨C,rfl,xx,mp',ρ,S',xf,hC,p1 mp' H' af (G1.aft af rs)⟩⟩
   ·have p1:Gj X.K (Rep X.K) XQ σ ρ mp1 H1 .bad Q:=by simpa only[if_neg hi] using p1
    exact p1.elim
  | bad=>rw[z] at p1; exact p1.elim
 ·rw[if_neg hl] at p1; exact p1.elim
def Ham{ys:List Str}(xs:XNs X.K ys)(L:XL X XQ)(C:CalX X.prog X.w X.K X.mg X.base x ps fn j)(hr:Room k X.A)(hg:Gl X x)(hp:Gw x=true)(ha:JA X XQ (e::es) t)(hn:ps.length=n:=by rfl)(hj:j<=k:=by decide)(he:starEach (e::es) X.env=(false,eval e X.env)::starEach es X.env:=by rfl)(hpl:(backTo pos (starEach es X.env)).any (·.1)=false:=by rfl):
  JE X XQ (.Call (.Name x p) (e::es) [] pos) (cl n (gX ys fn) t):=by
 subst hn
 obtain⟨f,fd,F,hm,hk,hb⟩:=C.ex
 exact Gni xs L F hr hj hg hm hk hb ha (Gw.of hp).1 he hpl
def srs(y:Str)(f:Ev (List D)):Sv:=fun ρ S=>bindS (f ρ S) ρ fun ds S1=>match ds with
 | [_]=>.exc ⟨y,none⟩ ρ S1
 | _=>.bad
structure ClX(P:BD)(w:World)(K:By)(mg:Str->BC Bz)(base:Heap)(x:Str)(j:Nat):Prop where
 ex:∃ C f fd ps oI,mg x=some (.ref C)/\CN K x C/\KX K C/\PySem.W.findIn K (.ref C) "__init__"=some (some (.ref f))/\K.lookup f=some oI/\oI.cls=.type "function"/\FnOk P w K mg base CX0 j f fd ps (spI K)/\ps.length=2/\Binds K fd ps []
def Gnj{pos:Pos}(L:XL X XQ)(hcm:X.calm=true)(C:ClX X.prog X.w X.K X.mg X.base x j)(hr:Room k X.A)(hg:Gl X x)(hp:Gw x=true)(ha:JA X XQ [a] t)(hj:j+1<=k:=by decide)(he:starEach [a] X.env=(false,eval a X.env)::starEach [] X.env:=by rfl)(hpl:(backTo cpos (starEach [] X.env)).any (·.1)=false:=by rfl):
  JS X XQ (.Raise (some (.Call (.Name x np) [a] [] cpos)) none pos) (srs x t):=by
 obtain⟨C,f,fd,ps,oI,hm,hc,kx,hi,lf,hfc,F,hl,hb⟩:=C.ex
 refine PS.mono (Gne (W:=fun σ H e=>WX X.K XQ σ C none (del H e)) (fun pins σ H e s' I hH h0 w=>L.own1 pins σ H s' e C none I hH h0 w) hcm hg hm kx hi lf hfc F hl (hr.mono hj) hb ha (Gw.of hp).1 he hpl) fun E σ H ⟨mp,ρ,S,G,p⟩=>?_
 refine bindSP G p fun mp1 H1 ds S1 vs a1 G1 r1 p1=>?_
 split at p1
 ·obtain⟨v,rfl,_⟩:=RepL.one r1
  refine⟨v,rfl,fun e he=>⟨⟨x,none⟩,mp1,ρ,S1,Grm,hc,?_⟩⟩
  have e1:del (upd H1 e (FX e C none)) e=H1:=by
   funext b
   by_cases c:b=e
   ·rw[c,Uk,he]
   ·rw[Uu c,Gn c]
  rw[e1]
  exact p1 mp1 H1 σ .refl G1
 ·exact p1.elim
end
structure Plain(X:Cx):Prop where
 stk:X.stack=X.env::X.outer
 fr:X.env.frame=some X.env.locals
 ex:X.ex=[]
structure Landed(X:Cx)(pins:List (BB×Obj))(σ:L2.St)(H:Hp)(a C:BB)(dx:BC BB)(s:BA):Prop where
 ex:∃ T,Inv X pins σ H s/\Fly s.heap a T C dx/\(H a=none/\H T=none)/\(X.s₀.heap.get? a=none/\X.s₀.heap.get? T=none)/\∀ p∈X.pn++pins,p.1≠a/\p.1≠T
section
variable{X:Cx}{pins:List (BB×Obj)}{σ:L2.St}{H:Hp}{s:BA}{A:Around}{E:Bz->BA->Prop}{Q:Unit->BA->Prop}{M:Model}
def Plain.old{b:BB}(pl:Plain X)(I:Inv X pins σ H s)(e:s.heap.get? b=none):X.s₀.heap.get? b=none:=by
 have u:=I.base
 rw[pl.ex] at u
 exact Yb u e
def own_land{e:BB}(pl:Plain X)(I:Inv X pins σ H s)(hH:H e=some (.ext φ))(fr:Ga5 s.heap e C dx)(le:X.s₀.heap.get? e=none)(hq:∀ s',Landed X pins σ (del H e) e C dx s'->Q () s'):
  wpAny M X.A (noteFrame (.ref e) X.env) (fun _ s₂=>wpAny M X.A (setFlight (.ref e) none) Q E s₂) E s:=by
 have hfr:X.A.frames=some (X.env::X.outer):=by rw[I.ok.frames,pl.stk]
 have hl:s.heap.FunFrames X.base (X.env::X.outer):=by rw[<- pl.stk]; exact I.stack
 refine Gtz hfr hl pl.fr fr fun h' T fl hT lf=>hq _ ?_
 have dn:∀ b,H b=none->del H e b=none:=fun b q=>by
  by_cases c:b=e
  ·rw[c,Uk]
  ·rw[Uu c]; exact q
 have nk:∀ {b:BB} {o:HO},H b=some o->o≠.ext φ->b≠e:=fun q n z=>n (by rw[z,hH] at q; exact(Ac q).symm)
 have ne0:∀ b,H b=none->b≠e:=fun b q z=>by rw[z,hH] at q; cases q
 rw[<- pl.stk] at lf
 have un:Un (frs X.stack) [] H (del H e) s.heap h':=⟨fun b o q n hb _=>lf.keep b o hb (fun z=>ne0 b n (by simpa using z)) q,fun b o q n hb _=>lf.slot b o hb q,fun b o q n _=>dn b n,fun b o q _=>by
   by_cases c:b∈frs X.stack
   ·obtain⟨sl,q'⟩:=lf.slot b o c q
    exact⟨_,q'⟩
   ·by_cases c2:b=e
    ·subst c2
     obtain⟨oe,_,_,_,_,z,_⟩:=fl
     exact⟨_,z⟩
    ·exact⟨o,lf.keep b o c (by simpa using c2) q⟩,
  fun b xs q=>by rw[Uu (nk q (by intro z; cases z))]; exact q,fun b o v q=>by rw[Uu (nk q (by intro z; cases z))]; exact q,fun b ps q=>⟨#[],by rw[Uu (nk q (by intro z; cases z)),q]; simp⟩⟩
 have hk:HOk X.prog X.w (del H e) h':=hok_left (Gjd I.hok hH) lf (fun b hb=>dn b (I.stkFree b hb)) (fun b hb=>by
  have:b=e:=by simpa using hb
  rw[this]; exact Uk)
 refine⟨T,?_,fl,⟨Uk,dn T (Gac I.hok hT)⟩,⟨le,pl.old I hT⟩,fun p hp=>?_⟩
 ·have J:=I.call (h':=h') (g':=s.gens) (d':=s.drawn) (t':=s.toks) (ch:=[]) un hk I.bare (fun b z=>absurd z (by simp))
  exact J
 ·obtain⟨q1,q2,_⟩:=I.pin p hp
  refine⟨ne0 _ q2,fun z=>?_⟩
  rw[z,hT] at q1
  cases q1
def call_land{E2:XK}{e:Bz}{s':BA}(pl:Plain X)(I:Inv X pins σ H s)(hx:CXe X.prog X.w X.stack H s E2 e s')(hq:∀ a C dx H' s'',e=.ref a->E2 (.ref C) dx H'->Landed X pins σ H' a C dx s''->Q () s''):
  wpAny M X.A (noteFrame e X.env) (fun _ s₂=>wpAny M X.A (setFlight e none) Q E s₂) E s':=by
 obtain⟨a,T,C,dx,H',rfl,os,bare,un,hok,fly,⟨na,nT⟩,⟨oa,oT⟩,hE2⟩:=hx
 obtain⟨h3,g3,d3,t3,o3⟩:=s'
 obtain rfl:o3=s.os:=os
 have I3:Inv X pins σ H' { s with heap:=h3,gens:=g3,drawn:=d3,toks:=t3 }:=I.call (h':=h3) (g':=g3) (d':=d3) (t':=t3) (ch:=[]) un hok bare (fun b z=>absurd z (by simp))
 have hfr:X.A.frames=some (X.env::X.outer):=by rw[I.ok.frames,pl.stk]
 have hl:h3.FunFrames X.base (X.env::X.outer):=by rw[<- pl.stk]; exact I3.stack
 refine Gt0 (s:={ s with heap:=h3,gens:=g3,drawn:=d3,toks:=t3 }) hfr hl pl.fr fly fun h' T' fl hT lf=>hq a C dx H' _ rfl hE2 ?_
 rw[<- pl.stk] at lf
 have nn:∀ b o,s.heap.get? b=some o->b∉[a,T]:=fun b o q z=>by
  simp only[Ae,AC,or_false] at z
  rcases z with rfl | rfl
  ·rw[oa] at q; cases q
  ·rw[oT] at q; cases q
 have un2:Un (frs X.stack) [] H H' s.heap h':=⟨fun b o q n hb hx=>lf.keep b o hb (nn b o q) (un.keep b o q n hb hx),fun b o q n hb hx=>by
   obtain⟨sl,q1⟩:=un.slot b o q n hb hx
   obtain⟨sl',q2⟩:=lf.slot b _ hb q1
   exact⟨sl',q2⟩,un.free,fun b o q hx=>by
   obtain⟨o',q1⟩:=un.there b o q hx
   by_cases c:b∈frs X.stack
   ·obtain⟨sl,q2⟩:=lf.slot b o' c q1
    exact⟨_,q2⟩
   ·exact⟨o',lf.keep b o' c (nn b o q) q1⟩,un.tups,un.frzs,un.tbls⟩
 have nT':H' T'=none:=by
  rcases hT with hT | rfl
  ·exact Gac hok hT
  ·exact nT
 have oT':X.s₀.heap.get? T'=none:=by
  rcases hT with hT | rfl
  ·exact pl.old I3 hT
  ·exact pl.old I oT
 have hk:HOk X.prog X.w H' h':=hok_left hok lf (fun b hb=>I3.stkFree b hb) (fun b hb=>by
  simp only[Ae,AC,or_false] at hb
  rcases hb with rfl | rfl
  ·exact na
  ·exact nT)
 refine⟨T',?_,fl,⟨na,nT'⟩,⟨pl.old I oa,oT'⟩,fun p hp=>?_⟩
 ·have J:=I.call (h':=h') (g':=g3) (d':=d3) (t':=t3) (ch:=[]) un2 hk bare (fun b z=>absurd z (by simp))
  exact J
 ·obtain⟨q1,q2,_⟩:=I.pin p hp
  obtain⟨q3,_,_⟩:=I3.pin p hp
  refine And.intro (fun z=>?_) (fun z=>?_)
  ·rw[z,oa] at q1; cases q1
  rcases hT with hT | rfl
  ·rw[z] at q3
   rw[show h3.get? T'=none from hT] at q3
   cases q3
  ·rw[z,oT] at q1; cases q1
end
section
variable{X:Cx}{pins:List (BB×Obj)}{σ:L2.St}{H:Hp}{s:BA}{A:Around}{E:Bz->BA->Prop}{Q:Unit->BA->Prop}{M:Model}
def Gro{it:BB}{h':Heap}(I:Inv X pins σ H s)(k:∀ b o,b≠it->s.heap.get? b=some o->h'.get? b=some o)(there:∃ o,h'.get? it=some o)(hn:H it=none)(hL:it≠X.env.locals)(h0:X.s₀.heap.get? it=none)(h2:∀ x c,X.env.cells.lookup x=some c->c≠it)(h3:∀ p∈X.pn++pins,p.1≠it):Inv X pins σ H { s with heap:=h' }:=by
 have n0:∀ b o,X.s₀.heap.get? b=some o->b≠it:=fun b o e z=>by rw[z,h0] at e; cases e
 have nit:∀ b u,H b=some u->b≠it:=fun b u e z=>by rw[z,hn] at e; cases e
 have ce:∀ x c,X.env.cells.lookup x=some c->∀ v,s.heap.IsCell c v->h'.IsCell c v:=fun x c e v ⟨o,ho,hd⟩=>⟨o,k c o (h2 x c e) ho,hd⟩
 refine⟨I.ok,I.os,I.bare,⟨fun b o e n hb hx=>k b o (n0 b o e) (I.base.keep b o e n hb hx),fun b o e n hb hx=>?_,I.base.free,fun b o e hx=>?_,I.base.tups,I.base.frzs,I.base.tbls⟩,?_,fun x c e=>?_,I.free,I.freeC,fun p hp=>?_,fun b u e=>?_,I.len⟩
 ·obtain⟨sl,q⟩:=I.base.slot b o e n hb hx
  exact⟨sl,k b _ (n0 b o e) q⟩
 ·obtain⟨o',q⟩:=I.base.there b o e hx
  exact⟨o',k b o' (n0 b o e) q⟩
 ·obtain⟨m,⟨o,es,ep,ho,r⟩,hl⟩:=I.loc
  refine⟨m,⟨o,es,ep,k _ o (Ne.symm hL) ho,r⟩,fun i x v e1 e2 e3=>?_⟩
  obtain⟨u,r,l⟩:=hl i x v e1 e2 e3
  refine⟨u,r,?_⟩
  rcases l with l | ⟨kk,c,e,z⟩
  ·exact .inl l
  ·exact .inr ⟨kk,c,e,ce x c e _ z⟩
 ·obtain⟨v,z⟩:=I.cell x c e
  exact⟨v,ce x c e v z⟩
 ·obtain⟨q1,q2,q3,q4,q5⟩:=I.pin p hp
  exact⟨k _ _ (h3 p hp) q1,q2,q3,q4,q5⟩
 ·refine(I.hok b u e).stay (fun c v hc q=>k c v ?_ q) (fun _ q=>q) fun _ _ q=>q
  rcases hc with z | z
  ·rw[z]; exact nit b u e
  ·exact nit c _ z
def Gnk{b:BB}{o:Obj}(I:Inv X pins σ H s)(e:s.heap.get? b=some o)(d:o.data=.fields vs):b≠X.env.locals/\∀ x c,X.env.cells.lookup x=some c->c≠b:=by
 refine⟨fun z=>?_,fun x c hc z=>?_⟩
 ·obtain⟨m,⟨o',es,ep,ho,hd,_⟩,_⟩:=I.loc
  rw[<- z,e] at ho
  cases ho
  rw[d] at hd
  cases hd
 ·obtain⟨v,o',ho,hd⟩:=I.cell x c hc
  rw[z,e] at ho
  cases ho
  rw[d] at hd
  cases hd
def Landed.flight{a:BB}(l:Landed X pins σ H a C dx s)(hq:∀ s',Landed X pins σ H a C dx s'->Q () s'):wpAny M A (setFlight (.ref a) none) Q E s:=by
 obtain⟨T,I,⟨oe,vs,oT,ts,a0,e1,e2,e3,e4,e5,e6,e7,e8⟩,⟨na,nT⟩,⟨oa,ot⟩,pn⟩:=l.ex
 have h3:3<ts.size:=(Array.getElem?_eq_some_iff.mp e8).1
 refine wpAny_setFlight_none e1 e3 e4 e6 e7 h3 (hq _ ⟨T,?_,?_,⟨na,nT⟩,⟨oa,ot⟩,pn⟩)
 ·have rn:=Gnk I e6 e7
  exact Gro (it:=T) I (fun b o hb q=>by rw[AH _ _ (Ne.symm hb)]; exact q) ⟨_,AX _ e6 (Obj.isFreed_of_fields (Obj.data_mapFields e7 _))⟩ nT rn.1 ot rn.2 fun p hp=>(pn p hp).2
 ·exact⟨oe,vs,_,_,a0,by rw[AH _ _ e5]; exact e1,e2,e3,e4,e5,AX _ e6 (Obj.isFreed_of_fields (Obj.data_mapFields e7 _)),Obj.data_mapFields e7 _,by simp[h3]⟩
def Gnl{a:BB}(I:Inv X pins σ H s)(hn:H a=none)(h0:X.s₀.heap.get? a=none)(hL:a≠X.env.locals)(h2:∀ x c,X.env.cells.lookup x=some c->c≠a)(h3:∀ p∈X.pn++pins,p.1≠a)(ok:φ s.heap)(th:∃ o,s.heap.get? a=some o)(st:∀ h1 h2:Heap,φ h1->(∀ o,h1.get? a=some o->h2.get? a=some o)->φ h2):Inv X pins σ (upd H a (.ext φ)) s:=by
 have n0:∀ b o,X.s₀.heap.get? b=some o->b≠a:=fun b o e z=>by rw[z,h0] at e; cases e
 have nk:∀ {b:BB} {o:HO},H b=some o->b≠a:=fun e z=>by rw[z,hn] at e; cases e
 refine⟨I.ok,I.os,I.bare,⟨I.base.keep,I.base.slot,fun b o e n hx=>?_,I.base.there,fun b xs e=>?_,fun b o v e=>?_,fun b ps e=>?_⟩,I.loc,I.cell,?_,fun x c e=>?_,fun p hp=>?_,fun b o e=>?_,I.len⟩
 ·rw[Gn (n0 b o e)]; exact I.base.free b o e n hx
 ·have q:=I.base.tups b xs e
  rw[Gn (nk q)]; exact q
 ·have q:=I.base.frzs b o v e
  rw[Gn (nk q)]; exact q
 ·obtain⟨more,q⟩:=I.base.tbls b ps e
  exact⟨more,by rw[Gn (nk q)]; exact q⟩
 ·rw[Gn (Ne.symm hL)]; exact I.free
 ·rw[Gn (h2 x c e)]; exact I.freeC x c e
 ·obtain⟨q1,q2,q3,q4,q5⟩:=I.pin p hp
  exact⟨q1,by rw[Gn (h3 p hp)]; exact q2,q3,q4,q5⟩
 ·by_cases c:b=a
  ·subst c
   rw[Hj] at e
   cases e
   exact⟨ok,th,st⟩
  ·rw[Gn c] at e
   refine(I.hok b o e).stay (fun c u _ q=>q) (fun c q=>?_) fun c xs q=>?_
   ·rw[Gn (nk q)]; exact q
   ·rw[Gn (nk q)]; exact q
def Landed.know{a:BB}(l:Landed X pins σ H a C dx s):H a=none/\Inv X pins σ (upd H a (XO a C dx)) s:=by
 obtain⟨T,I,⟨oe,vs,oT,ts,a0,e1,e2,e3,e4,e5,e6,e7,e8⟩,⟨na,nT⟩,⟨oa,ot⟩,pn⟩:=l.ex
 have rn:=Gnk I e1 e3
 exact⟨na,Gnl I na oa rn.1 rn.2 (fun p hp=>(pn p hp).1) ⟨oe,e1,e2.1,e2.2.1,vs,e3⟩ ⟨oe,e1⟩ fun h1 h2 ⟨o,q1,q2⟩ k=>⟨o,k _ q1,q2⟩⟩
noncomputable abbrev hnd(X:Cx)(a:BB):Cx:={ X with A:=X.A.mark (some (.ref a)),calm:=false,xe:=fun _ _=>False }
noncomputable def _root_.L2.Inv.hnd(I:Inv X pins σ H s)(a:BB):Inv (DL.hnd X a) pins σ H s:=
 ⟨⟨I.ok.mod,I.ok.kind,I.ok.glob,I.ok.blt,I.ok.above,I.ok.inj,I.ok.has,I.ok.cab,(fun z=>nomatch z),I.ok.frames,I.ok.stk,I.ok.exf,I.ok.bs,I.ok.bsz,I.ok.noex,I.ok.exfs,I.ok.funs,I.ok.frf⟩,I.os,I.bare,I.base,I.loc,I.cell,I.free,I.freeC,I.pin,I.hok,I.len⟩
def _root_.L2.Inv.unhnd{a:BB}(ok:X.Ok)(I:Inv (DL.hnd X a) pins σ H s):Inv X pins σ H s:=⟨ok,I.os,I.bare,I.base,I.loc,I.cell,I.free,I.freeC,I.pin,I.hok,I.len⟩
def Yu{i:Nat}{n:Str}{pos:Pos}(I:Inv X pins σ H s)(hN:X.N.Nodup)(hi:X.N[i]?=some n)(hk:X.env.scope.names.lookup n=some .local)(hq:∀ s',Inv X pins (σ.set i none) H s'->Q () s'):
  wpAny M A (do bindName X.env n .none; unbindBehindTheSuite X.env n pos) Q E s:=by
 obtain⟨m,hn,hl⟩:=id I.loc
 have hcls:(X.env.scope.kind==.class||(X.env.scope.kind==.module&&X.env.locals != X.env.globals))=false:=by rw[I.ok.kind]; rfl
 refine wpAny_nameGoes_keeps hk hn hcls fun h' v hn' hs=>hq _ ?_
 obtain⟨oL,_,_,hoL,_⟩:=id hn
 have below:∀ b o,X.s₀.heap.get? b=some o->b≠X.env.locals:=fun b o e=>Ax (Ai (Ag e) I.ok.above)
 refine⟨I.ok,I.os,I.bare,⟨fun b o e n hb hx=>(hs.2 b (below b o e)).trans (I.base.keep b o e n hb hx),fun b o e n hb hx=>?_,I.base.free,fun b o e hx=>?_,I.base.tups,I.base.frzs,I.base.tbls⟩,⟨_,hn',fun j y w e1 e2 e3=>?_⟩,fun y c e=>?_,I.free,I.freeC,fun p hp=>?_,fun b ob e=>?_,by simpa using I.len⟩
 ·obtain⟨sl,e1⟩:=I.base.slot b o e n hb hx
  exact⟨sl,(hs.2 b (below b o e)).trans e1⟩
 ·obtain⟨o',e1⟩:=I.base.there b o e hx
  exact⟨o',(hs.2 b (below b o e)).trans e1⟩
 ·by_cases hj:j=i
  ·subst hj
   rw[List.getElem?_set] at e2
   simp only[if_true] at e2
   split at e2<;>cases e2
  ·rw[Ad (Ne.symm hj)] at e2
   obtain⟨u',r',q⟩:=hl j y w e1 e2 e3
   refine⟨u',r',?_⟩
   rcases q with⟨k,e⟩ | ⟨k,c,e,z⟩
   ·refine .inl ⟨k,?_⟩
    have:y≠n:=fun e=>hj (Gci hN e1 (e▸hi))
    simp[this,e]
   ·exact .inr ⟨k,c,e,z.sameBut hs (I.cne y c e)⟩
 ·obtain⟨w,z⟩:=I.cell y c e
  exact⟨w,z.sameBut hs (I.cne y c e)⟩
 ·obtain⟨e,n,ne,nf,d⟩:=I.pin p hp
  exact⟨(hs.2 p.1 ne).trans e,n,ne,nf,d⟩
 ·refine(I.hok b ob e).stay (fun c w hc q=>(hs.2 c ?_).trans q) (fun _ q=>q) fun _ _ q=>q
  rintro rfl
  rcases hc with rfl | hc
  ·rw[I.free] at e; cases e
  ·rw[I.free] at hc; cases hc
end
noncomputable abbrev trb(X:Cx)(pn:List (BB×Obj))(xe:Bz->BA->Prop):Cx:={ X with pn:=pn,xe:=xe }
section
variable{X:Cx}{XQ:XW}{pins:List (BB×Obj)}{σ:L2.St}{H:Hp}{s:BA}{pn:List (BB×Obj)}{xe:Bz->BA->Prop}
noncomputable def _root_.L2.Inv.trb(I:Inv X pins σ H s):Inv (DL.trb X (X.pn++pins) xe) [] σ H s:=
 ⟨⟨I.ok.mod,I.ok.kind,I.ok.glob,I.ok.blt,I.ok.above,I.ok.inj,I.ok.has,I.ok.cab,I.ok.hd,I.ok.frames,I.ok.stk,I.ok.exf,I.ok.bs,I.ok.bsz,I.ok.noex,I.ok.exfs,I.ok.funs,I.ok.frf⟩,I.os,I.bare,I.base,I.loc,I.cell,I.free,I.freeC,fun p hp=>I.pin p (by simpa using hp),I.hok,I.len⟩
def _root_.L2.Inv.untrb{pins':List (BB×Obj)}(ok:X.Ok)(I:Inv (DL.trb X (X.pn++pins) xe) pins' σ H s):Inv X pins σ H s:=
 ⟨ok,I.os,I.bare,I.base,I.loc,I.cell,I.free,I.freeC,fun p hp=>I.pin p (Bk _ hp),I.hok,I.len⟩
def Landed.untrb{pins':List (BB×Obj)}{a:BB}(ok:X.Ok)(l:Landed (DL.trb X (X.pn++pins) xe) pins' σ H a C dx s):Landed X pins σ H a C dx s:=by
 obtain⟨T,I,f,n,o,p⟩:=l.ex
 exact⟨T,I.untrb ok,f,n,o,fun q hq=>p q (Bk _ hq)⟩
noncomputable def Plain.trb(pl:Plain X):Plain (trb X pn xe):=⟨pl.stk,pl.fr,pl.ex⟩
def Gd.unset{mp:List BB}(G:Gd K mp H σ ρ S)(i:Nat):Gd K mp H (σ.set i none) (ρ.set i none) S:=by
 refine⟨G.rs,by simp[G.len],fun j e h=>?_⟩
 by_cases hj:j=i
 ·subst hj
  rw[List.getElem?_set] at h
  simp only[if_true] at h
  split at h<;>cases h
 ·rw[Ad (Ne.symm hj)] at h ⊢
  exact G.loc j e h
noncomputable def Wp(ys:List Str)(hh:XD->Sv)(fb:Sv):Sv:=fun ρ S=>match fb ρ S with
 | .nx ρ' S'=>.nx ρ' S'
 | .rt d S'=>.rt d S'
 | .bk ρ' S'=>.bk ρ' S'
 | .ct ρ' S'=>.ct ρ' S'
 | .exc x ρ' S'=>if x.cls∈ys then hh x ρ' S' else .bad
 | .bad=>.bad
def Gjg{hd:ExceptHandler}{ys:List Str}{hh:XD->Sv}{fb:Sv}{pos:Pos}(pl:Plain X)(hH:∀ (pins:List (BB×Obj)) (σ:L2.St) (H:Hp) (s:BA) (a C:BB) (dx:BC BB) (x:XD) (mp:List BB) (ρ:Lc) (S:Sto) (D:Ends),x.cls∈ys->CN X.K x.cls C->XF H dx x.fld->Landed X pins σ H a C dx s->Gd X.K mp H σ ρ S->PostS X.K XQ mp H (hh x ρ S) D->wpAny (model X.prog X.w) X.A (handleBy (.ref a) X.env [hd]) (SP X pins D) X.xe s)(hb:∀ (pn:List (BB×Obj)) (xe:Bz->BA->Prop) (XQ':XW),XL (trb X pn xe) XQ'->JSs (trb X pn xe) XQ' body fb):JS X XQ (.Try body [hd] [] [] pos) (Wp ys hh fb):=by
 intro pins s σ H D I ⟨mp,ρ,S,G,p⟩
 refine wpAny_Try_except ?_
 have ok:=I.ok
 let Eh:Bz->BA->Prop:=fun e s₁=>wpAny (model X.prog X.w) X.A (noteFrame e X.env) (fun _ s₂=>wpAny (model X.prog X.w) X.A (setFlight e none) (fun _ s₃=>wpAny (model X.prog X.w) X.A (handleBy e X.env [hd]) (SP X pins D) X.xe s₃) X.xe s₂) X.xe s₁
 let XQ':XW:=fun x mp H σ ρ S=>x.cls∈ys/\Gd X.K mp H σ ρ S/\PostS X.K XQ mp H (hh x ρ S) D
 have fin:∀ (pins':List (BB×Obj)) (σ:L2.St) (H:Hp) (s:BA) (a C:BB) (dx:BC BB),WX X.K XQ' σ C dx H->Landed (DL.trb X (X.pn++pins) Eh) pins' σ H a C dx s->wpAny (model X.prog X.w) X.A (handleBy (.ref a) X.env [hd]) (SP X pins D) X.xe s:=
  fun pins' σ H s a C dx ⟨x,mp,ρ,S,xf,hc,hm,G,p⟩ l=>hH pins σ H s a C dx x mp ρ S D hm hc xf (l.untrb ok) G p
 have L:XL (DL.trb X (X.pn++pins) Eh) XQ':=⟨fun pins' σ H s e C dx φ I hH fr le w=>own_land (X:=DL.trb X (X.pn++pins) Eh) pl.trb I hH fr le fun s' l=>fin pins' σ _ s' e C dx w l,
  fun pins' σ H s e s' E2 I hx hE=>call_land (X:=DL.trb X (X.pn++pins) Eh) pl.trb I hx fun a C dx H' s'' ea q l=>by
   subst ea
   exact fin pins' σ H' s'' a C dx (hE C dx H' q) l,
  PassesOwn.looking,fun _=>PassesOwnAt.looking⟩
 have post:PostS X.K XQ' mp H (fb ρ S) D:=by
  unfold Wp at p
  cases z:fb ρ S with
  | nx ρ' S'=>rw[z] at p; exact p
  | rt d S'=>rw[z] at p; exact p
  | bk ρ' S'=>rw[z] at p; exact p
  | ct ρ' S'=>rw[z] at p; exact p
  | bad=>rw[z] at p; exact p
  | exc x ρ' S'=>
   rw[z] at p
   by_cases hm:x.cls∈ys
   ·have p:PostS X.K XQ mp H (hh x ρ' S') D:=by simpa only[if_pos hm] using p
    exact fun mp' H' σ' af G'=>⟨hm,G',PostS.aft p af⟩
   ·have p:PostS X.K XQ mp H .bad D:=by simpa only[if_neg hm] using p
    exact p.elim
 refine wpAny_mono (hb (X.pn++pins) Eh XQ' L [] s σ H D I.trb ⟨mp,ρ,S,G,post⟩) (fun f s1 q=>?_) fun e s1 q=>q
 cases f with
 | next=>
  obtain⟨σ',H',I',q⟩:=q
  exact wpAny_execs_nil ⟨σ',H',I'.untrb ok,q⟩
 | brk=>
  obtain⟨σ',H',I',q⟩:=q
  exact⟨σ',H',I'.untrb ok,q⟩
 | cont=>
  obtain⟨σ',H',I',q⟩:=q
  exact⟨σ',H',I'.untrb ok,q⟩
 | ret u=>
  obtain⟨v,σ',H',I',r,q⟩:=q
  exact⟨v,σ',H',I'.untrb ok,r,q⟩
structure Cat(K:By)(mg:Str->BC Bz)(c:Str)(ys:List Str):Prop where
 ex:∃ cs,mg c=some (.ref cs)/\∀ y∈ys,∃ C,CN K y C/\XCl K C/\PySem.W.exmOne K (.ref C) (.ref cs)=some true
noncomputable def hdl(i:Nat)(fh:Sv)(x:XD):Sv:=fun ρ S=>match fh (ρ.set i (some (.exn x.cls x.fld))) S with
 | .nx ρ' S'=>.nx (ρ'.set i none) S'
 | .rt d S'=>.rt d S'
 | .bk ρ' S'=>.bk (ρ'.set i none) S'
 | .ct ρ' S'=>.ct (ρ'.set i none) S'
 | _=>.bad
noncomputable def Grp(fh:Sv)(x:XD):Sv:=fun ρ S=>match fh ρ S with
 | .nx ρ' S'=>.nx ρ' S'
 | .rt d S'=>.rt d S'
 | .bk ρ' S'=>.bk ρ' S'
 | .ct ρ' S'=>.ct ρ' S'
 | _=>.bad
def Gxe{M:Model}{a T:BB}(f:Fly h a T C dx):PySem.W.Looks M h (typeOf (.ref a)) (.ref C):=by
 obtain⟨oe,vs,_,_,_,h1,⟨h2,_⟩,_⟩:=f
 exact h2▸(PySem.W.Looks.ld h1).andThen .now
def Gnm{c:Str}{ys:List Str}{a:BB}{R:Result->BA->Prop}(ct:Cat X.K X.mg c ys)(hg:Gl X c)(hp:Gw c=true)(hy:y∈ys)(hc:CN X.K y C)(l:Landed X pins σ H a C dx s)(hq:R (.ok .brk) s):
  XCl X.K C/\codeAny (model X.prog X.w) (X.A.mark (some (.ref a))) (.handlers (.ref a) [.ExceptHandler (some (.Name c np)) none [] hpos] X.env) R s:=by
 obtain⟨T,I,f,_⟩:=l.ex
 obtain⟨cs,hm,hk⟩:=ct.ex
 obtain⟨C',hc',xc,he⟩:=hk y hy
 cases CN.one hc hc'
 refine⟨xc,codeAny_handlers_test ?_⟩
 refine Yt (X:=hnd X a) (I.hnd a) hg hm ?_ (Gw.of hp).1
 exact(PySem.W.exm_one I.kIn (Gxe f) he).here hq
def Grq{c n:Str}{i:Nat}{pos:Pos}{ys:List Str}{fb:Sv}(pl:Plain X)(ct:Cat X.K X.mg c ys)(hg:Gl X c)(hp:Gw c=true)(hN:X.N.Nodup)(hi:X.N[i]?=some n)(hn:X.env.scope.names.lookup n=some .local)(hb:∀ (pn:List (BB×Obj)) (xe:Bz->BA->Prop) (XQ':XW),XL (trb X pn xe) XQ'->JSs (trb X pn xe) XQ' body fb)(hs:∀ a,JSs (hnd X a) (fun _ _ _ _ _ _=>False) (b0::suite) fh):
  JS X XQ (.Try body [.ExceptHandler (some (.Name c np)) (some n) (b0::suite) hpos] [] [] pos) (Wp ys (hdl i fh) fb):=by
 refine Gjg pl (fun pins σ H s a C dx x mp ρ S D hy hc xf l G p=>?_) hb
 refine wpAny_handleBy_cons ?_ (by intro q; cases q)
 obtain⟨xc,hit⟩:=Gnm (np:=np) (hpos:=hpos) (R:=fun r s₁=>match r with
   | .ok .brk=>codeAny (model X.prog X.w) (X.A.mark (some (.ref a))) (.handlers (.ref a) [.ExceptHandler none (some n) (b0::suite) hpos] X.env) (fun r s₂=>match r with
     | .ok f=>wpAny (model X.prog X.w) X.A (do bindName X.env n .none; unbindBehindTheSuite X.env n hpos) (fun _ s₃=>SP X pins D f s₃) X.xe s₂
     | .error x=>cameBackBy (model X.prog X.w) X.A X.env X.xe x s₂) s₁
   | .ok _=>wpAny (model X.prog X.w) X.A (handleBy (.ref a) X.env []) (SP X pins D) X.xe s₁
   | .error x=>cameBackBy (model X.prog X.w) X.A X.env X.xe x s₁) ct hg hp hy hc l (by
  refine codeAny_handlers_suite_as (l.flight fun s1 l1=>?_)
  obtain⟨na,I1⟩:=l1.know
  have ok:=I1.ok
  have af:Aft X.K mp H mp (upd H a (XO a C dx)):=Vr na
  have G1:Gd X.K mp (upd H a (XO a C dx)) σ ρ S:=G.aft af (G.rs.new na)
  have re:Rep X.K mp (upd H a (XO a C dx)) (.exn x.cls x.fld) (.ref a):=⟨a,dx,C,rfl,⟨hc,by
   obtain⟨cs,hm,hk⟩:=ct.ex
   obtain⟨C',hc',xc,he⟩:=hk x.cls hy
   cases CN.one hc hc'
   exact xc,Hj⟩,fun i z=>by
   obtain⟨d,e1,e2⟩:=xf.1 i z
   exact⟨d,e1,by rw[Gn (fun q=>by rw[q,na] at e2; cases e2)]; exact e2⟩⟩
  refine Wl (X:=hnd X a) (v:=.ref a) (I1.hnd a) hN hi (.inl hn) rfl (fun s2 I2=>?_) (.inr hn)
  refine wpAny_mono (hs a pins s2 _ _ { nx:=fun σ' H'=>D.nx (σ'.set i none) H',rt:=D.rt,bk:=fun σ' H'=>D.bk (σ'.set i none) H',ct:=fun σ' H'=>D.ct (σ'.set i none) H' } I2 ⟨mp,_,S,G1.set i re,?_⟩) (fun f s3 q=>?_) (fun e s3 q=>q.elim)
  ·have p:=PostS.aft p af
   unfold hdl at p
   cases z:fh (ρ.set i (some (.exn x.cls x.fld))) S with
   | nx ρ' S'=>rw[z] at p; exact fun mp' H' σ' a' G'=>p mp' H' _ a' (G'.unset i)
   | rt d S'=>rw[z] at p; exact p
   | bk ρ' S'=>rw[z] at p; exact fun mp' H' σ' a' G'=>p mp' H' _ a' (G'.unset i)
   | ct ρ' S'=>rw[z] at p; exact fun mp' H' σ' a' G'=>p mp' H' _ a' (G'.unset i)
   | exc x ρ' S'=>rw[z] at p; exact p.elim
   | bad=>rw[z] at p; exact p.elim
  ·cases f with
   | next=>
    obtain⟨σ',H',I',q⟩:=q
    exact Yu (I'.unhnd ok) hN hi hn fun s' J=>⟨_,H',J,q⟩
   | brk=>
    obtain⟨σ',H',I',q⟩:=q
    exact Yu (I'.unhnd ok) hN hi hn fun s' J=>⟨_,H',J,q⟩
   | cont=>
    obtain⟨σ',H',I',q⟩:=q
    exact Yu (I'.unhnd ok) hN hi hn fun s' J=>⟨_,H',J,q⟩
   | ret u=>
    obtain⟨v,σ',H',I',r,q⟩:=q
    exact Yu (I'.unhnd ok) hN hi hn fun s' J=>⟨v,_,H',J,r,q⟩)
 exact hit
def Grr{c:Str}{pos:Pos}{ys:List Str}{fb:Sv}(pl:Plain X)(ct:Cat X.K X.mg c ys)(hg:Gl X c)(hp:Gw c=true)(hb:∀ (pn:List (BB×Obj)) (xe:Bz->BA->Prop) (XQ':XW),XL (trb X pn xe) XQ'->JSs (trb X pn xe) XQ' body fb)(hs:∀ a,JSs (hnd X a) (fun _ _ _ _ _ _=>False) (b0::suite) fh):
  JS X XQ (.Try body [.ExceptHandler (some (.Name c np)) none (b0::suite) hpos] [] [] pos) (Wp ys (Grp fh) fb):=by
 refine Gjg pl (fun pins σ H s a C dx x mp ρ S D hy hc xf l G p=>?_) hb
 refine wpAny_handleBy_cons ?_ (by intro q; cases q)
 obtain⟨xc,hit⟩:=Gnm (np:=np) (hpos:=hpos) (R:=fun r s₁=>match r with
   | .ok .brk=>codeAny (model X.prog X.w) (X.A.mark (some (.ref a))) (.handlers (.ref a) [.ExceptHandler none none (b0::suite) hpos] X.env) (fun r s₂=>match r with
     | .ok f=>SP X pins D f s₂
     | .error x=>cameBackBy (model X.prog X.w) X.A X.env X.xe x s₂) s₁
   | .ok _=>wpAny (model X.prog X.w) X.A (handleBy (.ref a) X.env []) (SP X pins D) X.xe s₁
   | .error x=>cameBackBy (model X.prog X.w) X.A X.env X.xe x s₁) ct hg hp hy hc l (by
  refine codeAny_handlers_suite (l.flight fun s1 l1=>?_)
  obtain⟨T,I1,_⟩:=l1.ex
  have ok:=I1.ok
  refine wpAny_mono (hs a pins s1 _ _ D (I1.hnd a) ⟨mp,_,S,G,?_⟩) (fun f s3 q=>?_) (fun e s3 q=>q.elim)
  ·unfold Grp at p
   cases z:fh ρ S with
   | nx ρ' S'=>rw[z] at p; exact p
   | rt d S'=>rw[z] at p; exact p
   | bk ρ' S'=>rw[z] at p; exact p
   | ct ρ' S'=>rw[z] at p; exact p
   | exc x ρ' S'=>rw[z] at p; exact p.elim
   | bad=>rw[z] at p; exact p.elim
  ·cases f with
   | next=>
    obtain⟨σ',H',I',q⟩:=q
    exact⟨_,H',I'.unhnd ok,q⟩
   | brk=>
    obtain⟨σ',H',I',q⟩:=q
    exact⟨_,H',I'.unhnd ok,q⟩
   | cont=>
    obtain⟨σ',H',I',q⟩:=q
    exact⟨_,H',I'.unhnd ok,q⟩
   | ret u=>
    obtain⟨v,σ',H',I',r,q⟩:=q
    exact⟨v,_,H',I'.unhnd ok,r,q⟩)
 exact hit
end
noncomputable def Kt(ys sub:List Str)(x:D)(S:Sto):Out D:=match x with
 | .exn y _=>if y∈ys then .ok (.bl (decide (y∈sub))) S else .bad
 | _=>.bad
structure Isx(K:By)(mg:Str->BC Bz)(x:Str)(ys sub:List Str):Prop where
 ex:∃ cs,mg x=some (.ref cs)/\∀ y∈ys,∃ C,CN K y C/\PySem.W.kitOne K (.ref C) (.ref cs)=some (decide (y∈sub))
structure IsxB(K:By)(T:String)(ys sub:List Str):Prop where
 ex:∀ y∈ys,∃ C,CN K y C/\PySem.W.kitOne K (.ref C) (.type T)=some (decide (y∈sub))
section
variable{X:Cx}{XQ:XW}
def Hct(K:By)(w:V)(c:Bz):List V->Hp->VK->Prop:=fun vs H Q=>∃ a C dx b,vs=[.ref a,w]/\XCl K C/\H a=some (XO a C dx)/\PySem.W.kitOne K (.ref C) c=some b/\Q (.bl b) H
def Ggq{w:V}{c:Bz}(hw:∀ u,Hf w u->u=c):Xq X (.builtin "isinstance") (Hct X.K w c):=by
 intro pins s σ H xs us Q I r ⟨a,C,dx,b,e,xc,hH,hk,q⟩
 subst e
 obtain⟨u,w',rfl,ru,rw'⟩:=Vals.two r
 cases (show u=Value.ref a from ru)
 cases hw _ rw'
 exact PySem.W.kia_one (Ggm xc) I.kIn (Gtw I hH) hk (fun z=>nomatch z) fun tk=>⟨.bl b,H,I.tok tk,rfl,q⟩
def Gxf{x:Str}{ys:List Str}{e:Expr}{pos:Pos}(k:Isx X.K X.mg x ys sub)(hg:Gl X "isinstance")(hm:X.mg "isinstance"=none)(hgt:Gl X x)(hp:Gw x=true)(he:JE X XQ e f)(hs:starEach [e,.Name x p2] X.env=(false,eval e X.env)::starEach [.Name x p2] X.env)(hpl:(backTo pos (starEach [.Name x p2] X.env)).any (·.1)=false)(hs2:starEach [.Name x p2] X.env=(false,eval (.Name x p2) X.env)::starEach [] X.env):
  JE X XQ (.Call (.Name "isinstance" p) [e,.Name x p2] [] pos) (o1 (Kt ys sub) f):=by
 obtain⟨cs,hmt,hk⟩:=k.ex
 refine PE.mono (Zy (Ggq (w:=.ref cs) (c:=.ref cs) fun u h=>h) hg hm (by rfl) (Vb he (Vb (Gey hgt hmt (v:=.ref cs) rfl (Gw.of hp).1) pa_nil hs2) hs) (by decide) (by decide) hs hpl) fun σ H Q ⟨mp,ρ,S,G,q⟩=>?_
 refine bindP G q fun mp1 H1 d S1 v a1 G1 r1 p1=>?_
 cases d with
 | exn y n=>
  obtain⟨a,dx,C,rfl,⟨hc,xc,hH⟩,_⟩:=(show ∃ a dx p,v=.ref a/\(CN X.K y p/\XCl X.K p/\H1 a=some (XO a p dx))/\∀ i,n=some i->∃ d,dx=some d/\H1 d=some (XA d i) from r1)
  by_cases hy:y∈ys
  ·have p1:Post X.K XQ σ ρ mp1 H1 (.ok (.bl (decide (y∈sub))) S1) Q:=by simpa only[Kt,if_pos hy] using p1
   obtain⟨C',hc',ko⟩:=hk y hy
   cases CN.one hc hc'
   exact⟨a,C,dx,_,rfl,xc,hH,ko,Gj.ok (R:=Rep X.K) p1 G1.rs rfl⟩
  ·have p1:Post X.K XQ σ ρ mp1 H1 .bad Q:=by simpa only[Kt,if_neg hy] using p1
   exact p1.elim
 | _=>exact p1.elim
def Grs{x:Str}{ys:List Str}{e:Expr}{pos:Pos}(k:IsxB X.K T ys sub)(hv:bootBuiltins x=some (.type T))(hnx:x≠"__name__")(hg:Gl X "isinstance")(hm:X.mg "isinstance"=none)(hgt:Gl X x)(hmt:X.mg x=none)(hp:Gw x=true)(he:JE X XQ e f)(hs:starEach [e,.Name x p2] X.env=(false,eval e X.env)::starEach [.Name x p2] X.env)(hpl:(backTo pos (starEach [.Name x p2] X.env)).any (·.1)=false)(hs2:starEach [.Name x p2] X.env=(false,eval (.Name x p2) X.env)::starEach [] X.env):
  JE X XQ (.Call (.Name "isinstance" p) [e,.Name x p2] [] pos) (o1 (Kt ys sub) f):=by
 have hk:=k.ex
 refine PE.mono (Zy (Ggq (w:=.ty T) (c:=.type T) fun u h=>h) hg hm (by rfl) (Vb he (Vb (Gi0 hgt hmt hv (v:=.ty T) rfl hnx (Gw.of hp).1) pa_nil hs2) hs) (by decide) (by decide) hs hpl) fun σ H Q ⟨mp,ρ,S,G,q⟩=>?_
 refine bindP G q fun mp1 H1 d S1 v a1 G1 r1 p1=>?_
 cases d with
 | exn y n=>
  obtain⟨a,dx,C,rfl,⟨hc,xc,hH⟩,_⟩:=(show ∃ a dx p,v=.ref a/\(CN X.K y p/\XCl X.K p/\H1 a=some (XO a p dx))/\∀ i,n=some i->∃ d,dx=some d/\H1 d=some (XA d i) from r1)
  by_cases hy:y∈ys
  ·have p1:Post X.K XQ σ ρ mp1 H1 (.ok (.bl (decide (y∈sub))) S1) Q:=by simpa only[Kt,if_pos hy] using p1
   obtain⟨C',hc',ko⟩:=hk y hy
   cases CN.one hc hc'
   exact⟨a,C,dx,_,rfl,xc,hH,ko,Gj.ok (R:=Rep X.K) p1 G1.rs rfl⟩
  ·have p1:Post X.K XQ σ ρ mp1 H1 .bad Q:=by simpa only[Kt,if_neg hy] using p1
   exact p1.elim
 | _=>exact p1.elim
noncomputable def Gds:List D->BC (List Bool)
 | []=>some []
 | .bl b::r=>(Gds r).map (b::·)
 | _::_=>none
def Gcv:∀ {l:List D} {bs:List Bool},Gds l=some bs->l=bs.map .bl
 | [],bs,h=>by cases h; rfl
 | d::r,bs,h=>by
  cases d with
  | bl b=>
   have h:(Gds r).map (b::·)=some bs:=h
   cases z:Gds r with
   | none=>rw[z] at h; cases h
   | some q=>rw[z] at h; cases h; rw[Gcv z]; rfl
  | _=>cases h
def Gcw{K:By}{mp:List BB}{H:Hp}:∀ {bs:List Bool} {vs:List V},RepL K mp H (bs.map .bl) vs->vs=bs.map .bl
 | [],vs,h=>h
 | b::r,vs,h=>by
  obtain⟨v,q,e,h1,h2⟩:=(show ∃ v r',vs=v::r'/\Rep K mp H (.bl b) v/\RepL K mp H (r.map .bl) r' from h)
  cases (show v=.bl b from h1)
  rw[e,Gcw h2]
  rfl
def Gcx:∀ {bs:List Bool} {us:List Bz},Vals (bs.map V.bl) us->us=bs.map Value.bool
 | [],_,.nil=>rfl
 | b::r,_,.cons h t=>by
  rw[Gcx t]
  cases (show _=Value.bool b from h)
  rfl
def Gnn(b k:Bool):MeetsSeq.EqGives (.bool b) (.bool k) (b==k):=fun prog w A E s Q h=>PySem.SeqAt.EqAt.bool_bool b k prog w E Q h
noncomputable def Gli(k:Bool):Bz->Bool
 | .bool b=>b==k
 | _=>false
def Gjh(bs:List Bool)(k:Bool):∀ y,y∈(bs.map Value.bool).toArray->MeetsSeq.EqGives y (.bool k) (Gli k y):=fun y hy=>by
 obtain⟨b,_,rfl⟩:=AK.mp (show y∈bs.map Value.bool from by simpa using hy)
 exact Gnn b k
def Han:V->List V->Hp->VK->Prop:=fun x vs H Q=>∃ (l:BB) (bs:List Bool) (k:Bool),x=.ref l/\vs=[.bl k]/\H l=some (.lst (bs.map .bl))/\Q (.int (bs.countP (·==k):Nat)) H
def Gxg:MtM X "list.count" Han:=by
 intro pins s σ H x vs v us Q I rx rv ⟨l,bs,k,e1,e2,hH,q⟩
 subst e1 e2
 cases rx
 obtain⟨u,rfl,ru⟩:=Vals.one rv
 cases (show u=Value.bool k from ru)
 obtain⟨z,its,n,r,hl,e⟩:=I.lstM hH
 cases Gcx r
 refine call_meets PySem.F.slot_list_count ⟨_,e,rfl⟩ PySem.F.entry_list_count (PySem.F.args_list_count_2 _ _) (MeetsSeq.list_count l _ n (.bool k) (Gli k) (Gjh bs k)) ⟨e,.int _,H,I.tok _,⟨_,rfl⟩,?_⟩
 have ec:List.countP (Gli k) (List.map Value.bool bs).toArray.toList=bs.countP (·==k):=by
  rw[List.countP_map]; rfl
 rw[ec]
 exact q
def Gic(x:D)(xs:List D)(S:Sto):Out D:=match x,xs with
 | .lst i,[.bl k]=>match S[i]? with
  | some c=>if c.fz=false then(match Gds c.xs with
   | some bs=>.ok (.int (bs.countP (·==k):Nat)) S
   | none=>.bad) else .bad
  | none=>.bad
 | _,_=>.bad
def Gxh:MeD K Han Gic:=by
 intro XQ σ ρ mp H S x xs v vs Q rs rx r p
 unfold Gic at p
 split at p
 ·rename_i i k
  split at p
  ·rename_i c zc
   by_cases hc:c.fz=false
   ·rw[if_pos hc] at p
    split at p
    ·rename_i bs zb
     obtain⟨w,rfl,hw⟩:=RepL.one r
     cases (show w=.bl k from hw)
     obtain⟨a,ys,rfl,ha,sq,q,f⟩:=rs.items rx zc
     rw[Gcv zb] at q
     cases Gcw q
     exact⟨a,bs,k,rfl,rfl,f hc,p mp H _ .refl rs rfl⟩
    ·exact p.elim
   ·rw[if_neg hc] at p; exact p.elim
  ·exact p.elim
 ·exact p.elim
def Hao:V->List V->Hp->VK->Prop:=fun x vs H Q=>∃ (l:BB) (bs:List Bool) (k:Bool) (j:Nat),x=.ref l/\vs=[.bl k]/\H l=some (.lst (bs.map .bl))/\List.findIdx? (·==k) bs=some j/\Q (.int (j:Nat)) H
def Gxi:MtM X "list.index" Hao:=by
 intro pins s σ H x vs v us Q I rx rv ⟨l,bs,k,j,e1,e2,hH,hj,q⟩
 subst e1 e2
 cases rx
 obtain⟨u,rfl,ru⟩:=Vals.one rv
 cases (show u=Value.bool k from ru)
 obtain⟨z,its,n,r,hl,e⟩:=I.lstM hH
 cases Gcx r
 rw[List.findIdx?_eq_some_iff_getElem] at hj
 obtain⟨h1,h2,h3⟩:=hj
 have z:bs.length<=sizeLine:=by simpa using z
 rw[sizeLine_eq] at z
 refine call_meets PySem.F.slot_list_index ⟨_,e,rfl⟩ PySem.F.entry_list_index (PySem.F.args_list_index_2 _ _) (MeetsSeq.list_index l _ n (.bool k) (Gli k) (Gjh bs k) j (by simpa using h1) (by omega) (by simpa[Gli] using h2) (fun m hm hlt=>?_)) ⟨e,.int _,H,I.tok _,⟨_,rfl⟩,q⟩
 have:=h3 m hlt
 simpa[Gli] using this
def Gid(x:D)(xs:List D)(S:Sto):Out D:=match x,xs with
 | .lst i,[.bl k]=>match S[i]? with
  | some c=>if c.fz=false then(match Gds c.xs with
   | some bs=>(match List.findIdx? (·==k) bs with
    | some j=>.ok (.int (j:Nat)) S
    | none=>.bad)
   | none=>.bad) else .bad
  | none=>.bad
 | _,_=>.bad
def Gxj:MeD K Hao Gid:=by
 intro XQ σ ρ mp H S x xs v vs Q rs rx r p
 unfold Gid at p
 split at p
 ·rename_i i k
  split at p
  ·rename_i c zc
   by_cases hc:c.fz=false
   ·rw[if_pos hc] at p
    split at p
    ·rename_i bs zb
     split at p
     ·rename_i j zj
      obtain⟨w,rfl,hw⟩:=RepL.one r
      cases (show w=.bl k from hw)
      obtain⟨a,ys,rfl,ha,sq,q,f⟩:=rs.items rx zc
      rw[Gcv zb] at q
      cases Gcw q
      exact⟨a,bs,k,j,rfl,rfl,f hc,zj,p mp H _ .refl rs rfl⟩
     ·exact p.elim
    ·exact p.elim
   ·rw[if_neg hc] at p; exact p.elim
  ·exact p.elim
 ·exact p.elim
def Gno{e:Expr}{f:Ev (List D)}(ho:JE X XQ o fo)(ha:JA X XQ [e] f)(hbase:attributeBase o "count" X.env (eval o X.env)=eval o X.env:=by rfl)(hfew:((backTo cpos (starEach [e] X.env)).all (fun x=>!x.1)&&(backToKw cpos (keywordEach [] X.env)).all (fun x=>x.1.isSome)
   && decide ([e].length+([]:List Keyword).length+(if([]:List Keyword).isEmpty then 0 else 1)<30))=true:=by rfl)(hline:(apos.endLine==cpos.line)=true:=by rfl)(hs:starEach [e] X.env=(false,eval e X.env)::starEach [] X.env:=by rfl):
  JE X XQ (.Call (.Attribute o "count" apos) [e] [] cpos) (mt Gic fo f):=Gfb PySem.F.slot_list_count PySem.F.type_list_count Gxg Gxh ho ha hbase hfew hline hs rfl
def Gnp{e:Expr}{f:Ev (List D)}(ho:JE X XQ o fo)(ha:JA X XQ [e] f)(hbase:attributeBase o "index" X.env (eval o X.env)=eval o X.env:=by rfl)(hfew:((backTo cpos (starEach [e] X.env)).all (fun x=>!x.1)&&(backToKw cpos (keywordEach [] X.env)).all (fun x=>x.1.isSome)
   && decide ([e].length+([]:List Keyword).length+(if([]:List Keyword).isEmpty then 0 else 1)<30))=true:=by rfl)(hline:(apos.endLine==cpos.line)=true:=by rfl)(hs:starEach [e] X.env=(false,eval e X.env)::starEach [] X.env:=by rfl):
  JE X XQ (.Call (.Attribute o "index" apos) [e] [] cpos) (mt Gid fo f):=Gfb PySem.F.slot_list_index PySem.F.type_list_index Gxi Gxj ho ha hbase hfew hline hs rfl
end
def Gxk(K:By)(c:BB):Bool:=
 (PySem.W.findIn K (.ref c) "__getattribute__"==some (some (.builtin "BaseException.__getattribute__")))&&((PySem.W.findIn K (.ref c) "__getattr__"==some none)&&((PySem.W.findIn K (.ref c) "__class__"==some (some (.builtin "object.__class__")))
  && ((PySem.W.clsIn K c).isSome&&((PySem.W.mroIn K c (.type "object")==some true)&&((PySem.W.subIn K (.ref c) (.type "BaseException")==some true)&&["bool","int","str","tuple","list"].all fun T=>PySem.W.kitOne K (.ref c) (.type T)==some false)))))
def Gxl{c:BB}(h:Gxk K c=true):XCl K c:=by
 unfold Gxk at h
 simp only[Aq,beq_iff_eq,AJ] at h
 obtain⟨h1,h2,h3,h4,h5,h6,h7⟩:=h
 exact⟨h1,h2,h3,h4,h5,h6,h7⟩
def xrowB(K:By)(cs:BB)(l:List (Str×BB))(p:Str×BB):Bool:=
 (PySem.W.nsIn K mainGlobals p.1==some (some (.ref p.2)))&&(Gxk K p.2&&((PySem.W.exmOne K (.ref p.2) (.ref cs)==some true)&&((PySem.W.kitOne K (.ref p.2) (.type "ValueError")==some true)&&l.all fun q=>PySem.W.kitOne K (.ref p.2) (.ref q.2)==some (decide (p.1∈[q.1])))))
def Gnq(K:By)(cs:BB)(l m:List (Str×BB)):Bool:=(l.all fun p=>xrowB K cs m p)&&m.all fun q=>PySem.W.nsIn K mainGlobals q.1==some (some (.ref q.2))
structure XT(K:By)(mg:Str->BC Bz)(sup:Str)(ys ms:List Str):Prop where
 cat:Cat K mg sup ys
 isx:∀ x∈ms,Isx K mg x ys [x]
 val:IsxB K "ValueError" ys ys
 xns:XNs K ys
def Hap{mg:Str->BC Bz}{sup:Str}{cs:BB}{l m:List (Str×BB)}(X:K.In h)(G:h.Ns mainGlobals mg)(a:PySem.W.nsIn K mainGlobals sup=some (some (.ref cs)))(t:Gnq K cs l m=true):XT K mg sup (l.map (·.1)) (m.map (·.1)):=by
 unfold Gnq at t
 rw[Aq] at t
 obtain⟨t,tm⟩:=t
 have qm:∀ r∈m,CN K r.1 r.2:=fun r hr=>beq_iff_eq.mp (AJ.mp tm r hr)
 have q:∀ p∈l,CN K p.1 p.2/\XCl K p.2/\PySem.W.exmOne K (.ref p.2) (.ref cs)=some true/\PySem.W.kitOne K (.ref p.2) (.type "ValueError")=some true/\∀ r∈m,PySem.W.kitOne K (.ref p.2) (.ref r.2)=some (decide (p.1∈[r.1])):=fun p hp=>by
  have z:=AJ.mp t p hp
  unfold xrowB at z
  simp only[Aq,beq_iff_eq,AJ] at z
  obtain⟨h1,h2,h3,h4,h5⟩:=z
  exact⟨h1,Gxl h2,h3,h4,h5⟩
 refine⟨⟨cs,PySem.W.mg_of X G a,fun y hy=>?_⟩,fun x hx=>?_,⟨fun y hy=>?_⟩,fun y hy=>?_⟩
 ·obtain⟨p,hp,rfl⟩:=AK.mp hy
  obtain⟨h1,h2,h3,h4,h5⟩:=q p hp
  exact⟨p.2,h1,h2,h3⟩
 ·obtain⟨r,hr,rfl⟩:=AK.mp hx
  refine⟨r.2,PySem.W.mg_of X G (qm r hr),fun y hy=>?_⟩
  obtain⟨p,hp,rfl⟩:=AK.mp hy
  obtain⟨h1,h2,h3,h4,h5⟩:=q p hp
  exact⟨p.2,h1,h5 r hr⟩
 ·obtain⟨p,hp,rfl⟩:=AK.mp hy
  obtain⟨h1,h2,h3,h4,h5⟩:=q p hp
  exact⟨p.2,h1,by rw[h4,decide_eq_true hy]⟩
 ·obtain⟨p,hp,rfl⟩:=AK.mp hy
  obtain⟨h1,h2,h3,h4,h5⟩:=q p hp
  exact⟨p.2,h1,h2⟩
def kxB(K:By)(C:BB):Bool:=match K.lookup C with
 | some ⟨.type "type",_,.cls cd,sl⟩=>(match cd.mro,sl.toList with
  | .ref C'::bm,[_,_,_,_,some (.builtin n),_]=>C'==C&&(!cd.hasDel&&(n=="ValueError.__new__"&&(bm.contains (.type "ValueError")&&(!bm.contains (.type "AttributeError")&&(!bm.contains (.type "NameError")&&bm.contains (.type "BaseException"))))))
  | _,_=>false)
 | _=>false
def Haq(q:kxB K C=true):KX K C:=by
 unfold kxB at q
 split at q
 ·rename_i dd cd sl ho
  split at q
  ·rename_i C' bm k0 k1 k2 k3 n k5 hm hs
   simp only[Aq,beq_iff_eq,Bool.not_eq_true'] at q
   obtain⟨rfl,hdel,hn,h1,h2,h3,h4⟩:=q
   subst hn
   obtain⟨nm,bs,mro,ns,qn,hd,sn,sub,ab,col,del⟩:=cd
   dsimp only at hm hdel
   subst hm hdel
   have hsl:sl=#[k0,k1,k2,k3,some (.builtin "ValueError.__new__"),k5]:=by
    obtain⟨l⟩:=sl
    simp only at hs
    rw[hs]
   subst hsl
   exact⟨nm,qn,ns,bs,bm,hd,sn,sub,ab,col,dd,k0,k1,k2,k3,k5,ho,⟨h1,h2,h3,h4⟩⟩
  ·cases q
 ·cases q
def Gcy(K:By)(c f:BB):Bool:=kxB K c&&(PySem.W.findIn K (.ref c) "__init__"==some (some (.ref f)))
section
variable{P:BD}{w:World}{K:By}{mg:Str->BC Bz}{base:Heap}
structure IniX(P:BD)(w:World)(K:By)(mg:Str->BC Bz)(base:Heap)(f:BB)(j:Nat):Prop where
 ex:∃ fd ps oI,K.lookup f=some oI/\oI.cls=.type "function"/\FnOk P w K mg base CX0 j f fd ps (spI K)/\ps.length=2/\Binds K fd ps []
def Xc{x:Str}{f:BB}(X:K.In h)(G:h.Ns mainGlobals mg)(i:IniX P w K mg base f j)(a:PySem.W.nsIn K mainGlobals x=some (some (.ref C)))(t:Gcy K C f=true):ClX P w K mg base x j:=by
 obtain⟨fd,ps,oI,l,c,F,n,b⟩:=i.ex
 unfold Gcy at t
 simp only[Aq,beq_iff_eq] at t
 exact⟨C,f,fd,ps,oI,PySem.W.mg_of X G a,a,Haq t.1,t.2,l,c,F,n,b⟩
abbrev Gt1(K:By):TS:=Gte (tVI K (Gma (Gum 0) (Gma (Gum 1) Gzn)))
def ini_mk{f:BB}{an:BC BB}{kV:Bz}(l:K.lookup f=some ⟨.type "function",od,.func (PySem.W.fnOf "__init__" "SummitError.__init__" (Hz st) (Hb st) (Gc st) .none kV doc pm an cdv ct),osl⟩)(c:PySem.W.codeIn K cdv "SummitError.__init__"=true)(k:PySem.W.keepIn K (.ref f)=true)(Sc:FnScope ["self","text"] ["self","text"] (Gc st))(hb:∀ (f:BB) (cdv:Bz) (A:Around) (outer:List PySem.Env) (s:BA) (H:Hp) (E:XK),PSs (Qy CX0 P w K mg base ["self","text"] "SummitError.__init__" (Gc st) f cdv A outer s H E).nox (Hb st) (Gt1 K))(bi:∀ (kV doc pm:Bz) (an:BC BB) (cdv ct:Bz) (us:List Bz),us.length=2->bindArgs (PySem.W.fnOf "__init__" "SummitError.__init__" (Hz st) (Hb st) (Gc st) .none kV doc pm an cdv ct) ⟨us,[]⟩=pure ((["self","text"]:List Str).zip us)):IniX P w K mg base f 1:=by
 have F:=Ge3 (st:=st) l c k
 refine⟨_,["self","text"],_,l,rfl,?_,rfl,F.binds bi⟩
 refine Fun.ok F Sc (fun vs H Q E ⟨e,v,C,dx,ev,_⟩=>by rw[ev]; rfl) fun cdv A outer s H vs Q E hr ⟨e,v,C,dx,ev,hH,kx,q⟩=>?_
 refine⟨_,hb _ cdv A outer s H E,?_⟩
 subst ev
 exact⟨.ref e,rfl,v,rfl,e,v,C,dx,rfl,hH,kx,q⟩
end
section
variable{X:Cx}{XQ:XW}
def Hcu(i j:Int):Prop:=(-1000000000000<=i/\i<=1000000000000) /\ -1000000000000<=j/\j<=1000000000000
instance {i j:Int}:Decidable (Hcu i j):=inferInstanceAs (Decidable ((-1000000000000<=i/\i<=1000000000000) /\ -1000000000000<=j/\j<=1000000000000))
end
structure FvT(K:By)(mg:Str->BC Bz)(x:Str):Prop where
 ex:∃ f,CN K x f/\mg x=some (.ref f)
section
variable{X:Cx}{XQ:XW}{k:Nat}{ps:List Str}{fn:Fn}{x y:Str}{p pos:Pos}{e:Expr}{es:List Expr}
def Gxm(t:FvT X.K X.mg x)(hg:Gl X x)(hp:Gw x=true):JE X XQ (.Name x pos) (cn (.fv x)):=by
 obtain⟨f,hc,hm⟩:=t.ex
 exact Wn (Gey hg hm (v:=.ref f) rfl (Gw.of hp).1) fun mp H=>⟨f,rfl,hc⟩
def Har:XL X.nox (fun _ _ _ _ _ _=>False) where
 own:=fun pins σ H s e C dx φ I hH fr le ⟨x,mp,ρ,S,_,_,h⟩=>h.elim
 cal:=fun pins σ H s e s' E2 I hx hE=>by
  obtain⟨a,T,C,dx,H',_,_,_,_,_,_,_,_,h⟩:=hx
  obtain⟨_,_,_,_,_,_,z⟩:=hE C dx H' h
  exact z.elim
 pas:=PassesOwn.never
 pat:=fun _=>PassesOwnAt.never
def clv(i:Nat)(x:Str)(n:Nat)(fn:Fn)(t:Ev (List D)):Ev D:=fun ρ S=>match ρ[i]? with
 | some (some (.fv y))=>if y=x then(t ρ S).bind fun ds S1=>if ds.length=n then fn ds S1 else .bad else .bad
 | _=>.bad
def Gnr(i:Nat){ys:List Str}(xs:XNs X.K ys)(L:XL X XQ)(C:CalX X.prog X.w X.K X.mg X.base x ps fn j)(hr:Room k X.A)(hj:j<=k)(hN:X.N[i]?=some y)(hv:Vis X.env.scope y)(hy:Gw y=true)(ha:JA X XQ (e::es) t)(he:starEach (e::es) X.env=(false,eval e X.env)::starEach es X.env:=by rfl)(hpl:(backTo pos (starEach es X.env)).any (·.1)=false:=by rfl):
  JE X XQ (.Call (.Name y p) (e::es) [] pos) (clv i x ps.length (gX ys fn) t):=by
 obtain⟨f,fd,F,hm,hk,hb⟩:=C.ex
 intro pins s σ H Q I ⟨mp,ρ,S,G,p0⟩
 unfold clv at p0
 split at p0
 ·rename_i z hz
  by_cases c:z=x
  ·rw[if_pos c] at p0
   subst c
   obtain⟨v,hσ,f',rfl,hc⟩:=G.loc i _ hz
   have hm':=PySem.W.mg_of I.ok.mod.kin I.ok.mod.glob hc
   rw[hm] at hm'
   cases hm'
   refine wpAny_Call_Name_kw (thn (Gex hN hv (Gw.of hy).1 (Gw.of hy).2 pins s σ H (fun w H'=>w=.ref f/\H'=H) I ⟨.ref f,hσ,rfl,rfl⟩) fun u s1 ⟨w,H1,I1,r1,e1,e2⟩=>?_)
   subst e1 e2
   obtain rfl:u=Value.ref f:=r1
   refine PySem.W.callWith_K (h₀:=X.base) I1.ok.mod.kin hk ?_ he hpl
   refine thn (ha pos pins s1 σ H1 (fun vs H2=>spX X.K ps.length fn vs H2 Q fun c dx H'=>∃ C,c=.ref C/\WX X.K XQ σ C dx H') I1 ?_) fun us s2 ⟨vs,H2,I2,r2,q2⟩=>⟨I2.kIn,Gjf (F.mono hj) hr hb L.cal I2 r2 q2⟩
   refine bindP G p0 fun mp1 H1 ds S1 vs a1 G1 r1 p1=>?_
   by_cases hl:ds.length=ps.length
   ·rw[if_pos hl] at p1
    refine⟨mp1,ds,S1,G1.rs,r1,hl,?_⟩
    unfold gX at p1
    cases z:fn ds S1 with
    | ok d S'=>rw[z] at p1; exact p1
    | exc xx S'=>
     rw[z] at p1
     by_cases hi:xx.cls∈ys
     ·have p1:Gj X.K (Rep X.K) XQ σ ρ mp1 H1 (.exc xx S') Q:=by simpa only[if_pos hi] using p1
      obtain⟨C,hC,_⟩:=xs _ hi
      refine⟨C,hC,fun mp' H' dx af rs xf=>⟨C,rfl,xx,mp',ρ,S',xf,hC,p1 mp' H' af (G1.aft af rs)⟩⟩
     ·have p1:Gj X.K (Rep X.K) XQ σ ρ mp1 H1 .bad Q:=by simpa only[if_neg hi] using p1
      exact p1.elim
    | bad=>rw[z] at p1; exact p1.elim
   ·rw[if_neg hl] at p1; exact p1.elim
  ·rw[if_neg c] at p0; exact p0.elim
 ·exact p0.elim
end
noncomputable def Gns:List Bz->Bool
 | .ref _::r=>Gns r
 | l=>l==[.type "ValueError",.type "Exception",.type "BaseException",.type "object"]
structure KA(K:By)(C:BB):Prop where
 sa:PySem.W.findIn K (.ref C) "__setattr__"=some (some (.builtin "object.__setattr__"))
 ve:(PySem.W.clsIn K C).any (fun cd=>Gns cd.mro)=true
 na:PySem.W.findIn K (.ref C) "at"=some none
 hd:PySem.W.hasDictIn K C=true
section
variable{X:Cx}{pins:List (BB×Obj)}{σ:L2.St}{H:Hp}{s:BA}{C e:BB}
structure BaseI(K:By)(mg:Str->BC Bz)(x:Str)(f:BB):Prop where
 ex:∃ cs mc,mg x=some (.ref cs)/\PySem.W.readsIn K cs mc=true/\PySem.W.findCls K (.ref cs) mc "__init__"=some (.val (.ref f))/\PySem.W.specialIn K (.ref cs) "__getattribute__"=some (some (.builtin "type.__getattribute__"))/\PySem.W.keepIn K (.ref f)=true
end
def spJ(K:By):Sp:=fun vs H Q _=>∃ e n C,vs=[.ref e,.int n]/\H e=some (FX e C none)/\(KX K C/\KA K C)/\∀ d,H d=none->d≠e->Q .non (upd (upd H e (FX e C (some d))) d (XA d n))
section
variable{P:BD}{w:World}{K:By}{mg:Str->BC Bz}{base:Heap}
structure IniJ(P:BD)(w:World)(K:By)(mg:Str->BC Bz)(base:Heap)(f:BB)(j:Nat):Prop where
 ex:∃ fd ps oI,K.lookup f=some oI/\oI.cls=.type "function"/\FnOk P w K mg base CX0 j f fd ps (spJ K)/\ps.length=2/\Binds K fd ps []
end
section
variable{X:Cx}{pins:List (BB×Obj)}{σ:L2.St}{H:Hp}{s:BA}{C f:BB}{fd:FuncData}{ps:List Str}{k:Nat}
structure ClJ(P:BD)(w:World)(K:By)(mg:Str->BC Bz)(base:Heap)(x:Str)(j:Nat):Prop where
 ex:∃ C f fd ps oI,mg x=some (.ref C)/\CN K x C/\(KX K C/\KA K C)/\PySem.W.findIn K (.ref C) "__init__"=some (some (.ref f))/\K.lookup f=some oI/\oI.cls=.type "function"/\FnOk P w K mg base CX0 j f fd ps (spJ K)/\ps.length=2/\Binds K fd ps []
end
section
variable{P:BD}{w:World}{A:Around}{E:Bz->BA->Prop}{env:PySem.Env}{s:BA}
variable{nm q:Str}{C N:BB}{bs bm:List Bz}{hdct:Bool}{sn:List Str}{sub:List Bz}{ab:Bool}{col:BC Bool}{dd:BC BB}{k0 k1 k2 k3 k5:BC Bz}{newId:String}
end
structure RoomQ(k:Nat)(A:Around):Prop where
 dp:A.depth+3*k+5<recursionLimit
 un:A.units+16*k+200<cLine
 gd:A.guards=some []
structure FnQ(P:BD)(w:World)(K:By)(mg:Str->BC Bz)(base:Heap)(k:Nat)(f:BB)(fd:FuncData)(ps:List Str)(sp:Sp):Prop where
 len:∀ vs H Q E,sp vs H Q E->vs.length=ps.length
 run:∀ (A:Around) (outer:List PySem.Env) (s:BA) (H:Hp) (args:Args) (us:List Bz) (vs:List V) (Q:VK) (E:XK),RoomQ k A->Env0 P w K mg base A outer s H->BindsTo s fd args (ps.zip us)->Vals vs us->sp vs H Q E→
  codeAny (model P w) A (.call (.ref f) args) (CR CX0 outer P w H s Q E) s
section
variable{P:BD}{w:World}{K:By}{mg:Str->BC Bz}{base:Heap}
structure IniXQ(P:BD)(w:World)(K:By)(mg:Str->BC Bz)(base:Heap)(f:BB)(j:Nat):Prop where
 ex:∃ fd ps oI,K.lookup f=some oI/\oI.cls=.type "function"/\FnQ P w K mg base j f fd ps (spI K)/\ps.length=2/\Binds K fd ps []
structure IniJQ(P:BD)(w:World)(K:By)(mg:Str->BC Bz)(base:Heap)(f:BB)(j:Nat):Prop where
 ex:∃ fd ps oI,K.lookup f=some oI/\oI.cls=.type "function"/\FnQ P w K mg base j f fd ps (spJ K)/\ps.length=2/\Binds K fd ps []
end
section
variable{X:Cx}{pins:List (BB×Obj)}{σ:L2.St}{H:Hp}{s:BA}{C f:BB}{fd:FuncData}{ps:List Str}{k:Nat}
structure ClJQ(P:BD)(w:World)(K:By)(mg:Str->BC Bz)(base:Heap)(x:Str)(j:Nat):Prop where
 ex:∃ C f fd ps oI,mg x=some (.ref C)/\CN K x C/\(KX K C/\KA K C)/\PySem.W.findIn K (.ref C) "__init__"=some (some (.ref f))/\K.lookup f=some oI/\oI.cls=.type "function"/\FnQ P w K mg base j f fd ps (spJ K)/\ps.length=2/\Binds K fd ps []
end
noncomputable abbrev hx(X:Cx)(a:BB):Cx:={ X with A:=X.A.mark (some (.ref a)),calm:=false }
structure GE(X:Cx)(XQ:XW)(e:Expr)(f:Ev D):Prop where
 h:JE X XQ e f
structure GA(X:Cx)(XQ:XW)(es:List Expr)(f:Ev (List D)):Prop where
 h:JA X XQ es f
structure GT(X:Cx)(XQ:XW)(e:Expr)(f:Ev Bool):Prop where
 h:JT X XQ e f
structure GW(X:Cx)(XQ:XW)(e:Expr)(f:Ev Bool):Prop where
 h:JW X XQ e f
structure GO(X:Cx)(XQ:XW)(e:BC Expr)(f:Ev (BC Int)):Prop where
 h:JO X XQ e f
structure GS(X:Cx)(XQ:XW)(st:Stmt)(f:Sv):Prop where
 h:JS X XQ st f
structure GSs(X:Cx)(XQ:XW)(st:List Stmt)(f:Sv):Prop where
 h:JSs X XQ st f
structure GI(X:Cx)(XQ:XW)(tg it:Expr)(f:Ev Src):Prop where
 h:JI X XQ tg it f
structure GG(X:Cx)(tg:Expr)(g:Tg):Prop where
 h:JG X tg g
structure GGs(X:Cx)(ts:List Expr)(g:Tgs):Prop where
 h:JGs X ts g
structure GTs(Y:Cx)(XQ:XW)(ifs:List Expr)(t:Ev Bool):Prop where
 h:JTs Y XQ ifs t
def Gxn{x:Str}{pos:Pos}(t:FvT X.K X.mg x)(hg:Gl X x)(hp:Gw x=true):GE X XQ (.Name x pos) (cn (.fv x)):=⟨Gxm t hg hp⟩
def Gnt{x:Str}{pos:Pos}{e:Expr}(i:Nat){ys:List Str}(xs:XNs X.K ys)(L:XL X XQ)(C:CalX X.prog X.w X.K X.mg X.base x ps fn j)(hr:Room k X.A)(hj:j<=k)(hN:X.N[i]?=some y)(hv:Vis X.env.scope y)(hy:Gw y=true)(ha:GA X XQ (e::es) t)(he:starEach (e::es) X.env=(false,eval e X.env)::starEach es X.env:=by rfl)(hpl:(backTo pos (starEach es X.env)).any (·.1)=false:=by rfl):GE X XQ (.Call (.Name y p) (e::es) [] pos) (clv i x ps.length (gX ys fn) t):=⟨Gnr i xs L C hr hj hN hv hy ha.h he hpl⟩
def Gxo{x:Str}{ys:List Str}{e:Expr}{pos:Pos}(k:Isx X.K X.mg x ys sub)(hg:Gl X "isinstance")(hm:X.mg "isinstance"=none)(hgt:Gl X x)(hp:Gw x=true)(he:GE X XQ e f)(hs:starEach [e,.Name x p2] X.env=(false,eval e X.env)::starEach [.Name x p2] X.env)(hpl:(backTo pos (starEach [.Name x p2] X.env)).any (·.1)=false)(hs2:starEach [.Name x p2] X.env=(false,eval (.Name x p2) X.env)::starEach [] X.env):GE X XQ (.Call (.Name "isinstance" p) [e,.Name x p2] [] pos) (o1 (Kt ys sub) f):=⟨Gxf k hg hm hgt hp he.h hs hpl hs2⟩
def Grt{x:Str}{ys:List Str}{e:Expr}{pos:Pos}(k:IsxB X.K T ys sub)(hv:bootBuiltins x=some (.type T))(hnx:x≠"__name__")(hg:Gl X "isinstance")(hm:X.mg "isinstance"=none)(hgt:Gl X x)(hmt:X.mg x=none)(hp:Gw x=true)(he:GE X XQ e f)(hs:starEach [e,.Name x p2] X.env=(false,eval e X.env)::starEach [.Name x p2] X.env)(hpl:(backTo pos (starEach [.Name x p2] X.env)).any (·.1)=false)(hs2:starEach [.Name x p2] X.env=(false,eval (.Name x p2) X.env)::starEach [] X.env):GE X XQ (.Call (.Name "isinstance" p) [e,.Name x p2] [] pos) (o1 (Kt ys sub) f):=⟨Grs k hv hnx hg hm hgt hmt hp he.h hs hpl hs2⟩
def Gnu{e:Expr}{f:Ev (List D)}(ho:GE X XQ o fo)(ha:GA X XQ [e] f)(hbase:attributeBase o "count" X.env (eval o X.env)=eval o X.env:=by rfl)(hfew:((backTo cpos (starEach [e] X.env)).all (fun x=>!x.1)&&(backToKw cpos (keywordEach [] X.env)).all (fun x=>x.1.isSome)
   && decide ([e].length+([]:List Keyword).length+(if([]:List Keyword).isEmpty then 0 else 1)<30))=true:=by rfl)(hline:(apos.endLine==cpos.line)=true:=by rfl)(hs:starEach [e] X.env=(false,eval e X.env)::starEach [] X.env:=by rfl):GE X XQ (.Call (.Attribute o "count" apos) [e] [] cpos) (mt Gic fo f):=⟨Gno ho.h ha.h hbase hfew hline hs⟩
def Gnv{e:Expr}{f:Ev (List D)}(ho:GE X XQ o fo)(ha:GA X XQ [e] f)(hbase:attributeBase o "index" X.env (eval o X.env)=eval o X.env:=by rfl)(hfew:((backTo cpos (starEach [e] X.env)).all (fun x=>!x.1)&&(backToKw cpos (keywordEach [] X.env)).all (fun x=>x.1.isSome)
   && decide ([e].length+([]:List Keyword).length+(if([]:List Keyword).isEmpty then 0 else 1)<30))=true:=by rfl)(hline:(apos.endLine==cpos.line)=true:=by rfl)(hs:starEach [e] X.env=(false,eval e X.env)::starEach [] X.env:=by rfl):GE X XQ (.Call (.Attribute o "index" apos) [e] [] cpos) (mt Gid fo f):=⟨Gnp ho.h ha.h hbase hfew hline hs⟩
def Ggr{x1}{tp:Pos}{f:Ev (List D)}{pos:Pos}(hg:Gl X "enumerate")(hm:X.mg "enumerate"=none)(ha:GA X XQ [a] f)(hs:starEach [a] X.env=[(false,eval a X.env)]:=by rfl):GI X XQ (.Tuple es x1 tp) (.Call (.Name "enumerate" p) [a] [] pos) (Gcu f):=⟨Gnb hg hm ha.h hs⟩
def Ga6{j pos}:GE X XQ (.Constant .none j pos) (cn .non):=⟨Gvp ⟩
def Wq{b:Bool}{j pos}:GE X XQ (.Constant (.bool b) j pos) (cn (.bl b)):=⟨Gz0 ⟩
def ge_int{i:Int}{j pos}:GE X XQ (.Constant (.int i) j pos) (cn (.int i)):=⟨Gvo ⟩
def Hc{x:Str}{j pos}:GE X XQ (.Constant (.str x) j pos) (cn (.str x)):=⟨Gvq ⟩
def Kh{pos:Pos}(ha:GE X XQ a fa)(hb:GE X XQ b fb):GE X XQ (.BinOp a .Add b pos) (o2 Gu fa fb):=⟨Gwi ha.h hb.h⟩
def Yc{pos:Pos}(ha:GE X XQ a fa)(hb:GE X XQ b fb):GE X XQ (.BinOp a .Sub b pos) (o2 Ql fa fb):=⟨Gwe ha.h hb.h⟩
def Ga7{pos:Pos}(ha:GE X XQ a fa)(hb:GE X XQ b fb):GE X XQ (.BinOp a .Mult b pos) (o2 Jc fa fb):=⟨Gwk ha.h hb.h⟩
def Gxp{pos:Pos}(ha:GE X XQ a fa)(hb:GE X XQ b fb):GE X XQ (.BinOp a .Mod b pos) (o2 Xb fa fb):=⟨Gwf ha.h hb.h⟩
def Gfd{pos:Pos}(ha:GE X XQ a fa)(hb:GE X XQ b fb):GE X XQ (.BinOp a .FloorDiv b pos) (o2 Vs fa fb):=⟨Grg ha.h hb.h⟩
def Gxq{pos:Pos}(ha:GE X XQ a fa)(hb:GE X XQ b fb):GE X XQ (.BinOp a .Pow b pos) (o2 Gfa fa fb):=⟨Gwg ha.h hb.h⟩
def Has{pos:Pos}(ha:GE X XQ a fa)(hb:GE X XQ b fb):GE X XQ (.Compare a [.Lt] [b] pos) (o2 ltD fa fb):=⟨Gz9 ha.h hb.h⟩
def Hat{pos:Pos}(ha:GE X XQ a fa)(hb:GE X XQ b fb):GE X XQ (.Compare a [.LtE] [b] pos) (o2 leD fa fb):=⟨Haa ha.h hb.h⟩
def Hau{pos:Pos}(ha:GE X XQ a fa)(hb:GE X XQ b fb):GE X XQ (.Compare a [.GtE] [b] pos) (o2 geD fa fb):=⟨Hab ha.h hb.h⟩
def Gnw{pos:Pos}(hu:X.A.units+64<cLine)(ha:GE X XQ a fa)(hb:GE X XQ b fb):GE X XQ (.Compare a [.Eq] [b] pos) (o2 eqD fa fb):=⟨Gz5 hu ha.h hb.h⟩
def Hav{pos:Pos}(hu:X.A.units+64<cLine)(ha:GE X XQ a fa)(hb:GE X XQ b fb):GE X XQ (.Compare a [.NotEq] [b] pos) (o2 neD fa fb):=⟨Gz7 hu ha.h hb.h⟩
def Gru{pos:Pos}(ha:GE X XQ a fa)(hb:GE X XQ b fb):GE X XQ (.Compare a [.IsNot] [b] pos) (o2 Gei fa fb):=⟨Gq5 ha.h hb.h⟩
def Gnx{rest:List Expr}{g:Ev D}{pos:Pos}(ha:GE X XQ a f)(hb:GE X XQ (.BoolOp .And (b::rest) pos) g):GE X XQ (.BoolOp .And (a::b::rest) pos) (va f g):=⟨Gvz ha.h hb.h⟩
def Gny{op}{pos:Pos}(h:GE X XQ a f):GE X XQ (.BoolOp op [a] pos) f:=⟨Gvy h.h⟩
def Gnz{pos:Pos}(ha:GE X XQ a f):GE X XQ (.UnaryOp .Not a pos) (vn f):=⟨Gv0 ha.h⟩
def Gn0{pos:Pos}(ha:GE X XQ a fa):GE X XQ (.UnaryOp .USub a pos) (o1 Ggl fa):=⟨Gww ha.h⟩
def Gxr{c:Expr}{pos:Pos}(hc:GT X XQ c fc)(ha:GE X XQ a fa)(hb:GE X XQ b fb):GE X XQ (.IfExp c a b pos) (ie fc fa fb):=⟨Gv1 hc.h ha.h hb.h⟩
def Gv{pos:Pos}(ha:GE X XQ a fa)(hb:GE X XQ b fb)(hs:Gb8 b:=by intro _ _; rfl):GE X XQ (.Subscript a b pos) (o2 getD fa fb):=⟨Gwm ha.h hb.h hs⟩
def Gej{e:Expr}{lo hi:BC Expr}{fe:Ev D}{fl fh:Ev (BC Int)}{pos:Pos}(he:GE X XQ e fe)(hl:GO X XQ lo fl)(hh:GO X XQ hi fh):GE X XQ (.Subscript e (.Slice lo hi none p2) pos) (sl2 fe fl fh):=⟨Glg he.h hl.h hh.h⟩
def Hg{f:Ev (List D)}{pos:Pos}(h:GA X XQ es f):GE X XQ (.List es pos) (ls f):=⟨Gvt h.h⟩
def Ht{f:Ev (List D)}{x1}{pos:Pos}(h:GA X XQ es f):GE X XQ (.Tuple es x1 pos) (tp f):=⟨Gvs h.h⟩
def Gxs{x:Str}{e:Expr}{pos:Pos}(k:Kit X.K T)(hv:bootBuiltins x=some (.type T))(hnx:x≠"__name__")(hdx:(x==("__debug__":Str))=false)(hg:Gl X "isinstance")(hm:X.mg "isinstance"=none)(hgt:Gl X x)(hmt:X.mg x=none)(he:GE X XQ e f)(hs:starEach [e,.Name x p2] X.env=(false,eval e X.env)::starEach [.Name x p2] X.env)(hpl:(backTo pos (starEach [.Name x p2] X.env)).any (·.1)=false)(hs2:starEach [.Name x p2] X.env=(false,eval (.Name x p2) X.env)::starEach [] X.env):GE X XQ (.Call (.Name "isinstance" p) [e,.Name x p2] [] pos) (o1 (isD T) f):=⟨Gw0 k hv hnx hdx hg hm hgt hmt he.h hs hpl hs2⟩
def Jg{pos:Pos}{e:Expr}{f:Ev (List D)}(hg:Gl X "len")(hm:X.mg "len"=none)(ha:GA X XQ [e] f)(he:starEach [e] X.env=(false,eval e X.env)::starEach [] X.env:=by rfl):GE X XQ (.Call (.Name "len" p) [e] [] pos) (b1 Gy f):=⟨Gwo hg hm ha.h he⟩
def Grv{pos:Pos}{e:Expr}{f:Ev (List D)}(hg:Gl X "list")(hm:X.mg "list"=none)(ha:GA X XQ [e] f)(he:starEach [e] X.env=(false,eval e X.env)::starEach [] X.env:=by rfl):GE X XQ (.Call (.Name "list" p) [e] [] pos) (b1 Qo f):=⟨Gq2 hg hm ha.h he⟩
def Yd{pos:Pos}{e:Expr}{f:Ev (List D)}(hg:Gl X "tuple")(hm:X.mg "tuple"=none)(ha:GA X XQ [e] f)(he:starEach [e] X.env=(false,eval e X.env)::starEach [] X.env:=by rfl):GE X XQ (.Call (.Name "tuple" p) [e] [] pos) (b1 Kc f):=⟨Gmz hg hm ha.h he⟩
def Gxt{pos:Pos}{e e':Expr}{f:Ev (List D)}(hc:X.calm=true)(hg:Gl X "min")(hm:X.mg "min"=none)(ha:GA X XQ [e,e'] f)(he:starEach [e,e'] X.env=(false,eval e X.env)::starEach [e'] X.env:=by rfl)(hpl:(backTo pos (starEach [e'] X.env)).any (·.1)=false:=by rfl):GE X XQ (.Call (.Name "min" p) [e,e'] [] pos) (b1 Gld f):=⟨Gwq hc hg hm ha.h he hpl⟩
def Grw{pos:Pos}{e:Expr}{f:Ev (List D)}(hg:Gl X "int")(hm:X.mg "int"=none)(ha:GA X XQ [e] f)(he:starEach [e] X.env=(false,eval e X.env)::starEach [] X.env:=by rfl):GE X XQ (.Call (.Name "int" p) [e] [] pos) (b1 Gaa f):=⟨Gq3 hg hm ha.h he⟩
def Xd{pos:Pos}{e:Expr}{f:Ev (List D)}(hr:Room k X.A)(hg:Gl X "repr")(hm:X.mg "repr"=none)(ha:GA X XQ [e] f)(he:starEach [e] X.env=(false,eval e X.env)::starEach [] X.env:=by rfl):GE X XQ (.Call (.Name "repr" p) [e] [] pos) (b1 Qp f):=⟨Gre hr hg hm ha.h he⟩
def Ga8{e:Expr}{f:Ev (List D)}(ho:GE X XQ o fo)(ha:GA X XQ [e] f)(hbase:attributeBase o "append" X.env (eval o X.env)=eval o X.env:=by rfl)(hfew:((backTo cpos (starEach [e] X.env)).all (fun x=>!x.1)&&(backToKw cpos (keywordEach [] X.env)).all (fun x=>x.1.isSome)
   && decide ([e].length+([]:List Keyword).length+(if([]:List Keyword).isEmpty then 0 else 1)<30))=true:=by rfl)(hline:(apos.endLine==cpos.line)=true:=by rfl)(hs:starEach [e] X.env=(false,eval e X.env)::starEach [] X.env:=by rfl):GE X XQ (.Call (.Attribute o "append" apos) [e] [] cpos) (mt Gdr fo f):=⟨Gle ho.h ha.h hbase hfew hline hs⟩
def Gji{pos:Pos}(ha:GE X XQ a fa)(hb:GE X XQ b fb):GT X XQ (.Compare a [.Lt] [b] pos) (tb (o2 ltD fa fb)):=⟨Hac ha.h hb.h⟩
def Gek{pos:Pos}(ha:GE X XQ a fa)(hb:GE X XQ b fb):GT X XQ (.Compare a [.Gt] [b] pos) (tb (o2 gtD fa fb)):=⟨Had ha.h hb.h⟩
def Gt2{pos:Pos}(ha:GE X XQ a fa)(hb:GE X XQ b fb):GT X XQ (.Compare a [.GtE] [b] pos) (tb (o2 geD fa fb)):=⟨Hae ha.h hb.h⟩
def Ggs{pos:Pos}(hu:X.A.units+64<cLine)(ha:GE X XQ a fa)(hb:GE X XQ b fb):GT X XQ (.Compare a [.Eq] [b] pos) (tb (o2 eqD fa fb)):=⟨Gz6 hu ha.h hb.h⟩
def Gad{pos:Pos}(hu:X.A.units+64<cLine)(ha:GE X XQ a fa)(hb:GE X XQ b fb):GT X XQ (.Compare a [.NotEq] [b] pos) (tb (o2 neD fa fb)):=⟨Gz8 hu ha.h hb.h⟩
def Gn1{pos:Pos}(ha:GE X XQ a fa)(hb:GE X XQ b fb):GT X XQ (.Compare a [.Is] [b] pos) (tb (o2 Gcs fa fb)):=⟨Gwt ha.h hb.h⟩
def Ggt{c:Expr}{op op':CmpOp}{r r':R2}{o o':D->D->Sto->Out D}{fc:Ev D}{pos:Pos}(ho:OpR X (compareOp op) r)(hd:OpD X.K r o)(ho':OpR X (compareOp op') r')(hd':OpD X.K r' o')(ha:GE X XQ a fa)(hb:GE X XQ b fb)(hc:GE X XQ c fc)(hm:lastMarks [op,op'] [b,c]=false:=by with_unfolding_all rfl):GT X XQ (.Compare a [op,op'] [b,c] pos) (tb (ch o o' fa fb fc)):=⟨Gm0 ho hd ho' hd' ha.h hb.h hc.h hm⟩
def Xe{f:Ev Bool}{pos:Pos}(h:GT X XQ a f):GT X XQ (.UnaryOp .Not a pos) (tn f):=⟨Gvv h.h⟩
def Uv{e:Expr}(h:GE X XQ e f)(he:∀ whole,isTrue e X.env whole=(do let v <- whole; standAt e.pos; holding [v] (truthy v)):=by intro _; rfl):GT X XQ e (tt f):=⟨Gvu h.h he⟩
def Gjj{f:Ev Bool}{pos:Pos}(h:GT X XQ a f):GW X XQ (.BoolOp .And [a] pos) f:=⟨Gql h.h⟩
def Zo{f:Ev Bool}{pos:Pos}(h:GT X XQ a f):GW X XQ (.BoolOp .Or [a] pos) f:=⟨Gvw h.h⟩
def Gie{rest:List Expr}{f g:Ev Bool}{pos:Pos}(h:GT X XQ a f)(hb:GW X XQ (.BoolOp .And (b::rest) pos) g):GW X XQ (.BoolOp .And (a::b::rest) pos) (ta f g):=⟨Gvx h.h hb.h⟩
def Ye{rest:List Expr}{f g:Ev Bool}{pos:Pos}(h:GT X XQ a f)(hb:GW X XQ (.BoolOp .Or (b::rest) pos) g):GW X XQ (.BoolOp .Or (a::b::rest) pos) (to f g):=⟨Gz3 h.h hb.h⟩
def BE :GA X XQ [] an:=⟨Gvr ⟩
def Ga{e:Expr}{g:Ev (List D)}(ha:GE X XQ e f)(hr:GA X XQ es g)(hs:starEach (e::es) X.env=(false,eval e X.env)::starEach es X.env:=by rfl):GA X XQ (e::es) (ac f g):=⟨Gqh ha.h hr.h hs⟩
def Gjk :GO X XQ none onone:=⟨Gq6 ⟩
def Gjl{e:Expr}(h:GE X XQ e f):GO X XQ (some e) (osome f):=⟨Gq7 h.h⟩
def Qz{f:Ev (List D)}{pos:Pos}(hg:Gl X "range")(hm:X.mg "range"=none)(ha:GA X XQ [a] f)(hs:starEach [a] X.env=[(false,eval a X.env)]:=by rfl):GI X XQ tg (.Call (.Name "range" p) [a] [] pos) (ir1 f):=⟨Gla hg hm ha.h hs⟩
def Gel{f:Ev (List D)}{pos:Pos}(hg:Gl X "range")(hm:X.mg "range"=none)(ha:GA X XQ [a,b] f)(hs:starEach [a,b] X.env=[(false,eval a X.env),(false,eval b X.env)]:=by rfl)(hs2:starEach [b] X.env=[(false,eval b X.env)]:=by rfl):GI X XQ tg (.Call (.Name "range" p) [a,b] [] pos) (ir2 f):=⟨Glb hg hm ha.h hs hs2⟩
def Ga9{l:Expr}(hl:GE X XQ l f):GI X XQ tg l (isrc f):=⟨Gwb hl.h⟩
def ggn(i:Nat){x:Str}{pos:Pos}(hN:X.N.Nodup)(h:OkL X.env.scope x)(hi:X.N[i]?=some x:=by rfl)(hf:X.fn x=true:=by rfl):GG X (.Name x pos) (gn i):=⟨jgn i hN h hi hf⟩
def Hcv(i:Nat){s2:BA}{x:Str}{pos:Pos}(hN:N'.Nodup)(h:Grf scope x=true)(hi:N'[i]?=some x:=by rfl):GG (blk X s2 H2 C scope c N' fp) (.Name x pos) (gn i):=⟨Hcn i hN h hi⟩
def Zp{m:Nat}{k:Tgs}{pos:Pos}(hc:X.calm=true)(h:GGs X es k)(hn:(assignEach es X.env).length=n:=by rfl)(hst:(assignEach es X.env).findIdx? (·.1)=none:=by rfl):GG X (.Tuple es m pos) (gt k n):=⟨Gv3 hc h.h hn hst⟩
def Xf :GGs X [] gnil:=⟨Gqp ⟩
def Jl{e:Expr}{g:Tg}{k:Tgs}(h1:GG X e g)(h2:GGs X es k)(hs:(assignEach (e::es) X.env).map (·.2)=assign e X.env::(assignEach es X.env).map (·.2):=by rfl):GGs X (e::es) (gcons g k):=⟨Gmo h1.h h2.h hs⟩
def Hu :GSs X XQ [] skip:=⟨Gqm ⟩
def Gh{rest:List Stmt}{f g:Sv}(h1:GS X XQ st f)(h2:GSs X XQ rest g):GSs X XQ (st::rest) (sq f g):=⟨Gmm h1.h h2.h⟩
def Gm{f:Sv}(h1:GS X XQ st f):GSs X XQ [st] f:=⟨Gqn h1.h⟩
def Ja{e:Expr}{pos:Pos}(he:GE X XQ e f):GS X XQ (.Return (some e) pos) (sret f):=⟨Gv2 he.h⟩
def Js{c:Expr}{a b:List Stmt}{f g:Sv}{pos:Pos}(hc:GT X XQ c fc)(ha:GSs X XQ a f)(hb:GSs X XQ b g):GS X XQ (.If c a b pos) (sif fc f g):=⟨Gz4 hc.h ha.h hb.h⟩
def gset(i:Nat){x:Str}{e:Expr}{pos:Pos}(hN:X.N.Nodup)(h:OkL X.env.scope x)(he:GE X XQ e f)(hi:X.N[i]?=some x:=by rfl)(hs:swapsWith e (some (.Name x pos')) pos.line X.env=pure false:=by rfl)(hf:X.fn x=true:=by rfl):GS X XQ (.Assign [.Name x pos'] e pos) (sa f (gn i)):=⟨jset i hN h he.h hi hs hf⟩
def Gn2(i:Nat){sc:Scope}{pos:Pos}{pk:List (BC Nat)}{f:Ev Src}{g:Tg}{t:Ev Bool}{e:Ev D}(hsc:X.env.scope=sc)(hNN:X.N=N)(ct:CompTab sc scope N N' pk)(hcm:X.calm=true)(hi:GI X XQ tg iter f)(hg:∀ cl s2 H2 C fp,GG (blk X s2 H2 C scope cl N' fp) tg g)(ht:∀ cl s2 H2 C fp,GTs (blk X s2 H2 C scope cl N' fp) XN ifs t)(he:∀ cl s2 H2 C fp,GE (blk X s2 H2 C scope cl N' fp) XN elt e)(hN:X.N.Nodup)(hl:OkL X.env.scope y)(hsw:swapsWith (.ListComp elt [⟨tg,iter,ifs,0⟩] scope pos) (some (.Name y py)) spos.line X.env=pure true)(hy:X.N[i]?=some y:=by rfl)(hs:∀ x,foldedSetIterable iter X.env x=pure x:=by intro _; rfl)(hf:X.fn y=true:=by rfl):GS X XQ (.Assign [.Name y py] (.ListComp elt [⟨tg,iter,ifs,0⟩] scope pos) spos) (sa (cmp f pk g t e) (gn i)):=⟨Gm8 i hsc hNN ct hcm hi.h (fun z0 z1 z2 z3 z4=>(hg z0 z1 z2 z3 z4).h) (fun z0 z1 z2 z3 z4=>(ht z0 z1 z2 z3 z4).h) (fun z0 z1 z2 z3 z4=>(he z0 z1 z2 z3 z4).h) hN hl hsw hy hs hf⟩
def Gcz{e:Expr}{g:Tg}{pos:Pos}(he:GE X XQ e f)(hg:GG X tg g)(hs:swapsWithSole [tg] e pos.line X.env=pure false:=by rfl)(hw:swappedStores [tg] e X.env=pure none:=by rfl)(h1:(assignEach [tg] X.env).map (·.2)=[assign tg X.env]:=by rfl):GS X XQ (.Assign [tg] e pos) (sa f g):=⟨Gv4 he.h hg.h hs hw h1⟩
def Gn3(i j:Nat){x:Str}{f:Ev (List D)}{px pt pos:Pos}{kt k2 pt2}(hc:X.calm=true)(hN:X.N.Nodup)(hi:X.N[i]?=some x)(hj:X.N[j]?=some y)(hij:i≠j)(hx:X.env.scope.names.lookup x=some .local)(hy:X.env.scope.names.lookup y=some .local)(ha:GA X XQ [a,b] f)(hw:swappedStores [.Tuple [.Name x px,.Name y py] kt pt] (.Tuple [a,b] k2 pt2) X.env=pure (some [x,y]))(hs:swapsWithSole [.Tuple [.Name x px,.Name y py] kt pt] (.Tuple [a,b] k2 pt2) pos.line X.env=pure false:=by rfl):GS X XQ (.Assign [.Tuple [.Name x px,.Name y py] kt pt] (.Tuple [a,b] k2 pt2) pos) (spar i j f):=⟨Gw1 i j hc hN hi hj hij hx hy ha.h hw hs⟩
def Wr{ob ix e:Expr}{fi:Ev D}{pos:Pos}(he:GE X XQ e f)(hob:GE X XQ ob fo)(hix:GE X XQ ix fi)(hs:swapsWithSole [.Subscript ob ix p2] e pos.line X.env=pure false:=by rfl)(hw:swappedStores [.Subscript ob ix p2] e X.env=pure none:=by rfl)(h1:(assignEach [.Subscript ob ix p2] X.env).map (·.2)=[assign (.Subscript ob ix p2) X.env]:=by rfl)(ha:∀ v,assign (.Subscript ob ix p2) X.env v=(do
   let ov <- holding [v] (eval ob X.env)
   let iv <- holding [v,ov] (eval ix X.env)
   standAt p2
   holding [v,ov,iv] (setItem ov iv v)
   release [v,ov,iv] []):=by intro _; rfl):GS X XQ (.Assign [.Subscript ob ix p2] e pos) (ss f fo fi Hm):=⟨Gmw he.h hob.h hix.h hs hw h1 ha⟩
def Gae{e:Expr}{pos:Pos}(he:GE X XQ e f)(hs:swapsWith e none pos.line X.env=pure false:=by rfl):GS X XQ (.Expr e pos) (sx f):=⟨Gqo he.h hs⟩
def Zq{f:Ev Src}{g:Tg}{b:Sv}{pos:Pos}(hp:PassesOwn (model X.prog X.w) X.A X.env X.xe)(hc:X.calm=true)(hi:GI X XQ tg iter f)(hg:GG X tg g)(hb:GSs X XQ body b)(hs:∀ x,foldedSetIterable iter X.env x=pure x:=by intro _; rfl):GS X XQ (.For tg iter body [] pos) (sfor f g b):=⟨Gv7 hp hc hi.h hg.h hb.h hs⟩
def Gn4(fuel:Nat){c:Expr}{b:Sv}{pos:Pos}(hp:PassesOwn (model X.prog X.w) X.A X.env X.xe)(hc:GT X XQ c fc)(hb:GSs X XQ body b):GS X XQ (.While c body [] pos) (whN fc b fuel):=⟨Gms fuel hp hc.h hb.h⟩
def Gxu(i:Nat){x:Str}{e:Expr}{pos:Pos}(hN:X.N.Nodup)(h:OkL X.env.scope x)(he:GE X XQ e f)(hi:X.N[i]?=some x:=by rfl)(hf:X.fn x=true:=by rfl):GS X XQ (.AugAssign (.Name x pos') .Add e pos) (sag i (fun a b=>a+b) f):=⟨Gw5 i hN h he.h hi hf⟩
def Gbs{pos:Pos}:GS X XQ (.Continue pos) sct:=⟨Ggk ⟩
def gv(i:Nat){x:Str}{pos:Pos}(h:OkV X.env.scope x)(hN:X.N[i]?=some x:=by rfl):GE X XQ (.Name x pos) (vr i):=⟨jv i h hN⟩
def gvB(i:Nat){s2:BA}{x:Str}{pos:Pos}(h:Gm7 scope x=true)(hN:N'[i]?=some x:=by rfl):GE (blk X s2 H2 C scope c N' fp) XQ (.Name x pos) (vr i):=⟨jvB i h hN⟩
def gown{x:Str}{pos:Pos}{e:Expr}(C:Cal X.prog X.w X.K X.mg X.base x ps fn j)(hr:Room k X.A)(hg:Gl X x)(hp:Gw x=true)(ha:GA X XQ (e::es) t)(hn:ps.length=n:=by rfl)(hj:j<=k:=by decide)(he:starEach (e::es) X.env=(false,eval e X.env)::starEach es X.env:=by rfl)(hpl:(backTo pos (starEach es X.env)).any (·.1)=false:=by rfl):GE X XQ (.Call (.Name x p) (e::es) [] pos) (cl n (Gi fn) t):=⟨jown C hr hg hp ha.h hn hj he hpl⟩
def gcomp{sc:Scope}{pos:Pos}{pk:List (BC Nat)}{f:Ev Src}{g:Tg}{t:Ev Bool}{e:Ev D}(hsc:X.env.scope=sc)(hNN:X.N=N)(ct:CompTab sc scope N N' pk)(hcm:X.calm=true)(hi:GI X XQ tg iter f)(hg:∀ cl s2 H2 C fp,GG (blk X s2 H2 C scope cl N' fp) tg g)(ht:∀ cl s2 H2 C fp,GTs (blk X s2 H2 C scope cl N' fp) XN ifs t)(he:∀ cl s2 H2 C fp,GE (blk X s2 H2 C scope cl N' fp) XN elt e)(hs:∀ x,foldedSetIterable iter X.env x=pure x:=by intro _; rfl):GE X XQ (.ListComp elt [⟨tg,iter,ifs,0⟩] scope pos) (cmp f pk g t e):=⟨jcomp hsc hNN ct hcm hi.h (fun z0 z1 z2 z3 z4=>(hg z0 z1 z2 z3 z4).h) (fun z0 z1 z2 z3 z4=>(ht z0 z1 z2 z3 z4).h) (fun z0 z1 z2 z3 z4=>(he z0 z1 z2 z3 z4).h) hs⟩
def Xg{Y:Cx}:GTs Y XQ [] ttrue:=⟨Gqu ⟩
def Gjm{Y:Cx}{c:Expr}{t:Ev Bool}(h:GT Y XQ c t):GTs Y XQ [c] t:=⟨Gqv h.h⟩
def GW.jt{e:Expr}{f:Ev Bool}(h:GW X XQ e f):GT X XQ e f:=⟨JW.jt h.h⟩
noncomputable def Grx:Stmt->List Stmt
 | .ClassDef _ _ _ b _ _ _ _ _ _ _=>b
 | _=>[]
section
variable{X:Cx}{XQ:XW}{k:Nat}{x:Str}{p pos:Pos}{e:Expr}{es:List Expr}
def Haw{ys:List Str}(xs:XNs X.K ys)(L:XL X XQ)(C:CalX X.prog X.w X.K X.mg X.base x ps fn j)(hr:Room k X.A)(hg:Gl X x)(hp:Gw x=true)(ha:GA X XQ (e::es) t)(hn:ps.length=n:=by rfl)(hj:j<=k:=by decide)(he:starEach (e::es) X.env=(false,eval e X.env)::starEach es X.env:=by rfl)(hpl:(backTo pos (starEach es X.env)).any (·.1)=false:=by rfl):
  GE X XQ (.Call (.Name x p) (e::es) [] pos) (cl n (gX ys fn) t):=⟨Ham xs L C hr hg hp ha.h hn hj he hpl⟩
def Gn5{pos:Pos}(L:XL X XQ)(hcm:X.calm=true)(C:ClX X.prog X.w X.K X.mg X.base x j)(hr:Room k X.A)(hg:Gl X x)(hp:Gw x=true)(ha:GA X XQ [a] t)(hj:j+1<=k:=by decide)(he:starEach [a] X.env=(false,eval a X.env)::starEach [] X.env:=by rfl)(hpl:(backTo cpos (starEach [] X.env)).any (·.1)=false:=by rfl):
  GS X XQ (.Raise (some (.Call (.Name x np) [a] [] cpos)) none pos) (srs x t):=⟨Gnj L hcm C hr hg hp ha.h hj he hpl⟩
def Gry(i:Nat){c n:Str}{pos:Pos}{ys:List Str}{fb:Sv}(pl:Plain X)(ct:Cat X.K X.mg c ys)(hg:Gl X c)(hp:Gw c=true)(hN:X.N.Nodup)(hn:OkC X.env.scope n)(hb:∀ (pn:List (BB×Obj)) (xe:Bz->BA->Prop) (XQ':XW),XL (trb X pn xe) XQ'->GSs (trb X pn xe) XQ' body fb)(hs:∀ a,GSs (hnd X a) XN (b0::suite) fh)(hi:X.N[i]?=some n:=by rfl):
  GS X XQ (.Try body [.ExceptHandler (some (.Name c np)) (some n) (b0::suite) hpos] [] [] pos) (Wp ys (hdl i fh) fb):=⟨Grq pl ct hg hp hN hi hn.h (fun a b c d=>(hb a b c d).h) fun a=>(hs a).h⟩
def Grz{c:Str}{pos:Pos}{ys:List Str}{fb:Sv}(pl:Plain X)(ct:Cat X.K X.mg c ys)(hg:Gl X c)(hp:Gw c=true)(hb:∀ (pn:List (BB×Obj)) (xe:Bz->BA->Prop) (XQ':XW),XL (trb X pn xe) XQ'->GSs (trb X pn xe) XQ' body fb)(hs:∀ a,GSs (hnd X a) XN (b0::suite) fh):
  GS X XQ (.Try body [.ExceptHandler (some (.Name c np)) none (b0::suite) hpos] [] [] pos) (Wp ys (Grp fh) fb):=⟨Grr pl ct hg hp (fun a b c d=>(hb a b c d).h) fun a=>(hs a).h⟩
end
structure FH(K:By)(x:Str)(st:Stmt):Prop where
 ex:∃ (f:BB) (oc:Bz) (od an:BC BB) (osl:Array (BC Bz)) (kV doc pm cdv ct:Bz),PySem.W.nsIn K mainGlobals x=some (some (.ref f))/\K.lookup f=some ⟨oc,od,.func (PySem.W.fnOf x x (Hz st) (Hb st) (Gc st) .none kV doc pm an cdv ct),osl⟩/\PySem.W.codeIn K cdv x=true/\PySem.W.keepIn K (.ref f)=true
section
variable{K:By}{mg:Str->BC Bz}
def Hax{x:Str}{f:BB}{oc:Bz}{an:BC BB}{kV:Bz}(a:PySem.W.nsIn K mainGlobals x=some (some (.ref f)))(l:K.lookup f=some ⟨oc,od,.func (PySem.W.fnOf x x (Hz st) (Hb st) (Gc st) .none kV doc pm an cdv ct),osl⟩)(c:PySem.W.codeIn K cdv x=true)(k:PySem.W.keepIn K (.ref f)=true):FH K x st:=⟨f,oc,od,an,osl,kV,doc,pm,cdv,ct,a,l,c,k⟩
def FH.dn{x:Str}(F:FH K x st)(X:K.In h)(G:h.Ns mainGlobals mg)(hb:∀ (kV doc pm:Bz) (an:BC BB) (cdv ct:Bz) (us:List Bz),us.length=ps.length->bindArgs (PySem.W.fnOf x x (Hz st) (Hb st) (Gc st) .none kV doc pm an cdv ct) ⟨us,[]⟩=pure (ps.zip us)):Dn K mg x st ps:=by
 obtain⟨f,oc,od,an,osl,kV,doc,pm,cdv,ct,a,l,c,k⟩:=F.ex
 exact Hag X G a l c k hb
def FH.fv{x:Str}(F:FH K x st)(X:K.In h)(G:h.Ns mainGlobals mg):FvT K mg x:=by
 obtain⟨f,oc,od,an,osl,kV,doc,pm,cdv,ct,a,l,c,k⟩:=F.ex
 exact⟨f,a,PySem.W.mg_of X G a⟩
end
section
variable{K:By}{h:Heap}{mg:Str->BC Bz}{x:Str}
def Gr0{t:Tok}(X:K.In h)(G:h.Ns mainGlobals mg)(a:PySem.W.nsIn K mainGlobals x=some (some (.str y t))):∃ u v,mg x=some u/\Hf v u/\∀ mp H,Rep K mp H (.str y) v:=
 ⟨_,.str y,PySem.W.mg_of X G a,⟨t,rfl⟩,fun _ _=>rfl⟩
def Gn6{p:BB}{t:Tok}{sl:Array (BC Bz)}(X:K.In h)(G:h.Ns mainGlobals mg)(a:PySem.W.nsIn K mainGlobals x=some (some (.ref p)))(l:K.lookup p=some { cls:=.type "tuple",dict:=none,data:=.seq #[.str y t] n,slots:=sl }):
  ∃ u v,mg x=some u/\Hf v u/\∀ mp H,Rep K mp H (.tup [.str y]) v:=
 ⟨_,.ref p,PySem.W.mg_of X G a,rfl,fun _ _=>⟨p,[.str y],rfl,.inr ⟨_,_,n,l,rfl,rfl,by rw[sizeLine_eq]; simp,.cons ⟨t,rfl⟩ .nil⟩,RepL.cons rfl RepL.nil⟩⟩
end
structure FnS(N P:List Str)(sc:Scope):Prop where
 s:FnScope N P sc
 v:N.all (okV sc)=true
 l:N.all (okL sc)=true
def kdF{P:List Str}{s:Scope}(a:s.kind=.function:=by rfl)(b:s.isCoroutine=false:=by rfl)(c:s.isGenerator=false:=by rfl)(d:N.Nodup:=by decide +kernel)(e:N.take P.length=P:=by rfl)(f:∀ x∈P,s.names.lookup x=some .local\/s.names.lookup x=some .cell:=by decide +kernel)(g:∀ y∈s.names,y.2≠.free:=by decide +kernel)(v:N.all (okV s)=true:=by decide +kernel)(l:N.all (okL s)=true:=by decide +kernel):FnS N P s:=⟨⟨a,b,c,d,e,f,g⟩,v,l⟩
def FnS.nd{P:List Str}{sc:Scope}(S:FnS N P sc):N.Nodup:=S.s.nd
def Gn7{i:Nat}{x:Str}(h:N[i]?=some x):x∈N:=Ap h
def FnS.ov{P:List Str}{sc:Scope}{i:Nat}{x:Str}(S:FnS N P sc)(h:N[i]?=some x):OkV sc x:=⟨AJ.mp S.v x (Gn7 h)⟩
def FnS.ol{P:List Str}{sc:Scope}{i:Nat}{x:Str}(S:FnS N P sc)(h:N[i]?=some x):OkL sc x:=⟨AJ.mp S.l x (Gn7 h)⟩
def kdC{sc:Scope}{pk:List (BC Nat)}(a:scope.kind=.function:=by rfl)(b:∀ y∈scope.names,y.2=.cell->scope.names.lookup y.1=some .cell:=by decide +kernel)(c:∀ y∈scope.names,y.2=.local->scope.names.lookup y.1=some .local:=by decide +kernel)(d:∀ y∈scope.names,y.2=.free->sc.names.lookup y.1=some .cell\/sc.names.lookup y.1=some .free:=by decide +kernel)(e:pk.length=N'.length:=by rfl)(f:((List.range N'.length).all fun i=>match pk[i]? with
  | some (some j)=>match N[j]?,N'[i]? with
   | some x,some y=>(x==y)&&((sc.names.lookup y==some NameKind.cell)||(sc.names.lookup y==some NameKind.free))&&(scope.names.lookup y==some NameKind.free)
   | _,_=>false
  | _=>true)=true:=by decide +kernel):CompTab sc scope N N' pk:=⟨a,b,c,d,e,f⟩
section
variable{X:Cx}{XQ:XW}{k:Nat}{x:Str}{p pos:Pos}{e:Expr}{es:List Expr}{P:List Str}{f:Ev D}
def gw(i:Nat)(S:FnS X.N P X.env.scope)(hN:X.N[i]?=some x:=by rfl):GE X XQ (.Name x pos) (vr i):=gv i (S.ov hN) hN
def gG(s:Scope)(h:okG s x=true:=by decide +kernel)(hs:X.env.scope=s:=by rfl):Gl X x:=gl ⟨hs▸h⟩
def ggw(i:Nat)(S:FnS X.N P X.env.scope)(hi:X.N[i]?=some x:=by rfl)(hf:X.fn x=true:=by rfl):GG X (.Name x pos) (gn i):=ggn i S.nd (S.ol hi) hi hf
def gsew(i:Nat)(S:FnS X.N P X.env.scope)(he:GE X XQ e f)(hi:X.N[i]?=some x:=by rfl)(hs:swapsWith e (some (.Name x pos')) pos.line X.env=pure false:=by rfl)(hf:X.fn x=true:=by rfl):
  GS X XQ (.Assign [.Name x pos'] e pos) (sa f (gn i)):=gset i S.nd (S.ol hi) he hi hs hf
def gsiw(i:Nat)(S:FnS X.N P X.env.scope)(he:GE X XQ e f)(hi:X.N[i]?=some x:=by rfl)(hf:X.fn x=true:=by rfl):GS X XQ (.AugAssign (.Name x pos') .Add e pos) (sag i (fun a b=>a+b) f):=Gxu i S.nd (S.ol hi) he hi hf
def gow(s:Scope)(C:Cal X.prog X.w X.K X.mg X.base x ps fn j)(hr:Room k X.A)(ha:GA X XQ (e::es) t)(hg:okG s x=true:=by decide +kernel)(hn:ps.length=n:=by rfl)(hj:j<=k:=by decide)(hs:X.env.scope=s:=by rfl)(he:starEach (e::es) X.env=(false,eval e X.env)::starEach es X.env:=by rfl)(hpl:(backTo pos (starEach es X.env)).any (·.1)=false:=by rfl):
  GE X XQ (.Call (.Name x p) (e::es) [] pos) (cl n (Gi fn) t):=gown C hr (gG s hg hs) (okG.gl hg).2 ha hn hj he hpl
def Gr1{ys:List Str}(s:Scope)(xs:XNs X.K ys)(L:XL X XQ)(C:CalX X.prog X.w X.K X.mg X.base x ps fn j)(hr:Room k X.A)(ha:GA X XQ (e::es) t)(hg:okG s x=true:=by decide +kernel)(hn:ps.length=n:=by rfl)(hj:j<=k:=by decide)(hs:X.env.scope=s:=by rfl)(he:starEach (e::es) X.env=(false,eval e X.env)::starEach es X.env:=by rfl)(hpl:(backTo pos (starEach es X.env)).any (·.1)=false:=by rfl):
  GE X XQ (.Call (.Name x p) (e::es) [] pos) (cl n (gX ys fn) t):=Haw xs L C hr (gG s hg hs) (okG.gl hg).2 ha hn hj he hpl
def Hay(i:Nat){ys:List Str}(S:FnS X.N P X.env.scope)(xs:XNs X.K ys)(L:XL X XQ)(C:CalX X.prog X.w X.K X.mg X.base x ps fn j)(hr:Room k X.A)(ha:GA X XQ (e::es) t)(hj:j<=k:=by decide)(hN:X.N[i]?=some y:=by rfl)(he:starEach (e::es) X.env=(false,eval e X.env)::starEach es X.env:=by rfl)(hpl:(backTo pos (starEach es X.env)).any (·.1)=false:=by rfl):GE X XQ (.Call (.Name y p) (e::es) [] pos) (clv i x ps.length (gX ys fn) t):=Gnt i xs L C hr hj hN (okV.vis (S.ov hN).h).1 (okV.vis (S.ov hN).h).2 ha he hpl
def Ggu(s:Scope)(L:XL X XQ)(C:ClX X.prog X.w X.K X.mg X.base x j)(hr:Room k X.A)(ha:GA X XQ [a] t)(hg:okG s x=true:=by decide +kernel)(hcm:X.calm=true:=by rfl)(hj:j+1<=k:=by decide)(hs:X.env.scope=s:=by rfl)(he:starEach [a] X.env=(false,eval a X.env)::starEach [] X.env:=by rfl)(hpl:(backTo cpos (starEach [] X.env)).any (·.1)=false:=by rfl):
  GS X XQ (.Raise (some (.Call (.Name x np) [a] [] cpos)) none pos) (srs x t):=Gn5 L hcm C hr (gG s hg hs) (okG.gl hg).2 ha hj he hpl
def Uw{ys:List Str}(s:Scope)(k:Isx X.K X.mg x ys sub)(hm:X.mg "isinstance"=none)(he:GE X XQ e f)(hg:okG s "isinstance"=true:=by decide +kernel)(hg2:okG s x=true:=by decide +kernel)(h0:X.env.scope=s:=by rfl)(hs:starEach [e,.Name x p2] X.env=(false,eval e X.env)::starEach [.Name x p2] X.env:=by rfl)(hpl:(backTo pos (starEach [.Name x p2] X.env)).any (·.1)=false:=by rfl)(hs2:starEach [.Name x p2] X.env=(false,eval (.Name x p2) X.env)::starEach [] X.env:=by rfl):GE X XQ (.Call (.Name "isinstance" p) [e,.Name x p2] [] pos) (o1 (Kt ys sub) f):=Gxo k (gG s hg h0) hm (gG s hg2 h0) (okG.gl hg2).2 he hs hpl hs2
def Gxv{ys:List Str}(s:Scope)(k:IsxB X.K T ys sub)(hm:X.mg "isinstance"=none)(hmt:X.mg x=none)(he:GE X XQ e f)(hv:bootBuiltins x=some (.type T):=by rfl)(hnx:x≠"__name__":=by decide +kernel)(hg:okG s "isinstance"=true:=by decide +kernel)(hg2:okG s x=true:=by decide +kernel)(h0:X.env.scope=s:=by rfl)(hs:starEach [e,.Name x p2] X.env=(false,eval e X.env)::starEach [.Name x p2] X.env:=by rfl)(hpl:(backTo pos (starEach [.Name x p2] X.env)).any (·.1)=false:=by rfl)(hs2:starEach [.Name x p2] X.env=(false,eval (.Name x p2) X.env)::starEach [] X.env:=by rfl):GE X XQ (.Call (.Name "isinstance" p) [e,.Name x p2] [] pos) (o1 (Kt ys sub) f):=Grt k hv hnx (gG s hg h0) hm (gG s hg2 h0) hmt (okG.gl hg2).2 he hs hpl hs2
def Gba(g1:Gl X "isinstance")(g2:Gl X x)(k:Kit X.K T)(hm:X.mg "isinstance"=none)(hmt:X.mg x=none)(he:GE X XQ e f)(hv:bootBuiltins x=some (.type T):=by rfl)(hnx:x≠"__name__":=by decide +kernel)(hdx:(x==("__debug__":Str))=false:=by decide +kernel)(hs:starEach [e,.Name x p2] X.env=(false,eval e X.env)::starEach [.Name x p2] X.env:=by rfl)(hpl:(backTo pos (starEach [.Name x p2] X.env)).any (·.1)=false:=by rfl)(hs2:starEach [.Name x p2] X.env=(false,eval (.Name x p2) X.env)::starEach [] X.env:=by rfl):GE X XQ (.Call (.Name "isinstance" p) [e,.Name x p2] [] pos) (o1 (isD T) f):=Gxs k hv hnx hdx g1 hm g2 hmt he hs hpl hs2
def Gt3{sc:Scope}{pk:List (BC Nat)}{f:Ev Src}{g:Tg}{t:Ev Bool}{e:Ev D}(S:FnS N P sc)(hi:GI X XQ tg iter f)(hg:∀ cl s2 H2 C fp,GG (blk X s2 H2 C scope cl N' fp) tg g)(ht:∀ cl s2 H2 C fp,GTs (blk X s2 H2 C scope cl N' fp) XN ifs t)(he:∀ cl s2 H2 C fp,GE (blk X s2 H2 C scope cl N' fp) XN elt e)(ct:CompTab sc scope N N' pk:=by exact kdC)(hsc:X.env.scope=sc:=by rfl)(hNN:X.N=N:=by rfl)(hcm:X.calm=true:=by rfl)(hs:∀ x,foldedSetIterable iter X.env x=pure x:=by intro _; rfl):GE X XQ (.ListComp elt [⟨tg,iter,ifs,0⟩] scope pos) (cmp f pk g t e):=gcomp hsc hNN ct hcm hi hg ht he hs
def Gc0(i:Nat){sc:Scope}{pk:List (BC Nat)}{f:Ev Src}{g:Tg}{t:Ev Bool}{e:Ev D}(S:FnS N P sc)(hi:GI X XQ tg iter f)(hg:∀ cl s2 H2 C fp,GG (blk X s2 H2 C scope cl N' fp) tg g)(ht:∀ cl s2 H2 C fp,GTs (blk X s2 H2 C scope cl N' fp) XN ifs t)(he:∀ cl s2 H2 C fp,GE (blk X s2 H2 C scope cl N' fp) XN elt e)(ct:CompTab sc scope N N' pk:=by exact kdC)(hsc:X.env.scope=sc:=by rfl)(hNN:X.N=N:=by rfl)(hcm:X.calm=true:=by rfl)(hsw:swapsWith (.ListComp elt [⟨tg,iter,ifs,0⟩] scope pos) (some (.Name y py)) spos.line X.env=pure true:=by rfl)(hy:N[i]?=some y:=by rfl)(hs:∀ x,foldedSetIterable iter X.env x=pure x:=by intro _; rfl)(hf:X.fn y=true:=by rfl):GS X XQ (.Assign [.Name y py] (.ListComp elt [⟨tg,iter,ifs,0⟩] scope pos) spos) (sa (cmp f pk g t e) (gn i)):=
 Gn2 i hsc hNN ct hcm hi hg ht he (hNN▸S.nd) (hsc▸S.ol hy) hsw (hNN▸hy) hs hf
section
variable{s2:BA}{H2:Hp}{C:BB}{scope:Scope}{c:List (Str×BB)}{N':List Str}{fp:List BB}
def Zc(i:Nat)(h:Gm7 scope x=true:=by decide +kernel)(hN:N'[i]?=some x:=by rfl):GE (blk X s2 H2 C scope c N' fp) XQ (.Name x pos) (vr i):=gvB i h hN
def glB_w(h:okG scope x=true:=by decide +kernel):Gl (blk X s2 H2 C scope c N' fp) x:=glB h
def Gaf(i:Nat)(h:Grf scope x=true:=by decide +kernel)(hN:N'.Nodup:=by decide +kernel)(hi:N'[i]?=some x:=by rfl):GG (blk X s2 H2 C scope c N' fp) (.Name x pos) (gn i):=Hcv i hN h hi
def Haz(Q:Cal X.prog X.w X.K X.mg X.base x ps fn j)(hr:Room k X.A)(ha:GA (blk X s2 H2 C scope c N' fp) XQ (e::es) t)(hg:okG scope x=true:=by decide +kernel)(hn:ps.length=n:=by rfl)(hj:j<=k:=by decide)(he:starEach (e::es) (blk X s2 H2 C scope c N' fp).env=(false,eval e (blk X s2 H2 C scope c N' fp).env)::starEach es (blk X s2 H2 C scope c N' fp).env:=by rfl)(hpl:(backTo pos (starEach es (blk X s2 H2 C scope c N' fp).env)).any (·.1)=false:=by rfl):
  GE (blk X s2 H2 C scope c N' fp) XQ (.Call (.Name x p) (e::es) [] pos) (cl n (Gi fn) t):=gown (X:=blk X s2 H2 C scope c N' fp) Q hr (glB hg) (okG.gl hg).2 ha hn hj he hpl
end
end
section
variable{P:BD}{w:World}{K:By}{mg:Str->BC Bz}{base:Heap}{x:Str}{st:Stmt}{ps N:List Str}{fn:Fn}
abbrev GH(K:By)(mg:Str->BC Bz):Prop:=∃ h:Heap,K.In h/\h.Ns mainGlobals mg
def calw{b:Sv}(k:Nat)(F:FH K x st)(g:GH K mg)(S:FnS N ps (Gc st))(hfn:fn=fnB N.length b)
  (hb:∀ (f:BB) (cdv:Bz) (A:Around) (outer:List PySem.Env) (s:BA) (H:Hp) (E:XK),Room k (A.deeper (envOfC x (Gc st) s.heap.objs.size f cdv))→
   JSs (Qy CX0 P w K mg base N x (Gc st) f cdv A outer s H E).nox XN (Hb st) b)
  (ha:∀ (kV doc pm:Bz) (an:BC BB) (cdv ct:Bz) (us:List Bz),us.length=ps.length->bindArgs (PySem.W.fnOf x x (Hz st) (Hb st) (Gc st) .none kV doc pm an cdv ct) ⟨us,[]⟩=pure (ps.zip us):=by first | exact(fun _ _ _ _ _ _ us hl=>match us,hl with | [_],_=>rfl) | exact(fun _ _ _ _ _ _ us hl=>match us,hl with | [_,_],_=>rfl) | exact(fun _ _ _ _ _ _ us hl=>match us,hl with | [_,_,_],_=>rfl) | exact(fun _ _ _ _ _ _ us hl=>match us,hl with | [_,_,_,_],_=>rfl) | exact(fun _ _ _ _ _ _ us hl=>match us,hl with | [_,_,_,_,_],_=>rfl) | exact(fun _ _ _ _ _ _ us hl=>match us,hl with | [_,_,_,_,_,_],_=>rfl)):Cal P w K mg base x ps fn (k+1):=
 let ⟨_,X,G⟩:=g; Gw2 N k b hfn (F.dn X G ha) S.s hb
def calxw{b:Sv}(k:Nat)(F:FH K x st)(g:GH K mg)(S:FnS N ps (Gc st))(hfn:fn=fnB N.length b)
  (hb:∀ (f:BB) (cdv:Bz) (A:Around) (outer:List PySem.Env) (s:BA) (H:Hp) (E:XK) (XQ:XW),Room k (A.deeper (envOfC x (Gc st) s.heap.objs.size f cdv))->XL (Qy (CXe P w) P w K mg base N x (Gc st) f cdv A outer s H E) XQ→
   JSs (Qy (CXe P w) P w K mg base N x (Gc st) f cdv A outer s H E) XQ (Hb st) b)
  (ha:∀ (kV doc pm:Bz) (an:BC BB) (cdv ct:Bz) (us:List Bz),us.length=ps.length->bindArgs (PySem.W.fnOf x x (Hz st) (Hb st) (Gc st) .none kV doc pm an cdv ct) ⟨us,[]⟩=pure (ps.zip us):=by first | exact(fun _ _ _ _ _ _ us hl=>match us,hl with | [_],_=>rfl) | exact(fun _ _ _ _ _ _ us hl=>match us,hl with | [_,_],_=>rfl) | exact(fun _ _ _ _ _ _ us hl=>match us,hl with | [_,_,_],_=>rfl) | exact(fun _ _ _ _ _ _ us hl=>match us,hl with | [_,_,_,_],_=>rfl) | exact(fun _ _ _ _ _ _ us hl=>match us,hl with | [_,_,_,_,_],_=>rfl) | exact(fun _ _ _ _ _ _ us hl=>match us,hl with | [_,_,_,_,_,_],_=>rfl)):CalX P w K mg base x ps fn (k+1):=
 let ⟨_,X,G⟩:=g; Grn N k b hfn (F.dn X G ha) S.s hb
def FH.fnx{f:BB}(F:FH K x st)(X:K.In h)(G:h.Ns mainGlobals mg)(hm:mg x=some (.ref f)):∃ od an osl kV doc pm cdv ct,∃ oc:Bz,PySem.W.keepIn K (.ref f)=true/\PySem.W.codeIn K cdv x=true/\K.lookup f=some ⟨oc,od,.func (PySem.W.fnOf x x (Hz st) (Hb st) (Gc st) .none kV doc pm an cdv ct),osl⟩:=by
 obtain⟨f',oc,od,an,osl,kV,doc,pm,cdv,ct,a,l,c,k⟩:=F.ex
 have e:=hm.symm.trans (PySem.W.mg_of X G a)
 cases e
 exact⟨od,an,osl,kV,doc,pm,cdv,ct,oc,k,c,l⟩
end
def Gdt(neg:Bool)(x y:D)(S:Sto):Out D:=match toP S 40 x,toP S 40 y with
 | some p,some (.list l)=>if(SeqAt.shaped p&&SeqAt.shaped (.list l))=true then .ok (.bl (if neg=true then !(l.any fun z=>PyData.eqv z p) else l.any fun z=>PyData.eqv z p)) S else .bad
 | some p,some (.tuple l)=>if(SeqAt.shaped p&&SeqAt.shaped (.tuple l))=true then .ok (.bl (if neg=true then !(l.any fun z=>PyData.eqv z p) else l.any fun z=>PyData.eqv z p)) S else .bad
 | _,_=>.bad
abbrev inP:=Gdt false
abbrev Gr2:=Gdt true
section
variable{X:Cx}{XQ:XW}{a b:Expr}{fa fb:Ev D}{pos:Pos}
def Gn8(neg:Bool)(hu:X.A.units+65<cLine):OpX X (compareOp (if neg=true then .NotIn else .In)) (Gdt neg):=by
 intro pins s σ ρ XQ mp H S x y v u vv uv Q I rs rx ry rv ru p _
 unfold Gdt at p
 cases z1:toP S 40 x with
 | none=>simp only[z1] at p; exact p.elim
 | some a=>
  cases z2:toP S 40 y with
  | none=>simp only[z1,z2] at p; exact p.elim
  | some b=>
   simp only[z1,z2] at p
   obtain⟨as,ra⟩:=Zn I rs 40 x v vv a rx rv z1
   obtain⟨bs,rb⟩:=Zn I rs 40 y u uv b ry ru z2
   cases b with
   | list l=>
    simp only at p
    by_cases hs:(SeqAt.shaped a&&SeqAt.shaped (.list l))=true
    ·rw[if_pos hs] at p
     rw[Aq] at hs
     cases neg
     ·exact SeqAt.in_list_reads rb ra (SeqAt.canLay_of_shaped hs.2) (SeqAt.canLay_of_shaped hs.1) (room_in_shaped hs.1 hu) ⟨.bl _,H,I,rfl,Gj.ok (R:=Rep X.K) p rs rfl⟩
     ·exact SeqAt.notIn_list_reads rb ra (SeqAt.canLay_of_shaped hs.2) (SeqAt.canLay_of_shaped hs.1) (room_in_shaped hs.1 hu) ⟨.bl _,H,I,rfl,Gj.ok (R:=Rep X.K) p rs rfl⟩
    ·rw[if_neg hs] at p; exact p.elim
   | tuple l=>
    simp only at p
    by_cases hs:(SeqAt.shaped a&&SeqAt.shaped (.tuple l))=true
    ·rw[if_pos hs] at p
     rw[Aq] at hs
     cases neg
     ·exact SeqAt.in_tuple_reads rb ra (SeqAt.canLay_of_shaped hs.2) (SeqAt.canLay_of_shaped hs.1) (room_in_shaped hs.1 hu) ⟨.bl _,H,I,rfl,Gj.ok (R:=Rep X.K) p rs rfl⟩
     ·exact SeqAt.notIn_tuple_reads rb ra (SeqAt.canLay_of_shaped hs.2) (SeqAt.canLay_of_shaped hs.1) (room_in_shaped hs.1 hu) ⟨.bl _,H,I,rfl,Gj.ok (R:=Rep X.K) p rs rfl⟩
    ·rw[if_neg hs] at p; exact p.elim
   | _=>exact p.elim
def Gn9(neg:Bool)(x y:D)(S:Sto)(e:XD)(S':Sto):Gdt neg x y S≠.exc e S':=by
 unfold Gdt
 split
 ·split<;>exact fun z=>nomatch z
 ·split<;>exact fun z=>nomatch z
 ·exact fun z=>nomatch z
def Goa(hr:Room k X.A)(ha:GE X XQ a fa)(hb:GE X XQ b fb)(hm:behindInMarks .In b=false:=by rfl):GT X XQ (.Compare a [.In] [b] pos) (tb (o2 inP fa fb)):=⟨Gcr (Gn8 false (by have:=hr.un; omega)) (Gn9 false) ha.h hb.h hm⟩
def Gjn(hr:Room k X.A)(ha:GE X XQ a fa)(hb:GE X XQ b fb)(hm:behindInMarks .NotIn b=false:=by rfl):GT X XQ (.Compare a [.NotIn] [b] pos) (tb (o2 Gr2 fa fb)):=⟨Gcr (Gn8 true (by have:=hr.un; omega)) (Gn9 true) ha.h hb.h hm⟩
end
section
variable{X:Cx}{XQ:XW}
noncomputable def Gif(x:D)(xs:List D)(S:Sto):Out D:=match x,xs with
 | .lst k,[]=>match S[k]? with
  | some c=>if c.fz=false then .ok .non (S.set k ⟨false,[]⟩) else .bad
  | none=>.bad
 | _,_=>.bad
def Gxw:MeD K Gmg Gif:=by
 intro XQ σ ρ mp H S x xs v vs Q rs rx r p
 unfold Gif at p
 split at p
 ·rename_i k
  split at p
  ·rename_i c zc
   by_cases hc:c.fz=false
   ·rw[if_pos hc] at p
    cases (show vs=[] from r)
    obtain⟨a,ys,rfl,ha,sq,q,f⟩:=rs.items rx zc
    have hH:=f hc
    obtain⟨af,rs'⟩:=rs.setL ha zc hc hH RepL.nil
    exact⟨a,ys,rfl,rfl,hH,p mp _ _ af rs' rfl⟩
   ·rw[if_neg hc] at p; exact p.elim
  ·exact p.elim
 ·exact p.elim
def mt0(o:D->List D->Sto->Out D)(fo:Ev D):Ev D:=fun ρ S=>(fo ρ S).bind fun x S1=>if isLst x S1=true then o x [] S1 else .bad
def Gob(ho:GE X XQ o fo)(hbase:attributeBase o "clear" X.env (eval o X.env)=eval o X.env:=by rfl)(hline:(apos.endLine==cpos.line)=true:=by rfl):
  GE X XQ (.Call (.Attribute o "clear" apos) [] [] cpos) (mt0 Gif fo):=⟨by
 refine PE.mono (Gvl PySem.F.plainAttrs_list PySem.F.slot_list_clear PySem.F.type_list_clear Gmh ho.h hbase hline) fun σ H Q ⟨mp,ρ,S,G,p⟩=>?_
 refine bindP G p fun mp1 H1 x S1 v a1 G1 r1 p1=>?_
 by_cases hl:isLst x S1=true
 ·rw[if_pos hl] at p1
  have ty:tyV X.K "list" v H1:=by
   cases x with
   | lst i=>
    cases zc:S1[i]? with
    | none=>simp[isLst,zc] at hl
    | some c=>
     obtain⟨a,xs,rfl,_,sq,_⟩:=G1.rs.items r1 zc
     exact .inl ⟨rfl,xs,sq⟩
   | _=>simp[isLst] at hl
  exact⟨ty,Gxw XQ σ ρ mp1 H1 S1 x [] v [] Q G1.rs r1 RepL.nil p1⟩
 ·rw[if_neg hl] at p1; exact p1.elim⟩
@[simp] def Hcw{o:D->List D->Sto->Out D}:mt0 o fo ρ S=(fo ρ S).bind fun x S1=>if isLst x S1=true then o x [] S1 else .bad:=id rfl
end
inductive DP:List (BC Expr)->List Expr->List (Str×D)->Prop
 | nil:DP [] [] []
 | i {k:Str} {i:Int} {j j' p p'} {ks vs l}:DP ks vs l->DP (some (.Constant (.str k) j p)::ks) (.Constant (.int i) j' p'::vs) ((k,.int i)::l)
 | s {k x:Str} {j j' p p'} {ks vs l}:DP ks vs l->DP (some (.Constant (.str k) j p)::ks) (.Constant (.str x) j' p'::vs) ((k,.str x)::l)
def dsub(l:List (Str×D))(fb:Ev D):Ev D:=fun ρ S=>(fb ρ S).bind fun y S1=>match y with
 | .str k=>match l.lookup k with
  | some (.int i)=>.ok (.int i) S1
  | some (.str x)=>.ok (.str x) S1
  | _=>.bad
 | _=>.bad
@[simp] def Hbx{l:List (Str×D)}:dsub l fb ρ S=(fb ρ S).bind fun y S1=>match y with
 | .str k=>match l.lookup k with
  | some (.int i)=>.ok (.int i) S1
  | some (.str x)=>.ok (.str x) S1
  | _=>.bad
 | _=>.bad:=id rfl
inductive Nms(mg:Str->BC Bz):List Str->List BB->Prop
 | nil:Nms mg [] []
 | cons {x:Str} {c:BB} {xs:List Str} {cs:List BB} (h:mg x=some (.ref c)) (t:Nms mg xs cs):Nms mg (x::xs) (c::cs)
structure IsT(K:By)(mg:Str->BC Bz)(xs ys:List Str):Prop where
 ex:∃ cs,Nms mg xs cs/\∀ y∈ys,∃ C,CN K y C/\PySem.W.kitAny K (.ref C) (cs.map Value.ref)=some (decide (y∈xs))
inductive GNs(X:Cx)(s:Scope):List Expr->List Str->Prop
 | nil:GNs X s [] []
 | cons {x:Str} {p:Pos} {es:List Expr} {xs:List Str} (t:GNs X s es xs) (hg:okG s x=true:=by decide +kernel) (hs:starEach (.Name x p::es) X.env=(false,eval (.Name x p) X.env)::starEach es X.env:=by rfl):GNs X s (.Name x p::es) (x::xs)
section
variable{X:Cx}{XQ:XW}
variable{a b:Expr}{fa fb:Ev D}{pos:Pos}
end
section
variable{X:Cx}{pins:List (BB×Obj)}{σ:L2.St}{H:Hp}{s:BA}{mp:List BB}
mutual
theorem Ggv(I:Inv X pins σ H s):∀ (d:D) (v:V) (u:Bz) (κ:NK),Rep X.K mp H d v->Hf v u->nkO d=some κ->∃ as,Reads s.heap u (pk κ) as
 | .int i,v,u,κ,h,r,e=>by
  cases (show v=.int i from h); obtain⟨t,rfl⟩:=(show ∃ t,u=Value.int i t from r)
  simp only[nkO,Option.some.injEq] at e
  subst e
  simp only[pk]
  exact⟨_,.int i t⟩
 | .tup l,v,u,κ,h,r,e=>by
  obtain⟨a,xs,rfl,sq,q⟩:=Rep.tup h
  cases (show u=Value.ref a from r)
  obtain⟨its,rv,⟨o,ho,hc,k,hd⟩,_⟩:=I.tuple sq
  simp only[nkO] at e
  obtain⟨ks,e1,rfl⟩:=Option.map_eq_some_iff.mp e
  obtain⟨as,ra⟩:=readsL_nk I l xs its ks q rv e1
  simp only[pk]
  exact⟨as,.tuple ho hc hd (by simpa using ra)⟩
 | .non,_,_,_,_,_,e=>by simp[nkO] at e
 | .bl _,_,_,_,_,_,e=>by simp[nkO] at e
 | .str _,_,_,_,_,_,e=>by simp[nkO] at e
 | .lst _,_,_,_,_,_,e=>by simp[nkO] at e
 | .exn _ _,_,_,_,_,_,e=>by simp[nkO] at e
 | .fv _,_,_,_,_,_,e=>by simp[nkO] at e
 | .dct _,_,_,_,_,_,e=>by simp[nkO] at e
theorem readsL_nk(I:Inv X pins σ H s):∀ (l:List D) (vs:List V) (us:List Bz) (ks:List NK),RepL X.K mp H l vs->Vals vs us->nkOs l=some ks->∃ as,ReadsAll s.heap us (pks ks) as
 | [],vs,us,ks,h,r,e=>by
  cases (show vs=[] from h); cases r
  simp only[nkOs,Option.some.injEq] at e
  subst e
  simp only[pks]
  exact⟨_,.nil⟩
 | d::l,vs,us,ks,h,r,e=>by
  obtain⟨v,vr,rfl,h1,h2⟩:=(show ∃ v r,vs=v::r/\Rep X.K mp H d v/\RepL X.K mp H l r from h)
  cases r with
  | cons r1 r2=>
   simp only[nkOs] at e
   obtain⟨k,e1,e2⟩:=Option.bind_eq_some_iff.mp e
   obtain⟨q,e3,rfl⟩:=Option.map_eq_some_iff.mp e2
   obtain⟨as,ra⟩:=Ggv I d v _ k h1 r1 e1
   obtain⟨bs,rb⟩:=readsL_nk I l vr _ q h2 r2 e3
   simp only[pks]
   exact⟨_,.cons ra rb⟩
end
end
abbrev KVs:=List (NK×BB×V)
noncomputable def Gc1(kvs:KVs)(κ:NK):BC V:=(kvs.find? fun q=>decide (q.1=κ)).map (·.2.2)
def Gig(kvs:KVs)(κ:NK)(b:BB)(v:V):KVs:=if(Gc1 kvs κ).isSome then kvs.map (fun q=>if q.1=κ then(q.1,q.2.1,v) else q) else kvs++[(κ,b,v)]
def KT:KVs->List (NK×BB×Bz)->Prop:=Paired fun p q=>p.1=q.1/\p.2.1=q.2.1/\Hf p.2.2 q.2.2
def Ggw{q:NK×BB×V}{r:KVs}{κ:NK}(e:q.1=κ):Gc1 (q::r) κ=some q.2.2:=by simp[Gc1,Bq,e]
def Ggx{q:NK×BB×V}{r:KVs}{κ:NK}(e:¬ q.1=κ):Gc1 (q::r) κ=Gc1 r κ:=by simp[Gc1,Bq,e]
def KT.val{kvs:KVs}{xs:List (NK×BB×Bz)}(r:KT kvs xs)(k:NK):Gpy (Gc1 kvs k) ((atKey xs k).map (·.2)):=by
 unfold KT at r
 induction r with
 | nil=>exact True.intro
 | @cons p q ps qs h t ih=>
  obtain⟨h1,_,h2⟩:=h
  by_cases e:p.1=k
  ·have e':q.1=k:=h1.symm.trans e
   have b:atKey (q::qs) k=some q.2:=by simp[atKey,Bq,e']
   rw[Ggw e,b]; exact h2
  ·have e':¬ q.1=k:=fun z=>e (h1.trans z)
   have b:atKey (q::qs) k=atKey qs k:=by simp[atKey,Bq,e']
   rw[Ggx e,b]; exact ih
def Gem{v:BC V}{o:BC Bz}(r:Gpy v o):v.isSome=o.isSome:=by
 cases v<;>cases o<;>first | rfl | exact r.elim
def KT.repl{kvs:KVs}{xs:List (NK×BB×Bz)}(r:KT kvs xs)(k:NK){y:V}{u:Bz}(ry:Hf y u):KT (kvs.map fun q=>if q.1=k then(q.1,q.2.1,y) else q) (xs.map (putAt k u)):=by
 unfold KT at r ⊢
 induction r with
 | nil=>exact .nil
 | @cons p q ps qs h t ih=>
  rw[At,At]
  refine .cons ?_ ih
  obtain⟨h1,h2,h3⟩:=h
  unfold putAt
  by_cases e:p.1=k
  ·rw[if_pos e,if_pos (h1.symm.trans e)]; exact⟨h1,h2,ry⟩
  ·rw[if_neg e,if_neg (fun z=>e (h1.trans z))]; exact⟨h1,h2,h3⟩
def Yf{α β:Type}{F:α->β->Prop}:∀ {l:List α} {m:List β} {a:α} {b:β},Paired F l m->F a b->Paired F (l++[a]) (m++[b])
 | _,_,_,_,.nil,h=>.cons h .nil
 | _,_,_,_,.cons r t,h=>.cons r (Yf t h)
def KT.put{kvs:KVs}{xs:List (NK×BB×Bz)}(r:KT kvs xs)(k:NK){b:BB}{y:V}{u:Bz}(ry:Hf y u):KT (Gig kvs k b y) (storedH xs k b u):=by
 have e:(Gc1 kvs k).isSome=(atKey xs k).isSome:=by rw[Gem (r.val k),Option.isSome_map]
 unfold Gig storedH
 rw[e]
 by_cases q:(atKey xs k).isSome=true
 ·rw[if_pos q,if_pos q]; exact r.repl k ry
 ·rw[if_neg q,if_neg q]; exact Yf r ⟨rfl,rfl,ry⟩
def Ggy(kvs:KVs)(κ:NK)(b:BB)(v:V):(Gig kvs κ b v).length<=kvs.length+1:=by
 unfold Gig
 split<;>simp
def Ggz(K:By)(H:Hp)(κ:NK)(b:BB):Prop:=(pk κ).depth<=8/\∃ mp k,nkO k=some κ/\Rep K mp H k (.ref b)
section
variable{X:Cx}{XQ:XW}{pins:List (BB×Obj)}{σ:L2.St}{H:Hp}{s:BA}
def Ggz.is{κ:NK}{b:BB}(I:Inv X pins σ H s)(k:Ggz X.K H κ b):(nestKind X.prog X.w).is s.heap κ b:=by
 obtain⟨d,mp,k,e,r⟩:=k
 exact⟨Ggv I k _ _ κ r rfl e,d⟩
def Zr{α β:Type}{F:α->β->Prop}:∀ {l:List α} {m:List β} {b:β},Paired F l m->b∈m->∃ a∈l,F a b
 | _,_,_,.nil,h=>by simp at h
 | _,_,_,.cons r t,h=>by
  rcases Ae.mp h with rfl | h
  ·exact⟨_,Aw,r⟩
  ·obtain⟨a,h1,h2⟩:=Zr t h
   exact⟨a,Au _ h1,h2⟩
def Goc{a:BB}{kvs:KVs}(I:Inv X pins σ H s)(e:H a=some (.dT kvs))(ks:∀ q∈kvs,Ggz X.K H q.1 q.2.1):kvs.length<=sizeLine/\(a==sysModules)=false/\∃ xs,KT kvs xs/\s.heap.DictOfH (nestKind X.prog X.w) a xs:=by
 obtain⟨z,y,xs,r,o,es,ep,h1,h2,h3,h4,h5⟩:=(show Kj X.prog X.w H s.heap a (.dT kvs) from I.hok a _ e)
 refine⟨z,y,xs,r,o,es,ep,h1,h2,h3,h4,fun x hx=>?_,h5⟩
 obtain⟨q,hq,e1,e2,_⟩:=Zr r hx
 rw[<- e1,<- e2]
 exact(ks q hq).is I
def God(K:By):Gk1:=fun o i v H Q=>∃ a b κ kvs,o=.ref a/\i=.ref b/\H a=some (.dT kvs)/\(∀ q∈kvs,Ggz K H q.1 q.2.1)/\Ggz K H κ b/\kvs.length<sizeLine/\Q (upd H a (.dT (Gig kvs κ b v)))
def Goe(hu:X.A.units+20<cLine):Gp2 X (God X.K):=by
 intro pins s σ H o i v ov iv u Q I ro ri rv h
 obtain⟨a,b,κ,kvs,rfl,rfl,ea,ks,kb,hl,q⟩:=h
 cases (show ov=Value.ref a from ro)
 cases (show iv=Value.ref b from ri)
 obtain⟨hz,hd,xs,rel,dd⟩:=Goc I ea ks
 have hz':xs.length<=sizeLine:=by rw[<- Paired.length rel]; exact hz
 have hl':=Ggy kvs κ b v
 refine wpAny_setItem_heap (hsz:=hz') (by show X.A.in1.units+10<cLine; first | omega | (simp[Around.in1]; omega)) (kb.is I) dd fun h' dd' hs=>⟨_,?_,q⟩
 obtain⟨o,es,ep,hq,h2,h3,h4,_,h5⟩:=dd'
 exact I.write (x:=a) (e:=a) (by rw[ea]; exact True.intro) (.inl rfl) (fun c q hc z=>(hs.2 c hc).trans z) ⟨o,hq⟩ ⟨by omega,hd,_,rel.put κ rv,o,es,ep,hq,h2,h3,h4,h5⟩
end
noncomputable def dlook(κ:NK):List D->BC D
 | []=>none
 | .tup [k,e]::r=>if nkO k=some κ then some e else dlook κ r
 | _::r=>dlook κ r
noncomputable def drepl(κ:NK)(z:D):D->D
 | .tup [k,e]=>if nkO k=some κ then .tup [k,z] else .tup [k,e]
 | d=>d
def dput(κ:NK)(k z:D)(l:List D):List D:=if(dlook κ l).isSome=true then l.map (drepl κ z) else l++[.tup [k,z]]
noncomputable def Gg0(x:D):BC NK:=match x with
 | .tup l=>match nkO (.tup l) with
  | some κ=>if(pk κ).depth<=8 then some κ else none
  | none=>none
 | _=>none
def Gfe(neg:Bool)(x y:D)(S:Sto):Out D:=match y with
 | .dct i=>match S[i]?,Gg0 x with
  | some c,some κ=>if c.fz=false then .ok (.bl (if neg=true then !(dlook κ c.xs).isSome else(dlook κ c.xs).isSome)) S else .bad
  | _,_=>.bad
 | _=>.bad
def dsetD(x y z:D)(S:Sto):BC Sto:=match x with
 | .dct i=>match S[i]?,Gg0 y with
  | some c,some κ=>if c.fz=false/\c.xs.length<1000000 then some (S.set i ⟨false,dput κ y z c.xs⟩) else none
  | _,_=>none
 | _=>none
noncomputable def dnew:Ev D:=fun _ S=>.ok (.dct S.length) (S++[⟨false,[]⟩])
section
variable{K:By}{mp:List BB}{H:Hp}
def Gjo{x:D}{κ:NK}{v:V}(h:Rep K mp H x v)(e:Gg0 x=some κ):nkO x=some κ/\∃ b,v=.ref b/\Ggz K H κ b:=by
 unfold Gg0 at e
 split at e
 ·rename_i l
  split at e
  ·rename_i κ' z
   split at e
   ·rename_i hd
    cases (Ac e)
    obtain⟨b,xs,rfl,_⟩:=Rep.tup h
    exact⟨z,b,rfl,hd,mp,_,z,h⟩
   ·cases e
  ·cases e
 ·cases e
def Gjp{l:List D}{kvs:KVs}(r:Paired (Gb2 K mp H) l kvs):∀ q∈kvs,Ggz K H q.1 q.2.1:=by
 intro q hq
 obtain⟨d,_,k,e,_,⟨h1,h2⟩,h3,_⟩:=Zr r hq
 exact⟨h2,mp,k,h1,h3⟩
def Gjq{l:List D}{kvs:KVs}(r:Paired (Gb2 K mp H) l kvs)(κ:NK):(dlook κ l).isSome=(Gc1 kvs κ).isSome/\∀ e,dlook κ l=some e->∃ v,Gc1 kvs κ=some v/\Rep K mp H e v:=by
 induction r with
 | nil=>exact⟨rfl,fun e z=>nomatch z⟩
 | @cons d q ds qs h t ih=>
  obtain⟨k,e,rfl,⟨h1,_⟩,_,h3⟩:=h
  by_cases c:q.1=κ
  ·have hc:nkO k=some κ:=by rw[h1,c]
   rw[Ggw c]
   simp only[dlook,hc,if_true]
   exact⟨rfl,fun e' z=>⟨_,rfl,by cases z; exact h3⟩⟩
  ·have hc:¬ nkO k=some κ:=by rw[h1]; exact fun z=>c (Ac z)
   rw[Ggx c]
   simp only[dlook,hc,if_false]
   exact ih
def Gr3{l:List D}{kvs:KVs}{z:D}{w:V}(r:Paired (Gb2 K mp H) l kvs)(κ:NK)(hz:Rep K mp H z w):Paired (Gb2 K mp H) (l.map (drepl κ z)) (kvs.map fun q=>if q.1=κ then(q.1,q.2.1,w) else q):=by
 induction r with
 | nil=>exact .nil
 | @cons d q ds qs h t ih=>
  rw[At,At]
  refine .cons ?_ ih
  obtain⟨k,e,rfl,⟨h1,hd⟩,h2,h3⟩:=h
  by_cases c:q.1=κ
  ·have hc:nkO k=some κ:=by rw[h1,c]
   rw[if_pos c]
   simp only[drepl,hc,if_true]
   exact⟨k,z,rfl,⟨h1,hd⟩,h2,hz⟩
  ·have hc:¬ nkO k=some κ:=by rw[h1]; exact fun z=>c (Ac z)
   rw[if_neg c]
   simp only[drepl,hc,if_false]
   exact⟨k,e,rfl,⟨h1,hd⟩,h2,h3⟩
def Gxx{l:List D}{kvs:KVs}{k z:D}{b:BB}{w:V}{κ:NK}(r:Paired (Gb2 K mp H) l kvs)(hk:nkO k=some κ)(kb:Ggz K H κ b)(hb:Rep K mp H k (.ref b))(hz:Rep K mp H z w):Paired (Gb2 K mp H) (dput κ k z l) (Gig kvs κ b w):=by
 unfold dput Gig
 rw[(Gjq r κ).1]
 by_cases c:(Gc1 kvs κ).isSome=true
 ·rw[if_pos c,if_pos c]; exact Gr3 r κ hz
 ·rw[if_neg c,if_neg c]; exact Yf r ⟨k,z,rfl,⟨hk,kb.1⟩,hb,hz⟩
def RS.pairs{S:Sto}{i:Nat}{c:Cell}{v:V}(r:RS K mp H S)(h:Rep K mp H (.dct i) v)(e:S[i]?=some c)(f:c.fz=false):∃ a kvs,v=.ref a/\mp[i]?=some a/\H a=some (.dT kvs)/\Paired (Gb2 K mp H) c.xs kvs:=by
 obtain⟨a,ev,ea,kvs,hk⟩:=(show ∃ a,v=.ref a/\mp[i]?=some a/\Dcy H a from h)
 rcases r.cell i a c ea e with⟨xs,q,z⟩ | ⟨_,kvs',e',rr⟩
 ·rw[f,if_neg An,hk] at z
  cases z
 ·exact⟨a,kvs',ev,ea,e',rr⟩
def RS.setDc{S:Sto}{i:Nat}{a:BB}{c:Cell}{kvs kvs':KVs}{ds:List D}(r:RS K mp H S)(hi:mp[i]?=some a)(hc:S[i]?=some c)(hf:c.fz=false)(ha:H a=some (.dT kvs))(q:Paired (Gb2 K mp H) ds kvs'):
  Aft K mp H mp (upd H a (.dT kvs'))/\RS K mp (upd H a (.dT kvs')) (S.set i ⟨false,ds⟩):=by
 have af:Aft K mp H mp (upd H a (.dT kvs')):=by
  refine⟨fun _ _ e=>e,fun b ys s=>?_,fun b φ s=>by rw[Gn (Xw s ha (by intro z; cases z))]; exact s,fun j b e n ⟨kvs,z⟩=>?_,fun b ⟨l,z⟩=>?_⟩
  ·rcases s with(s | ⟨ob,s⟩) | s
   ·exact .inl (.inl (by rw[Gn (Xw s ha (by intro z; cases z))]; exact s))
   ·exact .inl (.inr ⟨ob,by rw[Gn (Xw s ha (by intro z; cases z))]; exact s⟩)
   ·exact .inr s
  ·by_cases hb:b=a
   ·subst hb; exact n ⟨_,ha⟩
   ·rw[Gn hb] at z; exact n ⟨_,z⟩
  ·by_cases hb:b=a
   ·subst hb; exact⟨_,Hj⟩
   ·exact⟨l,by rw[Gn hb]; exact z⟩
 refine⟨af,⟨by simp[r.len],fun j b cj e1 e2=>?_,fun j k b cj ck e1 e2 e3 e4 f1 f2=>?_⟩⟩
 ·by_cases hj:j=i
  ·subst hj
   rw[hi] at e1
   cases e1
   rw[Ah (Aa.mp hc).1] at e2
   cases e2
   exact .inr ⟨rfl,kvs',Hj,Paired.mapP q fun _ _ z=>z.aft af⟩
  ·rw[Ad (Ne.symm hj)] at e2
   rcases r.cell j b cj e1 e2 with⟨ys,h1,h2⟩ | ⟨f,l,e,rr⟩
   ·refine .inl ⟨ys,RepL.aft af _ _ h1,?_⟩
    cases z:cj.fz with
    | true=>
     rw[z] at h2
     have h2:SqF K H b ys:=(if_pos rfl).mp h2
     refine(if_pos rfl).mpr ?_
     rcases h2 with⟨ob,s⟩ | s
     ·exact .inl ⟨ob,by rw[Gn (Xw s ha (by intro z; cases z))]; exact s⟩
     ·exact .inr s
    | false=>
     rw[z,if_neg An] at h2
     rw[if_neg An,Gn (Xw h2 ha (by intro z; cases z))]
     exact h2
   ·have hb:b≠a:=fun hb=>by
     subst hb
     exact hj (r.inj j i b cj c e1 hi e2 hc f hf)
    exact .inr ⟨f,l,by rw[Gn hb]; exact e,Paired.mapP rr fun _ _ z=>z.aft af⟩
 ·have fz:∀ (j:Nat) (cj:Cell),(S.set i ⟨false,ds⟩)[j]?=some cj->cj.fz=false->∃ c',S[j]?=some c'/\c'.fz=false:=fun j cj e f=>by
   by_cases hj:j=i
   ·subst hj
    exact⟨c,hc,hf⟩
   ·rw[Ad (Ne.symm hj)] at e
    exact⟨cj,e,f⟩
  obtain⟨c1,g1,g2⟩:=fz j cj e3 f1
  obtain⟨c2,g3,g4⟩:=fz k ck e4 f2
  exact r.inj j k b c1 c2 e1 e2 g1 g3 g2 g4
def RS.newDc{S:Sto}{p:BB}(r:RS K mp H S)(h:H p=none)(hp:∀ i:Nat,mp[i]?≠some p):
  Aft K mp H (mp++[p]) (upd H p (.dT []))/\RS K (mp++[p]) (upd H p (.dT [])) (S++[⟨false,[]⟩])/\(mp++[p])[S.length]?=some p:=by
 have ne:∀ (i:Nat) (a:BB),mp[i]?=some a->a≠p:=fun i a e z=>hp i (z▸e)
 have af:Aft K mp H (mp++[p]) (upd H p (.dT [])):=by
  refine⟨fun i a e=>by rw[Ar (Aa.mp e).1]; exact e,fun b ys s=>?_,fun b φ s=>by rw[Gn (Hd s h)]; exact s,fun j b e n ⟨kvs,z⟩=>?_,fun b ⟨l,z⟩=>⟨l,by rw[Gn (Hd z h)]; exact z⟩⟩
  ·rcases s with(s | ⟨ob,s⟩) | s
   ·exact .inl (.inl (by rw[Gn (Hd s h)]; exact s))
   ·exact .inl (.inr ⟨ob,by rw[Gn (Hd s h)]; exact s⟩)
   ·exact .inr s
  ·rw[Gn (ne j b e)] at z; exact n ⟨_,z⟩
 have hl:=r.len
 have lastp:(mp++[p])[S.length]?=some p:=by rw[<- hl]; simp
 have old:∀ (i:Nat) (a:BB),i<S.length->(mp++[p])[i]?=some a->mp[i]?=some a:=fun i a hi e1=>by
  rw[Ar (by omega)] at e1; exact e1
 refine⟨af,⟨by simp[hl],fun i a c e1 e2=>?_,fun i j a ci cj e1 e2 e3 e4 f1 f2=>?_⟩,lastp⟩
 ·by_cases hi:i<S.length
  ·rw[Ar hi] at e2
   exact(r.cell i a c (old i a hi e1) e2).new h af
  ·have hi':i=S.length:=by
    have:=(Aa.mp e2).1
    simp at this
    omega
   subst hi'
   rw[lastp] at e1
   cases e1
   simp at e2
   subst e2
   exact .inr ⟨rfl,[],Hj,.nil⟩
 ·have hi:=(Aa.mp e3).1
  have hj:=(Aa.mp e4).1
  simp at hi hj
  by_cases hi':i<S.length
  ·have o1:=old i a hi' e1
   by_cases hj':j<S.length
   ·rw[Ar hi'] at e3
    rw[Ar hj'] at e4
    exact r.inj i j a ci cj o1 (old j a hj' e2) e3 e4 f1 f2
   ·have:j=S.length:=by omega
    subst this
    rw[lastp] at e2
    cases e2
    exact absurd rfl (ne i _ o1)
  ·have:i=S.length:=by omega
   subst this
   rw[lastp] at e1
   cases e1
   by_cases hj':j<S.length
   ·exact absurd rfl (ne j _ (old j _ hj' e2))
   ·omega
def RS.off{X:Cx}{pins:List (BB×Obj)}{σ:L2.St}{s:BA}{S:Sto}(r:RS X.K mp H S)(I:Inv X pins σ H s)(i:Nat):mp[i]?≠some s.heap.objs.size:=fun e=>by
 have hl:i<S.length:=by rw[<- r.len]; exact(Aa.mp e).1
 have hn:H s.heap.objs.size=none:=I.hok.fresh (Ab _)
 rcases r.cell i _ _ e (Af hl) with⟨xs,q,z⟩ | ⟨_,kvs',e',rr⟩
 ·cases f:(S[i]).fz with
  | true=>
   rw[f] at z
   have z:SqF X.K H _ xs:=(if_pos rfl).mp z
   rcases z with⟨ob,z⟩ | ⟨o,its,n,lk,_⟩
   ·rw[hn] at z; cases z
   ·exact absurd (Ag (I.kIn _ o lk)) (AA _)
  | false=>rw[f,if_neg An,hn] at z; cases z
 ·rw[hn] at e'; cases e'
end
section
variable{X:Cx}{XQ:XW}
def Gr4(neg:Bool)(hu:X.A.units+20<cLine):OpX X (compareOp (if neg=true then .NotIn else .In)) (Gfe neg):=by
 intro pins s σ ρ XQ mp H S x y v u vv uv Q I rs rx ry rv ru p _
 unfold Gfe at p
 split at p
 ·rename_i i
  split at p
  ·rename_i c κ zc zk
   by_cases hf:c.fz=false
   ·rw[if_pos hf] at p
    obtain⟨hk,b,rfl,kb⟩:=Gjo rx zk
    obtain⟨a,kvs,rfl,ha,hH,rr⟩:=rs.pairs ry zc hf
    cases (show vv=Value.ref b from rv)
    cases (show uv=Value.ref a from ru)
    obtain⟨hz,hd,xs,rel,dd⟩:=Goc I hH (Gjp rr)
    have e:(atKey xs κ).isSome=(dlook κ c.xs).isSome:=by
     rw[(Gjq rr κ).1,Gem (rel.val κ),Option.isSome_map]
    cases neg with
    | true=>
     refine wpAny_notIn_heap (knd:=nestKind X.prog X.w) (by show X.A.in1.units+10<cLine; first | omega | (simp[Around.in1]; omega)) (kb.is I) hd dd ?_
     rw[e]
     exact⟨.bl _,H,I.tok _,rfl,Gj.ok (R:=Rep X.K) p rs rfl⟩
    | false=>
     refine wpAny_in_heap (knd:=nestKind X.prog X.w) (by show X.A.in1.units+10<cLine; first | omega | (simp[Around.in1]; omega)) (kb.is I) hd dd ?_
     rw[e]
     exact⟨.bl _,H,I.tok _,rfl,Gj.ok (R:=Rep X.K) p rs rfl⟩
   ·rw[if_neg hf] at p; exact p.elim
  ·exact p.elim
 ·exact p.elim
def Gr5(neg:Bool)(x y:D)(S:Sto)(e:XD)(S':Sto):Gfe neg x y S≠.exc e S':=by
 unfold Gfe
 split
 ·split
  ·split<;>(intro z; cases z)
  ·intro z; cases z
 ·intro z; cases z
def Gjr{K:By}:Gv6 (God K) K dsetD:=by
 intro mp H S S' x y z v u w Q rs rx ry rz e k
 unfold dsetD at e
 split at e
 ·rename_i i
  split at e
  ·rename_i c κ zc zk
   split at e
   ·rename_i hf
    cases (Ac e)
    obtain⟨hk,b,rfl,kb⟩:=Gjo ry zk
    obtain⟨a,kvs,rfl,ha,hH,rr⟩:=rs.pairs rx zc hf.1
    obtain⟨af,rs'⟩:=rs.setDc ha zc hf.1 hH (Gxx rr hk kb ry rz)
    have hl:kvs.length<sizeLine:=by rw[<- Paired.length rr]; exact Ai hf.2 (by decide)
    exact⟨a,b,κ,kvs,rfl,rfl,hH,Gjp rr,kb,hl,k _ af rs'⟩
   ·cases e
  ·cases e
 ·cases e
variable{k:Nat}{a b:Expr}{fa fb:Ev D}{pos:Pos}
def Gxy(hr:Room k X.A)(ha:GE X XQ a fa)(hb:GE X XQ b fb)(hm:behindInMarks .NotIn b=false:=by rfl):GT X XQ (.Compare a [.NotIn] [b] pos) (tb (o2 (Gfe true) fa fb)):=⟨Gcr (Gr4 true (by have:=hr.un; omega)) (Gr5 true) ha.h hb.h hm⟩
def Gr6:JE X XQ (.Dict [] [] pos) dnew:=by
 intro pins s σ H Q I ⟨mp,ρ,S,G,p⟩
 have hb:sysModules<s.heap.objs.size:=by
  have h:mainGlobals<s.heap.objs.size:=(I.mod.glob.keeps I.bk).lt
  exact Nat.lt_trans (by decide) h
 have hn:H s.heap.objs.size=none:=I.hok.fresh (Ab _)
 obtain⟨af,rs,la⟩:=G.rs.newDc hn (G.rs.off I)
 refine wpAny_Dict_empty ⟨.ref s.heap.objs.size,_,I.laid (a:=s.heap.objs.size) (o:=.dT []) (t':=s.toks) (fun _ _ q=>Ao _ q) (Ab _)
  ⟨AB _,beq_eq_false_iff_ne.mpr (Ne.symm (Ax hb)),[],.nil,_,#[],0,AD _ rfl,⟨rfl,rfl,rfl⟩,rfl,rfl,List.nodup_nil⟩,rfl,?_⟩
 exact(show Post X.K XQ σ ρ mp H (.ok (.dct S.length) (S++[⟨false,[]⟩])) Q from p) _ _ _ af rs ⟨_,rfl,la,_,Hj⟩
def Gjs:GE X XQ (.Dict [] [] pos) dnew:=⟨Gr6⟩
end
structure FHd(K:By)(x:Str)(st:Stmt)(d:Int):Prop where
 ex:∃ (f T:BB) (oc:Bz) (od an:BC BB) (osl sl:Array (BC Bz)) (kV doc pm cdv ct:Bz) (t:Tok) (n:Nat),PySem.W.nsIn K mainGlobals x=some (some (.ref f))/\K.lookup f=some ⟨oc,od,.func (PySem.W.fnOf x x (Hz st) (Hb st) (Gc st) (.ref T) kV doc pm an cdv ct),osl⟩/\PySem.W.codeIn K cdv x=true/\PySem.W.keepIn K (.ref f)=true∧
  K.lookup T=some { cls:=.type "tuple",dict:=none,data:=.seq #[.int d t] n,slots:=sl }
section
variable{P:BD}{w:World}{K:By}{mg:Str->BC Bz}{base:Heap}
def Gxz{x:Str}{st:Stmt}{d:Int}{f T:BB}{oc:Bz}{od an:BC BB}{osl sl:Array (BC Bz)}{kV doc pm cdv ct:Bz}{t:Tok}{n:Nat}(a:PySem.W.nsIn K mainGlobals x=some (some (.ref f)))
  (l:K.lookup f=some ⟨oc,od,.func (PySem.W.fnOf x x (Hz st) (Hb st) (Gc st) (.ref T) kV doc pm an cdv ct),osl⟩) (c:PySem.W.codeIn K cdv x=true) (k:PySem.W.keepIn K (.ref f)=true) (lT:K.lookup T=some { cls:=.type "tuple",dict:=none,data:=.seq #[.int d t] n,slots:=sl }):FHd K x st d:=⟨f,T,oc,od,an,osl,sl,kV,doc,pm,cdv,ct,t,n,a,l,c,k,lT⟩
structure CalD(P:BD)(w:World)(K:By)(mg:Str->BC Bz)(base:Heap)(x:Str)(ps:List Str)(fn:Fn)(d:Int)(j:Nat):Prop where
 ex:∃ f fd t,FnOk P w K mg base (CXe P w) j f fd ps (spX K ps.length fn)/\mg x=some (.ref f)/\PySem.W.keepIn K (.ref f)=true/\Binds K fd ps []/\Binds K fd ps [.int d t]
def CalD.x{x:Str}{ps:List Str}{fn:Fn}{d:Int}{j:Nat}(C:CalD P w K mg base x ps fn d j):CalX P w K mg base x ps fn j:=
 let ⟨f,fd,_,h1,h2,h3,h4,_⟩:=C.ex; ⟨f,fd,h1,h2,h3,h4⟩
def caldw{x:Str}{st:Stmt}{N ps:List Str}{fn:Fn}{d:Int}{b:Sv}(k:Nat)(F:FHd K x st d)(g:GH K mg)(S:FnS N ps (Gc st))(hfn:fn=fnB N.length b)
  (hb:∀ (f:BB) (cdv:Bz) (A:Around) (outer:List PySem.Env) (s:BA) (H:Hp) (E:XK) (XQ:XW),Room k (A.deeper (envOfC x (Gc st) s.heap.objs.size f cdv))->XL (Qy (CXe P w) P w K mg base N x (Gc st) f cdv A outer s H E) XQ→
   JSs (Qy (CXe P w) P w K mg base N x (Gc st) f cdv A outer s H E) XQ (Hb st) b)
  (ha:∀ (s:BA) (T:BB) (o:Obj) (t:Tok) (n:Nat) (kV doc pm:Bz) (an:BC BB) (cdv ct:Bz) (us:List Bz),us.length=ps.length->s.heap.get? T=some o->o.data=.seq #[.int d t] n->BindsTo s (PySem.W.fnOf x x (Hz st) (Hb st) (Gc st) (.ref T) kV doc pm an cdv ct) ⟨us,[]⟩ (ps.zip us))
  (ha1:∀ (s:BA) (T:BB) (o:Obj) (t:Tok) (n:Nat) (kV doc pm:Bz) (an:BC BB) (cdv ct:Bz) (us:List Bz),us.length+1=ps.length->s.heap.get? T=some o->o.data=.seq #[.int d t] n->BindsTo s (PySem.W.fnOf x x (Hz st) (Hb st) (Gc st) (.ref T) kV doc pm an cdv ct) ⟨us,[]⟩ (ps.zip (us++[Value.int d t]))):
  CalD P w K mg base x ps fn d (k+1):=by
 subst hfn
 obtain⟨_,X,G⟩:=g
 obtain⟨f,T,oc,od,an,osl,sl,kV,doc,pm,cdv,ct,t,n,a,l,c,kp,lT⟩:=F.ex
 refine⟨f,_,t,Gmb l c S.s (fun vs H Q E ⟨mp,ds,S,rs,r,hl,_⟩=>by rw[r.len]; exact hl) fun A outer s H vs Q E hr ⟨mp,ds,S,rs,r,hl,p⟩=>?_,PySem.W.mg_of X G a,kp,fun s us X hl=>?_,fun s us X hl=>ha1 s T _ t n kV doc pm an cdv ct us (by rw[<- hl,Az]; rfl) (X T _ lT) rfl⟩
 ·refine⟨_,hb f cdv A outer s H E (XQd K E) hr Gng,mp,_,S,Gcp rs r,?_⟩
  unfold fnB at p
  show PostS K _ mp H (b (ds.map some++List.replicate (N.length-ds.length) none) S) _
  cases z:b (ds.map some++List.replicate (N.length-ds.length) none) S with
  | rt d S'=>rw[z] at p; exact p
  | nx ρ' S'=>rw[z] at p; exact fun m h v af G=>p m h .non af G.rs rfl
  | bk ρ' S'=>rw[z] at p; exact p.elim
  | ct ρ' S'=>rw[z] at p; exact p.elim
  | exc x ρ' S'=>
   rw[z] at p
   obtain⟨C,hc,q⟩:=p
   exact fun m h v af G=>⟨C,hc,fun dx xf=>q m h dx af G.rs xf⟩
  | bad=>rw[z] at p; exact p.elim
 ·rw[AU] at hl ⊢
  exact ha s T _ t n kV doc pm an cdv ct us hl (X T _ lT) rfl
end
section
variable{X:Cx}{XQ:XW}{k:Nat}{f:BB}{fd:FuncData}{ps:List Str}{fn:Fn}{x:Str}{p pos:Pos}{e:Expr}{es:List Expr}
def Gjt{ob ix e:Expr}{f fo fi:Ev D}{pos p2:Pos}(hr:Room k X.A)(he:GE X XQ e f)(hob:GE X XQ ob fo)(hix:GE X XQ ix fi)(hs:swapsWithSole [.Subscript ob ix p2] e pos.line X.env=pure false:=by rfl)(hw:swappedStores [.Subscript ob ix p2] e X.env=pure none:=by rfl)(h1:(assignEach [.Subscript ob ix p2] X.env).map (·.2)=[assign (.Subscript ob ix p2) X.env]:=by rfl)(ha:∀ v,assign (.Subscript ob ix p2) X.env v=(do
   let ov <- holding [v] (eval ob X.env)
   let iv <- holding [v,ov] (eval ix X.env)
   standAt p2
   holding [v,ov,iv] (setItem ov iv v)
   release [v,ov,iv] []):=by intro _; rfl):GS X XQ (.Assign [.Subscript ob ix p2] e pos) (ss f fo fi dsetD):=⟨Gmp (Goe (by have:=hr.un; omega)) Gjr he.h hob.h hix.h hs hw h1 ha⟩
noncomputable def Gbt(d:Int)(fn:Fn):Fn:=fun ds S=>fn (ds++[.int d]) S
def Gt4{d:Int}{j n:Nat}{ys:List Str}{t:Ev (List D)}(s:Scope)(xs:XNs X.K ys)(L:XL X XQ)(C:CalD X.prog X.w X.K X.mg X.base x ps fn d j)(hr:Room k X.A)(ha:GA X XQ (e::es) t)(hg:okG s x=true:=by decide +kernel)(hn:ps.length=n+1:=by rfl)(hj:j<=k:=by decide)(hs:X.env.scope=s:=by rfl)
  (he:starEach (e::es) X.env=(false,eval e X.env)::starEach es X.env:=by rfl) (hpl:(backTo pos (starEach es X.env)).any (·.1)=false:=by rfl):
  GE X XQ (.Call (.Name x p) (e::es) [] pos) (cl n (gX ys (Gbt d fn)) t):=by
 obtain⟨f,fd,tk,F,hm,hk,_,hb⟩:=C.ex
 have F:=F.mono hj
 have hdb:=(Gw.of (okG.gl hg).2).1
 refine⟨?_⟩
 intro pins s0 σ H Q I ⟨mp,ρ,S,G,p⟩
 refine wpAny_Call_Name_kw (Yt I (gG s hg hs) hm ?_ hdb)
 refine PySem.W.callWith_K (h₀:=X.base) I.ok.mod.kin hk (thn (ha.h pos pins s0 σ H _ I (bindP G p fun mp1 H1 ds S1 vs a1 G1 r1 p1=>(⟨mp1,ρ,ds,S1,G1,r1,p1⟩:∃ mp1 ρ ds S1,Gd X.K mp1 H1 σ ρ S1/\RepL X.K mp1 H1 ds vs/\Post X.K XQ σ ρ mp1 H1 (if ds.length=n then gX ys (Gbt d fn) ds S1 else .bad) Q))) fun us s1 ⟨vs,H1,I1,r,mp1,ρ1,ds,S1,G1,r1,p1⟩=>⟨I1.kIn,?_⟩) he hpl
 by_cases hl:ds.length=n
 ·rw[if_pos hl] at p1
  have r2:Vals (vs++[V.int d]) (us++[Value.int d tk]):=r.append (.cons ⟨tk,rfl⟩ .nil)
  have rl:RepL X.K mp1 H1 (ds++[.int d]) (vs++[V.int d]):=RepL.append r1 (RepL.cons rfl RepL.nil)
  have hll:(ds++[D.int d]).length=ps.length:=by rw[hn,Az,hl]; rfl
  have h:spX X.K ps.length fn (vs++[V.int d]) H1 Q fun c dx H'=>∃ C,c=.ref C/\WX X.K XQ σ C dx H':=by
   refine⟨mp1,ds++[.int d],S1,G1.rs,rl,hll,?_⟩
   unfold gX Gbt at p1
   cases z:fn (ds++[.int d]) S1 with
   | ok d S'=>rw[z] at p1; exact p1
   | exc xx S'=>
    rw[z] at p1
    by_cases hi:xx.cls∈ys
    ·have p1:Gj X.K (Rep X.K) XQ σ ρ1 mp1 H1 (.exc xx S') Q:=by simpa only[if_pos hi] using p1
     obtain⟨C,hC,_⟩:=xs _ hi
     refine⟨C,hC,fun mp' H' dx af rs xf=>⟨C,rfl,xx,mp',ρ1,S',xf,hC,p1 mp' H' af (G1.aft af rs)⟩⟩
    ·have p1:Gj X.K (Rep X.K) XQ σ ρ1 mp1 H1 .bad Q:=by simpa only[if_neg hi] using p1
     exact p1.elim
   | bad=>rw[z] at p1; exact p1.elim
  have hlu:(us++[Value.int d tk]).length=ps.length:=by rw[<- r2.length,rl.len]; exact hll
  refine wpAny_call (codeAny_mono (F.run X.A X.stack s1 H1 ⟨us,[]⟩ (us++[Value.int d tk]) (vs++[V.int d]) Q _ hr I1.env0 (hb s1 us I1.kIn hlu) r2 h) fun r s' hq=>?_)
  cases r with
  | error e=>exact L.cal pins σ H1 s1 e s' (fun c dx H'=>∃ C,c=.ref C/\WX X.K XQ σ C dx H') I1 hq fun C dx H' ⟨C',e1,q⟩=>by cases e1; exact q
  | ok fl=>
   cases fl with
   | ret u=>exact I1.after hq
   | next=>exact False.elim hq
   | brk=>exact False.elim hq
   | cont=>exact False.elim hq
 ·rw[if_neg hl] at p1; exact p1.elim
end
def Zd(fa fb:Ev D):Ev D:=fun ρ S=>(fa ρ (S++[⟨false,[]⟩])).bind fun k S1=>(fb ρ S1).bind fun v S2=>match dsetD (.dct S.length) k v S2 with
 | some S3=>.ok (.dct S.length) S3
 | none=>.bad
section
variable{X:Cx}{XQ:XW}{k:Nat}{a b:Expr}{fa fb:Ev D}{pos:Pos}
def Glj{pins:List (BB×Obj)}{σ:L2.St}{H:Hp}{s:BA}{o i v:V}{ov iv u:Bz}{E:Bz->BA->Prop}{Q:Hp->Prop}(hu:X.A.units+20<cLine)(I:Inv X pins σ H s)(ro:Hf o ov)(ri:Hf i iv)(rv:Hf v u)(h:God X.K o i v H Q):
  ∃ d,ov=.ref d/\wpAny (model X.prog X.w) X.A (dictSet d iv u) (fun _ s'=>∃ H',Inv X pins σ H' s'/\Q H') E s:=by
 obtain⟨a,b,κ,kvs,rfl,rfl,ea,ks,kb,hl,q⟩:=h
 cases (show ov=Value.ref a from ro)
 cases (show iv=Value.ref b from ri)
 refine⟨a,rfl,?_⟩
 obtain⟨hz,hd,xs,rel,dd⟩:=Goc I ea ks
 have hz':xs.length<=sizeLine:=by rw[<- Paired.length rel]; exact hz
 have hl':=Ggy kvs κ b v
 refine wpAny_dictSet_heap (knd:=nestKind X.prog X.w) (hsz:=hz') (by show X.A.units+10<cLine; omega) (kb.is I) dd fun h' dd' hs=>⟨_,?_,q⟩
 obtain⟨o,es,ep,hq,h2,h3,h4,_,h5⟩:=dd'
 exact I.write (x:=a) (e:=a) (by rw[ea]; exact True.intro) (.inl rfl) (fun c q hc z=>(hs.2 c hc).trans z) ⟨o,hq⟩ ⟨by omega,hd,_,rel.put κ rv,o,es,ep,hq,h2,h3,h4,h5⟩
def Ha0(hu:X.A.units+20<cLine)(ha:JE X XQ a fa)(hb:JE X XQ b fb):JE X XQ (.Dict [some a] [b] pos) (Zd fa fb):=by
 intro pins s σ H Q I ⟨mp,ρ,S,G,p⟩
 have hbig:sysModules<s.heap.objs.size:=by
  have h:mainGlobals<s.heap.objs.size:=(I.mod.glob.keeps I.bk).lt
  exact Nat.lt_trans (by decide) h
 have hn:H s.heap.objs.size=none:=I.hok.fresh (Ab _)
 obtain⟨af,rs,la⟩:=G.rs.newDc hn (G.rs.off I)
 have G0:=G.aft af rs
 have I0:=I.laid (a:=s.heap.objs.size) (o:=.dT []) (h':=s.heap.push { cls:=.type "dict",data:=.dict #[] }) (t':=s.toks) (fun _ _ q=>Ao _ q) (Ab _)
  ⟨AB _,beq_eq_false_iff_ne.mpr (Ne.symm (Ax hbig)),[],.nil,_,#[],0,AD _ rfl,⟨rfl,rfl,rfl⟩,rfl,rfl,List.nodup_nil⟩
 have rd:Rep X.K (mp++[s.heap.objs.size]) (upd H s.heap.objs.size (.dT [])) (.dct S.length) (.ref s.heap.objs.size):=⟨_,rfl,la,_,Hj⟩
 have p0:=Gj.aft p af
 refine wpAny_Dict_any rfl rfl (by simp) (by simp) (pairTrees_cons_walk ?_)
 refine thn (ha pins _ σ _ _ I0 (bindP G0 p0 fun mp1 H1 x S1 v a1 G1 r1 p1=>(⟨mp1,ρ,S1,x,G1,r1,Rep.aft a1 _ _ rd,p1⟩:∃ mp1 ρ S1 x,Gd X.K mp1 H1 σ ρ S1/\Rep X.K mp1 H1 x v/\Rep X.K mp1 H1 (.dct S.length) (.ref s.heap.objs.size)/\Post X.K XQ σ ρ mp1 H1 ((fb ρ S1).bind fun v S2=>match dsetD (.dct S.length) x v S2 with | some S3=>.ok (.dct S.length) S3 | none=>.bad) Q))) fun kv s1 ⟨v,H1,I1,rv,mp1,ρ1,S1,x,G1,r1,rd1,p1⟩=>?_
 refine thn (hb pins s1 σ H1 _ I1 (bindP G1 p1 fun mp2 H2 y S2 u a2 G2 r2 p2=>(⟨mp2,ρ1,S2,x,y,v,G2,Rep.aft a2 _ _ r1,r2,Rep.aft a2 _ _ rd1,rfl,p2⟩:∃ mp2 ρ S2 x y v',Gd X.K mp2 H2 σ ρ S2/\Rep X.K mp2 H2 x v'/\Rep X.K mp2 H2 y u/\Rep X.K mp2 H2 (.dct S.length) (.ref s.heap.objs.size)/\v'=v/\Post X.K XQ σ ρ mp2 H2 (match dsetD (.dct S.length) x y S2 with | some S3=>.ok (.dct S.length) S3 | none=>.bad) Q))) fun vv s2 ⟨u,H2,I2,ru,mp2,ρ2,S2,x2,y,v',G2,rx,ry,rd2,ev,p2⟩=>?_
 subst ev
 refine pairTrees_nil_walk ?_
 cases z:dsetD (.dct S.length) x2 y S2 with
 | none=>rw[z] at p2; exact p2.elim
 | some S3=>
  rw[z] at p2
  have hs:=Gjr (K:=X.K) mp2 H2 S2 S3 (.dct S.length) x2 y (.ref s.heap.objs.size) _ _ (fun H'=>Q (.ref s.heap.objs.size) H') G2.rs rd2 rx ry z fun H' af' rs'=>p2 mp2 H' _ af' rs' (Rep.aft af' _ _ rd2)
  obtain⟨d,ed,w'⟩:=Glj (E:=X.xe) hu I2 (show Hf (.ref s.heap.objs.size) (Value.ref s.heap.objs.size) from rfl) rv ru hs
  cases ed
  show wpAny _ _ (storeAll s.heap.objs.size [(kv,vv)]) _ _ _
  unfold storeAll
  rw[List.forIn_cons]
  refine wpAny_bind (wpAny_bind (wpAny_mono w' (fun _ s3 ⟨H3,I3,q3⟩=>?_) fun _ _ e=>e))
  refine wpAny_pure ?_
  show wpAny _ _ (forIn [] PUnit.unit _) _ _ s3
  rw[List.forIn_nil]
  exact wpAny_pure ⟨.ref s.heap.objs.size,H3,I3,rfl,q3⟩
def Ha1(hr:Room k X.A)(ha:GE X XQ a fa)(hb:GE X XQ b fb):GE X XQ (.Dict [some a] [b] pos) (Zd fa fb):=⟨Ha0 (by have:=hr.un; omega) ha.h hb.h⟩
end
def ss2(f o1 i1 o2 i2:Ev D):Sv:=fun ρ S=>bindS (f ρ S) ρ fun d S1=>match d with
 | .tup [x,y]=>bindS (o1 ρ S1) ρ fun a S2=>bindS (i1 ρ S2) ρ fun b S3=>match Hm a b x S3 with
  | some S4=>bindS (o2 ρ S4) ρ fun a' S5=>bindS (i2 ρ S5) ρ fun b' S6=>match Hm a' b' y S6 with
   | some S7=>.nx ρ S7
   | none=>.bad
  | none=>.bad
 | _=>.bad
section
variable{X:Cx}{XQ:XW}
def Gr7{a1 b1 a2 b2 e:Expr}{f o1 i1 o2 i2:Ev D}{pos p1 p2 pt:Pos}{k:Nat}(hc:X.calm=true)(he:JE X XQ e f)(ho1:JE X XQ a1 o1)(hi1:JE X XQ b1 i1)(ho2:JE X XQ a2 o2)(hi2:JE X XQ b2 i2)
  (hs:swapsWithSole [.Tuple [.Subscript a1 b1 p1,.Subscript a2 b2 p2] k pt] e pos.line X.env=pure false:=by rfl) (hw:swappedStores [.Tuple [.Subscript a1 b1 p1,.Subscript a2 b2 p2] k pt] e X.env=pure none:=by rfl)
  (h1:(assignEach [.Tuple [.Subscript a1 b1 p1,.Subscript a2 b2 p2] k pt] X.env).map (·.2)=[assign (.Tuple [.Subscript a1 b1 p1,.Subscript a2 b2 p2] k pt) X.env]:=by rfl)
  (hn:(assignEach [.Subscript a1 b1 p1,.Subscript a2 b2 p2] X.env).length=2:=by rfl) (hst:(assignEach [.Subscript a1 b1 p1,.Subscript a2 b2 p2] X.env).findIdx? (·.1)=none:=by rfl)
  (g1:(assignEach [.Subscript a1 b1 p1,.Subscript a2 b2 p2] X.env).map (·.2)=assign (.Subscript a1 b1 p1) X.env::(assignEach [.Subscript a2 b2 p2] X.env).map (·.2):=by rfl)
  (g2:(assignEach [.Subscript a2 b2 p2] X.env).map (·.2)=assign (.Subscript a2 b2 p2) X.env::(assignEach [] X.env).map (·.2):=by rfl)
  (h2:∀ v,assign (.Subscript a1 b1 p1) X.env v=(do
   let ov <- holding [v] (eval a1 X.env)
   let iv <- holding [v,ov] (eval b1 X.env)
   standAt p1
   holding [v,ov,iv] (setItem ov iv v)
   release [v,ov,iv] []):=by intro _; rfl)
  (h3:∀ v,assign (.Subscript a2 b2 p2) X.env v=(do
   let ov <- holding [v] (eval a2 X.env)
   let iv <- holding [v,ov] (eval b2 X.env)
   standAt p2
   holding [v,ov,iv] (setItem ov iv v)
   release [v,ov,iv] []):=by intro _; rfl):JS X XQ (.Assign [.Tuple [.Subscript a1 b1 p1,.Subscript a2 b2 p2] k pt] e pos) (ss2 f o1 i1 o2 i2):=by
 refine PS.mono (Ghs he (Gl1 hc (Gcj (Ghr ho1 hi1 Gco h2) (Gcj (Ghr ho2 hi2 Gco h3) Gi3 g2) g1) hn hst) hs hw h1) fun E σ H ⟨mp,ρ,S,G,p⟩=>?_
 refine bindSP G p fun mp1 H1 d S1 v a1 G1 r1 p1=>?_
 have q1:∃ x y,d=.tup [x,y]/\PostS X.K XQ mp1 H1 (bindS (o1 ρ S1) ρ fun a S2=>bindS (i1 ρ S2) ρ fun b S3=>match Hm a b x S3 with
  | some S4=>bindS (o2 ρ S4) ρ fun a' S5=>bindS (i2 ρ S5) ρ fun b' S6=>match Hm a' b' y S6 with
   | some S7=>.nx ρ S7
   | none=>.bad
  | none=>.bad) E:=by
  split at p1
  ·exact⟨_,_,rfl,p1⟩
  ·exact p1.elim
 obtain⟨x,y,rfl,p1⟩:=q1
 obtain⟨ad,xs,ev,sq,rl⟩:=Rep.tup r1
 obtain⟨vx,t1,e1,rx,rl⟩:=(show ∃ v r,xs=v::r/\Rep X.K mp1 H1 x v/\RepL X.K mp1 H1 [y] r from rl)
 obtain⟨vy,t2,e2,ry,rl⟩:=(show ∃ v r,t1=v::r/\Rep X.K mp1 H1 y v/\RepL X.K mp1 H1 [] r from rl)
 cases (show t2=[] from rl)
 subst e2 e1
 refine⟨ad,[vx,vy],ev,sq,rfl,vx,[vy],rfl,?_⟩
 refine bindSP G1 p1 fun mp2 H2 a S2 va a2 G2 r2 p2=>?_
 refine bindSP G2 p2 fun mp3 H3 b S3 vb a3 G3 r3 p3=>?_
 cases z:Hm a b x S3 with
 | none=>rw[z] at p3; exact p3.elim
 | some S4=>
  rw[z] at p3
  refine Gh5 mp3 H3 S3 S4 a b x va vb vx _ G3.rs (Rep.aft a3 _ _ r2) r3 (Rep.aft (a2.trans a3) _ _ rx) z fun H4 a4 rs4=>?_
  have G4:=G3.aft a4 rs4
  have p4:=PostS.aft p3 a4
  refine⟨vy,[],rfl,?_⟩
  refine bindSP G4 p4 fun mp5 H5 a' S5 va' a5 G5 r5 p5=>?_
  refine bindSP G5 p5 fun mp6 H6 b' S6 vb' a6 G6 r6 p6=>?_
  cases z2:Hm a' b' y S6 with
  | none=>rw[z2] at p6; exact p6.elim
  | some S7=>
   rw[z2] at p6
   refine Gh5 mp6 H6 S6 S7 a' b' y va' vb' vy _ G6.rs (Rep.aft a6 _ _ r5) r6 (Rep.aft ((((a2.trans a3).trans a4).trans a5).trans a6) _ _ ry) z2 fun H7 a7 rs7=>?_
   exact⟨rfl,p6 mp6 H7 σ a7 (G6.aft a7 rs7)⟩
def Gr8{a1 b1 a2 b2 e:Expr}{f o1 i1 o2 i2:Ev D}{pos p1 p2 pt:Pos}{k:Nat}(he:GE X XQ e f)(ho1:GE X XQ a1 o1)(hi1:GE X XQ b1 i1)(ho2:GE X XQ a2 o2)(hi2:GE X XQ b2 i2)(hc:X.calm=true:=by rfl)
  (hs:swapsWithSole [.Tuple [.Subscript a1 b1 p1,.Subscript a2 b2 p2] k pt] e pos.line X.env=pure false:=by rfl) (hw:swappedStores [.Tuple [.Subscript a1 b1 p1,.Subscript a2 b2 p2] k pt] e X.env=pure none:=by rfl)
  (h1:(assignEach [.Tuple [.Subscript a1 b1 p1,.Subscript a2 b2 p2] k pt] X.env).map (·.2)=[assign (.Tuple [.Subscript a1 b1 p1,.Subscript a2 b2 p2] k pt) X.env]:=by rfl)
  (hn:(assignEach [.Subscript a1 b1 p1,.Subscript a2 b2 p2] X.env).length=2:=by rfl) (hst:(assignEach [.Subscript a1 b1 p1,.Subscript a2 b2 p2] X.env).findIdx? (·.1)=none:=by rfl)
  (g1:(assignEach [.Subscript a1 b1 p1,.Subscript a2 b2 p2] X.env).map (·.2)=assign (.Subscript a1 b1 p1) X.env::(assignEach [.Subscript a2 b2 p2] X.env).map (·.2):=by rfl)
  (g2:(assignEach [.Subscript a2 b2 p2] X.env).map (·.2)=assign (.Subscript a2 b2 p2) X.env::(assignEach [] X.env).map (·.2):=by rfl)
  (h2:∀ v,assign (.Subscript a1 b1 p1) X.env v=(do
   let ov <- holding [v] (eval a1 X.env)
   let iv <- holding [v,ov] (eval b1 X.env)
   standAt p1
   holding [v,ov,iv] (setItem ov iv v)
   release [v,ov,iv] []):=by intro _; rfl)
  (h3:∀ v,assign (.Subscript a2 b2 p2) X.env v=(do
   let ov <- holding [v] (eval a2 X.env)
   let iv <- holding [v,ov] (eval b2 X.env)
   standAt p2
   holding [v,ov,iv] (setItem ov iv v)
   release [v,ov,iv] []):=by intro _; rfl):GS X XQ (.Assign [.Tuple [.Subscript a1 b1 p1,.Subscript a2 b2 p2] k pt] e pos) (ss2 f o1 i1 o2 i2):=⟨Gr7 hc he.h ho1.h hi1.h ho2.h hi2.h hs hw h1 hn hst g1 g2 h2 h3⟩
end
def Gih{prog:BD}{w:World}(d:BB)(hd:(d==sysModules)=false):
  MeetsIn prog w (Builtin.«dict.__len__» ⟨[.ref d],[]⟩) (fun _ R s=>∃ (o:Obj) (es:Array DictEntry) (ep:Nat),s.heap.get? d=some o/\o.data=.dict es ep/\R (.ok (.ret (.int es.size s.toks))) { s with toks:=s.toks+1 }):=
 .of_wp fun A R s ⟨o,es,ep,ho,hdat,h⟩=>by
  show wpAny _ _ (dictSize d >>= _) _ _ s
  unfold dictSize
  refine wpAny_bind (wpAny_bind (wpAny_dictEntries ho hdat (wpAny_pure ?_)))
  show wpAny _ _ (Builtin.Dict.pendingCount d >>= _) _ _ s
  refine wpAny_bind (wpAny_pendingCount_other hd ?_)
  refine wpAny_ret_mkInt ?_
  rw[Nat.add_zero]; exact h
def Glk{prog:BD}{w:World}{A:Around}{E:Bz->BA->Prop}{s:BA}{d:BB}{o:Obj}{es:Array DictEntry}{ep:Nat}{Q:Bz->BA->Prop}(hd:(d==sysModules)=false)(ho:s.heap.get? d=some o)(hT:o.cls=.type "dict")(hdat:o.data=.dict es ep)(hfit:(es.size:Int)<2^63)
  (h:Q (.int es.size (s.toks+1)) { s with toks:=s.toks+1+1 }):wpAny (model prog w) A (call (.builtin "len") [.ref d]) Q E s:=by
 have ht:s.TypeIs (.ref d) "dict":=⟨o,ho,hT⟩
 refine Calls.call_function_entry kind_len plain_len entry_len (args_len1 _) ?_
 unfold Builtin.«len»
 refine wpAny_bind (m:=oneArg "len" _) (wpAny_pure ?_)
 refine wpAny_bind (m:=callSpecial? (.ref d) (Str.ofString "__len__")) (wpAny_callSpecial?_slot (name:=Str.ofString "__len__") ht F.slot_dict_len
  (call_meetsIn F.slot_dict_len ht F.entry_dict_len (F.args_dict_len_1 _) (Gih d hd) ⟨o,es,ep,ho,hdat,?_⟩))
 show wpAny _ _ _ _ _ { s with toks:=s.toks+1 }
 refine wpAny_bind (wpAny_holding (wpAny_pure ?_))
 refine wpAny_bind (wpAny_letGo ?_)
 show wpAny _ _ (if((es.size:Nat):Int)<0 then _ else _) _ _ _
 rw[if_neg (by omega)]
 show wpAny _ _ (if((es.size:Nat):Int)≥2^63 then _ else _) _ _ _
 rw[if_neg (by omega)]
 exact wpAny_bind (wpAny_mkInt (wpAny_pure ⟨_,rfl,h⟩))
noncomputable def Qgnz(xs:List D)(S:Sto):Out D:=match xs with
 | [.dct i]=>match S[i]? with
  | some c=>if c.fz=false then .ok (.int c.xs.length) S else .bad
  | none=>.bad
 | _=>.bad
section
variable{X:Cx}{XQ:XW}
def Gii:Xq X (.builtin "len") (fun xs H Q=>∃ a kvs,xs=[V.ref a]/\H a=some (.dT kvs)/\Q (.int kvs.length) H):=by
 intro pins s σ H xs us Q I r h
 obtain⟨a,kvs,rfl,ha,q⟩:=h
 obtain⟨u,rfl,ru⟩:=Vals.one r
 cases ru
 obtain⟨z,hd,ys,rel,o,es,ep,h1,h2,h3,h4,_⟩:=(show Kj X.prog X.w H s.heap a (.dT kvs) from I.hok a _ ha)
 have hl:es.size=kvs.length:=by
  rw[<- Array.length_toList,h4,Am,Paired.length rel]
 refine Glk hd h1 h2.1 h3 (by rw[hl]; have:=Zl; omega) ?_
 rw[hl]
 exact⟨.int kvs.length,H,I.tok _,⟨_,rfl⟩,q⟩
def Gr9{K:By}:BlD K (fun xs H Q=>∃ a kvs,xs=[V.ref a]/\H a=some (.dT kvs)/\Q (.int kvs.length) H) Qgnz:=by
 intro XQ σ ρ mp H S xs vs Q rs r p
 unfold Qgnz at p
 split at p
 ·rename_i i
  split at p
  ·rename_i c zc
   by_cases hf:c.fz=false
   ·rw[if_pos hf] at p
    obtain⟨v,rfl,hv⟩:=RepL.one r
    obtain⟨a,kvs,rfl,ha,hH,rr⟩:=rs.pairs hv zc hf
    refine⟨a,kvs,rfl,hH,?_⟩
    have:=Gj.ok (R:=Rep K) (v:=.int kvs.length) p rs (by rw[<- Paired.length rr]; rfl)
    exact this
   ·rw[if_neg hf] at p; exact p.elim
  ·exact p.elim
 ·exact p.elim
def Gju{p pos:Pos}{e:Expr}{f:Ev (List D)}(hg:Gl X "len")(hm:X.mg "len"=none)(ha:GA X XQ [e] f)(he:starEach [e] X.env=(false,eval e X.env)::starEach [] X.env:=by rfl):GE X XQ (.Call (.Name "len" p) [e] [] pos) (b1 Qgnz f):=⟨Gh6 Gii Gr9 hg hm (by rfl) ha.h (he:=he)⟩
end
structure NN(N:List Str):Prop
def nn(N:List Str):NN N:=⟨⟩
section
variable{X:Cx}{XQ:XW}{k:Nat}{x:Str}{p pos:Pos}{e:Expr}{es:List Expr}{N P:List Str}{s:Scope}{f:Ev D}
def gGS(S:FnS N P s)(h:okG s x=true:=by decide +kernel)(hs:X.env.scope=s:=by rfl):Gl X x:=gG s h hs
def Hcx{fn:Fn}{ps:List Str}{j n:Nat}{t:Ev (List D)}(S:FnS N P s)(C:Cal X.prog X.w X.K X.mg X.base x ps fn j)(hr:Room k X.A)(ha:GA X XQ (e::es) t)(hg:okG s x=true:=by decide +kernel)(hn:ps.length=n:=by rfl)(hj:j<=k:=by decide)(hs:X.env.scope=s:=by rfl)
  (he:starEach (e::es) X.env=(false,eval e X.env)::starEach es X.env:=by rfl) (hpl:(backTo pos (starEach es X.env)).any (·.1)=false:=by rfl):
  GE X XQ (.Call (.Name x p) (e::es) [] pos) (cl n (Gi fn) t):=gow s C hr ha hg hn hj hs he hpl
def Ha2{fn:Fn}{ps:List Str}{j n:Nat}{ys:List Str}{t:Ev (List D)}(S:FnS N P s)(xs:XNs X.K ys)(L:XL X XQ)(C:CalX X.prog X.w X.K X.mg X.base x ps fn j)(hr:Room k X.A)(ha:GA X XQ (e::es) t)(hg:okG s x=true:=by decide +kernel)(hn:ps.length=n:=by rfl)(hj:j<=k:=by decide)(hs:X.env.scope=s:=by rfl)
  (he:starEach (e::es) X.env=(false,eval e X.env)::starEach es X.env:=by rfl) (hpl:(backTo pos (starEach es X.env)).any (·.1)=false:=by rfl):
  GE X XQ (.Call (.Name x p) (e::es) [] pos) (cl n (gX ys fn) t):=Gr1 s xs L C hr ha hg hn hj hs he hpl
def Gx0{N:List Str}{sc:Scope}{elt tg iter:Expr}{ifs:List Expr}{scope:Scope}{N':List Str}{pk:List (BC Nat)}{f:Ev Src}{g:Tg}{t:Ev Bool}{e:Ev D}(W:NN N')(S:FnS N P sc)(hi:GI X XQ tg iter f)(hg:∀ cl s2 H2 C fp,GG (blk X s2 H2 C scope cl N' fp) tg g)(ht:∀ cl s2 H2 C fp,GTs (blk X s2 H2 C scope cl N' fp) XN ifs t)(he:∀ cl s2 H2 C fp,GE (blk X s2 H2 C scope cl N' fp) XN elt e)(ct:CompTab sc scope N N' pk:=by exact kdC)(hsc:X.env.scope=sc:=by rfl)(hNN:X.N=N:=by rfl)(hcm:X.calm=true:=by rfl)(hs:∀ x,foldedSetIterable iter X.env x=pure x:=by intro _; rfl):GE X XQ (.ListComp elt [⟨tg,iter,ifs,0⟩] scope pos) (cmp f pk g t e):=Gt3 S hi hg ht he ct hsc hNN hcm hs
def Gx1(i:Nat){N:List Str}{sc:Scope}{y:Str}{py spos:Pos}{elt tg iter:Expr}{ifs:List Expr}{scope:Scope}{N':List Str}{pk:List (BC Nat)}{f:Ev Src}{g:Tg}{t:Ev Bool}{e:Ev D}(W:NN N')(S:FnS N P sc)(hi:GI X XQ tg iter f)(hg:∀ cl s2 H2 C fp,GG (blk X s2 H2 C scope cl N' fp) tg g)(ht:∀ cl s2 H2 C fp,GTs (blk X s2 H2 C scope cl N' fp) XN ifs t)(he:∀ cl s2 H2 C fp,GE (blk X s2 H2 C scope cl N' fp) XN elt e)(ct:CompTab sc scope N N' pk:=by exact kdC)(hsc:X.env.scope=sc:=by rfl)(hNN:X.N=N:=by rfl)(hcm:X.calm=true:=by rfl)(hsw:swapsWith (.ListComp elt [⟨tg,iter,ifs,0⟩] scope pos) (some (.Name y py)) spos.line X.env=pure true:=by rfl)(hy:N[i]?=some y:=by rfl)(hs:∀ x,foldedSetIterable iter X.env x=pure x:=by intro _; rfl)(hf:X.fn y=true:=by rfl):GS X XQ (.Assign [.Name y py] (.ListComp elt [⟨tg,iter,ifs,0⟩] scope pos) spos) (sa (cmp f pk g t e) (gn i)):=Gc0 i S hi hg ht he ct hsc hNN hcm hsw hy hs hf
def Hcy{j:Nat}{np cpos:Pos}{a:Expr}{t:Ev (List D)}(S:FnS N P s)(L:XL X XQ)(C:ClX X.prog X.w X.K X.mg X.base x j)(hr:Room k X.A)(ha:GA X XQ [a] t)(hg:okG s x=true:=by decide +kernel)(hcm:X.calm=true:=by rfl)(hj:j+1<=k:=by decide)(hs:X.env.scope=s:=by rfl)
  (he:starEach [a] X.env=(false,eval a X.env)::starEach [] X.env:=by rfl) (hpl:(backTo cpos (starEach [] X.env)).any (·.1)=false:=by rfl):
  GS X XQ (.Raise (some (.Call (.Name x np) [a] [] cpos)) none pos) (srs x t):=Ggu s L C hr ha hg hcm hj hs he hpl
end
def gx{p:Prop}(h:p:=by repeat' first | (show GE _ _ _ _; first | (apply DL.Zc; decide +kernel; rfl) | (apply DL.gw; apply Sc; rfl) | apply DL.ge_int | apply DL.Gv | apply DL.Hc | apply DL.Ht | apply DL.Hg | apply DL.Kh | (apply DL.Haz; assumption; apply hr) | (apply DL.Hcx; apply Sc; assumption; apply hr) | (apply DL.Ha2; apply Sc; apply T.xt.xns; apply L; assumption; apply hr) | (apply DL.Jg; rotate_left; apply T.b_len) | apply DL.Yc | apply DL.Wq | apply DL.Ga6 | apply DL.Gxr | apply DL.Gej | apply DL.Ga7 | apply DL.Gxp | apply DL.Gfd | apply DL.Gxq | apply DL.Gn0 | (apply DL.Yd; rotate_left; apply T.b_tuple) | (apply DL.Grv; rotate_left; apply T.b_list) | (apply DL.Grw; rotate_left; apply T.b_int) | (apply DL.Xd; apply hr; rotate_left; apply T.b_repr) | (apply DL.Gju; rotate_left; apply T.b_len) | (apply DL.Gx0; apply W1; apply Sc; rotate_left 4; exact kdC) | (apply DL.Gx0; apply W2; apply Sc; rotate_left 4; exact kdC) | (apply DL.Gx0; apply W3; apply Sc; rotate_left 4; exact kdC) | (apply DL.Gnw; apply hr.units) | (apply DL.Hav; apply hr.units) | apply DL.Ga8 | apply DL.ge_popL | apply DL.Gjs | apply DL.Has | apply DL.Hat | apply DL.ge_gt | apply DL.Hau | apply DL.Gnx | apply DL.ge_or | apply DL.Gny | apply DL.Gnz | apply DL.Gru | apply DL.ge_isn | (apply DL.Ha1; apply hr) | (apply DL.ge_dget; apply hr) | apply T.c_END | apply T.c_CHAMBER | apply T.c_UP) | (show GA _ _ _ _; first | apply DL.BE | apply DL.Ga) | (show starEach _ _=_; first | apply DL.Gf | apply DL.Gb | apply DL.Ho | apply DL.Gq | apply DL.Hn | apply DL.Jj | apply DL.Gjc | apply DL.Gh8 | apply DL.Gh7 | apply DL.se_BoolOp | apply DL.Gm6 | apply DL.Gbq | apply DL.se_Attribute) | (show GT _ _ _ _; first | (apply DL.Ggs; apply hr.units) | (apply DL.Gad; apply hr.units) | apply DL.Xe | apply DL.Gji | apply DL.gt_le | apply DL.Gek | apply DL.Gt2 | apply DL.Gn1 | (apply DL.Gxy; apply hr) | (apply DL.gt_dci; apply hr) | (apply DL.Goa; apply hr) | (apply DL.Gjn; apply hr) | (apply DL.Ggt; apply Gl5; apply Gtv; apply Gi4; apply Gtu) | (apply GW.jt; first | apply DL.Gie | apply DL.Ye) | apply DL.Uv) | (show GSs _ _ _ _; first | apply DL.Gm | apply DL.Gh | apply DL.Hu) | (show GS _ _ _ _; first | (apply DL.Gx1; apply W1; apply Sc; rotate_left 8; rfl; rotate_left 7; exact kdC) | (apply DL.Gx1; apply W2; apply Sc; rotate_left 8; rfl; rotate_left 7; exact kdC) | (apply DL.Gx1; apply W3; apply Sc; rotate_left 8; rfl; rotate_left 7; exact kdC) | (apply DL.gsew; apply Sc) | apply DL.Ja | apply DL.Js | apply DL.Gcz | apply DL.Gae | apply DL.Wr | (apply DL.Gjt; apply hr) | (apply DL.gsiw; apply Sc) | (apply DL.Hcy; apply Sc; apply L; assumption; apply hr) | (apply DL.Zq; first | apply PassesOwn.never | apply L.pas) | (apply DL.Gn4; first | apply PassesOwn.never | apply L.pas) | apply DL.Gbs | apply DL.gs_break | apply DL.gs_pass) | (show GG _ _ _; first | (apply DL.Gaf; decide +kernel; decide +kernel; rfl) | (apply DL.ggw; apply Sc) | (apply DL.Zp; rfl)) | (show GGs _ _ _; first | apply DL.Xf | apply DL.Jl) | (show GW _ _ _ _; first | apply DL.Gie | apply DL.Ye | apply DL.Gjj | apply DL.Zo) | (show GO _ _ _ _; first | apply DL.Gjk | apply DL.Gjl) | (show GI _ _ _ _ _; first | (apply DL.Qz; rotate_left; apply T.b_range) | (apply DL.Gel; rotate_left; apply T.b_range) | (apply DL.Ggr; rotate_left; apply T.b_enumerate) | apply DL.Ga9) | (show GTs _ _ _ _; first | apply DL.Xg | apply DL.Gjm) | (show Gl _ _; first | (apply DL.glB_w; decide +kernel) | (apply DL.gGS; apply Sc)) | rfl | decide +kernel | exact kdC | intro _):p:=h
end DL
namespace Law
open PySem PySem.Spec PyProof.Rows L2 DL
variable{X:Cx}{XQ:XW}
def top(i:Nat):Stmt:=PySem.Challenge.pw_summitwater_k20_stands_met.main.body.getD i (.Pass ⟨0,0,0,0⟩)
abbrev Wa:Stmt:=top 3
abbrev Wb:Stmt:=top 4
abbrev Gbb:Stmt:=top 5
abbrev Zs:Stmt:=top 6
abbrev Wc:Stmt:=top 7
abbrev Gc2:Stmt:=top 8
abbrev Geo:Stmt:=top 11
abbrev Gc3:Stmt:=top 12
abbrev Gag:Stmt:=top 28
abbrev Yg:Stmt:=top 29
abbrev Gah:Stmt:=top 30
abbrev Ze:Stmt:=top 41
abbrev Xr:Stmt:=top 36
abbrev Yh:Stmt:=top 42
abbrev Yi:Stmt:=top 35
abbrev Zf:Stmt:=top 40
abbrev Xh:Stmt:=top 38
abbrev We:Stmt:=top 39
abbrev Gg1:Stmt:=top 45
abbrev Zg:Stmt:=top 44
abbrev Gbu:Stmt:=top 43
abbrev Xs:Stmt:=top 37
abbrev Gai:Stmt:=top 32
abbrev Yj:Stmt:=top 34
abbrev Yk:Stmt:=top 33
abbrev Gep:Stmt:=top 49
abbrev Gij:Stmt:=top 48
abbrev Gaj:Stmt:=top 51
abbrev Gak:Stmt:=top 52
abbrev Ua:Stmt:=top 53
abbrev Wt:Stmt:=top 54
abbrev Wf:Stmt:=top 55
abbrev Wg:Stmt:=top 56
abbrev Gal:Stmt:=top 58
abbrev Gbv:Stmt:=top 57
abbrev Yl:Stmt:=top 59
abbrev Gbw:Stmt:=top 60
abbrev Xi:Stmt:=top 62
abbrev Ym:Stmt:=top 63
abbrev Ub:Stmt:=top 64
abbrev Gc4:Stmt:=top 65
noncomputable def c_CHAMBER:D:=(.tup [(.str "chamber")])
noncomputable def c_END:D:=(.tup [(.str "end")])
noncomputable def c_UP:D:=(.str "up")
noncomputable def ys:List Str:=["NoGate","Dry","Full","NoSpring","NoBarge","NoRoom","Uneven","Shallow","Falls","NoText","TooMany","NoLine"]
noncomputable def ms:List Str:=["NoGate","Dry","Full","NoSpring","NoBarge","NoRoom","Uneven","Shallow","Falls","NoText","TooMany","NoLine"]
structure Hs(K:By):Prop where
 h_has_spring:FH K "has_spring" Wa
 h_most_water:FH K "most_water" Wb
 h_is_dry:FH K "is_dry" Gbb
 h_is_full:FH K "is_full" Zs
 h_is_shallow:FH K "is_shallow" Wc
 h_holds:FH K "holds" Gc2
 h_higher:FH K "higher" Geo
 h_lower:FH K "lower" Gc3
 h_barges_of:FH K "barges_of" Gag
 h_with_barges:FH K "with_barges" Yg
 h_with_more:FH K "with_more" Gah
 h_check_gate:FH K "check_gate" Ze
 h_place_behind:FH K "place_behind" Xr
 h_check_water:FH K "check_water" Yh
 h_place_ahead:FH K "place_ahead" Yi
 h_check_move:FH K "check_move" Zf
 h_check_let:FH K "check_let" Xh
 h_check_feed:FH K "check_feed" We
 h_moved:FH K "moved" Gg1
 h_with_water:FH K "with_water" Zg
 h_let_down:FH K "let_down" Gbu
 h_is_last_move:FH K "is_last_move" Xs
 h_deed_done:FH K "deed_done" Gai
 h_deeds_of:FH K "deeds_of" Yj
 h_steps_by:FH K "steps_by" Yk
 h_met_by:FH K "met_by" Gep
 h_met:FHd K "met" Gij 600
 h__law_tape:FH K "_law_tape" Gaj
 h__law_draw:FH K "_law_draw" Gak
 h__law_in_pound:FH K "_law_in_pound" Ua
 h__law_kept_out:FH K "_law_kept_out" Wt
 h__law_small:FH K "_law_small" Wf
 h__law_whole:FH K "_law_whole" Wg
 h__law_gone:FH K "_law_gone" Gal
 h__law_due:FH K "_law_due" Gbv
 h__law_can:FH K "_law_can" Yl
 h__law_met:FH K "_law_met" Gbw
 h__law_name:FH K "_law_name" Xi
 h__law_did:FH K "_law_did" Ym
 h__law_is_right:FH K "_law_is_right" Ub
 h_law:FH K "law" Gc4
 z_ValueError:PySem.W.nsIn K mainGlobals "ValueError"=some none
 z_bool:PySem.W.nsIn K mainGlobals "bool"=some none
 z_enumerate:PySem.W.nsIn K mainGlobals "enumerate"=some none
 z_int:PySem.W.nsIn K mainGlobals "int"=some none
 z_isinstance:PySem.W.nsIn K mainGlobals "isinstance"=some none
 z_len:PySem.W.nsIn K mainGlobals "len"=some none
 z_list:PySem.W.nsIn K mainGlobals "list"=some none
 z_min:PySem.W.nsIn K mainGlobals "min"=some none
 z_range:PySem.W.nsIn K mainGlobals "range"=some none
 z_repr:PySem.W.nsIn K mainGlobals "repr"=some none
 z_str:PySem.W.nsIn K mainGlobals "str"=some none
 z_tuple:PySem.W.nsIn K mainGlobals "tuple"=some none
structure Txt(K:By)(mg:Str->BC Bz):Prop where
 b_ValueError:mg "ValueError"=none
 b_bool:mg "bool"=none
 b_enumerate:mg "enumerate"=none
 b_int:mg "int"=none
 b_isinstance:mg "isinstance"=none
 b_len:mg "len"=none
 b_list:mg "list"=none
 b_min:mg "min"=none
 b_range:mg "range"=none
 b_repr:mg "repr"=none
 b_str:mg "str"=none
 b_tuple:mg "tuple"=none
 k_CHAMBER:∃ u v,mg "CHAMBER"=some u/\Hf v u/\∀ mp H,Rep K mp H c_CHAMBER v
 k_END:∃ u v,mg "END"=some u/\Hf v u/\∀ mp H,Rep K mp H c_END v
 k_UP:∃ u v,mg "UP"=some u/\Hf v u/\∀ mp H,Rep K mp H c_UP v
 fv_deed_done:FvT K mg "deed_done"
 xt:XT K mg "SummitError" ys ms
def Txt.c_CHAMBER{pos:Pos}(T:Txt X.K X.mg)(hg:Gl X "CHAMBER"):GE X XQ (.Name "CHAMBER" pos) (cn c_CHAMBER):=let ⟨u,v,h1,h2,h3⟩:=T.k_CHAMBER; ⟨Gh9 h1 h2 h3 hg (by decide +kernel)⟩
def Txt.c_END{pos:Pos}(T:Txt X.K X.mg)(hg:Gl X "END"):GE X XQ (.Name "END" pos) (cn c_END):=let ⟨u,v,h1,h2,h3⟩:=T.k_END; ⟨Gh9 h1 h2 h3 hg (by decide +kernel)⟩
def Txt.c_UP{pos:Pos}(T:Txt X.K X.mg)(hg:Gl X "UP"):GE X XQ (.Name "UP" pos) (cn c_UP):=let ⟨u,v,h1,h2,h3⟩:=T.k_UP; ⟨Gh9 h1 h2 h3 hg (by decide +kernel)⟩
abbrev Uf:Stmt:=(Grx (top 14)).getD 0 (.Pass ⟨0,0,0,0⟩)
def sc_init:FnScope ["self","text"] ["self","text"] (Gc Uf):=kdS
def Ha3:OkG (Gc Uf) "ValueError":=⟨by decide +kernel⟩
def Gsa:OkV (Gc Uf) "self":=⟨by decide +kernel⟩
def Gsb:OkV (Gc Uf) "text":=⟨by decide +kernel⟩
def Gll{P:BD}{w:World}{K:By}{mg:Str->BC Bz}{base:Heap}(hm:mg "ValueError"=none)(f:BB)(cdv:Bz)(A:Around)(outer:List PySem.Env)(s:BA)(H:Hp)(E:XK):PSs (Qy CX0 P w K mg base ["self","text"] "SummitError.__init__" (Gc Uf) f cdv A outer s H E).nox (Hb Uf) (Gt1 K):=by
 conv=>arg 2; whnf
 exact Gi1 (Gi2 (Gnd (gl Ha3) hm (Vb (Gex (i:=0) rfl (okV.vis Gsa.h).1) (Vb (Gex (i:=1) rfl (okV.vis Gsb.h).1) pa_nil)) rfl))
structure All(P:BD)(w:World)(K:By)(mg:Str->BC Bz)(base:Heap):Prop where
 h:Hs K
 g:GH K mg
 t:Txt K mg
 X_Dry:ClX P w K mg base "Dry" 1
 X_Full:ClX P w K mg base "Full" 1
 X_NoBarge:ClX P w K mg base "NoBarge" 1
 X_NoGate:ClX P w K mg base "NoGate" 1
 X_NoRoom:ClX P w K mg base "NoRoom" 1
 X_NoSpring:ClX P w K mg base "NoSpring" 1
 X_Shallow:ClX P w K mg base "Shallow" 1
 X_TooMany:ClX P w K mg base "TooMany" 1
 X_Uneven:ClX P w K mg base "Uneven" 1
section
variable{P:BD}{w:World}{K:By}{mg:Str->BC Bz}{base:Heap}
def Jm:Sv:=(sret (va (o2 eqD (o2 getD (vr 0) (cn (.int 0))) (cn (.str "pound"))) (o2 Gei (o2 getD (vr 0) (cn (.int 4))) (cn .non))))
def Qq:Fn:=fnB 1 Jm
def Gdu:FnS ["place"] ["place"] (Gc Wa):=kdF
abbrev z0:=Gc Wa
def Gc5(Al:All P w K mg base):Cal P w K mg base "has_spring" ["place"] Qq 1:=by
 have Sc:=Gdu
 refine calw (b:=Jm) 0 Al.h.h_has_spring Al.g Sc rfl fun _ _ _ _ _ _ _ hr=>?_
 conv=>arg 3; whnf
 refine GSs.h ?_
 exact gx
def Qr:Sv:=(sq (sif (tb (o2 eqD (vr 0) (cn c_END)))
  (sret (cn (.int 0)))
  skip)
  (sret (ie (tb (o2 eqD (vr 0) (cn c_CHAMBER))) (cn (.int 1)) (o2 getD (vr 0) (cn (.int 1))))))
def Ku:Fn:=fnB 1 Qr
def Gdv:FnS ["place"] ["place"] (Gc Wb):=kdF
abbrev z1:=Gc Wb
def Gc6(Al:All P w K mg base):Cal P w K mg base "most_water" ["place"] Ku 1:=by
 have Sc:=Gdv
 have T:=Al.t
 refine calw (b:=Qr) 0 Al.h.h_most_water Al.g Sc rfl fun _ _ _ _ _ _ _ hr=>?_
 conv=>arg 3; whnf
 refine GSs.h ?_
 exact gx
def Yn:Sv:=(sret (va (o2 neD (vr 0) (cn c_END)) (o2 eqD (vr 1) (cn (.int 0)))))
def Gam:Fn:=fnB 2 Yn
def Glm:FnS ["place","level"] ["place","level"] (Gc Gbb):=kdF
abbrev z2:=Gc Gbb
def Gik(Al:All P w K mg base):Cal P w K mg base "is_dry" ["place","level"] Gam 1:=by
 have Sc:=Glm
 have T:=Al.t
 refine calw (b:=Yn) 0 Al.h.h_is_dry Al.g Sc rfl fun _ _ _ _ _ _ _ hr=>?_
 conv=>arg 3; whnf
 refine GSs.h ?_
 exact gx
def Wu:Sv:=(sret (va (o2 neD (vr 0) (cn c_END)) (o2 geD (vr 1) (cl 1 (Gi Ku) (ac (vr 0) an)))))
def Qn:Fn:=fnB 2 Wu
def Gil:FnS ["place","level"] ["place","level"] (Gc Zs):=kdF
abbrev z3:=Gc Zs
def Gbx(Al:All P w K mg base):Cal P w K mg base "is_full" ["place","level"] Qn 2:=by
 have Sc:=Gil
 have T:=Al.t
 refine calw (b:=Wu) 1 Al.h.h_is_full Al.g Sc rfl fun _ _ _ _ _ _ _ hr=>?_
 conv=>arg 3; whnf
 refine GSs.h ?_
 have:=Gc6 Al
 exact gx
def Jw:Sv:=(sret (va (o2 eqD (o2 getD (vr 0) (cn (.int 0))) (cn (.str "pound"))) (o2 ltD (vr 1) (o2 getD (vr 0) (cn (.int 2))))))
def Kv:Fn:=fnB 2 Jw
def Gdw:FnS ["place","level"] ["place","level"] (Gc Wc):=kdF
abbrev z4:=Gc Wc
def Gc7(Al:All P w K mg base):Cal P w K mg base "is_shallow" ["place","level"] Kv 1:=by
 have Sc:=Gdw
 refine calw (b:=Jw) 0 Al.h.h_is_shallow Al.g Sc rfl fun _ _ _ _ _ _ _ hr=>?_
 conv=>arg 3; whnf
 refine GSs.h ?_
 exact gx
def Gan:Sv:=(sq (sif (tb (o2 eqD (vr 0) (cn c_END)))
  (sret (cn (.bl true)))
  skip)
  (sret (o2 leD (vr 1) (ie (tb (o2 eqD (vr 0) (cn c_CHAMBER))) (cn (.int 1)) (o2 getD (vr 0) (cn (.int 3)))))))
def Yv:Fn:=fnB 2 Gan
def Gof:FnS ["place","barges"] ["place","barges"] (Gc Gc2):=kdF
abbrev z5:=Gc Gc2
def Gln(Al:All P w K mg base):Cal P w K mg base "holds" ["place","barges"] Yv 1:=by
 have Sc:=Gof
 have T:=Al.t
 refine calw (b:=Gan) 0 Al.h.h_holds Al.g Sc rfl fun _ _ _ _ _ _ _ hr=>?_
 conv=>arg 3; whnf
 refine GSs.h ?_
 exact gx
def Yo:Sv:=(sret (ie (tb (o2 eqD (o2 getD (o2 getD (vr 0) (cn (.int 1))) (vr 1)) (cn c_UP))) (o2 Gu (vr 1) (cn (.int 1))) (vr 1)))
def Yp:Fn:=fnB 2 Yo
def Glo:FnS ["canal","gate"] ["canal","gate"] (Gc Geo):=kdF
def Zt(Al:All P w K mg base):Cal P w K mg base "higher" ["canal","gate"] Yp 1:=by
 have Sc:=Glo
 have T:=Al.t
 refine calw (b:=Yo) 0 Al.h.h_higher Al.g Sc rfl fun _ _ _ _ _ _ _ hr=>?_
 conv=>arg 3; whnf
 refine GSs.h ?_
 exact gx
def Gao:Sv:=(sret (ie (tb (o2 eqD (o2 getD (o2 getD (vr 0) (cn (.int 1))) (vr 1)) (cn c_UP))) (vr 1) (o2 Gu (vr 1) (cn (.int 1)))))
def Gap:Fn:=fnB 2 Gao
def Gog:FnS ["canal","gate"] ["canal","gate"] (Gc Gc3):=kdF
abbrev z7:=Gc Gc3
def Gbc(Al:All P w K mg base):Cal P w K mg base "lower" ["canal","gate"] Gap 1:=by
 have Sc:=Gog
 have T:=Al.t
 refine calw (b:=Gao) 0 Al.h.h_lower Al.g Sc rfl fun _ _ _ _ _ _ _ hr=>?_
 conv=>arg 3; whnf
 refine GSs.h ?_
 exact gx
def Ul:Sv:=(sret (ie (tb (o2 eqD (vr 1) (cn (.str "right")))) (o2 getD (vr 0) (cn (.int 1))) (o2 getD (vr 0) (cn (.int 2)))))
def Vt:Fn:=fnB 2 Ul
def Gff:FnS ["stand","word"] ["stand","word"] (Gc Gag):=kdF
def Zh(Al:All P w K mg base):Cal P w K mg base "barges_of" ["stand","word"] Vt 1:=by
 have Sc:=Gff
 refine calw (b:=Ul) 0 Al.h.h_barges_of Al.g Sc rfl fun _ _ _ _ _ _ _ hr=>?_
 conv=>arg 3; whnf
 refine GSs.h ?_
 exact gx
def Qb:Sv:=(sq (sa (vr 0) (gt (gcons (gn 3) (gcons (gn 4) (gcons (gn 5) gnil))) 3))
  (sret (ie (tb (o2 eqD (vr 1) (cn (.str "right")))) (tp (ac (vr 3) (ac (vr 2) (ac (vr 5) an)))) (tp (ac (vr 3) (ac (vr 4) (ac (vr 2) an)))))))
def Wh:Fn:=fnB 6 Qb
def Gc8:FnS ["stand","word","row","levels","rights","lefts"] ["stand","word","row"] (Gc Yg):=kdF
def Gb4(Al:All P w K mg base):Cal P w K mg base "with_barges" ["stand","word","row"] Wh 1:=by
 have Sc:=Gc8
 refine calw (b:=Qb) 0 Al.h.h_with_barges Al.g Sc rfl fun _ _ _ _ _ _ _ hr=>?_
 conv=>arg 3; whnf
 refine GSs.h ?_
 exact gx
def Um:Sv:=(sret (o2 Gu (o2 Gu (sl2 (vr 0) onone (osome (vr 1))) (tp (ac (o2 Gu (o2 getD (vr 0) (vr 1)) (vr 2)) an))) (sl2 (vr 0) (osome (o2 Gu (vr 1) (cn (.int 1)))) onone)))
def Kk:Fn:=fnB 3 Um
def Gfg:FnS ["row","place","many"] ["row","place","many"] (Gc Gah):=kdF
def Wi(Al:All P w K mg base):Cal P w K mg base "with_more" ["row","place","many"] Kk 1:=by
 have Sc:=Gfg
 refine calw (b:=Um) 0 Al.h.h_with_more Al.g Sc rfl fun _ _ _ _ _ _ _ hr=>?_
 conv=>arg 3; whnf
 refine GSs.h ?_
 exact gx
def Jx:Sv:=(sif (tn (tb (ch leD ltD (cn (.int 0)) (vr 1) (b1 Gy (ac (o2 getD (vr 0) (cn (.int 1))) an)))))
  (srs "NoGate" (ac (cn (.str "there is no such gate")) an))
  skip)
def Vc:Fn:=fnB 2 Jx
def Gdx:FnS ["canal","gate"] ["canal","gate"] (Gc Ze):=kdF
def Yq(Al:All P w K mg base):CalX P w K mg base "check_gate" ["canal","gate"] Vc 3:=by
 have Sc:=Gdx
 have T:=Al.t
 refine calxw (b:=Jx) 2 Al.h.h_check_gate Al.g Sc rfl fun _ _ _ _ _ _ _ _ hr L=>?_
 conv=>arg 3; whnf
 refine GSs.h ?_
 have:=Al.X_NoGate
 exact gx
def Kl:Sv:=(sq (sa (vr 0) (gt (gcons (gn 1) (gcons (gn 2) gnil)) 2))
  (sret (ie (tb (o2 eqD (vr 1) (cn (.str "right")))) (o2 Gu (vr 2) (cn (.int 1))) (vr 2))))
def Km:Fn:=fnB 3 Kl
def Gb5:FnS ["deed","word","gate"] ["deed"] (Gc Xr):=kdF
def Uc(Al:All P w K mg base):Cal P w K mg base "place_behind" ["deed"] Km 1:=by
 have Sc:=Gb5
 refine calw (b:=Kl) 0 Al.h.h_place_behind Al.g Sc rfl fun _ _ _ _ _ _ _ hr=>?_
 conv=>arg 3; whnf
 refine GSs.h ?_
 exact gx
def Qc:Sv:=(sq (sa (o2 getD (vr 0) (cn (.int 0))) (gn 3))
  (sq (sa (cl 2 (Gi Yp) (ac (vr 0) (ac (vr 2) an))) (gn 4))
  (sq (sa (cl 2 (Gi Gap) (ac (vr 0) (ac (vr 2) an))) (gn 5))
  (sq (sif (ta (tb (o2 eqD (o2 getD (vr 3) (vr 4)) (cn c_CHAMBER))) (tb (o2 eqD (o2 getD (vr 1) (vr 4)) (cn (.int 1)))))
  (srs "Uneven" (ac (cn (.str "the higher chamber is full")) an))
  skip)
  (sq (sif (ta (tb (o2 eqD (o2 getD (vr 3) (vr 5)) (cn c_CHAMBER))) (tb (o2 eqD (o2 getD (vr 1) (vr 5)) (cn (.int 0)))))
  (srs "Uneven" (ac (cn (.str "the lower chamber is empty")) an))
  skip)
  (sif (to (tt (cl 2 (Gi Kv) (ac (o2 getD (vr 3) (vr 4)) (ac (o2 getD (vr 1) (vr 4)) an)))) (tt (cl 2 (Gi Kv) (ac (o2 getD (vr 3) (vr 5)) (ac (o2 getD (vr 1) (vr 5)) an)))))
  (srs "Shallow" (ac (cn (.str "the pound's level is below its deep")) an))
  skip))))))
def Wj:Fn:=fnB 6 Qc
def Gc9:FnS ["canal","levels","gate","places","high","low"] ["canal","levels","gate"] (Gc Yh):=kdF
def Gb6(Al:All P w K mg base):CalX P w K mg base "check_water" ["canal","levels","gate"] Wj 3:=by
 have Sc:=Gc9
 have T:=Al.t
 refine calxw (b:=Qc) 2 Al.h.h_check_water Al.g Sc rfl fun _ _ _ _ _ _ _ _ hr L=>?_
 conv=>arg 3; whnf
 refine GSs.h ?_
 have:=Zt Al
 have:=Gbc Al
 have:=Gc7 Al
 have:=Al.X_Uneven
 have:=Al.X_Shallow
 exact gx
def Qd:Sv:=(sq (sa (vr 0) (gt (gcons (gn 1) (gcons (gn 2) gnil)) 2))
  (sret (ie (tb (o2 eqD (vr 1) (cn (.str "right")))) (vr 2) (o2 Gu (vr 2) (cn (.int 1))))))
def Ug:Fn:=fnB 3 Qd
def Gda:FnS ["deed","word","gate"] ["deed"] (Gc Yi):=kdF
def Xt(Al:All P w K mg base):Cal P w K mg base "place_ahead" ["deed"] Ug 1:=by
 have Sc:=Gda
 refine calw (b:=Qd) 0 Al.h.h_place_ahead Al.g Sc rfl fun _ _ _ _ _ _ _ hr=>?_
 conv=>arg 3; whnf
 refine GSs.h ?_
 exact gx
def Jn:Sv:=(sq (sa (vr 2) (gt (gcons (gn 3) (gcons (gn 4) gnil)) 2))
  (sq (sx (cl 2 (gX ys Vc) (ac (vr 0) (ac (vr 4) an))))
  (sq (sif (tb (o2 eqD (o2 getD (cl 2 (Gi Vt) (ac (vr 1) (ac (vr 3) an))) (cl 1 (Gi Ug) (ac (vr 2) an))) (cn (.int 0))))
  (srs "NoBarge" (ac (cn (.str "there is no barge that goes this way")) an))
  skip)
  (sq (sa (cl 1 (Gi Km) (ac (vr 2) an)) (gn 5))
  (sq (sif (tn (tt (cl 2 (Gi Yv) (ac (o2 getD (o2 getD (vr 0) (cn (.int 0))) (vr 5)) (ac (o2 Gu (o2 Gu (o2 getD (o2 getD (vr 1) (cn (.int 1))) (vr 5)) (o2 getD (o2 getD (vr 1) (cn (.int 2))) (vr 5))) (cn (.int 1))) an)))))
  (srs "NoRoom" (ac (cn (.str "the place that the barge comes to has no room")) an))
  skip)
  (sx (cl 3 (gX ys Wj) (ac (vr 0) (ac (o2 getD (vr 1) (cn (.int 0))) (ac (vr 4) an))))))))))
def Qs:Fn:=fnB 6 Jn
def Gdy:FnS ["canal","stand","deed","word","gate","target"] ["canal","stand","deed"] (Gc Zf):=kdF
def Gdb(Al:All P w K mg base):CalX P w K mg base "check_move" ["canal","stand","deed"] Qs 4:=by
 have Sc:=Gdy
 have T:=Al.t
 refine calxw (b:=Jn) 3 Al.h.h_check_move Al.g Sc rfl fun _ _ _ _ _ _ _ _ hr L=>?_
 conv=>arg 3; whnf
 refine GSs.h ?_
 have:=Yq Al
 have:=Zh Al
 have:=Xt Al
 have:=Uc Al
 have:=Gln Al
 have:=Gb6 Al
 have:=Al.X_NoBarge
 have:=Al.X_NoRoom
 exact gx
def Jt:Sv:=(sq (sx (cl 2 (gX ys Vc) (ac (vr 0) (ac (vr 2) an))))
  (sq (spar 3 4 (ac (o2 getD (vr 0) (cn (.int 0))) (ac (o2 getD (vr 1) (cn (.int 0))) an)))
  (sq (sa (cl 2 (Gi Yp) (ac (vr 0) (ac (vr 2) an))) (gn 5))
  (sq (sa (cl 2 (Gi Gap) (ac (vr 0) (ac (vr 2) an))) (gn 6))
  (sq (sif (tt (cl 2 (Gi Gam) (ac (o2 getD (vr 3) (vr 5)) (ac (o2 getD (vr 4) (vr 5)) an))))
  (srs "Dry" (ac (cn (.str "the higher place has no lockful")) an))
  skip)
  (sif (tt (cl 2 (Gi Qn) (ac (o2 getD (vr 3) (vr 6)) (ac (o2 getD (vr 4) (vr 6)) an))))
  (srs "Full" (ac (cn (.str "the lower place takes no lockful")) an))
  skip))))))
def Vu:Fn:=fnB 7 Jt
def Gfh:FnS ["canal","stand","gate","places","levels","high","low"] ["canal","stand","gate"] (Gc Xh):=kdF
abbrev z16:=Gc Xh
def Ha4:OkC z16 "levels":=⟨by decide +kernel⟩
def Ha5:OkC z16 "places":=⟨by decide +kernel⟩
def Gdz(Al:All P w K mg base):CalX P w K mg base "check_let" ["canal","stand","gate"] Vu 4:=by
 have Sc:=Gfh
 have T:=Al.t
 refine calxw (b:=Jt) 3 Al.h.h_check_let Al.g Sc rfl fun _ _ _ _ _ _ _ _ hr L=>?_
 conv=>arg 3; whnf
 refine GSs.h ?_
 exact(Gh (Gae (Gr1 z16 T.xt.xns L (Yq Al) hr (Ga (gw 0 Sc) (Ga (gw 2 Sc) BE Gf) Gf)))
  (Gh (Gn3 3 4 rfl Sc.nd rfl rfl (by decide) Ha5.h Ha4.h (Ga (Gv (gw 0 Sc) ge_int) (Ga (Gv (gw 1 Sc) ge_int) BE Gq) Gq) (by rfl))
  (Gh (gsew 5 Sc (gow z16 (Zt Al) hr (Ga (gw 0 Sc) (Ga (gw 2 Sc) BE Gf) Gf)))
  (Gh (gsew 6 Sc (gow z16 (Gbc Al) hr (Ga (gw 0 Sc) (Ga (gw 2 Sc) BE Gf) Gf)))
  (Gh (Js (Uv (gow z16 (Gik Al) hr (Ga (Gv (gw 3 Sc) (gw 5 Sc)) (Ga (Gv (gw 4 Sc) (gw 5 Sc)) BE Gq) Gq)))
  (Gm (Ggu z16 L Al.X_Dry hr (Ga Hc BE Gb)))
  Hu)
  (Gm (Js (Uv (gow z16 (Gbx Al) hr (Ga (Gv (gw 3 Sc) (gw 6 Sc)) (Ga (Gv (gw 4 Sc) (gw 6 Sc)) BE Gq) Gq)))
  (Gm (Ggu z16 L Al.X_Full hr (Ga Hc BE Gb)))
  Hu)))))))
def Qt:Sv:=(sq (spar 3 4 (ac (o2 getD (vr 0) (cn (.int 0))) (ac (o2 getD (vr 1) (cn (.int 0))) an)))
  (sq (sif (to (tn (tb (ch leD ltD (cn (.int 0)) (vr 2) (b1 Gy (ac (vr 3) an))))) (tn (tt (cl 1 (Gi Qq) (ac (o2 getD (vr 3) (vr 2)) an)))))
  (srs "NoSpring" (ac (cn (.str "there is no spring at this place")) an))
  skip)
  (sif (tt (cl 2 (Gi Qn) (ac (o2 getD (vr 3) (vr 2)) (ac (o2 getD (vr 4) (vr 2)) an))))
  (srs "Full" (ac (cn (.str "the pound is at its brim")) an))
  skip)))
def Vd:Fn:=fnB 5 Qt
def Gd0:FnS ["canal","stand","number","places","levels"] ["canal","stand","number"] (Gc We):=kdF
abbrev z17:=Gc We
def Ha6:OkC z17 "levels":=⟨by decide +kernel⟩
def Ha7:OkC z17 "places":=⟨by decide +kernel⟩
def Gdc(Al:All P w K mg base):CalX P w K mg base "check_feed" ["canal","stand","number"] Vd 3:=by
 have Sc:=Gd0
 have T:=Al.t
 refine calxw (b:=Qt) 2 Al.h.h_check_feed Al.g Sc rfl fun _ _ _ _ _ _ _ _ hr L=>?_
 conv=>arg 3; whnf
 refine GSs.h ?_
 exact(Gh (Gn3 3 4 rfl Sc.nd rfl rfl (by decide) Ha7.h Ha6.h (Ga (Gv (gw 0 Sc) ge_int) (Ga (Gv (gw 1 Sc) ge_int) BE Gq) Gq) (by rfl))
  (Gh (Js (GW.jt (Ye (Xe (Ggt Gl5 Gtv Gi4 Gtu ge_int (gw 2 Sc) (Jg (gG z17) T.b_len (Ga (gw 3 Sc) BE Gf)))) (Zo (Xe (Uv (gow z17 (Gc5 Al) hr (Ga (Gv (gw 3 Sc) (gw 2 Sc)) BE Gq)))))))
  (Gm (Ggu z17 L Al.X_NoSpring hr (Ga Hc BE Gb)))
  Hu)
  (Gm (Js (Uv (gow z17 (Gbx Al) hr (Ga (Gv (gw 3 Sc) (gw 2 Sc)) (Ga (Gv (gw 4 Sc) (gw 2 Sc)) BE Gq) Gq)))
  (Gm (Ggu z17 L Al.X_Full hr (Ga Hc BE Gb)))
  Hu))))
def Gaq:Sv:=(sq (sa (o2 getD (vr 1) (cn (.int 0))) (gn 2))
  (sq (sa (cl 3 (Gi Kk) (ac (cl 2 (Gi Vt) (ac (vr 0) (ac (vr 2) an))) (ac (cl 1 (Gi Ug) (ac (vr 1) an)) (ac (o1 Ggl (cn (.int 1))) an)))) (gn 3))
  (sret (cl 3 (Gi Wh) (ac (vr 0) (ac (vr 2) (ac (cl 3 (Gi Kk) (ac (vr 3) (ac (cl 1 (Gi Km) (ac (vr 1) an)) (ac (cn (.int 1)) an)))) an)))))))
def Gb9:Fn:=fnB 4 Gaq
def Goh:FnS ["stand","deed","word","row"] ["stand","deed"] (Gc Gg1):=kdF
def Glp(Al:All P w K mg base):Cal P w K mg base "moved" ["stand","deed"] Gb9 2:=by
 have Sc:=Goh
 refine calw (b:=Gaq) 1 Al.h.h_moved Al.g Sc rfl fun _ _ _ _ _ _ _ hr=>?_
 conv=>arg 3; whnf
 refine GSs.h ?_
 have:=Wi Al
 have:=Zh Al
 have:=Xt Al
 have:=Gb4 Al
 have:=Uc Al
 exact gx
def Kw:Sv:=(sq (sif (tb (o2 eqD (o2 getD (o2 getD (vr 0) (cn (.int 0))) (vr 2)) (cn c_END)))
  (sret (vr 1))
  skip)
  (sret (cl 3 (Gi Kk) (ac (vr 1) (ac (vr 2) (ac (vr 3) an))))))
def Ve:Fn:=fnB 4 Kw
def Gd1:FnS ["canal","levels","place","many"] ["canal","levels","place","many"] (Gc Zg):=kdF
def Gdd(Al:All P w K mg base):Cal P w K mg base "with_water" ["canal","levels","place","many"] Ve 2:=by
 have Sc:=Gd1
 have T:=Al.t
 refine calw (b:=Kw) 1 Al.h.h_with_water Al.g Sc rfl fun _ _ _ _ _ _ _ hr=>?_
 conv=>arg 3; whnf
 refine GSs.h ?_
 have:=Wi Al
 exact gx
def Vl:Sv:=(sq (sa (vr 1) (gt (gcons (gn 3) (gcons (gn 4) (gcons (gn 5) gnil))) 3))
  (sq (sa (cl 4 (Gi Ve) (ac (vr 0) (ac (vr 3) (ac (cl 2 (Gi Yp) (ac (vr 0) (ac (vr 2) an))) (ac (o1 Ggl (cn (.int 1))) an))))) (gn 3))
  (sq (sa (cl 4 (Gi Ve) (ac (vr 0) (ac (vr 3) (ac (cl 2 (Gi Gap) (ac (vr 0) (ac (vr 2) an))) (ac (cn (.int 1)) an))))) (gn 3))
  (sret (tp (ac (vr 3) (ac (vr 4) (ac (vr 5) an))))))))
def Zu:Fn:=fnB 6 Vl
def Gg2:FnS ["canal","stand","gate","levels","rights","lefts"] ["canal","stand","gate"] (Gc Gbu):=kdF
def Gfi(Al:All P w K mg base):Cal P w K mg base "let_down" ["canal","stand","gate"] Zu 3:=by
 have Sc:=Gg2
 refine calw (b:=Vl) 2 Al.h.h_let_down Al.g Sc rfl fun _ _ _ _ _ _ _ hr=>?_
 conv=>arg 3; whnf
 refine GSs.h ?_
 have:=Gdd Al
 have:=Zt Al
 have:=Gbc Al
 exact gx
def Kn:Sv:=(sret (o2 eqD (cl 1 (Gi Km) (ac (vr 1) an)) (ie (tb (o2 eqD (o2 getD (vr 1) (cn (.int 0))) (cn (.str "right")))) (o2 Ql (b1 Gy (ac (o2 getD (vr 0) (cn (.int 0))) an)) (cn (.int 1))) (cn (.int 0)))))
def Qu:Fn:=fnB 2 Kn
def Gb7:FnS ["canal","deed"] ["canal","deed"] (Gc Xs):=kdF
def Gbd(Al:All P w K mg base):Cal P w K mg base "is_last_move" ["canal","deed"] Qu 2:=by
 have Sc:=Gb7
 have T:=Al.t
 refine calw (b:=Kn) 1 Al.h.h_is_last_move Al.g Sc rfl fun _ _ _ _ _ _ _ hr=>?_
 conv=>arg 3; whnf
 refine GSs.h ?_
 have:=Uc Al
 exact gx
def Gz:Sv:=(sq (sa (vr 2) (gt (gcons (gn 3) (gcons (gn 4) gnil)) 2))
  (sq (sif (tb (o2 eqD (vr 3) (cn (.str "let"))))
  (sq (sx (cl 3 (gX ys Vu) (ac (vr 0) (ac (vr 1) (ac (vr 4) an)))))
  (sret (tp (ac (cl 3 (Gi Zu) (ac (vr 0) (ac (vr 1) (ac (vr 4) an)))) (ac (cn (.int 0)) (ac (cn (.int 0)) an))))))
  skip)
  (sq (sif (tb (o2 eqD (vr 3) (cn (.str "feed"))))
  (sq (sx (cl 3 (gX ys Vd) (ac (vr 0) (ac (vr 1) (ac (vr 4) an)))))
  (sq (sa (vr 1) (gt (gcons (gn 5) (gcons (gn 6) (gcons (gn 7) gnil))) 3))
  (sret (tp (ac (tp (ac (cl 3 (Gi Kk) (ac (vr 5) (ac (vr 4) (ac (cn (.int 1)) an)))) (ac (vr 6) (ac (vr 7) an)))) (ac (o2 getD (o2 getD (o2 getD (vr 0) (cn (.int 0))) (vr 4)) (cn (.int 4))) (ac (cn (.int 0)) an)))))))
  skip)
  (sq (sx (cl 3 (gX ys Qs) (ac (vr 0) (ac (vr 1) (ac (vr 2) an)))))
  (sret (tp (ac (cl 2 (Gi Gb9) (ac (vr 1) (ac (vr 2) an))) (ac (cn (.int 0)) (ac (ie (tt (cl 2 (Gi Qu) (ac (vr 0) (ac (vr 2) an)))) (cn (.int 1)) (cn (.int 0))) an)))))))))
def Hi:Fn:=fnB 8 Gz
def Gfj:FnS ["canal","stand","deed","word","number","levels","rights","lefts"] ["canal","stand","deed"] (Gc Gai):=kdF
def Gd2(Al:All P w K mg base):CalX P w K mg base "deed_done" ["canal","stand","deed"] Hi 5:=by
 have Sc:=Gfj
 have T:=Al.t
 refine calxw (b:=Gz) 4 Al.h.h_deed_done Al.g Sc rfl fun _ _ _ _ _ _ _ _ hr L=>?_
 conv=>arg 3; whnf
 refine GSs.h ?_
 have:=Gdz Al
 have:=Gfi Al
 have:=Gdc Al
 have:=Wi Al
 have:=Gdb Al
 have:=Glp Al
 have:=Gbd Al
 exact gx
def Vm:Sv:=(sq (sa (vr 0) (gt (gcons (gn 1) (gcons (gn 2) gnil)) 2))
  (sq (sa (cmp (ir1 (ac (b1 Gy (ac (vr 2) an)) an)) [none] (gn 0) ttrue (tp (ac (cn (.str "let")) (ac (vr 0) an)))) (gn 3))
  (sq (sa (cmp (ir1 (ac (b1 Gy (ac (vr 1) an)) an)) [none] (gn 0) ttrue (tp (ac (cn (.str "feed")) (ac (vr 0) an)))) (gn 4))
  (sq (sa (cmp (ir1 (ac (b1 Gy (ac (vr 2) an)) an)) [none] (gn 0) ttrue (tp (ac (cn (.str "right")) (ac (vr 0) an)))) (gn 5))
  (sq (sa (cmp (ir1 (ac (b1 Gy (ac (vr 2) an)) an)) [none] (gn 0) ttrue (tp (ac (cn (.str "left")) (ac (vr 0) an)))) (gn 6))
  (sret (o2 Gu (o2 Gu (o2 Gu (vr 3) (vr 4)) (vr 5)) (vr 6))))))))
def Xj:Fn:=fnB 7 Vm
def Gg3:FnS ["canal","places","gates","lets","feeds","rights","lefts"] ["canal"] (Gc Yj):=kdF
abbrev z23:=Gc Yj
def Gfk(Al:All P w K mg base):Cal P w K mg base "deeds_of" ["canal"] Xj 1:=by
 have Sc:=Gg3
 have T:=Al.t
 refine calw (b:=Vm) 0 Al.h.h_deeds_of Al.g Sc rfl fun _ _ _ _ _ _ _ hr=>?_
 conv=>arg 3; whnf
 refine GSs.h ?_
 exact(Gh (Gcz (gw 0 Sc) (Zp rfl (Jl (ggw 1 Sc) (Jl (ggw 2 Sc) Xf))))
  (Gh (Gc0 3 (N':=["gate"]) (pk:=[none]) Sc (Qz (gG z23) T.b_range (Ga (Jg (gG z23) T.b_len (Ga (gw 2 Sc) BE Gf)) BE Ho)) (fun cl s2 H2 C fp=>(Gaf 0)) (fun cl s2 H2 C fp=>Xg) (fun cl s2 H2 C fp=>(Ht (Ga Hc (Ga (Zc 0) BE Gf) Gb))))
  (Gh (Gc0 4 (N':=["place"]) (pk:=[none]) Sc (Qz (gG z23) T.b_range (Ga (Jg (gG z23) T.b_len (Ga (gw 1 Sc) BE Gf)) BE Ho)) (fun cl s2 H2 C fp=>(Gaf 0)) (fun cl s2 H2 C fp=>Xg) (fun cl s2 H2 C fp=>(Ht (Ga Hc (Ga (Zc 0) BE Gf) Gb))))
  (Gh (Gc0 5 (N':=["gate"]) (pk:=[none]) Sc (Qz (gG z23) T.b_range (Ga (Jg (gG z23) T.b_len (Ga (gw 2 Sc) BE Gf)) BE Ho)) (fun cl s2 H2 C fp=>(Gaf 0)) (fun cl s2 H2 C fp=>Xg) (fun cl s2 H2 C fp=>(Ht (Ga Hc (Ga (Zc 0) BE Gf) Gb))))
  (Gh (Gc0 6 (N':=["gate"]) (pk:=[none]) Sc (Qz (gG z23) T.b_range (Ga (Jg (gG z23) T.b_len (Ga (gw 2 Sc) BE Gf)) BE Ho)) (fun cl s2 H2 C fp=>(Gaf 0)) (fun cl s2 H2 C fp=>Xg) (fun cl s2 H2 C fp=>(Ht (Ga Hc (Ga (Zc 0) BE Gf) Gb))))
  (Gm (Ja (Kh (Kh (Kh (gw 3 Sc) (gw 4 Sc)) (gw 5 Sc)) (gw 6 Sc)))))))))
def Qe:Sv:=(sa (clv 2 "deed_done" 3 (gX ys Hi) (ac (vr 0) (ac (vr 1) (ac (vr 4) an)))) (gt (gcons (gn 5) (gcons (gn 6) (gcons (gn 7) gnil))) 3))
def Gd3:Sv:=sct
def Kg:Sv:=(sq (Wp ys (Grp Gd3) Qe)
  (sx (mt Gdr (vr 3) (ac (tp (ac (vr 4) (ac (vr 5) (ac (vr 6) (ac (vr 7) an))))) an))))
def Vn:Sv:=(sq (sa (ls an) (gn 3))
  (sq (sfor (isrc (cl 1 (Gi Xj) (ac (vr 0) an))) (gn 4) Kg)
  (sret (vr 3))))
def Ud:Fn:=fnB 8 Vn
def Gg4:FnS ["canal","stand","done","steps","deed","behind","price","gain"] ["canal","stand","done"] (Gc Yk):=kdF
abbrev z24:=Gc Yk
def Zi:Gw "SummitError"=true:=by decide +kernel
def Gfl(Al:All P w K mg base):Cal P w K mg base "steps_by" ["canal","stand","done"] Ud 6:=by
 have Sc:=Gg4
 have T:=Al.t
 refine calw (b:=Vn) 5 Al.h.h_steps_by Al.g Sc rfl fun _ _ _ _ _ _ _ hr=>?_
 conv=>arg 3; whnf
 refine GSs.h ?_
 exact(Gh (gsew 3 Sc (Hg BE))
  (Gh (Zq PassesOwn.never rfl (Ga9 (gow z24 (Gfk Al) hr (Ga (gw 0 Sc) BE Gf))) (ggw 4 Sc)
  (Gh (Grz ⟨rfl,rfl,rfl⟩ T.xt.cat (gG z24) Zi (fun pn xe XQ L=>(Gm (Gcz (Hay 2 Sc T.xt.xns L (Gd2 Al) hr (Ga (gw 0 Sc) (Ga (gw 1 Sc) (Ga (gw 4 Sc) BE Gf) Gf) Gf)) (Zp rfl (Jl (ggw 5 Sc) (Jl (ggw 6 Sc) (Jl (ggw 7 Sc) Xf)))))))
  (fun a=>(Gm Gbs)))
  (Gm (Gae (Ga8 (gw 3 Sc) (Ga (Ht (Ga (gw 4 Sc) (Ga (gw 5 Sc) (Ga (gw 6 Sc) (Ga (gw 7 Sc) BE Gf) Gf) Gf) Gf)) BE Hn))))))
  (Gm (Ja (gw 3 Sc)))))
def Ko:Sv:=(sif (tb (o2 (Gfe true) (vr 8) (vr 5)))
  (sq (ss (cn (.bl true)) (vr 5) (vr 8) dsetD)
  (sx (mt Gdr (vr 4) (ac (tp (ac (vr 8) (ac (vr 6) (ac (vr 7) an)))) an))))
  skip)
def Ju:Sv:=(sq (sif (tb (o2 gtD (b1 Gy (ac (vr 4) an)) (vr 2)))
  (srs "TooMany" (ac (cn (.str "more stands are met than the limit")) an))
  skip)
  (sq (sfor (isrc (cl 3 (Gi Ud) (ac (vr 0) (ac (o2 getD (o2 getD (vr 4) (vr 6)) (cn (.int 0))) (ac (vr 3) an))))) (gt (gcons (gn 7) (gcons (gn 8) (gcons (gn 9) (gcons (gn 10) gnil)))) 4) Ko)
  (sag 6 (fun a b=>a+b) (cn (.int 1)))))
def Kq:Ev Bool:=(tb (o2 ltD (vr 6) (b1 Gy (ac (vr 4) an))))
def Gar:Sv:=(sq (sa (ls (ac (tp (ac (vr 1) (ac (cn .non) (ac (cn .non) an)))) an)) (gn 4))
  (sq (sa (Zd (vr 1) (cn (.bl true))) (gn 5))
  (sq (sa (cn (.int 0)) (gn 6))
  (sq (whN Kq Ju 3000)
  (sret (vr 4))))))
def Wv:Fn:=fnB 11 Gar
def Glq:FnS ["canal","stand","limit","done","told","seen","at","deed","behind","price","gain"] ["canal","stand","limit","done"] (Gc Gep):=kdF
def Gim(Al:All P w K mg base):CalX P w K mg base "met_by" ["canal","stand","limit","done"] Wv 7:=by
 have Sc:=Glq
 have T:=Al.t
 refine calxw (b:=Gar) 6 Al.h.h_met_by Al.g Sc rfl fun _ _ _ _ _ _ _ _ hr L=>?_
 conv=>arg 3; whnf
 refine GSs.h ?_
 have:=Gfl Al
 have:=Al.X_TooMany
 exact gx
def Gjv:Sv:=(sret (cl 4 (gX ys Wv) (ac (vr 0) (ac (vr 1) (ac (vr 2) (ac (cn (.fv "deed_done")) an))))))
def Ww:Fn:=fnB 3 Gjv
def Gx2:FnS ["canal","stand","limit"] ["canal","stand","limit"] (Gc Gij):=kdF
abbrev z26:=Gc Gij
def Gfm(Al:All P w K mg base):CalD P w K mg base "met" ["canal","stand","limit"] Ww 600 8:=by
 have Sc:=Gx2
 have T:=Al.t
 refine caldw (b:=Gjv) 7 Al.h.h_met Al.g Sc rfl (fun _ _ _ _ _ _ _ _ hr L=>?_) (fun s T o t n kV doc pm an cdv ct us hl ho hd=>match us,hl with | [_,_,_],_=>.of_defaults rfl ho hd rfl rfl) (fun s T o t n kV doc pm an cdv ct us hl ho hd=>match us,hl with | [_,_],_=>.of_defaults rfl ho hd rfl rfl)
 conv=>arg 3; whnf
 refine GSs.h ?_
 exact(Gm (Ja (Gr1 z26 T.xt.xns L (Gim Al) hr (Ga (gw 0 Sc) (Ga (gw 1 Sc) (Ga (gw 2 Sc) (Ga (Gxn T.fv_deed_done (gG z26) (by decide +kernel)) BE Gf) Gf) Gf) Gf))))
def Uo:Sv:=(sret (ls (ac (b1 Qo (ac (sl2 (vr 0) onone (osome (cn (.int 63)))) an)) (ac (cn (.int 0)) (ac (cn (.int 0)) an)))))
def Vv:Fn:=fnB 1 Uo
def Gfn:FnS ["_law_script"] ["_law_script"] (Gc Gaj):=kdF
def Gd4(Al:All P w K mg base):Cal P w K mg base "_law_tape" ["_law_script"] Vv 1:=by
 have Sc:=Gfn
 have T:=Al.t
 refine calw (b:=Uo) 0 Al.h.h__law_tape Al.g Sc rfl fun _ _ _ _ _ _ _ hr=>?_
 conv=>arg 3; whnf
 refine GSs.h ?_
 exact gx
def Kr:Sv:=(sq (sif (tb (o2 gtD (o2 getD (vr 0) (cn (.int 2))) (cn (.int 0))))
  (sq (sa (o2 Xb (o2 getD (vr 0) (cn (.int 2))) (vr 1)) (gn 2))
  (sq (ss (o2 Vs (o2 getD (vr 0) (cn (.int 2))) (vr 1)) (vr 0) (cn (.int 2)) Hm)
  (sret (vr 2))))
  skip)
  (sq (sa (o2 getD (vr 0) (cn (.int 1))) (gn 3))
  (sq (ss (o2 Gu (vr 3) (cn (.int 1))) (vr 0) (cn (.int 1)) Hm)
  (sq (sa (cn (.int 0)) (gn 4))
  (sq (sif (tb (o2 gtD (b1 Gy (ac (o2 getD (vr 0) (cn (.int 0))) an)) (cn (.int 0))))
  (sa (o2 getD (o2 getD (vr 0) (cn (.int 0))) (o2 Xb (vr 3) (b1 Gy (ac (o2 getD (vr 0) (cn (.int 0))) an)))) (gn 4))
  skip)
  (sq (sif (ta (tb (o2 ltD (vr 3) (b1 Gy (ac (o2 getD (vr 0) (cn (.int 0))) an)))) (tb (o2 geD (vr 4) (o2 Gfa (cn (.int 10)) (cn (.int 18))))))
  (sq (ss (o2 Vs (vr 4) (vr 1)) (vr 0) (cn (.int 2)) Hm)
  (sret (o2 Xb (vr 4) (vr 1))))
  skip)
  (sq (sa (o2 Xb (o2 Jc (o2 Gu (o2 Xb (vr 4) (cn (.int 1000003))) (cn (.int 1))) (o2 Gu (o2 Gu (o2 Jc (o2 Jc (cn (.int 7919)) (vr 3)) (vr 3)) (o2 Jc (cn (.int 104729)) (vr 3))) (cn (.int 12345)))) (cn (.int 2147483647))) (gn 5))
  (sq (sa (o2 Xb (o2 Gu (o2 Gu (o2 Jc (vr 5) (vr 5)) (o2 Jc (cn (.int 48271)) (vr 3))) (o2 Xb (vr 4) (cn (.int 65537)))) (cn (.int 2147483629))) (gn 5))
  (sret (o2 Xb (o2 Vs (vr 5) (cn (.int 8))) (vr 1)))))))))))
def Gg:Fn:=fnB 6 Kr
def Gfo:FnS ["_law_tape_here","_law_many","_law_digit","_law_at","_law_cell","_law_mixed"] ["_law_tape_here","_law_many"] (Gc Gak):=kdF
def Gr(Al:All P w K mg base):Cal P w K mg base "_law_draw" ["_law_tape_here","_law_many"] Gg 1:=by
 have Sc:=Gfo
 have T:=Al.t
 refine calw (b:=Kr) 0 Al.h.h__law_draw Al.g Sc rfl fun _ _ _ _ _ _ _ hr=>?_
 conv=>arg 3; whnf
 refine GSs.h ?_
 exact gx
def Ux:Sv:=(sq (sa (b1 Gld (ac (cn (.int 2)) (ac (vr 1) an))) (gn 2))
  (sq (sa (ls (ac (tp (ac (cn (.int 0)) (ac (cn (.int 0)) an))) (ac (tp (ac (cn (.int 0)) (ac (cn (.int 0)) an))) (ac (tp (ac (vr 2) (ac (cn (.int 0)) an))) (ac (tp (ac (cn (.int 0)) (ac (vr 2) an))) (ac (tp (ac (cn (.int 1)) (ac (cn (.int 0)) an))) (ac (tp (ac (cn (.int 0)) (ac (cn (.int 1)) an))) (ac (tp (ac (cn (.int 1)) (ac (o2 Ql (vr 2) (cn (.int 1))) an))) (ac (tp (ac (o2 Ql (vr 2) (cn (.int 1))) (ac (cn (.int 1)) an))) an))))))))) (gn 3))
  (sret (o2 getD (vr 3) (cl 2 (Gi Gg) (ac (vr 0) (ac (cn (.int 8)) an)))))))
def Qi:Fn:=fnB 4 Ux
def Gbe:FnS ["_law_tape_here","_law_room","_law_two","_law_some"] ["_law_tape_here","_law_room"] (Gc Ua):=kdF
abbrev z29:=Gc Ua
def Gas(Al:All P w K mg base):Cal P w K mg base "_law_in_pound" ["_law_tape_here","_law_room"] Qi 2:=by
 have Sc:=Gbe
 have T:=Al.t
 refine calw (b:=Ux) 1 Al.h.h__law_in_pound Al.g Sc rfl fun _ _ _ _ _ _ _ hr=>?_
 conv=>arg 3; whnf
 refine GSs.h ?_
 exact(Gh (gsew 2 Sc (Gxt rfl (gG z29) T.b_min (Ga ge_int (Ga (gw 1 Sc) BE Gf) Gb)))
  (Gh (gsew 3 Sc (Hg (Ga (Ht (Ga ge_int (Ga ge_int BE Gb) Gb)) (Ga (Ht (Ga ge_int (Ga ge_int BE Gb) Gb)) (Ga (Ht (Ga (gw 2 Sc) (Ga ge_int BE Gb) Gf)) (Ga (Ht (Ga ge_int (Ga (gw 2 Sc) BE Gf) Gb)) (Ga (Ht (Ga ge_int (Ga ge_int BE Gb) Gb)) (Ga (Ht (Ga ge_int (Ga ge_int BE Gb) Gb)) (Ga (Ht (Ga ge_int (Ga (Yc (gw 2 Sc) ge_int) BE Jj) Gb)) (Ga (Ht (Ga (Yc (gw 2 Sc) ge_int) (Ga ge_int BE Gb) Jj)) BE Hn) Hn) Hn) Hn) Hn) Hn) Hn) Hn)))
  (Gm (Ja (Gv (gw 3 Sc) (gow z29 (Gr Al) hr (Ga (gw 0 Sc) (Ga ge_int BE Gb) Gf)))))))
def Qj:Sv:=(sq (sa (o2 getD (ls (ac (cn (.int 2)) (ac (cn (.int 2)) (ac (cn (.int 3)) an)))) (cl 2 (Gi Gg) (ac (vr 0) (ac (cn (.int 3)) an)))) (gn 2))
  (sq (sa (cl 2 (Gi Gg) (ac (vr 0) (ac (cn (.int 2)) an))) (gn 3))
  (sq (sa (o2 getD (ls (ac (cn (.int 0)) (ac (cn (.int 0)) (ac (cn (.int 1)) an)))) (cl 2 (Gi Gg) (ac (vr 0) (ac (cn (.int 3)) an)))) (gn 4))
  (sq (sa (cl 2 (Gi Gg) (ac (vr 0) (ac (cn (.int 2)) an))) (gn 5))
  (sq (sa (ls (ac (ls (ac (cn (.int 0)) (ac (cn (.int 1)) (ac (vr 3) (ac (cn (.int 1)) (ac (cn (.int 0)) an)))))) (ac (o2 Jc (ls (ac (cn (.int 0)) an)) (cn (.int 5))) (ac (o2 Jc (ls (ac (cn (.int 0)) an)) (cn (.int 5))) an)))) (gn 6))
  (sq (ss (vr 2) (o2 getD (vr 6) (vr 1)) (cn (.int 2)) Hm)
  (sq (ss (cn (.int 1)) (o2 getD (vr 6) (o2 Ql (cn (.int 3)) (vr 1))) (o2 getD (ls (ac (cn (.int 0)) (ac (cn (.int 3)) (ac (cn (.int 1)) an)))) (vr 1)) Hm)
  (sq (ss (vr 5) (o2 getD (vr 6) (vr 1)) (o2 getD (ls (ac (cn (.int 0)) (ac (cn (.int 0)) (ac (cn (.int 4)) an)))) (vr 1)) Hm)
  (sq (sif (tb (o2 eqD (cl 2 (Gi Gg) (ac (vr 0) (ac (cn (.int 3)) an))) (cn (.int 0))))
  (sq (sa (cn (.int 2)) (gn 2))
  (sa (ls (ac (ls (ac (cn (.int 0)) (ac (cn (.int 1)) (ac (vr 3) (ac (cn (.int 1)) (ac (cn (.int 0)) an)))))) (ac (ls (ac (vr 5) (ac (cn (.int 1)) (ac (cn (.int 1)) (ac (cn (.int 0)) (ac (cn (.int 0)) an)))))) (ac (ls (ac (cn (.int 0)) (ac (cn (.int 0)) (ac (cn (.int 1)) (ac (cn (.int 1)) (ac (cn (.int 0)) an)))))) an)))) (gn 6)))
  skip)
  (sq (sa (tp (ac (tp (ac (cn (.str "end")) an)) (ac (tp (ac (cn (.str "chamber")) an)) (ac (tp (ac (cn (.str "pound")) (ac (cn (.int 1)) (ac (vr 4) (ac (vr 2) (ac (cn .non) an)))))) (ac (tp (ac (cn (.str "chamber")) an)) (ac (tp (ac (cn (.str "end")) an)) an)))))) (gn 7))
  (sret (tp (ac (tp (ac (vr 7) (ac (tp (ac (cn (.str "down")) (ac (cn (.str "up")) (ac (cn (.str "down")) (ac (cn (.str "up")) an))))) an))) (ac (b1 Kc (ac (cmp (isrc (vr 6)) [none] (gn 0) ttrue (b1 Kc (ac (vr 0) an))) an)) an))))))))))))))
def Jh:Fn:=fnB 8 Qj
def Gbf:FnS ["_law_tape_here","_law_word","_law_room","_law_level","_law_deep","_law_more","_law_rows","_law_places"] ["_law_tape_here","_law_word"] (Gc Wt):=kdF
def Gat(Al:All P w K mg base):Cal P w K mg base "_law_kept_out" ["_law_tape_here","_law_word"] Jh 2:=by
 have Sc:=Gbf
 have T:=Al.t
 refine calw (b:=Qj) 1 Al.h.h__law_kept_out Al.g Sc rfl fun _ _ _ _ _ _ _ hr=>?_
 conv=>arg 3; whnf
 refine GSs.h ?_
 have:=Gr Al
 have W1:=nn ["_law_row"]
 exact gx
def Ke:Sv:=(sq (ss (cl 2 (Gi Gg) (ac (vr 0) (ac (o2 Gu (o2 getD (o2 Gu (o2 getD (vr 10) (vr 9)) (tp (ac (cn (.int 1)) an))) (cn (.int 1))) (cn (.int 1))) an))) (o2 getD (vr 11) (cn (.int 0))) (vr 9) Hm)
  (sq (sa (cl 2 (Gi Gg) (ac (vr 0) (ac (cn (.int 3)) an))) (gn 12))
  (sif (tb (o2 gtD (b1 Gy (ac (o2 getD (vr 10) (vr 9)) an)) (cn (.int 1))))
  (ss2 (cl 2 (Gi Qi) (ac (vr 0) (ac (vr 2) an))) (o2 getD (vr 11) (cn (.int 1))) (vr 9) (o2 getD (vr 11) (cn (.int 2))) (vr 9))
  (sif (tb (o2 gtD (vr 12) (cn (.int 0))))
  (ss (cn (.int 1)) (o2 getD (vr 11) (vr 12)) (vr 9) Hm)
  skip))))
def Vf:Sv:=(sq (sa (cl 2 (Gi Gg) (ac (vr 0) (ac (cn (.int 8)) an))) (gn 1))
  (sq (sif (tb (o2 gtD (vr 1) (cn (.int 5))))
  (sret (cl 2 (Gi Jh) (ac (vr 0) (ac (o2 Ql (vr 1) (cn (.int 5))) an))))
  skip)
  (sq (sa (o2 Gu (cn (.int 1)) (cl 2 (Gi Gg) (ac (vr 0) (ac (cn (.int 2)) an)))) (gn 2))
  (sq (sa (o2 getD (ls (ac (cn .non) (ac (cn (.int 3)) (ac (cn (.int 0)) (ac (o2 Gu (cn (.int 1)) (cl 2 (Gi Gg) (ac (vr 0) (ac (cn (.int 98)) an)))) an))))) (cl 2 (Gi Gg) (ac (vr 0) (ac (cn (.int 4)) an)))) (gn 3))
  (sq (sa (o2 Gu (cn (.int 1)) (cl 2 (Gi Gg) (ac (vr 0) (ac (cn (.int 2)) an)))) (gn 4))
  (sq (sa (tp (ac (cn (.str "pound")) (ac (vr 4) (ac (o2 getD (ls (ac (cn (.int 0)) (ac (cn (.int 0)) (ac (cn (.int 1)) (ac (vr 4) an))))) (cl 2 (Gi Gg) (ac (vr 0) (ac (cn (.int 4)) an)))) (ac (vr 2) (ac (vr 3) an)))))) (gn 5))
  (sq (sa (tp (ac (cn (.str "chamber")) an)) (gn 6))
  (sq (sa (ls (ac (vr 6) (ac (vr 5) (ac (vr 6) an)))) (gn 7))
  (sq (sif (tb (o2 inP (vr 1) (ls (ac (cn (.int 0)) (ac (cn (.int 1)) (ac (cn (.int 2)) (ac (cn (.int 3)) an)))))))
  (sa (o2 Jc (ls (ac (vr 6) an)) (o2 getD (ls (ac (cn (.int 1)) (ac (cn (.int 2)) (ac (cn (.int 2)) (ac (cn (.int 3)) an))))) (vr 1))) (gn 7))
  skip)
  (sq (sa (cmp (ir1 (ac (o2 Gu (b1 Gy (ac (vr 7) an)) (cn (.int 1))) an)) [none,some 0] (gn 0) ttrue (o2 getD (ls (ac (cn (.str "up")) (ac (cn (.str "down")) an))) (cl 2 (Gi Gg) (ac (vr 1) (ac (cn (.int 2)) an))))) (gn 8))
  (sq (sif (tb (o2 eqD (cl 2 (Gi Gg) (ac (vr 0) (ac (cn (.int 2)) an))) (cn (.int 0))))
  (sa (o2 Gu (o2 Gu (ls (ac (cn (.str "up")) an)) (o2 Jc (ls (ac (o2 getD (ls (ac (cn (.str "up")) (ac (cn (.str "down")) an))) (cl 2 (Gi Gg) (ac (vr 0) (ac (cn (.int 2)) an)))) an)) (o2 Ql (b1 Gy (ac (vr 7) an)) (cn (.int 1))))) (ls (ac (cn (.str "down")) an))) (gn 8))
  skip)
  (sq (sa (o2 Gu (o2 Gu (ls (ac (tp (ac (cn (.str "end")) an)) an)) (vr 7)) (ls (ac (tp (ac (cn (.str "end")) an)) an))) (gn 10))
  (sq (sa (ls (ac (o2 Jc (ls (ac (cn (.int 0)) an)) (b1 Gy (ac (vr 10) an))) (ac (o2 Jc (ls (ac (cn (.int 0)) an)) (b1 Gy (ac (vr 10) an))) (ac (o2 Jc (ls (ac (cn (.int 0)) an)) (b1 Gy (ac (vr 10) an))) an)))) (gn 11))
  (sq (sfor (ir2 (ac (cn (.int 1)) (ac (o2 Ql (b1 Gy (ac (vr 10) an)) (cn (.int 1))) an))) (gn 9) Ke)
  (sq (sa (o2 getD (ls (ac (tp (ac (cn (.int 1)) (ac (cn (.int 0)) an))) (ac (tp (ac (cn (.int 2)) (ac (o2 Ql (b1 Gy (ac (vr 10) an)) (cn (.int 1))) an))) an))) (cl 2 (Gi Gg) (ac (vr 0) (ac (cn (.int 2)) an)))) (gt (gcons (gn 9) (gcons (gn 13) gnil)) 2))
  (sq (ss (o2 getD (ls (ac (cn (.int 0)) (ac (cn (.int 0)) (ac (cn (.int 1)) (ac (cn (.int 2)) an))))) (cl 2 (Gi Gg) (ac (vr 0) (ac (cn (.int 4)) an)))) (o2 getD (vr 11) (vr 9)) (vr 13) Hm)
  (sq (ss (o2 Vs (cl 2 (Gi Gg) (ac (vr 0) (ac (cn (.int 4)) an))) (cn (.int 3))) (o2 getD (vr 11) (cn (.int 2))) (cn (.int 0)) Hm)
  (sq (ss (o2 Vs (cl 2 (Gi Gg) (ac (vr 0) (ac (cn (.int 4)) an))) (cn (.int 3))) (o2 getD (vr 11) (cn (.int 1))) (o1 Ggl (cn (.int 1))) Hm)
  (sret (tp (ac (tp (ac (b1 Kc (ac (vr 10) an)) (ac (b1 Kc (ac (vr 8) an)) an))) (ac (b1 Kc (ac (cmp (isrc (vr 11)) [none] (gn 0) ttrue (b1 Kc (ac (vr 0) an))) an)) an))))))))))))))))))))))
def Jy:Fn:=fnB 14 Vf
def Gd5:FnS ["_law_tape_here","_law_kind","_law_room","_law_price","_law_brim","_law_pound","_law_chamber","_law_inner","_law_gates","_law_k","_law_places","_law_rows","_law_way","_law_end"] ["_law_tape_here"] (Gc Wf):=kdF
abbrev z31:=Gc Wf
def Gde(Al:All P w K mg base):Cal P w K mg base "_law_small" ["_law_tape_here"] Jy 3:=by
 have Sc:=Gd5
 have T:=Al.t
 refine calw (b:=Vf) 2 Al.h.h__law_small Al.g Sc rfl fun _ _ _ _ _ _ _ hr=>?_
 conv=>arg 3; whnf
 refine GSs.h ?_
 exact(Gh (gsew 1 Sc (gow z31 (Gr Al) hr (Ga (gw 0 Sc) (Ga ge_int BE Gb) Gf)))
  (Gh (Js (Gek (gw 1 Sc) ge_int)
  (Gm (Ja (gow z31 (Gat Al) hr (Ga (gw 0 Sc) (Ga (Yc (gw 1 Sc) ge_int) BE Jj) Gf))))
  Hu)
  (Gh (gsew 2 Sc (Kh ge_int (gow z31 (Gr Al) hr (Ga (gw 0 Sc) (Ga ge_int BE Gb) Gf))))
  (Gh (gsew 3 Sc (Gv (Hg (Ga Ga6 (Ga ge_int (Ga ge_int (Ga (Kh ge_int (gow z31 (Gr Al) hr (Ga (gw 0 Sc) (Ga ge_int BE Gb) Gf))) BE Jj) Gb) Gb) Gb)) (gow z31 (Gr Al) hr (Ga (gw 0 Sc) (Ga ge_int BE Gb) Gf))))
  (Gh (gsew 4 Sc (Kh ge_int (gow z31 (Gr Al) hr (Ga (gw 0 Sc) (Ga ge_int BE Gb) Gf))))
  (Gh (gsew 5 Sc (Ht (Ga Hc (Ga (gw 4 Sc) (Ga (Gv (Hg (Ga ge_int (Ga ge_int (Ga ge_int (Ga (gw 4 Sc) BE Gf) Gb) Gb) Gb)) (gow z31 (Gr Al) hr (Ga (gw 0 Sc) (Ga ge_int BE Gb) Gf))) (Ga (gw 2 Sc) (Ga (gw 3 Sc) BE Gf) Gf) Gq) Gf) Gb)))
  (Gh (gsew 6 Sc (Ht (Ga Hc BE Gb)))
  (Gh (gsew 7 Sc (Hg (Ga (gw 6 Sc) (Ga (gw 5 Sc) (Ga (gw 6 Sc) BE Gf) Gf) Gf)))
  (Gh (Js (Goa hr (gw 1 Sc) (Hg (Ga ge_int (Ga ge_int (Ga ge_int (Ga ge_int BE Gb) Gb) Gb) Gb)))
  (Gm (gsew 7 Sc (Ga7 (Hg (Ga (gw 6 Sc) BE Gf)) (Gv (Hg (Ga ge_int (Ga ge_int (Ga ge_int (Ga ge_int BE Gb) Gb) Gb) Gb)) (gw 1 Sc)))))
  Hu)
  (Gh (Gc0 8 (N':=["_law_k","_law_tape_here"]) (pk:=[none,some 0]) Sc (Qz (gG z31) T.b_range (Ga (Kh (Jg (gG z31) T.b_len (Ga (gw 7 Sc) BE Gf)) ge_int) BE Jj)) (fun cl s2 H2 C fp=>(Gaf 0)) (fun cl s2 H2 C fp=>Xg) (fun cl s2 H2 C fp=>(Gv (Hg (Ga Hc (Ga Hc BE Gb) Gb)) (Haz (Gr Al) hr (Ga (Zc 1) (Ga ge_int BE Gb) Gf)))))
  (Gh (Js (Ggs hr.units (gow z31 (Gr Al) hr (Ga (gw 0 Sc) (Ga ge_int BE Gb) Gf)) ge_int)
  (Gm (gsew 8 Sc (Kh (Kh (Hg (Ga Hc BE Gb)) (Ga7 (Hg (Ga (Gv (Hg (Ga Hc (Ga Hc BE Gb) Gb)) (gow z31 (Gr Al) hr (Ga (gw 0 Sc) (Ga ge_int BE Gb) Gf))) BE Gq)) (Yc (Jg (gG z31) T.b_len (Ga (gw 7 Sc) BE Gf)) ge_int))) (Hg (Ga Hc BE Gb)))))
  Hu)
  (Gh (gsew 10 Sc (Kh (Kh (Hg (Ga (Ht (Ga Hc BE Gb)) BE Hn)) (gw 7 Sc)) (Hg (Ga (Ht (Ga Hc BE Gb)) BE Hn))))
  (Gh (gsew 11 Sc (Hg (Ga (Ga7 (Hg (Ga ge_int BE Gb)) (Jg (gG z31) T.b_len (Ga (gw 10 Sc) BE Gf))) (Ga (Ga7 (Hg (Ga ge_int BE Gb)) (Jg (gG z31) T.b_len (Ga (gw 10 Sc) BE Gf))) (Ga (Ga7 (Hg (Ga ge_int BE Gb)) (Jg (gG z31) T.b_len (Ga (gw 10 Sc) BE Gf))) BE Jj) Jj) Jj)))
  (Gh (Zq PassesOwn.never rfl (Gel (gG z31) T.b_range (Ga ge_int (Ga (Yc (Jg (gG z31) T.b_len (Ga (gw 10 Sc) BE Gf)) ge_int) BE Jj) Gb)) (ggw 9 Sc)
  (Gh (Wr (gow z31 (Gr Al) hr (Ga (gw 0 Sc) (Ga (Kh (Gv (Kh (Gv (gw 10 Sc) (gw 9 Sc)) (Ht (Ga ge_int BE Gb))) ge_int) ge_int) BE Jj) Gf)) (Gv (gw 11 Sc) ge_int) (gw 9 Sc))
  (Gh (gsew 12 Sc (gow z31 (Gr Al) hr (Ga (gw 0 Sc) (Ga ge_int BE Gb) Gf)))
  (Gm (Js (Gek (Jg (gG z31) T.b_len (Ga (Gv (gw 10 Sc) (gw 9 Sc)) BE Gq)) ge_int)
  (Gm (Gr8 (gow z31 (Gas Al) hr (Ga (gw 0 Sc) (Ga (gw 2 Sc) BE Gf) Gf)) (Gv (gw 11 Sc) ge_int) (gw 9 Sc) (Gv (gw 11 Sc) ge_int) (gw 9 Sc)))
  (Gm (Js (Gek (gw 12 Sc) ge_int)
  (Gm (Wr ge_int (Gv (gw 11 Sc) (gw 12 Sc)) (gw 9 Sc)))
  Hu)))))))
  (Gh (Gcz (Gv (Hg (Ga (Ht (Ga ge_int (Ga ge_int BE Gb) Gb)) (Ga (Ht (Ga ge_int (Ga (Yc (Jg (gG z31) T.b_len (Ga (gw 10 Sc) BE Gf)) ge_int) BE Jj) Gb)) BE Hn) Hn)) (gow z31 (Gr Al) hr (Ga (gw 0 Sc) (Ga ge_int BE Gb) Gf))) (Zp rfl (Jl (ggw 9 Sc) (Jl (ggw 13 Sc) Xf))))
  (Gh (Wr (Gv (Hg (Ga ge_int (Ga ge_int (Ga ge_int (Ga ge_int BE Gb) Gb) Gb) Gb)) (gow z31 (Gr Al) hr (Ga (gw 0 Sc) (Ga ge_int BE Gb) Gf))) (Gv (gw 11 Sc) (gw 9 Sc)) (gw 13 Sc))
  (Gh (Wr (Gfd (gow z31 (Gr Al) hr (Ga (gw 0 Sc) (Ga ge_int BE Gb) Gf)) ge_int) (Gv (gw 11 Sc) ge_int) ge_int)
  (Gh (Wr (Gfd (gow z31 (Gr Al) hr (Ga (gw 0 Sc) (Ga ge_int BE Gb) Gf)) ge_int) (Gv (gw 11 Sc) ge_int) (Gn0 ge_int))
  (Gm (Ja (Ht (Ga (Ht (Ga (Yd (gG z31) T.b_tuple (Ga (gw 10 Sc) BE Gf)) (Ga (Yd (gG z31) T.b_tuple (Ga (gw 8 Sc) BE Gf)) BE Ho) Ho)) (Ga (Yd (gG z31) T.b_tuple (Ga (Gt3 (N':=["_law_row"]) (pk:=[none]) Sc (Ga9 (gw 11 Sc)) (fun cl s2 H2 C fp=>(Gaf 0)) (fun cl s2 H2 C fp=>Xg) (fun cl s2 H2 C fp=>(Yd glB_w T.b_tuple (Ga (Zc 0) BE Gf)))) BE Gbq)) BE Ho) Hn))))))))))))))))))))))
def Qv:Sv:=(sret (va (o1 (isD "int") (vr 0)) (vn (o1 (isD "bool") (vr 0)))))
def Vg:Fn:=fnB 1 Qv
def Gd6:FnS ["_law_thing"] ["_law_thing"] (Gc Wg):=kdF
abbrev z32:=Gc Wg
def Gdf(Al:All P w K mg base):Cal P w K mg base "_law_whole" ["_law_thing"] Vg 1:=by
 have Sc:=Gd6
 have T:=Al.t
 refine calw (b:=Qv) 0 Al.h.h__law_whole Al.g Sc rfl fun _ _ _ _ _ _ _ hr=>?_
 conv=>arg 3; whnf
 refine GSs.h ?_
 exact(Gm (Ja (Gnx (Gba (gG z32) (gG z32) Gq9 T.b_isinstance T.b_int (gw 0 Sc)) (Gny (Gnz (Gba (gG z32) (gG z32) Gm3 T.b_isinstance T.b_bool (gw 0 Sc)))))))
def Jd:Sv:=(sif (ta (tb (o2 eqD (o2 getD (o2 getD (vr 5) (vr 13)) (cn (.int 0))) (cn (.str "pound")))) (tb (o2 ltD (o2 getD (o2 getD (vr 8) (cn (.int 0))) (vr 13)) (o2 getD (o2 getD (vr 5) (vr 13)) (cn (.int 2))))))
  (sret (cn (.str "shallow")))
  skip)
def Up:Sv:=(sq (sa (o2 getD (vr 0) (cn (.int 0))) (gn 5))
  (sq (sa (vr 2) (gt (gcons (gn 6) (gcons (gn 7) gnil)) 2))
  (sq (sa (cmp (isrc (vr 1)) [none] (gn 0) ttrue (b1 Qo (ac (vr 0) an))) (gn 8))
  (sq (sa (o2 getD (ls (ac (cn (.int 2)) (ac (cn (.int 1)) an))) (b1 Gaa (ac (o2 eqD (vr 6) (cn (.str "right"))) an))) (gn 9))
  (sq (sa (o2 Gu (vr 7) (b1 Gaa (ac (o2 eqD (vr 6) (cn (.str "left"))) an))) (gn 10))
  (sq (sa (o2 Ql (o2 Gu (o2 Jc (cn (.int 2)) (vr 7)) (cn (.int 1))) (vr 10)) (gn 11))
  (sq (sif (tb (o2 eqD (o2 getD (o2 getD (vr 8) (vr 9)) (vr 10)) (cn (.int 0))))
  (sret (cn (.str "nobarge")))
  skip)
  (sq (sa (o2 Gu (o2 getD (o2 getD (vr 8) (cn (.int 1))) (vr 11)) (o2 getD (o2 getD (vr 8) (cn (.int 2))) (vr 11))) (gn 12))
  (sq (sif (ta (tb (o2 eqD (o2 getD (o2 getD (vr 5) (vr 11)) (cn (.int 0))) (cn (.str "chamber")))) (tb (o2 gtD (vr 12) (cn (.int 0)))))
  (sret (cn (.str "noroom")))
  skip)
  (sq (sif (ta (tb (o2 eqD (o2 getD (o2 getD (vr 5) (vr 11)) (cn (.int 0))) (cn (.str "pound")))) (tb (o2 geD (vr 12) (o2 getD (o2 getD (vr 5) (vr 11)) (cn (.int 3))))))
  (sret (cn (.str "noroom")))
  skip)
  (sq (sif (ta (tb (o2 eqD (o2 getD (o2 getD (vr 5) (vr 3)) (cn (.int 0))) (cn (.str "chamber")))) (tb (o2 gtD (o2 getD (o2 getD (vr 8) (cn (.int 0))) (vr 3)) (cn (.int 0)))))
  (sret (cn (.str "uneven")))
  skip)
  (sq (sif (ta (tb (o2 eqD (o2 getD (o2 getD (vr 5) (vr 4)) (cn (.int 0))) (cn (.str "chamber")))) (tb (o2 eqD (o2 getD (o2 getD (vr 8) (cn (.int 0))) (vr 4)) (cn (.int 0)))))
  (sret (cn (.str "uneven")))
  skip)
  (sq (sfor (isrc (ls (ac (vr 3) (ac (vr 4) an)))) (gn 13) Jd)
  (sq (ss (o2 Ql (o2 getD (o2 getD (vr 8) (vr 9)) (vr 10)) (cn (.int 1))) (o2 getD (vr 8) (vr 9)) (vr 10) Hm)
  (sq (ss (o2 Gu (o2 getD (o2 getD (vr 8) (vr 9)) (vr 11)) (cn (.int 1))) (o2 getD (vr 8) (vr 9)) (vr 11) Hm)
  (sq (sa (b1 Gaa (ac (o2 eqD (vr 11) (o2 getD (ls (ac (cn (.int 0)) (ac (o2 Ql (b1 Gy (ac (vr 5) an)) (cn (.int 1))) an))) (b1 Gaa (ac (o2 eqD (vr 6) (cn (.str "right"))) an)))) an)) (gn 14))
  (sret (tp (ac (tp (ac (b1 Kc (ac (o2 getD (vr 8) (cn (.int 0))) an)) (ac (b1 Kc (ac (o2 getD (vr 8) (cn (.int 1))) an)) (ac (b1 Kc (ac (o2 getD (vr 8) (cn (.int 2))) an)) an)))) (ac (cn (.int 0)) (ac (vr 14) an)))))))))))))))))))))
def Uq:Fn:=fnB 15 Up
def Gfp:FnS ["_law_canal_here","_law_stand_here","_law_deed","_law_up","_law_down","_law_places","_law_word","_law_n","_law_rows","_law_own","_law_start","_law_goal","_law_there","_law_at","_law_gain"] ["_law_canal_here","_law_stand_here","_law_deed","_law_up","_law_down"] (Gc Gal):=kdF
def Gd7(Al:All P w K mg base):Cal P w K mg base "_law_gone" ["_law_canal_here","_law_stand_here","_law_deed","_law_up","_law_down"] Uq 1:=by
 have Sc:=Gfp
 have T:=Al.t
 refine calw (b:=Up) 0 Al.h.h__law_gone Al.g Sc rfl fun _ _ _ _ _ _ _ hr=>?_
 conv=>arg 3; whnf
 refine GSs.h ?_
 have W1:=nn ["_law_row"]
 exact gx
def He:Sv:=(sq (sa (vr 0) (gt (gcons (gn 3) (gcons (gn 4) gnil)) 2))
  (sq (sa (vr 2) (gt (gcons (gn 5) (gcons (gn 6) gnil)) 2))
  (sq (sa (b1 Qo (ac (o2 getD (vr 1) (cn (.int 0))) an)) (gn 7))
  (sq (sif (tb (o2 eqD (vr 5) (cn (.str "feed"))))
  (sq (sif (to (tb (o2 ltD (vr 6) (cn (.int 0)))) (to (tb (o2 geD (vr 6) (b1 Gy (ac (vr 3) an)))) (tb (o2 neD (o2 getD (o2 getD (vr 3) (vr 6)) (cn (.int 0))) (cn (.str "pound"))))))
  (sret (cn (.str "nospring")))
  skip)
  (sq (sif (tb (o2 Gcs (o2 getD (o2 getD (vr 3) (vr 6)) (cn (.int 4))) (cn .non)))
  (sret (cn (.str "nospring")))
  skip)
  (sq (sif (tb (o2 eqD (o2 getD (vr 7) (vr 6)) (o2 getD (o2 getD (vr 3) (vr 6)) (cn (.int 1)))))
  (sret (cn (.str "full")))
  skip)
  (sq (ss (o2 Gu (o2 getD (vr 7) (vr 6)) (cn (.int 1))) (vr 7) (vr 6) Hm)
  (sret (tp (ac (tp (ac (b1 Kc (ac (vr 7) an)) (ac (o2 getD (vr 1) (cn (.int 1))) (ac (o2 getD (vr 1) (cn (.int 2))) an)))) (ac (o2 getD (o2 getD (vr 3) (vr 6)) (cn (.int 4))) (ac (cn (.int 0)) an)))))))))
  skip)
  (sq (sif (to (tb (o2 ltD (vr 6) (cn (.int 0)))) (tb (o2 geD (vr 6) (b1 Gy (ac (vr 4) an)))))
  (sret (cn (.str "nogate")))
  skip)
  (sq (sa (o2 Gu (vr 6) (b1 Gaa (ac (o2 eqD (o2 getD (vr 4) (vr 6)) (cn (.str "up"))) an))) (gn 8))
  (sq (sa (o2 Ql (o2 Gu (o2 Jc (cn (.int 2)) (vr 6)) (cn (.int 1))) (vr 8)) (gn 9))
  (sq (sif (tb (o2 neD (vr 5) (cn (.str "let"))))
  (sret (cl 5 (Gi Uq) (ac (vr 0) (ac (vr 1) (ac (vr 2) (ac (vr 8) (ac (vr 9) an)))))))
  skip)
  (sq (sif (tb (o2 neD (o2 getD (o2 getD (vr 3) (vr 8)) (cn (.int 0))) (cn (.str "end"))))
  (sq (sif (tb (o2 eqD (o2 getD (vr 7) (vr 8)) (cn (.int 0))))
  (sret (cn (.str "dry")))
  skip)
  (ss (o2 Ql (o2 getD (vr 7) (vr 8)) (cn (.int 1))) (vr 7) (vr 8) Hm))
  skip)
  (sq (sif (tb (o2 neD (o2 getD (o2 getD (vr 3) (vr 9)) (cn (.int 0))) (cn (.str "end"))))
  (sq (sif (tb (o2 eqD (o2 getD (vr 7) (vr 9)) (o2 getD (o2 Gu (o2 getD (vr 3) (vr 9)) (tp (ac (cn (.int 1)) an))) (cn (.int 1)))))
  (sret (cn (.str "full")))
  skip)
  (ss (o2 Gu (o2 getD (vr 7) (vr 9)) (cn (.int 1))) (vr 7) (vr 9) Hm))
  skip)
  (sret (tp (ac (tp (ac (b1 Kc (ac (vr 7) an)) (ac (o2 getD (vr 1) (cn (.int 1))) (ac (o2 getD (vr 1) (cn (.int 2))) an)))) (ac (cn (.int 0)) (ac (cn (.int 0)) an)))))))))))))))
def Hy:Fn:=fnB 10 He
def Gg5:FnS ["_law_canal_here","_law_stand_here","_law_deed","_law_places","_law_gates","_law_word","_law_n","_law_levels","_law_up","_law_down"] ["_law_canal_here","_law_stand_here","_law_deed"] (Gc Gbv):=kdF
def Gfq(Al:All P w K mg base):Cal P w K mg base "_law_due" ["_law_canal_here","_law_stand_here","_law_deed"] Hy 2:=by
 have Sc:=Gg5
 have T:=Al.t
 refine calw (b:=He) 1 Al.h.h__law_due Al.g Sc rfl fun _ _ _ _ _ _ _ hr=>?_
 conv=>arg 3; whnf
 refine GSs.h ?_
 have:=Gd7 Al
 exact gx
def Qf:Sv:=(sq (sa (cl 3 (Gi Hy) (ac (vr 0) (ac (vr 1) (ac (tp (ac (vr 3) (ac (vr 4) an))) an)))) (gn 5))
  (sif (tn (tt (o1 (isD "str") (vr 5))))
  (sx (mt Gdr (vr 2) (ac (tp (ac (tp (ac (vr 3) (ac (vr 4) an))) (ac (vr 5) an))) an)))
  skip))
def Uh:Sv:=(sfor (ir1 (ac (b1 Gy (ac (o2 getD (vr 0) (cn (.int 0))) an)) an)) (gn 4) Qf)
def Zv:Sv:=(sq (sa (ls an) (gn 2))
  (sq (sfor (isrc (ls (ac (cn (.str "let")) (ac (cn (.str "feed")) (ac (cn (.str "right")) (ac (cn (.str "left")) an)))))) (gn 3) Uh)
  (sret (vr 2))))
def Jz:Fn:=fnB 6 Zv
def Gg6:FnS ["_law_canal_here","_law_stand_here","_law_found","_law_word","_law_n","_law_told"] ["_law_canal_here","_law_stand_here"] (Gc Yl):=kdF
abbrev z35:=Gc Yl
def Gau(Al:All P w K mg base):Cal P w K mg base "_law_can" ["_law_canal_here","_law_stand_here"] Jz 3:=by
 have Sc:=Gg6
 have T:=Al.t
 refine calw (b:=Zv) 2 Al.h.h__law_can Al.g Sc rfl fun _ _ _ _ _ _ _ hr=>?_
 conv=>arg 3; whnf
 refine GSs.h ?_
 exact(Gh (gsew 2 Sc (Hg BE))
  (Gh (Zq PassesOwn.never rfl (Ga9 (Hg (Ga Hc (Ga Hc (Ga Hc (Ga Hc BE Gb) Gb) Gb) Gb))) (ggw 3 Sc)
  (Gm (Zq PassesOwn.never rfl (Qz (gG z35) T.b_range (Ga (Jg (gG z35) T.b_len (Ga (Gv (gw 0 Sc) ge_int) BE Gq)) BE Ho)) (ggw 4 Sc)
  (Gh (gsew 5 Sc (gow z35 (Gfq Al) hr (Ga (gw 0 Sc) (Ga (gw 1 Sc) (Ga (Ht (Ga (gw 3 Sc) (Ga (gw 4 Sc) BE Gf) Gf)) BE Hn) Gf) Gf)))
  (Gm (Js (Xe (Uv (Gba (gG z35) (gG z35) Gjb T.b_isinstance T.b_str (gw 5 Sc))))
  (Gm (Gae (Ga8 (gw 2 Sc) (Ga (Ht (Ga (Ht (Ga (gw 3 Sc) (Ga (gw 4 Sc) BE Gf) Gf)) (Ga (gw 5 Sc) BE Gf) Hn)) BE Hn))))
  Hu))))))
  (Gm (Ja (gw 2 Sc)))))
def Hk:Sv:=(sif (tb (o2 (Gfe true) (o2 getD (vr 7) (cn (.int 0))) (vr 4)))
  (sq (ss (cn (.bl true)) (vr 4) (o2 getD (vr 7) (cn (.int 0))) dsetD)
  (sq (sx (mt Gdr (vr 3) (ac (o2 getD (vr 7) (cn (.int 0))) an)))
  (sif (tb (o2 gtD (b1 Gy (ac (vr 3) an)) (vr 2)))
  (sret (cn .non))
  skip)))
  skip)
def Hv:Sv:=(sq (sfor (isrc (cl 2 (Gi Jz) (ac (vr 0) (ac (o2 getD (vr 3) (vr 5)) an)))) (gt (gcons (gn 6) (gcons (gn 7) gnil)) 2) Hk)
  (sa (o2 Gu (vr 5) (cn (.int 1))) (gn 5)))
def Jo:Ev Bool:=(tb (o2 ltD (vr 5) (b1 Gy (ac (vr 3) an))))
def Xk:Sv:=(sq (sa (ls (ac (vr 1) an)) (gn 3))
  (sq (sa (Zd (vr 1) (cn (.bl true))) (gn 4))
  (sq (sa (cn (.int 0)) (gn 5))
  (sq (whN Jo Hv 3000)
  (sret (vr 3))))))
def Jp:Fn:=fnB 8 Xk
def Gg7:FnS ["_law_canal_here","_law_stand_here","_law_most","_law_found","_law_known","_law_at","_law_deed","_law_told"] ["_law_canal_here","_law_stand_here","_law_most"] (Gc Gbw):=kdF
def Gfr(Al:All P w K mg base):Cal P w K mg base "_law_met" ["_law_canal_here","_law_stand_here","_law_most"] Jp 4:=by
 have Sc:=Gg7
 have T:=Al.t
 refine calw (b:=Xk) 3 Al.h.h__law_met Al.g Sc rfl fun _ _ _ _ _ _ _ hr=>?_
 conv=>arg 3; whnf
 refine GSs.h ?_
 have:=Gau Al
 exact gx
def Ur:Sv:=(sq (sa (ls (ac (cn (.str "nogate")) (ac (cn (.str "dry")) (ac (cn (.str "full")) (ac (cn (.str "nospring")) (ac (cn (.str "nobarge")) (ac (cn (.str "noroom")) (ac (cn (.str "uneven")) (ac (cn (.str "shallow")) (ac (cn (.str "falls")) (ac (cn (.str "notext")) (ac (cn (.str "toomany")) (ac (cn (.str "noline")) an))))))))))))) (gn 1))
  (sq (sif (to (tb (o2 neD (b1 Gy (ac (vr 0) an)) (cn (.int 13)))) (to (tb (o2 neD (mt Gic (sl2 (vr 0) onone (osome (cn (.int 12)))) (ac (cn (.bl true)) an)) (cn (.int 1)))) (tn (tt (o2 getD (vr 0) (cn (.int 12)))))))
  (sret (cn (.str "unlike")))
  skip)
  (sret (o2 getD (vr 1) (mt Gid (vr 0) (ac (cn (.bl true)) an))))))
def Us:Fn:=fnB 2 Ur
def Gfs:FnS ["_law_marks","_law_words_here"] ["_law_marks"] (Gc Xi):=kdF
abbrev z37:=Gc Xi
def Gd8(Al:All P w K mg base):Cal P w K mg base "_law_name" ["_law_marks"] Us 1:=by
 have Sc:=Gfs
 have T:=Al.t
 refine calw (b:=Ur) 0 Al.h.h__law_name Al.g Sc rfl fun _ _ _ _ _ _ _ hr=>?_
 conv=>arg 3; whnf
 refine GSs.h ?_
 exact(Gh (gsew 1 Sc (Hg (Ga Hc (Ga Hc (Ga Hc (Ga Hc (Ga Hc (Ga Hc (Ga Hc (Ga Hc (Ga Hc (Ga Hc (Ga Hc (Ga Hc BE Gb) Gb) Gb) Gb) Gb) Gb) Gb) Gb) Gb) Gb) Gb) Gb)))
  (Gh (Js (GW.jt (Ye (Gad hr.units (Jg (gG z37) T.b_len (Ga (gw 0 Sc) BE Gf)) ge_int) (Ye (Gad hr.units (Gnu (Gej (gw 0 Sc) Gjk (Gjl ge_int)) (Ga Wq BE Gb)) ge_int) (Zo (Xe (Uv (Gv (gw 0 Sc) ge_int)))))))
  (Gm (Ja Hc))
  Hu)
  (Gm (Ja (Gv (gw 1 Sc) (Gnv (gw 0 Sc) (Ga Wq BE Gb)))))))
def Qg:Sv:=(sif (tb (o2 eqD (vr 2) (cn (.int 0))))
  (sa (cl 2 (gX ys (Gbt 600 Ww)) (ac (vr 0) (ac (vr 1) an))) (gn 3))
  (sa (cl 3 (gX ys Ww) (ac (vr 0) (ac (vr 1) (ac (vr 2) an)))) (gn 3)))
def Qh:Sv:=(sq (sa (ls (ac (o1 (Kt ys ["NoGate"]) (vr 5)) (ac (o1 (Kt ys ["Dry"]) (vr 5)) (ac (o1 (Kt ys ["Full"]) (vr 5)) (ac (o1 (Kt ys ["NoSpring"]) (vr 5)) an))))) (gn 4))
  (sq (sa (o2 Gu (vr 4) (ls (ac (o1 (Kt ys ["NoBarge"]) (vr 5)) (ac (o1 (Kt ys ["NoRoom"]) (vr 5)) (ac (o1 (Kt ys ["Uneven"]) (vr 5)) an))))) (gn 4))
  (sq (sa (o2 Gu (vr 4) (ls (ac (o1 (Kt ys ["Shallow"]) (vr 5)) (ac (o1 (Kt ys ["Falls"]) (vr 5)) (ac (o1 (Kt ys ["NoText"]) (vr 5)) an))))) (gn 4))
  (sa (o2 Gu (vr 4) (ls (ac (o1 (Kt ys ["TooMany"]) (vr 5)) (ac (o1 (Kt ys ["NoLine"]) (vr 5)) (ac (o1 (Kt ys ys) (vr 5)) an))))) (gn 4)))))
def Xl:Sv:=(sq (sa (cn .non) (gn 3))
  (sq (sa (ls an) (gn 4))
  (sq (Wp ys (hdl 5 Qh) Qg)
  (sq (sif (tb (o2 neD (vr 4) (ls an)))
  (sret (cl 1 (Gi Us) (ac (vr 4) an)))
  skip)
  (sret (vr 3))))))
def Qm:Fn:=fnB 6 Xl
def Gg8:FnS ["_law_canal_here","_law_stand_here","_law_limit","_law_found","_law_marks","e"] ["_law_canal_here","_law_stand_here","_law_limit"] (Gc Ym):=kdF
abbrev z38:=Gc Ym
def Ha8:OkC z38 "e":=⟨by decide +kernel⟩
def Gft(Al:All P w K mg base):Cal P w K mg base "_law_did" ["_law_canal_here","_law_stand_here","_law_limit"] Qm 9:=by
 have Sc:=Gg8
 have T:=Al.t
 refine calw (b:=Xl) 8 Al.h.h__law_did Al.g Sc rfl fun _ _ _ _ _ _ _ hr=>?_
 conv=>arg 3; whnf
 refine GSs.h ?_
 exact(Gh (gsew 3 Sc Ga6)
  (Gh (gsew 4 Sc (Hg BE))
  (Gh (Gry 5 ⟨rfl,rfl,rfl⟩ T.xt.cat (gG z38) Zi Sc.nd Ha8 (fun pn xe XQ L=>(Gm (Js (Ggs hr.units (gw 2 Sc) ge_int)
  (Gm (gsew 3 Sc (Gt4 z38 T.xt.xns L (Gfm Al) hr (Ga (gw 0 Sc) (Ga (gw 1 Sc) BE Gf) Gf))))
  (Gm (gsew 3 Sc (Gr1 z38 T.xt.xns L (Gfm Al).x hr (Ga (gw 0 Sc) (Ga (gw 1 Sc) (Ga (gw 2 Sc) BE Gf) Gf) Gf)))))))
  (fun a=>(Gh (gsew 4 Sc (Hg (Ga (Uw z38 (T.xt.isx "NoGate" (by decide +kernel)) T.b_isinstance (gw 5 Sc)) (Ga (Uw z38 (T.xt.isx "Dry" (by decide +kernel)) T.b_isinstance (gw 5 Sc)) (Ga (Uw z38 (T.xt.isx "Full" (by decide +kernel)) T.b_isinstance (gw 5 Sc)) (Ga (Uw z38 (T.xt.isx "NoSpring" (by decide +kernel)) T.b_isinstance (gw 5 Sc)) BE Ho) Ho) Ho) Ho)))
  (Gh (gsew 4 Sc (Kh (gw 4 Sc) (Hg (Ga (Uw z38 (T.xt.isx "NoBarge" (by decide +kernel)) T.b_isinstance (gw 5 Sc)) (Ga (Uw z38 (T.xt.isx "NoRoom" (by decide +kernel)) T.b_isinstance (gw 5 Sc)) (Ga (Uw z38 (T.xt.isx "Uneven" (by decide +kernel)) T.b_isinstance (gw 5 Sc)) BE Ho) Ho) Ho))))
  (Gh (gsew 4 Sc (Kh (gw 4 Sc) (Hg (Ga (Uw z38 (T.xt.isx "Shallow" (by decide +kernel)) T.b_isinstance (gw 5 Sc)) (Ga (Uw z38 (T.xt.isx "Falls" (by decide +kernel)) T.b_isinstance (gw 5 Sc)) (Ga (Uw z38 (T.xt.isx "NoText" (by decide +kernel)) T.b_isinstance (gw 5 Sc)) BE Ho) Ho) Ho))))
  (Gm (gsew 4 Sc (Kh (gw 4 Sc) (Hg (Ga (Uw z38 (T.xt.isx "TooMany" (by decide +kernel)) T.b_isinstance (gw 5 Sc)) (Ga (Uw z38 (T.xt.isx "NoLine" (by decide +kernel)) T.b_isinstance (gw 5 Sc)) (Ga (Gxv z38 T.xt.val T.b_isinstance T.b_ValueError (gw 5 Sc)) BE Ho) Ho) Ho))))))))))
  (Gh (Js (Gad hr.units (gw 4 Sc) (Hg BE))
  (Gm (Ja (gow z38 (Gd8 Al) hr (Ga (gw 4 Sc) BE Gf))))
  Hu)
  (Gm (Ja (gw 3 Sc)))))))
def Ka:Sv:=(sq (sif (to (tn (tt (o1 (isD "tuple") (vr 6)))) (to (tb (o2 neD (b1 Gy (ac (vr 6) an)) (cn (.int 3)))) (tb (o2 Gr2 (o2 getD (vr 6) (cn (.int 0))) (vr 2)))))
  (sret (cn (.bl false)))
  skip)
  (sq (ss (cn (.bl true)) (vr 4) (o2 getD (vr 6) (cn (.int 0))) dsetD)
  (sif (tb (o2 eqD (vr 5) (cn (.int 0))))
  (sif (tb (o2 neD (b1 Qp (ac (vr 6) an)) (b1 Qp (ac (tp (ac (vr 1) (ac (cn .non) (ac (cn .non) an)))) an))))
  (sret (cn (.bl false)))
  skip)
  (sq (sif (to (tn (tt (cl 1 (Gi Vg) (ac (o2 getD (vr 6) (cn (.int 1))) an)))) (to (tb (o2 ltD (o2 getD (vr 6) (cn (.int 1))) (cn (.int 0)))) (tb (o2 geD (o2 getD (vr 6) (cn (.int 1))) (vr 5)))))
  (sret (cn (.bl false)))
  skip)
  (sq (sa (cmp (isrc (cl 2 (Gi Jz) (ac (vr 0) (ac (o2 getD (o2 getD (vr 3) (o2 getD (vr 6) (cn (.int 1)))) (cn (.int 0))) an)))) [none,none,some 6] (gt (gcons (gn 0) (gcons (gn 1) gnil)) 2) (tb (o2 eqD (b1 Qp (ac (vr 0) an)) (b1 Qp (ac (o2 getD (vr 2) (cn (.int 2))) an)))) (o2 getD (vr 1) (cn (.int 0)))) (gn 7))
  (sif (tb (o2 neD (b1 Qp (ac (vr 7) an)) (b1 Qp (ac (ls (ac (o2 getD (vr 6) (cn (.int 0))) an)) an))))
  (sret (cn (.bl false)))
  skip))))))
def Uy:Sv:=(sq (sif (to (tn (tt (o1 (isD "list") (vr 3)))) (tb (o2 neD (b1 Gy (ac (vr 3) an)) (b1 Gy (ac (vr 2) an)))))
  (sret (cn (.bl false)))
  skip)
  (sq (sa dnew (gn 4))
  (sq (sfor (Gcu (ac (vr 3) an)) (gt (gcons (gn 5) (gcons (gn 6) gnil)) 2) Ka)
  (sret (o2 eqD (b1 Qgnz (ac (vr 4) an)) (b1 Gy (ac (vr 2) an)))))))
def Kf:Fn:=fnB 8 Uy
def Gbg:FnS ["_law_canal_here","_law_stand_here","_law_own","_law_found","_law_known","_law_k","_law_one","_law_told"] ["_law_canal_here","_law_stand_here","_law_own","_law_found"] (Gc Ub):=kdF
abbrev z39:=Gc Ub
def Gav(Al:All P w K mg base):Cal P w K mg base "_law_is_right" ["_law_canal_here","_law_stand_here","_law_own","_law_found"] Kf 4:=by
 have Sc:=Gbg
 have T:=Al.t
 refine calw (b:=Uy) 3 Al.h.h__law_is_right Al.g Sc rfl fun _ _ _ _ _ _ _ hr=>?_
 conv=>arg 3; whnf
 refine GSs.h ?_
 exact(Gh (Js (GW.jt (Ye (Xe (Uv (Gba (gG z39) (gG z39) Gm4 T.b_isinstance T.b_list (gw 3 Sc)))) (Zo (Gad hr.units (Jg (gG z39) T.b_len (Ga (gw 3 Sc) BE Gf)) (Jg (gG z39) T.b_len (Ga (gw 2 Sc) BE Gf))))))
  (Gm (Ja Wq))
  Hu)
  (Gh (gsew 4 Sc Gjs)
  (Gh (Zq PassesOwn.never rfl (Ggr (gG z39) T.b_enumerate (Ga (gw 3 Sc) BE Gf)) (Zp rfl (Jl (ggw 5 Sc) (Jl (ggw 6 Sc) Xf)))
  (Gh (Js (GW.jt (Ye (Xe (Uv (Gba (gG z39) (gG z39) Glf T.b_isinstance T.b_tuple (gw 6 Sc)))) (Ye (Gad hr.units (Jg (gG z39) T.b_len (Ga (gw 6 Sc) BE Gf)) ge_int) (Zo (Gjn hr (Gv (gw 6 Sc) ge_int) (gw 2 Sc))))))
  (Gm (Ja Wq))
  Hu)
  (Gh (Gjt hr Wq (gw 4 Sc) (Gv (gw 6 Sc) ge_int))
  (Gm (Js (Ggs hr.units (gw 5 Sc) ge_int)
  (Gm (Js (Gad hr.units (Xd hr (gG z39) T.b_repr (Ga (gw 6 Sc) BE Gf)) (Xd hr (gG z39) T.b_repr (Ga (Ht (Ga (gw 1 Sc) (Ga Ga6 (Ga Ga6 BE Gb) Gb) Gf)) BE Hn)))
  (Gm (Ja Wq))
  Hu))
  (Gh (Js (GW.jt (Ye (Xe (Uv (gow z39 (Gdf Al) hr (Ga (Gv (gw 6 Sc) ge_int) BE Gq)))) (Ye (Gji (Gv (gw 6 Sc) ge_int) ge_int) (Zo (Gt2 (Gv (gw 6 Sc) ge_int) (gw 5 Sc))))))
  (Gm (Ja Wq))
  Hu)
  (Gh (Gc0 7 (N':=["_law_deed","_law_more","_law_one"]) (pk:=[none,none,some 6]) Sc (Ga9 (gow z39 (Gau Al) hr (Ga (gw 0 Sc) (Ga (Gv (Gv (gw 3 Sc) (Gv (gw 6 Sc) ge_int)) ge_int) BE Gq) Gf))) (fun cl s2 H2 C fp=>(Zp rfl (Jl (Gaf 0) (Jl (Gaf 1) Xf)))) (fun cl s2 H2 C fp=>(Gjm (Ggs hr.units (Xd hr glB_w T.b_repr (Ga (Zc 0) BE Gf)) (Xd hr glB_w T.b_repr (Ga (Gv (Zc 2) ge_int) BE Gq))))) (fun cl s2 H2 C fp=>(Gv (Zc 1) ge_int)))
  (Gm (Js (Gad hr.units (Xd hr (gG z39) T.b_repr (Ga (gw 7 Sc) BE Gf)) (Xd hr (gG z39) T.b_repr (Ga (Hg (Ga (Gv (gw 6 Sc) ge_int) BE Gq)) BE Gjc)))
  (Gm (Ja Wq))
  Hu)))))))))
  (Gm (Ja (Gnw hr.units (Gju (gG z39) T.b_len (Ga (gw 4 Sc) BE Gf)) (Jg (gG z39) T.b_len (Ga (gw 2 Sc) BE Gf))))))))
def Wy:Sv:=(sif (to (tb (o2 gtD (vr 6) (cn (.int 0)))) (tb (o2 gtD (vr 5) (cn (.int 1)))))
  (sq (sa (cl 3 (Gi Qm) (ac (vr 2) (ac (vr 3) (ac (vr 6) an)))) (gn 7))
  (sif (ta (tb (o2 ltD (cn (.int 0)) (vr 6))) (tb (o2 ltD (vr 6) (vr 5))))
  (sif (tb (o2 neD (vr 7) (cn (.str "toomany"))))
  (sret (cn (.bl false)))
  skip)
  (sif (tt (o1 (isD "str") (vr 7)))
  (sret (cn (.bl false)))
  (sq (sif (tn (tt (cl 4 (Gi Kf) (ac (vr 2) (ac (vr 3) (ac (vr 4) (ac (vr 7) an)))))))
  (sret (cn (.bl false)))
  skip)
  (sx (mt0 Gif (vr 7)))))))
  skip)
def Gg9:Sv:=(sq (sa (cl 1 (Gi Vv) (ac (vr 0) an)) (gn 1))
  (sq (sa (cl 1 (Gi Jy) (ac (vr 1) an)) (gt (gcons (gn 2) (gcons (gn 3) gnil)) 2))
  (sq (sa (cl 3 (Gi Jp) (ac (vr 2) (ac (vr 3) (ac (cn (.int 160)) an)))) (gn 4))
  (sq (sif (tb (o2 Gcs (vr 4) (cn .non)))
  (sret (cn (.bl true)))
  skip)
  (sq (sa (b1 Gy (ac (vr 4) an)) (gn 5))
  (sq (sfor (isrc (ls (ac (cn (.int 0)) (ac (vr 5) (ac (o2 Ql (vr 5) (cn (.int 1))) (ac (o2 Gu (cn (.int 1)) (cl 2 (Gi Gg) (ac (vr 1) (ac (vr 5) an)))) an)))))) (gn 6) Wy)
  (sret (o2 eqD (b1 Gy (ac (cl 2 (gX ys (Gbt 600 Ww)) (ac (vr 2) (ac (vr 3) an))) an)) (vr 5)))))))))
def Gaw:Fn:=fnB 8 Gg9
def Gx3:FnS ["_law_script","_law_tape_here","_law_canal_here","_law_stand_here","_law_own","_law_many","_law_limit","_law_found"] ["_law_script"] (Gc Gc4):=kdF
abbrev z40:=Gc Gc4
def Gsc(Al:All P w K mg base){f:BB}{fd:FuncData}(F:Fun K "law" "law" Gc4 f fd):FnOk P w K mg base CX0 10 f fd ["_law_script"] (spD K 1 Gaw):=by
 have Sc:=Gx3
 have T:=Al.t
 refine Gtk (b:=Gg9) F Sc.s fun cdv A outer s H E hr=>?_
 conv=>arg 3; whnf
 refine GSs.h ?_
 exact(Gh (gsew 1 Sc (gow z40 (Gd4 Al) hr (Ga (gw 0 Sc) BE Gf)))
  (Gh (Gcz (gow z40 (Gde Al) hr (Ga (gw 1 Sc) BE Gf)) (Zp rfl (Jl (ggw 2 Sc) (Jl (ggw 3 Sc) Xf))))
  (Gh (gsew 4 Sc (gow z40 (Gfr Al) hr (Ga (gw 2 Sc) (Ga (gw 3 Sc) (Ga ge_int BE Gb) Gf) Gf)))
  (Gh (Js (Gn1 (gw 4 Sc) Ga6)
  (Gm (Ja Wq))
  Hu)
  (Gh (gsew 5 Sc (Jg (gG z40) T.b_len (Ga (gw 4 Sc) BE Gf)))
  (Gh (Zq PassesOwn.never rfl (Ga9 (Hg (Ga ge_int (Ga (gw 5 Sc) (Ga (Yc (gw 5 Sc) ge_int) (Ga (Kh ge_int (gow z40 (Gr Al) hr (Ga (gw 1 Sc) (Ga (gw 5 Sc) BE Gf) Gf))) BE Jj) Jj) Gf) Gb))) (ggw 6 Sc)
  (Gm (Js (GW.jt (Ye (Gek (gw 6 Sc) ge_int) (Zo (Gek (gw 5 Sc) ge_int))))
  (Gh (gsew 7 Sc (gow z40 (Gft Al) hr (Ga (gw 2 Sc) (Ga (gw 3 Sc) (Ga (gw 6 Sc) BE Gf) Gf) Gf)))
  (Gm (Js (GW.jt (Gie (Gji ge_int (gw 6 Sc)) (Gjj (Gji (gw 6 Sc) (gw 5 Sc)))))
  (Gm (Js (Gad hr.units (gw 7 Sc) Hc)
  (Gm (Ja Wq))
  Hu))
  (Gm (Js (Uv (Gba (gG z40) (gG z40) Gjb T.b_isinstance T.b_str (gw 7 Sc)))
  (Gm (Ja Wq))
  (Gh (Js (Xe (Uv (gow z40 (Gav Al) hr (Ga (gw 2 Sc) (Ga (gw 3 Sc) (Ga (gw 4 Sc) (Ga (gw 7 Sc) BE Gf) Gf) Gf) Gf))))
  (Gm (Ja Wq))
  Hu)
  (Gm (Gae (Gob (gw 7 Sc))))))))))
  Hu)))
  (Gm (Ja (Gnw hr.units (Jg (gG z40) T.b_len (Ga (Gt4 z40 T.xt.xns Har (Gfm Al) hr (Ga (gw 2 Sc) (Ga (gw 3 Sc) BE Gf) Gf)) BE Ho)) (gw 5 Sc))))))))))
end
def Gx4{l:PySem.W.OpenLaw}{w:World}{K:By}{h:Heap}{mg:Str->BC Bz}{fa:BB}(X:K.In h)(G:h.Ns mainGlobals mg)(hfa:mg "law"=some (.ref fa))(HS:Hs K)
  {kp_CHAMBER:BB} {kt_CHAMBER:Tok} {kn_CHAMBER:Nat} {ks_CHAMBER:Array (BC Bz)} (ka_CHAMBER:PySem.W.nsIn K mainGlobals "CHAMBER"=some (some (.ref kp_CHAMBER))) (kl_CHAMBER:K.lookup kp_CHAMBER=some { cls:=.type "tuple",dict:=none,data:=.seq #[.str "chamber" kt_CHAMBER] kn_CHAMBER,slots:=ks_CHAMBER })
  {kp_END:BB} {kt_END:Tok} {kn_END:Nat} {ks_END:Array (BC Bz)} (ka_END:PySem.W.nsIn K mainGlobals "END"=some (some (.ref kp_END))) (kl_END:K.lookup kp_END=some { cls:=.type "tuple",dict:=none,data:=.seq #[.str "end" kt_END] kn_END,slots:=ks_END })
  {kt_UP:Tok} (ka_UP:PySem.W.nsIn K mainGlobals "UP"=some (some (.str "up" kt_UP)))
  {cc_SummitError:BB} (ca_SummitError:PySem.W.nsIn K mainGlobals "SummitError"=some (some (.ref cc_SummitError)))
  {cc_NoGate:BB} (ca_NoGate:PySem.W.nsIn K mainGlobals "NoGate"=some (some (.ref cc_NoGate)))
  {cc_Dry:BB} (ca_Dry:PySem.W.nsIn K mainGlobals "Dry"=some (some (.ref cc_Dry)))
  {cc_Full:BB} (ca_Full:PySem.W.nsIn K mainGlobals "Full"=some (some (.ref cc_Full)))
  {cc_NoSpring:BB} (ca_NoSpring:PySem.W.nsIn K mainGlobals "NoSpring"=some (some (.ref cc_NoSpring)))
  {cc_NoBarge:BB} (ca_NoBarge:PySem.W.nsIn K mainGlobals "NoBarge"=some (some (.ref cc_NoBarge)))
  {cc_NoRoom:BB} (ca_NoRoom:PySem.W.nsIn K mainGlobals "NoRoom"=some (some (.ref cc_NoRoom)))
  {cc_Uneven:BB} (ca_Uneven:PySem.W.nsIn K mainGlobals "Uneven"=some (some (.ref cc_Uneven)))
  {cc_Shallow:BB} (ca_Shallow:PySem.W.nsIn K mainGlobals "Shallow"=some (some (.ref cc_Shallow)))
  {cc_Falls:BB} (ca_Falls:PySem.W.nsIn K mainGlobals "Falls"=some (some (.ref cc_Falls)))
  {cc_NoText:BB} (ca_NoText:PySem.W.nsIn K mainGlobals "NoText"=some (some (.ref cc_NoText)))
  {cc_TooMany:BB} (ca_TooMany:PySem.W.nsIn K mainGlobals "TooMany"=some (some (.ref cc_TooMany)))
  {cc_NoLine:BB} (ca_NoLine:PySem.W.nsIn K mainGlobals "NoLine"=some (some (.ref cc_NoLine)))
  (xtb:Gnq K cc_SummitError [("NoGate",cc_NoGate),("Dry",cc_Dry),("Full",cc_Full),("NoSpring",cc_NoSpring),("NoBarge",cc_NoBarge),("NoRoom",cc_NoRoom),("Uneven",cc_Uneven),("Shallow",cc_Shallow),("Falls",cc_Falls),("NoText",cc_NoText),("TooMany",cc_TooMany),("NoLine",cc_NoLine)] [("NoGate",cc_NoGate),("Dry",cc_Dry),("Full",cc_Full),("NoSpring",cc_NoSpring),("NoBarge",cc_NoBarge),("NoRoom",cc_NoRoom),("Uneven",cc_Uneven),("Shallow",cc_Shallow),("Falls",cc_Falls),("NoText",cc_NoText),("TooMany",cc_TooMany),("NoLine",cc_NoLine)]=true)
  {fi:BB} {odI anI:BC BB} {slI:Array (BC Bz)} {kVI dcI pmI cdI ctI:Bz} (iI:PySem.W.findIn K (.ref cc_SummitError) "__init__"=some (some (.ref fi))) (lI:K.lookup fi=some ⟨.type "function",odI,.func (PySem.W.fnOf "__init__" "SummitError.__init__" (Hz Uf) (Hb Uf) (Gc Uf) .none kVI dcI pmI anI cdI ctI),slI⟩) (cI:PySem.W.codeIn K cdI "SummitError.__init__"=true) (kI:PySem.W.keepIn K (.ref fi)=true)
  (cx_Dry:Gcy K cc_Dry fi=true)
  (cx_Full:Gcy K cc_Full fi=true)
  (cx_NoBarge:Gcy K cc_NoBarge fi=true)
  (cx_NoGate:Gcy K cc_NoGate fi=true)
  (cx_NoRoom:Gcy K cc_NoRoom fi=true)
  (cx_NoSpring:Gcy K cc_NoSpring fi=true)
  (cx_Shallow:Gcy K cc_Shallow fi=true)
  (cx_TooMany:Gcy K cc_TooMany fi=true)
  (cx_Uneven:Gcy K cc_Uneven fi=true)
  : ∃ fd:FuncData,(∀ (s:BA) (v:Bz),BindsTo s fd ⟨[v],[]⟩ [("_law_script",v)])/\∀ base:Heap,K.In base->base.Ns mainGlobals mg->FnOk l.prog w K mg base CX0 10 fa fd ["_law_script"] (spD K 1 Gaw):=by
 obtain⟨_,_,_,_,_,_,_,_,_,k_law,c_law,l_law⟩:=HS.h_law.fnx X G hfa
 have F:=Ge3 (st:=Gc4) l_law c_law k_law
 have T:Txt K mg:=⟨PySem.W.mg_none_of X G HS.z_ValueError,PySem.W.mg_none_of X G HS.z_bool,PySem.W.mg_none_of X G HS.z_enumerate,PySem.W.mg_none_of X G HS.z_int,PySem.W.mg_none_of X G HS.z_isinstance,PySem.W.mg_none_of X G HS.z_len,PySem.W.mg_none_of X G HS.z_list,PySem.W.mg_none_of X G HS.z_min,PySem.W.mg_none_of X G HS.z_range,PySem.W.mg_none_of X G HS.z_repr,PySem.W.mg_none_of X G HS.z_str,PySem.W.mg_none_of X G HS.z_tuple,Gn6 X G ka_CHAMBER kl_CHAMBER,Gn6 X G ka_END kl_END,Gr0 X G ka_UP,HS.h_deed_done.fv X G,Hap X G ca_SummitError xtb⟩
 have hVE:mg "ValueError"=none:=PySem.W.mg_none_of X G HS.z_ValueError
 have ini:∀ base:Heap,IniX l.prog w K mg base fi 1:=fun base=>ini_mk (st:=Uf) lI cI kI sc_init (Gll hVE) (fun _ _ _ _ _ _ us hl=>match us,hl with | [_,_],_=>rfl)
 exact⟨_,fun s v=>.of_eq rfl,fun base _ _=>Gsc ⟨HS,⟨h,X,G⟩,T,Xc X G (ini base) ca_Dry cx_Dry,Xc X G (ini base) ca_Full cx_Full,Xc X G (ini base) ca_NoBarge cx_NoBarge,Xc X G (ini base) ca_NoGate cx_NoGate,Xc X G (ini base) ca_NoRoom cx_NoRoom,Xc X G (ini base) ca_NoSpring cx_NoSpring,Xc X G (ini base) ca_Shallow cx_Shallow,Xc X G (ini base) ca_TooMany cx_TooMany,Xc X G (ini base) ca_Uneven cx_Uneven⟩ F⟩
end Law
namespace WM
noncomputable def stp(b l d:Int):Int:=min b (l+d)
def F(b:Int)(ds:List Int)(x:Int):Int:=ds.foldl (stp b) x
def AP(ds:List Int)(x:Int):Prop:=∀ j,1<=j->j<=ds.length->0<=x+(ds.take j).sum
inductive R where
 | dry (k:Nat) | lev (l:Int)
noncomputable def R.bind(o:R)(g:Int->R):R:=match o with
 | .dry k=>.dry k
 | .lev l=>g l
def wl(b:Int):List Int->Nat->Int->R
 | [],_,x=>.lev x
 | d::r,k,x=>if stp b x d<0 then .dry k else wl b r (k+1) (stp b x d)
def most(b:Int)(ds:List Int):Int:=F b ds.tail b
noncomputable def start(ds:List Int)(mn:Int):Int:=max 0 (-mn)
structure IsMin(ds:List Int)(mn:Int):Prop where
 le:∀ j,1<=j->j<=ds.length->mn<=(ds.take j).sum
 at':∃ j,1<=j/\j<=ds.length/\mn=(ds.take j).sum
end WM
namespace DL
open PySem PySem.Spec PyProof.Rows L2
variable{d:D}{f fa:Ev D}{k:Nat}
section
variable{ρ:Lc}{S:Sto}{α β:Type}
@[simp] def Gx{a:α}{g:α->Sto->Out β}:(Out.ok a S).bind g=g a S:=id rfl
@[simp] def Ha9{g:α->Sto->Out β}:(Out.bad:Out α).bind g=.bad:=id rfl
@[simp] def Hq{a:α}{g:α->Sto->OS}:bindS (Out.ok a S) ρ g=g a S:=id rfl
@[simp] def Gy6{g:α->Sto->OS}:bindS (Out.bad:Out α) ρ g=.bad:=id rfl
@[simp] def Xu{i:Nat}:vr i ρ S=match ρ[i]? with
 | some (some d)=>.ok d S
 | _=>.bad:=id rfl
@[simp] def Yr:cn d ρ S=.ok d S:=id rfl
@[simp] def Gdg:an ρ S=.ok [] S:=id rfl
@[simp] def Gdh{g:Ev (List D)}:ac f g ρ S=(f ρ S).bind fun x S1=>(g ρ S1).bind fun xs S2=>.ok (x::xs) S2:=id rfl
@[simp] def Qx{o:D->D->Sto->Out D}{fb:Ev D}:o2 o fa fb ρ S=(fa ρ S).bind fun x S1=>(fb ρ S1).bind fun y S2=>o x y S2:=id rfl
@[simp] def Hc9{o:D->Sto->Out D}:o1 o fa ρ S=(fa ρ S).bind fun x S1=>o x S1:=id rfl
@[simp] def Gjw{o:List D->Sto->Out D}{f:Ev (List D)}:b1 o f ρ S=(f ρ S).bind o:=id rfl
@[simp] def Gt5{n:Nat}{fn:Fn}{t:Ev (List D)}:cl n fn t ρ S=(t ρ S).bind fun ds S1=>if ds.length=n then fn ds S1 else .bad:=id rfl
@[simp] def Gha{fn:Fn}{ds:List D}:Gi fn ds S=match fn ds S with
 | .ok d S'=>.ok d S'
 | _=>.bad:=id rfl
@[simp] def Geq:tb f ρ S=(f ρ S).bind fun x S1=>match x with
 | .bl b=>.ok b S1
 | _=>.bad:=id rfl
@[simp] def Hba:tt f ρ S=(f ρ S).bind fun x S1=>match Vq x S1 with
 | some b=>.ok b S1
 | none=>.bad:=id rfl
@[simp] def Hda{f:Ev Bool}:tn f ρ S=(f ρ S).bind fun b S1=>.ok (!b) S1:=id rfl
@[simp] def Gt6{f g:Ev Bool}:ta f g ρ S=(f ρ S).bind fun b S1=>if b=true then g ρ S1 else .ok false S1:=id rfl
@[simp] def Hbb{f g:Ev Bool}:to f g ρ S=(f ρ S).bind fun b S1=>if b=true then .ok true S1 else g ρ S1:=id rfl
@[simp] def Hdb{g:Ev D}:va f g ρ S=(f ρ S).bind fun x S1=>match x with
 | .bl b=>if b=true then g ρ S1 else .ok (.bl false) S1
 | _=>.bad:=id rfl
@[simp] def Hdc{g:Ev D}:vo f g ρ S=(f ρ S).bind fun x S1=>match x with
 | .bl b=>if b=true then .ok (.bl true) S1 else g ρ S1
 | _=>.bad:=id rfl
@[simp] def Hdd:vn f ρ S=(f ρ S).bind fun x S1=>match x with
 | .bl b=>.ok (.bl (!b)) S1
 | _=>.bad:=id rfl
@[simp] def Hde{c:Ev Bool}{g:Ev D}:ie c f g ρ S=(c ρ S).bind fun b S1=>if b=true then f ρ S1 else g ρ S1:=id rfl
@[simp] def Hbc{f:Ev (List D)}:tp f ρ S=(f ρ S).bind fun xs S1=>if xs.length<=1000000 then .ok (.tup xs) S1 else .bad:=id rfl
@[simp] def Hbd{f:Ev (List D)}:ls f ρ S=(f ρ S).bind fun xs S1=>if xs.length<=1000000 then .ok (.lst S1.length) (S1++[⟨false,xs⟩]) else .bad:=id rfl
@[simp] def Hcz{fe:Ev D}{fl fh:Ev (BC Int)}:sl2 fe fl fh ρ S=(fe ρ S).bind fun x S1=>(fl ρ S1).bind fun l S2=>(fh ρ S2).bind fun u S3=>Gia x l u S3:=id rfl
@[simp] def Hbe:onone ρ S=.ok none S:=id rfl
@[simp] def Hbf:osome f ρ S=(f ρ S).bind fun x S1=>match x with
 | .int i=>.ok (some i) S1
 | _=>.bad:=id rfl
@[simp] def Hdf{o:D->List D->Sto->Out D}{fo:Ev D}{f:Ev (List D)}:mt o fo f ρ S=(fo ρ S).bind fun x S1=>if isLst x S1=true then(f ρ S1).bind fun xs S2=>o x xs S2 else .bad:=id rfl
@[simp] def Hdg{o o':D->D->Sto->Out D}{fb fc:Ev D}:ch o o' fa fb fc ρ S=(fa ρ S).bind fun x S1=>(fb ρ S1).bind fun y S2=>(o x y S2).bind fun z S3=>match z with
 | .bl b=>if b=true then(fc ρ S3).bind fun w S4=>o' y w S4 else .ok (.bl false) S3
 | _=>.bad:=id rfl
@[simp] def Gby{f g:Sv}:sq f g ρ S=match f ρ S with
 | .nx ρ' S'=>g ρ' S'
 | .rt d S'=>.rt d S'
 | .bk ρ' S'=>.bk ρ' S'
 | .ct ρ' S'=>.ct ρ' S'
 | .exc x ρ' S'=>.exc x ρ' S'
 | .bad=>.bad:=id rfl
@[simp] def Uz{g:Tg}:sa f g ρ S=bindS (f ρ S) ρ fun d S1=>match g d ρ with
 | some ρ'=>.nx ρ' S1
 | none=>.bad:=id rfl
@[simp] def Hbg{i:Nat}:gn i d ρ=some (ρ.set i (some d)):=id rfl
@[simp] def Gfu:sret f ρ S=bindS (f ρ S) ρ fun d S1=>.rt d S1:=id rfl
@[simp] def Goi{c:Ev Bool}{f g:Sv}:sif c f g ρ S=bindS (c ρ S) ρ fun b S1=>if b=true then f ρ S1 else g ρ S1:=id rfl
@[simp] def Hdh:sx f ρ S=bindS (f ρ S) ρ fun _ S1=>.nx ρ S1:=id rfl
@[simp] def Hby:skip ρ S=.nx ρ S:=id rfl
@[simp] def Gt7{fo fi:Ev D}{o:D->D->D->Sto->BC Sto}:ss f fo fi o ρ S=bindS (f ρ S) ρ fun d S1=>bindS (fo ρ S1) ρ fun x S2=>bindS (fi ρ S2) ρ fun y S3=>match o x y d S3 with
 | some S4=>.nx ρ S4
 | none=>.bad:=id rfl
@[simp] def Hc0{i:Nat}{g:Int->Int->Int}:sag i g f ρ S=match ρ[i]? with
 | some (some (.int a))=>bindS (f ρ S) ρ fun d S1=>match d with
  | .int b=>.nx (ρ.set i (some (.int (g a b)))) S1
  | _=>.bad
 | _=>.bad:=id rfl
@[simp] def Vw:isrc f ρ S=(f ρ S).bind Gi9:=id rfl
@[simp] def Vh{f:Ev Src}{g:Tg}{b:Sv}:sfor f g b ρ S=bindS (f ρ S) ρ fun s S1=>Kb s.nxt g b s.fuel 0 ρ S1:=id rfl
section
variable{i j:Int}
@[simp] def Gx5:Gu (.int i) (.int j) S=.ok (.int (i+j)) S:=id rfl
@[simp] def Goj:Ql (.int i) (.int j) S=.ok (.int (i-j)) S:=id rfl
@[simp] def Hdi:Ggl (.int i) S=.ok (.int (-i)) S:=id rfl
def Gt8(h1 : -(2^64)<j)(h2:j<2^64):Jc (.int i) (.int j) S=.ok (.int (i*j)) S:=by
 show(if(-(2^64)<i/\i<2^64)\/(-(2^64)<j/\j<2^64) then Out.ok (D.int (i*j)) S else .bad)=_
 rw[if_pos (.inr ⟨h1,h2⟩)]
def Ger(h1 : -(2^64)<i)(h2:i<2^64):Jc (.int i) (.int j) S=.ok (.int (i*j)) S:=by
 show(if(-(2^64)<i/\i<2^64)\/(-(2^64)<j/\j<2^64) then Out.ok (D.int (i*j)) S else .bad)=_
 rw[if_pos (.inl ⟨h1,h2⟩)]
def Gbh(h:0<j):Xb (.int i) (.int j) S=.ok (.int (i%j)) S:=by
 show(if decide (0<j)=true then Out.ok (D.int (i%j)) S else .bad)=_
 rw[if_pos (by simpa using h)]
def Gfv(h:0<j)(h2:j<2^200):Vs (.int i) (.int j) S=.ok (.int (i / j)) S:=by
 show(if decide (0<j/\j<2^200)=true then Out.ok (D.int (i / j)) S else .bad)=_
 rw[if_pos (decide_eq_true ⟨h,h2⟩)]
def Gin{n:Nat}(h:(n:Int)<=1000000)(h2:i.natAbs<2^64):Gfa (.int i) (.int n) S=.ok (.int (i^n)) S:=by
 show(if decide (0<=(n:Int)/\(n:Int)<=1000000/\i.natAbs<2^64)=true then Out.ok (D.int (i^(n:Int).toNat)) S else .bad)=_
 rw[if_pos (decide_eq_true ⟨by omega,h,h2⟩)]
 rfl
@[simp] def Hdj:Gfa (.int 10) (.int 6) S=.ok (.int 1000000) S:=Gin (n:=6) (by decide) (by decide)
@[simp] def Hc1:Gfa (.int 10) (.int 15) S=.ok (.int 1000000000000000) S:=Gin (n:=15) (by decide) (by decide)
@[simp] def Hc2:Gfa (.int 10) (.int 18) S=.ok (.int 1000000000000000000) S:=Gin (n:=18) (by decide) (by decide)
@[simp] def Hdk:ltD (.int i) (.int j) S=.ok (.bl (decide (i<j))) S:=id rfl
@[simp] def Hdl:leD (.int i) (.int j) S=.ok (.bl (decide (i<=j))) S:=id rfl
@[simp] def Hdm:gtD (.int i) (.int j) S=.ok (.bl (decide (j<i))) S:=id rfl
@[simp] def Hdn:geD (.int i) (.int j) S=.ok (.bl (decide (j<=i))) S:=id rfl
@[simp] def Hc3:Gld [.int i,.int j] S=.ok (.int (min i j)) S:=by
 show Out.ok (D.int (if j<i then j else i)) S=_
 congr 2
 omega
@[simp] def Hc4:Hcp [.int i,.int j] S=.ok (.int (max i j)) S:=by
 show Out.ok (D.int (if j>i then j else i)) S=_
 congr 2
 omega
@[simp] def Gt9:eqD (.int i) (.int j) S=.ok (.bl (decide (i=j))) S:=by
 simp only[eqD,toP]
 simp[SeqAt.shaped,PyData.eqv]
 rfl
@[simp] def Hdo:neD (.int i) (.int j) S=.ok (.bl (!decide (i=j))) S:=by
 simp only[neD,toP]
 simp[SeqAt.shaped,PyData.eqv]
 rfl
def Jv{x y:Str}(hx:PyData.strOk x=true)(hy:PyData.strOk y=true):eqD (.str x) (.str y) S=.ok (.bl (x==y)) S:=by
 simp only[eqD,toP]
 simp[SeqAt.shaped,PyData.eqv,PyData.canLay0,PyData.depth,hx,hy]
end
@[simp] def Hdp{l:List D}:Gy [.tup l] S=.ok (.int l.length) S:=id rfl
def Va{c:Cell}(h:S[k]?=some c):Gy [.lst k] S=.ok (.int c.xs.length) S:=by
 show(match S[k]? with | some c=>Out.ok (D.int c.xs.length) S | none=>.bad)=_
 rw[h]
def Jr{c:Cell}{i:Int}(h:S[k]?=some c)(e:atI c.xs i=some d):getD (.lst k) (.int i) S=.ok d S:=by
 show(match S[k]? with | some c=>(match atI c.xs i with | some d=>Out.ok d S | none=>.bad) | none=>.bad)=_
 rw[h]
 show(match atI c.xs i with | some d=>Out.ok d S | none=>.bad)=_
 rw[e]
def Je{l:List D}{i:Int}(e:atI l i=some d):getD (.tup l) (.int i) S=.ok d S:=by
 show(match atI l i with | some d=>Out.ok d S | none=>.bad)=_
 rw[e]
def Ha{α:Type}{l:List α}{i:Int}{d:α}(h0:0<=i)(e:l[i.toNat]?=some d):atI l i=some d:=by
 unfold atI ixN
 have:i.toNat<l.length:=(Aa.mp e).1
 rw[if_pos h0,if_pos (by omega)]
 exact e
def Gjx{xs:List D}{i:Int}(h:S[k]?=some ⟨false,xs⟩)(h0:0<=i)(h1:i<xs.length):Hm (.lst k) (.int i) d S=some (S.set k ⟨false,xs.set i.toNat d⟩):=by
 show(match S[k]? with | some c=>(match ixN c.xs.length i with | some j=>if c.fz=false then some (S.set k ⟨false,c.xs.set j d⟩) else none | none=>none) | none=>none)=_
 rw[h]
 show(match ixN xs.length i with | some j=>if false=false then some (S.set k ⟨false,xs.set j d⟩) else none | none=>none)=_
 unfold ixN
 rw[if_pos h0,if_pos h1]
 rfl
@[simp] def Hdq{l:List Int}:Hco [.tup (l.map D.int)] S=.ok (.int l.sum) S:=by
 have:∀ l:List Int,Gct (l.map D.int)=some l:=fun l=>by
  induction l with
  | nil=>rfl
  | cons a r ih=>show(Gct (r.map D.int)).map (a::·)=_; rw[ih]; rfl
 show(match (some (l.map D.int)).bind Gct with | some ns=>Out.ok (D.int ns.sum) S | none=>.bad)=_
 rw[Ba,this]
end
end DL
namespace Law
open PySem PySem.Spec PyProof.Rows L2 DL
variable{m t k j q n a N:Nat}{b u:Bool}{ds xs A B C:List D}{S S' S1 S2:Sto}{d:D}{f:Sv}{ρ ρ':Lc}{c:Cell}{r lH lL v:Int}{y:Str}{L M:List Int}{nxt:Nat->Sto->BC D}{α:Type}
noncomputable def fin(o:OS):Out D:=match o with
 | .rt d S'=>.ok d S'
 | .nx _ S'=>.ok .non S'
 | .exc x _ S'=>.exc x S'
 | _=>.bad
def Go{b:Sv}:fnB m b ds S=fin (b (ds.map some++List.replicate (m-ds.length) none) S):=id rfl
@[simp] def Hc5:fin (.rt d S)=.ok d S:=id rfl
def Ge{g:Sv}(h:f ρ S=.nx ρ' S'):fin (sq f g ρ S)=fin (g ρ' S'):=by rw[Gby,h]
def Hx{g:Sv}(h:f ρ S=.rt d S'):fin (sq f g ρ S)=.ok d S':=by rw[Gby,h]; rfl
structure Dp(S:Sto)(t k:Nat)(n:Nat):Prop where
 ex:∃ (a b:Int) (xs:List Int),S[t]?=some ⟨false,[.lst k,.int a,.int b]⟩/\S[k]?=some ⟨false,xs.map D.int⟩/\0<=a/\a<=n
 ne:t≠k
structure Kp(S S':Sto)(t k:Nat):Prop where
 len:S.length<=S'.length
 get:∀ i,i<S.length->i≠t->i≠k->S'[i]?=S[i]?
def Kp.refl:Kp S S t k:=⟨Ab _,fun _ _ _ _=>rfl⟩
def Kp.trans(a:Kp S S1 t k)(b:Kp S1 S2 t k):Kp S S2 t k:=⟨Aj a.len b.len,fun i h h1 h2=>(b.get i (Ai h a.len) h1 h2).trans (a.get i h h1 h2)⟩
def Kp.set(h:j=t\/j=k):Kp S (S.set j c) t k:=⟨by simp,fun i _ h1 h2=>by
 rw[Ad]
 rcases h with h | h
 ·rw[h]; exact Ne.symm h1
 ·rw[h]; exact Ne.symm h2⟩
def Kp.app:Kp S (S++[c]) t k:=⟨by simp,fun i h _ _=>by rw[Ar h]⟩
def Kp.at(a:Kp S S' t k)(e:S[q]?=some c)(h1:q≠t)(h2:q≠k):S'[q]?=some c:=(a.get q (Aa.mp e).1 h1 h2).trans e
def Gs:(S++[c])[S.length]?=some c:=by rw[A0 (Ab _)]; simp
def Hr{d:Cell}(e:S[q]?=some d):(S++[c])[q]?=some d:=by
 rw[Ar (Aa.mp e).1]; exact e
def Dp.app(h:Dp S t k n):Dp (S++[c]) t k n:=by
 obtain⟨⟨a,b,xs,e1,e2,h⟩,ne⟩:=h
 exact⟨⟨a,b,xs,Hr e1,Hr e2,h⟩,ne⟩
def Dp.lt(h:Dp S t k n):t<S.length/\k<S.length:=by
 obtain⟨⟨a,b,xs,e1,e2,h⟩,ne⟩:=h
 exact⟨(Aa.mp e1).1,(Aa.mp e2).1⟩
def Dp.set(h:Dp S t k n)(h1:q≠t)(h2:q≠k):Dp (S.set q c) t k n:=by
 obtain⟨⟨a,b,xs,e1,e2,h⟩,ne⟩:=h
 exact⟨⟨a,b,xs,by rw[Ad h1]; exact e1,by rw[Ad h2]; exact e2,h⟩,ne⟩
def Dp.mono(h:Dp S t k n)(hm:n<=m):Dp S t k m:=by
 obtain⟨⟨a,b,xs,e1,e2,h0,h1⟩,ne⟩:=h
 exact⟨⟨a,b,xs,e1,e2,h0,by omega⟩,ne⟩
def Gx6:Sv:=(sq (sif (ta (tb (o2 ltD (vr 3) (b1 Gy (ac (o2 DL.getD (vr 0) (cn (.int 0))) an)))) (tb (o2 geD (vr 4) (o2 Gfa (cn (.int 10)) (cn (.int 18))))))
  (sq (ss (o2 Vs (vr 4) (vr 1)) (vr 0) (cn (.int 2)) Hm)
  (sret (o2 Xb (vr 4) (vr 1))))
  DL.skip)
  (sq (sa (o2 Xb (o2 Jc (o2 Gu (o2 Xb (vr 4) (cn (.int 1000003))) (cn (.int 1))) (o2 Gu (o2 Gu (o2 Jc (o2 Jc (cn (.int 7919)) (vr 3)) (vr 3)) (o2 Jc (cn (.int 104729)) (vr 3))) (cn (.int 12345)))) (cn (.int 2147483647))) (gn 5))
  (sq (sa (o2 Xb (o2 Gu (o2 Gu (o2 Jc (vr 5) (vr 5)) (o2 Jc (cn (.int 48271)) (vr 3))) (o2 Xb (vr 4) (cn (.int 65537)))) (cn (.int 2147483629))) (gn 5))
  (sret (o2 Xb (o2 Vs (vr 5) (cn (.int 8))) (vr 1))))))
def Gx7{m a b c:Int}{xs:List Int}{g2:BC D}(e1:S[t]?=some ⟨false,[.lst k,.int (a+1),.int b]⟩)(e2:S[k]?=some ⟨false,xs.map D.int⟩)(ne:t≠k)(ha:0<=a)(han:a<=n)(hn:n<2^60)(hm:0<m)(hm2:m<2^200):
  ∃ r S',fin (Gx6 [some (.lst t),some (.int m),g2,some (.int a),some (.int c),none] S)=.ok (.int r) S'/\0<=r/\r<m/\Dp S' t k (n+1)/\Kp S S' t k:=by
 have g0:DL.getD (.lst t) (.int 0) S=.ok (.lst k) S:=Jr e1 rfl
 have ln:Gy [.lst k] S=.ok (.int xs.length) S:=by rw[Va e2]; simp
 have lt:t<S.length:=(Aa.mp e1).1
 have s2:Hm (.lst t) (.int 2) (.int (c / m)) S=some (S.set t ⟨false,[.lst k,.int (a+1),.int (c / m)]⟩):=Gjx e1 (by decide) (by simp)
 by_cases h:a<xs.length/\1000000000000000000<=c
 ·refine⟨c%m,S.set t ⟨false,[.lst k,.int (a+1),.int (c / m)]⟩,?_,Bc _ (by omega),Br _ hm,⟨⟨a+1,c / m,xs,Ah lt,by rw[Ad ne]; exact e2,by omega,by omega⟩,ne⟩,Kp.set (.inl rfl)⟩
  unfold Gx6
  exact Hx (by simp[g0,ln,h.1,h.2,Gfv hm hm2,s2,Gbh hm])
 ·have sqr:∀ x:Int,Jc (.int (x%2147483647)) (.int (x%2147483647)) S=.ok (.int (x%2147483647*(x%2147483647))) S:=fun x=>Gt8 (by omega) (by omega)
  have m1:Jc (.int (7919*a)) (.int a) S=.ok (.int (7919*a*a)) S:=Gt8 (by omega) (by omega)
  have m2:∀ y:Int,Jc (.int (c%1000003+1)) (.int y) S=.ok (.int ((c%1000003+1)*y)) S:=fun y=>Ger (by omega) (by omega)
  obtain⟨z,hz⟩:∃ z:Int,z=((c%1000003+1)*(7919*a*a+104729*a+12345))%2147483647:=⟨_,rfl⟩
  obtain⟨y,hy⟩:∃ y:Int,y=(z*z+48271*a+c%65537)%2147483629:=⟨_,rfl⟩
  have mz:Jc (.int z) (.int z) S=.ok (.int (z*z)) S:=by rw[hz]; exact sqr _
  have e1':sif (ta (tb (o2 ltD (vr 3) (b1 Gy (ac (o2 DL.getD (vr 0) (cn (.int 0))) an)))) (tb (o2 geD (vr 4) (o2 Gfa (cn (.int 10)) (cn (.int 18)))))) (sq (ss (o2 Vs (vr 4) (vr 1)) (vr 0) (cn (.int 2)) Hm) (sret (o2 Xb (vr 4) (vr 1)))) DL.skip [some (.lst t),some (.int m),g2,some (.int a),some (.int c),none] S=.nx [some (.lst t),some (.int m),g2,some (.int a),some (.int c),none] S:=by
   by_cases c1:a<xs.length
   ·have c2:¬ 1000000000000000000<=c:=fun z=>h ⟨c1,z⟩
    simp[g0,ln,c1,c2]
   ·simp[g0,ln,c1]
  refine⟨y / 8%m,S,?_,Bc _ (by omega),Br _ hm,⟨⟨a+1,b,xs,e1,e2,by omega,by omega⟩,ne⟩,.refl⟩
  unfold Gx6
  rw[Ge e1']
  refine(Ge (ρ':=[some (.lst t),some (.int m),g2,some (.int a),some (.int c),some (.int z)]) (S':=S) (by rw[hz]; simp[Gbh,Ger,m1,m2])).trans ?_
  refine(Ge (ρ':=[some (.lst t),some (.int m),g2,some (.int a),some (.int c),some (.int y)]) (S':=S) (by rw[hy]; simp[Gbh,Ger,mz])).trans ?_
  simp[Gfv,Gbh hm]
def Ui{m:Int}(h:Dp S t k n)(hn:n<2^60)(hm:0<m)(hm2:m<2^200):∃ r S',Gg [.lst t,.int m] S=.ok (.int r) S'/\0<=r/\r<m/\Dp S' t k (n+1)/\Kp S S' t k:=by
 obtain⟨⟨a,b,xs,e1,e2,ha,han⟩,ne⟩:=h
 have lt:t<S.length:=(Aa.mp e1).1
 have g1:DL.getD (.lst t) (.int 1) S=.ok (.int a) S:=Jr e1 rfl
 have g2:DL.getD (.lst t) (.int 2) S=.ok (.int b) S:=Jr e1 rfl
 have s1:Hm (.lst t) (.int 1) (.int (a+1)) S=some (S.set t ⟨false,[.lst k,.int (a+1),.int b]⟩):=Gjx e1 (by decide) (by simp)
 have s2:Hm (.lst t) (.int 2) (.int (b / m)) S=some (S.set t ⟨false,[.lst k,.int a,.int (b / m)]⟩):=Gjx e1 (by decide) (by simp)
 have hf:∀ X,Gg [.lst t,.int m] S=X↔fin (Kr [some (.lst t),some (.int m),none,none,none,none] S)=X:=fun X=>by rw[show Gg [.lst t,.int m] S=fin (Kr [some (.lst t),some (.int m),none,none,none,none] S) from Go (m:=6) (b:=Kr)]
 by_cases c:0<b
 ·refine⟨b%m,S.set t ⟨false,[.lst k,.int a,.int (b / m)]⟩,(hf _).mpr ?_,Bc _ (by omega),Br _ hm,⟨⟨a,b / m,xs,Ah lt,by rw[Ad ne]; exact e2,ha,by omega⟩,ne⟩,Kp.set (.inl rfl)⟩
  unfold Kr
  exact Hx (by simp[g2,c,Gbh hm,Gfv hm hm2,s2])
 ·have e1':(S.set t ⟨false,[.lst k,.int (a+1),.int b]⟩)[t]?=some ⟨false,[.lst k,.int (a+1),.int b]⟩:=Ah lt
  have e2':(S.set t ⟨false,[.lst k,.int (a+1),.int b]⟩)[k]?=some ⟨false,xs.map D.int⟩:=by rw[Ad ne]; exact e2
  have kp:Kp S (S.set t ⟨false,[.lst k,.int (a+1),.int b]⟩) t k:=Kp.set (.inl rfl)
  generalize S.set t ⟨false,[.lst k,.int (a+1),.int b]⟩=S1 at *
  have g0:DL.getD (.lst t) (.int 0) S1=.ok (.lst k) S1:=Jr e1' rfl
  have ln:Gy [.lst k] S1=.ok (.int xs.length) S1:=by rw[Va e2']; simp
  obtain⟨cl',ec⟩:∃ cl':Int,sif (tb (o2 gtD (b1 Gy (ac (o2 DL.getD (vr 0) (cn (.int 0))) an)) (cn (.int 0)))) (sa (o2 DL.getD (o2 DL.getD (vr 0) (cn (.int 0))) (o2 Xb (vr 3) (b1 Gy (ac (o2 DL.getD (vr 0) (cn (.int 0))) an)))) (gn 4)) DL.skip [some (.lst t),some (.int m),none,some (.int a),some (.int 0),none] S1=.nx [some (.lst t),some (.int m),none,some (.int a),some (.int cl'),none] S1:=by
   by_cases c2:0<xs.length
   ·have c3:(0:Int)<xs.length:=by omega
    have lti:(a%(xs.length:Int)).toNat<xs.length:=by
     have:=Br a c3
     have:=Bc a (by omega:(xs.length:Int)≠0)
     omega
    have gi:DL.getD (.lst k) (.int (a%(xs.length:Int))) S1=.ok (.int xs[(a%(xs.length:Int)).toNat]) S1:=Jr e2' (Ha (Bc a (by omega)) (by simp[lti]))
    exact⟨xs[(a%(xs.length:Int)).toNat],by simp[g0,ln,c2,Gbh c3,gi]⟩
   ·exact⟨0,by simp[g0,ln,c2]⟩
  obtain⟨r,S',h1,h2,h3,h4,h5⟩:=Gx7 (c:=cl') (g2:=none) e1' e2' ne ha han hn hm hm2
  refine⟨r,S',(hf _).mpr ?_,h2,h3,h4,kp.trans h5⟩
  unfold Kr
  refine(Ge (ρ':=[some (.lst t),some (.int m),none,none,none,none]) (S':=S) (by simp[g2,c])).trans ?_
  refine(Ge (ρ':=[some (.lst t),some (.int m),none,some (.int a),none,none]) (S':=S) (by simp[g1])).trans ?_
  refine(Ge (ρ':=[some (.lst t),some (.int m),none,some (.int a),none,none]) (S':=S1) (by simp[s1])).trans ?_
  refine(Ge (ρ':=[some (.lst t),some (.int m),none,some (.int a),some (.int 0),none]) (S':=S1) (by simp)).trans ?_
  rw[Ge ec]
  exact h1
def pick{x:D}(s:Kp (S++[⟨false,xs⟩]) S1 t k)(h:t<S.length/\k<S.length)(e:atI xs r=some x):DL.getD (.lst S.length) (.int r) S1=.ok x S1:=
 Jr (c:=⟨false,xs⟩) (s.at Gs (by omega) (by omega)) e
def Xm{m:Int}(h:Dp S t k n)(hn:n<2^60)(hm:m=xs.length)(h0:0<xs.length)(h1:xs.length<1000):∃ r x S1,Gg [.lst t,.int m] (S++[⟨false,xs⟩])=.ok (.int r) S1/\DL.getD (.lst S.length) (.int r) S1=.ok x S1/\x∈xs/\Dp S1 t k (n+1)/\Kp S S1 t k:=by
 obtain⟨r,S1,e1,r0,r1,d1,k1⟩:=Ui (m:=m) (h.app (c:=⟨false,xs⟩)) hn (by omega) (by omega)
 have hlt:r.toNat<xs.length:=by omega
 have ea:atI xs r=some xs[r.toNat]:=Ha r0 (by simp[hlt])
 exact⟨r,_,S1,e1,pick k1 h.lt ea,A3 hlt,d1,Kp.app.trans k1⟩
inductive Pl where
 | e | c | p (br de ro:Int) (pr:D)
variable{p pH pL:Pl}{ps:List Pl}
noncomputable def Pl.toD:Pl->D
 | .e=>.tup [.str "end"]
 | .c=>.tup [.str "chamber"]
 | .p br de ro pr=>.tup [.str "pound",.int br,.int de,.int ro,pr]
def Pl.ok:Pl->Prop
 | .p br de ro pr=>1<=br/\br<=9/\0<=de/\de<=br/\1<=ro/\ro<=4/\(pr=.non\/∃ i,pr=.int i/\0<=i/\i<=99)
 | _=>True
def isL(e:S[q]?=some c):isLst (.lst q) S=true:=by simp only[isLst,e]
def Uj{nxt:Nat->Sto->BC D}{g:Tg}{b:Sv}{l:List D}(I:Nat->Lc->Sto->Prop)(hn:∀ k ρ S,I k ρ S->nxt k S=l[k]?)(hs:∀ k d ρ S,l[k]?=some d->I k ρ S->∃ ρ1 ρ2 S2,g d ρ=some ρ1/\b ρ1 S=.nx ρ2 S2/\I (k+1) ρ2 S2):
  ∀ (n k:Nat) (ρ:Lc) (S:Sto),k<=l.length->I k ρ S->l.length<n+k->∃ ρ' S',Kb nxt g b n k ρ S=.nx ρ' S'/\I l.length ρ' S'
 | 0,k,ρ,S,h1,_,h2=>by omega
 | n+1,k,ρ,S,h1,hI,h2=>by
  unfold Kb
  rw[hn k ρ S hI]
  cases z:l[k]? with
  | none=>
   have:k=l.length:=by have:=A2.mp z; omega
   subst this
   exact⟨ρ,S,rfl,hI⟩
  | some d=>
   obtain⟨ρ1,ρ2,S2,h3,h4,h5⟩:=hs k d ρ S z hI
   have hk:k<l.length:=(Aa.mp z).1
   obtain⟨ρ',S',h6,h7⟩:=Uj I hn hs n (k+1) ρ2 S2 hk h5 (by omega)
   refine⟨ρ',S',?_,h7⟩
   simp only[h3,h4]
   exact h6
noncomputable def Gx8(l:List D):Src:=⟨fun k _=>l[k]?,l.length+1⟩
def Wk(i n:Nat):Src:=⟨fun k S=>(S[i]?).bind fun c=>c.xs[k]?,n+1⟩
def Gbz{i:Nat}(e:S[i]?=some c):Gi9 (.lst i) S=.ok (Wk i c.xs.length) S:=by
 simp only[Gi9,e]
 rfl
def Gfw:(rsrc 0 n).nxt k S=((List.range n).map fun k:Nat=>D.int (k:Int))[k]?:=by
 show(if k<n then some (D.int (0+k)) else none)=_
 rw[As]
 by_cases c:k<n
 ·rw[if_pos c,A4 c]; simp
 ·rw[if_neg c,Bs (by simp; omega)]; rfl
def Gok(h:((List.range n).map fun k:Nat=>D.int (k:Int))[k]?=some d):k<n/\d=.int k:=by
 have hk:k<n:=by have:=(Aa.mp h).1; simpa using this
 rw[As,A4 hk] at h
 exact⟨hk,(Ac h).symm⟩
def Gio{f:Ev (List D)}(h:f ρ S=.ok [.int n] S')(hn:n<=1000000):ir1 f ρ S=.ok (rsrc 0 n) S':=by
 unfold ir1
 rw[h]
 show(if -1000000000000<=(n:Int)/\(n:Int)<=1000000000000 then Out.ok (rsrc 0 (n:Int).toNat) S' else .bad)=_
 rw[if_pos (by omega)]; rfl
def Kp.setq{S0:Sto}(a:Kp S0 S t k)(h:S0.length<=q):Kp S0 (S.set q c) t k:=⟨by simp; exact a.len,fun i hi h1 h2=>by
 rw[Ad (by omega)]; exact a.get i hi h1 h2⟩
def Zw{i:Nat}{a b:List D}(h1:S[i]?=some ⟨false,a⟩)(h2:S[j]?=some ⟨false,b⟩)(h:a.length+b.length<=1000000):Gu (.lst i) (.lst j) S=.ok (.lst S.length) (S++[⟨false,a++b⟩]):=by
 simp only[Gu,h1,h2]
 simp[h]
def Gfx{i:Nat}(e:S[i]?=some ⟨false,[d]⟩)(hn:n<=1000):Jc (.lst i) (.int n) S=.ok (.lst S.length) (S++[⟨false,List.replicate n d⟩]):=by
 have fl:∀ n:Nat,(List.replicate n [d]).flatten=List.replicate n d:=fun n=>by
  induction n with
  | zero=>rfl
  | succ n ih=>rw[AO,AY,ih]; rfl
 simp only[Jc,e]
 rw[if_pos (by simp; omega)]
 simp[fl]
def Gax(e:S[q]?=some c):Kc [.lst q] S=.ok (.tup c.xs) S:=by
 simp only[Kc,e]
noncomputable def Pl.isC:Pl->Bool
 | .c=>true
 | _=>false
noncomputable def Pl.isE:Pl->Bool
 | .e=>true
 | _=>false
def stok(s:String):PyData.strOk (Str.ofString s)=true:=by
 unfold PyData.strOk
 have hc:∀ c:Char,c.toNat<1114112:=fun c=>by
  rcases c.valid with h | ⟨_,h⟩
  ·exact Ai h (by decide)
  ·exact h
 rw[Str.ofString_eq_toList]
 simp[hc]
def Gca(h:p.ok):eqD p.toD (.tup [.str "chamber"]) S=.ok (.bl p.isC) S:=by
 have n1:(Str.ofString "end"==Str.ofString "chamber")=false:=by decide +kernel
 have n2:(Str.ofString "pound"==Str.ofString "chamber")=false:=by decide +kernel
 cases p with
 | e=>simp[Pl.toD,eqD,toP,Jq,SeqAt.shaped,PyData.canLay0,PyData.canLayAll0,PyData.depth,PyData.depthAll,stok,PyData.eqv,PyData.eqvAll,n1,Pl.isC]
 | c=>simp[Pl.toD,eqD,toP,Jq,SeqAt.shaped,PyData.canLay0,PyData.canLayAll0,PyData.depth,PyData.depthAll,stok,PyData.eqv,PyData.eqvAll,Pl.isC]
 | p br de ro pr=>
  obtain⟨_,_,_,_,_,_,h⟩:=h
  rcases h with rfl | ⟨i,rfl,_⟩
  ·simp[Pl.toD,eqD,toP,Jq,SeqAt.shaped,PyData.canLay0,PyData.canLayAll0,PyData.depth,PyData.depthAll,stok,PyData.eqv,PyData.eqvAll,n2,Pl.isC]
  ·simp[Pl.toD,eqD,toP,Jq,SeqAt.shaped,PyData.canLay0,PyData.canLayAll0,PyData.depth,PyData.depthAll,stok,PyData.eqv,PyData.eqvAll,n2,Pl.isC]
def Gfy(h:p.ok):eqD p.toD (.tup [.str "end"]) S=.ok (.bl p.isE) S:=by
 have n1:(Str.ofString "chamber"==Str.ofString "end")=false:=by decide +kernel
 have n2:(Str.ofString "pound"==Str.ofString "end")=false:=by decide +kernel
 cases p with
 | e=>simp[Pl.toD,eqD,toP,Jq,SeqAt.shaped,PyData.canLay0,PyData.canLayAll0,PyData.depth,PyData.depthAll,stok,PyData.eqv,PyData.eqvAll,Pl.isE]
 | c=>simp[Pl.toD,eqD,toP,Jq,SeqAt.shaped,PyData.canLay0,PyData.canLayAll0,PyData.depth,PyData.depthAll,stok,PyData.eqv,PyData.eqvAll,n1,Pl.isE]
 | p br de ro pr=>
  obtain⟨_,_,_,_,_,_,h⟩:=h
  rcases h with rfl | ⟨i,rfl,_⟩
  ·simp[Pl.toD,eqD,toP,Jq,SeqAt.shaped,PyData.canLay0,PyData.canLayAll0,PyData.depth,PyData.depthAll,stok,PyData.eqv,PyData.eqvAll,n2,Pl.isE]
  ·simp[Pl.toD,eqD,toP,Jq,SeqAt.shaped,PyData.canLay0,PyData.canLayAll0,PyData.depth,PyData.depthAll,stok,PyData.eqv,PyData.eqvAll,n2,Pl.isE]
def Ut{e:Ev D}(h:e ρ S=.ok d S2)(q:S2[a]?=some ⟨false,xs⟩)(hl:xs.length<1000000):cbody a ttrue e ρ S=.nx ρ (S2.set a ⟨false,xs++[d]⟩):=by
 show bindS (ttrue ρ S) ρ _=_
 show bindS (e ρ S) ρ _=_
 rw[h]
 simp only[Hq,q]
 rw[if_pos (by simp[hl])]
def Gol{c:Ev Bool}{e:Ev D}(h:c ρ S=.ok false S2):cbody a c e ρ S=.nx ρ S2:=by
 unfold cbody
 rw[h]
 simp
def Glr{c:Ev Bool}{e:Ev D}(hc:c ρ S=.ok true S1)(h:e ρ S1=.ok d S2)(q:S2[a]?=some ⟨false,xs⟩)(hl:xs.length<1000000):cbody a c e ρ S=.nx ρ (S2.set a ⟨false,xs++[d]⟩):=by
 unfold cbody
 rw[hc]
 simp only[Hq,if_true,h,q]
 rw[if_pos (by simp[hl])]
def Gfz{f:Ev Src}{pk:List (BC Nat)}{g:Tg}{c:Ev Bool}{e:Ev D}{s:Src}(h:f ρ S=.ok s S1)(l:Kb s.nxt g (cbody S1.length c e) s.fuel 0 (pkS pk ρ) (S1++[⟨false,[]⟩])=.nx ρ' S'):cmp f pk g c e ρ S=.ok (.lst S1.length) S':=by
 unfold cmp
 rw[h]
 simp only[Gx,l]
structure Ex(S S':Sto):Prop where
 len:S.length<=S'.length
 get:∀ i,i<S.length->S'[i]?=S[i]?
def Ex.refl:Ex S S:=⟨Ab _,fun _ _=>rfl⟩
def Ex.trans(a:Ex S S1)(b:Ex S1 S2):Ex S S2:=⟨Aj a.len b.len,fun i h=>(b.get i (Ai h a.len)).trans (a.get i h)⟩
def Ex.app:Ex S (S++[c]):=⟨by simp,fun i h=>by rw[Ar h]⟩
def Ex.setq{S0:Sto}(a:Ex S0 S)(h:S0.length<=q):Ex S0 (S.set q c):=⟨by simp; exact a.len,fun i hi=>by rw[Ad (by omega)]; exact a.get i hi⟩
def Ex.kp(a:Ex S S'):Kp S S' t k:=⟨a.len,fun i h _ _=>a.get i h⟩
def Ex.at(a:Ex S S')(e:S[q]?=some c):S'[q]?=some c:=(a.get q (Aa.mp e).1).trans e
def Dp.ext(h:Dp S t k n)(x:Ex S S'):Dp S' t k n:=by
 obtain⟨⟨a,b,xs,e1,e2,h⟩,ne⟩:=h
 exact⟨⟨a,b,xs,x.at e1,x.at e2,h⟩,ne⟩
noncomputable def isInt:D->Bool
 | .int _=>true
 | _=>false
def Gf0{a b:List D}(h:a.length+b.length<=1000000):Gu (.tup a) (.tup b) S=.ok (.tup (a++b)) S:=by
 show(if a.length+b.length<=1000000 then Out.ok (D.tup (a++b)) S else .bad)=_
 rw[if_pos h]
def Xn{a b:Str}(h1:PyData.strOk a=true)(h2:PyData.strOk b=true):PyData.strOk (a++b)=true:=by
 unfold PyData.strOk at *
 show((a.cps++b.cps).all fun x=>decide (x<1114112))=true
 rw[Array.all_append,h1,h2]
 rfl
def Gjy{n:Nat}:∀ ts:List Str,(∀ t∈ts,PyData.strOk t=true/\t.length<=n)->PyData.strOk (Str.join ", " ts)=true/\(Str.join ", " ts).length<=(n+2)*ts.length
 | [],_=>⟨by decide +kernel,by show(Str.join ", " []).length<=_; exact Nat.le_of_eq (by rfl)⟩
 | [x],h=>by
  obtain⟨h1,h2⟩:=h x Aw
  exact⟨h1,by show x.length<=_; simp; omega⟩
 | x::y::r,h=>by
  obtain⟨h1,h2⟩:=h x Aw
  obtain⟨h3,h4⟩:=Gjy (y::r) fun t ht=>h t (Au _ ht)
  have e:Str.join ", " (x::y::r)=x++", "++Str.join ", " (y::r):=rfl
  refine⟨by rw[e]; exact Xn (Xn h1 (stok _)) h3,?_⟩
  rw[e,Str.length_append,Str.length_append]
  have e2:((", ":String):Str).length=2:=rfl
  rw[e2]
  simp only[AZ] at h4 ⊢
  have:(n+2)*(r.length+1+1)=(n+2)*(r.length+1)+(n+2):=by rw[Nat.mul_add (n+2) (r.length+1) 1]; omega
  omega
def Gx9{ts:List Str}(h:∀ t∈ts,PyData.strOk t=true/\t.length<=n):PyData.strOk (tupleText ts)=true/\(tupleText ts).length<=(n+2)*ts.length+3:=by
 obtain⟨h1,h2⟩:=Gjy ts h
 unfold tupleText
 refine⟨Xn (Xn (stok _) h1) (stok _),?_⟩
 rw[Str.length_append,Str.length_append]
 have e1:(("(":String):Str).length=1:=rfl
 have e2:∀ b:Bool,(((if b=true then ",)" else ")":String):Str)).length<=2:=fun b=>by cases b<;>decide +kernel
 have:=e2 (ts.length==1)
 rw[e1]
 omega
def Xo:∀ L:List PyData,(PyData.shownAll L).length=L.length
 | []=>rfl
 | a::L=>by show(PyData.shown a::PyData.shownAll L).length=_; simp[Xo L]
def Gip{l:List D}:Qo [.tup l] S=.ok (.lst S.length) (S++[⟨false,l⟩]):=id rfl
def Gjz{n:Nat}:∀ (ts:List Str) (k:Nat) (acc:Str),PyData.strOk acc=true->(∀ t∈ts,PyData.strOk t=true/\t.length<=n)->PyData.strOk (textFrom k acc ts)=true/\(textFrom k acc ts).length<=acc.length+(n+2)*ts.length
 | [],k,acc,h,_=>⟨h,by show acc.length<=_; simp⟩
 | t::ts,k,acc,h,ht=>by
  obtain⟨a,b⟩:=ht t Aw
  have e2:∀ b:Bool,(((if b=true then ", " else "":String):Str)).length<=2:=fun b=>by cases b<;>decide +kernel
  obtain⟨c,d⟩:=Gjz ts (k+1) (acc++((if k>0 then ", " else "":String):Str)++t) (Xn (Xn h (stok _)) a) fun u hu=>ht u (Au _ hu)
  refine⟨c,Aj d ?_⟩
  have:=e2 (decide (k>0))
  rw[Str.length_append,Str.length_append,AZ]
  have hx:(n+2)*(ts.length+1)=(n+2)*ts.length+(n+2):=by rw[Nat.mul_add]; omega
  by_cases c:k>0
  ·rw[decide_eq_true c] at this; simp only[if_true] at this; rw[if_pos c]; omega
  ·rw[decide_eq_false c] at this; simp only[Ay,if_false] at this; rw[if_neg c]; omega
def Gya{ts:List Str}(h:∀ t∈ts,PyData.strOk t=true/\t.length<=n):PyData.strOk (listText ts)=true/\(listText ts).length<=(n+2)*ts.length+3:=by
 obtain⟨a,b⟩:=Gjz ts 0 "[" (stok _) h
 unfold listText
 refine⟨Xn a (stok _),?_⟩
 rw[Str.length_append]
 have e1:(("[":String):Str).length=1:=rfl
 have e2:(("]":String):Str).length=1:=rfl
 rw[e2]
 rw[e1] at b
 omega
def Gsd(s:String):(Str.ofString s).length=s.toList.length:=by
 rw[Str.ofString_eq_toList]
 show(Array.size _)=_
 simp
def Gse{i:Int}(h:i.natAbs<10^60):(Str.ofString (toString i)).length<=61:=by
 rw[Gsd]
 cases i with
 | ofNat m=>
  show(Nat.repr m).toList.length<=61
  have:=(Nat.length_toDigits_le_iff (b:=10) (n:=m) (k:=60) (by decide) (by decide)).mpr h
  simp only[Nat.repr,String.toList_ofList]
  omega
 | negSucc m=>
  show("-"++Nat.repr (m+1)).toList.length<=61
  have:=(Nat.length_toDigits_le_iff (b:=10) (n:=m+1) (k:=60) (by decide) (by decide)).mpr h
  simp only[Nat.repr,String.toList_append,String.toList_ofList,Az]
  have:("-":String).toList.length=1:=rfl
  omega
structure Gp(p:PyData)(b e:Nat):Prop where
 sh:p.showable=true
 nd:p.hasDict=false
 dp:p.depth<=e
 ok:PyData.strOk p.shown=true
 le:p.shown.length<=b
def Gp.mono{p:PyData}{b e b' e':Nat}(h:Gp p b e)(h1:b<=b')(h2:e<=e'):Gp p b' e':=⟨h.sh,h.nd,Aj h.dp h2,h.ok,Aj h.le h1⟩
def Giq{b e:Nat}:∀ {ps:List PyData},(∀ p∈ps,Gp p b e)->PyData.showableAll ps=true/\PyData.hasDictAll ps=false/\PyData.depthAll ps<=e/\∀ t∈PyData.shownAll ps,PyData.strOk t=true/\t.length<=b
 | [],_=>⟨rfl,rfl,AB _,fun t ht=>by cases ht⟩
 | p::r,h=>by
  have hp:=h p Aw
  obtain⟨a1,a2,a3,a4⟩:=Giq (ps:=r) fun q hq=>h q (Au _ hq)
  refine⟨?_,?_,?_,?_⟩
  ·show(p.showable&&PyData.showableAll r)=true; rw[hp.sh,a1]; rfl
  ·show(p.hasDict||PyData.hasDictAll r)=false; rw[hp.nd,a2]; rfl
  ·show max p.depth (PyData.depthAll r)<=e; exact Nat.max_le.mpr ⟨hp.dp,a3⟩
  ·intro t ht
   have ht:t∈p.shown::PyData.shownAll r:=ht
   rcases Ae.mp ht with rfl | ht
   ·exact⟨hp.ok,hp.le⟩
   ·exact a4 t ht
def Gyb{ps:List PyData}{b e:Nat}(h:∀ p∈ps,Gp p b e):Gp (.tuple ps) ((b+2)*ps.length+3) (e+1):=by
 obtain⟨a1,a2,a3,a4⟩:=Giq h
 obtain⟨c1,c2⟩:=Gx9 a4
 rw[Xo] at c2
 refine⟨by simpa[PyData.showable] using a1,by simpa[PyData.hasDict] using a2,by simp only[PyData.depth]; omega,?_,?_⟩
 ·show PyData.strOk (tupleText (PyData.shownAll ps))=true; exact c1
 ·show(tupleText (PyData.shownAll ps)).length<=_; exact c2
def Gyc{ps:List PyData}{b e:Nat}(h:∀ p∈ps,Gp p b e):Gp (.list ps) ((b+2)*ps.length+3) (e+1):=by
 obtain⟨a1,a2,a3,a4⟩:=Giq h
 obtain⟨c1,c2⟩:=Gya a4
 rw[Xo] at c2
 refine⟨by simpa[PyData.showable] using a1,by simpa[PyData.hasDict] using a2,by simp only[PyData.depth]; omega,?_,?_⟩
 ·show PyData.strOk (listText (PyData.shownAll ps))=true; exact c1
 ·show(listText (PyData.shownAll ps)).length<=_; exact c2
def Sho(S:Sto)(d:D)(b e:Nat):Prop:=∃ p,(∀ S',Ex S S'->∀ n,e<n->toP S' n d=some p)/\Gp p b e
def Sho.mono{b e b' e':Nat}(h:Sho S d b e)(h1:b<=b')(h2:e<=e'):Sho S d b' e':=by
 obtain⟨p,a,g⟩:=h
 exact⟨p,fun S' x n hn=>a S' x n (by omega),g.mono h1 h2⟩
def Gf1{S:Sto}{b e:Nat}:∀ {l:List D},(∀ d∈l,Sho S d b e)->∃ ps,(∀ S',Ex S S'->∀ n,e<n->Jq (toP S' n) l=some ps)/\ps.length=l.length/\∀ p∈ps,Gp p b e
 | [],_=>⟨[],fun _ _ _ _=>rfl,rfl,fun p hp=>by cases hp⟩
 | d::l,h=>by
  obtain⟨p,a,g⟩:=h d Aw
  obtain⟨ps,a2,a3,a4⟩:=Gf1 (l:=l) fun q hq=>h q (Au _ hq)
  refine⟨p::ps,fun S' x n hn=>?_,by simp[a3],fun q hq=>?_⟩
  ·simp only[Jq,a S' x n hn,a2 S' x n hn]
  ·rcases Ae.mp hq with rfl | hq
   ·exact g
   ·exact a4 q hq
def Gf2{l:List D}{b e:Nat}(h:∀ d∈l,Sho S d b e):Sho S (.tup l) ((b+2)*l.length+3) (e+1):=by
 obtain⟨ps,a,hl,g⟩:=Gf1 h
 refine⟨.tuple ps,fun S' x n hn=>?_,by rw[<- hl]; exact Gyb g⟩
 obtain⟨m,rfl⟩:∃ m,n=m+1:=⟨n-1,by omega⟩
 show(Jq (toP S' m) l).map PyData.tuple=_
 rw[a S' x m (by omega)]
 rfl
def Gsf{i:Int}(h:i.natAbs<10^60):Sho S (.int i) 61 0:=by
 refine⟨.int i,fun S' _ n hn=>?_,⟨?_,rfl,Ab _,?_,?_⟩⟩
 ·obtain⟨m,rfl⟩:∃ m,n=m+1:=⟨n-1,by omega⟩
  rfl
 ·show decide (i.natAbs.log2<1920)=true
  refine decide_eq_true ?_
  by_cases c:i.natAbs=0
  ·rw[c]; decide
  ·refine Ai ((Nat.log2_lt c).mpr (show i.natAbs<2^200 from Nat.lt_trans h (by decide))) (by decide)
 ·show PyData.strOk (Str.ofString (toString i))=true; exact stok _
 ·show(Str.ofString (toString i)).length<=61; exact Gse h
def Gj0:Sho S .non 61 0:=by
 refine⟨.none,fun S' _ n hn=>?_,⟨rfl,rfl,Ab _,by decide +kernel,by decide +kernel⟩⟩
 obtain⟨m,rfl⟩:∃ m,n=m+1:=⟨n-1,by omega⟩
 rfl
def Sho.repr{b e:Nat}(h:Sho S d b e)(h1:b<=1000000)(h2:e<40):∃ s:Str,PyData.strOk s=true/\∀ S',Ex S S'->Qp [d] S'=.ok (.str s) S':=by
 obtain⟨p,a,g⟩:=h
 refine⟨p.shown,g.ok,fun S' x=>?_⟩
 have ha:=a S' x 40 h2
 have big:∀ (q:PyData),q=p->(if(q.showable&&!q.hasDict&&decide (q.depth<=60))=true/\q.shown.length<=1000000 then Out.ok (D.str q.shown) S' else .bad)=.ok (.str p.shown) S':=fun q hq=>by
  subst hq
  rw[if_pos]
  refine⟨?_,Aj g.le h1⟩
  rw[g.sh,g.nd]
  have:=g.dp
  simp
  omega
 cases d with
 | non=>cases (Ac ha); rfl
 | bl v=>cases (Ac ha); cases v<;>rfl
 | int i=>
  cases (Ac ha)
  have:i.natAbs.log2<1920:=of_decide_eq_true g.sh
  show(if i.natAbs.log2<1920 then Out.ok (D.str (toString i)) S' else .bad)=_
  rw[if_pos this]
  rfl
 | str z=>
  cases (Ac ha)
  have:(reprText z).length<=1000000:=Aj g.le h1
  show(if(reprText z).length<=1000000 then Out.ok (D.str (reprText z)) S' else .bad)=_
  rw[if_pos this]
  rfl
 | tup l=>
  show(match toP S' 40 (.tup l) with
   | some p=>if(p.showable&&!p.hasDict&&decide (p.depth<=60))=true/\p.shown.length<=1000000 then Out.ok (D.str p.shown) S' else .bad
   | none=>.bad)=_
  rw[ha]
  exact big p rfl
 | lst i=>
  show(match toP S' 40 (.lst i) with
   | some p=>if(p.showable&&!p.hasDict&&decide (p.depth<=60))=true/\p.shown.length<=1000000 then Out.ok (D.str p.shown) S' else .bad
   | none=>.bad)=_
  rw[ha]
  exact big p rfl
 | exn _ _=>cases ha
 | fv _=>cases ha
 | dct _=>cases ha
def Hw{c:Ev Bool}{g:Sv}(h:c ρ S=.ok true S1):sif c f g ρ S=f ρ S1:=by
 rw[Goi,h,Hq,if_pos rfl]
def Hl{c:Ev Bool}{g:Sv}(h:c ρ S=.ok false S1):sif c f g ρ S=g ρ S1:=by
 rw[Goi,h,Hq,if_neg (by decide)]
def Jf{g:Sv}(h:f ρ S=.nx ρ' S1):sq f g ρ S=g ρ' S1:=by rw[Gby,h]
def Gb0{g:Sv}{y:D}(h:f ρ S=.rt y S1):sq f g ρ S=.rt y S1:=by rw[Gby,h]
def Hbh{lo hi:BC Int}(e:S[q]?=some c):Gia (.lst q) lo hi S=.ok (.lst S.length) (S++[⟨false,DL.Vz c.xs lo hi⟩]):=by
 simp only[Gia,e]
def Gyd(e:S[q]?=some c):Qo [.lst q] S=.ok (.lst S.length) (S++[⟨false,c.xs⟩]):=by
 simp only[Qo,e]
def Gsg{ns:List Int}{lo hi:BC Int}:∃ ys:List Int,DL.Vz (ns.map D.int) lo hi=ys.map D.int:=
 ⟨(ns.drop (HT.sIx (ns.map D.int).length 0 lo)).take (HT.sIx (ns.map D.int).length (ns.map D.int).length hi-HT.sIx (ns.map D.int).length 0 lo),by unfold DL.Vz; rw[List.map_take,List.map_drop]⟩
def Gsh{fz:Bool}{ns:List Int}(e:S[q]?=some ⟨fz,ns.map D.int⟩):∃ (t k:Nat) (S':Sto),Vv [.lst q] S=.ok (.lst t) S'/\Dp S' t k 0:=by
 obtain⟨ys,hy⟩:=Gsg (ns:=ns) (lo:=none) (hi:=some 63)
 have s1:Gia (.lst q) none (some 63) S=.ok (.lst S.length) (S++[⟨false,ys.map D.int⟩]):=by rw[Hbh e,hy]
 have q1:(S++[⟨false,ys.map D.int⟩])[S.length]?=some (⟨false,ys.map D.int⟩:Cell):=Gs
 generalize hS1:S++[⟨false,ys.map D.int⟩]=S1 at *
 have s3:Qo [.lst S.length] S1=.ok (.lst S1.length) (S1++[⟨false,ys.map D.int⟩]):=Gyd q1
 have q3:(S1++[⟨false,ys.map D.int⟩])[S1.length]?=some (⟨false,ys.map D.int⟩:Cell):=Gs
 have l3:(S1++[(⟨false,ys.map D.int⟩:Cell)]).length=S1.length+1:=by simp
 generalize hS3:S1++[⟨false,ys.map D.int⟩]=S3 at *
 refine⟨S3.length,S1.length,S3++[⟨false,[.lst S1.length,.int 0,.int 0]⟩],?_,⟨⟨0,0,ys,Gs,Hr q3,by decide,by decide⟩,by omega⟩⟩
 refine(Go (m:=1) (b:=Uo)).trans ?_
 show fin (Uo [some (.lst q)] S)=_
 unfold Uo
 simp[s1,s3]
def vOk(cr:Int)(p:Pl)(l r f:Int):Prop:=0<=l/\0<=r/\0<=f/\match p with
 | .e=>l=0/\r<=cr/\f<=cr
 | .c=>l<=1/\r+f<=1
 | .p br _ ro _=>l<=br/\r+f<=ro
def s1:eqD (.str "end") (.str "chamber") S=.ok (.bl false) S:=by rw[Jv (stok _) (stok _)]; rfl
def s2:eqD (.str "end") (.str "pound") S=.ok (.bl false) S:=by rw[Jv (stok _) (stok _)]; rfl
def s3:eqD (.str "chamber") (.str "chamber") S=.ok (.bl true) S:=by rw[Jv (stok _) (stok _)]; rfl
def s4:eqD (.str "chamber") (.str "pound") S=.ok (.bl false) S:=by rw[Jv (stok _) (stok _)]; rfl
def s5:eqD (.str "pound") (.str "chamber") S=.ok (.bl false) S:=by rw[Jv (stok _) (stok _)]; rfl
def s6:eqD (.str "pound") (.str "pound") S=.ok (.bl true) S:=by rw[Jv (stok _) (stok _)]; rfl
def s7:eqD (.str "end") (.str "end") S=.ok (.bl true) S:=by rw[Jv (stok _) (stok _)]; rfl
def s8:eqD (.str "chamber") (.str "end") S=.ok (.bl false) S:=by rw[Jv (stok _) (stok _)]; rfl
def s9:eqD (.str "pound") (.str "end") S=.ok (.bl false) S:=by rw[Jv (stok _) (stok _)]; rfl
def p0e{l:List D}:DL.getD (.tup (d::l)) (.int 0) S=.ok d S:=Je (Ha (by decide) rfl)
def p1e{l:List D}{e:D}:DL.getD (.tup (e::d::l)) (.int 1) S=.ok d S:=Je (Ha (by decide) rfl)
def p3e{l:List D}{a b c:D}:DL.getD (.tup (a::b::c::d::l)) (.int 3) S=.ok d S:=Je (Ha (by decide) rfl)
def Ghb:Gaa [.bl b] S=.ok (.int (if b then 1 else 0)) S:=id rfl
structure StR(cr:Int)(ps:List Pl)(L R F:List Int):Prop where
 lL:L.length=ps.length
 lR:R.length=ps.length
 lF:F.length=ps.length
 at':∀ (i:Nat) (p:Pl),ps[i]?=some p->∃ l r f,L[i]?=some l/\R[i]?=some r/\F[i]?=some f/\vOk cr p l r f
def stD(L R F:List Int):D:=.tup [.tup (L.map D.int),.tup (R.map D.int),.tup (F.map D.int)]
noncomputable def wat:Pl->Int
 | .e=>0
 | .c=>1
 | .p br _ _ _=>br
def Gom(h:p.ok):Ku [p.toD] S=.ok (.int (wat p)) S:=by
 have e1:=fun S=>Gfy (S:=S) h
 have e2:=fun S=>Gca (S:=S) h
 cases p with
 | e=>simp[Ku,fnB,Qr,c_END,c_CHAMBER,e1,Pl.isE,wat]
 | c=>simp[Ku,fnB,Qr,c_END,c_CHAMBER,e1,e2,Pl.isE,Pl.isC,wat]
 | p br de ro pr=>
  have g:∀ S,DL.getD (Pl.toD (.p br de ro pr)) (.int 1) S=.ok (.int br) S:=fun S=>p1e
  simp[Ku,fnB,Qr,c_END,c_CHAMBER,e1,e2,Pl.isE,Pl.isC,wat,g]
def Vi{i:Int}(h:L[k]?=some i):DL.getD (.tup (L.map D.int)) (.int k) S=.ok (.int i) S:=
 Je (Ha (by omega) (by rw[AG,As,h]; rfl))
def Kx{g:Tg}{b:Sv}{ρ1 ρ2:Lc}(h:nxt k S=some d)(h2:g d ρ=some ρ1)(h3:b ρ1 S=.nx ρ2 S2):Kb nxt g b (n+1) k ρ S=Kb nxt g b n (k+1) ρ2 S2:=by
 conv=>lhs; unfold Kb
 simp only[h,h2,h3]
def Gbi{g:Tg}{b:Sv}(h:nxt k S=none):Kb nxt g b (n+1) k ρ S=.nx ρ S:=by
 conv=>lhs; unfold Kb
 simp only[h]
def Hbi{s:Str}(h:PyData.strOk s=true):neD (.str s) (.str s) S=.ok (.bl false) S:=by
 simp only[neD,toP]
 simp[SeqAt.shaped,PyData.eqv,PyData.canLay0,PyData.depth,h]
def Gsi(h:k<M.length):Gia (.tup (M.map D.int)) none (some (k:Int)) S=.ok (.tup ((M.take k).map D.int)) S:=by
 have e2:HT.sIx (M.map D.int).length (M.map D.int).length (some (k:Int))=k:=by
  rw[HT.Gi5,Am]
  omega
 show(if HT.sIx (M.map D.int).length 0 none=0/\HT.sIx (M.map D.int).length (M.map D.int).length (some (k:Int))=(M.map D.int).length then Out.ok (D.tup (M.map D.int)) S else .ok (.tup (DL.Vz (M.map D.int) none (some (k:Int)))) S)=_
 rw[if_neg (by rw[e2,Am]; omega)]
 unfold DL.Vz
 rw[e2,HT.Ggi,List.map_take]
 rfl
def Gsj(h:k<M.length):Gia (.tup (M.map D.int)) (some ((k:Int)+1)) none S=.ok (.tup ((M.drop (k+1)).map D.int)) S:=by
 have e1:HT.sIx (M.map D.int).length 0 (some ((k:Int)+1))=k+1:=by
  have:=HT.Gi5 (M.map D.int).length 0 (k+1)
  rw[show((k+1:Nat):Int)=(k:Int)+1 from by push_cast; rfl] at this
  rw[this,Am]
  omega
 show(if HT.sIx (M.map D.int).length 0 (some ((k:Int)+1))=0/\HT.sIx (M.map D.int).length (M.map D.int).length none=(M.map D.int).length then Out.ok (D.tup (M.map D.int)) S else .ok (.tup (DL.Vz (M.map D.int) (some ((k:Int)+1)) none)) S)=_
 rw[if_neg (by rw[e1]; omega)]
 unfold DL.Vz
 rw[e1,HT.Ggi,List.map_drop,Bx (by simp)]
def Gcb{m:Int}(h:M[k]?=some r)(hl:M.length<=1000):Kk [.tup (M.map D.int),.int k,.int m] S=.ok (.tup ((M.set k (r+m)).map D.int)) S:=by
 have hk:k<M.length:=(Aa.mp h).1
 have g:=Vi (S:=S) h
 have a1:Gu (.tup ((M.take k).map D.int)) (.tup [.int (r+m)]) S=.ok (.tup ((M.take k).map D.int++[.int (r+m)])) S:=Gf0 (by simp; omega)
 have a2:Gu (.tup ((M.take k).map D.int++[.int (r+m)])) (.tup ((M.drop (k+1)).map D.int)) S=.ok (.tup ((M.take k).map D.int++[.int (r+m)]++(M.drop (k+1)).map D.int)) S:=Gf0 (by simp; omega)
 refine(Go (m:=3) (b:=Um)).trans ?_
 show fin (Um [some (.tup (M.map D.int)),some (.int k),some (.int m)] S)=_
 have e:(M.take k).map D.int++[.int (r+m)]++(M.drop (k+1)).map D.int=(M.set k (r+m)).map D.int:=by
  rw[List.set_eq_take_append_cons_drop,if_pos hk]
  simp
 rw[e] at a2
 simp[Um,Gsi hk,Gsj hk,g,a1,a2,-List.map_take,-List.map_drop,-List.map_set]
def Qw{f:Fn}{x:XD}(h:f ds S=.exc x S')(hy:x.cls∈ys):gX ys f ds S=.exc x S':=by
 simp only[gX,h,if_pos hy]
def Zj{f:Fn}(h:f ds S=.ok d S'):gX ys f ds S=.ok d S':=by
 simp only[gX,h]
@[simp] def Hbj{β:Type}{x:XD}{g:α->Sto->Out β}:(Out.exc x S:Out α).bind g=.exc x S:=id rfl
@[simp] def Ges{x:XD}{g:α->Sto->OS}:bindS (Out.exc x S:Out α) ρ g=.exc x ρ S:=id rfl
def Ki{g:Sv}{x:XD}(h:f ρ S=.exc x ρ' S'):fin (sq f g ρ S)=.exc x S':=by rw[Gby,h]; rfl
noncomputable def words:List D:=[.str "nogate",.str "dry",.str "full",.str "nospring",.str "nobarge",.str "noroom",.str "uneven",.str "shallow",.str "falls",.str "notext",.str "toomany",.str "noline"]
def Gsk{m:List D}{bs cs:List Bool}{w:D}(h:S[q]?=some ⟨false,m⟩)(hl:m.length=13)(h12:m[12]?=some (.bl true))(hb:Gds m=some bs)(hc:Gds (DL.Vz m none (some 12))=some cs)(hcnt:cs.countP (·==true)=1)(hidx:List.findIdx? (·==true) bs=some j)(hw:words[j]?=some w):
  ∃ S',Us [.lst q] S=.ok w S'/\Ex S S':=by
 have e1:sa (ls (ac (cn (.str "nogate")) (ac (cn (.str "dry")) (ac (cn (.str "full")) (ac (cn (.str "nospring")) (ac (cn (.str "nobarge")) (ac (cn (.str "noroom")) (ac (cn (.str "uneven")) (ac (cn (.str "shallow")) (ac (cn (.str "falls")) (ac (cn (.str "notext")) (ac (cn (.str "toomany")) (ac (cn (.str "noline")) an))))))))))))) (gn 1) [some (.lst q),none] S=.nx [some (.lst q),some (.lst S.length)] (S++[⟨false,words⟩]):=by simp[words]
 have x1:Ex S (S++[⟨false,words⟩]):=Ex.app
 have w1:(S++[(⟨false,words⟩:Cell)])[S.length]?=some ⟨false,words⟩:=Gs
 have h1:=x1.at h
 generalize S++[(⟨false,words⟩:Cell)]=S1 at *
 have x2:Ex S1 (S1++[⟨false,DL.Vz m none (some 12)⟩]):=Ex.app
 have sl:=Hbh (lo:=none) (hi:=some 12) h1
 have c1:(S1++[(⟨false,DL.Vz m none (some 12)⟩:Cell)])[S1.length]?=some ⟨false,DL.Vz m none (some 12)⟩:=Gs
 have h2:=x2.at h1
 have w2:=x2.at w1
 have ln:Gy [.lst q] S1=.ok (.int 13) S1:=by rw[Va h1,hl]; rfl
 generalize hS2:S1++[(⟨false,DL.Vz m none (some 12)⟩:Cell)]=S2 at *
 have il:=isL c1
 have ct:Gic (.lst S1.length) [.bl true] S2=.ok (.int 1) S2:=by
  simp only[Gic,c1,hc]
  rw[if_pos trivial,hcnt]
  rfl
 have g12:DL.getD (.lst q) (.int 12) S2=.ok (.bl true) S2:=Jr h2 (Ha (by decide) h12)
 have ix:Gid (.lst q) [.bl true] S2=.ok (.int j) S2:=by
  simp only[Gid,h2,hb,hidx]
  rw[if_pos trivial]
 have iq:=isL h2
 have gw:DL.getD (.lst S.length) (.int j) S2=.ok w S2:=Jr w2 (Ha (by omega) (by rw[AG]; exact hw))
 refine⟨S2,?_,x1.trans x2⟩
 refine(Go (m:=2) (b:=Ur)).trans ?_
 show fin (Ur [some (.lst q),none] S)=_
 unfold Ur
 refine(Ge e1).trans ?_
 refine(Ge (ρ':=[some (.lst q),some (.lst S.length)]) (S':=S2) ?_).trans ?_
 ·simp[ln,sl,il,ct,g12,Vq]
 ·simp[iq,ix,gw]
def mks(y:Str):List D:=ys.map (fun x=>.bl (decide (y∈[x])))++[.bl (decide (y∈ys))]
def Xp(y:Str):D:=match (ys.zip words).lookup y with
 | some w=>w
 | none=>.non
def Gsl(y:Str):List Bool:=ys.map (fun x=>decide (y∈[x]))++[decide (y∈ys)]
def Qk(j:Nat)(y:Str)(h:S[q]?=some ⟨false,mks y⟩)(h1:(mks y)[12]?=some (.bl true):=by kernel_rfl!)(h2:Gds (mks y)=some (Gsl y):=by kernel_rfl!)(h3:Gds (DL.Vz (mks y) none (some 12))=some ((Gsl y).take 12):=by kernel_rfl!)(h4:((Gsl y).take 12).countP (·==true)=1:=by decide +kernel)(h5:List.findIdx? (·==true) (Gsl y)=some j:=by kernel_rfl!)(h6:words[j]?=some (Xp y):=by kernel_rfl!):∃ S',Us [.lst q] S=.ok (Xp y) S'/\Ex S S':=
 Gsk h rfl h1 h2 h3 h4 h5 h6
def Gye(hy:y∈ys)(h:S[q]?=some ⟨false,mks y⟩):∃ S',Us [.lst q] S=.ok (Xp y) S'/\Ex S S':=by
 simp only[ys,Ae,AN,or_false] at hy
 rcases hy with rfl | rfl | rfl | rfl | rfl | rfl | rfl | rfl | rfl | rfl | rfl | rfl
 ·exact Qk 0 _ h
 ·exact Qk 1 _ h
 ·exact Qk 2 _ h
 ·exact Qk 3 _ h
 ·exact Qk 4 _ h
 ·exact Qk 5 _ h
 ·exact Qk 6 _ h
 ·exact Qk 7 _ h
 ·exact Qk 8 _ h
 ·exact Qk 9 _ h
 ·exact Qk 10 _ h
 ·exact Qk 11 _ h
def Gyf{p:Nat}(hp:S[p]?=some ⟨false,[]⟩)(hq:S[q]?=some ⟨false,[]⟩):neD (.lst p) (.lst q) S=.ok (.bl false) S:=by
 have e:∀ i,S[i]?=some ⟨false,[]⟩->toP S 40 (.lst i)=some (.list []):=fun i h=>by
  show(match S[i]? with | some c=>(Jq (toP S 39) c.xs).map PyData.list | none=>none)=_
  rw[h]; rfl
 simp only[neD,e p hp,e q hq]
 rfl
def Gj1{S:Sto}{n:Nat}:∀ bs:List Bool,Jq (toP S (n+1)) (bs.map D.bl)=some (bs.map PyData.bool)
 | []=>rfl
 | b::r=>by
  have:=Gj1 (S:=S) (n:=n) r
  rw[At,At]
  simp only[Jq,this]
  rfl
def Gj2:∀ L:List Bool,PyData.canLayAll0 (L.map .bool)=true
 | []=>rfl
 | b::r=>by simp[PyData.canLayAll0,PyData.canLay0,Gj2 r]
def Gj3:∀ L:List Bool,PyData.depthAll (L.map .bool)=0
 | []=>rfl
 | b::r=>by simp[PyData.depthAll,PyData.depth,Gj3 r]
def Gsm{p:Nat}{bs:List Bool}(hp:S[p]?=some ⟨false,(b::bs).map D.bl⟩)(hq:S[q]?=some ⟨false,[]⟩):neD (.lst p) (.lst q) S=.ok (.bl true) S:=by
 have e1:toP S 40 (.lst p)=some (.list ((b::bs).map .bool)):=by
  show(match S[p]? with | some c=>(Jq (toP S 39) c.xs).map PyData.list | none=>none)=_
  rw[hp]
  show(Jq (toP S 39) ((b::bs).map D.bl)).map PyData.list=_
  rw[Gj1]; rfl
 have e2:toP S 40 (.lst q)=some (.list []):=by
  show(match S[q]? with | some c=>(Jq (toP S 39) c.xs).map PyData.list | none=>none)=_
  rw[hq]; rfl
 simp only[neD,e1,e2]
 rw[if_pos (by simp[SeqAt.shaped,PyData.canLay0,PyData.canLayAll0,Gj2,PyData.depth,PyData.depthAll,Gj3])]
 rfl
def Gon{hh:XD->Sv}{fb:Sv}(h:fb ρ S=.nx ρ' S'):Wp ys hh fb ρ S=.nx ρ' S':=by simp only[Wp,h]
def Gj4{hh:XD->Sv}{fb:Sv}{x:XD}(h:fb ρ S=.exc x ρ' S')(hy:x.cls∈ys):Wp ys hh fb ρ S=hh x ρ' S':=by simp only[Wp,h,if_pos hy]
def Gyg{i:Nat}{fh:Sv}{x:XD}(h:fh (ρ.set i (some (.exn x.cls x.fld))) S=.nx ρ' S'):hdl i fh x ρ S=.nx (ρ'.set i none) S':=by simp only[hdl,h]
def Goo(y:Str):∃ b bs,mks y=(b::bs).map D.bl:=⟨decide (y∈(["NoGate"]:List Str)),[decide (y∈(["Dry"]:List Str)),decide (y∈(["Full"]:List Str)),decide (y∈(["NoSpring"]:List Str)),decide (y∈(["NoBarge"]:List Str)),decide (y∈(["NoRoom"]:List Str)),decide (y∈(["Uneven"]:List Str)),decide (y∈(["Shallow"]:List Str)),decide (y∈(["Falls"]:List Str)),decide (y∈(["NoText"]:List Str)),decide (y∈(["TooMany"]:List Str)),decide (y∈(["NoLine"]:List Str)),decide (y∈ys)],rfl⟩
noncomputable def gd(u:Bool):D:=.str (if u=true then "up" else "down")
def cD(ps:List Pl)(us:List Bool):D:=.tup [.tup (ps.map Pl.toD),.tup (us.map gd)]
def Ghc:∀ {gs:List D},(∀ g∈gs,g=.str "up"\/g=.str "down")->∃ us:List Bool,gs=us.map gd
 | [],_=>⟨[],rfl⟩
 | g::r,h=>by
  obtain⟨us,e⟩:=Ghc fun x hx=>h x (Au _ hx)
  rcases h g Aw with z | z
  ·exact⟨true::us,by rw[e,z]; rfl⟩
  ·exact⟨false::us,by rw[e,z]; rfl⟩
inductive Res where
 | no (y:Str) | yes (d:D)
noncomputable def Res.out(r:Res)(S:Sto):Out D:=match r with
 | .no y=>.exc ⟨y,none⟩ S
 | .yes d=>.ok d S
def Res.toD:Res->D
 | .no y=>Xp y
 | .yes d=>d
def Res.ok:Res->Prop
 | .no y=>y∈ys
 | .yes _=>True
section
variable{ps:List Pl}{us:List Bool}{L R F:List Int}{S:Sto}
def cd0:DL.getD (cD ps us) (.int 0) S=.ok (.tup (ps.map Pl.toD)) S:=Je (Ha (by decide) rfl)
def cd1:DL.getD (cD ps us) (.int 1) S=.ok (.tup (us.map gd)) S:=Je (Ha (by decide) rfl)
def st0:DL.getD (stD L R F) (.int 0) S=.ok (.tup (L.map D.int)) S:=Je (Ha (by decide) rfl)
def st1:DL.getD (stD L R F) (.int 1) S=.ok (.tup (R.map D.int)) S:=Je (Ha (by decide) rfl)
def st2:DL.getD (stD L R F) (.int 2) S=.ok (.tup (F.map D.int)) S:=Je (Ha (by decide) rfl)
def Vo(h:ps[k]?=some p):DL.getD (.tup (ps.map Pl.toD)) (.int k) S=.ok p.toD S:=
 Je (Ha (by omega) (by rw[AG,As,h]; rfl))
def Gj5(h:us[k]?=some u):DL.getD (.tup (us.map gd)) (.int k) S=.ok (gd u) S:=
 Je (Ha (by omega) (by rw[AG,As,h]; rfl))
def Gj6:eqD (gd u) (.str "up") S=.ok (.bl u) S:=by
 cases u
 ·show eqD (.str "down") (.str "up") S=_
  rw[Jv (stok _) (stok _)]; rfl
 ·show eqD (.str "up") (.str "up") S=_
  rw[Jv (stok _) (stok _)]; rfl
noncomputable def hiI(u:Bool)(k:Nat):Nat:=if u=true then k+1 else k
noncomputable def loI(u:Bool)(k:Nat):Nat:=if u=true then k else k+1
def Gbj(h:us[k]?=some u):Yp [cD ps us,.int k] S=.ok (.int (hiI u k)) S:=by
 refine(Go (m:=2) (b:=Yo)).trans ?_
 show fin (Yo [some (cD ps us),some (.int k)] S)=_
 have g:=Gj6 (u:=u) (S:=S)
 cases u<;>simp[Yo,cd1,Gj5 h,c_UP,g,hiI]
def Gdi(h:us[k]?=some u):Gap [cD ps us,.int k] S=.ok (.int (loI u k)) S:=by
 refine(Go (m:=2) (b:=Gao)).trans ?_
 show fin (Gao [some (cD ps us),some (.int k)] S)=_
 have g:=Gj6 (u:=u) (S:=S)
 cases u<;>simp[Gao,cd1,Gj5 h,c_UP,g,loI]
def Ks{x y:D}(e:eqD x y S=.ok (.bl b) S):neD x y S=.ok (.bl (!b)) S:=by
 unfold eqD at e
 unfold neD
 split at e
 ·rename_i P Q z1 z2
  by_cases hs:(SeqAt.shaped P&&SeqAt.shaped Q)=true
  ·rw[if_pos hs] at e
   have:PyData.eqv P Q=b:=by injection e with e _; injection e
   rw[if_pos hs,this]
  ·rw[if_neg hs] at e; cases e
 ·cases e
def Gop(h:p.ok):neD p.toD (.tup [.str "end"]) S=.ok (.bl (!p.isE)) S:=Ks (Gfy h)
def Gls{l:Int}(h:p.ok):Gam [p.toD,.int l] S=.ok (.bl (!p.isE&&decide (l=0))) S:=by
 refine(Go (m:=2) (b:=Yn)).trans ?_
 show fin (Yn [some p.toD,some (.int l)] S)=_
 have n:=Gop (S:=S) h
 cases z:p.isE<;>rw[z] at n<;>simp[Yn,c_END,n]
def Gdj{l:Int}(h:p.ok):Qn [p.toD,.int l] S=.ok (.bl (!p.isE&&decide (wat p<=l))) S:=by
 refine(Go (m:=2) (b:=Wu)).trans ?_
 show fin (Wu [some p.toD,some (.int l)] S)=_
 have n:=Gop (S:=S) h
 have wa:=Gom (S:=S) h
 cases z:p.isE<;>rw[z] at n<;>simp[Wu,c_END,n,wa]
noncomputable def spr:Pl->Bool
 | .p _ _ _ (.int _)=>true
 | _=>false
def Glt(h:p.ok):Qq [p.toD] S=.ok (.bl (spr p)) S:=by
 refine(Go (m:=1) (b:=Jm)).trans ?_
 show fin (Jm [some p.toD] S)=_
 cases p with
 | e=>
  have g:DL.getD (Pl.toD .e) (.int 0) S=.ok (.str "end") S:=Je (Ha (by decide) rfl)
  simp[Jm,g,s2,spr]
 | c=>
  have g:DL.getD (Pl.toD .c) (.int 0) S=.ok (.str "chamber") S:=Je (Ha (by decide) rfl)
  simp[Jm,g,s4,spr]
 | p br de ro pr=>
  have g:DL.getD (Pl.toD (.p br de ro pr)) (.int 0) S=.ok (.str "pound") S:=Je (Ha (by decide) rfl)
  have g4:DL.getD (Pl.toD (.p br de ro pr)) (.int 4) S=.ok pr S:=Je (Ha (by decide) rfl)
  obtain⟨_,_,_,_,_,_,hpr⟩:=h
  rcases hpr with rfl | ⟨i,rfl,_⟩
  ·simp[Jm,g,g4,s6,spr,Gei]
  ·simp[Jm,g,g4,s6,spr,Gei]
def Gj7{n:Int}:Vc [cD ps us,.int n] S=if 0<=n/\n<us.length then .ok .non S else .exc ⟨"NoGate",none⟩ S:=by
 refine(Go (m:=2) (b:=Jx)).trans ?_
 show fin (Jx [some (cD ps us),some (.int n)] S)=_
 by_cases h1:0<=n
 ·by_cases h2:n<us.length
  ·rw[if_pos ⟨h1,h2⟩]
   simp[Jx,cd1,h1,h2,fin]
  ·rw[if_neg (fun z=>h2 z.2)]
   simp[Jx,cd1,h1,h2,fin,srs]
 ·rw[if_neg (fun z=>h1 z.1)]
  simp[Jx,cd1,h1,fin,srs]
end
noncomputable def hol:Pl->Int->Bool
 | .e,_=>true
 | .c,b=>decide (b<=1)
 | .p _ _ ro _,b=>decide (b<=ro)
def Goq{b:Int}(h:p.ok):Yv [p.toD,.int b] S=.ok (.bl (hol p b)) S:=by
 have e1:=fun S=>Gfy (S:=S) h
 have e2:=fun S=>Gca (S:=S) h
 cases p with
 | e=>simp[Yv,fnB,Gan,c_END,c_CHAMBER,e1,Pl.isE,hol]
 | c=>simp[Yv,fnB,Gan,c_END,c_CHAMBER,e1,e2,Pl.isE,Pl.isC,hol]
 | p br de ro pr=>
  have g:∀ S,DL.getD (Pl.toD (.p br de ro pr)) (.int 3) S=.ok (.int ro) S:=fun S=>p3e
  simp[Yv,fnB,Gan,c_END,c_CHAMBER,e1,e2,Pl.isE,Pl.isC,hol,g]
noncomputable def wd(b:Bool):D:=.str (if b=true then "right" else "left")
def sel(b:Bool)(R F:List Int):List Int:=if b=true then R else F
def Yw:eqD (wd b) (.str "right") S=.ok (.bl b) S:=by
 cases b
 ·show eqD (.str "left") (.str "right") S=_
  rw[Jv (stok _) (stok _)]; rfl
 ·show eqD (.str "right") (.str "right") S=_
  rw[Jv (stok _) (stok _)]; rfl
def Gor{R F:List Int}:Vt [stD L R F,wd b] S=.ok (.tup ((sel b R F).map D.int)) S:=by
 refine(Go (m:=2) (b:=Ul)).trans ?_
 show fin (Ul [some (stD L R F),some (wd b)] S)=_
 have w:=Yw (S:=S) (b:=b)
 have g1:DL.getD (stD L R F) (.int 1) S=.ok (.tup (R.map D.int)) S:=p1e
 have g2:DL.getD (stD L R F) (.int 2) S=.ok (.tup (F.map D.int)) S:=Je (Ha (by decide) rfl)
 cases b<;>simp[Ul,w,g1,g2,sel]
structure Rw(S:Sto)(q x y z:Nat)(A B C:List D):Prop where
 q0:S[q]?=some ⟨false,[.lst x,.lst y,.lst z]⟩
 q1:S[x]?=some ⟨false,A⟩
 q2:S[y]?=some ⟨false,B⟩
 q3:S[z]?=some ⟨false,C⟩
def Gos{f:Ev D}(hf:f ρ S=.ok (.tup [.tup A,.tup B,.tup C]) S):∃ S',cmp (isrc f) [none] (gn 0) ttrue (b1 Qo (ac (vr 0) an)) ρ S=.ok (.lst S.length) S'/\Rw S' S.length (S.length+1) (S.length+2) (S.length+3) A B C/\Ex S S':=by
 have w:∀ (l:Sto) (j:Nat),(S++l)[S.length+j]?=l[j]?:=fun l j=>by
  rw[A0 (by omega)]
  congr 1
  omega
 have w0:∀ l:Sto,(S++l)[S.length]?=l[0]?:=fun l=>w l 0
 have st:∀ (l:Sto) (c:Cell) (X:D),(S++(c::l)).set S.length ⟨false,c.xs++[X]⟩=S++(⟨false,c.xs++[X]⟩::l):=fun l c X=>by
  rw[List.set_append_right _ _ (Ab _),Nat.sub_self]; rfl
 have ev:∀ (X:List D) (S':Sto),b1 Qo (ac (vr 0) an) [some (.tup X)] S'=.ok (.lst S'.length) (S'++[⟨false,X⟩]):=fun X S'=>by simp[Gip]
 have b1':cbody S.length ttrue (b1 Qo (ac (vr 0) an)) [some (.tup A)] (S++[⟨false,[]⟩])=.nx [some (.tup A)] (S++[⟨false,[.lst (S.length+1)]⟩,⟨false,A⟩]):=by
  have:=Ut (a:=S.length) (ev A (S++[⟨false,[]⟩])) (xs:=[]) (by rw[AI]; exact w0 _) (by simp)
  rw[this,AI]
  refine congrArg (OS.nx _) ?_
  have q:=st [⟨false,A⟩] ⟨false,[]⟩ (.lst (S.length+1))
  simpa using q
 have b2':cbody S.length ttrue (b1 Qo (ac (vr 0) an)) [some (.tup B)] (S++[⟨false,[.lst (S.length+1)]⟩,⟨false,A⟩])=.nx [some (.tup B)] (S++[⟨false,[.lst (S.length+1),.lst (S.length+2)]⟩,⟨false,A⟩,⟨false,B⟩]):=by
  have:=Ut (a:=S.length) (ev B (S++[⟨false,[.lst (S.length+1)]⟩,⟨false,A⟩])) (xs:=[.lst (S.length+1)]) (by rw[AI]; exact w0 _) (by simp)
  rw[this,AI]
  refine congrArg (OS.nx _) ?_
  have q:=st [⟨false,A⟩,⟨false,B⟩] ⟨false,[.lst (S.length+1)]⟩ (.lst (S.length+2))
  simpa using q
 have b3':cbody S.length ttrue (b1 Qo (ac (vr 0) an)) [some (.tup C)] (S++[⟨false,[.lst (S.length+1),.lst (S.length+2)]⟩,⟨false,A⟩,⟨false,B⟩])=.nx [some (.tup C)] (S++[⟨false,[.lst (S.length+1),.lst (S.length+2),.lst (S.length+3)]⟩,⟨false,A⟩,⟨false,B⟩,⟨false,C⟩]):=by
  have:=Ut (a:=S.length) (ev C (S++[⟨false,[.lst (S.length+1),.lst (S.length+2)]⟩,⟨false,A⟩,⟨false,B⟩])) (xs:=[.lst (S.length+1),.lst (S.length+2)]) (by rw[AI]; exact w0 _) (by simp)
  rw[this,AI]
  refine congrArg (OS.nx _) ?_
  have q:=st [⟨false,A⟩,⟨false,B⟩,⟨false,C⟩] ⟨false,[.lst (S.length+1),.lst (S.length+2)]⟩ (.lst (S.length+3))
  simpa using q
 have lp:Kb (Gx8 [.tup A,.tup B,.tup C]).nxt (gn 0) (cbody S.length ttrue (b1 Qo (ac (vr 0) an))) (Gx8 [.tup A,.tup B,.tup C]).fuel 0 [none] (S++[⟨false,[]⟩])=.nx [some (.tup C)] (S++[⟨false,[.lst (S.length+1),.lst (S.length+2),.lst (S.length+3)]⟩,⟨false,A⟩,⟨false,B⟩,⟨false,C⟩]):=by
  show Kb _ _ _ (3+1) 0 _ _=_
  rw[Kx (d:=.tup A) rfl rfl b1',Kx (d:=.tup B) rfl rfl b2',Kx (d:=.tup C) rfl rfl b3',Gbi rfl]
 refine⟨_,Gfz (s:=Gx8 [.tup A,.tup B,.tup C]) (S1:=S) (by rw[Vw,hf]; rfl) lp,⟨w0 _,w _ 1,w _ 2,w _ 3⟩,⟨by simp,fun i hi=>by rw[Ar hi]⟩⟩
def Gj8{x y z:Nat}{f:Ev D}(h:Rw S q x y z A B C)(hf:f ρ S=.ok (.lst q) S):∃ S',b1 Kc (ac (cmp (isrc f) [none] (gn 0) ttrue (b1 Kc (ac (vr 0) an))) an) ρ S=.ok (.tup [.tup A,.tup B,.tup C]) S'/\Ex S S':=by
 have ev:∀ (i:Nat) (X:List D) (S':Sto),S'[i]?=some ⟨false,X⟩->b1 Kc (ac (vr 0) an) [some (.lst i)] S'=.ok (.tup X) S':=fun i X S' e=>by simp[Gax e]
 have S1x:Ex S (S++[⟨false,[]⟩]):=Ex.app
 have c0:(S++[(⟨false,[]⟩:Cell)])[S.length]?=some ⟨false,[]⟩:=Gs
 have b1':=Ut (a:=S.length) (ρ:=[some (.lst x)]) (ev x A _ (S1x.at h.q1)) c0 (by simp)
 have l1:S.length<(S++[(⟨false,[]⟩:Cell)]).length:=by simp
 have S2x:=S1x.setq (q:=S.length) (c:=⟨false,[]++[.tup A]⟩) (Ab _)
 have c1:=Ah (a:=(⟨false,[]++[.tup A]⟩:Cell)) l1
 generalize hS1:(S++[(⟨false,[]⟩:Cell)])=S1 at *
 generalize S1.set S.length ⟨false,[]++[.tup A]⟩=S2 at *
 have b2':=Ut (a:=S.length) (ρ:=[some (.lst y)]) (ev y B _ (S2x.at h.q2)) c1 (by simp)
 have l2:S.length<S2.length:=(Aa.mp c1).1
 have S3x:=S2x.setq (q:=S.length) (c:=⟨false,([]++[.tup A])++[.tup B]⟩) (Ab _)
 have c2:=Ah (a:=(⟨false,([]++[.tup A])++[.tup B]⟩:Cell)) l2
 generalize S2.set S.length ⟨false,([]++[.tup A])++[.tup B]⟩=S3 at *
 have b3':=Ut (a:=S.length) (ρ:=[some (.lst z)]) (ev z C _ (S3x.at h.q3)) c2 (by simp)
 have l3:S.length<S3.length:=(Aa.mp c2).1
 have S4x:=S3x.setq (q:=S.length) (c:=⟨false,(([]++[.tup A])++[.tup B])++[.tup C]⟩) (Ab _)
 have c3:=Ah (a:=(⟨false,(([]++[.tup A])++[.tup B])++[.tup C]⟩:Cell)) l3
 generalize S3.set S.length ⟨false,(([]++[.tup A])++[.tup B])++[.tup C]⟩=S4 at *
 have nx:∀ (S':Sto) (k:Nat),Ex S S'->(Wk q 3).nxt k S'=[D.lst x,.lst y,.lst z][k]?:=fun S' k e=>by
  show(S'[q]?).bind (fun c=>c.xs[k]?)=_
  rw[e.at h.q0]; rfl
 have lp:Kb (Wk q 3).nxt (gn 0) (cbody S.length ttrue (b1 Kc (ac (vr 0) an))) (Wk q 3).fuel 0 [none] S1=.nx [some (.lst z)] S4:=by
  show Kb _ _ _ (3+1) 0 _ _=_
  rw[Kx (nx _ _ S1x) rfl b1',Kx (nx _ _ S2x) rfl b2',Kx (nx _ _ S3x) rfl b3',Gbi (nx _ _ S4x)]
 refine⟨S4,?_,S4x⟩
 have hc:cmp (isrc f) [none] (gn 0) ttrue (b1 Kc (ac (vr 0) an)) ρ S=.ok (.lst S.length) S4:=by
  unfold cmp
  rw[Vw,hf,Gx,Gbz h.q0]
  show(match Kb (Wk q 3).nxt (gn 0) (cbody S.length ttrue (b1 Kc (ac (vr 0) an))) (Wk q 3).fuel 0 [none] (S++[⟨false,[]⟩]) with | .nx _ S'=>Out.ok (D.lst S.length) S' | _=>.bad)=_
  rw[hS1,lp]
 rw[Gjw,Gdh,hc,Gx,Gdg,Gx,Gx,Gax c3]
 rfl
def Rw.ex{x y z:Nat}(h:Rw S q x y z A B C)(e:Ex S S'):Rw S' q x y z A B C:=⟨e.at h.q0,e.at h.q1,e.at h.q2,e.at h.q3⟩
def Gbk:("NoGate":Str)∈ys/\("Dry":Str)∈ys/\("Full":Str)∈ys/\("NoSpring":Str)∈ys:=by decide +kernel
def adw(p:Pl)(L:List Int)(i:Nat)(l d:Int):List Int:=if p.isE=true then L else L.set i (l+d)
section
variable{ps:List Pl}{us:List Bool}{L R F:List Int}{S:Sto}
def Gj9{i:Nat}{f:Ev (List D)}{a b:D}(h:f ρ S=.ok [a,b] S'):spar i j f ρ S=.nx ((ρ.set i (some a)).set j (some b)) S':=by
 unfold spar
 rw[h]
 rfl
def Gsn(hu:us[k]?=some u)(h1:ps[hiI u k]?=some pH)(h2:ps[loI u k]?=some pL)(h3:L[hiI u k]?=some lH)(h4:L[loI u k]?=some lL)(ok1:pH.ok)(ok2:pL.ok):
  Vu [cD ps us,stD L R F,.int k] S=if(!pH.isE&&decide (lH=0))=true then .exc ⟨"Dry",none⟩ S else if(!pL.isE&&decide (wat pL<=lL))=true then .exc ⟨"Full",none⟩ S else .ok .non S:=by
 have hk:k<us.length:=(Aa.mp hu).1
 have cg:=Gj7 (ps:=ps) (us:=us) (n:=(k:Int)) (S:=S)
 rw[if_pos ⟨by omega,by omega⟩] at cg
 have cg:=Zj cg
 have hi:=Gbj (ps:=ps) (S:=S) hu
 have lo:=Gdi (ps:=ps) (S:=S) hu
 have dry:=Gls (l:=lH) (S:=S) ok1
 have ful:=Gdj (l:=lL) (S:=S) ok2
 refine(Go (m:=7) (b:=Jt)).trans ?_
 show fin (Jt [some (cD ps us),some (stD L R F),some (.int k),none,none,none,none] S)=_
 unfold Jt
 refine(Ge (ρ':=[some (cD ps us),some (stD L R F),some (.int k),none,none,none,none]) (S':=S) (by simp[cg])).trans ?_
 refine(Ge (ρ':=[some (cD ps us),some (stD L R F),some (.int k),some (.tup (ps.map Pl.toD)),some (.tup (L.map D.int)),none,none]) (S':=S) (Gj9 (by simp[cd0,st0]))).trans ?_
 refine(Ge (ρ':=[some (cD ps us),some (stD L R F),some (.int k),some (.tup (ps.map Pl.toD)),some (.tup (L.map D.int)),some (.int (hiI u k)),none]) (S':=S) (by simp[hi])).trans ?_
 refine(Ge (ρ':=[some (cD ps us),some (stD L R F),some (.int k),some (.tup (ps.map Pl.toD)),some (.tup (L.map D.int)),some (.int (hiI u k)),some (.int (loI u k))]) (S':=S) (by simp[lo])).trans ?_
 have g1:=Vo (S:=S) h1
 have g2:=Vo (S:=S) h2
 have g3:=Vi (S:=S) h3
 have g4:=Vi (S:=S) h4
 have t1:tt (cl 2 (Gi Gam) (ac (o2 DL.getD (vr 3) (vr 5)) (ac (o2 DL.getD (vr 4) (vr 5)) an))) [some (cD ps us),some (stD L R F),some (.int k),some (.tup (ps.map Pl.toD)),some (.tup (L.map D.int)),some (.int (hiI u k)),some (.int (loI u k))] S=.ok (!pH.isE&&decide (lH=0)) S:=by
  simp[g1,g3,dry,Vq]
 have t2:tt (cl 2 (Gi Qn) (ac (o2 DL.getD (vr 3) (vr 6)) (ac (o2 DL.getD (vr 4) (vr 6)) an))) [some (cD ps us),some (stD L R F),some (.int k),some (.tup (ps.map Pl.toD)),some (.tup (L.map D.int)),some (.int (hiI u k)),some (.int (loI u k))] S=.ok (!pL.isE&&decide (wat pL<=lL)) S:=by
  simp[g2,g4,ful,Vq]
 by_cases c1:(!pH.isE&&decide (lH=0))=true
 ·rw[if_pos c1]
  rw[c1] at t1
  refine Ki (ρ':=[some (cD ps us),some (stD L R F),some (.int k),some (.tup (ps.map Pl.toD)),some (.tup (L.map D.int)),some (.int (hiI u k)),some (.int (loI u k))]) ?_
  rw[Hw t1]
  simp[srs]
 ·rw[if_neg c1]
  rw[AR.mpr c1] at t1
  refine(Ge (ρ':=[some (cD ps us),some (stD L R F),some (.int k),some (.tup (ps.map Pl.toD)),some (.tup (L.map D.int)),some (.int (hiI u k)),some (.int (loI u k))]) (S':=S) (by rw[Hl t1]; rfl)).trans ?_
  by_cases c2:(!pL.isE&&decide (wat pL<=lL))=true
  ·rw[if_pos c2]
   rw[c2] at t2
   rw[Hw t2]
   simp[srs,fin]
  ·rw[if_neg c2]
   rw[AR.mpr c2] at t2
   rw[Hl t2]
   rfl
def Gua{i:Nat}{l d:Int}(hp:ps[i]?=some p)(hl:L[i]?=some l)(ok:p.ok)(hL:L.length<=1000):Ve [cD ps us,.tup (L.map D.int),.int i,.int d] S=.ok (.tup ((adw p L i l d).map D.int)) S:=by
 have e:=Gfy (S:=S) ok
 have mo:=Gcb (S:=S) (m:=d) hl hL
 have g:=Vo (S:=S) hp
 refine(Go (m:=4) (b:=Kw)).trans ?_
 show fin (Kw [some (cD ps us),some (.tup (L.map D.int)),some (.int i),some (.int d)] S)=_
 unfold adw
 cases z:p.isE
 ·rw[z] at e
  simp[Kw,cd0,g,c_END,e,mo,-List.map_set]
 ·rw[z] at e
  simp[Kw,cd0,g,c_END,e]
def Gso{i:Nat}{l d:Int}:(adw p L i l d).length=L.length:=by unfold adw; split<;>simp
def Got{i:Nat}{l d:Int}(h:i≠j):(adw p L i l d)[j]?=L[j]?:=by
 unfold adw
 split
 ·rfl
 ·exact Ad h
def Gub:hiI u k≠loI u k:=by cases u<;>simp[hiI,loI]
def Hbk(hu:us[k]?=some u)(h1:ps[hiI u k]?=some pH)(h2:ps[loI u k]?=some pL)(h3:L[hiI u k]?=some lH)(h4:L[loI u k]?=some lL)(ok1:pH.ok)(ok2:pL.ok)(hL:L.length<=1000):
  Zu [cD ps us,stD L R F,.int k] S=.ok (stD (adw pL (adw pH L (hiI u k) lH (-1)) (loI u k) lL 1) R F) S:=by
 have hi:=Gbj (ps:=ps) (S:=S) hu
 have lo:=Gdi (ps:=ps) (S:=S) hu
 have w1:=Gua (us:=us) (d := -1) (S:=S) h1 h3 ok1 hL
 have w2:=Gua (us:=us) (L:=adw pH L (hiI u k) lH (-1)) (d:=1) (S:=S) h2 ((Got Gub).trans h4) ok2 (by rw[Gso]; exact hL)
 refine(Go (m:=6) (b:=Vl)).trans ?_
 show fin (Vl [some (cD ps us),some (stD L R F),some (.int k),none,none,none] S)=_
 unfold Vl
 refine(Ge (ρ':=[some (cD ps us),some (stD L R F),some (.int k),some (.tup (L.map D.int)),some (.tup (R.map D.int)),some (.tup (F.map D.int))]) (S':=S) rfl).trans ?_
 refine(Ge (ρ':=[some (cD ps us),some (stD L R F),some (.int k),some (.tup ((adw pH L (hiI u k) lH (-1)).map D.int)),some (.tup (R.map D.int)),some (.tup (F.map D.int))]) (S':=S) (by simp[hi,w1])).trans ?_
 refine(Ge (ρ':=[some (cD ps us),some (stD L R F),some (.int k),some (.tup ((adw pL (adw pH L (hiI u k) lH (-1)) (loI u k) lL 1).map D.int)),some (.tup (R.map D.int)),some (.tup (F.map D.int))]) (S':=S) (by simp[lo,w2])).trans ?_
 simp[stD]
def Gou:eqD (.str "let") (.str "let") S=.ok (.bl true) S:=by rw[Jv (stok _) (stok _)]; rfl
def Hc6:eqD (.str "feed") (.str "let") S=.ok (.bl false) S:=by rw[Jv (stok _) (stok _)]; rfl
def Glu:eqD (.str "feed") (.str "feed") S=.ok (.bl true) S:=by rw[Jv (stok _) (stok _)]; rfl
def Hbl:eqD (.str "let") (.str "feed") S=.ok (.bl false) S:=by rw[Jv (stok _) (stok _)]; rfl
def Glv(u:Bool)(k:Nat)(pH pL:Pl)(lH lL:Int)(L R F:List Int):Res:=
 if(!pH.isE&&decide (lH=0))=true then .no "Dry" else if(!pL.isE&&decide (wat pL<=lL))=true then .no "Full" else .yes (.tup [stD (adw pL (adw pH L (hiI u k) lH (-1)) (loI u k) lL 1) R F,.int 0,.int 0])
def dd_let(hu:us[k]?=some u)(h1:ps[hiI u k]?=some pH)(h2:ps[loI u k]?=some pL)(h3:L[hiI u k]?=some lH)(h4:L[loI u k]?=some lL)(ok1:pH.ok)(ok2:pL.ok)(hL:L.length<=1000):
  Hi [cD ps us,stD L R F,.tup [.str "let",.int k]] S=(Glv u k pH pL lH lL L R F).out S:=by
 have cl':=Gsn (R:=R) (F:=F) (S:=S) hu h1 h2 h3 h4 ok1 ok2
 have ld:=Hbk (R:=R) (F:=F) (S:=S) hu h1 h2 h3 h4 ok1 ok2 hL
 refine(Go (m:=8) (b:=Gz)).trans ?_
 show fin (Gz [some (cD ps us),some (stD L R F),some (.tup [.str "let",.int k]),none,none,none,none,none] S)=_
 unfold Gz
 refine(Ge (ρ':=[some (cD ps us),some (stD L R F),some (.tup [.str "let",.int k]),some (.str "let"),some (.int k),none,none,none]) (S':=S) rfl).trans ?_
 unfold Glv
 by_cases c1:(!pH.isE&&decide (lH=0))=true
 ·rw[if_pos c1] at cl' ⊢
  have gx:=Qw cl' Gbk.2.1
  exact Ki (ρ':=[some (cD ps us),some (stD L R F),some (.tup [.str "let",.int k]),some (.str "let"),some (.int k),none,none,none]) (by simp[Gou,gx])
 ·rw[if_neg c1] at cl' ⊢
  by_cases c2:(!pL.isE&&decide (wat pL<=lL))=true
  ·rw[if_pos c2] at cl' ⊢
   have gx:=Qw cl' Gbk.2.2.1
   exact Ki (ρ':=[some (cD ps us),some (stD L R F),some (.tup [.str "let",.int k]),some (.str "let"),some (.int k),none,none,none]) (by simp[Gou,gx])
  ·rw[if_neg c2] at cl' ⊢
   have gx:=Zj cl'
   exact Hx (by simp[Gou,gx,ld])
def dd_nogate{n:Int}(h:¬ (0<=n/\n<us.length)):Hi [cD ps us,stD L R F,.tup [.str "let",.int n]] S=.exc ⟨"NoGate",none⟩ S:=by
 have cg:=Gj7 (ps:=ps) (us:=us) (n:=n) (S:=S)
 rw[if_neg h] at cg
 have cg:=Qw cg Gbk.1
 have cl':Vu [cD ps us,stD L R F,.int n] S=.exc ⟨"NoGate",none⟩ S:=by
  refine(Go (m:=7) (b:=Jt)).trans ?_
  show fin (Jt [some (cD ps us),some (stD L R F),some (.int n),none,none,none,none] S)=_
  unfold Jt
  exact Ki (ρ':=[some (cD ps us),some (stD L R F),some (.int n),none,none,none,none]) (by simp[cg])
 have gx:=Qw cl' Gbk.1
 refine(Go (m:=8) (b:=Gz)).trans ?_
 show fin (Gz [some (cD ps us),some (stD L R F),some (.tup [.str "let",.int n]),none,none,none,none,none] S)=_
 unfold Gz
 refine(Ge (ρ':=[some (cD ps us),some (stD L R F),some (.tup [.str "let",.int n]),some (.str "let"),some (.int n),none,none,none]) (S':=S) rfl).trans ?_
 exact Ki (ρ':=[some (cD ps us),some (stD L R F),some (.tup [.str "let",.int n]),some (.str "let"),some (.int n),none,none,none]) (by simp[Gou,gx])
def Wz(k:Nat)(p:Pl)(l:Int)(L R F:List Int):Res:=match p with
 | .p br _ _ (.int i)=>if br<=l then .no "Full" else .yes (.tup [stD (L.set k (l+1)) R F,.int i,.int 0])
 | _=>.no "NoSpring"
def Guc{br de ro:Int}{pr:D}:DL.getD (Pl.toD (.p br de ro pr)) (.int 4) S=.ok pr S:=Je (Ha (by decide) rfl)
def Gov{l:Int}(hp:ps[k]?=some p)(hl:L[k]?=some l)(ok:p.ok):Vd [cD ps us,stD L R F,.int k] S=match Wz k p l L R F with
  | .no y=>.exc ⟨y,none⟩ S
  | .yes _=>.ok .non S:=by
 have hk:k<ps.length:=(Aa.mp hp).1
 have sp:=Glt (S:=S) ok
 have fu:=Gdj (l:=l) (S:=S) ok
 have g1:=Vo (S:=S) hp
 have g2:=Vi (S:=S) hl
 refine(Go (m:=5) (b:=Qt)).trans ?_
 show fin (Qt [some (cD ps us),some (stD L R F),some (.int k),none,none] S)=_
 unfold Qt
 refine(Ge (ρ':=[some (cD ps us),some (stD L R F),some (.int k),some (.tup (ps.map Pl.toD)),some (.tup (L.map D.int))]) (S':=S) (Gj9 (by simp[cd0,st0]))).trans ?_
 have hk':(k:Int)<ps.length:=by omega
 have t1:(to (tn (tb (ch leD ltD (cn (.int 0)) (vr 2) (b1 Gy (ac (vr 3) an))))) (tn (tt (cl 1 (Gi Qq) (ac (o2 DL.getD (vr 3) (vr 2)) an))))) [some (cD ps us),some (stD L R F),some (.int k),some (.tup (ps.map Pl.toD)),some (.tup (L.map D.int))] S=.ok (!spr p) S:=by
  simp[hk',g1,sp,Vq]
 have t2:tt (cl 2 (Gi Qn) (ac (o2 DL.getD (vr 3) (vr 2)) (ac (o2 DL.getD (vr 4) (vr 2)) an))) [some (cD ps us),some (stD L R F),some (.int k),some (.tup (ps.map Pl.toD)),some (.tup (L.map D.int))] S=.ok (!p.isE&&decide (wat p<=l)) S:=by
  simp[g1,g2,fu,Vq]
 have no:spr p=false->fin (sq (sif (to (tn (tb (ch leD ltD (cn (.int 0)) (vr 2) (b1 Gy (ac (vr 3) an))))) (tn (tt (cl 1 (Gi Qq) (ac (o2 DL.getD (vr 3) (vr 2)) an))))) (srs "NoSpring" (ac (cn (.str "there is no spring at this place")) an)) DL.skip) (sif (tt (cl 2 (Gi Qn) (ac (o2 DL.getD (vr 3) (vr 2)) (ac (o2 DL.getD (vr 4) (vr 2)) an)))) (srs "Full" (ac (cn (.str "the pound is at its brim")) an)) DL.skip) [some (cD ps us),some (stD L R F),some (.int k),some (.tup (ps.map Pl.toD)),some (.tup (L.map D.int))] S)=.exc ⟨"NoSpring",none⟩ S:=fun z=>by
  rw[z] at t1
  exact Ki (ρ':=[some (cD ps us),some (stD L R F),some (.int k),some (.tup (ps.map Pl.toD)),some (.tup (L.map D.int))]) (by rw[Hw t1]; simp[srs])
 cases p with
 | e=>exact no rfl
 | c=>exact no rfl
 | p br de ro pr=>
  obtain⟨_,_,_,_,_,_,hpr⟩:=id ok
  rcases hpr with rfl | ⟨i,rfl,_⟩
  ·exact no rfl
  ·refine(Ge (ρ':=[some (cD ps us),some (stD L R F),some (.int k),some (.tup (ps.map Pl.toD)),some (.tup (L.map D.int))]) (S':=S) (by rw[Hl t1]; rfl)).trans ?_
   have t2:tt (cl 2 (Gi Qn) (ac (o2 DL.getD (vr 3) (vr 2)) (ac (o2 DL.getD (vr 4) (vr 2)) an))) [some (cD ps us),some (stD L R F),some (.int k),some (.tup (ps.map Pl.toD)),some (.tup (L.map D.int))] S=.ok (decide (br<=l)) S:=t2
   show _=(match (if br<=l then Res.no "Full" else Res.yes (.tup [stD (L.set k (l+1)) R F,.int i,.int 0])) with | .no y=>Out.exc ⟨y,none⟩ S | .yes _=>.ok D.non S)
   by_cases c:br<=l
   ·rw[if_pos c]
    rw[decide_eq_true c] at t2
    rw[Hw t2]
    simp[srs,fin]
   ·rw[if_neg c]
    rw[decide_eq_false c] at t2
    rw[Hl t2]
    rfl
def dd_feed{l:Int}(hp:ps[k]?=some p)(hl:L[k]?=some l)(ok:p.ok)(hL:L.length<=1000):Hi [cD ps us,stD L R F,.tup [.str "feed",.int k]] S=(Wz k p l L R F).out S:=by
 have cf:=Gov (us:=us) (R:=R) (F:=F) (S:=S) hp hl ok
 refine(Go (m:=8) (b:=Gz)).trans ?_
 show fin (Gz [some (cD ps us),some (stD L R F),some (.tup [.str "feed",.int k]),none,none,none,none,none] S)=_
 unfold Gz
 refine(Ge (ρ':=[some (cD ps us),some (stD L R F),some (.tup [.str "feed",.int k]),some (.str "feed"),some (.int k),none,none,none]) (S':=S) rfl).trans ?_
 refine(Ge (ρ':=[some (cD ps us),some (stD L R F),some (.tup [.str "feed",.int k]),some (.str "feed"),some (.int k),none,none,none]) (S':=S) (by simp[Hc6])).trans ?_
 have no:∀ y,y∈ys->Wz k p l L R F=.no y->fin (sq (sif (tb (o2 eqD (vr 3) (cn (.str "feed")))) (sq (sx (cl 3 (gX ys Vd) (ac (vr 0) (ac (vr 1) (ac (vr 4) an))))) (sq (sa (vr 1) (gt (gcons (gn 5) (gcons (gn 6) (gcons (gn 7) gnil))) 3)) (sret (tp (ac (tp (ac (cl 3 (Gi Kk) (ac (vr 5) (ac (vr 4) (ac (cn (.int 1)) an)))) (ac (vr 6) (ac (vr 7) an)))) (ac (o2 DL.getD (o2 DL.getD (o2 DL.getD (vr 0) (cn (.int 0))) (vr 4)) (cn (.int 4))) (ac (cn (.int 0)) an))))))) DL.skip) (sq (sx (cl 3 (gX ys Qs) (ac (vr 0) (ac (vr 1) (ac (vr 2) an))))) (sret (tp (ac (cl 2 (Gi Gb9) (ac (vr 1) (ac (vr 2) an))) (ac (cn (.int 0)) (ac (ie (tt (cl 2 (Gi Qu) (ac (vr 0) (ac (vr 2) an)))) (cn (.int 1)) (cn (.int 0))) an)))))) [some (cD ps us),some (stD L R F),some (.tup [.str "feed",.int k]),some (.str "feed"),some (.int k),none,none,none] S)=(Res.no y).out S:=fun y hy z=>by
  rw[z] at cf
  have gx:=Qw cf hy
  exact Ki (ρ':=[some (cD ps us),some (stD L R F),some (.tup [.str "feed",.int k]),some (.str "feed"),some (.int k),none,none,none]) (by simp[Glu,gx])
 cases z:Wz k p l L R F with
 | no y=>
  refine no y ?_ z
  unfold Wz at z
  split at z
  ·split at z
   ·cases z; exact Gbk.2.2.1
   ·cases z
  ·cases z; exact Gbk.2.2.2
 | yes d=>
  rw[z] at cf
  have gx:=Zj cf
  unfold Wz at z
  split at z
  ·rename_i br de ro i
   split at z
   ·cases z
   ·cases z
    have g:=Vo (S:=S) hp
    have mo:=Gcb (S:=S) (m:=1) hl hL
    have pp:=Guc (br:=br) (de:=de) (ro:=ro) (pr:=.int i) (S:=S)
    refine Hx ?_
    rw[Hw (S1:=S) (by simp[Glu]),Jf (ρ':=[some (cD ps us),some (stD L R F),some (.tup [.str "feed",.int k]),some (.str "feed"),some (.int k),none,none,none]) (S1:=S) (by simp[gx]),Jf (f:=sa (vr 1) (gt (gcons (gn 5) (gcons (gn 6) (gcons (gn 7) gnil))) 3)) (ρ':=[some (cD ps us),some (stD L R F),some (.tup [.str "feed",.int k]),some (.str "feed"),some (.int k),some (.tup (L.map D.int)),some (.tup (R.map D.int)),some (.tup (F.map D.int))]) (S1:=S) rfl]
    simp[mo,cd0,g,pp,stD,-List.map_set]
  ·cases z
end
def Gd9:("NoGate":Str)∈ys/\("NoBarge":Str)∈ys/\("NoRoom":Str)∈ys/\("Uneven":Str)∈ys/\("Shallow":Str)∈ys:=by decide +kernel
noncomputable def stI(b:Bool)(k:Nat):Nat:=if b=true then k else k+1
noncomputable def glI(b:Bool)(k:Nat):Nat:=if b=true then k+1 else k
abbrev dM(b:Bool)(n:Int):D:=.tup [wd b,.int n]
noncomputable def shal:Pl->Int->Bool
 | .p _ de _ _,l=>decide (l<de)
 | _,_=>false
section
variable{ps:List Pl}{us:List Bool}{L R F:List Int}{S:Sto}{b:Bool}
def Gow:eqD (wd b) (.str "let") S=.ok (.bl false) S:=by
 cases b
 ·show eqD (.str "left") (.str "let") S=_
  rw[Jv (stok _) (stok _)]; rfl
 ·show eqD (.str "right") (.str "let") S=_
  rw[Jv (stok _) (stok _)]; rfl
def Gf3:eqD (wd b) (.str "feed") S=.ok (.bl false) S:=by
 cases b
 ·show eqD (.str "left") (.str "feed") S=_
  rw[Jv (stok _) (stok _)]; rfl
 ·show eqD (.str "right") (.str "feed") S=_
  rw[Jv (stok _) (stok _)]; rfl
def Gyh:eqD (wd b) (.str "left") S=.ok (.bl (!b)) S:=by
 cases b
 ·show eqD (.str "left") (.str "left") S=_
  rw[Jv (stok _) (stok _)]; rfl
 ·show eqD (.str "right") (.str "left") S=_
  rw[Jv (stok _) (stok _)]; rfl
def Ghd{n:Int}:Ug [dM b n] S=.ok (.int (if b=true then n else n+1)) S:=by
 refine(Go (m:=3) (b:=Qd)).trans ?_
 show fin (Qd [some (dM b n),none,none] S)=_
 unfold Qd
 refine(Ge (ρ':=[some (dM b n),some (wd b),some (.int n)]) (S':=S) rfl).trans ?_
 have w:=Yw (b:=b) (S:=S)
 cases b<;>simp[w]
def Gbl{n:Int}:Km [dM b n] S=.ok (.int (if b=true then n+1 else n)) S:=by
 refine(Go (m:=3) (b:=Kl)).trans ?_
 show fin (Kl [some (dM b n),none,none] S)=_
 unfold Kl
 refine(Ge (ρ':=[some (dM b n),some (wd b),some (.int n)]) (S':=S) rfl).trans ?_
 have w:=Yw (b:=b) (S:=S)
 cases b<;>simp[w]
def Hbm:(if b=true then(k:Int) else(k:Int)+1)=((stI b k:Nat):Int):=by cases b<;>simp[stI]
def Gyi:(if b=true then(k:Int)+1 else(k:Int))=((glI b k:Nat):Int):=by cases b<;>simp[glI]
def Gox:stI b k≠glI b k:=by cases b<;>simp[stI,glI]
def Gka{l:Int}:Kv [p.toD,.int l] S=.ok (.bl (shal p l)) S:=by
 refine(Go (m:=2) (b:=Jw)).trans ?_
 show fin (Jw [some p.toD,some (.int l)] S)=_
 cases p with
 | e=>
  have g:DL.getD (Pl.toD .e) (.int 0) S=.ok (.str "end") S:=Je (Ha (by decide) rfl)
  simp[Jw,g,s2,shal]
 | c=>
  have g:DL.getD (Pl.toD .c) (.int 0) S=.ok (.str "chamber") S:=Je (Ha (by decide) rfl)
  simp[Jw,g,s4,shal]
 | p br de ro pr=>
  have g:DL.getD (Pl.toD (.p br de ro pr)) (.int 0) S=.ok (.str "pound") S:=Je (Ha (by decide) rfl)
  have g2:DL.getD (Pl.toD (.p br de ro pr)) (.int 2) S=.ok (.int de) S:=Je (Ha (by decide) rfl)
  simp[Jw,g,g2,s6,shal]
def Gsp(hu:us[k]?=some u)(h1:ps[hiI u k]?=some pH)(h2:ps[loI u k]?=some pL)(h3:L[hiI u k]?=some lH)(h4:L[loI u k]?=some lL)(ok1:pH.ok)(ok2:pL.ok):
  Wj [cD ps us,.tup (L.map D.int),.int k] S=if(pH.isC&&decide (lH=1))=true then .exc ⟨"Uneven",none⟩ S else if(pL.isC&&decide (lL=0))=true then .exc ⟨"Uneven",none⟩ S else if(shal pH lH||shal pL lL)=true then .exc ⟨"Shallow",none⟩ S else .ok .non S:=by
 have hi:=Gbj (ps:=ps) (S:=S) hu
 have lo:=Gdi (ps:=ps) (S:=S) hu
 have g1:=Vo (S:=S) h1
 have g2:=Vo (S:=S) h2
 have g3:=Vi (S:=S) h3
 have g4:=Vi (S:=S) h4
 have c1:=Gca (S:=S) ok1
 have c2:=Gca (S:=S) ok2
 have sh1:=Gka (p:=pH) (l:=lH) (S:=S)
 have sh2:=Gka (p:=pL) (l:=lL) (S:=S)
 refine(Go (m:=6) (b:=Qc)).trans ?_
 show fin (Qc [some (cD ps us),some (.tup (L.map D.int)),some (.int k),none,none,none] S)=_
 unfold Qc
 refine(Ge (ρ':=[some (cD ps us),some (.tup (L.map D.int)),some (.int k),some (.tup (ps.map Pl.toD)),none,none]) (S':=S) (by simp[cd0])).trans ?_
 refine(Ge (ρ':=[some (cD ps us),some (.tup (L.map D.int)),some (.int k),some (.tup (ps.map Pl.toD)),some (.int (hiI u k)),none]) (S':=S) (by simp[hi])).trans ?_
 refine(Ge (ρ':=[some (cD ps us),some (.tup (L.map D.int)),some (.int k),some (.tup (ps.map Pl.toD)),some (.int (hiI u k)),some (.int (loI u k))]) (S':=S) (by simp[lo])).trans ?_
 generalize hρ:[some (cD ps us),some (D.tup (L.map D.int)),some (.int k),some (.tup (ps.map Pl.toD)),some (.int (hiI u k)),some (.int (loI u k))]=ρ
 have v1:vr 1 ρ S=.ok (.tup (L.map D.int)) S:=by rw[<- hρ]; rfl
 have v3:vr 3 ρ S=.ok (.tup (ps.map Pl.toD)) S:=by rw[<- hρ]; rfl
 have v4:vr 4 ρ S=.ok (.int (hiI u k)) S:=by rw[<- hρ]; rfl
 have v5:vr 5 ρ S=.ok (.int (loI u k)) S:=by rw[<- hρ]; rfl
 have t1:ta (tb (o2 eqD (o2 DL.getD (vr 3) (vr 4)) (cn c_CHAMBER))) (tb (o2 eqD (o2 DL.getD (vr 1) (vr 4)) (cn (.int 1)))) ρ S=.ok (pH.isC&&decide (lH=1)) S:=by
  simp only[Gt6,Geq,Qx,v3,v4,v1,Gx,g1,g3,Yr,c_CHAMBER,c1,Gt9]
  cases pH.isC<;>simp
 have t2:ta (tb (o2 eqD (o2 DL.getD (vr 3) (vr 5)) (cn c_CHAMBER))) (tb (o2 eqD (o2 DL.getD (vr 1) (vr 5)) (cn (.int 0)))) ρ S=.ok (pL.isC&&decide (lL=0)) S:=by
  simp only[Gt6,Geq,Qx,v3,v5,v1,Gx,g2,g4,Yr,c_CHAMBER,c2,Gt9]
  cases pL.isC<;>simp
 have t3:to (tt (cl 2 (Gi Kv) (ac (o2 DL.getD (vr 3) (vr 4)) (ac (o2 DL.getD (vr 1) (vr 4)) an)))) (tt (cl 2 (Gi Kv) (ac (o2 DL.getD (vr 3) (vr 5)) (ac (o2 DL.getD (vr 1) (vr 5)) an)))) ρ S=.ok (shal pH lH||shal pL lL) S:=by
  simp only[Hbb,Hba,Gt5,Gdh,Gdg,Qx,v3,v4,v5,v1,Gx,g1,g2,g3,g4,AZ,Bo,if_true,Gha,sh1,sh2,Vq]
  cases shal pH lH<;>simp[sh2,Vq]
 by_cases e1:(pH.isC&&decide (lH=1))=true
 ·rw[if_pos e1]
  rw[e1] at t1
  exact Ki (by rw[Hw t1]; simp[srs]; rfl)
 ·rw[if_neg e1]
  rw[AR.mpr e1] at t1
  refine(Ge (ρ':=ρ) (S':=S) (by rw[Hl t1]; rfl)).trans ?_
  by_cases e2:(pL.isC&&decide (lL=0))=true
  ·rw[if_pos e2]
   rw[e2] at t2
   exact Ki (by rw[Hw t2]; simp[srs]; rfl)
  ·rw[if_neg e2]
   rw[AR.mpr e2] at t2
   refine(Ge (ρ':=ρ) (S':=S) (by rw[Hl t2]; rfl)).trans ?_
   by_cases e3:(shal pH lH||shal pL lL)=true
   ·rw[if_pos e3]
    rw[e3] at t3
    rw[Hw t3]
    simp[srs,fin]
   ·rw[if_neg e3]
    rw[AR.mpr e3] at t3
    rw[Hl t3]
    rfl
structure Mv(ps:List Pl)(us:List Bool)(L R F:List Int)(b:Bool)(k:Nat)(u:Bool)(pH pL pG:Pl)(lH lL a g r1 f1:Int):Prop where
 hu:us[k]?=some u
 h1:ps[hiI u k]?=some pH
 h2:ps[loI u k]?=some pL
 h3:L[hiI u k]?=some lH
 h4:L[loI u k]?=some lL
 ok1:pH.ok
 ok2:pL.ok
 hG:ps[glI b k]?=some pG
 okG:pG.ok
 ha:(sel b R F)[stI b k]?=some a
 hg:(sel b R F)[glI b k]?=some g
 hr:R[glI b k]?=some r1
 hf:F[glI b k]?=some f1
 hn:us.length+1=ps.length
 lM:(sel b R F).length<=1000
def Ky(b:Bool)(R F:List Int)(k:Nat)(a g:Int):List Int:=((sel b R F).set (stI b k) (a + -1)).set (glI b k) (g+1)
def Gsq(b:Bool)(L R F:List Int)(k:Nat)(a g:Int):D:=stD L (if b=true then Ky b R F k a g else R) (if b=true then F else Ky b R F k a g)
def Ghe(pH pL pG:Pl)(lH lL a r1 f1:Int):BC Str:=
 if a=0 then some "NoBarge" else if(hol pG (r1+f1+1))=false then some "NoRoom" else if(pH.isC&&decide (lH=1))=true then some "Uneven" else if(pL.isC&&decide (lL=0))=true then some "Uneven" else if(shal pH lH||shal pL lL)=true then some "Shallow" else none
def Gdk(m:Nat)(b:Bool)(k:Nat)(pH pL pG:Pl)(lH lL a g r1 f1:Int)(L R F:List Int):Res:=match Ghe pH pL pG lH lL a r1 f1 with
 | some y=>.no y
 | none=>.yes (.tup [Gsq b L R F k a g,.int 0,.int (if(glI b k:Int)=(if b=true then(m:Int)-1 else 0) then 1 else 0)])
variable{k:Nat}{u:Bool}{pH pL pG:Pl}{lH lL a g r1 f1:Int}
def Gkb(h:Ghe pH pL pG lH lL a r1 f1=some y):y∈ys:=by
 unfold Ghe at h
 split at h
 ·cases h; exact Gd9.2.1
 ·split at h
  ·cases h; exact Gd9.2.2.1
  ·split at h
   ·cases h; exact Gd9.2.2.2.1
   ·split at h
    ·cases h; exact Gd9.2.2.2.1
    ·split at h
     ·cases h; exact Gd9.2.2.2.2
     ·cases h
def Goy(v:Mv ps us L R F b k u pH pL pG lH lL a g r1 f1):Qs [cD ps us,stD L R F,dM b k] S=match Ghe pH pL pG lH lL a r1 f1 with
  | some y=>.exc ⟨y,none⟩ S
  | none=>.ok .non S:=by
 have hk:k<us.length:=(Aa.mp v.hu).1
 have cg:=Gj7 (ps:=ps) (us:=us) (n:=(k:Int)) (S:=S)
 rw[if_pos ⟨by omega,by omega⟩] at cg
 have cg:=Zj cg
 have bo:=Gor (b:=b) (L:=L) (R:=R) (F:=F) (S:=S)
 have ah:=Ghd (b:=b) (n:=(k:Int)) (S:=S)
 rw[Hbm] at ah
 have be:=Gbl (b:=b) (n:=(k:Int)) (S:=S)
 rw[Gyi] at be
 have ga:=Vi (S:=S) v.ha
 have gG:=Vo (S:=S) v.hG
 have gr:=Vi (S:=S) v.hr
 have gf:=Vi (S:=S) v.hf
 have ho:=Goq (b:=r1+f1+1) (S:=S) v.okG
 have cw:=Gsp (S:=S) v.hu v.h1 v.h2 v.h3 v.h4 v.ok1 v.ok2
 refine(Go (m:=6) (b:=Jn)).trans ?_
 show fin (Jn [some (cD ps us),some (stD L R F),some (dM b k),none,none,none] S)=_
 unfold Jn
 refine(Ge (ρ':=[some (cD ps us),some (stD L R F),some (dM b k),some (wd b),some (.int k),none]) (S':=S) rfl).trans ?_
 refine(Ge (ρ':=[some (cD ps us),some (stD L R F),some (dM b k),some (wd b),some (.int k),none]) (S':=S) (by simp[cg])).trans ?_
 unfold Ghe
 by_cases e1:a=0
 ·rw[if_pos e1]
  subst e1
  exact Ki (ρ':=[some (cD ps us),some (stD L R F),some (dM b k),some (wd b),some (.int k),none]) (by simp[bo,ah,ga,srs])
 ·rw[if_neg e1]
  refine(Ge (ρ':=[some (cD ps us),some (stD L R F),some (dM b k),some (wd b),some (.int k),none]) (S':=S) (by simp[bo,ah,ga,e1])).trans ?_
  refine(Ge (ρ':=[some (cD ps us),some (stD L R F),some (dM b k),some (wd b),some (.int k),some (.int (glI b k))]) (S':=S) (by simp[be])).trans ?_
  by_cases e2:hol pG (r1+f1+1)=false
  ·rw[if_pos e2]
   rw[e2] at ho
   exact Ki (ρ':=[some (cD ps us),some (stD L R F),some (dM b k),some (wd b),some (.int k),some (.int (glI b k))]) (by simp[cd0,gG,st1,st2,gr,gf,ho,Vq,srs])
  ·rw[if_neg e2]
   have e2:hol pG (r1+f1+1)=true:=by simpa using e2
   rw[e2] at ho
   refine(Ge (ρ':=[some (cD ps us),some (stD L R F),some (dM b k),some (wd b),some (.int k),some (.int (glI b k))]) (S':=S) (by simp[cd0,gG,st1,st2,gr,gf,ho,Vq])).trans ?_
   by_cases e3:(pH.isC&&decide (lH=1))=true
   ·rw[if_pos e3] at cw ⊢
    have gx:=Qw cw Gd9.2.2.2.1
    simp[st0,gx,fin]
   ·rw[if_neg e3] at cw ⊢
    by_cases e4:(pL.isC&&decide (lL=0))=true
    ·rw[if_pos e4] at cw ⊢
     have gx:=Qw cw Gd9.2.2.2.1
     simp[st0,gx,fin]
    ·rw[if_neg e4] at cw ⊢
     by_cases e5:(shal pH lH||shal pL lL)=true
     ·rw[if_pos e5] at cw ⊢
      have gx:=Qw cw Gd9.2.2.2.2
      simp[st0,gx,fin]
     ·rw[if_neg e5] at cw ⊢
      have gx:=Zj cw
      simp[st0,gx,fin]
def Goz(v:Mv ps us L R F b k u pH pL pG lH lL a g r1 f1):Gb9 [stD L R F,dM b k] S=.ok (Gsq b L R F k a g) S:=by
 have bo:=Gor (b:=b) (L:=L) (R:=R) (F:=F) (S:=S)
 have ah:=Ghd (b:=b) (n:=(k:Int)) (S:=S)
 rw[Hbm] at ah
 have be:=Gbl (b:=b) (n:=(k:Int)) (S:=S)
 rw[Gyi] at be
 have m1:=Gcb (S:=S) (m := -1) v.ha v.lM
 have hg':((sel b R F).set (stI b k) (a + -1))[glI b k]?=some g:=(Ad Gox).trans v.hg
 have m2:=Gcb (S:=S) (m:=1) hg' (by rw[A9]; exact v.lM)
 have wb:Wh [stD L R F,wd b,.tup ((Ky b R F k a g).map D.int)] S=.ok (Gsq b L R F k a g) S:=by
  refine(Go (m:=6) (b:=Qb)).trans ?_
  show fin (Qb [some (stD L R F),some (wd b),some (.tup ((Ky b R F k a g).map D.int)),none,none,none] S)=_
  have w:=Yw (S:=S) (b:=b)
  unfold Qb
  refine(Ge (ρ':=[some (stD L R F),some (wd b),some (.tup ((Ky b R F k a g).map D.int)),some (.tup (L.map D.int)),some (.tup (R.map D.int)),some (.tup (F.map D.int))]) (S':=S) rfl).trans ?_
  cases b<;>simp[w,Gsq,stD]
 have d0:DL.getD (dM b k) (.int 0) S=.ok (wd b) S:=Je (Ha (by decide) rfl)
 refine(Go (m:=4) (b:=Gaq)).trans ?_
 show fin (Gaq [some (stD L R F),some (dM b k),none,none] S)=_
 unfold Gaq
 refine(Ge (ρ':=[some (stD L R F),some (dM b k),some (wd b),none]) (S':=S) (by simp[d0])).trans ?_
 refine(Ge (ρ':=[some (stD L R F),some (dM b k),some (wd b),some (.tup (((sel b R F).set (stI b k) (a + -1)).map D.int))]) (S':=S) (by simp[bo,ah,m1,-List.map_set])).trans ?_
 unfold Ky at wb
 simp[m2,be,wb,-List.map_set]
def Gsr:Qu [cD ps us,dM b k] S=.ok (.bl (decide ((glI b k:Int)=(if b=true then(ps.length:Int)-1 else 0)))) S:=by
 have be:=Gbl (b:=b) (n:=(k:Int)) (S:=S)
 rw[Gyi] at be
 have d0:DL.getD (dM b k) (.int 0) S=.ok (wd b) S:=Je (Ha (by decide) rfl)
 have w:=Yw (S:=S) (b:=b)
 refine(Go (m:=2) (b:=Kn)).trans ?_
 show fin (Kn [some (cD ps us),some (dM b k)] S)=_
 cases b<;>simp[Kn,be,d0,w,cd0]
def dd_move(v:Mv ps us L R F b k u pH pL pG lH lL a g r1 f1):Hi [cD ps us,stD L R F,dM b k] S=(Gdk ps.length b k pH pL pG lH lL a g r1 f1 L R F).out S:=by
 have cm:=Goy (S:=S) v
 have mo:=Goz (S:=S) v
 have la:=Gsr (ps:=ps) (us:=us) (b:=b) (k:=k) (S:=S)
 have wl:=Gow (b:=b) (S:=S)
 have wf:=Gf3 (b:=b) (S:=S)
 refine(Go (m:=8) (b:=Gz)).trans ?_
 show fin (Gz [some (cD ps us),some (stD L R F),some (dM b k),none,none,none,none,none] S)=_
 unfold Gz
 refine(Ge (ρ':=[some (cD ps us),some (stD L R F),some (dM b k),some (wd b),some (.int k),none,none,none]) (S':=S) rfl).trans ?_
 refine(Ge (ρ':=[some (cD ps us),some (stD L R F),some (dM b k),some (wd b),some (.int k),none,none,none]) (S':=S) (by simp[wl])).trans ?_
 refine(Ge (ρ':=[some (cD ps us),some (stD L R F),some (dM b k),some (wd b),some (.int k),none,none,none]) (S':=S) (by simp[wf])).trans ?_
 unfold Gdk
 cases z:Ghe pH pL pG lH lL a r1 f1 with
 | some y=>
  rw[z] at cm
  have gx:=Qw cm (Gkb z)
  exact Ki (ρ':=[some (cD ps us),some (stD L R F),some (dM b k),some (wd b),some (.int k),none,none,none]) (by simp[gx])
 | none=>
  rw[z] at cm
  have gx:=Zj cm
  refine(Ge (ρ':=[some (cD ps us),some (stD L R F),some (dM b k),some (wd b),some (.int k),none,none,none]) (S':=S) (by simp[gx])).trans ?_
  by_cases c:(glI b k:Int)=(if b=true then(ps.length:Int)-1 else 0)
  ·rw[decide_eq_true c] at la
   rw[if_pos c]
   simp[mo,la,Vq]
   rfl
  ·rw[decide_eq_false c] at la
   rw[if_neg c]
   simp[mo,la,Vq]
   rfl
def dd_mnogate{n:Int}(h:¬ (0<=n/\n<us.length)):Hi [cD ps us,stD L R F,dM b n] S=.exc ⟨"NoGate",none⟩ S:=by
 have cg:=Gj7 (ps:=ps) (us:=us) (n:=n) (S:=S)
 rw[if_neg h] at cg
 have cg:=Qw cg Gd9.1
 have wl:=Gow (b:=b) (S:=S)
 have wf:=Gf3 (b:=b) (S:=S)
 have cm:Qs [cD ps us,stD L R F,dM b n] S=.exc ⟨"NoGate",none⟩ S:=by
  refine(Go (m:=6) (b:=Jn)).trans ?_
  show fin (Jn [some (cD ps us),some (stD L R F),some (dM b n),none,none,none] S)=_
  unfold Jn
  refine(Ge (ρ':=[some (cD ps us),some (stD L R F),some (dM b n),some (wd b),some (.int n),none]) (S':=S) rfl).trans ?_
  exact Ki (ρ':=[some (cD ps us),some (stD L R F),some (dM b n),some (wd b),some (.int n),none]) (by simp[cg])
 have gx:=Qw cm Gd9.1
 refine(Go (m:=8) (b:=Gz)).trans ?_
 show fin (Gz [some (cD ps us),some (stD L R F),some (dM b n),none,none,none,none,none] S)=_
 unfold Gz
 refine(Ge (ρ':=[some (cD ps us),some (stD L R F),some (dM b n),some (wd b),some (.int n),none,none,none]) (S':=S) rfl).trans ?_
 refine(Ge (ρ':=[some (cD ps us),some (stD L R F),some (dM b n),some (wd b),some (.int n),none,none,none]) (S':=S) (by simp[wl])).trans ?_
 refine(Ge (ρ':=[some (cD ps us),some (stD L R F),some (dM b n),some (wd b),some (.int n),none,none,none]) (S':=S) (by simp[wf])).trans ?_
 exact Ki (ρ':=[some (cD ps us),some (stD L R F),some (dM b n),some (wd b),some (.int n),none,none,none]) (by simp[gx])
end
noncomputable def pn:Pl->Str
 | .e=>"end"
 | .c=>"chamber"
 | .p _ _ _ _=>"pound"
noncomputable def isP:Pl->Bool
 | .p _ _ _ _=>true
 | _=>false
section
variable{ps:List Pl}{us:List Bool}{L R F:List Int}{S:Sto}
def pl0:DL.getD p.toD (.int 0) S=.ok (.str (pn p)) S:=by cases p<;>exact Je (Ha (by decide) rfl)
def Ghf:neD (.str (pn p)) (.str "pound") S=.ok (.bl (!isP p)) S:=by
 cases p
 ·exact Ks s2
 ·exact Ks s4
 ·exact Ks s6
def Gkc:neD (.str (pn p)) (.str "end") S=.ok (.bl (!p.isE)) S:=by
 cases p
 ·exact Ks s7
 ·exact Ks s8
 ·exact Ks s9
noncomputable abbrev dL(w:Str)(n:Int):D:=.tup [.str w,.int n]
abbrev rd(ps:List Pl)(us:List Bool)(L R F:List Int)(w:Str)(n:Int)(q:Nat)(x8 x9:BC D):Lc:=[some (cD ps us),some (stD L R F),some (dL w n),some (.tup (ps.map Pl.toD)),some (.tup (us.map gd)),some (.str w),some (.int n),some (.lst q),x8,x9]
def Vp{i:Nat}{l:Int}(h:S[q]?=some ⟨false,M.map D.int⟩)(hl:M[i]?=some l):DL.getD (.lst q) (.int i) S=.ok (.int l) S:=Jr h (Ha (by omega) (by rw[AG,As,hl]; rfl))
def Vx{i:Nat}{l:Int}(h:S[q]?=some ⟨false,M.map D.int⟩)(hl:M[i]?=some l):Hm (.lst q) (.int i) (.int v) S=some (S.set q ⟨false,(M.set i v).map D.int⟩):=by
 have hi:i<M.length:=(Aa.mp hl).1
 rw[Gjx h (by omega) (by simp; omega),AG,List.map_set]
def Go0{l:Int}(hp:ps[k]?=some p)(hl:L[k]?=some l)(ok:p.ok)(hw:l<=wat p):∃ S',Hy [cD ps us,stD L R F,dL "feed" k] S=.ok (Wz k p l L R F).toD S'/\Ex S S':=by
 have hk:k<ps.length:=(Aa.mp hp).1
 have q0:(S++[(⟨false,L.map D.int⟩:Cell)])[S.length]?=some ⟨false,L.map D.int⟩:=Gs
 have x1:Ex S (S++[⟨false,L.map D.int⟩]):=Ex.app
 have key:∃ S',fin (sq (sif (tb (o2 eqD (vr 5) (cn (.str "feed")))) (sq (sif (to (tb (o2 ltD (vr 6) (cn (.int 0)))) (to (tb (o2 geD (vr 6) (b1 Gy (ac (vr 3) an)))) (tb (o2 neD (o2 DL.getD (o2 DL.getD (vr 3) (vr 6)) (cn (.int 0))) (cn (.str "pound")))))) (sret (cn (.str "nospring"))) DL.skip) (sq (sif (tb (o2 Gcs (o2 DL.getD (o2 DL.getD (vr 3) (vr 6)) (cn (.int 4))) (cn .non))) (sret (cn (.str "nospring"))) DL.skip) (sq (sif (tb (o2 eqD (o2 DL.getD (vr 7) (vr 6)) (o2 DL.getD (o2 DL.getD (vr 3) (vr 6)) (cn (.int 1))))) (sret (cn (.str "full"))) DL.skip) (sq (ss (o2 Gu (o2 DL.getD (vr 7) (vr 6)) (cn (.int 1))) (vr 7) (vr 6) Hm) (sret (tp (ac (tp (ac (b1 Kc (ac (vr 7) an)) (ac (o2 DL.getD (vr 1) (cn (.int 1))) (ac (o2 DL.getD (vr 1) (cn (.int 2))) an)))) (ac (o2 DL.getD (o2 DL.getD (vr 3) (vr 6)) (cn (.int 4))) (ac (cn (.int 0)) an))))))))) DL.skip) (fun _ _=>.bad) (rd ps us L R F "feed" k S.length none none) (S++[⟨false,L.map D.int⟩]))=.ok (Wz k p l L R F).toD S'/\Ex S S':=by
  have g1:=fun S=>Vo (ps:=ps) (S:=S) hp
  have h0:¬ ((k:Int)<0):=by omega
  have h1:¬ ((ps.length:Int)<=k):=by omega
  cases hP:isP p with
  | false=>
   refine⟨_,?_,x1⟩
   have e:(Wz k p l L R F).toD=.str "nospring":=by cases p with | p _ _ _ _=>cases hP | _=>rfl
   rw[e]
   have n:=fun S=>Ghf (p:=p) (S:=S)
   rw[hP] at n
   refine Hx ?_
   rw[Hw (S1:=S++[⟨false,L.map D.int⟩]) (by simp[Glu])]
   refine Gb0 ?_
   rw[Hw (S1:=S++[⟨false,L.map D.int⟩])]
   ·rfl
   ·simp[h0,h1,g1,pl0,n]
  | true=>
   cases p with
   | e=>cases hP
   | c=>cases hP
   | p br de ro pr=>
    have n:=fun S=>Ghf (p:=.p br de ro pr) (S:=S)
    have p4:=fun S=>Guc (br:=br) (de:=de) (ro:=ro) (pr:=pr) (S:=S)
    have p1:∀ S,DL.getD (Pl.toD (.p br de ro pr)) (.int 1) S=.ok (.int br) S:=fun S=>Je (Ha (by decide) rfl)
    have b1':∀ X,(sq (sif (to (tb (o2 ltD (vr 6) (cn (.int 0)))) (to (tb (o2 geD (vr 6) (b1 Gy (ac (vr 3) an)))) (tb (o2 neD (o2 DL.getD (o2 DL.getD (vr 3) (vr 6)) (cn (.int 0))) (cn (.str "pound")))))) (sret (cn (.str "nospring"))) DL.skip) X) (rd ps us L R F "feed" k S.length none none) (S++[⟨false,L.map D.int⟩])=X (rd ps us L R F "feed" k S.length none none) (S++[⟨false,L.map D.int⟩]):=fun X=>by
     refine Jf ?_
     rw[Hl (S1:=S++[⟨false,L.map D.int⟩])]
     ·rfl
     ·simp[h0,h1,g1,pl0,n,isP]
    obtain⟨_,_,_,_,_,_,hpr⟩:=id ok
    have hw:l<=br:=hw
    rcases hpr with rfl | ⟨i,rfl,_⟩
    ·refine⟨_,?_,x1⟩
     refine Hx ?_
     rw[Hw (S1:=S++[⟨false,L.map D.int⟩]) (by simp[Glu]),b1']
     refine Gb0 ?_
     rw[Hw (S1:=S++[⟨false,L.map D.int⟩])]
     ·rfl
     ·simp[g1,p4,Gcs]
    ·have b2':∀ X,(sq (sif (tb (o2 Gcs (o2 DL.getD (o2 DL.getD (vr 3) (vr 6)) (cn (.int 4))) (cn .non))) (sret (cn (.str "nospring"))) DL.skip) X) (rd ps us L R F "feed" k S.length none none) (S++[⟨false,L.map D.int⟩])=X (rd ps us L R F "feed" k S.length none none) (S++[⟨false,L.map D.int⟩]):=fun X=>by
      refine Jf ?_
      rw[Hl (S1:=S++[⟨false,L.map D.int⟩])]
      ·rfl
      ·simp[g1,p4,Gcs]
     have gl:=Vp q0 hl
     have t3:tb (o2 eqD (o2 DL.getD (vr 7) (vr 6)) (o2 DL.getD (o2 DL.getD (vr 3) (vr 6)) (cn (.int 1)))) (rd ps us L R F "feed" k S.length none none) (S++[⟨false,L.map D.int⟩])=.ok (decide (l=br)) (S++[⟨false,L.map D.int⟩]):=by
      simp[gl,g1,p1]
     by_cases c:l=br
     ·refine⟨_,?_,x1⟩
      rw[show Wz k (.p br de ro (.int i)) l L R F=.no "Full" from if_pos (by omega)]
      refine Hx ?_
      rw[Hw (S1:=S++[⟨false,L.map D.int⟩]) (by simp[Glu]),b1',b2']
      refine Gb0 ?_
      rw[decide_eq_true c] at t3
      rw[Hw t3]
      rfl
     ·have x2:Ex S ((S++[(⟨false,L.map D.int⟩:Cell)]).set S.length ⟨false,(L.set k (l+1)).map D.int⟩):=x1.setq (Ab _)
      refine⟨_,?_,x2⟩
      rw[show Wz k (.p br de ro (.int i)) l L R F=.yes (.tup [stD (L.set k (l+1)) R F,.int i,.int 0]) from if_neg (by omega)]
      refine Hx ?_
      rw[Hw (S1:=S++[⟨false,L.map D.int⟩]) (by simp[Glu]),b1',b2']
      rw[decide_eq_false c] at t3
      rw[Jf (ρ':=rd ps us L R F "feed" k S.length none none) (S1:=S++[⟨false,L.map D.int⟩]) (by rw[Hl t3]; rfl)]
      have st:=Vx (v:=l+1) q0 hl
      have q2:((S++[(⟨false,L.map D.int⟩:Cell)]).set S.length ⟨false,(L.set k (l+1)).map D.int⟩)[S.length]?=some ⟨false,(L.set k (l+1)).map D.int⟩:=Ah (by simp)
      rw[Jf (f:=ss (o2 Gu (o2 DL.getD (vr 7) (vr 6)) (cn (.int 1))) (vr 7) (vr 6) Hm) (ρ':=rd ps us L R F "feed" k S.length none none) (S1:=(S++[(⟨false,L.map D.int⟩:Cell)]).set S.length ⟨false,(L.set k (l+1)).map D.int⟩) (by simp[gl,st,-List.map_set])]
      have tu:=Gax q2
      generalize (S++[(⟨false,L.map D.int⟩:Cell)]).set S.length ⟨false,(L.set k (l+1)).map D.int⟩=S2 at tu ⊢
      simp[tu,st1,st2,g1,p4,-List.map_set]
      rfl
 obtain⟨S',e,x⟩:=key
 refine⟨S',?_,x⟩
 refine(Go (m:=10) (b:=He)).trans ?_
 show fin (He [some (cD ps us),some (stD L R F),some (dL "feed" k),none,none,none,none,none,none,none] S)=_
 unfold He
 refine(Ge (ρ':=[some (cD ps us),some (stD L R F),some (dL "feed" k),some (.tup (ps.map Pl.toD)),some (.tup (us.map gd)),none,none,none,none,none]) (S':=S) rfl).trans ?_
 refine(Ge (ρ':=[some (cD ps us),some (stD L R F),some (dL "feed" k),some (.tup (ps.map Pl.toD)),some (.tup (us.map gd)),some (.str "feed"),some (.int k),none,none,none]) (S':=S) rfl).trans ?_
 refine(Ge (ρ':=rd ps us L R F "feed" k S.length none none) (S':=S++[⟨false,L.map D.int⟩]) (by simp[st0,Gip])).trans ?_
 rw[Gby] at e ⊢
 split at e<;>first | exact e | (cases e)
end
section
variable{ps:List Pl}{us:List Bool}{L R F:List Int}{S:Sto}
def Hc7:neD (.str "let") (.str "let") S=.ok (.bl false) S:=Ks Gou
def Gcc{w:Str}{n:Int}{X:Sv}:fin ((sq (sa (vr 0) (gt (gcons (gn 3) (gcons (gn 4) gnil)) 2)) (sq (sa (vr 2) (gt (gcons (gn 5) (gcons (gn 6) gnil)) 2)) (sq (sa (b1 Qo (ac (o2 DL.getD (vr 1) (cn (.int 0))) an)) (gn 7)) X))) [some (cD ps us),some (stD L R F),some (dL w n),none,none,none,none,none,none,none] S)=fin (X (rd ps us L R F w n S.length none none) (S++[⟨false,L.map D.int⟩])):=by
 refine(Ge (ρ':=[some (cD ps us),some (stD L R F),some (dL w n),some (.tup (ps.map Pl.toD)),some (.tup (us.map gd)),none,none,none,none,none]) (S':=S) rfl).trans ?_
 refine(Ge (ρ':=[some (cD ps us),some (stD L R F),some (dL w n),some (.tup (ps.map Pl.toD)),some (.tup (us.map gd)),some (.str w),some (.int n),none,none,none]) (S':=S) rfl).trans ?_
 have e:sa (b1 Qo (ac (o2 DL.getD (vr 1) (cn (.int 0))) an)) (gn 7) [some (cD ps us),some (stD L R F),some (dL w n),some (.tup (ps.map Pl.toD)),some (.tup (us.map gd)),some (.str w),some (.int n),none,none,none] S=.nx (rd ps us L R F w n S.length none none) (S++[⟨false,L.map D.int⟩]):=by simp[st0,Gip]
 exact Ge e
def due_let_no{n:Int}(h:¬ (0<=n/\n<us.length)):∃ S',Hy [cD ps us,stD L R F,dL "let" n] S=.ok (Xp "NoGate") S'/\Ex S S':=by
 refine⟨S++[⟨false,L.map D.int⟩],?_,Ex.app⟩
 refine(Go (m:=10) (b:=He)).trans ?_
 show fin (He [some (cD ps us),some (stD L R F),some (dL "let" n),none,none,none,none,none,none,none] S)=_
 unfold He
 refine Gcc.trans ?_
 refine(Ge (ρ':=rd ps us L R F "let" n S.length none none) (S':=S++[⟨false,L.map D.int⟩]) (by rw[Hl (S1:=S++[⟨false,L.map D.int⟩]) (by simp[Hbl])]; rfl)).trans ?_
 refine Hx ?_
 rw[Hw (S1:=S++[⟨false,L.map D.int⟩])]
 ·rfl
 ·by_cases h1:n<0
  ·simp[h1]
  ·have h2:(us.length:Int)<=n:=by
    by_cases c:(us.length:Int)<=n
    ·exact c
    ·exact absurd ⟨by omega,by omega⟩ h
   simp[h1,h2]
def Hbn{i:Nat}{l:Int}{x9:BC D}{w:Str}{n:Int}(hq:S[q]?=some ⟨false,M.map D.int⟩)(hp:ps[i]?=some p)(hl:M[i]?=some l):
  sif (tb (o2 neD (o2 DL.getD (o2 DL.getD (vr 3) (vr 8)) (cn (.int 0))) (cn (.str "end")))) (sq (sif (tb (o2 eqD (o2 DL.getD (vr 7) (vr 8)) (cn (.int 0)))) (sret (cn (.str "dry"))) DL.skip) (ss (o2 Ql (o2 DL.getD (vr 7) (vr 8)) (cn (.int 1))) (vr 7) (vr 8) Hm)) DL.skip (rd ps us L R F w n q (some (.int i)) x9) S
   = if(!p.isE&&decide (l=0))=true then .rt (.str "dry") S else .nx (rd ps us L R F w n q (some (.int i)) x9) (if p.isE=true then S else S.set q ⟨false,(M.set i (l + -1)).map D.int⟩):=by
 have g1:=Vo (ps:=ps) (S:=S) hp
 have ne:=Gkc (p:=p) (S:=S)
 have gl:=Vp hq hl
 have st:=Vx (v:=l + -1) hq hl
 cases hE:p.isE
 ·rw[hE] at ne
  rw[Hw (S1:=S) (by simp[g1,pl0,ne])]
  by_cases c:l=0
  ·subst c
   rw[if_pos (by simp)]
   refine Gb0 ?_
   rw[Hw (S1:=S) (by simp[gl])]
   rfl
  ·rw[if_neg (by simp[c])]
   rw[Jf (ρ':=rd ps us L R F w n q (some (.int i)) x9) (S1:=S) (by rw[Hl (S1:=S) (by simp[gl,c])]; rfl)]
   rw[<- Int.sub_eq_add_neg] at st ⊢
   simp[gl,st,-List.map_set]
 ·rw[hE] at ne
  rw[Hl (S1:=S) (by simp[g1,pl0,ne]),if_neg (by simp)]
  rfl
def Hbo(hE:p.isE=false):∃ d,Gu p.toD (.tup [.int 1]) S=.ok d S/\DL.getD d (.int 1) S=.ok (.int (wat p)) S:=by
 cases p with
 | e=>cases hE
 | c=>exact⟨_,Gf0 (by simp),Je (Ha (by decide) rfl)⟩
 | p br de ro pr=>exact⟨_,Gf0 (by simp),Je (Ha (by decide) rfl)⟩
def Gss{i:Nat}{l:Int}{x8:BC D}{w:Str}{n:Int}(hq:S[q]?=some ⟨false,M.map D.int⟩)(hp:ps[i]?=some p)(hl:M[i]?=some l)(hw:l<=wat p):
  sif (tb (o2 neD (o2 DL.getD (o2 DL.getD (vr 3) (vr 9)) (cn (.int 0))) (cn (.str "end")))) (sq (sif (tb (o2 eqD (o2 DL.getD (vr 7) (vr 9)) (o2 DL.getD (o2 Gu (o2 DL.getD (vr 3) (vr 9)) (tp (ac (cn (.int 1)) an))) (cn (.int 1))))) (sret (cn (.str "full"))) DL.skip) (ss (o2 Gu (o2 DL.getD (vr 7) (vr 9)) (cn (.int 1))) (vr 7) (vr 9) Hm)) DL.skip (rd ps us L R F w n q x8 (some (.int i))) S
   = if(!p.isE&&decide (wat p<=l))=true then .rt (.str "full") S else .nx (rd ps us L R F w n q x8 (some (.int i))) (if p.isE=true then S else S.set q ⟨false,(M.set i (l+1)).map D.int⟩):=by
 have g1:=Vo (ps:=ps) (S:=S) hp
 have ne:=Gkc (p:=p) (S:=S)
 have gl:=Vp hq hl
 have st:=Vx (v:=l+1) hq hl
 cases hE:p.isE
 ·rw[hE] at ne
  obtain⟨d,a1,a2⟩:=Hbo (S:=S) hE
  have tst:tb (o2 eqD (o2 DL.getD (vr 7) (vr 9)) (o2 DL.getD (o2 Gu (o2 DL.getD (vr 3) (vr 9)) (tp (ac (cn (.int 1)) an))) (cn (.int 1)))) (rd ps us L R F w n q x8 (some (.int i))) S=.ok (decide (l=wat p)) S:=by
   simp[gl,g1,a1,a2]
  rw[Hw (S1:=S) (by simp[g1,pl0,ne])]
  by_cases c:l=wat p
  ·rw[if_pos (by simp; omega)]
   refine Gb0 ?_
   rw[decide_eq_true c] at tst
   rw[Hw tst]
   rfl
  ·rw[if_neg (by simp; omega)]
   rw[decide_eq_false c] at tst
   rw[Jf (ρ':=rd ps us L R F w n q x8 (some (.int i))) (S1:=S) (by rw[Hl tst]; rfl)]
   simp[gl,st,-List.map_set]
 ·rw[hE] at ne
  rw[Hl (S1:=S) (by simp[g1,pl0,ne]),if_neg (by simp)]
  rfl
def Gst(hu:us[k]?=some u)(h1:ps[hiI u k]?=some pH)(h2:ps[loI u k]?=some pL)(h3:L[hiI u k]?=some lH)(h4:L[loI u k]?=some lL)(hw:lL<=wat pL)(hk:k<=1000):
  ∃ S',Hy [cD ps us,stD L R F,dL "let" k] S=.ok (Glv u k pH pL lH lL L R F).toD S'/\Ex S S':=by
 have hk':k<us.length:=(Aa.mp hu).1
 have x1:Ex S (S++[⟨false,L.map D.int⟩]):=Ex.app
 have q0:(S++[(⟨false,L.map D.int⟩:Cell)])[S.length]?=some ⟨false,L.map D.int⟩:=Gs
 have hlen:S.length<(S++[(⟨false,L.map D.int⟩:Cell)]).length:=by simp
 generalize hS1:S++[(⟨false,L.map D.int⟩:Cell)]=S1 at x1 q0 hlen
 have mu:Jc (.int 2) (.int (k:Int)) S1=.ok (.int (2*(k:Int))) S1:=Ger (by decide) (by decide)
 have gg:=Gj5 (us:=us) (S:=S1) hu
 have gu:=Gj6 (u:=u) (S:=S1)
 have pre:Hy [cD ps us,stD L R F,dL "let" k] S=fin (sq (sif (tb (o2 neD (o2 DL.getD (o2 DL.getD (vr 3) (vr 8)) (cn (.int 0))) (cn (.str "end")))) (sq (sif (tb (o2 eqD (o2 DL.getD (vr 7) (vr 8)) (cn (.int 0)))) (sret (cn (.str "dry"))) DL.skip) (ss (o2 Ql (o2 DL.getD (vr 7) (vr 8)) (cn (.int 1))) (vr 7) (vr 8) Hm)) DL.skip) (sq (sif (tb (o2 neD (o2 DL.getD (o2 DL.getD (vr 3) (vr 9)) (cn (.int 0))) (cn (.str "end")))) (sq (sif (tb (o2 eqD (o2 DL.getD (vr 7) (vr 9)) (o2 DL.getD (o2 Gu (o2 DL.getD (vr 3) (vr 9)) (tp (ac (cn (.int 1)) an))) (cn (.int 1))))) (sret (cn (.str "full"))) DL.skip) (ss (o2 Gu (o2 DL.getD (vr 7) (vr 9)) (cn (.int 1))) (vr 7) (vr 9) Hm)) DL.skip) (sret (tp (ac (tp (ac (b1 Kc (ac (vr 7) an)) (ac (o2 DL.getD (vr 1) (cn (.int 1))) (ac (o2 DL.getD (vr 1) (cn (.int 2))) an)))) (ac (cn (.int 0)) (ac (cn (.int 0)) an)))))) (rd ps us L R F "let" k S.length (some (.int (hiI u k))) (some (.int (loI u k)))) S1):=by
  refine(Go (m:=10) (b:=He)).trans ?_
  show fin (He [some (cD ps us),some (stD L R F),some (dL "let" k),none,none,none,none,none,none,none] S)=_
  unfold He
  refine Gcc.trans ?_
  rw[hS1]
  refine(Ge (ρ':=rd ps us L R F "let" k S.length none none) (S':=S1) (by rw[Hl (S1:=S1) (by simp[Hbl])]; rfl)).trans ?_
  refine(Ge (ρ':=rd ps us L R F "let" k S.length none none) (S':=S1) ?_).trans ?_
  ·rw[Hl (S1:=S1)]
   ·rfl
   ·have a1:¬ ((k:Int)<0):=by omega
    have a2:¬ ((us.length:Int)<=k):=by omega
    simp[a1,a2]
  refine(Ge (ρ':=rd ps us L R F "let" k S.length (some (.int (hiI u k))) none) (S':=S1) ?_).trans ?_
  ·have e:(k:Int)+(if u=true then 1 else 0)=((hiI u k:Nat):Int):=by cases u<;>simp[hiI]
   simp[gg,gu,Ghb,e]
  refine(Ge (ρ':=rd ps us L R F "let" k S.length (some (.int (hiI u k))) (some (.int (loI u k)))) (S':=S1) ?_).trans ?_
  ·have e:2*(k:Int)+1-((hiI u k:Nat):Int)=((loI u k:Nat):Int):=by cases u<;>simp[hiI,loI]<;>omega
   simp[mu,e]
  exact Ge (ρ':=rd ps us L R F "let" k S.length (some (.int (hiI u k))) (some (.int (loI u k)))) (S':=S1) (by rw[Hl (S1:=S1) (by simp[Hc7])]; rfl)
 have a:=Hbn (us:=us) (L:=L) (R:=R) (F:=F) (x9:=some (.int (loI u k))) (w:="let") (n:=k) q0 h1 h3
 unfold Glv
 by_cases c1:(!pH.isE&&decide (lH=0))=true
 ·rw[if_pos c1] at a ⊢
  exact⟨S1,by rw[pre]; exact Hx a,x1⟩
 ·rw[if_neg c1] at a ⊢
  have q2:(if pH.isE=true then S1 else S1.set S.length ⟨false,(L.set (hiI u k) (lH + -1)).map D.int⟩)[S.length]?=some ⟨false,(adw pH L (hiI u k) lH (-1)).map D.int⟩:=by
   unfold adw
   split
   ·exact q0
   ·exact Ah hlen
  have x2:Ex S (if pH.isE=true then S1 else S1.set S.length ⟨false,(L.set (hiI u k) (lH + -1)).map D.int⟩):=by
   split
   ·exact x1
   ·exact x1.setq (Ab _)
  generalize (if pH.isE=true then S1 else S1.set S.length ⟨false,(L.set (hiI u k) (lH + -1)).map D.int⟩)=S2 at a q2 x2
  have hlen2:S.length<S2.length:=(Aa.mp q2).1
  have b:=Gss (us:=us) (L:=L) (R:=R) (F:=F) (x8:=some (.int (hiI u k))) (w:="let") (n:=k) q2 h2 ((Got Gub).trans h4) hw
  by_cases c2:(!pL.isE&&decide (wat pL<=lL))=true
  ·rw[if_pos c2] at b ⊢
   exact⟨S2,by rw[pre]; exact(Ge a).trans (Hx b),x2⟩
  ·rw[if_neg c2] at b ⊢
   have q3:(if pL.isE=true then S2 else S2.set S.length ⟨false,((adw pH L (hiI u k) lH (-1)).set (loI u k) (lL+1)).map D.int⟩)[S.length]?=some ⟨false,(adw pL (adw pH L (hiI u k) lH (-1)) (loI u k) lL 1).map D.int⟩:=by
    rw[show adw pL (adw pH L (hiI u k) lH (-1)) (loI u k) lL 1=if pL.isE=true then adw pH L (hiI u k) lH (-1) else(adw pH L (hiI u k) lH (-1)).set (loI u k) (lL+1) from rfl]
    split
    ·exact q2
    ·exact Ah hlen2
   have x3:Ex S (if pL.isE=true then S2 else S2.set S.length ⟨false,((adw pH L (hiI u k) lH (-1)).set (loI u k) (lL+1)).map D.int⟩):=by
    split
    ·exact x2
    ·exact x2.setq (Ab _)
   generalize (if pL.isE=true then S2 else S2.set S.length ⟨false,((adw pH L (hiI u k) lH (-1)).set (loI u k) (lL+1)).map D.int⟩)=S3 at b q3 x3
   refine⟨S3,?_,x3⟩
   rw[pre]
   refine(Ge a).trans ((Ge b).trans ?_)
   have tu:=Gax q3
   simp[tu,st1,st2,-List.map_set]
   rfl
end
def Gir:eqD (.str (pn p)) (.str "chamber") S=.ok (.bl p.isC) S:=by
 cases p
 ·exact s1
 ·exact s3
 ·exact s5
def Go1:eqD (.str (pn p)) (.str "pound") S=.ok (.bl (isP p)) S:=by
 cases p
 ·exact s2
 ·exact s4
 ·exact s6
def Gkd{g:Tg}{b:Sv}{ρ1:Lc}{y:D}(h:nxt k S=some d)(h2:g d ρ=some ρ1)(h3:b ρ1 S=.rt y S2):Kb nxt g b (n+1) k ρ S=.rt y S2:=by
 conv=>lhs; unfold Kb
 simp only[h,h2,h3]
noncomputable def kk(b:Bool):Int:=if b=true then 1 else 2
noncomputable def Xv(b:Bool)(n:Nat):Nat:=if b=true then n+2 else n+3
section
variable{q:Nat}{A B C:List D}{S:Sto}
def rw0(h:Rw S q (q+1) (q+2) (q+3) A B C):DL.getD (.lst q) (.int 0) S=.ok (.lst (q+1)) S:=Jr h.q0 rfl
def rw1(h:Rw S q (q+1) (q+2) (q+3) A B C):DL.getD (.lst q) (.int 1) S=.ok (.lst (q+2)) S:=Jr h.q0 rfl
def rw2(h:Rw S q (q+1) (q+2) (q+3) A B C):DL.getD (.lst q) (.int 2) S=.ok (.lst (q+3)) S:=Jr h.q0 rfl
def rwk(h:Rw S q (q+1) (q+2) (q+3) A B C):DL.getD (.lst q) (.int (kk b)) S=.ok (.lst (Xv b q)) S:=by
 cases b
 ·exact rw2 h
 ·exact rw1 h
end
abbrev RwI(S:Sto)(q:Nat)(L R F:List Int):Prop:=Rw S q (q+1) (q+2) (q+3) (L.map D.int) (R.map D.int) (F.map D.int)
def Go2{R F:List Int}(h:RwI S q L R F):S[Xv b q]?=some ⟨false,(sel b R F).map D.int⟩:=by
 cases b
 ·exact h.q3
 ·exact h.q2
def Go3{R F:List Int}(h:RwI S q L R F):RwI (S.set (Xv b q) ⟨false,M.map D.int⟩) q L (if b=true then M else R) (if b=true then F else M):=by
 have lt:∀ {i:Nat} {c:Cell},S[i]?=some c->i<S.length:=fun e=>(Aa.mp e).1
 cases b
 ·have e:Xv false q=q+3:=rfl
  rw[e]
  refine⟨?_,?_,?_,?_⟩
  ·rw[Ad (by omega)]; exact h.q0
  ·rw[Ad (by omega)]; exact h.q1
  ·rw[Ad (by omega)]; exact h.q2
  ·rw[Ah (lt h.q3)]; rfl
 ·have e:Xv true q=q+2:=rfl
  rw[e]
  refine⟨?_,?_,?_,?_⟩
  ·rw[Ad (by omega)]; exact h.q0
  ·rw[Ad (by omega)]; exact h.q1
  ·rw[Ah (lt h.q2)]; rfl
  ·rw[Ad (by omega)]; exact h.q3
abbrev rg(ps:List Pl)(us:List Bool)(L R F:List Int)(b:Bool)(k hi lo q:Nat)(x12 x13 x14:BC D):Lc:=[some (cD ps us),some (stD L R F),some (dM b k),some (.int hi),some (.int lo),some (.tup (ps.map Pl.toD)),some (wd b),some (.int k),some (.lst q),some (.int (kk b)),some (.int (stI b k)),some (.int (glI b k)),x12,x13,x14]
section
variable{ps:List Pl}{us:List Bool}{L R F:List Int}{S:Sto}{b:Bool}{k:Nat}{u:Bool}{pH pL pG:Pl}{lH lL a g r1 f1:Int}
def Go4{i:Nat}{l:Int}{hi lo:Nat}{x12 x14:BC D}(h:RwI S q L R F)(hp:ps[i]?=some p)(hl:L[i]?=some l):Jd (rg ps us L R F b k hi lo q x12 (some (.int i)) x14) S=if shal p l=true then .rt (.str "shallow") S else .nx (rg ps us L R F b k hi lo q x12 (some (.int i)) x14) S:=by
 have g1:=Vo (S:=S) hp
 have g2:=rw0 h
 have g3:=Vp h.q1 hl
 have e:=Go1 (p:=p) (S:=S)
 have t:ta (tb (o2 eqD (o2 DL.getD (o2 DL.getD (vr 5) (vr 13)) (cn (.int 0))) (cn (.str "pound")))) (tb (o2 ltD (o2 DL.getD (o2 DL.getD (vr 8) (cn (.int 0))) (vr 13)) (o2 DL.getD (o2 DL.getD (vr 5) (vr 13)) (cn (.int 2))))) (rg ps us L R F b k hi lo q x12 (some (.int i)) x14) S=.ok (shal p l) S:=by
  cases p with
  | e=>simp[g1,pl0,e,isP,shal]
  | c=>simp[g1,pl0,e,isP,shal]
  | p br de ro pr=>
   have gd:DL.getD (Pl.toD (.p br de ro pr)) (.int 2) S=.ok (.int de) S:=Je (Ha (by decide) rfl)
   simp[g1,pl0,e,isP,shal,g2,g3,gd]
 unfold Jd
 cases c:shal p l
 ·rw[c] at t
  rw[Hl t]
  rfl
 ·rw[c] at t
  rw[Hw t]
  rfl
def Gyj{hi lo:Nat}{x13 x14:BC D}{X:Sv}(hG:ps[glI b k]?=some pG):sq (sif (ta (tb (o2 eqD (o2 DL.getD (o2 DL.getD (vr 5) (vr 11)) (cn (.int 0))) (cn (.str "chamber")))) (tb (o2 gtD (vr 12) (cn (.int 0))))) (sret (cn (.str "noroom"))) DL.skip) (sq (sif (ta (tb (o2 eqD (o2 DL.getD (o2 DL.getD (vr 5) (vr 11)) (cn (.int 0))) (cn (.str "pound")))) (tb (o2 geD (vr 12) (o2 DL.getD (o2 DL.getD (vr 5) (vr 11)) (cn (.int 3)))))) (sret (cn (.str "noroom"))) DL.skip) X) (rg ps us L R F b k hi lo q (some (.int (r1+f1))) x13 x14) S
  = if hol pG (r1+f1+1)=false then .rt (.str "noroom") S else X (rg ps us L R F b k hi lo q (some (.int (r1+f1))) x13 x14) S:=by
 have g1:=Vo (S:=S) hG
 have e1:=Gir (p:=pG) (S:=S)
 have e2:=Go1 (p:=pG) (S:=S)
 cases pG with
 | e=>
  rw[if_neg (by simp[hol])]
  rw[Jf (ρ':=rg ps us L R F b k hi lo q (some (.int (r1+f1))) x13 x14) (S1:=S) (by rw[Hl (S1:=S) (by simp[g1,pl0,e1,Pl.isC])]; rfl),Jf (ρ':=rg ps us L R F b k hi lo q (some (.int (r1+f1))) x13 x14) (S1:=S) (by rw[Hl (S1:=S) (by simp[g1,pl0,e2,isP])]; rfl)]
 | c=>
  by_cases c:0<r1+f1
  ·rw[if_pos (by simp[hol]; omega)]
   refine Gb0 ?_
   rw[Hw (S1:=S) (by simp[g1,pl0,e1,Pl.isC,c])]
   rfl
  ·rw[if_neg (by simp[hol]; omega)]
   rw[Jf (ρ':=rg ps us L R F b k hi lo q (some (.int (r1+f1))) x13 x14) (S1:=S) (by rw[Hl (S1:=S) (by simp[g1,pl0,e1,Pl.isC]; omega)]; rfl),Jf (ρ':=rg ps us L R F b k hi lo q (some (.int (r1+f1))) x13 x14) (S1:=S) (by rw[Hl (S1:=S) (by simp[g1,pl0,e2,isP])]; rfl)]
 | p br de ro pr=>
  have g3:DL.getD (Pl.toD (.p br de ro pr)) (.int 3) S=.ok (.int ro) S:=Je (Ha (by decide) rfl)
  rw[Jf (ρ':=rg ps us L R F b k hi lo q (some (.int (r1+f1))) x13 x14) (S1:=S) (by rw[Hl (S1:=S) (by simp[g1,pl0,e1,Pl.isC])]; rfl)]
  by_cases c:ro<=r1+f1
  ·rw[if_pos (by simp[hol]; omega)]
   refine Gb0 ?_
   rw[Hw (S1:=S) (by simp[g1,pl0,e2,isP,g3,c])]
   rfl
  ·rw[if_neg (by simp[hol]; omega)]
   rw[Jf (ρ':=rg ps us L R F b k hi lo q (some (.int (r1+f1))) x13 x14) (S1:=S) (by rw[Hl (S1:=S) (by simp[g1,pl0,e2,isP,g3]; omega)]; rfl)]
def Gsu(v:Mv ps us L R F b k u pH pL pG lH lL a g r1 f1)(hc:pH.isC=true->0<=lH/\lH<=1):∃ S',Uq [cD ps us,stD L R F,dM b k,.int (hiI u k),.int (loI u k)] S=.ok (Gdk ps.length b k pH pL pG lH lL a g r1 f1 L R F).toD S'/\Ex S S':=by
 obtain⟨S1,e1,w1,x1⟩:=Gos (A:=L.map D.int) (B:=R.map D.int) (C:=F.map D.int) (f:=vr 1) (ρ:=[some (cD ps us),some (stD L R F),some (dM b k),some (.int (hiI u k)),some (.int (loI u k)),some (.tup (ps.map Pl.toD)),some (wd b),some (.int k),none,none,none,none,none,none,none]) (S:=S) rfl
 have w1:RwI S1 S.length L R F:=w1
 have x2:Ex S1 (S1++[⟨false,[.int 2,.int 1]⟩]):=Ex.app
 have gk:∀ c:Bool,DL.getD (.lst S1.length) (.int (if c=true then 1 else 0)) (S1++[⟨false,[.int 2,.int 1]⟩])=.ok (.int (kk c)) (S1++[⟨false,[.int 2,.int 1]⟩]):=fun c=>Jr Gs (by cases c<;>rfl)
 have gb:=gk b
 have wr:=fun S=>Yw (b:=b) (S:=S)
 have wl:=fun S=>Gyh (b:=b) (S:=S)
 have pre:Uq [cD ps us,stD L R F,dM b k,.int (hiI u k),.int (loI u k)] S=fin ((sq (sif (tb (o2 eqD (o2 DL.getD (o2 DL.getD (vr 8) (vr 9)) (vr 10)) (cn (.int 0)))) (sret (cn (.str "nobarge"))) DL.skip) (sq (sa (o2 Gu (o2 DL.getD (o2 DL.getD (vr 8) (cn (.int 1))) (vr 11)) (o2 DL.getD (o2 DL.getD (vr 8) (cn (.int 2))) (vr 11))) (gn 12)) (sq (sif (ta (tb (o2 eqD (o2 DL.getD (o2 DL.getD (vr 5) (vr 11)) (cn (.int 0))) (cn (.str "chamber")))) (tb (o2 gtD (vr 12) (cn (.int 0))))) (sret (cn (.str "noroom"))) DL.skip) (sq (sif (ta (tb (o2 eqD (o2 DL.getD (o2 DL.getD (vr 5) (vr 11)) (cn (.int 0))) (cn (.str "pound")))) (tb (o2 geD (vr 12) (o2 DL.getD (o2 DL.getD (vr 5) (vr 11)) (cn (.int 3)))))) (sret (cn (.str "noroom"))) DL.skip) (sq (sif (ta (tb (o2 eqD (o2 DL.getD (o2 DL.getD (vr 5) (vr 3)) (cn (.int 0))) (cn (.str "chamber")))) (tb (o2 gtD (o2 DL.getD (o2 DL.getD (vr 8) (cn (.int 0))) (vr 3)) (cn (.int 0))))) (sret (cn (.str "uneven"))) DL.skip) (sq (sif (ta (tb (o2 eqD (o2 DL.getD (o2 DL.getD (vr 5) (vr 4)) (cn (.int 0))) (cn (.str "chamber")))) (tb (o2 eqD (o2 DL.getD (o2 DL.getD (vr 8) (cn (.int 0))) (vr 4)) (cn (.int 0))))) (sret (cn (.str "uneven"))) DL.skip) (sq (sfor (isrc (ls (ac (vr 3) (ac (vr 4) an)))) (gn 13) Jd) (sq (ss (o2 Ql (o2 DL.getD (o2 DL.getD (vr 8) (vr 9)) (vr 10)) (cn (.int 1))) (o2 DL.getD (vr 8) (vr 9)) (vr 10) Hm) (sq (ss (o2 Gu (o2 DL.getD (o2 DL.getD (vr 8) (vr 9)) (vr 11)) (cn (.int 1))) (o2 DL.getD (vr 8) (vr 9)) (vr 11) Hm) (sq (sa (b1 Gaa (ac (o2 eqD (vr 11) (o2 DL.getD (ls (ac (cn (.int 0)) (ac (o2 Ql (b1 Gy (ac (vr 5) an)) (cn (.int 1))) an))) (b1 Gaa (ac (o2 eqD (vr 6) (cn (.str "right"))) an)))) an)) (gn 14)) (sret (tp (ac (tp (ac (b1 Kc (ac (o2 DL.getD (vr 8) (cn (.int 0))) an)) (ac (b1 Kc (ac (o2 DL.getD (vr 8) (cn (.int 1))) an)) (ac (b1 Kc (ac (o2 DL.getD (vr 8) (cn (.int 2))) an)) an)))) (ac (cn (.int 0)) (ac (vr 14) an))))))))))))))) (rg ps us L R F b k (hiI u k) (loI u k) S.length none none none) (S1++[⟨false,[.int 2,.int 1]⟩])):=by
  refine(Go (m:=15) (b:=Up)).trans ?_
  show fin (Up [some (cD ps us),some (stD L R F),some (dM b k),some (.int (hiI u k)),some (.int (loI u k)),none,none,none,none,none,none,none,none,none,none] S)=_
  unfold Up
  refine(Ge (ρ':=[some (cD ps us),some (stD L R F),some (dM b k),some (.int (hiI u k)),some (.int (loI u k)),some (.tup (ps.map Pl.toD)),none,none,none,none,none,none,none,none,none]) (S':=S) (by simp[cd0])).trans ?_
  refine(Ge (ρ':=[some (cD ps us),some (stD L R F),some (dM b k),some (.int (hiI u k)),some (.int (loI u k)),some (.tup (ps.map Pl.toD)),some (wd b),some (.int k),none,none,none,none,none,none,none]) (S':=S) rfl).trans ?_
  refine(Ge (ρ':=[some (cD ps us),some (stD L R F),some (dM b k),some (.int (hiI u k)),some (.int (loI u k)),some (.tup (ps.map Pl.toD)),some (wd b),some (.int k),some (.lst S.length),none,none,none,none,none,none]) (S':=S1) (by rw[Uz,e1]; rfl)).trans ?_
  refine(Ge (ρ':=[some (cD ps us),some (stD L R F),some (dM b k),some (.int (hiI u k)),some (.int (loI u k)),some (.tup (ps.map Pl.toD)),some (wd b),some (.int k),some (.lst S.length),some (.int (kk b)),none,none,none,none,none]) (S':=S1++[⟨false,[.int 2,.int 1]⟩]) (by simp[wr,Ghb,gb])).trans ?_
  refine(Ge (ρ':=[some (cD ps us),some (stD L R F),some (dM b k),some (.int (hiI u k)),some (.int (loI u k)),some (.tup (ps.map Pl.toD)),some (wd b),some (.int k),some (.lst S.length),some (.int (kk b)),some (.int (stI b k)),none,none,none,none]) (S':=S1++[⟨false,[.int 2,.int 1]⟩]) ?_).trans ?_
  ·have e:(k:Int)+(if(!b)=true then 1 else 0)=((stI b k:Nat):Int):=by cases b<;>simp[stI]
   rw[Uz]
   simp only[Qx,Xu,Gjw,Gdh,Gdg,Yr,AE,AL,Gx,wl,Ghb,Gx5,e,Hq,Hbg]
   rfl
  refine Ge (ρ':=rg ps us L R F b k (hiI u k) (loI u k) S.length none none none) (S':=S1++[⟨false,[.int 2,.int 1]⟩]) ?_
  have mu:Jc (.int 2) (.int (k:Int)) (S1++[⟨false,[.int 2,.int 1]⟩])=.ok (.int (2*(k:Int))) (S1++[⟨false,[.int 2,.int 1]⟩]):=Ger (by decide) (by decide)
  have e:2*(k:Int)+1-((stI b k:Nat):Int)=((glI b k:Nat):Int):=by cases b<;>simp[stI,glI]<;>omega
  simp[mu,e]
 rw[pre]
 clear pre
 have w2:RwI (S1++[⟨false,[.int 2,.int 1]⟩]) S.length L R F:=w1.ex x2
 have x12:=x1.trans x2
 generalize S1++[(⟨false,[.int 2,.int 1]⟩:Cell)]=S2 at w2 x12
 have gr:=rwk (b:=b) w2
 have ga:=Vp (Go2 (b:=b) w2) v.ha
 unfold Gdk Ghe
 by_cases c1:a=0
 ·rw[if_pos c1]
  subst c1
  refine⟨S2,Hx ?_,x12⟩
  rw[Hw (S1:=S2) (by simp[gr,ga])]
  rfl
 rw[if_neg c1]
 have g1:=rw1 w2
 have g2:=rw2 w2
 have g0:=rw0 w2
 have gr1:=Vp w2.q2 v.hr
 have gf1:=Vp w2.q3 v.hf
 have rt:=fun X:Sv=>Gyj (X:=X) (us:=us) (L:=L) (R:=R) (F:=F) (S:=S2) (r1:=r1) (f1:=f1) (hi:=hiI u k) (lo:=loI u k) (q:=S.length) (x13:=none) (x14:=none) v.hG
 have hd:∀ X:Sv,fin (sq (sif (tb (o2 eqD (o2 DL.getD (o2 DL.getD (vr 8) (vr 9)) (vr 10)) (cn (.int 0)))) (sret (cn (.str "nobarge"))) DL.skip) (sq (sa (o2 Gu (o2 DL.getD (o2 DL.getD (vr 8) (cn (.int 1))) (vr 11)) (o2 DL.getD (o2 DL.getD (vr 8) (cn (.int 2))) (vr 11))) (gn 12)) X) (rg ps us L R F b k (hiI u k) (loI u k) S.length none none none) S2)=fin (X (rg ps us L R F b k (hiI u k) (loI u k) S.length (some (.int (r1+f1))) none none) S2):=fun X=>by
  refine(Ge (ρ':=rg ps us L R F b k (hiI u k) (loI u k) S.length none none none) (S':=S2) (by rw[Hl (S1:=S2) (by simp[gr,ga,c1])]; rfl)).trans ?_
  exact Ge (by simp[g1,g2,gr1,gf1])
 rw[hd,rt]
 by_cases c2:hol pG (r1+f1+1)=false
 ·rw[if_pos c2,if_pos c2]
  exact⟨S2,rfl,x12⟩
 rw[if_neg c2,if_neg c2]
 have gH:=Vo (S:=S2) v.h1
 have gL:=Vo (S:=S2) v.h2
 have lHg:=Vp w2.q1 v.h3
 have lLg:=Vp w2.q1 v.h4
 have eH:=Gir (p:=pH) (S:=S2)
 have eL:=Gir (p:=pL) (S:=S2)
 have t3:ta (tb (o2 eqD (o2 DL.getD (o2 DL.getD (vr 5) (vr 3)) (cn (.int 0))) (cn (.str "chamber")))) (tb (o2 gtD (o2 DL.getD (o2 DL.getD (vr 8) (cn (.int 0))) (vr 3)) (cn (.int 0)))) (rg ps us L R F b k (hiI u k) (loI u k) S.length (some (.int (r1+f1))) none none) S2=.ok (pH.isC&&decide (lH=1)) S2:=by
  cases z:pH.isC
  ·rw[z] at eH
   simp[gH,pl0,eH]
  ·rw[z] at eH
   have:=hc z
   have e:decide (0<lH)=decide (lH=1):=by simp only[decide_eq_decide]; omega
   simp[gH,pl0,eH,g0,lHg,e]
 by_cases c3:(pH.isC&&decide (lH=1))=true
 ·rw[if_pos c3]
  rw[c3] at t3
  exact⟨S2,Hx (by rw[Hw t3]; rfl),x12⟩
 rw[if_neg c3]
 rw[AR.mpr c3] at t3
 have t4:ta (tb (o2 eqD (o2 DL.getD (o2 DL.getD (vr 5) (vr 4)) (cn (.int 0))) (cn (.str "chamber")))) (tb (o2 eqD (o2 DL.getD (o2 DL.getD (vr 8) (cn (.int 0))) (vr 4)) (cn (.int 0)))) (rg ps us L R F b k (hiI u k) (loI u k) S.length (some (.int (r1+f1))) none none) S2=.ok (pL.isC&&decide (lL=0)) S2:=by
  cases z:pL.isC
  ·rw[z] at eL
   simp[gL,pl0,eL]
  ·rw[z] at eL
   simp[gL,pl0,eL,g0,lLg]
 by_cases c4:(pL.isC&&decide (lL=0))=true
 ·rw[if_pos c4]
  rw[c4] at t4
  refine⟨S2,(Ge (ρ':=rg ps us L R F b k (hiI u k) (loI u k) S.length (some (.int (r1+f1))) none none) (S':=S2) (by rw[Hl t3]; rfl)).trans (Hx (by rw[Hw t4]; rfl)),x12⟩
 rw[if_neg c4]
 rw[AR.mpr c4] at t4
 have hd2:∀ X:Sv,fin (sq (sif (ta (tb (o2 eqD (o2 DL.getD (o2 DL.getD (vr 5) (vr 3)) (cn (.int 0))) (cn (.str "chamber")))) (tb (o2 gtD (o2 DL.getD (o2 DL.getD (vr 8) (cn (.int 0))) (vr 3)) (cn (.int 0))))) (sret (cn (.str "uneven"))) DL.skip) (sq (sif (ta (tb (o2 eqD (o2 DL.getD (o2 DL.getD (vr 5) (vr 4)) (cn (.int 0))) (cn (.str "chamber")))) (tb (o2 eqD (o2 DL.getD (o2 DL.getD (vr 8) (cn (.int 0))) (vr 4)) (cn (.int 0))))) (sret (cn (.str "uneven"))) DL.skip) X) (rg ps us L R F b k (hiI u k) (loI u k) S.length (some (.int (r1+f1))) none none) S2)=fin (X (rg ps us L R F b k (hiI u k) (loI u k) S.length (some (.int (r1+f1))) none none) S2):=fun X=>by
  refine(Ge (ρ':=rg ps us L R F b k (hiI u k) (loI u k) S.length (some (.int (r1+f1))) none none) (S':=S2) (by rw[Hl t3]; rfl)).trans ?_
  exact Ge (ρ':=rg ps us L R F b k (hiI u k) (loI u k) S.length (some (.int (r1+f1))) none none) (S':=S2) (by rw[Hl t4]; rfl)
 rw[hd2]
 have x3:Ex S2 (S2++[⟨false,[.int (hiI u k),.int (loI u k)]⟩]):=Ex.app
 have el:ls (ac (vr 3) (ac (vr 4) an)) (rg ps us L R F b k (hiI u k) (loI u k) S.length (some (.int (r1+f1))) none none) S2=.ok (.lst S2.length) (S2++[⟨false,[.int (hiI u k),.int (loI u k)]⟩]):=by simp
 have q3:(S2++[(⟨false,[.int (hiI u k),.int (loI u k)]⟩:Cell)])[S2.length]?=some ⟨false,[.int (hiI u k),.int (loI u k)]⟩:=Gs
 have w3:RwI (S2++[⟨false,[.int (hiI u k),.int (loI u k)]⟩]) S.length L R F:=w2.ex x3
 have x13:=x12.trans x3
 generalize S2++[(⟨false,[.int (hiI u k),.int (loI u k)]⟩:Cell)]=S3 at el q3 w3 x13
 have sf:sfor (isrc (ls (ac (vr 3) (ac (vr 4) an)))) (gn 13) Jd (rg ps us L R F b k (hiI u k) (loI u k) S.length (some (.int (r1+f1))) none none) S2=Kb (Wk S2.length 2).nxt (gn 13) Jd (1+1+1) 0 (rg ps us L R F b k (hiI u k) (loI u k) S.length (some (.int (r1+f1))) none none) S3:=by
  rw[Vh,Vw,el,Gx,Gbz q3,Hq]
  rfl
 have nx:∀ i,(Wk S2.length 2).nxt i S3=[D.int (hiI u k),D.int (loI u k)][i]?:=fun i=>by
  show(S3[S2.length]?).bind (fun c=>c.xs[i]?)=_
  rw[q3]; rfl
 have sh1:=Go4 (us:=us) (b:=b) (k:=k) (hi:=hiI u k) (lo:=loI u k) (x12:=some (.int (r1+f1))) (x14:=none) w3 v.h1 v.h3
 have sh2:=Go4 (us:=us) (b:=b) (k:=k) (hi:=hiI u k) (lo:=loI u k) (x12:=some (.int (r1+f1))) (x14:=none) w3 v.h2 v.h4
 by_cases c5:(shal pH lH||shal pL lL)=true
 ·rw[if_pos c5]
  refine⟨S3,Hx (sf.trans ?_),x13⟩
  cases c6:shal pH lH
  ·rw[c6] at sh1 c5
   have c7:shal pL lL=true:=by simpa using c5
   rw[if_pos c7] at sh2
   rw[Kx (nx 0) rfl (sh1.trans (if_neg An))]
   exact Gkd (nx 1) rfl sh2
  ·rw[if_pos c6] at sh1
   exact Gkd (nx 0) rfl sh1
 rw[if_neg c5]
 have c6:shal pH lH=false/\shal pL lL=false:=by simpa using c5
 rw[c6.1,if_neg An] at sh1
 rw[c6.2,if_neg An] at sh2
 have lp:Kb (Wk S2.length 2).nxt (gn 13) Jd (1+1+1) 0 (rg ps us L R F b k (hiI u k) (loI u k) S.length (some (.int (r1+f1))) none none) S3=.nx (rg ps us L R F b k (hiI u k) (loI u k) S.length (some (.int (r1+f1))) (some (.int (loI u k))) none) S3:=by
  rw[Kx (nx 0) rfl sh1,Kx (nx 1) rfl sh2,Gbi (nx 2)]
 have lrow:S.length<=Xv b S.length:=by cases b<;>simp[Xv]
 obtain⟨S4,e4,w4,q4s,x4⟩:∃ S4,ss (o2 Ql (o2 DL.getD (o2 DL.getD (vr 8) (vr 9)) (vr 10)) (cn (.int 1))) (o2 DL.getD (vr 8) (vr 9)) (vr 10) Hm (rg ps us L R F b k (hiI u k) (loI u k) S.length (some (.int (r1+f1))) (some (.int (loI u k))) none) S3=.nx (rg ps us L R F b k (hiI u k) (loI u k) S.length (some (.int (r1+f1))) (some (.int (loI u k))) none) S4/\RwI S4 S.length L (if b=true then(sel b R F).set (stI b k) (a + -1) else R) (if b=true then F else(sel b R F).set (stI b k) (a + -1))/\S4[Xv b S.length]?=some ⟨false,((sel b R F).set (stI b k) (a + -1)).map D.int⟩/\Ex S S4:=by
  have gr3:=rwk (b:=b) w3
  have q3s:=Go2 (b:=b) w3
  have ga3:=Vp q3s v.ha
  have st3:=Vx (v:=a-1) q3s v.ha
  rw[<- Int.sub_eq_add_neg]
  exact⟨S3.set (Xv b S.length) ⟨false,((sel b R F).set (stI b k) (a-1)).map D.int⟩,by simp[gr3,ga3,st3,-List.map_set],Go3 w3,Ah (Aa.mp q3s).1,x13.setq lrow⟩
 obtain⟨S5,e5,w5,x5⟩:∃ S5,ss (o2 Gu (o2 DL.getD (o2 DL.getD (vr 8) (vr 9)) (vr 11)) (cn (.int 1))) (o2 DL.getD (vr 8) (vr 9)) (vr 11) Hm (rg ps us L R F b k (hiI u k) (loI u k) S.length (some (.int (r1+f1))) (some (.int (loI u k))) none) S4=.nx (rg ps us L R F b k (hiI u k) (loI u k) S.length (some (.int (r1+f1))) (some (.int (loI u k))) none) S5/\RwI S5 S.length L (if b=true then Ky b R F k a g else R) (if b=true then F else Ky b R F k a g)/\Ex S S5:=by
  have gr4:=rwk (b:=b) w4
  have hg':((sel b R F).set (stI b k) (a + -1))[glI b k]?=some g:=(Ad Gox).trans v.hg
  have gg4:=Vp q4s hg'
  have st4:=Vx (v:=g+1) q4s hg'
  have w5:=Go3 (b:=b) (M:=Ky b R F k a g) w4
  refine⟨S4.set (Xv b S.length) ⟨false,(Ky b R F k a g).map D.int⟩,?_,by cases b<;>exact w5,x4.setq lrow⟩
  have st4:Hm (.lst (Xv b S.length)) (.int (glI b k)) (.int (g+1)) S4=some (S4.set (Xv b S.length) ⟨false,(Ky b R F k a g).map D.int⟩):=st4
  simp[gr4,gg4,st4]
 have x6:Ex S5 (S5++[⟨false,[.int 0,.int ((ps.length:Int)-1)]⟩]):=Ex.app
 have w6:RwI (S5++[⟨false,[.int 0,.int ((ps.length:Int)-1)]⟩]) S.length L (if b=true then Ky b R F k a g else R) (if b=true then F else Ky b R F k a g):=w5.ex x6
 have gv:∀ c:Bool,DL.getD (.lst S5.length) (.int (if c=true then 1 else 0)) (S5++[⟨false,[.int 0,.int ((ps.length:Int)-1)]⟩])=.ok (.int (if c=true then(ps.length:Int)-1 else 0)) (S5++[⟨false,[.int 0,.int ((ps.length:Int)-1)]⟩]):=fun c=>Jr Gs (by cases c<;>rfl)
 have gvb:=gv b
 have e6:sa (b1 Gaa (ac (o2 eqD (vr 11) (o2 DL.getD (ls (ac (cn (.int 0)) (ac (o2 Ql (b1 Gy (ac (vr 5) an)) (cn (.int 1))) an))) (b1 Gaa (ac (o2 eqD (vr 6) (cn (.str "right"))) an)))) an)) (gn 14) (rg ps us L R F b k (hiI u k) (loI u k) S.length (some (.int (r1+f1))) (some (.int (loI u k))) none) S5=.nx (rg ps us L R F b k (hiI u k) (loI u k) S.length (some (.int (r1+f1))) (some (.int (loI u k))) (some (.int (if(glI b k:Int)=(if b=true then(ps.length:Int)-1 else 0) then 1 else 0)))) (S5++[⟨false,[.int 0,.int ((ps.length:Int)-1)]⟩]):=by
  simp[wr,Ghb,gvb]
 generalize S5++[(⟨false,[.int 0,.int ((ps.length:Int)-1)]⟩:Cell)]=S6 at x6 w6 e6
 refine⟨S6,?_,x5.trans x6⟩
 refine(Ge (sf.trans lp)).trans ((Ge e4).trans ((Ge e5).trans ((Ge e6).trans ?_)))
 have r0:=rw0 w6
 have r1':=rw1 w6
 have r2':=rw2 w6
 have u0:=Gax w6.q1
 have u1:=Gax w6.q2
 have u2:=Gax w6.q3
 simp only[Gfu,Hbc,Gdh,Gdg,Gjw,Qx,Xu,Yr,AE,AL,Gx,r0,r1',r2',u0,u1,u2,AZ,Bo]
 rfl
def Gyk:neD (wd b) (.str "let") S=.ok (.bl true) S:=Ks Gow
noncomputable abbrev wS(b:Bool):Str:=if b=true then "right" else "left"
def due_mno{n:Int}(h:¬ (0<=n/\n<us.length)):∃ S',Hy [cD ps us,stD L R F,dM b n] S=.ok (Xp "NoGate") S'/\Ex S S':=by
 refine⟨S++[⟨false,L.map D.int⟩],?_,Ex.app⟩
 refine(Go (m:=10) (b:=He)).trans ?_
 show fin (He [some (cD ps us),some (stD L R F),some (dL (wS b) n),none,none,none,none,none,none,none] S)=_
 unfold He
 refine Gcc.trans ?_
 have wf:∀ S,eqD (.str (wS b)) (.str "feed") S=.ok (.bl false) S:=fun S=>Gf3 (b:=b)
 refine(Ge (ρ':=rd ps us L R F (wS b) n S.length none none) (S':=S++[⟨false,L.map D.int⟩]) (by rw[Hl (S1:=S++[⟨false,L.map D.int⟩]) (by simp only[Geq,Qx,Xu,Yr,AE,AL,Gx,wf])]; rfl)).trans ?_
 refine Hx ?_
 rw[Hw (S1:=S++[⟨false,L.map D.int⟩])]
 ·rfl
 ·by_cases h1:n<0
  ·simp[h1]
  ·have h2:(us.length:Int)<=n:=by
    by_cases c:(us.length:Int)<=n
    ·exact c
    ·exact absurd ⟨by omega,by omega⟩ h
   simp[h1,h2]
def Go5(v:Mv ps us L R F b k u pH pL pG lH lL a g r1 f1)(hc:pH.isC=true->0<=lH/\lH<=1):∃ S',Hy [cD ps us,stD L R F,dM b k] S=.ok (Gdk ps.length b k pH pL pG lH lL a g r1 f1 L R F).toD S'/\Ex S S':=by
 have hk':k<us.length:=(Aa.mp v.hu).1
 have x1:Ex S (S++[⟨false,L.map D.int⟩]):=Ex.app
 obtain⟨S2,e2,x2⟩:=Gsu (S:=S++[⟨false,L.map D.int⟩]) v hc
 refine⟨S2,?_,x1.trans x2⟩
 have mu:Jc (.int 2) (.int (k:Int)) (S++[⟨false,L.map D.int⟩])=.ok (.int (2*(k:Int))) (S++[⟨false,L.map D.int⟩]):=Ger (by decide) (by decide)
 have gg:=Gj5 (us:=us) (S:=S++[⟨false,L.map D.int⟩]) v.hu
 have gu:=Gj6 (u:=u) (S:=S++[⟨false,L.map D.int⟩])
 have wf:∀ S,eqD (.str (wS b)) (.str "feed") S=.ok (.bl false) S:=fun S=>Gf3 (b:=b)
 have nl:∀ S,neD (.str (wS b)) (.str "let") S=.ok (.bl true) S:=fun S=>Gyk (b:=b)
 refine(Go (m:=10) (b:=He)).trans ?_
 show fin (He [some (cD ps us),some (stD L R F),some (dL (wS b) k),none,none,none,none,none,none,none] S)=_
 unfold He
 refine Gcc.trans ?_
 generalize S++[(⟨false,L.map D.int⟩:Cell)]=S1 at *
 refine(Ge (ρ':=rd ps us L R F (wS b) k S.length none none) (S':=S1) (by rw[Hl (S1:=S1) (by simp only[Geq,Qx,Xu,Yr,AE,AL,Gx,wf])]; rfl)).trans ?_
 refine(Ge (ρ':=rd ps us L R F (wS b) k S.length none none) (S':=S1) ?_).trans ?_
 ·rw[Hl (S1:=S1)]
  ·rfl
  ·have a1:¬ ((k:Int)<0):=by omega
   have a2:¬ ((us.length:Int)<=k):=by omega
   simp[a1,a2]
 refine(Ge (ρ':=rd ps us L R F (wS b) k S.length (some (.int (hiI u k))) none) (S':=S1) ?_).trans ?_
 ·have e:(k:Int)+(if u=true then 1 else 0)=((hiI u k:Nat):Int):=by cases u<;>simp[hiI]
  simp[gg,gu,Ghb,e]
 refine(Ge (ρ':=rd ps us L R F (wS b) k S.length (some (.int (hiI u k))) (some (.int (loI u k)))) (S':=S1) ?_).trans ?_
 ·have e:2*(k:Int)+1-((hiI u k:Nat):Int)=((loI u k:Nat):Int):=by cases u<;>simp[hiI,loI]<;>omega
  simp[mu,e]
 refine Hx ?_
 rw[Hw (S1:=S1) (by simp only[Geq,Qx,Xu,Yr,AE,AL,Gx,nl])]
 simp only[Gfu,Gt5,Gdh,Gdg,Xu,AE,AL,Gx,AZ,Bo,if_true,Gha]
 have e2:Uq [cD ps us,stD L R F,dL (wS b) k,.int (hiI u k),.int (loI u k)] S1=.ok (Gdk ps.length b k pH pL pG lH lL a g r1 f1 L R F).toD S2:=e2
 rw[e2]
 rfl
end
def Go6(h:y∈ys):∃ w,Xp y=.str w:=by
 simp only[ys,Ae,AN,or_false] at h
 rcases h with rfl | rfl | rfl | rfl | rfl | rfl | rfl | rfl | rfl | rfl | rfl | rfl<;>exact⟨_,rfl⟩
def Sm(M:List Int):Prop:=M.length<=13/\∀ i∈M,i.natAbs<10^60
def Gf4(h:Sm M):Sho S (.tup (M.map D.int)) 822 1:=by
 refine(Gf2 (b:=61) (e:=0) fun d hd=>?_).mono ?_ (Ab _)
 ·obtain⟨i,hi,rfl⟩:=AK.mp hd
  exact Gsf (h.2 i hi)
 ·have:=h.1
  simp only[Am]
  omega
def Gyl{R F:List Int}(h1:Sm L)(h2:Sm R)(h3:Sm F):Sho S (stD L R F) 2475 2:=(Gf2 (S:=S) (l:=[.tup (L.map D.int),.tup (R.map D.int),.tup (F.map D.int)]) (b:=822) (e:=1) fun d hd=>by
 simp only[Ae,AN,or_false] at hd
 rcases hd with rfl | rfl | rfl
 ·exact Gf4 h1
 ·exact Gf4 h2
 ·exact Gf4 h3).mono (by simp) (by decide)
def Hc8:∀ {i:Int},-2000<=i->i<=2000->i.natAbs<10^60:=fun h1 h2=>Nat.lt_of_le_of_lt (show _<=2000 by omega) (by decide)
def sm_of(hl:M.length<=13)(h:∀ i∈M,0<=i/\i<=1000):Sm M:=⟨hl,fun i hi=>Hc8 (by have:=h i hi; omega) (by have:=h i hi; omega)⟩
structure StF(ps:List Pl)(L R F:List Int):Prop where
 lL:L.length=ps.length
 lR:R.length=ps.length
 lF:F.length=ps.length
 nL:∀ i∈L,0<=i
 nR:∀ i∈R,0<=i
 nF:∀ i∈F,0<=i
 at':∀ (i:Nat) (p:Pl) (l r f:Int),ps[i]?=some p->L[i]?=some l->R[i]?=some r->F[i]?=some f->l<=wat p/\hol p (r+f)=true
 sum:R.sum+F.sum<=900
def Gf5:∀ {M:List Int} {i:Nat} {a v:Int},M[i]?=some a->(M.set i v).sum=M.sum-a+v
 | [],i,a,v,h=>by simp at h
 | x::M,0,a,v,h=>by
  cases (Ac h)
  rw[List.set_cons_zero,AS,AS]
  omega
 | x::M,i+1,a,v,h=>by
  have:=Gf5 (M:=M) (i:=i) (v:=v) (by simpa using h)
  rw[List.set_cons_succ,AS,AS,this]
  omega
def Gf6{i:Nat}(h:∀ j∈M,0<=j)(hv:0<=v):∀ j∈M.set i v,0<=j:=fun j hj=>by
 rcases List.mem_or_eq_of_mem_set hj with z | z
 ·exact h j z
 ·rw[z]; exact hv
def Gf7{i:Nat}{x:Int}(h:(M.set i v)[j]?=some x):(j=i/\x=v)\/(j≠i/\M[j]?=some x):=by
 by_cases c:j=i
 ·subst c
  have hl:j<M.length:=by
   have:=(Aa.mp h).1
   simpa using this
  rw[Ah hl] at h
  exact .inl ⟨rfl,(Ac h).symm⟩
 ·rw[Ad (Ne.symm c)] at h
  exact .inr ⟨c,h⟩
section
variable{ps:List Pl}{us:List Bool}{L R F:List Int}
def StF.setL{i:Nat}(h:StF ps L R F)(hp:ps[i]?=some p)(h0:0<=v)(h1:v<=wat p):StF ps (L.set i v) R F:=by
 refine⟨by rw[A9]; exact h.lL,h.lR,h.lF,Gf6 h.nL h0,h.nR,h.nF,fun j q l r f e1 e2 e3 e4=>?_,h.sum⟩
 rcases Gf7 e2 with⟨rfl,rfl⟩ | ⟨_,e2⟩
 ·rw[hp] at e1
  cases e1
  have hj:j<L.length:=by rw[h.lL]; exact(Aa.mp hp).1
  exact⟨h1,(h.at' j p _ r f hp (Af hj) e3 e4).2⟩
 ·exact h.at' j q l r f e1 e2 e3 e4
def StF.adw{i:Nat}{l d:Int}(h:StF ps L R F)(hp:ps[i]?=some p)(hb:p.isE=false->0<=l+d/\l+d<=wat p):StF ps (Law.adw p L i l d) R F:=by
 unfold Law.adw
 split
 ·exact h
 ·rename_i c
  have:=hb (by simpa using c)
  exact h.setL hp this.1 this.2
def Gf8{a b:Int}(h:hol p b=true)(hab:a<=b):hol p a=true:=by
 cases p with
 | e=>rfl
 | c=>
  have:b<=1:=by simpa[hol] using h
  simp[hol]; omega
 | p br de ro pr=>
  have:b<=ro:=by simpa[hol] using h
  simp[hol]; omega
def StF.move{pG:Pl}{a g r1 f1:Int}(h:StF ps L R F)(hG:ps[glI b k]?=some pG)(ha:(sel b R F)[stI b k]?=some a)(hg:(sel b R F)[glI b k]?=some g)(hr:R[glI b k]?=some r1)(hf:F[glI b k]?=some f1)(h1:1<=a)(h2:hol pG (r1+f1+1)=true):
  StF ps L (if b=true then Ky b R F k a g else R) (if b=true then F else Ky b R F k a g):=by
 have hg':((sel b R F).set (stI b k) (a + -1))[glI b k]?=some g:=(Ad Gox).trans hg
 have hsum:(Ky b R F k a g).sum=(sel b R F).sum:=by
  unfold Ky
  rw[Gf5 hg',Gf5 ha]
  omega
 have at2:∀ (j:Nat) (x:Int),(Ky b R F k a g)[j]?=some x->(j=glI b k/\x=g+1)\/(j≠glI b k/\∃ y,(sel b R F)[j]?=some y/\x<=y):=fun j x e=>by
  rcases Gf7 e with⟨c,e⟩ | ⟨c,e⟩
  ·exact .inl ⟨c,e⟩
  ·rcases Gf7 e with⟨c',e⟩ | ⟨c',e⟩
   ·exact .inr ⟨c,a,by rw[c']; exact ha,by omega⟩
   ·exact .inr ⟨c,x,e,Int.le_refl _⟩
 have nn:∀ {M:List Int},sel b R F=M->(∀ i∈M,0<=i)->∀ i∈Ky b R F k a g,0<=i:=fun e n=>by
  unfold Ky
  rw[e]
  exact Gf6 (Gf6 n (by omega)) (by have:=n g (by rw[<- e]; exact Ap hg); omega)
 have ln:(Ky b R F k a g).length=(sel b R F).length:=by unfold Ky; rw[A9,A9]
 cases b
 ·have e:sel false R F=F:=rfl
  rw[e] at hsum at2 ln hg
  refine⟨h.lL,h.lR,by simp only[Ay,if_false]; rw[ln]; exact h.lF,h.nL,h.nR,nn e h.nF,fun j q l r f e1 e2 e3 e4=>?_,by simp only[Ay,if_false]; rw[hsum]; exact h.sum⟩
  simp only[Ay,if_false] at e3 e4
  rcases at2 j f e4 with⟨c,rfl⟩ | ⟨_,y,ey,hy⟩
  ·rw[c] at e1 e2 e3
   rw[hG] at e1; cases e1
   rw[hr] at e3; cases e3
   rw[hf] at hg; cases hg
   exact⟨(h.at' _ _ _ _ _ hG e2 hr hf).1,Gf8 h2 (by omega)⟩
  ·have:=h.at' j q l r y e1 e2 e3 ey
   exact⟨this.1,Gf8 this.2 (by omega)⟩
 ·have e:sel true R F=R:=rfl
  rw[e] at hsum at2 ln hg
  refine⟨h.lL,by simp only[if_true]; rw[ln]; exact h.lR,h.lF,h.nL,nn e h.nR,h.nF,fun j q l r f e1 e2 e3 e4=>?_,by simp only[if_true]; rw[hsum]; exact h.sum⟩
  simp only[if_true] at e3 e4
  rcases at2 j r e3 with⟨c,rfl⟩ | ⟨_,y,ey,hy⟩
  ·rw[c] at e1 e2 e4
   rw[hG] at e1; cases e1
   rw[hf] at e4; cases e4
   rw[hr] at hg; cases hg
   exact⟨(h.at' _ _ _ _ _ hG e2 hr hf).1,Gf8 h2 (by omega)⟩
  ·have:=h.at' j q l y f e1 e2 ey e4
   exact⟨this.1,Gf8 this.2 (by omega)⟩
end
inductive Kd(ps:List Pl):Res->Prop where
 | no {y:Str} (h:y∈ys):Kd ps (.no y)
 | yes {A B C:List Int} {p g:Int} (h:StF ps A B C) (p0:0<=p/\p<=1000) (g0:0<=g/\g<=1):Kd ps (.yes (.tup [stD A B C,.int p,.int g]))
structure Rs(ps:List Pl)(us:List Bool)(L R F:List Int)(dd:D)(r:Res):Prop where
 did:∀ S,Hi [cD ps us,stD L R F,dd] S=r.out S
 due:∀ S,∃ S',Hy [cD ps us,stD L R F,dd] S=.ok r.toD S'/\Ex S S'
 kd:Kd ps r
section
variable{cr:Int}{ps:List Pl}{us:List Bool}{L R F:List Int}
def Gis{l f:Int}(h:vOk cr p l r f):l<=wat p:=by
 have:=h.2.2.2
 cases p with
 | e=>simp only at this; simp[wat,this.1]
 | c=>simp only at this; simp[wat,this.1]
 | p br de ro pr=>simp only at this; simp[wat,this.1]
def Gym(hp:∀ p∈ps,p.ok)(hl:ps.length<=13)(hu:us.length+1=ps.length)(st:StR cr ps L R F)(sf:StF ps L R F)(hk:k<us.length):∃ r,Rs ps us L R F (.tup [.str "let",.int k]) r:=by
 have eu:=Af hk
 generalize us[k]=u at eu
 have hH:hiI u k<ps.length:=by cases u<;>simp[hiI]<;>omega
 have hL:loI u k<ps.length:=by cases u<;>simp[loI]<;>omega
 have eH:=Af hH
 have eL:=Af hL
 obtain⟨lH,_,_,a1,_,_,a4⟩:=st.at' _ _ eH
 obtain⟨lL,_,_,b1,_,_,b4⟩:=st.at' _ _ eL
 have k1:=hp _ (Ap eH)
 have k2:=hp _ (Ap eL)
 have w1:=Gis a4
 have w2:=Gis b4
 have n1:=a4.1
 have n2:=b4.1
 generalize ps[hiI u k]=pH at eH k1 w1
 generalize ps[loI u k]=pL at eL k2 w2
 refine⟨Glv u k pH pL lH lL L R F,fun S=>dd_let eu eH eL a1 b1 k1 k2 (by rw[st.lL]; omega),fun S=>Gst eu eH eL a1 b1 w2 (by omega),?_⟩
 unfold Glv
 split
 ·exact .no Gbk.2.1
 ·rename_i c1
  split
  ·exact .no Gbk.2.2.1
  ·rename_i c2
   refine .yes ((sf.adw eH fun z=>?_).adw eL fun z=>?_) (by decide) (by decide)
   ·have:lH≠0:=by simpa[z] using c1
    exact⟨by omega,by omega⟩
   ·have:¬ wat pL<=lL:=by simpa[z] using c2
    exact⟨by omega,by omega⟩
def Gsv(hp:∀ p∈ps,p.ok)(hl:ps.length<=13)(st:StR cr ps L R F)(sf:StF ps L R F)(hk:k<ps.length):∃ r,Rs ps us L R F (.tup [.str "feed",.int k]) r:=by
 have e:=Af hk
 obtain⟨l,_,_,a1,_,_,a4⟩:=st.at' _ _ e
 have k1:=hp _ (Ap e)
 have w1:=Gis a4
 have n1:=a4.1
 generalize ps[k]=p at e k1 w1
 refine⟨Wz k p l L R F,fun S=>dd_feed e a1 k1 (by rw[st.lL]; omega),fun S=>Go0 e a1 k1 w1,?_⟩
 unfold Wz
 split
 ·rename_i br de ro i
  split
  ·exact .no Gbk.2.2.1
  ·rename_i c
   have w1:l<=br:=w1
   have pb:0<=i/\i<=1000:=by
    obtain⟨_,_,_,_,_,_,hpr⟩:=k1
    rcases hpr with h | ⟨j,h,h1,h2⟩
    ·cases h
    ·cases h; omega
   exact .yes (sf.setL e (by omega) (show l+1<=br by omega)) pb (by decide)
 ·exact .no Gbk.2.2.2
def Gke(hp:∀ p∈ps,p.ok)(hl:ps.length<=13)(hu:us.length+1=ps.length)(st:StR cr ps L R F)(sf:StF ps L R F)(b:Bool)(hk:k<us.length):∃ r,Rs ps us L R F (dM b k) r:=by
 have eu:=Af hk
 generalize us[k]=u at eu
 have hH:hiI u k<ps.length:=by cases u<;>simp[hiI]<;>omega
 have hL:loI u k<ps.length:=by cases u<;>simp[loI]<;>omega
 have hG:glI b k<ps.length:=by cases b<;>simp[glI]<;>omega
 have hS:stI b k<ps.length:=by cases b<;>simp[stI]<;>omega
 have lM:(sel b R F).length=ps.length:=by
  unfold sel
  split
  ·exact st.lR
  ·exact st.lF
 have nM:∀ i∈sel b R F,0<=i:=by
  unfold sel
  split
  ·exact sf.nR
  ·exact sf.nF
 have eH:=Af hH
 have eL:=Af hL
 have eG:=Af hG
 have aH:=Af (l:=L) (i:=hiI u k) (by rw[st.lL]; exact hH)
 have aL:=Af (l:=L) (i:=loI u k) (by rw[st.lL]; exact hL)
 have aS:=Af (l:=sel b R F) (i:=stI b k) (by rw[lM]; exact hS)
 have aG:=Af (l:=sel b R F) (i:=glI b k) (by rw[lM]; exact hG)
 have aR:=Af (l:=R) (i:=glI b k) (by rw[st.lR]; exact hG)
 have aF:=Af (l:=F) (i:=glI b k) (by rw[st.lF]; exact hG)
 have v:Mv ps us L R F b k u ps[hiI u k] ps[loI u k] ps[glI b k] _ _ _ _ _ _:=⟨eu,eH,eL,aH,aL,hp _ (A3 hH),hp _ (A3 hL),eG,hp _ (A3 hG),aS,aG,aR,aF,hu,by omega⟩
 have hc:(ps[hiI u k]).isC=true->0<=L[hiI u k]'(by rw[st.lL]; exact hH)/\L[hiI u k]'(by rw[st.lL]; exact hH)<=1:=fun z=>by
  obtain⟨l',_,_,q1,_,_,q4⟩:=st.at' _ _ eH
  rw[aH] at q1
  cases q1
  obtain⟨c1,_,_,c2⟩:=q4
  cases y:ps[hiI u k] with
  | c=>rw[y] at c2; exact⟨c1,c2.1⟩
  | e=>rw[y] at z; cases z
  | p _ _ _ _=>rw[y] at z; cases z
 have na:=nM _ (Ap aS)
 refine⟨_,fun S=>dd_move v,fun S=>Go5 v hc,?_⟩
 unfold Gdk
 split
 ·rename_i y z; exact .no (Gkb z)
 ·rename_i z
  unfold Ghe at z
  split at z
  ·cases z
  ·rename_i c1
   split at z
   ·cases z
   ·rename_i c2
    exact .yes (sf.move eG aS aG aR aF (by omega) (by simpa using c2)) (by decide) ((fun(c:Prop) (_:Decidable c)=>show 0<=(if c then(1:Int) else 0)/\(if c then(1:Int) else 0)<=1 by split<;>decide) _ _)
end
inductive Wd where
 | l | f | r | e
variable{w:Wd}
def Wd.toD:Wd->D
 | .l=>.str "let"
 | .f=>.str "feed"
 | .r=>wd true
 | .e=>wd false
abbrev ddOf(p:Wd×Nat):D:=.tup [p.1.toD,.int p.2]
noncomputable def Res.isY:Res->Bool
 | .yes _=>true
 | .no _=>false
def Go7{s:Src}{l:List D}{fs:Ev Src}{pk:List (BC Nat)}{e:Ev D}(rest:Lc)(v:D->D)(hf:fs ρ S=.ok s S)(hn:∀ k (S':Sto),Ex S S'->s.nxt k S'=l[k]?)(hfu:l.length<s.fuel)(hp:pkS pk ρ=none::rest)(hl:l.length<1000)(he:∀ d∈l,∀ S':Sto,Ex S S'->∃ S'',e (some d::rest) S'=.ok (v d) S''/\Ex S' S''):
  ∃ S',cmp fs pk (gn 0) ttrue e ρ S=.ok (.lst S.length) S'/\S'[S.length]?=some ⟨false,l.map v⟩/\Ex S S':=by
 obtain⟨ρ',S',el,g,hρ,hq,hx⟩:=Uj (nxt:=s.nxt) (g:=gn 0) (b:=cbody S.length ttrue e) (l:=l)
  (fun i ρ S'=>∃ g,ρ=g::rest/\S'[S.length]?=some ⟨false,(l.take i).map v⟩/\Ex S S')
  (fun k ρ S' ⟨_,_,_,h3⟩=>hn k S' h3) (fun i d ρ S' hd ⟨g,h1,h2,h3⟩=>by
   subst h1
   have hi:i<l.length:=(Aa.mp hd).1
   obtain⟨S'',e1,e2⟩:=he d (Ap hd) S' h3
   have q'':=e2.at h2
   have lq:S.length<S''.length:=(Aa.mp q'').1
   refine⟨_,_,_,rfl,Ut e1 q'' (by simp; omega),some d,rfl,?_,(h3.trans e2).setq (Ab _)⟩
   rw[Ah lq]
   have:l.take (i+1)=l.take i++[d]:=by rw[A5,hd]; rfl
   rw[this]
   simp) s.fuel 0 (none::rest) (S++[⟨false,[]⟩]) (AB _) ⟨none,rfl,by simp[Gs],Ex.app⟩ (by omega)
 rw[Bt] at hq
 exact⟨S',Gfz (pk:=pk) (ρ:=ρ) (S:=S) (f:=fs) (s:=s) (S1:=S) (g:=gn 0) (c:=ttrue) (e:=e) hf (by rw[hp]; exact el),hq,hx⟩
section
def Gbm:∀ {M:List Int},(∀ j∈M,0<=j)->0<=M.sum
 | [],_=>Int.le_refl _
 | x::M,h=>by
  have a:=Gbm (M:=M) fun j hj=>h j (Au _ hj)
  have b:=h x Aw
  rw[AS]
  omega
def Gdl:∀ {M:List Int} {i:Nat} {a:Int},(∀ j∈M,0<=j)->M[i]?=some a->a<=M.sum
 | [],i,a,_,h=>by simp at h
 | x::M,0,a,hn,h=>by
  cases (Ac h)
  have:=Gbm (M:=M) fun j hj=>hn j (Au _ hj)
  rw[AS]
  omega
 | x::M,i+1,a,hn,h=>by
  have c:=Gdl (M:=M) (i:=i) (a:=a) (fun j hj=>hn j (Au _ hj)) (by simpa using h)
  have b:=hn x Aw
  rw[AS]
  omega
def StF.toR{R F:List Int}(h:StF ps L R F):StR 900 ps L R F:=by
 refine⟨h.lL,h.lR,h.lF,fun i p hp=>?_⟩
 have hi:=(Aa.mp hp).1
 obtain⟨l,e1⟩:∃ l,L[i]?=some l:=⟨_,Af (by rw[h.lL]; exact hi)⟩
 obtain⟨r,e2⟩:∃ l,R[i]?=some l:=⟨_,Af (by rw[h.lR]; exact hi)⟩
 obtain⟨f,e3⟩:∃ l,F[i]?=some l:=⟨_,Af (by rw[h.lF]; exact hi)⟩
 obtain⟨a,b⟩:=h.at' i p _ _ _ hp e1 e2 e3
 have n1:=h.nL _ (Ap e1)
 have n2:=h.nR _ (Ap e2)
 have n3:=h.nF _ (Ap e3)
 have s2:=Gdl h.nR e2
 have s3:=Gdl h.nF e3
 have t2:=Gbm h.nR
 have t3:=Gbm h.nF
 have s:=h.sum
 refine⟨l,r,f,e1,e2,e3,n1,n2,n3,?_⟩
 cases p with
 | e=>
  have a:l<=0:=a
  exact⟨by omega,by omega,by omega⟩
 | c=>
  have a:l<=1:=a
  have b:r+f<=1:=by simpa[hol] using b
  exact⟨a,b⟩
 | p br de ro pr=>
  have a:l<=br:=a
  have b:r+f<=ro:=by simpa[hol] using b
  exact⟨a,b⟩
end
def Gsw{cr:Int}{us:List Bool}{R F:List Int}(hp:∀ p∈ps,p.ok)(hl:ps.length<=13)(hu:us.length+1=ps.length)(st:StR cr ps L R F)(sf:StF ps L R F):
  ∃ res:Wd×Nat->Res,(∀ w k,k<ps.length->Rs ps us L R F (ddOf (w,k)) (res (w,k)))/\∀ w,w≠.f->(res (w,us.length)).isY=false:=by
 have one:∀ w k,k<ps.length->∃ r,Rs ps us L R F (ddOf (w,k)) r/\(w≠.f->k=us.length->r.isY=false):=fun w k hk=>by
  cases w with
  | f=>
   obtain⟨r,h⟩:=Gsv (us:=us) hp hl st sf hk
   exact⟨r,h,fun z=>absurd rfl z⟩
  | l=>
   by_cases c:k<us.length
   ·obtain⟨r,h⟩:=Gym hp hl hu st sf c
    exact⟨r,h,fun _ z=>by omega⟩
   ·exact⟨.no "NoGate",⟨fun S=>dd_nogate (by omega),fun S=>due_let_no (by omega),.no Gbk.1⟩,fun _ _=>rfl⟩
  | r=>
   by_cases c:k<us.length
   ·obtain⟨r,h⟩:=Gke hp hl hu st sf true c
    exact⟨r,h,fun _ z=>by omega⟩
   ·exact⟨.no "NoGate",⟨fun S=>dd_mnogate (by omega),fun S=>due_mno (by omega),.no Gbk.1⟩,fun _ _=>rfl⟩
  | e=>
   by_cases c:k<us.length
   ·obtain⟨r,h⟩:=Gke hp hl hu st sf false c
    exact⟨r,h,fun _ z=>by omega⟩
   ·exact⟨.no "NoGate",⟨fun S=>dd_mnogate (by omega),fun S=>due_mno (by omega),.no Gbk.1⟩,fun _ _=>rfl⟩
 have all:∀ p:Wd×Nat,∃ r,p.2<ps.length->Rs ps us L R F (ddOf p) r/\(p.1≠.f->p.2=us.length->r.isY=false):=fun p=>by
  by_cases h:p.2<ps.length
  ·obtain⟨r,h1⟩:=one p.1 p.2 h
   exact⟨r,fun _=>h1⟩
  ·exact⟨.no "NoGate",fun z=>absurd z h⟩
 obtain⟨res,h⟩:=Classical.axiomOfChoice all
 exact⟨res,fun w k hk=>(h (w,k) hk).1,fun w hw=>(h (w,us.length) (by show us.length<ps.length; omega)).2 hw rfl⟩
noncomputable def prs(w:Wd)(n:Nat):List (Wd×Nat):=(List.range n).map fun k=>(w,k)
def prP(m N:Nat):List (Wd×Nat):=((prs .l m++prs .f N)++prs .r m)++prs .e m
def prL(N:Nat):List (Wd×Nat):=((prs .l N++prs .f N)++prs .r N)++prs .e N
def prs_last{res:Wd×Nat->Res}(h:(res (w,m)).isY=false):(prs w (m+1)).filter (fun p=>(res p).isY)=(prs w m).filter (fun p=>(res p).isY):=by
 unfold prs
 rw[List.range_succ,AT,Bd]
 simp[h]
def Gsx{res:Wd×Nat->Res}(h:∀ w,w≠.f->(res (w,m)).isY=false):(prP m (m+1)).filter (fun p=>(res p).isY)=(prL (m+1)).filter (fun p=>(res p).isY):=by
 unfold prP prL
 simp only[Bd]
 rw[prs_last (h .l (fun z=>nomatch z)),prs_last (h .r (fun z=>nomatch z)),prs_last (h .e (fun z=>nomatch z))]
instance:DecidableEq Wd:=fun a b=>by cases a<;>cases b<;>first | exact .isTrue rfl | exact .isFalse (fun z=>nomatch z)
def Ghg{nxt:Nat->Sto->BC D}{g:Tg}{b:Sv}{l:List D}(I:Nat->Lc->Sto->Prop)(hn:∀ k ρ S,I k ρ S->nxt k S=l[k]?)(hs:∀ k d ρ S,l[k]?=some d->I k ρ S->∃ ρ1 ρ2 S2,g d ρ=some ρ1/\(b ρ1 S=.nx ρ2 S2\/b ρ1 S=.ct ρ2 S2)/\I (k+1) ρ2 S2):
  ∀ (n k:Nat) (ρ:Lc) (S:Sto),k<=l.length->I k ρ S->l.length<n+k->∃ ρ' S',Kb nxt g b n k ρ S=.nx ρ' S'/\I l.length ρ' S'
 | 0,k,ρ,S,h1,_,h2=>by omega
 | n+1,k,ρ,S,h1,hI,h2=>by
  unfold Kb
  rw[hn k ρ S hI]
  cases z:l[k]? with
  | none=>
   have:k=l.length:=by have:=A2.mp z; omega
   subst this
   exact⟨ρ,S,rfl,hI⟩
  | some d=>
   obtain⟨ρ1,ρ2,S2,h3,h4,h5⟩:=hs k d ρ S z hI
   have hk:k<l.length:=(Aa.mp z).1
   obtain⟨ρ',S',h6,h7⟩:=Ghg I hn hs n (k+1) ρ2 S2 hk h5 (by omega)
   refine⟨ρ',S',?_,h7⟩
   rcases h4 with h4 | h4
   ·simp only[h3,h4]; exact h6
   ·simp only[h3,h4]; exact h6
def Gay{e:Ev (List D)}{s:D}(hs:s=w.toD)(h:e ρ S=.ok [.int N] S)(hN:N<=100):∃ S',cmp (ir1 e) [none] (gn 0) ttrue (tp (ac (cn s) (ac (vr 0) an))) ρ S=.ok (.lst S.length) S'/\S'[S.length]?=some ⟨false,(prs w N).map ddOf⟩/\Ex S S':=by
 subst hs
 obtain⟨S',e1,h1,x1⟩:=Go7 (s:=rsrc 0 N) (l:=(List.range N).map fun k:Nat=>D.int (k:Int)) (fs:=ir1 e) (pk:=[none]) (e:=tp (ac (cn w.toD) (ac (vr 0) an))) (ρ:=ρ) (S:=S) [] (fun d=>.tup [w.toD,d]) (Gio h (by omega)) (fun k S' _=>Gfw) (by simp[rsrc]) rfl (by simp; omega) (fun d _ S' x=>⟨S',by simp,.refl⟩)
 refine⟨S',e1,?_,x1⟩
 rw[h1]
 unfold prs
 rw[List.map_map,List.map_map]
 rfl
def Gyn{us:List Bool}(hl:ps.length<=13)(hu:us.length+1=ps.length):∃ q S',Xj [cD ps us] S=.ok (.lst q) S'/\S'[q]?=some ⟨false,(prP us.length ps.length).map ddOf⟩/\Ex S S'/\S.length<=q:=by
 obtain⟨S1,e1,h1,x1⟩:=Gay (w:=.l) (s:=.str "let") (e:=ac (b1 Gy (ac (vr 2) an)) an) (ρ:=[some (cD ps us),some (.tup (ps.map Pl.toD)),some (.tup (us.map gd)),none,none,none,none]) (N:=us.length) (S:=S) rfl (by simp) (by omega)
 obtain⟨S2,e2,h2,x2⟩:=Gay (w:=.f) (s:=.str "feed") (e:=ac (b1 Gy (ac (vr 1) an)) an) (ρ:=[some (cD ps us),some (.tup (ps.map Pl.toD)),some (.tup (us.map gd)),some (.lst S.length),none,none,none]) (N:=ps.length) (S:=S1) rfl (by simp) (by omega)
 obtain⟨S3,e3,h3,x3⟩:=Gay (w:=.r) (s:=.str "right") (e:=ac (b1 Gy (ac (vr 2) an)) an) (ρ:=[some (cD ps us),some (.tup (ps.map Pl.toD)),some (.tup (us.map gd)),some (.lst S.length),some (.lst S1.length),none,none]) (N:=us.length) (S:=S2) rfl (by simp) (by omega)
 obtain⟨S4,e4,h4,x4⟩:=Gay (w:=.e) (s:=.str "left") (e:=ac (b1 Gy (ac (vr 2) an)) an) (ρ:=[some (cD ps us),some (.tup (ps.map Pl.toD)),some (.tup (us.map gd)),some (.lst S.length),some (.lst S1.length),some (.lst S2.length),none]) (N:=us.length) (S:=S3) rfl (by simp) (by omega)
 have ln:∀ w n,((prs w n).map ddOf).length=n:=fun w n=>by simp[prs]
 have a1:=Zw (((x2.trans x3).trans x4).at h1) ((x3.trans x4).at h2) (by rw[ln,ln]; omega)
 have a2:=Zw (S:=S4++[⟨false,(prs .l us.length).map ddOf++(prs .f ps.length).map ddOf⟩]) Gs (Hr (x4.at h3)) (by rw[Az,ln,ln,ln]; omega)
 have a3:=Zw (S:=(S4++[⟨false,(prs .l us.length).map ddOf++(prs .f ps.length).map ddOf⟩])++[⟨false,((prs .l us.length).map ddOf++(prs .f ps.length).map ddOf)++(prs .r us.length).map ddOf⟩]) Gs (Hr (Hr h4)) (by rw[Az,Az,ln,ln,ln,ln]; omega)
 refine⟨((S4++[(⟨false,(prs .l us.length).map ddOf++(prs .f ps.length).map ddOf⟩:Cell)])++[(⟨false,((prs .l us.length).map ddOf++(prs .f ps.length).map ddOf)++(prs .r us.length).map ddOf⟩:Cell)]).length,S4++[⟨false,(prs .l us.length).map ddOf++(prs .f ps.length).map ddOf⟩]++[⟨false,((prs .l us.length).map ddOf++(prs .f ps.length).map ddOf)++(prs .r us.length).map ddOf⟩]++[⟨false,(((prs .l us.length).map ddOf++(prs .f ps.length).map ddOf)++(prs .r us.length).map ddOf)++(prs .e us.length).map ddOf⟩],?_,?_,(((((x1.trans x2).trans x3).trans x4).trans Ex.app).trans Ex.app).trans Ex.app,?_⟩
 rotate_left
 ·rw[Gs]
  unfold prP
  rw[AT,AT,AT]
 ·have:=x1.len; have:=x2.len; have:=x3.len; have:=x4.len
  rw[Az,Az]
  omega
 refine(Go (m:=7) (b:=Vm)).trans ?_
 show fin (Vm [some (cD ps us),none,none,none,none,none,none] S)=_
 unfold Vm
 refine(Ge (ρ':=[some (cD ps us),some (.tup (ps.map Pl.toD)),some (.tup (us.map gd)),none,none,none,none]) (S':=S) rfl).trans ?_
 refine(Ge (ρ':=[some (cD ps us),some (.tup (ps.map Pl.toD)),some (.tup (us.map gd)),some (.lst S.length),none,none,none]) (S':=S1) (by rw[Uz,e1]; rfl)).trans ?_
 refine(Ge (ρ':=[some (cD ps us),some (.tup (ps.map Pl.toD)),some (.tup (us.map gd)),some (.lst S.length),some (.lst S1.length),none,none]) (S':=S2) (by rw[Uz,e2]; rfl)).trans ?_
 refine(Ge (ρ':=[some (cD ps us),some (.tup (ps.map Pl.toD)),some (.tup (us.map gd)),some (.lst S.length),some (.lst S1.length),some (.lst S2.length),none]) (S':=S3) (by rw[Uz,e3]; rfl)).trans ?_
 refine(Ge (ρ':=[some (cD ps us),some (.tup (ps.map Pl.toD)),some (.tup (us.map gd)),some (.lst S.length),some (.lst S1.length),some (.lst S2.length),some (.lst S3.length)]) (S':=S4) (by rw[Uz,e4]; rfl)).trans ?_
 simp only[Gfu,Qx,Xu,AE,AL,Gx,a1,a2,a3]
 rfl
def Gyo{l:List D}{b e:Nat}(h:∀ d∈l,Sho S d b e)(h1:(b+2)*l.length+3<=1000000)(h2:e+1<39):∃ s:Str,PyData.strOk s=true/\∀ (S':Sto) (q:Nat) (fz:Bool),Ex S S'->S'[q]?=some ⟨fz,l⟩->Qp [.lst q] S'=.ok (.str s) S':=by
 obtain⟨ps,a,hl,g⟩:=Gf1 h
 have g:=Gyc g
 rw[hl] at g
 refine⟨(PyData.list ps).shown,g.ok,fun S' q fz x hq=>?_⟩
 have ha:toP S' 40 (.lst q)=some (.list ps):=by
  show(match S'[q]? with | some c=>(Jq (toP S' 39) c.xs).map PyData.list | none=>none)=_
  rw[hq]
  show(Jq (toP S' 39) l).map PyData.list=_
  rw[a S' x 39 (by omega)]
  rfl
 show(match toP S' 40 (.lst q) with
   | some p=>if(p.showable&&!p.hasDict&&decide (p.depth<=60))=true/\p.shown.length<=1000000 then Out.ok (D.str p.shown) S' else .bad
   | none=>.bad)=_
 rw[ha]
 show(if((PyData.list ps).showable&&!(PyData.list ps).hasDict&&decide ((PyData.list ps).depth<=60))=true/\(PyData.list ps).shown.length<=1000000 then Out.ok (D.str (PyData.list ps).shown) S' else .bad)=_
 rw[if_pos]
 refine⟨?_,Aj g.le h1⟩
 rw[g.sh,g.nd]
 have:=g.dp
 simp
 omega
def apd(h:S[q]?=some ⟨false,xs⟩)(hl:xs.length<1000000):Gdr (.lst q) [d] S=.ok .non (S.set q ⟨false,xs++[d]⟩):=by
 simp only[Gdr,h]
 simp[hl]
noncomputable def Res.three:Res->List D
 | .yes (.tup l)=>l
 | _=>[]
def st4(res:Wd×Nat->Res)(p:Wd×Nat):D:=.tup (ddOf p::(res p).three)
def Gkf{l:List α}{p:α}{f:α->Bool}(h:l[k]?=some p):(l.take (k+1)).filter f=(l.take k).filter f++if f p=true then[p] else[]:=by
 rw[A5,h,Bd]
 show _++[p].filter f=_
 rw[List.filter_cons]
 rfl
def Gcd{p:Wd×Nat}(h:p∈prs w n):p.2<n:=by
 obtain⟨k,hk,rfl⟩:=AK.mp h
 exact Bi.mp hk
def Git{p:Wd×Nat}(hm:m<=N)(h:p∈prP m N):p.2<N:=by
 unfold prP at h
 simp only[AF] at h
 rcases h with((h | h) | h) | h
 ·have:=Gcd h; omega
 ·have:=Gcd h; omega
 ·have:=Gcd h; omega
 ·have:=Gcd h; omega
def Yx:(prs w n).length=n:=by simp[prs]
def Gkg:(prP m N).length=m+N+m+m:=by
 unfold prP
 rw[Az,Az,Az,Yx,Yx,Yx,Yx]
def Go8{x:Str}{fn:Fn}{t:Ev (List D)}(h:ρ[2]?=some (some (.fv x)))(ht:t ρ S=.ok ds S1)(hl:ds.length=n):clv 2 x n fn t ρ S=fn ds S1:=by
 unfold clv
 rw[h]
 simp only[if_true,ht,Gx,hl]
section
variable{ps:List Pl}{us:List Bool}{L R F:List Int}{res:Wd×Nat->Res}
abbrev rs8(ps:List Pl)(us:List Bool)(L R F:List Int)(x3 x4 x5 x6 x7:BC D):Lc:=[some (cD ps us),some (stD L R F),some (.fv "deed_done"),x3,x4,x5,x6,x7]
def Gsy{p:Wd×Nat}{x3 x5 x6 x7:BC D}(did:Hi [cD ps us,stD L R F,ddOf p] S=.exc ⟨y,none⟩ S)(hy:y∈ys):Kg (rs8 ps us L R F x3 (some (ddOf p)) x5 x6 x7) S=.ct (rs8 ps us L R F x3 (some (ddOf p)) x5 x6 x7) S:=by
 unfold Kg
 have e:Qe (rs8 ps us L R F x3 (some (ddOf p)) x5 x6 x7) S=.exc ⟨y,none⟩ (rs8 ps us L R F x3 (some (ddOf p)) x5 x6 x7) S:=by
  have ec:clv 2 "deed_done" 3 (gX ys Hi) (ac (vr 0) (ac (vr 1) (ac (vr 4) an))) (rs8 ps us L R F x3 (some (ddOf p)) x5 x6 x7) S=gX ys Hi [cD ps us,stD L R F,ddOf p] S:=Go8 (ds:=[cD ps us,stD L R F,ddOf p]) (S1:=S) rfl (by simp) rfl
  unfold Qe
  rw[Uz,ec,Qw did hy,Ges]
 rw[Gby,Gj4 e hy]
 rfl
def Go9{p:Wd×Nat}{a b c:D}{x5 x6 x7:BC D}(did:Hi [cD ps us,stD L R F,ddOf p] S=.ok (.tup [a,b,c]) S)(hq:S[q]?=some ⟨false,xs⟩)(hl:xs.length<1000000):Kg (rs8 ps us L R F (some (.lst q)) (some (ddOf p)) x5 x6 x7) S=.nx (rs8 ps us L R F (some (.lst q)) (some (ddOf p)) (some a) (some b) (some c)) (S.set q ⟨false,xs++[.tup [ddOf p,a,b,c]]⟩):=by
 unfold Kg
 have e:Qe (rs8 ps us L R F (some (.lst q)) (some (ddOf p)) x5 x6 x7) S=.nx (rs8 ps us L R F (some (.lst q)) (some (ddOf p)) (some a) (some b) (some c)) S:=by
  have ec:clv 2 "deed_done" 3 (gX ys Hi) (ac (vr 0) (ac (vr 1) (ac (vr 4) an))) (rs8 ps us L R F (some (.lst q)) (some (ddOf p)) x5 x6 x7) S=gX ys Hi [cD ps us,stD L R F,ddOf p] S:=Go8 (ds:=[cD ps us,stD L R F,ddOf p]) (S1:=S) rfl (by simp) rfl
  unfold Qe
  rw[Uz,ec,Zj did,Hq]
  rfl
 rw[Jf (Gon e)]
 have il:isLst (.lst q) S=true:=by simp[isLst,hq]
 simp[apd hq hl,il]
def Gpa(hl:ps.length<=13)(hu:us.length+1=ps.length)(hr:∀ w k,k<ps.length->Rs ps us L R F (ddOf (w,k)) (res (w,k))):
  ∃ S',Ud [cD ps us,stD L R F,.fv "deed_done"] S=.ok (.lst S.length) S'/\S'[S.length]?=some ⟨false,((prP us.length ps.length).filter fun p=>(res p).isY).map (st4 res)⟩/\Ex S S':=by
 have q1:(S++[(⟨false,[]⟩:Cell)])[S.length]?=some ⟨false,[]⟩:=Gs
 have x1:Ex S (S++[⟨false,[]⟩]):=Ex.app
 have l1:S.length<(S++[(⟨false,[]⟩:Cell)]).length:=by simp
 have e0:sa (ls an) (gn 3) (rs8 ps us L R F none none none none none) S=.nx (rs8 ps us L R F (some (.lst S.length)) none none none none) (S++[⟨false,[]⟩]):=by simp
 generalize S++[(⟨false,[]⟩:Cell)]=S1 at q1 x1 l1 e0
 obtain⟨q,S2,e2,h2,x2,lq⟩:=Gyn (S:=S1) hl hu
 have pl:=Gkg (m:=us.length) (N:=ps.length)
 obtain⟨ρ',S',ef,g4,g5,g6,g7,hρ,hq3,hq0,x⟩:=Ghg (nxt:=(Wk q ((prP us.length ps.length).map ddOf).length).nxt) (g:=gn 4) (b:=Kg) (l:=(prP us.length ps.length).map ddOf)
  (fun k ρ S'=>∃ g4 g5 g6 g7,ρ=rs8 ps us L R F (some (.lst S.length)) g4 g5 g6 g7/\S'[S.length]?=some ⟨false,(((prP us.length ps.length).take k).filter fun p=>(res p).isY).map (st4 res)⟩/\S'[q]?=some ⟨false,(prP us.length ps.length).map ddOf⟩/\Ex S S')
  (fun k ρ S' ⟨_,_,_,_,_,_,h,_⟩=>by
   show(S'[q]?).bind (fun c=>c.xs[k]?)=_
   rw[h]; rfl)
  (fun k d ρ S' hd ⟨g4,g5,g6,g7,h1,h3,h4,h5⟩=>by
   subst h1
   rw[As] at hd
   cases hk:(prP us.length ps.length)[k]? with
   | none=>rw[hk] at hd; cases hd
   | some p=>
    rw[hk] at hd
    cases (Ac hd)
    have rs:Rs ps us L R F (ddOf p) (res p):=hr p.1 p.2 (Git (by omega) (Ap hk))
    have tk:((prP us.length ps.length).take (k+1)).filter (fun p=>(res p).isY)=((prP us.length ps.length).take k).filter (fun p=>(res p).isY)++if(res p).isY=true then[p] else[]:=Gkf hk
    have did:=rs.did S'
    have kd:=rs.kd
    have l3:((((prP us.length ps.length).take k).filter fun p=>(res p).isY).map (st4 res)).length<1000:=by
     rw[Am]
     have:=Be (fun p=>(res p).isY) ((prP us.length ps.length).take k)
     have:=List.length_take_le k (prP us.length ps.length)
     have:((prP us.length ps.length).take k).length<=(prP us.length ps.length).length:=by rw[AW]; omega
     omega
    cases hres:res p with
    | no y=>
     rw[hres] at did kd
     cases kd with
     | no hy=>
      refine⟨rs8 ps us L R F (some (.lst S.length)) (some (ddOf p)) g5 g6 g7,_,S',rfl,.inr (Gsy did hy),_,_,_,_,rfl,?_,h4,h5⟩
      have hy0:(res p).isY=false:=by rw[hres]; rfl
      rw[tk,if_neg (by rw[hy0]; decide),AU]
      exact h3
    | yes d=>
     rw[hres] at did kd
     cases kd with
     | yes hst _ _=>
      have ls:S.length<S'.length:=(Aa.mp h3).1
      refine⟨rs8 ps us L R F (some (.lst S.length)) (some (ddOf p)) g5 g6 g7,_,_,rfl,.inl (Go9 did h3 (by omega)),_,_,_,_,rfl,?_,?_,h5.setq (Ab _)⟩
      ·have hy1:(res p).isY=true:=by rw[hres]; rfl
       rw[Ah ls,tk,if_pos hy1,AT,At,Bm,show st4 res p=.tup (ddOf p::(res p).three) from rfl,hres]
       rfl
      ·rw[Ad (by omega)]
       exact h4) (((prP us.length ps.length).map ddOf).length+1) 0 (rs8 ps us L R F (some (.lst S.length)) none none none none) S2 (AB _) ⟨none,none,none,none,rfl,x2.at q1,h2,x1.trans x2⟩ (A1 _)
 subst hρ
 rw[Am,Bt] at hq3
 refine⟨S',?_,hq3,x⟩
 refine(Go (m:=8) (b:=Vn)).trans ?_
 show fin (Vn (rs8 ps us L R F none none none none none) S)=_
 unfold Vn
 refine(Ge e0).trans ?_
 refine(Ge (ρ':=rs8 ps us L R F (some (.lst S.length)) g4 g5 g6 g7) (S':=S') ?_).trans ?_
 ·rw[Vh,Vw]
  have:cl 1 (Gi Xj) (ac (vr 0) an) (rs8 ps us L R F (some (.lst S.length)) none none none none) S1=.ok (.lst q) S2:=by simp[e2]
  rw[this,Gx,Gbz h2,Hq]
  exact ef
 simp
end
end Law
namespace BF
variable{α:Type}[DecidableEq α]
noncomputable def Vj(t:List α)(b:α):List α:=if b∈t then t else t++[b]
def Qa(t:List α)(bs:List α):List α:=bs.foldl Vj t
def Gpb{t:List α}{b x:α}:x∈Vj t b↔x∈t\/x=b:=by
 unfold Vj
 by_cases h:b∈t
 ·rw[if_pos h]
  exact⟨.inl,fun z=>z.elim id fun e=>e▸h⟩
 ·rw[if_neg h]; simp
def Gsz{t:List α}{b:α}(h:t.Nodup):(Vj t b).Nodup:=by
 unfold Vj
 by_cases hb:b∈t
 ·rw[if_pos hb]; exact h
 ·rw[if_neg hb]
  refine A6.mpr ⟨h,by simp,fun x hx y hy=>?_⟩
  rw[AQ.mp hy]
  exact fun e=>hb (e▸hx)
def Gpc{t:List α}{b:α}:∃ r,Vj t b=t++r:=by
 unfold Vj
 split
 ·exact⟨[],by simp⟩
 ·exact⟨[b],rfl⟩
def Yy{t:List α}{b:α}{bs:List α}:Qa t (b::bs)=Qa (Vj t b) bs:=rfl
def Get{t:List α}{b:α}{bs:List α}:Qa t (bs++[b])=Vj (Qa t bs) b:=by unfold Qa; rw[List.foldl_append]; rfl
def Ys:∀ {bs t:List α} {x:α},x∈Qa t bs↔x∈t\/x∈bs
 | [],t,x=>by simp[Qa]
 | b::bs,t,x=>by
  rw[Yy,Ys,Gpb,Ae]
  exact⟨fun h=>h.elim (fun h=>h.elim .inl fun e=>.inr (.inl e)) fun h=>.inr (.inr h),fun h=>h.elim (fun h=>.inl (.inl h)) fun h=>h.elim (fun e=>.inl (.inr e)) .inr⟩
def Gkh:∀ {bs t:List α},t.Nodup->(Qa t bs).Nodup
 | [],t,h=>h
 | b::bs,t,h=>by rw[Yy]; exact Gkh (Gsz h)
def Gaz:∀ {bs t:List α},∃ r,Qa t bs=t++r
 | [],t=>⟨[],by simp[Qa]⟩
 | b::bs,t=>by
  obtain⟨r,h⟩:=Gpc (t:=t) (b:=b)
  obtain⟨q,h2⟩:=Gaz (bs:=bs) (t:=Vj t b)
  exact⟨r++q,by rw[Yy,h2,h,AI]⟩
inductive Rch(step:α->List α)(s:α):α->Prop
 | nil:Rch step s s
 | cons {x y:α} (h:Rch step s x) (k:y∈step x):Rch step s y
structure Bf(step:α->List α)(s:α)(t:List α)(n:Nat):Prop where
 nd:t.Nodup
 hd:s∈t
 re:∀ x∈t,Rch step s x
 cl:∀ i,i<n->∀ x,t[i]?=some x->∀ b∈step x,b∈t
 le:n<=t.length
def Bf.one{step:α->List α}{s:α}:Bf step s [s] 0:=⟨by simp,by simp,fun x hx=>by rw[AQ.mp hx]; exact .nil,fun i h=>by omega,by simp⟩
def Bf.next{step:α->List α}{s x:α}{t:List α}{n:Nat}(h:Bf step s t n)(hx:t[n]?=some x):Bf step s (Qa t (step x)) (n+1):=by
 obtain⟨r,hr⟩:=Gaz (bs:=step x) (t:=t)
 have hn:=(Aa.mp hx).1
 refine⟨Gkh h.nd,Ys.mpr (.inl h.hd),fun y hy=>?_,fun i hi y hy b hb=>?_,by rw[hr]; simp; omega⟩
 ·rcases Ys.mp hy with hy | hy
  ·exact h.re y hy
  ·exact .cons (h.re x (Ap hx)) hy
 ·rw[hr,Ar (by omega)] at hy
  by_cases e:i=n
  ·subst e
   rw[hx] at hy
   cases hy
   exact Ys.mpr (.inr hb)
  ·exact Ys.mpr (.inl (h.cl i (by omega) y hy b hb))
end BF
namespace Law
open PySem PySem.Spec PyProof.Rows L2 DL
abbrev S3:=List Int×List Int×List Int
def stE(s:S3):D:=stD s.1 s.2.1 s.2.2
noncomputable def kS(s:S3):NK:=.t [.t (s.1.map .i),.t (s.2.1.map .i),.t (s.2.2.map .i)]
def Gki:∀ (l:List Int),nkOs (l.map D.int)=some (l.map NK.i)
 | []=>rfl
 | a::r=>by simp only[At,nkOs,nkO,Gki r,Ba,Option.map_some]
def Gkj(s:S3):nkO (stE s)=some (kS s):=by
 unfold stE stD kS
 simp only[nkO,nkOs,Gki,Ba,Option.map_some]
def Yz:∀ {l m:List Int},l.map NK.i=m.map NK.i->l=m
 | [],[],_=>rfl
 | [],_::_,h=>by simp at h
 | _::_,[],h=>by simp at h
 | a::r,b::q,h=>by
  simp only[At,List.cons.injEq,NK.i.injEq] at h
  rw[h.1,Yz h.2]
def Gpd{a b:S3}(h:kS a=kS b):a=b:=by
 obtain⟨a1,a2,a3⟩:=a
 obtain⟨b1,b2,b3⟩:=b
 simp only[kS,NK.t.injEq,List.cons.injEq,and_true] at h
 obtain⟨h1,h2,h3⟩:=h
 rw[Yz h1,Yz h2,Yz h3]
def Gkk:∀ (l:List Int),PyData.depthAll (pks (l.map NK.i))=0
 | []=>rfl
 | a::r=>by simp only[At,pks,pk,PyData.depthAll,PyData.depth,Gkk r]; rfl
def Gs0{a b:S3}(h:stE a=stE b):a=b:=by
 have:=Gkj a
 rw[h,Gkj b] at this
 exact(Gpd (Ac this)).symm
def Zx{s:S3}:Gg0 (stE s)=some (kS s):=by
 have e:Gg0 (stE s)=(match nkO (stE s) with | some κ=>if(pk κ).depth<=8 then some κ else none | none=>none):=rfl
 rw[e,Gkj]
 have:(pk (kS s)).depth<=8:=by
  simp only[kS,pk,pks,PyData.depth,PyData.depthAll,Gkk]
  decide
 simp only[this,if_true]
def Hbp{S:Sto}{f:Nat}{κ:NK}{x:D}{xs:List D}{neg:Bool}(e:S[f]?=some ⟨false,xs⟩)(k:Gg0 x=some κ):Gfe neg x (.dct f) S=.ok (.bl (if neg=true then !(dlook κ xs).isSome else(dlook κ xs).isSome)) S:=by
 simp only[Gfe,e,k,if_true]
def Gdm{S:Sto}{f:Nat}{κ:NK}{x z:D}{xs:List D}(e:S[f]?=some ⟨false,xs⟩)(k:Gg0 x=some κ)(h:dlook κ xs=none)(hl:xs.length<1000000):dsetD (.dct f) x z S=some (S.set f ⟨false,xs++[.tup [x,z]]⟩):=by
 have:dput κ x z xs=xs++[.tup [x,z]]:=by unfold dput; rw[h]; rfl
 simp only[dsetD,e,k,this,hl,and_self,if_true]
def Gpe{c:Ev Bool}{b:Sv}(p:Nat)(I:Nat->Lc->Sto->Prop)(hc:∀ j ρ S,j<p->I j ρ S->c ρ S=.ok true S)(hs:∀ j ρ S,j<p->I j ρ S->∃ ρ2 S2,b ρ S=.nx ρ2 S2/\I (j+1) ρ2 S2):
  ∀ (r j f:Nat) (ρ:Lc) (S:Sto),j+r=p->I j ρ S->∃ ρ' S',I p ρ' S'/\whN c b (f+r) ρ S=whN c b f ρ' S'
 | 0,j,f,ρ,S,e,h=>⟨ρ,S,by rw[<- e]; exact h,rfl⟩
 | r+1,j,f,ρ,S,e,h=>by
  obtain⟨ρ2,S2,e1,h2⟩:=hs j ρ S (by omega) h
  obtain⟨ρ',S',h3,e3⟩:=Gpe p I hc hs r (j+1) f ρ2 S2 (by omega) h2
  refine⟨ρ',S',h3,?_⟩
  rw[<- e3]
  show whN c b (f+r+1) ρ S=_
  rw[whN,hc j ρ S (by omega) h]
  simp only[bindS,if_true,e1]
def sdP(s:S3):D:=.tup [stE s,.bl true]
def Ga0{s:S3}:∀ {t:List S3},(dlook (kS s) (t.map sdP)).isSome=decide (s∈t)
 | []=>rfl
 | x::t=>by
  show(if nkO (stE x)=some (kS s) then some (D.bl true) else dlook (kS s) (t.map sdP)).isSome=_
  rw[Gkj]
  by_cases c:x=s
  ·subst c
   simp
  ·have:¬ some (kS x)=some (kS s):=fun z=>c (Gpd (Ac z))
   rw[if_neg this,Ga0 (t:=t)]
   have c':¬ s=x:=fun z=>c z.symm
   simp[c']
def Gbn{s:S3}{t:List S3}(h:s∉t):dlook (kS s) (t.map sdP)=none:=by
 have:=Ga0 (s:=s) (t:=t)
 rw[decide_eq_false h] at this
 exact Option.isNone_iff_eq_none.mp (by rw[Option.isNone_iff_eq_none]; exact Option.not_isSome_iff_eq_none.mp (by rw[this]; decide))
structure Cn(ps:List Pl)(us:List Bool):Prop where
 hp:∀ p∈ps,p.ok
 hl:ps.length<=13
 hu:us.length+1=ps.length
abbrev Gd(ps:List Pl)(s:S3):Prop:=StF ps s.1 s.2.1 s.2.2
def PR(ps:List Pl)(us:List Bool)(s:S3)(res:Wd×Nat->Res):Prop:=(∀ w k,k<ps.length->Rs ps us s.1 s.2.1 s.2.2 (ddOf (w,k)) (res (w,k)))/\∀ w,w≠.f->(res (w,us.length)).isY=false
open Classical in
noncomputable def resOf (ps:List Pl) (us:List Bool) (s:S3):Wd×Nat->Res:=if h:∃ res,PR ps us s res then Classical.choose h else fun _=>.no "NoGate"
open Classical in
noncomputable def bh (r:Res):S3:=if h:∃ s:S3,∃ p g:Int,r=.yes (.tup [stE s,.int p,.int g]) then Classical.choose h else([],[],[])
def Hbq{s:S3}{p g:Int}:bh (.yes (.tup [stE s,.int p,.int g]))=s:=by
 have h:∃ s':S3,∃ p' g':Int,Res.yes (.tup [stE s,.int p,.int g])=.yes (.tup [stE s',.int p',.int g']):=⟨s,p,g,rfl⟩
 unfold bh
 rw[dif_pos h]
 obtain⟨p',g',e⟩:=Classical.choose_spec h
 injection e with e
 injection e with e
 simp only[List.cons.injEq] at e
 exact(Gs0 e.1).symm
noncomputable def yesL (ps:List Pl) (us:List Bool) (s:S3):List (Wd×Nat):=(prP us.length ps.length).filter fun p=>(resOf ps us s p).isY
noncomputable def stepS (ps:List Pl) (us:List Bool) (s:S3):List S3:=(yesL ps us s).map fun p=>bh (resOf ps us s p)
section
variable{ps:List Pl}{us:List Bool}{s s0:S3}{S:Sto}
def Gf9(C:Cn ps us)(g:Gd ps s):PR ps us s (resOf ps us s):=by
 have h:∃ res,PR ps us s res:=Gsw C.hp C.hl C.hu g.toR g
 unfold resOf
 rw[dif_pos h]
 exact Classical.choose_spec h
def Gga(C:Cn ps us)(g:Gd ps s){p:Wd×Nat}(h:p∈yesL ps us s):∃ (s':S3) (pr ga:Int),resOf ps us s p=.yes (.tup [stE s',.int pr,.int ga])/\bh (resOf ps us s p)=s'/\Gd ps s'/\st4 (resOf ps us s) p=.tup [ddOf p,stE s',.int pr,.int ga]:=by
 obtain⟨hp,hy⟩:=Bh.mp h
 have rs:=(Gf9 C g).1 p.1 p.2 (Git (by have:=C.hu; omega) hp)
 have kd:=rs.kd
 cases hres:resOf ps us s p with
 | no y=>rw[hres] at hy; cases hy
 | yes d=>
  rw[show(p.1,p.2)=p from rfl,hres] at kd
  cases kd with
  | yes hst hp0 hg0=>
   rename_i A B C' a g'
   refine⟨(A,B,C'),a,g',rfl,Hbq (s:=(A,B,C')),hst,?_⟩
   show D.tup (ddOf p::(resOf ps us s p).three)=_
   rw[hres]
   rfl
def Gs1(C:Cn ps us)(g:Gd ps s){x:S3}(h:x∈stepS ps us s):Gd ps x:=by
 obtain⟨p,hp,rfl⟩:=AK.mp h
 obtain⟨s',_,_,_,e,h',_⟩:=Gga C g hp
 rw[e]; exact h'
def Gpf(C:Cn ps us)(g:Gd ps s0){x:S3}(h:BF.Rch (stepS ps us) s0 x):Gd ps x:=by
 induction h with
 | nil=>exact g
 | cons _ k ih=>exact Gs1 C ih k
def Gkl:(yesL ps us s).length<=us.length+ps.length+us.length+us.length:=by
 have:=Be (fun p=>(resOf ps us s p).isY) (prP us.length ps.length)
 rw[Gkg] at this
 exact this
def Gs2(C:Cn ps us)(g:Gd ps s):yesL ps us s=(prL ps.length).filter fun p=>(resOf ps us s p).isY:=by
 have:=Gsx (res:=resOf ps us s) (m:=us.length) (Gf9 C g).2
 unfold yesL
 rw[<- C.hu]
 exact this
def Ghh(C:Cn ps us)(g:Gd ps s):∃ S',Ud [cD ps us,stE s,.fv "deed_done"] S=.ok (.lst S.length) S'/\S'[S.length]?=some ⟨false,(yesL ps us s).map (st4 (resOf ps us s))⟩/\Ex S S':=Gpa C.hl C.hu (Gf9 C g).1
end
end Law
namespace Law
open PySem PySem.Spec PyProof.Rows L2 DL BF
variable{k a j f q m y n N z:Nat}{tl xs:List D}{p:Wd×Nat}{S' S0 S SB:Sto}{lim v de ro:Int}{x7 x5 x4:BC D}{ρ:Lc}{w:Wd}
section
variable{ps:List Pl}{us:List Bool}{s s0 x:S3}{S:Sto}{t:List S3}{n:Nat}
def Tw(ps:List Pl)(us:List Bool)(t:List S3)(k:Nat)(s:S3)(a b:D):Prop:=
 (k=0/\a=.non/\b=.non)\/(∃ (j:Nat) (p:Wd×Nat) (sj:S3),j<k/\t[j]?=some sj/\p∈yesL ps us sj/\bh (resOf ps us sj p)=s/\a=.int (j:Int)/\b=ddOf p)
structure Tl(ps:List Pl)(us:List Bool)(t:List S3)(tl:List D):Prop where
 len:tl.length=t.length
 at':∀ (k:Nat) (s:S3),t[k]?=some s->∃ a b,tl[k]?=some (.tup [stE s,a,b])/\Tw ps us t k s a b
def Tw.app{r:List S3}{a b:D}(h:Tw ps us t k s a b):Tw ps us (t++r) k s a b:=by
 rcases h with h | ⟨j,p,sj,h1,h2,h3⟩
 ·exact .inl h
 ·exact .inr ⟨j,p,sj,h1,by rw[Ar (Aa.mp h2).1]; exact h2,h3⟩
def Tl.snoc(h:Tl ps us t tl)(hj:t[j]?=some x)(hp:p∈yesL ps us x)(e:bh (resOf ps us x p)=s):Tl ps us (t++[s]) (tl++[.tup [stE s,.int (j:Int),ddOf p]]):=by
 have jl:=(Aa.mp hj).1
 refine⟨by simp[h.len],fun k s' hk=>?_⟩
 by_cases c:k<t.length
 ·rw[Ar c] at hk
  obtain⟨a,b,h1,h2⟩:=h.at' k s' hk
  exact⟨a,b,by rw[Ar (by rw[h.len]; exact c)]; exact h1,h2.app⟩
 ·have ek:k=t.length:=by
   have:=(Aa.mp hk).1
   simp at this; omega
  subst ek
  rw[A0 (Ab _)] at hk
  simp at hk
  subst hk
  refine⟨.int (j:Int),ddOf p,?_,.inr ⟨j,p,x,jl,by rw[Ar jl]; exact hj,hp,e,rfl,rfl⟩⟩
  rw[A0 (by rw[h.len]; exact Ab _),h.len]
  simp
abbrev rm(ps:List Pl)(us:List Bool)(s0:S3)(lim:Int)(a f:Nat)(n:Nat)(x7 x8 x9 x10:BC D):Lc:=[some (cD ps us),some (stE s0),some (.int lim),some (.fv "deed_done"),some (.lst a),some (.dct f),some (.int n),x7,x8,x9,x10]
structure K2(a f:Nat)(S S':Sto):Prop where
 len:S.length<=S'.length
 get:∀ i,i<S.length->i≠a->i≠f->S'[i]?=S[i]?
def K2.refl:K2 a f S S:=⟨Ab _,fun _ _ _ _=>rfl⟩
def K2.trans{S1 S2:Sto}(h:K2 a f S S1)(g:K2 a f S1 S2):K2 a f S S2:=⟨Aj h.len g.len,fun i hi h1 h2=>(g.get i (Ai hi h.len) h1 h2).trans (h.get i hi h1 h2)⟩
def K2.set{i:Nat}{c:Cell}(h:i=a\/i=f):K2 a f S (S.set i c):=⟨by simp,fun j _ h1 h2=>by rw[Ad]; rcases h with h | h<;>(subst h; first | exact Ne.symm h1 | exact Ne.symm h2)⟩
def Ex.k2(h:Ex S S'):K2 a f S S':=⟨h.len,fun i hi _ _=>h.get i hi⟩
def K2.at{i:Nat}{c:Cell}(h:K2 a f S S')(e:S[i]?=some c)(h1:i≠a)(h2:i≠f):S'[i]?=some c:=(h.get i (Aa.mp e).1 h1 h2).trans e
def K2.ex(x:Ex S0 S)(h:K2 a f S S')(ha:S0.length<=a)(hf:S0.length<=f):Ex S0 S':=⟨Aj x.len h.len,fun i hi=>(h.get i (Ai hi x.len) (by omega) (by omega)).trans (x.get i hi)⟩
def Gs3(C:Cn ps us)(g:Gd ps x)(hp:p∈yesL ps us x)(hx:t[n]?=some x)(ha:S[a]?=some ⟨false,tl⟩)(hf:S[f]?=some ⟨false,t.map sdP⟩)(ne:a≠f)(T:Tl ps us t tl)(hl:t.length<10000){pr ga:D}:
  ∃ S' tl',Ko (rm ps us s0 lim a f n (some (ddOf p)) (some (stE (bh (resOf ps us x p)))) (some pr) (some ga)) S=.nx (rm ps us s0 lim a f n (some (ddOf p)) (some (stE (bh (resOf ps us x p)))) (some pr) (some ga)) S'/\S'[a]?=some ⟨false,tl'⟩/\S'[f]?=some ⟨false,(Vj t (bh (resOf ps us x p))).map sdP⟩/\Tl ps us (Vj t (bh (resOf ps us x p))) tl'/\K2 a f S S':=by
 generalize hs:bh (resOf ps us x p)=s'
 have iq:=Hbp (neg:=true) hf (Zx (s:=s'))
 rw[Ga0] at iq
 simp only[if_true] at iq
 by_cases c:s'∈t
 ·have e1:Vj t s'=t:=if_pos c
  rw[e1]
  refine⟨S,tl,?_,ha,hf,T,K2.refl⟩
  generalize stE s'=sd at *
  generalize stE s0=sd0 at *
  generalize cD ps us=cd at *
  generalize ddOf p=dp at *
  simp[Ko,iq,c]
 ·have e1:Vj t s'=t++[s']:=if_neg c
  rw[e1]
  have ds:=Gdm (z:=.bl true) hf (Zx (s:=s')) (Gbn c) (by simp; omega)
  have lf:f<S.length:=(Aa.mp hf).1
  have e2:t.map sdP++[.tup [stE s',.bl true]]=(t++[s']).map sdP:=by simp[sdP]
  rw[e2] at ds
  have f1:(S.set f ⟨false,(t++[s']).map sdP⟩)[f]?=some ⟨false,(t++[s']).map sdP⟩:=Ah lf
  have a1:(S.set f ⟨false,(t++[s']).map sdP⟩)[a]?=some ⟨false,tl⟩:=by rw[Ad (Ne.symm ne)]; exact ha
  have k1:K2 a f S (S.set f ⟨false,(t++[s']).map sdP⟩):=K2.set (.inr rfl)
  generalize S.set f ⟨false,(t++[s']).map sdP⟩=S1 at *
  have la:a<S1.length:=(Aa.mp a1).1
  have ap:=apd (d:=.tup [stE s',.int (n:Int),ddOf p]) a1 (by rw[T.len]; omega)
  have il:isLst (.lst a) S1=true:=by simp[isLst,a1]
  refine⟨S1.set a ⟨false,tl++[.tup [stE s',.int (n:Int),ddOf p]]⟩,tl++[.tup [stE s',.int (n:Int),ddOf p]],?_,Ah la,by rw[Ad ne]; exact f1,T.snoc hx hp hs,k1.trans (K2.set (.inl rfl))⟩
  generalize (⟨false,tl++[.tup [stE s',.int (n:Int),ddOf p]]⟩:Cell)=cc at *
  generalize stE s'=sd at *
  generalize stE s0=sd0 at *
  generalize cD ps us=cd at *
  generalize ddOf p=dp at *
  simp[Ko,iq,c,ds,il,ap]
abbrev g4m:Tg:=gt (gcons (gn 7) (gcons (gn 8) (gcons (gn 9) (gcons (gn 10) gnil)))) 4
def Gyp(C:Cn ps us)(g:Gd ps x){x8 x9 x10:BC D}(hx:t[n]?=some x)(ha:S[a]?=some ⟨false,tl⟩)(hf:S[f]?=some ⟨false,t.map sdP⟩)(hq:S[q]?=some ⟨false,(yesL ps us x).map (st4 (resOf ps us x))⟩)(ne:a≠f)(qa:q≠a)(qf:q≠f)(T:Tl ps us t tl)(hl:t.length<=9000):
  ∃ S' tl' y7 y8 y9 y10,Kb (Wk q (yesL ps us x).length).nxt g4m Ko ((yesL ps us x).length+1) 0 (rm ps us s0 lim a f n x7 x8 x9 x10) S=.nx (rm ps us s0 lim a f n y7 y8 y9 y10) S'/\S'[a]?=some ⟨false,tl'⟩/\S'[f]?=some ⟨false,(Qa t (stepS ps us x)).map sdP⟩/\Tl ps us (Qa t (stepS ps us x)) tl'/\K2 a f S S':=by
 have yl:=Gkl (ps:=ps) (us:=us) (s:=x)
 have h13:=C.hl
 have hu:=C.hu
 have lnA:∀ k,(Qa t ((stepS ps us x).take k)).length<=9000+52:=fun k=>by
  have len1:∀ (bs t:List S3),(Qa t bs).length<=t.length+bs.length:=fun bs=>by
   induction bs with
   | nil=>intro t; simp[Qa]
   | cons b bs ih=>
    intro t
    rw[Yy]
    have:=ih (Vj t b)
    have h1:(Vj t b).length<=t.length+1:=by unfold Vj; split<;>simp
    simp
    omega
  have:=len1 ((stepS ps us x).take k) t
  have h2:((stepS ps us x).take k).length<=(stepS ps us x).length:=by rw[AW]; omega
  have h3:(stepS ps us x).length=(yesL ps us x).length:=by simp[stepS]
  omega
 obtain⟨ρ',S',ef,y7,y8,y9,y10,tl',hρ,h1,h2,h3,h4⟩:=Uj (nxt:=(Wk q (yesL ps us x).length).nxt) (g:=g4m) (b:=Ko) (l:=(yesL ps us x).map (st4 (resOf ps us x)))
  (fun k ρ S'=>∃ y7 y8 y9 y10 tl',ρ=rm ps us s0 lim a f n y7 y8 y9 y10/\S'[a]?=some ⟨false,tl'⟩/\S'[f]?=some ⟨false,(Qa t ((stepS ps us x).take k)).map sdP⟩/\Tl ps us (Qa t ((stepS ps us x).take k)) tl'/\K2 a f S S')
  (fun k ρ S' ⟨_,_,_,_,_,_,_,_,_,h⟩=>by
   show(S'[q]?).bind (fun c=>c.xs[k]?)=_
   rw[h.at hq qa qf]; rfl)
  (fun k d ρ S' hd ⟨y7,y8,y9,y10,tl',e,h1,h2,h3,h4⟩=>by
   subst e
   rw[As] at hd
   cases hk:(yesL ps us x)[k]? with
   | none=>rw[hk] at hd; cases hd
   | some p=>
    rw[hk] at hd
    have hd:=Ac hd
    have hp:=Ap hk
    obtain⟨s',pr,ga,e1,e2,_,e4⟩:=Gga C g hp
    rw[e4] at hd
    subst hd
    obtain⟨r,hr⟩:=Gaz (bs:=(stepS ps us x).take k) (t:=t)
    have hx':(Qa t ((stepS ps us x).take k))[n]?=some x:=by rw[hr,Ar (Aa.mp hx).1]; exact hx
    have ln:=lnA k
    obtain⟨S2,tl2,b1',b2,b3,b4,b5⟩:=Gs3 (s0:=s0) (lim:=lim) (n:=n) (S:=S') (pr:=.int pr) (ga:=.int ga) C g hp hx' h1 h2 ne h3 (by omega)
    have tk:Qa t ((stepS ps us x).take (k+1))=Vj (Qa t ((stepS ps us x).take k)) (bh (resOf ps us x p)):=by
     rw[<- Get,A5]
     congr 1
     congr 1
     unfold stepS
     rw[As,hk]
     rfl
    rw[tk]
    rw[e2] at b1' b3 b4 ⊢
    exact⟨rm ps us s0 lim a f n (some (ddOf p)) (some (stE s')) (some (.int pr)) (some (.int ga)),_,S2,rfl,b1',_,_,_,_,tl2,rfl,b2,b3,b4,h4.trans b5⟩)
  ((yesL ps us x).length+1) 0 (rm ps us s0 lim a f n x7 x8 x9 x10) S (AB _) ⟨x7,x8,x9,x10,tl,rfl,ha,hf,T,K2.refl⟩ (by simp)
 have tkl:(stepS ps us x).take (((yesL ps us x).map (st4 (resOf ps us x))).length)=stepS ps us x:=Bx (by simp[stepS])
 rw[tkl] at h2 h3
 subst hρ
 exact⟨S',tl',y7,y8,y9,y10,ef,h1,h2,h3,h4⟩
end
section
variable{ps:List Pl}{us:List Bool}{s s0 x:S3}{S:Sto}{n:Nat}
noncomputable def bq (ps:List Pl) (us:List Bool) (s0:S3):Nat->List S3
 | 0=>[s0]
 | n+1=>match (bq ps us s0 n)[n]? with
  | some x=>Qa (bq ps us s0 n) (stepS ps us x)
  | none=>bq ps us s0 n
def Gce(h:(bq ps us s0 n)[n]?=some x):bq ps us s0 (n+1)=Qa (bq ps us s0 n) (stepS ps us x):=by
 show(match (bq ps us s0 n)[n]? with | some x=>Qa (bq ps us s0 n) (stepS ps us x) | none=>bq ps us s0 n)=_
 rw[h]
def Gyq:∃ r,bq ps us s0 (n+1)=bq ps us s0 n++r:=by
 cases h:(bq ps us s0 n)[n]? with
 | some x=>rw[Gce h]; exact Gaz
 | none=>
  refine⟨[],?_⟩
  show(match (bq ps us s0 n)[n]? with | some x=>Qa (bq ps us s0 n) (stepS ps us x) | none=>bq ps us s0 n)=_
  rw[h]; simp
def Gkm(d:Nat):∃ r,bq ps us s0 (n+d)=bq ps us s0 n++r:=by
 induction d with
 | zero=>exact⟨[],by simp⟩
 | succ d ih=>
  obtain⟨r,h⟩:=ih
  obtain⟨q,h2⟩:=Gyq (ps:=ps) (us:=us) (s0:=s0) (n:=n+d)
  exact⟨r++q,by rw[show n+(d+1)=n+d+1 from rfl,h2,h,AI]⟩
def Gpg(h:n<=m):(bq ps us s0 n).length<=(bq ps us s0 m).length:=by
 obtain⟨r,e⟩:=Gkm (ps:=ps) (us:=us) (s0:=s0) (n:=n) (m-n)
 rw[show n+(m-n)=m by omega] at e
 rw[e]; simp
def Geu:∀ n,(∀ j,j<n->j<(bq ps us s0 j).length)->Bf (stepS ps us) s0 (bq ps us s0 n) n
 | 0,_=>Bf.one
 | n+1,h=>by
  have hn:=Af (h n (by omega))
  rw[Gce hn]
  exact(Geu n (fun j hj=>h j (by omega))).next hn
structure Dn(ps:List Pl)(us:List Bool)(s0:S3)(m:Nat):Prop where
 len:(bq ps us s0 m).length=m
 go:∀ j,j<m->j<(bq ps us s0 j).length
def Dn.gd(d:Dn ps us s0 m)(C:Cn ps us)(g:Gd ps s0)(hj:j<=m){x:S3}(hx:x∈bq ps us s0 j):Gd ps x:=Gpf C g ((Geu j (fun i hi=>d.go i (by omega))).re x hx)
abbrev E0(ps:List Pl)(us:List Bool)(s0:S3)(lim:Int):Lc:=[some (cD ps us),some (stE s0),some (.int lim),some (.fv "deed_done"),none,none,none,none,none,none,none]
def IM(S0:Sto)(ps:List Pl)(us:List Bool)(s0:S3)(lim:Int)(j:Nat)(ρ:Lc)(S:Sto):Prop:=
 ∃ tl x7 x8 x9 x10,ρ=rm ps us s0 lim S0.length (S0.length+1) j x7 x8 x9 x10/\S[S0.length]?=some ⟨false,tl⟩/\S[S0.length+1]?=some ⟨false,(bq ps us s0 j).map sdP⟩/\Tl ps us (bq ps us s0 j) tl/\Ex S0 S
def Gcf(h:IM S0 ps us s0 lim j ρ S):Kq ρ S=.ok (decide (j<(bq ps us s0 j).length)) S:=by
 obtain⟨tl,x7,x8,x9,x10,rfl,ha,_,T,_⟩:=h
 have ln:=Va ha
 simp only[T.len] at ln
 generalize (bq ps us s0 j).length=m at *
 unfold rm
 generalize stE s0=sd0 at *
 generalize cD ps us=cd at *
 simp[Kq,ln]
def Gkn(C:Cn ps us)(h:IM S0 ps us s0 lim j ρ S)(hx:(bq ps us s0 j)[j]?=some x)(g:Gd ps x)(hl:((bq ps us s0 j).length:Int)<=lim)(h9:(bq ps us s0 j).length<=9000):∃ ρ2 S2,Ju ρ S=.nx ρ2 S2/\IM S0 ps us s0 lim (j+1) ρ2 S2:=by
 obtain⟨tl,x7,x8,x9,x10,rfl,ha,hf,T,ex⟩:=h
 have ln:=Va ha
 simp only[T.len] at ln
 obtain⟨a',b',ht,_⟩:=T.at' j x hx
 have gj:DL.getD (.lst S0.length) (.int (j:Int)) S=.ok (.tup [stE x,a',b']) S:=Jr ha (Ha (by omega) (by rw[AG]; exact ht))
 obtain⟨S1,e1,q1,x1⟩:=Ghh (S:=S) C g
 have la:S0.length<S.length:=(Aa.mp ha).1
 have lf:S0.length+1<S.length:=(Aa.mp hf).1
 obtain⟨S2,tl2,y7,y8,y9,y10,e2,a2,f2,T2,k2⟩:=Gyp (s0:=s0) (lim:=lim) (x7:=x7) (x8:=x8) (x9:=x9) (x10:=x10) C g hx (x1.at ha) (x1.at hf) q1 (by omega) (by omega) (by omega) T h9
 rw[<- Gce hx] at f2 T2
 have hn:¬ lim<((bq ps us s0 j).length:Int):=by omega
 have sr:=Gbz q1
 simp only[Am] at sr
 refine⟨rm ps us s0 lim S0.length (S0.length+1) (j+1) y7 y8 y9 y10,S2,?_,tl2,y7,y8,y9,y10,rfl,a2,f2,T2,(K2.ex (ex.trans x1) k2 (Ab _) (by omega))⟩
 have f1:(sif (tb (o2 gtD (b1 Gy (ac (vr 4) an)) (vr 2))) (srs "TooMany" (ac (cn (.str "more stands are met than the limit")) an)) DL.skip) (rm ps us s0 lim S0.length (S0.length+1) j x7 x8 x9 x10) S=.nx (rm ps us s0 lim S0.length (S0.length+1) j x7 x8 x9 x10) S:=by
  generalize (bq ps us s0 j).length=m at *
  unfold rm
  generalize stE s0=sd0 at *
  generalize cD ps us=cd at *
  simp[ln,hn]
 have f3:(sfor (isrc (cl 3 (Gi Ud) (ac (vr 0) (ac (o2 DL.getD (o2 DL.getD (vr 4) (vr 6)) (cn (.int 0))) (ac (vr 3) an))))) g4m Ko) (rm ps us s0 lim S0.length (S0.length+1) j x7 x8 x9 x10) S=.nx (rm ps us s0 lim S0.length (S0.length+1) j y7 y8 y9 y10) S2:=by
  have ec:cl 3 (Gi Ud) (ac (vr 0) (ac (o2 DL.getD (o2 DL.getD (vr 4) (vr 6)) (cn (.int 0))) (ac (vr 3) an))) (rm ps us s0 lim S0.length (S0.length+1) j x7 x8 x9 x10) S=.ok (.lst S.length) S1:=by
   unfold rm
   generalize stE x=sx at *
   generalize stE s0=sd0 at *
   generalize cD ps us=cd at *
   simp[gj,p0e,e1]
  rw[Vh,Vw,ec,Gx,sr,Hq]
  exact e2
 show sq _ (sq _ _) _ S=_
 rw[Jf f1,Jf f3]
 have:((j+1:Nat):Int)=(j:Int)+1:=by push_cast; rfl
 unfold rm
 rw[this]
 generalize stE s0=sd0 at *
 generalize cD ps us=cd at *
 simp
def Gph(h:IM S0 ps us s0 lim j ρ S)(hl:lim<((bq ps us s0 j).length:Int)):Ju ρ S=.exc ⟨"TooMany",none⟩ ρ S:=by
 obtain⟨tl,x7,x8,x9,x10,rfl,ha,hf,T,ex⟩:=h
 have ln:=Va ha
 simp only[T.len] at ln
 generalize (bq ps us s0 j).length=m at *
 unfold rm
 generalize stE s0=sd0 at *
 generalize cD ps us=cd at *
 simp[Ju,ln,hl,srs]
def Gko:∃ S',IM S ps us s0 lim 0 (rm ps us s0 lim S.length (S.length+1) 0 none none none none) S'/\∀ X:Sv,fin ((sq (sa (ls (ac (tp (ac (vr 1) (ac (cn .non) (ac (cn .non) an)))) an)) (gn 4)) (sq (sa (Zd (vr 1) (cn (.bl true))) (gn 5)) (sq (sa (cn (.int 0)) (gn 6)) X))) (E0 ps us s0 lim) S)=fin (X (rm ps us s0 lim S.length (S.length+1) 0 none none none none) S'):=by
 have q1:(S++[⟨false,[.tup [stE s0,.non,.non]]⟩])[S.length]?=some ⟨false,[.tup [stE s0,.non,.non]]⟩:=Gs
 have l1:(S++[(⟨false,[.tup [stE s0,.non,.non]]⟩:Cell)]).length=S.length+1:=by simp
 have x1:Ex S (S++[⟨false,[.tup [stE s0,.non,.non]]⟩]):=Ex.app
 have s1:sa (ls (ac (tp (ac (vr 1) (ac (cn .non) (ac (cn .non) an)))) an)) (gn 4) (E0 ps us s0 lim) S=.nx ((E0 ps us s0 lim).set 4 (some (.lst S.length))) (S++[⟨false,[.tup [stE s0,.non,.non]]⟩]):=by
  unfold E0
  generalize stE s0=sd0 at *
  generalize cD ps us=cd at *
  simp
 generalize S++[(⟨false,[.tup [stE s0,.non,.non]]⟩:Cell)]=S1 at *
 have q2:(S1++[⟨false,[]⟩])[S1.length]?=some ⟨false,[]⟩:=Gs
 have ds:=Gdm (z:=.bl true) q2 (Zx (s:=s0)) rfl (by simp)
 have lq:S1.length<(S1++[(⟨false,[]⟩:Cell)]).length:=by simp
 have s2:sa (Zd (vr 1) (cn (.bl true))) (gn 5) ((E0 ps us s0 lim).set 4 (some (.lst S.length))) S1=.nx (((E0 ps us s0 lim).set 4 (some (.lst S.length))).set 5 (some (.dct S1.length))) ((S1++[(⟨false,[]⟩:Cell)]).set S1.length ⟨false,[]++[.tup [stE s0,.bl true]]⟩):=by
  unfold E0
  generalize (S1++[(⟨false,[]⟩:Cell)]).set S1.length ⟨false,[]++[.tup [stE s0,.bl true]]⟩=SS at *
  generalize stE s0=sd0 at *
  generalize cD ps us=cd at *
  simp[Zd,ds]
 have q3:((S1++[(⟨false,[]⟩:Cell)]).set S1.length ⟨false,[]++[.tup [stE s0,.bl true]]⟩)[S1.length]?=some ⟨false,[sdP s0]⟩:=Ah lq
 have x3:Ex S1 ((S1++[(⟨false,[]⟩:Cell)]).set S1.length ⟨false,[]++[.tup [stE s0,.bl true]]⟩):=Ex.app.setq (Ab _)
 generalize (S1++[(⟨false,[]⟩:Cell)]).set S1.length ⟨false,[]++[.tup [stE s0,.bl true]]⟩=S2 at *
 rw[l1] at q3 s2
 refine⟨S2,⟨[.tup [stE s0,.non,.non]],none,none,none,none,rfl,x3.at q1,q3,⟨rfl,fun k s hk=>?_⟩,x1.trans x3⟩,fun X=>?_⟩
 ·cases k with
  | zero=>
   cases (Ac hk)
   exact⟨.non,.non,rfl,.inl ⟨rfl,rfl,rfl⟩⟩
  | succ k=>simp[bq] at hk
 ·refine(Ge s1).trans ((Ge s2).trans ?_)
  refine(Ge (ρ':=rm ps us s0 lim S.length (S.length+1) 0 none none none none) (S':=S2) ?_)
  simp
def Gyr(C:Cn ps us)(g:Gd ps s0)(d:Dn ps us s0 m)(h1:(m:Int)<=lim)(h2:m<=2000):∃ tl S',Wv [cD ps us,stE s0,.int lim,.fv "deed_done"] S=.ok (.lst S.length) S'/\S'[S.length]?=some ⟨false,tl⟩/\Tl ps us (bq ps us s0 m) tl/\Ex S S':=by
 obtain⟨S1,I1,hX⟩:=Gko (S:=S) (ps:=ps) (us:=us) (s0:=s0) (lim:=lim)
 have le:∀ j,j<=m->(bq ps us s0 j).length<=m:=fun j hj=>by have:=Gpg (ps:=ps) (us:=us) (s0:=s0) hj; rw[d.len] at this; exact this
 obtain⟨ρ',S',hI,ew⟩:=Gpe (c:=Kq) (b:=Ju) m (IM S ps us s0 lim) (fun j ρ S' hj h=>by rw[Gcf h,decide_eq_true (d.go j hj)])
  (fun j ρ S' hj h=>by
   have hx:=Af (d.go j hj)
   have l:=le j (by omega)
   exact Gkn C h hx (d.gd C g (Bj hj) (Ap hx)) (by omega) (by omega)) m 0 (3000-m) _ S1 (by omega) I1
 have ef:3000-m+m=3000:=by omega
 rw[ef] at ew
 have et:=Gcf hI
 rw[d.len,decide_eq_false (AA m)] at et
 obtain⟨f,ff⟩:∃ f,3000-m=f+1:=⟨3000-m-1,by omega⟩
 have ew2:whN Kq Ju (3000-m) ρ' S'=.nx ρ' S':=by
  rw[ff,whN,et]
  simp only[bindS,Ay,if_false]
 have ew:=ew.trans ew2
 obtain⟨tl,x7,x8,x9,x10,rfl,ha,hf,T,ex⟩:=hI
 refine⟨tl,S',?_,ha,T,ex⟩
 unfold Wv
 rw[Go]
 simp only[Gar]
 refine(hX _).trans ?_
 refine(Ge ew).trans ?_
 simp
def Gys(C:Cn ps us)(g:Gd ps s0)(d:Dn ps us s0 m)(h1:lim<(m:Int))(h2:m<=2000)(h0:1<=lim):∃ S',Wv [cD ps us,stE s0,.int lim,.fv "deed_done"] S=.exc ⟨"TooMany",none⟩ S'/\Ex S S':=by
 obtain⟨S1,I1,hX⟩:=Gko (S:=S) (ps:=ps) (us:=us) (s0:=s0) (lim:=lim)
 have le:∀ j,j<=m->(bq ps us s0 j).length<=m:=fun j hj=>by have:=Gpg (ps:=ps) (us:=us) (s0:=s0) hj; rw[d.len] at this; exact this
 obtain⟨p,hp1,hp2,hp3⟩:∃ p,p<m/\lim<((bq ps us s0 p).length:Int)/\∀ j,j<p->((bq ps us s0 j).length:Int)<=lim:=by
  have main:∀ n,(n<m/\lim<((bq ps us s0 n).length:Int))->∃ p,p<m/\lim<((bq ps us s0 p).length:Int)/\∀ j,j<p->((bq ps us s0 j).length:Int)<=lim:=by
   intro n
   induction n using Nat.strongRecOn with
   | _ n ih=>
    intro h
    by_cases c:∃ j,j<n/\lim<((bq ps us s0 j).length:Int)
    ·obtain⟨j,c1,c2⟩:=c
     exact ih j c1 ⟨by omega,c2⟩
    ·exact⟨n,h.1,h.2,fun j hj=>Int.not_lt.mp fun z=>c ⟨j,hj,z⟩⟩
  have:=d.go (m-1) (by omega)
  exact main (m-1) ⟨by omega,by omega⟩
 obtain⟨ρ',S',hI,ew⟩:=Gpe (c:=Kq) (b:=Ju) p (IM S ps us s0 lim) (fun j ρ S' hj h=>by rw[Gcf h,decide_eq_true (d.go j (by omega))])
  (fun j ρ S' hj h=>by
   have hx:=Af (d.go j (show j<m by omega))
   have l:=le j (by omega)
   exact Gkn C h hx (d.gd C g (show j<=m by omega) (Ap hx)) (hp3 j hj) (by omega)) p 0 (3000-p) _ S1 (by omega) I1
 have ef:3000-p+p=3000:=by omega
 rw[ef] at ew
 have et:=Gcf hI
 rw[decide_eq_true (d.go p hp1)] at et
 have er:=Gph hI hp2
 obtain⟨f,ff⟩:∃ f,3000-p=f+1:=⟨3000-p-1,by omega⟩
 have ew2:whN Kq Ju (3000-p) ρ' S'=.exc ⟨"TooMany",none⟩ ρ' S':=by
  rw[ff,whN,et]
  simp only[bindS,if_true,er]
 have ew:=ew.trans ew2
 obtain⟨tl,x7,x8,x9,x10,rfl,ha,hf,T,ex⟩:=hI
 refine⟨S',?_,ex⟩
 unfold Wv
 rw[Go]
 simp only[Gar]
 refine(hX _).trans ?_
 rw[Gby,ew]
 rfl
end
def Giu{nxt:Nat->Sto->BC D}{g:Tg}{b:Sv}{l:List D}(I:Nat->Lc->Sto->Prop)(P:D->Sto->Prop)(hn:∀ k ρ S,I k ρ S->nxt k S=l[k]?)
  (hs:∀ k d ρ S,l[k]?=some d->I k ρ S->∃ ρ1,g d ρ=some ρ1/\((∃ ρ2 S2,(b ρ1 S=.nx ρ2 S2\/b ρ1 S=.ct ρ2 S2)/\I (k+1) ρ2 S2)\/∃ r S2,b ρ1 S=.rt r S2/\P r S2)):
  ∀ (n k:Nat) (ρ:Lc) (S:Sto),k<=l.length->I k ρ S->l.length<n+k→
   (∃ ρ' S',Kb nxt g b n k ρ S=.nx ρ' S'/\I l.length ρ' S')\/∃ r S',Kb nxt g b n k ρ S=.rt r S'/\P r S'
 | 0,k,ρ,S,h1,_,h2=>by omega
 | n+1,k,ρ,S,h1,hI,h2=>by
  unfold Kb
  rw[hn k ρ S hI]
  cases z:l[k]? with
  | none=>
   have:k=l.length:=by have:=A2.mp z; omega
   subst this
   exact .inl ⟨ρ,S,rfl,hI⟩
  | some d=>
   have hk:k<l.length:=(Aa.mp z).1
   obtain⟨ρ1,e1,h⟩:=hs k d ρ S z hI
   rcases h with⟨ρ2,S2,e2 | e2,hI2⟩ | ⟨r,S2,e2,p⟩
   ·simp only[e1,e2]
    exact Giu I P hn hs n (k+1) ρ2 S2 hk hI2 (by omega)
   ·simp only[e1,e2]
    exact Giu I P hn hs n (k+1) ρ2 S2 hk hI2 (by omega)
   ·simp only[e1,e2]
    exact .inr ⟨r,S2,rfl,p⟩
section
variable{ps:List Pl}{us:List Bool}{s s0 x:S3}{S:Sto}{n:Nat}
noncomputable def canD (ps:List Pl) (us:List Bool) (s:S3) (p:Wd×Nat):D:=.tup [ddOf p,(resOf ps us s p).toD]
abbrev rc(ps:List Pl)(us:List Bool)(s:S3)(q:Nat)(x3 x4 x5:BC D):Lc:=[some (cD ps us),some (stE s),some (.lst q),x3,x4,x5]
def Gs4(C:Cn ps us)(g:Gd ps s)(hk:k<ps.length)(hq:S[q]?=some ⟨false,xs⟩)(hx:xs.length<1000):
  ∃ S' y5,Qf (rc ps us s q (some w.toD) (some (.int k)) x5) S=.nx (rc ps us s q (some w.toD) (some (.int k)) y5) S'/\S'[q]?=some ⟨false,xs++([(w,k)].filter fun p=>(resOf ps us s p).isY).map (canD ps us s)⟩/\K2 q q S S':=by
 have rs:=(Gf9 C g).1 w k hk
 obtain⟨S1,e1,x1⟩:=rs.due S
 have e1:Hy [cD ps us,stE s,.tup [w.toD,.int k]] S=.ok (resOf ps us s (w,k)).toD S1:=e1
 have q1:=x1.at hq
 have il:isLst (.lst q) S1=true:=by simp[isLst,q1]
 have lq:q<S1.length:=(Aa.mp q1).1
 have kd:=rs.kd
 cases hres:resOf ps us s (w,k) with
 | no y=>
  rw[hres] at kd e1
  cases kd with
  | no hy=>
   obtain⟨v,hv⟩:=Go6 hy
   have hy0:([(w,k)].filter fun p=>(resOf ps us s p).isY)=[]:=by simp[hres,Res.isY]
   rw[hy0]
   refine⟨S1,some (.str v),?_,by simpa using q1,x1.k2⟩
   have e1:Hy [cD ps us,stE s,.tup [w.toD,.int k]] S=.ok (.str v) S1:=by rw[e1]; show Out.ok (Xp y) S1=_; rw[hv]
   unfold rc
   generalize stE s=sd at *
   generalize cD ps us=cd at *
   generalize w.toD=wdd at *
   simp[Qf,e1,isD,isT,tyN,Vq]
 | yes d=>
  rw[hres] at kd e1
  have hy1:([(w,k)].filter fun p=>(resOf ps us s p).isY)=[(w,k)]:=by simp[hres,Res.isY]
  rw[hy1]
  cases kd with
  | yes hst hp0 hg0=>
   rename_i A B C' a g'
   have e1:Hy [cD ps us,stE s,.tup [w.toD,.int k]] S=.ok (.tup [stE (A,B,C'),.int a,.int g']) S1:=e1
   have ap:=apd (d:=.tup [.tup [w.toD,.int k],.tup [stE (A,B,C'),.int a,.int g']]) q1 (by omega)
   have ec:([(w,k)].map (canD ps us s))=[.tup [.tup [w.toD,.int k],.tup [stE (A,B,C'),.int a,.int g']]]:=by
    simp only[At,Bm,canD,hres]; rfl
   rw[ec]
   refine⟨S1.set q ⟨false,xs++[.tup [.tup [w.toD,.int k],.tup [stE (A,B,C'),.int a,.int g']]]⟩,some (.tup [stE (A,B,C'),.int a,.int g']),?_,Ah lq,x1.k2.trans (K2.set (.inl rfl))⟩
   generalize (⟨false,xs++[.tup [.tup [w.toD,.int k],.tup [stE (A,B,C'),.int a,.int g']]]⟩:Cell)=cc at *
   unfold rc
   generalize stE s=sd at *
   generalize stE (A,B,C')=sd2 at *
   generalize cD ps us=cd at *
   generalize w.toD=wdd at *
   simp[Qf,e1,isD,isT,tyN,Vq,il,ap]
def Gyt(C:Cn ps us)(g:Gd ps s)(hq:S[q]?=some ⟨false,xs⟩)(hx:xs.length<=900):
  ∃ S' y4 y5,Uh (rc ps us s q (some w.toD) x4 x5) S=.nx (rc ps us s q (some w.toD) y4 y5) S'/\S'[q]?=some ⟨false,xs++((prs w ps.length).filter fun p=>(resOf ps us s p).isY).map (canD ps us s)⟩/\K2 q q S S':=by
 have h13:=C.hl
 obtain⟨ρ',S',ef,y4,y5,hρ,h1,h2⟩:=Uj (nxt:=(rsrc 0 ps.length).nxt) (g:=gn 4) (b:=Qf) (l:=(List.range ps.length).map fun k:Nat=>D.int (k:Int))
  (fun k ρ S'=>∃ y4 y5,ρ=rc ps us s q (some w.toD) y4 y5/\S'[q]?=some ⟨false,xs++((prs w k).filter fun p=>(resOf ps us s p).isY).map (canD ps us s)⟩/\K2 q q S S')
  (fun k _ S' _=>Gfw)
  (fun k d ρ S' hd ⟨y4,y5,e,h1,h2⟩=>by
   obtain⟨hk,rfl⟩:=Gok hd
   subst e
   have lf:(((prs w k).filter fun p=>(resOf ps us s p).isY).map (canD ps us s)).length<=k:=by
    rw[Am]
    refine Aj (Be _ _) ?_
    rw[Yx]; exact Ab _
   obtain⟨S2,z5,e1,e2,e3⟩:=Gs4 (w:=w) (x5:=y5) C g hk h1 (by rw[Az]; omega)
   refine⟨rc ps us s q (some w.toD) (some (.int k)) y5,_,S2,rfl,e1,some (.int k),z5,rfl,?_,h2.trans e3⟩
   rw[e2]
   have:prs w (k+1)=prs w k++[(w,k)]:=by unfold prs; rw[List.range_succ]; simp
   rw[this,Bd,AT,AI])
  (rsrc 0 ps.length).fuel 0 (rc ps us s q (some w.toD) x4 x5) S (AB _) ⟨x4,x5,rfl,by simpa[prs] using hq,K2.refl⟩ (by simp[rsrc])
 subst hρ
 refine⟨S',y4,y5,?_,by simpa using h1,h2⟩
 have hr:ir1 (ac (b1 Gy (ac (o2 DL.getD (vr 0) (cn (.int 0))) an)) an) (rc ps us s q (some w.toD) x4 x5) S=.ok (rsrc 0 ps.length) S:=Gio (by
  have c0:=cd0 (ps:=ps) (us:=us) (S:=S)
  have ln:Gy [.tup (ps.map Pl.toD)] S=.ok (.int (ps.length:Int)) S:=by simp[Gy]
  unfold rc
  generalize stE s=sd at *
  generalize cD ps us=cd at *
  generalize ps.map Pl.toD=pd at *
  simp[c0,ln]) (by omega)
 unfold Uh
 rw[Vh,hr,Hq]
 exact ef
noncomputable def Ws:List Wd:=[.l,.f,.r,.e]
def Gpi(C:Cn ps us)(g:Gd ps s):∃ S',Jz [cD ps us,stE s] S=.ok (.lst S.length) S'/\S'[S.length]?=some ⟨false,(yesL ps us s).map (canD ps us s)⟩/\Ex S S':=by
 have h13:=C.hl
 have q1:(S++[⟨false,[]⟩])[S.length]?=some ⟨false,[]⟩:=Gs
 have l1:(S++[(⟨false,[]⟩:Cell)]).length=S.length+1:=by simp
 have x1:Ex S (S++[⟨false,[]⟩]):=Ex.app
 have s1:sa (ls an) (gn 2) [some (cD ps us),some (stE s),none,none,none,none] S=.nx (rc ps us s S.length none none none) (S++[⟨false,[]⟩]):=by simp
 generalize S++[(⟨false,[]⟩:Cell)]=S1 at *
 have q2:(S1++[⟨false,Ws.map Wd.toD⟩])[S1.length]?=some ⟨false,Ws.map Wd.toD⟩:=Gs
 have x2:Ex S1 (S1++[⟨false,Ws.map Wd.toD⟩]):=Ex.app
 have s2:ls (ac (cn (.str "let")) (ac (cn (.str "feed")) (ac (cn (.str "right")) (ac (cn (.str "left")) an)))) (rc ps us s S.length none none none) S1=.ok (.lst S1.length) (S1++[⟨false,Ws.map Wd.toD⟩]):=by
  have:Ws.map Wd.toD=[.str "let",.str "feed",.str "right",.str "left"]:=rfl
  rw[this]
  simp
 generalize S1++[(⟨false,Ws.map Wd.toD⟩:Cell)]=S2 at *
 have sr:=Gbz q2
 have lW:(Ws.map Wd.toD).length=4:=rfl
 simp only[lW] at sr
 obtain⟨ρ',S',ef,y3,y4,y5,hρ,h1,h2⟩:=Uj (nxt:=(Wk S1.length 4).nxt) (g:=gn 3) (b:=Uh) (l:=Ws.map Wd.toD)
  (fun k ρ S'=>∃ y3 y4 y5,ρ=rc ps us s S.length y3 y4 y5/\S'[S.length]?=some ⟨false,(((Ws.take k).flatMap fun w=>prs w ps.length).filter fun p=>(resOf ps us s p).isY).map (canD ps us s)⟩/\K2 S.length S.length S2 S')
  (fun k _ S' ⟨_,_,_,_,_,h⟩=>by
   show(S'[S1.length]?).bind (fun c=>c.xs[k]?)=_
   rw[h.at q2 (by omega) (by omega)]; rfl)
  (fun k d ρ S' hd ⟨y3,y4,y5,e,h1,h2⟩=>by
   subst e
   rw[As] at hd
   cases hk:Ws[k]? with
   | none=>rw[hk] at hd; cases hd
   | some w=>
    rw[hk] at hd
    cases (Ac hd)
    have k4:k<4:=(Aa.mp hk).1
    have lf:((((Ws.take k).flatMap fun w=>prs w ps.length).filter fun p=>(resOf ps us s p).isY).map (canD ps us s)).length<=900:=by
     rw[Am]
     refine Aj (Be _ _) ?_
     rcases(by omega:k=0\/k=1\/k=2\/k=3) with rfl | rfl | rfl | rfl<;>(simp[Ws,Yx]<;>omega)
    obtain⟨S3',z4,z5,e1,e2,e3⟩:=Gyt (w:=w) (x4:=y4) (x5:=y5) C g h1 lf
    refine⟨rc ps us s S.length (some w.toD) y4 y5,_,S3',rfl,e1,some w.toD,z4,z5,rfl,?_,h2.trans e3⟩
    rw[e2,<- AT,<- Bd]
    have:(Ws.take (k+1)).flatMap (fun w=>prs w ps.length)=(Ws.take k).flatMap (fun w=>prs w ps.length)++prs w ps.length:=by
     rw[A5,hk,List.flatMap_append]
     simp
    rw[this])
  5 0 (rc ps us s S.length none none none) S2 (AB _) ⟨none,none,none,rfl,by simpa using x2.at q1,K2.refl⟩ (by rw[lW]; omega)
 subst hρ
 rw[lW] at h1
 have e4:(Ws.take 4).flatMap (fun w=>prs w ps.length)=prL ps.length:=by simp[Ws,prL]
 rw[e4,<- Gs2 C g] at h1
 refine⟨S',?_,h1,K2.ex (x1.trans x2) h2 (Ab _) (Ab _)⟩
 unfold Jz
 rw[Go]
 simp only[Zv]
 refine(Ge s1).trans ?_
 refine(Ge (ρ':=rc ps us s S.length y3 y4 y5) (S':=S') ?_).trans ?_
 ·rw[Vh,Vw,s2,Gx,sr,Hq]
  exact ef
 ·simp
end
section
variable{ps:List Pl}{us:List Bool}{s s0 x:S3}{S:Sto}{t:List S3}{n:Nat}
abbrev rw'(ps:List Pl)(us:List Bool)(s0:S3)(most:Nat)(a f:Nat)(n:Nat)(x6 x7:BC D):Lc:=[some (cD ps us),some (stE s0),some (.int most),some (.lst a),some (.dct f),some (.int n),x6,x7]
def Gyu(C:Cn ps us)(g:Gd ps x){most:Nat}(hp:p∈yesL ps us x)(ha:S[a]?=some ⟨false,t.map stE⟩)(hf:S[f]?=some ⟨false,t.map sdP⟩)(ne:a≠f)(hl:t.length<=most)(hm:most<10000):
  (∃ S',Hk (rw' ps us s0 most a f n (some (ddOf p)) (some (resOf ps us x p).toD)) S=.nx (rw' ps us s0 most a f n (some (ddOf p)) (some (resOf ps us x p).toD)) S'/\S'[a]?=some ⟨false,(Vj t (bh (resOf ps us x p))).map stE⟩/\S'[f]?=some ⟨false,(Vj t (bh (resOf ps us x p))).map sdP⟩/\(Vj t (bh (resOf ps us x p))).length<=most/\K2 a f S S')∨
  (∃ S',Hk (rw' ps us s0 most a f n (some (ddOf p)) (some (resOf ps us x p).toD)) S=.rt .non S'/\K2 a f S S'):=by
 obtain⟨s',pr,ga,e1,e2,_,_⟩:=Gga C g hp
 have e3:(resOf ps us x p).toD=.tup [stE s',.int pr,.int ga]:=by rw[e1]; rfl
 rw[e3,e2]
 have iq:=Hbp (neg:=true) hf (Zx (s:=s'))
 rw[Ga0] at iq
 simp only[if_true] at iq
 have g0':∀ S,DL.getD (.tup [stE s',.int pr,.int ga]) (.int 0) S=.ok (stE s') S:=fun S=>p0e
 by_cases c:s'∈t
 ·left
  have h1:Vj t s'=t:=if_pos c
  rw[h1]
  refine⟨S,?_,ha,hf,hl,K2.refl⟩
  unfold rw'
  generalize D.tup [stE s',.int pr,.int ga]=td at *
  generalize stE s'=sd at *
  generalize stE s0=sd0 at *
  generalize cD ps us=cd at *
  generalize ddOf p=dp at *
  simp[Hk,g0',iq,c]
 ·have h1:Vj t s'=t++[s']:=if_neg c
  rw[h1]
  have ds:=Gdm (z:=.bl true) hf (Zx (s:=s')) (Gbn c) (by simp; omega)
  have lf:f<S.length:=(Aa.mp hf).1
  have h2:t.map sdP++[.tup [stE s',.bl true]]=(t++[s']).map sdP:=by simp[sdP]
  rw[h2] at ds
  have f1:(S.set f ⟨false,(t++[s']).map sdP⟩)[f]?=some ⟨false,(t++[s']).map sdP⟩:=Ah lf
  have a1:(S.set f ⟨false,(t++[s']).map sdP⟩)[a]?=some ⟨false,t.map stE⟩:=by rw[Ad (Ne.symm ne)]; exact ha
  have k1:K2 a f S (S.set f ⟨false,(t++[s']).map sdP⟩):=K2.set (.inr rfl)
  generalize S.set f ⟨false,(t++[s']).map sdP⟩=S1 at *
  have la:a<S1.length:=(Aa.mp a1).1
  have ap:=apd (d:=stE s') a1 (by simp; omega)
  have h3:t.map stE++[stE s']=(t++[s']).map stE:=by simp
  rw[h3] at ap
  have il:isLst (.lst a) S1=true:=by simp[isLst,a1]
  have a2:(S1.set a ⟨false,(t++[s']).map stE⟩)[a]?=some ⟨false,(t++[s']).map stE⟩:=Ah la
  have f2:(S1.set a ⟨false,(t++[s']).map stE⟩)[f]?=some ⟨false,(t++[s']).map sdP⟩:=by rw[Ad ne]; exact f1
  have k2:K2 a f S (S1.set a ⟨false,(t++[s']).map stE⟩):=k1.trans (K2.set (.inl rfl))
  have ln:=Va a2
  simp only[Am] at ln
  generalize S1.set a ⟨false,(t++[s']).map stE⟩=S2 at *
  by_cases cl:(t++[s']).length<=most
  ·left
   refine⟨S2,?_,a2,f2,cl,k2⟩
   have cl':¬ (most:Int)<(((t++[s']).length:Nat):Int):=by omega
   unfold rw'
   generalize D.tup [stE s',.int pr,.int ga]=td at *
   generalize (((t++[s']).length:Nat):Int)=mm at *
   generalize (most:Int)=mo at *
   generalize stE s'=sd at *
   generalize stE s0=sd0 at *
   generalize cD ps us=cd at *
   generalize ddOf p=dp at *
   simp[Hk,g0',iq,c,ds,il,ap,ln,cl']
  ·right
   refine⟨S2,?_,k2⟩
   have cl':(most:Int)<(((t++[s']).length:Nat):Int):=by omega
   unfold rw'
   generalize D.tup [stE s',.int pr,.int ga]=td at *
   generalize (((t++[s']).length:Nat):Int)=mm at *
   generalize (most:Int)=mo at *
   generalize stE s'=sd at *
   generalize stE s0=sd0 at *
   generalize cD ps us=cd at *
   generalize ddOf p=dp at *
   simp[Hk,g0',iq,c,ds,il,ap,ln,cl']
abbrev g2m:Tg:=gt (gcons (gn 6) (gcons (gn 7) gnil)) 2
def Hbr(C:Cn ps us)(g:Gd ps x){most:Nat}{x6:BC D}(ha:S[a]?=some ⟨false,t.map stE⟩)(hf:S[f]?=some ⟨false,t.map sdP⟩)(hq:S[q]?=some ⟨false,(yesL ps us x).map (canD ps us x)⟩)(ne:a≠f)(qa:q≠a)(qf:q≠f)(hl:t.length<=most)(hm:most<10000):
  (∃ S' y6 y7,Kb (Wk q (yesL ps us x).length).nxt g2m Hk ((yesL ps us x).length+1) 0 (rw' ps us s0 most a f n x6 x7) S=.nx (rw' ps us s0 most a f n y6 y7) S'/\S'[a]?=some ⟨false,(Qa t (stepS ps us x)).map stE⟩/\S'[f]?=some ⟨false,(Qa t (stepS ps us x)).map sdP⟩/\(Qa t (stepS ps us x)).length<=most/\K2 a f S S')∨
  (∃ S',Kb (Wk q (yesL ps us x).length).nxt g2m Hk ((yesL ps us x).length+1) 0 (rw' ps us s0 most a f n x6 x7) S=.rt .non S'/\K2 a f S S'):=by
 have main:=Giu (nxt:=(Wk q (yesL ps us x).length).nxt) (g:=g2m) (b:=Hk) (l:=(yesL ps us x).map (canD ps us x))
  (fun k ρ S'=>∃ y6 y7,ρ=rw' ps us s0 most a f n y6 y7/\S'[a]?=some ⟨false,(Qa t ((stepS ps us x).take k)).map stE⟩/\S'[f]?=some ⟨false,(Qa t ((stepS ps us x).take k)).map sdP⟩/\(Qa t ((stepS ps us x).take k)).length<=most/\K2 a f S S')
  (fun r S'=>r=.non/\K2 a f S S')
  (fun k ρ S' ⟨_,_,_,_,_,_,h⟩=>by
   show(S'[q]?).bind (fun c=>c.xs[k]?)=_
   rw[h.at hq qa qf]; rfl)
  (fun k d ρ S' hd ⟨y6,y7,e,h1,h2,h3,h4⟩=>by
   subst e
   rw[As] at hd
   cases hk:(yesL ps us x)[k]? with
   | none=>rw[hk] at hd; cases hd
   | some p=>
    rw[hk] at hd
    cases (Ac hd)
    have hp:=Ap hk
    have tk:Qa t ((stepS ps us x).take (k+1))=Vj (Qa t ((stepS ps us x).take k)) (bh (resOf ps us x p)):=by
     rw[<- Get,A5]
     congr 1
     congr 1
     unfold stepS
     rw[As,hk]
     rfl
    rw[tk]
    refine⟨rw' ps us s0 most a f n (some (ddOf p)) (some (resOf ps us x p).toD),rfl,?_⟩
    rcases Gyu (s0:=s0) (n:=n) C g hp h1 h2 ne h3 hm with⟨S2,b1',b2,b3,b4,b5⟩ | ⟨S2,b1',b2⟩
    ·exact .inl ⟨_,S2,.inl b1',_,_,rfl,b2,b3,b4,h4.trans b5⟩
    ·exact .inr ⟨_,S2,b1',rfl,h4.trans b2⟩)
  ((yesL ps us x).length+1) 0 (rw' ps us s0 most a f n x6 x7) S (AB _) ⟨x6,x7,rfl,ha,hf,hl,K2.refl⟩ (by simp)
 rcases main with⟨ρ',S',ef,y6,y7,hρ,h1,h2,h3,h4⟩ | ⟨r,S',ef,hr,h4⟩
 ·have tkl:(stepS ps us x).take (((yesL ps us x).map (canD ps us x)).length)=stepS ps us x:=Bx (by simp[stepS])
  rw[tkl] at h1 h2 h3
  subst hρ
  exact .inl ⟨S',y6,y7,ef,h1,h2,h3,h4⟩
 ·subst hr
  exact .inr ⟨S',ef,h4⟩
def IW(S0:Sto)(ps:List Pl)(us:List Bool)(s0:S3)(most:Nat)(j:Nat)(ρ:Lc)(S:Sto):Prop:=
 (∃ x6 x7,ρ=rw' ps us s0 most S0.length (S0.length+1) j x6 x7)/\S[S0.length]?=some ⟨false,(bq ps us s0 j).map stE⟩/\S[S0.length+1]?=some ⟨false,(bq ps us s0 j).map sdP⟩/\(bq ps us s0 j).length<=most/\(∀ i,i<j->i<(bq ps us s0 i).length)/\Ex S0 S
def Gs5{most:Nat}(h:IW S0 ps us s0 most j ρ S):Jo ρ S=.ok (decide (j<(bq ps us s0 j).length)) S:=by
 obtain⟨⟨x6,x7,rfl⟩,ha,_⟩:=h
 have ln:=Va ha
 simp only[Am] at ln
 generalize (bq ps us s0 j).length=m at *
 unfold rw'
 generalize stE s0=sd0 at *
 generalize cD ps us=cd at *
 simp[Jo,ln]
def Gs6(C:Cn ps us)(g0':Gd ps s0){most:Nat}(h:IW S0 ps us s0 most j ρ S)(hj:j<(bq ps us s0 j).length)(hm:most<10000):(∃ ρ2 S2,Hv ρ S=.nx ρ2 S2/\IW S0 ps us s0 most (j+1) ρ2 S2)\/∃ S2,Hv ρ S=.rt .non S2/\Ex S0 S2:=by
 obtain⟨⟨x6,x7,rfl⟩,ha,hf,hl,hg,ex⟩:=h
 have hx:=Af hj
 generalize hxx:(bq ps us s0 j)[j]=x at hx
 have g:Gd ps x:=Gpf C g0' ((Geu j hg).re x (Ap hx))
 have gj:DL.getD (.lst S0.length) (.int (j:Int)) S=.ok (stE x) S:=Jr ha (Ha (by omega) (by rw[AG,As,hx]; rfl))
 obtain⟨S1,e1,q1,x1⟩:=Gpi (S:=S) C g
 have la:S0.length<S.length:=(Aa.mp ha).1
 have lf:S0.length+1<S.length:=(Aa.mp hf).1
 have sr:=Gbz q1
 simp only[Am] at sr
 have ec:cl 2 (Gi Jz) (ac (vr 0) (ac (o2 DL.getD (vr 3) (vr 5)) an)) (rw' ps us s0 most S0.length (S0.length+1) j x6 x7) S=.ok (.lst S.length) S1:=by
  unfold rw'
  generalize stE x=sx at *
  generalize stE s0=sd0 at *
  generalize cD ps us=cd at *
  simp[gj,e1]
 have f3:(sfor (isrc (cl 2 (Gi Jz) (ac (vr 0) (ac (o2 DL.getD (vr 3) (vr 5)) an)))) g2m Hk) (rw' ps us s0 most S0.length (S0.length+1) j x6 x7) S=Kb (Wk S.length (yesL ps us x).length).nxt g2m Hk ((yesL ps us x).length+1) 0 (rw' ps us s0 most S0.length (S0.length+1) j x6 x7) S1:=by
  rw[Vh,Vw,ec,Gx,sr,Hq]
  rfl
 rcases Hbr (s0:=s0) (n:=j) (x6:=x6) (x7:=x7) C g (x1.at ha) (x1.at hf) q1 (by omega) (by omega) (by omega) hl hm with⟨S2,y6,y7,e2,a2,f2,l2,k2⟩ | ⟨S2,e2,k2⟩
 ·left
  rw[<- Gce hx] at a2 f2 l2
  refine⟨rw' ps us s0 most S0.length (S0.length+1) (j+1) y6 y7,S2,?_,⟨y6,y7,rfl⟩,a2,f2,l2,fun i hi=>?_,K2.ex (ex.trans x1) k2 (Ab _) (by omega)⟩
  ·unfold Hv
   rw[Jf (f3.trans e2)]
   have:((j+1:Nat):Int)=(j:Int)+1:=by push_cast; rfl
   unfold rw'
   rw[this]
   generalize stE s0=sd0 at *
   generalize cD ps us=cd at *
   simp
  ·by_cases c:i<j
   ·exact hg i c
   ·rw[show i=j by omega]; exact hj
 ·right
  refine⟨S2,?_,K2.ex (ex.trans x1) k2 (Ab _) (by omega)⟩
  unfold Hv
  rw[Gb0 (f3.trans e2)]
def Gud(C:Cn ps us)(g0':Gd ps s0){S0:Sto}{most:Nat}(hm:most<10000):∀ (fuel j:Nat) (ρ:Lc) (S:Sto),IW S0 ps us s0 most j ρ S->most<fuel+j→
  (∃ m ρ' S',Dn ps us s0 m/\m<=most/\whN Jo Hv fuel ρ S=.nx ρ' S'/\IW S0 ps us s0 most m ρ' S')\/∃ S',whN Jo Hv fuel ρ S=.rt .non S'/\Ex S0 S'
 | 0,j,ρ,S,h,hf=>by
  have:=(Geu j h.2.2.2.2.1).le
  have:=h.2.2.2.1
  omega
 | fuel+1,j,ρ,S,h,hf=>by
  have et:=Gs5 h
  have le:=(Geu j h.2.2.2.2.1).le
  by_cases c:j<(bq ps us s0 j).length
  ·rw[decide_eq_true c] at et
   rcases Gs6 C g0' h c hm with⟨ρ2,S2,e1,h2⟩ | ⟨S2,e1,h2⟩
   ·have ew:whN Jo Hv (fuel+1) ρ S=whN Jo Hv fuel ρ2 S2:=by
     rw[whN,et]; simp only[bindS,if_true,e1]
    rw[ew]
    exact Gud C g0' hm fuel (j+1) ρ2 S2 h2 (by omega)
   ·right
    exact⟨S2,by rw[whN,et]; simp only[bindS,if_true,e1],h2⟩
  ·rw[decide_eq_false c] at et
   left
   refine⟨j,ρ,S,⟨by omega,h.2.2.2.2.1⟩,Aj le h.2.2.2.1,by rw[whN,et]; simp only[bindS,Ay,if_false],h⟩
def Gs7(C:Cn ps us)(g0':Gd ps s0){most:Nat}(h1:1<=most)(hm:most<2000):(∃ m S',Dn ps us s0 m/\m<=most/\Jp [cD ps us,stE s0,.int most] S=.ok (.lst S.length) S'/\S'[S.length]?=some ⟨false,(bq ps us s0 m).map stE⟩/\Ex S S')\/∃ S',Jp [cD ps us,stE s0,.int most] S=.ok .non S'/\Ex S S':=by
 have q1:(S++[⟨false,[stE s0]⟩])[S.length]?=some ⟨false,[stE s0]⟩:=Gs
 have l1:(S++[(⟨false,[stE s0]⟩:Cell)]).length=S.length+1:=by simp
 have x1:Ex S (S++[⟨false,[stE s0]⟩]):=Ex.app
 have s1:sa (ls (ac (vr 1) an)) (gn 3) [some (cD ps us),some (stE s0),some (.int most),none,none,none,none,none] S=.nx [some (cD ps us),some (stE s0),some (.int most),some (.lst S.length),none,none,none,none] (S++[⟨false,[stE s0]⟩]):=by
  generalize stE s0=sd0 at *
  generalize cD ps us=cd at *
  simp
 generalize S++[(⟨false,[stE s0]⟩:Cell)]=S1 at *
 have q2:(S1++[⟨false,[]⟩])[S1.length]?=some ⟨false,[]⟩:=Gs
 have ds:=Gdm (z:=.bl true) q2 (Zx (s:=s0)) rfl (by simp)
 have lq:S1.length<(S1++[(⟨false,[]⟩:Cell)]).length:=by simp
 have s2:sa (Zd (vr 1) (cn (.bl true))) (gn 4) [some (cD ps us),some (stE s0),some (.int most),some (.lst S.length),none,none,none,none] S1=.nx [some (cD ps us),some (stE s0),some (.int most),some (.lst S.length),some (.dct S1.length),none,none,none] ((S1++[(⟨false,[]⟩:Cell)]).set S1.length ⟨false,[]++[.tup [stE s0,.bl true]]⟩):=by
  generalize (S1++[(⟨false,[]⟩:Cell)]).set S1.length ⟨false,[]++[.tup [stE s0,.bl true]]⟩=SS at *
  generalize stE s0=sd0 at *
  generalize cD ps us=cd at *
  simp[Zd,ds]
 have q3:((S1++[(⟨false,[]⟩:Cell)]).set S1.length ⟨false,[]++[.tup [stE s0,.bl true]]⟩)[S1.length]?=some ⟨false,[sdP s0]⟩:=Ah lq
 have x3:Ex S1 ((S1++[(⟨false,[]⟩:Cell)]).set S1.length ⟨false,[]++[.tup [stE s0,.bl true]]⟩):=Ex.app.setq (Ab _)
 generalize (S1++[(⟨false,[]⟩:Cell)]).set S1.length ⟨false,[]++[.tup [stE s0,.bl true]]⟩=S2 at *
 rw[l1] at q3 s2
 have I0:IW S ps us s0 most 0 (rw' ps us s0 most S.length (S.length+1) 0 none none) S2:=⟨⟨none,none,rfl⟩,x3.at q1,q3,h1,fun i hi=>absurd hi (Nat.not_lt_zero _),x1.trans x3⟩
 have s3:sa (cn (.int 0)) (gn 5) [some (cD ps us),some (stE s0),some (.int most),some (.lst S.length),some (.dct (S.length+1)),none,none,none] S2=.nx (rw' ps us s0 most S.length (S.length+1) 0 none none) S2:=by simp
 have pre:∀ X:Sv,fin ((sq (sa (ls (ac (vr 1) an)) (gn 3)) (sq (sa (Zd (vr 1) (cn (.bl true))) (gn 4)) (sq (sa (cn (.int 0)) (gn 5)) X))) [some (cD ps us),some (stE s0),some (.int most),none,none,none,none,none] S)=fin (X (rw' ps us s0 most S.length (S.length+1) 0 none none) S2):=fun X=>(Ge s1).trans ((Ge s2).trans (Ge s3))
 rcases Gud C g0' (show most<10000 by omega) 3000 0 _ S2 I0 (by omega) with⟨m,ρ',S',d,hm',ew,hI⟩ | ⟨S',ew,ex⟩
 ·left
  obtain⟨⟨x6,x7,rfl⟩,ha,_,_,_,ex⟩:=hI
  refine⟨m,S',d,hm',?_,ha,ex⟩
  unfold Jp
  rw[Go]
  simp only[Xk]
  refine(pre _).trans ((Ge ew).trans ?_)
  simp
 ·right
  refine⟨S',?_,ex⟩
  unfold Jp
  rw[Go]
  simp only[Xk]
  refine(pre _).trans ((Hx ew).trans ?_)
  rfl
end
def addls{E:Ev (List D)}{a:List D}(h6:ρ[4]?=some (some (.lst q)))(hq:S[q]?=some ⟨false,a⟩)(hE:E ρ S=.ok xs S)(hl:xs.length<=1000)(ha:a.length<=1000):
  sa (o2 Gu (vr 4) (ls E)) (gn 4) ρ S=.nx (ρ.set 4 (some (.lst (S.length+1)))) ((S++[⟨false,xs⟩])++[⟨false,a++xs⟩]):=by
 have e:Gu (.lst q) (.lst S.length) (S++[⟨false,xs⟩])=.ok (.lst (S++[(⟨false,xs⟩:Cell)]).length) ((S++[⟨false,xs⟩])++[⟨false,a++xs⟩]):=Zw (Hr hq) Gs (by omega)
 have h1:xs.length<=1000000:=by omega
 simp[h6,hE,h1] at e ⊢
 simp[e]
def Hbs{y:Str}{sub:List Str}(hy:y∈ys):Kt ys sub (.exn y none) S=.ok (.bl (decide (y∈sub))) S:=if_pos hy
def Hbt{y:Str}{x0 x1 x2 x3:BC D}(hy:y∈ys):∃ q S',Qh [x0,x1,x2,x3,x4,some (.exn y none)] S=.nx [x0,x1,x2,x3,some (.lst q),some (.exn y none)] S'/\S'[q]?=some ⟨false,mks y⟩/\Ex S S':=by
 have i:=fun(sub:List Str) (S:Sto)=>Hbs (sub:=sub) (S:=S) hy
 have e1:sa (ls (ac (o1 (Kt ys ["NoGate"]) (vr 5)) (ac (o1 (Kt ys ["Dry"]) (vr 5)) (ac (o1 (Kt ys ["Full"]) (vr 5)) (ac (o1 (Kt ys ["NoSpring"]) (vr 5)) an))))) (gn 4) [x0,x1,x2,x3,x4,some (.exn y none)] S=.nx [x0,x1,x2,x3,some (.lst S.length),some (.exn y none)] (S++[⟨false,[.bl (decide (y∈(["NoGate"]:List Str))),.bl (decide (y∈(["Dry"]:List Str))),.bl (decide (y∈(["Full"]:List Str))),.bl (decide (y∈(["NoSpring"]:List Str)))]⟩]):=by
  simp[i]
 have x1':Ex S (S++[⟨false,[.bl (decide (y∈(["NoGate"]:List Str))),.bl (decide (y∈(["Dry"]:List Str))),.bl (decide (y∈(["Full"]:List Str))),.bl (decide (y∈(["NoSpring"]:List Str)))]⟩]):=Ex.app
 have q1:(S++[(⟨false,[.bl (decide (y∈(["NoGate"]:List Str))),.bl (decide (y∈(["Dry"]:List Str))),.bl (decide (y∈(["Full"]:List Str))),.bl (decide (y∈(["NoSpring"]:List Str)))]⟩:Cell)])[S.length]?=some ⟨false,[.bl (decide (y∈(["NoGate"]:List Str))),.bl (decide (y∈(["Dry"]:List Str))),.bl (decide (y∈(["Full"]:List Str))),.bl (decide (y∈(["NoSpring"]:List Str)))]⟩:=Gs
 generalize S++[(⟨false,[.bl (decide (y∈(["NoGate"]:List Str))),.bl (decide (y∈(["Dry"]:List Str))),.bl (decide (y∈(["Full"]:List Str))),.bl (decide (y∈(["NoSpring"]:List Str)))]⟩:Cell)]=S1 at *
 have stp:∀ {q:Nat} {m:List D} {S:Sto},S[q]?=some ⟨false,m⟩->m.length<=100->∀ (s1 s2 s3:List Str),∃ q' S',sa (o2 Gu (vr 4) (ls (ac (o1 (Kt ys s1) (vr 5)) (ac (o1 (Kt ys s2) (vr 5)) (ac (o1 (Kt ys s3) (vr 5)) an))))) (gn 4) [x0,x1,x2,x3,some (.lst q),some (.exn y none)] S=.nx [x0,x1,x2,x3,some (.lst q'),some (.exn y none)] S'/\S'[q']?=some ⟨false,m++[.bl (decide (y∈s1)),.bl (decide (y∈s2)),.bl (decide (y∈s3))]⟩/\Ex S S':=fun{q m S} hq hm s1 s2 s3=>by
  have ad:=addls (E:=ac (o1 (Kt ys s1) (vr 5)) (ac (o1 (Kt ys s2) (vr 5)) (ac (o1 (Kt ys s3) (vr 5)) an))) (ρ:=[x0,x1,x2,x3,some (.lst q),some (.exn y none)]) (xs:=[.bl (decide (y∈s1)),.bl (decide (y∈s2)),.bl (decide (y∈s3))]) rfl hq (by simp[i]) (by simp) (by omega)
  refine⟨_,_,ad,?_,Ex.app.trans Ex.app⟩
  have:=Gs (S:=S++[(⟨false,[.bl (decide (y∈s1)),.bl (decide (y∈s2)),.bl (decide (y∈s3))]⟩:Cell)]) (c:=⟨false,m++[.bl (decide (y∈s1)),.bl (decide (y∈s2)),.bl (decide (y∈s3))]⟩)
  simpa using this
 obtain⟨q2,S2,e2,h2,x2'⟩:=stp q1 (by simp) ["NoBarge"] ["NoRoom"] ["Uneven"]
 obtain⟨q3,S3,e3,h3,x3'⟩:=stp h2 (by simp) ["Shallow"] ["Falls"] ["NoText"]
 obtain⟨q4,S4,e4,h4,x4'⟩:=stp h3 (by simp) ["TooMany"] ["NoLine"] ys
 refine⟨q4,S4,?_,h4,((x1'.trans x2').trans x3').trans x4'⟩
 unfold Qh
 rw[Jf e1,Jf e2,Jf e3,e4]
def Ghi:("TooMany":Str)∈ys:=by decide +kernel
def Hbu:Xp "TooMany"=.str "toomany":=by kernel_rfl!
section
variable{ps:List Pl}{us:List Bool}{s0:S3}{S:Sto}
def Gkp(C:Cn ps us)(g:Gd ps s0)(d:Dn ps us s0 m)(h1:(m:Int)<=lim)(h2:m<=2000):∃ tl S',Ww [cD ps us,stE s0,.int lim] S=.ok (.lst S.length) S'/\S'[S.length]?=some ⟨false,tl⟩/\Tl ps us (bq ps us s0 m) tl/\Ex S S':=by
 obtain⟨tl,S',e,q,T,x⟩:=Gyr (S:=S) C g d h1 h2
 have gx:=Zj e
 refine⟨tl,S',?_,q,T,x⟩
 unfold Ww
 rw[Go]
 generalize stE s0=sd0 at *
 generalize cD ps us=cd at *
 simp[Gjv,gx,fin]
def Gs8(C:Cn ps us)(g:Gd ps s0)(d:Dn ps us s0 m)(h1:lim<(m:Int))(h2:m<=2000)(h0:1<=lim):∃ S',Ww [cD ps us,stE s0,.int lim] S=.exc ⟨"TooMany",none⟩ S'/\Ex S S':=by
 obtain⟨S',e,x⟩:=Gys (S:=S) C g d h1 h2 h0
 have gx:=Qw e Ghi
 refine⟨S',?_,x⟩
 unfold Ww
 rw[Go]
 generalize stE s0=sd0 at *
 generalize cD ps us=cd at *
 simp[Gjv,gx,fin]
def Gpj{cd sd:D}{S:Sto}:Qg [some cd,some sd,some (.int lim),some .non,x4,none] S=bindS (gX ys Ww [cd,sd,.int (if lim=0 then 600 else lim)] S) [some cd,some sd,some (.int lim),some .non,x4,none] fun d S1=>.nx [some cd,some sd,some (.int lim),some d,x4,none] S1:=by
 unfold Qg
 by_cases c:lim=0
 ·subst c
  rw[Hw (S1:=S) (by simp),if_pos rfl]
  have:gX ys (Gbt 600 Ww) [cd,sd] S=gX ys Ww [cd,sd,.int 600] S:=rfl
  simp[this]
 ·rw[Hl (S1:=S) (by simp[c]),if_neg c]
  simp
def Gs9(C:Cn ps us)(g:Gd ps s0)(d:Dn ps us s0 m)(h1:(m:Int)<=if lim=0 then 600 else lim)(h2:m<=2000):∃ a tl S',Qm [cD ps us,stE s0,.int lim] S=.ok (.lst a) S'/\S'[a]?=some ⟨false,tl⟩/\Tl ps us (bq ps us s0 m) tl/\Ex S S'/\S.length<=a:=by
 have x1:Ex S (S++[⟨false,[]⟩]):=Ex.app
 have q1:(S++[(⟨false,[]⟩:Cell)])[S.length]?=some ⟨false,[]⟩:=Gs
 have l1:S.length<=(S++[(⟨false,[]⟩:Cell)]).length:=x1.len
 have s1:∀ cd sd:D,sa (ls an) (gn 4) [some cd,some sd,some (.int lim),some .non,none,none] S=.nx [some cd,some sd,some (.int lim),some .non,some (.lst S.length),none] (S++[⟨false,[]⟩]):=fun cd sd=>by simp
 generalize S++[(⟨false,[]⟩:Cell)]=S1 at *
 obtain⟨tl,S2,e,q,T,x⟩:=Gkp (S:=S1) C g d h1 h2
 have gx:=Zj e
 have tr:=Gon (hh:=hdl 5 Qh) (fb:=Qg) (ρ:=[some (cD ps us),some (stE s0),some (.int lim),some .non,some (.lst S.length),none]) (S:=S1) (ρ':=[some (cD ps us),some (stE s0),some (.int lim),some (.lst S1.length),some (.lst S.length),none]) (S':=S2) (by rw[Gpj,gx,Hq])
 have q2:(S2++[(⟨false,[]⟩:Cell)])[S2.length]?=some ⟨false,[]⟩:=Gs
 have nn:=Gyf (Hr (x.at q1)) q2
 refine⟨S1.length,tl,S2++[⟨false,[]⟩],?_,Hr q,T,(x1.trans x).trans Ex.app,l1⟩
 unfold Qm
 rw[Go]
 simp only[Xl]
 refine(Ge (ρ':=[some (cD ps us),some (stE s0),some (.int lim),some .non,none,none]) (S':=S) (by simp)).trans ?_
 refine(Ge (s1 _ _)).trans ?_
 refine(Ge tr).trans ?_
 generalize stE s0=sd0 at *
 generalize cD ps us=cd at *
 simp[nn,fin]
def Gyv(C:Cn ps us)(g:Gd ps s0)(d:Dn ps us s0 m)(h1:lim<(m:Int))(h2:m<=2000)(h0:1<=lim):∃ S',Qm [cD ps us,stE s0,.int lim] S=.ok (.str "toomany") S'/\Ex S S':=by
 have x1:Ex S (S++[⟨false,[]⟩]):=Ex.app
 have s1:∀ cd sd:D,sa (ls an) (gn 4) [some cd,some sd,some (.int lim),some .non,none,none] S=.nx [some cd,some sd,some (.int lim),some .non,some (.lst S.length),none] (S++[⟨false,[]⟩]):=fun cd sd=>by simp
 generalize S++[(⟨false,[]⟩:Cell)]=S1 at *
 obtain⟨S2,e,x⟩:=Gs8 (S:=S1) C g d h1 h2 h0
 have gx:=Qw e Ghi
 obtain⟨q,S3,e3,h3,x3⟩:=Hbt (y:="TooMany") (x0:=some (cD ps us)) (x1:=some (stE s0)) (x2:=some (.int lim)) (x3:=some .non) (x4:=some (.lst S.length)) (S:=S2) Ghi
 have hne:¬ lim=0:=by omega
 have tr:Wp ys (hdl 5 Qh) Qg [some (cD ps us),some (stE s0),some (.int lim),some .non,some (.lst S.length),none] S1=.nx [some (cD ps us),some (stE s0),some (.int lim),some .non,some (.lst q),none] S3:=by
  rw[Gj4 (x:=⟨"TooMany",none⟩) (ρ':=[some (cD ps us),some (stE s0),some (.int lim),some .non,some (.lst S.length),none]) (S':=S2) (by rw[Gpj,if_neg hne,gx,Ges]) Ghi]
  exact Gyg (ρ':=[some (cD ps us),some (stE s0),some (.int lim),some .non,some (.lst q),some (.exn "TooMany" none)]) e3
 obtain⟨b,bs,hb⟩:=Goo "TooMany"
 have h3':S3[q]?=some ⟨false,(b::bs).map D.bl⟩:=by rw[<- hb]; exact h3
 have q4:(S3++[(⟨false,[]⟩:Cell)])[S3.length]?=some ⟨false,[]⟩:=Gs
 have ns:=Gsm (Hr h3') q4
 obtain⟨S5,e5,x5⟩:=Gye Ghi (Hr (c:=⟨false,[]⟩) h3)
 rw[Hbu] at e5
 refine⟨S5,?_,(x1.trans x).trans ((x3.trans Ex.app).trans x5)⟩
 unfold Qm
 rw[Go]
 simp only[Xl]
 refine(Ge (ρ':=[some (cD ps us),some (stE s0),some (.int lim),some .non,none,none]) (S':=S) (by simp)).trans ?_
 refine(Ge (s1 _ _)).trans ?_
 refine(Ge tr).trans ?_
 generalize stE s0=sd0 at *
 generalize cD ps us=cd at *
 simp[ns,e5,fin]
end
def Ghj{S:Sto}{n:Nat}:∀ L:List Int,Jq (toP S (n+1)) (L.map D.int)=some (L.map PyData.int)
 | []=>rfl
 | i::L=>by
  have:=Ghj (S:=S) (n:=n) L
  rw[At,At]
  simp only[Jq,this]
  rfl
def Ghk:∀ L:List Int,PyData.canLayAll0 (L.map .int)=true
 | []=>rfl
 | i::L=>by simp[PyData.canLayAll0,PyData.canLay0,Ghk L]
def Ghl:∀ L:List Int,PyData.depthAll (L.map .int)=0
 | []=>rfl
 | i::L=>by simp[PyData.depthAll,PyData.depth,Ghl L]
def Ghm:∀ L M:List Int,PyData.eqvAll (L.map .int) (M.map .int)=decide (L=M)
 | [],[]=>by simp[PyData.eqvAll]
 | [],j::M=>by simp[PyData.eqvAll]
 | i::L,[]=>by simp[PyData.eqvAll]
 | i::L,j::M=>by
  simp only[At,PyData.eqvAll,PyData.eqv,Ghm L M]
  by_cases h1:i=j<;>by_cases h2:L=M<;>simp[h1,h2]
noncomputable def pdS(s:S3):PyData:=.tuple [.tuple (s.1.map .int),.tuple (s.2.1.map .int),.tuple (s.2.2.map .int)]
def Gkq{s:S3}:toP S (n+3) (stE s)=some (pdS s):=by
 have h:∀ L:List Int,toP S (n+2) (.tup (L.map D.int))=some (.tuple (L.map PyData.int)):=fun L=>by
  show(Jq (toP S (n+1)) (L.map D.int)).map PyData.tuple=_
  rw[Ghj (n:=n)]; rfl
 show(Jq (toP S (n+2)) [.tup (s.1.map D.int),.tup (s.2.1.map D.int),.tup (s.2.2.map D.int)]).map PyData.tuple=_
 simp only[Jq,h]
 rfl
def Gyw{a b:S3}:PyData.eqv (pdS a) (pdS b)=decide (a=b):=by
 obtain⟨a1,a2,a3⟩:=a
 obtain⟨b1,b2,b3⟩:=b
 simp only[pdS,PyData.eqv,PyData.eqvAll,Ghm,Bool.and_true]
 by_cases h1:a1=b1<;>by_cases h2:a2=b2<;>by_cases h3:a3=b3<;>simp[h1,h2,h3]
def Gkr{S:Sto}{n:Nat}:∀ t:List S3,Jq (toP S (n+3)) (t.map stE)=some (t.map pdS)
 | []=>rfl
 | s::t=>by
  have:=Gkr (S:=S) (n:=n) t
  rw[At,At]
  simp only[Jq,this,Gkq]
def Gpk{s:S3}:PyData.canLay0 (pdS s)=true:=by simp[pdS,PyData.canLay0,PyData.canLayAll0,Ghk]
def Gpl{s:S3}:(pdS s).depth=2:=by simp[pdS,PyData.depth,PyData.depthAll,Ghl]
def Gks:∀ t:List S3,PyData.canLayAll0 (t.map pdS)=true
 | []=>rfl
 | s::t=>by simp[PyData.canLayAll0,Gpk,Gks t]
def Gkt:∀ t:List S3,PyData.depthAll (t.map pdS)<=2
 | []=>by simp[PyData.depthAll]
 | s::t=>by
  have:=Gkt t
  simp only[At,PyData.depthAll,Gpl]
  omega
def Gyx{t:List S3}{s:S3}(hq:S[q]?=some ⟨false,t.map stE⟩)(hs:s∈t):Gr2 (stE s) (.lst q) S=.ok (.bl false) S:=by
 have e1:toP S 40 (stE s)=some (pdS s):=Gkq (n:=37)
 have e2:toP S 40 (.lst q)=some (.list (t.map pdS)):=by
  show(match S[q]? with | some c=>(Jq (toP S 39) c.xs).map PyData.list | none=>none)=_
  rw[hq]
  show(Jq (toP S 39) (t.map stE)).map PyData.list=_
  rw[Gkr (n:=36)]
  rfl
 show Gdt true (stE s) (.lst q) S=_
 simp only[Gdt,e1,e2]
 have sh:(SeqAt.shaped (pdS s)&&SeqAt.shaped (.list (t.map pdS)))=true:=by
  have:=Gkt t
  simp[SeqAt.shaped,PyData.canLay0,Gpk,Gks,PyData.depth,Gpl]<;>omega
 rw[if_pos sh]
 have an':((t.map pdS).any fun z=>PyData.eqv z (pdS s))=true:=by
  rw[List.any_eq_true]
  exact⟨pdS s,List.mem_map_of_mem hs,by rw[Gyw]; simp⟩
 rw[an']
 rfl
noncomputable def wsS:Wd->Str
 | .l=>"let"
 | .f=>"feed"
 | .r=>"right"
 | .e=>"left"
def pdD(p:Wd×Nat):PyData:=.tuple [.str (wsS p.1),.int p.2]
def rpD(p:Wd×Nat):Str:=(pdD p).shown
def Gpm:List (Wd×Nat):=((prs .l 13++prs .f 13)++prs .r 13)++prs .e 13
def Gue:(Gpm.all fun p=>(pdD p).showable&&!(pdD p).hasDict&&decide ((pdD p).depth<=60)&&decide ((pdD p).shown.length<=1000000)&&PyData.strOk (pdD p).shown)=true:=by decide +kernel
def Hbv:(Gpm.all fun p=>Gpm.all fun q=>decide ((pdD p).shown=(pdD q).shown)==decide (p=q))=true:=by decide +kernel
def Ga1(h:p.2<13):p∈Gpm:=by
 obtain⟨w,k⟩:=p
 have hk:∀ w,(w,k)∈prs w 13:=fun w=>AK.mpr ⟨k,Bi.mpr h,rfl⟩
 unfold Gpm
 simp only[AF]
 cases w
 ·exact .inl (.inl (.inl (hk .l)))
 ·exact .inl (.inl (.inr (hk .f)))
 ·exact .inl (.inr (hk .r))
 ·exact .inr (hk .e)
def Gyy{q:Wd×Nat}(h1:p.2<13)(h2:q.2<13):rpD p=rpD q↔p=q:=by
 have:=AJ.mp Hbv p (Ga1 h1)
 have:=AJ.mp this q (Ga1 h2)
 have:=beq_iff_eq.mp this
 unfold rpD
 constructor
 ·intro h
  rw[decide_eq_true h] at this
  exact of_decide_eq_true this.symm
 ·intro h; rw[h]
def Gpn(h:p.2<13):PyData.strOk (rpD p)=true:=by
 have:=AJ.mp Gue p (Ga1 h)
 simp only[Aq] at this
 exact this.2
def Gku(h:p.2<13):Qp [ddOf p] S=.ok (.str (rpD p)) S:=by
 have a:=AJ.mp Gue p (Ga1 h)
 simp only[Aq,decide_eq_true_eq] at a
 have e:toP S 40 (ddOf p)=some (pdD p):=by
  obtain⟨w,k⟩:=p
  cases w<;>rfl
 show(match toP S 40 (ddOf p) with
   | some p=>if(p.showable&&!p.hasDict&&decide (p.depth<=60))=true/\p.shown.length<=1000000 then Out.ok (D.str p.shown) S else .bad
   | none=>.bad)=_
 rw[e]
 show(if((pdD p).showable&&!(pdD p).hasDict&&decide ((pdD p).depth<=60))=true/\(pdD p).shown.length<=1000000 then Out.ok (D.str (pdD p).shown) S else .bad)=_
 rw[if_pos ⟨by simp only[Aq,decide_eq_true_eq]; exact a.1.1,a.1.2⟩]
 rfl
def Ggb:(prs w n).Nodup:=by
 unfold prs
 rw[List.nodup_iff_pairwise_ne,List.pairwise_map]
 exact List.Pairwise.imp (fun h z=>h (by simpa using z)) List.nodup_range
def Gdn(h:p∈prs w n):p.1=w:=by
 obtain⟨k,_,rfl⟩:=AK.mp h
 rfl
def Gyz:(prP m N).Nodup:=by
 unfold prP
 refine A6.mpr ⟨A6.mpr ⟨A6.mpr ⟨Ggb,Ggb,?_⟩,Ggb,?_⟩,Ggb,?_⟩
 ·intro a ha b hb e
  have h1:=Gdn ha; have h2:=Gdn hb
  rw[e,h2] at h1; cases h1
 ·intro a ha b hb e
  have h2:=Gdn hb
  rcases AF.mp ha with ha | ha<;>(have h1:=Gdn ha; rw[e,h2] at h1; cases h1)
 ·intro a ha b hb e
  have h2:=Gdn hb
  rcases AF.mp ha with ha | ha
  ·rcases AF.mp ha with ha | ha<;>(have h1:=Gdn ha; rw[e,h2] at h1; cases h1)
  ·have h1:=Gdn ha; rw[e,h2] at h1; cases h1
def Gkv{α:Type}[DecidableEq α]{p:α}:∀ {l:List α},l.Nodup->p∈l->l.filter (fun q=>decide (q=p))=[p]
 | [],_,h=>by cases h
 | a::l,hn,h=>by
  obtain⟨h1,h2⟩:=A8.mp hn
  rw[List.filter_cons]
  by_cases c:a=p
  ·subst c
   rw[if_pos (by simp)]
   have:l.filter (fun q=>decide (q=a))=[]:=List.filter_eq_nil_iff.mpr fun x hx z=>h1 (by rw[<- of_decide_eq_true z]; exact hx)
   rw[this]
  ·rw[if_neg (by simpa using c)]
   rcases Ae.mp h with h | h
   ·exact absurd h.symm c
   ·exact Gkv h2 h
section
variable{ps:List Pl}{us:List Bool}{s s0 x:S3}{S S0:Sto}{t:List S3}{n:Nat}
def Gpo(C:Cn ps us)(h:p∈yesL ps us s):p.2<13:=by
 have:=Git (by have:=C.hu; omega) (Bh.mp h).1
 have:=C.hl
 omega
abbrev tdE:Ev D:=o2 DL.getD (vr 1) (cn (.int 0))
abbrev tdC:Ev Bool:=tb (o2 eqD (b1 Qp (ac (vr 0) an)) (b1 Qp (ac (o2 DL.getD (vr 2) (cn (.int 2))) an)))
def Gta(C:Cn ps us)(g:Gd ps x){sd a:D}{f:Ev Src}(hp:p∈yesL ps us x)(hf:f ρ S0=.ok (Wk q (yesL ps us x).length) S)(hq:S[q]?=some ⟨false,(yesL ps us x).map (canD ps us x)⟩)(h6:pkS [none,none,some 6] ρ=[none,none,some (.tup [sd,a,ddOf p])]):
  ∃ S',cmp f [none,none,some 6] (gt (gcons (gn 0) (gcons (gn 1) gnil)) 2) tdC tdE ρ S0=.ok (.lst S.length) S'/\S'[S.length]?=some ⟨false,[stE (bh (resOf ps us x p))]⟩/\Ex S S':=by
 have yl:=Gkl (ps:=ps) (us:=us) (s:=x)
 have h13:=C.hl
 have hu:=C.hu
 have lq:q<S.length:=(Aa.mp hq).1
 have pl:=Gpo C hp
 obtain⟨ρ',S',ef,y0,y1,hρ,h1,h2⟩:=Uj (nxt:=(Wk q (yesL ps us x).length).nxt) (g:=gt (gcons (gn 0) (gcons (gn 1) gnil)) 2) (b:=cbody S.length tdC tdE) (l:=(yesL ps us x).map (canD ps us x))
  (fun k ρ S'=>∃ y0 y1,ρ=[y0,y1,some (.tup [sd,a,ddOf p])]/\S'[S.length]?=some ⟨false,(((yesL ps us x).take k).filter fun q=>decide (q=p)).map fun q=>stE (bh (resOf ps us x q))⟩/\Ex S S')
  (fun k _ S' ⟨_,_,_,_,h⟩=>by
   show(S'[q]?).bind (fun c=>c.xs[k]?)=_
   rw[h.at hq]; rfl)
  (fun k d ρ S' hd ⟨y0,y1,e,h1,h2⟩=>by
   subst e
   rw[As] at hd
   cases hk:(yesL ps us x)[k]? with
   | none=>rw[hk] at hd; cases hd
   | some p'=>
    rw[hk] at hd
    cases (Ac hd)
    have hp':=Ap hk
    obtain⟨s',pr,ga,e1,e2,_,_⟩:=Gga C g hp'
    have pl':=Gpo C hp'
    have ecd:canD ps us x p'=.tup [ddOf p',.tup [stE s',.int pr,.int ga]]:=by unfold canD; rw[e1]; rfl
    have tk:((yesL ps us x).take (k+1)).filter (fun q=>decide (q=p))=((yesL ps us x).take k).filter (fun q=>decide (q=p))++if decide (p'=p)=true then[p'] else[]:=Gkf hk
    rw[ecd,tk]
    have r1:=fun S=>Gku (S:=S) pl'
    have r2:=fun S=>Gku (S:=S) pl
    have g2:∀ S,DL.getD (.tup [sd,a,ddOf p]) (.int 2) S=.ok (ddOf p) S:=fun S=>Je (Ha (by decide) rfl)
    have ee:∀ S,eqD (.str (rpD p')) (.str (rpD p)) S=.ok (.bl (decide (p'=p))) S:=fun S=>by
     rw[Jv (Gpn pl') (Gpn pl)]
     have:=Gyy pl' pl
     by_cases c:p'=p
     ·subst c; simp
     ·have c':¬ rpD p'=rpD p:=fun z=>c (this.mp z)
      simp[c,c']
    have ec:tdC [some (ddOf p'),some (.tup [stE s',.int pr,.int ga]),some (.tup [sd,a,ddOf p])] S'=.ok (decide (p'=p)) S':=by
     generalize hd3:D.tup [sd,a,ddOf p]=od at *
     generalize ddOf p'=d1 at *
     generalize ddOf p=d2 at *
     simp[tdC,r1,r2,g2,ee]
    refine⟨[some (ddOf p'),some (.tup [stE s',.int pr,.int ga]),some (.tup [sd,a,ddOf p])],[some (ddOf p'),some (.tup [stE s',.int pr,.int ga]),some (.tup [sd,a,ddOf p])],?_⟩
    by_cases c:p'=p
    ·subst c
     rw[decide_eq_true rfl] at ec
     rw[if_pos (by simp)]
     have ls:S.length<S'.length:=(Aa.mp h1).1
     have lf:((((yesL ps us x).take k).filter fun q=>decide (q=p')).map fun q=>stE (bh (resOf ps us x q))).length<1000:=by
      rw[Am]
      refine Nat.lt_of_le_of_lt (Be _ _) ?_
      rw[AW]; omega
     refine⟨S'.set S.length ⟨false,((((yesL ps us x).take k).filter fun q=>decide (q=p')).map fun q=>stE (bh (resOf ps us x q)))++[stE s']⟩,rfl,Glr ec (by simp[tdE,p0e]) h1 (by omega),_,_,rfl,?_,h2.setq (Ab _)⟩
     rw[Ah ls,AT,At,Bm,e2]
    ·rw[decide_eq_false c] at ec
     rw[if_neg (by simpa using c),AU]
     exact⟨S',rfl,Gol ec,_,_,rfl,h1,h2⟩)
  ((yesL ps us x).length+1) 0 [none,none,some (.tup [sd,a,ddOf p])] (S++[⟨false,[]⟩]) (AB _) ⟨none,none,rfl,by simp[Gs],Ex.app⟩ (by simp)
 rw[Am,Bt] at h1
 have f1:(yesL ps us x).filter (fun q=>decide (q=p))=[p]:=Gkv (Gyz.filter _) hp
 rw[f1] at h1
 refine⟨S',Gfz hf (by rw[h6]; exact ef),h1,h2⟩
end
section
variable{ps:List Pl}{us:List Bool}{s s0 x:S3}{S S0:Sto}{t:List S3}{n:Nat}
def Gtb{n:Int}{S:Sto}:Vg [.int n] S=.ok (.bl true) S:=by
 refine(Go (m:=1) (b:=Qv)).trans ?_
 show fin (Qv [some (.int n)] S)=_
 unfold Qv
 rfl
def Hbw(C:Cn ps us)(g:Gd ps s):Sm s.1/\Sm s.2.1/\Sm s.2.2:=by
 have h13:=C.hl
 have su:=g.sum
 have t2:=Gbm g.nR
 have t3:=Gbm g.nF
 refine⟨sm_of (by rw[g.lL]; exact h13) fun i hi=>?_,sm_of (by rw[g.lR]; exact h13) fun i hi=>?_,sm_of (by rw[g.lF]; exact h13) fun i hi=>?_⟩
 ·have n1:=g.nL i hi
  obtain⟨k,hk⟩:=A7.mp hi
  have kl:=(Aa.mp hk).1
  rw[g.lL] at kl
  have e1:=Af kl
  have e2:s.2.1[k]?=some _:=Af (by rw[g.lR]; exact kl)
  have e3:s.2.2[k]?=some _:=Af (by rw[g.lF]; exact kl)
  have h:=(g.at' k _ _ _ _ e1 hk e2 e3).1
  have ok:=C.hp _ (A3 kl)
  generalize ps[k]=pl at *
  cases pl with
  | e=>simp[wat] at h; omega
  | c=>simp[wat] at h; omega
  | p br de ro pr=>
   simp only[wat,Pl.ok] at h ok
   omega
 ·obtain⟨k,hk⟩:=A7.mp hi
  have:=Gdl g.nR hk
  have:=g.nR i hi
  omega
 ·obtain⟨k,hk⟩:=A7.mp hi
  have:=Gdl g.nF hk
  have:=g.nF i hi
  omega
def Gkw(C:Cn ps us)(g:Gd ps s):Sho S (stE s) 2475 2:=let ⟨h1,h2,h3⟩:=Hbw C g; Gyl h1 h2 h3
abbrev ri(ps:List Pl)(us:List Bool)(s0:S3)(w a f:Nat)(x5 x6 x7:BC D):Lc:=[some (cD ps us),some (stE s0),some (.lst w),some (.lst a),some (.dct f),x5,x6,x7]
structure Rt(ps:List Pl)(us:List Bool)(s0:S3)(t:List S3)(tl:List D):Prop where
 C:Cn ps us
 T:Tl ps us t tl
 nd:t.Nodup
 hd:t[0]?=some s0
 gd:∀ x∈t,Gd ps x
 len:t.length<=2000
def Glw{w:Nat}{A B:D}(h:Rt ps us s0 t tl)(hw:S[w]?=some ⟨false,t.map stE⟩)(ha:S[a]?=some ⟨false,tl⟩)(hf:S[f]?=some ⟨false,(t.take k).map sdP⟩)(wf:w≠f)(af:a≠f)(hk:t[k]?=some s)(tk:Tw ps us t k s A B):
  ∃ S' y7,Ka (ri ps us s0 w a f (some (.int k)) (some (.tup [stE s,A,B])) x7) S=.nx (ri ps us s0 w a f (some (.int k)) (some (.tup [stE s,A,B])) y7) S'/\S'[f]?=some ⟨false,(t.take (k+1)).map sdP⟩/\K2 f f S S':=by
 have C:=h.C
 have kl:=(Aa.mp hk).1
 have sm:=Ap hk
 have gs:=h.gd s sm
 have nin:=Gyx hw sm
 have g0':∀ S,DL.getD (.tup [stE s,A,B]) (.int 0) S=.ok (stE s) S:=fun S=>p0e
 have g1':∀ S,DL.getD (.tup [stE s,A,B]) (.int 1) S=.ok A S:=fun S=>p1e
 have ln3:∀ S,Gy [.tup [stE s,A,B]] S=.ok (.int 3) S:=fun S=>rfl
 have tks:t.take (k+1)=t.take k++[s]:=by rw[A5,hk]; rfl
 have nm:s∉t.take k:=fun z=>by
  have:=h.nd
  rw[<- List.take_append_drop (k+1) t,tks] at this
  have:=(A6.mp this).1
  exact(A6.mp this).2.2 s z s (AQ.mpr rfl) rfl
 have ds:=Gdm (z:=.bl true) hf (Zx (s:=s)) (Gbn nm) (by rw[Am,AW]; have:=h.len; omega)
 have e2:(t.take k).map sdP++[.tup [stE s,.bl true]]=(t.take (k+1)).map sdP:=by rw[tks]; simp[sdP]
 rw[e2] at ds
 have lf:f<S.length:=(Aa.mp hf).1
 have f1:(S.set f ⟨false,(t.take (k+1)).map sdP⟩)[f]?=some ⟨false,(t.take (k+1)).map sdP⟩:=Ah lf
 have a1:(S.set f ⟨false,(t.take (k+1)).map sdP⟩)[a]?=some ⟨false,tl⟩:=by rw[Ad (Ne.symm af)]; exact ha
 have k1:K2 f f S (S.set f ⟨false,(t.take (k+1)).map sdP⟩):=K2.set (.inl rfl)
 generalize S.set f ⟨false,(t.take (k+1)).map sdP⟩=S1 at *
 have p1:(sif (to (tn (tt (o1 (isD "tuple") (vr 6)))) (to (tb (o2 neD (b1 Gy (ac (vr 6) an)) (cn (.int 3)))) (tb (o2 Gr2 (o2 DL.getD (vr 6) (cn (.int 0))) (vr 2))))) (sret (cn (.bl false))) DL.skip) (ri ps us s0 w a f (some (.int k)) (some (.tup [stE s,A,B])) x7) S=.nx (ri ps us s0 w a f (some (.int k)) (some (.tup [stE s,A,B])) x7) S:=by
  unfold ri
  generalize stE s0=sd0 at *
  generalize cD ps us=cd at *
  have it:∀ S,isD "tuple" (.tup [stE s,A,B]) S=.ok (.bl true) S:=fun S=>rfl
  generalize D.tup [stE s,A,B]=od at *
  generalize stE s=sd at *
  simp[it,Vq,ln3,g0',nin]
 have p2:(ss (cn (.bl true)) (vr 4) (o2 DL.getD (vr 6) (cn (.int 0))) dsetD) (ri ps us s0 w a f (some (.int k)) (some (.tup [stE s,A,B])) x7) S=.nx (ri ps us s0 w a f (some (.int k)) (some (.tup [stE s,A,B])) x7) S1:=by
  unfold ri
  generalize stE s0=sd0 at *
  generalize cD ps us=cd at *
  generalize D.tup [stE s,A,B]=od at *
  generalize stE s=sd at *
  simp[g0',ds]
 unfold Ka
 rw[Jf p1,Jf p2]
 rcases tk with⟨k0,hA,hB⟩ | ⟨j,p,sj,hj,tj,hp,hb,hA,hB⟩
 ·subst k0 hA hB
  have es:s=s0:=by have:=h.hd; rw[hk] at this; exact Ac this
  subst es
  obtain⟨r,hr,er⟩:=Sho.repr (S:=S1) (d:=.tup [stE s,.non,.non]) (b:=(2475+2)*3+3) (e:=3) (Gf2 (l:=[stE s,.non,.non]) fun d hd=>by
   simp only[Ae,AC,or_false] at hd
   rcases hd with rfl | rfl | rfl
   ·exact Gkw C gs
   ·exact Gj0.mono (by decide) (by decide)
   ·exact Gj0.mono (by decide) (by decide)) (by decide) (by decide)
  have er:=er S1 .refl
  refine⟨S1,x7,?_,f1,k1⟩
  have nr:neD (.str r) (.str r) S1=.ok (.bl false) S1:=by
   have:=Ks (S:=S1) (Jv (S:=S1) hr hr)
   rw[this]; simp
  unfold ri
  generalize stE s=sd at *
  generalize cD ps us=cd at *
  simp[er,nr]
 ·subst hA hB
  have hk0:¬ ((k:Int)=0):=by omega
  have j1:¬ ((j:Int)<0):=by omega
  have j2:¬ ((k:Int)<=(j:Int)):=by omega
  obtain⟨a',b',htj,_⟩:=h.T.at' j sj tj
  have gj:∀ S',S'[a]?=some ⟨false,tl⟩->DL.getD (.lst a) (.int (j:Int)) S'=.ok (.tup [stE sj,a',b']) S':=fun S' q=>Jr q (Ha (by omega) (by rw[AG]; exact htj))
  have gsj:=h.gd sj (Ap tj)
  obtain⟨S2,e2',q2,x2⟩:=Gpi (S:=S1) C gsj
  have sr:=Gbz q2
  simp only[Am] at sr
  have gj1:=gj S1 a1
  have hsrc:isrc (cl 2 (Gi Jz) (ac (vr 0) (ac (o2 DL.getD (o2 DL.getD (vr 3) (o2 DL.getD (vr 6) (cn (.int 1)))) (cn (.int 0))) an))) (ri ps us s0 w a f (some (.int k)) (some (.tup [stE s,.int (j:Int),ddOf p])) x7) S1=.ok (Wk S1.length (yesL ps us sj).length) S2:=by
   have gp0:DL.getD (.tup [stE sj,a',b']) (.int 0) S1=.ok (stE sj) S1:=p0e
   unfold ri
   generalize D.tup [stE sj,a',b']=oj at *
   generalize D.tup [stE s,.int (j:Int),ddOf p]=od at *
   generalize stE s0=sd0 at *
   generalize stE sj=sdj at *
   generalize cD ps us=cd at *
   simp[g1',gj1,gp0,e2',sr]
  obtain⟨S3,e3,q3,x3⟩:=Gta (sd:=stE s) (a:=.int (j:Int)) C gsj hp hsrc q2 rfl
  rw[hb] at q3
  have l4:(S3++[(⟨false,[stE s]⟩:Cell)]).length=S3.length+1:=by simp
  have q4:(S3++[(⟨false,[stE s]⟩:Cell)])[S3.length]?=some ⟨false,[stE s]⟩:=Gs
  obtain⟨r,hr,er⟩:=Gyo (S:=S3) (l:=[stE s]) (b:=2475) (e:=2) (fun d hd=>by rw[AQ.mp hd]; exact Gkw C gs) (by show(2475+2)*1+3<=1000000; decide) (by decide)
  have er1:=er S3 S2.length false .refl q3
  have er2:=er (S3++[⟨false,[stE s]⟩]) S3.length false Ex.app q4
  have nr:∀ S,neD (.str r) (.str r) S=.ok (.bl false) S:=fun S=>by
   have:=Ks (S:=S) (Jv (S:=S) hr hr)
   rw[this]; simp
  refine⟨S3++[⟨false,[stE s]⟩],some (.lst S2.length),?_,Ex.app.at (x3.at (x2.at f1)),k1.trans ((x2.trans x3).trans Ex.app).k2⟩
  have p3:(sif (to (tn (tt (cl 1 (Gi Vg) (ac (o2 DL.getD (vr 6) (cn (.int 1))) an)))) (to (tb (o2 ltD (o2 DL.getD (vr 6) (cn (.int 1))) (cn (.int 0)))) (tb (o2 geD (o2 DL.getD (vr 6) (cn (.int 1))) (vr 5))))) (sret (cn (.bl false))) DL.skip) (ri ps us s0 w a f (some (.int k)) (some (.tup [stE s,.int (j:Int),ddOf p])) x7) S1=.nx (ri ps us s0 w a f (some (.int k)) (some (.tup [stE s,.int (j:Int),ddOf p])) x7) S1:=by
   have wi:=Gtb (n:=(j:Int)) (S:=S1)
   unfold ri
   generalize D.tup [stE s,.int (j:Int),ddOf p]=od at *
   generalize stE s0=sd0 at *
   generalize cD ps us=cd at *
   generalize (j:Int)=jj at *
   generalize (k:Int)=kk' at *
   simp[g1',wi,Vq,j1,j2]
  have p4:(sa (cmp (isrc (cl 2 (Gi Jz) (ac (vr 0) (ac (o2 DL.getD (o2 DL.getD (vr 3) (o2 DL.getD (vr 6) (cn (.int 1)))) (cn (.int 0))) an)))) [none,none,some 6] (gt (gcons (gn 0) (gcons (gn 1) gnil)) 2) tdC tdE) (gn 7)) (ri ps us s0 w a f (some (.int k)) (some (.tup [stE s,.int (j:Int),ddOf p])) x7) S1=.nx (ri ps us s0 w a f (some (.int k)) (some (.tup [stE s,.int (j:Int),ddOf p])) (some (.lst S2.length))) S3:=by
   rw[Uz,e3]; rfl
  have p5:(sif (tb (o2 neD (b1 Qp (ac (vr 7) an)) (b1 Qp (ac (ls (ac (o2 DL.getD (vr 6) (cn (.int 0))) an)) an)))) (sret (cn (.bl false))) DL.skip) (ri ps us s0 w a f (some (.int k)) (some (.tup [stE s,.int (j:Int),ddOf p])) (some (.lst S2.length))) S3=.nx (ri ps us s0 w a f (some (.int k)) (some (.tup [stE s,.int (j:Int),ddOf p])) (some (.lst S2.length))) (S3++[⟨false,[stE s]⟩]):=by
   unfold ri
   generalize D.tup [stE s,.int (j:Int),ddOf p]=od at *
   generalize stE s0=sd0 at *
   generalize stE s=sd at *
   generalize cD ps us=cd at *
   simp[er1,g0',er2,nr]
  rw[Hl (S1:=S1) (by
   unfold ri
   generalize D.tup [stE s,.int (j:Int),ddOf p]=od at *
   generalize stE s0=sd0 at *
   generalize cD ps us=cd at *
   generalize (k:Int)=kk' at *
   simp[hk0]),Jf p3,Jf p4]
  exact p5
def Gpp{w:Nat}(h:Rt ps us s0 t tl)(hw:S[w]?=some ⟨false,t.map stE⟩)(ha:S[a]?=some ⟨false,tl⟩):∃ S',Kf [cD ps us,stE s0,.lst w,.lst a] S=.ok (.bl true) S'/\Ex S S':=by
 have lw:w<S.length:=(Aa.mp hw).1
 have la:a<S.length:=(Aa.mp ha).1
 have q1:(S++[(⟨false,[]⟩:Cell)])[S.length]?=some ⟨false,[]⟩:=Gs
 have x1:Ex S (S++[⟨false,[]⟩]):=Ex.app
 have il:isD "list" (.lst a) S=.ok (.bl true) S:=by simp[isD,isT,ha,tyN]
 have l1:=Va ha
 have l2:=Va hw
 simp only[Am,h.T.len] at l1 l2
 have s0':(sif (to (tn (tt (o1 (isD "list") (vr 3)))) (tb (o2 neD (b1 Gy (ac (vr 3) an)) (b1 Gy (ac (vr 2) an))))) (sret (cn (.bl false))) DL.skip) [some (cD ps us),some (stE s0),some (.lst w),some (.lst a),none,none,none,none] S=.nx [some (cD ps us),some (stE s0),some (.lst w),some (.lst a),none,none,none,none] S:=by
  generalize stE s0=sd0 at *
  generalize cD ps us=cd at *
  generalize (t.length:Int)=mm at *
  simp[il,Vq,l1,l2]
 have s1:(sa dnew (gn 4)) [some (cD ps us),some (stE s0),some (.lst w),some (.lst a),none,none,none,none] S=.nx (ri ps us s0 w a S.length none none none) (S++[⟨false,[]⟩]):=by
  simp[dnew]
 have ha1:=x1.at ha
 have hw1:=x1.at hw
 generalize S++[(⟨false,[]⟩:Cell)]=S1 at *
 have hn:∀ (k:Nat) (S':Sto),S'[a]?=some ⟨false,tl⟩->((S'[a]?).bind fun c=>(c.xs[k]?).map fun d=>D.tup [.int k,d])=((List.range tl.length).map fun k:Nat=>D.tup [.int k,tl.getD k .non])[k]?:=fun k S' q=>by
  rw[q]
  show(tl[k]?).map _=_
  rw[As]
  by_cases c:k<tl.length
  ·rw[A4 c,Af c]
   simp[List.getD,Af c]
  ·rw[Bs (by omega),Bs (by simp; omega)]; rfl
 obtain⟨ρ',S',ef,y5,y6,y7,hρ,h1,h2⟩:=Uj (nxt:=fun(k:Nat) S=>(S[a]?).bind fun c=>(c.xs[k]?).map fun d=>D.tup [.int k,d]) (g:=gt (gcons (gn 5) (gcons (gn 6) gnil)) 2) (b:=Ka) (l:=(List.range tl.length).map fun k:Nat=>D.tup [.int k,tl.getD k .non])
  (fun k ρ S'=>∃ y5 y6 y7,ρ=ri ps us s0 w a S.length y5 y6 y7/\S'[S.length]?=some ⟨false,(t.take k).map sdP⟩/\K2 S.length S.length S1 S')
  (fun k _ S' ⟨_,_,_,_,_,hx⟩=>hn k S' (hx.at ha1 (by omega) (by omega)))
  (fun k d ρ S' hd ⟨y5,y6,y7,e,h1,h2⟩=>by
   subst e
   have kl:k<tl.length:=by have:=(Aa.mp hd).1; simpa using this
   rw[As,A4 kl] at hd
   have hd:D.tup [.int (k:Int),tl.getD k .non]=d:=Ac hd
   have kt:k<t.length:=by rw[<- h.T.len]; exact kl
   have hk:=Af kt
   generalize t[k]=s at hk
   obtain⟨A,B,hAB,tw⟩:=h.T.at' k s hk
   have eg:tl.getD k .non=.tup [stE s,A,B]:=by simp[List.getD,hAB]
   rw[eg] at hd
   subst hd
   obtain⟨S2,z7,e1,e2,e3⟩:=Glw (x7:=y7) h (h2.at hw1 (by omega) (by omega)) (h2.at ha1 (by omega) (by omega)) h1 (by omega) (by omega) hk tw
   exact⟨ri ps us s0 w a S.length (some (.int k)) (some (.tup [stE s,A,B])) y7,_,S2,rfl,e1,_,_,_,rfl,e2,h2.trans e3⟩)
  (tl.length+1) 0 (ri ps us s0 w a S.length none none none) S1 (AB _) ⟨none,none,none,rfl,q1,K2.refl⟩ (by simp)
 subst hρ
 rw[Am,List.length_range,h.T.len,Bt] at h1
 have lw':=Va (h2.at hw1 (by omega) (by omega))
 simp only[Am] at lw'
 have ld:Qgnz [.dct S.length] S'=.ok (.int (t.length:Int)) S':=by simp[Qgnz,h1]
 refine⟨S',?_,K2.ex x1 h2 (Ab _) (Ab _)⟩
 unfold Kf
 rw[Go]
 simp only[Uy]
 refine(Ge s0').trans ?_
 refine(Ge s1).trans ?_
 refine(Ge (ρ':=ri ps us s0 w a S.length y5 y6 y7) (S':=S') ?_).trans ?_
 ·have:Gcu (ac (vr 3) an) (ri ps us s0 w a S.length none none none) S1=.ok ⟨fun(k:Nat) S=>(S[a]?).bind fun c=>(c.xs[k]?).map fun d=>D.tup [.int k,d],tl.length+1⟩ S1:=by
   simp[Gcu,ha1]
  rw[Vh,this,Hq]
  exact ef
 ·unfold ri
  generalize stE s0=sd0 at *
  generalize cD ps us=cd at *
  generalize (t.length:Int)=mm at *
  simp[ld,lw',fin]
end
def Gkx:Prop:=∀ {S:Sto} {t k:Nat},Dp S t k 0->∃ (ps:List Pl) (us:List Bool) (s0:S3) (S':Sto) (n:Nat),Jy [.lst t] S=.ok (.tup [cD ps us,stE s0]) S'/\Cn ps us/\Gd ps s0/\Dp S' t k n/\n<2^50
section
variable{ps:List Pl}{us:List Bool}{s0:S3}{S:Sto}{m:Nat}
def Dn.rt(C:Cn ps us)(g:Gd ps s0)(d:Dn ps us s0 m)(h:m<=2000)(T:Tl ps us (bq ps us s0 m) tl):Rt ps us s0 (bq ps us s0 m) tl where
 C:=C
 T:=T
 nd:=(Geu m d.go).nd
 hd:=by
  obtain⟨r,e⟩:=Gkm (ps:=ps) (us:=us) (s0:=s0) (n:=0) m
  rw[Nat.zero_add] at e
  rw[e]; rfl
 gd:=fun x hx=>d.gd C g (Ab _) hx
 len:=by rw[d.len]; exact h
def Dn.pos(d:Dn ps us s0 m):1<=m:=by
 have h:=Gpg (ps:=ps) (us:=us) (s0:=s0) (AB m)
 rw[d.len] at h
 exact h
abbrev rz(q t:Nat)(ps:List Pl)(us:List Bool)(s0:S3)(w m:Nat)(x6 x7:BC D):Lc:=[some (.lst q),some (.lst t),some (cD ps us),some (stE s0),some (.lst w),some (.int m),x6,x7]
def Gtc(C:Cn ps us)(g:Gd ps s0)(d:Dn ps us s0 m)(h:m<=160){t w:Nat}(hw:S[w]?=some ⟨false,(bq ps us s0 m).map stE⟩)(l0:0<=lim)(l1:lim<=m):
  ∃ S' y7,Wy (rz q t ps us s0 w m (some (.int lim)) x7) S=.nx (rz q t ps us s0 w m (some (.int lim)) y7) S'/\Ex S S':=by
 have m1:=d.pos
 by_cases c0:0<lim\/1<m
 ·by_cases c1:0<lim/\lim<m
  ·obtain⟨S1,e1,x1⟩:=Gyv (S:=S) C g d c1.2 (by omega) (by omega)
   refine⟨S1,some (.str "toomany"),?_,x1⟩
   have nr:neD (.str "toomany") (.str "toomany") S1=.ok (.bl false) S1:=Hbi (stok _)
   have c2:(0:Int)<lim:=c1.1
   have c3:lim<(m:Int):=c1.2
   unfold rz
   generalize stE s0=sd0 at *
   generalize cD ps us=cd at *
   generalize (m:Int)=mm at *
   simp[Wy,c2,c3,e1,nr]
  ·obtain⟨a,tl,S1,e1,q1,T,x1,la⟩:=Gs9 (S:=S) (lim:=lim) C g d (by split<;>omega) (by omega)
   obtain⟨S2,e2,x2⟩:=Gpp (d.rt C g (by omega) T) (x1.at hw) q1
   have il:isD "str" (.lst a) S1=.ok (.bl false) S1:=by simp[isD,isT,q1,tyN]
   have q2:=x2.at q1
   have ill:isLst (.lst a) S2=true:=by simp[isLst,q2]
   have cr:Gif (.lst a) [] S2=.ok .non (S2.set a ⟨false,[]⟩):=by simp[Gif,q2]
   refine⟨S2.set a ⟨false,[]⟩,some (.lst a),?_,(x1.trans x2).setq la⟩
   have mtl:sx (mt0 Gif (vr 7)) (rz q t ps us s0 w m (some (.int lim)) (some (.lst a))) S2=.nx (rz q t ps us s0 w m (some (.int lim)) (some (.lst a))) (S2.set a ⟨false,[]⟩):=by
    simp[mt0,ill,cr]
   have c0':(to (tb (o2 gtD (vr 6) (cn (.int 0)))) (tb (o2 gtD (vr 5) (cn (.int 1))))) (rz q t ps us s0 w m (some (.int lim)) x7) S=.ok true S:=by
    rcases c0 with c | c
    ·simp[c]
    ·have:(1:Int)<(m:Int):=by omega
     by_cases c2:(0:Int)<lim<;>simp[c2,this,c]
   have p1:(sa (cl 3 (Gi Qm) (ac (vr 2) (ac (vr 3) (ac (vr 6) an)))) (gn 7)) (rz q t ps us s0 w m (some (.int lim)) x7) S=.nx (rz q t ps us s0 w m (some (.int lim)) (some (.lst a))) S1:=by
    unfold rz
    generalize stE s0=sd0 at *
    generalize cD ps us=cd at *
    simp[e1]
   have c1':(ta (tb (o2 ltD (cn (.int 0)) (vr 6))) (tb (o2 ltD (vr 6) (vr 5)))) (rz q t ps us s0 w m (some (.int lim)) (some (.lst a))) S1=.ok false S1:=by
    by_cases c2:(0:Int)<lim
    ·have c3:¬ lim<(m:Int):=fun z=>c1 ⟨c2,z⟩
     simp[c2,c3]
    ·simp[c2]
   have p2:(sif (tn (tt (cl 4 (Gi Kf) (ac (vr 2) (ac (vr 3) (ac (vr 4) (ac (vr 7) an))))))) (sret (cn (.bl false))) DL.skip) (rz q t ps us s0 w m (some (.int lim)) (some (.lst a))) S1=.nx (rz q t ps us s0 w m (some (.int lim)) (some (.lst a))) S2:=by
    unfold rz
    generalize stE s0=sd0 at *
    generalize cD ps us=cd at *
    simp[e2,Vq]
   unfold Wy
   rw[Hw c0',Jf p1,Hl c1',Hl (S1:=S1) (by simp[il,Vq]),Jf p2]
   exact mtl
 ·have h1:¬ (0:Int)<lim:=fun z=>c0 (.inl z)
  have h2:¬ (1:Int)<(m:Int):=fun z=>c0 (.inr (by omega))
  refine⟨S,x7,?_,.refl⟩
  unfold rz
  generalize stE s0=sd0 at *
  generalize cD ps us=cd at *
  generalize (m:Int)=mm at *
  simp[Wy,h1,h2]
end
def Gpq(hs:Gkx){fz:Bool}{ns:List Int}(e:S[q]?=some ⟨fz,ns.map D.int⟩):∃ S',Gaw [.lst q] S=.ok (.bl true) S':=by
 obtain⟨t,k,S1,f1,d1⟩:=Gsh e
 obtain⟨ps,us,s0,S2,n,f2,C,g,d2,hn⟩:=hs d1
 have p1:fin (Gg9 [some (.lst q),none,none,none,none,none,none,none] S)=_:=rfl
 have b1':(sa (cl 1 (Gi Vv) (ac (vr 0) an)) (gn 1)) [some (.lst q),none,none,none,none,none,none,none] S=.nx [some (.lst q),some (.lst t),none,none,none,none,none,none] S1:=by simp[f1]
 have b2':(sa (cl 1 (Gi Jy) (ac (vr 1) an)) (gt (gcons (gn 2) (gcons (gn 3) gnil)) 2)) [some (.lst q),some (.lst t),none,none,none,none,none,none] S1=.nx [some (.lst q),some (.lst t),some (cD ps us),some (stE s0),none,none,none,none] S2:=by
  generalize stE s0=sd0 at *
  generalize cD ps us=cd at *
  simp[f2,gt,gcons,gnil]
 rcases Gs7 (S:=S2) (most:=160) C g (by decide) (by decide) with⟨m,S3,d,hm,f3,q3,x3⟩ | ⟨S3,f3,x3⟩
 ·have f3:Jp [cD ps us,stE s0,.int 160] S2=.ok (.lst S2.length) S3:=f3
  have m1:=d.pos
  have d3:=d2.ext x3
  have b3':(sa (cl 3 (Gi Jp) (ac (vr 2) (ac (vr 3) (ac (cn (.int 160)) an)))) (gn 4)) [some (.lst q),some (.lst t),some (cD ps us),some (stE s0),none,none,none,none] S2=.nx [some (.lst q),some (.lst t),some (cD ps us),some (stE s0),some (.lst S2.length),none,none,none] S3:=by
   generalize stE s0=sd0 at *
   generalize cD ps us=cd at *
   simp[f3]
  have ln:=Va q3
  simp only[Am,d.len] at ln
  have nn:Gcs (.lst S2.length) .non S3=.ok (.bl false) S3:=rfl
  obtain⟨r,S4,f4,r0,r1,d4,k4⟩:=Ui (m:=(m:Int)) d3 (by omega) (by omega) (by omega)
  have lt3:=d3.lt
  have lw:S2.length<S3.length:=(Aa.mp q3).1
  have d2lt:=d2.lt
  have q4:=k4.at q3 (by omega) (by omega)
  have ql:(S4++[(⟨false,[.int 0,.int m,.int ((m:Int)-1),.int (1+r)]⟩:Cell)])[S4.length]?=some ⟨false,[.int 0,.int m,.int ((m:Int)-1),.int (1+r)]⟩:=Gs
  have q5:(S4++[(⟨false,[.int 0,.int m,.int ((m:Int)-1),.int (1+r)]⟩:Cell)])[S2.length]?=_:=Hr q4
  have bl:ls (ac (cn (.int 0)) (ac (vr 5) (ac (o2 Ql (vr 5) (cn (.int 1))) (ac (o2 Gu (cn (.int 1)) (cl 2 (Gi Gg) (ac (vr 1) (ac (vr 5) an)))) an)))) (rz q t ps us s0 S2.length m none none) S3=.ok (.lst S4.length) (S4++[⟨false,[.int 0,.int m,.int ((m:Int)-1),.int (1+r)]⟩]):=by
   unfold rz
   generalize stE s0=sd0 at *
   generalize cD ps us=cd at *
   generalize (m:Int)=mm at *
   simp[f4]
  generalize S4++[(⟨false,[.int 0,.int m,.int ((m:Int)-1),.int (1+r)]⟩:Cell)]=S5 at *
  have sr:=Gbz ql
  obtain⟨ρ',S6,ef,y6,y7,hρ,x6⟩:=Uj (nxt:=(Wk S4.length 4).nxt) (g:=gn 6) (b:=Wy) (l:=[.int 0,.int m,.int ((m:Int)-1),.int (1+r)])
   (fun i ρ S'=>∃ y6 y7,ρ=rz q t ps us s0 S2.length m y6 y7/\Ex S5 S')
   (fun i _ S' ⟨_,_,_,x⟩=>by
    show(S'[S4.length]?).bind (fun c=>c.xs[i]?)=_
    rw[x.at ql]; rfl)
   (fun i dd ρ S' hd ⟨y6,y7,e,x⟩=>by
    subst e
    obtain⟨lim,rfl,l0,l1⟩:∃ lim:Int,dd=.int lim/\0<=lim/\lim<=m:=by
     have:=Ap hd
     simp only[Ae,AC,or_false] at this
     rcases this with rfl | rfl | rfl | rfl
     ·exact⟨0,rfl,by omega,by omega⟩
     ·exact⟨m,rfl,by omega,by omega⟩
     ·exact⟨_,rfl,by omega,by omega⟩
     ·exact⟨_,rfl,by omega,by omega⟩
    obtain⟨S7,z7,e7,x7⟩:=Gtc (q:=q) (t:=t) (x7:=y7) C g d hm (x.at q5) l0 l1
    exact⟨rz q t ps us s0 S2.length m (some (.int lim)) y7,_,S7,rfl,e7,_,_,rfl,x.trans x7⟩)
   5 0 (rz q t ps us s0 S2.length m none none) S5 (AB _) ⟨none,none,rfl,.refl⟩ (by simp)
  subst hρ
  obtain⟨tl,S8,f8,q8,T,x8⟩:=Gkp (S:=S6) (lim:=600) C g d (by omega) (by omega)
  have g8:gX ys (Gbt 600 Ww) [cD ps us,stE s0] S6=.ok (.lst S6.length) S8:=Zj (show Gbt 600 Ww [cD ps us,stE s0] S6=_ from f8)
  have l8:=Va q8
  simp only[T.len,d.len] at l8
  refine⟨S8,?_⟩
  unfold Gaw
  rw[Go]
  simp only[Gg9]
  refine(Ge b1').trans ((Ge b2').trans ((Ge b3').trans ?_))
  refine(Ge (ρ':=[some (.lst q),some (.lst t),some (cD ps us),some (stE s0),some (.lst S2.length),none,none,none]) (S':=S3) (by simp[nn])).trans ?_
  refine(Ge (ρ':=rz q t ps us s0 S2.length m none none) (S':=S3) (by simp[ln])).trans ?_
  refine(Ge (ρ':=rz q t ps us s0 S2.length m y6 y7) (S':=S6) ?_).trans ?_
  ·rw[Vh,Vw,bl,Gx,sr,Hq]
   exact ef
  ·unfold rz
   generalize stE s0=sd0 at *
   generalize cD ps us=cd at *
   generalize (m:Int)=mm at *
   simp[g8,l8,fin]
 ·have f3:Jp [cD ps us,stE s0,.int 160] S2=.ok .non S3:=f3
  have b3':(sa (cl 3 (Gi Jp) (ac (vr 2) (ac (vr 3) (ac (cn (.int 160)) an)))) (gn 4)) [some (.lst q),some (.lst t),some (cD ps us),some (stE s0),none,none,none,none] S2=.nx [some (.lst q),some (.lst t),some (cD ps us),some (stE s0),some .non,none,none,none] S3:=by
   generalize stE s0=sd0 at *
   generalize cD ps us=cd at *
   simp[f3]
  have nn:Gcs .non .non S3=.ok (.bl true) S3:=rfl
  refine⟨S3,?_⟩
  unfold Gaw
  rw[Go]
  simp only[Gg9]
  refine(Ge b1').trans ((Ge b2').trans ((Ge b3').trans ?_))
  refine Hx ?_
  simp[nn]
structure Rr(S:Sto)(t k q x y z:Nat)(s:S3):Prop where
 rw:Rw S q x y z (s.1.map D.int) (s.2.1.map D.int) (s.2.2.map D.int)
 ne:q≠x/\q≠y/\q≠z/\x≠y/\x≠z/\y≠z
 nt:q≠t/\x≠t/\y≠t/\z≠t/\q≠k/\x≠k/\y≠k/\z≠k
structure Ms(SB S:Sto)(t k n q x y z:Nat)(s:S3):Prop where
 d:Dp S t k n
 kp:Kp SB S t k
 rr:Rr S t k q x y z s
 lo:SB.length<=q/\SB.length<=x/\SB.length<=y/\SB.length<=z
noncomputable def up3(i:Nat)(s:S3)(j:Nat)(v:Int):S3:=if i=0 then(s.1.set j v,s.2.1,s.2.2) else if i=1 then(s.1,s.2.1.set j v,s.2.2) else(s.1,s.2.1,s.2.2.set j v)
section
variable{SB S S':Sto}{t k n q x y z:Nat}{s:S3}
def Rr.kp(h:Rr S t k q x y z s)(kp:Kp S S' t k):Rr S' t k q x y z s:=
 ⟨⟨kp.at h.rw.q0 h.nt.1 h.nt.2.2.2.2.1,kp.at h.rw.q1 h.nt.2.1 h.nt.2.2.2.2.2.1,kp.at h.rw.q2 h.nt.2.2.1 h.nt.2.2.2.2.2.2.1,kp.at h.rw.q3 h.nt.2.2.2.1 h.nt.2.2.2.2.2.2.2⟩,h.ne,h.nt⟩
def Ms.ex(h:Ms SB S t k n q x y z s)(e:Ex S S'):Ms SB S' t k n q x y z s:=⟨h.d.ext e,h.kp.trans e.kp,h.rr.kp e.kp,h.lo⟩
def Ms.draw(h:Ms SB S t k n q x y z s){m:Int}(hn:n<2^60)(hm:0<m)(hm2:m<2^200):∃ r S',Gg [.lst t,.int m] S=.ok (.int r) S'/\0<=r/\r<m/\Ms SB S' t k (n+1) q x y z s:=by
 obtain⟨r,S',e,a,b,d,kp⟩:=Ui h.d hn hm hm2
 exact⟨r,S',e,a,b,d,h.kp.trans kp,h.rr.kp kp,h.lo⟩
def Ms.pick(h:Ms SB S t k n q x y z s){m:Int}(hn:n<2^60)(hm:m=xs.length)(h0:0<xs.length)(h1:xs.length<1000):∃ r d S',Gg [.lst t,.int m] (S++[⟨false,xs⟩])=.ok (.int r) S'/\DL.getD (.lst S.length) (.int r) S'=.ok d S'/\d∈xs/\Ms SB S' t k (n+1) q x y z s:=by
 obtain⟨r,d,S',e,g,hd,dd,kp⟩:=Xm h.d hn hm h0 h1
 exact⟨r,d,S',e,g,hd,dd,h.kp.trans kp,h.rr.kp kp,h.lo⟩
def Gpr{M:List Int}{c:Nat}(h:S[c]?=some ⟨false,M.map D.int⟩)(h0:0<M.length):Hm (.lst c) (.int (-1)) (.int v) S=some (S.set c ⟨false,(M.set (M.length-1) v).map D.int⟩):=by
 have e:ixN (M.map D.int).length (-1)=some (M.length-1):=by
  simp only[ixN,Am]
  rw[if_neg (by omega),if_pos (by omega)]
  congr 1
  omega
 unfold Hm
 simp only[h]
 rw[e]
 simp[List.map_set]
def Ms.put(h:Ms SB S t k n q x y z s){i:Nat}(hi:i<3)(l0:j<s.1.length)(l1:j<s.2.1.length)(l2:j<s.2.2.length):∃ c S',DL.getD (.lst q) (.int (i:Int)) S=.ok (.lst c) S/\Hm (.lst c) (.int (j:Int)) (.int v) S=some S'/\(j+1=s.2.1.length->i=1->Hm (.lst c) (.int (-1)) (.int v) S=some S')/\Ms SB S' t k n q x y z (up3 i s j v):=by
 obtain⟨d,kp,⟨⟨r0,r1,r2,r3⟩,ne,nt⟩,lo⟩:=h
 obtain⟨n1,n2,n3,n4,n5,n6⟩:=ne
 obtain⟨t1,t2,t3,t4,t5,t6,t7,t8⟩:=nt
 rcases(by omega:i=0\/i=1\/i=2) with rfl | rfl | rfl
 ·have lx:x<S.length:=(Aa.mp r1).1
  refine⟨x,S.set x ⟨false,(s.1.set j v).map D.int⟩,Jr r0 rfl,Vx r1 (Af l0),fun _ z=>absurd z (by decide),d.set t2 t6,kp.setq lo.2.1,⟨⟨?_,?_,?_,?_⟩,⟨n1,n2,n3,n4,n5,n6⟩,⟨t1,t2,t3,t4,t5,t6,t7,t8⟩⟩,lo⟩
  ·rw[Ad (Ne.symm n1)]; exact r0
  ·exact Ah lx
  ·rw[Ad n4]; exact r2
  ·rw[Ad n5]; exact r3
 ·have lx:y<S.length:=(Aa.mp r2).1
  refine⟨y,S.set y ⟨false,(s.2.1.set j v).map D.int⟩,Jr r0 rfl,Vx r2 (Af l1),fun e _=>by rw[Gpr r2 (by omega),show s.2.1.length-1=j by omega],d.set t3 t7,kp.setq lo.2.2.1,⟨⟨?_,?_,?_,?_⟩,⟨n1,n2,n3,n4,n5,n6⟩,⟨t1,t2,t3,t4,t5,t6,t7,t8⟩⟩,lo⟩
  ·rw[Ad (Ne.symm n2)]; exact r0
  ·rw[Ad (Ne.symm n4)]; exact r1
  ·exact Ah lx
  ·rw[Ad n6]; exact r3
 ·have lx:z<S.length:=(Aa.mp r3).1
  refine⟨z,S.set z ⟨false,(s.2.2.set j v).map D.int⟩,Jr r0 rfl,Vx r3 (Af l2),fun _ z=>absurd z (by decide),d.set t4 t8,kp.setq lo.2.2.2,⟨⟨?_,?_,?_,?_⟩,⟨n1,n2,n3,n4,n5,n6⟩,⟨t1,t2,t3,t4,t5,t6,t7,t8⟩⟩,lo⟩
  ·rw[Ad (Ne.symm n3)]; exact r0
  ·rw[Ad (Ne.symm n5)]; exact r1
  ·rw[Ad (Ne.symm n6)]; exact r2
  ·exact Ah lx
end
structure Ok3(ps:List Pl)(s:S3):Prop where
 l0:s.1.length=ps.length
 l1:s.2.1.length=ps.length
 l2:s.2.2.length=ps.length
 at':∀ (i:Nat) (p:Pl) (l r f:Int),ps[i]?=some p->s.1[i]?=some l->s.2.1[i]?=some r->s.2.2[i]?=some f->0<=l/\l<=wat p/\0<=r/\r<=3/\0<=f/\f<=3/\hol p (r+f)=true
section
variable{ps:List Pl}{us:List Bool}{s:S3}
def Ggc{M:List Int}{i:Nat}{x:Int}(h:(M.set j v)[i]?=some x):(i=j/\x=v)\/(i≠j/\M[i]?=some x):=Gf7 h
def Ok3.put(h:Ok3 ps s){i:Nat}{p:Pl}{r f:Int}(hp:ps[j]?=some p)(hr:s.2.1[j]?=some r)(hf:s.2.2[j]?=some f)(h0:0<=v)(h1:i=0->v<=wat p)(h2:i≠0->v<=3)(h3:i=1->hol p (v+f)=true)(h4:2<=i->hol p (r+v)=true):Ok3 ps (up3 i s j v):=by
 unfold up3
 split
 ·rename_i e
  refine⟨by simpa using h.l0,h.l1,h.l2,fun a p' l r' f' e1 e2 e3 e4=>?_⟩
  rcases Ggc e2 with⟨rfl,rfl⟩ | ⟨_,e2⟩
  ·rw[hp] at e1; cases (Ac e1)
   have lj:a<s.1.length:=by rw[h.l0]; exact(Aa.mp hp).1
   have:=h.at' a p _ r' f' hp (Af lj) e3 e4
   exact⟨h0,h1 e,this.2.2⟩
  ·exact h.at' a p' l r' f' e1 e2 e3 e4
 ·split
  ·rename_i e
   refine⟨h.l0,by simpa using h.l1,h.l2,fun a p' l r' f' e1 e2 e3 e4=>?_⟩
   rcases Ggc e3 with⟨rfl,rfl⟩ | ⟨_,e3⟩
   ·rw[hp] at e1; cases (Ac e1)
    rw[hf] at e4; cases (Ac e4)
    have:=h.at' a p l r f hp e2 hr hf
    exact⟨this.1,this.2.1,h0,h2 (by omega),this.2.2.2.2.1,this.2.2.2.2.2.1,h3 e⟩
   ·exact h.at' a p' l r' f' e1 e2 e3 e4
  ·refine⟨h.l0,h.l1,by simpa using h.l2,fun a p' l r' f' e1 e2 e3 e4=>?_⟩
   rcases Ggc e4 with⟨rfl,rfl⟩ | ⟨_,e4⟩
   ·rw[hp] at e1; cases (Ac e1)
    rw[hr] at e3; cases (Ac e3)
    have:=h.at' a p l r f hp e2 hr hf
    exact⟨this.1,this.2.1,this.2.2.1,this.2.2.2.1,h0,h2 (by omega),h4 (by omega)⟩
   ·exact h.at' a p' l r' f' e1 e2 e3 e4
def Giv:∀ {M:List Int},(∀ i∈M,i<=3)->M.sum<=3*(M.length:Int)
 | [],_=>by simp
 | a::M,h=>by
  have h1:=h a Aw
  have h2:=Giv (M:=M) fun i hi=>h i (Au _ hi)
  simp only[AS,AZ]
  push_cast
  omega
def Ok3.gd(h:Ok3 ps s)(hl:ps.length<=13):Gd ps s:=by
 have all:∀ i,i<ps.length->∃ p l r f,ps[i]?=some p/\s.1[i]?=some l/\s.2.1[i]?=some r/\s.2.2[i]?=some f:=fun i hi=>⟨_,_,_,_,Af hi,Af (by rw[h.l0]; exact hi),Af (by rw[h.l1]; exact hi),Af (by rw[h.l2]; exact hi)⟩
 have mL:∀ v∈s.1,0<=v:=fun v hv=>by
  obtain⟨i,hi⟩:=A7.mp hv
  obtain⟨p,l,r,f,e1,e2,e3,e4⟩:=all i (by rw[<- h.l0]; exact(Aa.mp hi).1)
  exact(h.at' i p v r f e1 hi e3 e4).1
 have mR:∀ v∈s.2.1,0<=v/\v<=3:=fun v hv=>by
  obtain⟨i,hi⟩:=A7.mp hv
  obtain⟨p,l,r,f,e1,e2,e3,e4⟩:=all i (by rw[<- h.l1]; exact(Aa.mp hi).1)
  have:=h.at' i p l v f e1 e2 hi e4
  omega
 have mF:∀ v∈s.2.2,0<=v/\v<=3:=fun v hv=>by
  obtain⟨i,hi⟩:=A7.mp hv
  obtain⟨p,l,r,f,e1,e2,e3,e4⟩:=all i (by rw[<- h.l2]; exact(Aa.mp hi).1)
  have:=h.at' i p l r v e1 e2 e3 hi
  omega
 refine⟨h.l0,h.l1,h.l2,mL,fun v hv=>(mR v hv).1,fun v hv=>(mF v hv).1,fun i p l r f e1 e2 e3 e4=>?_,?_⟩
 ·have:=h.at' i p l r f e1 e2 e3 e4
  exact⟨this.2.1,this.2.2.2.2.2.2⟩
 ·have a:=Giv fun v hv=>(mR v hv).2
  have b:=Giv fun v hv=>(mF v hv).2
  rw[h.l1] at a
  rw[h.l2] at b
  omega
end
section
variable{SB S S':Sto}{t k n q x y z P:Nat}{s:S3}{ps:List Pl}{room:Int}
def Ms.mono(h:Ms SB S t k n q x y z s)(hm:n<=m):Ms SB S t k m q x y z s:=⟨h.d.mono hm,h.kp,h.rr,h.lo⟩
def Gps(h:Ms SB S t k n q x y z s)(hn:n<2^59)(hr:room=1\/room=2):∃ (a b:Int) (S':Sto),Qi [.lst t,.int room] S=.ok (.tup [.int a,.int b]) S'/\0<=a/\0<=b/\a+b<=room/\Ms SB S' t k (n+1) q x y z s:=by
 obtain⟨w,hw,w1,w2⟩:∃ w:Int,min 2 room=w/\1<=w/\w<=room:=⟨_,rfl,by omega,by omega⟩
 obtain⟨r,d,S1,e1,g1',hd,m1⟩:=h.pick (m:=8) (xs:=[.tup [.int 0,.int 0],.tup [.int 0,.int 0],.tup [.int w,.int 0],.tup [.int 0,.int w],.tup [.int 1,.int 0],.tup [.int 0,.int 1],.tup [.int 1,.int (w-1)],.tup [.int (w-1),.int 1]]) (by omega) rfl (by simp) (by simp)
 obtain⟨a,b,rfl,a0,b0,ab⟩:∃ a b:Int,d=.tup [.int a,.int b]/\0<=a/\0<=b/\a+b<=room:=by
  simp only[Ae,AC,or_false] at hd
  rcases hd with rfl | rfl | rfl | rfl | rfl | rfl | rfl | rfl<;>exact⟨_,_,rfl,by omega,by omega,by omega⟩
 refine⟨a,b,S1,?_,a0,b0,ab,m1⟩
 unfold Qi
 rw[Go]
 simp only[Ux]
 refine(Ge (ρ':=[some (.lst t),some (.int room),some (.int w),none]) (S':=S) (by simp[hw])).trans ?_
 refine(Ge (ρ':=[some (.lst t),some (.int room),some (.int w),some (.lst S.length)]) (S':=S++[⟨false,[.tup [.int 0,.int 0],.tup [.int 0,.int 0],.tup [.int w,.int 0],.tup [.int 0,.int w],.tup [.int 1,.int 0],.tup [.int 0,.int 1],.tup [.int 1,.int (w-1)],.tup [.int (w-1),.int 1]]⟩]) (by simp)).trans ?_
 simp[e1,g1',fin]
noncomputable abbrev re(t P q:Nat)(room:Int)(x1 x3 x4 x5 x6 x7 x8 x9 x12 x13:BC D):Lc:=[some (.lst t),x1,some (.int room),x3,x4,x5,x6,x7,x8,x9,some (.lst P),some (.lst q),x12,x13]
def Giw{x1 x3 x6 x8 x12 x13:BC D}{p:Pl}(h:Ms SB S t k n q x y z s)(hn:n<2^58)(hP:SB[P]?=some ⟨false,ps.map Pl.toD⟩)(Pt:P≠t)(Pk:P≠k)(hr:room=1\/room=2)(o:Ok3 ps s)(hp:ps[j]?=some p)(ok:p.ok)(hE:p.isE=false)(hro:∀ br de ro pr,p=.p br de ro pr->ro=room)(z1:s.2.1[j]?=some 0)(z2:s.2.2[j]?=some 0):
  ∃ S' y12 s',Ke (re t P q room x1 x3 x4 x5 x6 x7 x8 (some (.int j)) x12 x13) S=.nx (re t P q room x1 x3 x4 x5 x6 x7 x8 (some (.int j)) y12 x13) S'/\Ms SB S' t k (n+3) q x y z s'/\Ok3 ps s'/\∀ i,i≠j->s'.2.1[i]?=s.2.1[i]?/\s'.2.2[i]?=s.2.2[i]?:=by
 have jl:=(Aa.mp hp).1
 have gP:∀ {S':Sto} {n':Nat} {s':S3},Ms SB S' t k n' q x y z s'->DL.getD (.lst P) (.int (j:Int)) S'=.ok p.toD S':=fun m=>Jr (m.kp.at hP Pt Pk) (Ha (by omega) (by rw[AG,As,hp]; rfl))
 obtain⟨d,w1,w2⟩:=Hbo (S:=S) hE
 have wp:0<=wat p/\wat p<=9:=by
  cases p with
  | e=>exact⟨by decide,by decide⟩
  | c=>exact⟨by decide,by decide⟩
  | p br de ro pr=>simp only[wat,Pl.ok] at ok ⊢; omega
 obtain⟨v,S1,e1,v0,v1,m1⟩:=h.draw (m:=wat p+1) (by omega) (by omega) (by omega)
 obtain⟨c,S2,g2,s2,_,m2⟩:=m1.put (i:=0) (j:=j) (v:=v) (by decide) (by rw[o.l0]; exact jl) (by rw[o.l1]; exact jl) (by rw[o.l2]; exact jl)
 have g2:DL.getD (.lst q) (.int 0) S1=.ok (.lst c) S1:=g2
 have o2':Ok3 ps (up3 0 s j v):=o.put hp z1 z2 v0 (fun _=>by omega) (fun z=>absurd rfl z) (fun z=>absurd z (by decide)) (fun z=>absurd z (by decide))
 have e0:up3 0 s j v=(s.1.set j v,s.2.1,s.2.2):=rfl
 rw[e0] at m2 o2'
 have p1:(ss (cl 2 (Gi Gg) (ac (vr 0) (ac (o2 Gu (o2 DL.getD (o2 Gu (o2 DL.getD (vr 10) (vr 9)) (tp (ac (cn (.int 1)) an))) (cn (.int 1))) (cn (.int 1))) an))) (o2 DL.getD (vr 11) (cn (.int 0))) (vr 9) Hm) (re t P q room x1 x3 x4 x5 x6 x7 x8 (some (.int j)) x12 x13) S=.nx (re t P q room x1 x3 x4 x5 x6 x7 x8 (some (.int j)) x12 x13) S2:=by
  have gp:=gP h
  simp[gp,w1,w2,e1,g2,s2]
 obtain⟨wy,S3,e3,y0,y1,m3⟩:=m2.draw (m:=3) (by omega) (by decide) (by decide)
 have p2:(sa (cl 2 (Gi Gg) (ac (vr 0) (ac (cn (.int 3)) an))) (gn 12)) (re t P q room x1 x3 x4 x5 x6 x7 x8 (some (.int j)) x12 x13) S2=.nx (re t P q room x1 x3 x4 x5 x6 x7 x8 (some (.int j)) (some (.int wy)) x13) S3:=by
  simp[e3]
 have gp3:=gP m3
 unfold Ke
 rw[Jf p1,Jf p2]
 have o3l:=o2'.l0
 have o3l1:=o2'.l1
 have o3l2:=o2'.l2
 cases p with
 | e=>cases hE
 | c=>
  have l1:Gy [Pl.c.toD] S3=.ok (.int 1) S3:=rfl
  have ct:tb (o2 gtD (b1 Gy (ac (o2 DL.getD (vr 10) (vr 9)) an)) (cn (.int 1))) (re t P q room x1 x3 x4 x5 x6 x7 x8 (some (.int j)) (some (.int wy)) x13) S3=.ok false S3:=by
   simp[gp3,l1]
  rw[Hl ct]
  by_cases cw:0<wy
  ·obtain⟨i,rfl⟩:∃ i:Nat,wy=i:=⟨wy.toNat,by omega⟩
   obtain⟨c4,S4,g4,s4,_,m4⟩:=m3.put (i:=i) (j:=j) (v:=1) (by omega) (by rw[o3l]; exact jl) (by rw[o3l1]; exact jl) (by rw[o3l2]; exact jl)
   have o4:Ok3 ps (up3 i (s.1.set j v,s.2.1,s.2.2) j 1):=o2'.put hp z1 z2 (by decide) (fun z=>absurd z (by omega)) (fun _=>by decide) (fun _=>rfl) (fun _=>rfl)
   refine⟨S4,some (.int i),_,?_,m4.mono (by omega),o4,fun a ha=>?_⟩
   ·have ci:0<i:=by omega
    rw[Hw (S1:=S3) (by simp[ci])]
    simp[g4,s4]
   ·unfold up3
    rw[if_neg (by omega)]
    split
    ·exact⟨Ad (Ne.symm ha),rfl⟩
    ·exact⟨rfl,Ad (Ne.symm ha)⟩
  ·refine⟨S3,some (.int wy),_,?_,m3.mono (by omega),o2',fun a ha=>⟨rfl,rfl⟩⟩
   rw[Hl (S1:=S3) (by simp[cw])]
   rfl
 | p br de ro pr=>
  have ero:=hro br de ro pr rfl
  have l1:Gy [(Pl.p br de ro pr).toD] S3=.ok (.int 5) S3:=rfl
  have ct:tb (o2 gtD (b1 Gy (ac (o2 DL.getD (vr 10) (vr 9)) an)) (cn (.int 1))) (re t P q room x1 x3 x4 x5 x6 x7 x8 (some (.int j)) (some (.int wy)) x13) S3=.ok true S3:=by
   simp[gp3,l1]
  rw[Hw ct]
  obtain⟨a,b,S4,e4,a0,b0,ab,m4⟩:=Gps m3 (by omega) hr
  obtain⟨c5,S5,g5,s5,_,m5⟩:=m4.put (i:=1) (j:=j) (v:=a) (by decide) (by rw[o3l]; exact jl) (by rw[o3l1]; exact jl) (by rw[o3l2]; exact jl)
  have o5:Ok3 ps (up3 1 (s.1.set j v,s.2.1,s.2.2) j a):=o2'.put hp z1 z2 a0 (fun z=>absurd z (by decide)) (fun _=>by omega) (fun _=>by show decide (a+0<=ro)=true; exact decide_eq_true (by omega)) (fun z=>absurd z (by decide))
  have e5:up3 1 (s.1.set j v,s.2.1,s.2.2) j a=(s.1.set j v,s.2.1.set j a,s.2.2):=rfl
  rw[e5] at m5 o5
  have zj:(s.2.1.set j a)[j]?=some a:=Ah (by rw[o.l1]; exact jl)
  obtain⟨c6,S6,g6,s6,_,m6⟩:=m5.put (i:=2) (j:=j) (v:=b) (by decide) (by rw[o5.l0]; exact jl) (by rw[o5.l1]; exact jl) (by rw[o5.l2]; exact jl)
  have o6:Ok3 ps (up3 2 (s.1.set j v,s.2.1.set j a,s.2.2) j b):=o5.put hp zj z2 b0 (fun z=>absurd z (by decide)) (fun _=>by omega) (fun z=>absurd z (by decide)) (fun _=>by show decide (a+b<=ro)=true; exact decide_eq_true (by omega))
  have g5:DL.getD (.lst q) (.int 1) S4=.ok (.lst c5) S4:=g5
  have g6:DL.getD (.lst q) (.int 2) S5=.ok (.lst c6) S5:=g6
  refine⟨S6,some (.int wy),_,?_,m6.mono (by omega),o6,fun i ha=>⟨Ad (Ne.symm ha),Ad (Ne.symm ha)⟩⟩
  simp[ss2,e4,g5,s5,g6,s6]
end
def LE(e:Ev D)(ρ:Lc)(S:Sto)(xs:List D):Prop:=∃ a S',e ρ S=.ok (.lst a) S'/\S'[a]?=some ⟨false,xs⟩/\Ex S S'
def LN(e:Ev D)(ρ:Lc)(S:Sto)(xs:List D):Prop:=∃ a S',e ρ S=.ok (.lst a) S'/\S'[a]?=some ⟨false,xs⟩/\Ex S S'/\S.length<=a
section
variable{e1 e2:Ev D}{ρ:Lc}{S:Sto}{xs ys:List D}{d:D}
def LN.le(h:LN e1 ρ S xs):LE e1 ρ S xs:=let ⟨a,S',h1,h2,h3,_⟩:=h; ⟨a,S',h1,h2,h3⟩
def Gpt(h1:LE e1 ρ S xs)(h2:∀ S',Ex S S'->LE e2 ρ S' ys)(hl:xs.length+ys.length<=1000000):LN (o2 Gu e1 e2) ρ S (xs++ys):=by
 obtain⟨a,S1,f1,q1,x1⟩:=h1
 obtain⟨b,S2,f2,q2,x2⟩:=h2 S1 x1
 have ad:=Zw (x2.at q1) q2 hl
 exact⟨S2.length,_,by simp[f1,f2,ad],Gs,(x1.trans x2).trans Ex.app,Aj x1.len x2.len⟩
def le_ls{f:Ev (List D)}(h:f ρ S=.ok xs S)(hl:xs.length<=1000000):LN (ls f) ρ S xs:=⟨S.length,S++[⟨false,xs⟩],by simp[h,hl],Gs,Ex.app,Ab _⟩
def Gy0(h1:LE e1 ρ S [d])(h2:∀ S',Ex S S'->e2 ρ S'=.ok (.int n) S')(hn:n<=1000):LN (o2 Jc e1 e2) ρ S (List.replicate n d):=by
 obtain⟨a,S1,f1,q1,x1⟩:=h1
 have m:=Gfx q1 hn
 exact⟨S1.length,_,by simp[f1,h2 S1 x1,m],Gs,x1.trans Ex.app,x1.len⟩
def le_vr{i:Nat}(h:ρ[i]?=some (some (.lst a)))(q:S[a]?=some ⟨false,xs⟩):LE (vr i) ρ S xs:=⟨a,S,by simp[h],q,Ex.refl⟩
end
section
variable{e1 e2 e3:Ev D}{ρ:Lc}{S:Sto}{t k n:Nat}{A B C:List Int}
def Gpu(d:Dp S t k n)(h1:LN e1 ρ S (A.map D.int))(h2:∀ S',Ex S S'->LN e2 ρ S' (B.map D.int))(h3:∀ S',Ex S S'->LN e3 ρ S' (C.map D.int)):∃ q x y z S',ls (ac e1 (ac e2 (ac e3 an))) ρ S=.ok (.lst q) S'/\Ms S S' t k n q x y z (A,B,C)/\Ex S S':=by
 obtain⟨x,S1,f1,q1,x1,l1⟩:=h1
 obtain⟨y,S2,f2,q2,x2,l2⟩:=h2 S1 x1
 obtain⟨z,S3,f3,q3,x3,l3⟩:=h3 S2 (x1.trans x2)
 have a1:x<S1.length:=(Aa.mp q1).1
 have a2:y<S2.length:=(Aa.mp q2).1
 have a3:z<S3.length:=(Aa.mp q3).1
 have lt:=d.lt
 have n1:=x1.len
 have n2:=x2.len
 have n3:=x3.len
 have ex:Ex S (S3++[⟨false,[.lst x,.lst y,.lst z]⟩]):=(x1.trans (x2.trans x3)).trans Ex.app
 refine⟨S3.length,x,y,z,S3++[⟨false,[.lst x,.lst y,.lst z]⟩],by simp[f1,f2,f3],⟨d.ext ex,ex.kp,⟨⟨Gs,Hr (x3.at (x2.at q1)),Hr (x3.at q2),Hr q3⟩,by omega,by omega⟩,by omega⟩,ex⟩
def zero_row{e:Ev D}(h:∀ S',Ex S S'->e ρ S'=.ok (.int N) S')(hN:N<=1000):LN (o2 Jc (ls (ac (cn (.int 0)) an)) e) ρ S ((List.replicate N (0:Int)).map D.int):=by
 have:=Gy0 (e1:=ls (ac (cn (.int 0)) an)) (e2:=e) (ρ:=ρ) (S:=S) (d:=.int 0) (n:=N) (LN.le (le_ls (by simp) (by simp))) h hN
 rw[List.map_replicate]
 exact this
end
section
variable{S:Sto}{t k n:Nat}
def ok5{a0 a1 a2 a3 a4 b0 b1 b2 b3 b4 c0 c1 c2 c3 c4:Int}(h0:a0=0)(h1:0<=a1/\a1<=1)(h2:0<=a2/\a2<=1)(h3:0<=a3/\a3<=1)(h4:a4=0)(hb:(0<=b0/\b0<=3)/\(0<=b1/\b1<=3)/\(0<=b2/\b2<=3)/\(0<=b3/\b3<=3)/\0<=b4/\b4<=3)(hc:(0<=c0/\c0<=3)/\(0<=c1/\c1<=3)/\(0<=c2/\c2<=3)/\(0<=c3/\c3<=3)/\0<=c4/\c4<=3)(s1:b1+c1<=1)(s2:b2+c2<=ro)(s3:b3+c3<=1):Ok3 [.e,.c,.p 1 de ro .non,.c,.e] ([a0,a1,a2,a3,a4],[b0,b1,b2,b3,b4],[c0,c1,c2,c3,c4]):=by
 refine⟨rfl,rfl,rfl,fun i p l r f e1 e2 e3 e4=>?_⟩
 have hi:i<5:=(Aa.mp e1).1
 rcases(by omega:i=0\/i=1\/i=2\/i=3\/i=4) with rfl | rfl | rfl | rfl | rfl<;>
  (cases (Ac e1); cases (Ac e2); cases (Ac e3); cases (Ac e4); simp[wat,hol]; omega)
noncomputable abbrev rk(t:Nat)(w:Int)(x2 x3 x4 x5 x6 x7:BC D):Lc:=[some (.lst t),some (.int w),x2,x3,x4,x5,x6,x7]
def Ghn{x:Nat}{s:S3}{w lv mo:Int}(M:Ms SB S t k n q x y z s)(hro:2<=ro/\ro<=3)(hde:0<=de/\de<=1)(o:Ok3 [.e,.c,.p 1 de ro .non,.c,.e] s):∃ S',fin ((sq (sa (tp (ac (tp (ac (cn (.str "end")) an)) (ac (tp (ac (cn (.str "chamber")) an)) (ac (tp (ac (cn (.str "pound")) (ac (cn (.int 1)) (ac (vr 4) (ac (vr 2) (ac (cn .non) an)))))) (ac (tp (ac (cn (.str "chamber")) an)) (ac (tp (ac (cn (.str "end")) an)) an)))))) (gn 7))
  (sret (tp (ac (tp (ac (vr 7) (ac (tp (ac (cn (.str "down")) (ac (cn (.str "up")) (ac (cn (.str "down")) (ac (cn (.str "up")) an))))) an))) (ac (b1 Kc (ac (cmp (isrc (vr 6)) [none] (gn 0) ttrue (b1 Kc (ac (vr 0) an))) an)) an))))) (rk t w (some (.int ro)) (some (.int lv)) (some (.int de)) (some (.int mo)) (some (.lst q)) none) S)=.ok (.tup [cD [.e,.c,.p 1 de ro .non,.c,.e] [false,true,false,true],stE s]) S'/\Ex S S':=by
 obtain⟨S',e,x'⟩:=Gj8 (f:=vr 6) (ρ:=rk t w (some (.int ro)) (some (.int lv)) (some (.int de)) (some (.int mo)) (some (.lst q)) (some (.tup [.tup [.str "end"],.tup [.str "chamber"],.tup [.str "pound",.int 1,.int de,.int ro,.non],.tup [.str "chamber"],.tup [.str "end"]]))) M.rr.rw rfl
 refine⟨S',?_,x'⟩
 refine(Ge (ρ':=rk t w (some (.int ro)) (some (.int lv)) (some (.int de)) (some (.int mo)) (some (.lst q)) (some (.tup [.tup [.str "end"],.tup [.str "chamber"],.tup [.str "pound",.int 1,.int de,.int ro,.non],.tup [.str "chamber"],.tup [.str "end"]]))) (S':=S) (by simp)).trans ?_
 generalize b1 Kc (ac (cmp (isrc (vr 6)) [none] (gn 0) ttrue (b1 Kc (ac (vr 0) an))) an)=E at e ⊢
 unfold rk at e ⊢
 simp[e]
 exact⟨rfl,rfl⟩
def Gky{i:Nat}{s:S3}:(up3 i s j v).1.length=s.1.length/\(up3 i s j v).2.1.length=s.2.1.length/\(up3 i s j v).2.2.length=s.2.2.length:=by
 unfold up3
 split
 ·simp
 ·split<;>simp
def Gpv{i b x:Nat}{s:S3}{lv mo:Int}(M:Ms SB S t k n q x y z s)(hi:i<3)(i1:1<=i)(ha:a<5)(hb:b<5)(l0:s.1.length=5)(l1:s.2.1.length=5)(l2:s.2.2.length=5)(at1:atI [D.int 0,.int 3,.int 1] (i:Int)=some (.int (a:Int)))(at2:atI [D.int 0,.int 0,.int 4] (i:Int)=some (.int (b:Int))):
  ∃ S',(∀ X:Sv,fin ((sq (ss (vr 2) (o2 DL.getD (vr 6) (vr 1)) (cn (.int 2)) Hm) (sq (ss (cn (.int 1)) (o2 DL.getD (vr 6) (o2 Ql (cn (.int 3)) (vr 1))) (o2 DL.getD (ls (ac (cn (.int 0)) (ac (cn (.int 3)) (ac (cn (.int 1)) an)))) (vr 1)) Hm) (sq (ss (vr 5) (o2 DL.getD (vr 6) (vr 1)) (o2 DL.getD (ls (ac (cn (.int 0)) (ac (cn (.int 0)) (ac (cn (.int 4)) an)))) (vr 1)) Hm) X))) (rk t i (some (.int ro)) (some (.int lv)) (some (.int de)) (some (.int mo)) (some (.lst q)) none) S)=fin (X (rk t i (some (.int ro)) (some (.int lv)) (some (.int de)) (some (.int mo)) (some (.lst q)) none) S'))/\Ms SB S' t k n q x y z (up3 i (up3 (3-i) (up3 i s 2 ro) a 1) b mo):=by
 obtain⟨c6,S6,g6,s6,_,M6⟩:=M.put (i:=i) (j:=2) (v:=ro) hi (by omega) (by omega) (by omega)
 have u6:=Gky (i:=i) (j:=2) (s:=s) (v:=ro)
 have s6:Hm (.lst c6) (.int 2) (.int ro) S=some S6:=s6
 have ne3:((3:Int)-(i:Int))=((3-i:Nat):Int):=by omega
 obtain⟨c7,_,g7,_,_,_⟩:=M6.put (i:=3-i) (j:=a) (v:=1) (by omega) (by omega) (by omega) (by omega)
 have M6':=M6.ex (Ex.app (c:=⟨false,[.int 0,.int 3,.int 1]⟩))
 have q6:(S6++[(⟨false,[.int 0,.int 3,.int 1]⟩:Cell)])[S6.length]?=some ⟨false,[.int 0,.int 3,.int 1]⟩:=Gs
 have p6:∀ ρ':Lc,ls (ac (cn (.int 0)) (ac (cn (.int 3)) (ac (cn (.int 1)) an))) ρ' S6=.ok (.lst S6.length) (S6++[⟨false,[.int 0,.int 3,.int 1]⟩]):=fun ρ'=>by simp
 generalize S6++[(⟨false,[.int 0,.int 3,.int 1]⟩:Cell)]=S6' at *
 have i6:DL.getD (.lst S6.length) (.int (i:Int)) S6'=.ok (.int (a:Int)) S6':=Jr q6 at1
 obtain⟨c7',S7,g7',s7,_,M7⟩:=M6'.put (i:=3-i) (j:=a) (v:=1) (by omega) (by omega) (by omega) (by omega)
 have ec:c7=c7':=by
  have r:=M6.rr.rw.q0
  have r':=M6'.rr.rw.q0
  have e1:DL.getD (.lst q) (.int ((3-i:Nat):Int)) S6=.ok (.lst c7) S6:=g7
  simp only[DL.getD,r] at e1
  have e2:=g7'
  simp only[DL.getD,r'] at e2
  cases hh:atI [D.lst x,.lst y,.lst z] ((3-i:Nat):Int) with
  | none=>rw[hh] at e1; cases e1
  | some d=>
   rw[hh] at e1 e2
   injection e1 with e1 _
   injection e2 with e2 _
   rw[e1] at e2
   injection e2
 subst ec
 have u7:=Gky (i:=3-i) (j:=a) (s:=up3 i s 2 ro) (v:=1)
 have M7':=M7.ex (Ex.app (c:=⟨false,[.int 0,.int 0,.int 4]⟩))
 obtain⟨c8,_,g8,_,_,_⟩:=M7.put (i:=i) (j:=b) (v:=mo) hi (by omega) (by omega) (by omega)
 have q7:(S7++[(⟨false,[.int 0,.int 0,.int 4]⟩:Cell)])[S7.length]?=some ⟨false,[.int 0,.int 0,.int 4]⟩:=Gs
 have p7:∀ ρ':Lc,ls (ac (cn (.int 0)) (ac (cn (.int 0)) (ac (cn (.int 4)) an))) ρ' S7=.ok (.lst S7.length) (S7++[⟨false,[.int 0,.int 0,.int 4]⟩]):=fun ρ'=>by simp
 generalize S7++[(⟨false,[.int 0,.int 0,.int 4]⟩:Cell)]=S7' at *
 have i7:DL.getD (.lst S7.length) (.int (i:Int)) S7'=.ok (.int (b:Int)) S7':=Jr q7 at2
 obtain⟨c8',S8,g8',s8,_,M8⟩:=M7'.put (i:=i) (j:=b) (v:=mo) hi (by omega) (by omega) (by omega)
 have ec:c8=c8':=by
  have r:=M7.rr.rw.q0
  have r':=M7'.rr.rw.q0
  have e1:=g8
  simp only[DL.getD,r] at e1
  have e2:=g8'
  simp only[DL.getD,r'] at e2
  cases hh:atI [D.lst x,.lst y,.lst z] (i:Int) with
  | none=>rw[hh] at e1; cases e1
  | some d=>
   rw[hh] at e1 e2
   injection e1 with e1 _
   injection e2 with e2 _
   rw[e1] at e2
   injection e2
 subst ec
 refine⟨S8,fun X=>?_,M8⟩
 generalize hii:(i:Int)=ii at *
 refine(Ge (ρ':=rk t ii (some (.int ro)) (some (.int lv)) (some (.int de)) (some (.int mo)) (some (.lst q)) none) (S':=S6) (by simp[g6,s6])).trans ?_
 refine(Ge (ρ':=rk t ii (some (.int ro)) (some (.int lv)) (some (.int de)) (some (.int mo)) (some (.lst q)) none) (S':=S7) ?_).trans ?_
 ·rw[Gt7]
  simp only[Yr,Hq,Qx,Xu,Goj,ne3,g7,p6,Gx,i6,s7,AE,AL]
 refine(Ge (ρ':=rk t ii (some (.int ro)) (some (.int lv)) (some (.int de)) (some (.int mo)) (some (.lst q)) none) (S':=S8) ?_)
 rw[Gt7]
 simp only[Yr,Hq,Qx,Xu,g8,p7,Gx,i7,s8,AE,AL]
def Gho(d:Dp S t k n)(hn:n<2^40){w:Int}(hw:w=1\/w=2):∃ (ps:List Pl) (us:List Bool) (s0:S3) (S':Sto) (n':Nat),Jh [.lst t,.int w] S=.ok (.tup [cD ps us,stE s0]) S'/\Cn ps us/\Gd ps s0/\Dp S' t k n'/\n'<2^50:=by
 obtain⟨r1,y1,S1,e1,g1',h1,d1,k1⟩:=Xm (m:=3) (xs:=[.int 2,.int 2,.int 3]) d (by omega) rfl (by simp) (by simp)
 obtain⟨ro,rfl,ro1,ro2⟩:∃ ro:Int,y1=.int ro/\2<=ro/\ro<=3:=by
  simp only[Ae,AC,or_false] at h1
  rcases h1 with rfl | rfl | rfl<;>exact⟨_,rfl,by decide,by decide⟩
 obtain⟨lv,S2,e2,v0,v1,d2,k2⟩:=Ui (m:=2) d1 (by omega) (by decide) (by decide)
 obtain⟨r3,y3,S3,e3,g3',h3,d3,k3⟩:=Xm (m:=3) (xs:=[.int 0,.int 0,.int 1]) d2 (by omega) rfl (by simp) (by simp)
 obtain⟨de,rfl,de1,de2⟩:∃ de:Int,y3=.int de/\0<=de/\de<=1:=by
  simp only[Ae,AC,or_false] at h3
  rcases h3 with rfl | rfl | rfl<;>exact⟨_,rfl,by decide,by decide⟩
 obtain⟨mo,S4,e4,o0,o1,d4,k4⟩:=Ui (m:=2) d3 (by omega) (by decide) (by decide)
 obtain⟨i,rfl⟩:∃ i:Nat,w=i:=⟨w.toNat,by omega⟩
 have i12:i=1\/i=2:=by omega
 obtain⟨q,x,y,z,S5,e5,M5,x5⟩:=Gpu (e1:=ls (ac (cn (.int 0)) (ac (cn (.int 1)) (ac (vr 3) (ac (cn (.int 1)) (ac (cn (.int 0)) an)))))) (e2:=o2 Jc (ls (ac (cn (.int 0)) an)) (cn (.int 5))) (e3:=o2 Jc (ls (ac (cn (.int 0)) an)) (cn (.int 5))) (ρ:=rk t i (some (.int ro)) (some (.int lv)) (some (.int de)) (some (.int mo)) none none) (A:=[0,1,lv,1,0]) (B:=List.replicate 5 0) (C:=List.replicate 5 0) d4
  (le_ls (by simp) (by simp)) (fun S' _=>zero_row (fun S' _=>rfl) (by decide)) (fun S' _=>zero_row (fun S' _=>rfl) (by decide))
 obtain⟨a,b,a5,b5,at1,at2,ok⟩:∃ a b:Nat,a<5/\b<5/\atI [D.int 0,.int 3,.int 1] (i:Int)=some (.int (a:Int))/\atI [D.int 0,.int 0,.int 4] (i:Int)=some (.int (b:Int))/\Ok3 [.e,.c,.p 1 de ro .non,.c,.e] (up3 i (up3 (3-i) (up3 i ([0,1,lv,1,0],List.replicate 5 0,List.replicate 5 0) 2 ro) a 1) b mo):=by
  rcases i12 with rfl | rfl
  ·refine⟨3,0,by decide,by decide,rfl,rfl,?_⟩
   show Ok3 _ ([0,1,lv,1,0],[mo,0,ro,0,0],[0,0,0,1,0])
   exact ok5 rfl (by omega) (by omega) (by omega) rfl (by omega) (by omega) (by omega) (by omega) (by omega)
  ·refine⟨1,4,by decide,by decide,rfl,rfl,?_⟩
   show Ok3 _ ([0,1,lv,1,0],[0,1,0,0,0],[0,0,ro,0,mo])
   exact ok5 rfl (by omega) (by omega) (by omega) rfl (by omega) (by omega) (by omega) (by omega) (by omega)
 obtain⟨S6,e6,M6⟩:=Gpv (ro:=ro) (lv:=lv) (de:=de) (mo:=mo) M5 (show i<3 by omega) (by omega) a5 b5 rfl rfl rfl at1 at2
 obtain⟨r7,S7,e7,u0,u1,M7⟩:=M6.draw (m:=3) (by omega) (by decide) (by decide)
 have C:∀ ro:Int,2<=ro->ro<=3->Cn [.e,.c,.p 1 de ro .non,.c,.e] [false,true,false,true]:=fun ro h1 h2=>⟨fun p hp=>by
  simp only[Ae,AC,or_false] at hp
  rcases hp with rfl | rfl | rfl | rfl | rfl
  ·trivial
  ·trivial
  ·exact⟨by decide,by decide,de1,de2,by omega,by omega,.inl rfl⟩
  ·trivial
  ·trivial,(by show 5<=13; decide),rfl⟩
 have st:∀ (X:Sv),fin ((sq (sa (o2 DL.getD (ls (ac (cn (.int 2)) (ac (cn (.int 2)) (ac (cn (.int 3)) an)))) (cl 2 (Gi Gg) (ac (vr 0) (ac (cn (.int 3)) an)))) (gn 2)) (sq (sa (cl 2 (Gi Gg) (ac (vr 0) (ac (cn (.int 2)) an))) (gn 3)) (sq (sa (o2 DL.getD (ls (ac (cn (.int 0)) (ac (cn (.int 0)) (ac (cn (.int 1)) an)))) (cl 2 (Gi Gg) (ac (vr 0) (ac (cn (.int 3)) an)))) (gn 4)) (sq (sa (cl 2 (Gi Gg) (ac (vr 0) (ac (cn (.int 2)) an))) (gn 5)) (sq (sa (ls (ac (ls (ac (cn (.int 0)) (ac (cn (.int 1)) (ac (vr 3) (ac (cn (.int 1)) (ac (cn (.int 0)) an)))))) (ac (o2 Jc (ls (ac (cn (.int 0)) an)) (cn (.int 5))) (ac (o2 Jc (ls (ac (cn (.int 0)) an)) (cn (.int 5))) an)))) (gn 6)) X))))) (rk t i none none none none none none) S)=fin (X (rk t i (some (.int ro)) (some (.int lv)) (some (.int de)) (some (.int mo)) (some (.lst q)) none) S5):=fun X=>by
  refine(Ge (ρ':=rk t i (some (.int ro)) none none none none none) (S':=S1) (by simp[e1,g1'])).trans ?_
  refine(Ge (ρ':=rk t i (some (.int ro)) (some (.int lv)) none none none none) (S':=S2) (by simp[e2])).trans ?_
  refine(Ge (ρ':=rk t i (some (.int ro)) (some (.int lv)) (some (.int de)) none none none) (S':=S3) (by simp[e3,g3'])).trans ?_
  refine(Ge (ρ':=rk t i (some (.int ro)) (some (.int lv)) (some (.int de)) (some (.int mo)) none none) (S':=S4) (by simp[e4])).trans ?_
  exact Ge (ρ':=rk t i (some (.int ro)) (some (.int lv)) (some (.int de)) (some (.int mo)) (some (.lst q)) none) (S':=S5) (by rw[Uz,e5]; rfl)
 by_cases c7:r7=0
 ·subst c7
  obtain⟨q',x',y',z',S8,e8,M8,x8⟩:=Gpu (e1:=ls (ac (cn (.int 0)) (ac (cn (.int 1)) (ac (vr 3) (ac (cn (.int 1)) (ac (cn (.int 0)) an)))))) (e2:=ls (ac (vr 5) (ac (cn (.int 1)) (ac (cn (.int 1)) (ac (cn (.int 0)) (ac (cn (.int 0)) an)))))) (e3:=ls (ac (cn (.int 0)) (ac (cn (.int 0)) (ac (cn (.int 1)) (ac (cn (.int 1)) (ac (cn (.int 0)) an)))))) (ρ:=rk t i (some (.int 2)) (some (.int lv)) (some (.int de)) (some (.int mo)) (some (.lst q)) none) (A:=[0,1,lv,1,0]) (B:=[mo,1,1,0,0]) (C:=[0,0,1,1,0]) M7.d
   (le_ls (by simp) (by simp)) (fun S' _=>le_ls (by simp) (by simp)) (fun S' _=>le_ls (by simp) (by simp))
  have ok':Ok3 [.e,.c,.p 1 de 2 .non,.c,.e] ([0,1,lv,1,0],[mo,1,1,0,0],[0,0,1,1,0]):=ok5 rfl (by omega) (by omega) (by omega) rfl (by omega) (by omega) (by omega) (by omega) (by omega)
  obtain⟨S9,e9,x9⟩:=Ghn (w:=i) (lv:=lv) (mo:=mo) M8 (by omega) (by omega) ok'
  refine⟨_,_,_,S9,n+5,?_,C 2 (by decide) (by decide),ok'.gd (by show 5<=13; decide),(M8.ex x9).d.mono (by omega),by omega⟩
  unfold Jh
  rw[Go]
  simp only[Qj]
  refine(st _).trans ((e6 _).trans ?_)
  refine(Ge (ρ':=rk t i (some (.int 2)) (some (.int lv)) (some (.int de)) (some (.int mo)) (some (.lst q')) none) (S':=S8) ?_).trans e9
  rw[Hw (S1:=S7) (by simp[e7]),Jf (ρ':=rk t i (some (.int 2)) (some (.int lv)) (some (.int de)) (some (.int mo)) (some (.lst q)) none) (S1:=S7) (by simp),Uz,e8]
  rfl
 ·obtain⟨S9,e9,x9⟩:=Ghn (w:=i) (lv:=lv) (mo:=mo) M7 (by omega) (by omega) ok
  refine⟨_,_,_,S9,n+5,?_,C ro ro1 ro2,ok.gd (by show 5<=13; decide),(M7.ex x9).d.mono (by omega),by omega⟩
  unfold Jh
  rw[Go]
  simp only[Qj]
  refine(st _).trans ((e6 _).trans ?_)
  refine(Ge (ρ':=rk t i (some (.int ro)) (some (.int lv)) (some (.int de)) (some (.int mo)) (some (.lst q)) none) (S':=S7) ?_).trans e9
  rw[Hl (S1:=S7) (by simp[e7,c7])]
  rfl
end
def Gy1{f:Ev (List D)}{i:Nat}{j:Int}(h:f ρ S=.ok [.int i,.int j] S')(hj:j=(i:Int)+n)(hi:i<=1000000)(hn:n<=1000000):ir2 f ρ S=.ok (rsrc i n) S':=by
 unfold ir2
 rw[h]
 show(if(-1000000000000<=(i:Int)/\(i:Int)<=1000000000000) /\ -1000000000000<=j/\j<=1000000000000 then Out.ok (rsrc i (j-i).toNat) S' else .bad)=_
 rw[if_pos (by omega),show(j-(i:Int)).toNat=n by omega]
def Gy2{i:Nat}:(rsrc i n).nxt k S=((List.range n).map fun k:Nat=>D.int ((i:Int)+k))[k]?:=by
 show(if k<n then some (D.int ((i:Int)+k)) else none)=_
 rw[As]
 by_cases c:k<n
 ·rw[if_pos c,A4 c]; rfl
 ·rw[if_neg c,Bs (by simp; omega)]; rfl
section
variable{S:Sto}{t k n:Nat}
def in4{c:Int}(h:S[a]?=some ⟨false,[.int 0,.int 1,.int 2,.int 3]⟩)(h0:0<=c)(h5:c<=5):inP (.int c) (.lst a) S=.ok (.bl (decide (c<=3))) S:=by
 have e2:toP S 40 (.lst a)=some (.list [.int 0,.int 1,.int 2,.int 3]):=by
  show(match S[a]? with | some c=>(Jq (toP S 39) c.xs).map PyData.list | none=>none)=_
  rw[h]; rfl
 show Gdt false (.int c) (.lst a) S=_
 unfold Gdt
 rw[e2]
 rcases(by omega:c=0\/c=1\/c=2\/c=3\/c=4\/c=5) with rfl | rfl | rfl | rfl | rfl | rfl<;>rfl
noncomputable abbrev ud:List D:=[.str "up",.str "down"]
def Guf{g:D}(h:g∈ud):g=.str "up"\/g=.str "down":=by simpa using h
def Gy3{f:Ev Src}(d:Dp S t k n)(hn:n<2^50)(hN:N<=100)(hf:f ρ S=.ok (rsrc 0 N) S)(hp:pkS [none,some 0] ρ=[none,some (.lst t)]):
  ∃ (gs:List D) (S':Sto),cmp f [none,some 0] (gn 0) ttrue (o2 DL.getD (ls (ac (cn (.str "up")) (ac (cn (.str "down")) an))) (cl 2 (Gi Gg) (ac (vr 1) (ac (cn (.int 2)) an)))) ρ S=.ok (.lst S.length) S'/\S'[S.length]?=some ⟨false,gs⟩/\gs.length=N/\(∀ g∈gs,g=.str "up"\/g=.str "down")/\Dp S' t k (n+N)/\Kp S S' t k:=by
 have lt:=d.lt
 obtain⟨ρ',S',ef,y0,gs,rfl,q,l,b,d',kp⟩:=Uj (nxt:=(rsrc 0 N).nxt) (g:=gn 0) (b:=cbody S.length ttrue (o2 DL.getD (ls (ac (cn (.str "up")) (ac (cn (.str "down")) an))) (cl 2 (Gi Gg) (ac (vr 1) (ac (cn (.int 2)) an))))) (l:=(List.range N).map fun k:Nat=>D.int (k:Int))
  (fun i ρ S'=>∃ (y0:BC D) (gs:List D),ρ=[y0,some (.lst t)]/\S'[S.length]?=some ⟨false,gs⟩/\gs.length=i/\(∀ g∈gs,g=.str "up"\/g=.str "down")/\Dp S' t k (n+i)/\Kp S S' t k)
  (fun i _ S _=>Gfw) (fun i dt ρ S1 hd ⟨y0,gs,e,q,l,b,d1,kp⟩=>by
   obtain⟨hi,rfl⟩:=Gok hd
   subst e
   obtain⟨r,g,S2,e1,e2,hg,d2,k2⟩:=Xm (m:=2) (xs:=ud) d1 (by omega) rfl (by decide) (by decide)
   have q2:=k2.at q (by omega) (by omega)
   have l2:S.length<S2.length:=(Aa.mp q2).1
   refine⟨[some (.int i),some (.lst t)],[some (.int i),some (.lst t)],S2.set S.length ⟨false,gs++[g]⟩,rfl,Ut (by simp[e1,e2]) q2 (by omega),some (.int i),gs++[g],rfl,Ah l2,by simp[l],fun g' hg'=>?_,(d2.set (by omega) (by omega)).mono (by omega),(kp.trans k2).setq (Ab _)⟩
   rcases AF.mp hg' with h | h
   ·exact b g' h
   ·rw[AQ.mp h]; exact Guf hg)
  (rsrc 0 N).fuel 0 [none,some (.lst t)] (S++[⟨false,[]⟩]) (AB _) ⟨none,[],rfl,Gs,rfl,by simp,d.app,Kp.app⟩ (by simp[rsrc])
 exact⟨gs,S',Gfz hf (by rw[hp]; exact ef),q,by simpa using l,b,by simpa using d',kp⟩
def Gy4{I:Nat}(d:Dp S t k n)(hn:n<2^50)(r0:ρ[0]?=some (some (.lst t)))(r7:ρ[7]?=some (some (.lst I)))(hI:S[I]?=some ⟨false,xs⟩)(hx:xs.length=m+1)(hm:m<=50)(It:I≠t)(Ik:I≠k):
  ∃ (G:Nat) (gs:List D) (S':Sto),(o2 Gu (o2 Gu (ls (ac (cn (.str "up")) an)) (o2 Jc (ls (ac (o2 DL.getD (ls (ac (cn (.str "up")) (ac (cn (.str "down")) an))) (cl 2 (Gi Gg) (ac (vr 0) (ac (cn (.int 2)) an)))) an)) (o2 Ql (b1 Gy (ac (vr 7) an)) (cn (.int 1))))) (ls (ac (cn (.str "down")) an))) ρ S=.ok (.lst G) S'/\S'[G]?=some ⟨false,gs⟩/\gs.length=m+2/\(∀ g∈gs,g=.str "up"\/g=.str "down")/\Dp S' t k (n+1)/\Kp S S' t k/\S.length<=G:=by
 have lt:=d.lt
 have q1:(S++[(⟨false,[.str "up"]⟩:Cell)])[S.length]?=some ⟨false,[.str "up"]⟩:=Gs
 have k1:Kp S (S++[⟨false,[.str "up"]⟩]) t k:=Kp.app
 have d1:Dp (S++[⟨false,[.str "up"]⟩]) t k n:=d.app
 have s1:ls (ac (cn (.str "up")) an) ρ S=.ok (.lst S.length) (S++[⟨false,[.str "up"]⟩]):=by simp
 have I1:=Hr (c:=⟨false,[.str "up"]⟩) hI
 generalize S++[(⟨false,[.str "up"]⟩:Cell)]=S1 at *
 obtain⟨r,g,S2,e1,e2,hg,d2,k2⟩:=Xm (m:=2) (xs:=ud) d1 (by omega) rfl (by decide) (by decide)
 have s2:ls (ac (o2 DL.getD (ls (ac (cn (.str "up")) (ac (cn (.str "down")) an))) (cl 2 (Gi Gg) (ac (vr 0) (ac (cn (.int 2)) an)))) an) ρ S1=.ok (.lst S2.length) (S2++[⟨false,[g]⟩]):=by simp[r0,e1,e2]
 have q2:=k2.at q1 (by omega) (by omega)
 have I2:=k2.at I1 It Ik
 have q3:(S2++[(⟨false,[g]⟩:Cell)])[S2.length]?=some ⟨false,[g]⟩:=Gs
 have I3:=Hr (c:=⟨false,[g]⟩) I2
 have q2':=Hr (c:=⟨false,[g]⟩) q2
 have d3:Dp (S2++[⟨false,[g]⟩]) t k (n+1):=d2.app
 have k3:Kp S (S2++[⟨false,[g]⟩]) t k:=(k1.trans k2).trans Kp.app
 generalize S2++[(⟨false,[g]⟩:Cell)]=S3 at *
 have ln:=Va I3
 simp only[hx] at ln
 have sb:((m+1:Nat):Int)-1=(m:Int):=by omega
 have ml:=Gfx (n:=m) q3 (by omega)
 have q4:(S3++[(⟨false,List.replicate m g⟩:Cell)])[S3.length]?=some ⟨false,List.replicate m g⟩:=Gs
 have a4:=Zw (Hr (c:=⟨false,List.replicate m g⟩) q2') q4 (by simp; omega)
 have d4:Dp (S3++[⟨false,List.replicate m g⟩]) t k (n+1):=d3.app
 have k4:Kp S (S3++[⟨false,List.replicate m g⟩]) t k:=k3.trans Kp.app
 generalize S3++[(⟨false,List.replicate m g⟩:Cell)]=S4 at *
 have q5:(S4++[(⟨false,[.str "up"]++List.replicate m g⟩:Cell)])[S4.length]?=some ⟨false,[.str "up"]++List.replicate m g⟩:=Gs
 have d5:Dp (S4++[⟨false,[.str "up"]++List.replicate m g⟩]) t k (n+1):=d4.app
 have k5:Kp S (S4++[⟨false,[.str "up"]++List.replicate m g⟩]) t k:=k4.trans Kp.app
 generalize S4++[(⟨false,[.str "up"]++List.replicate m g⟩:Cell)]=S5 at *
 have q6:(S5++[(⟨false,[.str "down"]⟩:Cell)])[S5.length]?=some ⟨false,[.str "down"]⟩:=Gs
 have a6:=Zw (Hr (c:=⟨false,[.str "down"]⟩) q5) q6 (by simp; omega)
 have s6:ls (ac (cn (.str "down")) an) ρ S5=.ok (.lst S5.length) (S5++[⟨false,[.str "down"]⟩]):=by simp
 have d6:Dp (S5++[⟨false,[.str "down"]⟩]) t k (n+1):=d5.app
 have k6:Kp S (S5++[⟨false,[.str "down"]⟩]) t k:=k5.trans Kp.app
 generalize S5++[(⟨false,[.str "down"]⟩:Cell)]=S6 at *
 refine⟨S6.length,[.str "up"]++List.replicate m g++[.str "down"],S6++[⟨false,[.str "up"]++List.replicate m g++[.str "down"]⟩],?_,Gs,by simp,fun g' hg'=>?_,d6.app,k6.trans Kp.app,k6.len⟩
 ·rw[Qx,Qx,s1,Gx,Qx,s2,Gx]
  simp only[Qx,Gjw,Gdh,Gdg,Xu,r7,Yr,Gx,ln,Goj,sb,ml,a4,s6,a6]
 ·simp only[AF,AQ,List.mem_replicate] at hg'
  rcases hg' with(h | h) | h
  ·exact .inl h
  ·rw[h.2]; exact Guf hg
  ·exact .inr h
end
def sm0:Sv:=(sa (cmp (ir1 (ac (o2 Gu (b1 Gy (ac (vr 7) an)) (cn (.int 1))) an)) [none,some 0] (gn 0) ttrue (o2 DL.getD (ls (ac (cn (.str "up")) (ac (cn (.str "down")) an))) (cl 2 (Gi Gg) (ac (vr 1) (ac (cn (.int 2)) an))))) (gn 8))
def sm1:Sv:=(sif (tb (o2 eqD (cl 2 (Gi Gg) (ac (vr 0) (ac (cn (.int 2)) an))) (cn (.int 0))))
  (sa (o2 Gu (o2 Gu (ls (ac (cn (.str "up")) an)) (o2 Jc (ls (ac (o2 DL.getD (ls (ac (cn (.str "up")) (ac (cn (.str "down")) an))) (cl 2 (Gi Gg) (ac (vr 0) (ac (cn (.int 2)) an)))) an)) (o2 Ql (b1 Gy (ac (vr 7) an)) (cn (.int 1))))) (ls (ac (cn (.str "down")) an))) (gn 8))
  DL.skip)
def sm2:Sv:=(sa (o2 Gu (o2 Gu (ls (ac (tp (ac (cn (.str "end")) an)) an)) (vr 7)) (ls (ac (tp (ac (cn (.str "end")) an)) an))) (gn 10))
def sm3:Sv:=(sa (ls (ac (o2 Jc (ls (ac (cn (.int 0)) an)) (b1 Gy (ac (vr 10) an))) (ac (o2 Jc (ls (ac (cn (.int 0)) an)) (b1 Gy (ac (vr 10) an))) (ac (o2 Jc (ls (ac (cn (.int 0)) an)) (b1 Gy (ac (vr 10) an))) an)))) (gn 11))
def sm4:Sv:=(sfor (ir2 (ac (cn (.int 1)) (ac (o2 Ql (b1 Gy (ac (vr 10) an)) (cn (.int 1))) an))) (gn 9) Ke)
def sm5:Sv:=(sa (o2 DL.getD (ls (ac (tp (ac (cn (.int 1)) (ac (cn (.int 0)) an))) (ac (tp (ac (cn (.int 2)) (ac (o2 Ql (b1 Gy (ac (vr 10) an)) (cn (.int 1))) an))) an))) (cl 2 (Gi Gg) (ac (vr 0) (ac (cn (.int 2)) an)))) (gt (gcons (gn 9) (gcons (gn 13) gnil)) 2))
def sm6:Sv:=(ss (o2 DL.getD (ls (ac (cn (.int 0)) (ac (cn (.int 0)) (ac (cn (.int 1)) (ac (cn (.int 2)) an))))) (cl 2 (Gi Gg) (ac (vr 0) (ac (cn (.int 4)) an)))) (o2 DL.getD (vr 11) (vr 9)) (vr 13) Hm)
def sm7:Sv:=(ss (o2 Vs (cl 2 (Gi Gg) (ac (vr 0) (ac (cn (.int 4)) an))) (cn (.int 3))) (o2 DL.getD (vr 11) (cn (.int 2))) (cn (.int 0)) Hm)
def sm8:Sv:=(ss (o2 Vs (cl 2 (Gi Gg) (ac (vr 0) (ac (cn (.int 4)) an))) (cn (.int 3))) (o2 DL.getD (vr 11) (cn (.int 1))) (o1 Ggl (cn (.int 1))) Hm)
def sm9:Sv:=(sret (tp (ac (tp (ac (b1 Kc (ac (vr 10) an)) (ac (b1 Kc (ac (vr 8) an)) an))) (ac (b1 Kc (ac (cmp (isrc (vr 11)) [none] (gn 0) ttrue (b1 Kc (ac (vr 0) an))) an)) an))))
def smR:Sv:=(sq sm0 (sq sm1 (sq sm2 (sq sm3 (sq sm4 (sq sm5 (sq sm6 (sq sm7 (sq sm8 sm9)))))))))
section
variable{S:Sto}{t k n I:Nat}{mid:List Pl}{room:Int}{x1 x3 x4 x5 x6:BC D}
noncomputable abbrev r0(t I:Nat)(room:Int)(x1 x3 x4 x5 x6 x8 x10:BC D):Lc:=[some (.lst t),x1,some (.int room),x3,x4,x5,x6,some (.lst I),x8,none,x10,none,none,none]
def Gpw(d:Dp S t k n)(hn:n<2^45)(hI:S[I]?=some ⟨false,mid.map Pl.toD⟩)(It:I≠t)(Ik:I≠k)(m1:1<=mid.length)(m3:mid.length<=3):
  ∃ (G:Nat) (gs:List D) (S':Sto),(∀ X:Sv,fin ((sq sm0 (sq sm1 X)) (r0 t I room x1 x3 x4 x5 x6 none none) S)=fin (X (r0 t I room x1 x3 x4 x5 x6 (some (.lst G)) none) S'))/\S'[G]?=some ⟨false,gs⟩/\gs.length=mid.length+1/\(∀ g∈gs,g=.str "up"\/g=.str "down")/\Dp S' t k (n+10)/\Kp S S' t k/\S.length<=G:=by
 have lt:=d.lt
 have ln:=Va hI
 simp only[Am] at ln
 obtain⟨gs,S1,e1,q1,l1,b1',d1,k1⟩:=Gy3 (f:=ir1 (ac (o2 Gu (b1 Gy (ac (vr 7) an)) (cn (.int 1))) an)) (ρ:=r0 t I room x1 x3 x4 x5 x6 none none) (N:=mid.length+1) d (by omega) (by omega) (Gio (n:=mid.length+1) (by simp[ln]) (by omega)) rfl
 have s1:sm0 (r0 t I room x1 x3 x4 x5 x6 none none) S=.nx (r0 t I room x1 x3 x4 x5 x6 (some (.lst S.length)) none) S1:=by
  unfold sm0
  rw[Uz,e1]; rfl
 obtain⟨r,S2,e2,y0,y1,d2,k2⟩:=Ui (m:=2) d1 (by omega) (by decide) (by decide)
 by_cases c:r=0
 ·subst c
  obtain⟨G,gs',S3,e3,q3,l3,b3,d3,k3,lG⟩:=Gy4 (ρ:=r0 t I room x1 x3 x4 x5 x6 (some (.lst S.length)) none) (m:=mid.length-1) d2 (by omega) rfl rfl ((k1.trans k2).at hI It Ik) (by simp; omega) (by omega) It Ik
  refine⟨G,gs',S3,fun X=>(Ge s1).trans (Ge ?_),q3,by omega,b3,d3.mono (by omega),k1.trans (k2.trans k3),Aj (k1.trans k2).len lG⟩
  unfold sm1
  rw[Hw (S1:=S2) (by simp[e2]),Uz,e3]
  rfl
 ·refine⟨S.length,gs,S2,fun X=>(Ge s1).trans (Ge ?_),k2.at q1 (by omega) (by omega),l1,b1',d2.mono (by omega),k1.trans k2,Ab _⟩
  unfold sm1
  rw[Hl (S1:=S2) (by simp[e2,c])]
  rfl
def Ggd{x:Nat}{s:S3}{ps:List Pl}(M:Ms SB S t k n q x y z s)(o:Ok3 ps s){i:Nat}(hi:i<3)(i1:1<=i)(hp:ps[j]?=some .e)(v0:0<=v)(v3:v<=3):∃ c S',DL.getD (.lst q) (.int (i:Int)) S=.ok (.lst c) S/\Hm (.lst c) (.int (j:Int)) (.int v) S=some S'/\(j+1=ps.length->i=1->Hm (.lst c) (.int (-1)) (.int v) S=some S')/\Ms SB S' t k n q x y z (up3 i s j v)/\Ok3 ps (up3 i s j v):=by
 have jl:=(Aa.mp hp).1
 obtain⟨c,S',g1,g2,g3,M'⟩:=M.put (i:=i) (j:=j) (v:=v) hi (by rw[o.l0]; exact jl) (by rw[o.l1]; exact jl) (by rw[o.l2]; exact jl)
 rw[o.l1] at g3
 refine⟨c,S',g1,g2,g3,M',o.put hp (Af (by rw[o.l1]; exact jl)) (Af (by rw[o.l2]; exact jl)) v0 (fun z=>absurd z (by omega)) (fun _=>v3) (fun _=>rfl) (fun _=>rfl)⟩
def Gix(d:Dp S t k n)(hn:n<2^44)(hI:S[I]?=some ⟨false,mid.map Pl.toD⟩)(It:I≠t)(Ik:I≠k)(m1:1<=mid.length)(m3:mid.length<=3)(hr:room=1\/room=2)(hmid:∀ p∈mid,p.ok/\p.isE=false/\∀ br de ro pr,p=.p br de ro pr->ro=room):
  ∃ (ps:List Pl) (us:List Bool) (s0:S3) (S':Sto) (n':Nat),fin (smR (r0 t I room x1 x3 x4 x5 x6 none none) S)=.ok (.tup [cD ps us,stE s0]) S'/\Cn ps us/\Gd ps s0/\Dp S' t k n'/\n'<2^50:=by
 have lt:=d.lt
 obtain⟨G,gs,S2,hX,qG,lg,bg,d2,k2,lG⟩:=Gpw (x1:=x1) (x3:=x3) (x4:=x4) (x5:=x5) (x6:=x6) (room:=room) d (by omega) hI It Ik m1 m3
 obtain⟨us,rfl⟩:=Ghc bg
 rw[Am] at lg
 have hI2:=k2.at hI It Ik
 obtain⟨ps,hps⟩:∃ ps:List Pl,ps=.e::(mid++[.e]):=⟨_,rfl⟩
 have pl:ps.length=mid.length+2:=by rw[hps]; simp
 have pe0:ps[0]?=some .e:=by rw[hps]; rfl
 have pem:ps[mid.length+1]?=some .e:=by rw[hps]; simp
 have pin:∀ i,i<mid.length->∃ p,ps[i+1]?=some p/\p∈mid:=fun i hi=>⟨mid[i],by rw[hps,AE,Ar hi,Af hi],A3 hi⟩
 have pok:∀ p∈ps,p.ok:=fun p hp=>by
  rw[hps] at hp
  rcases Ae.mp hp with rfl | hp
  ·trivial
  ·rcases AF.mp hp with hp | hp
   ·exact(hmid p hp).1
   ·rw[AQ.mp hp]; trivial
 obtain⟨P,S3,e3,q3,x3',l3⟩:LN (o2 Gu (o2 Gu (ls (ac (tp (ac (cn (.str "end")) an)) an)) (vr 7)) (ls (ac (tp (ac (cn (.str "end")) an)) an))) (r0 t I room x1 x3 x4 x5 x6 (some (.lst G)) none) S2 (([.tup [.str "end"]]++mid.map Pl.toD)++[.tup [.str "end"]]):=
  Gpt (LN.le (Gpt (LN.le (le_ls (by simp) (by simp))) (fun S' x=>le_vr rfl (x.at hI2)) (by simp; omega))) (fun S' x=>LN.le (le_ls (by simp) (by simp))) (by simp; omega)
 have ep:([D.tup [.str "end"]]++mid.map Pl.toD)++[.tup [.str "end"]]=ps.map Pl.toD:=by rw[hps]; simp[Pl.toD]
 rw[ep] at q3
 have s3:sm2 (r0 t I room x1 x3 x4 x5 x6 (some (.lst G)) none) S2=.nx (r0 t I room x1 x3 x4 x5 x6 (some (.lst G)) (some (.lst P))) S3:=by
  unfold sm2
  rw[Uz,e3]; rfl
 have d3:Dp S3 t k (n+10):=d2.ext x3'
 have lt3:=d3.lt
 have qG3:=x3'.at qG
 have lnP:∀ S':Sto,S'[P]?=some ⟨false,ps.map Pl.toD⟩->Gy [.lst P] S'=.ok (.int ((mid.length+2:Nat):Int)) S':=fun S' h=>by rw[Va h]; simp only[Am,pl]
 have Pt:P≠t:=by have:=k2.len; omega
 have Pk:P≠k:=by have:=k2.len; omega
 have Gt:G≠t:=by omega
 have Gk:G≠k:=by omega
 have zl:∀ S',Ex S3 S'->b1 Gy (ac (vr 10) an) (r0 t I room x1 x3 x4 x5 x6 (some (.lst G)) (some (.lst P))) S'=.ok (.int ((mid.length+2:Nat):Int)) S':=fun S' x=>by
  have:=lnP S' (x.at q3)
  generalize ((mid.length+2:Nat):Int)=nn at *
  simp[this]
 obtain⟨q,x,y,z,S4,e4,M4,x4'⟩:=Gpu (A:=List.replicate (mid.length+2) 0) (B:=List.replicate (mid.length+2) 0) (C:=List.replicate (mid.length+2) 0) (ρ:=r0 t I room x1 x3 x4 x5 x6 (some (.lst G)) (some (.lst P))) d3 (zero_row zl (by omega)) (fun S' h=>zero_row (fun S'' h'=>zl S'' (h.trans h')) (by omega)) (fun S' h=>zero_row (fun S'' h'=>zl S'' (h.trans h')) (by omega))
 have s4:sm3 (r0 t I room x1 x3 x4 x5 x6 (some (.lst G)) (some (.lst P))) S3=.nx (re t P q room x1 x3 x4 x5 x6 (some (.lst I)) (some (.lst G)) none none none) S4:=by
  unfold sm3
  rw[Uz,e4]; rfl
 have o4:Ok3 ps (List.replicate (mid.length+2) 0,List.replicate (mid.length+2) 0,List.replicate (mid.length+2) 0):=by
  refine⟨by simp[pl],by simp[pl],by simp[pl],fun i p l r f h1 h2 h3 h4=>?_⟩
  have e2:=Bu (Ap h2)
  have e3:=Bu (Ap h3)
  have e4:=Bu (Ap h4)
  subst e2 e3 e4
  have ok:=pok p (Ap h1)
  cases p with
  | e=>simp[wat,hol]
  | c=>simp[wat,hol]
  | p br de ro pr=>simp only[Pl.ok] at ok; simp[wat,hol]; omega
 obtain⟨ρ',S5,ef,y9,y12,s5,hρ,M5,o5,_⟩:=Uj (nxt:=(rsrc ((1:Nat):Int) mid.length).nxt) (g:=gn 9) (b:=Ke) (l:=(List.range mid.length).map fun i:Nat=>D.int (((1:Nat):Int)+i))
  (fun i ρ S'=>∃ y9 y12 s',ρ=re t P q room x1 x3 x4 x5 x6 (some (.lst I)) (some (.lst G)) y9 y12 none/\Ms S3 S' t k (n+10+3*i) q x y z s'/\Ok3 ps s'/\∀ a,i+1<=a->a<mid.length+2->s'.2.1[a]?=some 0/\s'.2.2[a]?=some 0)
  (fun i _ S' _=>Gy2) (fun i dt ρ S' hd ⟨y9,y12,s',e,M,o,zz⟩=>by
   have hi:i<mid.length:=by have:=(Aa.mp hd).1; simpa using this
   rw[As,A4 hi] at hd
   have hd:D.int (((1:Nat):Int)+(i:Int))=dt:=Ac hd
   rw[show((1:Nat):Int)+(i:Int)=((i+1:Nat):Int) by omega] at hd
   subst hd e
   obtain⟨p,hp,hpm⟩:=pin i hi
   obtain⟨z1,z2⟩:=zz (i+1) (Ab _) (by omega)
   obtain⟨h1,h2,h3⟩:=hmid p hpm
   obtain⟨S6,w12,s6,e6,M6,o6,k6⟩:=Giw (x1:=x1) (x3:=x3) (x4:=x4) (x5:=x5) (x6:=x6) (x7:=some (.lst I)) (x8:=some (.lst G)) (x12:=y12) (x13:=none) M (by omega) q3 Pt Pk hr o hp h1 h2 h3 z1 z2
   refine⟨re t P q room x1 x3 x4 x5 x6 (some (.lst I)) (some (.lst G)) (some (.int ((i+1:Nat):Int))) y12 none,_,S6,rfl,e6,_,w12,s6,rfl,M6.mono (by omega),o6,fun a ha hb=>?_⟩
   obtain⟨k61,k62⟩:=k6 a (by omega)
   rw[k61,k62]
   exact zz a (by omega) hb)
  (rsrc ((1:Nat):Int) mid.length).fuel 0 (re t P q room x1 x3 x4 x5 x6 (some (.lst I)) (some (.lst G)) none none none) S4 (AB _) ⟨none,none,_,rfl,M4,o4,fun a _ hb=>by simp[hb]⟩ (by simp[rsrc])
 subst hρ
 rw[Am,List.length_range] at M5
 have s5':sm4 (re t P q room x1 x3 x4 x5 x6 (some (.lst I)) (some (.lst G)) none none none) S4=.nx (re t P q room x1 x3 x4 x5 x6 (some (.lst I)) (some (.lst G)) y9 y12 none) S5:=by
  have hs:ir2 (ac (cn (.int 1)) (ac (o2 Ql (b1 Gy (ac (vr 10) an)) (cn (.int 1))) an)) (re t P q room x1 x3 x4 x5 x6 (some (.lst I)) (some (.lst G)) none none none) S4=.ok (rsrc ((1:Nat):Int) mid.length) S4:=Gy1 (i:=1) (n:=mid.length) (j:=((mid.length+2:Nat):Int)-1) (by
   have:=lnP S4 (M4.kp.at q3 Pt Pk)
   generalize ((mid.length+2:Nat):Int)=nn at *
   simp[this]) (by omega) (by omega) (by omega)
  unfold sm4
  rw[Vh,hs,Hq]
  exact ef
 obtain⟨r6,d6,S6,e6,g6,h6,M6⟩:=M5.pick (m:=2) (xs:=[.tup [.int 1,.int 0],.tup [.int 2,.int (((mid.length+2:Nat):Int)-1)]]) (by omega) rfl (by simp) (by simp)
 obtain⟨i6,j6,rfl,hi6,hi6',pj6⟩:∃ i6 j6:Nat,d6=.tup [.int i6,.int j6]/\i6<3/\1<=i6/\ps[j6]?=some .e:=by
  simp only[Ae,AC,or_false] at h6
  rcases h6 with rfl | rfl
  ·exact⟨1,0,rfl,by decide,by decide,pe0⟩
  ·exact⟨2,mid.length+1,by rw[show((mid.length+2:Nat):Int)-1=((mid.length+1:Nat):Int) by omega]; rfl,by decide,by decide,pem⟩
 have s6:sm5 (re t P q room x1 x3 x4 x5 x6 (some (.lst I)) (some (.lst G)) y9 y12 none) S5=.nx (re t P q room x1 x3 x4 x5 x6 (some (.lst I)) (some (.lst G)) (some (.int i6)) y12 (some (.int j6))) S6:=by
  have:=lnP S5 (M5.kp.at q3 Pt Pk)
  unfold sm5
  generalize ((mid.length+2:Nat):Int)=nn at *
  generalize (i6:Int)=ii at *
  generalize (j6:Int)=jj at *
  simp[this,e6,g6,gt,gcons,gnil]
 obtain⟨r7,d7,S7,e7,g7,h7,M7⟩:=M6.pick (m:=4) (xs:=[.int 0,.int 0,.int 1,.int 2]) (by omega) rfl (by simp) (by simp)
 obtain⟨v7,rfl,v70,v73⟩:∃ v7:Int,d7=.int v7/\0<=v7/\v7<=3:=by
  simp only[Ae,AC,or_false] at h7
  rcases h7 with rfl | rfl | rfl | rfl<;>exact⟨_,rfl,by decide,by decide⟩
 obtain⟨c8,S8,g8,t8,_,M8,o8⟩:=Ggd M7 o5 hi6 hi6' pj6 v70 v73
 have s8:sm6 (re t P q room x1 x3 x4 x5 x6 (some (.lst I)) (some (.lst G)) (some (.int i6)) y12 (some (.int j6))) S6=.nx (re t P q room x1 x3 x4 x5 x6 (some (.lst I)) (some (.lst G)) (some (.int i6)) y12 (some (.int j6))) S8:=by
  unfold sm6
  generalize (i6:Int)=ii at *
  generalize (j6:Int)=jj at *
  simp[e7,g7,g8,t8]
 have dv:∀ (r:Int) (S:Sto),Vs (.int r) (.int 3) S=.ok (.int (r / 3)) S:=fun r S=>Gfv (by decide) (by decide)
 obtain⟨r9,S9,e9,r90,r91,M9⟩:=M8.draw (m:=4) (by omega) (by decide) (by decide)
 obtain⟨c10,S10,g10,t10,_,M10,o10⟩:=Ggd (i:=2) (j:=0) (v:=r9 / 3) M9 o8 (by decide) (by decide) pe0 (by omega) (by omega)
 have g10:DL.getD (.lst q) (.int 2) S9=.ok (.lst c10) S9:=g10
 have t10:Hm (.lst c10) (.int 0) (.int (r9 / 3)) S9=some S10:=t10
 have s10:sm7 (re t P q room x1 x3 x4 x5 x6 (some (.lst I)) (some (.lst G)) (some (.int i6)) y12 (some (.int j6))) S8=.nx (re t P q room x1 x3 x4 x5 x6 (some (.lst I)) (some (.lst G)) (some (.int i6)) y12 (some (.int j6))) S10:=by
  unfold sm7
  generalize (i6:Int)=ii at *
  generalize (j6:Int)=jj at *
  simp[e9,dv,g10,t10]
 obtain⟨r11,S11,e11,r110,r111,M11⟩:=M10.draw (m:=4) (by omega) (by decide) (by decide)
 obtain⟨c12,S12,g12,_,t12,M12,o12⟩:=Ggd (i:=1) (j:=mid.length+1) (v:=r11 / 3) M11 o10 (by decide) (by decide) pem (by omega) (by omega)
 have g12:DL.getD (.lst q) (.int 1) S11=.ok (.lst c12) S11:=g12
 have t12:=t12 (by omega) rfl
 have s12:sm8 (re t P q room x1 x3 x4 x5 x6 (some (.lst I)) (some (.lst G)) (some (.int i6)) y12 (some (.int j6))) S10=.nx (re t P q room x1 x3 x4 x5 x6 (some (.lst I)) (some (.lst G)) (some (.int i6)) y12 (some (.int j6))) S12:=by
  unfold sm8
  generalize (i6:Int)=ii at *
  generalize (j6:Int)=jj at *
  simp[e11,dv,g12,t12]
 obtain⟨S13,e13,x13⟩:=Gj8 (f:=vr 11) (ρ:=re t P q room x1 x3 x4 x5 x6 (some (.lst I)) (some (.lst G)) (some (.int i6)) y12 (some (.int j6))) M12.rr.rw rfl
 have tp1:=Gax (M12.kp.at q3 Pt Pk)
 have tg1:=Gax (M12.kp.at qG3 Gt Gk)
 simp only at tp1 tg1
 refine⟨ps,us,_,S13,n+30,?_,⟨pok,by omega,by omega⟩,o12.gd (by omega),(M12.ex x13).d.mono (by omega),by omega⟩
 unfold smR
 refine(hX _).trans ((Ge s3).trans ((Ge s4).trans ((Ge s5').trans ((Ge s6).trans ((Ge s8).trans ((Ge s10).trans ((Ge s12).trans ?_)))))))
 unfold sm9
 generalize b1 Kc (ac (cmp (isrc (vr 11)) [none] (gn 0) ttrue (b1 Kc (ac (vr 0) an))) an)=E at e13 ⊢
 unfold cD
 generalize ps.map Pl.toD=PD at *
 generalize us.map gd=GD at *
 unfold re at e13 ⊢
 simp[tp1,tg1,e13]
 rfl
end
end Law
namespace Law
open PySem PySem.Spec PyProof.Rows L2 DL
noncomputable abbrev rh(t:Nat)(x1 x2 x3 x4 x5 x6 x7:BC D):Lc:=[some (.lst t),x1,x2,x3,x4,x5,x6,x7,none,none,none,none,none,none]
def Gpx:Gkx:=fun{S t k} d=>by
 have lt:=d.lt
 obtain⟨kd,S1,e1,a1,b1',d1,k1⟩:=Ui (m:=8) d (by decide) (by decide) (by decide)
 have s1:(sa (cl 2 (Gi Gg) (ac (vr 0) (ac (cn (.int 8)) an))) (gn 1)) (rh t none none none none none none none) S=.nx (rh t (some (.int kd)) none none none none none none) S1:=by simp[e1]
 by_cases c:5<kd
 ·obtain⟨ps,us,s0,S',n',f,C,g,dd,hn⟩:=Gho (w:=kd-5) d1 (by decide) (by omega)
  refine⟨ps,us,s0,S',n',?_,C,g,dd,hn⟩
  unfold Jy
  rw[Go]
  simp only[Vf]
  refine(Ge s1).trans ?_
  refine Hx ?_
  generalize stE s0=sd at *
  generalize cD ps us=cd at *
  simp[c,f]
 ·have s1':(sif (tb (o2 gtD (vr 1) (cn (.int 5)))) (sret (cl 2 (Gi Jh) (ac (vr 0) (ac (o2 Ql (vr 1) (cn (.int 5))) an)))) DL.skip) (rh t (some (.int kd)) none none none none none none) S1=.nx (rh t (some (.int kd)) none none none none none none) S1:=by simp[c]
  obtain⟨r2,S2,e2,a2,b2,d2,k2⟩:=Ui (m:=2) d1 (by decide) (by decide) (by decide)
  obtain⟨room,hroom⟩:∃ room:Int,1+r2=room:=⟨_,rfl⟩
  have hr:room=1\/room=2:=by omega
  have s2:(sa (o2 Gu (cn (.int 1)) (cl 2 (Gi Gg) (ac (vr 0) (ac (cn (.int 2)) an)))) (gn 2)) (rh t (some (.int kd)) none none none none none none) S1=.nx (rh t (some (.int kd)) (some (.int room)) none none none none none) S2:=by simp[e2,hroom]
  obtain⟨r3,S3,e3,a3,b3,d3,k3⟩:=Ui (m:=98) d2 (by decide) (by decide) (by decide)
  obtain⟨r4,pr,S4,e4,g4,h4,d4,k4⟩:=Xm (m:=4) (xs:=[.non,.int 3,.int 0,.int (1+r3)]) d3 (by decide) rfl (by simp) (by simp)
  have hpr:pr=.non\/∃ i,pr=.int i/\0<=i/\i<=99:=by
   simp only[Ae,AC,or_false] at h4
   rcases h4 with rfl | rfl | rfl | rfl
   ·exact .inl rfl
   ·exact .inr ⟨3,rfl,by decide,by decide⟩
   ·exact .inr ⟨0,rfl,by decide,by decide⟩
   ·exact .inr ⟨_,rfl,by omega,by omega⟩
  have s4:(sa (o2 DL.getD (ls (ac (cn .non) (ac (cn (.int 3)) (ac (cn (.int 0)) (ac (o2 Gu (cn (.int 1)) (cl 2 (Gi Gg) (ac (vr 0) (ac (cn (.int 98)) an)))) an))))) (cl 2 (Gi Gg) (ac (vr 0) (ac (cn (.int 4)) an)))) (gn 3)) (rh t (some (.int kd)) (some (.int room)) none none none none none) S2=.nx (rh t (some (.int kd)) (some (.int room)) (some pr) none none none none) S4:=by simp[e3,e4,g4]
  obtain⟨r5,S5,e5,a5,b5,d5,k5⟩:=Ui (m:=2) d4 (by decide) (by decide) (by decide)
  obtain⟨br,hbr⟩:∃ br:Int,1+r5=br:=⟨_,rfl⟩
  have s5:(sa (o2 Gu (cn (.int 1)) (cl 2 (Gi Gg) (ac (vr 0) (ac (cn (.int 2)) an)))) (gn 4)) (rh t (some (.int kd)) (some (.int room)) (some pr) none none none none) S4=.nx (rh t (some (.int kd)) (some (.int room)) (some pr) (some (.int br)) none none none) S5:=by simp[e5,hbr]
  obtain⟨r6,de',S6,e6,g6,h6,d6,k6⟩:=Xm (m:=4) (xs:=[.int 0,.int 0,.int 1,.int br]) d5 (by decide) rfl (by simp) (by simp)
  obtain⟨de,rfl,de1,de2⟩:∃ de:Int,de'=.int de/\0<=de/\de<=br:=by
   simp only[Ae,AC,or_false] at h6
   rcases h6 with rfl | rfl | rfl | rfl<;>exact⟨_,rfl,by omega,by omega⟩
  have s6:(sa (tp (ac (cn (.str "pound")) (ac (vr 4) (ac (o2 DL.getD (ls (ac (cn (.int 0)) (ac (cn (.int 0)) (ac (cn (.int 1)) (ac (vr 4) an))))) (cl 2 (Gi Gg) (ac (vr 0) (ac (cn (.int 4)) an)))) (ac (vr 2) (ac (vr 3) an)))))) (gn 5)) (rh t (some (.int kd)) (some (.int room)) (some pr) (some (.int br)) none none none) S5=.nx (rh t (some (.int kd)) (some (.int room)) (some pr) (some (.int br)) (some (Pl.p br de room pr).toD) none none) S6:=by simp[e6,g6,Pl.toD]
  have s7:(sa (tp (ac (cn (.str "chamber")) an)) (gn 6)) (rh t (some (.int kd)) (some (.int room)) (some pr) (some (.int br)) (some (Pl.p br de room pr).toD) none none) S6=.nx (rh t (some (.int kd)) (some (.int room)) (some pr) (some (.int br)) (some (Pl.p br de room pr).toD) (some Pl.c.toD) none) S6:=by simp[Pl.toD]
  have okP:(Pl.p br de room pr).ok:=⟨by omega,by omega,de1,de2,by omega,by omega,hpr⟩
  have q8:(S6++[(⟨false,[Pl.c.toD,(Pl.p br de room pr).toD,Pl.c.toD]⟩:Cell)])[S6.length]?=some ⟨false,[Pl.c.toD,(Pl.p br de room pr).toD,Pl.c.toD]⟩:=Gs
  have d8:Dp (S6++[⟨false,[Pl.c.toD,(Pl.p br de room pr).toD,Pl.c.toD]⟩]) t k 6:=d6.app
  have lt6:=d6.lt
  have l8:S6.length<=(S6++[(⟨false,[Pl.c.toD,(Pl.p br de room pr).toD,Pl.c.toD]⟩:Cell)]).length:=by simp
  have s8:(sa (ls (ac (vr 6) (ac (vr 5) (ac (vr 6) an)))) (gn 7)) (rh t (some (.int kd)) (some (.int room)) (some pr) (some (.int br)) (some (Pl.p br de room pr).toD) (some Pl.c.toD) none) S6=.nx (rh t (some (.int kd)) (some (.int room)) (some pr) (some (.int br)) (some (Pl.p br de room pr).toD) (some Pl.c.toD) (some (.lst S6.length))) (S6++[⟨false,[Pl.c.toD,(Pl.p br de room pr).toD,Pl.c.toD]⟩]):=by
   generalize Pl.c.toD=cc at *
   generalize (Pl.p br de room pr).toD=pp at *
   simp
  generalize S6++[(⟨false,[Pl.c.toD,(Pl.p br de room pr).toD,Pl.c.toD]⟩:Cell)]=S8 at *
  have q9:(S8++[(⟨false,[.int 0,.int 1,.int 2,.int 3]⟩:Cell)])[S8.length]?=some ⟨false,[.int 0,.int 1,.int 2,.int 3]⟩:=Gs
  have i9:=in4 (c:=kd) q9 a1 (by omega)
  have q89:=Hr (c:=⟨false,[.int 0,.int 1,.int 2,.int 3]⟩) q8
  have d9:Dp (S8++[⟨false,[.int 0,.int 1,.int 2,.int 3]⟩]) t k 6:=d8.app
  have l9:S6.length<=(S8++[(⟨false,[.int 0,.int 1,.int 2,.int 3]⟩:Cell)]).length:=by simp; omega
  have ct:tb (o2 inP (vr 1) (ls (ac (cn (.int 0)) (ac (cn (.int 1)) (ac (cn (.int 2)) (ac (cn (.int 3)) an)))))) (rh t (some (.int kd)) (some (.int room)) (some pr) (some (.int br)) (some (Pl.p br de room pr).toD) (some Pl.c.toD) (some (.lst S6.length))) S8=.ok (decide (kd<=3)) (S8++[⟨false,[.int 0,.int 1,.int 2,.int 3]⟩]):=by
   simp only[Geq,Qx,Xu,AE,AL,Hbd,Gdh,Yr,Gdg,Gx]
   rw[if_pos (by decide),Gx,i9]
   rfl
  generalize S8++[(⟨false,[.int 0,.int 1,.int 2,.int 3]⟩:Cell)]=S9 at *
  have fins:∀ (I:Nat) (S':Sto) (mid:List Pl),(sif (tb (o2 inP (vr 1) (ls (ac (cn (.int 0)) (ac (cn (.int 1)) (ac (cn (.int 2)) (ac (cn (.int 3)) an))))))) (sa (o2 Jc (ls (ac (vr 6) an)) (o2 DL.getD (ls (ac (cn (.int 1)) (ac (cn (.int 2)) (ac (cn (.int 2)) (ac (cn (.int 3)) an))))) (vr 1))) (gn 7)) DL.skip) (rh t (some (.int kd)) (some (.int room)) (some pr) (some (.int br)) (some (Pl.p br de room pr).toD) (some Pl.c.toD) (some (.lst S6.length))) S8=.nx (rh t (some (.int kd)) (some (.int room)) (some pr) (some (.int br)) (some (Pl.p br de room pr).toD) (some Pl.c.toD) (some (.lst I))) S'->S'[I]?=some ⟨false,mid.map Pl.toD⟩->Dp S' t k 6->I≠t->I≠k->1<=mid.length->mid.length<=3->(∀ p∈mid,p.ok/\p.isE=false/\∀ b' d' ro' pr',p=.p b' d' ro' pr'->ro'=room)→
    ∃ (ps:List Pl) (us:List Bool) (s0:Law.S3) (S':Sto) (n:Nat),Jy [.lst t] S=.ok (.tup [cD ps us,stE s0]) S'/\Cn ps us/\Gd ps s0/\Dp S' t k n/\n<2^50:=fun I S' mid h9 hI dd It Ik m1 m3 hm=>by
   obtain⟨ps,us,s0,S'',n',f,C,g,dd',hn⟩:=Gix (x1:=some (.int kd)) (x3:=some pr) (x4:=some (.int br)) (x5:=some (Pl.p br de room pr).toD) (x6:=some Pl.c.toD) dd (by decide) hI It Ik m1 m3 hr hm
   refine⟨ps,us,s0,S'',n',?_,C,g,dd',hn⟩
   unfold Jy
   rw[Go]
   simp only[Vf]
   exact(Ge s1).trans ((Ge s1').trans ((Ge s2).trans ((Ge s4).trans ((Ge s5).trans ((Ge s6).trans ((Ge s7).trans ((Ge s8).trans ((Ge h9).trans f))))))))
  by_cases c3:kd<=3
  ·rw[decide_eq_true c3] at ct
   have q10:(S9++[(⟨false,[Pl.c.toD]⟩:Cell)])[S9.length]?=some ⟨false,[Pl.c.toD]⟩:=Gs
   have d10:Dp (S9++[⟨false,[Pl.c.toD]⟩]) t k 6:=d9.app
   have l10:(S9++[(⟨false,[Pl.c.toD]⟩:Cell)]).length=S9.length+1:=by simp
   have s10:ls (ac (vr 6) an) (rh t (some (.int kd)) (some (.int room)) (some pr) (some (.int br)) (some (Pl.p br de room pr).toD) (some Pl.c.toD) (some (.lst S6.length))) S9=.ok (.lst S9.length) (S9++[⟨false,[Pl.c.toD]⟩]):=by
    generalize Pl.c.toD=cc at *
    simp
   generalize S9++[(⟨false,[Pl.c.toD]⟩:Cell)]=S10 at *
   have q11:(S10++[(⟨false,[.int 1,.int 2,.int 2,.int 3]⟩:Cell)])[S10.length]?=some ⟨false,[.int 1,.int 2,.int 2,.int 3]⟩:=Gs
   have q10':=Hr (c:=⟨false,[.int 1,.int 2,.int 2,.int 3]⟩) q10
   have d11:Dp (S10++[⟨false,[.int 1,.int 2,.int 2,.int 3]⟩]) t k 6:=d10.app
   have s11:ls (ac (cn (.int 1)) (ac (cn (.int 2)) (ac (cn (.int 2)) (ac (cn (.int 3)) an)))) (rh t (some (.int kd)) (some (.int room)) (some pr) (some (.int br)) (some (Pl.p br de room pr).toD) (some Pl.c.toD) (some (.lst S6.length))) S10=.ok (.lst S10.length) (S10++[⟨false,[.int 1,.int 2,.int 2,.int 3]⟩]):=by simp
   have l11:(S10++[(⟨false,[.int 1,.int 2,.int 2,.int 3]⟩:Cell)]).length=S10.length+1:=by simp
   generalize S10++[(⟨false,[.int 1,.int 2,.int 2,.int 3]⟩:Cell)]=S11 at *
   obtain⟨m,g11,m1,m3⟩:∃ m:Nat,DL.getD (.lst S10.length) (.int kd) S11=.ok (.int (m:Int)) S11/\1<=m/\m<=3:=by
    rcases(by omega:kd=0\/kd=1\/kd=2\/kd=3) with h | h | h | h<;>rw[h]
    ·exact⟨1,Jr q11 rfl,by decide,by decide⟩
    ·exact⟨2,Jr q11 rfl,by decide,by decide⟩
    ·exact⟨2,Jr q11 rfl,by decide,by decide⟩
    ·exact⟨3,Jr q11 rfl,by decide,by decide⟩
   have ml:=Gfx (n:=m) q10' (by omega)
   refine fins S11.length (S11++[⟨false,List.replicate m Pl.c.toD⟩]) (List.replicate m .c) ?_ (by rw[List.map_replicate]; exact Gs) d11.app (by omega) (by omega) (by simpa using m1) (by simpa using m3) (fun p hp=>by rw[Bu hp]; exact⟨trivial,rfl,fun _ _ _ _ z=>nomatch z⟩)
   rw[Hw ct,Uz,Qx,s10,Gx,Qx,s11,Gx]
   simp only[Xu,AE,AL,Gx,g11,ml,Hq]
   rfl
  ·rw[decide_eq_false c3] at ct
   exact fins S6.length S9 [.c,.p br de room pr,.c] (by rw[Hl ct]; rfl) q89 d9 (by omega) (by omega) (by show 1<=3; decide) (by show 3<=3; decide) (fun p hp=>by
    simp only[Ae,AC,or_false] at hp
    rcases hp with rfl | rfl | rfl
    ·exact⟨trivial,rfl,fun _ _ _ _ z=>nomatch z⟩
    ·exact⟨okP,rfl,fun _ _ _ _ z=>by injection z with _ _ z _; exact z.symm⟩
    ·exact⟨trivial,rfl,fun _ _ _ _ z=>nomatch z⟩)
def Gy5{S:Sto}{q:Nat}{fz:Bool}{ns:List Int}(e:S[q]?=some ⟨fz,ns.map D.int⟩):∃ S',Gaw [.lst q] S=.ok (.bl true) S':=Gpq Gpx e
def Ghp{K:By}{mp:List BB}{H:Hp}:∀ ns:List Int,RepL K mp H (ns.map D.int) (ns.map V.int)
 | []=>RepL.nil
 | a::r=>RepL.cons rfl (Ghp r)
theorem hsp(K:By)(H:Hp)(a:BB)(ns:List Int)(hl:ns.length<=63)(hO:Only H)(hS:SqL K H a (ns.map V.int)):spD K 1 Gaw [.ref a] H (fun v _=>v=.bl true) fun _ _ _=>False:=by
 have hF:SqF K H a (ns.map V.int):=by
  rcases hS with(h | h) | h
  ·rcases hO a with z | ⟨o,xs,z⟩
   ·rw[z] at h; cases h
   ·rw[z] at h; cases h
  ·exact .inl h
  ·exact .inr h
 obtain⟨S',e⟩:=Gy5 (S:=[⟨true,ns.map D.int⟩]) (q:=0) (fz:=true) (ns:=ns) rfl
 refine⟨[a],[.lst 0],[⟨true,ns.map D.int⟩],⟨rfl,fun i b c h1 h2=>?_,fun i j b ci cj h1 h2 h3 h4 h5 h6=>?_⟩,RepL.cons ⟨a,rfl,rfl,fun⟨_,z⟩=>by rcases hO a with y | ⟨o,xs,y⟩<;>(rw[y] at z; cases z)⟩ RepL.nil,rfl,?_⟩
 ·cases i with
  | zero=>
   cases (Ac h1)
   cases (Ac h2)
   exact .inl ⟨ns.map V.int,Ghp ns,(if_pos rfl).mpr hF⟩
  | succ i=>simp at h1
 ·cases i with
  | zero=>cases (Ac h3); cases h5
  | succ i=>simp at h1
 ·show Gtj K [a] H (Gaw [.lst 0] [⟨true,ns.map D.int⟩]) _
  rw[e]
  exact fun mp' H' v _ _ h=>h
end Law
noncomputable def PySem.W.Fast.tw5024373530629980541:Nat:=0
noncomputable def PySem.W.Fast.tw12251125630221798198:Nat:=0
noncomputable def PySem.W.Fast.tw5483149343884701370:Nat:=0
noncomputable def PySem.W.Fast.tw16532387073947295434:Nat:=0
noncomputable def PySem.W.Fast.tw14314252337148424064:Nat:=0
noncomputable def PySem.W.Fast.tw4618365370795992470:Nat:=0
noncomputable def PySem.W.Fast.tw4971764736377811730:Nat:=0
noncomputable def PySem.W.Fast.tw9033444945177349979:Nat:=0
noncomputable def PySem.W.Fast.tw11305644503952446330:Nat:=0
noncomputable def PySem.W.Fast.tw3941080060659214146:Nat:=0
noncomputable def PySem.W.Fast.tw16355776892316927811:Nat:=0
noncomputable def PySem.W.Fast.tw4713613482048858728:Nat:=0
noncomputable def PySem.W.Fast.tw10809626532799511721:Nat:=0
noncomputable def PySem.W.Fast.tw11496103360765399698:Nat:=0
noncomputable def PySem.W.Fast.tw6892094990061326824:Nat:=0
noncomputable def PySem.W.Fast.tw17419289985251349578:Nat:=0
noncomputable def PySem.W.Fast.tw15224037017007021885:Nat:=0
noncomputable def PySem.W.Fast.tw4650955649931591073:Nat:=0
noncomputable def PySem.W.Fast.tw12171598145278557043:Nat:=0
noncomputable def PySem.W.Fast.tw5841241108788690665:Nat:=0
noncomputable def PySem.W.Fast.tw11293450413708811619:Nat:=0
noncomputable def PySem.W.Fast.tw10125822436295845921:Nat:=0
noncomputable def PySem.W.Fast.tw4280407919449553333:Nat:=0
noncomputable def PySem.W.Fast.tw5630021987061779814:Nat:=0
noncomputable def PySem.W.Fast.tw6156602361400371380:Nat:=0
noncomputable def PySem.W.Fast.tw11866898639813984177:Nat:=0
noncomputable def PySem.W.Fast.tw18049378888221443841:Nat:=0
noncomputable def PySem.W.Fast.tw15684250796807207823:Nat:=0
noncomputable def PySem.W.Fast.tw10040034224449054620:Nat:=0
noncomputable def PySem.W.Fast.tw13120902767026511184:Nat:=0
noncomputable def PySem.W.Fast.tw10574751771968344085:Nat:=0
noncomputable def PySem.W.Fast.tw15127612821877633680:Nat:=0
noncomputable def PySem.W.Fast.tw16207664472611242536:Nat:=0
noncomputable def PySem.W.Fast.tw2903208726905472810:Nat:=0
noncomputable def PySem.W.Fast.tw4891951174060644840:Nat:=0
noncomputable def PySem.W.Fast.tw16712748016905986394:Nat:=0
noncomputable def PySem.W.Fast.tw8915880023734924355:Nat:=0
noncomputable def PySem.W.Fast.tw3378256188475831747:Nat:=0
noncomputable def PySem.W.Fast.tw18356115005135733624:Nat:=0
noncomputable def PySem.W.Fast.tw4085038701970882228:Nat:=0
noncomputable def PySem.W.Fast.tw13444457393682751845:Nat:=0
noncomputable def PySem.W.Fast.tw5195681441792949720:Nat:=0
noncomputable def PySem.W.Fast.tw8370036904020165227:Nat:=0
noncomputable def PySem.W.Fast.tw17712852401317250782:Nat:=0
noncomputable def PySem.W.Fast.tw4569243897000627799:Nat:=0
noncomputable def PySem.W.Fast.tw11629032884686450334:Nat:=0
noncomputable def PySem.W.Fast.tw18132702548914953664:Nat:=0
noncomputable def PySem.W.Fast.tw11048514449835007137:Nat:=0
noncomputable def PySem.W.Fast.tw13504317009540971101:Nat:=0
noncomputable def PySem.W.Fast.tw6721511727134353522:Nat:=0
noncomputable def PySem.W.Fast.tw7260894647611784920:Nat:=0
noncomputable def PySem.W.Fast.tw18154075888991114881:Nat:=0
noncomputable def PySem.W.Fast.tw7394551766198188899:Nat:=0
noncomputable def PySem.W.Fast.tw3062726604035806590:Nat:=0
noncomputable def PySem.W.Fast.tw11846356177670761884:Nat:=0
noncomputable def PySem.W.Fast.tw3555345842322778055:Nat:=0
noncomputable def PySem.W.Fast.tw6109727659671425006:Nat:=0
noncomputable def PySem.W.Fast.tw4677483027536234081:Nat:=0
noncomputable def PySem.W.Fast.tw6751921124980061009:Nat:=0
noncomputable def PySem.W.Fast.tw8799250442729911711:Nat:=0
noncomputable def PySem.W.Fast.tw1356061958499335095:Nat:=0
noncomputable def PySem.W.Fast.tw4724609494059883404:Nat:=0
noncomputable def PySem.W.Fast.tw5208938715639680299:Nat:=0
noncomputable def PySem.W.Fast.tw15228812967100039989:Nat:=0
noncomputable def PySem.W.Fast.tw9489484068680752368:Nat:=0
noncomputable def PySem.W.Fast.tw15138088578118128844:Nat:=0
noncomputable def PySem.W.Fast.tw5354887130707790118:Nat:=0
noncomputable def PySem.W.Fast.tw11586928671465883508:Nat:=0
noncomputable def PySem.W.Fast.tw10919013177289042138:Nat:=0
noncomputable def PySem.W.Fast.tw15213456928901747151:Nat:=0
noncomputable def PySem.W.Fast.tw601727150492145468:Nat:=0
noncomputable def PySem.W.Fast.tw6681711840796223018:Nat:=0
noncomputable def PySem.W.Fast.tw13157759196900736677:Nat:=0
noncomputable def PySem.W.Fast.tw17452098872812241037:Nat:=0
noncomputable def PySem.W.Fast.tw9098706297640398944:Nat:=0
noncomputable def PySem.W.Fast.tw16718271414052628171:Nat:=0
noncomputable def PySem.W.Fast.tw7322643464528471486:Nat:=0
noncomputable def PySem.W.Fast.tw3431661165420918960:Nat:=0
noncomputable def PySem.W.Fast.tw9713454252289885279:Nat:=0
noncomputable def PySem.W.Fast.tw14806326873632211740:Nat:=0
noncomputable def PySem.W.Fast.tw16738513710637824152:Nat:=0
noncomputable def PySem.W.Fast.tw2224311740769321070:Nat:=0
noncomputable def PySem.W.Fast.tw12935441136639061198:Nat:=0
noncomputable def PySem.W.Fast.tw10226840538998762370:Nat:=0
noncomputable def PySem.W.Fast.tw1455504293475261781:Nat:=0
noncomputable def PySem.W.Fast.tw2108581420973153653:Nat:=0
noncomputable def PySem.W.Fast.tw17427768254388636000:Nat:=0
noncomputable def PySem.W.Fast.tw5652125018313750437:Nat:=0
noncomputable def PySem.W.Fast.tw720873758814971796:Nat:=0
noncomputable def PySem.W.Fast.tw1371414592588569304:Nat:=0
open PySem PySem.W PyProof.Rows
set_option maxHeartbeats 0 in
theorem PySem.Challenge.cw_summitwater_k20_stands_met_holds : PySem.Challenge.rw_summitwater_k20_stands_met.Holds := by
 w_on; o_law; k_head; (case hw=>w_witness2)
 k_fill
 refine L2.Gmj (l:=PySem.Challenge.rw_summitwater_k20_stands_met) (n:=63) (k:=10) (x:="_law_script") (CX:=L2.CX0) (sp:=fun K=>DL.spD K 1 Law.Gaw) rfl (by decide) rfl ⟨rfl,by decide,by decide,rfl⟩ (fun w h Y=>PySem.W.kIn_of Y) ?F Law.hsp (fun _ _ _ _ z=>z)
 case F=>
  intro w mg fa h KX G hmg
  refine' Law.Gx4 KX G hmg ?HS ?x0 ?x1 ?x2 ?x3 ?x4 ?x5 ?x6 ?x7 ?x8 ?x9 ?x10 ?x11 ?x12 ?x13 ?x14 ?x15 ?x16 ?x17 ?x18 ?x19 ?x20 ?x21 ?x22 ?x23 ?x24 ?x25 ?x26 ?x27 ?x28 ?x29 ?x30 ?x31
  (case HS=>constructor<;>first | (refine' DL.Gxz ?a ?l ?c ?k ?t; (case a=>k_is); (case l=>k_is); (case c=>k_is); (case k=>k_is); (case t=>k_is)) | (refine' DL.Hax ?a ?l ?c ?k; (case a=>k_is); (case l=>k_is); (case c=>k_is); (case k=>k_is)) | k_is)
  (case x0=>k_is)
  (case x1=>k_is)
  (case x2=>k_is)
  (case x3=>k_is)
  (case x4=>k_is)
  (case x5=>k_is)
  (case x6=>k_is)
  (case x7=>k_is)
  (case x8=>k_is)
  (case x9=>k_is)
  (case x10=>k_is)
  (case x11=>k_is)
  (case x12=>k_is)
  (case x13=>k_is)
  (case x14=>k_is)
  (case x15=>k_is)
  (case x16=>k_is)
  (case x17=>k_is)
  (case x18=>kernel_rfl!)
  (case x19=>k_is)
  (case x20=>k_is)
  (case x21=>k_is)
  (case x22=>k_is)
  (case x23=>kernel_rfl!)
  (case x24=>kernel_rfl!)
  (case x25=>kernel_rfl!)
  (case x26=>kernel_rfl!)
  (case x27=>kernel_rfl!)
  (case x28=>kernel_rfl!)
  (case x29=>kernel_rfl!)
  (case x30=>kernel_rfl!)
  (case x31=>kernel_rfl!)
