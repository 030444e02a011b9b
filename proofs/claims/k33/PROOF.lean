import PyProof.Rows.All
import Wide.All
import OpenK.AllK
import Wide.FinOn
import Lean
import PyProof.EqAt
import PyProof.EqKinds
import PyProof.TupleCall
import PyProof.FactsAll.tuple_2
import PyProof.ListMulRoad
import PyProof.ExcArgsOwn
import PyProof.ZipIter
import PyProof.EnumFor
import PyProof.Rows.StrJoin2
import PyProof.FString
import PyProof.StrBlockH
import PyProof.StrWalks
import PyProof.EnumMake
import KE.KIntText
import PyProof.CallStr
import PyProof.ExcInit
import PyProof.ExcClass3
import PyProof.ExcBaseAll.ValueError
import PyProof.NsDelKeeps
import KE.KTryMore
import PyProof.Rows.CountFlat
import PyProof.Rows.KernelRfl
import PyProof.ListRange
import PyProof.InstStoreFacts
import PyProof.Rows.InDataRows
import PyProof.DictTable
import PyProof.DictRoads
import PyProof.DictStraight
import PyProof.Rows.TupTab
import PyProof.Rows.TupDisplay
import PyProof.DictTruth
import PySem.Challenge.RW_summitwater_k33_open_stands_met
set_option compiler.extract_closed false
noncomputable section
set_option maxHeartbeats 4000000
set_option Elab.async false
set_option linter.all false
set_option maxRecDepth 100000
abbrev Aa:=@List.getElem?_eq_some_iff
abbrev Ab:=@Option.some.inj
abbrev Ac:=@Nat.le_refl
abbrev Ad:=@List.getElem?_eq_getElem
abbrev Ae:=@List.getElem?_set_ne
abbrev Af:=@List.mem_cons
abbrev Ag:=@PySem.Heap.lt_size
abbrev Ah:=@List.length_map
abbrev Ai:=@List.getElem?_set_self
abbrev Aj:=@Nat.lt_of_lt_of_le
abbrev Ak:=@List.mem_of_getElem?
abbrev Am:=@Nat.le_trans
abbrev An:=@List.size_toArray
abbrev Ao:=@Bool.false_ne_true
abbrev Ap:=@PySem.Heap.get?_push_of_some
abbrev Aq:=@List.getElem?_append_left
abbrev Ar:=@List.getElem?_map
abbrev As:=@List.map_cons
abbrev At:=@Bool.and_eq_true
abbrev Au:=@List.mem_cons_of_mem
abbrev Av:=@List.mem_cons_self
abbrev Aw:=@List.length_append
abbrev Ax:=@List.lookup_cons
abbrev Ay:=@Nat.ne_of_lt
abbrev Az:=@List.mem_append
abbrev AA:=@List.length_cons
abbrev AB:=@Nat.zero_le
abbrev AC:=@Bool.false_eq_true
abbrev AD:=@Nat.lt_irrefl
abbrev AE:=@List.mem_singleton
abbrev AF:=@PySem.Heap.get?_push_size
abbrev AG:=@List.not_mem_nil
abbrev AH:=@List.mem_map
abbrev AI:=@List.length_nil
abbrev AJ:=@List.getElem_mem
abbrev AK:=@Int.toNat_natCast
abbrev AL:=@PySem.Heap.get?_update_other
abbrev AM:=@List.append_assoc
abbrev AN:=@List.all_eq_true
abbrev AO:=@List.map_append
abbrev AQ:=@List.mem_append_right
abbrev AR:=@List.mem_nil_iff
abbrev AS:=@List.sum_cons
abbrev AT:=@List.length_take
abbrev AU:=@List.getElem?_append_right
abbrev AV:=@List.replicate_succ
abbrev AW:=@Bool.eq_false_iff
abbrev AX:=@List.mem_iff_getElem?
abbrev AY:=@List.append_nil
abbrev AZ:=@PySem.Heap.get?_none_of_le
abbrev A0:=@List.nodup_cons
abbrev A1:=@PySem.Heap.get?_update_self
abbrev A2:=@List.length_set
abbrev A3:=@List.flatten_cons
abbrev A4:=@List.getElem?_cons_succ
abbrev A5:=@List.getElem?_cons_zero
abbrev A6:=@List.nodup_append
abbrev A7:=@Nat.lt_succ_self
abbrev A8:=@List.getElem?_range
abbrev A9:=@List.take_add_one
abbrev Bc:=@List.mem_filter
abbrev Bd:=@Nat.le_of_lt
abbrev Be:=@List.getElem?_eq_none_iff
abbrev Bg:=@Option.bind_some
abbrev Bh:=@PySem.Heap.size_push
abbrev Bi:=@Int.emod_nonneg
abbrev Bj:=@List.filter_append
abbrev Bk:=@List.length_eq_zero_iff
abbrev Bl:=@List.length_filter_le
abbrev Bm:=@Nat.add_assoc
abbrev Bn:=@List.mem_range
abbrev Bo:=@List.mem_append_left
abbrev Bp:=@Nat.ne_of_gt
abbrev Bq:=@List.map_nil
abbrev Br:=@Nat.le_succ
abbrev Bs:=@List.contains_cons
abbrev Bt:=@List.find?_cons
abbrev Bu:=@Int.emod_lt_of_pos
abbrev Bv:=@List.getElem?_eq_none
abbrev Bw:=@List.take_of_length_le
abbrev Bx:=@List.take_length
abbrev By:=@List.filterMap_cons
abbrev Bz:=@Option.isSome_iff_exists
abbrev BA:=@Option.map_eq_some_iff
abbrev BB:=@List.set_eq_take_append_cons_drop
abbrev BC:=@List.eq_of_mem_replicate
abbrev BD:=@Option.not_isSome_iff_eq_none
abbrev BE:=PySem.W.Frag
abbrev BG:=PySem.Value
abbrev BH:=PySem.Shared
abbrev BI:=PySem.Addr
abbrev BJ:=Option
abbrev BK:=PySem.Program
namespace L2
open PySem PySem.Spec PyProof.Rows
abbrev Key:=Sum Int Str
noncomputable def Gt0:Key->BG->Bool
 | .inl k,v=>Value.isInt k v
 | .inr x,v=>Value.isStrOf x v
noncomputable def Hdd(w:World):Key->Int
 | .inl k=>hashInt k
 | .inr x=>hashStr w x
def Je:∀ {k:Key} {v:BG},Gt0 k v=true->(∃ i t,k=Sum.inl i/\v=Value.int i t)\/(∃ x t,k=Sum.inr x/\v=Value.str x t)
 | .inl i,v,h=>by
  obtain⟨t,e⟩:=Value.isInt_shape (k:=i) (v:=v) h
  exact .inl ⟨i,t,rfl,e⟩
 | .inr x,v,h=>by
  obtain⟨t,e⟩:=Value.isStrOf_shape (x:=x) (v:=v) h
  exact .inr ⟨x,t,rfl,e⟩
def Gu5(a b:Int):decide ((Sum.inl a:Key)=Sum.inl b)=(a==b):=by
 by_cases e:a=b
 ·subst e; simp
 ·have h:¬ (Sum.inl a:Key)=Sum.inl b:=fun q=>e (Sum.inl.inj q)
  rw[decide_eq_false h]
  exact(beq_eq_false_iff_ne.mpr e).symm
def Gu6(a b:Str):decide ((Sum.inr a:Key)=Sum.inr b)=decide (a=b):=by
 by_cases e:a=b
 ·subst e; simp
 ·have h:¬ (Sum.inr a:Key)=Sum.inr b:=fun q=>e (Sum.inr.inj q)
  rw[decide_eq_false h,decide_eq_false e]
def Gu7(a:Int)(b:Str):decide ((Sum.inl a:Key)=Sum.inr b)=false:=decide_eq_false (fun q=>nomatch q)
def Gu8(a:Str)(b:Int):decide ((Sum.inr a:Key)=Sum.inl b)=false:=decide_eq_false (fun q=>nomatch q)
def Gjd(prog:BK)(w:World):PySem.KeyKind prog w Key where
 is:=Gt0
 hash:=Hdd w
 inj:=fun v a b ha hb=>by
  rcases Je ha with⟨i,t,rfl,rfl⟩ | ⟨x,t,rfl,rfl⟩
  ·rcases Je hb with⟨j,u,rfl,e⟩ | ⟨y,u,rfl,e⟩
   ·injection e with e1 _; rw[e1]
   ·exact nomatch e
  ·rcases Je hb with⟨j,u,rfl,e⟩ | ⟨y,u,rfl,e⟩
   ·exact nomatch e
   ·injection e with e1 _; rw[e1]
 byValue:=fun k v h=>by
  rcases Je h with⟨i,t,rfl,rfl⟩ | ⟨x,t,rfl,rfl⟩<;>rfl
 pyHash:=fun hv h=>by
  rcases Je hv with⟨i,t,rfl,rfl⟩ | ⟨x,t,rfl,rfl⟩
  ·exact wpAny_pyHash_int h
  ·exact wpAny_pyHash_str h
 eqBool:=fun hu hv h=>by
  rcases Je hu with⟨i,t,rfl,rfl⟩ | ⟨x,t,rfl,rfl⟩
  ·rcases Je hv with⟨j,u,rfl,rfl⟩ | ⟨y,u,rfl,rfl⟩
   ·rw[Gu5] at h; exact wpAny_eqBool_int h
   ·rw[Gu7] at h; exact SeqAt.EqAt.int_str i t y u _ _ _ _ h
  ·rcases Je hv with⟨j,u,rfl,rfl⟩ | ⟨y,u,rfl,rfl⟩
   ·rw[Gu8] at h; exact SeqAt.EqAt.str_int x t j u _ _ _ _ h
   ·rw[Gu6] at h; exact wpAny_eqBool_str h
 «strs»:=fun k x t v h=>by
  rcases Je h with⟨i,u,rfl,e⟩ | ⟨y,u,rfl,e⟩
  ·exact nomatch e
  ·injection e with e1 _
   subst e1
   cases v<;>rfl
inductive V where
 | non | bl (b:Bool) | int (i:Int) | str (x:Str) | byt (b:Array UInt8) | flt (b:UInt64) | ref (a:BI) | ty (n:String)
 deriving DecidableEq
def Hc:V->BG->Prop
 | .non,u=>u=Value.none
 | .bl b,u=>u=Value.bool b
 | .int i,u=>∃ t,u=Value.int i t
 | .str x,u=>∃ t,u=Value.str x t
 | .byt b,u=>∃ t,u=Value.bytes b t
 | .flt b,u=>∃ t,u=Value.float b t
 | .ref a,u=>u=Value.ref a
 | .ty n,u=>u=Value.type n
abbrev Vals:List V->List BG->Prop:=Paired Hc
def Vals.length{xs:List V}{us:List BG}(r:Vals xs us):xs.length=us.length:=Paired.length r
def Vals.get:∀ {xs:List V} {us:List BG} {i:Nat} {x:V},Vals xs us->xs[i]?=some x->∃ u,us[i]?=some u/\Hc x u
 | _,_,_,_,.nil,e=>by simp at e
 | _,_,0,_,.cons r _,e=>by simp at e; subst e; exact⟨_,rfl,r⟩
 | _,_,i+1,x,.cons _ t,e=>by
  obtain⟨u,h1,h2⟩:=Vals.get (i:=i) (x:=x) t (by simpa using e)
  exact⟨u,by simpa using h1,h2⟩
def Vals.set{x:V}{u:BG}(r:Hc x u):∀ {xs:List V} {us:List BG} (i:Nat),Vals xs us->Vals (xs.set i x) (us.set i u)
 | _,_,_,.nil=>.nil
 | _,_,0,.cons _ t=>.cons r t
 | _,_,i+1,.cons q t=>.cons q (Vals.set r i t)
def Vals.append:∀ {xs ys:List V} {us ws:List BG},Vals xs us->Vals ys ws->Vals (xs++ys) (us++ws)
 | _,_,_,_,.nil,s=>s
 | _,_,_,_,.cons r t,s=>.cons r (Vals.append t s)
def Vals.take:∀ {xs:List V} {us:List BG} (n:Nat),Vals xs us->Vals (xs.take n) (us.take n)
 | _,_,0,_=>.nil
 | _,_,_+1,.nil=>.nil
 | _,_,n+1,.cons r t=>.cons r (Vals.take n t)
def Vals.drop:∀ {xs:List V} {us:List BG} (n:Nat),Vals xs us->Vals (xs.drop n) (us.drop n)
 | _,_,0,r=>r
 | _,_,_+1,.nil=>.nil
 | _,_,n+1,.cons _ t=>Vals.drop n t
def Gia:BJ V->BJ BG->Prop
 | some v,some u=>Hc v u
 | none,none=>True
 | _,_=>False
def KV{Y:Type}:List (Y×V)->List (Y×BG)->Prop:=Paired fun(p:Y×V) (q:Y×BG)=>p.1=q.1/\Hc p.2 q.2
noncomputable def kV:Key->V
 | .inl i=>.int i
 | .inr x=>.str x
inductive NK where
 | i (n:Int) | t (l:List NK)
mutual
def pk:NK->PyData
 | .i n=>.int n
 | .t l=>.tuple (pks l)
def pks:List NK->List PyData
 | []=>[]
 | k::r=>pk k::pks r
end
mutual
theorem Gaa:∀ (x y:NK),PyData.eqv (pk x) (pk y)=true↔x=y
 | .i n,.i m=>by simp[pk,PyData.eqv]
 | .i n,.t m=>by simp[pk,PyData.eqv]
 | .t n,.i m=>by simp[pk,PyData.eqv]
 | .t l,.t m=>by simp only[pk,PyData.eqv,pks_eqv l m,NK.t.injEq]
theorem pks_eqv:∀ (x y:List NK),PyData.eqvAll (pks x) (pks y)=true↔x=y
 | [],[]=>by simp[pks,PyData.eqvAll]
 | [],_::_=>by simp[pks,PyData.eqvAll]
 | _::_,[]=>by simp[pks,PyData.eqvAll]
 | a::r,b::q=>by simp only[pks,PyData.eqvAll,At,Gaa a b,pks_eqv r q,List.cons.injEq]
end
instance:DecidableEq NK:=fun x y=>if h:PyData.eqv (pk x) (pk y)=true then isTrue ((Gaa x y).mp h) else isFalse fun e=>h ((Gaa x y).mpr e)
def Gu9(x y:NK):PyData.eqv (pk x) (pk y)=decide (x=y):=by
 by_cases h:x=y
 ·rw[decide_eq_true h,(Gaa x y).mpr h]
 ·rw[decide_eq_false h]
  cases e:PyData.eqv (pk x) (pk y) with
  | false=>rfl
  | true=>exact absurd ((Gaa x y).mp e) h
def Gva{x y:NK}(h:pk x=pk y):x=y:=(Gaa x y).mp (by rw[h]; exact(Gaa y y).mpr rfl)
mutual
theorem Gib:∀ (x:NK),(pk x).canLay0=true
 | .i n=>by simp[pk,PyData.canLay0]
 | .t l=>by simp[pk,PyData.canLay0,pks_can l]
theorem pks_can:∀ (x:List NK),PyData.canLayAll0 (pks x)=true
 | []=>by simp[pks,PyData.canLayAll0]
 | a::r=>by simp[pks,PyData.canLayAll0,Gib a,pks_can r]
end
mutual
def nkh:NK->Int
 | .i n=>hashInt n
 | .t l=>reduceHash (Builtin.Tuple.tupleHashOf (nkhs l))
def nkhs:List NK->List Int
 | []=>[]
 | k::r=>nkh k::nkhs r
end
mutual
def nkd:NK->Nat
 | .i _=>1
 | .t l=>nkds l+1
def nkds:List NK->Nat
 | []=>0
 | k::r=>nkd k+nkds r
end
def Gc7:∀ (l m:List NK),nkhs (l++m)=nkhs l++nkhs m
 | [],m=>by simp[nkhs]
 | a::r,m=>by simp[nkhs,Gc7 r m]
def Gc8:∀ (l m:List NK),nkds (l++m)=nkds l+nkds m
 | [],m=>by simp[nkds]
 | a::r,m=>by simp[nkds,Gc8 r m]; omega
def Gbj:∀ {l:List NK} {k:NK},k∈l->(pk k).depth<=PyData.depthAll (pks l)
 | [],k,h=>by simp at h
 | a::r,k,h=>by
  rcases Af.mp h with rfl | h
  ·simp only[pks,PyData.depthAll]; omega
  ·have:=Gbj h
   simp only[pks,PyData.depthAll]; omega
def Gje(k:NK):Prop:=∀ (prog:BK) (w:World) (A:Around) (E:BG->BH->Prop) (s:BH) (v:BG) (as:List BI) (Q:Int->BH->Prop),
 Reads s.heap v (pk k) as->A.units+(pk k).depth<cLine->Q (nkh k) { s with toks:=s.toks+nkd k }->wpAny (model prog w) A (pyHash v) Q E s
def Gfk(k:NK):Prop:=∀ (prog:BK) (w:World) (A:Around) (E:BG->BH->Prop) (s:BH) (v:BG) (as:List BI) (n:Nat) (Q:Bool->BH->Prop),
 Reads s.heap v (pk k) as->(pk k).depth<=n->Q true s->wpAny (model prog w) A (eqIsQuiet n v) Q E s
def Gmb{l:List NK}(ih:∀ k∈l,Gje k):Gje (.t l):=by
 intro prog w A E s v as Q r hu h
 simp only[pk] at r
 cases r with
 | @tuple a o vs n xs as ho hc hd rs=>
  have hT:s.TypeIs (.ref a) "tuple":=⟨o,ho,hc⟩
  have hdep:(pk (.t l)).depth=PyData.depthAll (pks l)+1:=by simp[pk,PyData.depth]
  rw[hdep] at hu
  unfold pyHash
  unfold pyHashByItsType
  refine wpAny_bind (wpAny_cRoomFor_or (.inr (by omega)) ?_)
  refine wpAny_bind (wpAny_specialOf hT F.slot_tuple_hash.lookup ?_)
  rw[if_neg (by rw[beq_builtin_none]; exact Ao)]
  refine wpAny_bind (wpAny_specialOf hT F.slot_tuple_hash.lookup ?_)
  show wpAny _ _ (callSpecialIfBoundUnlessNone? (.ref a) "__hash__" _ >>= _) Q E s
  refine wpAny_bind (wpAny_callSpecialIfBoundUnlessNone?_slot hT F.slot_tuple_hash (wpAny_call_entry F.slot_tuple_hash hT F.entry_tuple_hash ?_ (F.args_tuple_hash_1 _)))
  show wpAny _ _ (Builtin.Tuple.tupleItemsOf (.ref a) >>= _) _ _ s
  refine wpAny_bind (wpAny_tupleItemsOf ho hd ?_)
  refine wpAny_bind ?_
  rw[<- Array.forIn_toList]
  refine wpAny_forIn_list _
   (fun rest (b:Array Int) s'=>∃ done left cs,l=done++left/\ReadsAll s.heap rest (pks left) cs/\b.toList=nkhs done/\s'={ s with toks:=s.toks+nkds done })
   _ ?_ ?_ _ _ ⟨[],l,as,rfl,rs,rfl,rfl⟩
  ·rintro x rest b s' ⟨done,left,cs,el,hl,hb,rfl⟩
   cases left with
   | nil=>simp only[pks] at hl; cases hl
   | cons k left=>
    simp only[pks] at hl
    cases hl with
    | @cons _ _ _ _ c1 c2 h1 h2=>
     have hk:k∈l:=by rw[el]; simp
     have hdk:=Gbj hk
     refine wpAny_bind (ih k hk prog w _ _ _ x c1 _ h1 (by first | omega | (show A.units+1+_<cLine; omega)) ?_)
     first
      | exact wpAny_pure ⟨done++[k],left,c2,by simp[el],h2,by simp[hb,Gc7,nkhs],by simp[Gc8,nkds,Bm]⟩
      | exact wpAny_bind (wpAny_pure (wpAny_pure ⟨done++[k],left,c2,by simp[el],h2,by simp[hb,Gc7,nkhs],by simp[Gc8,nkds,Bm]⟩))
  ·rintro b s' ⟨done,left,cs,el,hl,hb,rfl⟩
   cases left with
   | cons k left=>simp only[pks] at hl; cases hl
   | nil=>
    rw[AY] at el
    subst el
    show wpAny _ _ (retInt (Builtin.Tuple.tupleHashOf b.toList)) _ _ _
    rw[hb]
    refine wpAny_ret_mkInt ?_
    show wpAny _ _ (if(decide (-(2:Int)^63<=Builtin.Tuple.tupleHashOf (nkhs l))&&decide (Builtin.Tuple.tupleHashOf (nkhs l)<2^63))=true then _ else _) Q E _
    unfold nkh reduceHash at h
    simp only[nkd] at h
    by_cases hr:(decide (-(2:Int)^63<=Builtin.Tuple.tupleHashOf (nkhs l))&&decide (Builtin.Tuple.tupleHashOf (nkhs l)<2^63))=true
    ·rw[if_pos hr]
     rw[if_pos hr] at h
     exact wpAny_pure (by simpa[Bm] using h)
    ·rw[if_neg hr]
     rw[if_neg hr] at h
     exact wpAny_bind (wpAny_rule (wpAny_pure (by simpa[Bm] using h)))
mutual
theorem hash_ok:∀ k:NK,Gje k
 | .i n=>by
  intro prog w A E s v as Q r hu h
  simp only[pk] at r
  cases r
  exact wpAny_pyHash_int h
 | .t l=>Gmb (hash_all l)
theorem hash_all:∀ (l:List NK) (k:NK),k∈l->Gje k
 | [],k,h=>by simp at h
 | a::r,k,h=>(Af.mp h).elim (fun e=>e▸hash_ok a) (fun m=>hash_all r k m)
end
def Gla{l:List NK}(ih:∀ k∈l,Gfk k):Gfk (.t l):=by
 intro prog w A E s v as n Q r hn h
 simp only[pk] at r
 cases r with
 | @tuple a o vs n' xs as ho hc hd rs=>
  have hT:s.TypeIs (.ref a) "tuple":=⟨o,ho,hc⟩
  have hdep:(pk (.t l)).depth=PyData.depthAll (pks l)+1:=by simp[pk,PyData.depth]
  rw[hdep] at hn
  cases n with
  | zero=>omega
  | succ n=>
   unfold eqIsQuiet
   refine wpAny_bind (wpAny_specialOf hT F.slot_tuple_eq.lookup ?_)
   show wpAny _ _ (isInstance (.ref a) (.type "tuple") >>= _) _ _ s
   refine wpAny_bind (wpAny_isInstance hT isSubtype_tuple_tuple ?_)
   simp only[Bool.not_true,AC,if_false]
   refine wpAny_bind (wpAny_seqItems ho hd ?_)
   refine wpAny_bind ?_
   show wpAny _ _ (forIn vs _ _) _ _ s
   rw[<- Array.forIn_toList]
   refine wpAny_forIn_list _ (fun rest r s'=>r.1=none/\s'=s/\∃ left cs,(∀ k∈left,k∈l)/\ReadsAll s.heap rest (pks left) cs) _ ?_ ?_ _ _ ⟨rfl,rfl,l,as,fun _ h=>h,rs⟩
   ·rintro x rest r s' ⟨hr,rfl,left,cs,hm,hl⟩
    cases left with
    | nil=>simp only[pks] at hl; cases hl
    | cons k left=>
     simp only[pks] at hl
     cases hl with
     | @cons _ _ _ _ c1 c2 h1 h2=>
      have hk:=hm k Av
      have hdk:=Gbj hk
      refine wpAny_bind (ih k hk prog w _ _ _ x c1 n _ h1 (by omega) ?_)
      simp only[Bool.not_true,AC,if_false]
      exact wpAny_pure ⟨rfl,rfl,left,c2,fun q hq=>hm q (Au _ hq),h2⟩
   ·rintro⟨r1,r2⟩ s' ⟨hr,rfl,_⟩
    simp only at hr
    subst hr
    exact wpAny_pure h
mutual
theorem quiet_ok:∀ k:NK,Gfk k
 | .i m=>by
  intro prog w A E s v as n Q r hn h
  simp only[pk] at r
  cases r
  rw[eqIsQuiet_byValue n (by rfl)]
  exact wpAny_pure h
 | .t l=>Gla (quiet_all l)
theorem quiet_all:∀ (l:List NK) (k:NK),k∈l->Gfk k
 | [],k,h=>by simp at h
 | a::r,k,h=>(Af.mp h).elim (fun e=>e▸quiet_ok a) (fun m=>quiet_all r k m)
end
mutual
theorem Gg2:∀ (k:NK) {h h':Heap} {v:BG} {as:List BI} {d:BI} {o:Obj} {es:Array DictEntry} {ep:Nat},Reads h v (pk k) as->h.get? d=some o->o.data=.dict es ep->Heap.SameBut d h h'->Reads h' v (pk k) as
 | .i n,h,h',v,as,d,o,es,ep,r,_,_,_=>by
  simp only[pk] at r ⊢
  cases r
  exact .int _ _
 | .t l,h,h',v,as,d,o,es,ep,r,ho,hd,hs=>by
  simp only[pk] at r ⊢
  cases r with
  | @tuple a o' vs n' xs as ho' hc hd' rs=>
   have hne:a≠d:=by
    rintro rfl
    obtain rfl:o'=o:=Ab (ho'.symm.trans ho)
    rw[hd] at hd'
    exact nomatch hd'
   exact .tuple ((hs.2 a hne).trans ho') hc hd' (pks_keeps l rs ho hd hs)
theorem pks_keeps:∀ (l:List NK) {h h':Heap} {v:List BG} {as:List BI} {d:BI} {o:Obj} {es:Array DictEntry} {ep:Nat},ReadsAll h v (pks l) as->h.get? d=some o->o.data=.dict es ep->Heap.SameBut d h h'->ReadsAll h' v (pks l) as
 | [],h,h',v,as,d,o,es,ep,r,_,_,_=>by
  simp only[pks] at r ⊢
  cases r
  exact .nil
 | k::l,h,h',v,as,d,o,es,ep,r,ho,hd,hs=>by
  simp only[pks] at r ⊢
  cases r with
  | cons r1 r2=>exact .cons (Gg2 k r1 ho hd hs) (pks_keeps l r2 ho hd hs)
end
def Hde(h:Heap)(k:NK)(a:BI):Prop:=(∃ as,Reads h (.ref a) (pk k) as)/\(pk k).depth<=8
noncomputable def nestKind (prog:BK) (w:World):HeapKind prog w NK where
 is:=Hde
 hash:=nkh
 draws:=nkd
 room:=fun A=>A.units+10<cLine
 inj:=fun⟨⟨_,hx⟩,_⟩ ⟨⟨_,hy⟩,_⟩=>Gva (hx.unique _ _ hy).1
 keeps:=fun⟨⟨as,x⟩,q⟩ ho hd hs=>⟨⟨as,Gg2 _ x ho hd hs⟩,q⟩
 pyHash:=fun hu ⟨⟨as,x⟩,q⟩ h=>hash_ok _ _ _ _ _ _ _ as _ x (by omega) h
 eqBool:=fun hu ⟨⟨as,x⟩,q⟩ ⟨⟨bs,y⟩,q'⟩ h=>SeqAt.eqAt_reads _ _ _ _ _ _ as bs x y (Gib _) (Gib _) (by omega) _ _ _ _ (by rw[Gu9]; exact h)
 quiet:=fun⟨⟨as,x⟩,q⟩ h=>quiet_ok _ _ _ _ _ _ _ as 8 _ x q h
inductive HO where
 | lst (xs:List V)
 | tup (xs:List V)
 | dK (kvs:List (Key×V)) | dT (kvs:List (NK×BI×V))
 | set (S:Int->Bool) (n:Nat)
 | ins (C dx:BI) (fs:List (Str×V))
 | own (x:BI)
 | xd (fs:List (Str×V))
 | met (f x:BI)
 | rng (lo hi:Int)
 | frz (o:Obj) (u:HO)
 | tbl (ps:Array BG)
 | ext (φ:Heap->Prop)
abbrev Hp:=BI->BJ HO
noncomputable def upd(H:Hp)(a:BI)(o:HO):Hp:=fun b=>if b=a then some o else H b
def He{H:Hp}{a:BI}{o:HO}:upd H a o a=some o:=by unfold upd; rw[if_pos rfl]
def Gm{H:Hp}{a b:BI}{o:HO}(h:b≠a):upd H a o b=H b:=by unfold upd; rw[if_neg h]
def Yi{H:Hp}{a b:BI}{o u:HO}(h:H a=some o)(h':H b=some u)(d:o≠u):a≠b:=by
 intro e; subst e; rw[h] at h'; exact d (Ab h')
def Ha{H:Hp}{a b:BI}{o:HO}(h:H a=some o)(h':H b=none):a≠b:=by
 intro e; subst e; rw[h] at h'; cases h'
section
variable(P:BK)(w:World)
def Kh(H:Hp)(h:Heap)(a:BI):HO->Prop
 | .lst xs=>xs.length<=sizeLine/\∃ (its:List BG) (n:Nat),Vals xs its/\h.get? a=some { cls:=.type "list",data:=.seq its.toArray n }
 | .tup xs=>xs.length<=sizeLine/\∃ its:List BG,Vals xs its/\IsTup h a its.toArray
 | .dK kvs=>kvs.length<=sizeLine/\(a==sysModules)=false/\∃ vs,KV kvs vs/\h.DictOf (Gjd P w) a vs
 | .dT kvs=>kvs.length<=sizeLine/\(a==sysModules)=false/\∃ xs:List (NK×BI×BG),
   Paired (fun(p:NK×BI×V) (q:NK×BI×BG)=>p.1=q.1/\p.2.1=q.2.1/\Hc p.2.2 q.2.2) kvs xs∧
   ∃ o es ep,h.get? a=some o/\o.ExactDict/\o.data=.dict es ep/\es.toList=xs.map (entryOfKey (nestKind P w))/\(xs.map (·.1)).Nodup
 | .set S n=>h.SetOf (intKind P w) a S n
 | .ins C dx fs=>H dx=some (.own a)/\fs.length<=1000/\dx≠a/\h.get? a=some (PySem.W.instObj C dx)∧
   ∃ mA,h.Ns1 dx mA/\(∀ f,Gia (fs.lookup f) (mA f))/\PySem.Within mA (fs.map (·.1))
 | .own _=>∃ o,h.get? a=some o
 | .xd fs=>∃ mA,h.Ns1 a mA/\∀ f,Gia (fs.lookup f) (mA f)
 | .rng lo hi=>∃ t u v,h.get? a=some { cls:=.type "range",data:=.fields #[.int lo t,.int hi u,.int 1 v] }
 | .frz o u=>h.get? a=some o/\Kh H h a u
 | .tbl ps=>h.get? a=some { cls:=.none,data:=.fields ps }
 | .met f x=>h.get? a=some (PySem.W.methodObj (.ref f) (.ref x))
 | .ext φ=>φ h/\(∃ o,h.get? a=some o)/\∀ h1 h2:Heap,φ h1->(∀ o,h1.get? a=some o->h2.get? a=some o)->φ h2
def HOk(H:Hp)(h:Heap):Prop:=∀ a o,H a=some o->Kh P w H h a o
end
section
variable{P:BK}{w:World}{H H':Hp}{h h':Heap}{a:BI}{o:HO}
def Kh.lt(x:Kh P w H h a o):a<h.objs.size:=by
 cases o with
 | lst xs=>obtain⟨_,_,_,_,e⟩:=x; exact Ag e
 | tup xs=>obtain⟨_,_,_,p⟩:=x; exact p.lt
 | dK kvs=>obtain⟨_,_,_,_,o,_,_,e,_⟩:=x; exact Ag e
 | dT kvs=>obtain⟨_,_,_,_,o,_,_,e,_⟩:=x; exact Ag e
 | set S n=>obtain⟨o,_,_,_,e,_⟩:=x; exact Ag e
 | ins C dx fs=>obtain⟨_,_,_,e,_⟩:=x; exact Ag e
 | own y=>obtain⟨_,e⟩:=x; exact Ag e
 | xd fs=>obtain⟨_,⟨_,_,_,e,_⟩,_⟩:=x; exact Ag e
 | rng lo hi=>obtain⟨_,_,_,e⟩:=x; exact Ag e
 | frz ob u=>obtain⟨e,_⟩:=x; exact Ag e
 | tbl ps=>exact Ag (show h.get? a=some _ from x)
 | met f y=>exact Ag (show h.get? a=some _ from x)
 | ext φ=>obtain⟨_,⟨_,e⟩,_⟩:=x; exact Ag e
def Paired.mapP{O β:Type}{F G:O->β->Prop}:∀ {l₁:List O} {l₂:List β},Paired F l₁ l₂->(∀ a b,F a b->G a b)->Paired G l₁ l₂
 | _,_,.nil,_=>.nil
 | _,_,.cons r t,f=>.cons (f _ _ r) (Paired.mapP t f)
def Kh.stay(x:Kh P w H h a o)(k:∀ b u,(b=a\/H b=some (.own a))->h.get? b=some u->h'.get? b=some u)
  (ho:∀ b,H b=some (.own a)->H' b=some (.own a)) (ht:∀ b xs,H b=some (.tup xs)->H' b=some (.tup xs)):Kh P w H' h' a o:=by
 induction o with
 | lst xs=>obtain⟨z,its,n,r,e⟩:=x; exact⟨z,its,n,r,k _ _ (.inl rfl) e⟩
 | tup xs=>obtain⟨z,its,r,ob,e,c⟩:=x; exact⟨z,its,r,ob,k _ _ (.inl rfl) e,c⟩
 | dK kvs=>obtain⟨z,y,vs,r,ob,es,ep,e,c⟩:=x; exact⟨z,y,vs,r,ob,es,ep,k _ _ (.inl rfl) e,c⟩
 | dT kvs=>
  obtain⟨z,y,xs,r,ob,es,ep,e,c⟩:=x
  exact⟨z,y,xs,r,ob,es,ep,k _ _ (.inl rfl) e,c⟩
 | set S n=>obtain⟨ob,es,ep,t,e,c⟩:=x; exact⟨ob,es,ep,t,k _ _ (.inl rfl) e,c⟩
 | ins C dx fs=>
  obtain⟨d,z,ne,e,mA,⟨od,es,ep,e2,c⟩,r⟩:=x
  exact⟨ho _ d,z,ne,k _ _ (.inl rfl) e,mA,⟨od,es,ep,k _ _ (.inr d) e2,c⟩,r⟩
 | own y=>obtain⟨ob,e⟩:=x; exact⟨ob,k _ _ (.inl rfl) e⟩
 | xd fs=>obtain⟨mA,⟨od,es,ep,e,c⟩,r⟩:=x; exact⟨mA,⟨od,es,ep,k _ _ (.inl rfl) e,c⟩,r⟩
 | rng lo hi=>obtain⟨t,u,v,e⟩:=x; exact⟨t,u,v,k _ _ (.inl rfl) e⟩
 | frz ob u ih=>obtain⟨e,q⟩:=x; exact⟨k _ _ (.inl rfl) e,ih q⟩
 | tbl ps=>
  have e:h.get? a=some { cls:=.none,data:=.fields ps }:=x
  show h'.get? a=some { cls:=.none,data:=.fields ps }
  exact k a _ (.inl rfl) e
 | met f y=>
  have e:h.get? a=some (PySem.W.methodObj (.ref f) (.ref y)):=x
  show h'.get? a=some (PySem.W.methodObj (.ref f) (.ref y))
  exact k a _ (.inl rfl) e
 | ext φ=>obtain⟨p,⟨o,e⟩,st⟩:=x; exact⟨st _ _ p fun o q=>k _ _ (.inl rfl) q,⟨o,k _ _ (.inl rfl) e⟩,st⟩
def HOk.lt(x:HOk P w H h)(e:H a=some o):a<h.objs.size:=(x a o e).lt
def HOk.fresh(x:HOk P w H h)(e:h.objs.size<=a):H a=none:=by
 cases q:H a with
 | none=>rfl
 | some u=>exact absurd (Aj (x.lt q) e) (AD _)
def HOk.kept(x:HOk P w H h)(k:∀ b u,h.get? b=some u->h'.get? b=some u):HOk P w H h':=fun a o e=>
 (x a o e).stay (fun b u _ q=>k b u q) (fun _ q=>q) fun _ _ q=>q
def HOk.laid(x:HOk P w H h)(k:∀ b u,h.get? b=some u->h'.get? b=some u)(hp:h.objs.size<=a)(new:Kh P w (upd H a o) h' a o):HOk P w (upd H a o) h':=fun b u e=>by
 have hn:=x.fresh hp
 by_cases hb:b=a
 ·subst hb; rw[He] at e; cases e; exact new
 ·rw[Gm hb] at e
  exact(x b u e).stay (fun c v _ q=>k c v q) (fun c q=>by rw[Gm (Ha q hn)]; exact q) fun c xs q=>by rw[Gm (Ha q hn)]; exact q
end
def Rd(H:Hp)(a:BI)(u:HO):Prop:=H a=some u\/∃ o,H a=some (.frz o u)
def Rd.ok{P:BK}{w:World}{H:Hp}{h:Heap}{a:BI}{u:HO}(r:Rd H a u)(x:HOk P w H h):Kh P w H h a u:=by
 rcases r with r | ⟨o,r⟩
 ·exact x a u r
 ·obtain⟨_,q⟩:=x a _ r
  exact q
def Mut:BJ HO->Prop
 | some (.lst _)=>True
 | some (.dK _)=>True
 | some (.dT _)=>True
 | some (.set _ _)=>True
 | some (.ins _ _ _)=>True
 | some (.ext _)=>True
 | _=>False
def HOk.write{P:BK}{w:World}{H:Hp}{h h':Heap}{x e:BI}{o':HO}(ok:HOk P w H h)(mu:Mut (H x))(he:e=x\/H e=some (.own x))(k:∀ b u,b≠e->h.get? b=some u->h'.get? b=some u)(heo:∃ u,h'.get? e=some u)(new:Kh P w (upd H x o') h' x o'):HOk P w (upd H x o') h':=fun b u q=>by
 have nown:∀ c y,H c=some (.own y)->c≠x:=fun c y r z=>by subst z; rw[r] at mu; exact mu
 have ntup:∀ c xs,H c=some (.tup xs)->c≠x:=fun c xs r z=>by subst z; rw[r] at mu; exact mu
 by_cases hb:b=x
 ·subst hb; rw[He] at q; cases q; exact new
 ·rw[Gm hb] at q
  by_cases hbe:b=e
  ·have q':H b=some (.own x):=by
    rcases he with z | z
    ·exact absurd (hbe.trans z) hb
    ·rw[hbe]; exact z
   rw[q] at q'; cases q'
   obtain⟨v,hv⟩:=heo
   exact⟨v,by rw[hbe]; exact hv⟩
  ·refine(ok b u q).stay (fun c v hc r=>k c v ?_ r) (fun c r=>by rw[Gm (nown c b r)]; exact r) fun c xs r=>by rw[Gm (ntup c xs r)]; exact r
   rcases hc with rfl | hc
   ·exact hbe
   ·rintro rfl
    rcases he with z | z
    ·exact nown c b hc z
    ·rw[hc] at z; cases z; exact hb rfl
structure Un(fs ex:List BI)(H H':Hp)(h h':Heap):Prop where
 keep:∀ b o,h.get? b=some o->H b=none->b∉fs->b∉ex->h'.get? b=some o
 slot:∀ b o,h.get? b=some o->H b=none->b∈fs->b∉ex->∃ sl,h'.get? b=some { o with slots:=sl }
 free:∀ b o,h.get? b=some o->H b=none->b∉ex->H' b=none
 there:∀ b o,h.get? b=some o->b∉ex->∃ o',h'.get? b=some o'
 tups:∀ b xs,H b=some (.tup xs)->H' b=some (.tup xs)
 frzs:∀ b o u,H b=some (.frz o u)->H' b=some (.frz o u)
 tbls:∀ b ps,H b=some (.tbl ps)->∃ more,H' b=some (.tbl (ps++more))
section
variable{fs fs' ex ex':List BI}{H H1 H2:Hp}{h h1 h2 h':Heap}{a x e:BI}{o:HO}
def Un.any(u:Un fs ex H H1 h h1){b:BI}{ob:Obj}(q:h.get? b=some ob)(n:H b=none)(hx:b∉ex):∃ sl,h1.get? b=some { ob with slots:=sl }:=by
 by_cases hb:b∈fs
 ·exact u.slot b ob q n hb hx
 ·exact⟨ob.slots,u.keep b ob q n hb hx⟩
def Un.kept(k:∀ b u,h.get? b=some u->h'.get? b=some u):Un fs ex H H h h':=
 ⟨fun b ob q _ _ _=>k b ob q,fun b ob q _ _ _=>⟨ob.slots,k b ob q⟩,fun _ _ _ n _=>n,fun b ob q _=>⟨ob,k b ob q⟩,fun _ _ q=>q,fun _ _ _ q=>q,fun _ ps q=>⟨#[],by rw[q]; simp⟩⟩
def Un.refl:Un fs ex H H h h:=Un.kept fun _ _ q=>q
def Un.laid(k:∀ b u,h.get? b=some u->h'.get? b=some u)(hp:h.objs.size<=a)(hn:H a=none):Un fs ex H (upd H a o) h h' where
 keep:=fun b u q _ _ _=>k b u q
 slot:=fun b u q _ _ _=>⟨u.slots,k b u q⟩
 free:=fun b u q n _=>by rw[Gm (Ay (Aj (Ag q) hp))]; exact n
 there:=fun b u q _=>⟨u,k b u q⟩
 tups:=fun b xs q=>by rw[Gm (Ha q hn)]; exact q
 frzs:=fun b u xs q=>by rw[Gm (Ha q hn)]; exact q
 tbls:=fun b ps q=>⟨#[],by rw[Gm (Ha q hn),q]; simp⟩
def Un.write(mu:Mut (H x))(he:e=x\/H e=some (.own x))(k:∀ b u,b≠e->h.get? b=some u->h'.get? b=some u)(heo:∃ u,h'.get? e=some u):Un fs ex H (upd H x o) h h':=by
 have hx:∀ b,H b=none->b≠x:=fun b n z=>by subst z; rw[n] at mu; exact mu
 have hb:∀ b,H b=none->b≠e:=fun b n z=>by
  subst z
  rcases he with r | r
  ·exact hx b n r
  ·rw[n] at r; cases r
 have hm:∀ b u,H b=some u->¬ Mut (some u)->b≠x:=fun b u q nm z=>by subst z; rw[q] at mu; exact nm mu
 refine⟨fun b u q n _ _=>k b u (hb b n) q,fun b u q n _ _=>⟨u.slots,k b u (hb b n) q⟩,fun b u q n _=>by rw[Gm (hx b n)]; exact n,fun b u q _=>?_,
  fun b xs q=>by rw[Gm (hm b _ q fun z=>z)]; exact q,fun b u xs q=>by rw[Gm (hm b _ q fun z=>z)]; exact q,fun b ps q=>⟨#[],by rw[Gm (hm b _ q fun z=>z),q]; simp⟩⟩
 by_cases hbe:b=e
 ·subst hbe; exact heo
 ·exact⟨u,k b u hbe q⟩
end
noncomputable def trk(h:Heap)(H:Hp):List BI:=(List.range h.objs.size).filter fun a=>(H a).isSome
def Gfl(h:Heap)(H:Hp):Heap:=PySem.W.hideAll h (trk h H)
def Glb(h:Heap)(H:Hp):(Gfl h H).objs.size=h.objs.size:=PySem.W.hideAll_size _ _
def Gmc{h:Heap}{H:Hp}{b:BI}{o:Obj}(e:h.get? b=some o)(n:H b=none):(Gfl h H).get? b=some o:=
 PySem.W.hideAll_get _ e fun hm=>by
  have q:(H b).isSome=true:=(Bc.mp hm).2
  rw[n] at q; simp at q
def of_hidT{h:Heap}{H:Hp}{b:BI}{o:Obj}(e:(Gfl h H).get? b=some o):h.get? b=some o/\H b=none:=by
 have e':h.get? b=some o:=PySem.W.of_hideAll (trk h H) e
 refine⟨e',?_⟩
 cases q:H b with
 | none=>rfl
 | some x=>
  have hm:b∈trk h H:=Bc.mpr ⟨Bn.mpr (Ag e'),by simp[q]⟩
  have z:(Gfl h H).get? b=none:=PySem.W.hideAll_none (trk h H) hm
  rw[z] at e; cases e
noncomputable def Gqf(g h:Heap)(L:BI):List (BI×Obj):=(List.range h.objs.size).filterMap fun a=>if a=L\/(g.get? a).isSome=true then none else(h.get? a).map fun o=>(a,o)
def rest(g h:Heap)(L d:BI):List (BI×Obj):=(Gqf g h L).filter fun p=>decide (p.1≠d)
structure Mod(K:BE)(mg:Str->BJ BG)(base:Heap):Prop where
 kin:K.In base
 glob:base.Ns mainGlobals mg
 blt:∃ mb,base.Ns builtinsNs mb/\∀ x:Str,x≠"__name__"->mb x=bootBuiltins x
 nolimit:base.NoLimit
structure Cx where
 prog:BK
 w:World
 K:BE
 mg:Str->BJ BG
 base:Heap
 A:Around
 N:List Str
 s₀:BH
 H₀:Hp
 env:Env
 outer:List Env
 stack:List Env
 ex:List BI
 fn:Str->Bool
 calm:Bool
 pn:List (BI×Obj)
 xe:BG->BH->Prop
noncomputable def frs(l:List Env):List BI:=l.filterMap (·.frame)
abbrev Cx.fs(X:Cx):List BI:=frs X.outer
def Vis(sc:Scope)(x:Str):Prop:=sc.names.lookup x=some .local\/sc.names.lookup x=some .cell\/sc.names.lookup x=some .free
def Loc(sc:Scope)(x:Str):Prop:=sc.names.lookup x=some .local\/sc.names.lookup x=some .cell
def Look(env:Env)(h:Heap)(m:Str->BJ BG)(x:Str)(u:BG):Prop:=
 (env.kindOf x=some .local/\m x=some u)\/((env.kindOf x=some .cell\/env.kindOf x=some .free)/\∃ c,env.cells.lookup x=some c/\h.IsCell c (some u))
structure Cx.Ok(X:Cx):Prop where
 mod:Mod X.K X.mg X.base
 kind:X.env.scope.kind=.function
 glob:X.env.globals=mainGlobals
 blt:X.env.builtins=builtinsNs
 above:X.s₀.heap.objs.size<=X.env.locals
 inj:∀ x y c,X.env.cells.lookup x=some c->X.env.cells.lookup y=some c->x=y
 has:∀ x,(X.env.kindOf x=some .cell\/X.env.kindOf x=some .free)->∃ c,X.env.cells.lookup x=some c
 cab:∀ x c,X.fn x=true->X.env.cells.lookup x=some c->X.s₀.heap.objs.size<=c
 hd:X.calm=true->X.A.handled=none
 frames:X.A.frames=some X.stack
 stk:X.stack=X.outer\/(X.stack=X.env::X.outer/\X.env.frame=some X.env.locals)
 exf:∀ b∈X.ex,b≠X.env.locals/\∀ x c,X.env.cells.lookup x=some c->c≠b
 bs:∀ b o,X.base.get? b=some o->X.s₀.heap.get? b=some o/\X.H₀ b=none
 bsz:X.base.objs.size<=X.s₀.heap.objs.size
 noex:∀ b o,X.base.get? b=some o->b∉X.ex
 exfs:∀ b∈X.ex,b∉X.fs
 funs:X.s₀.heap.FunFrames X.base X.outer
 frf:∀ b∈X.fs,X.H₀ b=none
structure Inv(X:Cx)(pins:List (BI×Obj))(Z:List (BJ V))(H:Hp)(s:BH):Prop where
 ok:X.Ok
 os:s.os=X.s₀.os
 bare:AllBare s.gens
 base:Un X.fs X.ex X.H₀ H X.s₀.heap s.heap
 loc:∃ m,s.heap.Ns X.env.locals m/\∀ (i:Nat) (x:Str) (v:V),X.N[i]?=some x->Z[i]?=some (some v)->Vis X.env.scope x->∃ u,Hc v u/\Look X.env s.heap m x u
 cell:∀ x c,X.env.cells.lookup x=some c->∃ v,s.heap.IsCell c v
 free:H X.env.locals=none
 freeC:∀ x c,X.env.cells.lookup x=some c->H c=none
 pin:∀ p∈X.pn++pins,s.heap.get? p.1=some p.2/\H p.1=none/\p.1≠X.env.locals/\p.1∉X.fs/\∀ v,p.2.data≠.cell v
 hok:HOk X.prog X.w H s.heap
 len:Z.length=X.N.length
section
variable{X:Cx}{pins:List (BI×Obj)}{Z:List (BJ V)}{H H':Hp}{s:BH}{h':Heap}
def Cx.Ok.nofr(ok:X.Ok){b:BI}{o:Obj}(e:X.base.get? b=some o):b∉X.fs:=fun hb=>by
 have:=(ok.funs.mem hb).1
 rw[e] at this; cases this
def Inv.bs(I:Inv X pins Z H s):∀ b o,X.base.get? b=some o->s.heap.get? b=some o/\H b=none:=fun b o e=>
 ⟨I.base.keep b o (I.ok.bs b o e).1 (I.ok.bs b o e).2 (I.ok.nofr e) (I.ok.noex b o e),I.base.free b o (I.ok.bs b o e).1 (I.ok.bs b o e).2 (I.ok.noex b o e)⟩
def Inv.bk(I:Inv X pins Z H s):∀ b o,X.base.get? b=some o->s.heap.get? b=some o:=fun b o e=>(I.bs b o e).1
def Inv.mod(I:Inv X pins Z H s):Mod X.K X.mg X.base:=I.ok.mod
def Inv.kIn(I:Inv X pins Z H s):X.K.In s.heap:=I.ok.mod.kin.keeps I.bk
def Inv.lt(I:Inv X pins Z H s):X.env.locals<s.heap.objs.size:=let ⟨_,hn,_⟩:=I.loc; hn.lt
def Inv.sz(I:Inv X pins Z H s):X.s₀.heap.objs.size<=s.heap.objs.size:=Am I.ok.above (Bd I.lt)
def Inv.nofs(I:Inv X pins Z H s){a:BI}(h:s.heap.objs.size<=a):a∉X.fs:=fun hb=>by
 obtain⟨_,o,ho,_⟩:=I.ok.funs.mem hb
 exact absurd (Aj (Ag ho) (Am I.sz h)) (AD _)
def Inv.cne(I:Inv X pins Z H s):∀ x c,X.env.cells.lookup x=some c->c≠X.env.locals:=fun x c e z=>by
 obtain⟨v,o,ho,hd⟩:=I.cell x c e
 obtain⟨m,⟨o',es,ep,ho',hd',_⟩,_⟩:=I.loc
 rw[z,ho'] at ho; cases ho; rw[hd'] at hd; cases hd
def Inv.funs(I:Inv X pins Z H s):s.heap.FunFrames X.base X.outer:=by
 have all:∀ (l:List Env),(∀ b∈frs l,b∈X.fs)->X.s₀.heap.FunFrames X.base l->s.heap.FunFrames X.base l:=by
  intro l
  induction l with
  | nil=>intro _ _; trivial
  | cons env r ih=>
   intro hs hl
   obtain⟨hk,⟨L,o,hf,hn,ho,hd⟩,hr⟩:=hl
   have hL:L∈X.fs:=hs L (by unfold frs; rw[By,hf]; exact Av)
   obtain⟨sl,e⟩:=I.base.slot L o ho (I.ok.frf L hL) hL fun z=>I.ok.exfs L z hL
   exact⟨hk,⟨L,_,hf,hn,e,hd⟩,ih (fun b hb=>hs b (by unfold frs; rw[By,hf]; exact Au _ hb)) hr⟩
 exact all X.outer (fun _ hb=>hb) I.ok.funs
def Inv.stack(I:Inv X pins Z H s):s.heap.FunFrames X.base X.stack:=by
 rcases I.ok.stk with e | ⟨e,hf⟩
 ·rw[e]; exact I.funs
 ·rw[e]
  obtain⟨m,hn,_⟩:=I.loc
  refine .cons (by rw[I.ok.kind]; decide) hf hn ?_ I.funs
  exact AZ (Am I.ok.bsz I.ok.above)
def Inv.stkSub(I:Inv X pins Z H s):∀ b∈frs X.stack,b∈X.env.locals::X.fs:=fun b hb=>by
 rcases I.ok.stk with e | ⟨e,hf⟩
 ·rw[e] at hb; exact Au _ hb
 ·rw[e] at hb
  unfold frs at hb
  rw[By,hf] at hb
  exact hb
def Inv.stkFree(I:Inv X pins Z H s):∀ b∈frs X.stack,H b=none:=fun b hb=>by
 rcases Af.mp (I.stkSub b hb) with e | hb
 ·rw[e]; exact I.free
 ·obtain⟨_,o,ho,_⟩:=I.ok.funs.mem hb
  exact I.base.free b o ho (I.ok.frf b hb) fun z=>I.ok.exfs b z hb
def Inv.step{g':Array GenState}{t':Nat}{d':Drawn}{ch:List BI}(I:Inv X pins Z H s)
  (hch:∀ b∈ch,(b∈X.ex\/X.s₀.heap.objs.size<=b)/\b≠X.env.locals/\(∀ x c,X.env.cells.lookup x=some c->c≠b)/\∀ p∈X.pn++pins,p.1≠b)
  (keep:∀ b o,b≠X.env.locals->b∉X.fs->b∉ch->s.heap.get? b=some o->H b=none->h'.get? b=some o)
  (slot:∀ b o,b≠X.env.locals->b∈X.fs->b∉ch->s.heap.get? b=some o->H b=none->∃ sl,h'.get? b=some { o with slots:=sl }) (free:∀ b o,b∉ch->s.heap.get? b=some o->H b=none->H' b=none)
  (there:∀ b o,b∉ch->s.heap.get? b=some o->∃ o',h'.get? b=some o')
  (tups:∀ b xs,H b=some (.tup xs)->H' b=some (.tup xs)) (frzs:∀ b o u,H b=some (.frz o u)->H' b=some (.frz o u)) (tbls:∀ b ps,H b=some (.tbl ps)->∃ more,H' b=some (.tbl (ps++more)))
  (ns:∀ m,s.heap.Ns X.env.locals m->h'.Ns X.env.locals m) (hok:HOk X.prog X.w H' h') (hg:AllBare g'):
  Inv X pins Z H' { s with heap:=h',gens:=g',drawn:=d',toks:=t' }:=by
 have neL:∀ b o,X.s₀.heap.get? b=some o->b≠X.env.locals:=fun b o e=>Ay (Aj (Ag e) I.ok.above)
 have neC:∀ b o,X.s₀.heap.get? b=some o->b∉X.ex->b∉ch:=fun b o e hx hb=>by
  rcases(hch b hb).1 with z | z
  ·exact hx z
  ·exact absurd (Aj (Ag e) z) (AD _)
 have cellK:∀ x c,X.env.cells.lookup x=some c->∀ v,s.heap.IsCell c v->h'.IsCell c v:=fun x c e v ⟨o,ho,hd⟩=>by
  have nch:c∉ch:=fun z=>(hch c z).2.2.1 x c e rfl
  by_cases hc:c∈X.fs
  ·obtain⟨sl,q⟩:=slot c o (I.cne x c e) hc nch ho (I.freeC x c e)
   exact⟨_,q,hd⟩
  ·exact⟨o,keep c o (I.cne x c e) hc nch ho (I.freeC x c e),hd⟩
 refine⟨I.ok,I.os,hg,⟨fun b o e n hb hx=>?_,fun b o e n hb hx=>?_,fun b o e n hx=>?_,fun b o e hx=>?_,fun b xs e=>tups b xs (I.base.tups b xs e),fun b o xs e=>frzs b o xs (I.base.frzs b o xs e),fun b ps e=>?_⟩,?_,fun x c e=>?_,?_,fun x c e=>?_,fun p hp=>?_,hok,I.len⟩
 ·exact keep b o (neL b o e) hb (neC b o e hx) (I.base.keep b o e n hb hx) (I.base.free b o e n hx)
 ·obtain⟨sl,e1⟩:=I.base.slot b o e n hb hx
  obtain⟨sl',e2⟩:=slot b _ (neL b o e) hb (neC b o e hx) e1 (I.base.free b o e n hx)
  exact⟨sl',e2⟩
 ·obtain⟨o',e1⟩:=I.base.there b o e hx
  exact free b o' (neC b o e hx) e1 (I.base.free b o e n hx)
 ·obtain⟨o',e1⟩:=I.base.there b o e hx
  exact there b o' (neC b o e hx) e1
 ·obtain⟨m1,e1⟩:=I.base.tbls b ps e
  obtain⟨m2,e2⟩:=tbls b _ e1
  exact⟨m1++m2,by rw[e2,Array.append_assoc]⟩
 ·obtain⟨m,hn,hl⟩:=I.loc
  refine⟨m,ns m hn,fun i x v e1 e2 e3=>?_⟩
  obtain⟨u,r,l⟩:=hl i x v e1 e2 e3
  refine⟨u,r,?_⟩
  rcases l with l | ⟨k,c,e,z⟩
  ·exact .inl l
  ·exact .inr ⟨k,c,e,cellK x c e _ z⟩
 ·obtain⟨v,z⟩:=I.cell x c e
  exact⟨v,cellK x c e v z⟩
 ·obtain⟨m,⟨o,_,_,ho,_⟩,_⟩:=I.loc
  exact free _ o (fun z=>(hch _ z).2.1 rfl) ho I.free
 ·obtain⟨v,o,ho,hd⟩:=I.cell x c e
  exact free c o (fun z=>(hch c z).2.2.1 x c e rfl) ho (I.freeC x c e)
 ·obtain⟨e,n,ne,nf,d⟩:=I.pin p hp
  have nch:p.1∉ch:=fun z=>(hch p.1 z).2.2.2 p hp rfl
  exact⟨keep p.1 p.2 ne nf nch e n,free p.1 p.2 nch e n,ne,nf,d⟩
def Inv.un{t':Nat}(I:Inv X pins Z H s)(u:Un X.fs [] H H' s.heap h')(hok:HOk X.prog X.w H' h'):Inv X pins Z H' { s with heap:=h',toks:=t' }:=by
 obtain⟨m,⟨o,es,ep,ho,r⟩,_⟩:=id I.loc
 obtain⟨sl,hL⟩:=u.any ho I.free (by simp)
 exact I.step (g':=s.gens) (d':=s.drawn) (ch:=[]) (fun _ z=>nomatch z) (fun b o _ hb _ e n=>u.keep b o e n hb (by simp)) (fun b o _ hb _ e n=>u.slot b o e n hb (by simp)) (fun b o _ e n=>u.free b o e n (by simp)) (fun b o _ e=>u.there b o e (by simp)) u.tups u.frzs u.tbls (fun m' hm=>by
  obtain⟨o',es',ep',ho',r'⟩:=hm
  rw[ho] at ho'; cases ho'
  exact⟨_,es',ep',hL,r'⟩) hok I.bare
def Inv.call{g':Array GenState}{t':Nat}{d':Drawn}{ch:List BI}(I:Inv X pins Z H s)(u:Un (frs X.stack) ch H H' s.heap h')(hok:HOk X.prog X.w H' h')(hg:AllBare g')
  (hch:∀ b∈ch,(b∈X.ex\/X.s₀.heap.objs.size<=b)/\b≠X.env.locals/\(∀ x c,X.env.cells.lookup x=some c->c≠b)/\∀ p∈X.pn++pins,p.1≠b):
  Inv X pins Z H' { s with heap:=h',gens:=g',drawn:=d',toks:=t' }:=by
 obtain⟨m,⟨o,es,ep,ho,r⟩,_⟩:=id I.loc
 obtain⟨sl,hL⟩:=u.any ho I.free fun z=>(hch _ z).2.1 rfl
 exact I.step (ch:=ch) hch (fun b o hL hb hc e n=>u.keep b o e n (fun z=>(Af.mp (I.stkSub b z)).elim hL hb) hc) (fun b o _ _ hc e n=>u.any e n hc) (fun b o hc e n=>u.free b o e n hc) (fun b o hc e=>u.there b o e hc) u.tups u.frzs u.tbls (fun m' hm=>by
  obtain⟨o',es',ep',ho',r'⟩:=hm
  rw[ho] at ho'; cases ho'
  exact⟨_,es',ep',hL,r'⟩) hok hg
def Inv.turned{t':Nat}{it:BI}(I:Inv X pins Z H s)(k:∀ b o,b≠it->s.heap.get? b=some o->h'.get? b=some o)(hn:H it=none)(hL:it≠X.env.locals)
  (h1:it∈X.ex\/X.s₀.heap.objs.size<=it) (h2:∀ x c,X.env.cells.lookup x=some c->c≠it) (h3:∀ p∈X.pn++pins,p.1≠it):Inv X pins Z H { s with heap:=h',toks:=t' }:=by
 have nit:∀ b u,H b=some u->b≠it:=fun b u e z=>by rw[z,hn] at e; cases e
 refine I.step (g':=s.gens) (d':=s.drawn) (ch:=[it]) (fun b hb=>?_) (fun b o _ _ hc e _=>k b o (fun z=>hc (by simp[z])) e) (fun b o _ _ hc e _=>⟨o.slots,k b o (fun z=>hc (by simp[z])) e⟩) (fun _ _ _ _ n=>n)
  (fun b o hc e=>⟨o,k b o (fun z=>hc (by simp[z])) e⟩) (fun _ _ e=>e) (fun _ _ _ e=>e) (fun b ps e=>⟨#[],by rw[e]; simp⟩) (fun m hm=>?_) (fun b u e=>?_) I.bare
 ·have e:b=it:=by simpa using hb
  subst e
  exact⟨h1,hL,h2,h3⟩
 ·obtain⟨o,es,ep,ho,r⟩:=hm
  exact⟨o,es,ep,k _ o (Ne.symm hL) ho,r⟩
 ·refine(I.hok b u e).stay (fun c v hc q=>k c v ?_ q) (fun _ q=>q) fun _ _ q=>q
  rcases hc with z | z
  ·rw[z]; exact nit b u e
  ·exact nit c _ z
def Inv.tok(I:Inv X pins Z H s)(t:Nat):Inv X pins Z H { s with toks:=t }:=I.un (h':=s.heap) (t':=t) Un.refl I.hok
def Inv.kept{t':Nat}(I:Inv X pins Z H s)(k:∀ b u,s.heap.get? b=some u->h'.get? b=some u):Inv X pins Z H { s with heap:=h',toks:=t' }:=I.un (Un.kept k) (I.hok.kept k)
def Inv.laid{a:BI}{o:HO}{t':Nat}(I:Inv X pins Z H s)(k:∀ b u,s.heap.get? b=some u->h'.get? b=some u)(hp:s.heap.objs.size<=a)(new:Kh X.prog X.w (upd H a o) h' a o):
  Inv X pins Z (upd H a o) { s with heap:=h',toks:=t' }:=I.un (Un.laid k hp (I.hok.fresh hp)) (I.hok.laid k hp new)
def Inv.write{x e:BI}{o:HO}{t':Nat}(I:Inv X pins Z H s)(mu:Mut (H x))(he:e=x\/H e=some (.own x))(k:∀ b u,b≠e->s.heap.get? b=some u->h'.get? b=some u)(heo:∃ u,h'.get? e=some u)
  (new:Kh X.prog X.w (upd H x o) h' x o):Inv X pins Z (upd H x o) { s with heap:=h',toks:=t' }:=I.un (Un.write mu he k heo) (I.hok.write mu he k heo new)
def Inv.pins_of{pins':List (BI×Obj)}(I:Inv X pins Z H s)(h:∀ p∈pins',s.heap.get? p.1=some p.2/\H p.1=none/\p.1≠X.env.locals/\p.1∉X.fs/\∀ v,p.2.data≠.cell v):Inv X pins' Z H s:=
 ⟨I.ok,I.os,I.bare,I.base,I.loc,I.cell,I.free,I.freeC,fun p hp=>(Az.mp hp).elim (fun z=>I.pin p (Bo _ z)) (h p),I.hok,I.len⟩
def Gc9{N:List Str}(hN:N.Nodup){i j:Nat}{x:Str}(a:N[i]?=some x)(b:N[j]?=some x):i=j:=by
 obtain⟨h1,e1⟩:=Aa.mp a
 obtain⟨h2,e2⟩:=Aa.mp b
 exact(List.getElem_inj hN).mp (e1.trans e2.symm)
noncomputable def Ge1{M:Model}{A:Around}{E:BG->BH->Prop}{i:Nat}{x:Str}{v:V}{u:BG}{Q:Unit->BH->Prop}(I:Inv X pins Z H s)(hN:X.N.Nodup)(hi:X.N[i]?=some x)(hx:Loc X.env.scope x)(r:Hc v u)
  (h:∀ s',Inv X pins (Z.set i (some v)) H s'->(∃ a,Heap.SameBut a s.heap s'.heap/\(a=X.env.locals\/X.env.cells.lookup x=some a))->Q () s') (hf:X.fn x=true\/X.env.scope.names.lookup x=some .local:=by first | exact .inl rfl | exact .inr rfl | assumption):wpAny M A (storeName X.env x u) Q E s:=by
 obtain⟨m,hn,hl⟩:=id I.loc
 have hcls:(X.env.scope.kind==.class||(X.env.scope.kind==.module&&X.env.locals != X.env.globals))=false:=by rw[I.ok.kind]; rfl
 have hiZ:i<Z.length:=by rw[I.len]; exact(Aa.mp hi).1
 have cne:=I.cne
 have tracked:∀ {a:BI} {h':Heap},(∃ o,s.heap.get? a=some o/\H a=none)->Heap.SameBut a s.heap h'->HOk X.prog X.w H h':=fun{a h'} ha hs b ob e=>by
  obtain⟨_,_,hfree⟩:=ha
  refine(I.hok b ob e).stay (fun c w' hc q=>(hs.2 c ?_).trans q) (fun _ q=>q) fun _ _ q=>q
  rintro rfl
  rcases hc with rfl | hc
  ·rw[hfree] at e; cases e
  ·rw[hfree] at hc; cases hc
 rcases hx with hk | hk
 ·refine wpAny_storeName_local hk hn (fun h' hn' hs=>?_) hcls
  obtain⟨oL,_,_,hoL,_⟩:=id hn
  refine h _ ⟨I.ok,I.os,I.bare,⟨fun b o e n hb hx=>?_,fun b o e n hb hx=>?_,I.base.free,fun b o e hx=>?_,I.base.tups,I.base.frzs,I.base.tbls⟩,⟨_,hn',fun j y v' e1 e2 e3=>?_⟩,fun y c e=>?_,I.free,I.freeC,fun p hp=>?_,tracked ⟨oL,hoL,I.free⟩ hs,by simpa using I.len⟩ ⟨_,hs,.inl rfl⟩
  ·exact(hs.2 b (Ay (Aj (Ag e) I.ok.above))).trans (I.base.keep b o e n hb hx)
  ·obtain⟨sl,e1⟩:=I.base.slot b o e n hb hx
   exact⟨sl,(hs.2 b (Ay (Aj (Ag e) I.ok.above))).trans e1⟩
  ·obtain⟨o',e1⟩:=I.base.there b o e hx
   exact⟨o',(hs.2 b (Ay (Aj (Ag e) I.ok.above))).trans e1⟩
  ·by_cases hj:j=i
   ·subst hj
    rw[hi] at e1; cases e1
    rw[Ai hiZ] at e2
    cases e2
    exact⟨u,r,.inl ⟨hk,by simp⟩⟩
   ·rw[Ae (Ne.symm hj)] at e2
    obtain⟨u',r',q⟩:=hl j y v' e1 e2 e3
    refine⟨u',r',?_⟩
    rcases q with⟨k,e⟩ | ⟨k,c,e,z⟩
    ·refine .inl ⟨k,?_⟩
     have:y≠x:=fun e=>hj (Gc9 hN e1 (e▸hi))
     simp[this,e]
    ·exact .inr ⟨k,c,e,z.sameBut hs (cne y c e)⟩
  ·obtain⟨w',z⟩:=I.cell y c e
   exact⟨w',z.sameBut hs (cne y c e)⟩
  ·obtain⟨e,n,ne,nf,d⟩:=I.pin p hp
   exact⟨(hs.2 p.1 ne).trans e,n,ne,nf,d⟩
 ·have hfn:X.fn x=true:=by
   rcases hf with z | z
   ·exact z
   ·rw[z] at hk; cases hk
  obtain⟨c,hc⟩:=I.ok.has x (.inl hk)
  obtain⟨w',z⟩:=I.cell x c hc
  refine wpAny_storeName_cell I.ok.kind hk hc z (fun h' hc' hs=>?_)
  obtain⟨oc,hoc,hocd⟩:=id z
  refine h { s with heap:=h' } ⟨I.ok,I.os,I.bare,⟨fun b o e n hb hx=>?_,fun b o e n hb hx=>?_,I.base.free,fun b o e hx=>?_,I.base.tups,I.base.frzs,I.base.tbls⟩,⟨m,hn.sameBut hs (Ne.symm (cne x c hc)),fun j y v' e1 e2 e3=>?_⟩,fun y c' e=>?_,I.free,I.freeC,fun p hp=>?_,tracked ⟨oc,hoc,I.freeC x c hc⟩ hs,by simpa using I.len⟩ ⟨c,hs,.inr hc⟩
  ·exact(hs.2 b (Ay (Aj (Ag e) (I.ok.cab x c hfn hc)))).trans (I.base.keep b o e n hb hx)
  ·obtain⟨sl,e1⟩:=I.base.slot b o e n hb hx
   exact⟨sl,(hs.2 b (Ay (Aj (Ag e) (I.ok.cab x c hfn hc)))).trans e1⟩
  ·obtain⟨o',e1⟩:=I.base.there b o e hx
   exact⟨o',(hs.2 b (Ay (Aj (Ag e) (I.ok.cab x c hfn hc)))).trans e1⟩
  ·by_cases hj:j=i
   ·subst hj
    rw[hi] at e1; cases e1
    rw[Ai hiZ] at e2
    cases e2
    exact⟨u,r,.inr ⟨.inl hk,c,hc,hc'⟩⟩
   ·rw[Ae (Ne.symm hj)] at e2
    obtain⟨u',r',q⟩:=hl j y v' e1 e2 e3
    refine⟨u',r',?_⟩
    rcases q with q | ⟨k,c',e,z'⟩
    ·exact .inl q
    ·refine .inr ⟨k,c',e,z'.sameBut hs ?_⟩
     rintro rfl
     exact hj (Gc9 hN e1 (I.ok.inj _ _ _ e hc▸hi))
  ·by_cases hcc:c'=c
   ·subst hcc; exact⟨_,hc'⟩
   ·obtain⟨w2,z2⟩:=I.cell y c' e
    exact⟨w2,z2.sameBut hs hcc⟩
  ·obtain⟨e,n,ne,nf,d⟩:=I.pin p hp
   refine⟨(hs.2 p.1 ?_).trans e,n,ne,nf,d⟩
   intro q
   rw[q,hoc] at e
   have q':oc=p.2:=Ab e
   exact d w' (by rw[<- q']; exact hocd)
def Wy{M:Model}{A:Around}{E:BG->BH->Prop}{i:Nat}{x:Str}{v:V}{u:BG}{Q:Unit->BH->Prop}(I:Inv X pins Z H s)(hN:X.N.Nodup)(hi:X.N[i]?=some x)(hx:Loc X.env.scope x)(r:Hc v u)
  (h:∀ s',Inv X pins (Z.set i (some v)) H s'->Q () s') (hf:X.fn x=true\/X.env.scope.names.lookup x=some .local:=by first | exact .inl rfl | exact .inr rfl | assumption):wpAny M A (storeName X.env x u) Q E s:=
 Ge1 I hN hi hx r (fun s' I' _=>h s' I') hf
def Inv.call'{s':BH}{ch:List BI}(I:Inv X pins Z H s)(ho:s'.os=s.os)(u:Un (frs X.stack) ch H H' s.heap s'.heap)(hok:HOk X.prog X.w H' s'.heap)(hg:AllBare s'.gens)
  (hch:∀ b∈ch,(b∈X.ex\/X.s₀.heap.objs.size<=b)/\b≠X.env.locals/\(∀ x c,X.env.cells.lookup x=some c->c≠b)/\∀ p∈X.pn++pins,p.1≠b):Inv X pins Z H' s':=by
 obtain⟨h',g',d',t',o'⟩:=s'
 have e:o'=s.os:=ho
 subst e
 exact I.call (g':=g') (t':=t') (d':=d') u hok hg hch
end
abbrev XK:=BG->BJ BI->Hp->Prop
abbrev St:=List (BJ V)
abbrev VK:=V->Hp->Prop
abbrev TE:=St->Hp->VK->Prop
abbrev TT:=St->Hp->(Bool->Hp->Prop)->Prop
abbrev TA:=St->Hp->(List V->Hp->Prop)->Prop
structure Ends where
 nx:St->Hp->Prop
 rt:VK
 bk:St->Hp->Prop:=fun _ _=>False
 ct:St->Hp->Prop:=fun _ _=>False
abbrev TS:=Ends->St->Hp->Prop
def EP(X:Cx)(pins:List (BI×Obj))(Z:St)(Q:VK)(u:BG)(s':BH):Prop:=∃ v H',Inv X pins Z H' s'/\Hc v u/\Q v H'
def TP(X:Cx)(pins:List (BI×Obj))(Z:St)(Q:Bool->Hp->Prop)(b:Bool)(s':BH):Prop:=∃ H',Inv X pins Z H' s'/\Q b H'
def AP(X:Cx)(pins:List (BI×Obj))(Z:St)(Q:List V->Hp->Prop)(us:List BG)(s':BH):Prop:=∃ vs H',Inv X pins Z H' s'/\Vals vs us/\Q vs H'
def SP(X:Cx)(pins:List (BI×Obj))(D:Ends)(f:Flow)(s':BH):Prop:=
 match f with
 | .next=>∃ Z' H',Inv X pins Z' H' s'/\D.nx Z' H'
 | .brk=>∃ Z' H',Inv X pins Z' H' s'/\D.bk Z' H'
 | .cont=>∃ Z' H',Inv X pins Z' H' s'/\D.ct Z' H'
 | .ret u=>∃ v Z' H',Inv X pins Z' H' s'/\Hc v u/\D.rt v H'
def PE(X:Cx)(e:Expr)(t:TE):Prop:=
 ∀ (pins:List (BI×Obj)) (s:BH) (Z:St) (H:Hp) (Q:VK),Inv X pins Z H s->t Z H Q->wpAny (model X.prog X.w) X.A (eval e X.env) (EP X pins Z Q) X.xe s
def PT(X:Cx)(e:Expr)(t:TT):Prop:=
 ∀ (pins:List (BI×Obj)) (s:BH) (Z:St) (H:Hp) (Q:Bool->Hp->Prop),Inv X pins Z H s->t Z H Q->wpAny (model X.prog X.w) X.A (isTrue e X.env (eval e X.env)) (TP X pins Z Q) X.xe s
def PW(X:Cx)(e:Expr)(t:TT):Prop:=
 ∀ (whole:Sem BG) (pins:List (BI×Obj)) (s:BH) (Z:St) (H:Hp) (Q:Bool->Hp->Prop),Inv X pins Z H s->t Z H Q->wpAny (model X.prog X.w) X.A (isTrue e X.env whole) (TP X pins Z Q) X.xe s
def PW.pt{X:Cx}{e:Expr}{t:TT}(h:PW X e t):PT X e t:=h _
def PA(X:Cx)(es:List Expr)(t:TA):Prop:=
 ∀ (pos:Pos) (pins:List (BI×Obj)) (s:BH) (Z:St) (H:Hp) (Q:List V->Hp->Prop),Inv X pins Z H s->t Z H Q->wpAny (model X.prog X.w) X.A (spliced (backTo pos (starEach es X.env))) (AP X pins Z Q) X.xe s
def PS(X:Cx)(st:Stmt)(t:TS):Prop:=
 ∀ (pins:List (BI×Obj)) (s:BH) (Z:St) (H:Hp) (D:Ends),Inv X pins Z H s->t D Z H->wpAny (model X.prog X.w) X.A (exec st X.env) (SP X pins D) X.xe s
def PSs(X:Cx)(st:List Stmt)(t:TS):Prop:=
 ∀ (pins:List (BI×Obj)) (s:BH) (Z:St) (H:Hp) (D:Ends),Inv X pins Z H s->t D Z H->wpAny (model X.prog X.w) X.A (execs st X.env) (SP X pins D) X.xe s
def thn{O:Type}{t:Sem O}{Q Q':O->BH->Prop}{M:Model}{A:Around}{E:BG->BH->Prop}{s:BH}(h:wpAny M A t Q E s)(hQ:∀ a s,Q a s->Q' a s):wpAny M A t Q' E s:=wpAny_mono h hQ fun _ _ x=>x
section
variable{X:Cx}
def Gvb(i:Nat):TE:=fun Z H Q=>∃ v,Z[i]?=some (some v)/\Q v H
def tC(v:V):TE:=fun _ H Q=>Q v H
noncomputable def Gfm{i:Nat}{x:Str}{pos:Pos}(hN:X.N[i]?=some x)(hv:Vis X.env.scope x)(hd:(x==("__debug__":Str))=false:=by decide)(hcd:(x==("__classdict__":Str))=false:=by decide):PE X (.Name x pos) (Gvb i):=by
 intro pins s Z H Q I h
 obtain⟨v,e,h⟩:=h
 obtain⟨m,hn,hl⟩:=I.loc
 obtain⟨u,r,l⟩:=hl i x v hN e hv
 have fin:EP X pins Z Q u s:=⟨v,H,I,r,h⟩
 rcases l with⟨hk,hm⟩ | ⟨hk,c,hc,hcell⟩
 ·exact wpAny_Name (wpAny_loadName_local I.ok.kind hk hn hm fin) hd
 ·rcases hk with hk | hk
  ·exact wpAny_Name (wpAny_loadName_cell I.ok.kind hk hc hcell fin) hd
  ·exact wpAny_Name (wpAny_loadName_free I.ok.kind hk hc hcell fin hcd) hd
def Gvc{i j pos}:PE X (.Constant (.int i) j pos) (tC (.int i)):=fun _ _ _ H _ I h=>wpAny_Constant_int ⟨.int i,H,I.tok _,⟨_,rfl⟩,h⟩
def Gz7{b j pos}:PE X (.Constant (.bool b) j pos) (tC (.bl b)):=fun _ _ _ H _ I h=>Constant_bool ⟨.bl b,H,I,rfl,h⟩
def Gvd{j pos}:PE X (.Constant .none j pos) (tC .non):=fun _ _ _ H _ I h=>Constant_none ⟨.non,H,I,rfl,h⟩
def Gve{x j pos}:PE X (.Constant (.str x) j pos) (tC (.str x)):=fun _ _ _ H _ I h=>Calls.Constant_str ⟨.str x,H,I.tok _,⟨_,rfl⟩,h⟩
def Gl(X:Cx)(x:Str):Prop:=X.env.kindOf x=some .globalImplicit
noncomputable def Zm{E:BG->BH->Prop}{pins:List (BI×Obj)}{s:BH}{Z:St}{H:Hp}{x:Str}{u:BG}{pos:Pos}{Q:BG->BH->Prop}(I:Inv X pins Z H s)(hg:Gl X x)(hm:X.mg x=some u)(h:Q u s)
  (hd:(x==("__debug__":Str))=false:=by decide):wpAny (model X.prog X.w) X.A (eval (.Name x pos) X.env) Q E s:=
 Calls.Name_function_global I.ok.kind hg (Calls.loadGlobal_global (by rw[I.ok.glob]; exact I.mod.glob.keeps I.bk) hm h) hd
noncomputable def Yj{E:BG->BH->Prop}{pins:List (BI×Obj)}{s:BH}{Z:St}{H:Hp}{x:Str}{u:BG}{pos:Pos}{Q:BG->BH->Prop}(I:Inv X pins Z H s)(hg:Gl X x)(hm:X.mg x=none)(hv:bootBuiltins x=some u)(h:Q u s)
  (hn:x≠"__name__":=by decide) (hd:(x==("__debug__":Str))=false:=by decide):wpAny (model X.prog X.w) X.A (eval (.Name x pos) X.env) Q E s:=by
 obtain⟨mb,h1,h2⟩:=I.mod.blt
 exact Calls.Name_function_global I.ok.kind hg (Calls.loadGlobal_builtin (by rw[I.ok.glob]; exact I.mod.glob.keeps I.bk) hm (by rw[I.ok.blt]; exact h1.keeps I.bk) ((h2 x hn).trans hv) h) hd
def Gfn{x:Str}{v:V}{u:BG}{pos:Pos}(hg:Gl X x)(hm:X.mg x=some u)(r:Hc v u)(hd:(x==("__debug__":Str))=false:=by decide):PE X (.Name x pos) (tC v):=
 fun _ _ _ H _ I h=>Zm I hg hm ⟨v,H,I,r,h⟩ hd
def Gjf{x:Str}{v:V}{u:BG}{pos:Pos}(hg:Gl X x)(hm:X.mg x=none)(hv:bootBuiltins x=some u)(r:Hc v u)(hn:x≠"__name__":=by decide)(hd:(x==("__debug__":Str))=false:=by decide):PE X (.Name x pos) (tC v):=
 fun _ _ _ H _ I h=>Yj I hg hm hv ⟨v,H,I,r,h⟩ hn hd
variable{a b:Expr}{ta tb:TE}{pos:Pos}
variable{tA tB':TT}{rest:List Expr}
def Hdf(t u:TT):TT:=fun Z H Q=>t Z H fun c H1=>if c=true then u Z H1 Q else Q false H1
def tOr(t u:TT):TT:=fun Z H Q=>t Z H fun c H1=>if c=true then Q true H1 else u Z H1 Q
def Hdg(t:TT):TT:=fun Z H Q=>t Z H fun c H1=>Q (!c) H1
def Gqg(ha:PT X a tA):PW X (.BoolOp .And [a] pos) tA:=by
 intro wh pins s Z H Q I h
 refine isTrue_and (thn (ha pins s Z H Q I h) fun c s1 e=>?_)
 cases c with
 | true=>exact isTrue_and_nil e
 | false=>exact e
def Gvf(ha:PT X a tA):PW X (.BoolOp .Or [a] pos) tA:=by
 intro wh pins s Z H Q I h
 refine isTrue_or (thn (ha pins s Z H Q I h) fun c s1 e=>?_)
 cases c with
 | false=>exact isTrue_or_nil e
 | true=>exact e
def Gvg(ha:PT X a tA)(hb:PW X (.BoolOp .And (b::rest) pos) tB'):PW X (.BoolOp .And (a::b::rest) pos) (Hdf tA tB'):=by
 intro wh pins s Z H Q I h
 refine isTrue_and (thn (ha pins s Z H _ I h) fun c s1 ⟨H1,I1,q1⟩=>?_)
 cases c with
 | true=>exact hb wh pins s1 Z H1 Q I1 q1
 | false=>exact⟨H1,I1,q1⟩
def Gz8(ha:PT X a tA)(hb:PW X (.BoolOp .Or (b::rest) pos) tB'):PW X (.BoolOp .Or (a::b::rest) pos) (tOr tA tB'):=by
 intro wh pins s Z H Q I h
 refine isTrue_or (thn (ha pins s Z H _ I h) fun c s1 ⟨H1,I1,q1⟩=>?_)
 cases c with
 | true=>exact⟨H1,I1,q1⟩
 | false=>exact hb wh pins s1 Z H1 Q I1 q1
def Gvh(ha:PT X a tA):PT X (.UnaryOp .Not a pos) (Hdg tA):=by
 intro pins s Z H Q I h
 exact isTrue_not (ha pins s Z H (fun c H1=>Q (!c) H1) I h)
def Gz9(ta tb:TE):TE:=fun Z H Q=>ta Z H fun x H1=>∃ c,x=.bl c/\if c=true then tb Z H1 Q else Q (.bl false) H1
def Haa(ta:TE):TE:=fun Z H Q=>ta Z H fun x H1=>∃ c,x=.bl c/\Q (.bl (!c)) H1
def Gvi{op}{t:TE}(h:PE X a t):PE X (.BoolOp op [a] pos) t:=fun pins s Z H Q I hw=>BoolOp_one (h pins s Z H Q I hw)
def Gvj(ha:PE X a ta)(hb:PE X (.BoolOp .And (b::rest) pos) tb):PE X (.BoolOp .And (a::b::rest) pos) (Gz9 ta tb):=by
 intro pins s Z H Q I h
 refine BoolOp_and (thn (ha pins s Z H _ I h) fun v s1 ⟨x,H1,I1,r1,q1⟩=>?_)
 obtain⟨c,rfl,q1⟩:=q1
 cases r1
 refine wpAny_truthy_bool ?_
 cases c with
 | true=>exact hb pins s1 Z H1 Q I1 q1
 | false=>exact⟨.bl false,H1,I1,rfl,q1⟩
def Gvk(ha:PE X a ta):PE X (.UnaryOp .Not a pos) (Haa ta):=by
 intro pins s Z H Q I h
 refine UnaryOp_ (thn (ha pins s Z H _ I h) fun v s1 ⟨x,H1,I1,r1,q1⟩=>?_)
 obtain⟨c,rfl,q1⟩:=q1
 cases r1
 exact not_of (wpAny_truthy_bool ⟨.bl (!c),H1,I1,rfl,q1⟩)
def tIf(t:TT)(ta tb:TE):TE:=fun Z H Q=>t Z H fun c H1=>if c=true then ta Z H1 Q else tb Z H1 Q
def Gmd{c:Expr}(hc:PT X c tA)(ha:PE X a ta)(hb:PE X b tb):PE X (.IfExp c a b pos) (tIf tA ta tb):=by
 intro pins s Z H Q I h
 refine wpAny_IfExp (thn (hc pins s Z H _ I h) fun d s1 ⟨H1,I1,q1⟩=>?_)
 cases d with
 | true=>exact ha pins s1 Z H1 Q I1 q1
 | false=>exact hb pins s1 Z H1 Q I1 q1
end
def SqL(K:BE)(H:Hp)(a:BI)(xs:List V):Prop:=
 Rd H a (.lst xs)∨
  ∃ (o:Obj) (its:Array BG) (n:Nat),K.lookup a=some o/\o.cls=.type "list"/\o.dict=none/\o.data=.seq its n/\its.size<=sizeLine/\Vals xs its.toList
def SqT(K:BE)(H:Hp)(a:BI)(xs:List V):Prop:=
 Rd H a (.tup xs)∨
  ∃ (o:Obj) (its:Array BG) (n:Nat),K.lookup a=some o/\o.cls=.type "tuple"/\o.data=.seq its n/\its.size<=sizeLine/\Vals xs its.toList
noncomputable def Hdh:BG->BJ V
 | .none=>some .non
 | .bool b=>some (.bl b)
 | .int i _=>some (.int i)
 | .str x _=>some (.str x)
 | .bytes b _=>some (.byt b)
 | .float b _=>some (.flt b)
 | .ref a=>some (.ref a)
 | .type n=>some (.ty n)
 | _=>none
def Hc.abs{x:V}{u:BG}(r:Hc x u):Hdh u=some x:=by
 cases x with
 | non=>cases r; rfl
 | bl _=>cases r; rfl
 | int _=>obtain⟨t,rfl⟩:=r; rfl
 | str _=>obtain⟨t,rfl⟩:=r; rfl
 | byt _=>obtain⟨t,rfl⟩:=r; rfl
 | flt _=>obtain⟨t,rfl⟩:=r; rfl
 | ref _=>cases r; rfl
 | ty _=>cases r; rfl
def Hc.inj{x y:V}{u:BG}(r:Hc x u)(q:Hc y u):x=y:=Ab (r.abs.symm.trans q.abs)
def Vals.inj:∀ {xs ys:List V} {us:List BG},Vals xs us->Vals ys us->xs=ys
 | _,_,_,.nil,.nil=>rfl
 | _,_,_,.cons r t,.cons r' t'=>by rw[r.inj r',Vals.inj t t']
section
variable{X:Cx}{pins:List (BI×Obj)}{Z:St}{H:Hp}{s:BH}{a:BI}{xs ys:List V}
def SqL.of{K:BE}(h:H a=some (.lst xs)):SqL K H a xs:=.inl (.inl h)
def SqT.of{K:BE}(h:H a=some (.tup xs)):SqT K H a xs:=.inl (.inl h)
def Inv.list(I:Inv X pins Z H s)(h:SqL X.K H a xs):∃ its:List BG,Vals xs its/\PlainL s.heap a its.toArray/\xs.length<=sizeLine:=by
 rcases h with h | ⟨o,its,n,hk,hc,hd,hs,hz,r⟩
 ·obtain⟨z,its,n,r,e⟩:=h.ok I.hok
  exact⟨its,r,⟨_,n,e,rfl,rfl,rfl⟩,z⟩
 ·refine⟨its.toList,r,⟨o,n,I.kIn a o hk,hc,hd,by simpa using hs⟩,?_⟩
  have e:=r.length
  simp only[Array.length_toList] at e
  omega
def Inv.tuple(I:Inv X pins Z H s)(h:SqT X.K H a xs):∃ its:List BG,Vals xs its/\IsTup s.heap a its.toArray/\xs.length<=sizeLine:=by
 rcases h with h | ⟨o,its,n,hk,hc,hs,hz,r⟩
 ·obtain⟨z,its,r,p⟩:=h.ok I.hok
  exact⟨its,r,p,z⟩
 ·refine⟨its.toList,r,⟨o,I.kIn a o hk,hc,n,by simpa using hs⟩,?_⟩
  have e:=r.length
  simp only[Array.length_toList] at e
  omega
def Inv.list_inj(I:Inv X pins Z H s)(h:SqL X.K H a xs)(h':SqL X.K H a ys):xs=ys:=by
 obtain⟨its,r,⟨o,n,e,_,_,d⟩,_⟩:=I.list h
 obtain⟨its',r',⟨o',n',e',_,_,d'⟩,_⟩:=I.list h'
 rw[e] at e'; cases e'
 rw[d] at d'
 injection d' with d1 _
 have:its=its':=by simpa using congrArg Array.toList d1
 subst this
 exact r.inj r'
def Inv.tuple_inj(I:Inv X pins Z H s)(h:SqT X.K H a xs)(h':SqT X.K H a ys):xs=ys:=by
 obtain⟨its,r,⟨o,e,_,n,d⟩,_⟩:=I.tuple h
 obtain⟨its',r',⟨o',e',_,n',d'⟩,_⟩:=I.tuple h'
 rw[e] at e'; cases e'
 rw[d] at d'
 injection d' with d1 _
 have:its=its':=by simpa using congrArg Array.toList d1
 subst this
 exact r.inj r'
end
noncomputable abbrev Cx.wish(X:Cx)(E:BG->BH->Prop):Cx:={ X with xe:=E }
abbrev Cx.nox(X:Cx):Cx:=X.wish fun _ _=>False
noncomputable def Cx.Ok.wish{X:Cx}(ok:X.Ok)(E:BG->BH->Prop):(X.wish E).Ok:=
 ⟨ok.mod,ok.kind,ok.glob,ok.blt,ok.above,ok.inj,ok.has,ok.cab,ok.hd,ok.frames,ok.stk,ok.exf,ok.bs,ok.bsz,ok.noex,ok.exfs,ok.funs,ok.frf⟩
def Cx.Ok.unwish{X:Cx}{E:BG->BH->Prop}(ok:(X.wish E).Ok):X.Ok:=
 ⟨ok.mod,ok.kind,ok.glob,ok.blt,ok.above,ok.inj,ok.has,ok.cab,ok.hd,ok.frames,ok.stk,ok.exf,ok.bs,ok.bsz,ok.noex,ok.exfs,ok.funs,ok.frf⟩
section
variable{X:Cx}{pins:List (BI×Obj)}{Z:St}{H:Hp}{s:BH}{E:BG->BH->Prop}
noncomputable def Inv.wish(I:Inv X pins Z H s)(E:BG->BH->Prop):Inv (X.wish E) pins Z H s:=⟨I.ok.wish E,I.os,I.bare,I.base,I.loc,I.cell,I.free,I.freeC,I.pin,I.hok,I.len⟩
def Inv.unwish(I:Inv (X.wish E) pins Z H s):Inv X pins Z H s:=⟨I.ok.unwish,I.os,I.bare,I.base,I.loc,I.cell,I.free,I.freeC,I.pin,I.hok,I.len⟩
def SP.unwish{D:Ends}{f:Flow}{s':BH}(h:SP (X.wish E) pins D f s'):SP X pins D f s':=by
 cases f with
 | next=>obtain⟨Z',H',I,q⟩:=h; exact⟨Z',H',I.unwish,q⟩
 | brk=>obtain⟨Z',H',I,q⟩:=h; exact⟨Z',H',I.unwish,q⟩
 | cont=>obtain⟨Z',H',I,q⟩:=h; exact⟨Z',H',I.unwish,q⟩
 | ret u=>obtain⟨v,Z',H',I,r,q⟩:=h; exact⟨v,Z',H',I.unwish,r,q⟩
def PSs.nox{st:List Stmt}{t:TS}(h:PSs X.nox st t):PSs X st t:=fun pins s Z H D I hw=>
 wpAny_mono (h pins s Z H D (I.wish _) hw) (fun _ _ q=>q.unwish) fun _ _ z=>False.elim z
end
section
variable{X:Cx}{st:Stmt}{rest:List Stmt}{t u:TS}{e:Expr}{te:TE}{pos:Pos}
def Hab:TS:=fun D Z H=>D.nx Z H
def Hdi(t u:TS):TS:=fun D Z H=>t { D with nx:=u D } Z H
def Gqh:PSs X [] Hab:=fun _ _ Z H _ I h=>wpAny_execs_nil ⟨Z,H,I,h⟩
def Gme(h1:PS X st t)(h2:PSs X rest u):PSs X (st::rest) (Hdi t u):=by
 intro pins s Z H D I h
 refine wpAny_execs_cons (thn (h1 pins s Z H { D with nx:=u D } I h) fun f s1 q=>?_)
 cases f with
 | next=>
  obtain⟨Z',H',I',q⟩:=q
  exact h2 pins s1 Z' H' D I' q
 | ret v=>exact q
 | brk=>exact q
 | cont=>exact q
def Gjg(h1:PS X st t):PSs X [st] t:=by
 intro pins s Z H D I h
 refine wpAny_execs_cons (thn (h1 pins s Z H D I h) fun f s1 q=>?_)
 cases f with
 | next=>exact wpAny_execs_nil q
 | ret v=>exact q
 | brk=>exact q
 | cont=>exact q
def Hac:TS:=fun D Z H=>D.ct Z H
def Gg3:PS X (.Continue pos) Hac:=fun _ _ Z H _ I h=>wpAny_Continue ⟨Z,H,I,h⟩
def Inv.quiet{pins:List (BI×Obj)}{Z:St}{H:Hp}{s:BH}(I:Inv X pins Z H s):interactive X.env=false:=by simp[interactive,I.ok.kind]
def Gt1(te:TE):TS:=fun D Z H=>te Z H fun _ H1=>D.nx Z H1
noncomputable def Gjh(he:PE X e te)(hs:swapsWith e none pos.line X.env=pure false:=by rfl):PS X (.Expr e pos) (Gt1 te):=by
 intro pins s Z H D I h
 exact wpAny_Expr_any (thn (he pins s Z H _ I h) fun v s1 ⟨x,H1,I1,r1,q1⟩=>⟨Z,H1,I1,q1⟩) I.quiet hs
def Hdj(te:TE):TS:=fun D Z H=>te Z H D.rt
def Gvl(he:PE X e te):PS X (.Return (some e) pos) (Hdj te):=by
 intro pins s Z H D I h
 exact wpAny_Return_some (thn (he pins s Z H _ I h) fun v s1 ⟨x,H1,I1,r1,q1⟩=>⟨x,Z,H1,I1,r1,q1⟩)
def Hdk(c:TT)(t u:TS):TS:=fun D Z H=>c Z H fun b H1=>if b=true then t D Z H1 else u D Z H1
def Had{c:Expr}{a b:List Stmt}{tc:TT}(hc:PT X c tc)(ha:PSs X a t)(hb:PSs X b u):PS X (.If c a b pos) (Hdk tc t u):=by
 intro pins s Z H D I h
 refine wpAny_If (thn (hc pins s Z H _ I h) fun d s1 ⟨H1,I1,q1⟩=>?_)
 cases d with
 | true=>exact ha pins s1 Z H1 D I1 q1
 | false=>exact hb pins s1 Z H1 D I1 q1
end
abbrev TG:=V->St->Hp->(St->Hp->Prop)->Prop
abbrev TGs:=List V->St->Hp->(St->Hp->Prop)->Prop
def PG(X:Cx)(target:Expr)(t:TG):Prop:=
 ∀ (pins:List (BI×Obj)) (s:BH) (Z:St) (H:Hp) (v:V) (u:BG) (Q:St->Hp->Prop),Inv X pins Z H s->Hc v u->t v Z H Q→
  wpAny (model X.prog X.w) X.A (assign target X.env u) (fun _ s'=>∃ Z' H',Inv X pins Z' H' s'/\Q Z' H') X.xe s
def PGs(X:Cx)(ts:List Expr)(t:TGs):Prop:=
 ∀ (pins:List (BI×Obj)) (s:BH) (Z:St) (H:Hp) (vs:List V) (us:List BG) (Q:St->Hp->Prop),Inv X pins Z H s->Vals vs us->t vs Z H Q→
  wpAny (model X.prog X.w) X.A (assignInOrder ((assignEach ts X.env).map (·.2)) us) (fun _ s'=>∃ Z' H',Inv X pins Z' H' s'/\Q Z' H') X.xe s
abbrev Glc:=V->V->V->Hp->(Hp->Prop)->Prop
def Gqi(X:Cx)(t:Glc):Prop:=
 ∀ (pins:List (BI×Obj)) (s:BH) (Z:St) (H:Hp) (o i v:V) (ov iv u:BG) (Q:Hp->Prop),Inv X pins Z H s->Hc o ov->Hc i iv->Hc v u->t o i v H Q→
  wpAny (model X.prog X.w) X.A (setItem ov iv u) (fun _ s'=>∃ H',Inv X pins Z H' s'/\Q H') X.xe s
abbrev TIp:=V->V->Hp->VK->Prop
def PIp(X:Cx)(op:Operator)(t:TIp):Prop:=
 ∀ (pins:List (BI×Obj)) (s:BH) (Z:St) (H:Hp) (x y:V) (v u:BG) (Q:VK),Inv X pins Z H s->Hc x v->Hc y u->t x y H Q→
  wpAny (model X.prog X.w) X.A (inplaceOp op v u) (EP X pins Z Q) X.xe s
section
variable{X:Cx}{pos:Pos}
def gName(i:Nat):TG:=fun v Z H Q=>Q (Z.set i (some v)) H
def Gqj{i:Nat}{x:Str}(hN:X.N.Nodup)(hi:X.N[i]?=some x)(hx:Loc X.env.scope x)(hf:X.fn x=true\/X.env.scope.names.lookup x=some .local:=by first | exact .inl rfl | exact .inr rfl | assumption):PG X (.Name x pos) (gName i):=by
 intro pins s Z H v u Q I r h
 exact wpAny_assign_Name (Wy I hN hi hx r (fun s' I'=>⟨_,H,I',h⟩) hf)
def Hdl:TGs:=fun vs Z H Q=>vs=[]/\Q Z H
def Hae(t:TG)(u:TGs):TGs:=fun vs Z H Q=>∃ v r,vs=v::r/\t v Z H fun Z' H'=>u r Z' H' Q
def Gqk:PGs X [] Hdl:=by
 intro pins s Z H vs us Q I r h
 obtain⟨e,h⟩:=h
 subst e
 cases r
 exact assignInOrder_nil ⟨Z,H,I,h⟩
noncomputable def Gmf{e:Expr}{es:List Expr}{t:TG}{u:TGs}(h1:PG X e t)(h2:PGs X es u)
  (hs:(assignEach (e::es) X.env).map (·.2)=assign e X.env::(assignEach es X.env).map (·.2):=by rfl):PGs X (e::es) (Hae t u):=by
 intro pins s Z H vs us Q I r h
 obtain⟨v,vr,e1,h⟩:=h
 subst e1
 cases r with
 | cons r rr=>
  rw[hs]
  refine assignInOrder_cons (thn (h1 pins s Z H _ _ _ I r h) fun _ s1 ⟨Z1,H1,I1,q1⟩=>?_)
  exact h2 pins s1 Z1 H1 _ _ Q I1 rr q1
def Hdm(K:BE)(n:Nat)(t:TGs):TG:=fun v Z H Q=>∃ a xs,v=.ref a/\SqT K H a xs/\xs.length=n/\t xs Z H Q
noncomputable def Gvm{es:List Expr}{k:Nat}{t:TGs}{n:Nat}(hc:X.calm=true)(h:PGs X es t)
  (hn:(assignEach es X.env).length=n:=by rfl) (hst:(assignEach es X.env).findIdx? (·.1)=none:=by rfl):PG X (.Tuple es k pos) (Hdm X.K n t):=by
 intro pins s Z H v u Q I r hw
 obtain⟨a,xs,e1,hq,hl,hw⟩:=hw
 subst e1
 cases r
 obtain⟨its,rv,ht,hz⟩:=I.tuple hq
 refine assign_Tuple_tuple (I.ok.hd hc) ht (by simp[hn,<- hl,rv.length]) hst fun h' hx=>?_
 have I1:Inv X pins Z H { s with heap:=h' }:=I.kept (t':=s.toks) fun b o e=>hx b o (Ay (Ag e)) e
 exact h pins _ Z H xs _ Q I1 (by simpa using rv) hw
def Hdn(to ti:TE)(t:Glc):TG:=fun v Z H Q=>to Z H fun o H1=>ti Z H1 fun i H2=>t o i v H2 fun H3=>Q Z H3
noncomputable def Gvn{o i:Expr}{to ti:TE}{t:Glc}(ho:PE X o to)(hi:PE X i ti)(hs:Gqi X t)
  (ha:∀ v,assign (.Subscript o i pos) X.env v=(do
   let ov <- holding [v] (eval o X.env)
   let iv <- holding [v,ov] (eval i X.env)
   standAt pos
   holding [v,ov,iv] (setItem ov iv v)
   release [v,ov,iv] []):=by intro _; rfl):PG X (.Subscript o i pos) (Hdn to ti t):=by
 intro pins s Z H v u Q I r h
 rw[ha]
 refine wpAny_bind (wpAny_holding (thn (ho pins s Z H _ I h) fun ov s1 ⟨x,H1,I1,r1,q1⟩=>?_))
 refine wpAny_bind (wpAny_holding (thn (hi pins s1 Z H1 _ I1 q1) fun iv s2 ⟨y,H2,I2,r2,q2⟩=>?_))
 refine wpAny_bind (wpAny_standAt (wpAny_bind (wpAny_holding (thn (hs pins s2 Z H2 x y v ov iv u _ I2 r1 r2 r q2) fun _ s3 ⟨H3,I3,q3⟩=>?_))))
 exact wpAny_release ⟨Z,H3,I3,q3⟩
def Gql(te:TE)(g:TG):TS:=fun D Z H=>te Z H fun x H1=>g x Z H1 D.nx
noncomputable def Gmg{tg e:Expr}{te:TE}{g:TG}(he:PE X e te)(hg:PG X tg g)(hs:swapsWithSole [tg] e pos.line X.env=pure false:=by rfl)(hw:swappedStores [tg] e X.env=pure none:=by rfl)
  (h1:(assignEach [tg] X.env).map (·.2)=[assign tg X.env]:=by rfl):PS X (.Assign [tg] e pos) (Gql te g):=by
 intro pins s Z H D I h
 refine wpAny_Assign_stores (thn (he pins s Z H _ I h) fun v s1 ⟨x,H1,I1,r1,q1⟩=>?_) hs hw
 rw[h1]
 exact thn (hg pins s1 Z H1 x v _ I1 r1 q1) fun _ s2 q=>q
def Gvo{i:Nat}{x:Str}{e:Expr}{te:TE}{pos':Pos}(hN:X.N.Nodup)(hi:X.N[i]?=some x)(hx:Loc X.env.scope x)(he:PE X e te)(hs:swapsWith e (some (.Name x pos')) pos.line X.env=pure false:=by rfl)(hf:X.fn x=true\/X.env.scope.names.lookup x=some .local:=by first | exact .inl rfl | exact .inr rfl | assumption):
  PS X (.Assign [.Name x pos'] e pos) (Gql te (gName i)):=by
 intro pins s Z H D I h
 refine wpAny_Assign_Name (thn (he pins s Z H _ I h) fun v s1 ⟨y,H1,I1,r1,q1⟩=>?_) hs
 exact Wy I1 hN hi hx r1 (fun s2 I2=>⟨_,H1,I2,q1⟩) hf
def Hdo(i j:Nat)(ta:TA):TS:=fun D Z H=>ta Z H fun vs H1=>∃ v w,vs=[v,w]/\D.nx ((Z.set i (some v)).set j (some w)) H1
def Gvp{i j:Nat}{x y:Str}{a b:Expr}{ta:TA}{px py pt:Pos}{kt k2 pt2}(hc:X.calm=true)(hN:X.N.Nodup)(hi:X.N[i]?=some x)(hj:X.N[j]?=some y)(hij:i≠j)
  (hx:X.env.scope.names.lookup x=some .local) (hy:X.env.scope.names.lookup y=some .local) (ha:PA X [a,b] ta)
  (hw:swappedStores [.Tuple [.Name x px,.Name y py] kt pt] (.Tuple [a,b] k2 pt2) X.env=pure (some [x,y]))
  (hs:swapsWithSole [.Tuple [.Name x px,.Name y py] kt pt] (.Tuple [a,b] k2 pt2) pos.line X.env=pure false:=by rfl):
  PS X (.Assign [.Tuple [.Name x px,.Name y py] kt pt] (.Tuple [a,b] k2 pt2) pos) (Hdo i j ta):=by
 intro pins s Z H D I h
 rw[exec_Assign_arm]
 refine wpAny_bind (wpAny_standAt ?_)
 rw[hs]
 refine wpAny_bind (wpAny_pure ?_)
 rw[if_neg (by decide)]
 refine wpAny_bind (Tuple_ (thn (ha _ pins s Z H _ I h) fun us s1 ⟨vs,H1,I1,r1,q1⟩=>?_))
 obtain⟨v,w,e1,q1⟩:=q1
 subst e1
 obtain⟨u1,u2,rfl,rv,rw'⟩:∃ u1 u2,us=[u1,u2]/\Hc v u1/\Hc w u2:=by
  cases r1 with
  | cons p q=>
   cases q with
   | cons p' q'=>
    cases q'
    exact⟨_,_,rfl,p,p'⟩
 refine wpAny_newObj_type ?_ (by show 2<=sizeLine; decide)
 have I2:Inv X pins Z H1 { s1 with heap:=s1.heap.push { cls:=.type "tuple",data:=.seq [u1,u2].toArray } }:=I1.kept (t':=s1.toks) fun b o e=>Ap _ e
 rw[hw]
 refine wpAny_bind (wpAny_pure ?_)
 show wpAny (model X.prog X.w) X.A (do rule "assign.swapped-stores"; let items <- unpackItems (.ref s1.heap.objs.size) 2 none; assignInOrder [fun v=>bindName X.env y v,fun v=>bindName X.env x v] items.reverse; pure Flow.next) _ _ _
 refine wpAny_bind (wpAny_rule (wpAny_bind (unpackItems_tuple (items:=#[u1,u2]) (I.ok.hd hc) (IsTup.new s1.heap _) fun h' hx'=>?_)))
 have I3:=I2.kept (h':=h') (t':=s1.toks) fun b o e=>hx' b o (Ay (Ag e)) e
 show wpAny _ _ (assignInOrder [fun v=>bindName X.env y v,fun v=>bindName X.env x v] [u2,u1] >>= fun _=>pure Flow.next) _ _ _
 refine wpAny_bind (assignInOrder_cons (wpAny_bindName (Wy I3 hN hj (.inl hy) rw' (fun s2 I4=>?_) (.inr hy))))
 refine assignInOrder_cons (wpAny_bindName (Wy I4 hN hi (.inl hx) rv (fun s3 I5=>assignInOrder_nil (wpAny_pure ?_)) (.inr hx)))
 rw[List.set_comm _ _ (Ne.symm hij)] at I5
 exact⟨_,H1,I5,q1⟩
def Haf(i:Nat)(te:TE)(ti:TIp):TS:=fun D Z H=>∃ x,Z[i]?=some (some x)/\te Z H fun y H1=>ti x y H1 fun z H2=>D.nx (Z.set i (some z)) H2
def Gvq{i:Nat}{x:Str}{e:Expr}{te:TE}{op:Operator}{ti:TIp}{pos':Pos}(hN:X.N.Nodup)(hi:X.N[i]?=some x)(hx:Loc X.env.scope x)(he:PE X e te)(ho:PIp X op ti)(hf:X.fn x=true\/X.env.scope.names.lookup x=some .local:=by first | exact .inl rfl | exact .inr rfl | assumption):
  PS X (.AugAssign (.Name x pos') op e pos) (Haf i te ti):=by
 intro pins s Z H D I h
 obtain⟨v,e1,h⟩:=h
 obtain⟨m,hn,hl⟩:=I.loc
 have vis:Vis X.env.scope x:=by rcases hx with k | k; exact .inl k; exact .inr (.inl k)
 obtain⟨u,r,l⟩:=hl i x v hi e1 vis
 refine wpAny_AugAssign_Name ?_
 have go:wpAny (model X.prog X.w) X.A (eval e X.env) (fun w s₂=>wpAny (model X.prog X.w) X.A (inplaceOp op u w) (fun r s₃=>wpAny (model X.prog X.w) X.A (storeName X.env x r) (fun _=>SP X pins D .next) X.xe s₃) X.xe s₂) X.xe s:=by
  refine thn (he pins s Z H _ I h) fun w s1 ⟨y,H1,I1,r1,q1⟩=>?_
  refine thn (ho pins s1 Z H1 v y u w _ I1 r r1 q1) fun z s2 ⟨zv,H2,I2,r2,q2⟩=>?_
  exact Wy I2 hN hi hx r2 (fun s3 I3=>⟨_,H2,I3,q2⟩) hf
 rcases l with⟨hk,hm⟩ | ⟨hk,c,hc,hcell⟩
 ·exact wpAny_loadName_local I.ok.kind hk hn hm go
 ·rcases hk with hk | hk
  ·exact wpAny_loadName_cell I.ok.kind hk hc hcell go
  ·rcases hx with k | k
   ·have:X.env.scope.names.lookup x=some .free:=hk
    rw[k] at this; cases this
   ·have:X.env.scope.names.lookup x=some .free:=hk
    rw[k] at this; cases this
def ipI(f:Int->Int->Int):TIp:=fun x y H Q=>∃ i j,x=.int i/\y=.int j/\Q (.int (f i j)) H
def Gvr:PIp X .Add (ipI fun i j=>i+j):=by
 intro pins s Z H x y v u Q I r1 r2 h
 obtain⟨i,j,e1,e2,q⟩:=h
 subst e1; subst e2
 obtain⟨t,rfl⟩:=r1
 obtain⟨t',rfl⟩:=r2
 exact iadd_int ⟨.int _,H,I.tok _,⟨_,rfl⟩,q⟩
end
section
variable{X:Cx}{pos:Pos}
def Gvs(c:TT)(tb:TS):TS:=fun D Z H=>∃ W:Nat->St->Hp->Prop,(∃ m,W m Z H)/\∀ m Z H,W m Z H→
 c Z H fun b H1=>if b=true then ∃ N:St->Hp->Prop,(∀ Z' H',N Z' H'->∃ m',m'<m/\W m' Z' H')/\tb { D with nx:=N,ct:=N,bk:=D.nx } Z H1 else D.nx Z H1
def Gmh{c:Expr}{body:List Stmt}{tc:TT}{tb:TS}(hp:PassesOwn (model X.prog X.w) X.A X.env X.xe)(hc:PT X c tc)(hb:PSs X body tb):PS X (.While c body [] pos) (Gvs tc tb):=by
 intro pins s Z H D I h
 obtain⟨W,⟨m0,w0⟩,turn⟩:=h
 refine wpAny_While (codeAny_whileLoop (fun n s'=>∃ Z' H',Inv X pins Z' H' s'/\W n Z' H') ?_ m0 ⟨Z,H,I,w0⟩)
 rintro n s1 ⟨Z1,H1,I1,w1⟩
 refine wpAny_passesOwn hp (thn (hc pins s1 Z1 H1 _ I1 (turn n Z1 H1 w1)) fun b s2 ⟨H2,I2,q2⟩=>?_)
 cases b with
 | true=>
  obtain⟨N,hN,q2⟩:=q2
  rw[if_pos rfl]
  refine wpAny_passesOwn hp (thn (hb pins s2 Z1 H2 _ I2 q2) fun f s3 q3=>?_)
  cases f with
  | next=>
   obtain⟨Z3,H3,I3,n3⟩:=q3
   obtain⟨m',hm,w3⟩:=hN Z3 H3 n3
   exact⟨m',hm,Z3,H3,I3,w3⟩
  | cont=>
   obtain⟨Z3,H3,I3,n3⟩:=q3
   obtain⟨m',hm,w3⟩:=hN Z3 H3 n3
   exact⟨m',hm,Z3,H3,I3,w3⟩
  | brk=>exact q3
  | ret v=>exact q3
 | false=>
  rw[if_neg Ao]
  exact wpAny_execs_nil ⟨Z1,H2,I2,q2⟩
end
structure It where
 go:Nat->Hp->Prop
 yld:Nat->Hp->V->Hp->Prop
 stop:Nat->Hp->Prop
def Gef(X:Cx)(pins:List (BI×Obj))(H:Hp)(b:BI):Prop:=
 H b=none/\b≠X.env.locals/\b∉X.fs/\(b∈X.ex\/X.s₀.heap.objs.size<=b)/\(∀ x c,X.env.cells.lookup x=some c->c≠b)/\∀ p∈X.pn++pins,p.1≠b
def Inv.fpOk{X:Cx}{pins:List (BI×Obj)}{Z:St}{H H':Hp}{s:BH}{b:BI}(I:Inv X pins Z H s)(hb:s.heap.objs.size<=b)(hn:H' b=none):Gef X pins H' b:=by
 refine⟨hn,Bp (Aj I.lt hb),I.nofs hb,.inr (Am I.sz hb),fun x c e z=>?_,fun p hp z=>?_⟩
 ·obtain⟨v,q⟩:=I.cell x c e
  exact absurd (Aj q.lt (by rw[z]; exact hb)) (AD _)
 ·exact absurd (Aj (Ag (I.pin p hp).1) (by rw[z]; exact hb)) (AD _)
structure Turn(P:BK)(w:World)(K:BE)(tg:Expr)(J:It)(fp:List BI)(it:BI)(tn:Nat->Heap->Prop):Prop where
 mem:it∈fp
 obj:∀ i h,tn i h->∀ b∈fp,∃ o,h.get? b=some o/\∀ v,o.data≠.cell v
 keep:∀ i h h',tn i h->(∀ b∈fp,∀ o,h.get? b=some o->h'.get? b=some o)->tn i h'
 item:∀ (X:Cx),X.prog=P->X.w=w->X.K=K->X.calm=true->∀ (i:Nat) (pins:List (BI×Obj)) (s:BH) (Z:St) (H:Hp) (E:BG->BH->Prop),Inv X pins Z H s->(∀ b∈fp,Gef X pins H b)->tn i s.heap->J.go i H→
  wpAny (model P w) X.A (pyNext (.ref it)) (fun r s1=>∃ u,r=some u∧
   wpAny (model P w) X.A (letOwnedTupleGo tg (.ref it) u) (fun _ s2=>∃ x H',Inv X pins Z H' s2/\Hc x u/\J.yld i H x H'/\tn (i+1) s2.heap/\∀ b∈fp,H' b=none) E s1) E s
 done:∀ (X:Cx),X.prog=P->X.w=w->X.K=K->X.calm=true->∀ (i:Nat) (pins:List (BI×Obj)) (s:BH) (Z:St) (H:Hp) (E:BG->BH->Prop),Inv X pins Z H s->(∀ b∈fp,Gef X pins H b)->tn i s.heap->J.stop i H→
  wpAny (model P w) X.A (pyNext (.ref it)) (fun r s1=>r=none/\Inv X pins Z H s1) E s
 self:∀ (A:Around) (i:Nat) (s:BH) (Q:BG->BH->Prop) (E:BG->BH->Prop),tn i s.heap->Q (.ref it) s->wpAny (model P w) A (pyIter (.ref it)) Q E s
abbrev TI:=St->Hp->(It->Hp->Prop)->Prop
def PIE(X:Cx)(pins:List (BI×Obj))(Z:St)(tg:Expr)(R:It->Hp->Prop)(itv:BG)(s2:BH):Prop:=
 ∃ (it:BI) (fp:List BI) (tn:Nat->Heap->Prop) (J:It) (H':Hp),itv=.ref it/\Inv X pins Z H' s2/\Turn X.prog X.w X.K tg J fp it tn/\tn 0 s2.heap/\(∀ b∈fp,Gef X pins H' b)/\R J H'
def PI(X:Cx)(tg iter:Expr)(wi:TI):Prop:=
 ∀ (pins:List (BI×Obj)) (s:BH) (Z:St) (H:Hp) (R:It->Hp->Prop),Inv X pins Z H s->wi Z H R→
  wpAny (model X.prog X.w) X.A (eval iter X.env) (fun v s1=>wpAny (model X.prog X.w) X.A (pyIter v) (PIE X pins Z tg R) X.xe s1) X.xe s
def Gmi{M:Model}{A:Around}{E:BG->BH->Prop}{s:BH}{tg:Expr}{it:BI}{u:BG}{o:Obj}{n:String}{vs:Array BG}{Q:Unit->BH->Prop}(ho:s.heap.get? it=some o)(hc:o.cls=.type n)(hd:o.data=.fields vs)
  (hn:["enumerate","zip","dict_itemiterator","dict_reverseitemiterator","odict_iterator","itertools.zip_longest","itertools.pairwise"].contains n=false) (hQ:Q () s):wpAny M A (letOwnedTupleGo tg (.ref it) u) Q E s:=by
 unfold letOwnedTupleGo
 cases tg<;>first
  | exact wpAny_pure hQ
  | (cases u<;>first
    | exact wpAny_pure hQ
    | (refine wpAny_bind (wpAny_load ho ?_)
       rw[hc,hd]
       show wpAny M A (if(["enumerate","zip","dict_itemiterator","dict_reverseitemiterator","odict_iterator","itertools.zip_longest","itertools.pairwise"].contains n&&vs[0]?==some (rawInt _))=true then _ else _) Q E s
       rw[if_neg (by intro h; rw[hn,Bool.false_and] at h; cases h)]
       exact wpAny_pure hQ))
noncomputable def Itl(K:BE)(a:BI):It:=
 ⟨fun i H=>∃ xs x,SqL K H a xs/\xs[i]?=some x,fun i H x H'=>H'=H/\∀ xs,SqL K H a xs->xs[i]?=some x,fun i H=>∃ xs,SqL K H a xs/\xs.length<=i⟩
noncomputable def Itt(K:BE)(a:BI):It:=
 ⟨fun i H=>∃ xs x,SqT K H a xs/\xs[i]?=some x,fun i H x H'=>H'=H/\∀ xs,SqT K H a xs->xs[i]?=some x,fun i H=>∃ xs,SqT K H a xs/\xs.length<=i⟩
noncomputable def Itr(lo:Int)(n:Nat):It:=⟨fun i _=>i<n,fun i H x H'=>H'=H/\x=.int (lo+i),fun i _=>n<=i⟩
def turn_list{P:BK}{w:World}{K:BE}{tg:Expr}(a it:BI):Turn P w K tg (Itl K a) [it] it (fun i h=>h.IsListIter it a i) where
 mem:=by simp
 obj:=fun i h st b hb=>by
  have e:b=it:=by simpa using hb
  subst e
  obtain⟨o,e,c,d⟩:=st
  exact⟨o,e,fun v z=>by rw[d] at z; cases z⟩
 keep:=fun i h h' st k=>st.at fun o e=>k it (by simp) o e
 item:=by
  intro X hP hw hK hc i pins s Z H E I hf st hg
  subst hP hw hK
  obtain⟨xs,x,hq,hx⟩:=hg
  obtain⟨its,rv,p,hz⟩:=I.list hq
  obtain⟨u,hu,ru⟩:=rv.get hx
  obtain⟨f0,f1,f2,f3,f4,f5⟩:=hf it (by simp)
  refine wpAny_pyNext_list_item st p.isList (x:=u) (by simpa using hu) fun h' st' sb=>?_
  have I1:Inv X pins Z H { s with heap:=h' }:=I.turned (t':=s.toks) (fun b o hb e=>(sb.2 b hb).trans e) f0 f1 f3 f4 f5
  obtain⟨o,e,c,d⟩:=id st'
  exact⟨u,rfl,Gmi (s:={ s with heap:=h' }) e c d (by decide) ⟨x,H,I1,ru,⟨rfl,fun ys hy=>by rw[I.list_inj hy hq]; exact hx⟩,st',fun b hb=>(hf b hb).1⟩⟩
 done:=by
  intro X hP hw hK hc i pins s Z H E I hf st hg
  subst hP hw hK
  obtain⟨xs,hq,hx⟩:=hg
  obtain⟨its,rv,p,hz⟩:=I.list hq
  obtain⟨f0,f1,f2,f3,f4,f5⟩:=hf it (by simp)
  have hl:=rv.length
  exact wpAny_pyNext_list_end (I.ok.hd hc) st p.isList (by simp; omega) fun h' eb=>⟨rfl,I.turned (t':=s.toks) (fun b o hb e=>eb b o hb e) f0 f1 f3 f4 f5⟩
 self:=fun _ _ _ _ _ st h=>wpAny_pyIter_listiter st h
def turn_tuple{P:BK}{w:World}{K:BE}{tg:Expr}(a it:BI):Turn P w K tg (Itt K a) [it] it (fun i h=>h.IsTupleIter it a i) where
 mem:=by simp
 obj:=fun i h st b hb=>by
  have e:b=it:=by simpa using hb
  subst e
  obtain⟨o,e,c,d⟩:=st
  exact⟨o,e,fun v z=>by rw[d] at z; cases z⟩
 keep:=fun i h h' st k=>st.at fun o e=>k it (by simp) o e
 item:=by
  intro X hP hw hK hc i pins s Z H E I hf st hg
  subst hP hw hK
  obtain⟨xs,x,hq,hx⟩:=hg
  obtain⟨its,rv,p,hz⟩:=I.tuple hq
  obtain⟨u,hu,ru⟩:=rv.get hx
  obtain⟨f0,f1,f2,f3,f4,f5⟩:=hf it (by simp)
  refine wpAny_pyNext_tuple_item st (show s.heap.IsTuple a its.toArray from p) (x:=u) (by simpa using hu) fun h' st' sb=>?_
  have I1:Inv X pins Z H { s with heap:=h' }:=I.turned (t':=s.toks) (fun b o hb e=>(sb.2 b hb).trans e) f0 f1 f3 f4 f5
  obtain⟨o,e,c,d⟩:=id st'
  exact⟨u,rfl,Gmi (s:={ s with heap:=h' }) e c d (by decide) ⟨x,H,I1,ru,⟨rfl,fun ys hy=>by rw[I.tuple_inj hy hq]; exact hx⟩,st',fun b hb=>(hf b hb).1⟩⟩
 done:=by
  intro X hP hw hK hc i pins s Z H E I hf st hg
  subst hP hw hK
  obtain⟨xs,hq,hx⟩:=hg
  obtain⟨its,rv,p,hz⟩:=I.tuple hq
  obtain⟨f0,f1,f2,f3,f4,f5⟩:=hf it (by simp)
  have hl:=rv.length
  exact wpAny_pyNext_tuple_end (I.ok.hd hc) st (show s.heap.IsTuple a its.toArray from p) (by simp; omega) fun h' eb=>⟨rfl,I.turned (t':=s.toks) (fun b o hb e=>eb b o hb e) f0 f1 f3 f4 f5⟩
 self:=fun _ _ _ _ _ st h=>wpAny_pyIter_tupleiter st h
def turn_range{P:BK}{w:World}{K:BE}{tg:Expr}(it:BI)(lo:Int)(n:Nat):Turn P w K tg (Itr lo n) [it] it (fun i h=>IsRangeIter h it (lo+(i:Nat)*1) ((n:Int)-(i:Nat)) 1) where
 mem:=by simp
 obj:=fun i h st b hb=>by
  have e:b=it:=by simpa using hb
  subst e
  exact⟨_,st,fun v z=>by
   have z':Data.fields _=Data.cell v:=z
   cases z'⟩
 keep:=fun i h h' st k=>k it (by simp) _ st
 item:=by
  intro X hP hw hK hc i pins s Z H E I hf st hg
  subst hP hw hK
  obtain⟨f0,f1,f2,f3,f4,f5⟩:=hf it (by simp)
  have W:=Walks.range (prog:=X.prog) (w:=X.w) (I.ok.hd hc) it lo 1 n
  refine W.item i s _ _ hg st fun v h' tk hv st' kk=>?_
  obtain⟨t,rfl⟩:=hv
  have I1:Inv X pins Z H { s with heap:=h',toks:=tk }:=I.turned (fun b o hb e=>kk b o (by simpa using hb) e) f0 f1 f3 f4 f5
  refine⟨_,rfl,Gmi (s:={ s with heap:=h',toks:=tk }) (n:="range_iterator") st' rfl rfl (by decide) ⟨.int (lo+i),H,I1,⟨t,?_⟩,⟨rfl,rfl⟩,st',fun b hb=>(hf b hb).1⟩⟩
  rw[Int.mul_one]
 done:=by
  intro X hP hw hK hc i pins s Z H E I hf st hg
  subst hP hw hK
  obtain⟨f0,f1,f2,f3,f4,f5⟩:=hf it (by simp)
  exact wpAny_pyNext_range_end (I.ok.hd hc) st (by have:n<=i:=hg; omega) fun h' eb=>⟨rfl,I.turned (t':=s.toks) (fun b o hb e=>eb b o hb e) f0 f1 f3 f4 f5⟩
 self:=fun _ _ _ _ _ st h=>wpAny_pyIter_rangeiter st h
section
variable{X:Cx}{tg:Expr}
def Gg4{pins:List (BI×Obj)}{Z:St}{H:Hp}{s:BH}{R:It->Hp->Prop}{E:BG->BH->Prop}{lo hi:Int}{t u v:Tok}{tk:Nat}(I:Inv X pins Z H s)(h1 : -(2^62)<=lo)(h2:lo<2^62)(h3 : -(2^62)<=hi)(h4:hi<2^62)
  (q:R (Itr lo (hi-lo).toNat) H):wpAny (model X.prog X.w) X.A (pyIter (.ref s.heap.objs.size)) (PIE X pins Z tg R) E { s with heap:=s.heap.push { cls:=.type "range",data:=.fields #[.int lo t,.int hi u,.int 1 v] },toks:=tk }:=by
 refine wpAny_pyIter_range (IsRange.new ..) (small_one h1 h2 h3 h4) ?_
 have I1:Inv X pins Z H { s with heap:=s.heap.push { cls:=.type "range",data:=.fields #[.int lo t,.int hi u,.int 1 v] },toks:=tk }:=I.kept fun b o e=>Ap _ e
 refine⟨(s.heap.push { cls:=.type "range",data:=.fields #[.int lo t,.int hi u,.int 1 v] }).objs.size,[(s.heap.push { cls:=.type "range",data:=.fields #[.int lo t,.int hi u,.int 1 v] }).objs.size],_,_,H,rfl,
  I1.kept (t':=tk) fun b o e=>Ap _ e,turn_range _ lo (hi-lo).toNat,?_,fun b hb=>?_,q⟩
 ·have e1:lo+((0:Nat):Int)*1=lo:=by simp
  have e2:(((hi-lo).toNat:Nat):Int)-((0:Nat):Int)=Builtin.Range.rangeSize lo hi 1:=by rw[rangeSize_one]; split<;>omega
  show IsRangeIter _ _ (lo+((0:Nat):Int)*1) ((((hi-lo).toNat:Nat):Int)-((0:Nat):Int)) 1
  rw[e1,e2]
  exact AF _ rfl
 ·have e:b=(s.heap.push { cls:=.type "range",data:=.fields #[.int lo t,.int hi u,.int 1 v] }).objs.size:=by simpa using hb
  subst e
  exact I1.fpOk (Ac _) (I1.hok.fresh (Ac _))
def Hag(ta:TA):TI:=fun Z H R=>ta Z H fun vs H1=>∃ j:Int,vs=[.int j] /\ -(2^62)<=j/\j<2^62/\R (Itr 0 j.toNat) H1
def Hah(ta:TA):TI:=fun Z H R=>ta Z H fun vs H1=>∃ i j:Int,vs=[.int i,.int j]/\(-(2^62)<=i/\i<2^62 /\ -(2^62)<=j/\j<2^62)/\R (Itr i (j-i).toNat) H1
def Gld{a:Expr}{ta:TA}{p pos:Pos}(hg:Gl X "range")(hm:X.mg "range"=none)(ha:PA X [a] ta)(hs:starEach [a] X.env=[(false,eval a X.env)]:=by rfl):PI X tg (.Call (.Name "range" p) [a] [] pos) (Hag ta):=by
 intro pins s Z H R I h
 refine Call_ (Yj I hg hm boot_range (PyProof.Rows.callWith_type1 (thn (ha pos pins s Z H _ I h) fun us s1 ⟨vs,H1,I1,r1,q1⟩=>?_) hs rfl))
 obtain⟨j,e,q1,q2,q⟩:=q1
 subst e
 cases r1 with
 | cons r rr=>
  cases rr
  obtain⟨t,rfl⟩:=r
  exact call_range_1 (Gg4 I1 (by omega) (by omega) q1 q2 (by simpa using q))
def Gle{a b:Expr}{ta:TA}{p pos:Pos}(hg:Gl X "range")(hm:X.mg "range"=none)(ha:PA X [a,b] ta)(hs:starEach [a,b] X.env=[(false,eval a X.env),(false,eval b X.env)]:=by rfl)(hs2:starEach [b] X.env=[(false,eval b X.env)]:=by rfl):
  PI X tg (.Call (.Name "range" p) [a,b] [] pos) (Hah ta):=by
 intro pins s Z H R I h
 refine Call_ (Yj I hg hm boot_range (PyProof.Rows.callWith_type1 (thn (ha pos pins s Z H _ I h) fun us s1 ⟨vs,H1,I1,r1,q1⟩=>?_) (by rw[hs,hs2]) (by rw[hs2]; rfl)))
 obtain⟨i,j,e,⟨q1,q2,q3,q4⟩,q⟩:=q1
 subst e
 cases r1 with
 | cons r rr=>
  cases rr with
  | cons r' rr=>
   cases rr
   obtain⟨t,rfl⟩:=r
   obtain⟨t',rfl⟩:=r'
   exact call_range_2 (Gg4 I1 q1 q2 q3 q4 q)
def Hdp(wi:TI)(g:TG)(tb:TS):TS:=fun D Z H=>wi Z H fun J H1=>∃ W:Nat->Nat->St->Hp->Prop,(∃ m,W 0 m Z H1)/\∀ i m Z H,W i m Z H→
 (J.stop i H/\D.nx Z H)\/(J.go i H/\∃ N:St->Hp->Prop,(∀ Z' H',N Z' H'->∃ m',m'<m/\W (i+1) m' Z' H')/\∀ x H',J.yld i H x H'->g x Z H' fun Z2 H2=>tb { D with nx:=N,ct:=N,bk:=D.nx } Z2 H2)
noncomputable def Gda(fp:List BI)(h:Heap):List (BI×Obj):=fp.filterMap fun b=>(h.get? b).map fun o=>(b,o)
def Xk{fp:List BI}{h:Heap}{b:BI}{o:Obj}(hb:b∈fp)(e:h.get? b=some o):(b,o)∈Gda fp h:=List.mem_filterMap.mpr ⟨b,hb,by rw[e]; rfl⟩
def Glf{fp:List BI}{h:Heap}{p:BI×Obj}(hp:p∈Gda fp h):p.1∈fp/\h.get? p.1=some p.2:=by
 obtain⟨b,hb,e⟩:=List.mem_filterMap.mp hp
 cases q:h.get? b with
 | none=>rw[q] at e; cases e
 | some o=>
  rw[q] at e
  have e':(b,o)=p:=Ab e
  subst e'
  exact⟨hb,q⟩
def Inv.pinned{pins:List (BI×Obj)}{Z:St}{H:Hp}{s:BH}{fp:List BI}(I:Inv X pins Z H s)(hf:∀ b∈fp,Gef X pins H b)(ho:∀ b∈fp,∃ o,s.heap.get? b=some o/\∀ v,o.data≠.cell v):Inv X (pins++Gda fp s.heap) Z H s:=
 I.pins_of fun p hp=>(Az.mp hp).elim (fun z=>I.pin p (AQ _ z)) fun z=>by
  obtain⟨hb,e⟩:=Glf z
  obtain⟨f0,f1,f2,_⟩:=hf p.1 hb
  obtain⟨o,e',d⟩:=ho p.1 hb
  rw[e] at e'; cases e'
  exact⟨e,f0,f1,f2,d⟩
def Inv.unpinned{pins pl:List (BI×Obj)}{Z:St}{H:Hp}{s:BH}(I:Inv X (pins++pl) Z H s):Inv X pins Z H s:=I.pins_of fun p hp=>I.pin p (AQ _ (Bo _ hp))
def Gvt{iter:Expr}{body:List Stmt}{wi:TI}{g:TG}{tb:TS}{pos:Pos}(hp:PassesOwn (model X.prog X.w) X.A X.env X.xe)(hc:X.calm=true)(hi:PI X tg iter wi)(hg:PG X tg g)(hb:PSs X body tb)
  (hs:∀ x,foldedSetIterable iter X.env x=pure x:=by intro _; rfl):PS X (.For tg iter body [] pos) (Hdp wi g tb):=by
 intro pins s Z H D I h
 refine wpAny_For (thn (hi pins s Z H _ I h) fun v s1 h1=>thn h1 fun itv s2 h2=>?_) hs
 obtain⟨it,fp,tn,J,H2,e,I2,T,st2,f2,W,⟨m0,w0⟩,turn⟩:=h2
 subst e
 have stat:∀ {H':Hp},(∀ b∈fp,H' b=none)->∀ b∈fp,Gef X pins H' b:=fun hn b hb=>⟨hn b hb,(f2 b hb).2⟩
 refine codeAny_forLoop_any (fun n s'=>∃ i Z' H',Inv X pins Z' H' s'/\tn i s'.heap/\(∀ b∈fp,H' b=none)/\W i n Z' H') ?_ m0 ⟨0,Z,H2,I2,st2,fun b hb=>(f2 b hb).1,w0⟩
 rintro n s3 ⟨i,Z3,H3,I3,st3,fr3,w3⟩
 rcases turn i n Z3 H3 w3 with⟨stop,qn⟩ | ⟨go,N,hN,step⟩
 ·refine wpAny_passesOwn hp (thn (T.done X rfl rfl rfl hc i pins s3 Z3 H3 X.xe I3 (stat fr3) st3 stop) fun r s4 ⟨hr,I4⟩=>?_)
  subst hr
  exact wpAny_execs_nil ⟨Z3,H3,I4,qn⟩
 ·refine wpAny_passesOwn hp (thn (T.item X rfl rfl rfl hc i pins s3 Z3 H3 X.xe I3 (stat fr3) st3 go) fun r s4 ⟨u,hr,h4⟩=>?_)
  subst hr
  refine wpAny_passesOwn hp (thn h4 fun _ s5 ⟨x,H5,I5,r5,y5,st5,fr5⟩=>?_)
  have I5':=I5.pinned (stat fr5) (T.obj _ _ st5)
  refine wpAny_passesOwn hp (thn (hg _ s5 Z3 H5 x u _ I5' r5 (step x H5 y5)) fun _ s6 ⟨Z6,H6,I6,q6⟩=>?_)
  refine wpAny_passesOwn hp (thn (hb _ s6 Z6 H6 _ I6 q6) fun f s7 q7=>?_)
  have again:∀ {Z7:St} {H7:Hp},Inv X (pins++Gda fp s5.heap) Z7 H7 s7->N Z7 H7->∃ m,m<n/\∃ i Z' H',Inv X pins Z' H' s7/\tn i s7.heap/\(∀ b∈fp,H' b=none)/\W i m Z' H':=fun{Z7 H7} I7 n7=>by
   obtain⟨m',hm,w7⟩:=hN Z7 H7 n7
   refine⟨m',hm,i+1,Z7,H7,I7.unpinned,T.keep _ _ _ st5 fun b hb o e=>(I7.pin (b,o) (AQ _ (AQ _ (Xk hb e)))).1,fun b hb=>?_,w7⟩
   obtain⟨o,e,d⟩:=T.obj _ _ st5 b hb
   exact(I7.pin (b,o) (AQ _ (AQ _ (Xk hb e)))).2.1
  cases f with
  | next=>obtain⟨Z7,H7,I7,n7⟩:=q7; exact again I7 n7
  | cont=>obtain⟨Z7,H7,I7,n7⟩:=q7; exact again I7 n7
  | brk=>obtain⟨Z7,H7,I7,q7⟩:=q7; exact⟨Z7,H7,I7.unpinned,q7⟩
  | ret v=>obtain⟨x7,Z7,H7,I7,r7,q7⟩:=q7; exact⟨x7,Z7,H7,I7.unpinned,r7,q7⟩
end
abbrev R2:=V->V->Hp->VK->Prop
def OpR(X:Cx)(f:BG->BG->Sem BG)(r:R2):Prop:=
 ∀ (pins:List (BI×Obj)) (s:BH) (Z:St) (H:Hp) (x y:V) (v u:BG) (Q:VK),Inv X pins Z H s->Hc x v->Hc y u->r x y H Q→
  wpAny (model X.prog X.w) X.A (f v u) (EP X pins Z Q) X.xe s
def UnR(X:Cx)(f:BG->Sem BG)(r:V->Hp->VK->Prop):Prop:=
 ∀ (pins:List (BI×Obj)) (s:BH) (Z:St) (H:Hp) (x:V) (v:BG) (Q:VK),Inv X pins Z H s->Hc x v->r x H Q→
  wpAny (model X.prog X.w) X.A (f v) (EP X pins Z Q) X.xe s
def Yk(X:Cx)(f:BG)(r:List V->Hp->VK->Prop):Prop:=
 ∀ (pins:List (BI×Obj)) (s:BH) (Z:St) (H:Hp) (xs:List V) (us:List BG) (Q:VK),Inv X pins Z H s->Vals xs us->r xs H Q→
  wpAny (model X.prog X.w) X.A (call f us) (EP X pins Z Q) X.xe s
def Hdq(X:Cx)(r:V->Hp->(Bool->Hp->Prop)->Prop):Prop:=
 ∀ (pins:List (BI×Obj)) (s:BH) (Z:St) (H:Hp) (x:V) (v:BG) (Q:Bool->Hp->Prop),Inv X pins Z H s->Hc x v->r x H Q→
  wpAny (model X.prog X.w) X.A (truthy v) (TP X pins Z Q) X.xe s
def tOp(r:R2)(ta tb:TE):TE:=fun Z H Q=>ta Z H fun x H1=>tb Z H1 fun y H2=>r x y H2 Q
def tUn(r:V->Hp->VK->Prop)(ta:TE):TE:=fun Z H Q=>ta Z H fun x H1=>r x H1 Q
def rI(C:Int->Int->Prop)(g:Int->Int->V):R2:=fun x y H Q=>∃ i j,x=.int i/\y=.int j/\C i j/\Q (g i j) H
def rI0(g:Int->Int->V):R2:=fun x y H Q=>∃ i j,x=.int i/\y=.int j/\Q (g i j) H
def rU(g:Int->V):V->Hp->VK->Prop:=fun x H Q=>∃ i,x=.int i/\Q (g i) H
section
variable{X:Cx}{a b c:Expr}{ta tb tc:TE}{pos:Pos}
def Gvu(ha:PE X a ta)(hb:PE X b tb){pins:List (BI×Obj)}{s:BH}{Z:St}{H:Hp}{R:V->V->Hp->Prop}(I:Inv X pins Z H s)
  (h:ta Z H fun x H1=>tb Z H1 fun y H2=>R x y H2) {Q:BG->BH->Prop} {f:BG->BG->Sem BG}
  (hf:∀ v u s2 x y H2,Inv X pins Z H2 s2->Hc x v->Hc y u->R x y H2->wpAny (model X.prog X.w) X.A (f v u) Q X.xe s2):
  wpAny (model X.prog X.w) X.A (eval a X.env) (fun v s₁=>wpAny (model X.prog X.w) X.A (eval b X.env) (fun u s₂=>wpAny (model X.prog X.w) X.A (f v u) Q X.xe s₂) X.xe s₁) X.xe s:=by
 refine thn (ha pins s Z H _ I h) fun v s1 ⟨x,H1,I1,r1,q1⟩=>?_
 refine thn (hb pins s1 Z H1 _ I1 q1) fun u s2 ⟨y,H2,I2,r2,q2⟩=>?_
 exact hf v u s2 x y H2 I2 r1 r2 q2
def Hai{op:Operator}{r:R2}(ho:OpR X (binaryOp op) r)(ha:PE X a ta)(hb:PE X b tb):PE X (.BinOp a op b pos) (tOp r ta tb):=by
 intro pins s Z H Q I h
 exact wpAny_BinOp (Gvu ha hb I h fun v u s2 x y H2 I2 rx ry q=>ho pins s2 Z H2 x y v u Q I2 rx ry q)
def Haj{op:UnaryOp}{r:V->Hp->VK->Prop}(ho:UnR X (unaryOp op) r)(ha:PE X a ta):PE X (.UnaryOp op a pos) (tUn r ta):=by
 intro pins s Z H Q I h
 exact UnaryOp_ (thn (ha pins s Z H _ I h) fun v s1 ⟨x,H1,I1,r1,q1⟩=>ho pins s1 Z H1 x v Q I1 r1 q1)
def opI{f:BG->BG->Sem BG}{C:Int->Int->Prop}{g:Int->Int->Int}
  (rule:∀ (i j:Int) (t u:Tok) (s:BH) (Q:BG->BH->Prop) (E:BG->BH->Prop),C i j->Q (.int (g i j) s.toks) { s with toks:=s.toks+1 }->wpAny (model X.prog X.w) X.A (f (.int i t) (.int j u)) Q E s):
  OpR X f (rI C fun i j=>.int (g i j)):=by
 intro pins s Z H x y v u Q I rx ry h
 obtain⟨i,j,rfl,rfl,hc,q⟩:=h
 obtain⟨t,rfl⟩:=rx
 obtain⟨t',rfl⟩:=ry
 exact rule i j t t' s _ _ hc ⟨.int (g i j),H,I.tok _,⟨_,rfl⟩,q⟩
def opI0{f:BG->BG->Sem BG}{g:Int->Int->Int}
  (rule:∀ (i j:Int) (t u:Tok) (s:BH) (Q:BG->BH->Prop) (E:BG->BH->Prop),Q (.int (g i j) s.toks) { s with toks:=s.toks+1 }->wpAny (model X.prog X.w) X.A (f (.int i t) (.int j u)) Q E s):
  OpR X f (rI0 fun i j=>.int (g i j)):=by
 intro pins s Z H x y v u Q I rx ry h
 obtain⟨i,j,rfl,rfl,q⟩:=h
 obtain⟨t,rfl⟩:=rx
 obtain⟨t',rfl⟩:=ry
 exact rule i j t t' s _ _ ⟨.int (g i j),H,I.tok _,⟨_,rfl⟩,q⟩
def opB0{f:BG->BG->Sem BG}{g:Int->Int->Bool}
  (rule:∀ (i j:Int) (t u:Tok) (s:BH) (Q:BG->BH->Prop) (E:BG->BH->Prop),Q (.bool (g i j)) s->wpAny (model X.prog X.w) X.A (f (.int i t) (.int j u)) Q E s):
  OpR X f (rI0 fun i j=>.bl (g i j)):=by
 intro pins s Z H x y v u Q I rx ry h
 obtain⟨i,j,rfl,rfl,q⟩:=h
 obtain⟨t,rfl⟩:=rx
 obtain⟨t',rfl⟩:=ry
 exact rule i j t t' s _ _ ⟨.bl (g i j),H,I,rfl,q⟩
def Hdr(i j:Int):Prop:=0<=j/\j<=1000000/\i.natAbs<2^64
def CMul(i j:Int):Prop:=(-(2^64)<i/\i<2^64)\/(-(2^64)<j/\j<2^64)
def CMul.ok{i j:Int}(h:CMul i j):IntMulOk i j:=by
 rcases h with⟨h1,h2⟩ | ⟨h1,h2⟩
 ·exact .of_left (intBits_le_64 h1 h2)
 ·exact .of_right (intBits_le_64 h1 h2)
def Gvv:OpR X (binaryOp .Add) (rI0 fun i j=>.int (i+j)):=opI0 fun _ _ _ _ _ _ _ q=>add_int q
def Gvw:OpR X (binaryOp .Sub) (rI0 fun i j=>.int (i-j)):=opI0 fun _ _ _ _ _ _ _ q=>sub_int q
def Gvx:OpR X (binaryOp .Mult) (rI CMul fun i j=>.int (i*j)):=opI fun _ _ _ _ _ _ _ hc q=>mul_int q hc.ok
def Gvy:OpR X (binaryOp .Mod) (rI (fun _ j=>0<j) fun i j=>.int (i%j)):=opI fun i j _ _ _ _ _ hc q=>by
 have h1:(0:Int)<j:=hc
 exact mod_int' (by omega) (by rw[Int.fmod_eq_emod_of_nonneg i (by omega)]; exact q)
def Gvz:OpR X (binaryOp .Pow) (rI Hdr fun i j=>.int (i^j.toNat)):=opI fun _ _ _ _ _ _ _ hc q=>pow_int_small hc.1 hc.2.1 hc.2.2 q
def unI{f:BG->Sem BG}{g:Int->Int}
  (rule:∀ (i:Int) (t:Tok) (s:BH) (Q:BG->BH->Prop) (E:BG->BH->Prop),Q (.int (g i) s.toks) { s with toks:=s.toks+1 }->wpAny (model X.prog X.w) X.A (f (.int i t)) Q E s):
  UnR X f (rU fun i=>.int (g i)):=by
 intro pins s Z H x v Q I rx h
 obtain⟨i,rfl,q⟩:=h
 obtain⟨t,rfl⟩:=rx
 exact rule i t s _ _ ⟨.int (g i),H,I.tok _,⟨_,rfl⟩,q⟩
def Gv0:UnR X (unaryOp .USub) (rU fun i=>.int (-i)):=unI fun _ _ _ _ _ q=>neg_int q
end
section
variable{X:Cx}{a b c:Expr}{ta tb tc:TE}{pos:Pos}
def Gmj{pins:List (BI×Obj)}{Z:St}{H:Hp}{s:BH}{Q:VK}{k k':Bool}(I:Inv X pins Z H s)(q:Q (.bl k) H)(e:k=k'):EP X pins Z Q (.bool k') s:=by
 subst e
 exact⟨.bl k,H,I,rfl,q⟩
def Gji:OpR X (compareOp .Lt) (rI0 fun i j=>.bl (decide (i<j))):=opB0 fun _ _ _ _ _ _ _ q=>lt_int q
def Gmk:OpR X (compareOp .LtE) (rI0 fun i j=>.bl (decide (i<=j))):=opB0 fun _ _ _ _ _ _ _ q=>le_int q
def Hak:OpR X (compareOp .Gt) (rI0 fun i j=>.bl (decide (j<i))):=opB0 fun _ _ _ _ _ _ _ q=>gt_int q
def Gt2:OpR X (compareOp .GtE) (rI0 fun i j=>.bl (decide (j<=i))):=opB0 fun _ _ _ _ _ _ _ q=>ge_int q
def Gv1:OpR X (compareOp .Is) (fun x y H Q=>y=.non/\Q (.bl (decide (x=.non))) H):=by
 intro pins s Z H x y v u Q I rx ry h
 obtain⟨rfl,q⟩:=h
 cases ry
 refine is_none_gen (Gmj I q ?_)
 cases x<;>first
  | (cases rx; rfl)
  | (obtain⟨t,rfl⟩:=rx; rfl)
def Gqm:OpR X (compareOp .IsNot) (fun x y H Q=>y=.non/\Q (.bl (!decide (x=.non))) H):=by
 intro pins s Z H x y v u Q I rx ry h
 obtain⟨rfl,q⟩:=h
 cases ry
 refine isnot_none_gen (Gmj I q ?_)
 cases x<;>first
  | (cases rx; rfl)
  | (obtain⟨t,rfl⟩:=rx; rfl)
def OpR.or{f:BG->BG->Sem BG}{r r':R2}(h:OpR X f r)(h':OpR X f r'):OpR X f (fun x y H Q=>r x y H Q\/r' x y H Q):=by
 intro pins s Z H x y v u Q I rx ry q
 rcases q with q | q
 ·exact h pins s Z H x y v u Q I rx ry q
 ·exact h' pins s Z H x y v u Q I rx ry q
noncomputable def nomark(b:Expr){op:CmpOp}(h:op≠.In:=by decide)(h2:op≠.NotIn:=by decide):behindInMarks op b=false:=by
 have e1:(op==CmpOp.In)=false:=by cases op<;>first | rfl | exact absurd rfl h
 have e2:(op==CmpOp.NotIn)=false:=by cases op<;>first | rfl | exact absurd rfl h2
 cases b<;>simp[behindInMarks,e1,e2]
def Gqn{op:CmpOp}{r:R2}(ho:OpR X (compareOp op) r)(ha:PE X a ta)(hb:PE X b tb)(hm:behindInMarks op b=false):PE X (.Compare a [op] [b] pos) (tOp r ta tb):=by
 intro pins s Z H Q I h
 exact wpAny_Compare1 (Gvu ha hb I h fun v u s2 x y H2 I2 rx ry q=>ho pins s2 Z H2 x y v u Q I2 rx ry q) hm
def Gt3(t:TE):TT:=fun Z H Q=>t Z H fun x H'=>∃ k,x=.bl k/\Q k H'
def Gqo{op:CmpOp}{r:R2}(ho:OpR X (compareOp op) r)(ha:PE X a ta)(hb:PE X b tb)(hm:behindInMarks op b=false):PT X (.Compare a [op] [b] pos) (Gt3 (tOp r ta tb)):=by
 intro pins s Z H Q I h
 refine wpAny_isTrue_Compare1 (thn (ha pins s Z H _ I h) fun v s1 ⟨x,H1,I1,r1,q1⟩=>thn (hb pins s1 Z H1 _ I1 q1) fun u s2 ⟨y,H2,I2,r2,q2⟩=>
  thn (ho pins s2 Z H2 x y v u _ I2 r1 r2 q2) fun c s3 ⟨z,H3,I3,r3,k,e,q3⟩=>?_) hm
 subst e
 cases r3
 exact wpAny_truthy_bool ⟨H3,I3,q3⟩
def Gml(r r':R2)(ta tb tc:TE):TE:=fun Z H Q=>ta Z H fun x H1=>tb Z H1 fun y H2=>r x y H2 fun z H3=>∃ k,z=.bl k∧
 (if k=true then tc Z H3 fun w' H4=>r' y w' H4 Q else Q (.bl false) H3)
noncomputable def Gmm{op op':CmpOp}{r r':R2}(ho:OpR X (compareOp op) r)(ho':OpR X (compareOp op') r')(ha:PE X a ta)(hb:PE X b tb)(hc:PE X c tc)
  (hm:lastMarks [op,op'] [b,c]=false:=by with_unfolding_all rfl):PT X (.Compare a [op,op'] [b,c] pos) (Gt3 (Gml r r' ta tb tc)):=by
 intro pins s Z H Q I h
 refine isTrue_chain (thn (ha pins s Z H _ I h) fun v s1 ⟨x,H1,I1,r1,q1⟩=>test_link (thn (hb pins s1 Z H1 _ I1 q1) fun u s2 ⟨y,H2,I2,r2,q2⟩=>
  thn (ho pins s2 Z H2 x y v u _ I2 r1 r2 q2) fun d s3 ⟨z,H3,I3,r3,k,e,q3⟩=>?_)) hm
 subst e
 cases r3
 refine wpAny_truthy_bool ?_
 cases k with
 | false=>
  obtain⟨k',e',q'⟩:=q3
  cases e'
  exact ite_ff ⟨H3,I3,q'⟩
 | true=>
  refine ite_tt (test_last (thn (hc pins s3 Z H3 _ I3 q3) fun w' s4 ⟨z',H4,I4,r4,q4⟩=>thn (ho' pins s4 Z H4 y z' u w' _ I4 r2 r4 q4) fun d' s5 ⟨z2,H5,I5,r5,k2,e2,q5⟩=>?_))
  subst e2
  cases r5
  exact wpAny_truthy_bool ⟨H5,I5,q5⟩
def Gv2(K:BE)(x:V)(H:Hp)(k:Bool):Prop:=
 match x with
 | .non=>k=false
 | .bl b=>k=b
 | .int i=>k=(i != 0)
 | .str y=>y.length<=sizeLine/\k=((y.length:Int) != 0)
 | .byt y=>y.size<=sizeLine/\k=((y.size:Int) != 0)
 | .ref p=>(∃ xs,SqL K H p xs/\k=!xs.isEmpty)\/(∃ xs,SqT K H p xs/\k=!xs.isEmpty)\/∃ kvs,H p=some (.dK kvs)/\k=!kvs.isEmpty
 | _=>False
def Gic{Y:Type}{kvs:List (Y×V)}{vs:List (Y×BG)}(r:KV kvs vs):(!vs.isEmpty)=!kvs.isEmpty:=by
 cases r<;>rfl
def Gdb{xs:List V}{its:List BG}(r:Vals xs its):(!its.toArray.isEmpty)=!xs.isEmpty:=by
 cases r<;>simp
def Gab:(sizeLine:Nat)<2^63:=by rw[sizeLine_eq]; decide
def Gv3:Hdq X (fun x H Q=>∃ k,Gv2 X.K x H k/\Q k H):=by
 intro pins s Z H x v Q I rx h
 obtain⟨k,e,q⟩:=h
 have hl:=Gab
 have hs:sizeLine=16777216:=sizeLine_eq
 cases x with
 | non=>
  cases rx
  have e':k=false:=e
  subst e'
  exact truthy_none ⟨H,I,q⟩
 | bl b=>
  cases rx
  have e':k=b:=e
  subst e'
  exact wpAny_truthy_bool ⟨H,I,q⟩
 | int i=>
  obtain⟨t,rfl⟩:=rx
  have e':k=(i != 0):=e
  subst e'
  exact PySem.P.truthy_int ⟨H,I,q⟩
 | str y=>
  obtain⟨t,rfl⟩:=rx
  obtain⟨hy,e'⟩:y.length<=sizeLine/\k=((y.length:Int) != 0):=e
  subst e'
  exact PySem.P.truthy_str (by omega) ⟨H,I.tok _,q⟩
 | byt y=>
  obtain⟨t,rfl⟩:=rx
  obtain⟨hy,e'⟩:y.size<=sizeLine/\k=((y.size:Int) != 0):=e
  subst e'
  exact PySem.W.truthy_bytes (by omega) ⟨H,I.tok _,q⟩
 | ref p=>
  cases rx
  have e':(∃ xs,SqL X.K H p xs/\k=!xs.isEmpty)\/(∃ xs,SqT X.K H p xs/\k=!xs.isEmpty)\/∃ kvs,H p=some (.dK kvs)/\k=!kvs.isEmpty:=e
  rcases e' with⟨xs,hx,e'⟩ | ⟨xs,hx,e'⟩ | ⟨kvs,hx,e'⟩
  ·subst e'
   obtain⟨its,r,pl,hz⟩:=I.list hx
   have hlen:=r.length
   exact wpAny_truthy_list pl.isList (by simp only[An]; omega) ⟨H,I.tok _,by rw[Gdb r]; exact q⟩
  ·subst e'
   obtain⟨its,r,pl,hz⟩:=I.tuple hx
   have hlen:=r.length
   exact truthy_tuple pl (by simp only[An]; omega) ⟨H,I.tok _,by rw[Gdb r]; exact q⟩
  ·subst e'
   obtain⟨hz,hS,vs,r,m⟩:kvs.length<=sizeLine/\(p==sysModules)=false/\∃ vs,KV kvs vs/\s.heap.DictOf (Gjd X.prog X.w) p vs:=I.hok p _ hx
   have hlen:kvs.length=vs.length:=Paired.length r
   exact wpAny_truthy_dict hS m (by omega) ⟨H,I.tok _,by rw[Gic r]; exact q⟩
 | _=>exact(show False from e).elim
def Gmn(ha:PE X a ta)(he:∀ whole,isTrue a X.env whole=(do let v <- whole; standAt a.pos; holding [v] (truthy v))):
  PT X a (fun Z H Q=>ta Z H fun x H'=>∃ k,Gv2 X.K x H' k/\Q k H'):=by
 intro pins s Z H Q I h
 exact isTrue_plain (thn (ha pins s Z H _ I h) fun v s1 ⟨x,H1,I1,r1,q1⟩=>Gv3 pins s1 Z H1 x v Q I1 r1 q1) (he _)
def Gid:OpR X (binaryOp .Add) (fun x y H Q=>∃ i j,x=.str i/\y=.str j/\i.length+j.length<=sizeLine/\Q (.str (i++j)) H):=by
 intro pins s Z H x y v u Q I rx ry h
 obtain⟨i,j,rfl,rfl,hz,q⟩:=h
 obtain⟨t,rfl⟩:=rx
 obtain⟨t',rfl⟩:=ry
 exact add_str (fun t' tk=>⟨.str (i++j),H,I.tok _,⟨_,rfl⟩,q⟩) hz
def Gdc{x:V}{us:List BG}(r:Vals [x] us):∃ u,us=[u]/\Hc x u:=by
 cases r with
 | cons r1 r2=>cases r2; exact⟨_,rfl,r1⟩
def Glg:Yk X (.type "int") (fun xs H Q=>(∃ i,xs=[.int i]/\Q (.int i) H)\/∃ k,xs=[.bl k]/\Q (.int (if k then 1 else 0)) H):=by
 intro pins s Z H xs us Q I r h
 rcases h with⟨i,rfl,q⟩ | ⟨k,rfl,q⟩
 ·obtain⟨u,rfl,t,rfl⟩:=Gdc r
  exact call_int_int ⟨.int i,H,I,⟨_,rfl⟩,q⟩
 ·obtain⟨u,rfl,r1⟩:=Gdc r
  cases r1
  exact call_int_bool ⟨.int (if k then 1 else 0),H,I.tok _,⟨_,rfl⟩,q⟩
def Hal(K:BE)(x:V)(H:Hp)(n:Nat):Prop:=
 match x with
 | .str y=>y.length<=sizeLine/\n=y.length
 | .byt y=>y.size<=sizeLine/\n=y.size
 | .ref p=>(∃ xs,SqL K H p xs/\n=xs.length)\/∃ xs,SqT K H p xs/\n=xs.length
 | _=>False
def Gmo:Yk X (.builtin "len") (fun xs H Q=>∃ x n,xs=[x]/\Hal X.K x H n/\Q (.int n) H):=by
 intro pins s Z H xs us Q I r h
 obtain⟨x,n,rfl,e,q⟩:=h
 obtain⟨u,rfl,rx⟩:=Gdc r
 have hl:=Gab
 have hs:sizeLine=16777216:=sizeLine_eq
 cases x with
 | str y=>
  obtain⟨t,rfl⟩:=rx
  obtain⟨hy,e'⟩:y.length<=sizeLine/\n=y.length:=e
  subst e'
  exact len_str (by omega) ⟨.int _,H,I.tok _,⟨_,rfl⟩,q⟩
 | byt y=>
  obtain⟨t,rfl⟩:=rx
  obtain⟨hy,e'⟩:y.size<=sizeLine/\n=y.size:=e
  subst e'
  exact PySem.W.len_bytes (by omega) ⟨.int _,H,I.tok _,⟨_,rfl⟩,q⟩
 | ref p=>
  cases rx
  have e':(∃ xs,SqL X.K H p xs/\n=xs.length)\/∃ xs,SqT X.K H p xs/\n=xs.length:=e
  rcases e' with⟨xs,hx,e'⟩ | ⟨xs,hx,e'⟩
  ·subst e'
   obtain⟨its,r',pl,hz⟩:=I.list hx
   have hlen:=r'.length
   exact Calls.call_len_list pl.isList (by simp only[An]; omega) ⟨.int xs.length,H,I.tok _,⟨_,by simp only[An]; rw[hlen]⟩,q⟩
  ·subst e'
   obtain⟨its,r',pl,hz⟩:=I.tuple hx
   have hlen:=r'.length
   exact len_tuple pl (by simp only[An]; omega) ⟨.int xs.length,H,I.tok _,⟨_,by simp only[An]; rw[hlen]⟩,q⟩
 | _=>exact(show False from e).elim
end
structure ObjM(h:Heap)(x dx C:BI)(mA:Str->BJ BG):Prop where
 obj:h.get? x=some (PySem.W.instObj C dx)
 ns:h.Ns1 dx mA
 ne:dx≠x
def Gia.some_of{v:V}{o:BJ BG}(r:Gia (some v) o):∃ u,o=some u/\Hc v u:=by
 cases o with
 | none=>exact(show False from r).elim
 | some u=>exact⟨u,rfl,r⟩
structure Cls(K:BE)(C:BI):Prop where
 pg:PySem.W.plainGet K C Str.empty=true
 hd:PySem.W.hasDictIn K C=true
 po:PySem.W.plainOver K C=true
 sa:PySem.W.findIn K (.ref C) "__setattr__"=some (some (.builtin "object.__setattr__"))
structure Con(K:BE)(C:BI)(f:Str)(v:V)(u:BG):Prop where
 at_:PySem.W.findIn K (.ref C) f=some (some u)
 rel:Hc v u
 get:PySem.W.specialIn K u "__get__"=some none
 cp:PySem.W.copiedNames.contains f=false
structure Meth(K:BE)(C:BI)(m:Str)(f:BI):Prop where
 at_:PySem.W.findIn K (.ref C) m=some (some (.ref f))
 fn:PySem.W.isFn K (.ref f)=true
 kp:PySem.W.keepIn K (.ref f)=true
section
variable{X:Cx}{pins:List (BI×Obj)}{Z:St}{H:Hp}{s:BH}{A:Around}{E:BG->BH->Prop}{Q:BG->BH->Prop}{c:BG}{b:Bool}
inductive TyOf(K:BE)(H:Hp):V->BG->Prop where
 | non:TyOf K H .non (.type "NoneType")
 | bl (x:Bool):TyOf K H (.bl x) (.type "bool")
 | int (i:Int):TyOf K H (.int i) (.type "int")
 | str (x:Str):TyOf K H (.str x) (.type "str")
 | flt (x:UInt64):TyOf K H (.flt x) (.type "float")
 | lst {a:BI} {xs:List V} (e:H a=some (.lst xs)):TyOf K H (.ref a) (.type "list")
 | frz {a:BI} {o:Obj} {xs:List V} (e:H a=some (.frz o (.lst xs))):TyOf K H (.ref a) (.type "list")
 | tup {a:BI} {xs:List V} (e:H a=some (.tup xs)):TyOf K H (.ref a) (.type "tuple")
 | dK {a:BI} {kvs:List (Key×V)} (e:H a=some (.dK kvs)):TyOf K H (.ref a) (.type "dict")
 | dT {a:BI} {kvs:List (NK×BI×V)} (e:H a=some (.dT kvs)):TyOf K H (.ref a) (.type "dict")
 | ins {a C dx:BI} {fs:List (Str×V)} (e:H a=some (.ins C dx fs)) (cl:Cls K C) (ha:PySem.W.findIn K (.ref C) "__class__"=some (some (.builtin "object.__class__")))
   (hn:PySem.W.specialIn K (.builtin "object.__class__") "__get__"=some (some (.builtin "getset_descriptor.__get__"))) (htk:PySem.W.takesIn K (.builtin "object.__class__")=some true)
   (hm:PySem.W.mroIn K C (.type "object")=some true):TyOf K H (.ref a) (.ref C)
end
structure Room(k:Nat)(A:Around):Prop where
 hd:A.handled=none
 dp:A.depth+3*k+5<recursionLimit
 un:A.units+16*k+200<cLine
 gd:A.guards=some []
def Room.mono{j k:Nat}{A:Around}(r:Room k A)(h:j<=k):Room j A:=⟨r.hd,by have:=r.dp; omega,by have:=r.un; omega,r.gd⟩
def Room.deeper{k:Nat}{A:Around}(r:Room (k+1) A)(env:Env):Room k (A.deeper env):=
 ⟨r.hd,by have:=r.dp; show A.depth+1+3*k+5<_; omega,by have:=r.un; show A.units+3+16*k+200<_; omega,by first | exact r.gd | (simpa[Around.deeper] using r.gd)⟩
def Gie{A:Around}{C:BI}{us:List BG}{kw:List (Str×BG)}:(A.under (.builtin "type.__call__" ⟨.ref C::us,kw⟩)).depth=A.depth+1:=by
 first | rfl | simp[Around.under,Code.weight,Code.isCreation,Code.isGuard,Code.isCaller,Code.frames,Code.isFrame,guardIds]
def Gif{A:Around}{C:BI}{us:List BG}{kw:List (Str×BG)}:(A.under (.builtin "type.__call__" ⟨.ref C::us,kw⟩)).units=A.units+1:=by
 first | rfl | simp[Around.under,Code.cUnits,Code.frames,Code.isFrame]
def Room.make{k:Nat}{A:Around}(r:Room (k+1) A)(C:BI)(us:List BG)(kw:List (Str×BG)):Room k (A.under (.builtin "type.__call__" ⟨.ref C::us,kw⟩)):=
 ⟨r.hd,by have:=r.dp; rw[Gie]; omega,by have:=r.un; rw[Gif]; omega,by first | exact r.gd | (simpa[Around.under,pushGuards,Code.guards,Code.isGuard,guardIds] using r.gd)⟩
def Room.depth{k:Nat}{A:Around}(r:Room k A):A.depth<recursionLimit:=by have:=r.dp; omega
def Room.units{k:Nat}{A:Around}(r:Room k A):A.units+64<cLine:=by have:=r.un; omega
def Ham:TA:=fun _ H Q=>Q [] H
def Gmp(ta:TE)(tr:TA):TA:=fun Z H Q=>ta Z H fun x H1=>tr Z H1 fun xs H2=>Q (x::xs) H2
section
variable{X:Cx}{e:Expr}{es:List Expr}{te:TE}{t:TA}{pos:Pos}
def pa_nil:PA X [] Ham:=fun _ _ _ _ H Q I h=>Calls.spliced_nil ⟨[],H,I,.nil,h⟩
noncomputable def Vg(ha:PE X e te)(hr:PA X es t)(hs:starEach (e::es) X.env=(false,eval e X.env)::starEach es X.env:=by rfl):PA X (e::es) (Gmp te t):=by
 intro pos pins s Z H Q I h
 rw[hs]
 show wpAny _ _ (spliced ((false,eval e X.env)::backTo pos (starEach es X.env))) _ _ s
 refine Calls.spliced_cons (thn (ha pins s Z H _ I h) fun u s1 ⟨x,H1,I1,r1,q1⟩=>?_)
 exact thn (hr pos pins s1 Z H1 _ I1 q1) fun us s2 ⟨xs,H2,I2,r2,q2⟩=>⟨x::xs,H2,I2,.cons r1 r2,q2⟩
def Hds(t:TA):TE:=fun Z H Q=>t Z H fun xs H1=>xs.length<=sizeLine/\∀ p,H1 p=none->Q (.ref p) (upd H1 p (.tup xs))
def Hdt(t:TA):TE:=fun Z H Q=>t Z H fun xs H1=>xs.length<=sizeLine/\∀ p,H1 p=none->Q (.ref p) (upd H1 p (.lst xs))
def Gv4{x1}(h:PA X es t):PE X (.Tuple es x1 pos) (Hds t):=by
 intro pins s Z H Q I hq
 refine wpAny_Tuple_spliced (thn (h pos pins s Z H _ I hq) fun us s1 ⟨xs,H1,I1,r,z,q⟩=>⟨by rw[<- r.length]; exact z,?_⟩)
 have hf:H1 s1.heap.objs.size=none:=I1.hok.fresh (Ac _)
 refine⟨.ref s1.heap.objs.size,upd H1 s1.heap.objs.size (.tup xs),I1.laid (t':=s1.toks) (fun b u e=>Ap _ e) (Ac _) ?_,rfl,q _ hf⟩
 exact⟨z,us,r,⟨_,AF _ rfl,rfl,_,rfl⟩⟩
def Gv5(h:PA X es t):PE X (.List es pos) (Hdt t):=by
 intro pins s Z H Q I hq
 refine wpAny_List_spliced (thn (h pos pins s Z H _ I hq) fun us s1 ⟨xs,H1,I1,r,z,q⟩=>⟨by rw[<- r.length]; exact z,?_⟩)
 have hf:H1 s1.heap.objs.size=none:=I1.hok.fresh (Ac _)
 refine⟨.ref s1.heap.objs.size,upd H1 s1.heap.objs.size (.lst xs),I1.laid (t':=s1.toks) (fun b u e=>Ap _ e) (Ac _) ?_,rfl,q _ hf⟩
 exact⟨z,us,0,r,AF _ rfl⟩
end
abbrev Sp:=List V->Hp->VK->XK->Prop
abbrev CXT:=List Env->Hp->BH->XK->BG->BH->Prop
structure Env0(P:BK)(w:World)(K:BE)(mg:Str->BJ BG)(base:Heap)(A:Around)(outer:List Env)(s:BH)(H:Hp):Prop where
 frames:A.frames=some outer
 mod:Mod K mg base
 bs:∀ b o,base.get? b=some o->s.heap.get? b=some o/\H b=none
 bsz:base.objs.size<=s.heap.objs.size
 funs:s.heap.FunFrames base outer
 frf:∀ b∈frs outer,H b=none
 hok:HOk P w H s.heap
 bare:AllBare s.gens
def CE(outer:List Env)(P:BK)(w:World)(H:Hp)(s:BH)(Q:VK)(u:BG)(s':BH):Prop:=
 ∃ v H',s'.os=s.os/\AllBare s'.gens/\Un (frs outer) [] H H' s.heap s'.heap/\HOk P w H' s'.heap/\Hc v u/\Q v H'
def CR(CX:CXT)(outer:List Env)(P:BK)(w:World)(H:Hp)(s:BH)(Q:VK)(E:XK)(r:Result)(s':BH):Prop:=
 match r with
 | .ok (.ret u)=>CE outer P w H s Q u s'
 | .ok _=>False
 | .error e=>CX outer H s E e s'
structure FnOk(P:BK)(w:World)(K:BE)(mg:Str->BJ BG)(base:Heap)(CX:CXT)(k:Nat)(f:BI)(fd:FuncData)(ps:List Str)(sp:Sp):Prop where
 len:∀ vs H Q E,sp vs H Q E->vs.length=ps.length
 run:∀ (A:Around) (outer:List Env) (s:BH) (H:Hp) (args:Args) (us:List BG) (vs:List V) (Q:VK) (E:XK),Room k A->Env0 P w K mg base A outer s H->BindsTo s fd args (ps.zip us)->Vals vs us->sp vs H Q E→
  codeAny (model P w) A (.call (.ref f) args) (CR CX outer P w H s Q E) s
def FnOk.mono{P:BK}{w:World}{K:BE}{mg:Str->BJ BG}{base:Heap}{CX:CXT}{j k:Nat}{f:BI}{fd:FuncData}{ps:List Str}{sp:Sp}(F:FnOk P w K mg base CX j f fd ps sp)(h:j<=k):
  FnOk P w K mg base CX k f fd ps sp:=⟨F.len,fun A outer s H args us vs Q E hr=>F.run A outer s H args us vs Q E (hr.mono h)⟩
def Env0.make{P:BK}{w:World}{K:BE}{mg:Str->BJ BG}{base:Heap}{A:Around}{outer:List Env}{s:BH}{H:Hp}(e:Env0 P w K mg base A outer s H)(C:BI)(us:List BG)(kw:List (Str×BG)):
  Env0 P w K mg base (A.under (.builtin "type.__call__" ⟨.ref C::us,kw⟩)) outer s H:=⟨by first | exact e.frames | (simpa[Around.under,Code.envs,Code.isFrame,pushEnvs] using e.frames),e.mod,e.bs,e.bsz,e.funs,e.frf,e.hok,e.bare⟩
section
variable{X:Cx}{pins:List (BI×Obj)}{Z:St}{H:Hp}{s s':BH}
def Inv.env0(I:Inv X pins Z H s):Env0 X.prog X.w X.K X.mg X.base X.A X.stack s H:=
 ⟨I.ok.frames,I.ok.mod,I.bs,Am I.ok.bsz I.sz,I.stack,I.stkFree,I.hok,I.bare⟩
def Inv.after{Q:VK}{u:BG}(I:Inv X pins Z H s)(h:CE X.stack X.prog X.w H s Q u s'):EP X pins Z Q u s':=by
 obtain⟨v,H',os,bare,un,hok,r,q⟩:=h
 obtain⟨hh,g,d,t,os'⟩:=s'
 obtain rfl:os'=s.os:=os
 exact⟨v,H',I.call (h':=hh) (g':=g) (d':=d) (t':=t) (ch:=[]) un hok bare (fun b z=>absurd z (by simp)),r,q⟩
end
def Han(sp:Sp)(dvs:List V)(E:XK)(t:TA):TE:=fun Z H Q=>t Z H fun vs H1=>sp (vs++dvs) H1 Q E
def Binds(K:BE)(fd:FuncData)(ps:List Str)(ds:List BG):Prop:=
 ∀ (s:BH) (us:List BG),K.In s.heap->(us++ds).length=ps.length->BindsTo s fd ⟨us,[]⟩ (ps.zip (us++ds))
noncomputable def Binds.all{K:BE}{fd:FuncData}{ps:List Str}(h:∀ us:List BG,us.length=ps.length->bindArgs fd ⟨us,[]⟩=pure (ps.zip us)):Binds K fd ps []:=fun s us _ hl=>by
 rw[AY] at hl ⊢
 exact .of_eq (h us hl)
def Passes(CX:CXT)(X:Cx)(E:XK):Prop:=∀ (pins:List (BI×Obj)) (Z:St) (H:Hp) (s:BH) (e:BG) (s':BH),Inv X pins Z H s->CX X.stack H s E e s'->X.xe e s'
section
variable{X:Cx}{CX:CXT}{k:Nat}{f C:BI}{fd:FuncData}{ps:List Str}{sp:Sp}{dvs:List V}{ds:List BG}{E:XK}{x m:Str}{p pos apos:Pos}{e o:Expr}{es:List Expr}{ta:TE}{t:TA}
def Gv6{pins:List (BI×Obj)}{Z:St}{H:Hp}{s:BH}{Q:VK}{us:List BG}{vs:List V}(F:FnOk X.prog X.w X.K X.mg X.base CX k f fd ps sp)(hr:Room k X.A)(hb:Binds X.K fd ps ds)(hd:Vals dvs ds)(hx:Passes CX X E)
  (I:Inv X pins Z H s) (r:Vals vs us) (h:sp (vs++dvs) H Q E):wpAny (model X.prog X.w) X.A (call (.ref f) us) (EP X pins Z Q) X.xe s:=by
 have r2:Vals (vs++dvs) (us++ds):=r.append hd
 have hl:(us++ds).length=ps.length:=by rw[<- r2.length]; exact F.len _ _ _ _ h
 refine wpAny_call (codeAny_mono (F.run X.A X.stack s H ⟨us,[]⟩ (us++ds) (vs++dvs) Q E hr I.env0 (hb s us I.kIn hl) r2 h) fun r s' hq=>?_)
 cases r with
 | error e=>exact hx pins Z H s e s' I hq
 | ok fl=>
  cases fl with
  | ret u=>exact I.after hq
  | next=>exact False.elim hq
  | brk=>exact False.elim hq
  | cont=>exact False.elim hq
def Gqp(F:FnOk X.prog X.w X.K X.mg X.base CX k f fd ps sp)(hr:Room k X.A)(hg:Gl X x)(hm:X.mg x=some (.ref f))(hk:PySem.W.keepIn X.K (.ref f)=true)(hb:Binds X.K fd ps ds)(hd:Vals dvs ds)(hx:Passes CX X E)
  (ha:PA X (e::es) t) (hdb:(x==("__debug__":Str))=false:=by decide) (he:starEach (e::es) X.env=(false,eval e X.env)::starEach es X.env:=by rfl) (hpl:(backTo pos (starEach es X.env)).any (·.1)=false:=by rfl):
  PE X (.Call (.Name x p) (e::es) [] pos) (Han sp dvs E t):=by
 intro pins s Z H Q I h
 refine wpAny_Call_Name_kw (Zm I hg hm ?_ hdb)
 refine PySem.W.callWith_K (h₀:=X.base) I.ok.mod.kin hk (thn (ha pos pins s Z H _ I h) fun us s1 ⟨vs,H1,I1,r,q⟩=>⟨I1.kIn,?_⟩) he hpl
 exact Gv6 F hr hb hd hx I1 r q
structure Mk(K:BE)(C f:BI):Prop where
 makes:PySem.W.makesIn K C=true
 init:PySem.W.findIn K (.ref C) "__init__"=some (some (.ref f))
 fn:PySem.W.isFn K (.ref f)=true
 kp:PySem.W.keepIn K (.ref C)=true
end
section
variable{X:Cx}{CX:CXT}{k:Nat}{f C:BI}{fd:FuncData}{ps ks:List Str}{sp:Sp}{E:XK}{x m:Str}{p pos apos kpos:Pos}{e o:Expr}{es:List Expr}{kws:List Keyword}{te ta:TE}{t tk:TA}{nm:BJ Str}
structure KBinds(K:BE)(fd:FuncData)(ps ks:List Str)(g:List BG->List BG->List BG)(gV:List V->List V->List V):Prop where
 to:∀ (s:BH) (us ws:List BG),K.In s.heap->(g us ws).length=ps.length->BindsTo s fd ⟨us,ks.zip ws⟩ (ps.zip (g us ws))
 rel:∀ {vs:List V} {us:List BG} {zs:List V} {ws:List BG},Vals vs us->Vals zs ws->Vals (gV vs zs) (g us ws)
variable{g:List BG->List BG->List BG}{gV:List V->List V->List V}
end
structure FnScope(N P:List Str)(sc:Scope):Prop where
 kind:sc.kind=.function
 co:sc.isCoroutine=false
 gen:sc.isGenerator=false
 nd:N.Nodup
 pre:N.take P.length=P
 par:∀ x∈P,sc.names.lookup x=some .local\/sc.names.lookup x=some .cell
 nofree:∀ y∈sc.names,y.2≠.free
def Ge2{kindOf:Str->BJ NameKind}{x:Str}:∀ {binds:List (Str×BG)} {m:Str->BJ BG},(∀ v,(x,v)∉binds)->bindL kindOf binds m x=m x
 | [],_,_=>rfl
 | (n,v)::r,m,h=>by
  unfold bindL
  rw[Ge2 fun w hw=>h w (Au _ hw)]
  split
  ·have:x≠n:=by rintro rfl; exact h v Av
   simp[this]
  ·rfl
def Ge3{kindOf:Str->BJ NameKind}{x:Str}:∀ {binds:List (Str×BG)} {m:Str->BJ BG},(∀ v,(x,v)∉binds)->bindC kindOf binds m x=m x
 | [],_,_=>rfl
 | (n,v)::r,m,h=>by
  unfold bindC
  rw[Ge3 fun w hw=>h w (Au _ hw)]
  split
  ·rfl
  ·have:x≠n:=by rintro rfl; exact h v Av
   simp[this]
def Ge4{kindOf:Str->BJ NameKind}{x:Str}{v:BG}:∀ {P:List Str} {vs:List BG} {i:Nat} {m:Str->BJ BG},P.Nodup->P[i]?=some x->vs[i]?=some v->kindOf x=some .local→
  bindL kindOf (P.zip vs) m x=some v
 | [],_,_,_,_,h,_,_=>by simp at h
 | _::_,[],_,_,_,_,h,_=>by simp at h
 | p::P,w::vs,0,m,nd,h1,h2,hk=>by
  simp at h1 h2; subst h1; subst h2
  show bindL kindOf ((p,w)::P.zip vs) m p=_
  unfold bindL
  rw[Ge2 fun v hv=>(A0.mp nd).1 (List.of_mem_zip hv).1,if_pos hk]
  simp
 | p::P,w::vs,i+1,m,nd,h1,h2,hk=>by
  show bindL kindOf ((p,w)::P.zip vs) m x=_
  unfold bindL
  exact Ge4 (i:=i) (A0.mp nd).2 (by simpa using h1) (by simpa using h2) hk
def Ge5{kindOf:Str->BJ NameKind}{x:Str}{v:BG}:∀ {P:List Str} {vs:List BG} {i:Nat} {m:Str->BJ BG},P.Nodup->P[i]?=some x->vs[i]?=some v->kindOf x≠some .local→
  bindC kindOf (P.zip vs) m x=some v
 | [],_,_,_,_,h,_,_=>by simp at h
 | _::_,[],_,_,_,_,h,_=>by simp at h
 | p::P,w::vs,0,m,nd,h1,h2,hk=>by
  simp at h1 h2; subst h1; subst h2
  show bindC kindOf ((p,w)::P.zip vs) m p=_
  unfold bindC
  rw[Ge3 fun v hv=>(A0.mp nd).1 (List.of_mem_zip hv).1,if_neg hk]
  simp
 | p::P,w::vs,i+1,m,nd,h1,h2,hk=>by
  show bindC kindOf ((p,w)::P.zip vs) m x=_
  unfold bindC
  exact Ge5 (i:=i) (A0.mp nd).2 (by simpa using h1) (by simpa using h2) hk
noncomputable def start(N:List Str)(vs:List V):St:=vs.map some++List.replicate (N.length-vs.length) none
noncomputable def Ud(CX:CXT)(P:BK)(w:World)(K:BE)(mg:Str->BJ BG)(base:Heap)(N:List Str)(qual:Str)(scope:Scope)(f:BI)(cd:BG)(A:Around)(outer:List Env)(s:BH)(H:Hp)(E:XK):Cx where
 prog:=P
 w:=w
 K:=K
 mg:=mg
 base:=base
 A:=A.deeper (envOfC qual scope s.heap.objs.size f cd)
 N:=N
 s₀:=s
 H₀:=H
 env:=envOfC qual scope s.heap.objs.size f cd
 outer:=outer
 stack:=envOfC qual scope s.heap.objs.size f cd::outer
 ex:=[]
 calm:=true
 fn:=fun _=>true
 pn:=[]
 xe:=fun e s'=>wpAny (model P w) (A.deeper (envOfC qual scope s.heap.objs.size f cd)) (leaving (envOfC qual scope s.heap.objs.size f cd) e) (fun _ s''=>CX outer H s E e s'') (fun e' s''=>CX outer H s E e' s'') s'
def Gg5{sc:Scope}{n:Nat}{x:Str}(h:sc.names.lookup x=some .cell):∃ c,(cellsFrom n sc.names []).lookup x=some c:=by
 have q:=PySem.W.cellsFrom_some sc.names n [] (.inl h)
 exact Bz.mp q
def Glh{CX:CXT}{P:BK}{w:World}{K:BE}{mg:Str->BJ BG}{base:Heap}{N ps:List Str}{qual:Str}{scope:Scope}{f:BI}{cd:BG}{A:Around}{outer:List Env}{s s1:BH}{H:Hp}{E:XK}{us:List BG}{vs:List V}
  (S:FnScope N ps scope) (hd:A.handled=none) (e0:Env0 P w K mg base A outer s H) (hl:vs.length=ps.length) (r:Vals vs us)
  (x:InCallC s s.heap.objs.size (bindL (envOfC qual scope s.heap.objs.size f cd).kindOf (ps.zip us) fun _=>none) (cellsFrom (s.heap.objs.size+1) scope.names []) (bindC (envOfC qual scope s.heap.objs.size f cd).kindOf (ps.zip us) fun _=>none) s1):
  Inv (Ud CX P w K mg base N qual scope f cd A outer s H E) [] (start N vs) H s1:=by
 have hpl:ps.length<=N.length:=by have:=congrArg List.length S.pre; rw[AT] at this; omega
 obtain⟨h1,tk,rfl,hk⟩:=x.done
 have noA:∀ b:BI,b∉(Ud CX P w K mg base N qual scope f cd A outer s H E).ex:=fun b z=>absurd (show b∈([]:List BI) from z) (by simp)
 refine⟨⟨e0.mod,S.kind,rfl,rfl,Ac _,fun y z c h1 h2=>?_,fun y hy=>?_,fun y c _ h=>?_,fun _=>hd,Around.frames_deeper e0.frames,.inr ⟨rfl,rfl⟩,fun b z=>absurd z (noA b),e0.bs,e0.bsz,fun b _ _=>noA b,fun b z=>absurd z (noA b),e0.funs,e0.frf⟩,
  rfl,e0.bare,Un.kept hk,⟨_,x.toInCall.ns,fun i y v h1 h2 h3=>?_⟩,fun y c h=>⟨_,x.cell y c h⟩,e0.hok.fresh (Ac _),fun y c h=>?_,fun p hp=>absurd (show p∈([]:List (BI×Obj)) from hp) (by simp),e0.hok.kept hk,?_⟩
 ·exact name_of_addr x.apart (PySem.mem_of_lookup h1) (PySem.mem_of_lookup h2)
 ·have hy:scope.names.lookup y=some .cell\/scope.names.lookup y=some .free:=hy
  rcases hy with hy | hy
  ·exact Gg5 hy
  ·exact absurd rfl (S.nofree _ (PySem.mem_of_lookup hy))
 ·exact Bd (x.above y c (PySem.mem_of_lookup h))
 ·have hi:i<vs.length:=by
   unfold start at h2
   by_cases hi:i<vs.length
   ·exact hi
   ·rw[AU (by simpa using hi)] at h2
    rw[List.getElem?_replicate] at h2
    split at h2<;>cases h2
  have ha:vs[i]?=some v:=by
   unfold start at h2
   rw[Aq (by simpa using hi),Ar] at h2
   cases e:vs[i]? with
   | none=>rw[e] at h2; cases h2
   | some a=>rw[e] at h2; cases h2; rfl
  obtain⟨u,hu,rv⟩:=r.get ha
  have hp:ps[i]?=some y:=by
   rw[<- S.pre,List.getElem?_take_of_lt (by omega)]; exact h1
  have ndP:ps.Nodup:=by rw[<- S.pre]; exact S.nd.sublist (List.take_sublist _ _)
  refine⟨u,rv,?_⟩
  rcases S.par y (Ak hp) with k | k
  ·exact .inl ⟨k,Ge4 ndP hp hu k⟩
  ·obtain⟨c,e⟩:=Gg5 (n:=s.heap.objs.size+1) k
   refine .inr ⟨.inl k,c,e,?_⟩
   have q:=x.cell y c e
   rw[Ge5 ndP hp hu (by show scope.names.lookup y≠_; rw[k]; decide)] at q
   exact q
 ·exact e0.hok.fresh (Bd (x.above y c (PySem.mem_of_lookup h)))
 ·unfold start
  show _=N.length
  rw[Aw,Ah,List.length_replicate]
  omega
def Gmq{CX:CXT}{P:BK}{w:World}{K:BE}{mg:Str->BJ BG}{base:Heap}{k:Nat}{f:BI}{name qual:Str}{params:Arguments}{body:List Stmt}{scope:Scope}{dV kV doc pm cdv ct oc:BG}{an od:BJ BI}
  {osl:Array (BJ BG)} {N ps:List Str} {sp:Sp} (lk:K.lookup f=some ⟨oc,od,.func (PySem.W.fnOf name qual params body scope dV kV doc pm an cdv ct),osl⟩) (hcd:PySem.W.codeIn K cdv qual=true) (S:FnScope N ps scope)
  (len:∀ vs H Q E,sp vs H Q E->vs.length=ps.length)
  (hbody:∀ (A:Around) (outer:List Env) (s:BH) (H:Hp) (vs:List V) (Q:VK) (E:XK),Room k (A.deeper (envOfC qual scope s.heap.objs.size f cdv))->sp vs H Q E→
   ∃ t,PSs (Ud CX P w K mg base N qual scope f cdv A outer s H E) body t/\t { nx:=fun _ H'=>Q .non H',rt:=Q } (start N vs) H):
  FnOk P w K mg base CX (k+1) f (PySem.W.fnOf name qual params body scope dV kV doc pm an cdv ct) ps sp:=by
 refine⟨len,fun A outer s H args us vs Q E hr e0 hb r hsp=>?_⟩
 have hl:=len _ _ _ _ hsp
 have KX:K.In s.heap:=e0.mod.kin.keeps fun b o e=>(e0.bs b o e).1
 have lim:s.heap.NoLimit:=e0.mod.nolimit.keeps fun b o e=>(e0.bs b o e).1
 have hkind:∀ y∈ps.zip us,scope.names.lookup y.1=some .local\/(scope.names.lookup y.1=some .cell/\((cellsFrom (s.heap.objs.size+1) scope.names []).lookup y.1).isSome=true):=fun⟨n,v⟩ hy=>by
  rcases S.par n (List.of_mem_zip hy).1 with q | q
  ·exact .inl q
  ·exact .inr ⟨q,PySem.W.cellsFrom_some _ _ _ (.inl q)⟩
 refine codeAny_call_function hr.depth (KX _ _ lk) rfl S.co S.gen rfl (PySem.W.codeRec_of KX hcd) (hb _ _ _ _ ?_)
 refine wpAny_newFunctionEnv_cells S.kind hkind fun env he s1 x=>?_
 subst he
 refine⟨lim.keeps x.toInCall.keep,codeAny_func ?_⟩
 obtain⟨t,ht,hq⟩:=hbody A outer s H vs Q E (hr.deeper _) hsp
 have I:Inv (Ud CX P w K mg base N qual scope f cdv A outer s H E) [] (start N vs) H s1:=Glh S hr.hd e0 hl r x
 refine wpAny_mono (ht [] s1 (start N vs) H _ I hq) (fun fl s' hs=>?_) fun e s' hs=>hs
 have fin:∀ {Z':St} {H':Hp} {v:V} {u:BG},Inv (Ud CX P w K mg base N qual scope f cdv A outer s H E) [] Z' H' s'->Hc v u->Q v H'->CE outer P w H s Q u s':=
  fun{Z' H' v u} J rv q=>⟨v,H',J.os,J.bare,J.base,J.hok,rv,q⟩
 cases fl with
 | ret u=>
  obtain⟨v,Z',H',J,rv,q⟩:=hs
  exact fin J rv q
 | next=>
  obtain⟨Z',H',J,q⟩:=hs
  exact fin (v:=V.non) (u:=Value.none) J rfl q
 | brk=>
  obtain⟨_,_,_,q⟩:=hs
  exact False.elim q
 | cont=>
  obtain⟨_,_,_,q⟩:=hs
  exact False.elim q
section
variable{X:Cx}{x:Str}{p pos:Pos}{e:Expr}{es:List Expr}{t:TA}{id T:String}{r:List V->Hp->VK->Prop}
def tCB(r:List V->Hp->VK->Prop)(t:TA):TE:=fun Z H Q=>t Z H fun vs H1=>r vs H1 Q
def Gal(hc:Yk X (.builtin id) r)(hg:Gl X x)(hm:X.mg x=none)(hv:bootBuiltins x=some (.builtin id))(ha:PA X (e::es) t)(hn:x≠"__name__":=by decide)(hdb:(x==("__debug__":Str))=false:=by decide)
  (he:starEach (e::es) X.env=(false,eval e X.env)::starEach es X.env:=by rfl) (hpl:(backTo pos (starEach es X.env)).any (·.1)=false:=by rfl):PE X (.Call (.Name x p) (e::es) [] pos) (tCB r t):=by
 intro pins s Z H Q I h
 refine wpAny_Call_Name_kw (Yj I hg hm hv ?_ hn hdb)
 exact PyProof.Rows.callWith_builtin1 (thn (ha pos pins s Z H _ I h) fun us s1 ⟨vs,H1,I1,r1,q1⟩=>hc pins s1 Z H1 vs us Q I1 r1 q1) he hpl
def Gli(hc:Yk X (.type T) r)(hg:Gl X x)(hm:X.mg x=none)(hv:bootBuiltins x=some (.type T))(ha:PA X (e::es) t)(hn:x≠"__name__":=by decide)(hdb:(x==("__debug__":Str))=false:=by decide)
  (he:starEach (e::es) X.env=(false,eval e X.env)::starEach es X.env:=by rfl) (hpl:(backTo pos (starEach es X.env)).any (·.1)=false:=by rfl):PE X (.Call (.Name x p) (e::es) [] pos) (tCB r t):=by
 intro pins s Z H Q I h
 refine wpAny_Call_Name_kw (Yj I hg hm hv ?_ hn hdb)
 exact PyProof.Rows.callWith_type1 (thn (ha pos pins s Z H _ I h) fun us s1 ⟨vs,H1,I1,r1,q1⟩=>hc pins s1 Z H1 vs us Q I1 r1 q1) he hpl
end
end L2
namespace HT
open PySem PyProof.Rows
section
open PySem.SeqAt
open PySem.AutoSeq1 (wpAny_loadPart')
open PySem.MeetsSeq PySem.MeetsSeq2 PySem.MeetsSeq3
end
section
variable{prog:BK}{w:World}{A:Around}{E:BG->BH->Prop}{s:BH}
def Gqq{t b:BI}{vs ws:List BG}{Q:BG->BH->Prop}(ht:IsTup s.heap t vs.toArray)(hb:IsTup s.heap b ws.toArray)(hv:vs≠[])
  (h1:ws=[]->Q (.ref t) s) (h2:ws≠[]->Q (.ref s.heap.objs.size) { s with heap:=s.heap.push { cls:=.type "tuple",data:=.seq (vs++ws).toArray } })
  (hsz:vs.length+ws.length<=sizeLine):wpAny (model prog w) A (binaryOp .Add (.ref t) (.ref b)) Q E s:=by
 obtain⟨⟨cls,dd,data,sl⟩,ho,hc,n,hd⟩:=id ht
 obtain⟨⟨cls2,dd2,data2,sl2⟩,ho2,hc2,n2,hd2⟩:=id hb
 simp only at hc hd hc2 hd2
 subst hc hd hc2 hd2
 have e:vs.toArray++ws.toArray=(vs++ws).toArray:=by simp
 by_cases hw:ws=[]
 ·exact concat_meets ⟨_,ho,rfl⟩ ⟨_,ho2,rfl⟩ noFill_tuple_add seq_tuple_add PySem.F.slot_tuple_add PySem.F.entry_tuple_add (PySem.F.args_tuple_add_2 _ _)
   (tuple_addW1 t b vs.toArray ws.toArray n n2 dd dd2 sl sl2 (by simpa using hv) (by simp[hw])) ⟨ho,ho2,h1 hw⟩
 ·refine concat_meets ⟨_,ho,rfl⟩ ⟨_,ho2,rfl⟩ noFill_tuple_add seq_tuple_add PySem.F.slot_tuple_add PySem.F.entry_tuple_add (PySem.F.args_tuple_add_2 _ _)
   (tuple_addW2 t b vs.toArray ws.toArray n n2 dd dd2 sl sl2 (by simpa using hv) (by simpa using hw) (by rw[An,An]; exact hsz)) ⟨ho,ho2,?_⟩
  rw[e]
  exact h2 hw
noncomputable def sIx(n d:Nat):BJ Int->Nat
 | none=>d
 | some v=>if v<0 then(v+(n:Int)).toNat else min v.toNat n
def Yl(n d:Nat):sIx n d none=d:=rfl
def Gcw(n d k:Nat):sIx n d (some (k:Int))=min k n:=by
 show(if(k:Int)<0 then((k:Int)+(n:Int)).toNat else min (k:Int).toNat n)=min k n
 rw[if_neg (by omega),AK]
def Gv7(n d:Nat)(hd:d<=n)(o:BJ Int):sIx n d o<=n:=by
 cases o with
 | none=>exact hd
 | some v=>
  show(if v<0 then(v+(n:Int)).toNat else min v.toNat n)<=n
  by_cases hv:v<0
  ·rw[if_pos hv]; omega
  ·rw[if_neg hv]; exact Nat.min_le_right _ _
def Gjj(v:Int)(n d:Nat):(if v<0 then max (v+(n:Int)) 0 else min v (n:Int))=((sIx n d (some v):Nat):Int):=by
 show(if v<0 then max (v+(n:Int)) 0 else min v (n:Int))=(((if v<0 then(v+(n:Int)).toNat else min v.toNat n):Nat):Int)
 by_cases hv:v<0
 ·simp only[if_pos hv]; omega
 ·simp only[if_neg hv]; omega
def Gig(lo hi:BJ Int)(n:Nat):Builtin.Slice.sliceAdjust lo hi 1 (n:Int)=(((sIx n 0 lo:Nat):Int),((sIx n n hi:Nat):Int)):=by
 have h1:¬ ((1:Int)<0):=by omega
 unfold Builtin.Slice.sliceAdjust
 simp only[h1,if_false]
 refine Prod.ext ?_ ?_
 ·cases lo with
  | none=>rfl
  | some v=>exact Gjj v n 0
 ·cases hi with
  | none=>rfl
  | some v=>exact Gjj v n n
def Gih(i j:Nat):Builtin.Slice.slicePlaces (i:Int) (j:Int) 1=j-i:=by
 unfold Builtin.Slice.slicePlaces
 have h1:(1:Int)>0:=by omega
 simp only[h1,if_true,Int.ediv_one]
 split<;>omega
def Gdd{v:BG}{o:BJ Int}{Q:BJ Int->BH->Prop}(p:IsPart v o)(h:Q o s):wpAny (model prog w) A (Builtin.Slice.slicePartIndex v) Q E s:=by
 cases p with
 | none=>exact slicePart_none h
 | int i t=>exact slicePart_int h
def Wz{sl:BI}{vl vu:BG}{lo hi:BJ Int}{n:Nat}{Q:Int×Int×Nat->BH->Prop}(hs:s.heap.IsSliceOf sl vl vu .none)(pl:IsPart vl lo)(pu:IsPart vu hi)
  (h:Q (((sIx n 0 lo:Nat):Int),1,sIx n n hi-sIx n 0 lo) s):wpAny (model prog w) A (Builtin.Slice.sliceApplied (.ref sl) (pure (n:Int))) Q E s:=by
 obtain⟨os,hos,hcs,hds⟩:=id hs
 unfold Builtin.Slice.sliceApplied Builtin.Slice.sliceFields
 refine wpAny_bind (wpAny_bind (wpAny_field hos hds (x:=vl) rfl (wpAny_bind (wpAny_field hos hds (x:=vu) rfl (wpAny_bind (wpAny_field hos hds (x:=.none) rfl (wpAny_pure ?_)))))))
 refine wpAny_bind (slicePart_none ?_)
 show wpAny _ _ (if((1:Int)==0)=true then _ else _) _ _ s
 rw[if_neg (by decide)]
 refine wpAny_bind (Gdd pl (wpAny_bind (Gdd pu (wpAny_bind (wpAny_pure ?_)))))
 show wpAny _ _ (match Builtin.Slice.sliceAdjust lo hi 1 (n:Int) with | (lo,hi)=>pure (lo,(1:Int),Builtin.Slice.slicePlaces lo hi 1)) _ _ s
 rw[Gig lo hi n]
 show wpAny _ _ (pure (((sIx n 0 lo:Nat):Int),(1:Int),Builtin.Slice.slicePlaces ((sIx n 0 lo:Nat):Int) ((sIx n n hi:Nat):Int) 1)) _ _ s
 rw[Gih]
 exact wpAny_pure h
def Gmr(xs:Array BG)(i k:Nat):((List.range k).filterMap fun(m:Nat)=>xs[((i:Int)+(m:Int)*1).toNat]?).toArray=((xs.toList.drop i).take k).toArray:=by
 have e:(fun(m:Nat)=>xs[((i:Int)+(m:Int)*1).toNat]?)=fun m=>xs[i+m]?:=by
  funext m
  have:((i:Int)+(m:Int)*1).toNat=i+m:=by omega
  rw[this]
 rw[e]
 have:=pick_run xs i k
 rw[List.filterMap_map] at this
 have e2:((fun x=>xs[x]?)∘fun x=>i+x)=fun m=>xs[i+m]?:=rfl
 rw[e2] at this
 rw[this]
def Gam{t sl:BI}{items:Array BG}{vl vu:BG}{lo hi:BJ Int}{Q:BG->BH->Prop}(ht:IsTup s.heap t items)(hs:s.heap.IsSliceOf sl vl vu .none)(pl:IsPart vl lo)(pu:IsPart vu hi)
  (hw:¬ (sIx items.size 0 lo=0/\sIx items.size items.size hi=items.size))
  (h:Q (.ref s.heap.objs.size) { s with heap:=s.heap.push { cls:=.type "tuple",data:=.seq ((items.toList.drop (sIx items.size 0 lo)).take (sIx items.size items.size hi-sIx items.size 0 lo)).toArray } })
  (hsz:items.size<=sizeLine):wpAny (model prog w) A (getItem (.ref t) (.ref sl)) Q E s:=by
 have htake:sizeOk (.seq ((items.toList.drop (sIx items.size 0 lo)).take (sIx items.size items.size hi-sIx items.size 0 lo)).toArray):=by
  show((items.toList.drop (sIx items.size 0 lo)).take (sIx items.size items.size hi-sIx items.size 0 lo)).toArray.size<=sizeLine
  rw[An,AT,List.length_drop,Array.length_toList]
  omega
 have hj:sIx items.size items.size hi<=items.size:=Gv7 _ _ (Ac _) hi
 obtain⟨os,hos,hcs,hds⟩:=id hs
 have hTs:s.TypeIs (.ref sl) "slice":=⟨os,hos,hcs⟩
 unfold getItem
 try with_reducible refine wpAny_holding ?_
 first | refine wpAny_bind (wpAny_pure ?_) | skip
 refine wpAny_bind (wpAny_sequenceKey ht.typeIs (by decide) ?_)
 refine wpAny_bind (wpAny_callSpecial?_slot (name:=Str.ofString "__getitem__") ht.typeIs PyProof.Rows.slot_tuple_getitem
  (wpAny_call_entry PyProof.Rows.slot_tuple_getitem ht.typeIs entry_tuple_getitem ?_ (args_tuple_getitem _ _)))
 show wpAny _ _ (Builtin.Tuple.tupleItemsOf (.ref t) >>= _) _ _ s
 refine wpAny_bind (tupleItemsOf_ ht ?_)
 refine wpAny_bind (wpAny_typeOf hTs ?_)
 rw[if_pos (by decide)]
 refine wpAny_bind (Wz hs pl pu ?_)
 have hno:¬ ((((sIx items.size 0 lo:Nat):Int)==0&&(1:Int)==1&&(sIx items.size items.size hi-sIx items.size 0 lo)==items.size)=true):=by
  intro q
  rw[At,At] at q
  have q1:((sIx items.size 0 lo:Nat):Int)=0:=eq_of_beq q.1.1
  have q2:sIx items.size items.size hi-sIx items.size 0 lo=items.size:=eq_of_beq q.2
  exact hw ⟨by omega,by omega⟩
 show wpAny _ _ (if(((sIx items.size 0 lo:Nat):Int)==0&&(1:Int)==1&&(sIx items.size items.size hi-sIx items.size 0 lo)==items.size)=true then _ else _) _ _ s
 rw[if_neg hno,Gmr]
 first
  | exact wpAny_bind (m:=Builtin.Tuple.tupleExact _) (wpAny_newObj_type (wpAny_pure ⟨_,rfl,wpAny_pure h⟩) htake)
  | exact wpAny_bind (m:=Builtin.Tuple.tupleExact _) (wpAny_newObj_type (wpAny_bind (wpAny_pure (wpAny_pure ⟨_,rfl,wpAny_pure h⟩))) htake)
  | exact wpAny_bind (wpAny_bind (m:=Builtin.Tuple.tupleExact _) (wpAny_newObj_type (wpAny_pure (wpAny_pure ⟨_,rfl,wpAny_pure h⟩)) htake))
  | exact wpAny_bind (wpAny_bind (m:=Builtin.Tuple.tupleExact _) (wpAny_newObj_type (wpAny_pure ⟨_,rfl,wpAny_pure h⟩) htake))
end
end HT
namespace L2
open PySem PySem.Spec PyProof.Rows
variable{xs:List V}{us its:List BG}{n:Nat}{O:Type}{pins:List (BI×Obj)}{Z:St}{H:Hp}
abbrev TO:=St->Hp->(BJ Int->Hp->Prop)->Prop
def PO(X:Cx)(e:BJ Expr)(t:TO):Prop:=
 ∀ (pins:List (BI×Obj)) (s:BH) (Z:St) (H:Hp) (Q:BJ Int->Hp->Prop),Inv X pins Z H s->t Z H Q→
  wpAny (model X.prog X.w) X.A (evalPart e X.env) (fun u s'=>∃ o H',Inv X pins Z H' s'/\IsPart u o/\Q o H') X.xe s
def Gqr:TO:=fun _ H Q=>Q none H
def Hao(t:TE):TO:=fun Z H Q=>t Z H fun x H1=>∃ i,x=.int i/\Q (some i) H1
section
variable{X:Cx}{e:Expr}{te:TE}{lo hi:BJ Expr}{tl th:TO}{pos p2:Pos}
def Gqs:PO X none Gqr:=by
 intro pins s Z H Q I h
 rw[evalPart_none]
 exact wpAny_pure ⟨none,H,I,.none,h⟩
def Gqt(h:PE X e te):PO X (some e) (Hao te):=by
 intro pins s Z H Q I hw
 rw[evalPart_some]
 refine thn (h pins s Z H _ I hw) fun u s1 ⟨x,H1,I1,r1,q1⟩=>?_
 obtain⟨i,rfl,q⟩:=q1
 obtain⟨t,rfl⟩:=r1
 exact⟨some i,H1,I1,.int i t,q⟩
def SlR(X:Cx)(r:V->BJ Int->BJ Int->Hp->VK->Prop):Prop:=
 ∀ (pins:List (BI×Obj)) (s:BH) (Z:St) (H:Hp) (x:V) (v vl vu:BG) (lo hi:BJ Int) (sl:BI) (Q:VK),Inv X pins Z H s->Hc x v->s.heap.IsSliceOf sl vl vu .none->IsPart vl lo->IsPart vu hi->r x lo hi H Q→
  ∃ T id,typeLookup (.type T) "__getitem__"=pure (some (.builtin id))/\s.TypeIs v T/\wpAny (model X.prog X.w) X.A (getItem v (.ref sl)) (EP X pins Z Q) X.xe s
def SlR.or{r r':V->BJ Int->BJ Int->Hp->VK->Prop}(h:SlR X r)(h':SlR X r'):SlR X (fun x lo hi H Q=>r x lo hi H Q\/r' x lo hi H Q):=by
 intro pins s Z H x v vl vu lo hi sl Q I rx hs pl pu q
 rcases q with q | q
 ·exact h pins s Z H x v vl vu lo hi sl Q I rx hs pl pu q
 ·exact h' pins s Z H x v vl vu lo hi sl Q I rx hs pl pu q
def tSl(r:V->BJ Int->BJ Int->Hp->VK->Prop)(te:TE)(tl th:TO):TE:=fun Z H Q=>te Z H fun x H1=>tl Z H1 fun l H2=>th Z H2 fun u H3=>r x l u H3 Q
def Gms{r:V->BJ Int->BJ Int->Hp->VK->Prop}(hr:SlR X r)(he:PE X e te)(hl:PO X lo tl)(hu:PO X hi th):PE X (.Subscript e (.Slice lo hi none p2) pos) (tSl r te tl th):=by
 intro pins s Z H Q I h
 refine Subscript_ (thn (he pins s Z H _ I h) fun v s1 ⟨x,H1,I1,r1,q1⟩=>?_)
 refine wpAny_Slice (thn (hl pins s1 Z H1 _ I1 q1) fun vl s2 ⟨l,H2,I2,pl,q2⟩=>thn (hu pins s2 Z H2 _ I2 q2) fun vu s3 ⟨u,H3,I3,pu,q3⟩=>?_)
 rw[evalPart_none]
 refine wpAny_pure ?_
 have I4:Inv X pins Z H3 { s3 with heap:=s3.heap.push { cls:=.type "slice",data:=.fields #[vl,vu,.none] } }:=I3.kept (t':=s3.toks) fun b ob q=>Ap _ q
 obtain⟨T,id,hT,ht,hg⟩:=hr pins { s3 with heap:=s3.heap.push { cls:=.type "slice",data:=.fields #[vl,vu,.none] } } Z H3 x v vl vu l u s3.heap.objs.size Q I4 r1 (Heap.IsSliceOf.new ..) pl pu q3
 show wpAny (model X.prog X.w) X.A (subscriptTail e (.Slice lo hi none p2) v (.ref s3.heap.objs.size)) (EP X pins Z Q) X.xe { s3 with heap:=s3.heap.push { cls:=.type "slice",data:=.fields #[vl,vu,.none] } }
 exact tail_any (ops:=[.ref s3.heap.objs.size,v]) ht hT hg (by with_unfolding_all rfl)
def Gg6(xs:List V)(lo hi:BJ Int):List V:=(xs.drop (HT.sIx xs.length 0 lo)).take (HT.sIx xs.length xs.length hi-HT.sIx xs.length 0 lo)
def Gb9(xs:List V)(lo hi:BJ Int):(Gg6 xs lo hi).length<=xs.length:=by
 unfold Gg6
 rw[AT,List.length_drop]
 omega
def Hdu(K:BE):V->BJ Int->BJ Int->Hp->VK->Prop:=fun x lo hi H Q=>∃ a xs,x=.ref a/\SqT K H a xs∧
 ¬ (HT.sIx xs.length 0 lo=0/\HT.sIx xs.length xs.length hi=xs.length)/\∀ p,H p=none->Q (.ref p) (upd H p (.tup (Gg6 xs lo hi)))
def Gv8:SlR X (Hdu X.K):=by
 intro pins s Z H x v vl vu lo hi sl Q I rx hs pl pu h
 obtain⟨a,xs,rfl,hx,hw,q⟩:=h
 cases rx
 obtain⟨its,r,ht,hz⟩:=I.tuple hx
 have hlen:its.toArray.size=xs.length:=by rw[An]; exact r.length.symm
 refine⟨"tuple",_,PyProof.Rows.slot_tuple_getitem.lookup,ht.typeIs,?_⟩
 refine HT.Gam ht hs pl pu (by rw[hlen]; exact hw) ?_ (by rw[hlen]; exact hz)
 rw[hlen]
 refine⟨.ref s.heap.objs.size,_,I.laid (t':=s.toks) (o:=.tup (Gg6 xs lo hi)) (fun b ob q=>Ap _ q) (Ac _) ?_,rfl,q _ (I.hok.fresh (Ac _))⟩
 exact⟨Am (Gb9 xs lo hi) hz,_,(r.drop (HT.sIx xs.length 0 lo)).take (HT.sIx xs.length xs.length hi-HT.sIx xs.length 0 lo),IsTup.new _ _⟩
def Gt4(K:BE):R2:=fun x y H Q=>∃ a b xs ys,x=.ref a/\y=.ref b/\SqT K H a xs/\SqT K H b ys/\xs≠[]/\xs.length+ys.length<=sizeLine∧
 (ys=[]->Q (.ref a) H)/\(ys≠[]->∀ p,H p=none->Q (.ref p) (upd H p (.tup (xs++ys))))
def Vals.nil_iff(r:Vals xs us):us=[]↔xs=[]:=by
 cases r with
 | nil=>simp
 | cons _ _=>simp
def Gqu:OpR X (binaryOp .Add) (Gt4 X.K):=by
 intro pins s Z H x y v u Q I rx ry h
 obtain⟨a,b,xs,ys,rfl,rfl,ha,hb,hx,hz,q1,q2⟩:=h
 cases rx
 cases ry
 obtain⟨its,r1,p1,_⟩:=I.tuple ha
 obtain⟨its2,r2,p2,_⟩:=I.tuple hb
 refine HT.Gqq p1 p2 (fun z=>hx (r1.nil_iff.mp z)) (fun z=>⟨.ref a,H,I,rfl,q1 (r2.nil_iff.mp z)⟩) (fun z=>?_) (by rw[<- r1.length,<- r2.length]; exact hz)
 refine⟨.ref s.heap.objs.size,_,I.laid (t':=s.toks) (o:=.tup (xs++ys)) (fun b ob q=>Ap _ q) (Ac _) ?_,rfl,q2 (fun w=>z (r2.nil_iff.mpr w)) _ (I.hok.fresh (Ac _))⟩
 exact⟨by rw[Aw]; exact hz,_,r1.append r2,IsTup.new _ _⟩
end
noncomputable def ixN(n:Nat)(i:Int):BJ Nat:=if 0<=i then(if i<n then some i.toNat else none) else if -(n:Int)<=i then some (i+n).toNat else none
def atI{O:Type}(xs:List O)(i:Int):BJ O:=(ixN xs.length i).bind fun j=>xs[j]?
def Gjk{i:Int}{j:Nat}(h:ixN n i=some j):seqIndex? i n=some j/\j<n /\ -(n:Int)<=i/\i<n:=by
 unfold ixN at h
 by_cases h0:0<=i
 ·rw[if_pos h0] at h
  by_cases h1:i<n
  ·rw[if_pos h1] at h
   have e:i.toNat=j:=Ab h
   exact⟨by rw[seqIndex_of h0 h1,e],by omega,by omega,h1⟩
  ·rw[if_neg h1] at h; cases h
 ·rw[if_neg h0] at h
  by_cases h1 : -(n:Int)<=i
  ·rw[if_pos h1] at h
   have e:(i+n).toNat=j:=Ab h
   exact⟨by rw[seqIndex_neg (by omega) h1,e],by omega,h1,by omega⟩
  ·rw[if_neg h1] at h; cases h
def Gfo{xs:List O}{i:Int}{v:O}(h:atI xs i=some v):∃ j,seqIndex? i xs.length=some j/\xs[j]?=some v/\j<xs.length /\ -(xs.length:Int)<=i/\i<xs.length:=by
 unfold atI at h
 cases e:ixN xs.length i with
 | none=>rw[e] at h; cases h
 | some j=>
  rw[e] at h
  obtain⟨h1,h2,h3,h4⟩:=Gjk e
  exact⟨j,h1,h,h2,h3,h4⟩
def Gan(b:Expr):Prop:=∀ o i,subscripted b false o i=operate [o,i] (getItem o i)
def IxR(X:Cx)(r:R2):Prop:=
 ∀ (value slice:Expr) (pins:List (BI×Obj)) (s:BH) (Z:St) (H:Hp) (x y:V) (v u:BG) (Q:VK),Inv X pins Z H s->Hc x v->Hc y u->r x y H Q→
  subscripted slice false v u=operate [v,u] (getItem v u)->wpAny (model X.prog X.w) X.A (subscriptTail value slice v u) (EP X pins Z Q) X.xe s
def MtR(X:Cx)(id:String)(r:V->List V->Hp->VK->Prop):Prop:=
 ∀ (pins:List (BI×Obj)) (s:BH) (Z:St) (H:Hp) (x:V) (xs:List V) (v:BG) (us:List BG) (Q:VK),Inv X pins Z H s->Hc x v->Vals xs us->r x xs H Q→
  wpAny (model X.prog X.w) X.A (call (.builtin id) (v::us)) (EP X pins Z Q) X.xe s
section
variable{X:Cx}{a b:Expr}{ta tb:TE}{pos:Pos}
def IxR.or{r r':R2}(h:IxR X r)(h':IxR X r'):IxR X (fun x y H Q=>r x y H Q\/r' x y H Q):=by
 intro value slice pins s Z H x y v u Q I rx ry q hs
 rcases q with q | q
 ·exact h value slice pins s Z H x y v u Q I rx ry q hs
 ·exact h' value slice pins s Z H x y v u Q I rx ry q hs
def Hap{r:R2}(hr:IxR X r)(ha:PE X a ta)(hb:PE X b tb)(hs:Gan b):PE X (.Subscript a b pos) (tOp r ta tb):=by
 intro pins s Z H Q I h
 exact Subscript_ (Gvu ha hb I h fun v u s2 x y H2 I2 rx ry q=>hr a b pins s2 Z H2 x y v u Q I2 rx ry q (hs _ _))
def Haq(K:BE):R2:=fun x y H Q=>∃ p xs i v,x=.ref p/\y=.int i/\SqL K H p xs/\atI xs i=some v/\Q v H
def Har(K:BE):R2:=fun x y H Q=>∃ p xs i v,x=.ref p/\y=.int i/\SqT K H p xs/\atI xs i=some v/\Q v H
def Has:R2:=fun x y H Q=>∃ z i c,x=.str z/\y=.int i/\z.length<=sizeLine/\atI z.cps.toList i=some c/\Q (.str ⟨#[c]⟩) H
def Gqv:IxR X (Haq X.K):=by
 intro value slice pins s Z H x y v u Q I rx ry h hs
 obtain⟨p,xs,i,z,rfl,rfl,hq,he,q⟩:=h
 cases rx
 obtain⟨t,rfl⟩:=ry
 obtain⟨its,r,pl,hz⟩:=I.list hq
 obtain⟨j,h1,h2,h3,h4,h5⟩:=Gfo he
 obtain⟨w,ew,rw'⟩:=r.get h2
 have hl:=r.length
 have hn:=Gab
 have fin:EP X pins Z Q w s:=⟨z,H,I,rw',q⟩
 by_cases h0:0<=i
 ·have hj:i.toNat=j:=by
   rw[seqIndex_of h0 h5] at h1
   exact Ab h1
  exact item_listR pl.isList h0 (by omega) (by rw[hj]; simpa using ew) fin hs
 ·have hj:(i+(its.toArray.size:Int)).toNat=j:=by
   rw[seqIndex_neg (by omega) h4] at h1
   rw[An,<- hl]
   exact Ab h1
  exact subscriptTail_builtinR (x:=w) pl.isList.typeIs slot_list_getitem.lookup
   (wpAny_getItem_list_neg (Q:=fun r s'=>r=w/\EP X pins Z Q r s') pl.isList (by omega) (by rw[An]<;>omega) (by omega) (by rw[hj]; simpa using ew) ⟨rfl,fin⟩) hs
def Gv9:IxR X (Har X.K):=by
 intro value slice pins s Z H x y v u Q I rx ry h hs
 obtain⟨p,xs,i,z,rfl,rfl,hq,he,q⟩:=h
 cases rx
 obtain⟨t,rfl⟩:=ry
 obtain⟨its,r,pl,hz⟩:=I.tuple hq
 obtain⟨j,h1,h2,h3,h4,h5⟩:=Gfo he
 obtain⟨w,ew,rw'⟩:=r.get h2
 have hl:=r.length
 have hn:=Gab
 have fin:EP X pins Z Q w s:=⟨z,H,I,rw',q⟩
 exact subscriptTail_builtinR (x:=w) pl.typeIs slot_tuple_getitem.lookup
  (getItem_tuple (j:=j) (Q:=fun r s'=>r=w/\EP X pins Z Q r s') pl (by omega) (by omega) (by rw[An,<- hl]; exact h1) (by simpa using ew) ⟨rfl,fin⟩) hs
def Gwa:IxR X Has:=by
 intro value slice pins s Z H x y v u Q I rx ry h hs
 obtain⟨z,i,c,rfl,rfl,hz,he,q⟩:=h
 obtain⟨t,rfl⟩:=rx
 obtain⟨t',rfl⟩:=ry
 obtain⟨j,h1,h2,h3,h4,h5⟩:=Gfo he
 have hl:z.cps.toList.length=z.length:=by simp[Str.length]
 rw[hl] at h1 h4 h5
 have hn:=Gab
 exact tail_any (typeIs_str s z t) slot_str_getitem.lookup (getItem_str (c:=c) (by
  have e1:decide (i < -(2^63:Int))=false:=decide_eq_false (by omega)
  have e2:decide (i≥2^63)=false:=decide_eq_false (by omega)
  rw[e1,e2,Bool.or_false]) (by rw[h1]; simpa using h2) ⟨.str ⟨#[c]⟩,H,I.tok _,⟨_,rfl⟩,q⟩) hs
def rIx(K:BE):R2:=fun x y H Q=>Haq K x y H Q\/Har K x y H Q\/Has x y H Q
def Gwb:IxR X (rIx X.K):=Gqv.or (Gv9.or Gwa)
def Gii(its:List BG)(n j:Nat)(u:BG):Obj.mapSeq (·.setIfInBounds j u) { cls:=.type "list",data:=.seq its.toArray n }={ cls:=.type "list",data:=.seq (its.set j u).toArray n }:=by
 simp[Obj.mapSeq]
def Inv.lst{s:BH}{p:BI}(I:Inv X pins Z H s)(h:H p=some (.lst xs)):
  ∃ (its:List BG) (n:Nat),Vals xs its/\s.heap.get? p=some { cls:=.type "list",data:=.seq its.toArray n }/\xs.length<=sizeLine:=by
 obtain⟨z,its,n,r,e⟩:=I.hok p _ h
 exact⟨its,n,r,e,z⟩
def Inv.lstUpd{s:BH}{p:BI}{ys:List V}{its':List BG}{n':Nat}{f:Obj->Obj}(I:Inv X pins Z H s)(h:H p=some (.lst xs))(ho:s.heap.get? p=some { cls:=.type "list",data:=.seq its.toArray n })(hf:f { cls:=.type "list",data:=.seq its.toArray n }={ cls:=.type "list",data:=.seq its'.toArray n' })(r:Vals ys its')(hz:ys.length<=sizeLine)(t:Nat):
  Inv X pins Z (upd H p (.lst ys)) { s with heap:=s.heap.update p f,toks:=t }:=by
 have e:(s.heap.update p f).get? p=some { cls:=.type "list",data:=.seq its'.toArray n' }:=by
  rw[A1 f ho (by rw[hf]<;>rfl),hf]
 refine I.write (x:=p) (e:=p) (by rw[h]; trivial) (.inl rfl) (fun b u hb q=>(AL _ _ (Ne.symm hb)).trans q) ⟨_,e⟩ ?_
 exact⟨hz,its',n',r,e⟩
def Gt5:V->V->V->Hp->(Hp->Prop)->Prop:=fun o i v H Q=>∃ p xs k j,o=.ref p/\i=.int k/\H p=some (.lst xs)/\ixN xs.length k=some j/\Q (upd H p (.lst (xs.set j v)))
def Gmt:Gqi X Gt5:=by
 intro pins s Z H o i v ov iv u Q I ro ri rv h
 obtain⟨p,xs,k,j,rfl,rfl,hp,hj,q⟩:=h
 cases ro
 obtain⟨t,rfl⟩:=ri
 obtain⟨its,n,r,ho,hz⟩:=I.lst hp
 obtain⟨h1,h2,h3,h4⟩:=Gjk hj
 have hl:=r.length
 have hn:=Gab
 have I':Inv X pins Z (upd H p (.lst (xs.set j v))) { s with heap:=s.heap.update p (Obj.mapSeq (·.setIfInBounds j u)) }:=
  I.lstUpd hp ho (Gii its n j u) (r.set rv j) (by rw[A2]; exact hz) s.toks
 by_cases h0:0<=k
 ·have hk:k.toNat=j:=by
   rw[seqIndex_of h0 h4] at h1
   exact Ab h1
  exact PySem.W.ki_setAt ho h0 (by omega) (by rw[An,<- hl]; exact h4) (by rw[hk]; exact⟨_,I',q⟩)
 ·have hk:(k+(its.toArray.size:Int)).toNat=j:=by
   rw[seqIndex_neg (by omega) h3] at h1
   rw[An,<- hl]
   exact Ab h1
  exact PySem.W.ki_setBack ho (by omega) (by rw[An,<- hl]; exact h3) (by omega) (by rw[hk]; exact⟨_,I',q⟩)
def Gfp(lo hi:BJ Int)(n:Nat):(sliceBounds lo hi none n).1=((HT.sIx n 0 lo:Nat):Int)/\(sliceBounds lo hi none n).2.1=((HT.sIx n n hi:Nat):Int)/\(sliceBounds lo hi none n).2.2=1:=by
 refine⟨?_,?_,rfl⟩
 ·cases lo with
  | none=>simp[sliceBounds,HT.sIx]
  | some i=>
   simp only[sliceBounds,HT.sIx,Option.getD_none,show(1:Int)>0 by decide,if_true]
   by_cases h:i<0
   ·simp only[h,if_true]<;>omega
   ·simp only[h,if_false]<;>omega
 ·cases hi with
  | none=>simp[sliceBounds,HT.sIx]
  | some i=>
   simp only[sliceBounds,HT.sIx,Option.getD_none,show(1:Int)>0 by decide,if_true]
   by_cases h:i<0
   ·simp only[h,if_true]<;>omega
   ·simp only[h,if_false]<;>omega
def Geg(its:List BG)(lo hi:BJ Int):slicePick its.toArray lo hi none=((its.drop (HT.sIx its.length 0 lo)).take (HT.sIx its.length its.length hi-HT.sIx its.length 0 lo)).toArray:=by
 obtain⟨h1,h2,h3⟩:=Gfp lo hi its.toArray.size
 unfold slicePick
 rw[h1,h2,h3]
 simp only[sliceRange_one,pick_run,An]<;>rfl
def Hdv(K:BE):V->BJ Int->BJ Int->Hp->VK->Prop:=fun x lo hi H Q=>∃ a xs,x=.ref a/\SqL K H a xs/\∀ p,H p=none->Q (.ref p) (upd H p (.lst (Gg6 xs lo hi)))
def Gqw:SlR X (Hdv X.K):=by
 intro pins s Z H x v vl vu lo hi sl Q I rx hs pl pu h
 obtain⟨a,xs,rfl,hx,q⟩:=h
 cases rx
 obtain⟨its,r,ht,hz⟩:=I.list hx
 have hlen:=r.length
 refine⟨"list",_,slot_list_getitem.lookup,ht.isList.typeIs,?_⟩
 refine wpAny_getItem_list_slice ht.isList hs pl pu .none (by simp) ?_ (by rw[An]<;>omega)
 rw[Geg,<- hlen]
 refine⟨.ref s.heap.objs.size,_,I.laid (t':=s.toks) (o:=.lst (Gg6 xs lo hi)) (fun b ob q=>Ap _ q) (Ac _) ?_,rfl,q _ (I.hok.fresh (Ac _))⟩
 exact⟨Am (Gb9 xs lo hi) hz,_,0,(r.drop (HT.sIx xs.length 0 lo)).take (HT.sIx xs.length xs.length hi-HT.sIx xs.length 0 lo),AF _ rfl⟩
def Gfq:Yk X (.type "list") (fun xs H Q=>∃ p ys,xs=[.ref p]/\(SqL X.K H p ys\/SqT X.K H p ys)/\∀ l,H l=none->Q (.ref l) (upd H l (.lst ys))):=by
 intro pins s Z H xs us Q I r h
 obtain⟨p,ys,rfl,hq,q⟩:=h
 obtain⟨u,rfl,rx⟩:=Gdc r
 cases rx
 have fin:∀ (its:List BG),Vals ys its->ys.length<=sizeLine->∀ (h':Heap) (c':Nat),(∀ b o',s.heap.get? b=some o'->h'.get? b=some o')→
   h'.get? s.heap.objs.size=some { cls:=.type "list",dict:=none,data:=.seq its.toArray c',slots:=#[] }->EP X pins Z Q (.ref s.heap.objs.size) { s with heap:=h' }:=fun its r' hz h' c' kp e=>
  ⟨.ref s.heap.objs.size,_,I.laid (t':=s.toks) kp (Ac _) (show Kh X.prog X.w _ h' _ (.lst ys) from⟨hz,its,c',r',e⟩),rfl,q _ (I.hok.fresh (Ac _))⟩
 rcases hq with hq | hq
 ·obtain⟨its,r',pl,hz⟩:=I.list hq
  have hlen:=r'.length
  obtain⟨o,ho,hc,n,hd⟩:=pl.isList
  exact call_list_seq p (.inl rfl) ho hc hd (fun h' c' kp e=>fin its r' hz h' c' kp e) (by simp only[An]<;>omega)
 ·obtain⟨its,r',pl,hz⟩:=I.tuple hq
  have hlen:=r'.length
  obtain⟨o,ho,hc,n,hd⟩:=pl
  exact call_list_seq p (.inr rfl) ho hc hd (fun h' c' kp e=>fin its r' hz h' c' kp e) (by simp only[An]<;>omega)
def Geh:Yk X (.type "tuple") (fun xs H Q=>∃ p ys,xs=[.ref p]/\((SqL X.K H p ys/\∀ l,H l=none->Q (.ref l) (upd H l (.tup ys)))\/(SqT X.K H p ys/\Q (.ref p) H))):=by
 intro pins s Z H xs us Q I r h
 obtain⟨p,ys,rfl,h⟩:=h
 obtain⟨u,rfl,rx⟩:=Gdc r
 cases rx
 rcases h with⟨hq,q⟩ | ⟨hq,q⟩
 ·obtain⟨its,r',pl,hz⟩:=I.list hq
  have hlen:=r'.length
  refine call_tuple_list pl.isList (fun h' kp=>?_) (by simp only[An]<;>omega)
  have I1:Inv X pins Z H { s with heap:=h' }:=I.kept (t':=s.toks) kp
  have I2:Inv X pins Z (upd H h'.objs.size (.tup ys)) { s with heap:=h'.push { cls:=.type "tuple",data:=.seq its.toArray } }:=
   I1.laid (t':=s.toks) (fun b o e=>Ap _ e) (Ac _) (show Kh X.prog X.w _ _ _ (.tup ys) from⟨hz,its,r',IsTup.new _ _⟩)
  exact⟨.ref h'.objs.size,_,I2,rfl,q _ (I1.hok.fresh (Ac _))⟩
 ·obtain⟨its,r',pl,hz⟩:=I.tuple hq
  exact call_tuple_same pl ⟨.ref p,H,I,rfl,q⟩
def tyV(K:BE)(T:String)(x:V)(H:Hp):Prop:=match x with
 | .str _=>T="str"
 | .int _=>T="int"
 | .ref p=>(T="list"/\∃ xs,SqL K H p xs)\/(T="tuple"/\∃ o,K.lookup p=some o/\o.cls=.type "tuple"/\o.dict=none)∨
   (T="dict"/\((∃ kvs,H p=some (.dK kvs))\/∃ kvs,H p=some (.dT kvs)))\/(T="set"/\∃ S n,H p=some (.set S n))
 | _=>False
def Gmu{s:BH}{T:String}{x:V}{v:BG}(I:Inv X pins Z H s)(r:Hc x v)(ty:tyV X.K T x H):
  s.TypeIs v T/\∀ a,v=.ref a->∃ ob,s.heap.get? a=some ob/\ob.dict=none:=by
 cases x with
 | str z=>
  obtain⟨t,rfl⟩:=r
  cases (show T="str" from ty)
  exact⟨typeIs_str s z t,fun _ e=>nomatch e⟩
 | int i=>
  obtain⟨t,rfl⟩:=r
  cases (show T="int" from ty)
  exact⟨typeIs_int s i t,fun _ e=>nomatch e⟩
 | ref p=>
  cases r
  rcases ty with⟨rfl,xs,hq⟩ | ⟨rfl,o,hk,hc,hd⟩ | ⟨rfl,hk⟩ | ⟨rfl,S,n,hk⟩
  ·obtain⟨its,_,pl,_⟩:=I.list hq
   refine⟨pl.isList.typeIs,fun a e=>?_⟩
   cases e
   obtain⟨o,n,e,c,hd,_⟩:=pl
   exact⟨o,e,hd⟩
  ·refine⟨⟨o,I.kIn p o hk,hc⟩,fun a e=>?_⟩
   cases e
   exact⟨o,I.kIn _ o hk,hd⟩
  ·have z:∃ o,s.heap.get? p=some o/\o.ExactDict:=by
    rcases hk with⟨kvs,hk⟩ | ⟨kvs,hk⟩
    ·obtain⟨_,_,_,_,o,_,_,e,ex,_⟩:=I.hok p _ hk
     exact⟨o,e,ex⟩
    ·obtain⟨_,_,_,_,o,_,_,e,ex,_⟩:=I.hok p _ hk
     exact⟨o,e,ex⟩
   obtain⟨o,e,ex⟩:=z
   refine⟨⟨o,e,ex.1⟩,fun a e2=>?_⟩
   cases e2
   exact⟨o,e,ex.2.1⟩
  ·obtain⟨o,_,_,_,e,ex,_⟩:=I.hok p _ hk
   refine⟨⟨o,e,ex.1⟩,fun a e2=>?_⟩
   cases e2
   exact⟨o,e,ex.2.1⟩
 | _=>exact False.elim ty
def Hdw(K:BE)(T:String)(r:V->List V->Hp->VK->Prop)(to:TE):TE:=fun Z H Q=>to Z H fun x H1=>tyV K T x H1/\r x [] H1 Q
def tBM(K:BE)(T:String)(r:V->List V->Hp->VK->Prop)(to:TE)(t:TA):TE:=fun Z H Q=>to Z H fun x H1=>tyV K T x H1/\t Z H1 fun xs H2=>r x xs H2 Q
variable{o e:Expr}{es:List Expr}{to:TE}{t:TA}{name:Str}{apos cpos:Pos}{T id:String}{r:V->List V->Hp->VK->Prop}
noncomputable def Gwc(pa:PlainAttrs T)(slot:Slot T name id)(hty:typeOf (.builtin id)=pure (.type "method_descriptor"))(hm:MtR X id r)(ho:PE X o to)
  (hbase:attributeBase o name X.env (eval o X.env)=eval o X.env:=by rfl) (hline:(apos.endLine==cpos.line)=true:=by rfl):PE X (.Call (.Attribute o name apos) [] [] cpos) (Hdw X.K T r to):=by
 intro pins s Z H Q I h
 refine wpAny_Call_method0_late hbase hline (thn (ho pins s Z H _ I h) fun v s1 ⟨x,H1,I1,r1,ty,q1⟩=>?_)
 obtain⟨h1,h2⟩:=Gmu I1 r1 ty
 exact⟨T,id,pa,slot,hty,h1,h2,Calls.callWith_builtin rfl (PySem.evalArgs_none (hm pins s1 Z H1 x [] v [] Q I1 r1 .nil q1))⟩
def Hat(pa:PlainAttrs T)(slot:Slot T name id)(hty:typeOf (.builtin id)=pure (.type "method_descriptor"))(hm:MtR X id r)(ho:PE X o to)(ha:PA X (e::es) t)
  (hbase:attributeBase o name X.env (eval o X.env)=eval o X.env:=by rfl)
  (hfew:((backTo cpos (starEach (e::es) X.env)).all (fun x=>!x.1)&&(backToKw cpos (keywordEach [] X.env)).all (fun x=>x.1.isSome)
   && decide ((e::es).length+([]:List Keyword).length+(if([]:List Keyword).isEmpty then 0 else 1)<30))=true:=by rfl)
  (hline:(apos.endLine==cpos.line)=true:=by rfl) (hs:starEach (e::es) X.env=(false,eval e X.env)::starEach es X.env:=by rfl) (hplain:(backTo cpos (starEach es X.env)).any (·.1)=false:=by rfl):
  PE X (.Call (.Attribute o name apos) (e::es) [] cpos) (tBM X.K T r to t):=by
 intro pins s Z H Q I h
 refine wpAny_Call_method_late hbase hfew hline rfl (thn (ho pins s Z H _ I h) fun v s1 ⟨x,H1,I1,r1,ty,q1⟩=>?_)
 obtain⟨h1,h2⟩:=Gmu I1 r1 ty
 refine⟨T,id,pa,slot,hty,h1,h2,?_⟩
 have hA:=ha cpos pins s1 Z H1 _ I1 q1
 rw[hs] at hA ⊢
 refine Calls.callWith_builtin (by show(false||(backTo cpos (starEach es X.env)).any (·.1))=false; rw[hplain]<;>rfl) (Calls.evalArgs_plain ?_)
 exact thn hA fun us s2 ⟨vs,H2,I2,r2,q2⟩=>hm pins s2 Z H2 x vs v us Q I2 r1 r2 q2
end
def MtM(X:Cx)(id:String)(r:V->List V->Hp->VK->Prop):Prop:=
 ∀ (pins:List (BI×Obj)) (s:BH) (Z:St) (H:Hp) (x:V) (xs:List V) (v:BG) (us:List BG) (Q:VK),Inv X pins Z H s->Hc x v->Vals xs us->r x xs H Q→
  wpAny (model X.prog X.w) X.A (call (.builtin id) (v::us)) (EP X pins Z Q) X.xe s
def Vals.one:∀ {x:V} {us:List BG},Vals [x] us->∃ u,us=[u]/\Hc x u
 | _,_,.cons r .nil=>⟨_,rfl,r⟩
def Vals.two:∀ {x y:V} {us:List BG},Vals [x,y] us->∃ u v,us=[u,v]/\Hc x u/\Hc y v
 | _,_,_,.cons r (.cons q .nil)=>⟨_,_,rfl,r,q⟩
def Vals.zero:∀ {us:List BG},Vals [] us->us=[]
 | _,.nil=>rfl
def Vals.dropLast(h:Vals xs us):Vals xs.dropLast us.dropLast:=by
 induction h with
 | nil=>exact .nil
 | cons r t ih=>
  cases t with
  | nil=>exact .nil
  | cons q t'=>exact .cons r ih
def Vals.rep(h:Vals xs us):∀ k:Nat,Vals (List.replicate k xs).flatten (List.replicate k us).flatten
 | 0=>.nil
 | k+1=>by
  rw[AV,AV,A3,A3]
  exact Vals.append h (Vals.rep h k)
def Gij(l:List O):l.eraseIdx (l.length-1)=l.dropLast:=by
 induction l with
 | nil=>rfl
 | cons a r ih=>
  cases r with
  | nil=>rfl
  | cons b r=>
   have e:(a::b::r).length-1=((b::r).length-1)+1:=by
    have h1:(a::b::r).length=r.length+2:=rfl
    have h2:(b::r).length=r.length+1:=rfl
    omega
   rw[e,List.eraseIdx_cons_succ,ih]
   all_goals rfl
def Gbk(its:List BG):∀ (k:Nat) (acc:List BG),
  List.foldl (fun x1 x2=>x1++x2) acc.toArray (List.replicate k its.toArray)=(acc++(List.replicate k its).flatten).toArray
 | 0,acc=>by simp
 | k+1,acc=>by
  have e:acc.toArray++its.toArray=(acc++its).toArray:=by simp
  have e2:(acc++its)++(List.replicate k its).flatten=acc++(List.replicate (k+1) its).flatten:=by
   rw[AV,A3,AM]
  rw[<- e2,<- Gbk its k (acc++its),<- e,AV,List.foldl_cons]
section
variable{X:Cx}{pins:List (BI×Obj)}{Z:St}{H:Hp}{s:BH}{l b:BI}{xs ys zs:List V}
def Inv.lset{its':List BG}{f:Array BG->Array BG}{t':Nat}(I:Inv X pins Z H s)(hH:H l=some (.lst xs))(e:s.heap.get? l=some { cls:=.type "list",data:=.seq its.toArray n })(hf:f its.toArray=its'.toArray)(hv:Vals ys its')(hz:ys.length<=sizeLine):
  Inv X pins Z (upd H l (.lst ys)) { s with heap:=s.heap.update l (Obj.mapSeq f),toks:=t' }:=by
 have q:=PySem.IsL.update e f
 rw[hf] at q
 refine I.write (x:=l) (e:=l) (by rw[hH]; exact trivial) (.inl rfl) (fun b' u hb hu=>(AL s.heap (Obj.mapSeq f) (Ne.symm hb)).trans hu) ⟨_,q⟩ ?_
 exact⟨hz,its',_,hv,q⟩
def Inv.lnew{t':Nat}(I:Inv X pins Z H s)(hv:Vals ys its)(hz:ys.length<=sizeLine):
  Inv X pins Z (upd H s.heap.objs.size (.lst ys)) { s with heap:=s.heap.push { cls:=.type "list",data:=.seq its.toArray },toks:=t' }:=
 I.laid (fun _ _ q=>Ap _ q) (Ac _) ⟨hz,its,0,hv,AF _ rfl⟩
def Inv.fresh(I:Inv X pins Z H s):H s.heap.objs.size=none:=I.hok.fresh (Ac _)
def Inv.lstM(I:Inv X pins Z H s)(hH:H l=some (.lst xs)):xs.length<=sizeLine/\∃ (its:List BG) (n:Nat),Vals xs its/\xs.length=its.length/\s.heap.get? l=some { cls:=.type "list",data:=.seq its.toArray n }:=by
 obtain⟨z,its,n,r,e⟩:=I.hok l _ hH
 exact⟨z,its,n,r,r.length,e⟩
def Gmv(h:n<=sizeLine):Builtin.List.listTooLong n=false:=by
 unfold Builtin.List.listTooLong
 exact decide_eq_false (by omega)
end
section
variable{X:Cx}
def Gjl:V->List V->Hp->VK->Prop:=fun x vs H Q=>∃ l xs y,x=.ref l/\vs=[y]/\H l=some (.lst xs)/\xs.length<sizeLine/\Q .non (upd H l (.lst (xs++[y])))
def Ge6:MtM X "list.append" Gjl:=by
 intro pins s Z H x vs v us Q I rx rv h
 obtain⟨l,xs,y,rfl,rfl,hH,hz,q⟩:=h
 cases rx
 obtain⟨u,rfl,ru⟩:=rv.one
 obtain⟨z,its,n,r,hl,e⟩:=I.lstM hH
 refine call_meets F.slot_list_append ⟨_,e,rfl⟩ F.entry_list_append (F.args_list_append_2 _ _) (PySem.list_append l its.toArray n u (by rw[An]; omega)) ⟨e,?_⟩
 refine⟨.non,_,I.lset (its':=its++[u]) hH e (by simp) (r.append (.cons ru .nil)) ?_,rfl,q⟩
 rw[Aw,List.length_singleton]
 omega
def Hau:V->List V->Hp->VK->Prop:=fun x vs H Q=>∃ l xs y,x=.ref l/\vs=[]/\H l=some (.lst xs)/\xs[xs.length-1]?=some y/\Q y (upd H l (.lst xs.dropLast))
def Gwd:MtM X "list.pop" Hau:=by
 intro pins s Z H x vs v us Q I rx rv h
 obtain⟨l,xs,y,rfl,rfl,hH,hy,q⟩:=h
 cases rx
 have hus:=rv.zero
 subst hus
 obtain⟨z,its,n,r,hl,e⟩:=I.lstM hH
 obtain⟨u,hu,ru⟩:=r.get hy
 have hy':its.toArray[its.toArray.size-1]?=some u:=by
  show its.toArray[its.length-1]?=some u
  rw[<- Array.getElem?_toList,<- hl]
  exact hu
 refine call_meets F.slot_list_pop ⟨_,e,rfl⟩ F.entry_list_pop (F.args_list_pop_1 _) (MeetsSeq.list_pop_last l its.toArray n u hy' (by rw[An]; omega)) ⟨e,?_⟩
 refine⟨y,_,I.lset (its':=its.dropLast) hH e ?_ r.dropLast ?_,ru,q⟩
 ·show its.toArray.eraseIdxIfInBounds (its.toArray.size-1)=its.dropLast.toArray
  rw[An,List.eraseIdxIfInBounds_toArray,Gij]
 ·rw[List.length_dropLast]
  omega
def Hav:R2:=fun x y H Q=>∃ l b xs zs,x=.ref l/\y=.ref b/\H l=some (.lst xs)/\H b=some (.lst zs)/\xs.length+zs.length<=sizeLine/\∀ p,H p=none->Q (.ref p) (upd H p (.lst (xs++zs)))
def Gwe:OpR X (binaryOp .Add) Hav:=by
 intro pins s Z H x y v u Q I rx ry h
 obtain⟨l,b,xs,zs,rfl,rfl,hH,hB,hz,q⟩:=h
 cases rx
 cases ry
 obtain⟨z,its,n,r,hl,e⟩:=I.lstM hH
 obtain⟨z2,its2,n2,r2,hl2,e2⟩:=I.lstM hB
 refine PySem.P.add_list e e2 ?_ (by rw[An,An]; omega)
 have ea:its.toArray++its2.toArray=(its++its2).toArray:=by simp
 rw[ea]
 exact⟨.ref _,_,I.lnew (t':=s.toks) (r.append r2) (by rw[Aw]; omega),rfl,q _ I.fresh⟩
def Haw:R2:=fun x y H Q=>∃ l k xs,x=.ref l/\y=.int k/\H l=some (.lst xs) /\ -(2^63)<=k/\k<2^63/\xs.length*k.toNat<=sizeLine∧
 ∀ p,H p=none->Q (.ref p) (upd H p (.lst (List.replicate k.toNat xs).flatten))
def Gfr(xs:List O)(k:Nat):(List.replicate k xs).flatten.length=k*xs.length:=by
 induction k with
 | zero=>simp
 | succ k ih=>rw[AV,A3,Aw,ih,Nat.succ_mul,Nat.add_comm]
def Gwf:OpR X (binaryOp .Mult) Haw:=by
 intro pins s Z H x y v u Q I rx ry h
 obtain⟨l,k,xs,rfl,rfl,hH,h1,h2,hz,q⟩:=h
 cases rx
 obtain⟨t,rfl⟩:=ry
 obtain⟨z,its,n,r,hl,e⟩:=I.lstM hH
 have hlen:its.toArray.size*k.toNat<=sizeLine:=by rw[An,<- hl]; exact hz
 have hcap:¬ its.toArray.size*k.toNat>(2^63-1) / 8:=by
  have:(sizeLine:Nat)<=(2^63-1) / 8:=by decide
  omega
 have hfit:¬ (!Builtin.List.listFitsIndex k)=true:=by
  rw[fitsIndex_both h1 h2]
  exact Ao
 have hlong:¬ Builtin.List.listTooLong (its.toArray.size*k.toNat)=true:=by
  rw[Gmv hlen]
  exact Ao
 have hnew:List.foldl (fun x1 x2=>x1++x2) #[] (List.replicate (if its.toArray.isEmpty=true then 0 else k.toNat) its.toArray)=(List.replicate k.toNat its).flatten.toArray:=by
  have f0:∀ m:Nat,List.foldl (fun x1 x2=>x1++x2) #[] (List.replicate m its.toArray)=(List.replicate m its).flatten.toArray:=fun m=>by
   have:=Gbk its m []
   rw[List.nil_append] at this
   exact this
  rw[f0]
  cases its with
  | nil=>simp
  | cons a r'=>rw[if_neg (by simp)]
 refine wpAny_binaryOp_repeat_ref (T:="list") (U:="int") (by decide) ⟨_,e,rfl⟩ (fun s'=>typeIs_int s' k t) noFill_list_mul F.fills_int_mul F.slot_int_rmul repeat_list F.slot_int_index.lookup
  (call_meets F.slot_int_rmul (typeIs_int s k t) F.entry_int_rmul (F.args_int_rmul_2 _ _) (int___rmul___int_list k t l its.toArray n)
   ⟨e,rfl,⟨_,e,rfl⟩,call_meets F.slot_list_mul ⟨_,e,rfl⟩ F.entry_list_mul (F.args_list_mul_2 _ _) (AutoListH.list___mul___list_int_3 l its.toArray n k t hfit hcap hlong) ⟨e,?_⟩⟩)
 rw[hnew]
 exact⟨.ref _,_,I.lnew (t':=s.toks) (r.rep k.toNat) (by rw[Gfr,Nat.mul_comm]; exact hz),rfl,q _ I.fresh⟩
end
end L2
namespace Att
open PySem PySem.W PySem.Calls PyProof.Rows
def Gcl{P:Params}{h:Heap}:∀ (ns:List Int) (vs:List BG),WellAll P h vs (ns.map WData.int)->IntsAre vs ns:=by
 intro ns
 induction ns with
 | nil=>
  intro vs w
  rw[Bq] at w
  cases w
  exact .nil
 | cons n ns ih=>
  intro vs w
  rw[As] at w
  cases w with
  | cons a b=>
   cases a
   exact .cons _ _ (ih _ b)
def Glj{l:OpenLaw}{n:Nat}(hn:l.most=some n){P:Params}{h:Heap}{args:List WData}{vals:List BG}
  (hpre:l.row.toRowW.claim.pre args=true) (hwl:WellAll P h vals args):
  ∃ a vs ns,vals=[Value.ref a]/\args=[WData.list (ns.map WData.int)]/\h.get? a=some { cls:=.type "list",data:=.seq vs.toArray }/\IntsAre vs ns/\ns.length<=n:=by
 have hsh:WShape.hasAll [] args [.list .int]=true:=(pre_splitW hpre).1
 have hc:l.pre.holds [] { args:=args }=true:=(pre_splitW hpre).2
 obtain⟨d,r,rfl,h1,h2⟩:=hasAllW_cons hsh
 obtain rfl:=hasAllW_nil h2
 obtain⟨xs,rfl,h3⟩:=hasW_list h1
 obtain⟨ns,rfl⟩:=items_int h3
 have hlen:ns.length<=n:=by
  unfold OpenLaw.pre at hc
  have h4:(WTm.not (.lt (.lit (.int (n:Int))) (.len (.arg 0)))).holds [] { args:=[.list (ns.map .int)] }=true:=by
   have h4:=(holds_andW hc).1
   rw[hn] at h4
   exact h4
  have h5:=condW_of h4 (w_not (w_lt w_lit (w_len_list (w_arg rfl))))
  rw[Ah] at h5
  refine Nat.le_of_not_lt fun q=>?_
  have q':(n:Int)<((ns.length:Nat):Int):=by omega
  first
   | (rw[decide_eq_true q'] at h5; exact absurd h5 (by decide))
   | (simp at h5; omega)
 cases hwl with
 | cons w1 w2=>
  cases w2
  cases w1 with
  | list ho hall=>exact⟨_,_,ns,rfl,rfl,ho,Gcl ns _ hall,hlen⟩
def post_true(l:OpenLaw)(args:List WData):l.row.toRowW.claim.post args (.bool true) args=true:=
 postW_of (r:=l.row.toRowW) (X:=(true==true))
  (show WShape.has [] (.bool true) .bool=true by first | rfl | decide | simp[WShape.has,WShape.arms,WShape.armsAll])
  (show(WTm.eq .res (.lit (.bool true))).value [] { args:=args,res:=some (.bool true),after:=args }=some (.bool (true==true)) from w_eq_bool (w_res rfl) w_lit) rfl
def attach_call{l:OpenLaw}{n:Nat}{q:BK}{loose:List Str}{XP:(Str->BJ BG)->Heap->Prop}{YP:World->Heap->Prop}{d:DefRec}
  (hn:l.most=some n) (hdf:d.params.defaults=[])
  (call:∀ (w:World) (s₀ s₁:BH) (mg mb:Str->BJ BG) (fa:BI) (o:Obj) (pm cd doc:BG) (a:BI) (vs:List BG) (ns:List Int),
   Ground q loose [] XP w s₀ mg mb s₁.heap->YP w s₁.heap→
   s₁.heap.get? fa=some o->o.data=.func (docDef d.name d.params d.body d.scope pm cd doc)->s₁.heap.CodeRec cd d.name->mg d.name=some (.ref fa)→
   s₁.heap.get? a=some { cls:=.type "list",data:=.seq vs.toArray }->IntsAre vs ns->ns.length<=n->s₁.gens=#[]→
   codeAny (model l.prog w) callerA (.call (.ref fa) ⟨[.ref a],[]⟩) (fun r s'=>r=.ok (.ret (.bool true))/\OldK s₁.heap s'.heap/\s'.os=s₁.os/\AllBare s'.gens) s₁):
  WalkO q loose XP YP l.row.toRowW d [] (fun f vs=>PySem.call f vs):=by
 intro w s₀ s₁ mg mb G QC fa o pm cd doc dV kV ho hd hcd hD hmg hg args vals as hpre hlay hrd hwl hlo
 obtain rfl:dV=.none:=Dflts.none hD hdf
 obtain rfl:kV=.none:=Dflts.noKw hD
 obtain⟨a,vs,ns,rfl,rfl,hobj,hints,hlen⟩:=Glj hn hpre hwl
 refine enter_call (codeAny_mono (call w s₀ s₁ mg mb fa o pm cd doc a vs ns G QC ho (fd_plain hd) hcd hmg hobj hints hlen hg) fun r s' hq=>?_)
 obtain⟨rfl,h2,h3,h4⟩:=hq
 exact⟨.inl ⟨.bool true,.bool true,[],rfl,fun _=>rfl,.bool true,post_true l _,fun _=>⟨List.Pairwise.nil,fun _ hm=>(nomatch hm)⟩⟩,h2,h3,h4⟩
end Att
namespace L2
open PySem PySem.Spec PyProof.Rows
variable{k:Nat}{fd:FuncData}{qual:Str}{st:Stmt}{f:BI}
def Ge7:∀ {vs:List BG} {ns:List Int},IntsAre vs ns->Vals (ns.map V.int) vs
 | _,_,.nil=>.nil
 | _,_,.cons n t h=>.cons ⟨t,rfl⟩ (Ge7 h)
def Only(H:Hp):Prop:=∀ b,H b=none\/∃ o xs,H b=some (.frz o (.lst xs))
def Gmw{P:BK}{w:World}{K:BE}{mg mb:Str->BJ BG}{CX:CXT}{fa a:BI}{x:Str}{sp:Sp}{s₁:BH}{vs:List BG}{ns:List Int}(KX:K.In s₁.heap)(hns:s₁.heap.Ns mainGlobals mg)(hb:s₁.heap.Ns builtinsNs mb)(hbb:∀ x:Str,x≠"__name__"->mb x=bootBuiltins x)(hlim:s₁.heap.NoLimit)(hg:s₁.gens=#[])(ha:s₁.heap.get? a=some { cls:=.type "list",data:=.seq vs.toArray })(hi:IntsAre vs ns)(hl:ns.length<=sizeLine)(hr:Room k callerA)(F:∀ base:Heap,K.In base->base.Ns mainGlobals mg->FnOk P w K mg base CX k fa fd [x] sp)(hbind:∀ (s:BH) (u:BG),BindsTo s fd ⟨[u],[]⟩ [(x,u)])(hsp:∀ H:Hp,Only H->SqL K H a (ns.map V.int)->sp [.ref a] H (fun v _=>v=.bl true) fun _ _ _=>False)(hCX:∀ H e s',CX [] H s₁ (fun _ _ _=>False) e s'->False):
  codeAny (model P w) callerA (.call (.ref fa) ⟨[.ref a],[]⟩) (fun r s'=>r=.ok (.ret (.bool true))/\OldK s₁.heap s'.heap/\s'.os=s₁.os/\AllBare s'.gens) s₁:=by
 have rv:=Ge7 hi
 have lenV:=hi.length
 have core:∀ H:Hp,Only H->SqL K H a (ns.map V.int)->HOk P w H s₁.heap->(∀ b,H b≠none->b=a)->(H a≠none->K.lookup a=none)→
   codeAny (model P w) callerA (.call (.ref fa) ⟨[.ref a],[]⟩) (fun r s'=>r=.ok (.ret (.bool true))/\OldK s₁.heap s'.heap/\s'.os=s₁.os/\AllBare s'.gens) s₁:=by
  intro H hO hS hok hA hK
  have base_of:∀ {b:BI} {o:Obj},s₁.heap.get? b=some o->H b=none->(Gfl s₁.heap H).get? b=some o:=fun e n=>Gmc e n
  have noA:∀ {b:BI} {o:Obj} {es:Array DictEntry} {ep:Nat},s₁.heap.get? b=some o->o.data=.dict es ep->H b=none:=fun{b o es ep} e d=>by
   cases q:H b with
   | none=>rfl
   | some u=>
    have e':b=a:=hA b (by rw[q]; simp)
    subst e'
    rw[ha] at e; cases e
    have d':Data.seq vs.toArray _=Data.dict es ep:=d
    cases d'
  have nsK:∀ {b:BI} {m:Str->BJ BG},s₁.heap.Ns b m->(Gfl s₁.heap H).Ns b m:=fun{b m} ⟨o,es,ep,e,d,r⟩=>⟨o,es,ep,base_of e (noA e d),d,r⟩
  have hKb:K.In (Gfl s₁.heap H):=fun b o e=>base_of (KX b o e) (by
   cases q:H b with
   | none=>rfl
   | some u=>
    have e':b=a:=hA b (by rw[q]; simp)
    subst e'
    rw[hK (by rw[q]; simp)] at e; cases e)
  have hM:Mod K mg (Gfl s₁.heap H):=⟨hKb,nsK hns,⟨mb,nsK hb,hbb⟩,let ⟨mc,h1,h2⟩:=hlim; ⟨mc,nsK h1,h2⟩⟩
  have e0:Env0 P w K mg (Gfl s₁.heap H) callerA [] s₁ H:=⟨rfl,hM,fun b o e=>of_hidT e,Nat.le_of_eq (Glb _ _),trivial,fun b hb=>absurd (show b∈([]:List BI) from hb) (by simp),hok,.of_eq hg⟩
  refine codeAny_mono ((F _ hKb (nsK hns)).run callerA [] s₁ H ⟨[.ref a],[]⟩ [.ref a] [.ref a] _ _ hr e0 (hbind s₁ (.ref a)) (.cons rfl .nil) (hsp H hO hS)) fun r s' h=>?_
  cases r with
  | error e=>exact(hCX H e s' h).elim
  | ok fl=>
   cases fl with
   | next=>exact False.elim h
   | brk=>exact False.elim h
   | cont=>exact False.elim h
   | ret u=>
    obtain⟨v,H',os,bare,un,hok',r',q⟩:=h
    have q':v=.bl true:=q
    subst q'
    obtain rfl:u=Value.bool true:=r'
    refine⟨rfl,OldK.of_keep fun b o e=>?_,os,bare⟩
    cases q:H b with
    | none=>exact un.keep b o e q (by intro z; exact absurd (show b∈([]:List BI) from z) (by simp)) (by simp)
    | some u=>
     rcases hO b with z | ⟨ob,xs,z⟩
     ·rw[q] at z; cases z
     ·have z2:=un.frzs b ob _ z
      obtain⟨e1,_⟩:=hok b _ z
      obtain⟨e2,_⟩:=hok' b _ z2
      rw[e] at e1; cases e1
      exact e2
 cases hk:K.lookup a with
 | some o=>
  have e:=KX a o hk
  rw[ha] at e
  cases e
  refine core (fun _=>none) (fun _=>.inl rfl) (.inr ⟨_,vs.toArray,_,hk,rfl,rfl,rfl,by rw[An,lenV]; exact hl,by simpa using rv⟩) (fun b u z=>by have z':(none:BJ HO)=some u:=z; cases z') (fun b z=>absurd rfl z) fun z=>absurd rfl z
 | none=>
  refine core (fun b=>if b=a then some (.frz { cls:=.type "list",data:=.seq vs.toArray } (.lst (ns.map V.int))) else none) (fun b=>?_) (.inl (.inr ⟨{ cls:=.type "list",data:=.seq vs.toArray },if_pos rfl⟩)) (fun b u z=>?_) (fun b z=>?_) fun _=>hk
  ·by_cases hb:b=a
   ·exact .inr ⟨_,_,if_pos hb⟩
   ·exact .inl (if_neg hb)
  ·by_cases hb:b=a
   ·have z':=(if_pos hb).symm.trans z
    cases z'
    subst hb
    exact⟨ha,by rw[Ah]; exact hl,vs,_,rv,ha⟩
   ·have z':=(if_neg hb).symm.trans z
    cases z'
  ·by_cases hb:b=a
   ·exact hb
   ·exact absurd (if_neg hb) z
def Gqx{l:PySem.W.OpenLaw}{n:Nat}{q:BK}{loose:List Str}{XP:(Str->BJ BG)->Heap->Prop}{YP:World->Heap->Prop}{d:DefRec}{K:Params->BE}{CX:World->CXT}{sp:World->Sp}{x:Str}(hn:l.most=some n)(hn2:n<=sizeLine)(hdf:d.params.defaults=[])(hr:Room k callerA)(hY:∀ (w:World) (h:Heap),YP w h->(K w.params).In h)(F:∀ (w:World) (mg:Str->BJ BG) (fa:BI) (h:Heap),(K w.params).In h->h.Ns mainGlobals mg->mg d.name=some (.ref fa)→
   ∃ fd:FuncData,(∀ (s:BH) (u:BG),BindsTo s fd ⟨[u],[]⟩ [(x,u)])∧
    ∀ base:Heap,(K w.params).In base->base.Ns mainGlobals mg->FnOk l.prog w (K w.params) mg base (CX w) k fa fd [x] (sp w))(hsp:∀ (w:World) (H:Hp) (a:BI) (ns:List Int),ns.length<=n->Only H->SqL (K w.params) H a (ns.map V.int)->sp w [.ref a] H (fun v _=>v=.bl true) fun _ _ _=>False)(hCX:∀ (w:World) (H:Hp) (s:BH) (e:BG) (s':BH),CX w [] H s (fun _ _ _=>False) e s'->False):
  PySem.W.WalkO q loose XP YP l.row.toRowW d [] (fun f vs=>PySem.call f vs):=by
 refine Att.attach_call hn hdf fun w s₀ s₁ mg mb fa o pm cd doc a vs ns G QC ho hd hcd hmg hobj hints hlen hg=>?_
 have KX:=hY w _ QC
 obtain⟨fd,hb,hF⟩:=F w mg fa _ KX G.T.g hmg
 exact Gmw KX G.T.g G.T.b G.T.builtins G.T.nolimit hg hobj hints (Am hlen hn2) hr hF hb (fun H hO hS=>hsp w H a ns hlen hO hS) fun H e s'=>hCX w H s₁ e s'
def Gmx{l:PySem.W.OpenLaw}{n:Nat}{q:BK}{loose:List Str}{XP:(Str->BJ BG)->Heap->Prop}{YP:World->Heap->Prop}{d:DefRec}{K:Params->BE}{CX:CXT}{sp:BE->Sp}{x:Str}(hn:l.most=some n)(hn2:n<=sizeLine)(hdf:d.params.defaults=[])(hr:Room k callerA)(hY:∀ (w:World) (h:Heap),YP w h->(K w.params).In h)(F:∀ (w:World) (mg:Str->BJ BG) (fa:BI) (h:Heap),(K w.params).In h->h.Ns mainGlobals mg->mg d.name=some (.ref fa)→
   ∃ fd:FuncData,(∀ (s:BH) (u:BG),BindsTo s fd ⟨[u],[]⟩ [(x,u)])∧
    ∀ base:Heap,(K w.params).In base->base.Ns mainGlobals mg->FnOk l.prog w (K w.params) mg base CX k fa fd [x] (sp (K w.params)))(hsp:∀ (K:BE) (H:Hp) (a:BI) (ns:List Int),ns.length<=n->Only H->SqL K H a (ns.map V.int)->sp K [.ref a] H (fun v _=>v=.bl true) fun _ _ _=>False)(hCX:∀ (H:Hp) (s:BH) (e:BG) (s':BH),CX [] H s (fun _ _ _=>False) e s'->False):
  PySem.W.WalkO q loose XP YP l.row.toRowW d [] (fun f vs=>PySem.call f vs):=
 Gqx (K:=K) (CX:=fun _=>CX) (sp:=fun w=>sp (K w.params)) hn hn2 hdf hr hY F (fun w H a ns h1 h2 h3=>hsp (K w.params) H a ns h1 h2 h3) fun _ H s e s'=>hCX H s e s'
noncomputable def Hx(s:Stmt):Arguments:=match s with
 | .FunctionDef _ a _ _ _ _ _ _ _ _=>a
 | _=>{ posonlyargs:=[],args:=[],vararg:=none,kwonlyargs:=[],kw_defaults:=[],kwarg:=none,defaults:=[] }
noncomputable def Gy(s:Stmt):List Stmt:=match s with
 | .FunctionDef _ _ b _ _ _ _ _ _ _=>b
 | _=>[]
noncomputable def Gb(s:Stmt):Scope:=match s with
 | .FunctionDef _ _ _ _ _ _ sc _ _ _=>sc
 | _=>{ kind:=.function,names:=[],isGenerator:=false,isCoroutine:=false }
abbrev CX0:CXT:=fun _ _ _ _ _ _=>False
noncomputable abbrev E0:XK:=fun _ _ _=>False
def Hax{X:Cx}:Passes CX0 X E0:=fun _ _ _ _ _ _ _ h=>h.elim
structure Fun(K:BE)(x qual:Str)(st:Stmt)(f:BI)(fd:FuncData):Prop where
 ex:∃ (oc:BG) (od:BJ BI) (kV doc pm:BG) (an:BJ BI) (cdv ct:BG) (osl:Array (BJ BG)),
  fd=PySem.W.fnOf x qual (Hx st) (Gy st) (Gb st) .none kV doc pm an cdv ct/\K.lookup f=some ⟨oc,od,.func fd,osl⟩/\PySem.W.codeIn K cdv qual=true
 kp:PySem.W.keepIn K (.ref f)=true
section
variable{P:BK}{w:World}{K:BE}{mg:Str->BJ BG}{base:Heap}
def Fun.ok{x:Str}{N ps:List Str}{sp:Sp}(F:Fun K x qual st f fd)(S:FnScope N ps (Gb st))(len:∀ vs H Q E,sp vs H Q E->vs.length=ps.length)(hbody:∀ (cdv:BG) (A:Around) (outer:List Env) (s:BH) (H:Hp) (vs:List V) (Q:VK) (E:XK),Room k (A.deeper (envOfC qual (Gb st) s.heap.objs.size f cdv))->sp vs H Q E→
   ∃ t,PSs (Ud CX0 P w K mg base N qual (Gb st) f cdv A outer s H E).nox (Gy st) t/\t { nx:=fun _ H'=>Q .non H',rt:=Q } (start N vs) H):FnOk P w K mg base CX0 (k+1) f fd ps sp:=by
 obtain⟨oc,od,kV,doc,pm,an,cdv,ct,osl,rfl,lk,hcd⟩:=F.ex
 refine Gmq lk hcd S len fun A outer s H vs Q E hr hsp=>?_
 obtain⟨t,h,q⟩:=hbody cdv A outer s H vs Q E hr hsp
 exact⟨t,h.nox,q⟩
def Fun.binds{x:Str}{ps:List Str}(F:Fun K x qual st f fd)(h:∀ (kV doc pm:BG) (an:BJ BI) (cdv ct:BG) (us:List BG),us.length=ps.length->bindArgs (PySem.W.fnOf x qual (Hx st) (Gy st) (Gb st) .none kV doc pm an cdv ct) ⟨us,[]⟩=pure (ps.zip us)):Binds K fd ps []:=by
 obtain⟨oc,od,kV,doc,pm,an,cdv,ct,osl,rfl,lk,hcd⟩:=F.ex
 exact .all (h kV doc pm an cdv ct)
def Gfs{x:Str}{oc:BG}{od an:BJ BI}{osl:Array (BJ BG)}{kV doc pm cdv ct:BG}(l:K.lookup f=some ⟨oc,od,.func (PySem.W.fnOf x qual (Hx st) (Gy st) (Gb st) .none kV doc pm an cdv ct),osl⟩)(c:PySem.W.codeIn K cdv qual=true)(k:PySem.W.keepIn K (.ref f)=true):Fun K x qual st f (PySem.W.fnOf x qual (Hx st) (Gy st) (Gb st) .none kV doc pm an cdv ct):=⟨⟨oc,od,kV,doc,pm,an,cdv,ct,osl,rfl,l,c⟩,k⟩
end
end L2
namespace DL
open PySem PySem.Spec PyProof.Rows L2
inductive D where
 | non | bl (b:Bool) | int (i:Int) | str (x:Str) | tup (l:List D) | lst (i:Nat) | exn (c:Str) (n:BJ Int) | fv (x:Str) | dct (i:Nat)
structure Cell where
 fz:Bool
 xs:List D
abbrev Sto:=List Cell
abbrev Lc:=List (BJ D)
structure XD where
 cls:Str
 fld:BJ Int
inductive Out(O:Type) where
 | ok (a:O) (S:Sto)
 | exc (x:XD) (S:Sto)
 | bad
noncomputable def Out.bind{O β:Type}(o:Out O)(g:O->Sto->Out β):Out β:=
 match o with
 | .ok a S=>g a S
 | .exc x S=>.exc x S
 | .bad=>.bad
structure XCl(K:BE)(c:BI):Prop where
 ga:PySem.W.findIn K (.ref c) "__getattribute__"=some (some (.builtin "BaseException.__getattribute__"))
 gt:PySem.W.findIn K (.ref c) "__getattr__"=some none
 cl:PySem.W.findIn K (.ref c) "__class__"=some (some (.builtin "object.__class__"))
 cd:(PySem.W.clsIn K c).isSome=true
 ob:PySem.W.mroIn K c (.type "object")=some true
 be:PySem.W.subIn K (.ref c) (.type "BaseException")=some true
 bt:∀ T∈["bool","int","str","tuple","list"],PySem.W.kitOne K (.ref c) (.type T)=some false
def CN(K:BE)(y:Str)(c:BI):Prop:=PySem.W.nsIn K mainGlobals y=some (some (.ref c))
def CN.one{K:BE}{y:Str}{c d:BI}(h:CN K y c)(g:CN K y d):c=d:=Value.ref.inj (Ab (Ab (h.symm.trans g)))
noncomputable def XO(a c:BI)(dx:BJ BI):HO:=.ext fun h=>∃ oe,h.get? a=some oe/\oe.cls=.ref c/\oe.dict=dx/\∃ vs,oe.data=.fields vs
noncomputable def XA(d:BI)(n:Int):HO:=.ext fun h=>∃ t,h.Ns d fun y=>if y="at" then some (.int n t) else none
def Dcy(H:Hp)(a:BI):Prop:=∃ kvs,H a=some (.dT kvs)
mutual
def Rep(K:BE)(mp:List BI)(H:Hp):D->V->Prop
 | .non,v=>v=.non
 | .bl b,v=>v=.bl b
 | .int i,v=>v=.int i
 | .str x,v=>v=.str x
 | .tup l,v=>∃ a xs,v=.ref a/\SqT K H a xs/\RepL K mp H l xs
 | .lst i,v=>∃ a,v=.ref a/\mp[i]?=some a/\¬ Dcy H a
 | .exn c n,v=>∃ a dx p,v=.ref a/\(CN K c p/\XCl K p/\H a=some (XO a p dx))/\∀ i,n=some i->∃ d,dx=some d/\H d=some (XA d i)
 | .fv x,v=>∃ a,v=.ref a/\CN K x a
 | .dct i,v=>∃ a,v=.ref a/\mp[i]?=some a/\Dcy H a
def RepL(K:BE)(mp:List BI)(H:Hp):List D->List V->Prop
 | [],vs=>vs=[]
 | d::l,vs=>∃ v r,vs=v::r/\Rep K mp H d v/\RepL K mp H l r
end
structure Aft(K:BE)(mp:List BI)(H:Hp)(mp':List BI)(H':Hp):Prop where
 pre:∀ (i:Nat) (a:BI),mp[i]?=some a->mp'[i]?=some a
 tup:∀ a xs,SqT K H a xs->SqT K H' a xs
 ext:∀ a φ,H a=some (.ext φ)->H' a=some (.ext φ)
 ndc:∀ (i:Nat) (a:BI),mp[i]?=some a->¬ Dcy H a->¬ Dcy H' a
 dcy:∀ a,Dcy H a->Dcy H' a
def Aft.refl{K:BE}{mp:List BI}{H:Hp}:Aft K mp H mp H:=⟨fun _ _ h=>h,fun _ _ h=>h,fun _ _ h=>h,fun _ _ _ h=>h,fun _ h=>h⟩
def Aft.trans{K:BE}{mp mp1 mp2:List BI}{H H1 H2:Hp}(a:Aft K mp H mp1 H1)(b:Aft K mp1 H1 mp2 H2):Aft K mp H mp2 H2:=
 ⟨fun i x h=>b.pre i x (a.pre i x h),fun x xs h=>b.tup x xs (a.tup x xs h),fun x f h=>b.ext x f (a.ext x f h),fun i x e h=>b.ndc i x (a.pre i x e) (a.ndc i x e h),fun x h=>b.dcy x (a.dcy x h)⟩
mutual
theorem Rep.aft{K:BE}{mp mp':List BI}{H H':Hp}(a:Aft K mp H mp' H'):∀ (d:D) (v:V),Rep K mp H d v->Rep K mp' H' d v
 | .non,v,h=>h
 | .bl _,v,h=>h
 | .int _,v,h=>h
 | .str _,v,h=>h
 | .tup l,v,h=>by
  obtain⟨p,xs,e,s,r⟩:=(show ∃ a xs,v=.ref a/\SqT K H a xs/\RepL K mp H l xs from h)
  exact⟨p,xs,e,a.tup _ _ s,RepL.aft a l xs r⟩
 | .lst i,v,h=>by
  obtain⟨p,e,s,n⟩:=(show ∃ a,v=.ref a/\mp[i]?=some a/\¬ Dcy H a from h)
  exact⟨p,e,a.pre _ _ s,a.ndc _ _ s n⟩
 | .exn c n,v,h=>by
  obtain⟨p,dx,q,e,⟨s0,s1,s⟩,r⟩:=(show ∃ a dx p,v=.ref a/\(CN K c p/\XCl K p/\H a=some (XO a p dx))/\∀ i,n=some i->∃ d,dx=some d/\H d=some (XA d i) from h)
  exact⟨p,dx,q,e,⟨s0,s1,a.ext _ _ s⟩,fun i z=>let ⟨d,z1,z2⟩:=r i z; ⟨d,z1,a.ext _ _ z2⟩⟩
 | .fv x,v,h=>h
 | .dct i,v,h=>by
  obtain⟨p,e,s,n⟩:=(show ∃ a,v=.ref a/\mp[i]?=some a/\Dcy H a from h)
  exact⟨p,e,a.pre _ _ s,a.dcy _ n⟩
theorem RepL.aft{K:BE}{mp mp':List BI}{H H':Hp}(a:Aft K mp H mp' H'):∀ (l:List D) (vs:List V),RepL K mp H l vs->RepL K mp' H' l vs
 | [],vs,h=>h
 | d::l,vs,h=>by
  obtain⟨v,r,e,h1,h2⟩:=(show ∃ v r,vs=v::r/\Rep K mp H d v/\RepL K mp H l r from h)
  exact⟨v,r,e,Rep.aft a d v h1,RepL.aft a l r h2⟩
end
section
variable{K:BE}{mp:List BI}{H:Hp}
def RepL.nil:RepL K mp H [] []:=rfl
def RepL.cons{d:D}{v:V}{l:List D}{r:List V}(h:Rep K mp H d v)(t:RepL K mp H l r):RepL K mp H (d::l) (v::r):=⟨v,r,rfl,h,t⟩
def RepL.len:∀ {l:List D} {vs:List V},RepL K mp H l vs->vs.length=l.length
 | [],vs,h=>by cases (show vs=[] from h); rfl
 | d::l,vs,h=>by
  obtain⟨v,r,e,h1,h2⟩:=h
  subst e
  simp[RepL.len h2]
def RepL.get:∀ {l:List D} {vs:List V} {i:Nat} {d:D},RepL K mp H l vs->l[i]?=some d->∃ v,vs[i]?=some v/\Rep K mp H d v
 | [],_,_,_,_,e=>by simp at e
 | d::l,vs,0,_,h,e=>by
  obtain⟨v,r,q,h1,h2⟩:=h
  subst q
  simp at e
  subst e
  exact⟨v,rfl,h1⟩
 | d::l,vs,i+1,x,h,e=>by
  obtain⟨v,r,q,h1,h2⟩:=h
  subst q
  obtain⟨v',a,b⟩:=RepL.get (i:=i) (d:=x) h2 (by simpa using e)
  exact⟨v',by simpa using a,b⟩
def RepL.append:∀ {l m:List D} {vs ws:List V},RepL K mp H l vs->RepL K mp H m ws->RepL K mp H (l++m) (vs++ws)
 | [],m,vs,ws,h,g=>by cases (show vs=[] from h); exact g
 | d::l,m,vs,ws,h,g=>by
  obtain⟨v,r,q,h1,h2⟩:=h
  subst q
  exact⟨v,r++ws,rfl,h1,RepL.append h2 g⟩
def RepL.take:∀ {l:List D} {vs:List V} (n:Nat),RepL K mp H l vs->RepL K mp H (l.take n) (vs.take n)
 | [],vs,n,h=>by cases (show vs=[] from h); simp; exact RepL.nil
 | d::l,vs,0,h=>by simp; exact RepL.nil
 | d::l,vs,n+1,h=>by
  obtain⟨v,r,q,h1,h2⟩:=h
  subst q
  simpa using RepL.cons h1 (RepL.take n h2)
def RepL.drop:∀ {l:List D} {vs:List V} (n:Nat),RepL K mp H l vs->RepL K mp H (l.drop n) (vs.drop n)
 | [],vs,n,h=>by cases (show vs=[] from h); simp; exact RepL.nil
 | d::l,vs,0,h=>by simpa using h
 | d::l,vs,n+1,h=>by
  obtain⟨v,r,q,h1,h2⟩:=h
  subst q
  simpa using RepL.drop n h2
def RepL.set:∀ {l:List D} {vs:List V} {d:D} {v:V} (n:Nat),RepL K mp H l vs->Rep K mp H d v->RepL K mp H (l.set n d) (vs.set n v)
 | [],vs,d,v,n,h,g=>by cases (show vs=[] from h); simp; exact RepL.nil
 | x::l,vs,d,v,0,h,g=>by
  obtain⟨v',r,q,h1,h2⟩:=h
  subst q
  simpa using RepL.cons g h2
 | x::l,vs,d,v,n+1,h,g=>by
  obtain⟨v',r,q,h1,h2⟩:=h
  subst q
  simpa using RepL.cons h1 (RepL.set n h2 g)
end
def SqF(K:BE)(H:Hp)(a:BI)(xs:List V):Prop:=
 (∃ o,H a=some (.frz o (.lst xs)))∨
  ∃ (o:Obj) (its:Array BG) (n:Nat),K.lookup a=some o/\o.cls=.type "list"/\o.dict=none/\o.data=.seq its n/\its.size<=sizeLine/\Vals xs its.toList
noncomputable def SqF.sq{K:BE}{H:Hp}{a:BI}{xs:List V}(h:SqF K H a xs):SqL K H a xs:=by
 rcases h with h | h
 ·exact .inl (.inr h)
 ·exact .inr h
def Hay(K:BE)(mp:List BI)(H:Hp)(a:BI)(c:Cell):Prop:=
 ∃ xs,RepL K mp H c.xs xs/\(if c.fz=true then SqF K H a xs else H a=some (.lst xs))
mutual
def nkO:D->BJ NK
 | .int i=>some (.i i)
 | .tup l=>(nkOs l).map .t
 | _=>none
def nkOs:List D->BJ (List NK)
 | []=>some []
 | d::r=>(nkO d).bind fun k=>(nkOs r).map fun q=>k::q
end
def Gcm(K:BE)(mp:List BI)(H:Hp)(d:D)(q:NK×BI×V):Prop:=
 ∃ k e,d=.tup [k,e]/\(nkO k=some q.1/\(pk q.1).depth<=8)/\Rep K mp H k (.ref q.2.1)/\Rep K mp H e q.2.2
def Haz(K:BE)(mp:List BI)(H:Hp)(a:BI)(c:Cell):Prop:=
 c.fz=false/\∃ kvs,H a=some (.dT kvs)/\Paired (Gcm K mp H) c.xs kvs
def Gcm.aft{K:BE}{mp mp':List BI}{H H':Hp}(a:Aft K mp H mp' H'){d:D}{q:NK×BI×V}(p:Gcm K mp H d q):Gcm K mp' H' d q:=
 let ⟨k,e,h1,h2,h3,h4⟩:=p; ⟨k,e,h1,h2,Rep.aft a _ _ h3,Rep.aft a _ _ h4⟩
def Gbl(K:BE)(mp:List BI)(H:Hp)(a:BI)(c:Cell):Prop:=Hay K mp H a c\/Haz K mp H a c
def Gbl.low{K:BE}{mp:List BI}{H:Hp}{a:BI}{c:Cell}(q:Gbl K mp H a c)(f:c.fz=false):∃ o,H a=some o:=by
 rcases q with⟨xs,_,e⟩ | ⟨_,kvs,e,_⟩
 ·rw[f,if_neg Ao] at e; exact⟨_,e⟩
 ·exact⟨_,e⟩
structure RS(K:BE)(mp:List BI)(H:Hp)(S:Sto):Prop where
 len:mp.length=S.length
 cell:∀ (i:Nat) (a:BI) (c:Cell),mp[i]?=some a->S[i]?=some c->Gbl K mp H a c
 inj:∀ (i j:Nat) (a:BI) (ci cj:Cell),mp[i]?=some a->mp[j]?=some a->S[i]?=some ci->S[j]?=some cj->ci.fz=false->cj.fz=false->i=j
structure Gd(K:BE)(mp:List BI)(H:Hp)(Z:L2.St)(U:Lc)(S:Sto):Prop where
 rs:RS K mp H S
 len:Z.length=U.length
 loc:∀ (i:Nat) (d:D),U[i]?=some (some d)->∃ v,Z[i]?=some (some v)/\Rep K mp H d v
def Gd.aft{K:BE}{mp mp':List BI}{H H':Hp}{Z:L2.St}{U:Lc}{S S':Sto}(g:Gd K mp H Z U S)(a:Aft K mp H mp' H')(r:RS K mp' H' S'):Gd K mp' H' Z U S':=
 ⟨r,g.len,fun i d h=>let ⟨v,e,q⟩:=g.loc i d h; ⟨v,e,q.aft a⟩⟩
abbrev XW:=XD->List BI->Hp->L2.St->Lc->Sto->Prop
abbrev RL(O β:Type):=List BI->Hp->O->β->Prop
def Gj{O β:Type}(K:BE)(R:RL O β)(XQ:XW)(Z:L2.St)(U:Lc)(mp:List BI)(H:Hp)(o:Out O)(Q:β->Hp->Prop):Prop:=
 match o with
 | .ok d S=>∀ mp' H' v,Aft K mp H mp' H'->RS K mp' H' S->R mp' H' d v->Q v H'
 | .exc x S=>∀ mp' H',Aft K mp H mp' H'->Gd K mp' H' Z U S->XQ x mp' H' Z U S
 | .bad=>False
def Gj.aft{O β:Type}{K:BE}{R:RL O β}{XQ:XW}{Z:L2.St}{U:Lc}{mp mp':List BI}{H H':Hp}{o:Out O}{Q:β->Hp->Prop}(p:Gj K R XQ Z U mp H o Q)(a:Aft K mp H mp' H'):Gj K R XQ Z U mp' H' o Q:=by
 cases o with
 | ok d S=>exact fun m h v b=>p m h v (a.trans b)
 | exc x S=>exact fun m h b=>p m h (a.trans b)
 | bad=>exact p
def Gj.ok{O β:Type}{K:BE}{R:RL O β}{XQ:XW}{Z:L2.St}{U:Lc}{mp:List BI}{H:Hp}{d:O}{S:Sto}{v:β}{Q:β->Hp->Prop}(p:Gj K R XQ Z U mp H (.ok d S) Q)(r:RS K mp H S)(h:R mp H d v):Q v H:=p mp H v .refl r h
abbrev Post(K:BE)(XQ:XW):=Gj (β:=V) K (Rep K) XQ
abbrev Ev(O:Type):=Lc->Sto->Out O
def rdG{O β:Type}(K:BE)(R:RL O β)(XQ:XW)(f:Ev O):L2.St->Hp->(β->Hp->Prop)->Prop:=fun Z H Q=>∃ mp U S,Gd K mp H Z U S/\Gj K R XQ Z U mp H (f U S) Q
def kB:RL Bool Bool:=fun _ _ a b=>b=a
def kO:RL (BJ Int) (BJ Int):=fun _ _ a b=>b=a
abbrev rdE(K:BE)(XQ:XW)(f:Ev D):TE:=rdG K (Rep K) XQ f
abbrev rdA(K:BE)(XQ:XW)(f:Ev (List D)):TA:=rdG K (RepL K) XQ f
abbrev rdT(K:BE)(XQ:XW)(f:Ev Bool):TT:=rdG K kB XQ f
abbrev rdO(K:BE)(XQ:XW)(f:Ev (BJ Int)):TO:=rdG K kO XQ f
def JE(X:Cx)(XQ:XW)(e:Expr)(f:Ev D):Prop:=PE X e (rdE X.K XQ f)
def JA(X:Cx)(XQ:XW)(es:List Expr)(f:Ev (List D)):Prop:=PA X es (rdA X.K XQ f)
def JT(X:Cx)(XQ:XW)(e:Expr)(f:Ev Bool):Prop:=PT X e (rdT X.K XQ f)
def JW(X:Cx)(XQ:XW)(e:Expr)(f:Ev Bool):Prop:=PW X e (rdT X.K XQ f)
def JO(X:Cx)(XQ:XW)(e:BJ Expr)(f:Ev (BJ Int)):Prop:=PO X e (rdO X.K XQ f)
def PE.mono{X:Cx}{e:Expr}{t t':TE}(h:PE X e t)(m:∀ Z H Q,t' Z H Q->t Z H Q):PE X e t':=fun pins s Z H Q I q=>h pins s Z H Q I (m Z H Q q)
def PT.mono{X:Cx}{e:Expr}{t t':TT}(h:PT X e t)(m:∀ Z H Q,t' Z H Q->t Z H Q):PT X e t':=fun pins s Z H Q I q=>h pins s Z H Q I (m Z H Q q)
def PW.mono{X:Cx}{e:Expr}{t t':TT}(h:PW X e t)(m:∀ Z H Q,t' Z H Q->t Z H Q):PW X e t':=fun wh pins s Z H Q I q=>h wh pins s Z H Q I (m Z H Q q)
def PO.mono{X:Cx}{e:BJ Expr}{t t':TO}(h:PO X e t)(m:∀ Z H Q,t' Z H Q->t Z H Q):PO X e t':=fun pins s Z H Q I q=>h pins s Z H Q I (m Z H Q q)
def PA.mono{X:Cx}{e:List Expr}{t t':TA}(h:PA X e t)(m:∀ Z H Q,t' Z H Q->t Z H Q):PA X e t':=fun pos pins s Z H Q I q=>h pos pins s Z H Q I (m Z H Q q)
def PS.mono{X:Cx}{e:Stmt}{t t':TS}(h:PS X e t)(m:∀ D Z H,t' D Z H->t D Z H):PS X e t':=fun pins s Z H D I q=>h pins s Z H D I (m D Z H q)
def PSs.mono{X:Cx}{e:List Stmt}{t t':TS}(h:PSs X e t)(m:∀ D Z H,t' D Z H->t D Z H):PSs X e t':=fun pins s Z H D I q=>h pins s Z H D I (m D Z H q)
def bindP{O β γ δ:Type}{K:BE}{R:RL O β}{R':RL γ δ}{XQ:XW}{mp:List BI}{H:Hp}{Z:L2.St}{U:Lc}{S:Sto}{f:Ev O}{g:O->Sto->Out γ}{Q:δ->Hp->Prop}{Q1:β->Hp->Prop}(G:Gd K mp H Z U S)(p:Gj K R' XQ Z U mp H ((f U S).bind g) Q)
  (k:∀ mp1 H1 d S1 v,Aft K mp H mp1 H1->Gd K mp1 H1 Z U S1->R mp1 H1 d v->Gj K R' XQ Z U mp1 H1 (g d S1) Q->Q1 v H1):rdG K R XQ f Z H Q1:=by
 refine⟨mp,U,S,G,?_⟩
 cases e:f U S with
 | ok d S1=>
  rw[e] at p
  exact fun mp1 H1 v a rs r=>k mp1 H1 d S1 v a (G.aft a rs) r (Gj.aft p a)
 | exc x S1=>rw[e] at p; exact p
 | bad=>rw[e] at p; exact p
noncomputable def vr(i:Nat):Ev D:=fun U S=>match U[i]? with
 | some (some d)=>.ok d S
 | _=>.bad
noncomputable def cn(d:D):Ev D:=fun _ S=>.ok d S
section
variable{X:Cx}{XQ:XW}
def Gmy(i:Nat){x:Str}{pos:Pos}(hN:X.N[i]?=some x:=by rfl)(hv:Vis X.env.scope x:=by first | exact Or.inl rfl | exact Or.inr (Or.inl rfl) | exact Or.inr (Or.inr rfl))(hd:(x==("__debug__":Str))=false:=by decide)
  (hcd:(x==("__classdict__":Str))=false:=by decide):JE X XQ (.Name x pos) (vr i):=by
 refine PE.mono (Gfm hN hv hd hcd) fun Z H Q ⟨mp,U,S,G,p⟩=>?_
 unfold vr at p
 cases e:U[i]? with
 | none=>rw[e] at p; exact p.elim
 | some o=>
  rw[e] at p
  cases o with
  | none=>exact p.elim
  | some d=>
   obtain⟨v,h1,h2⟩:=G.loc i d e
   exact⟨v,h1,Gj.ok p G.rs h2⟩
def Xa{e:Expr}{d:D}{v:V}(h:PE X e (tC v))(r:∀ mp H,Rep X.K mp H d v):JE X XQ e (cn d):=
 PE.mono h fun Z H Q ⟨mp,U,S,G,p⟩=>Gj.ok p G.rs (r mp H)
def Gwg{i:Int}{j pos}:JE X XQ (.Constant (.int i) j pos) (cn (.int i)):=Xa Gvc fun _ _=>rfl
def Ha0{b:Bool}{j pos}:JE X XQ (.Constant (.bool b) j pos) (cn (.bl b)):=Xa Gz7 fun _ _=>rfl
def Gwh{j pos}:JE X XQ (.Constant .none j pos) (cn .non):=Xa Gvd fun _ _=>rfl
def Gwi{x:Str}{j pos}:JE X XQ (.Constant (.str x) j pos) (cn (.str x)):=Xa Gve fun _ _=>rfl
noncomputable def an:Ev (List D):=fun _ S=>.ok [] S
def ac(f:Ev D)(g:Ev (List D)):Ev (List D):=fun U S=>(f U S).bind fun x S1=>(g U S1).bind fun xs S2=>.ok (x::xs) S2
def Gwj:JA X XQ [] an:=PA.mono pa_nil fun Z H Q ⟨mp,U,S,G,p⟩=>Gj.ok p G.rs RepL.nil
def Gqy{e:Expr}{es:List Expr}{f:Ev D}{g:Ev (List D)}(ha:JE X XQ e f)(hr:JA X XQ es g)(hs:starEach (e::es) X.env=(false,eval e X.env)::starEach es X.env:=by rfl):JA X XQ (e::es) (ac f g):=by
 refine PA.mono (Vg ha hr hs) fun Z H Q ⟨mp,U,S,G,p⟩=>?_
 refine bindP G p fun mp1 H1 x S1 v a1 G1 r1 p1=>?_
 refine bindP G1 p1 fun mp2 H2 xs S2 vs a2 G2 r2 p2=>?_
 exact Gj.ok p2 G2.rs (RepL.cons (Rep.aft a2 _ _ r1) r2)
def Wc{K:BE}{mp:List BI}{H:Hp}{p:BI}{o:HO}(h:H p=none)(hd:∀ kvs,o≠.dT kvs:=by intro _ z; cases z):Aft K mp H mp (upd H p o):=by
 refine⟨fun _ _ e=>e,fun a xs s=>?_,fun a φ s=>by rw[Gm (Ha s h)]; exact s,fun i a e n ⟨kvs,z⟩=>?_,fun a ⟨kvs,z⟩=>⟨kvs,by rw[Gm (Ha z h)]; exact z⟩⟩
 ·rcases s with(s | ⟨ob,s⟩) | s
  ·exact .inl (.inl (by rw[Gm (Ha s h)]; exact s))
  ·exact .inl (.inr ⟨ob,by rw[Gm (Ha s h)]; exact s⟩)
  ·exact .inr s
 ·by_cases hb:a=p
  ·subst hb; rw[He] at z; exact hd kvs (Ab z)
  ·rw[Gm hb] at z; exact n ⟨kvs,z⟩
def Gqz{K:BE}{H:Hp}{p a:BI}{o:HO}{xs:List V}(h:H p=none)(s:SqF K H a xs):SqF K (upd H p o) a xs:=by
 rcases s with⟨ob,s⟩ | s
 ·exact .inl ⟨ob,by rw[Gm (Ha s h)]; exact s⟩
 ·exact .inr s
def Gbl.new{K:BE}{mp mp':List BI}{H:Hp}{p a:BI}{o:HO}{c:Cell}(h:H p=none)(af:Aft K mp H mp' (upd H p o))(q:Gbl K mp H a c):Gbl K mp' (upd H p o) a c:=by
 rcases q with⟨xs,r,e⟩ | ⟨f,kvs,e,r⟩
 case inr=>exact .inr ⟨f,kvs,by rw[Gm (Ha e h)]; exact e,Paired.mapP r fun _ _ z=>z.aft af⟩
 refine .inl ⟨xs,RepL.aft af _ _ r,?_⟩
 cases z:c.fz with
 | true=>rw[z] at e; exact(if_pos rfl).mpr (Gqz h ((if_pos rfl).mp e))
 | false=>
  rw[z,if_neg Ao] at e
  rw[if_neg Ao,Gm (Ha e h)]
  exact e
def RS.new{K:BE}{mp:List BI}{H:Hp}{S:Sto}{p:BI}{o:HO}(r:RS K mp H S)(h:H p=none)(hd:∀ kvs,o≠.dT kvs:=by intro _ z; cases z):RS K mp (upd H p o) S:=
 ⟨r.len,fun i a c e1 e2=>(r.cell i a c e1 e2).new h (Wc h hd),r.inj⟩
def RS.newL{K:BE}{mp:List BI}{H:Hp}{S:Sto}{p:BI}{ds:List D}{vs:List V}(r:RS K mp H S)(h:H p=none)(q:RepL K mp H ds vs):
  Aft K mp H (mp++[p]) (upd H p (.lst vs))/\RS K (mp++[p]) (upd H p (.lst vs)) (S++[⟨false,ds⟩])/\(mp++[p])[S.length]?=some p:=by
 have af:Aft K mp H (mp++[p]) (upd H p (.lst vs)):=⟨fun i a e=>by rw[Aq (Aa.mp e).1]; exact e,(Wc (mp:=mp) h).tup,(Wc (K:=K) (mp:=mp) h).ext,(Wc (K:=K) (mp:=mp) h).ndc,(Wc (K:=K) (mp:=mp) h).dcy⟩
 have hl:=r.len
 have lastp:(mp++[p])[S.length]?=some p:=by rw[<- hl]; simp
 refine⟨af,⟨by simp[hl],fun i a c e1 e2=>?_,fun i j a ci cj e1 e2 e3 e4 f1 f2=>?_⟩,lastp⟩
 ·by_cases hi:i<S.length
  ·rw[Aq (by omega)] at e1
   rw[Aq hi] at e2
   exact(r.cell i a c e1 e2).new h af
  ·have hi':i=S.length:=by
    have:=(Aa.mp e2).1
    simp at this
    omega
   subst hi'
   rw[lastp] at e1
   cases e1
   simp at e2
   subst e2
   exact .inl ⟨vs,RepL.aft af _ _ q,by simp[He]⟩
 ·have old:∀ (i:Nat) (a:BI) (c:Cell),i<S.length->(mp++[p])[i]?=some a->(S++[⟨false,ds⟩])[i]?=some c->c.fz=false->mp[i]?=some a/\S[i]?=some c/\a≠p:=fun i a c hi e1 e2 f=>by
   rw[Aq (by omega)] at e1
   rw[Aq hi] at e2
   refine⟨e1,e2,?_⟩
   obtain⟨o,e⟩:=(r.cell i a c e1 e2).low f
   exact Ha e h
  have hi:=(Aa.mp e3).1
  have hj:=(Aa.mp e4).1
  simp at hi hj
  by_cases hi':i<S.length
  ·obtain⟨o1,o2,o3⟩:=old i a ci hi' e1 e3 f1
   by_cases hj':j<S.length
   ·obtain⟨u1,u2,u3⟩:=old j a cj hj' e2 e4 f2
    exact r.inj i j a ci cj o1 u1 o2 u2 f1 f2
   ·have:j=S.length:=by omega
    subst this
    rw[lastp] at e2
    cases e2
    exact absurd rfl o3
  ·have:i=S.length:=by omega
   subst this
   rw[lastp] at e1
   cases e1
   by_cases hj':j<S.length
   ·obtain⟨u1,u2,u3⟩:=old j _ cj hj' e2 e4 f2
    exact absurd rfl u3
   ·omega
def RS.setL{K:BE}{mp:List BI}{H:Hp}{S:Sto}{i:Nat}{a:BI}{c:Cell}{xs vs:List V}{ds:List D}(r:RS K mp H S)(hi:mp[i]?=some a)(hc:S[i]?=some c)(hf:c.fz=false)(ha:H a=some (.lst xs))(q:RepL K mp H ds vs):
  Aft K mp H mp (upd H a (.lst vs))/\RS K mp (upd H a (.lst vs)) (S.set i ⟨false,ds⟩):=by
 have af:Aft K mp H mp (upd H a (.lst vs)):=by
  refine⟨fun _ _ e=>e,fun b ys s=>?_,fun b φ s=>by rw[Gm (Yi s ha (by intro z; cases z))]; exact s,fun j b e n ⟨kvs,z⟩=>?_,fun b ⟨kvs,z⟩=>⟨kvs,by rw[Gm (Yi z ha (by intro z; cases z))]; exact z⟩⟩
  ·rcases s with(s | ⟨ob,s⟩) | s
   ·exact .inl (.inl (by rw[Gm (Yi s ha (by intro z; cases z))]; exact s))
   ·exact .inl (.inr ⟨ob,by rw[Gm (Yi s ha (by intro z; cases z))]; exact s⟩)
   ·exact .inr s
  ·by_cases hb:b=a
   ·subst hb; rw[He] at z; cases z
   ·rw[Gm hb] at z; exact n ⟨kvs,z⟩
 refine⟨af,⟨by simp[r.len],fun j b cj e1 e2=>?_,fun j k b cj ck e1 e2 e3 e4 f1 f2=>?_⟩⟩
 ·by_cases hj:j=i
  ·subst hj
   rw[hi] at e1
   cases e1
   rw[Ai (Aa.mp hc).1] at e2
   cases e2
   exact .inl ⟨vs,RepL.aft af _ _ q,by simp[He]⟩
  ·rw[Ae (Ne.symm hj)] at e2
   rcases r.cell j b cj e1 e2 with⟨ys,h1,h2⟩ | ⟨f,kvs,e,rr⟩
   case inr=>exact .inr ⟨f,kvs,by rw[Gm (Yi e ha (by intro z; cases z))]; exact e,Paired.mapP rr fun _ _ z=>z.aft af⟩
   refine .inl ⟨ys,RepL.aft af _ _ h1,?_⟩
   cases z:cj.fz with
   | true=>
    rw[z] at h2
    have h2:SqF K H b ys:=(if_pos rfl).mp h2
    refine(if_pos rfl).mpr ?_
    rcases h2 with⟨ob,s⟩ | s
    ·exact .inl ⟨ob,by rw[Gm (Yi s ha (by intro z; cases z))]; exact s⟩
    ·exact .inr s
   | false=>
    rw[z,if_neg Ao] at h2
    rw[if_neg Ao]
    have hb:b≠a:=fun hb=>by
     subst hb
     exact hj (r.inj j i b cj c e1 hi e2 hc z hf)
    rw[Gm hb]
    exact h2
 ·have fz:∀ (j:Nat) (cj:Cell),(S.set i ⟨false,ds⟩)[j]?=some cj->cj.fz=false->∃ c',S[j]?=some c'/\c'.fz=false:=fun j cj e f=>by
   by_cases hj:j=i
   ·subst hj
    exact⟨c,hc,hf⟩
   ·rw[Ae (Ne.symm hj)] at e
    exact⟨cj,e,f⟩
  obtain⟨c1,g1,g2⟩:=fz j cj e3 f1
  obtain⟨c2,g3,g4⟩:=fz k ck e4 f2
  exact r.inj j k b c1 c2 e1 e2 g1 g3 g2 g4
def RS.items{K:BE}{mp:List BI}{H:Hp}{S:Sto}{i:Nat}{c:Cell}{v:V}(r:RS K mp H S)(h:Rep K mp H (.lst i) v)(e:S[i]?=some c):∃ a xs,v=.ref a/\mp[i]?=some a/\SqL K H a xs/\RepL K mp H c.xs xs/\(c.fz=false->H a=some (.lst xs)):=by
 obtain⟨a,ev,ea,n⟩:=(show ∃ a,v=.ref a/\mp[i]?=some a/\¬ Dcy H a from h)
 rcases r.cell i a c ea e with⟨xs,q,z⟩ | ⟨f,kvs,e,rr⟩
 case inr=>exact absurd ⟨kvs,e⟩ n
 cases f:c.fz with
 | true=>rw[f] at z; exact⟨a,xs,ev,ea,((if_pos rfl).mp z:SqF K H a xs).sq,q,fun w=>nomatch w⟩
 | false=>rw[f,if_neg Ao] at z; exact⟨a,xs,ev,ea,SqL.of z,q,fun _=>z⟩
def Rep.nd{K:BE}{mp:List BI}{H:Hp}{i:Nat}{a:BI}(h:Rep K mp H (.lst i) (.ref a)):¬ Dcy H a:=by
 obtain⟨b,e,_,n⟩:=(show ∃ b,V.ref a=.ref b/\mp[i]?=some b/\¬ Dcy H b from h)
 cases e
 exact n
def Gik{H:Hp}{a:BI}{xs:List V}(h:H a=some (.lst xs)):¬ Dcy H a:=fun⟨_,z⟩=>by rw[h] at z; cases z
def Rep.tup{K:BE}{mp:List BI}{H:Hp}{l:List D}{v:V}(h:Rep K mp H (.tup l) v):∃ a xs,v=.ref a/\SqT K H a xs/\RepL K mp H l xs:=h
def OpD(K:BE)(r:R2)(o:D->D->Sto->Out D):Prop:=
 ∀ (XQ:XW) (Z:L2.St) (U:Lc) (mp:List BI) (H:Hp) (S:Sto) (x y:D) (v u:V) (Q:VK),RS K mp H S->Rep K mp H x v->Rep K mp H y u->Post K XQ Z U mp H (o x y S) Q->r v u H Q
def o2(o:D->D->Sto->Out D)(fa fb:Ev D):Ev D:=fun U S=>(fa U S).bind fun x S1=>(fb U S1).bind fun y S2=>o x y S2
def Gq0{r:R2}{o:D->D->Sto->Out D}{fa fb:Ev D}(hd:OpD X.K r o):∀ Z H Q,rdE X.K XQ (o2 o fa fb) Z H Q->tOp r (rdE X.K XQ fa) (rdE X.K XQ fb) Z H Q:=by
 intro Z H Q ⟨mp,U,S,G,p⟩
 refine bindP G p fun mp1 H1 x S1 v a1 G1 r1 p1=>?_
 refine bindP G1 p1 fun mp2 H2 y S2 u a2 G2 r2 p2=>?_
 exact hd XQ Z U mp2 H2 S2 x y v u Q G2.rs (Rep.aft a2 _ _ r1) r2 p2
def Ge8{a b:Expr}{fa fb:Ev D}{op:Operator}{r:R2}{o:D->D->Sto->Out D}{pos:Pos}(ho:OpR X (binaryOp op) r)(hd:OpD X.K r o)(ha:JE X XQ a fa)(hb:JE X XQ b fb):JE X XQ (.BinOp a op b pos) (o2 o fa fb):=
 PE.mono (Hai ho ha hb) (Gq0 hd)
def Gft{a b:Expr}{fa fb:Ev D}{op:CmpOp}{r:R2}{o:D->D->Sto->Out D}{pos:Pos}(ho:OpR X (compareOp op) r)(hd:OpD X.K r o)(ha:JE X XQ a fa)(hb:JE X XQ b fb)(hm:behindInMarks op b=false):JE X XQ (.Compare a [op] [b] pos) (o2 o fa fb):=
 PE.mono (Gqn ho ha hb hm) (Gq0 hd)
def Gt6{a b:Expr}{fa fb:Ev D}{r:R2}{o:D->D->Sto->Out D}{pos:Pos}(hr:IxR X r)(hd:OpD X.K r o)(ha:JE X XQ a fa)(hb:JE X XQ b fb)(hs:Gan b):JE X XQ (.Subscript a b pos) (o2 o fa fb):=
 PE.mono (Hap hr ha hb hs) (Gq0 hd)
def UnD(K:BE)(r:V->Hp->VK->Prop)(o:D->Sto->Out D):Prop:=
 ∀ (XQ:XW) (Z:L2.St) (U:Lc) (mp:List BI) (H:Hp) (S:Sto) (x:D) (v:V) (Q:VK),RS K mp H S->Rep K mp H x v->Post K XQ Z U mp H (o x S) Q->r v H Q
def o1(o:D->Sto->Out D)(fa:Ev D):Ev D:=fun U S=>(fa U S).bind fun x S1=>o x S1
def Ha1{a:Expr}{fa:Ev D}{op:UnaryOp}{r:V->Hp->VK->Prop}{o:D->Sto->Out D}{pos:Pos}(ho:UnR X (unaryOp op) r)(hd:UnD X.K r o)(ha:JE X XQ a fa):JE X XQ (.UnaryOp op a pos) (o1 o fa):=by
 refine PE.mono (Haj ho ha) fun Z H Q ⟨mp,U,S,G,p⟩=>?_
 exact bindP G p fun mp1 H1 x S1 v a1 G1 r1 p1=>hd XQ Z U mp1 H1 S1 x v Q G1.rs r1 p1
def tp(f:Ev (List D)):Ev D:=fun U S=>(f U S).bind fun xs S1=>if xs.length<=1000000 then .ok (.tup xs) S1 else .bad
def ls(f:Ev (List D)):Ev D:=fun U S=>(f U S).bind fun xs S1=>if xs.length<=1000000 then .ok (.lst S1.length) (S1++[⟨false,xs⟩]) else .bad
def line_le{n:Nat}(h:n<=1000000):n<=sizeLine:=Am h (by decide)
def Ym{K:BE}{Z:L2.St}{U:Lc}{mp:List BI}{H:Hp}{S:Sto}{ds:List D}{vs:List V}{Q:VK}{p:BI}(po:Post K XQ Z U mp H (.ok (.tup ds) S) Q)(r:RS K mp H S)(q:RepL K mp H ds vs)(h:H p=none):Q (.ref p) (upd H p (.tup vs)):=by
 have af:Aft K mp H mp (upd H p (.tup vs)):=Wc h
 exact po mp _ _ af (r.new h) ⟨p,vs,rfl,SqT.of He,RepL.aft af _ _ q⟩
def Xb{K:BE}{Z:L2.St}{U:Lc}{mp:List BI}{H:Hp}{S:Sto}{ds:List D}{vs:List V}{Q:VK}{p:BI}(po:Post K XQ Z U mp H (.ok (.lst S.length) (S++[⟨false,ds⟩])) Q)(r:RS K mp H S)(q:RepL K mp H ds vs)(h:H p=none):Q (.ref p) (upd H p (.lst vs)):=by
 obtain⟨af,rs,e⟩:=r.newL h q
 exact po _ _ _ af rs ⟨p,rfl,e,Gik He⟩
def Gwk{es:List Expr}{f:Ev (List D)}{x1}{pos:Pos}(h:JA X XQ es f):JE X XQ (.Tuple es x1 pos) (tp f):=by
 refine PE.mono (Gv4 h) fun Z H Q ⟨mp,U,S,G,p⟩=>?_
 refine bindP G p fun mp1 H1 xs S1 vs a1 G1 r1 p1=>?_
 by_cases hl:xs.length<=1000000
 ·rw[if_pos hl] at p1
  exact⟨by rw[r1.len]; exact line_le hl,fun q hq=>Ym p1 G1.rs r1 hq⟩
 ·rw[if_neg hl] at p1; exact p1.elim
def Gwl{es:List Expr}{f:Ev (List D)}{pos:Pos}(h:JA X XQ es f):JE X XQ (.List es pos) (ls f):=by
 refine PE.mono (Gv5 h) fun Z H Q ⟨mp,U,S,G,p⟩=>?_
 refine bindP G p fun mp1 H1 xs S1 vs a1 G1 r1 p1=>?_
 by_cases hl:xs.length<=1000000
 ·rw[if_pos hl] at p1
  exact⟨by rw[r1.len]; exact line_le hl,fun q hq=>Xb p1 G1.rs r1 hq⟩
 ·rw[if_neg hl] at p1; exact p1.elim
noncomputable def Vp:D->Sto->BJ Bool
 | .non,_=>some false
 | .bl b,_=>some b
 | .int i,_=>some (i != 0)
 | .str y,_=>if y.length<=1000000 then some ((y.length:Int) != 0) else none
 | .tup l,_=>some (!l.isEmpty)
 | .lst i,S=>match S[i]? with
  | some c=>some (!c.xs.isEmpty)
  | none=>none
 | .exn _ _,_=>none
 | .fv _,_=>none
 | .dct _,_=>none
def tt(f:Ev D):Ev Bool:=fun U S=>(f U S).bind fun x S1=>match Vp x S1 with
 | some b=>.ok b S1
 | none=>.bad
def RepL.empty{K:BE}{mp:List BI}{H:Hp}{l:List D}{vs:List V}(h:RepL K mp H l vs):(!l.isEmpty)=!vs.isEmpty:=by
 have e:=h.len
 cases l<;>cases vs<;>simp_all
def Gq1{K:BE}{mp:List BI}{H:Hp}{S:Sto}{x:D}{v:V}{b:Bool}(r:RS K mp H S)(h:Rep K mp H x v)(e:Vp x S=some b):Gv2 K v H b:=by
 cases x with
 | non=>cases (show v=.non from h); exact(Ab e).symm
 | bl c=>cases (show v=.bl c from h); exact(Ab e).symm
 | int i=>cases (show v=.int i from h); exact(Ab e).symm
 | str y=>
  cases (show v=.str y from h)
  have e:(if y.length<=1000000 then some ((y.length:Int) != 0) else none)=some b:=e
  by_cases hl:y.length<=1000000
  ·rw[if_pos hl] at e; exact⟨line_le hl,(Ab e).symm⟩
  ·rw[if_neg hl] at e; cases e
 | tup l=>
  obtain⟨a,xs,rfl,s,q⟩:=Rep.tup h
  exact .inr (.inl ⟨xs,s,by rw[<- q.empty]; exact(Ab e).symm⟩)
 | lst i=>
  have e:(match S[i]? with | some c=>some (!c.xs.isEmpty) | none=>none)=some b:=e
  cases z:S[i]? with
  | none=>rw[z] at e; cases e
  | some c=>
   rw[z] at e
   obtain⟨a,xs,rfl,_,s,q,_⟩:=r.items h z
   exact .inl ⟨xs,s,by rw[<- q.empty]; exact(Ab e).symm⟩
 | exn c n=>cases (show(none:BJ Bool)=some b from e)
 | fv c=>cases (show(none:BJ Bool)=some b from e)
 | dct c=>cases (show(none:BJ Bool)=some b from e)
def Gwm{e:Expr}{f:Ev D}(h:JE X XQ e f)(he:∀ whole,isTrue e X.env whole=(do let v <- whole; standAt e.pos; holding [v] (truthy v)):=by intro _; rfl):JT X XQ e (tt f):=by
 refine PT.mono (Gmn h he) fun Z H Q ⟨mp,U,S,G,p⟩=>?_
 refine bindP G p fun mp1 H1 x S1 v a1 G1 r1 p1=>?_
 cases z:Vp x S1 with
 | none=>rw[z] at p1; exact p1.elim
 | some b=>
  rw[z] at p1
  exact⟨b,Gq1 G1.rs r1 z,Gj.ok p1 G1.rs rfl⟩
def tb(f:Ev D):Ev Bool:=fun U S=>(f U S).bind fun x S1=>match x with
 | .bl b=>.ok b S1
 | _=>.bad
def Gmz{K:BE}{f:Ev D}{Z:L2.St}{H:Hp}{Q:Bool->Hp->Prop}(h:rdT K XQ (tb f) Z H Q):rdE K XQ f Z H fun x H1=>∃ k,x=.bl k/\Q k H1:=by
 obtain⟨mp,U,S,G,p⟩:=h
 refine bindP G p fun mp1 H1 x S1 v a1 G1 r1 p1=>?_
 cases x with
 | bl b=>exact⟨b,r1,Gj.ok p1 G1.rs rfl⟩
 | _=>exact p1.elim
def Gfu{a b:Expr}{fa fb:Ev D}{op:CmpOp}{r:R2}{o:D->D->Sto->Out D}{pos:Pos}(ho:OpR X (compareOp op) r)(hd:OpD X.K r o)(ha:JE X XQ a fa)(hb:JE X XQ b fb)(hm:behindInMarks op b=false):JT X XQ (.Compare a [op] [b] pos) (tb (o2 o fa fb)):=
 PT.mono (Gqo ho ha hb hm) fun Z H Q h=>Gq0 hd Z H _ (Gmz h)
def tn(f:Ev Bool):Ev Bool:=fun U S=>(f U S).bind fun b S1=>.ok (!b) S1
def ta(f g:Ev Bool):Ev Bool:=fun U S=>(f U S).bind fun b S1=>if b=true then g U S1 else .ok false S1
def to(f g:Ev Bool):Ev Bool:=fun U S=>(f U S).bind fun b S1=>if b=true then .ok true S1 else g U S1
def Gwn{a:Expr}{f:Ev Bool}{pos:Pos}(h:JT X XQ a f):JT X XQ (.UnaryOp .Not a pos) (tn f):=
 PT.mono (Gvh h) fun Z H Q ⟨mp,U,S,G,p⟩=>bindP G p fun mp1 H1 b S1 c a1 G1 r1 p1=>by
  cases (show c=b from r1)
  exact Gj.ok p1 G1.rs rfl
def Gq2{a:Expr}{f:Ev Bool}{pos:Pos}(h:JT X XQ a f):JW X XQ (.BoolOp .And [a] pos) f:=Gqg h
def Gwo{a:Expr}{f:Ev Bool}{pos:Pos}(h:JT X XQ a f):JW X XQ (.BoolOp .Or [a] pos) f:=Gvf h
def Gwp{a b:Expr}{rest:List Expr}{f g:Ev Bool}{pos:Pos}(h:JT X XQ a f)(hb:JW X XQ (.BoolOp .And (b::rest) pos) g):JW X XQ (.BoolOp .And (a::b::rest) pos) (ta f g):=
 PW.mono (Gvg h hb) fun Z H Q ⟨mp,U,S,G,p⟩=>bindP G p fun mp1 H1 b S1 c a1 G1 r1 p1=>by
  cases (show c=b from r1)
  cases b with
  | true=>exact(if_pos rfl).mpr ⟨mp1,U,S1,G1,by simpa using p1⟩
  | false=>exact(if_neg Ao).mpr (Gj.ok (R:=kB) (d:=false) (S:=S1) (by simpa using p1) G1.rs rfl)
def Ha2{a b:Expr}{rest:List Expr}{f g:Ev Bool}{pos:Pos}(h:JT X XQ a f)(hb:JW X XQ (.BoolOp .Or (b::rest) pos) g):JW X XQ (.BoolOp .Or (a::b::rest) pos) (to f g):=
 PW.mono (Gz8 h hb) fun Z H Q ⟨mp,U,S,G,p⟩=>bindP G p fun mp1 H1 b S1 c a1 G1 r1 p1=>by
  cases (show c=b from r1)
  cases b with
  | false=>exact(if_neg Ao).mpr ⟨mp1,U,S1,G1,by simpa using p1⟩
  | true=>exact(if_pos rfl).mpr (Gj.ok (R:=kB) (d:=true) (S:=S1) (by simpa using p1) G1.rs rfl)
def JW.jt{e:Expr}{f:Ev Bool}(h:JW X XQ e f):JT X XQ e f:=PW.pt h
def va(f g:Ev D):Ev D:=fun U S=>(f U S).bind fun x S1=>match x with
 | .bl b=>if b=true then g U S1 else .ok (.bl false) S1
 | _=>.bad
def vo(f g:Ev D):Ev D:=fun U S=>(f U S).bind fun x S1=>match x with
 | .bl b=>if b=true then .ok (.bl true) S1 else g U S1
 | _=>.bad
def vn(f:Ev D):Ev D:=fun U S=>(f U S).bind fun x S1=>match x with
 | .bl b=>.ok (.bl (!b)) S1
 | _=>.bad
def Gwq{a:Expr}{op}{f:Ev D}{pos:Pos}(h:JE X XQ a f):JE X XQ (.BoolOp op [a] pos) f:=Gvi h
def Gwr{a b:Expr}{rest:List Expr}{f g:Ev D}{pos:Pos}(ha:JE X XQ a f)(hb:JE X XQ (.BoolOp .And (b::rest) pos) g):JE X XQ (.BoolOp .And (a::b::rest) pos) (va f g):=
 PE.mono (Gvj ha hb) fun Z H Q ⟨mp,U,S,G,p⟩=>bindP G p fun mp1 H1 x S1 v a1 G1 r1 p1=>by
  cases x with
  | bl b=>
   refine⟨b,r1,?_⟩
   cases b with
   | true=>exact(if_pos rfl).mpr ⟨mp1,U,S1,G1,by simpa using p1⟩
   | false=>exact(if_neg Ao).mpr (Gj.ok (R:=Rep X.K) (d:=.bl false) (S:=S1) (by simpa using p1) G1.rs rfl)
  | _=>exact p1.elim
def Gws{a:Expr}{f:Ev D}{pos:Pos}(ha:JE X XQ a f):JE X XQ (.UnaryOp .Not a pos) (vn f):=
 PE.mono (Gvk ha) fun Z H Q ⟨mp,U,S,G,p⟩=>bindP G p fun mp1 H1 x S1 v a1 G1 r1 p1=>by
  cases x with
  | bl b=>exact⟨b,r1,Gj.ok p1 G1.rs rfl⟩
  | _=>exact p1.elim
def ie(c:Ev Bool)(f g:Ev D):Ev D:=fun U S=>(c U S).bind fun b S1=>if b=true then f U S1 else g U S1
def Gwt{a b c:Expr}{fc:Ev Bool}{fa fb:Ev D}{pos:Pos}(hc:JT X XQ c fc)(ha:JE X XQ a fa)(hb:JE X XQ b fb):JE X XQ (.IfExp c a b pos) (ie fc fa fb):=
 PE.mono (Gmd hc ha hb) fun Z H Q ⟨mp,U,S,G,p⟩=>bindP G p fun mp1 H1 b S1 c a1 G1 r1 p1=>by
  cases (show c=b from r1)
  cases b with
  | true=>exact(if_pos rfl).mpr ⟨mp1,U,S1,G1,by simpa using p1⟩
  | false=>exact(if_neg Ao).mpr ⟨mp1,U,S1,G1,by simpa using p1⟩
end
inductive OS where
 | nx (U:Lc) (S:Sto) | rt (d:D) (S:Sto) | bk (U:Lc) (S:Sto) | ct (U:Lc) (S:Sto) | exc (x:XD) (U:Lc) (S:Sto) | bad
abbrev Sv:=Lc->Sto->OS
def PostS(K:BE)(XQ:XW)(mp:List BI)(H:Hp)(o:OS)(E:Ends):Prop:=
 match o with
 | .nx U S=>∀ mp' H' Z',Aft K mp H mp' H'->Gd K mp' H' Z' U S->E.nx Z' H'
 | .rt d S=>∀ mp' H' v,Aft K mp H mp' H'->RS K mp' H' S->Rep K mp' H' d v->E.rt v H'
 | .bk U S=>∀ mp' H' Z',Aft K mp H mp' H'->Gd K mp' H' Z' U S->E.bk Z' H'
 | .ct U S=>∀ mp' H' Z',Aft K mp H mp' H'->Gd K mp' H' Z' U S->E.ct Z' H'
 | .exc x U S=>∀ mp' H' Z',Aft K mp H mp' H'->Gd K mp' H' Z' U S->XQ x mp' H' Z' U S
 | .bad=>False
def PostS.aft{K:BE}{XQ:XW}{mp mp':List BI}{H H':Hp}{o:OS}{E:Ends}(p:PostS K XQ mp H o E)(a:Aft K mp H mp' H'):PostS K XQ mp' H' o E:=by
 cases o with
 | nx U S=>exact fun m h v b=>p m h v (a.trans b)
 | rt d S=>exact fun m h v b=>p m h v (a.trans b)
 | bk U S=>exact fun m h v b=>p m h v (a.trans b)
 | ct U S=>exact fun m h v b=>p m h v (a.trans b)
 | exc x U S=>exact fun m h v b=>p m h v (a.trans b)
 | bad=>exact p
def rdS(K:BE)(XQ:XW)(f:Sv):TS:=fun E Z H=>∃ mp U S,Gd K mp H Z U S/\PostS K XQ mp H (f U S) E
def JS(X:Cx)(XQ:XW)(st:Stmt)(f:Sv):Prop:=PS X st (rdS X.K XQ f)
def JSs(X:Cx)(XQ:XW)(st:List Stmt)(f:Sv):Prop:=PSs X st (rdS X.K XQ f)
noncomputable def bindS{O:Type}(o:Out O)(U:Lc)(k:O->Sto->OS):OS:=
 match o with
 | .ok a S=>k a S
 | .exc x S=>.exc x U S
 | .bad=>.bad
def bindSP{O β:Type}{K:BE}{R:RL O β}{XQ:XW}{mp:List BI}{H:Hp}{Z:L2.St}{U:Lc}{S:Sto}{f:Ev O}{g:O->Sto->OS}{E:Ends}{Q1:β->Hp->Prop}(G:Gd K mp H Z U S)(p:PostS K XQ mp H (bindS (f U S) U g) E)
  (k:∀ mp1 H1 d S1 v,Aft K mp H mp1 H1->Gd K mp1 H1 Z U S1->R mp1 H1 d v->PostS K XQ mp1 H1 (g d S1) E->Q1 v H1):rdG K R XQ f Z H Q1:=by
 refine⟨mp,U,S,G,?_⟩
 cases e:f U S with
 | ok d S1=>
  rw[e] at p
  exact fun mp1 H1 v a rs r=>k mp1 H1 d S1 v a (G.aft a rs) r (PostS.aft p a)
 | exc x S1=>rw[e] at p; exact fun m h b c=>p m h Z b c
 | bad=>rw[e] at p; exact p
noncomputable def skip:Sv:=fun U S=>.nx U S
noncomputable def sq(f g:Sv):Sv:=fun U S=>match f U S with
 | .nx U' S'=>g U' S'
 | .rt d S'=>.rt d S'
 | .bk U' S'=>.bk U' S'
 | .ct U' S'=>.ct U' S'
 | .exc x U' S'=>.exc x U' S'
 | .bad=>.bad
section
variable{X:Cx}{XQ:XW}
def PostS.nx{K:BE}{mp:List BI}{H:Hp}{Z:L2.St}{U:Lc}{S:Sto}{E:Ends}(p:PostS K XQ mp H (.nx U S) E)(G:Gd K mp H Z U S):E.nx Z H:=p mp H Z .refl G
def PostS.rt{K:BE}{mp:List BI}{H:Hp}{d:D}{v:V}{S:Sto}{E:Ends}(p:PostS K XQ mp H (.rt d S) E)(r:RS K mp H S)(h:Rep K mp H d v):E.rt v H:=p mp H v .refl r h
def Gq3:JSs X XQ [] skip:=PSs.mono Gqh fun E Z H ⟨mp,U,S,G,p⟩=>PostS.nx p G
def Gm0{st:Stmt}{rest:List Stmt}{f g:Sv}(h1:JS X XQ st f)(h2:JSs X XQ rest g):JSs X XQ (st::rest) (sq f g):=by
 refine PSs.mono (Gme h1 h2) fun E Z H ⟨mp,U,S,G,p⟩=>⟨mp,U,S,G,?_⟩
 unfold sq at p
 cases e:f U S with
 | nx U' S'=>rw[e] at p; exact fun m h v a G'=>⟨m,U',S',G',PostS.aft p a⟩
 | rt d S'=>rw[e] at p; exact p
 | bk U' S'=>rw[e] at p; exact p
 | ct U' S'=>rw[e] at p; exact p
 | exc x U' S'=>rw[e] at p; exact p
 | bad=>rw[e] at p; exact p
def Gq4{st:Stmt}{f:Sv}(h1:JS X XQ st f):JSs X XQ [st] f:=Gjg h1
noncomputable def sct:Sv:=fun U S=>.ct U S
def Gg7{pos:Pos}:JS X XQ (.Continue pos) sct:=PS.mono Gg3 fun E Z H ⟨mp,U,S,G,p⟩=>p mp H Z .refl G
def sx(f:Ev D):Sv:=fun U S=>bindS (f U S) U fun _ S1=>.nx U S1
def Gq5{e:Expr}{f:Ev D}{pos:Pos}(he:JE X XQ e f)(hs:swapsWith e none pos.line X.env=pure false:=by rfl):JS X XQ (.Expr e pos) (sx f):=
 PS.mono (Gjh he hs) fun E Z H ⟨mp,U,S,G,p⟩=>bindSP G p fun mp1 H1 d S1 v a1 G1 r1 p1=>PostS.nx p1 G1
def sret(f:Ev D):Sv:=fun U S=>bindS (f U S) U fun d S1=>.rt d S1
def Gwu{e:Expr}{f:Ev D}{pos:Pos}(he:JE X XQ e f):JS X XQ (.Return (some e) pos) (sret f):=
 PS.mono (Gvl he) fun E Z H ⟨mp,U,S,G,p⟩=>bindSP G p fun mp1 H1 d S1 v a1 G1 r1 p1=>PostS.rt p1 G1.rs r1
def sif(c:Ev Bool)(f g:Sv):Sv:=fun U S=>bindS (c U S) U fun b S1=>if b=true then f U S1 else g U S1
def Ha3{c:Expr}{a b:List Stmt}{fc:Ev Bool}{f g:Sv}{pos:Pos}(hc:JT X XQ c fc)(ha:JSs X XQ a f)(hb:JSs X XQ b g):JS X XQ (.If c a b pos) (sif fc f g):=
 PS.mono (Had hc ha hb) fun E Z H ⟨mp,U,S,G,p⟩=>bindSP G p fun mp1 H1 b S1 c a1 G1 r1 p1=>by
  cases (show c=b from r1)
  cases b with
  | true=>exact(if_pos rfl).mpr ⟨mp1,U,S1,G1,by simpa using p1⟩
  | false=>exact(if_neg Ao).mpr ⟨mp1,U,S1,G1,by simpa using p1⟩
def Gd.set{K:BE}{mp:List BI}{H:Hp}{Z:L2.St}{U:Lc}{S:Sto}{d:D}{v:V}(G:Gd K mp H Z U S)(i:Nat)(r:Rep K mp H d v):Gd K mp H (Z.set i (some v)) (U.set i (some d)) S:=by
 refine⟨G.rs,by simp[G.len],fun j e h=>?_⟩
 by_cases hj:j=i
 ·subst hj
  have hl:j<U.length:=by
   have:=(Aa.mp h).1
   simpa using this
  rw[Ai hl] at h
  cases h
  exact⟨v,by rw[Ai (by rw[G.len]; exact hl)],r⟩
 ·rw[Ae (Ne.symm hj)] at h ⊢
  exact G.loc j e h
abbrev Tg:=D->Lc->BJ Lc
def Gm1(K:BE)(g:Tg):TG:=fun v Z H Q=>∃ mp U S d U',Gd K mp H Z U S/\Rep K mp H d v/\g d U=some U'/\∀ Z',Gd K mp H Z' U' S->Q Z' H
def JG(X:Cx)(tg:Expr)(g:Tg):Prop:=PG X tg (Gm1 X.K g)
def PG.mono{X:Cx}{e:Expr}{t t':TG}(h:PG X e t)(m:∀ v Z H Q,t' v Z H Q->t v Z H Q):PG X e t':=fun pins s Z H v u Q I r q=>h pins s Z H v u Q I r (m v Z H Q q)
noncomputable def gn(i:Nat):Tg:=fun d U=>some (U.set i (some d))
def Gfv(i:Nat){x:Str}{pos:Pos}(hN:X.N.Nodup)(hi:X.N[i]?=some x:=by rfl)(hx:Loc X.env.scope x:=by first | exact Or.inl rfl | exact Or.inr rfl)(hf:X.fn x=true\/X.env.scope.names.lookup x=some .local:=by first | exact .inl rfl | exact .inr rfl | assumption):JG X (.Name x pos) (gn i):=
 PG.mono (Gqj hN hi hx hf) fun v Z H Q ⟨mp,U,S,d,U',G,r,e,k⟩=>by
  cases (Ab e)
  exact k _ (G.set i r)
abbrev Tgs:=List D->Lc->BJ Lc
def Hdx(K:BE)(g:Tgs):TGs:=fun vs Z H Q=>∃ mp U S ds U',Gd K mp H Z U S/\RepL K mp H ds vs/\g ds U=some U'/\∀ Z',Gd K mp H Z' U' S->Q Z' H
def JGs(X:Cx)(ts:List Expr)(g:Tgs):Prop:=PGs X ts (Hdx X.K g)
def PGs.mono{X:Cx}{e:List Expr}{t t':TGs}(h:PGs X e t)(m:∀ v Z H Q,t' v Z H Q->t v Z H Q):PGs X e t':=fun pins s Z H v u Q I r q=>h pins s Z H v u Q I r (m v Z H Q q)
noncomputable def gnil:Tgs:=fun ds U=>match ds with
 | []=>some U
 | _::_=>none
def gcons(g:Tg)(k:Tgs):Tgs:=fun ds U=>match ds with
 | []=>none
 | d::r=>(g d U).bind fun U'=>k r U'
def Gq6:JGs X [] gnil:=PGs.mono Gqk fun vs Z H Q ⟨mp,U,S,ds,U',G,r,e,k⟩=>by
 cases ds with
 | nil=>
  cases (show some U=some U' from e)
  exact⟨r,k _ G⟩
 | cons _ _=>cases (show(none:BJ Lc)=some U' from e)
def Gm2{e:Expr}{es:List Expr}{g:Tg}{k:Tgs}(h1:JG X e g)(h2:JGs X es k)
  (hs:(assignEach (e::es) X.env).map (·.2)=assign e X.env::(assignEach es X.env).map (·.2):=by rfl):JGs X (e::es) (gcons g k):=
 PGs.mono (Gmf h1 h2 hs) fun vs Z H Q ⟨mp,U,S,ds,U',G,r,e,q⟩=>by
  cases ds with
  | nil=>cases (show(none:BJ Lc)=some U' from e)
  | cons d ds=>
   have e:(g d U).bind (fun U'=>k ds U')=some U':=e
   obtain⟨v,vr,ev,h3,h4⟩:=(show ∃ v r,vs=v::r/\Rep X.K mp H d v/\RepL X.K mp H ds r from r)
   cases z:g d U with
   | none=>rw[z] at e; cases e
   | some U1=>
    rw[z] at e
    exact⟨v,vr,ev,mp,U,S,d,U1,G,h3,z,fun Z1 G1=>⟨mp,U1,S,ds,U',G1,h4,e,q⟩⟩
noncomputable def gt(k:Tgs)(n:Nat):Tg:=fun d U=>match d with
 | .tup ds=>if ds.length=n then k ds U else none
 | _=>none
def Gwv{es:List Expr}{m:Nat}{k:Tgs}{n:Nat}{pos:Pos}(hc:X.calm=true)(h:JGs X es k)
  (hn:(assignEach es X.env).length=n:=by rfl) (hst:(assignEach es X.env).findIdx? (·.1)=none:=by rfl):JG X (.Tuple es m pos) (gt k n):=
 PG.mono (Gvm hc h hn hst) fun v Z H Q ⟨mp,U,S,d,U',G,r,e,q⟩=>by
  cases d with
  | tup ds=>
   have e:(if ds.length=n then k ds U else none)=some U':=e
   obtain⟨a,xs,ev,sq,rl⟩:=Rep.tup r
   by_cases hl:ds.length=n
   ·rw[if_pos hl] at e
    exact⟨a,xs,ev,sq,by rw[rl.len]; exact hl,mp,U,S,ds,U',G,rl,e,q⟩
   ·rw[if_neg hl] at e; cases e
  | _=>cases (show(none:BJ Lc)=some U' from e)
def sa(f:Ev D)(g:Tg):Sv:=fun U S=>bindS (f U S) U fun d S1=>match g d U with
 | some U'=>.nx U' S1
 | none=>.bad
def Hdy{K:BE}{f:Ev D}{g:Tg}(E:Ends)(Z:L2.St)(H:Hp)(h:rdS K XQ (sa f g) E Z H):Gql (rdE K XQ f) (Gm1 K g) E Z H:=by
 obtain⟨mp,U,S,G,p⟩:=h
 refine bindSP G p fun mp1 H1 d S1 v a1 G1 r1 p1=>?_
 cases z:g d U with
 | none=>rw[z] at p1; exact p1.elim
 | some U'=>
  rw[z] at p1
  exact⟨mp1,U,S1,d,U',G1,r1,z,fun Z' G'=>PostS.nx p1 G'⟩
def Gww{tg e:Expr}{f:Ev D}{g:Tg}{pos:Pos}(he:JE X XQ e f)(hg:JG X tg g)(hs:swapsWithSole [tg] e pos.line X.env=pure false:=by rfl)(hw:swappedStores [tg] e X.env=pure none:=by rfl)
  (h1:(assignEach [tg] X.env).map (·.2)=[assign tg X.env]:=by rfl):JS X XQ (.Assign [tg] e pos) (sa f g):=
 PS.mono (Gmg he hg hs hw h1) Hdy
def Gwx(i:Nat){x:Str}{e:Expr}{f:Ev D}{pos pos':Pos}(hN:X.N.Nodup)(he:JE X XQ e f)(hi:X.N[i]?=some x:=by rfl)(hx:Loc X.env.scope x:=by first | exact Or.inl rfl | exact Or.inr rfl)(hs:swapsWith e (some (.Name x pos')) pos.line X.env=pure false:=by rfl)
  (hf:X.fn x=true\/X.env.scope.names.lookup x=some .local:=by first | exact .inl rfl | exact .inr rfl | assumption):JS X XQ (.Assign [.Name x pos'] e pos) (sa f (gn i)):=
 PS.mono (Gvo hN hi hx he hs hf) fun E Z H ⟨mp,U,S,G,p⟩=>bindSP G p fun mp1 H1 d S1 v a1 G1 r1 p1=>PostS.nx p1 (G1.set i r1)
def Gwy(t:Glc)(K:BE)(o:D->D->D->Sto->BJ Sto):Prop:=
 ∀ (mp:List BI) (H:Hp) (S S':Sto) (x y z:D) (v u w:V) (Q:Hp->Prop),RS K mp H S->Rep K mp H x v->Rep K mp H y u->Rep K mp H z w->o x y z S=some S'->(∀ H',Aft K mp H mp H'->RS K mp H' S'->Q H')->t v u w H Q
def ss(f fo fi:Ev D)(o:D->D->D->Sto->BJ Sto):Sv:=fun U S=>bindS (f U S) U fun d S1=>bindS (fo U S1) U fun x S2=>bindS (fi U S2) U fun y S3=>match o x y d S3 with
 | some S4=>.nx U S4
 | none=>.bad
def Gm3{ob ix e:Expr}{f fo fi:Ev D}{t:Glc}{o:D->D->D->Sto->BJ Sto}{pos p2:Pos}(hset:Gqi X t)(ho:Gwy t X.K o)(he:JE X XQ e f)(hob:JE X XQ ob fo)(hix:JE X XQ ix fi)
  (hs:swapsWithSole [.Subscript ob ix p2] e pos.line X.env=pure false:=by rfl) (hw:swappedStores [.Subscript ob ix p2] e X.env=pure none:=by rfl)
  (h1:(assignEach [.Subscript ob ix p2] X.env).map (·.2)=[assign (.Subscript ob ix p2) X.env]:=by rfl) (ha:∀ v,assign (.Subscript ob ix p2) X.env v=(do
   let ov <- holding [v] (eval ob X.env)
   let iv <- holding [v,ov] (eval ix X.env)
   standAt p2
   holding [v,ov,iv] (setItem ov iv v)
   release [v,ov,iv] []):=by intro _; rfl):JS X XQ (.Assign [.Subscript ob ix p2] e pos) (ss f fo fi o):=by
 refine PS.mono (Gmg he (Gvn hob hix hset ha) hs hw h1) fun E Z H ⟨mp,U,S,G,p⟩=>?_
 refine bindSP G p fun mp1 H1 d S1 v a1 G1 r1 p1=>?_
 refine bindSP G1 p1 fun mp2 H2 x S2 vx a2 G2 r2 p2=>?_
 refine bindSP G2 p2 fun mp3 H3 y S3 vy a3 G3 r3 p3=>?_
 cases z:o x y d S3 with
 | none=>rw[z] at p3; exact p3.elim
 | some S4=>
  rw[z] at p3
  exact ho mp3 H3 S3 S4 x y d vx vy v _ G3.rs (Rep.aft a3 _ _ r2) r3 (Rep.aft (a2.trans a3) _ _ r1) z fun H' af rs=>p3 mp3 H' Z af (G3.aft af rs)
structure Src where
 nxt:Nat->Sto->BJ D
 fuel:Nat
def Gm4(K:BE)(mp0:List BI)(H0:Hp)(J:It)(nxt:Nat->Sto->BJ D):Prop:=
 ∀ (mp:List BI) (H:Hp) (S:Sto),Aft K mp0 H0 mp H->RS K mp H S->∀ k,match nxt k S with
  | some d=>J.go k H/\∀ x H',J.yld k H x H'->Aft K mp H mp H'/\RS K mp H' S/\Rep K mp H' d x
  | none=>J.stop k H
def kI(K:BE):RL Src It:=fun mp H s J=>Gm4 K mp H J s.nxt
abbrev rdI(K:BE)(XQ:XW)(f:Ev Src):TI:=rdG K (kI K) XQ f
def JI(X:Cx)(XQ:XW)(tg iter:Expr)(f:Ev Src):Prop:=PI X tg iter (rdI X.K XQ f)
def PI.mono{X:Cx}{tg e:Expr}{t t':TI}(h:PI X tg e t)(m:∀ Z H Q,t' Z H Q->t Z H Q):PI X tg e t':=fun pins s Z H Q I q=>h pins s Z H Q I (m Z H Q q)
noncomputable def Qe(nxt:Nat->Sto->BJ D)(g:Tg)(b:Sv):Nat->Nat->Sv
 | 0,_,_,_=>.bad
 | n+1,k,U,S=>match nxt k S with
  | none=>.nx U S
  | some d=>match g d U with
   | none=>.bad
   | some U1=>match b U1 S with
    | .nx U2 S2=>Qe nxt g b n (k+1) U2 S2
    | .ct U2 S2=>Qe nxt g b n (k+1) U2 S2
    | .bk U2 S2=>.nx U2 S2
    | .rt d S2=>.rt d S2
    | .exc x U2 S2=>.exc x U2 S2
    | .bad=>.bad
def sfor(f:Ev Src)(g:Tg)(b:Sv):Sv:=fun U S=>bindS (f U S) U fun s S1=>Qe s.nxt g b s.fuel 0 U S1
def Gwz{tg iter:Expr}{body:List Stmt}{f:Ev Src}{g:Tg}{b:Sv}{pos:Pos}(hp:PassesOwn (model X.prog X.w) X.A X.env X.xe)(hc:X.calm=true)(hi:JI X XQ tg iter f)(hg:JG X tg g)(hb:JSs X XQ body b)
  (hs:∀ x,foldedSetIterable iter X.env x=pure x:=by intro _; rfl):JS X XQ (.For tg iter body [] pos) (sfor f g b):=by
 refine PS.mono (Gvt hp hc hi hg hb hs) fun E Z H ⟨mp,U,S,G,p⟩=>?_
 refine bindSP G p fun mp1 H1 s S1 J a1 G1 j1 p1=>?_
 refine⟨fun i m Z' H'=>∃ mp' U' S',Aft X.K mp1 H1 mp' H'/\Gd X.K mp' H' Z' U' S'/\PostS X.K XQ mp' H' (Qe s.nxt g b m i U' S') E,⟨s.fuel,mp1,U,S1,.refl,G1,p1⟩,?_⟩
 rintro i m Z' H' ⟨mp',U',S',a',G',p'⟩
 cases m with
 | zero=>exact(show False from p').elim
 | succ n=>
  have j:=j1 mp' H' S' a' G'.rs i
  unfold Qe at p'
  cases z:s.nxt i S' with
  | none=>
   rw[z] at j p'
   exact .inl ⟨j,PostS.nx p' G'⟩
  | some d=>
   rw[z] at j p'
   obtain⟨j1,j2⟩:=j
   refine .inr ⟨j1,fun Z2 H2=>∃ mp2 U2 S2,Aft X.K mp1 H1 mp2 H2/\Gd X.K mp2 H2 Z2 U2 S2/\PostS X.K XQ mp2 H2 (Qe s.nxt g b n (i+1) U2 S2) E,fun Z2 H2 q=>⟨n,A7 n,q⟩,fun x H2 y=>?_⟩
   obtain⟨a2,r2,x2⟩:=j2 x H2 y
   have G2:=G'.aft a2 r2
   cases zg:g d U' with
   | none=>simp only[zg] at p'; exact p'.elim
   | some U1=>
    simp only[zg] at p'
    refine⟨mp',U',S',d,U1,G2,x2,zg,fun Z3 G3=>⟨mp',U1,S',G3,?_⟩⟩
    have p2:=PostS.aft p' a2
    cases zb:b U1 S' with
    | nx U2 S2=>simp only[zb] at p2; exact fun m h v af G4=>⟨m,U2,S2,(a'.trans a2).trans af,G4,PostS.aft p2 af⟩
    | ct U2 S2=>simp only[zb] at p2; exact fun m h v af G4=>⟨m,U2,S2,(a'.trans a2).trans af,G4,PostS.aft p2 af⟩
    | bk U2 S2=>simp only[zb] at p2; exact p2
    | rt d S2=>simp only[zb] at p2; exact p2
    | exc x U2 S2=>simp only[zb] at p2; exact p2
    | bad=>simp only[zb] at p2; exact p2
def Gjm:D->Sto->Out Src
 | .tup l,S=>.ok ⟨fun k _=>l[k]?,l.length+1⟩ S
 | .lst i,S=>match S[i]? with
  | some c=>.ok ⟨fun k S=>(S[i]?).bind fun c=>c.xs[k]?,c.xs.length+1⟩ S
  | none=>.bad
 | _,_=>.bad
end
section
variable{X:Cx}{XQ:XW}
def Hdz(K:BE)(tl:TE):TI:=fun Z H R=>tl Z H fun x H1=>∃ a,x=.ref a/\(((∃ xs,SqL K H1 a xs)/\R (Itl K a) H1)\/((∃ xs,SqT K H1 a xs)/\R (Itt K a) H1))
def Gw0{tg l:Expr}{tl:TE}(hl:PE X l tl):PI X tg l (Hdz X.K tl):=by
 intro pins s Z H R I h
 refine thn (hl pins s Z H _ I h) fun v s1 ⟨x,H1,I1,r1,q1⟩=>?_
 obtain⟨a,e,q⟩:=q1
 subst e
 cases r1
 rcases q with⟨⟨xs,hq⟩,q⟩ | ⟨⟨xs,hq⟩,q⟩
 ·obtain⟨its,rv,p,hz⟩:=I1.list hq
  refine wpAny_pyIter_list p.isList ?_
  refine⟨s1.heap.objs.size,[s1.heap.objs.size],_,_,H1,rfl,I1.kept (t':=s1.toks) fun b o e=>Ap _ e,turn_list a _,⟨_,AF _ rfl,rfl,rfl⟩,fun b hb=>?_,q⟩
  have e:b=s1.heap.objs.size:=by simpa using hb
  subst e
  exact I1.fpOk (Ac _) (I1.hok.fresh (Ac _))
 ·obtain⟨its,rv,p,hz⟩:=I1.tuple hq
  refine wpAny_pyIter_tuple (show s1.heap.IsTuple a its.toArray from p) ?_
  refine⟨s1.heap.objs.size,[s1.heap.objs.size],_,_,H1,rfl,I1.kept (t':=s1.toks) fun b o e=>Ap _ e,turn_tuple a _,⟨_,AF _ rfl,rfl,rfl⟩,fun b hb=>?_,q⟩
  have e:b=s1.heap.objs.size:=by simpa using hb
  subst e
  exact I1.fpOk (Ac _) (I1.hok.fresh (Ac _))
def isrc(f:Ev D):Ev Src:=fun U S=>(f U S).bind Gjm
def Gw1{K:BE}{mp:List BI}{H:Hp}{a:BI}{xs:List V}{l:List D}(s:SqT K H a xs)(r:RepL K mp H l xs):Gm4 K mp H (Itt K a) (fun k _=>l[k]?):=by
 intro mp' H' S' af rs k
 show match l[k]? with
  | some d=>(Itt K a).go k H'/\∀ x H2,(Itt K a).yld k H' x H2->Aft K mp' H' mp' H2/\RS K mp' H2 S'/\Rep K mp' H2 d x
  | none=>(Itt K a).stop k H'
 cases z:l[k]? with
 | none=>
  refine⟨xs,af.tup _ _ s,?_⟩
  rw[r.len]
  exact Be.mp z
 | some d=>
  have r':=RepL.aft af _ _ r
  obtain⟨v,e,q⟩:=r'.get z
  refine⟨⟨xs,v,af.tup _ _ s,e⟩,fun x H2 ⟨h1,h2⟩=>?_⟩
  subst h1
  have e2:=h2 xs (af.tup _ _ s)
  rw[e] at e2
  cases e2
  exact⟨.refl,rs,q⟩
def Gw2{K:BE}{mp:List BI}{H:Hp}{a:BI}{i:Nat}(hi:mp[i]?=some a)(nd:¬ Dcy H a):Gm4 K mp H (Itl K a) (fun k S=>(S[i]?).bind fun c=>c.xs[k]?):=by
 intro mp' H' S' af rs k
 have hi':=af.pre i a hi
 have hl:i<S'.length:=by rw[<- rs.len]; exact(Aa.mp hi').1
 have hc:S'[i]?=some S'[i]:=Ad hl
 obtain⟨a2,xs,e1,e2,sq,r,_⟩:=rs.items (v:=.ref a) ⟨a,rfl,hi',af.ndc i a hi nd⟩ hc
 cases e1
 simp only[hc,Bg]
 cases z:(S'[i]).xs[k]? with
 | none=>
  refine⟨xs,sq,?_⟩
  rw[r.len]
  exact Be.mp z
 | some d=>
  obtain⟨v,e,q⟩:=r.get z
  refine⟨⟨xs,v,sq,e⟩,fun x H2 ⟨h1,h2⟩=>?_⟩
  subst h1
  have e2:=h2 xs sq
  rw[e] at e2
  cases e2
  exact⟨.refl,rs,q⟩
def Gw3{tg l:Expr}{f:Ev D}(hl:JE X XQ l f):JI X XQ tg l (isrc f):=by
 refine PI.mono (Gw0 hl) fun Z H R ⟨mp,U,S,G,p⟩=>?_
 refine bindP G p fun mp1 H1 d S1 v a1 G1 r1 p1=>?_
 cases d with
 | tup ds=>
  obtain⟨a,xs,rfl,s,q⟩:=Rep.tup r1
  exact⟨a,rfl,.inr ⟨⟨xs,s⟩,Gj.ok (R:=kI X.K) (d:=⟨fun k _=>ds[k]?,ds.length+1⟩) (S:=S1) p1 G1.rs (Gw1 s q)⟩⟩
 | lst i=>
  have p1:Gj X.K (kI X.K) XQ Z U mp1 H1 (match S1[i]? with | some c=>.ok ⟨fun k S=>(S[i]?).bind fun c=>c.xs[k]?,c.xs.length+1⟩ S1 | none=>.bad) R:=p1
  cases z:S1[i]? with
  | none=>rw[z] at p1; exact p1.elim
  | some c=>
   rw[z] at p1
   obtain⟨a,xs,rfl,ha,s,q,_⟩:=G1.rs.items r1 z
   exact⟨a,rfl,.inl ⟨⟨xs,s⟩,Gj.ok (R:=kI X.K) (d:=⟨fun k S=>(S[i]?).bind fun c=>c.xs[k]?,c.xs.length+1⟩) (S:=S1) p1 G1.rs (Gw2 ha (Rep.nd r1))⟩⟩
 | _=>exact(show False from p1).elim
noncomputable def rsrc(lo:Int)(n:Nat):Src:=⟨fun k _=>if k<n then some (.int (lo+k)) else none,n+1⟩
def Gm5{K:BE}{mp:List BI}{H:Hp}{lo:Int}{n:Nat}:Gm4 K mp H (Itr lo n) (rsrc lo n).nxt:=by
 intro mp' H' S' af rs k
 show match (if k<n then some (D.int (lo+k)) else none) with
  | some d=>(Itr lo n).go k H'/\∀ x H2,(Itr lo n).yld k H' x H2->Aft K mp' H' mp' H2/\RS K mp' H2 S'/\Rep K mp' H2 d x
  | none=>(Itr lo n).stop k H'
 by_cases h:k<n
 ·rw[if_pos h]
  refine⟨h,fun x H2 ⟨h1,h2⟩=>?_⟩
  subst h1 h2
  exact⟨.refl,rs,rfl⟩
 ·rw[if_neg h]
  exact Nat.not_lt.mp h
def ir1(f:Ev (List D)):Ev Src:=fun U S=>(f U S).bind fun ds S1=>match ds with
 | [.int j]=>if -1000000000000<=j/\j<=1000000000000 then .ok (rsrc 0 j.toNat) S1 else .bad
 | _=>.bad
def ir2(f:Ev (List D)):Ev Src:=fun U S=>(f U S).bind fun ds S1=>match ds with
 | [.int i,.int j]=>if(-1000000000000<=i/\i<=1000000000000) /\ -1000000000000<=j/\j<=1000000000000 then .ok (rsrc i (j-i).toNat) S1 else .bad
 | _=>.bad
def RepL.one{K:BE}{mp:List BI}{H:Hp}{d:D}{vs:List V}(h:RepL K mp H [d] vs):∃ v,vs=[v]/\Rep K mp H d v:=by
 obtain⟨v,r,rfl,h1,h2⟩:=h
 cases (show r=[] from h2)
 exact⟨v,rfl,h1⟩
def RepL.two{K:BE}{mp:List BI}{H:Hp}{d e:D}{vs:List V}(h:RepL K mp H [d,e] vs):∃ v w,vs=[v,w]/\Rep K mp H d v/\Rep K mp H e w:=by
 obtain⟨v,r,rfl,h1,h2⟩:=h
 obtain⟨w,rfl,h3⟩:=RepL.one h2
 exact⟨v,w,rfl,h1,h3⟩
def Glk{tg a:Expr}{f:Ev (List D)}{p pos:Pos}(hg:Gl X "range")(hm:X.mg "range"=none)(ha:JA X XQ [a] f)(hs:starEach [a] X.env=[(false,eval a X.env)]:=by rfl):JI X XQ tg (.Call (.Name "range" p) [a] [] pos) (ir1 f):=by
 refine PI.mono (Gld hg hm ha hs) fun Z H R ⟨mp,U,S,G,p⟩=>?_
 refine bindP G p fun mp1 H1 ds S1 vs a1 G1 r1 p1=>?_
 split at p1
 ·rename_i j
  by_cases hb : -1000000000000<=j/\j<=1000000000000
  ·rw[if_pos hb] at p1
   obtain⟨v,rfl,h1⟩:=RepL.one r1
   cases (show v=.int j from h1)
   refine⟨j,rfl,by omega,by omega,Gj.ok (R:=kI X.K) (d:=rsrc 0 j.toNat) (S:=S1) p1 G1.rs Gm5⟩
  ·rw[if_neg hb] at p1; exact p1.elim
 ·exact p1.elim
def Gll{tg a b:Expr}{f:Ev (List D)}{p pos:Pos}(hg:Gl X "range")(hm:X.mg "range"=none)(ha:JA X XQ [a,b] f)(hs:starEach [a,b] X.env=[(false,eval a X.env),(false,eval b X.env)]:=by rfl)(hs2:starEach [b] X.env=[(false,eval b X.env)]:=by rfl):JI X XQ tg (.Call (.Name "range" p) [a,b] [] pos) (ir2 f):=by
 refine PI.mono (Gle hg hm ha hs hs2) fun Z H R ⟨mp,U,S,G,p⟩=>?_
 refine bindP G p fun mp1 H1 ds S1 vs a1 G1 r1 p1=>?_
 split at p1
 ·rename_i i j
  by_cases hb:(-1000000000000<=i/\i<=1000000000000) /\ -1000000000000<=j/\j<=1000000000000
  ·rw[if_pos hb] at p1
   obtain⟨v,w,rfl,h1,h2⟩:=RepL.two r1
   cases (show v=.int i from h1)
   cases (show w=.int j from h2)
   refine⟨i,j,rfl,⟨by omega,by omega,by omega,by omega⟩,Gj.ok (R:=kI X.K) (d:=rsrc i (j-i).toNat) (S:=S1) p1 G1.rs Gm5⟩
  ·rw[if_neg hb] at p1; exact p1.elim
 ·exact p1.elim
def whN(c:Ev Bool)(b:Sv):Nat->Sv
 | 0,_,_=>.bad
 | n+1,U,S=>bindS (c U S) U fun t S1=>if t=true then(match b U S1 with
    | .nx U2 S2=>whN c b n U2 S2
    | .ct U2 S2=>whN c b n U2 S2
    | .bk U2 S2=>.nx U2 S2
    | .rt d S2=>.rt d S2
    | .exc x U2 S2=>.exc x U2 S2
    | .bad=>.bad) else .nx U S1
def Gm6(fuel:Nat){c:Expr}{body:List Stmt}{fc:Ev Bool}{b:Sv}{pos:Pos}(hp:PassesOwn (model X.prog X.w) X.A X.env X.xe)(hc:JT X XQ c fc)(hb:JSs X XQ body b):JS X XQ (.While c body [] pos) (whN fc b fuel):=by
 refine PS.mono (Gmh hp hc hb) fun E Z H ⟨mp,U,S,G,p⟩=>?_
 refine⟨fun m Z' H'=>∃ mp' U' S',Gd X.K mp' H' Z' U' S'/\PostS X.K XQ mp' H' (whN fc b m U' S') E,⟨fuel,mp,U,S,G,p⟩,?_⟩
 rintro m Z' H' ⟨mp',U',S',G',p'⟩
 cases m with
 | zero=>exact(show False from p').elim
 | succ n=>
  refine bindSP G' p' fun mp1 H1 t S1 t' a1 G1 r1 p1=>?_
  cases (show t'=t from r1)
  cases t with
  | false=>exact(if_neg Ao).mpr (PostS.nx (by simpa using p1) G1)
  | true=>
   refine(if_pos rfl).mpr ⟨fun Z2 H2=>∃ mp2 U2 S2,Gd X.K mp2 H2 Z2 U2 S2/\PostS X.K XQ mp2 H2 (whN fc b n U2 S2) E,fun Z2 H2 q=>⟨n,A7 n,q⟩,⟨mp1,U',S1,G1,?_⟩⟩
   simp only[if_true] at p1
   cases zb:b U' S1 with
   | nx U2 S2=>simp only[zb] at p1; exact fun m h v af G4=>⟨m,U2,S2,G4,PostS.aft p1 af⟩
   | ct U2 S2=>simp only[zb] at p1; exact fun m h v af G4=>⟨m,U2,S2,G4,PostS.aft p1 af⟩
   | bk U2 S2=>simp only[zb] at p1; exact p1
   | rt d S2=>simp only[zb] at p1; exact p1
   | exc x U2 S2=>simp only[zb] at p1; exact p1
   | bad=>simp only[zb] at p1; exact p1
end
abbrev Fn:=List D->Sto->Out D
def Gt7(K:BE)(mp:List BI)(H:Hp)(o:Out D)(Q:VK):Prop:=
 match o with
 | .ok d S=>∀ mp' H' v,Aft K mp H mp' H'->RS K mp' H' S->Rep K mp' H' d v->Q v H'
 | _=>False
def spD(K:BE)(n:Nat)(fn:Fn):Sp:=fun vs H Q _=>∃ mp ds S,RS K mp H S/\RepL K mp H ds vs/\ds.length=n/\Gt7 K mp H (fn ds S) Q
noncomputable def fnB(m:Nat)(b:Sv):Fn:=fun ds S=>match b (ds.map some++List.replicate (m-ds.length) none) S with
 | .rt d S'=>.ok d S'
 | .nx _ S'=>.ok .non S'
 | .exc x _ S'=>.exc x S'
 | _=>.bad
def Gde{K:BE}{mp:List BI}{H:Hp}{S:Sto}{N:List Str}{ds:List D}{vs:List V}(r:RS K mp H S)(h:RepL K mp H ds vs):Gd K mp H (start N vs) (ds.map some++List.replicate (N.length-ds.length) none) S:=by
 have hl:=h.len
 refine⟨r,by simp[L2.start,hl],fun i d e=>?_⟩
 by_cases hi:i<ds.length
 ·rw[Aq (by simpa using hi),Ar] at e
  cases z:ds[i]? with
  | none=>rw[z] at e; cases e
  | some d'=>
   rw[z] at e
   cases e
   obtain⟨v,e1,q⟩:=h.get z
   refine⟨v,?_,q⟩
   unfold L2.start
   rw[Aq (by simp[hl]; exact hi),Ar,e1]
   rfl
 ·rw[AU (by simpa using hi),List.getElem?_replicate] at e
  split at e
  ·cases e
  ·cases e
def Gt8{P:BK}{w:World}{K:BE}{mg:Str->BJ BG}{base:Heap}{x qual:Str}{st:Stmt}{f:BI}{fd:FuncData}{N ps:List Str}{k:Nat}{b:Sv}(F:Fun K x qual st f fd)(Sc:FnScope N ps (Gb st))(hb:∀ (cdv:BG) (A:Around) (outer:List PySem.Env) (s:BH) (H:Hp) (E:XK),Room k (A.deeper (envOfC qual (Gb st) s.heap.objs.size f cdv))→
   JSs (Ud CX0 P w K mg base N qual (Gb st) f cdv A outer s H E).nox (fun _ _ _ _ _ _=>False) (Gy st) b):FnOk P w K mg base CX0 (k+1) f fd ps (spD K ps.length (fnB N.length b)):=by
 refine F.ok Sc (fun vs H Q E ⟨mp,ds,S,rs,r,hl,_⟩=>by rw[r.len]; exact hl) fun cdv A outer s H vs Q E hr ⟨mp,ds,S,rs,r,hl,p⟩=>?_
 refine⟨_,hb cdv A outer s H E hr,mp,_,S,Gde rs r,?_⟩
 unfold fnB at p
 show PostS K _ mp H (b (ds.map some++List.replicate (N.length-ds.length) none) S) _
 cases z:b (ds.map some++List.replicate (N.length-ds.length) none) S with
 | rt d S'=>rw[z] at p; exact p
 | nx U' S'=>rw[z] at p; exact fun m h v af G=>p m h .non af G.rs rfl
 | bk U' S'=>rw[z] at p; exact p.elim
 | ct U' S'=>rw[z] at p; exact p.elim
 | exc x U' S'=>rw[z] at p; exact p.elim
 | bad=>rw[z] at p; exact p.elim
section
variable{X:Cx}{XQ:XW}{k:Nat}{f:BI}{fd:FuncData}{ps:List Str}{fn:Fn}{x:Str}{p pos:Pos}{e:Expr}{es:List Expr}{t:Ev (List D)}
def cl(n:Nat)(fn:Fn)(t:Ev (List D)):Ev D:=fun U S=>(t U S).bind fun ds S1=>if ds.length=n then fn ds S1 else .bad
noncomputable def Gg(fn:Fn):Fn:=fun ds S=>match fn ds S with
 | .ok d S'=>.ok d S'
 | _=>.bad
def Gq7{j:Nat}(F:FnOk X.prog X.w X.K X.mg X.base CX0 j f fd ps (spD X.K ps.length fn))(hr:Room k X.A)(hj:j<=k)(hg:Gl X x)(hm:X.mg x=some (.ref f))(hk:PySem.W.keepIn X.K (.ref f)=true)(hb:Binds X.K fd ps [])
  (ha:JA X XQ (e::es) t) (hdb:(x==("__debug__":Str))=false:=by decide) (he:starEach (e::es) X.env=(false,eval e X.env)::starEach es X.env:=by rfl) (hpl:(backTo pos (starEach es X.env)).any (·.1)=false:=by rfl):
  JE X XQ (.Call (.Name x p) (e::es) [] pos) (cl ps.length (Gg fn) t):=by
 refine PE.mono (Gqp (F.mono hj) hr hg hm hk hb .nil (Hax) ha hdb he hpl) fun Z H Q ⟨mp,U,S,G,p⟩=>?_
 refine bindP G p fun mp1 H1 ds S1 vs a1 G1 r1 p1=>?_
 by_cases hl:ds.length=ps.length
 ·rw[if_pos hl] at p1
  refine⟨mp1,ds,S1,G1.rs,by rw[AY]; exact r1,hl,?_⟩
  unfold Gg at p1
  cases z:fn ds S1 with
  | ok d S'=>rw[z] at p1; exact p1
  | exc x S'=>rw[z] at p1; exact p1.elim
  | bad=>rw[z] at p1; exact p1.elim
 ·rw[if_neg hl] at p1; exact p1.elim
end
def Gfw{prog:BK}{w:World}{A:Around}{R:Result->BH->Prop}{s:BH}{elt target iter:Expr}{ifs:List Expr}{scope:Scope}{pos:Pos}{it acc:BG}{env:PySem.Env}(I:Nat->BH->Prop)(turn:∀ n s,I n s->wpAny (model prog w) A (pyNext it) (fun r s₁=>match r with
   | none=>R (.ok .next) s₁
   | some v=>wpAny (model prog w) A (letOwnedTupleGo target it v) (fun _ s₁=>wpAny (model prog w) A (assign target env v) (fun _ s₂=>
     wpAny (model prog w) A (forIn ifs true fun c r=>if r=true then do let ok <- isTrue c env (eval c env); pure (ForInStep.yield ok) else pure (ForInStep.yield r)) (fun ok s₃=>
      if ok=true then wpAny (model prog w) A (eval elt env) (fun x s₄=>
       wpAny (model prog w) A (call (.builtin "list.append") [acc,x]) (fun _ s₅=>∃ m,m<n/\I m s₅) (fun _ _=>False) s₄) (fun _ _=>False) s₃
      else ∃ m,m<n/\I m s₃) (fun _ _=>False) s₂) (fun _ _=>False) s₁) (fun _ _=>False) s₁) (fun _ _=>False) s)(n:Nat)(h:I n s):
  codeAny (model prog w) A (.compLoop (.ListComp elt [⟨target,iter,ifs,0⟩] scope pos) 0 it acc env) R s:=by
 have noE:∀ {O:Type} {m:Sem O} {Q:O->BH->Prop} {E':BG->BH->Prop} {s:BH},wpAny (model prog w) A m Q (fun _ _=>False) s->wpAny (model prog w) A m Q E' s:=fun h=>wpAny_mono h (fun _ _ q=>q) fun _ _ z=>z.elim
 refine codeAny_loop rfl I (fun n s hI=>?_) n h
 show wpAny _ A ((compTurn (.ListComp elt [⟨target,iter,ifs,0⟩] scope pos) 0 it acc env).onRaise (fun x=>do noteFrame x env; theTreesLotGoes x)) _ _ s
 refine wpAny_noted ?_
 rw[compTurn_list]
 refine wpAny_bind (wpAny_standAt (wpAny_bind (noE (wpAny_mono (turn n s hI) (fun r s₁ h₁=>?_) fun _ _ z=>z))))
 cases r with
 | none=>exact wpAny_pure h₁
 | some v=>
  refine wpAny_bind (noE (wpAny_mono h₁ (fun _ s₁ h₁=>?_) fun _ _ z=>z))
  refine wpAny_bind (noE (wpAny_mono h₁ (fun _ s₂ h₂=>wpAny_bind (noE (wpAny_mono h₂ (fun ok s₃ h₃=>?_) fun _ _ z=>z))) fun _ _ z=>z))
  cases ok with
  | false=>exact wpAny_pure ⟨rfl,h₃⟩
  | true=>
   exact wpAny_bind (wpAny_bind (noE (wpAny_mono h₃ (fun x s₄ h₄=>wpAny_bind (noE (wpAny_mono h₄ (fun _ s₅ h₅=>wpAny_pure (wpAny_pure ⟨rfl,h₅⟩)) fun _ _ z=>z))) fun _ _ z=>z)))
def blk(X:Cx)(s2:BH)(H2:Hp)(C:BI)(scope:Scope)(cl:List (Str×BI))(N':List Str)(fp:List BI):Cx:=
 { X with N:=N',s₀:=s2,H₀:=H2,env:=compEnvC scope cl C X.env,outer:=X.stack,ex:=fp,fn:=fun x=>scope.names.lookup x==some NameKind.cell,pn:=[],xe:=fun _ _=>False }
structure CompSc(X:Cx)(scope:Scope)(cl:List (Str×BI))(N':List Str)(pk:List (BJ Nat)):Prop where
 kind:scope.kind=.function
 cell:∀ y∈scope.names,y.2=.cell->scope.names.lookup y.1=some .cell
 names:∀ y∈scope.names,y.2=.local->scope.names.lookup y.1=some .local
 clos:closureFor scope X.env=pure cl
 sub:∀ x c,cl.lookup x=some c->X.env.cells.lookup x=some c
 has:∀ x,((relabel scope X.env).names.lookup x=some .cell\/(relabel scope X.env).names.lookup x=some .free)->(x,NameKind.cell)∈scope.names\/∃ c,cl.lookup x=some c
 len:pk.length=N'.length
 take:∀ (i j:Nat) (x:Str),pk[i]?=some (some j)->N'[i]?=some x->X.N[j]?=some x/\(X.env.kindOf x=some .cell\/X.env.kindOf x=some .free)/\((relabel scope X.env).names.lookup x=some .cell\/(relabel scope X.env).names.lookup x=some .free)/\scope.names.lookup x=some .free
def pkS{O:Type}(pk:List (BJ Nat))(Z:List (BJ O)):List (BJ O):=pk.map fun o=>o.bind fun j=>(Z[j]?).bind id
def PTs(QC:Cx)(ifs:List Expr)(t:TT):Prop:=
 ∀ (pins:List (BI×Obj)) (s:BH) (Z:L2.St) (H:Hp) (Q:Bool->Hp->Prop),Inv QC pins Z H s->t Z H Q→
  wpAny (model QC.prog QC.w) QC.A (forIn ifs true fun c r=>if r=true then do let ok <- isTrue c QC.env (eval c QC.env); pure (ForInStep.yield ok) else pure (ForInStep.yield r)) (TP QC pins Z Q) QC.xe s
def Gq8{QC:Cx}:PTs QC [] (fun _ H Q=>Q true H):=fun _ _ _ H _ I h=>wpAny_tests_nil ⟨H,I,h⟩
def Gq9{QC:Cx}{c:Expr}{t:TT}(h:PT QC c t):PTs QC [c] t:=fun pins s Z H Q I q=>wpAny_tests_one (h pins s Z H Q I q)
def Gm7(wi:TI)(pk:List (BJ Nat))(g:TG)(tt:TT)(te:TE):TE:=fun Z H Q=>wi Z H fun J H1=>∀ a,H1 a=none->∃ W:Nat->Nat->L2.St->Hp->Prop,(∃ m,W 0 m (pkS pk Z) (upd H1 a (.lst [])))/\∀ i m Z' H',W i m Z' H'→
 (J.stop i H'/\Q (.ref a) H')\/(J.go i H'/\∀ x H2,J.yld i H' x H2->g x Z' H2 fun Z3 H3=>tt Z3 H3 fun b H4=>if b=true then te Z3 H4 fun v H5=>∃ xs,H5 a=some (.lst xs)/\xs.length<sizeLine/\∃ m',m'<m/\W (i+1) m' Z3 (upd H5 a (.lst (xs++[v])))
  else ∃ m',m'<m/\W (i+1) m' Z3 H4)
def Gm8{P:BK}{w:World}{H:Hp}{h h':Heap}{C:BI}(k:HOk P w H h)(hn:H C=none)(hs:Heap.SameBut C h h'):HOk P w H h':=fun b ob e=>by
 refine(k b ob e).stay (fun c w' hc q=>(hs.2 c ?_).trans q) (fun _ q=>q) fun _ _ q=>q
 rintro rfl
 rcases hc with rfl | hc
 ·rw[hn] at e; cases e
 ·rw[hn] at hc; cases hc
def Hz:∀ (names:List (Str×NameKind)) (n:Nat) (acc:List (Str×BI)),cellsFrom n names acc=cellsFrom n names []++acc
 | [],_,_=>rfl
 | (x,k)::r,n,acc=>by
  unfold cellsFrom
  by_cases hk:(k==NameKind.cell)=true
  ·rw[if_pos hk,if_pos hk,Hz r (n+1) ((x,n)::acc),Hz r (n+1) [(x,n)],AM]
   rfl
  ·rw[if_neg hk,if_neg hk,Hz r n acc]
def Wl:∀ (names:List (Str×NameKind)) (n:Nat) (x:Str) (c:BI),(x,c)∈cellsFrom n names []->(x,NameKind.cell)∈names
 | [],_,_,_,h=>by simp[cellsFrom] at h
 | (y,k)::r,n,x,c,h=>by
  unfold cellsFrom at h
  by_cases hk:(k==NameKind.cell)=true
  ·rw[if_pos hk,Hz] at h
   rcases Az.mp h with h | h
   ·exact Au _ (Wl r (n+1) x c h)
   ·have:x=y:=by simpa using(AE.mp h▸rfl:(x,c).1=(y,n).1)
    have hk:k=.cell:=by simpa using hk
    subst this hk
    exact Av
  ·rw[if_neg hk] at h
   exact Au _ (Wl r n x c h)
def Vq{x:Str}:∀ (a b:List (Str×BI)),(a++b).lookup x=match a.lookup x with
  | some c=>some c
  | none=>b.lookup x
 | [],_=>rfl
 | (y,c)::r,b=>by
  rw[List.cons_append,Ax,Ax]
  cases h:x==y with
  | true=>rfl
  | false=>exact Vq r b
def Um:∀ (names:List (Str×NameKind)) (n:Nat) (x:Str),(x,NameKind.cell)∈names->∃ c,(cellsFrom n names []).lookup x=some c
 | [],_,_,h=>by simp at h
 | (y,k)::r,n,x,h=>by
  unfold cellsFrom
  by_cases hx:(x,NameKind.cell)∈r
  ·by_cases hk:(k==NameKind.cell)=true
   ·rw[if_pos hk,Hz,Vq]
    obtain⟨c,hc⟩:=Um r (n+1) x hx
    rw[hc]; exact⟨c,rfl⟩
   ·rw[if_neg hk]
    exact Um r n x hx
  ·rcases Af.mp h with h | h
   ·cases h
    rw[if_pos (by rfl),Hz,Vq]
    cases e:(cellsFrom (n+1) r []).lookup y with
    | some c=>exact⟨c,rfl⟩
    | none=>exact⟨n,by simp[Ax]⟩
   ·exact absurd h hx
def Gcn{M:Model}{A:Around}{E:BG->BH->Prop}{s:BH}{scope:Scope}{globals:BI}{cl:List (Str×BI)}{qual:Str}{env:PySem.Env}{Q:PySem.Env->BH->Prop}
  (hQ:∀ h',h'=pushCells (s.heap.push { cls:=.type "dict",data:=.dict #[] }) scope.names→
   Q { scope:=scope,locals:=s.heap.objs.size,globals:=globals,cells:=cellsFrom (s.heap.objs.size+1) scope.names cl,qual:=qual,func:=none,code:=env.code,frame:=env.frame,builtins:=env.builtins } { s with heap:=h' }):
  wpAny M A (newFunctionEnv scope globals cl [] qual none .none (some env)) Q E s:=by
 simp only[newFunctionEnv,Option.isSome_some,if_true]
 refine wpAny_bind (wpAny_alloc ?_)
 refine wpAny_bind (wpAny_layCells _ (fun name kind cells=>by cases hkc:kind==NameKind.cell<;>simp[hkc]) _ _ _ _ ?_)
 rw[show({ s with heap:=s.heap.push { cls:=.type "dict",data:=.dict #[] } }:BH).heap.objs.size=s.heap.objs.size+1 from Bh ..]
 rw[List.forIn_nil]
 exact wpAny_bind (wpAny_pure (wpAny_pure (hQ _ rfl)))
section
variable{X:Cx}
def Gdf{elt tg iter:Expr}{ifs:List Expr}{scope:Scope}{pos:Pos}{cl:List (Str×BI)}{N':List Str}{pk:List (BJ Nat)}{g:TG}{tt:TT}{te:TE}(cs:CompSc X scope cl N' pk)(hcm:X.calm=true)
  (hg:∀ cl s2 H2 C fp,PG (blk X s2 H2 C scope cl N' fp) tg g) (ht:∀ cl s2 H2 C fp,PTs (blk X s2 H2 C scope cl N' fp) ifs tt) (he:∀ cl s2 H2 C fp,PE (blk X s2 H2 C scope cl N' fp) elt te)
  {pins:List (BI×Obj)} {Z:L2.St} {H2:Hp} {s2:BH} {it:BI} {fp:List BI} {tn:Nat->Heap->Prop} {J:It} (I2:Inv X pins Z H2 s2) (T:Turn X.prog X.w X.K tg J fp it tn) (st2:tn 0 s2.heap) (f2:∀ b∈fp,Gef X pins H2 b)
  {Q:VK} (hQ:∀ a,H2 a=none->∃ W:Nat->Nat->L2.St->Hp->Prop,(∃ m,W 0 m (pkS pk Z) (upd H2 a (.lst [])))/\∀ i m Z' H',W i m Z' H'→
   (J.stop i H'/\Q (.ref a) H')\/(J.go i H'/\∀ x H3,J.yld i H' x H3->g x Z' H3 fun Z3 H3=>tt Z3 H3 fun b H4=>if b=true then te Z3 H4 fun v H5=>∃ xs,H5 a=some (.lst xs)/\xs.length<sizeLine/\∃ m',m'<m/\W (i+1) m' Z3 (upd H5 a (.lst (xs++[v])))
    else ∃ m',m'<m/\W (i+1) m' Z3 H4)) {E:BG->BH->Prop} {RR:BG->BI->Result->BH->Prop}
  (hRR:∀ D C s' (H':Hp),Q (.ref D) H'->(∃ m,s'.heap.Ns C m)->Inv X pins Z H' s'->H' C=none->s2.heap.objs.size<=C->RR (.ref D) C (.ok .next) s'):
  wpAny (model X.prog X.w) X.A (newList []) (fun acc s₃=>wpAny (model X.prog X.w) X.A (newFunctionEnv scope X.env.globals cl [] X.env.qual none .none (some X.env)) (fun cenv s₄=>
   codeAny (model X.prog X.w) X.A (.compStart (.ListComp elt [⟨tg,iter,ifs,0⟩] scope pos) 0 (.ref it) acc { cenv with scope:=relabel scope X.env }) (RR acc cenv.locals) s₄) E s₃) E s2:=by
 have hD:H2 s2.heap.objs.size=none:=I2.hok.fresh (Ac _)
 obtain⟨W,⟨m0,w0⟩,turn⟩:=hQ s2.heap.objs.size hD
 refine wpAny_newObj_type (Gcn (fun h₁ hh₁=>?_))
 dsimp only at hh₁ ⊢
 generalize hHh:s2.heap.push { cls:=.type "list",dict:=none,data:=.seq ([]:List BG).toArray }=Hh at hh₁ ⊢
 have hC:Hh.objs.size=s2.heap.objs.size+1:=by rw[<- hHh,Bh]
 have hDC:s2.heap.objs.size≠Hh.objs.size:=by rw[hC]; exact Ay (A7 _)
 have hCle:s2.heap.objs.size<=Hh.objs.size:=by rw[hC]; exact Br _
 have below:∀ b,b<s2.heap.objs.size->b≠Hh.objs.size/\b≠s2.heap.objs.size:=fun b hb=>⟨by rw[hC]; exact Ay (Nat.lt_succ_of_lt hb),Ay hb⟩
 have hns₁:h₁.Ns Hh.objs.size (fun _=>none):=by rw[hh₁]; exact(Heap.Ns.new Hh (.type "dict")).keeps (pushCells_keeps _ _)
 have old0:∀ b o,Hh.get? b=some o->h₁.get? b=some o:=fun b o e=>by rw[hh₁]; exact pushCells_keeps _ _ b o (Ap _ e)
 have old:∀ b o,s2.heap.get? b=some o->h₁.get? b=some o:=fun b o e=>old0 b o (by rw[<- hHh]; exact Ap _ e)
 have hacc:h₁.get? s2.heap.objs.size=some { cls:=.type "list",dict:=none,data:=.seq ([]:List BG).toArray }:=old0 _ _ (by rw[<- hHh]; exact AF _ rfl)
 have own:=cellsFrom_ok scope.names (Hh.push { cls:=.type "dict",data:=.dict #[] }) (Hh.objs.size+1) [] ⟨fun _ _ hm=>(nomatch hm),List.Pairwise.nil⟩ (by rw[Bh]; exact Ac _)
 rw[Bh,<- hh₁] at own
 generalize hcs:cellsFrom (Hh.objs.size+1) scope.names cl=cs' at *
 have csl:∀ x c,cs'.lookup x=some c->((x,c)∈cellsFrom (Hh.objs.size+1) scope.names []/\h₁.IsCell c none/\Hh.objs.size+1<=c/\scope.names.lookup x=some .cell)\/((x,NameKind.cell)∉scope.names/\X.env.cells.lookup x=some c):=fun x c h=>by
  rw[<- hcs,Hz,Vq] at h
  cases e:(cellsFrom (Hh.objs.size+1) scope.names []).lookup x with
  | some c'=>
   rw[e] at h
   cases h
   have m:=mem_of_lookup e
   exact .inl ⟨m,(own.empty x c m).1,(own.empty x c m).2,cs.cell (x,.cell) (Wl _ _ _ _ m) rfl⟩
  | none=>
   rw[e] at h
   refine .inr ⟨fun hm=>?_,cs.sub x c h⟩
   obtain⟨c',q⟩:=Um scope.names (Hh.objs.size+1) x hm
   rw[e] at q; cases q
 have cshas:∀ x,((relabel scope X.env).names.lookup x=some .cell\/(relabel scope X.env).names.lookup x=some .free)->∃ c,cs'.lookup x=some c:=fun x h=>by
  rw[<- hcs,Hz,Vq]
  cases e:(cellsFrom (Hh.objs.size+1) scope.names []).lookup x with
  | some c=>exact⟨c,rfl⟩
  | none=>
   rcases cs.has x h with hm | hm
   ·obtain⟨c',q⟩:=Um scope.names (Hh.objs.size+1) x hm
    rw[e] at q; cases q
   ·exact hm
 have lts:∀ x c,X.env.cells.lookup x=some c->c<s2.heap.objs.size:=fun x c h=>by
  obtain⟨v,o,ho,hd⟩:=I2.cell x c h
  exact Ag ho
 let QC:=blk X s2 H2 Hh.objs.size scope cs' N' fp
 have fpLt:∀ b∈fp,b<s2.heap.objs.size:=fun b hb=>by
  obtain⟨o,e,_⟩:=T.obj _ _ st2 b hb
  exact Ag e
 have okY:QC.Ok:=by
  refine⟨I2.ok.mod,(by show(relabel scope X.env).kind=.function; exact cs.kind),I2.ok.glob,I2.ok.blt,hCle,fun x y c h1 h2=>?_,cshas,(fun x c z h=>by
   rcases csl x c h with⟨_,_,q,_⟩ | ⟨q,_⟩
   ·show s2.heap.objs.size<=c
    rw[hC] at q; omega
   ·have z:scope.names.lookup x=some .cell:=by simpa[QC,blk] using z
    exact absurd (mem_of_lookup z) q),I2.ok.hd,I2.ok.frames,.inl rfl,fun b hb=>⟨Ay (by rw[show QC.env.locals=Hh.objs.size from rfl,hC]; exact Nat.lt_succ_of_lt (fpLt b hb)),fun x c h=>by
   rcases csl x c h with⟨_,_,q,_⟩ | ⟨_,q⟩
   ·exact fun z=>absurd (Aj (fpLt b hb) (Am (by rw[hC]; omega) (z▸q))) (AD _)
   ·exact(f2 b hb).2.2.2.2.1 x c q⟩,I2.bs,Am I2.ok.bsz I2.sz,fun b o e hb=>?_,fun b hb hs=>?_,I2.stack,I2.stkFree⟩
  ·rcases csl x c h1 with⟨m1,_,q1,_⟩ | ⟨_,q1⟩<;>rcases csl y c h2 with⟨m2,_,q2,_⟩ | ⟨_,q2⟩
   ·exact name_of_addr own.apart m1 m2
   ·exact absurd (Aj (lts y c q2) (Am (by rw[hC]; omega) q1)) (AD _)
   ·exact absurd (Aj (lts x c q1) (Am (by rw[hC]; omega) q2)) (AD _)
   ·exact I2.ok.inj x y c q1 q2
  ·rcases(f2 b hb).2.2.2.1 with z | z
   ·exact I2.ok.noex b o e z
   ·exact absurd (Aj (Ag e) (Am I2.ok.bsz z)) (AD _)
  ·rcases Af.mp (I2.stkSub b hs) with z | z
   ·exact(f2 b hb).2.1 z
   ·exact(f2 b hb).2.2.1 z
 have hokY:HOk X.prog X.w (upd H2 s2.heap.objs.size (.lst [])) h₁:=I2.hok.laid old (Ac _) ⟨by decide,[],0,.nil,hacc⟩
 have IY:∀ tk,Inv QC [] (pkS pk Z) (upd H2 s2.heap.objs.size (.lst [])) { s2 with heap:=h₁,toks:=tk }:=fun tk=>by
  refine⟨okY,rfl,I2.bare,?_,⟨_,hns₁,fun i x v h1 h2 h3=>?_⟩,fun x c h=>?_,?_,fun x c h=>?_,fun p hp=>absurd (show p∈([]:List (BI×Obj)) from hp) (by simp),hokY,by show(pkS pk Z).length=N'.length; rw[<- cs.len]; simp[pkS]⟩
  ·exact Un.laid old (Ac _) hD
  ·unfold pkS at h2
   rw[Ar] at h2
   cases e:pk[i]? with
   | none=>rw[e] at h2; cases h2
   | some o=>
    rw[e] at h2
    cases o with
    | none=>cases h2
    | some j=>
     have h2:(Z[j]?).bind id=some v:=Ab h2
     have h2:Z[j]?=some (some v):=by
      cases z:Z[j]? with
      | none=>rw[z] at h2; cases h2
      | some q=>
       rw[z] at h2
       have h2:q=some v:=h2
       rw[h2]
     obtain⟨n1,n2,n3,n4⟩:=cs.take i j x e h1
     obtain⟨m,_,hl⟩:=I2.loc
     have vis:Vis X.env.scope x:=by
      rcases n2 with n2 | n2
      ·exact .inr (.inl n2)
      ·exact .inr (.inr n2)
     obtain⟨u,r,l⟩:=hl j x v n1 h2 vis
     refine⟨u,r,.inr ⟨n3,?_⟩⟩
     rcases l with⟨k,_⟩ | ⟨_,c,hc,⟨o,ho,hd⟩⟩
     ·rcases n2 with n2 | n2<;>rw[k] at n2<;>cases n2
     ·obtain⟨c',hc'⟩:=cshas x n3
      rcases csl x c' hc' with⟨_,_,_,q⟩ | ⟨_,e2⟩
      ·rw[n4] at q; cases q
      rw[hc] at e2
      cases e2
      exact⟨c,hc',o,old c o ho,hd⟩
  ·rcases csl x c h with⟨_,q,_,_⟩ | ⟨_,q⟩
   ·exact⟨none,q⟩
   obtain⟨v,o,ho,hd⟩:=I2.cell x c q
   exact⟨v,o,old c o ho,hd⟩
  ·show upd H2 s2.heap.objs.size (.lst []) Hh.objs.size=none
   rw[Gm (Ne.symm hDC)]
   exact I2.hok.fresh hCle
  ·rcases csl x c h with⟨_,_,z,_⟩ | ⟨_,z⟩
   ·show upd H2 s2.heap.objs.size (.lst []) c=none
    have z:s2.heap.objs.size+2<=c:=by rw[hC] at z; exact z
    rw[Gm (Bp (by omega:s2.heap.objs.size<c))]
    exact I2.hok.fresh (by omega)
   have q:=I2.freeC x c z
   obtain⟨v,o,ho,hd⟩:=I2.cell x c z
   show upd H2 s2.heap.objs.size (.lst []) c=none
   rw[Gm (below c (Ag ho)).2]
   exact q
 have stat:∀ {H':Hp},(∀ b∈fp,H' b=none)->∀ b∈fp,Gef QC [] H' b:=fun hn b hb=>
  ⟨hn b hb,(okY.exf b hb).1,okY.exfs b hb,.inl hb,(okY.exf b hb).2,fun p hp=>absurd (show p∈([]:List (BI×Obj)) from hp) (by simp)⟩
 have fin:∀ (H':Hp) (Z':L2.St) (s':BH),Inv QC [] Z' H' s'->∀ h',Heap.SameBut Hh.objs.size s'.heap h'->Inv X pins Z H' { s' with heap:=h' }:=fun H' Z' s' I' h' hs=>by
  have sub:∀ b o,s2.heap.get? b=some o->b≠Hh.objs.size:=fun b o e=>(below b (Ag e)).1
  have un:Un (frs X.stack) fp H2 H' s2.heap s'.heap:=I'.base
  refine I2.call' (ch:=fp) I'.os ⟨fun b o e n hb hx=>(hs.2 b (sub b o e)).trans (un.keep b o e n hb hx),fun b o e n hb hx=>?_,un.free,fun b o e hx=>?_,un.tups,un.frzs,un.tbls⟩ (Gm8 I'.hok I'.free hs) I'.bare fun b hb=>⟨(f2 b hb).2.2.2.1,(f2 b hb).2.1,(f2 b hb).2.2.2.2.1,(f2 b hb).2.2.2.2.2⟩
  ·obtain⟨sl,q⟩:=un.slot b o e n hb hx
   exact⟨sl,(hs.2 b (sub b o e)).trans q⟩
  ·obtain⟨o',q⟩:=un.there b o e hx
   exact⟨o',(hs.2 b (sub b o e)).trans q⟩
 have loop:∀ s3:BH,(∃ tk,s3={ s2 with heap:=h₁,toks:=tk })→
   codeAny (model X.prog X.w) X.A (.compLoop (.ListComp elt [⟨tg,iter,ifs,0⟩] scope pos) 0 (.ref it) (.ref s2.heap.objs.size) (compEnvC scope cs' Hh.objs.size X.env)) (RR (.ref s2.heap.objs.size) Hh.objs.size) s3:=by
  rintro s3 ⟨tk,rfl⟩
  refine Gfw (fun n s'=>∃ i Z' H',Inv QC [] Z' H' s'/\tn i s'.heap/\(∀ b∈fp,H' b=none)/\W i n Z' H') ?_ m0 ⟨0,_,_,IY tk,T.keep _ _ _ st2 (fun b _ o e=>old b o e),fun b hb=>by rw[Gm (below b (fpLt b hb)).2]; exact(f2 b hb).1,w0⟩
  rintro n s4 ⟨i,Z4,H4,I4,st4,fr4,w4⟩
  rcases turn i n Z4 H4 w4 with⟨stop,qn⟩ | ⟨go,step⟩
  ·refine wpAny_mono (T.done QC rfl rfl rfl hcm i [] s4 Z4 H4 (fun _ _=>False) I4 (stat fr4) st4 stop) (fun r s5 ⟨hr,I5⟩=>?_) fun _ _ z=>z
   subst hr
   obtain⟨m,hn,_⟩:=I5.loc
   exact hRR _ _ s5 H4 qn ⟨m,hn⟩ (fin H4 Z4 s5 I5 s5.heap (.refl ..)) I5.free hCle
  ·refine wpAny_mono (T.item QC rfl rfl rfl hcm i [] s4 Z4 H4 (fun _ _=>False) I4 (stat fr4) st4 go) (fun r s5 ⟨u,hr,h5⟩=>?_) fun _ _ z=>z
   subst hr
   refine wpAny_mono h5 (fun _ s6 ⟨x,H6,I6,r6,y6,st6,fr6⟩=>?_) fun _ _ z=>z
   have I6':=I6.pinned (stat fr6) (T.obj _ _ st6)
   refine wpAny_mono (hg cs' s2 H2 Hh.objs.size fp _ s6 Z4 H6 x u _ I6' r6 (step x H6 y6)) (fun _ s7 ⟨Z7,H7,I7,q7⟩=>?_) fun _ _ z=>z
   refine wpAny_mono (ht cs' s2 H2 Hh.objs.size fp _ s7 Z7 H7 _ I7 q7) (fun ok s8 ⟨H8,I8,q8⟩=>?_) fun _ _ z=>z
   have back:∀ {Z9:L2.St} {H9:Hp} {s9:BH},Inv QC ([]++Gda fp s6.heap) Z9 H9 s9->Inv QC [] Z9 H9 s9/\tn (i+1) s9.heap/\∀ b∈fp,H9 b=none:=fun{Z9 H9 s9} I9=>
    ⟨I9.unpinned,T.keep _ _ _ st6 fun b hb o e=>(I9.pin (b,o) (AQ _ (AQ _ (Xk hb e)))).1,fun b hb=>by
     obtain⟨o,e,d⟩:=T.obj _ _ st6 b hb
     exact(I9.pin (b,o) (AQ _ (AQ _ (Xk hb e)))).2.1⟩
   cases ok with
   | false=>
    obtain⟨m',hm,w'⟩:=(if_neg Ao).mp q8
    obtain⟨b1,b2,b3⟩:=back I8
    exact(if_neg Ao).mpr ⟨m',hm,i+1,Z7,H8,b1,b2,b3,w'⟩
   | true=>
    refine(if_pos rfl).mpr ?_
    refine wpAny_mono (he cs' s2 H2 Hh.objs.size fp _ s8 Z7 H8 _ I8 ((if_pos rfl).mp q8)) (fun ux s9 ⟨v,H9,I9,r9,xs,ex,hx,m',hm,w'⟩=>?_) fun _ _ z=>z
    refine wpAny_mono (Ge6 (X:=QC) _ s9 Z7 H9 (.ref s2.heap.objs.size) [v] (.ref s2.heap.objs.size) [ux] (fun _ H'=>H'=upd H9 s2.heap.objs.size (.lst (xs++[v]))) I9 rfl (.cons r9 .nil) ⟨_,xs,v,rfl,rfl,ex,hx,rfl⟩) (fun _ s10 ⟨_,H10,I10,_,e10⟩=>?_) fun _ _ z=>z
    subst e10
    obtain⟨b1,b2,b3⟩:=back I10
    exact⟨m',hm,i+1,Z7,_,b1,b2,b3,w'⟩
 exact codeAny_compStart_list (loop _ ⟨_,rfl⟩) (T.self _ 0 _ _ _ (T.keep _ _ _ st2 fun b _ o e=>old b o e) (loop _ ⟨_,rfl⟩))
def Gjn{pins:List (BI×Obj)}{Z Z2:L2.St}{H2 H':Hp}{s2 s':BH}{C:BI}{h':Heap}(I2:Inv X pins Z2 H2 s2)(I:Inv X pins Z H' s')(hn:H' C=none)(hC:s2.heap.objs.size<=C)(hs:Heap.SameBut C s'.heap h'):Inv X pins Z H' { s' with heap:=h' }:=by
 refine I.turned (t':=s'.toks) (it:=C) (fun b o hb e=>(hs.2 b hb).trans e) hn (fun z=>?_) (.inr (Am I2.sz hC)) (fun x c h z=>?_) fun p hp z=>?_
 ·exact absurd (Aj I2.lt (by rw[<- z]; exact hC)) (AD _)
 ·obtain⟨v,q⟩:=I2.cell x c h
  exact absurd (Aj q.lt (by rw[z]; exact hC)) (AD _)
 ·exact absurd (Aj (Ag (I2.pin p hp).1) (by rw[z]; exact hC)) (AD _)
def Gac{env:PySem.Env}:∀ (names:List (Str×NameKind)) (acc:List (Str×BI)),(∀ x∈names,x.2=.free->∃ c,env.cells.lookup x.1=some c)->(∀ x c,acc.lookup x=some c->env.cells.lookup x=some c)→
  ∃ cl,(forIn names acc fun x cs=>(if(x.2==NameKind.free)=true then do let c <- cellOf env x.1; pure (ForInStep.yield ((x.1,c)::cs)) else pure (ForInStep.yield cs):Sem _))=pure cl/\(∀ x c,cl.lookup x=some c->env.cells.lookup x=some c)∧
   (∀ x,(∃ c,acc.lookup x=some c)\/(x,NameKind.free)∈names->∃ c,cl.lookup x=some c)
 | [],acc,_,ha=>⟨acc,rfl,ha,fun x h=>by
   rcases h with h | h
   ·exact h
   ·simp at h⟩
 | (n,k)::r,acc,hn,ha=>by
  have hr:∀ x∈r,x.2=.free->∃ c,env.cells.lookup x.1=some c:=fun x hx=>hn x (Au _ hx)
  by_cases hk:k=.free
  ·subst hk
   obtain⟨c,hc⟩:=hn (n,.free) Av rfl
   obtain⟨cl,e,h1,h2⟩:=Gac r ((n,c)::acc) hr (fun x c' h=>by
    rw[Ax] at h
    by_cases hx:(x==n)=true
    ·rw[hx] at h
     cases h
     have:x=n:=by simpa using hx
     rw[this]; exact hc
    ·have hx:(x==n)=false:=by simpa using hx
     rw[hx] at h
     exact ha x c' h)
   refine⟨cl,?_,h1,fun x h=>h2 x ?_⟩
   ·rw[List.forIn_cons]
    simp only[beq_self_eq_true,if_true]
    have q:cellOf env n=pure c:=by unfold cellOf; rw[hc]
    rw[q]
    exact e
   ·rcases h with⟨c',h⟩ | h
    ·left
     rw[Ax]
     by_cases hx:(x==n)=true
     ·rw[hx]; exact⟨c,rfl⟩
     ·have hx:(x==n)=false:=by simpa using hx
      rw[hx]; exact⟨c',h⟩
    ·rcases Af.mp h with h | h
     ·left
      cases h
      exact⟨c,by rw[Ax,beq_self_eq_true]⟩
     ·exact .inr h
  ·have hb:(k==NameKind.free)=false:=by simpa using hk
   obtain⟨cl,e,h1,h2⟩:=Gac r acc hr ha
   refine⟨cl,?_,h1,fun x h=>h2 x ?_⟩
   ·rw[List.forIn_cons]
    simp only[hb,AC,if_false]
    exact e
   ·rcases h with h | h
    ·exact .inl h
    ·rcases Af.mp h with h | h
     ·cases h; exact absurd rfl hk
     ·exact .inr h
def Gil{env:PySem.Env}{scope:Scope}(hn:∀ x∈scope.names,x.2=.free->∃ c,env.cells.lookup x.1=some c):∃ cl,closureFor scope env=pure cl/\(∀ x c,cl.lookup x=some c->env.cells.lookup x=some c)/\(∀ x,(x,NameKind.free)∈scope.names->∃ c,cl.lookup x=some c):=by
 obtain⟨cl,e,h1,h2⟩:=Gac (env:=env) scope.names [] hn (fun x c h=>by simp at h)
 refine⟨cl,?_,h1,fun x h=>h2 x (.inr h)⟩
 unfold closureFor
 have e2:(forIn scope.names ([]:List (Str×BI)) fun x r=>(match x with
   | (name,kind)=>if(kind==NameKind.free)=true then do let c <- cellOf env name; pure (ForInStep.yield ((name,c)::r)) else pure (ForInStep.yield r):Sem _))=pure cl:=e
 first
  | exact congrArg (fun m=>m >>= fun cs=>pure cs) e2
  | (show(do let cs <- forIn scope.names ([]:List (Str×BI)) fun x r=>_; pure cs)=_; rw[e2]; rfl)
structure CompTab(sc scope:Scope)(N N':List Str)(pk:List (BJ Nat)):Prop where
 kind:scope.kind=.function
 cell:∀ y∈scope.names,y.2=.cell->scope.names.lookup y.1=some .cell
 names:∀ y∈scope.names,y.2=.local->scope.names.lookup y.1=some .local
 free:∀ y∈scope.names,y.2=.free->sc.names.lookup y.1=some .cell\/sc.names.lookup y.1=some .free
 len:pk.length=N'.length
 take:((List.range N'.length).all fun i=>match pk[i]? with
  | some (some j)=>match N[j]?,N'[i]? with
   | some x,some y=>(x==y)&&((sc.names.lookup y==some NameKind.cell)||(sc.names.lookup y==some NameKind.free))&&(scope.names.lookup y==some NameKind.free)
   | _,_=>false
  | _=>true)=true
def Yn{scope:Scope}{env:PySem.Env}{x:Str}:∀ (names:List (Str×NameKind)),((names.map fun(n,k)=>if(k==NameKind.free&&env.scope.kind==.function&&env.kindOf n==some .cell)=true then(n,NameKind.cell) else(n,k)).lookup x=some .cell∨
   (names.map fun(n,k)=>if(k==NameKind.free&&env.scope.kind==.function&&env.kindOf n==some .cell)=true then(n,NameKind.cell) else(n,k)).lookup x=some .free)->(x,NameKind.cell)∈names\/(x,NameKind.free)∈names
 | [],h=>by simp at h
 | (n,k)::r,h=>by
  rw[As] at h
  by_cases hx:(x==n)=true
  ·have e:x=n:=by simpa using hx
   subst e
   by_cases hq:(k==NameKind.free&&env.scope.kind==.function&&env.kindOf x==some .cell)=true
   ·have:k=.free:=by
     rw[At,At] at hq
     simpa using hq.1.1
    subst this
    exact .inr Av
   ·simp only[hq,AC,if_false,Ax,beq_self_eq_true] at h
    rcases h with h | h
    ·have:k=.cell:=by simpa using h
     subst this
     exact .inl Av
    ·have:k=.free:=by simpa using h
     subst this
     exact .inr Av
  ·have hx:(x==n)=false:=by simpa using hx
   refine(Yn (scope:=scope) (env:=env) r ?_).imp (Au _) (Au _)
   by_cases hq:(k==NameKind.free&&env.scope.kind==.function&&env.kindOf n==some .cell)=true
   ·simpa only[hq,if_true,Ax,hx] using h
   ·simpa only[hq,AC,if_false,Ax,hx] using h
def Qd{scope:Scope}{env:PySem.Env}{x:Str}:∀ (names:List (Str×NameKind)),names.lookup x=some .free->((names.map fun(n,k)=>if(k==NameKind.free&&env.scope.kind==.function&&env.kindOf n==some .cell)=true then(n,NameKind.cell) else(n,k)).lookup x=some .cell∨
   (names.map fun(n,k)=>if(k==NameKind.free&&env.scope.kind==.function&&env.kindOf n==some .cell)=true then(n,NameKind.cell) else(n,k)).lookup x=some .free)
 | [],h=>by simp at h
 | (n,k)::r,h=>by
  rw[As]
  by_cases hx:(x==n)=true
  ·rw[Ax,hx] at h
   have:k=.free:=by simpa using h
   subst this
   by_cases hq:(NameKind.free==NameKind.free&&env.scope.kind==.function&&env.kindOf n==some .cell)=true
   ·left; simp only[hq,if_true,Ax,hx]
   ·right; simp only[hq,AC,if_false,Ax,hx]
  ·have hx:(x==n)=false:=by simpa using hx
   rw[Ax,hx] at h
   have:=Qd (scope:=scope) (env:=env) r h
   by_cases hq:(k==NameKind.free&&env.scope.kind==.function&&env.kindOf n==some .cell)=true
   ·simpa only[hq,if_true,Ax,hx] using this
   ·simpa only[hq,AC,if_false,Ax,hx] using this
def CompTab.sc{scope:Scope}{N':List Str}{pk:List (BJ Nat)}(t:CompTab X.env.scope scope X.N N' pk)(ok:X.Ok):∃ cl,CompSc X scope cl N' pk:=by
 obtain⟨cl,e,h1,h2⟩:=Gil (env:=X.env) (scope:=scope) fun x hx hf=>ok.has x.1 (t.free x hx hf)
 refine⟨cl,t.kind,t.cell,t.names,e,h1,fun x h=>(Yn (scope:=scope) (env:=X.env) scope.names h).imp id (h2 x),t.len,fun i j x hp hn=>?_⟩
 have hi:i<N'.length:=(Aa.mp hn).1
 have q:=AN.mp t.take i (Bn.mpr hi)
 simp only[hp,hn] at q
 cases hj:X.N[j]? with
 | none=>simp[hj] at q
 | some y=>
  simp only[hj,At,Bool.or_eq_true,beq_iff_eq] at q
  obtain⟨⟨e1,e2⟩,e3⟩:=q
  subst e1
  exact⟨rfl,e2,Qd (scope:=scope) (env:=X.env) scope.names e3,e3⟩
def Gra{elt tg iter:Expr}{ifs:List Expr}{scope:Scope}{pos:Pos}{N':List Str}{pk:List (BJ Nat)}{wi:TI}{g:TG}{tt:TT}{te:TE}(ct:CompTab X.env.scope scope X.N N' pk)(hcm:X.calm=true)(hi:PI X tg iter wi)
  (hg:∀ cl s2 H2 C fp,PG (blk X s2 H2 C scope cl N' fp) tg g) (ht:∀ cl s2 H2 C fp,PTs (blk X s2 H2 C scope cl N' fp) ifs tt) (he:∀ cl s2 H2 C fp,PE (blk X s2 H2 C scope cl N' fp) elt te)
  (hs:∀ x,foldedSetIterable iter X.env x=pure x:=by intro _; rfl):PE X (.ListComp elt [⟨tg,iter,ifs,0⟩] scope pos) (Gm7 wi pk g tt te):=by
 intro pins s Z H Q I h
 obtain⟨cl,cs⟩:=ct.sc I.ok
 rw[eval_ListComp]
 refine wpAny_comprehension_free (use:=none) rfl hs cs.clos cs.kind cs.names (thn (hi pins s Z H _ I h) fun x s1 h1=>thn h1 fun itv s2 h2=>?_)
 obtain⟨it,fp,tn,J,H2,e,I2,T,st2,f2,hQ⟩:=h2
 subst e
 refine Gdf cs hcm hg ht he I2 T st2 f2 hQ (RR:=fun acc C=>compPost (model X.prog X.w) X.A X.xe none (EP X pins Z Q) acc C) fun D C s' H' q hn inv hf hC=>?_
 obtain⟨m,hn⟩:=hn
 exact⟨m,hn,fun h' hs'=>⟨.ref D,H',Gjn I2 inv hf hC hs',rfl,q⟩⟩
def Gim{i:Nat}{y:Str}{py spos:Pos}{elt tg iter:Expr}{ifs:List Expr}{scope:Scope}{pos:Pos}{N':List Str}{pk:List (BJ Nat)}{wi:TI}{g:TG}{tt:TT}{te:TE}(ct:CompTab X.env.scope scope X.N N' pk)(hcm:X.calm=true)(hi:PI X tg iter wi)
  (hg:∀ cl s2 H2 C fp,PG (blk X s2 H2 C scope cl N' fp) tg g) (ht:∀ cl s2 H2 C fp,PTs (blk X s2 H2 C scope cl N' fp) ifs tt) (he:∀ cl s2 H2 C fp,PE (blk X s2 H2 C scope cl N' fp) elt te)
  (hN:X.N.Nodup) (hy:X.N[i]?=some y) (hx:Loc X.env.scope y) (hsw:swapsWith (.ListComp elt [⟨tg,iter,ifs,0⟩] scope pos) (some (.Name y py)) spos.line X.env=pure true)
  (hs:∀ x,foldedSetIterable iter X.env x=pure x:=by intro _; rfl) (hf:X.fn y=true\/X.env.scope.names.lookup y=some .local:=by first | exact .inl rfl | exact .inr rfl | assumption):
  PS X (.Assign [.Name y py] (.ListComp elt [⟨tg,iter,ifs,0⟩] scope pos) spos) (Gql (Gm7 wi pk g tt te) (gName i)):=by
 intro pins s Z H E I h
 obtain⟨cl,cs⟩:=ct.sc I.ok
 rw[exec_Assign_Name_used _ _ _ _ hsw]
 refine wpAny_bind (wpAny_standAt (wpAny_bind ?_))
 show wpAny _ X.A (do let _ <- comprehension (.ListComp elt [⟨tg,iter,ifs,0⟩] scope pos) scope X.env _ (newList []) false (eval iter X.env) (some (assign (.Name y py) X.env))) _ _ s
 refine wpAny_bind (wpAny_mono (wpAny_comprehension_free (use:=some (assign (.Name y py) X.env)) (Q:=fun _ s'=>SP X pins E .next s') rfl hs cs.clos cs.kind cs.names
  (thn (hi pins s Z H _ I h) fun x s1 h1=>thn h1 fun itv s2 h2=>?_)) (fun _ s' hq=>wpAny_pure (wpAny_pure hq)) fun _ _ e=>e)
 obtain⟨it,fp,tn,J,H2,e,I2,T,st2,f2,hQ⟩:=h2
 subst e
 refine Gdf cs hcm hg ht he I2 T st2 f2 (Q:=fun x H1=>gName i x Z H1 E.nx) hQ (RR:=fun acc C=>compPost (model X.prog X.w) X.A X.xe (some (assign (.Name y py) X.env)) (fun _ s'=>SP X pins E .next s') acc C) fun D C s' H' q hn inv hfr hC=>?_
 obtain⟨m,hn⟩:=hn
 show wpAny _ X.A (assign (.Name y py) X.env (.ref D)) _ _ _
 refine wpAny_assign_Name (Ge1 inv hN hy hx (v:=.ref D) rfl (fun s'' I'' hch=>?_) hf)
 obtain⟨a,hsb,ha⟩:=hch
 have hCa:C≠a:=by
  rcases ha with ha | ha
  ·rintro rfl
   exact absurd (Aj I2.lt (by rw[<- ha]; exact hC)) (AD _)
  ·rintro rfl
   obtain⟨v,z⟩:=I2.cell y _ ha
   exact absurd (Aj z.lt hC) (AD _)
 exact⟨m,hn.sameBut hsb hCa,fun h' hs'=>⟨_,H',Gjn I2 I'' hfr hC hs',q⟩⟩
abbrev XN:XW:=fun _ _ _ _ _ _=>False
def cbody(a:Nat)(t:Ev Bool)(e:Ev D):Sv:=fun U S=>bindS (t U S) U fun b S1=>if b=true then bindS (e U S1) U fun d S2=>(match S2[a]? with
  | some c=>if c.fz=false/\c.xs.length<1000000 then .nx U (S2.set a ⟨false,c.xs++[d]⟩) else .bad
  | none=>.bad) else .nx U S1
def cmp(f:Ev Src)(pk:List (BJ Nat))(g:Tg)(t:Ev Bool)(e:Ev D):Ev D:=fun U S=>(f U S).bind fun src S1=>match Qe src.nxt g (cbody S1.length t e) src.fuel 0 (pkS pk U) (S1++[⟨false,[]⟩]) with
 | .nx _ S'=>.ok (.lst S1.length) S'
 | _=>.bad
def Gca(K:BE)(XQ:XW)(Z:L2.St)(U:Lc)(a:Nat)(mp:List BI)(H:Hp)(o:OS)(Q:VK):Prop:=match o with
 | .nx _ S=>Post K XQ Z U mp H (.ok (.lst a) S) Q
 | _=>False
def Gca.aft{K:BE}{XQ:XW}{Z:L2.St}{U:Lc}{a:Nat}{mp mp':List BI}{H H':Hp}{o:OS}{Q:VK}(p:Gca K XQ Z U a mp H o Q)(af:Aft K mp H mp' H'):Gca K XQ Z U a mp' H' o Q:=by
 cases o with
 | nx r S=>exact Gj.aft (show Post K XQ Z U mp H (.ok (.lst a) S) Q from p) af
 | _=>exact p
def Gd.pick{K:BE}{mp:List BI}{H:Hp}{Z:L2.St}{U:Lc}{S:Sto}(G:Gd K mp H Z U S)(pk:List (BJ Nat)):Gd K mp H (pkS pk Z) (pkS pk U) S:=by
 refine⟨G.rs,by simp[pkS],fun i d h=>?_⟩
 unfold pkS at h ⊢
 rw[Ar] at h ⊢
 cases e:pk[i]? with
 | none=>rw[e] at h; cases h
 | some o=>
  rw[e] at h
  cases o with
  | none=>cases h
  | some j=>
   have h:(U[j]?).bind id=some d:=Ab h
   have h:U[j]?=some (some d):=by
    cases z:U[j]? with
    | none=>rw[z] at h; cases h
    | some q=>
     rw[z] at h
     have h:q=some d:=h
     rw[h]
   obtain⟨v,e1,r⟩:=G.loc j d h
   refine⟨v,?_,r⟩
   show some ((Z[j]?).bind id)=some (some v)
   rw[e1]
   rfl
def JTs(QC:Cx)(XQ:XW)(ifs:List Expr)(t:Ev Bool):Prop:=PTs QC ifs (rdT QC.K XQ t)
noncomputable def ttrue:Ev Bool:=fun _ S=>.ok true S
def Grb{QC:Cx}{XQ:XW}:JTs QC XQ [] ttrue:=fun pins s Z H Q I ⟨mp,U,S,G,p⟩=>Gq8 pins s Z H Q I (Gj.ok (show Gj QC.K kB XQ Z U mp H (.ok true S) Q from p) G.rs rfl)
def Grc{QC:Cx}{XQ:XW}{c:Expr}{t:Ev Bool}(h:JT QC XQ c t):JTs QC XQ [c] t:=Gq9 h
def Gt9{K:BE}{XQ:XW}{f:Ev Src}{pk:List (BJ Nat)}{g:Tg}{t:Ev Bool}{e:Ev D}(Z:L2.St)(H:Hp)(Q:VK)(h:rdE K XQ (cmp f pk g t e) Z H Q):Gm7 (rdI K XQ f) pk (Gm1 K g) (rdT K XN t) (rdE K XN e) Z H Q:=by
 obtain⟨mp,U,S,G,p⟩:=h
 refine bindP G p fun mp1 H1 src S1 J a1 G1 j1 p1=>?_
 intro a ha
 obtain⟨af,rs,la⟩:=G1.rs.newL ha (RepL.nil:RepL K mp1 H1 [] [])
 have p1:Gca K XQ Z U S1.length (mp1++[a]) (upd H1 a (.lst [])) (Qe src.nxt g (cbody S1.length t e) src.fuel 0 (pkS pk U) (S1++[⟨false,[]⟩])) Q:=by
  cases z:Qe src.nxt g (cbody S1.length t e) src.fuel 0 (pkS pk U) (S1++[⟨false,[]⟩]) with
  | nx r S'=>rw[z] at p1; exact Gj.aft p1 af
  | rt d S'=>rw[z] at p1; exact p1
  | bk r S'=>rw[z] at p1; exact p1
  | ct r S'=>rw[z] at p1; exact p1
  | exc x r S'=>rw[z] at p1; exact p1
  | bad=>rw[z] at p1; exact p1
 refine⟨fun i m Z' H'=>∃ mp' U' S',Aft K mp1 H1 mp' H'/\Gd K mp' H' Z' U' S'/\(mp'[S1.length]?=some a/\¬ Dcy H' a)/\Gca K XQ Z U S1.length mp' H' (Qe src.nxt g (cbody S1.length t e) m i U' S') Q,⟨src.fuel,_,_,_,af,(G1.pick pk).aft af rs,⟨la,Gik He⟩,p1⟩,?_⟩
 rintro i m Z' H' ⟨mp',U',S',a',G',⟨la',nd'⟩,p'⟩
 cases m with
 | zero=>exact(show False from p').elim
 | succ n=>
  have j:=j1 mp' H' S' a' G'.rs i
  unfold Qe at p'
  cases z:src.nxt i S' with
  | none=>
   rw[z] at j p'
   exact .inl ⟨j,Gj.ok (show Post K XQ Z U mp' H' (.ok (.lst S1.length) S') Q from p') G'.rs ⟨a,rfl,la',nd'⟩⟩
  | some d=>
   rw[z] at j p'
   obtain⟨j1,j2⟩:=j
   refine .inr ⟨j1,fun x H2 y=>?_⟩
   obtain⟨a2,r2,x2⟩:=j2 x H2 y
   have nd2:=a2.ndc _ _ la' nd'
   have G2:=G'.aft a2 r2
   cases zg:g d U' with
   | none=>simp only[zg] at p'; exact p'.elim
   | some U1=>
    simp only[zg] at p'
    refine⟨mp',U',S',d,U1,G2,x2,zg,fun Z3 G3=>⟨mp',U1,S',G3,?_⟩⟩
    have p2:=Gca.aft p' a2
    unfold cbody at p2
    cases zt:t U1 S' with
    | exc x S2=>simp only[zt,bindS] at p2; exact p2.elim
    | bad=>simp only[zt,bindS] at p2; exact p2.elim
    | ok b S2=>
     simp only[zt,bindS] at p2
     intro mp3 H3 b' a3 rs3 e3
     cases (show b'=b from e3)
     have G4:=G3.aft a3 rs3
     cases b with
     | false=>
      simp only[AC,if_false] at p2
      exact(if_neg Ao).mpr ⟨n,A7 n,mp3,U1,S2,(a'.trans a2).trans a3,G4,⟨a3.pre _ _ la',a3.ndc _ _ la' nd2⟩,Gca.aft p2 a3⟩
     | true=>
      simp only[if_true] at p2
      refine(if_pos rfl).mpr ⟨mp3,U1,S2,G4,?_⟩
      cases ze:e U1 S2 with
      | exc x S3=>simp only[ze] at p2; exact p2.elim
      | bad=>simp only[ze] at p2; exact p2.elim
      | ok d2 S3=>
       simp only[ze] at p2
       intro mp4 H4 v a4 rs4 r4
       have la4:=a4.pre _ _ (a3.pre _ _ la')
       have nd4:=a4.ndc _ _ (a3.pre _ _ la') (a3.ndc _ _ la' nd2)
       have G5:=G4.aft a4 rs4
       cases zc:S3[S1.length]? with
       | none=>simp only[zc] at p2; exact p2.elim
       | some c=>
        simp only[zc] at p2
        by_cases hc:c.fz=false/\c.xs.length<1000000
        ·rw[if_pos hc] at p2
         obtain⟨a5,xs,e5,h5,s5,r5,f5⟩:=rs4.items (v:=.ref a) ⟨a,rfl,la4,nd4⟩ zc
         cases e5
         have h5:=f5 hc.1
         obtain⟨af6,rs6⟩:=rs4.setL la4 zc hc.1 h5 (RepL.append r5 (RepL.cons r4 RepL.nil))
         refine⟨xs,h5,?_,n,A7 n,mp4,U1,_,(((a'.trans a2).trans a3).trans a4).trans af6,G5.aft af6 rs6,⟨la4,Gik He⟩,Gca.aft p2 ((a3.trans a4).trans af6)⟩
         rw[r5.len]
         exact Aj hc.2 (by decide)
        ·rw[if_neg hc] at p2; exact p2.elim
variable{XQ:XW}
def Grd{elt tg iter:Expr}{ifs:List Expr}{scope:Scope}{pos:Pos}{N':List Str}{pk:List (BJ Nat)}{f:Ev Src}{g:Tg}{t:Ev Bool}{e:Ev D}(ct:CompTab X.env.scope scope X.N N' pk)(hcm:X.calm=true)(hi:JI X XQ tg iter f)
  (hg:∀ cl s2 H2 C fp,JG (blk X s2 H2 C scope cl N' fp) tg g) (ht:∀ cl s2 H2 C fp,JTs (blk X s2 H2 C scope cl N' fp) XN ifs t) (he:∀ cl s2 H2 C fp,JE (blk X s2 H2 C scope cl N' fp) XN elt e)
  (hs:∀ x,foldedSetIterable iter X.env x=pure x:=by intro _; rfl):JE X XQ (.ListComp elt [⟨tg,iter,ifs,0⟩] scope pos) (cmp f pk g t e):=
 PE.mono (Gra (g:=Gm1 X.K g) (tt:=rdT X.K XN t) (te:=rdE X.K XN e) ct hcm hi hg ht he hs) Gt9
def Gin(i:Nat){y:Str}{py spos:Pos}{elt tg iter:Expr}{ifs:List Expr}{scope:Scope}{pos:Pos}{N':List Str}{pk:List (BJ Nat)}{f:Ev Src}{g:Tg}{t:Ev Bool}{e:Ev D}(ct:CompTab X.env.scope scope X.N N' pk)(hcm:X.calm=true)(hi:JI X XQ tg iter f)
  (hg:∀ cl s2 H2 C fp,JG (blk X s2 H2 C scope cl N' fp) tg g) (ht:∀ cl s2 H2 C fp,JTs (blk X s2 H2 C scope cl N' fp) XN ifs t) (he:∀ cl s2 H2 C fp,JE (blk X s2 H2 C scope cl N' fp) XN elt e)
  (hN:X.N.Nodup) (hy:X.N[i]?=some y:=by rfl) (hx:Loc X.env.scope y:=by first | exact Or.inl rfl | exact Or.inr rfl) (hsw:swapsWith (.ListComp elt [⟨tg,iter,ifs,0⟩] scope pos) (some (.Name y py)) spos.line X.env=pure true:=by rfl)
  (hs:∀ x,foldedSetIterable iter X.env x=pure x:=by intro _; rfl) (hf:X.fn y=true\/X.env.scope.names.lookup y=some .local:=by first | exact .inl rfl | exact .inr rfl | assumption):
  JS X XQ (.Assign [.Name y py] (.ListComp elt [⟨tg,iter,ifs,0⟩] scope pos) spos) (sa (cmp f pk g t e) (gn i)):=by
 refine PS.mono (Gim (g:=Gm1 X.K g) (tt:=rdT X.K XN t) (te:=rdE X.K XN e) ct hcm hi hg ht he hN hy hx hsw hs hf) fun E Z H ⟨mp,U,S,G,p⟩=>Gt9 Z H _ ?_
 exact bindSP G p fun mp1 H1 d S1 v a1 G1 r1 p1=>PostS.nx p1 (G1.set i r1)
end
def Glm:fillsNumberSlot (.type "tuple") "mul"=pure false:=
 PySem.fillsNumberSlot_seq (id:="tuple.__mul__") (r:=some (.builtin "tuple.__rmul__")) F.slot_tuple_mul.lookup (by decide +kernel) F.slot_tuple_rmul.lookup (by decide +kernel)
def Gio:seqRepeat? (.type "tuple")=pure (some (.builtin "tuple.__mul__")):=by
 unfold seqRepeat?
 rw[PySem.seqSlot_of (T:="tuple") (name:="__mul__") (id:="tuple.__mul__") F.slot_tuple_mul.lookup (by decide +kernel),PySem.seqSlot_of (T:="tuple") (name:="__rmul__") (id:="tuple.__rmul__") F.slot_tuple_rmul.lookup (by decide +kernel)]
 rfl
def Gw4(x:Int)(t:Tok)(l:BI)(xs:Array BG)(n:Nat)(d:BJ BI)(sl:Array (BJ BG)):
  Meets (Builtin.«int.__rmul__» ⟨[.int x t,.ref l],[]⟩) (fun _ R s=>s.heap.get? l=some { cls:=.type "tuple",dict:=d,data:=.seq xs n,slots:=sl }/\R (.ok (.ret Value.notImplemented)) s):=
 .of_wp fun prog w A R s h=>by obtain⟨hp,g,d,tk,os⟩:=s; obtain⟨hl,h⟩:=h; wp_walk; exact⟨_,rfl,h⟩
def Gw5(x:Int)(t:Tok)(l:BI)(xs:Array BG)(n:Nat)(d:BJ BI)(sl:Array (BJ BG))(c0:¬ (decide (x < -2^63)||decide (x≥2^63))=true)(c1:¬ (xs.isEmpty||x==1)=true)(c2:¬ (decide (x<=0)||xs.isEmpty)=true)(c3:¬ (xs.size:Int)*x>(2^63-1) / 8)(c4:¬ Builtin.Tuple.tupleTooMany ((xs.size:Int)*x)=true)(c5:(List.foldl (fun x1 x2=>x1++x2) #[] (List.replicate x.toNat xs)).size<=sizeLine):
  Meets (Builtin.«tuple.__mul__» ⟨[.ref l,.int x t],[]⟩) (fun _ R s=>s.heap.get? l=some { cls:=.type "tuple",dict:=d,data:=.seq xs n,slots:=sl }/\R (.ok (.ret (Value.ref s.heap.objs.size))) { s with heap:=s.heap.push { cls:=Value.type "tuple",data:=Data.seq (List.foldl (fun x1 x2=>x1++x2) #[] (List.replicate x.toNat xs)) },toks:=s.toks }):=
 .of_wp fun prog w A R s h=>by
  obtain⟨hp,g,d,tk,os⟩:=s; obtain⟨hl,h⟩:=h
  wp_walk
  refine wpAny_ite_false (decide_eq_false c0) ?_
  wp_walk using wpAny_loadPart' hl
  refine wpAny_ite_false (decide_eq_false c3) ?_
  wp_walk
  exact⟨_,rfl,h⟩
section
variable{X:Cx}
def Gua(K:BE):R2:=fun x y H Q=>∃ a k xs,x=.ref a/\y=.int k/\SqT K H a xs/\xs≠[]/\2<=k/\k<=1000000/\xs.length*k.toNat<=sizeLine/\∀ p,H p=none->Q (.ref p) (upd H p (.tup (List.replicate k.toNat xs).flatten))
def Gre:OpR X (binaryOp .Mult) (Gua X.K):=by
 intro pins s Z H x y v u Q I rx ry ⟨a,k,xs,e1,e2,ha,hne,k2,k3,hz,q⟩
 subst e1 e2
 cases rx
 obtain⟨t,rfl⟩:=ry
 obtain⟨its,r1,p1,_⟩:=I.tuple ha
 obtain⟨⟨cls,dd,data,sl⟩,ho,hc,n,hd⟩:=id p1
 simp only at hc hd
 subst hc hd
 have hl:xs.length=its.length:=r1.length
 have hne':its≠[]:=fun z=>hne (r1.nil_iff.mp z)
 have hie:its.toArray.isEmpty=false:=by
  cases its with
  | nil=>exact absurd rfl hne'
  | cons _ _=>rfl
 have hnew:List.foldl (fun x1 x2=>x1++x2) #[] (List.replicate k.toNat its.toArray)=(List.replicate k.toNat its).flatten.toArray:=by
  have:=Gbk its k.toNat []
  rw[List.nil_append] at this
  exact this
 have hsz:(its.toArray.size:Int)*k<=(sizeLine:Int):=by
  rw[An,<- hl]
  have h1:((xs.length*k.toNat:Nat):Int)<=(sizeLine:Int):=by exact_mod_cast hz
  rw[Int.natCast_mul,Int.toNat_of_nonneg (by omega)] at h1
  exact h1
 have hsl:(sizeLine:Int)<=(2^63-1) / 8:=by decide
 refine wpAny_binaryOp_repeat_ref (T:="tuple") (U:="int") (by decide) ⟨_,ho,rfl⟩ (fun s'=>typeIs_int s' k t) Glm F.fills_int_mul F.slot_int_rmul Gio F.slot_int_index.lookup
  (call_meets F.slot_int_rmul (typeIs_int s k t) F.entry_int_rmul (F.args_int_rmul_2 _ _) (Gw4 k t a its.toArray n dd sl)
   ⟨ho,rfl,⟨_,ho,rfl⟩,call_meets F.slot_tuple_mul ⟨_,ho,rfl⟩ F.entry_tuple_mul (F.args_tuple_mul_2 _ _) (Gw5 k t a its.toArray n dd sl ?c0 ?c1 ?c2 ?c3 ?c4 ?c5) ⟨ho,?_⟩⟩)
 case c0=>simp; omega
 case c1=>rw[hie]; simp; omega
 case c2=>rw[hie]; simp; omega
 case c3=>omega
 case c4=>unfold Builtin.Tuple.tupleTooMany; simp; omega
 case c5=>rw[hnew,An,Gfr,<- hl,Nat.mul_comm]; exact hz
 rw[hnew]
 refine⟨.ref s.heap.objs.size,_,I.laid (t':=s.toks) (o:=.tup (List.replicate k.toNat xs).flatten) (fun b ob q=>Ap _ q) (Ac _) ?_,rfl,q _ (I.hok.fresh (Ac _))⟩
 exact⟨by rw[Gfr,Nat.mul_comm]; exact hz,_,r1.rep k.toNat,IsTup.new _ _⟩
end
noncomputable def Jm{O β:Type}(f:O->BJ β):List O->BJ (List β)
 | []=>some []
 | x::l=>match f x,Jm f l with
  | some y,some ys=>some (y::ys)
  | _,_=>none
def toP(S:Sto):Nat->D->BJ PyData
 | 0,_=>none
 | n+1,d=>match d with
  | .non=>some .none
  | .bl b=>some (.bool b)
  | .int i=>some (.int i)
  | .str x=>some (.str x)
  | .tup l=>(Jm (toP S n) l).map .tuple
  | .lst i=>match S[i]? with
   | some c=>(Jm (toP S n) c.xs).map .list
   | none=>none
  | .exn _ _=>none
  | .fv _=>none
  | .dct _=>none
section
variable{X:Cx}{pins:List (BI×Obj)}{Z:L2.St}{H:Hp}{s:BH}{mp:List BI}{S:Sto}
def Gfx{f:D->BJ PyData}{K:BE}(hf:∀ (d:D) (v:V) (u:BG) (p:PyData),Rep K mp H d v->Hc v u->f d=some p->∃ as,Reads s.heap u p as):∀ (l:List D) (vs:List V) (us:List BG) (ps:List PyData),RepL K mp H l vs->Vals vs us->Jm f l=some ps->∃ as,ReadsAll s.heap us ps as
 | [],vs,us,ps,h,r,e=>by
  cases (show vs=[] from h); cases r
  cases (Ab e)
  exact⟨_,.nil⟩
 | d::l,vs,us,ps,h,r,e=>by
  obtain⟨v,vr,rfl,h1,h2⟩:=(show ∃ v r,vs=v::r/\Rep K mp H d v/\RepL K mp H l r from h)
  cases r with
  | cons r1 r2=>
   cases z1:f d with
   | none=>simp only[Jm,z1] at e; cases e
   | some p=>
    cases z2:Jm f l with
    | none=>simp only[Jm,z1,z2] at e; cases e
    | some qs=>
     simp only[Jm,z1,z2] at e
     cases (Ab e)
     obtain⟨as,ra⟩:=hf d v _ p h1 r1 z1
     obtain⟨bs,rb⟩:=Gfx hf l vr _ qs h2 r2 z2
     exact⟨_,.cons ra rb⟩
def Gdg(I:Inv X pins Z H s)(rs:RS X.K mp H S):∀ (n:Nat) (d:D) (v:V) (u:BG) (p:PyData),Rep X.K mp H d v->Hc v u->toP S n d=some p->∃ as,Reads s.heap u p as:=by
 intro n
 induction n with
 | zero=>intro d v u p h r e; cases e
 | succ n ih=>
  intro d v u p h r e
  cases d with
  | non=>
   cases (show v=.non from h); cases (show u=Value.none from r)
   cases (Ab e)
   exact⟨_,.none⟩
  | bl b=>
   cases (show v=.bl b from h); cases (show u=Value.bool b from r)
   cases (Ab e)
   exact⟨_,.bool b⟩
  | int i=>
   cases (show v=.int i from h); obtain⟨t,rfl⟩:=(show ∃ t,u=Value.int i t from r)
   cases (Ab e)
   exact⟨_,.int i t⟩
  | str x=>
   cases (show v=.str x from h); obtain⟨t,rfl⟩:=(show ∃ t,u=Value.str x t from r)
   cases (Ab e)
   exact⟨_,.str x t⟩
  | tup l=>
   obtain⟨a,xs,rfl,sq,q⟩:=Rep.tup h
   cases (show u=Value.ref a from r)
   obtain⟨its,rv,⟨o,ho,hc,k,hd⟩,_⟩:=I.tuple sq
   have e:(Jm (toP S n) l).map PyData.tuple=some p:=e
   cases z:Jm (toP S n) l with
   | none=>rw[z] at e; cases e
   | some ps=>
    rw[z] at e
    cases (Ab e)
    obtain⟨as,ra⟩:=Gfx ih l xs its ps q rv z
    exact⟨as,.tuple ho hc hd (by simpa using ra)⟩
  | lst i=>
   have e:(match S[i]? with | some c=>(Jm (toP S n) c.xs).map PyData.list | none=>none)=some p:=e
   cases zc:S[i]? with
   | none=>rw[zc] at e; cases e
   | some c=>
    rw[zc] at e
    obtain⟨a,xs,rfl,_,sq,q,_⟩:=rs.items h zc
    cases (show u=Value.ref a from r)
    obtain⟨its,rv,⟨o,k,ho,hc,_,hd⟩,_⟩:=I.list sq
    have e:(Jm (toP S n) c.xs).map PyData.list=some p:=e
    cases z:Jm (toP S n) c.xs with
    | none=>rw[z] at e; cases e
    | some ps=>
     rw[z] at e
     cases (Ab e)
     obtain⟨as,ra⟩:=Gfx ih c.xs xs its ps q rv z
     exact⟨_,.list ho hc hd (by simpa using ra)⟩
  | exn c n=>cases (show(none:BJ PyData)=some p from e)
  | fv c=>cases (show(none:BJ PyData)=some p from e)
  | dct c=>cases (show(none:BJ PyData)=some p from e)
end
def eqD(x y:D)(S:Sto):Out D:=match toP S 40 x,toP S 40 y with
 | some p,some q=>if(SeqAt.shaped p&&SeqAt.shaped q)=true then .ok (.bl (PyData.eqv p q)) S else .bad
 | _,_=>.bad
def neD(x y:D)(S:Sto):Out D:=match toP S 40 x,toP S 40 y with
 | some p,some q=>if(SeqAt.shaped p&&SeqAt.shaped q)=true then .ok (.bl (!PyData.eqv p q)) S else .bad
 | _,_=>.bad
section
variable{X:Cx}{XQ:XW}
def OpX(X:Cx)(f:BG->BG->Sem BG)(o:D->D->Sto->Out D):Prop:=
 ∀ (pins:List (BI×Obj)) (s:BH) (Z:L2.St) (U:Lc) (XQ:XW) (mp:List BI) (H:Hp) (S:Sto) (x y:D) (v u:V) (vv uv:BG) (Q:VK),Inv X pins Z H s->RS X.K mp H S->Rep X.K mp H x v->Rep X.K mp H y u->Hc v vv->Hc u uv->Post X.K XQ Z U mp H (o x y S) Q→
  (∀ (e:XD) (S':Sto),o x y S≠.exc e S')->wpAny (model X.prog X.w) X.A (f vv uv) (EP X pins Z Q) X.xe s
def Gm9{a b:Expr}{op:CmpOp}{fa fb:Ev D}{o:D->D->Sto->Out D}{pos:Pos}(ho:OpX X (compareOp op) o)(hno:∀ x y S e S',o x y S≠.exc e S')(ha:JE X XQ a fa)(hb:JE X XQ b fb)(hm:behindInMarks op b=false):JE X XQ (.Compare a [op] [b] pos) (o2 o fa fb):=by
 intro pins s Z H Q I ⟨mp,U,S,G,p⟩
 refine wpAny_Compare1 (thn (ha pins s Z H _ I (bindP G p fun mp1 H1 x S1 v a1 G1 r1 p1=>(⟨mp1,U,S1,x,G1,r1,p1⟩:∃ mp1 U S1 x,Gd X.K mp1 H1 Z U S1/\Rep X.K mp1 H1 x v/\Post X.K XQ Z U mp1 H1 ((fb U S1).bind fun y S2=>o x y S2) Q))) fun vv s1 ⟨v,H1,I1,rv,mp1,U1,S1,x,G1,r1,p1⟩=>?_) hm
 refine thn (hb pins s1 Z H1 _ I1 (bindP G1 p1 fun mp2 H2 y S2 u a2 G2 r2 p2=>(⟨mp2,U1,S2,x,y,v,G2,Rep.aft a2 _ _ r1,r2,rfl,p2⟩:∃ mp2 U S2 x y v',Gd X.K mp2 H2 Z U S2/\Rep X.K mp2 H2 x v'/\Rep X.K mp2 H2 y u/\v'=v/\Post X.K XQ Z U mp2 H2 (o x y S2) Q))) fun uv s2 ⟨u,H2,I2,ru,mp2,U2,S2,x2,y,v',G2,rx,ry,ev,p2⟩=>?_
 subst ev
 exact ho pins s2 Z U2 XQ mp2 H2 S2 x2 y _ u vv uv Q I2 G2.rs rx ry rv ru p2 (hno _ _ _)
def Gip{a b:Expr}{op:CmpOp}{fa fb:Ev D}{o:D->D->Sto->Out D}{pos:Pos}(ho:OpX X (compareOp op) o)(hno:∀ x y S e S',o x y S≠.exc e S')(ha:JE X XQ a fa)(hb:JE X XQ b fb)(hm:behindInMarks op b=false):JT X XQ (.Compare a [op] [b] pos) (tb (o2 o fa fb)):=by
 intro pins s Z H Q I h
 obtain⟨mp,U,S,G,p⟩:=Gmz h
 refine wpAny_isTrue_Compare1 (thn (ha pins s Z H _ I (bindP G p fun mp1 H1 x S1 v a1 G1 r1 p1=>(⟨mp1,U,S1,x,G1,r1,p1⟩:∃ mp1 U S1 x,Gd X.K mp1 H1 Z U S1/\Rep X.K mp1 H1 x v/\Post X.K XQ Z U mp1 H1 ((fb U S1).bind fun y S2=>o x y S2) (fun x H1=>∃ k,x=.bl k/\Q k H1)))) fun vv s1 ⟨v,H1,I1,rv,mp1,U1,S1,x,G1,r1,p1⟩=>?_) hm
 refine thn (hb pins s1 Z H1 _ I1 (bindP G1 p1 fun mp2 H2 y S2 u a2 G2 r2 p2=>(⟨mp2,U1,S2,x,y,v,G2,Rep.aft a2 _ _ r1,r2,rfl,p2⟩:∃ mp2 U S2 x y v',Gd X.K mp2 H2 Z U S2/\Rep X.K mp2 H2 x v'/\Rep X.K mp2 H2 y u/\v'=v/\Post X.K XQ Z U mp2 H2 (o x y S2) (fun x H1=>∃ k,x=.bl k/\Q k H1)))) fun uv s2 ⟨u,H2,I2,ru,mp2,U2,S2,x2,y,v',G2,rx,ry,ev,p2⟩=>?_
 subst ev
 refine thn (ho pins s2 Z U2 XQ mp2 H2 S2 x2 y _ u vv uv _ I2 G2.rs rx ry rv ru p2 (hno _ _ _)) fun c s3 ⟨z,H3,I3,r3,k,e,q3⟩=>?_
 subst e
 cases r3
 exact wpAny_truthy_bool ⟨H3,I3,q3⟩
def Gub(hu:X.A.units+64<cLine):OpX X (compareOp .Eq) eqD:=by
 intro pins s Z U XQ mp H S x y v u vv uv Q I rs rx ry rv ru p _
 unfold eqD at p
 cases z1:toP S 40 x with
 | none=>simp only[z1] at p; exact p.elim
 | some a=>
  cases z2:toP S 40 y with
  | none=>simp only[z1,z2] at p; exact p.elim
  | some b=>
   simp only[z1,z2] at p
   by_cases hs:(SeqAt.shaped a&&SeqAt.shaped b)=true
   ·rw[if_pos hs] at p
    obtain⟨as,ra⟩:=Gdg I rs 40 x v vv a rx rv z1
    obtain⟨bs,rb⟩:=Gdg I rs 40 y u uv b ry ru z2
    rw[At] at hs
    exact SeqAt.compareEq_shaped ra rb hs.1 hs.2 hu ⟨.bl _,H,I,rfl,Gj.ok (R:=Rep X.K) p rs rfl⟩
   ·rw[if_neg hs] at p; exact p.elim
def Guc(hu:X.A.units+64<cLine):OpX X (compareOp .NotEq) neD:=by
 intro pins s Z U XQ mp H S x y v u vv uv Q I rs rx ry rv ru p _
 unfold neD at p
 cases z1:toP S 40 x with
 | none=>simp only[z1] at p; exact p.elim
 | some a=>
  cases z2:toP S 40 y with
  | none=>simp only[z1,z2] at p; exact p.elim
  | some b=>
   simp only[z1,z2] at p
   by_cases hs:(SeqAt.shaped a&&SeqAt.shaped b)=true
   ·rw[if_pos hs] at p
    obtain⟨as,ra⟩:=Gdg I rs 40 x v vv a rx rv z1
    obtain⟨bs,rb⟩:=Gdg I rs 40 y u uv b ry ru z2
    rw[At] at hs
    exact SeqAt.compareNe_shaped ra rb hs.1 hs.2 hu ⟨.bl _,H,I,rfl,Gj.ok (R:=Rep X.K) p rs rfl⟩
   ·rw[if_neg hs] at p; exact p.elim
def Gud(x y:D)(S:Sto)(e:XD)(S':Sto):eqD x y S≠.exc e S':=by
 unfold eqD
 split
 ·split<;>exact fun z=>nomatch z
 ·exact fun z=>nomatch z
def Gue(x y:D)(S:Sto)(e:XD)(S':Sto):neD x y S≠.exc e S':=by
 unfold neD
 split
 ·split<;>exact fun z=>nomatch z
 ·exact fun z=>nomatch z
def Ha4{a b:Expr}{fa fb:Ev D}{pos:Pos}(hu:X.A.units+64<cLine)(ha:JE X XQ a fa)(hb:JE X XQ b fb):JE X XQ (.Compare a [.Eq] [b] pos) (o2 eqD fa fb):=Gm9 (Gub hu) Gud ha hb (nomark _)
def Ha5{a b:Expr}{fa fb:Ev D}{pos:Pos}(hu:X.A.units+64<cLine)(ha:JE X XQ a fa)(hb:JE X XQ b fb):JT X XQ (.Compare a [.Eq] [b] pos) (tb (o2 eqD fa fb)):=Gip (Gub hu) Gud ha hb (nomark _)
def Ha6{a b:Expr}{fa fb:Ev D}{pos:Pos}(hu:X.A.units+64<cLine)(ha:JE X XQ a fa)(hb:JE X XQ b fb):JE X XQ (.Compare a [.NotEq] [b] pos) (o2 neD fa fb):=Gm9 (Guc hu) Gue ha hb (nomark _)
def Ha7{a b:Expr}{fa fb:Ev D}{pos:Pos}(hu:X.A.units+64<cLine)(ha:JE X XQ a fa)(hb:JE X XQ b fb):JT X XQ (.Compare a [.NotEq] [b] pos) (tb (o2 neD fa fb)):=Gip (Guc hu) Gue ha hb (nomark _)
noncomputable def i2(C:Int->Int->Bool)(g:Int->Int->D):D->D->Sto->Out D:=fun x y S=>match x,y with
 | .int i,.int j=>if C i j=true then .ok (g i j) S else .bad
 | _,_=>.bad
def Gfy{K:BE}{C:Int->Int->Prop}{c:Int->Int->Bool}{g:Int->Int->V}{gd:Int->Int->D}(hc:∀ i j,c i j=true->C i j)(hg:∀ mp H i j,Rep K mp H (gd i j) (g i j)):OpD K (rI C g) (i2 c gd):=by
 intro XQ Z U mp H S x y v u Q rs rx ry p
 cases x with
 | int i=>
  cases y with
  | int j=>
   have p:Post K XQ Z U mp H (if c i j=true then .ok (gd i j) S else .bad) Q:=p
   by_cases h:c i j=true
   ·rw[if_pos h] at p
    exact⟨i,j,rx,ry,hc i j h,Gj.ok (R:=Rep K) p rs (hg mp H i j)⟩
   ·rw[if_neg h] at p; exact p.elim
  | _=>exact(show False from p).elim
 | _=>exact(show False from p).elim
def od_int0{K:BE}{g:Int->Int->V}{gd:Int->Int->D}(hg:∀ mp H i j,Rep K mp H (gd i j) (g i j)):OpD K (rI0 g) (i2 (fun _ _=>true) gd):=by
 intro XQ Z U mp H S x y v u Q rs rx ry p
 obtain⟨i,j,h1,h2,_,h3⟩:=Gfy (C:=fun _ _=>True) (c:=fun _ _=>true) (fun _ _ _=>trivial) hg XQ Z U mp H S x y v u Q rs rx ry p
 exact⟨i,j,h1,h2,h3⟩
abbrev Vr:=i2 (fun _ _=>true) fun i j=>.int (i-j)
abbrev Xl:=i2 (fun _ j=>decide (0<j)) fun i j=>.int (i%j)
abbrev Gfz:=i2 (fun i j=>decide (0<=j/\j<=1000000/\i.natAbs<2^64)) fun i j=>.int (i^j.toNat)
abbrev ltD:=i2 (fun _ _=>true) fun i j=>.bl (decide (i<j))
abbrev leD:=i2 (fun _ _=>true) fun i j=>.bl (decide (i<=j))
abbrev gtD:=i2 (fun _ _=>true) fun i j=>.bl (decide (j<i))
abbrev geD:=i2 (fun _ _=>true) fun i j=>.bl (decide (j<=i))
section
variable{a b:Expr}{fa fb:Ev D}{pos:Pos}
def Gw6(ha:JE X XQ a fa)(hb:JE X XQ b fb):JE X XQ (.BinOp a .Sub b pos) (o2 Vr fa fb):=Ge8 Gvw (od_int0 fun _ _ _ _=>rfl) ha hb
def Gw7(ha:JE X XQ a fa)(hb:JE X XQ b fb):JE X XQ (.BinOp a .Mod b pos) (o2 Xl fa fb):=Ge8 Gvy (Gfy (fun _ _ h=>of_decide_eq_true h) fun _ _ _ _=>rfl) ha hb
def Gw8(ha:JE X XQ a fa)(hb:JE X XQ b fb):JE X XQ (.BinOp a .Pow b pos) (o2 Gfz fa fb):=Ge8 Gvz (Gfy (fun i j h=>(of_decide_eq_true h:0<=j/\j<=1000000/\i.natAbs<2^64)) fun _ _ _ _=>rfl) ha hb
def Ha8(ha:JE X XQ a fa)(hb:JE X XQ b fb):JE X XQ (.Compare a [.Lt] [b] pos) (o2 ltD fa fb):=Gft Gji (od_int0 fun _ _ _ _=>rfl) ha hb (nomark _)
def Ha9(ha:JE X XQ a fa)(hb:JE X XQ b fb):JE X XQ (.Compare a [.LtE] [b] pos) (o2 leD fa fb):=Gft Gmk (od_int0 fun _ _ _ _=>rfl) ha hb (nomark _)
def Hba(ha:JE X XQ a fa)(hb:JE X XQ b fb):JE X XQ (.Compare a [.GtE] [b] pos) (o2 geD fa fb):=Gft Gt2 (od_int0 fun _ _ _ _=>rfl) ha hb (nomark _)
def Hbb(ha:JE X XQ a fa)(hb:JE X XQ b fb):JT X XQ (.Compare a [.Lt] [b] pos) (tb (o2 ltD fa fb)):=Gfu Gji (od_int0 fun _ _ _ _=>rfl) ha hb (nomark _)
def Hbc(ha:JE X XQ a fa)(hb:JE X XQ b fb):JT X XQ (.Compare a [.Gt] [b] pos) (tb (o2 gtD fa fb)):=Gfu Hak (od_int0 fun _ _ _ _=>rfl) ha hb (nomark _)
def Hbd(ha:JE X XQ a fa)(hb:JE X XQ b fb):JT X XQ (.Compare a [.GtE] [b] pos) (tb (o2 geD fa fb)):=Gfu Gt2 (od_int0 fun _ _ _ _=>rfl) ha hb (nomark _)
end
noncomputable def Gq(x y:D)(S:Sto):Out D:=match x,y with
 | .int i,.int j=>.ok (.int (i+j)) S
 | .str a,.str b=>if a.length+b.length<=1000000 then .ok (.str (a++b)) S else .bad
 | .lst i,.lst j=>match S[i]?,S[j]? with
  | some c,some e=>if(c.fz=false/\e.fz=false)/\c.xs.length+e.xs.length<=1000000 then .ok (.lst S.length) (S++[⟨false,c.xs++e.xs⟩]) else .bad
  | _,_=>.bad
 | .tup a,.tup b=>if a.length+b.length<=1000000 then .ok (.tup (a++b)) S else .bad
 | _,_=>.bad
def Guf(K:BE):R2:=fun x y H Q=>∃ a b ys,x=.ref a/\y=.ref b/\SqT K H a []/\SqT K H b ys/\Q (.ref b) H
def Grf:OpR X (binaryOp .Add) (Guf X.K):=by
 intro pins s Z H x y v u Q I rx ry ⟨a,b,ys,e1,e2,ha,hb,q⟩
 subst e1 e2
 cases rx; cases ry
 obtain⟨its,r1,p1,_⟩:=I.tuple ha
 obtain⟨its2,r2,p2,_⟩:=I.tuple hb
 have ei:=r1.nil_iff.mpr rfl
 subst ei
 obtain⟨⟨cls,dd,data,sl⟩,ho,hc,n,hd⟩:=id p1
 obtain⟨⟨cls2,dd2,data2,sl2⟩,ho2,hc2,n2,hd2⟩:=id p2
 simp only at hc hd hc2 hd2
 subst hc hd hc2 hd2
 exact concat_meets ⟨_,ho,rfl⟩ ⟨_,ho2,rfl⟩ noFill_tuple_add seq_tuple_add PySem.F.slot_tuple_add PySem.F.entry_tuple_add (PySem.F.args_tuple_add_2 _ _)
  (tuple_addW0 a b [].toArray its2.toArray n n2 dd dd2 sl sl2 (by rfl)) ⟨ho,ho2,⟨.ref b,H,I,rfl,q⟩⟩
def Gug(K:BE):R2:=fun x y H Q=>rI0 (fun i j=>.int (i+j)) x y H Q\/(∃ i j,x=.str i/\y=.str j/\i.length+j.length<=sizeLine/\Q (.str (i++j)) H)\/Hav x y H Q\/Gt4 K x y H Q\/Guf K x y H Q
def Grg:OpR X (binaryOp .Add) (Gug X.K):=Gvv.or (Gid.or (Gwe.or (Gqu.or Grf)))
def Gw9{K:BE}:OpD K (Gug K) Gq:=by
 intro XQ Z U mp H S x y v u Q rs rx ry p
 unfold Gq at p
 split at p
 ·exact .inl ⟨_,_,rx,ry,Gj.ok (R:=Rep K) p rs rfl⟩
 ·rename_i a b
  by_cases h:a.length+b.length<=1000000
  ·rw[if_pos h] at p
   exact .inr (.inl ⟨_,_,rx,ry,line_le h,Gj.ok (R:=Rep K) p rs rfl⟩)
  ·rw[if_neg h] at p; exact p.elim
 ·rename_i i j
  split at p
  ·rename_i c e zc ze
   by_cases h:(c.fz=false/\e.fz=false)/\c.xs.length+e.xs.length<=1000000
   ·rw[if_pos h] at p
    obtain⟨a1,xs,rfl,_,_,q1,f1⟩:=rs.items rx zc
    obtain⟨a2,ys,rfl,_,_,q2,f2⟩:=rs.items ry ze
    refine .inr (.inr (.inl ⟨a1,a2,xs,ys,rfl,rfl,f1 h.1.1,f2 h.1.2,by rw[q1.len,q2.len]; exact line_le h.2,fun q hq=>Xb p rs (q1.append q2) hq⟩))
   ·rw[if_neg h] at p; exact p.elim
  ·exact p.elim
 ·rename_i a b
  by_cases h:a.length+b.length<=1000000
  ·rw[if_pos h] at p
   obtain⟨a1,xs,rfl,s1,q1⟩:=Rep.tup rx
   obtain⟨a2,ys,rfl,s2,q2⟩:=Rep.tup ry
   have l1:=q1.len
   have l2:=q2.len
   by_cases he:xs=[]
   ·subst he
    have ea:a=[]:=by cases a with | nil=>rfl | cons _ _=>simp at l1
    subst ea
    exact .inr (.inr (.inr (.inr ⟨a1,a2,ys,rfl,rfl,s1,s2,Gj.ok (R:=Rep K) p rs ry⟩)))
   ·refine .inr (.inr (.inr (.inl ⟨a1,a2,xs,ys,rfl,rfl,s1,s2,he,by rw[l1,l2]; exact line_le h,fun z=>?_,fun _ q hq=>Ym p rs (q1.append q2) hq⟩)))
    subst z
    have eb:b=[]:=by cases b with | nil=>rfl | cons _ _=>simp at l2
    subst eb
    rw[AY] at p
    exact Gj.ok (R:=Rep K) p rs rx
  ·rw[if_neg h] at p; exact p.elim
 ·exact p.elim
def Gxa{a b:Expr}{fa fb:Ev D}{pos:Pos}(ha:JE X XQ a fa)(hb:JE X XQ b fb):JE X XQ (.BinOp a .Add b pos) (o2 Gq fa fb):=Ge8 Grg Gw9 ha hb
noncomputable def Kf(x y:D)(S:Sto):Out D:=match x,y with
 | .int i,.int j=>if(-(2^64)<i/\i<2^64)\/(-(2^64)<j/\j<2^64) then .ok (.int (i*j)) S else .bad
 | .lst i,.int k=>match S[i]? with
  | some c=>if c.fz=false/\(-1000000<=k/\k<=1000000)/\c.xs.length*k.toNat<=1000000 then .ok (.lst S.length) (S++[⟨false,(List.replicate k.toNat c.xs).flatten⟩]) else .bad
  | none=>.bad
 | .tup l,.int k=>if 0<l.length/\(2<=k/\k<=1000000)/\l.length*k.toNat<=1000000 then .ok (.tup (List.replicate k.toNat l).flatten) S else .bad
 | _,_=>.bad
def Guh(K:BE):R2:=fun x y H Q=>rI CMul (fun i j=>.int (i*j)) x y H Q\/Haw x y H Q\/Gua K x y H Q
def Grh:OpR X (binaryOp .Mult) (Guh X.K):=Gvx.or (Gwf.or Gre)
def RepL.flat{K:BE}{mp:List BI}{H:Hp}{l:List D}{vs:List V}(h:RepL K mp H l vs):∀ k:Nat,RepL K mp H (List.replicate k l).flatten (List.replicate k vs).flatten
 | 0=>RepL.nil
 | k+1=>by
  rw[AV,AV,A3,A3]
  exact RepL.append h (RepL.flat h k)
def Gxb{K:BE}:OpD K (Guh K) Kf:=by
 intro XQ Z U mp H S x y v u Q rs rx ry p
 unfold Kf at p
 split at p
 ·rename_i i j
  by_cases h:(-(2^64)<i/\i<2^64)\/(-(2^64)<j/\j<2^64)
  ·rw[if_pos h] at p
   exact .inl ⟨_,_,rx,ry,h,Gj.ok (R:=Rep K) p rs rfl⟩
  ·rw[if_neg h] at p; exact p.elim
 ·rename_i i k
  split at p
  ·rename_i c zc
   by_cases h:c.fz=false/\(-1000000<=k/\k<=1000000)/\c.xs.length*k.toNat<=1000000
   ·rw[if_pos h] at p
    obtain⟨a1,xs,rfl,_,_,q1,f1⟩:=rs.items rx zc
    exact .inr (.inl ⟨a1,k,xs,rfl,ry,f1 h.1,by omega,by omega,by rw[q1.len]; exact line_le h.2.2,fun q hq=>Xb p rs (q1.flat _) hq⟩)
   ·rw[if_neg h] at p; exact p.elim
  ·exact p.elim
 ·rename_i l k
  by_cases h:0<l.length/\(2<=k/\k<=1000000)/\l.length*k.toNat<=1000000
  ·rw[if_pos h] at p
   obtain⟨a1,xs,rfl,s1,q1⟩:=Rep.tup rx
   have hl:=q1.len
   exact .inr (.inr ⟨a1,k,xs,rfl,ry,s1,fun z=>by rw[z] at hl; simp at hl; omega,h.2.1.1,h.2.1.2,by rw[q1.len]; exact line_le h.2.2,fun q hq=>Ym p rs (q1.flat _) hq⟩)
  ·rw[if_neg h] at p; exact p.elim
 ·exact p.elim
def Gxc{a b:Expr}{fa fb:Ev D}{pos:Pos}(ha:JE X XQ a fa)(hb:JE X XQ b fb):JE X XQ (.BinOp a .Mult b pos) (o2 Kf fa fb):=Ge8 Grh Gxb ha hb
noncomputable def Gbm(x:D)(S:Sto):Out D:=match x with
 | .int i=>.ok (.int (-i)) S
 | _=>.bad
def getD(x y:D)(S:Sto):Out D:=match x,y with
 | .tup l,.int i=>match atI l i with
  | some d=>.ok d S
  | none=>.bad
 | .lst k,.int i=>match S[k]? with
  | some c=>match atI c.xs i with
   | some d=>.ok d S
   | none=>.bad
  | none=>.bad
 | .str z,.int i=>if z.length<=1000000 then(match atI z.cps.toList i with
  | some c=>.ok (.str ⟨#[c]⟩) S
  | none=>.bad) else .bad
 | _,_=>.bad
def RepL.atI{K:BE}{mp:List BI}{H:Hp}{l:List D}{vs:List V}{i:Int}{d:D}(h:RepL K mp H l vs)(e:L2.atI l i=some d):∃ v,L2.atI vs i=some v/\Rep K mp H d v:=by
 unfold L2.atI at e ⊢
 rw[h.len]
 cases z:ixN l.length i with
 | none=>rw[z] at e; cases e
 | some j=>
  rw[z] at e
  exact h.get e
def Gxd{K:BE}:OpD K (rIx K) getD:=by
 intro XQ Z U mp H S x y v u Q rs rx ry p
 unfold getD at p
 split at p
 ·rename_i l i
  split at p
  ·rename_i d zd
   obtain⟨a,xs,rfl,sq,q⟩:=Rep.tup rx
   obtain⟨w,hw,rw'⟩:=q.atI zd
   exact .inr (.inl ⟨a,xs,i,w,rfl,ry,sq,hw,Gj.ok (R:=Rep K) p rs rw'⟩)
  ·exact p.elim
 ·rename_i k i
  split at p
  ·rename_i c zc
   split at p
   ·rename_i d zd
    obtain⟨a,xs,rfl,_,sq,q,_⟩:=rs.items rx zc
    obtain⟨w,hw,rw'⟩:=q.atI zd
    exact .inl ⟨a,xs,i,w,rfl,ry,sq,hw,Gj.ok (R:=Rep K) p rs rw'⟩
   ·exact p.elim
  ·exact p.elim
 ·rename_i z i
  by_cases h:z.length<=1000000
  ·rw[if_pos h] at p
   split at p
   ·rename_i c zc
    exact .inr (.inr ⟨z,i,c,rx,ry,line_le h,zc,Gj.ok (R:=Rep K) p rs rfl⟩)
   ·exact p.elim
  ·rw[if_neg h] at p; exact p.elim
 ·exact p.elim
def Gxe{a b:Expr}{fa fb:Ev D}{pos:Pos}(ha:JE X XQ a fa)(hb:JE X XQ b fb)(hs:Gan b:=by intro _ _; rfl):JE X XQ (.Subscript a b pos) (o2 getD fa fb):=Gt6 Gwb Gxd ha hb hs
def Jo(x y z:D)(S:Sto):BJ Sto:=match x,y with
 | .lst k,.int i=>match S[k]? with
  | some c=>match ixN c.xs.length i with
   | some j=>if c.fz=false then some (S.set k ⟨false,c.xs.set j z⟩) else none
   | none=>none
  | none=>none
 | _,_=>none
def Gxf{K:BE}:Gwy Gt5 K Jo:=by
 intro mp H S S' x y z v u w Q rs rx ry rz e k
 unfold Jo at e
 split at e
 ·rename_i kk i
  split at e
  ·rename_i c zc
   split at e
   ·rename_i j zj
    by_cases hf:c.fz=false
    ·rw[if_pos hf] at e
     cases (Ab e)
     obtain⟨a,xs,rfl,ha,sq,q,f⟩:=rs.items rx zc
     have hH:=f hf
     obtain⟨af,rs'⟩:=rs.setL ha zc hf hH (q.set j rz)
     exact⟨a,xs,i,j,rfl,ry,hH,by rw[q.len]; exact zj,k _ af rs'⟩
    ·rw[if_neg hf] at e; cases e
   ·cases e
  ·cases e
 ·cases e
def Gna{ob ix e:Expr}{f fo fi:Ev D}{pos p2:Pos}(he:JE X XQ e f)(hob:JE X XQ ob fo)(hix:JE X XQ ix fi)
  (hs:swapsWithSole [.Subscript ob ix p2] e pos.line X.env=pure false:=by rfl) (hw:swappedStores [.Subscript ob ix p2] e X.env=pure none:=by rfl)
  (h1:(assignEach [.Subscript ob ix p2] X.env).map (·.2)=[assign (.Subscript ob ix p2) X.env]:=by rfl) (ha:∀ v,assign (.Subscript ob ix p2) X.env v=(do
   let ov <- holding [v] (eval ob X.env)
   let iv <- holding [v,ov] (eval ix X.env)
   standAt p2
   holding [v,ov,iv] (setItem ov iv v)
   release [v,ov,iv] []):=by intro _; rfl):JS X XQ (.Assign [.Subscript ob ix p2] e pos) (ss f fo fi Jo):=Gm3 Gmt Gxf he hob hix hs hw h1 ha
end
section
variable{X:Cx}{XQ:XW}
def BlD(K:BE)(r:List V->Hp->VK->Prop)(o:List D->Sto->Out D):Prop:=
 ∀ (XQ:XW) (Z:L2.St) (U:Lc) (mp:List BI) (H:Hp) (S:Sto) (xs:List D) (vs:List V) (Q:VK),RS K mp H S->RepL K mp H xs vs->Post K XQ Z U mp H (o xs S) Q->r vs H Q
def b1(o:List D->Sto->Out D)(f:Ev (List D)):Ev D:=fun U S=>(f U S).bind o
def cbR{r:List V->Hp->VK->Prop}{o:List D->Sto->Out D}{f:Ev (List D)}(hd:BlD X.K r o)(Z:L2.St)(H:Hp)(Q:VK)(h:rdE X.K XQ (b1 o f) Z H Q):tCB r (rdA X.K XQ f) Z H Q:=by
 obtain⟨mp,U,S,G,p⟩:=h
 exact bindP G p fun mp1 H1 xs S1 vs a1 G1 r1 p1=>hd XQ Z U mp1 H1 S1 xs vs Q G1.rs r1 p1
def Gnb{id:String}{x:Str}{p pos:Pos}{e:Expr}{es:List Expr}{r:List V->Hp->VK->Prop}{o:List D->Sto->Out D}{f:Ev (List D)}(hc:Yk X (.builtin id) r)(hd:BlD X.K r o)(hg:Gl X x)(hm:X.mg x=none)(hv:bootBuiltins x=some (.builtin id))(ha:JA X XQ (e::es) f)(hn:x≠"__name__":=by decide)(hdb:(x==("__debug__":Str))=false:=by decide)
  (he:starEach (e::es) X.env=(false,eval e X.env)::starEach es X.env:=by rfl) (hpl:(backTo pos (starEach es X.env)).any (·.1)=false:=by rfl):JE X XQ (.Call (.Name x p) (e::es) [] pos) (b1 o f):=
 PE.mono (Gal hc hg hm hv ha hn hdb he hpl) (cbR hd)
def Gnc{T:String}{x:Str}{p pos:Pos}{e:Expr}{es:List Expr}{r:List V->Hp->VK->Prop}{o:List D->Sto->Out D}{f:Ev (List D)}(hc:Yk X (.type T) r)(hd:BlD X.K r o)(hg:Gl X x)(hm:X.mg x=none)(hv:bootBuiltins x=some (.type T))(ha:JA X XQ (e::es) f)(hn:x≠"__name__":=by decide)(hdb:(x==("__debug__":Str))=false:=by decide)
  (he:starEach (e::es) X.env=(false,eval e X.env)::starEach es X.env:=by rfl) (hpl:(backTo pos (starEach es X.env)).any (·.1)=false:=by rfl):JE X XQ (.Call (.Name x p) (e::es) [] pos) (b1 o f):=
 PE.mono (Gli hc hg hm hv ha hn hdb he hpl) (cbR hd)
noncomputable def Hd(xs:List D)(S:Sto):Out D:=match xs with
 | [.str z]=>if z.length<=1000000 then .ok (.int z.length) S else .bad
 | [.tup l]=>.ok (.int l.length) S
 | [.lst i]=>match S[i]? with
  | some c=>.ok (.int c.xs.length) S
  | none=>.bad
 | _=>.bad
def Gxg{K:BE}:BlD K (fun xs H Q=>∃ x n,xs=[x]/\Hal K x H n/\Q (.int n) H) Hd:=by
 intro XQ Z U mp H S xs vs Q rs r p
 unfold Hd at p
 split at p
 ·rename_i z
  obtain⟨v,rfl,h⟩:=RepL.one r
  cases (show v=.str z from h)
  by_cases hz:z.length<=1000000
  ·rw[if_pos hz] at p
   exact⟨_,_,rfl,⟨line_le hz,rfl⟩,Gj.ok (R:=Rep K) p rs rfl⟩
  ·rw[if_neg hz] at p; exact p.elim
 ·rename_i l
  obtain⟨v,rfl,h⟩:=RepL.one r
  obtain⟨a,xs,rfl,sq,q⟩:=Rep.tup h
  exact⟨_,xs.length,rfl,.inr ⟨xs,sq,rfl⟩,Gj.ok (R:=Rep K) p rs (by rw[q.len]; rfl)⟩
 ·rename_i i
  obtain⟨v,rfl,h⟩:=RepL.one r
  split at p
  ·rename_i c zc
   obtain⟨a,xs,rfl,_,sq,q,_⟩:=rs.items h zc
   exact⟨_,xs.length,rfl,.inl ⟨xs,sq,rfl⟩,Gj.ok (R:=Rep K) p rs (by rw[q.len]; rfl)⟩
  ·exact p.elim
 ·exact p.elim
def Gxh{p pos:Pos}{e:Expr}{f:Ev (List D)}(hg:Gl X "len")(hm:X.mg "len"=none)(ha:JA X XQ [e] f)(he:starEach [e] X.env=(false,eval e X.env)::starEach [] X.env:=by rfl):JE X XQ (.Call (.Name "len" p) [e] [] pos) (b1 Hd f):=Gnb Gmo Gxg hg hm PySem.boot_len ha (he:=he)
noncomputable def Qr(xs:List D)(S:Sto):Out D:=match xs with
 | [.tup l]=>.ok (.lst S.length) (S++[⟨false,l⟩])
 | [.lst i]=>match S[i]? with
  | some c=>.ok (.lst S.length) (S++[⟨false,c.xs⟩])
  | none=>.bad
 | _=>.bad
def Gri{K:BE}:BlD K (fun xs H Q=>∃ p ys,xs=[.ref p]/\(SqL K H p ys\/SqT K H p ys)/\∀ l,H l=none->Q (.ref l) (upd H l (.lst ys))) Qr:=by
 intro XQ Z U mp H S xs vs Q rs r p
 unfold Qr at p
 split at p
 ·obtain⟨v,rfl,h⟩:=RepL.one r
  obtain⟨a,xs,rfl,sq,q⟩:=Rep.tup h
  exact⟨a,xs,rfl,.inr sq,fun l hl=>Xb p rs q hl⟩
 ·obtain⟨v,rfl,h⟩:=RepL.one r
  split at p
  ·rename_i c zc
   obtain⟨a,xs,rfl,_,sq,q,_⟩:=rs.items h zc
   exact⟨a,xs,rfl,.inl sq,fun l hl=>Xb p rs q hl⟩
  ·exact p.elim
 ·exact p.elim
noncomputable def Kv(xs:List D)(S:Sto):Out D:=match xs with
 | [.tup l]=>.ok (.tup l) S
 | [.lst i]=>match S[i]? with
  | some c=>.ok (.tup c.xs) S
  | none=>.bad
 | _=>.bad
def Gnd{K:BE}:BlD K (fun xs H Q=>∃ p ys,xs=[.ref p]/\((SqL K H p ys/\∀ l,H l=none->Q (.ref l) (upd H l (.tup ys)))\/(SqT K H p ys/\Q (.ref p) H))) Kv:=by
 intro XQ Z U mp H S xs vs Q rs r p
 unfold Kv at p
 split at p
 ·obtain⟨v,rfl,h⟩:=RepL.one r
  obtain⟨a,xs,rfl,sq,q⟩:=Rep.tup h
  exact⟨a,xs,rfl,.inr ⟨sq,Gj.ok (R:=Rep K) p rs h⟩⟩
 ·obtain⟨v,rfl,h⟩:=RepL.one r
  split at p
  ·rename_i c zc
   obtain⟨a,xs,rfl,_,sq,q,_⟩:=rs.items h zc
   exact⟨a,xs,rfl,.inl ⟨sq,fun l hl=>Ym p rs q hl⟩⟩
  ·exact p.elim
 ·exact p.elim
def Grj{p pos:Pos}{e:Expr}{f:Ev (List D)}(hg:Gl X "list")(hm:X.mg "list"=none)(ha:JA X XQ [e] f)(he:starEach [e] X.env=(false,eval e X.env)::starEach [] X.env:=by rfl):JE X XQ (.Call (.Name "list" p) [e] [] pos) (b1 Qr f):=Gnc Gfq Gri hg hm (by rfl) ha (he:=he)
def Gne{p pos:Pos}{e:Expr}{f:Ev (List D)}(hg:Gl X "tuple")(hm:X.mg "tuple"=none)(ha:JA X XQ [e] f)(he:starEach [e] X.env=(false,eval e X.env)::starEach [] X.env:=by rfl):JE X XQ (.Call (.Name "tuple" p) [e] [] pos) (b1 Kv f):=Gnc Geh Gnd hg hm (by rfl) ha (he:=he)
noncomputable def Hd0(xs:List D)(S:Sto):Out D:=match xs with
 | [.int i,.int j]=>.ok (.int (if j<i then j else i)) S
 | _=>.bad
noncomputable def Yg(xs:List D)(S:Sto):Out D:=match xs with
 | [.int i]=>.ok (.int i) S
 | [.bl b]=>.ok (.int (if b then 1 else 0)) S
 | _=>.bad
def Gxi{K:BE}:BlD K (fun xs H Q=>(∃ i,xs=[.int i]/\Q (.int i) H)\/∃ k,xs=[.bl k]/\Q (.int (if k then 1 else 0)) H) Yg:=by
 intro XQ Z U mp H S xs vs Q rs r p
 unfold Yg at p
 split at p
 ·rename_i i
  obtain⟨v,rfl,h⟩:=RepL.one r
  cases (show v=.int i from h)
  exact .inl ⟨i,rfl,Gj.ok (R:=Rep K) p rs rfl⟩
 ·rename_i b
  obtain⟨v,rfl,h⟩:=RepL.one r
  cases (show v=.bl b from h)
  exact .inr ⟨b,rfl,Gj.ok (R:=Rep K) p rs rfl⟩
 ·exact p.elim
def Grk{p pos:Pos}{e:Expr}{f:Ev (List D)}(hg:Gl X "int")(hm:X.mg "int"=none)(ha:JA X XQ [e] f)(he:starEach [e] X.env=(false,eval e X.env)::starEach [] X.env:=by rfl):JE X XQ (.Call (.Name "int" p) [e] [] pos) (b1 Yg f):=Gnc Glg Gxi hg hm (by rfl) ha (he:=he)
noncomputable def Gg8(x y:D)(S:Sto):Out D:=match x,y with
 | .non,.non=>.ok (.bl true) S
 | .bl _,.non=>.ok (.bl false) S
 | .int _,.non=>.ok (.bl false) S
 | .str _,.non=>.ok (.bl false) S
 | .tup _,.non=>.ok (.bl false) S
 | .lst _,.non=>.ok (.bl false) S
 | .exn _ _,.non=>.ok (.bl false) S
 | _,_=>.bad
noncomputable def Ge9(x y:D)(S:Sto):Out D:=match x,y with
 | .non,.non=>.ok (.bl false) S
 | .bl _,.non=>.ok (.bl true) S
 | .int _,.non=>.ok (.bl true) S
 | .str _,.non=>.ok (.bl true) S
 | .tup _,.non=>.ok (.bl true) S
 | .lst _,.non=>.ok (.bl true) S
 | .exn _ _,.non=>.ok (.bl true) S
 | _,_=>.bad
def Gxj{K:BE}:OpD K (fun x y H Q=>y=.non/\Q (.bl (decide (x=.non))) H) Gg8:=by
 intro XQ Z U mp H S x y v u Q rs rx ry p
 cases y with
 | non=>
  refine⟨ry,?_⟩
  cases x with
  | non=>cases (show v=.non from rx); exact Gj.ok (R:=Rep K) p rs (by rfl)
  | bl b=>cases (show v=.bl b from rx); exact Gj.ok (R:=Rep K) p rs (by rfl)
  | int b=>cases (show v=.int b from rx); exact Gj.ok (R:=Rep K) p rs (by rfl)
  | str b=>cases (show v=.str b from rx); exact Gj.ok (R:=Rep K) p rs (by rfl)
  | tup l=>obtain⟨a,xs,rfl,_⟩:=Rep.tup rx; exact Gj.ok (R:=Rep K) p rs (by rfl)
  | lst i=>obtain⟨a,rfl,_⟩:=(show ∃ a,v=.ref a/\mp[i]?=some a/\¬ Dcy H a from rx); exact Gj.ok (R:=Rep K) p rs (by rfl)
  | exn c n=>obtain⟨a,dx,_,rfl,_⟩:=(show ∃ a dx p,v=.ref a/\(CN K c p/\XCl K p/\H a=some (XO a p dx))/\∀ i,n=some i->∃ d,dx=some d/\H d=some (XA d i) from rx); exact Gj.ok (R:=Rep K) p rs (by rfl)
  | fv c=>exact(show False from p).elim
  | dct c=>exact(show False from p).elim
 | _=>cases x<;>exact(show False from p).elim
def Grl{K:BE}:OpD K (fun x y H Q=>y=.non/\Q (.bl (!decide (x=.non))) H) Ge9:=by
 intro XQ Z U mp H S x y v u Q rs rx ry p
 cases y with
 | non=>
  refine⟨ry,?_⟩
  cases x with
  | non=>cases (show v=.non from rx); exact Gj.ok (R:=Rep K) p rs (by rfl)
  | bl b=>cases (show v=.bl b from rx); exact Gj.ok (R:=Rep K) p rs (by rfl)
  | int b=>cases (show v=.int b from rx); exact Gj.ok (R:=Rep K) p rs (by rfl)
  | str b=>cases (show v=.str b from rx); exact Gj.ok (R:=Rep K) p rs (by rfl)
  | tup l=>obtain⟨a,xs,rfl,_⟩:=Rep.tup rx; exact Gj.ok (R:=Rep K) p rs (by rfl)
  | lst i=>obtain⟨a,rfl,_⟩:=(show ∃ a,v=.ref a/\mp[i]?=some a/\¬ Dcy H a from rx); exact Gj.ok (R:=Rep K) p rs (by rfl)
  | exn c n=>obtain⟨a,dx,_,rfl,_⟩:=(show ∃ a dx p,v=.ref a/\(CN K c p/\XCl K p/\H a=some (XO a p dx))/\∀ i,n=some i->∃ d,dx=some d/\H d=some (XA d i) from rx); exact Gj.ok (R:=Rep K) p rs (by rfl)
  | fv c=>exact(show False from p).elim
  | dct c=>exact(show False from p).elim
 | _=>cases x<;>exact(show False from p).elim
section
variable{a b:Expr}{fa fb:Ev D}{pos:Pos}
def Gxk(ha:JE X XQ a fa)(hb:JE X XQ b fb):JT X XQ (.Compare a [.Is] [b] pos) (tb (o2 Gg8 fa fb)):=Gfu Gv1 Gxj ha hb (nomark _)
def Grm(ha:JE X XQ a fa)(hb:JE X XQ b fb):JE X XQ (.Compare a [.IsNot] [b] pos) (o2 Ge9 fa fb):=Gft Gqm Grl ha hb (nomark _)
end
def Qs(xs:List D)(lo hi:BJ Int):List D:=(xs.drop (HT.sIx xs.length 0 lo)).take (HT.sIx xs.length xs.length hi-HT.sIx xs.length 0 lo)
def RepL.cut{K:BE}{mp:List BI}{H:Hp}{l:List D}{vs:List V}(h:RepL K mp H l vs)(lo hi:BJ Int):RepL K mp H (Qs l lo hi) (Gg6 vs lo hi):=by
 unfold Qs Gg6
 rw[h.len]
 exact(h.drop _).take _
def slD(x:D)(lo hi:BJ Int)(S:Sto):Out D:=match x with
 | .tup l=>if HT.sIx l.length 0 lo=0/\HT.sIx l.length l.length hi=l.length then .bad else .ok (.tup (Qs l lo hi)) S
 | .lst i=>match S[i]? with
  | some c=>.ok (.lst S.length) (S++[⟨false,Qs c.xs lo hi⟩])
  | none=>.bad
 | _=>.bad
def sl(fe:Ev D)(fl fh:Ev (BJ Int)):Ev D:=fun U S=>(fe U S).bind fun x S1=>(fl U S1).bind fun l S2=>(fh U S2).bind fun u S3=>slD x l u S3
noncomputable def onone:Ev (BJ Int):=fun _ S=>.ok none S
def osome(f:Ev D):Ev (BJ Int):=fun U S=>(f U S).bind fun x S1=>match x with
 | .int i=>.ok (some i) S1
 | _=>.bad
def Grn:JO X XQ none onone:=PO.mono Gqs fun Z H Q ⟨mp,U,S,G,p⟩=>Gj.ok (R:=kO) (show Gj X.K kO XQ Z U mp H (.ok none S) Q from p) G.rs rfl
def Gro{e:Expr}{f:Ev D}(h:JE X XQ e f):JO X XQ (some e) (osome f):=PO.mono (Gqt h) fun Z H Q ⟨mp,U,S,G,p⟩=>bindP G p fun mp1 H1 x S1 v a1 G1 r1 p1=>by
 cases x with
 | int i=>exact⟨i,r1,Gj.ok (R:=kO) p1 G1.rs rfl⟩
 | _=>exact(show False from p1).elim
def MeD(K:BE)(r:V->List V->Hp->VK->Prop)(o:D->List D->Sto->Out D):Prop:=
 ∀ (XQ:XW) (Z:L2.St) (U:Lc) (mp:List BI) (H:Hp) (S:Sto) (x:D) (xs:List D) (v:V) (vs:List V) (Q:VK),RS K mp H S->Rep K mp H x v->RepL K mp H xs vs->Post K XQ Z U mp H (o x xs S) Q->r v vs H Q
noncomputable def isLst(x:D)(S:Sto):Bool:=match x with
 | .lst i=>match S[i]? with
  | some _=>true
  | none=>false
 | _=>false
def mt(o:D->List D->Sto->Out D)(fo:Ev D)(f:Ev (List D)):Ev D:=fun U S=>(fo U S).bind fun x S1=>if isLst x S1=true then(f U S1).bind fun xs S2=>o x xs S2 else .bad
def Gf0{id:String}{name:Str}{o e:Expr}{es:List Expr}{apos cpos:Pos}{r:V->List V->Hp->VK->Prop}{od:D->List D->Sto->Out D}{fo:Ev D}{f:Ev (List D)}(slot:Slot "list" name id)(hty:typeOf (.builtin id)=pure (.type "method_descriptor"))(hm:MtM X id r)(hd:MeD X.K r od)(ho:JE X XQ o fo)(ha:JA X XQ (e::es) f)
  (hbase:attributeBase o name X.env (eval o X.env)=eval o X.env:=by rfl)
  (hfew:((backTo cpos (starEach (e::es) X.env)).all (fun x=>!x.1)&&(backToKw cpos (keywordEach [] X.env)).all (fun x=>x.1.isSome)
   && decide ((e::es).length+([]:List Keyword).length+(if([]:List Keyword).isEmpty then 0 else 1)<30))=true:=by rfl)
  (hline:(apos.endLine==cpos.line)=true:=by rfl) (hs:starEach (e::es) X.env=(false,eval e X.env)::starEach es X.env:=by rfl) (hplain:(backTo cpos (starEach es X.env)).any (·.1)=false:=by rfl):
  JE X XQ (.Call (.Attribute o name apos) (e::es) [] cpos) (mt od fo f):=by
 refine PE.mono (Hat PySem.F.plainAttrs_list slot hty hm ho ha hbase hfew hline hs hplain) fun Z H Q ⟨mp,U,S,G,p⟩=>?_
 refine bindP G p fun mp1 H1 x S1 v a1 G1 r1 p1=>?_
 by_cases hl:isLst x S1=true
 ·rw[if_pos hl] at p1
  have ty:tyV X.K "list" v H1:=by
   cases x with
   | lst i=>
    cases zc:S1[i]? with
    | none=>simp[isLst,zc] at hl
    | some c=>
     obtain⟨a,xs,rfl,_,sq,_⟩:=G1.rs.items r1 zc
     exact .inl ⟨rfl,xs,sq⟩
   | _=>simp[isLst] at hl
  exact⟨ty,bindP G1 p1 fun mp2 H2 xs S2 vs a2 G2 r2 p2=>hd XQ Z U mp2 H2 S2 x xs v vs Q G2.rs (Rep.aft a2 _ _ r1) r2 p2⟩
 ·rw[if_neg hl] at p1; exact p1.elim
noncomputable def Gf1(x:D)(xs:List D)(S:Sto):Out D:=match x,xs with
 | .lst i,[d]=>match S[i]? with
  | some c=>if c.fz=false/\c.xs.length<1000000 then .ok .non (S.set i ⟨false,c.xs++[d]⟩) else .bad
  | none=>.bad
 | _,_=>.bad
def Gxl{K:BE}:MeD K Gjl Gf1:=by
 intro XQ Z U mp H S x xs v vs Q rs rx r p
 unfold Gf1 at p
 split at p
 ·rename_i i d
  split at p
  ·rename_i c zc
   by_cases hc:c.fz=false/\c.xs.length<1000000
   ·rw[if_pos hc] at p
    obtain⟨w,rfl,hw⟩:=RepL.one r
    obtain⟨a,ys,rfl,ha,sq,q,f⟩:=rs.items rx zc
    have hH:=f hc.1
    obtain⟨af,rs'⟩:=rs.setL ha zc hc.1 hH (RepL.append q (RepL.cons hw RepL.nil))
    exact⟨a,ys,w,rfl,rfl,hH,by rw[q.len]; exact Aj hc.2 (by decide),p mp _ _ af rs' rfl⟩
   ·rw[if_neg hc] at p; exact p.elim
  ·exact p.elim
 ·exact p.elim
def Gln{o e:Expr}{apos cpos:Pos}{fo:Ev D}{f:Ev (List D)}(ho:JE X XQ o fo)(ha:JA X XQ [e] f)(hbase:attributeBase o "append" X.env (eval o X.env)=eval o X.env:=by rfl)
  (hfew:((backTo cpos (starEach [e] X.env)).all (fun x=>!x.1)&&(backToKw cpos (keywordEach [] X.env)).all (fun x=>x.1.isSome)
   && decide ([e].length+([]:List Keyword).length+(if([]:List Keyword).isEmpty then 0 else 1)<30))=true:=by rfl)
  (hline:(apos.endLine==cpos.line)=true:=by rfl) (hs:starEach [e] X.env=(false,eval e X.env)::starEach [] X.env:=by rfl):
  JE X XQ (.Call (.Attribute o "append" apos) [e] [] cpos) (mt Gf1 fo f):=Gf0 PySem.F.slot_list_append PySem.F.type_list_append Ge6 Gxl ho ha hbase hfew hline hs rfl
end
section
variable{X:Cx}{XQ:XW}
def Gxm{K:BE}:UnD K (rU fun i=>.int (-i)) Gbm:=by
 intro XQ Z U mp H S x v Q rs rx p
 cases x with
 | int i=>exact⟨i,rx,Gj.ok (R:=Rep K) (show Post K XQ Z U mp H (.ok (.int (-i)) S) Q from p) rs rfl⟩
 | _=>exact(show False from p).elim
def Gxn{a:Expr}{fa:Ev D}{pos:Pos}(ha:JE X XQ a fa):JE X XQ (.UnaryOp .USub a pos) (o1 Gbm fa):=Ha1 Gv0 Gxm ha
def ch(o o':D->D->Sto->Out D)(fa fb fc:Ev D):Ev D:=fun U S=>(fa U S).bind fun x S1=>(fb U S1).bind fun y S2=>(o x y S2).bind fun z S3=>match z with
 | .bl k=>if k=true then(fc U S3).bind fun w S4=>o' y w S4 else .ok (.bl false) S3
 | _=>.bad
def Gxo{K:BE}{r r':R2}{o o':D->D->Sto->Out D}{fa fb fc:Ev D}(hd:OpD K r o)(hd':OpD K r' o')(Z:L2.St)(H:Hp)(Q:VK)(h:rdE K XQ (ch o o' fa fb fc) Z H Q):Gml r r' (rdE K XQ fa) (rdE K XQ fb) (rdE K XQ fc) Z H Q:=by
 obtain⟨mp,U,S,G,p⟩:=h
 refine bindP G p fun mp1 H1 x S1 v a1 G1 r1 p1=>?_
 refine bindP G1 p1 fun mp2 H2 y S2 u a2 G2 r2 p2=>?_
 refine hd XQ Z U mp2 H2 S2 x y v u _ G2.rs (Rep.aft a2 _ _ r1) r2 ?_
 cases z:o x y S2 with
 | bad=>rw[z] at p2; exact p2
 | exc e S3=>rw[z] at p2; exact p2
 | ok d S3=>
  rw[z] at p2
  intro mp3 H3 zv a3 rs3 r3
  have p3:=Gj.aft p2 a3
  have G3:=G2.aft a3 rs3
  cases d with
  | bl k=>
   refine⟨k,r3,?_⟩
   cases k with
   | true=>exact(if_pos rfl).mpr (bindP (f:=fc) G3 (by simpa[Out.bind] using p3) fun mp4 H4 w S4 wv a4 G4 r4 p4=>hd' XQ Z U mp4 H4 S4 y w u wv Q G4.rs (Rep.aft (a3.trans a4) _ _ r2) r4 p4)
   | false=>exact(if_neg Ao).mpr (Gj.ok (R:=Rep K) (d:=.bl false) (S:=S3) (by simpa[Out.bind] using p3) G3.rs rfl)
  | _=>exact(show False from p3).elim
def Gnf{a b c:Expr}{op op':CmpOp}{r r':R2}{o o':D->D->Sto->Out D}{fa fb fc:Ev D}{pos:Pos}(ho:OpR X (compareOp op) r)(hd:OpD X.K r o)(ho':OpR X (compareOp op') r')(hd':OpD X.K r' o')(ha:JE X XQ a fa)(hb:JE X XQ b fb)(hc:JE X XQ c fc)
  (hm:lastMarks [op,op'] [b,c]=false:=by with_unfolding_all rfl):JT X XQ (.Compare a [op,op'] [b,c] pos) (tb (ch o o' fa fb fc)):=PT.mono (Gmm ho ho' ha hb hc hm) fun Z H Q h=>Gxo hd hd' Z H _ (Gmz h)
def Gui{K:BE}:OpD K (rI0 fun i j=>.bl (decide (i<j))) ltD:=od_int0 fun _ _ _ _=>rfl
def Guj{K:BE}:OpD K (rI0 fun i j=>.bl (decide (i<=j))) leD:=od_int0 fun _ _ _ _=>rfl
end
def XAt(a c:BI)(h:Heap):Prop:=∃ oe,h.get? a=some oe/\oe.cls=.ref c/\∃ vs,oe.data=.fields vs
section
variable{prog:BK}{w:World}{A:Around}{E:BG->BH->Prop}{h:Heap}{g:Array GenState}{d:Drawn}{t:Nat}{os:OsState}{a c:BI}{o:Obj}{K:BE}
def Gxp{M:Model}(x:XAt a c h):PySem.W.Looks M h (typeOf (.ref a)) (.ref c):=by
 obtain⟨oe,h1,h2,_⟩:=x
 exact h2▸(PySem.W.Looks.ld h1).andThen .now
def Gxq{tp:BG}{R:Result->BH->Prop}(X:K.In h)(k:XCl K c)(x:XAt a c h)(hq:R (.ok (.ret (.ref c))) ⟨h,g,d,t,os⟩):
  codeAny (model prog w) A (.call (.builtin "getset_descriptor.__get__") ⟨[.builtin "object.__class__",.ref a,tp],[]⟩) R ⟨h,g,d,t,os⟩:=by
 obtain⟨oe,hx,hc,_⟩:=x
 have hT5:(⟨h,g,d,t,os⟩:BH).TypeIs (.builtin "object.__class__") "getset_descriptor":=F.typeOf_object_class
 refine codeAny_call_builtin F.slot_gs_get.plain F.entry_gs_get (F.slot_gs_get.check _ _ _ _ _ _ _ _ hT5 (F.args_gs_get _ _ _) ?_)
 have L1:=fun(M:Model)=>PySem.W.looks_mroIn (M:=M) X k.ob
 have ow:=F.owner_object_class
 repeat (any_goals (first | assumption | (with_reducible refine wpAny_loadPart_at hx ?_; rw[hc]) | (rw[ow]; with_reducible refine(L1 _).here ?_) | wp_step))
 refine⟨Code.quiet_builtin _ (by decide +kernel),codeAny_builtin F.entry_object_class ?_⟩
 repeat (any_goals (first | assumption | (with_reducible refine wpAny_loadPart_at hx ?_; rw[hc]) | wp_step))
def Gng{M:Model}{nameV:BG}{Q:Unit->BH->Prop}(X:K.In h)(k:XCl K c)(x:XAt a c h)(hq:Q () ⟨h,g,d,t,os⟩):wpAny M A (checkBuiltinCall "BaseException.__getattribute__" ⟨[.ref a,nameV],[]⟩) Q E ⟨h,g,d,t,os⟩:=by
 obtain⟨oe,hx,hc,_⟩:=x
 have bk:builtinKind "BaseException.__getattribute__"=some .slot:=by decide +kernel
 have bs:splitId "BaseException.__getattribute__"=some ("BaseException","__getattribute__"):=by decide +kernel
 have ha:=F.args_bexc_ga (.ref a) nameV
 have L1:PySem.W.Looks M h (isSubtype (.ref c) (.type "BaseException")) true:=PySem.W.looks_subIn X k.be
 simp only[checkBuiltinCall,bk,bs]
 refine wpAny_bind ?_
 ·unfold isInstance
  repeat (first | (with_reducible refine wpAny_loadPart_at hx ?_; rw[hc]) | (with_reducible refine L1.here ?_) | wp_step)
  exact hq
def Gnh{tk:Tok}{Q:Fin->BH->Prop}(X:K.In h)(k:XCl K c)(x:XAt a c h)(hq:Q (.done (.ret (.ref c))) ⟨h,g,d,t,os⟩):
  wpAny (model prog w) A (Builtin.«object.__getattribute__» ⟨[.ref a,.str "__class__" tk],[]⟩) Q E ⟨h,g,d,t,os⟩:=by
 obtain⟨oe,hx,hc,hv⟩:=id x
 have hT5:(⟨h,g,d,t,os⟩:BH).TypeIs (.builtin "object.__class__") "getset_descriptor":=F.typeOf_object_class
 have f5:=F.typeOf_object_class
 have f6:=F.slot_gs_get.lookup
 have f7:=F.slot_gs_set.lookup
 have L1:=fun(M:Model)=>PySem.W.looks_findIn (M:=M) X k.cl
 repeat (any_goals (first | assumption | (with_reducible refine wpAny_loadPart_at hx ?_; rw[hc]) | with_reducible refine(L1 _).here ?_ | wp_step))
 refine Gxq X k x ?_
 repeat (any_goals (first | assumption | wp_step))
def Hbe{tk:Tok}{fill expr:Bool}{Q:BG->BH->Prop}(X:K.In h)(k:XCl K c)(x:XAt a c h)(hq:Q (.ref c) ⟨h,g,d,t,os⟩):
  wpAny (model prog w) A (getAttrBy (.ref a) (.str "__class__" tk) fill expr) Q E ⟨h,g,d,t,os⟩:=by
 obtain⟨oe,hx,hc,hv⟩:=id x
 have f3:=PySem.F.excAttr_ValueError.ga.bind (.ref a)
 have n0:(expr&&onTheHeap (Value.builtin "BaseException.__getattribute__"))=false:=by cases expr<;>rfl
 have n2:(Value.builtin "BaseException.__getattribute__"==Value.builtin "object.__getattribute__")=false:=by decide +kernel
 have n1:(onTheHeap (Value.ref c)&&Value.builtin "BaseException.__getattribute__"==Value.builtin "object.__getattribute__")=false:=by rw[n2]; rfl
 have L1:=fun(M:Model)=>PySem.W.looks_findIn (M:=M) X k.ga
 have L2:=fun(M:Model)=>PySem.W.looks_findIn (M:=M) X k.gt
 repeat (any_goals (first | assumption | (with_reducible refine wpAny_loadPart_at hx ?_; rw[hc]) | with_reducible refine(L1 _).here ?_ | with_reducible refine(L2 _).here ?_ | wp_step))
 refine codeAny_call_builtin PySem.F.excAttr_ValueError.ga.plain F.entry_bexc_ga (Gng X k x (Gnh X k x ?_))
 repeat (any_goals (first | assumption | wp_step))
def Grp{Q:BJ BG->BH->Prop}(X:K.In h)(k:XCl K c)(x:XAt a c h)(hq:Q (some (.ref c)) ⟨h,g,d,t+1,os⟩):wpAny (model prog w) A (getAttr? (.ref a) "__class__") Q E ⟨h,g,d,t,os⟩:=by
 unfold getAttr? getAttrBy?
 repeat (any_goals (first | assumption | with_reducible apply Hbe X k x | wp_step))
end
def Gg9{K:BE}{a c:BI}(k:XCl K c):PySem.W.KitX K (.ref a) (.ref c) (XAt a c) where
 ty:=fun _ _ _ x=>Gxp x
 it:=fun _ _ X _=>by
  obtain⟨cd,hc⟩:=Bz.mp k.cd
  unfold PySem.W.clsIn at hc
  split at hc
  ·rename_i c' d' cd' sl' ho
   intro A Q E s kp q
   unfold isType loadHead
   exact wpAny_bind (wpAny_loadPart (kp _ _ (X _ _ ho)) (wpAny_pure q))
  ·cases hc
 ne:=fun h tp dd its n sl X htp=>by
  obtain⟨cd,hc⟩:=Bz.mp k.cd
  refine AW.mpr fun q=>?_
  have e:c=tp:=Value.ref.inj (beq_iff_eq.mp q)
  subst e
  unfold PySem.W.clsIn at hc
  split at hc
  ·rename_i c' d' cd' sl' ho
   cases (X _ _ ho).symm.trans htp
  ·cases hc
 ca:=fun{prog w A E Q s} X x q=>by
  obtain⟨hh,g,d,t,os⟩:=s
  exact Grp X k x q
noncomputable def tyN:D->String
 | .non=>"NoneType"
 | .bl _=>"bool"
 | .int _=>"int"
 | .str _=>"str"
 | .tup _=>"tuple"
 | .lst _=>"list"
 | .exn _ _=>"exn"
 | .fv _=>"fv"
 | .dct _=>"dct"
noncomputable def isT(T t:String):Bool:=t==T||(T=="int"&&t=="bool")
def isD(T:String)(x:D)(S:Sto):Out D:=match x with
 | .fv _=>.bad
 | .dct _=>.bad
 | _=>.ok (.bl (isT T (tyN x))) S
def Kit(K:BE)(T:String):Prop:=T∈["bool","int","str","tuple","list"]/\∀ t∈["NoneType","bool","int","str","tuple","list"],PySem.W.kitOne K (.type t) (.type T)=some (isT T t)
def Grq{K:BE}:Kit K "int":=by refine⟨by decide,?_⟩; intro t h; simp only[Af,AR,or_false] at h; rcases h with rfl | rfl | rfl | rfl | rfl | rfl<;>first | rfl | decide +kernel | (with_unfolding_all rfl)
def Gni{K:BE}:Kit K "bool":=by refine⟨by decide,?_⟩; intro t h; simp only[Af,AR,or_false] at h; rcases h with rfl | rfl | rfl | rfl | rfl | rfl<;>first | rfl | decide +kernel | (with_unfolding_all rfl)
def Glo{K:BE}:Kit K "tuple":=by refine⟨by decide,?_⟩; intro t h; simp only[Af,AR,or_false] at h; rcases h with rfl | rfl | rfl | rfl | rfl | rfl<;>first | rfl | decide +kernel | (with_unfolding_all rfl)
def Gf2{K:BE}:Kit K "str":=by refine⟨by decide,?_⟩; intro t h; simp only[Af,AR,or_false] at h; rcases h with rfl | rfl | rfl | rfl | rfl | rfl<;>first | rfl | decide +kernel | (with_unfolding_all rfl)
def Gnj{K:BE}:Kit K "list":=by refine⟨by decide,?_⟩; intro t h; simp only[Af,AR,or_false] at h; rcases h with rfl | rfl | rfl | rfl | rfl | rfl<;>first | rfl | decide +kernel | (with_unfolding_all rfl)
section
variable{X:Cx}{XQ:XW}
def Hd1(K:BE)(T:String):List V->Hp->VK->Prop:=fun vs H Q=>∃ x t,vs=[x,.ty T]/\(match x with
 | .non=>t="NoneType" | .bl _=>t="bool" | .int _=>t="int" | .str _=>t="str"
 | .ref a=>(t="tuple"/\∃ xs,SqT K H a xs)\/(t="list"/\∃ xs,SqL K H a xs)\/(t="exn"/\∃ c dx,XCl K c/\H a=some (XO a c dx))
 | _=>False)/\Q (.bl (isT T t)) H
def Guk{pins:List (BI×Obj)}{Z:L2.St}{H:Hp}{s:BH}{a c:BI}{dx:BJ BI}(I:Inv X pins Z H s)(h:H a=some (XO a c dx)):XAt a c s.heap:=by
 obtain⟨⟨oe,h1,h2,_,h3⟩,_,_⟩:=(show Kh X.prog X.w H s.heap a (XO a c dx) from I.hok a _ h)
 exact⟨oe,h1,h2,h3⟩
def Grr{T:String}(h:T∈["bool","int","str","tuple","list"]):isT T "exn"=false:=by
 simp only[Af,AR,or_false] at h
 rcases h with rfl | rfl | rfl | rfl | rfl<;>rfl
def Gnk{T:String}(k:Kit X.K T):Yk X (.builtin "isinstance") (Hd1 X.K T):=by
 intro pins s Z H xs us Q I r ⟨x,t,e,h,q⟩
 subst e
 obtain⟨u,w,rfl,ru,rw'⟩:=Vals.two r
 cases (show w=Value.type T from rw')
 have fin:∀ tk,EP X pins Z Q (.bool (isT T t)) { s with toks:=tk }:=fun tk=>⟨.bl _,H,I.tok tk,rfl,q⟩
 cases x with
 | non=>cases (show u=Value.none from ru); cases (show t="NoneType" from h); exact PySem.W.kia_one PySem.W.kitx_none I.kIn True.intro (k.2 _ (by decide)) (fun z=>nomatch z) fin
 | bl y=>cases (show u=Value.bool y from ru); cases (show t="bool" from h); exact PySem.W.kia_one PySem.W.kitx_bool I.kIn True.intro (k.2 _ (by decide)) (fun z=>nomatch z) fin
 | int i=>obtain⟨tk,e⟩:=(show ∃ t,u=Value.int i t from ru); cases e; cases (show t="int" from h); exact PySem.W.kia_one PySem.W.kitx_int I.kIn True.intro (k.2 _ (by decide)) (fun z=>nomatch z) fin
 | str y=>obtain⟨tk,e⟩:=(show ∃ t,u=Value.str y t from ru); cases e; cases (show t="str" from h); exact PySem.W.kia_one PySem.W.kitx_str I.kIn True.intro (k.2 _ (by decide)) (fun z=>nomatch z) fin
 | ref a=>
  cases (show u=Value.ref a from ru)
  rcases h with⟨rfl,xs,sq⟩ | ⟨rfl,xs,sq⟩ | ⟨rfl,c,dx,xc,hH⟩
  ·obtain⟨its,_,⟨o,h1,h2,_⟩,_⟩:=I.tuple sq
   exact PySem.W.kia_one PySem.W.kitx_tuple I.kIn ⟨o,h1,h2⟩ (k.2 _ (by decide)) (fun z=>nomatch z) fin
  ·obtain⟨its,_,⟨o,n,h1,h2,_⟩,_⟩:=I.list sq
   exact PySem.W.kia_one PySem.W.kitx_list I.kIn ⟨o,h1,h2⟩ (k.2 _ (by decide)) (fun z=>nomatch z) fin
  ·have xa:=Guk I hH
   have e:isT T "exn"=false:=Grr k.1
   rw[e] at fin
   exact PySem.W.kia_one (Gg9 xc) I.kIn xa (xc.bt T k.1) (fun z=>nomatch z) fin
 | _=>exact h.elim
def Gxr{T:String}{x:Str}{e:Expr}{f:Ev D}{p p2 pos:Pos}(k:Kit X.K T)(hv:bootBuiltins x=some (.type T))(hnx:x≠"__name__")(hdx:(x==("__debug__":Str))=false)(hg:Gl X "isinstance")(hm:X.mg "isinstance"=none)(hgt:Gl X x)(hmt:X.mg x=none)(he:JE X XQ e f)
  (hs:starEach [e,.Name x p2] X.env=(false,eval e X.env)::starEach [.Name x p2] X.env) (hpl:(backTo pos (starEach [.Name x p2] X.env)).any (·.1)=false) (hs2:starEach [.Name x p2] X.env=(false,eval (.Name x p2) X.env)::starEach [] X.env):
  JE X XQ (.Call (.Name "isinstance" p) [e,.Name x p2] [] pos) (o1 (isD T) f):=by
 refine PE.mono (Gal (Gnk k) hg hm (by rfl) (Vg he (Vg (Gjf hgt hmt hv (v:=.ty T) rfl hnx hdx) pa_nil hs2) hs) (by decide) (by decide) hs hpl) fun Z H Q ⟨mp,U,S,G,q⟩=>?_
 refine bindP G q fun mp1 H1 d S1 v a1 G1 r1 p1=>?_
 have p2:((∃ c,d=.fv c)\/∃ c,d=.dct c)\/Post X.K XQ Z U mp1 H1 (.ok (.bl (isT T (tyN d))) S1) Q:=by cases d<;>first | exact .inr p1 | exact .inl (.inl ⟨_,rfl⟩) | exact .inl (.inr ⟨_,rfl⟩)
 rcases p2 with(⟨c,rfl⟩ | ⟨c,rfl⟩) | p2
 ·exact(show False from p1).elim
 ·exact(show False from p1).elim
 refine⟨v,tyN d,rfl,?_,Gj.ok (R:=Rep X.K) p2 G1.rs rfl⟩
 cases d with
 | non=>cases (show v=.non from r1); exact rfl
 | bl b=>cases (show v=.bl b from r1); exact rfl
 | int b=>cases (show v=.int b from r1); exact rfl
 | str b=>cases (show v=.str b from r1); exact rfl
 | tup l=>obtain⟨a,xs,rfl,sq,_⟩:=Rep.tup r1; exact .inl ⟨rfl,xs,sq⟩
 | lst i=>
  obtain⟨a,rfl,ha,_⟩:=(show ∃ a,v=.ref a/\mp1[i]?=some a/\¬ Dcy H1 a from r1)
  have hl:i<S1.length:=by rw[<- G1.rs.len]; exact(Aa.mp ha).1
  obtain⟨a2,xs,e2,_,sq,_⟩:=G1.rs.items r1 (Ad hl)
  cases e2
  exact .inr (.inl ⟨rfl,xs,sq⟩)
 | exn c n=>
  obtain⟨a,dx,q,rfl,⟨_,xc,hH⟩,_⟩:=(show ∃ a dx p,v=.ref a/\(CN X.K c p/\XCl X.K p/\H1 a=some (XO a p dx))/\∀ i,n=some i->∃ d,dx=some d/\H1 d=some (XA d i) from r1)
  exact .inr (.inr ⟨rfl,q,dx,xc,hH⟩)
 | fv c=>exact(show False from p1).elim
 | dct c=>exact(show False from p1).elim
end
section
variable{X:Cx}{XQ:XW}
def spar(i j:Nat)(f:Ev (List D)):Sv:=fun U S=>bindS (f U S) U fun ds S1=>match ds with
 | [d,e]=>.nx ((U.set i (some d)).set j (some e)) S1
 | _=>.bad
def Gxs(i j:Nat){x y:Str}{a b:Expr}{f:Ev (List D)}{px py pt pos:Pos}{kt k2 pt2}(hc:X.calm=true)(hN:X.N.Nodup)(hi:X.N[i]?=some x)(hj:X.N[j]?=some y)(hij:i≠j)
  (hx:X.env.scope.names.lookup x=some .local) (hy:X.env.scope.names.lookup y=some .local) (ha:JA X XQ [a,b] f)
  (hw:swappedStores [.Tuple [.Name x px,.Name y py] kt pt] (.Tuple [a,b] k2 pt2) X.env=pure (some [x,y]))
  (hs:swapsWithSole [.Tuple [.Name x px,.Name y py] kt pt] (.Tuple [a,b] k2 pt2) pos.line X.env=pure false:=by rfl):
  JS X XQ (.Assign [.Tuple [.Name x px,.Name y py] kt pt] (.Tuple [a,b] k2 pt2) pos) (spar i j f):=by
 refine PS.mono (Gvp hc hN hi hj hij hx hy ha hw hs) fun E Z H ⟨mp,U,S,G,p⟩=>?_
 refine bindSP G p fun mp1 H1 ds S1 vs a1 G1 r1 p1=>?_
 split at p1
 ·obtain⟨v,w,rfl,h1,h2⟩:=RepL.two r1
  exact⟨v,w,rfl,PostS.nx p1 ((G1.set i h1).set j h2)⟩
 ·exact p1.elim
end
section
variable{X:Cx}{XQ:XW}
def Gul(X:Cx)(id:String)(o:List D->Sto->Out D):Prop:=
 ∀ (pins:List (BI×Obj)) (s:BH) (Z:L2.St) (U:Lc) (XQ:XW) (mp:List BI) (H:Hp) (S:Sto) (ds:List D) (vs:List V) (us:List BG) (Q:VK),Inv X pins Z H s->RS X.K mp H S->RepL X.K mp H ds vs->Vals vs us->Post X.K XQ Z U mp H (o ds S) Q→
  (∀ (e:XD) (S':Sto),o ds S≠.exc e S')->wpAny (model X.prog X.w) X.A (call (.builtin id) us) (EP X pins Z Q) X.xe s
def Grs{id:String}{x:Str}{p pos:Pos}{e:Expr}{es:List Expr}{o:List D->Sto->Out D}{f:Ev (List D)}(hc:Gul X id o)(hno:∀ ds S e S',o ds S≠.exc e S')(hg:Gl X x)(hm:X.mg x=none)(hv:bootBuiltins x=some (.builtin id))(ha:JA X XQ (e::es) f)(hn:x≠"__name__":=by decide)(hdb:(x==("__debug__":Str))=false:=by decide)
  (he:starEach (e::es) X.env=(false,eval e X.env)::starEach es X.env:=by rfl) (hpl:(backTo pos (starEach es X.env)).any (·.1)=false:=by rfl):JE X XQ (.Call (.Name x p) (e::es) [] pos) (b1 o f):=by
 intro pins s Z H Q I ⟨mp,U,S,G,q⟩
 refine wpAny_Call_Name_kw (Yj I hg hm hv ?_ hn hdb)
 refine PyProof.Rows.callWith_builtin1 (thn (ha pos pins s Z H _ I (bindP G q fun mp1 H1 ds S1 vs a1 G1 r1 p1=>(⟨mp1,U,S1,ds,G1,r1,p1⟩:∃ mp1 U S1 ds,Gd X.K mp1 H1 Z U S1/\RepL X.K mp1 H1 ds vs/\Post X.K XQ Z U mp1 H1 (o ds S1) Q))) fun us s1 ⟨vs,H1,I1,rv,mp1,U1,S1,ds,G1,r1,p1⟩=>?_) he hpl
 exact hc pins s1 Z U1 XQ mp1 H1 S1 ds vs us Q I1 G1.rs r1 rv p1 (hno _ _)
def Qt(xs:List D)(S:Sto):Out D:=match xs with
 | [.non]=>.ok (.str "None") S
 | [.bl b]=>.ok (.str (if b then "True" else "False")) S
 | [.int i]=>if i.natAbs.log2<1920 then .ok (.str (toString i)) S else .bad
 | [.str x]=>if(reprText x).length<=1000000 then .ok (.str (reprText x)) S else .bad
 | [d]=>match toP S 40 d with
  | some p=>if(p.showable&&!p.hasDict&&decide (p.depth<=60))=true/\p.shown.length<=1000000 then .ok (.str p.shown) S else .bad
  | none=>.bad
 | _=>.bad
def Grt(ds:List D)(S:Sto)(e:XD)(S':Sto):Qt ds S≠.exc e S':=by
 unfold Qt
 split<;>(try split)<;>(try split)<;>exact fun z=>nomatch z
def Gru{k:Nat}(hr:Room k X.A):Gul X "repr" Qt:=by
 intro pins s Z U XQ mp H S ds vs us Q I rs r rv p hno
 clear hno
 have big:∀ (d:D) (v:V) (a:BI) (u:BG),Rep X.K mp H d v->v=.ref a->Hc v u->Post X.K XQ Z U mp H (match toP S 40 d with
   | some p=>if(p.showable&&!p.hasDict&&decide (p.depth<=60))=true/\p.shown.length<=1000000 then .ok (.str p.shown) S else .bad
   | none=>.bad) Q->wpAny (model X.prog X.w) X.A (call (.builtin "repr") [u]) (EP X pins Z Q) X.xe s:=by
  intro d v a u rd ev ru p
  subst ev
  cases z:toP S 40 d with
  | none=>rw[z] at p; exact p.elim
  | some q=>
   rw[z] at p
   by_cases h:(q.showable&&!q.hasDict&&decide (q.depth<=60))=true/\q.shown.length<=1000000
   ·have p:Post X.K XQ Z U mp H (.ok (.str q.shown) S) Q:=by simpa only[if_pos h] using p
    obtain⟨as,ra⟩:=Gdg I rs 40 d _ u q rd ru z
    cases (show u=Value.ref a from ru)
    have h1:=h.1
    rw[At,At] at h1
    have hd:q.depth<=60:=of_decide_eq_true h1.2
    have hu:=hr.units
    refine repr_of_reads' ra h1.1.1 (fun z=>by rw[z] at h1; simp at h1) hr.gd (by omega) (fun _ _ e=>e) (fun h' u' tk hk=>?_) (line_le h.2)
    exact⟨.str q.shown,H,I.kept (h':=h') (t':=tk) hk,⟨_,rfl⟩,Gj.ok p rs rfl⟩
   ·simp only[if_neg h] at p; exact p.elim
 unfold Qt at p
 split at p
 ·obtain⟨v,rfl,h⟩:=RepL.one r
  obtain⟨u,rfl,ru⟩:=Vals.one rv
  cases (show v=.non from h); cases (show u=Value.none from ru)
  exact PySem.P.repr_of_none ⟨.str "None",H,I.tok _,⟨_,rfl⟩,Gj.ok (R:=Rep X.K) p rs rfl⟩
 ·rename_i b
  obtain⟨v,rfl,h⟩:=RepL.one r
  obtain⟨u,rfl,ru⟩:=Vals.one rv
  cases (show v=.bl b from h); cases (show u=Value.bool b from ru)
  exact PySem.P.repr_of_bool ⟨.str _,H,I.tok _,⟨_,rfl⟩,Gj.ok (R:=Rep X.K) p rs (by cases b<;>rfl)⟩
 ·rename_i i
  obtain⟨v,rfl,h⟩:=RepL.one r
  obtain⟨u,rfl,ru⟩:=Vals.one rv
  cases (show v=.int i from h); obtain⟨t,rfl⟩:=(show ∃ t,u=Value.int i t from ru)
  by_cases hi:i.natAbs.log2<1920
  ·rw[if_pos hi] at p
   exact PySem.P.repr_of_int hi ⟨.str _,H,I.tok _,⟨_,rfl⟩,Gj.ok (R:=Rep X.K) p rs rfl⟩
  ·rw[if_neg hi] at p; exact p.elim
 ·rename_i x
  obtain⟨v,rfl,h⟩:=RepL.one r
  obtain⟨u,rfl,ru⟩:=Vals.one rv
  cases (show v=.str x from h); obtain⟨t,rfl⟩:=(show ∃ t,u=Value.str x t from ru)
  by_cases hi:(reprText x).length<=1000000
  ·rw[if_pos hi] at p
   exact PySem.P.repr_of_str ⟨.str _,H,I.tok _,⟨_,rfl⟩,Gj.ok (R:=Rep X.K) p rs rfl⟩ (line_le hi)
  ·rw[if_neg hi] at p; exact p.elim
 ·rename_i d n1 n2 n3 n4
  obtain⟨v,rfl,h⟩:=RepL.one r
  obtain⟨u,rfl,ru⟩:=Vals.one rv
  cases d with
  | non=>exact absurd rfl n1
  | bl b=>exact absurd rfl (n2 b)
  | int i=>exact absurd rfl (n3 i)
  | str x=>exact absurd rfl (n4 x)
  | tup l=>obtain⟨a,xs,ev,_⟩:=Rep.tup h; exact big _ v a u h ev ru p
  | lst i=>obtain⟨a,ev,_⟩:=(show ∃ a,v=.ref a/\mp[i]?=some a/\¬ Dcy H a from h); exact big _ v a u h ev ru p
  | exn c n=>obtain⟨a,dx,_,ev,_⟩:=(show ∃ a dx p,v=.ref a/\(CN X.K c p/\XCl X.K p/\H a=some (XO a p dx))/\∀ i,n=some i->∃ d,dx=some d/\H d=some (XA d i) from h); exact big _ v a u h ev ru p
  | fv c=>obtain⟨a,ev,_⟩:=(show ∃ a,v=.ref a/\CN X.K c a from h); exact big _ v a u h ev ru p
  | dct c=>obtain⟨a,ev,_⟩:=(show ∃ a,v=.ref a/\mp[c]?=some a/\Dcy H a from h); exact big _ v a u h ev ru p
 ·exact p.elim
def Grv{k:Nat}{p pos:Pos}{e:Expr}{f:Ev (List D)}(hr:Room k X.A)(hg:Gl X "repr")(hm:X.mg "repr"=none)(ha:JA X XQ [e] f)(he:starEach [e] X.env=(false,eval e X.env)::starEach [] X.env:=by rfl):JE X XQ (.Call (.Name "repr" p) [e] [] pos) (b1 Qt f):=Grs (Gru hr) Grt hg hm (by rfl) ha (he:=he)
end
end DL
namespace DL
open PySem
variable{es:List Expr}{env:PySem.Env}
def Gf{c j p}:starEach (.Constant c j p::es) env=(false,eval (.Constant c j p) env)::starEach es env:=rfl
def Ge{x p}:starEach (.Name x p::es) env=(false,eval (.Name x p) env)::starEach es env:=rfl
def Vs{a b p}:starEach (.Tuple a b p::es) env=(false,eval (.Tuple a b p) env)::starEach es env:=rfl
def Gjo{a p}:starEach (.List a p::es) env=(false,eval (.List a p) env)::starEach es env:=rfl
def Hr{f a k p}:starEach (.Call f a k p::es) env=(false,eval (.Call f a k p) env)::starEach es env:=rfl
def Gv{a b p}:starEach (.Subscript a b p::es) env=(false,eval (.Subscript a b p) env)::starEach es env:=rfl
def Xc{a o b p}:starEach (.BinOp a o b p::es) env=(false,eval (.BinOp a o b p) env)::starEach es env:=rfl
def Giq{o a p}:starEach (.UnaryOp o a p::es) env=(false,eval (.UnaryOp o a p) env)::starEach es env:=rfl
def Gir{a o b p}:starEach (.Compare a o b p::es) env=(false,eval (.Compare a o b p) env)::starEach es env:=rfl
def Gnl{a b c p}:starEach (.IfExp a b c p::es) env=(false,eval (.IfExp a b c p) env)::starEach es env:=rfl
def Gha{a b c p}:starEach (.ListComp a b c p::es) env=(false,eval (.ListComp a b c p) env)::starEach es env:=rfl
end DL
namespace DL
open PySem PySem.Spec PyProof.Rows L2
variable{h:Heap}{st b0:Stmt}{ps N N' sub:List Str}{f fa fb fo:Ev D}{od dx:BJ BI}{osl:Array (BJ BG)}{doc pm cdv ct v:BG}{fn:Fn}{j k n:Nat}{p pos' py spos p2 np cpos apos hpos:Pos}{es ifs:List Expr}{t:Ev (List D)}{P:BK}{H2 H H1:Hp}{C:BI}{scope:Scope}{c:List (Str×BI)}{fp:List BI}{elt tg iter a b o:Expr}{y qual:Str}{K:BE}{w:World}{A:Around}{Q:BG->BH->Prop}{fh:Sv}{X:Cx}{pins:List (BI×Obj)}{Z:L2.St}{vs:Array BG}{bm:List BG}{oI:Obj}{T:String}{φ:Heap->Prop}{XQ:XW}{sp:Sp}{U:Lc}{S:Sto}{body suite:List Stmt}{fc:Ev Bool}
structure Cal(P:BK)(w:World)(K:BE)(mg:Str->BJ BG)(base:Heap)(x:Str)(ps:List Str)(fn:Fn)(j:Nat):Prop where
 ex:∃ f fd,FnOk P w K mg base CX0 j f fd ps (spD K ps.length fn)/\mg x=some (.ref f)/\PySem.W.keepIn K (.ref f)=true/\Binds K fd ps []
structure Dn(K:BE)(mg:Str->BJ BG)(x:Str)(st:Stmt)(ps:List Str):Prop where
 ex:∃ f fd,Fun K x x st f fd/\mg x=some (.ref f)/\Binds K fd ps []
section
variable{P:BK}{w:World}{K:BE}{mg:Str->BJ BG}{base:Heap}
def Hbf{x:Str}{f:BI}{oc:BG}{an:BJ BI}{kV:BG}(X:K.In h)(G:h.Ns mainGlobals mg)(a:PySem.W.nsIn K mainGlobals x=some (some (.ref f)))(l:K.lookup f=some ⟨oc,od,.func (PySem.W.fnOf x x (Hx st) (Gy st) (Gb st) .none kV doc pm an cdv ct),osl⟩)(c:PySem.W.codeIn K cdv x=true)(k:PySem.W.keepIn K (.ref f)=true)(hb:∀ (kV doc pm:BG) (an:BJ BI) (cdv ct:BG) (us:List BG),us.length=ps.length->bindArgs (PySem.W.fnOf x x (Hx st) (Gy st) (Gb st) .none kV doc pm an cdv ct) ⟨us,[]⟩=pure (ps.zip us)):Dn K mg x st ps:=
 ⟨f,_,Gfs l c k,PySem.W.mg_of X G a,(Gfs (st:=st) l c k).binds hb⟩
def Gxt{x:Str}(N:List Str)(k:Nat)(b:Sv)(hfn:fn=fnB N.length b)(d:Dn K mg x st ps)(Sc:FnScope N ps (Gb st))(hb:∀ (f:BI) (cdv:BG) (A:Around) (outer:List PySem.Env) (s:BH) (H:Hp) (E:XK),Room k (A.deeper (envOfC x (Gb st) s.heap.objs.size f cdv))→
   JSs (Ud CX0 P w K mg base N x (Gb st) f cdv A outer s H E).nox XN (Gy st) b):Cal P w K mg base x ps fn (k+1):=by
 subst hfn
 obtain⟨f,fd,F,hm,hbi⟩:=d.ex
 exact⟨f,fd,Gt8 F Sc (hb f),hm,F.kp,hbi⟩
end
section
variable{X:Cx}{XQ:XW}
def Gxu{x:Str}{pos:Pos}{e:Expr}(C:Cal X.prog X.w X.K X.mg X.base x ps fn j)(hr:Room k X.A)(ha:JA X XQ (e::es) t)(hn:ps.length=n)(hj:j<=k:=by decide)(hg:Gl X x:=by rfl)(hdb:(x==("__debug__":Str))=false:=by decide)(he:starEach (e::es) X.env=(false,eval e X.env)::starEach es X.env:=by rfl)(hpl:(backTo pos (starEach es X.env)).any (·.1)=false:=by rfl):
  JE X XQ (.Call (.Name x p) (e::es) [] pos) (cl n (Gg fn) t):=by
 subst hn
 obtain⟨f,fd,F,hm,hk,hb⟩:=C.ex
 exact Gq7 F hr hj hg hm hk hb ha hdb he hpl
def Gis{x:Str}{v:V}{u:BG}{d:D}{pos:Pos}(hm:X.mg x=some u)(r:Hc v u)(rep:∀ mp H,Rep X.K mp H d v)(hg:Gl X x)(hd:(x==("__debug__":Str))=false):JE X XQ (.Name x pos) (cn d):=Xa (Gfn hg hm r hd) rep
noncomputable def Gs(x:Str):Bool:=!(x==("__debug__":Str))&&!(x==("__classdict__":Str))
def okV(sc:Scope)(x:Str):Bool:=(match sc.names.lookup x with
 | some .local=>true
 | some .cell=>true
 | some .free=>true
 | _=>false)&&Gs x
noncomputable def okL(sc:Scope)(x:Str):Bool:=match sc.names.lookup x with
 | some .local=>true
 | some .cell=>true
 | _=>false
def okG(sc:Scope)(x:Str):Bool:=(match sc.names.lookup x with
 | some .globalImplicit=>true
 | _=>false)&&Gs x
def Gs.of{x:Str}(h:Gs x=true):(x==("__debug__":Str))=false/\(x==("__classdict__":Str))=false:=by
 unfold Gs at h
 rw[At] at h
 exact⟨by simpa using h.1,by simpa using h.2⟩
def okV.vis{sc:Scope}{x:Str}(h:okV sc x=true):Vis sc x/\Gs x=true:=by
 unfold okV at h
 rw[At] at h
 refine⟨?_,h.2⟩
 have h:=h.1
 split at h
 ·rename_i e; exact .inl e
 ·rename_i e; exact .inr (.inl e)
 ·rename_i e; exact .inr (.inr e)
 ·cases h
def okL.loc{sc:Scope}{x:Str}(h:okL sc x=true):Loc sc x:=by
 unfold okL at h
 split at h
 ·rename_i e; exact .inl e
 ·rename_i e; exact .inr e
 ·cases h
def okG.gl{sc:Scope}{x:Str}(h:okG sc x=true):sc.names.lookup x=some .globalImplicit/\Gs x=true:=by
 unfold okG at h
 rw[At] at h
 refine⟨?_,h.2⟩
 have h:=h.1
 split at h
 ·rename_i e; exact e
 ·cases h
structure OkV(sc:Scope)(x:Str):Prop where
 h:okV sc x=true
structure OkL(sc:Scope)(x:Str):Prop where
 h:okL sc x=true
structure OkC(sc:Scope)(x:Str):Prop where
 h:sc.names.lookup x=some .local
structure OkG(sc:Scope)(x:Str):Prop where
 h:okG sc x=true
def kdV{s:Scope}{x:Str}(h:okV s x=true:=by decide +kernel):OkV s x:=⟨h⟩
def kdL{s:Scope}{x:Str}(h:okL s x=true:=by decide +kernel):OkL s x:=⟨h⟩
def kdG{s:Scope}{x:Str}(h:okG s x=true:=by decide +kernel):OkG s x:=⟨h⟩
noncomputable def kdS{P:List Str}{s:Scope}(a:s.kind=.function:=by rfl)(b:s.isCoroutine=false:=by rfl)(c:s.isGenerator=false:=by rfl)(d:N.Nodup:=by decide +kernel)(e:N.take P.length=P:=by rfl)(f:∀ x∈P,s.names.lookup x=some .local\/s.names.lookup x=some .cell:=by decide +kernel)(g:∀ y∈s.names,y.2≠.free:=by decide +kernel):FnScope N P s:=⟨a,b,c,d,e,f,g⟩
def jv(i:Nat){x:Str}{pos:Pos}(h:OkV X.env.scope x)(hN:X.N[i]?=some x:=by rfl):JE X XQ (.Name x pos) (vr i):=Gmy i hN (okV.vis h.h).1 (Gs.of (okV.vis h.h).2).1 (Gs.of (okV.vis h.h).2).2
def gl{x:Str}(h:OkG X.env.scope x):Gl X x:=(okG.gl h.h).1
def jgn(i:Nat){x:Str}{pos:Pos}(hN:X.N.Nodup)(h:OkL X.env.scope x)(hi:X.N[i]?=some x:=by rfl)(hf:X.fn x=true:=by rfl):JG X (.Name x pos) (gn i):=Gfv i hN hi (okL.loc h.h) (.inl hf)
def jset(i:Nat){x:Str}{e:Expr}{pos:Pos}(hN:X.N.Nodup)(h:OkL X.env.scope x)(he:JE X XQ e f)(hi:X.N[i]?=some x:=by rfl)(hs:swapsWith e (some (.Name x pos')) pos.line X.env=pure false:=by rfl)(hf:X.fn x=true:=by rfl):
  JS X XQ (.Assign [.Name x pos'] e pos) (sa f (gn i)):=Gwx i hN he hi (okL.loc h.h) hs (.inl hf)
def jown{x:Str}{pos:Pos}{e:Expr}(C:Cal X.prog X.w X.K X.mg X.base x ps fn j)(hr:Room k X.A)(hg:Gl X x)(hp:Gs x=true)(ha:JA X XQ (e::es) t)(hn:ps.length=n:=by rfl)(hj:j<=k:=by decide)(he:starEach (e::es) X.env=(false,eval e X.env)::starEach es X.env:=by rfl)(hpl:(backTo pos (starEach es X.env)).any (·.1)=false:=by rfl):
  JE X XQ (.Call (.Name x p) (e::es) [] pos) (cl n (Gg fn) t):=Gxu C hr ha hn hj hg (Gs.of hp).1 he hpl
def Gnm(sc:Scope)(x:Str):Bool:=(match sc.names.lookup x with
 | some .local=>true
 | some .cell=>true
 | some .free=>true
 | _=>false)&&Gs x
def Jf{scope:Scope}{env:PySem.Env}{x:Str}{k:NameKind}(hk:k≠.free):∀ (names:List (Str×NameKind)),names.lookup x=some k->(names.map fun(n,k)=>if(k==NameKind.free&&env.scope.kind==.function&&env.kindOf n==some .cell)=true then(n,NameKind.cell) else(n,k)).lookup x=some k
 | [],h=>by simp at h
 | (n,k')::r,h=>by
  rw[As]
  by_cases hx:(x==n)=true
  ·rw[Ax,hx] at h
   have:k'=k:=by simpa using h
   subst this
   have hb:(k'==NameKind.free)=false:=by simpa using hk
   simp only[hb,Bool.false_and,AC,if_false,Ax,hx]
  ·have hx:(x==n)=false:=by simpa using hx
   rw[Ax,hx] at h
   have:=Jf (scope:=scope) (env:=env) hk r h
   by_cases hq:(k'==NameKind.free&&env.scope.kind==.function&&env.kindOf n==some .cell)=true
   ·simpa only[hq,if_true,Ax,hx] using this
   ·simpa only[hq,AC,if_false,Ax,hx] using this
def Gf3{s2:BH}{x:Str}(h:Gnm scope x=true):Vis (blk X s2 H2 C scope c N' fp).env.scope x/\Gs x=true:=by
 unfold Gnm at h
 rw[At] at h
 refine⟨?_,h.2⟩
 have h:=h.1
 split at h
 ·rename_i e; exact .inl (lookup_relabel_local e)
 ·rename_i e; exact .inr (.inl (Jf (scope:=scope) (env:=X.env) (by decide) scope.names e))
 ·rename_i e; exact .inr (Qd (scope:=scope) (env:=X.env) scope.names e)
 ·cases h
def jvB(i:Nat){s2:BH}{x:Str}{pos:Pos}(h:Gnm scope x=true)(hN:N'[i]?=some x:=by rfl):JE (blk X s2 H2 C scope c N' fp) XQ (.Name x pos) (vr i):=
 Gmy i hN (Gf3 h).1 (Gs.of (Gf3 (X:=X) (s2:=s2) (H2:=H2) (C:=C) (c:=c) (N':=N') (fp:=fp) h).2).1 (Gs.of (Gf3 (X:=X) (s2:=s2) (H2:=H2) (C:=C) (c:=c) (N':=N') (fp:=fp) h).2).2
def glB{s2:BH}{x:Str}(h:okG scope x=true):Gl (blk X s2 H2 C scope c N' fp) x:=
 Jf (scope:=scope) (env:=X.env) (by decide) scope.names (okG.gl h).1
noncomputable def Grw(sc:Scope)(x:Str):Bool:=match sc.names.lookup x with
 | some .local=>true
 | some .cell=>true
 | _=>false
def Hd2(i:Nat){s2:BH}{x:Str}{pos:Pos}(hN:N'.Nodup)(h:Grw scope x=true)(hi:N'[i]?=some x:=by rfl):JG (blk X s2 H2 C scope c N' fp) (.Name x pos) (gn i):=by
 unfold Grw at h
 split at h
 ·rename_i e
  exact Gfv i hN hi (.inl (lookup_relabel_local e)) (.inr (lookup_relabel_local e))
 ·rename_i e
  exact Gfv i hN hi (.inr (Jf (scope:=scope) (env:=X.env) (by decide) scope.names e)) (.inl (by show(scope.names.lookup x==some NameKind.cell)=true; rw[e]; rfl))
 ·cases h
def jcomp{sc:Scope}{pos:Pos}{pk:List (BJ Nat)}{f:Ev Src}{g:Tg}{t:Ev Bool}{e:Ev D}(hsc:X.env.scope=sc)(hNN:X.N=N)(ct:CompTab sc scope N N' pk)(hcm:X.calm=true)(hi:JI X XQ tg iter f)(hg:∀ cl s2 H2 C fp,JG (blk X s2 H2 C scope cl N' fp) tg g)(ht:∀ cl s2 H2 C fp,JTs (blk X s2 H2 C scope cl N' fp) XN ifs t)(he:∀ cl s2 H2 C fp,JE (blk X s2 H2 C scope cl N' fp) XN elt e)(hs:∀ x,foldedSetIterable iter X.env x=pure x:=by intro _; rfl):JE X XQ (.ListComp elt [⟨tg,iter,ifs,0⟩] scope pos) (cmp f pk g t e):=by
 subst hsc hNN
 exact Grd ct hcm hi hg ht he hs
def Gnn(i:Nat){sc:Scope}{pos:Pos}{pk:List (BJ Nat)}{f:Ev Src}{g:Tg}{t:Ev Bool}{e:Ev D}(hsc:X.env.scope=sc)(hNN:X.N=N)(ct:CompTab sc scope N N' pk)(hcm:X.calm=true)(hi:JI X XQ tg iter f)(hg:∀ cl s2 H2 C fp,JG (blk X s2 H2 C scope cl N' fp) tg g)(ht:∀ cl s2 H2 C fp,JTs (blk X s2 H2 C scope cl N' fp) XN ifs t)(he:∀ cl s2 H2 C fp,JE (blk X s2 H2 C scope cl N' fp) XN elt e)(hN:X.N.Nodup)(hl:OkL X.env.scope y)(hsw:swapsWith (.ListComp elt [⟨tg,iter,ifs,0⟩] scope pos) (some (.Name y py)) spos.line X.env=pure true)(hy:X.N[i]?=some y:=by rfl)(hs:∀ x,foldedSetIterable iter X.env x=pure x:=by intro _; rfl)(hf:X.fn y=true:=by rfl):
  JS X XQ (.Assign [.Name y py] (.ListComp elt [⟨tg,iter,ifs,0⟩] scope pos) spos) (sa (cmp f pk g t e) (gn i)):=by
 subst hsc hNN
 exact Gin i ct hcm hi hg ht he hN hy (okL.loc hl.h) hsw hs (.inl hf)
end
section
variable{X:Cx}{XQ:XW}
def Gxv{j:Int}(h1:0<j)(h2:j<2^200):j.natAbs.log2<9000:=by
 have h3:j.natAbs<2^200:=by omega
 exact Aj ((Nat.log2_lt (by omega)).mpr h3) (by decide)
def Gno:OpR X (binaryOp .FloorDiv) (rI (fun _ j=>0<j/\j<2^200) fun i j=>.int (i / j)):=opI fun i j _ _ _ _ _ hc q=>by
 have h1:(0:Int)<j:=hc.1
 have h2:j<2^200:=hc.2
 exact floordiv_int (by omega) (by rw[Int.fdiv_eq_ediv_of_nonneg i (by omega)]; exact q) (.inl (PyProof.noPylong_of_log2 (Gxv h1 h2)))
abbrev Gao:=i2 (fun _ j=>decide (0<j/\j<2^200)) fun i j=>.int (i / j)
def Grx{pos:Pos}(ha:JE X XQ a fa)(hb:JE X XQ b fb):JE X XQ (.BinOp a .FloorDiv b pos) (o2 Gao fa fb):=Ge8 Gno (Gfy (fun _ j h=>(of_decide_eq_true h:0<j/\j<2^200)) fun _ _ _ _=>rfl) ha hb
noncomputable def Gdh:List D->BJ (List Int)
 | []=>some []
 | .int i::r=>(Gdh r).map (i::·)
 | _::_=>none
noncomputable def Hbg(x:D)(S:Sto):BJ (List D):=match x with
 | .tup l=>some l
 | .lst i=>(S[i]?).map (·.xs)
 | _=>none
def Hd3(xs:List D)(S:Sto):Out D:=match xs with
 | [x]=>match (Hbg x S).bind Gdh with
  | some ns=>.ok (.int ns.sum) S
  | none=>.bad
 | _=>.bad
noncomputable def Hd4(xs:List D)(S:Sto):Out D:=match xs with
 | [.int i,.int j]=>.ok (.int (if j>i then j else i)) S
 | _=>.bad
def sag(i:Nat)(g:Int->Int->Int)(f:Ev D):Sv:=fun U S=>match U[i]? with
 | some (some (.int a))=>bindS (f U S) U fun d S1=>match d with
  | .int b=>.nx (U.set i (some (.int (g a b)))) S1
  | _=>.bad
 | _=>.bad
def Hd5{i:Nat}{g:Int->Int->Int}(E:Ends)(Z:L2.St)(H:Hp)(h:rdS K XQ (sag i g f) E Z H):Haf i (rdE K XQ f) (ipI g) E Z H:=by
 obtain⟨mp,U,S,G,p⟩:=h
 unfold sag at p
 split at p
 ·rename_i a z
  obtain⟨v,e1,r⟩:=G.loc i _ z
  cases (show v=.int a from r)
  refine⟨_,e1,bindSP G p fun mp1 H1 d S1 v a1 G1 r1 p1=>?_⟩
  cases d with
  | int b=>
   cases (show v=.int b from r1)
   exact⟨a,b,rfl,rfl,PostS.nx p1 (G1.set i rfl)⟩
  | _=>exact(show False from p1).elim
 ·exact p.elim
def Gxw(i:Nat){x:Str}{e:Expr}{pos:Pos}(hN:X.N.Nodup)(h:OkL X.env.scope x)(he:JE X XQ e f)(hi:X.N[i]?=some x:=by rfl)(hf:X.fn x=true:=by rfl):JS X XQ (.AugAssign (.Name x pos') .Add e pos) (sag i (fun a b=>a+b) f):=
 PS.mono (Gvq hN hi (okL.loc h.h) he Gvr (.inl hf)) Hd5
end
def Gap{prog:BK}{E:BG->BH->Prop}{s:BH}{t sl:BI}{items:Array BG}{vl vu:BG}{lo hi:BJ Int}(ht:IsTup s.heap t items)(hs:s.heap.IsSliceOf sl vl vu .none)(pl:IsPart vl lo)(pu:IsPart vu hi)(hw:HT.sIx items.size 0 lo=0/\HT.sIx items.size items.size hi=items.size)(h:Q (.ref t) s):wpAny (model prog w) A (getItem (.ref t) (.ref sl)) Q E s:=by
 obtain⟨os,hos,hcs,hds⟩:=id hs
 have hTs:s.TypeIs (.ref sl) "slice":=⟨os,hos,hcs⟩
 unfold getItem
 try with_reducible refine wpAny_holding ?_
 first | refine wpAny_bind (wpAny_pure ?_) | skip
 refine wpAny_bind (wpAny_sequenceKey ht.typeIs (by decide) ?_)
 refine wpAny_bind (wpAny_callSpecial?_slot (name:=Str.ofString "__getitem__") ht.typeIs PyProof.Rows.slot_tuple_getitem
  (wpAny_call_entry PyProof.Rows.slot_tuple_getitem ht.typeIs entry_tuple_getitem ?_ (args_tuple_getitem _ _)))
 show wpAny _ _ (Builtin.Tuple.tupleItemsOf (.ref t) >>= _) _ _ s
 refine wpAny_bind (tupleItemsOf_ ht ?_)
 refine wpAny_bind (wpAny_typeOf hTs ?_)
 rw[if_pos (by decide)]
 refine wpAny_bind (HT.Wz hs pl pu ?_)
 show wpAny _ _ (if(((HT.sIx items.size 0 lo:Nat):Int)==0&&(1:Int)==1&&(HT.sIx items.size items.size hi-HT.sIx items.size 0 lo)==items.size)=true then _ else _) _ _ s
 rw[if_pos (by rw[hw.1,hw.2]; simp)]
 unfold Builtin.Tuple.tupleIsExact
 refine wpAny_bind (wpAny_bind (wpAny_typeOf ht.typeIs (wpAny_pure ?_)))
 rw[if_pos (by decide)]
 exact wpAny_bind (wpAny_rule (wpAny_pure ⟨_,rfl,wpAny_pure h⟩))
section
variable{X:Cx}{XQ:XW}
def Hd6(K:BE):V->BJ Int->BJ Int->Hp->VK->Prop:=fun x lo hi H Q=>∃ a xs,x=.ref a/\SqT K H a xs/\(HT.sIx xs.length 0 lo=0/\HT.sIx xs.length xs.length hi=xs.length)/\Q (.ref a) H
def Gxx:SlR X (Hd6 X.K):=by
 intro pins s Z H x v vl vu lo hi sl Q I rx hs pl pu h
 obtain⟨a,xs,rfl,hx,hw,q⟩:=h
 cases rx
 obtain⟨its,r,ht,hz⟩:=I.tuple hx
 have hlen:its.toArray.size=xs.length:=by rw[An]; exact r.length.symm
 refine⟨"tuple",_,PyProof.Rows.slot_tuple_getitem.lookup,ht.typeIs,?_⟩
 exact Gap ht hs pl pu (by rw[hlen]; exact hw) ⟨.ref a,H,I,rfl,q⟩
def Gco(x:D)(lo hi:BJ Int)(S:Sto):Out D:=match x with
 | .tup l=>if HT.sIx l.length 0 lo=0/\HT.sIx l.length l.length hi=l.length then .ok (.tup l) S else .ok (.tup (Qs l lo hi)) S
 | .lst i=>match S[i]? with
  | some c=>.ok (.lst S.length) (S++[⟨false,Qs c.xs lo hi⟩])
  | none=>.bad
 | _=>.bad
def sl2(fe:Ev D)(fl fh:Ev (BJ Int)):Ev D:=fun U S=>(fe U S).bind fun x S1=>(fl U S1).bind fun l S2=>(fh U S2).bind fun u S3=>Gco x l u S3
def Glp{e:Expr}{lo hi:BJ Expr}{fe:Ev D}{fl fh:Ev (BJ Int)}{pos:Pos}(he:JE X XQ e fe)(hl:JO X XQ lo fl)(hh:JO X XQ hi fh):JE X XQ (.Subscript e (.Slice lo hi none p2) pos) (sl2 fe fl fh):=by
 refine PE.mono (Gms ((Gqw.or Gv8).or Gxx) he hl hh) fun Z H Q ⟨mp,U,S,G,p⟩=>?_
 refine bindP G p fun mp1 H1 x S1 v a1 G1 r1 p1=>?_
 refine bindP G1 p1 fun mp2 H2 l S2 l' a2 G2 r2 p2=>?_
 refine bindP G2 p2 fun mp3 H3 u S3 u' a3 G3 r3 p3=>?_
 cases (show l'=l from r2)
 cases (show u'=u from r3)
 have r1:=Rep.aft (a2.trans a3) _ _ r1
 cases x with
 | tup ds=>
  have p3:Post X.K XQ Z U mp3 H3 (if HT.sIx ds.length 0 l=0/\HT.sIx ds.length ds.length u=ds.length then .ok (.tup ds) S3 else .ok (.tup (Qs ds l u)) S3) Q:=p3
  obtain⟨a,xs,rfl,sq,q⟩:=Rep.tup r1
  by_cases hw:HT.sIx ds.length 0 l=0/\HT.sIx ds.length ds.length u=ds.length
  ·rw[if_pos hw] at p3
   exact .inr ⟨a,xs,rfl,sq,by rw[q.len]; exact hw,Gj.ok (R:=Rep X.K) p3 G3.rs r1⟩
  ·rw[if_neg hw] at p3
   exact .inl (.inr ⟨a,xs,rfl,sq,by rw[q.len]; exact hw,fun t ht=>Ym p3 G3.rs (q.cut l u) ht⟩)
 | lst i=>
  have p3:Post X.K XQ Z U mp3 H3 (match S3[i]? with | some c=>.ok (.lst S3.length) (S3++[⟨false,Qs c.xs l u⟩]) | none=>.bad) Q:=p3
  cases zc:S3[i]? with
  | none=>rw[zc] at p3; exact p3.elim
  | some c=>
   rw[zc] at p3
   obtain⟨a,xs,rfl,_,sq,q,_⟩:=G3.rs.items r1 zc
   exact .inl (.inl ⟨a,xs,rfl,sq,fun t ht=>Xb p3 G3.rs (q.cut l u) ht⟩)
 | _=>exact(show False from p3).elim
end
def turnedL{s:BH}{g:Heap}{tk:Nat}{ch:List BI}(I:Inv X pins Z H s)(k:∀ b o,b∉ch->s.heap.get? b=some o->g.get? b=some o)(hf:∀ b∈ch,Gef X pins H b):Inv X pins Z H { s with heap:=g,toks:=tk }:=by
 have nit:∀ b u,H b=some u->b∉ch:=fun b u e z=>by have:=(hf b z).1; rw[this] at e; cases e
 refine I.step (g':=s.gens) (d':=s.drawn) (ch:=ch) (fun b hb=>?_) (fun b o _ _ hc e _=>k b o hc e) (fun b o _ _ hc e _=>⟨o.slots,k b o hc e⟩) (fun _ _ _ _ n=>n)
  (fun b o hc e=>⟨o,k b o hc e⟩) (fun _ _ e=>e) (fun _ _ _ e=>e) (fun b ps e=>⟨#[],by rw[e]; simp⟩) (fun m hm=>?_) (fun b u e=>?_) I.bare
 ·obtain⟨f0,f1,f2,f3,f4,f5⟩:=hf b hb
  exact⟨f3,f1,f4,f5⟩
 ·obtain⟨o,es,ep,ho,r⟩:=hm
  exact⟨o,es,ep,k _ o (fun z=>(hf _ z).2.1 rfl) ho,r⟩
 ·refine(I.hok b u e).stay (fun c v hc q=>k c v ?_ q) (fun _ q=>q) fun _ _ q=>q
  rcases hc with z | z
  ·rw[z]; exact nit b u e
  ·exact nit c _ z
def Ghb{s:BH}{g:Heap}{tk:Nat}{ch:List BI}{vs:List V}{us:List BG}(I:Inv X pins Z H s)(hn:H s.heap.objs.size=none)(hz:vs.length<=sizeLine)(rv:Vals vs us)(tt:g.get? s.heap.objs.size=some { cls:=.type "tuple",data:=.seq us.toArray })(k:∀ b o,b∉ch->s.heap.get? b=some o->g.get? b=some o)(hf:∀ b∈ch,Gef X pins H b)(ltf:∀ b∈ch,b≠s.heap.objs.size):
  Inv X pins Z (upd H s.heap.objs.size (.tup vs)) { s with heap:=g,toks:=tk }:=by
 have I1:Inv X pins Z (upd H s.heap.objs.size (.tup vs)) { s with heap:=s.heap.push { cls:=.type "tuple",data:=.seq us.toArray } }:=
  I.laid (t':=s.toks) (fun b o e=>Ap _ e) (Ac _) (show Kh X.prog X.w _ _ _ (.tup vs) from⟨hz,us,rv,IsTup.new _ _⟩)
 refine turnedL (ch:=ch) (s:={ s with heap:=s.heap.push { cls:=.type "tuple",data:=.seq us.toArray } }) I1 (fun b o hb e=>?_) fun b hb=>?_
 ·by_cases hs:b=s.heap.objs.size
  ·subst hs
   rw[AF _ rfl] at e
   cases e
   exact tt
  ·have:s.heap.get? b=some o:=by
    rcases Heap.get?_push_cases e with⟨z,_⟩ | z
    ·exact absurd z hs
    ·exact z
   exact k b o hb this
 ·obtain⟨f0,f⟩:=hf b hb
  exact⟨by rw[Gm (ltf b hb)]; exact f0,f⟩
structure Za(z ti to' i j a b:BI):Prop where
 q1:ti≠z
 q2:to'≠z
 q3:i≠z
 q4:j≠z
 q5:ti≠to'
 q6:ti≠i
 q7:ti≠j
 q8:to'≠i
 q9:to'≠j
 q10:i≠j
 q11:a≠z
 q12:a≠to'
 q13:a≠i
 q14:a≠j
 q15:b≠z
 q16:b≠to'
 q17:b≠i
 q18:b≠j
section
variable{X:Cx}{XQ:XW}
noncomputable def rvD(x:D)(st:BJ Int)(S:Sto):Out D:=match x,st with
 | .tup l,some (-1)=>.ok (.tup l.reverse) S
 | _,_=>.bad
def rv(fe:Ev D)(fs:Ev (BJ Int)):Ev D:=fun U S=>(fe U S).bind fun x S1=>(fs U S1).bind fun o S2=>rvD x o S2
end
section
variable{X:Cx}{XQ:XW}
inductive JFs(X:Cx)(XQ:XW):List Expr->List (Ev D)->Prop
 | nil:JFs X XQ [] []
 | cons {e:Expr} {f:Ev D} {es:List Expr} {fs:List (Ev D)}:JE X XQ e f->JFs X XQ es fs->JFs X XQ (e::es) (f::fs)
end
structure Zb(z ti to' i j l a b c:BI):Prop where
 tz:ti≠z
 oz:to'≠z
 iz:i≠z
 jz:j≠z
 lz:l≠z
 t_o:ti≠to'
 t_i:ti≠i
 t_j:ti≠j
 t_l:ti≠l
 oi:to'≠i
 oj:to'≠j
 ol:to'≠l
 ij:i≠j
 il:i≠l
 jl:j≠l
 az:a≠z
 ao:a≠to'
 ai:a≠i
 aj:a≠j
 al:a≠l
 bz:b≠z
 bo:b≠to'
 bi:b≠i
 bj:b≠j
 bl:b≠l
 cz:c≠z
 co:c≠to'
 ci:c≠i
 cj:c≠j
 cl:c≠l
section
open Builtin Builtin.Str
variable{prog:BK}{w:World}{A:Around}{E:BG->BH->Prop}{s:BH}
end
section
variable{X:Cx}{XQ:XW}
variable{a b:Expr}{fa fb:Ev D}{pos:Pos}
end
def Iel(K:BE)(a:BI):It:=
 ⟨fun i H=>∃ xs x,SqL K H a xs/\xs[i]?=some x,fun i H x H'=>∃ y p,(∀ xs,SqL K H a xs->xs[i]?=some y)/\H p=none/\x=.ref p/\H'=upd H p (.tup [.int i,y]),fun i H=>∃ xs,SqL K H a xs/\xs.length<=i⟩
def Git{x1}{pos:Pos}(a it e:BI)(ne:e≠it):
  Turn P w K (.Tuple es x1 pos) (Iel K a) [e,it] e (fun i h=>(∃ old,IsEnum h e it i old)/\h.IsListIter it a i) where
 mem:=by simp
 obj:=fun i h ⟨⟨old,st⟩,o,e1,c,d⟩ b hb=>by
  rcases Af.mp hb with rfl | hb
  ·exact⟨_,st,fun v z=>by
    have z':Data.fields _=Data.cell v:=z
    cases z'⟩
  ·have eb:b=it:=by simpa using hb
   subst eb
   exact⟨o,e1,fun v z=>by rw[d] at z; cases z⟩
 keep:=fun i h h' ⟨⟨old,st⟩,ti⟩ k=>⟨⟨old,k e (by simp) _ st⟩,ti.at fun o e1=>k it (by simp) o e1⟩
 item:=by
  intro X hP hw hK hc i pins s Z H E I hf ⟨⟨old,st⟩,ti⟩ hg
  subst hP hw hK
  obtain⟨xs,x,hq,hx⟩:=hg
  obtain⟨its,rv,p,hz⟩:=I.list hq
  obtain⟨u,hu,ru⟩:=rv.get hx
  have hn:H s.heap.objs.size=none:=I.hok.fresh (Ac _)
  refine wpAny_pyNext_enum_item st ti p.isList (x:=u) (by simpa using hu) ne fun g oe ti' tt _ kk=>?_
  refine⟨_,rfl,wpAny_letOwnedTupleGo_enum oe fun g2 e2 b2=>?_⟩
  have kk2:∀ b o,b∉[e,it]->s.heap.get? b=some o->g2.get? b=some o:=fun b o hb h1=>
   b2.extBut b o (fun z=>hb (by simp[z])) (kk b o (fun z=>hb (by simp[z])) (fun z=>hb (by simp[z])) h1)
  have el:s.heap.objs.size≠e:=Bp (Ag st)
  have tt2:g2.get? s.heap.objs.size=some { cls:=.type "tuple",data:=.seq #[.int i s.toks,u] }:=b2.extBut _ _ el tt
  have ltf:∀ b∈[e,it],b≠s.heap.objs.size:=fun b hb=>by
   rcases Af.mp hb with rfl | hb
   ·exact Ne.symm el
   ·have eb:b=it:=by simpa using hb
    subst eb
    obtain⟨o,e1,_⟩:=ti
    exact Ay (Ag e1)
  have I2:Inv X pins Z (upd H s.heap.objs.size (.tup [.int i,x])) { s with heap:=g2,toks:=s.toks+1 }:=
   Ghb I hn (by rw[sizeLine_eq]; simp only[AA,AI]; decide) (.cons ⟨s.toks,rfl⟩ (.cons ru .nil)) tt2 kk2 hf ltf
  exact⟨.ref s.heap.objs.size,_,I2,rfl,⟨x,_,fun ys hy=>by rw[I.list_inj hy hq]; exact hx,hn,rfl,rfl⟩,⟨⟨u,e2⟩,ti'.extBut b2.extBut (Ne.symm ne)⟩,fun b hb=>by
   rw[Gm (ltf b hb)]
   exact(hf b hb).1⟩
 done:=by
  intro X hP hw hK hc i pins s Z H E I hf ⟨⟨old,st⟩,ti⟩ hg
  subst hP hw hK
  obtain⟨xs,hq,hx⟩:=hg
  obtain⟨its,rv,p,hz⟩:=I.list hq
  have hl:=rv.length
  exact wpAny_pyNext_enum_end (I.ok.hd hc) st ti p.isList (by simp; omega) fun g eb=>⟨rfl,turnedL I (fun b o hb e1=>eb b o (fun z=>hb (by simp[z])) e1) hf⟩
 self:=fun _ _ _ _ _ ⟨⟨_,st⟩,_⟩ h=>wpAny_pyIter_enum st h
section
variable{X:Cx}{XQ:XW}
def Hd7(K:BE)(ta:TA):TI:=fun Z H R=>ta Z H fun xs H1=>∃ a,xs=[.ref a]/\(∃ ys,SqL K H1 a ys)/\R (Iel K a) H1
def Gnp{x1}{tp:Pos}{ta:TA}{pos:Pos}(hg:Gl X "enumerate")(hm:X.mg "enumerate"=none)(ha:PA X [a] ta)(hs:starEach [a] X.env=[(false,eval a X.env)]:=by rfl):
  PI X (.Tuple es x1 tp) (.Call (.Name "enumerate" p) [a] [] pos) (Hd7 X.K ta):=by
 intro pins s Z H R I h
 refine wpAny_Call_Name_kw (Yj I hg hm (by rfl) ?_ (by decide) (by decide))
 refine PyProof.Rows.callWith_type1 (thn (ha pos pins s Z H _ I h) fun us s1 ⟨vs,H1,I1,r1,q1⟩=>?_) hs rfl
 obtain⟨c,e,⟨ys,hq⟩,q⟩:=q1
 subst e
 obtain⟨u,rfl,rx⟩:=Gdc r1
 cases rx
 obtain⟨its,rv,pt,hz⟩:=I1.list hq
 refine call_enumerate_list pt.isList fun g e1 i1 _ kk=>?_
 refine wpAny_pyIter_enum e1 ?_
 have I2:Inv X pins Z H1 { s1 with heap:=g }:=I1.kept (t':=s1.toks) kk
 refine⟨s1.heap.objs.size+1,[s1.heap.objs.size+1,s1.heap.objs.size],_,_,H1,rfl,I2,Git c s1.heap.objs.size (s1.heap.objs.size+1) (Nat.succ_ne_self _),⟨⟨.none,e1⟩,i1⟩,fun b hb=>?_,q⟩
 have hb':s1.heap.objs.size<=b:=by
  rcases Af.mp hb with rfl | hb
  ·exact Br _
  ·have eb:b=s1.heap.objs.size:=by simpa using hb
   exact Nat.le_of_eq eb.symm
 exact I1.fpOk hb' (I1.hok.fresh hb')
def Gdi(f:Ev (List D)):Ev Src:=fun U S=>(f U S).bind fun ds S1=>match ds with
 | [.lst i]=>match S1[i]? with
  | some c=>.ok ⟨fun k S=>(S[i]?).bind fun c=>(c.xs[k]?).map fun d=>.tup [.int k,d],c.xs.length+1⟩ S1
  | none=>.bad
 | _=>.bad
def Gxy{mp:List BI}{a:BI}{i:Nat}(hi:mp[i]?=some a)(nd:¬ Dcy H a):Gm4 K mp H (Iel K a) (fun k S=>(S[i]?).bind fun c=>(c.xs[k]?).map fun d=>.tup [.int k,d]):=by
 intro mp' H' S' af rs k
 have hi':=af.pre i a hi
 have hl:i<S'.length:=by rw[<- rs.len]; exact(Aa.mp hi').1
 have hc:S'[i]?=some S'[i]:=Ad hl
 obtain⟨a2,xs,e1,e2,sq,r,_⟩:=rs.items (v:=.ref a) ⟨a,rfl,hi',af.ndc i a hi nd⟩ hc
 cases e1
 simp only[hc,Bg]
 cases z:(S'[i]).xs[k]? with
 | none=>
  refine⟨xs,sq,?_⟩
  rw[r.len]
  exact Be.mp z
 | some d=>
  obtain⟨v,e,q⟩:=r.get z
  refine⟨⟨xs,v,sq,e⟩,fun x H2 ⟨y,p,h2,h3,h4,h5⟩=>?_⟩
  have h2:=h2 xs sq
  rw[e] at h2
  cases h2
  subst h4 h5
  have af2:Aft K mp' H' mp' (upd H' p (.tup [.int k,v])):=Wc h3
  exact⟨af2,rs.new h3,p,_,rfl,SqT.of He,RepL.cons rfl (RepL.cons (Rep.aft af2 _ _ q) RepL.nil)⟩
def Gnq{x1}{tp:Pos}{f:Ev (List D)}{pos:Pos}(hg:Gl X "enumerate")(hm:X.mg "enumerate"=none)(ha:JA X XQ [a] f)(hs:starEach [a] X.env=[(false,eval a X.env)]:=by rfl):
  JI X XQ (.Tuple es x1 tp) (.Call (.Name "enumerate" p) [a] [] pos) (Gdi f):=by
 refine PI.mono (Gnp hg hm ha hs) fun Z H R ⟨mp,U,S,G,p⟩=>?_
 refine bindP G p fun mp1 H1 ds S1 vs a1 G1 r1 p1=>?_
 split at p1
 ·rename_i i
  split at p1
  ·rename_i c zc
   obtain⟨v,rfl,h1⟩:=RepL.one r1
   obtain⟨a2,xs,rfl,e2,sq,q,_⟩:=G1.rs.items h1 zc
   exact⟨a2,rfl,⟨xs,sq⟩,Gj.ok (R:=kI X.K) (d:=⟨fun k S=>(S[i]?).bind fun c=>(c.xs[k]?).map fun d=>.tup [.int k,d],c.xs.length+1⟩) (S:=S1) p1 G1.rs (Gxy e2 (Rep.nd h1))⟩
  ·exact p1.elim
 ·exact p1.elim
end
structure XB(bm:List BG):Prop where
 v:bm.contains (.type "ValueError")=true
 a:bm.contains (.type "AttributeError")=false
 n:bm.contains (.type "NameError")=false
 b:bm.contains (.type "BaseException")=true
def XB.has(x:XB bm)(C:BI):(Value.ref C::bm).contains (.type "ValueError")=true:=by rw[Bs,x.v,Bool.or_true]
def XB.noA(x:XB bm)(C:BI):(Value.ref C::bm).contains (.type "AttributeError")=false:=by rw[Bs,x.a]; rfl
def XB.noN(x:XB bm)(C:BI):(Value.ref C::bm).contains (.type "NameError")=false:=by rw[Bs,x.n]; rfl
abbrev FV:=PySem.F.excBase_ValueError
def Gry(K:BE):PySem.W.findCls K (.type "ValueError") (.type "type") "__init__"=some (.val (.builtin "ValueError.__init__")):=by
 first
  | rfl
  | kernel_rfl
def Grz{prog:BK}{E:BG->BH->Prop}{s:BH}{Q:BG×List BG->BH->Prop}{pl:Sem Bool}(X:K.In s.heap)(h:Q (.builtin "ValueError.__init__",[]) { s with toks:=s.toks+1 }):
  wpAny (model prog w) A (getMethod (.type "ValueError") (Str.ofString "__init__") pl) Q E s:=by
 have st:opaqueClassAbove (.type "ValueError")=pure none:=by unfold opaqueClassAbove; dsimp only; rw[show Manifest.isStub "ValueError"=false by decide +kernel]; rfl
 have ty:PySem.W.Looks (model prog w) s.heap (typeOf (.type "ValueError")) (.type "type"):=PySem.W.Looks.of_pure (by first | rfl | kernel_rfl)
 have ga:PySem.W.findIn K (.type "type") "__getattribute__"=some (some (.builtin "type.__getattribute__")):=PySem.W.type_tga
 unfold getMethod specialOf
 refine wpAny_bind (wpAny_bind (ty.here ((PySem.W.looks_findIn X ga).here ?_)))
 dsimp only
 rw[if_pos PySem.W.canon_tga]
 refine wpAny_bind (wpAny_mono (Q:=fun v=>Q (v,[])) (E:=E) ?_ (fun _ _ z=>wpAny_pure z) fun _ _ z=>z)
 refine PySem.W.cls_open X (PySem.W.Looks.of_pure st) ty ga (PySem.W.looks_hook X (r:=none) (by rfl)) (by show PySem.W.subIn K _ _=_; rfl) (Gry K) ?_
 refine wpAny_pure ?_
 show wpAny _ _ (handedOut _) _ _ _
 rw[PySem.W.handedOut_of (by rfl)]
 exact wpAny_pure h
section
variable{prog:BK}{w:World}{A:Around}{E:BG->BH->Prop}{h:Heap}{g:Array GenState}{d:Drawn}{t:Nat}{os:OsState}
variable{nm q:Str}{C N:BI}{bs bm:List BG}{hdct:Bool}{sn:List Str}{sub:List BG}{ab:Bool}{col:BJ Bool}{dd:BJ BI}{k0 k1 k2 k3 k5:BJ BG}
def Gr0{e:BI}{t0:BI}(x:XB bm)(hC:h.get? C=some (excClassObj nm q C N bs bm hdct sn sub ab col dd k0 k1 k2 k3 k5 "ValueError.__new__"))(he:h.get? e=some { cls:=.ref C,dict:=dx,data:=.fields #[.ref t0,.none,.none,.none,.bool false,.none] })(hq:∀ h',h'.get? e=some { cls:=.ref C,dict:=dx,data:=.fields #[.ref h.objs.size,.none,.none,.none,.bool false,.none] }->(∀ b o,b≠e->h.get? b=some o->h'.get? b=some o)->h'.get? h.objs.size=some { cls:=.type "tuple",data:=.seq #[v] }->Q .none ⟨h',g,d,t,os⟩):
  wpAny (model prog w) A (call (.builtin "ValueError.__init__") [.ref e,v]) Q E ⟨h,g,d,t,os⟩:=by
 have hB:=x.has C
 refine wpAny_call (codeAny_call_builtin FV.init.plain FV.initEntry ?_)
 have chk:∀ {M:Model} {A:Around} {E:BG->BH->Prop} {Q:Unit->BH->Prop},Q () ⟨h,g,d,t,os⟩->wpAny M A (checkBuiltinCall "ValueError.__init__" ⟨[.ref e,v],[]⟩) Q E ⟨h,g,d,t,os⟩:=fun hQ=>by
  have ns:=FV.noStar
  simp only[checkBuiltinCall,FV.initKind,FV.initSplit,FV.initRow]
  repeat (first | with_reducible refine wpAny_loadPart_at he ?_ | with_reducible refine wpAny_loadPart_at hC ?_ | (with_reducible refine wpAny_isSubtype_exc hC ?_; rw[hB]) | wp_step)
  exact hQ
 refine chk ?_
 wp_walk
 have le:e≠h.objs.size:=Ay (Ag he)
 refine hq _ ?_ (fun b o hb ho=>?_) ?_
 ·rw[A1 _ (Ap _ he) rfl]
  rfl
 ·rw[AL _ _ (Ne.symm hb)]
  exact Ap _ ho
 ·rw[AL _ _ le]
  exact AF _ rfl
def Ghc{M:Model}{Q:Unit->BH->Prop}(x:XB bm)(hC:h.get? C=some (excClassObj nm q C N bs bm hdct sn sub ab col dd k0 k1 k2 k3 k5 "ValueError.__new__"))(hq:Q () ⟨h,g,d,t,os⟩):
  wpAny M A (checkBuiltinCall "ValueError.__new__" ⟨[.ref C,v],[]⟩) Q E ⟨h,g,d,t,os⟩:=by
 have hB:=x.has C
 have ns:=FV.noStar
 simp only[checkBuiltinCall,FV.newKind,FV.newSplit,FV.newRow]
 repeat (first | refine wpAny_loadPart_at hC ?_ | (refine wpAny_isSubtype_exc hC ?_; rw[hB]) | refine wpAny_staticBase_exc hC ?_ | refine wpAny_madeBy_exc hC ?_ | simp only[bne_self_eq_false,AC,if_false] | wp_step)
 exact hq
def Hbh{R:Result->BH->Prop}(x:XB bm)(hC:h.get? C=some (excClassObj nm q C N bs bm hdct sn sub ab col dd k0 k1 k2 k3 k5 "ValueError.__new__"))(hq:R (.ok (.ret (.ref (h.objs.size+1)))) ⟨(h.push { cls:=.type "tuple",data:=.seq #[v] }).push { cls:=.ref C,data:=.fields #[.ref h.objs.size,.none,.none,.none,.bool false,.none] },g,d,t,os⟩):
  codeAny (model prog w) A (.builtin "ValueError.__new__" ⟨[.ref C,v],[]⟩) R ⟨h,g,d,t,os⟩:=by
 have he:=FV.ends
 have hB:=x.has C
 have hA:=x.noA C
 have hN:=x.noN C
 refine codeAny_builtinAt FV.entry ?_
 unfold Builtin.«BaseException.__new__»
 refine PySem.wpAt_bind ?_
 show PySem.wpAt _ _ _ (PySem.stack >>= _) _ _ _
 refine PySem.wpAt_bind (PySem.wpAt_stack fun p below=>PySem.wpAt_of_wpAny ?_)
 wp_walk
 refine PySem.wpAt_of_wpAny ?_
 rw[FV.owner]
 repeat (first | with_reducible refine wpAny_madeHere_exc FV.canon hC ?_ | with_reducible refine wpAny_loadPart_at hC ?_ | (with_reducible refine wpAny_isSubtype_exc hC ?_; first | rw[hB] | rw[hA] | rw[hN]) | wp_step)
 show R _ _
 rw[Bh]
 exact hq
def Gxz{fI:BI}(x:XB bm)(X:K.In h)(hC:h.get? C=some (excClassObj nm q C N bs bm hdct sn sub ab col dd k0 k1 k2 k3 k5 "ValueError.__new__"))(hi:PySem.W.findIn K (.ref C) "__init__"=some (some (.ref fI)))(hfI:h.get? fI=some oI)(hfc:oI.cls=.type "function")(hq:∀ h' e,h.objs.size<=e->Heap.MadeExcOf h h' e (.ref C) [v]->wpAny (model prog w) (A.under (.builtin "type.__call__" ⟨[.ref C,v],[]⟩)) (call (.ref fI) [.ref e,v]) (fun r s'=>r=.none/\Q (.ref e) s') E ⟨h',g,d,t,os⟩):
  wpAny (model prog w) A (call (.ref C) [v]) Q E ⟨h,g,d,t,os⟩:=by
 have hB:=x.has C
 have hA:=x.noA C
 have hN:=x.noN C
 have f1:=tc_lookup
 have f2:=tc_bind (.ref C)
 have hT:(⟨h,g,d,t,os⟩:BH).TypeIs (.ref C) "type":=⟨_,hC,rfl⟩
 refine wpAny_call (codeAny_of_tree ?_)
 show wpAny _ _ (callAny (.ref C) _) _ _ _
 repeat (any_goals (first | assumption | with_reducible refine wpAny_loadPart_at hC ?_ | wp_step))
 refine⟨rfl,?_⟩
 refine codeAny_call_builtin_at (Code.quiet_builtin _ (by decide +kernel)) entry_typeCall (wpAny_check_type_call_sub hC ?_)
 repeat (first | with_reducible refine wpAny_loadPart_at hC ?_ | with_reducible refine wpAny_madeBy_exc hC ?_ | wp_step)
 refine codeAny_call_builtin_code (Code.quiet_builtin _ FV.quiet) (Ghc x hC (Hbh x hC ?_))
 show wpAny _ _ _ _ _ _
 have kp:∀ b o,h.get? b=some o->((h.push { cls:=.type "tuple",data:=.seq #[v] }).push { cls:=.ref C,data:=.fields #[.ref h.objs.size,.none,.none,.none,.bool false,.none] }).get? b=some o:=fun b o e=>Ap _ (Ap _ e)
 have he:((h.push { cls:=.type "tuple",data:=.seq #[v] }).push { cls:=.ref C,data:=.fields #[.ref h.objs.size,.none,.none,.none,.bool false,.none] }).get? (h.objs.size+1)=some { cls:=.ref C,data:=.fields #[.ref h.objs.size,.none,.none,.none,.bool false,.none] }:=by heap_get
 have ht:((h.push { cls:=.type "tuple",data:=.seq #[v] }).push { cls:=.ref C,data:=.fields #[.ref h.objs.size,.none,.none,.none,.bool false,.none] }).get? h.objs.size=some { cls:=.type "tuple",data:=.seq #[v] }:=Ap _ (AF _ rfl)
 have hC1:=kp _ _ hC
 have hf1:=kp _ _ hfI
 have X1:=X.keeps kp
 have hcC:(Value.ref C::bm).contains (.ref C)=true:=by simp
 have done:=hq _ (h.objs.size+1) (Br _) ⟨kp,AZ (Br _),h.objs.size,he,AZ (Ac _),ht⟩
 generalize (h.push { cls:=.type "tuple",data:=.seq #[v] }).push { cls:=.ref C,data:=.fields #[.ref h.objs.size,.none,.none,.none,.bool false,.none] }=h1 at *
 unfold isInstance
 repeat (first | with_reducible refine wpAny_loadPart_at he ?_ | (with_reducible refine wpAny_isSubtype_exc hC1 ?_; rw[hcC]) | wp_step)
 show wpAny _ _ (typeLookup (.ref C) _) _ _ _
 refine(PySem.W.looks_findIn X1 hi).here ?_
 refine wpAny_holding (wpAny_bind ?_)
 unfold bindSpecial
 refine wpAny_bind (wpAny_typeOf (T:="function") ⟨_,hf1,hfc⟩ ?_)
 rw[if_pos (by decide)]
 refine wpAny_pure (wpAny_bind (wpAny_mono done (fun r s' hr=>?_) fun _ _ x=>x))
 obtain⟨rfl,hQ⟩:=hr
 wp_walk
 exact hQ
end
section
variable{M:Model}{A:Around}{E:BG->BH->Prop}{env:PySem.Env}
variable{nm q:Str}{C N:BI}{bs bm:List BG}{hdct:Bool}{sn:List Str}{sub:List BG}{ab:Bool}{col:BJ Bool}{dd:BJ BI}{k0 k1 k2 k3 k5:BJ BG}{newId:String}
def Yo(h:Heap)(e C:BI)(dx:BJ BI):Prop:=∃ t:BI,h.get? e=some { cls:=.ref C,dict:=dx,data:=.fields #[.ref t,.none,.none,.none,.bool false,.none] }
def Gcb{s:BH}{x:Sem BG}{Q:Flow->BH->Prop}(hb:XB bm)(hh:A.handled=none)
  (h:wpAny M A x (fun v s₁=>∃ e dx,v=.ref e/\s₁.heap.get? C=some (excClassObj nm q C N bs bm hdct sn sub ab col dd k0 k1 k2 k3 k5 newId)/\Yo s₁.heap e C dx/\E (.ref e) s₁) E s):
  wpAny M A (raiseStmt env (some x) none) Q E s:=by
 have hB:(Value.ref C::bm).contains (.type "BaseException")=true:=by rw[Bs,hb.b,Bool.or_true]
 unfold raiseStmt
 refine wpAny_bind (wpAny_mono h (fun v s₁ h₁=>?_) fun _ _ x=>x)
 obtain⟨e,dx,rfl,hC,⟨t,he⟩,hE⟩:=h₁
 obtain⟨hp,g,d,tk,os⟩:=s₁
 repeat (first | with_reducible refine wpAny_loadPart_at he ?_ | with_reducible refine wpAny_loadPart_at hC ?_ | (with_reducible refine wpAny_isSubtype_exc hC ?_; rw[hB]) | wp_step)
 exact wpAny_raiseNew_none hh hE
noncomputable def Gr1{s:BH}{x:Str}{pos:Pos}{e1:Expr}{Q:Flow->BH->Prop}(hb:XB bm)(hh:A.handled=none)(h:wpAny M A (eval (.Name x np) env) (fun f s₁=>f=.ref C/\wpAny M A (spliced (backTo cpos (starEach (e1::es) env))) (fun vs s₂=>
   s₂.heap.get? C=some (excClassObj nm q C N bs bm hdct sn sub ab col dd k0 k1 k2 k3 k5 newId)/\wpAny M A (call (.ref C) vs) (fun v s₃=>∃ e dx,v=.ref e∧
    s₃.heap.get? C=some (excClassObj nm q C N bs bm hdct sn sub ab col dd k0 k1 k2 k3 k5 newId)/\Yo s₃.heap e C dx/\E (.ref e) s₃) E s₂) E s₁) E s)(he:starEach (e1::es) env=(false,eval e1 env)::starEach es env:=by rfl)(hpl:(backTo cpos (starEach es env)).any (·.1)=false:=by rfl):
  wpAny M A (exec (.Raise (some (.Call (.Name x np) (e1::es) [] cpos)) none pos) env) Q E s:=by
 have plain:(backTo cpos (starEach (e1::es) env)).any (·.1)=false:=by
  rw[he]
  show(false||(backTo cpos (starEach es env)).any (·.1))=false
  rw[hpl]; rfl
 rw[arm_exec_Raise]
 have key:wpAny M A (eval (.Call (.Name x np) (e1::es) [] cpos) env) (fun v s₁=>∃ e dx,v=.ref e/\s₁.heap.get? C=some (excClassObj nm q C N bs bm hdct sn sub ab col dd k0 k1 k2 k3 k5 newId)/\Yo s₁.heap e C dx/\E (.ref e) s₁) E s:=by
  refine wpAny_Call_ofName (wpAny_mono h (fun f s₁ h₁=>?_) fun _ _ x=>x)
  obtain⟨rfl,h₁⟩:=h₁
  unfold callWith
  have ev:wpAny M A (evalArgs (.ref C) true (backTo cpos (starEach (e1::es) env)) []) (fun a s₂=>a.kw=[]/\s₂.heap.get? C=some (excClassObj nm q C N bs bm hdct sn sub ab col dd k0 k1 k2 k3 k5 newId)/\wpAny M A (call (.ref C) a.pos) (fun v s₃=>∃ e dx,v=.ref e∧
    s₃.heap.get? C=some (excClassObj nm q C N bs bm hdct sn sub ab col dd k0 k1 k2 k3 k5 newId)/\Yo s₃.heap e C dx/\E (.ref e) s₃) E s₂) E s₁:=by
   rw[he] at h₁ ⊢
   exact PySem.Calls.evalArgs_plain (wpAny_mono h₁ (fun vs s₂ z=>⟨rfl,z⟩) fun _ _ x=>x)
  refine wpAny_bind (wpAny_holding (wpAny_mono ev (fun a s₂ h₂=>wpAny_bind (wpAny_standAt ?_)) fun _ _ x=>x))
  obtain⟨ap,ak⟩:=a
  obtain⟨hk,hC,h₂⟩:=h₂
  obtain rfl:ak=[]:=hk
  obtain⟨hp,g,d,tk,os⟩:=s₂
  simp only[plain]
  refine wpAny_bind (wpAny_keeperOf_exc hC ?_)
  exact wpAny_bind (wpAny_mono h₂ (fun r s₃ hr=>wpAny_bind (wpAny_holding (wpAny_point (wpAny_pure hr)))) fun _ _ x=>x)
 first
  | exact wpAny_bind (wpAny_standAt (Gcb hb hh (wpAny_bind (wpAny_mono key (fun v s₃ h₃=>wpAny_bind (wpAny_standAt (wpAny_pure h₃))) fun _ _ x=>x))))
  | (simp only[evalOpt,Option.map]; exact wpAny_bind (wpAny_standAt (Gcb hb hh (wpAny_bind (wpAny_mono key (fun v s₃ h₃=>wpAny_bind (wpAny_standAt (wpAny_pure h₃))) fun _ _ x=>x)))))
end
noncomputable def FX(e C:BI)(dx:BJ BI):HO:=.ext fun h=>Yo h e C dx
def Gum{e:BI}(f:Yo h e C dx):Kh P w H h e (FX e C dx):=
 ⟨f,(let ⟨_,q⟩:=f; ⟨_,q⟩),fun _ _ ⟨t,q⟩ k=>⟨t,k _ q⟩⟩
def Gnr{a:BI}{o:HO}(h:H a=some o):upd H a o=H:=by
 funext b
 by_cases c:b=a
 ·subst c; rw[He,h]
 ·rw[Gm c]
structure KX(K:BE)(C:BI):Prop where
 ex:∃ nm q N bs bm hdct sn sub ab col dd k0 k1 k2 k3 k5,K.lookup C=some (excClassObj nm q C N bs bm hdct sn sub ab col dd k0 k1 k2 k3 k5 "ValueError.__new__")/\XB bm
section
variable{X:Cx}
def tVI(K:BE)(t:TA):TE:=fun Z H Q=>t Z H fun vs H1=>∃ e v C dx,vs=[.ref e,v]/\H1 e=some (FX e C dx)/\KX K C/\Q .non H1
def Gns{t:TA}{pos:Pos}{pl:Sem Bool}(hg:Gl X "ValueError")(hm:X.mg "ValueError"=none)(ha:PA X [a,b] t)(ht:eval (.Call (.Attribute (.Name "ValueError" p) "__init__" apos) [a,b] [] pos) X.env=(do
   let ov <- eval (.Name "ValueError" p) X.env
   standAt apos.atName
   let (f,first) <- holding [ov] (getMethod ov "__init__" pl)
   callWith pos f first (backTo pos (starEach [a,b] X.env)) (backToKw pos (keywordEach [] X.env))))(hs:starEach [a,b] X.env=(false,eval a X.env)::starEach [b] X.env:=by rfl)(hpl:(backTo pos (starEach [b] X.env)).any (·.1)=false:=by rfl):
  PE X (.Call (.Attribute (.Name "ValueError" p) "__init__" apos) [a,b] [] pos) (tVI X.K t):=by
 intro pins s Z H Q I h
 refine PySem.W.methodCall_KW (pl:=pl) (Yj I hg hm (by rfl) ?_ (by decide) (by decide)) ht
 refine Grz I.kIn ?_
 have hA:=ha pos pins { s with toks:=s.toks+1 } Z H _ (I.tok _) h
 show wpAny _ _ (callWith pos (.builtin "ValueError.__init__") [] (backTo pos (starEach [a,b] X.env)) _) _ _ _
 rw[hs] at hA ⊢
 refine Calls.callWith_builtin (by show(false||(backTo pos (starEach [b] X.env)).any (·.1))=false; rw[hpl]<;>rfl) (Calls.evalArgs_plain ?_)
 refine thn hA fun us s2 ⟨vs,H2,I2,r2,e,v,C,dx,ev,hH,kx,q⟩=>?_
 subst ev
 cases r2 with
 | cons ra rb=>
  cases rb with
  | cons rv rn=>
   cases rn
   cases ra
   obtain⟨nm,qn,N,bs,bm,hdct,sn,sub,ab,col,dd,k0,k1,k2,k3,k5,lk,xb⟩:=kx.ex
   have hC:=I2.kIn _ _ lk
   obtain⟨⟨t0,he⟩,_,_⟩:=(show Kh X.prog X.w H2 s2.heap e (FX e C dx) from I2.hok e _ hH)
   obtain⟨hp,g,d,tk,os⟩:=s2
   refine Gr0 xb hC he fun h' e1 k1' _=>?_
   have I3:=I2.write (h':=h') (x:=e) (e:=e) (o:=FX e C dx) (t':=tk) (by rw[hH]; exact trivial) (.inl rfl) (fun b u hb hu=>k1' b u hb hu) ⟨_,e1⟩ (Gum ⟨_,e1⟩)
   rw[Gnr hH] at I3
   exact⟨.non,H2,I3,rfl,q⟩
end
def spI(K:BE):Sp:=fun vs H Q _=>∃ e v C dx,vs=[.ref e,v]/\H e=some (FX e C dx)/\KX K C/\Q .non H
section
variable{X:Cx}{pins:List (BI×Obj)}{Z:L2.St}{H:Hp}{s:BH}{C f:BI}{fd:FuncData}{ps:List Str}{k:Nat}
def Hbi{v:V}{u:BG}(kx:KX X.K C)(hi:PySem.W.findIn X.K (.ref C) "__init__"=some (some (.ref f)))(lf:X.K.lookup f=some oI)(hfc:oI.cls=.type "function")(F:FnOk X.prog X.w X.K X.mg X.base CX0 k f fd ps (spI X.K))(hl:ps.length=2)(hr:Room (k+1) X.A)(hb:Binds X.K fd ps [])(I:Inv X pins Z H s)(rv:Hc v u):
  wpAny (model X.prog X.w) X.A (call (.ref C) [u]) (fun r s'=>∃ e,r=.ref e/\(H e=none/\X.s₀.heap.get? e=none)/\Inv X pins Z (upd H e (FX e C none)) s') X.xe s:=by
 obtain⟨nm,qn,N,bs,bm,hdct,sn,sub,ab,col,dd,k0,k1,k2,k3,k5,lk,xb⟩:=kx.ex
 obtain⟨hp,g,d,tk,os⟩:=s
 refine Gxz xb I.kIn (I.kIn _ _ lk) hi (I.kIn _ _ lf) hfc fun h' e le hm=>?_
 have hn:H e=none:=I.hok.fresh le
 have h0:X.s₀.heap.get? e=none:=AZ (Am I.sz le)
 obtain⟨t,ht,_,_⟩:=hm.there
 have I1:Inv X pins Z (upd H e (FX e C none)) ⟨h',g,d,tk,os⟩:=I.laid (t':=tk) hm.keeps le (Gum ⟨t,ht⟩)
 refine wpAny_call (codeAny_mono (F.run (X.A.under (.builtin "type.__call__" ⟨[.ref C,u],[]⟩)) X.stack ⟨h',g,d,tk,os⟩ (upd H e (FX e C none)) ⟨[.ref e,u],[]⟩ [.ref e,u] [.ref e,v] (fun v' H'=>v'=.non/\H'=upd H e (FX e C none)) E0
  (hr.make C [u] []) (I1.env0.make C [u] []) (by have:=hb ⟨h',g,d,tk,os⟩ [.ref e,u] I1.kIn (by simpa using hl.symm); simpa using this) (.cons rfl (.cons rv .nil)) ⟨e,v,C,none,rfl,He,kx,rfl,rfl⟩) fun r s' hq=>?_)
 cases r with
 | error x=>exact hq.elim
 | ok fl=>
  cases fl with
  | ret u'=>
   obtain⟨v',H',I',r',e1,e2⟩:=I1.after hq
   subst e1 e2
   exact⟨r',e,rfl,⟨hn,h0⟩,I'⟩
  | next=>exact hq.elim
  | brk=>exact hq.elim
  | cont=>exact hq.elim
def tRz(C:BI)(W:L2.St->Hp->BI->Prop)(t:TA):TS:=fun _ Z H=>t Z H fun vs H1=>∃ v,vs=[v]/\∀ e,H1 e=none->W Z (upd H1 e (FX e C none)) e
def Gnt{W:L2.St->Hp->BI->Prop}{x:Str}{pos:Pos}{t:TA}(hW:∀ (pins:List (BI×Obj)) (Z:L2.St) (H:Hp) (e:BI) (s':BH),Inv X pins Z H s'->H e=some (FX e C none)->X.s₀.heap.get? e=none->W Z H e->X.xe (.ref e) s')(hcm:X.calm=true)(hg:Gl X x)(hm:X.mg x=some (.ref C))(kx:KX X.K C)(hi:PySem.W.findIn X.K (.ref C) "__init__"=some (some (.ref f)))(lf:X.K.lookup f=some oI)(hfc:oI.cls=.type "function")(F:FnOk X.prog X.w X.K X.mg X.base CX0 k f fd ps (spI X.K))(hl:ps.length=2)(hr:Room (k+1) X.A)(hb:Binds X.K fd ps [])(ha:PA X [a] t)(hdb:(x==("__debug__":Str))=false:=by decide)(he:starEach [a] X.env=(false,eval a X.env)::starEach [] X.env:=by rfl)(hpl:(backTo cpos (starEach [] X.env)).any (·.1)=false:=by rfl):
  PS X (.Raise (some (.Call (.Name x np) [a] [] cpos)) none pos) (tRz C W t):=by
 intro pins s Z H D I h
 obtain⟨nm,qn,N,bs,bm,hdct,sn,sub,ab,col,dd,k0,k1,k2,k3,k5,lk,xb⟩:=id kx.ex
 refine Gr1 (C:=C) (nm:=nm) (q:=qn) (N:=N) (bs:=bs) (bm:=bm) (hdct:=hdct) (sn:=sn) (sub:=sub) (ab:=ab) (col:=col) (dd:=dd) (k0:=k0) (k1:=k1) (k2:=k2) (k3:=k3) (k5:=k5) (newId:="ValueError.__new__") xb (I.ok.hd hcm) (Zm I hg hm ⟨rfl,?_⟩ hdb) he hpl
 refine thn (ha cpos pins s Z H _ I h) fun us s1 ⟨vs,H1,I1,r1,v,ev,q⟩=>⟨I1.kIn _ _ lk,?_⟩
 subst ev
 obtain⟨u,rfl,rv⟩:=Gdc r1
 refine thn (Hbi kx hi lf hfc F hl hr hb I1 rv) fun r s2 ⟨e,er,⟨hn,h0⟩,I2⟩=>?_
 subst er
 have hH:upd H1 e (FX e C none) e=some (FX e C none):=He
 obtain⟨fr,_,_⟩:=(show Kh X.prog X.w _ s2.heap e (FX e C none) from I2.hok e _ hH)
 exact⟨e,none,rfl,I2.kIn _ _ lk,fr,hW pins Z _ e s2 I2 hH h0 (q e hn)⟩
end
def Gbn(h:Heap)(e C:BI)(dx:BJ BI):Prop:=∃ t c k u:BG,h.get? e=some { cls:=.ref C,dict:=dx,data:=.fields #[t,.none,c,k,u,.none] }/\(dx=none->c=.none)
def Yo.g{e:BI}(f:Yo h e C dx):Gbn h e C dx:=by
 obtain⟨t,q⟩:=f
 exact⟨_,_,_,_,q,fun _=>rfl⟩
def Gx0(fl:BG)(h:Heap)(a T C:BI)(dx:BJ BI):Prop:=∃ oe vs oT ts a0,h.get? a=some oe/\(oe.cls=.ref C/\oe.dict=dx/\vs[0]?=some a0/\(dx=none->vs[2]?=some .none))/\oe.data=.fields vs/\vs[1]?=some (.ref T)/\T≠a/\h.get? T=some oT/\oT.data=.fields ts/\ts[3]?=some fl
abbrev Fly:=Gx0 .none
section
variable{M:Model}{A:Around}{E:BG->BH->Prop}{s:BH}{Q:Unit->BH->Prop}{env:PySem.Env}{outer:List PySem.Env}{L:BI}{base:Heap}
def Ghd{l:List PySem.Env}{a:BI}{o:Obj}(hl:h.FunFrames base l)(e:h.get? a=some o)(d:o.data=.fields vs):a∉frs l:=fun hm=>by
 obtain⟨_,o',e',nf⟩:=hl.mem hm
 rw[e] at e'
 cases e'
 exact nf vs d
structure Left(fs:List BI)(no:List BI)(h h':Heap):Prop where
 keep:∀ b o,b∉fs->b∉no->h.get? b=some o->h'.get? b=some o
 slot:∀ b o,b∈fs->h.get? b=some o->∃ sl,h'.get? b=some { o with slots:=sl }
def Gr2(f:Array BG->Array BG)(o:Obj):(Obj.mapFields f o).dict=o.dict:=by
 obtain⟨c,d,dt,sl⟩:=o
 cases dt<;>rfl
def Hbj{e:BI}{oe:Obj}{head a0:BG}{hn:Bool}(hfr:A.frames=some (env::outer))(hl:s.heap.FunFrames base (env::outer))(hf:env.frame=some L)(he:s.heap.get? e=some oe)(hc:oe.cls=.ref C/\oe.dict=dx)(hd:oe.data=.fields vs)(hz:1<vs.size)(h0:vs[0]?=some a0/\(dx=none->vs[2]?=some .none))(hq:∀ h' T,Gx0 (rawInt L) h' e T C dx->s.heap.get? T=none->Left (frs (env::outer)) [e] s.heap h'->Q () { s with heap:=h' }):
  wpAny M A (frameOf env >>= fun a=>entryPlaceOf L hn >>= fun pl=>EntryCells.newEntry head a .none (rawInt L) .none pl >>= fun b=>setField (.ref e) 1 b) Q E s:=by
 have nf:=Ghd hl he hd
 refine wpAny_bind (wpAny_frameOf_fun hfr hl hf fun h1 so=>wpAny_bind (wpAny_entryPlaceOf fun pl ip=>?_))
 obtain⟨sz,so1,so2⟩:=so
 have g1:h1.get? e=some oe:=(so1 e nf).trans he
 unfold EntryCells.newEntry newFields
 refine wpAny_bind (wpAny_newObj_type ?_ (ip.sizeOk5 _ _ _ _ _))
 generalize hT:({ cls:=.type "traceback",dict:=none,data:=.fields ([head,.ref L,.none,rawInt L,.none]++(if pl.isEmpty then List.replicate 6 Value.none else pl)).toArray }:Obj)=oT
 have g2:=Ap (h:=h1) oT g1
 have nT:h1.objs.size≠e:=Bp (Ag g1)
 refine wpAny_setField g2 hd hz ?_
 have d3:=Obj.data_mapFields hd (·.setIfInBounds 1 (Value.ref h1.objs.size))
 have g3:=A1 (Obj.mapFields (·.setIfInBounds 1 (Value.ref h1.objs.size))) g2 (Obj.isFreed_of_fields d3)
 have t3:((h1.push oT).update e (Obj.mapFields (·.setIfInBounds 1 (Value.ref h1.objs.size)))).get? h1.objs.size=some oT:=(AL _ _ (Ne.symm nT)).trans (AF h1 (by rw[<- hT]; rfl))
 have kp:∀ b o,b≠e->h1.get? b=some o->((h1.push oT).update e (Obj.mapFields (·.setIfInBounds 1 (Value.ref h1.objs.size)))).get? b=some o:=fun b o hb q=>by
  rw[AL _ _ (Ne.symm hb)]
  exact Ap _ q
 refine hq _ h1.objs.size ⟨_,_,oT,_,a0,g3,⟨(Obj.cls_mapFields _ _).trans hc.1,?_,?_⟩,d3,by simp[hz],nT,t3,by rw[<- hT],?_⟩ ?_ ⟨fun b o hb hn q=>kp b o (by simpa using hn) ((so1 b hb).trans q),fun b o hb q=>?_⟩
 ·rw[<- hc.2]
  exact Gr2 _ _
 ·rw[Array.getElem?_setIfInBounds_ne (by decide),Array.getElem?_setIfInBounds_ne (by decide)]; exact h0
 ·first | (simp; done) | (rcases ip with rfl | ⟨_,_,_,_,_,_,_,rfl⟩<;>simp)
 ·exact AZ (by rw[sz]; exact Ac _)
 ·obtain⟨sl,q'⟩:=so2 b o q
  exact⟨sl,kp b _ (fun z=>nf (by rw[<- z]; exact hb)) q'⟩
def fltD{e T:BI}{fl:BG}(f:Gx0 fl s.heap e T C dx)(hq:∀ h',Fly h' e T C dx->(∀ b o,b≠T->s.heap.get? b=some o->h'.get? b=some o)->Q () { s with heap:=h' }):wpAny M A (setFlight (.ref e) none) Q E s:=by
 obtain⟨oe,vs,oT,ts,a0,e1,e2,e3,e4,e5,e6,e7,e8⟩:=f
 have h3:3<ts.size:=(Array.getElem?_eq_some_iff.mp e8).1
 refine wpAny_setFlight_none e1 e3 e4 e6 e7 h3 (hq _ ⟨oe,vs,_,_,a0,by rw[AL _ _ e5]; exact e1,e2,e3,e4,e5,A1 _ e6 (Obj.isFreed_of_fields (Obj.data_mapFields e7 _)),Obj.data_mapFields e7 _,by simp[h3]⟩ fun b o hb q=>by rw[AL _ _ (Ne.symm hb)]; exact q)
def Gun{e:BI}(hfr:A.frames=some (env::outer))(hl:s.heap.FunFrames base (env::outer))(hf:env.frame=some L)(fx:Gbn s.heap e C dx)(hq:∀ h' T,Fly h' e T C dx->s.heap.get? T=none->Left (frs (env::outer)) [e] s.heap h'->Q () { s with heap:=h' }):wpAny M A (noteFrame (.ref e) env) (fun _ s₂=>wpAny M A (setFlight (.ref e) none) Q E s₂) E s:=by
 obtain⟨t,c,k,u,he,hc⟩:=fx
 unfold noteFrame
 simp only[hf]
 refine wpAny_bind (wpAny_field he rfl rfl ?_)
 show wpAny M A (if(Value.none != Value.none)=true then _ else _) _ _ _
 rw[if_neg (show¬ ((Value.none != Value.none)=true) from by decide)]
 refine Hbj hfr hl hf he ⟨rfl,rfl⟩ rfl (by simp) ⟨rfl,fun z=>by rw[hc z]; rfl⟩ fun h1 T f1 hT lf=>fltD (s:={ s with heap:=h1 }) f1 fun h' f2 kp=>hq h' T f2 hT ⟨fun b o hb hn q=>kp b o (fun z=>by rw[z,hT] at q; cases q) (lf.keep b o hb hn q),fun b o hb q=>?_⟩
 obtain⟨sl,q'⟩:=lf.slot b o hb q
 exact⟨sl,kp b _ (fun z=>by rw[z,hT] at q; cases q) q'⟩
def Guo{a T:BI}(hfr:A.frames=some (env::outer))(hl:s.heap.FunFrames base (env::outer))(hf:env.frame=some L)(fl:Fly s.heap a T C dx)(hq:∀ h' T',Fly h' a T' C dx->(s.heap.get? T'=none\/T'=T)->Left (frs (env::outer)) [a,T] s.heap h'->Q () { s with heap:=h' }):wpAny M A (noteFrame (.ref a) env) (fun _ s₂=>wpAny M A (setFlight (.ref a) none) Q E s₂) E s:=by
 obtain⟨oe,vs,oT,ts,a0,e1,⟨c1,c2,c3⟩,e3,e4,e5,e6,e7,e8⟩:=fl
 have h3:3<ts.size:=(Array.getElem?_eq_some_iff.mp e8).1
 have nfT:=Ghd hl e6 e7
 unfold noteFrame
 simp only[hf]
 refine wpAny_bind (wpAny_field e1 e3 e4 ?_)
 rw[if_pos (show(Value.ref T != Value.none)=true from by simp)]
 refine wpAny_bind (wpAny_field e6 e7 e8 ?_)
 rw[if_neg (show¬ ((Value.none==rawInt L)=true) from by simp[rawInt])]
 refine wpAny_bind (wpAny_setField e6 e7 h3 ?_)
 have ot:∀ b,b≠T->(s.heap.update T (Obj.mapFields (·.setIfInBounds 3 Value.none))).get? b=s.heap.get? b:=fun b hb=>AL _ _ (Ne.symm hb)
 have tt:=A1 (Obj.mapFields (·.setIfInBounds 3 Value.none)) e6 (Obj.isFreed_of_fields (Obj.data_mapFields e7 _))
 have hl2:(s.heap.update T (Obj.mapFields (·.setIfInBounds 3 Value.none))).FunFrames base (env::outer):=hl.of_keeps fun b o q nf=>⟨o,(ot b fun z=>by rw[z,e6] at q; cases q; exact nf ts e7).trans q,rfl⟩
 refine Hbj (s:={ s with heap:=s.heap.update T (Obj.mapFields (·.setIfInBounds 3 Value.none)) }) hfr hl2 hf ((ot a (Ne.symm e5)).trans e1) ⟨c1,c2⟩ e3 (Array.getElem?_eq_some_iff.mp e4).1 c3 fun h1 T1 f1 hT lf=>fltD (s:={ s with heap:=h1 }) f1 fun h' f2 kp=>hq h' T1 f2 (.inl ?_) ⟨fun b o hb hn q=>?_,fun b o hb q=>?_⟩
 ·cases z:s.heap.get? T1 with
  | none=>rfl
  | some o=>
   by_cases c:T1=T
   ·rw[c] at hT
    rw[show(s.heap.update T (Obj.mapFields (·.setIfInBounds 3 Value.none))).get? T=_ from tt] at hT
    cases hT
   ·rw[show(s.heap.update T (Obj.mapFields (·.setIfInBounds 3 Value.none))).get? T1=_ from ot T1 c,z] at hT
    cases hT
 ·simp only[Af,AG,or_false,not_or] at hn
  have q1:(s.heap.update T (Obj.mapFields (·.setIfInBounds 3 Value.none))).get? b=some o:=(ot b hn.2).trans q
  exact kp b o (fun z=>by rw[z] at q1; rw[show _=none from hT] at q1; cases q1) (lf.keep b o hb (by simpa using hn.1) q1)
 ·have nb:b≠T:=fun z=>nfT (by rw[<- z]; exact hb)
  have q1:(s.heap.update T (Obj.mapFields (·.setIfInBounds 3 Value.none))).get? b=some o:=(ot b nb).trans q
  obtain⟨sl,q'⟩:=lf.slot b o hb q1
  exact⟨sl,kp b _ (fun z=>by rw[z] at q1; rw[show _=none from hT] at q1; cases q1) q'⟩
def Gx1{e:BI}(hfr:A.frames=some (env::outer))(hl:s.heap.FunFrames base (env::outer))(hf:env.frame=some L)(fx:Gbn s.heap e C dx)(hq:∀ h' T,Fly h' e T C dx->s.heap.get? T=none->Left (frs (env::outer)) [e] s.heap h'->Q () { s with heap:=h' }):wpAny M A (leaving env (.ref e)) Q E s:=by
 unfold leaving
 exact wpAny_bind (Gun hfr hl hf fx hq)
def Gx2{a T:BI}(hfr:A.frames=some (env::outer))(hl:s.heap.FunFrames base (env::outer))(hf:env.frame=some L)(fl:Fly s.heap a T C dx)(hq:∀ h' T',Fly h' a T' C dx->(s.heap.get? T'=none\/T'=T)->Left (frs (env::outer)) [a,T] s.heap h'->Q () { s with heap:=h' }):wpAny M A (leaving env (.ref a)) Q E s:=by
 unfold leaving
 exact wpAny_bind (Guo hfr hl hf fl hq)
end
noncomputable def del(H:Hp)(a:BI):Hp:=fun b=>if b=a then none else H b
def Uq{a:BI}:del H a a=none:=if_pos rfl
def Uz{a b:BI}(h:b≠a):del H a b=H b:=if_neg h
def Glq{a:BI}{o:HO}(x:Kh P w H h a o):∃ u,h.get? a=some u:=by
 cases o with
 | lst xs=>obtain⟨_,_,_,_,e⟩:=x; exact⟨_,e⟩
 | tup xs=>obtain⟨_,_,_,ob,e,_⟩:=x; exact⟨_,e⟩
 | dK kvs=>obtain⟨_,_,_,_,o,_,_,e,_⟩:=x; exact⟨_,e⟩
 | dT kvs=>obtain⟨_,_,_,_,o,_,_,e,_⟩:=x; exact⟨_,e⟩
 | set S n=>obtain⟨o,_,_,_,e,_⟩:=x; exact⟨_,e⟩
 | ins C dx fs=>obtain⟨_,_,_,e,_⟩:=x; exact⟨_,e⟩
 | own y=>obtain⟨_,e⟩:=x; exact⟨_,e⟩
 | xd fs=>obtain⟨_,⟨_,_,_,e,_⟩,_⟩:=x; exact⟨_,e⟩
 | rng lo hi=>obtain⟨_,_,_,e⟩:=x; exact⟨_,e⟩
 | frz ob u=>obtain⟨e,_⟩:=x; exact⟨_,e⟩
 | tbl ps=>exact⟨_,(show h.get? a=some _ from x)⟩
 | met f y=>exact⟨_,(show h.get? a=some _ from x)⟩
 | ext φ=>obtain⟨_,⟨_,e⟩,_⟩:=x; exact⟨_,e⟩
def Gaq{a:BI}(k:HOk P w H h)(e:h.get? a=none):H a=none:=by
 cases z:H a with
 | none=>rfl
 | some o=>
  obtain⟨u,q⟩:=Glq (k a o z)
  rw[e] at q
  cases q
def CXe(P:BK)(w:World):CXT:=fun outer H s E e s'=>∃ a T C dx H',e=.ref a/\s'.os=s.os/\AllBare s'.gens/\Un (frs outer) [] H H' s.heap s'.heap/\HOk P w H' s'.heap/\Fly s'.heap a T C dx/\(H' a=none/\H' T=none)/\(s.heap.get? a=none/\s.heap.get? T=none)/\E (.ref C) dx H'
def hok_left{h':Heap}{fs no:List BI}(k:HOk P w H h)(l:Left fs no h h')(hf:∀ b∈fs,H b=none)(hn:∀ b∈no,H b=none):HOk P w H h':=fun b o e=>by
 refine(k b o e).stay (fun c u hc q=>l.keep c u (fun z=>?_) (fun z=>?_) q) (fun _ q=>q) fun _ _ q=>q
 ·have:=hf c z
  rcases hc with rfl | hc
  ·rw[e] at this; cases this
  ·rw[hc] at this; cases this
 ·have:=hn c z
  rcases hc with rfl | hc
  ·rw[e] at this; cases this
  ·rw[hc] at this; cases this
def Gjp{a:BI}(k:HOk P w H h)(ha:H a=some (.ext φ)):HOk P w (del H a) h:=fun b o e=>by
 have nb:b≠a:=fun z=>by rw[z,Uq] at e; cases e
 rw[Uz nb] at e
 refine(k b o e).stay (fun c u _ q=>q) (fun c q=>?_) fun c xs q=>?_
 ·rw[Uz (fun z=>by rw[z,ha] at q; cases q)]; exact q
 ·rw[Uz (fun z=>by rw[z,ha] at q; cases q)]; exact q
def Gjq{fs no:List BI}{L:BI}{H':Hp}{h1 h2:Heap}(u:Un fs [] H H1 h h1)(l:Left (L::fs) no h1 h2)(hL:h.get? L=none)(hno:∀ b∈no,h.get? b=none)(fr:∀ b,H1 b=none->H' b=none)(tp:∀ b xs,H1 b=some (.tup xs)->H' b=some (.tup xs))(fz:∀ b o v,H1 b=some (.frz o v)->H' b=some (.frz o v))(tb:∀ b ps,H1 b=some (.tbl ps)->H' b=some (.tbl ps)):Un fs [] H H' h h2:=by
 have nL:∀ b o,h.get? b=some o->b≠L:=fun b o e z=>by rw[z,hL] at e; cases e
 have nN:∀ b o,h.get? b=some o->b∉no:=fun b o e z=>by rw[hno b z] at e; cases e
 refine⟨fun b o e n hb hx=>?_,fun b o e n hb hx=>?_,fun b o e n hx=>fr b (u.free b o e n hx),fun b o e hx=>?_,fun b xs e=>tp b xs (u.tups b xs e),fun b o v e=>fz b o v (u.frzs b o v e),fun b ps e=>?_⟩
 ·refine l.keep b o (fun z=>?_) (nN b o e) (u.keep b o e n hb hx)
  rcases Af.mp z with z | z
  ·exact nL b o e z
  ·exact hb z
 ·obtain⟨sl,q⟩:=u.slot b o e n hb hx
  obtain⟨sl',q'⟩:=l.slot b _ (Au _ hb) q
  exact⟨sl',q'⟩
 ·obtain⟨o',q⟩:=u.there b o e hx
  by_cases c:b∈L::fs
  ·obtain⟨sl,q'⟩:=l.slot b o' c q
   exact⟨_,q'⟩
  ·exact⟨o',l.keep b o' c (nN b o e) q⟩
 ·obtain⟨more,q⟩:=u.tbls b ps e
  exact⟨more,tb b _ q⟩
section
variable{P:BK}{w:World}{K:BE}{mg:Str->BJ BG}{base:Heap}{N:List Str}{qual:Str}{scope:Scope}{f:BI}{cd:BG}{A:Around}{outer:List PySem.Env}{s:BH}{H:Hp}{E:XK}
def Yp{fs:List BI}{H0:Hp}{h0 h1:Heap}{b:BI}(u:Un fs [] H0 H1 h0 h1)(e:h1.get? b=none):h0.get? b=none:=by
 cases z:h0.get? b with
 | none=>rfl
 | some o=>
  obtain⟨o',q⟩:=u.there b o z (by simp)
  rw[e] at q
  cases q
def Gnu{s1:BH}{e:BI}(I:Inv (Ud (CXe P w) P w K mg base N qual scope f cd A outer s H E) pins Z H1 s1)(hH:H1 e=some (.ext φ))(fr:Gbn s1.heap e C dx)(le:s.heap.get? e=none)(hE:E (.ref C) dx (del H1 e)):
  (Ud (CXe P w) P w K mg base N qual scope f cd A outer s H E).xe (.ref e) s1:=by
 show wpAny (model P w) _ (leaving (envOfC qual scope s.heap.objs.size f cd) (.ref e)) _ _ s1
 have hL:s.heap.get? s.heap.objs.size=none:=AZ (Ac _)
 refine Gx1 (base:=base) I.ok.frames I.stack rfl fr fun h' T fl hT lf=>?_
 have hT1:H1 T=none:=Gaq I.hok hT
 have dn:∀ b,H1 b=none->del H1 e b=none:=fun b q=>by
  by_cases c:b=e
  ·rw[c,Uq]
  ·rw[Uz c]; exact q
 have ne_of_kind:∀ {b:BI} {o:HO},H1 b=some o->o≠.ext φ->b≠e:=fun q n z=>n (by rw[z,hH] at q; exact(Ab q).symm)
 refine⟨e,T,C,dx,del H1 e,rfl,I.os,I.bare,Gjq (L:=s.heap.objs.size) I.base lf hL (fun b hb=>?_) dn (fun b xs q=>?_) (fun b o v q=>?_) (fun b ps q=>?_),hok_left (Gjp I.hok hH) lf (fun b hb=>dn b (I.stkFree b hb)) (fun b hb=>?_),fl,⟨Uq,dn T hT1⟩,⟨le,Yp I.base hT⟩,hE⟩
 ·have:b=e:=by simpa using hb
  rw[this]; exact le
 ·rw[Uz (ne_of_kind q (by intro z; cases z))]; exact q
 ·rw[Uz (ne_of_kind q (by intro z; cases z))]; exact q
 ·rw[Uz (ne_of_kind q (by intro z; cases z))]; exact q
 ·have:b=e:=by simpa using hb
  rw[this]; exact Uq
def xe_on{s2 s3:BH}{e:BG}{E2:XK}(I:Inv (Ud (CXe P w) P w K mg base N qual scope f cd A outer s H E) pins Z H2 s2)(hx:CXe P w (Ud (CXe P w) P w K mg base N qual scope f cd A outer s H E).stack H2 s2 E2 e s3)(hE:∀ C dx H',E2 (.ref C) dx H'->E (.ref C) dx H'):
  (Ud (CXe P w) P w K mg base N qual scope f cd A outer s H E).xe e s3:=by
 obtain⟨a,T,C,dx,H',rfl,os,bare,un,hok,fly,⟨na,nT⟩,⟨oa,oT⟩,hE2⟩:=hx
 obtain⟨h3,g3,d3,t3,o3⟩:=s3
 obtain rfl:o3=s2.os:=os
 have I3:Inv (Ud (CXe P w) P w K mg base N qual scope f cd A outer s H E) pins Z H' { s2 with heap:=h3,gens:=g3,drawn:=d3,toks:=t3 }:=I.call (h':=h3) (g':=g3) (d':=d3) (t':=t3) (ch:=[]) un hok bare (fun b z=>absurd z (by simp))
 show wpAny (model P w) _ (leaving (envOfC qual scope s.heap.objs.size f cd) (.ref a)) _ _ _
 have hL:s.heap.get? s.heap.objs.size=none:=AZ (Ac _)
 have a0:s.heap.get? a=none:=Yp I.base oa
 have T0:s.heap.get? T=none:=Yp I.base oT
 refine Gx2 (base:=base) I3.ok.frames I3.stack rfl fly fun h' T' fl hT lf=>?_
 have nT':H' T'=none:=by
  rcases hT with hT | rfl
  ·exact Gaq hok hT
  ·exact nT
 have oT':s.heap.get? T'=none:=by
  rcases hT with hT | rfl
  ·exact Yp I3.base hT
  ·exact T0
 refine⟨a,T',C,dx,H',rfl,I3.os,bare,Gjq (L:=s.heap.objs.size) I3.base lf hL (fun b hb=>?_) (fun b q=>q) (fun b xs q=>q) (fun b o v q=>q) (fun b ps q=>q),hok_left hok lf (fun b hb=>I3.stkFree b hb) (fun b hb=>?_),fl,⟨na,nT'⟩,⟨a0,oT'⟩,hE _ _ _ hE2⟩
 ·simp only[Af,AG,or_false] at hb
  rcases hb with rfl | rfl
  ·exact a0
  ·exact T0
 ·simp only[Af,AG,or_false] at hb
  rcases hb with rfl | rfl
  ·exact na
  ·exact nT
end
def XF(H:Hp)(dx:BJ BI)(fl:BJ Int):Prop:=(∀ i,fl=some i->∃ d,dx=some d/\H d=some (XA d i))/\(fl=none->dx=none)
def Gr3:XF H none none:=⟨fun _ z=>(nomatch z),fun _=>rfl⟩
def WX(K:BE)(XQ:XW)(Z:L2.St)(C:BI)(dx:BJ BI)(H:Hp):Prop:=∃ x mp U S,XF H dx x.fld/\CN K x.cls C/\XQ x mp H Z U S
structure XL(X:Cx)(XQ:XW):Prop where
 own:∀ (pins:List (BI×Obj)) (Z:L2.St) (H:Hp) (s:BH) (e C:BI) (dx:BJ BI) (φ:Heap->Prop),Inv X pins Z H s->H e=some (.ext φ)->Gbn s.heap e C dx->X.s₀.heap.get? e=none->WX X.K XQ Z C dx (del H e)->X.xe (.ref e) s
 cal:∀ (pins:List (BI×Obj)) (Z:L2.St) (H:Hp) (s:BH) (e:BG) (s':BH) (E2:XK),Inv X pins Z H s->CXe X.prog X.w X.stack H s E2 e s'->(∀ C dx H',E2 (.ref C) dx H'->WX X.K XQ Z C dx H')->X.xe e s'
 pas:PassesOwn (model X.prog X.w) X.A X.env X.xe
 pat:∀ hd,PassesOwnAt (model X.prog X.w) (X.A.mark hd) X.A X.env X.xe
def XL.own1(L:XL X XQ)(pins:List (BI×Obj))(Z:L2.St)(H:Hp)(s:BH)(e C:BI)(dx:BJ BI)(I:Inv X pins Z H s)(hH:H e=some (FX e C dx))(h0:X.s₀.heap.get? e=none)(w:WX X.K XQ Z C dx (del H e)):X.xe (.ref e) s:=by
 obtain⟨fr,_,_⟩:=(show Kh X.prog X.w H s.heap e (FX e C dx) from I.hok e _ hH)
 exact L.own pins Z H s e C dx _ I hH fr.g h0 w
def Hbk(K:BE)(mp:List BI)(H:Hp)(o:Out D)(Q:VK)(E:XK):Prop:=
 match o with
 | .ok d S=>∀ mp' H' v,Aft K mp H mp' H'->RS K mp' H' S->Rep K mp' H' d v->Q v H'
 | .exc x S=>∃ C,CN K x.cls C/\∀ mp' H' dx,Aft K mp H mp' H'->RS K mp' H' S->XF H' dx x.fld->E (.ref C) dx H'
 | .bad=>False
def spX(K:BE)(n:Nat)(fn:Fn):Sp:=fun vs H Q E=>∃ mp ds S,RS K mp H S/\RepL K mp H ds vs/\ds.length=n/\Hbk K mp H (fn ds S) Q E
def XQd(K:BE)(E:XK):XW:=fun x _ H _ _ _=>∃ C,CN K x.cls C/\∀ dx,XF H dx x.fld->E (.ref C) dx H
section
variable{P:BK}{w:World}{K:BE}{mg:Str->BJ BG}{base:Heap}
def Gnv{f:BI}{cd:BG}{outer:List PySem.Env}{s:BH}{E:XK}:XL (Ud (CXe P w) P w K mg base N qual scope f cd A outer s H E) (XQd K E) where
 own:=fun pins Z H1 s1 e C dx φ I hH fr le ⟨x,mp,U,S,xf,hc,C',hc',hE⟩=>by
  cases CN.one hc hc'
  exact Gnu I hH fr le (hE dx xf)
 cal:=fun pins Z H2 s2 e s3 E2 I hx hE=>xe_on I hx fun C dx H' q=>by
  obtain⟨x,mp,U,S,xf,hc,C',hc',hE⟩:=hE C dx H' q
  cases CN.one hc hc'
  exact hE dx xf
 pas:=PassesOwn.leaving
 pat:=fun _=>PassesOwnAt.leaving
def Fun.okX{CX:CXT}{x:Str}{f:BI}{fd:FuncData}(F:Fun K x qual st f fd)(S:FnScope N ps (Gb st))(len:∀ vs H Q E,sp vs H Q E->vs.length=ps.length)(hbody:∀ (cdv:BG) (A:Around) (outer:List PySem.Env) (s:BH) (H:Hp) (vs:List V) (Q:VK) (E:XK),Room k (A.deeper (envOfC qual (Gb st) s.heap.objs.size f cdv))->sp vs H Q E→
   ∃ t,PSs (Ud CX P w K mg base N qual (Gb st) f cdv A outer s H E) (Gy st) t/\t { nx:=fun _ H'=>Q .non H',rt:=Q } (start N vs) H):FnOk P w K mg base CX (k+1) f fd ps sp:=by
 obtain⟨oc,od,kV,doc,pm,an,cdv,ct,osl,rfl,lk,hcd⟩:=F.ex
 exact Gmq lk hcd S len fun A outer s H vs Q E hr hsp=>hbody cdv A outer s H vs Q E hr hsp
def Gx3{x:Str}{f:BI}{fd:FuncData}{b:Sv}(F:Fun K x qual st f fd)(Sc:FnScope N ps (Gb st))(hb:∀ (cdv:BG) (A:Around) (outer:List PySem.Env) (s:BH) (H:Hp) (E:XK) (XQ:XW),Room k (A.deeper (envOfC qual (Gb st) s.heap.objs.size f cdv))->XL (Ud (CXe P w) P w K mg base N qual (Gb st) f cdv A outer s H E) XQ→
   JSs (Ud (CXe P w) P w K mg base N qual (Gb st) f cdv A outer s H E) XQ (Gy st) b):FnOk P w K mg base (CXe P w) (k+1) f fd ps (spX K ps.length (fnB N.length b)):=by
 refine Fun.okX F Sc (fun vs H Q E ⟨mp,ds,S,rs,r,hl,_⟩=>by rw[r.len]; exact hl) fun cdv A outer s H vs Q E hr ⟨mp,ds,S,rs,r,hl,p⟩=>?_
 refine⟨_,hb cdv A outer s H E (XQd K E) hr Gnv,mp,_,S,Gde rs r,?_⟩
 unfold fnB at p
 show PostS K _ mp H (b (ds.map some++List.replicate (N.length-ds.length) none) S) _
 cases z:b (ds.map some++List.replicate (N.length-ds.length) none) S with
 | rt d S'=>rw[z] at p; exact p
 | nx U' S'=>rw[z] at p; exact fun m h v af G=>p m h .non af G.rs rfl
 | bk U' S'=>rw[z] at p; exact p.elim
 | ct U' S'=>rw[z] at p; exact p.elim
 | exc x U' S'=>
  rw[z] at p
  obtain⟨C,hc,q⟩:=p
  exact fun m h v af G=>⟨C,hc,fun dx xf=>q m h dx af G.rs xf⟩
 | bad=>rw[z] at p; exact p.elim
structure CalX(P:BK)(w:World)(K:BE)(mg:Str->BJ BG)(base:Heap)(x:Str)(ps:List Str)(fn:Fn)(j:Nat):Prop where
 ex:∃ f fd,FnOk P w K mg base (CXe P w) j f fd ps (spX K ps.length fn)/\mg x=some (.ref f)/\PySem.W.keepIn K (.ref f)=true/\Binds K fd ps []
def Gr4{x:Str}(N:List Str)(k:Nat)(b:Sv)(hfn:fn=fnB N.length b)(d:Dn K mg x st ps)(Sc:FnScope N ps (Gb st))(hb:∀ (f:BI) (cdv:BG) (A:Around) (outer:List PySem.Env) (s:BH) (H:Hp) (E:XK) (XQ:XW),Room k (A.deeper (envOfC x (Gb st) s.heap.objs.size f cdv))->XL (Ud (CXe P w) P w K mg base N x (Gb st) f cdv A outer s H E) XQ→
   JSs (Ud (CXe P w) P w K mg base N x (Gb st) f cdv A outer s H E) XQ (Gy st) b):CalX P w K mg base x ps fn (k+1):=by
 subst hfn
 obtain⟨f,fd,F,hm,hbi⟩:=d.ex
 exact⟨f,fd,Gx3 F Sc (hb f),hm,F.kp,hbi⟩
end
section
variable{X:Cx}{XQ:XW}{k:Nat}{f:BI}{fd:FuncData}{ps:List Str}{fn:Fn}{x:Str}{p pos:Pos}{e:Expr}{es:List Expr}
def Gx4(sp:Sp)(Wx:L2.St->BI->BJ BI->Hp->Prop)(t:TA):TE:=fun Z H Q=>t Z H fun vs H1=>sp vs H1 Q fun c dx H'=>∃ C,c=.ref C/\Wx Z C dx H'
def Gjr{Wx:L2.St->BI->BJ BI->Hp->Prop}{s:BH}{Q:VK}{us:List BG}{vs:List V}(F:FnOk X.prog X.w X.K X.mg X.base (CXe X.prog X.w) k f fd ps sp)(hr:Room k X.A)(hb:Binds X.K fd ps [])(hx:∀ (pins:List (BI×Obj)) (Z:L2.St) (H:Hp) (s:BH) (e:BG) (s':BH) (E2:XK),Inv X pins Z H s->CXe X.prog X.w X.stack H s E2 e s'->(∀ C dx H',E2 (.ref C) dx H'->Wx Z C dx H')->X.xe e s')(I:Inv X pins Z H s)(r:Vals vs us)(h:sp vs H Q fun c dx H'=>∃ C,c=.ref C/\Wx Z C dx H'):wpAny (model X.prog X.w) X.A (call (.ref f) us) (EP X pins Z Q) X.xe s:=by
 have hl:us.length=ps.length:=by rw[<- r.length]; exact F.len _ _ _ _ h
 refine wpAny_call (codeAny_mono (F.run X.A X.stack s H ⟨us,[]⟩ us vs Q _ hr I.env0 (by have:=hb s us I.kIn (by simpa using hl); simpa using this) r h) fun r s' hq=>?_)
 cases r with
 | error e=>exact hx pins Z H s e s' (fun c dx H'=>∃ C,c=.ref C/\Wx Z C dx H') I hq fun C dx H' ⟨C',e1,q⟩=>by cases e1; exact q
 | ok fl=>
  cases fl with
  | ret u=>exact I.after hq
  | next=>exact False.elim hq
  | brk=>exact False.elim hq
  | cont=>exact False.elim hq
def Gnw{Wx:L2.St->BI->BJ BI->Hp->Prop}{t:TA}(F:FnOk X.prog X.w X.K X.mg X.base (CXe X.prog X.w) k f fd ps sp)(hr:Room k X.A)(hg:Gl X x)(hm:X.mg x=some (.ref f))(hk:PySem.W.keepIn X.K (.ref f)=true)(hb:Binds X.K fd ps [])(hx:∀ (pins:List (BI×Obj)) (Z:L2.St) (H:Hp) (s:BH) (e:BG) (s':BH) (E2:XK),Inv X pins Z H s->CXe X.prog X.w X.stack H s E2 e s'->(∀ C dx H',E2 (.ref C) dx H'->Wx Z C dx H')->X.xe e s')(ha:PA X (e::es) t)(hdb:(x==("__debug__":Str))=false:=by decide)(he:starEach (e::es) X.env=(false,eval e X.env)::starEach es X.env:=by rfl)(hpl:(backTo pos (starEach es X.env)).any (·.1)=false:=by rfl):
  PE X (.Call (.Name x p) (e::es) [] pos) (Gx4 sp Wx t):=by
 intro pins s Z H Q I h
 refine wpAny_Call_Name_kw (Zm I hg hm ?_ hdb)
 refine PySem.W.callWith_K (h₀:=X.base) I.ok.mod.kin hk (thn (ha pos pins s Z H _ I h) fun us s1 ⟨vs,H1,I1,r,q⟩=>⟨I1.kIn,?_⟩) he hpl
 exact Gjr F hr hb hx I1 r q
noncomputable def gX(ys:List Str)(fn:Fn):Fn:=fun ds S=>match fn ds S with
 | .ok d S'=>.ok d S'
 | .exc x S'=>if x.cls∈ys then .exc x S' else .bad
 | .bad=>.bad
def XNs(K:BE)(ys:List Str):Prop:=∀ y∈ys,∃ C,CN K y C/\XCl K C
def Gnx{ys:List Str}(xs:XNs X.K ys)(L:XL X XQ)(F:FnOk X.prog X.w X.K X.mg X.base (CXe X.prog X.w) j f fd ps (spX X.K ps.length fn))(hr:Room k X.A)(hj:j<=k)(hg:Gl X x)(hm:X.mg x=some (.ref f))(hk:PySem.W.keepIn X.K (.ref f)=true)(hb:Binds X.K fd ps [])(ha:JA X XQ (e::es) t)(hdb:(x==("__debug__":Str))=false:=by decide)(he:starEach (e::es) X.env=(false,eval e X.env)::starEach es X.env:=by rfl)(hpl:(backTo pos (starEach es X.env)).any (·.1)=false:=by rfl):
  JE X XQ (.Call (.Name x p) (e::es) [] pos) (cl ps.length (gX ys fn) t):=by
 refine PE.mono (Gnw (Wx:=WX X.K XQ) (F.mono hj) hr hg hm hk hb L.cal ha hdb he hpl) fun Z H Q ⟨mp,U,S,G,p⟩=>?_
 refine bindP G p fun mp1 H1 ds S1 vs a1 G1 r1 p1=>?_
 by_cases hl:ds.length=ps.length
 ·rw[if_pos hl] at p1
  refine⟨mp1,ds,S1,G1.rs,r1,hl,?_⟩
  unfold gX at p1
  cases z:fn ds S1 with
  | ok d S'=>rw[z] at p1; exact p1
  | exc xx S'=>
   rw[z] at p1
   by_cases hi:xx.cls∈ys
   ·have p1:Gj X.K (Rep X.K) XQ Z U mp1 H1 (.exc xx S') Q:=by simpa only[if_pos hi] using p1
    obtain⟨C,hC,_⟩:=xs _ hi
    refine⟨C,hC,fun mp' H' dx af rs xf=>⟨C,rfl,xx,mp',U,S',xf,hC,p1 mp' H' af (G1.aft af rs)⟩⟩
   ·have p1:Gj X.K (Rep X.K) XQ Z U mp1 H1 .bad Q:=by simpa only[if_neg hi] using p1
    exact p1.elim
  | bad=>rw[z] at p1; exact p1.elim
 ·rw[if_neg hl] at p1; exact p1.elim
def Hbl{ys:List Str}(xs:XNs X.K ys)(L:XL X XQ)(C:CalX X.prog X.w X.K X.mg X.base x ps fn j)(hr:Room k X.A)(hg:Gl X x)(hp:Gs x=true)(ha:JA X XQ (e::es) t)(hn:ps.length=n:=by rfl)(hj:j<=k:=by decide)(he:starEach (e::es) X.env=(false,eval e X.env)::starEach es X.env:=by rfl)(hpl:(backTo pos (starEach es X.env)).any (·.1)=false:=by rfl):
  JE X XQ (.Call (.Name x p) (e::es) [] pos) (cl n (gX ys fn) t):=by
 subst hn
 obtain⟨f,fd,F,hm,hk,hb⟩:=C.ex
 exact Gnx xs L F hr hj hg hm hk hb ha (Gs.of hp).1 he hpl
def srs(y:Str)(f:Ev (List D)):Sv:=fun U S=>bindS (f U S) U fun ds S1=>match ds with
 | [_]=>.exc ⟨y,none⟩ U S1
 | _=>.bad
structure ClX(P:BK)(w:World)(K:BE)(mg:Str->BJ BG)(base:Heap)(x:Str)(j:Nat):Prop where
 ex:∃ C f fd ps oI,mg x=some (.ref C)/\CN K x C/\KX K C/\PySem.W.findIn K (.ref C) "__init__"=some (some (.ref f))/\K.lookup f=some oI/\oI.cls=.type "function"/\FnOk P w K mg base CX0 j f fd ps (spI K)/\ps.length=2/\Binds K fd ps []
def Gny{pos:Pos}(L:XL X XQ)(hcm:X.calm=true)(C:ClX X.prog X.w X.K X.mg X.base x j)(hr:Room k X.A)(hg:Gl X x)(hp:Gs x=true)(ha:JA X XQ [a] t)(hj:j+1<=k:=by decide)(he:starEach [a] X.env=(false,eval a X.env)::starEach [] X.env:=by rfl)(hpl:(backTo cpos (starEach [] X.env)).any (·.1)=false:=by rfl):
  JS X XQ (.Raise (some (.Call (.Name x np) [a] [] cpos)) none pos) (srs x t):=by
 obtain⟨C,f,fd,ps,oI,hm,hc,kx,hi,lf,hfc,F,hl,hb⟩:=C.ex
 refine PS.mono (Gnt (W:=fun Z H e=>WX X.K XQ Z C none (del H e)) (fun pins Z H e s' I hH h0 w=>L.own1 pins Z H s' e C none I hH h0 w) hcm hg hm kx hi lf hfc F hl (hr.mono hj) hb ha (Gs.of hp).1 he hpl) fun E Z H ⟨mp,U,S,G,p⟩=>?_
 refine bindSP G p fun mp1 H1 ds S1 vs a1 G1 r1 p1=>?_
 split at p1
 ·obtain⟨v,rfl,_⟩:=RepL.one r1
  refine⟨v,rfl,fun e he=>⟨⟨x,none⟩,mp1,U,S1,Gr3,hc,?_⟩⟩
  have e1:del (upd H1 e (FX e C none)) e=H1:=by
   funext b
   by_cases c:b=e
   ·rw[c,Uq,he]
   ·rw[Uz c,Gm c]
  rw[e1]
  exact p1 mp1 H1 Z .refl G1
 ·exact p1.elim
end
structure Plain(X:Cx):Prop where
 stk:X.stack=X.env::X.outer
 fr:X.env.frame=some X.env.locals
 ex:X.ex=[]
structure Landed(X:Cx)(pins:List (BI×Obj))(Z:L2.St)(H:Hp)(a C:BI)(dx:BJ BI)(s:BH):Prop where
 ex:∃ T,Inv X pins Z H s/\Fly s.heap a T C dx/\(H a=none/\H T=none)/\(X.s₀.heap.get? a=none/\X.s₀.heap.get? T=none)/\∀ p∈X.pn++pins,p.1≠a/\p.1≠T
section
variable{X:Cx}{pins:List (BI×Obj)}{Z:L2.St}{H:Hp}{s:BH}{A:Around}{E:BG->BH->Prop}{Q:Unit->BH->Prop}{M:Model}
def Plain.old{b:BI}(pl:Plain X)(I:Inv X pins Z H s)(e:s.heap.get? b=none):X.s₀.heap.get? b=none:=by
 have u:=I.base
 rw[pl.ex] at u
 exact Yp u e
def own_land{e:BI}(pl:Plain X)(I:Inv X pins Z H s)(hH:H e=some (.ext φ))(fr:Gbn s.heap e C dx)(le:X.s₀.heap.get? e=none)(hq:∀ s',Landed X pins Z (del H e) e C dx s'->Q () s'):
  wpAny M X.A (noteFrame (.ref e) X.env) (fun _ s₂=>wpAny M X.A (setFlight (.ref e) none) Q E s₂) E s:=by
 have hfr:X.A.frames=some (X.env::X.outer):=by rw[I.ok.frames,pl.stk]
 have hl:s.heap.FunFrames X.base (X.env::X.outer):=by rw[<- pl.stk]; exact I.stack
 refine Gun hfr hl pl.fr fr fun h' T fl hT lf=>hq _ ?_
 have dn:∀ b,H b=none->del H e b=none:=fun b q=>by
  by_cases c:b=e
  ·rw[c,Uq]
  ·rw[Uz c]; exact q
 have nk:∀ {b:BI} {o:HO},H b=some o->o≠.ext φ->b≠e:=fun q n z=>n (by rw[z,hH] at q; exact(Ab q).symm)
 have ne0:∀ b,H b=none->b≠e:=fun b q z=>by rw[z,hH] at q; cases q
 rw[<- pl.stk] at lf
 have un:Un (frs X.stack) [] H (del H e) s.heap h':=⟨fun b o q n hb _=>lf.keep b o hb (fun z=>ne0 b n (by simpa using z)) q,fun b o q n hb _=>lf.slot b o hb q,fun b o q n _=>dn b n,fun b o q _=>by
   by_cases c:b∈frs X.stack
   ·obtain⟨sl,q'⟩:=lf.slot b o c q
    exact⟨_,q'⟩
   ·by_cases c2:b=e
    ·subst c2
     obtain⟨oe,_,_,_,_,z,_⟩:=fl
     exact⟨_,z⟩
    ·exact⟨o,lf.keep b o c (by simpa using c2) q⟩,
  fun b xs q=>by rw[Uz (nk q (by intro z; cases z))]; exact q,fun b o v q=>by rw[Uz (nk q (by intro z; cases z))]; exact q,fun b ps q=>⟨#[],by rw[Uz (nk q (by intro z; cases z)),q]; simp⟩⟩
 have hk:HOk X.prog X.w (del H e) h':=hok_left (Gjp I.hok hH) lf (fun b hb=>dn b (I.stkFree b hb)) (fun b hb=>by
  have:b=e:=by simpa using hb
  rw[this]; exact Uq)
 refine⟨T,?_,fl,⟨Uq,dn T (Gaq I.hok hT)⟩,⟨le,pl.old I hT⟩,fun p hp=>?_⟩
 ·have J:=I.call (h':=h') (g':=s.gens) (d':=s.drawn) (t':=s.toks) (ch:=[]) un hk I.bare (fun b z=>absurd z (by simp))
  exact J
 ·obtain⟨q1,q2,_⟩:=I.pin p hp
  refine⟨ne0 _ q2,fun z=>?_⟩
  rw[z,hT] at q1
  cases q1
def call_land{E2:XK}{e:BG}{s':BH}(pl:Plain X)(I:Inv X pins Z H s)(hx:CXe X.prog X.w X.stack H s E2 e s')(hq:∀ a C dx H' s'',e=.ref a->E2 (.ref C) dx H'->Landed X pins Z H' a C dx s''->Q () s''):
  wpAny M X.A (noteFrame e X.env) (fun _ s₂=>wpAny M X.A (setFlight e none) Q E s₂) E s':=by
 obtain⟨a,T,C,dx,H',rfl,os,bare,un,hok,fly,⟨na,nT⟩,⟨oa,oT⟩,hE2⟩:=hx
 obtain⟨h3,g3,d3,t3,o3⟩:=s'
 obtain rfl:o3=s.os:=os
 have I3:Inv X pins Z H' { s with heap:=h3,gens:=g3,drawn:=d3,toks:=t3 }:=I.call (h':=h3) (g':=g3) (d':=d3) (t':=t3) (ch:=[]) un hok bare (fun b z=>absurd z (by simp))
 have hfr:X.A.frames=some (X.env::X.outer):=by rw[I.ok.frames,pl.stk]
 have hl:h3.FunFrames X.base (X.env::X.outer):=by rw[<- pl.stk]; exact I3.stack
 refine Guo (s:={ s with heap:=h3,gens:=g3,drawn:=d3,toks:=t3 }) hfr hl pl.fr fly fun h' T' fl hT lf=>hq a C dx H' _ rfl hE2 ?_
 rw[<- pl.stk] at lf
 have nn:∀ b o,s.heap.get? b=some o->b∉[a,T]:=fun b o q z=>by
  simp only[Af,AG,or_false] at z
  rcases z with rfl | rfl
  ·rw[oa] at q; cases q
  ·rw[oT] at q; cases q
 have un2:Un (frs X.stack) [] H H' s.heap h':=⟨fun b o q n hb hx=>lf.keep b o hb (nn b o q) (un.keep b o q n hb hx),fun b o q n hb hx=>by
   obtain⟨sl,q1⟩:=un.slot b o q n hb hx
   obtain⟨sl',q2⟩:=lf.slot b _ hb q1
   exact⟨sl',q2⟩,un.free,fun b o q hx=>by
   obtain⟨o',q1⟩:=un.there b o q hx
   by_cases c:b∈frs X.stack
   ·obtain⟨sl,q2⟩:=lf.slot b o' c q1
    exact⟨_,q2⟩
   ·exact⟨o',lf.keep b o' c (nn b o q) q1⟩,un.tups,un.frzs,un.tbls⟩
 have nT':H' T'=none:=by
  rcases hT with hT | rfl
  ·exact Gaq hok hT
  ·exact nT
 have oT':X.s₀.heap.get? T'=none:=by
  rcases hT with hT | rfl
  ·exact pl.old I3 hT
  ·exact pl.old I oT
 have hk:HOk X.prog X.w H' h':=hok_left hok lf (fun b hb=>I3.stkFree b hb) (fun b hb=>by
  simp only[Af,AG,or_false] at hb
  rcases hb with rfl | rfl
  ·exact na
  ·exact nT)
 refine⟨T',?_,fl,⟨na,nT'⟩,⟨pl.old I oa,oT'⟩,fun p hp=>?_⟩
 ·have J:=I.call (h':=h') (g':=g3) (d':=d3) (t':=t3) (ch:=[]) un2 hk bare (fun b z=>absurd z (by simp))
  exact J
 ·obtain⟨q1,q2,_⟩:=I.pin p hp
  obtain⟨q3,_,_⟩:=I3.pin p hp
  refine And.intro (fun z=>?_) (fun z=>?_)
  ·rw[z,oa] at q1; cases q1
  rcases hT with hT | rfl
  ·rw[z] at q3
   rw[show h3.get? T'=none from hT] at q3
   cases q3
  ·rw[z,oT] at q1; cases q1
end
section
variable{X:Cx}{pins:List (BI×Obj)}{Z:L2.St}{H:Hp}{s:BH}{A:Around}{E:BG->BH->Prop}{Q:Unit->BH->Prop}{M:Model}
def Gr5{it:BI}{h':Heap}(I:Inv X pins Z H s)(k:∀ b o,b≠it->s.heap.get? b=some o->h'.get? b=some o)(there:∃ o,h'.get? it=some o)(hn:H it=none)(hL:it≠X.env.locals)(h0:X.s₀.heap.get? it=none)(h2:∀ x c,X.env.cells.lookup x=some c->c≠it)(h3:∀ p∈X.pn++pins,p.1≠it):Inv X pins Z H { s with heap:=h' }:=by
 have n0:∀ b o,X.s₀.heap.get? b=some o->b≠it:=fun b o e z=>by rw[z,h0] at e; cases e
 have nit:∀ b u,H b=some u->b≠it:=fun b u e z=>by rw[z,hn] at e; cases e
 have ce:∀ x c,X.env.cells.lookup x=some c->∀ v,s.heap.IsCell c v->h'.IsCell c v:=fun x c e v ⟨o,ho,hd⟩=>⟨o,k c o (h2 x c e) ho,hd⟩
 refine⟨I.ok,I.os,I.bare,⟨fun b o e n hb hx=>k b o (n0 b o e) (I.base.keep b o e n hb hx),fun b o e n hb hx=>?_,I.base.free,fun b o e hx=>?_,I.base.tups,I.base.frzs,I.base.tbls⟩,?_,fun x c e=>?_,I.free,I.freeC,fun p hp=>?_,fun b u e=>?_,I.len⟩
 ·obtain⟨sl,q⟩:=I.base.slot b o e n hb hx
  exact⟨sl,k b _ (n0 b o e) q⟩
 ·obtain⟨o',q⟩:=I.base.there b o e hx
  exact⟨o',k b o' (n0 b o e) q⟩
 ·obtain⟨m,⟨o,es,ep,ho,r⟩,hl⟩:=I.loc
  refine⟨m,⟨o,es,ep,k _ o (Ne.symm hL) ho,r⟩,fun i x v e1 e2 e3=>?_⟩
  obtain⟨u,r,l⟩:=hl i x v e1 e2 e3
  refine⟨u,r,?_⟩
  rcases l with l | ⟨kk,c,e,z⟩
  ·exact .inl l
  ·exact .inr ⟨kk,c,e,ce x c e _ z⟩
 ·obtain⟨v,z⟩:=I.cell x c e
  exact⟨v,ce x c e v z⟩
 ·obtain⟨q1,q2,q3,q4,q5⟩:=I.pin p hp
  exact⟨k _ _ (h3 p hp) q1,q2,q3,q4,q5⟩
 ·refine(I.hok b u e).stay (fun c v hc q=>k c v ?_ q) (fun _ q=>q) fun _ _ q=>q
  rcases hc with z | z
  ·rw[z]; exact nit b u e
  ·exact nit c _ z
def Gnz{b:BI}{o:Obj}(I:Inv X pins Z H s)(e:s.heap.get? b=some o)(d:o.data=.fields vs):b≠X.env.locals/\∀ x c,X.env.cells.lookup x=some c->c≠b:=by
 refine⟨fun z=>?_,fun x c hc z=>?_⟩
 ·obtain⟨m,⟨o',es,ep,ho,hd,_⟩,_⟩:=I.loc
  rw[<- z,e] at ho
  cases ho
  rw[d] at hd
  cases hd
 ·obtain⟨v,o',ho,hd⟩:=I.cell x c hc
  rw[z,e] at ho
  cases ho
  rw[d] at hd
  cases hd
def Landed.flight{a:BI}(l:Landed X pins Z H a C dx s)(hq:∀ s',Landed X pins Z H a C dx s'->Q () s'):wpAny M A (setFlight (.ref a) none) Q E s:=by
 obtain⟨T,I,⟨oe,vs,oT,ts,a0,e1,e2,e3,e4,e5,e6,e7,e8⟩,⟨na,nT⟩,⟨oa,ot⟩,pn⟩:=l.ex
 have h3:3<ts.size:=(Array.getElem?_eq_some_iff.mp e8).1
 refine wpAny_setFlight_none e1 e3 e4 e6 e7 h3 (hq _ ⟨T,?_,?_,⟨na,nT⟩,⟨oa,ot⟩,pn⟩)
 ·have rn:=Gnz I e6 e7
  exact Gr5 (it:=T) I (fun b o hb q=>by rw[AL _ _ (Ne.symm hb)]; exact q) ⟨_,A1 _ e6 (Obj.isFreed_of_fields (Obj.data_mapFields e7 _))⟩ nT rn.1 ot rn.2 fun p hp=>(pn p hp).2
 ·exact⟨oe,vs,_,_,a0,by rw[AL _ _ e5]; exact e1,e2,e3,e4,e5,A1 _ e6 (Obj.isFreed_of_fields (Obj.data_mapFields e7 _)),Obj.data_mapFields e7 _,by simp[h3]⟩
def Gn0{a:BI}(I:Inv X pins Z H s)(hn:H a=none)(h0:X.s₀.heap.get? a=none)(hL:a≠X.env.locals)(h2:∀ x c,X.env.cells.lookup x=some c->c≠a)(h3:∀ p∈X.pn++pins,p.1≠a)(ok:φ s.heap)(th:∃ o,s.heap.get? a=some o)(st:∀ h1 h2:Heap,φ h1->(∀ o,h1.get? a=some o->h2.get? a=some o)->φ h2):Inv X pins Z (upd H a (.ext φ)) s:=by
 have n0:∀ b o,X.s₀.heap.get? b=some o->b≠a:=fun b o e z=>by rw[z,h0] at e; cases e
 have nk:∀ {b:BI} {o:HO},H b=some o->b≠a:=fun e z=>by rw[z,hn] at e; cases e
 refine⟨I.ok,I.os,I.bare,⟨I.base.keep,I.base.slot,fun b o e n hx=>?_,I.base.there,fun b xs e=>?_,fun b o v e=>?_,fun b ps e=>?_⟩,I.loc,I.cell,?_,fun x c e=>?_,fun p hp=>?_,fun b o e=>?_,I.len⟩
 ·rw[Gm (n0 b o e)]; exact I.base.free b o e n hx
 ·have q:=I.base.tups b xs e
  rw[Gm (nk q)]; exact q
 ·have q:=I.base.frzs b o v e
  rw[Gm (nk q)]; exact q
 ·obtain⟨more,q⟩:=I.base.tbls b ps e
  exact⟨more,by rw[Gm (nk q)]; exact q⟩
 ·rw[Gm (Ne.symm hL)]; exact I.free
 ·rw[Gm (h2 x c e)]; exact I.freeC x c e
 ·obtain⟨q1,q2,q3,q4,q5⟩:=I.pin p hp
  exact⟨q1,by rw[Gm (h3 p hp)]; exact q2,q3,q4,q5⟩
 ·by_cases c:b=a
  ·subst c
   rw[He] at e
   cases e
   exact⟨ok,th,st⟩
  ·rw[Gm c] at e
   refine(I.hok b o e).stay (fun c u _ q=>q) (fun c q=>?_) fun c xs q=>?_
   ·rw[Gm (nk q)]; exact q
   ·rw[Gm (nk q)]; exact q
def Landed.know{a:BI}(l:Landed X pins Z H a C dx s):H a=none/\Inv X pins Z (upd H a (XO a C dx)) s:=by
 obtain⟨T,I,⟨oe,vs,oT,ts,a0,e1,e2,e3,e4,e5,e6,e7,e8⟩,⟨na,nT⟩,⟨oa,ot⟩,pn⟩:=l.ex
 have rn:=Gnz I e1 e3
 exact⟨na,Gn0 I na oa rn.1 rn.2 (fun p hp=>(pn p hp).1) ⟨oe,e1,e2.1,e2.2.1,vs,e3⟩ ⟨oe,e1⟩ fun h1 h2 ⟨o,q1,q2⟩ k=>⟨o,k _ q1,q2⟩⟩
noncomputable abbrev hnd(X:Cx)(a:BI):Cx:={ X with A:=X.A.mark (some (.ref a)),calm:=false,xe:=fun _ _=>False }
noncomputable def _root_.L2.Inv.hnd(I:Inv X pins Z H s)(a:BI):Inv (DL.hnd X a) pins Z H s:=
 ⟨⟨I.ok.mod,I.ok.kind,I.ok.glob,I.ok.blt,I.ok.above,I.ok.inj,I.ok.has,I.ok.cab,(fun z=>nomatch z),I.ok.frames,I.ok.stk,I.ok.exf,I.ok.bs,I.ok.bsz,I.ok.noex,I.ok.exfs,I.ok.funs,I.ok.frf⟩,I.os,I.bare,I.base,I.loc,I.cell,I.free,I.freeC,I.pin,I.hok,I.len⟩
def _root_.L2.Inv.unhnd{a:BI}(ok:X.Ok)(I:Inv (DL.hnd X a) pins Z H s):Inv X pins Z H s:=⟨ok,I.os,I.bare,I.base,I.loc,I.cell,I.free,I.freeC,I.pin,I.hok,I.len⟩
def Zn{i:Nat}{n:Str}{pos:Pos}(I:Inv X pins Z H s)(hN:X.N.Nodup)(hi:X.N[i]?=some n)(hk:X.env.scope.names.lookup n=some .local)(hq:∀ s',Inv X pins (Z.set i none) H s'->Q () s'):
  wpAny M A (do bindName X.env n .none; unbindBehindTheSuite X.env n pos) Q E s:=by
 obtain⟨m,hn,hl⟩:=id I.loc
 have hcls:(X.env.scope.kind==.class||(X.env.scope.kind==.module&&X.env.locals != X.env.globals))=false:=by rw[I.ok.kind]; rfl
 refine wpAny_nameGoes_keeps hk hn hcls fun h' v hn' hs=>hq _ ?_
 obtain⟨oL,_,_,hoL,_⟩:=id hn
 have below:∀ b o,X.s₀.heap.get? b=some o->b≠X.env.locals:=fun b o e=>Ay (Aj (Ag e) I.ok.above)
 refine⟨I.ok,I.os,I.bare,⟨fun b o e n hb hx=>(hs.2 b (below b o e)).trans (I.base.keep b o e n hb hx),fun b o e n hb hx=>?_,I.base.free,fun b o e hx=>?_,I.base.tups,I.base.frzs,I.base.tbls⟩,⟨_,hn',fun j y w e1 e2 e3=>?_⟩,fun y c e=>?_,I.free,I.freeC,fun p hp=>?_,fun b ob e=>?_,by simpa using I.len⟩
 ·obtain⟨sl,e1⟩:=I.base.slot b o e n hb hx
  exact⟨sl,(hs.2 b (below b o e)).trans e1⟩
 ·obtain⟨o',e1⟩:=I.base.there b o e hx
  exact⟨o',(hs.2 b (below b o e)).trans e1⟩
 ·by_cases hj:j=i
  ·subst hj
   rw[List.getElem?_set] at e2
   simp only[if_true] at e2
   split at e2<;>cases e2
  ·rw[Ae (Ne.symm hj)] at e2
   obtain⟨u',r',q⟩:=hl j y w e1 e2 e3
   refine⟨u',r',?_⟩
   rcases q with⟨k,e⟩ | ⟨k,c,e,z⟩
   ·refine .inl ⟨k,?_⟩
    have:y≠n:=fun e=>hj (Gc9 hN e1 (e▸hi))
    simp[this,e]
   ·exact .inr ⟨k,c,e,z.sameBut hs (I.cne y c e)⟩
 ·obtain⟨w,z⟩:=I.cell y c e
  exact⟨w,z.sameBut hs (I.cne y c e)⟩
 ·obtain⟨e,n,ne,nf,d⟩:=I.pin p hp
  exact⟨(hs.2 p.1 ne).trans e,n,ne,nf,d⟩
 ·refine(I.hok b ob e).stay (fun c w hc q=>(hs.2 c ?_).trans q) (fun _ q=>q) fun _ _ q=>q
  rintro rfl
  rcases hc with rfl | hc
  ·rw[I.free] at e; cases e
  ·rw[I.free] at hc; cases hc
end
noncomputable abbrev trb(X:Cx)(pn:List (BI×Obj))(xe:BG->BH->Prop):Cx:={ X with pn:=pn,xe:=xe }
section
variable{X:Cx}{XQ:XW}{pins:List (BI×Obj)}{Z:L2.St}{H:Hp}{s:BH}{pn:List (BI×Obj)}{xe:BG->BH->Prop}
noncomputable def _root_.L2.Inv.trb(I:Inv X pins Z H s):Inv (DL.trb X (X.pn++pins) xe) [] Z H s:=
 ⟨⟨I.ok.mod,I.ok.kind,I.ok.glob,I.ok.blt,I.ok.above,I.ok.inj,I.ok.has,I.ok.cab,I.ok.hd,I.ok.frames,I.ok.stk,I.ok.exf,I.ok.bs,I.ok.bsz,I.ok.noex,I.ok.exfs,I.ok.funs,I.ok.frf⟩,I.os,I.bare,I.base,I.loc,I.cell,I.free,I.freeC,fun p hp=>I.pin p (by simpa using hp),I.hok,I.len⟩
def _root_.L2.Inv.untrb{pins':List (BI×Obj)}(ok:X.Ok)(I:Inv (DL.trb X (X.pn++pins) xe) pins' Z H s):Inv X pins Z H s:=
 ⟨ok,I.os,I.bare,I.base,I.loc,I.cell,I.free,I.freeC,fun p hp=>I.pin p (Bo _ hp),I.hok,I.len⟩
def Landed.untrb{pins':List (BI×Obj)}{a:BI}(ok:X.Ok)(l:Landed (DL.trb X (X.pn++pins) xe) pins' Z H a C dx s):Landed X pins Z H a C dx s:=by
 obtain⟨T,I,f,n,o,p⟩:=l.ex
 exact⟨T,I.untrb ok,f,n,o,fun q hq=>p q (Bo _ hq)⟩
noncomputable def Plain.trb(pl:Plain X):Plain (trb X pn xe):=⟨pl.stk,pl.fr,pl.ex⟩
def Gd.unset{mp:List BI}(G:Gd K mp H Z U S)(i:Nat):Gd K mp H (Z.set i none) (U.set i none) S:=by
 refine⟨G.rs,by simp[G.len],fun j e h=>?_⟩
 by_cases hj:j=i
 ·subst hj
  rw[List.getElem?_set] at h
  simp only[if_true] at h
  split at h<;>cases h
 ·rw[Ae (Ne.symm hj)] at h ⊢
  exact G.loc j e h
noncomputable def Xd(ys:List Str)(hh:XD->Sv)(fb:Sv):Sv:=fun U S=>match fb U S with
 | .nx U' S'=>.nx U' S'
 | .rt d S'=>.rt d S'
 | .bk U' S'=>.bk U' S'
 | .ct U' S'=>.ct U' S'
 | .exc x U' S'=>if x.cls∈ys then hh x U' S' else .bad
 | .bad=>.bad
def Gjs{hd:ExceptHandler}{ys:List Str}{hh:XD->Sv}{fb:Sv}{pos:Pos}(pl:Plain X)(hH:∀ (pins:List (BI×Obj)) (Z:L2.St) (H:Hp) (s:BH) (a C:BI) (dx:BJ BI) (x:XD) (mp:List BI) (U:Lc) (S:Sto) (D:Ends),x.cls∈ys->CN X.K x.cls C->XF H dx x.fld->Landed X pins Z H a C dx s->Gd X.K mp H Z U S->PostS X.K XQ mp H (hh x U S) D->wpAny (model X.prog X.w) X.A (handleBy (.ref a) X.env [hd]) (SP X pins D) X.xe s)(hb:∀ (pn:List (BI×Obj)) (xe:BG->BH->Prop) (XQ':XW),XL (trb X pn xe) XQ'->JSs (trb X pn xe) XQ' body fb):JS X XQ (.Try body [hd] [] [] pos) (Xd ys hh fb):=by
 intro pins s Z H D I ⟨mp,U,S,G,p⟩
 refine wpAny_Try_except ?_
 have ok:=I.ok
 let Eh:BG->BH->Prop:=fun e s₁=>wpAny (model X.prog X.w) X.A (noteFrame e X.env) (fun _ s₂=>wpAny (model X.prog X.w) X.A (setFlight e none) (fun _ s₃=>wpAny (model X.prog X.w) X.A (handleBy e X.env [hd]) (SP X pins D) X.xe s₃) X.xe s₂) X.xe s₁
 let XQ':XW:=fun x mp H Z U S=>x.cls∈ys/\Gd X.K mp H Z U S/\PostS X.K XQ mp H (hh x U S) D
 have fin:∀ (pins':List (BI×Obj)) (Z:L2.St) (H:Hp) (s:BH) (a C:BI) (dx:BJ BI),WX X.K XQ' Z C dx H->Landed (DL.trb X (X.pn++pins) Eh) pins' Z H a C dx s->wpAny (model X.prog X.w) X.A (handleBy (.ref a) X.env [hd]) (SP X pins D) X.xe s:=
  fun pins' Z H s a C dx ⟨x,mp,U,S,xf,hc,hm,G,p⟩ l=>hH pins Z H s a C dx x mp U S D hm hc xf (l.untrb ok) G p
 have L:XL (DL.trb X (X.pn++pins) Eh) XQ':=⟨fun pins' Z H s e C dx φ I hH fr le w=>own_land (X:=DL.trb X (X.pn++pins) Eh) pl.trb I hH fr le fun s' l=>fin pins' Z _ s' e C dx w l,
  fun pins' Z H s e s' E2 I hx hE=>call_land (X:=DL.trb X (X.pn++pins) Eh) pl.trb I hx fun a C dx H' s'' ea q l=>by
   subst ea
   exact fin pins' Z H' s'' a C dx (hE C dx H' q) l,
  PassesOwn.looking,fun _=>PassesOwnAt.looking⟩
 have post:PostS X.K XQ' mp H (fb U S) D:=by
  unfold Xd at p
  cases z:fb U S with
  | nx U' S'=>rw[z] at p; exact p
  | rt d S'=>rw[z] at p; exact p
  | bk U' S'=>rw[z] at p; exact p
  | ct U' S'=>rw[z] at p; exact p
  | bad=>rw[z] at p; exact p
  | exc x U' S'=>
   rw[z] at p
   by_cases hm:x.cls∈ys
   ·have p:PostS X.K XQ mp H (hh x U' S') D:=by simpa only[if_pos hm] using p
    exact fun mp' H' Z' af G'=>⟨hm,G',PostS.aft p af⟩
   ·have p:PostS X.K XQ mp H .bad D:=by simpa only[if_neg hm] using p
    exact p.elim
 refine wpAny_mono (hb (X.pn++pins) Eh XQ' L [] s Z H D I.trb ⟨mp,U,S,G,post⟩) (fun f s1 q=>?_) fun e s1 q=>q
 cases f with
 | next=>
  obtain⟨Z',H',I',q⟩:=q
  exact wpAny_execs_nil ⟨Z',H',I'.untrb ok,q⟩
 | brk=>
  obtain⟨Z',H',I',q⟩:=q
  exact⟨Z',H',I'.untrb ok,q⟩
 | cont=>
  obtain⟨Z',H',I',q⟩:=q
  exact⟨Z',H',I'.untrb ok,q⟩
 | ret u=>
  obtain⟨v,Z',H',I',r,q⟩:=q
  exact⟨v,Z',H',I'.untrb ok,r,q⟩
structure Cat(K:BE)(mg:Str->BJ BG)(c:Str)(ys:List Str):Prop where
 ex:∃ cs,mg c=some (.ref cs)/\∀ y∈ys,∃ C,CN K y C/\XCl K C/\PySem.W.exmOne K (.ref C) (.ref cs)=some true
noncomputable def hdl(i:Nat)(fh:Sv)(x:XD):Sv:=fun U S=>match fh (U.set i (some (.exn x.cls x.fld))) S with
 | .nx U' S'=>.nx (U'.set i none) S'
 | .rt d S'=>.rt d S'
 | .bk U' S'=>.bk (U'.set i none) S'
 | .ct U' S'=>.ct (U'.set i none) S'
 | _=>.bad
noncomputable def Gr6(fh:Sv)(x:XD):Sv:=fun U S=>match fh U S with
 | .nx U' S'=>.nx U' S'
 | .rt d S'=>.rt d S'
 | .bk U' S'=>.bk U' S'
 | .ct U' S'=>.ct U' S'
 | _=>.bad
def Gx5{M:Model}{a T:BI}(f:Fly h a T C dx):PySem.W.Looks M h (typeOf (.ref a)) (.ref C):=by
 obtain⟨oe,vs,_,_,_,h1,⟨h2,_⟩,_⟩:=f
 exact h2▸(PySem.W.Looks.ld h1).andThen .now
def Gn1{c:Str}{ys:List Str}{a:BI}{R:Result->BH->Prop}(ct:Cat X.K X.mg c ys)(hg:Gl X c)(hp:Gs c=true)(hy:y∈ys)(hc:CN X.K y C)(l:Landed X pins Z H a C dx s)(hq:R (.ok .brk) s):
  XCl X.K C/\codeAny (model X.prog X.w) (X.A.mark (some (.ref a))) (.handlers (.ref a) [.ExceptHandler (some (.Name c np)) none [] hpos] X.env) R s:=by
 obtain⟨T,I,f,_⟩:=l.ex
 obtain⟨cs,hm,hk⟩:=ct.ex
 obtain⟨C',hc',xc,he⟩:=hk y hy
 cases CN.one hc hc'
 refine⟨xc,codeAny_handlers_test ?_⟩
 refine Zm (X:=hnd X a) (I.hnd a) hg hm ?_ (Gs.of hp).1
 exact(PySem.W.exm_one I.kIn (Gx5 f) he).here hq
def Gr7{c n:Str}{i:Nat}{pos:Pos}{ys:List Str}{fb:Sv}(pl:Plain X)(ct:Cat X.K X.mg c ys)(hg:Gl X c)(hp:Gs c=true)(hN:X.N.Nodup)(hi:X.N[i]?=some n)(hn:X.env.scope.names.lookup n=some .local)(hb:∀ (pn:List (BI×Obj)) (xe:BG->BH->Prop) (XQ':XW),XL (trb X pn xe) XQ'->JSs (trb X pn xe) XQ' body fb)(hs:∀ a,JSs (hnd X a) (fun _ _ _ _ _ _=>False) (b0::suite) fh):
  JS X XQ (.Try body [.ExceptHandler (some (.Name c np)) (some n) (b0::suite) hpos] [] [] pos) (Xd ys (hdl i fh) fb):=by
 refine Gjs pl (fun pins Z H s a C dx x mp U S D hy hc xf l G p=>?_) hb
 refine wpAny_handleBy_cons ?_ (by intro q; cases q)
 obtain⟨xc,hit⟩:=Gn1 (np:=np) (hpos:=hpos) (R:=fun r s₁=>match r with
   | .ok .brk=>codeAny (model X.prog X.w) (X.A.mark (some (.ref a))) (.handlers (.ref a) [.ExceptHandler none (some n) (b0::suite) hpos] X.env) (fun r s₂=>match r with
     | .ok f=>wpAny (model X.prog X.w) X.A (do bindName X.env n .none; unbindBehindTheSuite X.env n hpos) (fun _ s₃=>SP X pins D f s₃) X.xe s₂
     | .error x=>cameBackBy (model X.prog X.w) X.A X.env X.xe x s₂) s₁
   | .ok _=>wpAny (model X.prog X.w) X.A (handleBy (.ref a) X.env []) (SP X pins D) X.xe s₁
   | .error x=>cameBackBy (model X.prog X.w) X.A X.env X.xe x s₁) ct hg hp hy hc l (by
  refine codeAny_handlers_suite_as (l.flight fun s1 l1=>?_)
  obtain⟨na,I1⟩:=l1.know
  have ok:=I1.ok
  have af:Aft X.K mp H mp (upd H a (XO a C dx)):=Wc na
  have G1:Gd X.K mp (upd H a (XO a C dx)) Z U S:=G.aft af (G.rs.new na)
  have re:Rep X.K mp (upd H a (XO a C dx)) (.exn x.cls x.fld) (.ref a):=⟨a,dx,C,rfl,⟨hc,by
   obtain⟨cs,hm,hk⟩:=ct.ex
   obtain⟨C',hc',xc,he⟩:=hk x.cls hy
   cases CN.one hc hc'
   exact xc,He⟩,fun i z=>by
   obtain⟨d,e1,e2⟩:=xf.1 i z
   exact⟨d,e1,by rw[Gm (fun q=>by rw[q,na] at e2; cases e2)]; exact e2⟩⟩
  refine Wy (X:=hnd X a) (v:=.ref a) (I1.hnd a) hN hi (.inl hn) rfl (fun s2 I2=>?_) (.inr hn)
  refine wpAny_mono (hs a pins s2 _ _ { nx:=fun Z' H'=>D.nx (Z'.set i none) H',rt:=D.rt,bk:=fun Z' H'=>D.bk (Z'.set i none) H',ct:=fun Z' H'=>D.ct (Z'.set i none) H' } I2 ⟨mp,_,S,G1.set i re,?_⟩) (fun f s3 q=>?_) (fun e s3 q=>q.elim)
  ·have p:=PostS.aft p af
   unfold hdl at p
   cases z:fh (U.set i (some (.exn x.cls x.fld))) S with
   | nx U' S'=>rw[z] at p; exact fun mp' H' Z' a' G'=>p mp' H' _ a' (G'.unset i)
   | rt d S'=>rw[z] at p; exact p
   | bk U' S'=>rw[z] at p; exact fun mp' H' Z' a' G'=>p mp' H' _ a' (G'.unset i)
   | ct U' S'=>rw[z] at p; exact fun mp' H' Z' a' G'=>p mp' H' _ a' (G'.unset i)
   | exc x U' S'=>rw[z] at p; exact p.elim
   | bad=>rw[z] at p; exact p.elim
  ·cases f with
   | next=>
    obtain⟨Z',H',I',q⟩:=q
    exact Zn (I'.unhnd ok) hN hi hn fun s' J=>⟨_,H',J,q⟩
   | brk=>
    obtain⟨Z',H',I',q⟩:=q
    exact Zn (I'.unhnd ok) hN hi hn fun s' J=>⟨_,H',J,q⟩
   | cont=>
    obtain⟨Z',H',I',q⟩:=q
    exact Zn (I'.unhnd ok) hN hi hn fun s' J=>⟨_,H',J,q⟩
   | ret u=>
    obtain⟨v,Z',H',I',r,q⟩:=q
    exact Zn (I'.unhnd ok) hN hi hn fun s' J=>⟨v,_,H',J,r,q⟩)
 exact hit
def Gr8{c:Str}{pos:Pos}{ys:List Str}{fb:Sv}(pl:Plain X)(ct:Cat X.K X.mg c ys)(hg:Gl X c)(hp:Gs c=true)(hb:∀ (pn:List (BI×Obj)) (xe:BG->BH->Prop) (XQ':XW),XL (trb X pn xe) XQ'->JSs (trb X pn xe) XQ' body fb)(hs:∀ a,JSs (hnd X a) (fun _ _ _ _ _ _=>False) (b0::suite) fh):
  JS X XQ (.Try body [.ExceptHandler (some (.Name c np)) none (b0::suite) hpos] [] [] pos) (Xd ys (Gr6 fh) fb):=by
 refine Gjs pl (fun pins Z H s a C dx x mp U S D hy hc xf l G p=>?_) hb
 refine wpAny_handleBy_cons ?_ (by intro q; cases q)
 obtain⟨xc,hit⟩:=Gn1 (np:=np) (hpos:=hpos) (R:=fun r s₁=>match r with
   | .ok .brk=>codeAny (model X.prog X.w) (X.A.mark (some (.ref a))) (.handlers (.ref a) [.ExceptHandler none none (b0::suite) hpos] X.env) (fun r s₂=>match r with
     | .ok f=>SP X pins D f s₂
     | .error x=>cameBackBy (model X.prog X.w) X.A X.env X.xe x s₂) s₁
   | .ok _=>wpAny (model X.prog X.w) X.A (handleBy (.ref a) X.env []) (SP X pins D) X.xe s₁
   | .error x=>cameBackBy (model X.prog X.w) X.A X.env X.xe x s₁) ct hg hp hy hc l (by
  refine codeAny_handlers_suite (l.flight fun s1 l1=>?_)
  obtain⟨T,I1,_⟩:=l1.ex
  have ok:=I1.ok
  refine wpAny_mono (hs a pins s1 _ _ D (I1.hnd a) ⟨mp,_,S,G,?_⟩) (fun f s3 q=>?_) (fun e s3 q=>q.elim)
  ·unfold Gr6 at p
   cases z:fh U S with
   | nx U' S'=>rw[z] at p; exact p
   | rt d S'=>rw[z] at p; exact p
   | bk U' S'=>rw[z] at p; exact p
   | ct U' S'=>rw[z] at p; exact p
   | exc x U' S'=>rw[z] at p; exact p.elim
   | bad=>rw[z] at p; exact p.elim
  ·cases f with
   | next=>
    obtain⟨Z',H',I',q⟩:=q
    exact⟨_,H',I'.unhnd ok,q⟩
   | brk=>
    obtain⟨Z',H',I',q⟩:=q
    exact⟨_,H',I'.unhnd ok,q⟩
   | cont=>
    obtain⟨Z',H',I',q⟩:=q
    exact⟨_,H',I'.unhnd ok,q⟩
   | ret u=>
    obtain⟨v,Z',H',I',r,q⟩:=q
    exact⟨v,_,H',I'.unhnd ok,r,q⟩)
 exact hit
end
noncomputable def Kw(ys sub:List Str)(x:D)(S:Sto):Out D:=match x with
 | .exn y _=>if y∈ys then .ok (.bl (decide (y∈sub))) S else .bad
 | _=>.bad
structure Isx(K:BE)(mg:Str->BJ BG)(x:Str)(ys sub:List Str):Prop where
 ex:∃ cs,mg x=some (.ref cs)/\∀ y∈ys,∃ C,CN K y C/\PySem.W.kitOne K (.ref C) (.ref cs)=some (decide (y∈sub))
structure IsxB(K:BE)(T:String)(ys sub:List Str):Prop where
 ex:∀ y∈ys,∃ C,CN K y C/\PySem.W.kitOne K (.ref C) (.type T)=some (decide (y∈sub))
section
variable{X:Cx}{XQ:XW}
def Hd8(K:BE)(w:V)(c:BG):List V->Hp->VK->Prop:=fun vs H Q=>∃ a C dx b,vs=[.ref a,w]/\XCl K C/\H a=some (XO a C dx)/\PySem.W.kitOne K (.ref C) c=some b/\Q (.bl b) H
def Ghe{w:V}{c:BG}(hw:∀ u,Hc w u->u=c):Yk X (.builtin "isinstance") (Hd8 X.K w c):=by
 intro pins s Z H xs us Q I r ⟨a,C,dx,b,e,xc,hH,hk,q⟩
 subst e
 obtain⟨u,w',rfl,ru,rw'⟩:=Vals.two r
 cases (show u=Value.ref a from ru)
 cases hw _ rw'
 exact PySem.W.kia_one (Gg9 xc) I.kIn (Guk I hH) hk (fun z=>nomatch z) fun tk=>⟨.bl b,H,I.tok tk,rfl,q⟩
def Gx6{x:Str}{ys:List Str}{e:Expr}{pos:Pos}(k:Isx X.K X.mg x ys sub)(hg:Gl X "isinstance")(hm:X.mg "isinstance"=none)(hgt:Gl X x)(hp:Gs x=true)(he:JE X XQ e f)(hs:starEach [e,.Name x p2] X.env=(false,eval e X.env)::starEach [.Name x p2] X.env)(hpl:(backTo pos (starEach [.Name x p2] X.env)).any (·.1)=false)(hs2:starEach [.Name x p2] X.env=(false,eval (.Name x p2) X.env)::starEach [] X.env):
  JE X XQ (.Call (.Name "isinstance" p) [e,.Name x p2] [] pos) (o1 (Kw ys sub) f):=by
 obtain⟨cs,hmt,hk⟩:=k.ex
 refine PE.mono (Gal (Ghe (w:=.ref cs) (c:=.ref cs) fun u h=>h) hg hm (by rfl) (Vg he (Vg (Gfn hgt hmt (v:=.ref cs) rfl (Gs.of hp).1) pa_nil hs2) hs) (by decide) (by decide) hs hpl) fun Z H Q ⟨mp,U,S,G,q⟩=>?_
 refine bindP G q fun mp1 H1 d S1 v a1 G1 r1 p1=>?_
 cases d with
 | exn y n=>
  obtain⟨a,dx,C,rfl,⟨hc,xc,hH⟩,_⟩:=(show ∃ a dx p,v=.ref a/\(CN X.K y p/\XCl X.K p/\H1 a=some (XO a p dx))/\∀ i,n=some i->∃ d,dx=some d/\H1 d=some (XA d i) from r1)
  by_cases hy:y∈ys
  ·have p1:Post X.K XQ Z U mp1 H1 (.ok (.bl (decide (y∈sub))) S1) Q:=by simpa only[Kw,if_pos hy] using p1
   obtain⟨C',hc',ko⟩:=hk y hy
   cases CN.one hc hc'
   exact⟨a,C,dx,_,rfl,xc,hH,ko,Gj.ok (R:=Rep X.K) p1 G1.rs rfl⟩
  ·have p1:Post X.K XQ Z U mp1 H1 .bad Q:=by simpa only[Kw,if_neg hy] using p1
   exact p1.elim
 | _=>exact p1.elim
def Gr9{x:Str}{ys:List Str}{e:Expr}{pos:Pos}(k:IsxB X.K T ys sub)(hv:bootBuiltins x=some (.type T))(hnx:x≠"__name__")(hg:Gl X "isinstance")(hm:X.mg "isinstance"=none)(hgt:Gl X x)(hmt:X.mg x=none)(hp:Gs x=true)(he:JE X XQ e f)(hs:starEach [e,.Name x p2] X.env=(false,eval e X.env)::starEach [.Name x p2] X.env)(hpl:(backTo pos (starEach [.Name x p2] X.env)).any (·.1)=false)(hs2:starEach [.Name x p2] X.env=(false,eval (.Name x p2) X.env)::starEach [] X.env):
  JE X XQ (.Call (.Name "isinstance" p) [e,.Name x p2] [] pos) (o1 (Kw ys sub) f):=by
 have hk:=k.ex
 refine PE.mono (Gal (Ghe (w:=.ty T) (c:=.type T) fun u h=>h) hg hm (by rfl) (Vg he (Vg (Gjf hgt hmt hv (v:=.ty T) rfl hnx (Gs.of hp).1) pa_nil hs2) hs) (by decide) (by decide) hs hpl) fun Z H Q ⟨mp,U,S,G,q⟩=>?_
 refine bindP G q fun mp1 H1 d S1 v a1 G1 r1 p1=>?_
 cases d with
 | exn y n=>
  obtain⟨a,dx,C,rfl,⟨hc,xc,hH⟩,_⟩:=(show ∃ a dx p,v=.ref a/\(CN X.K y p/\XCl X.K p/\H1 a=some (XO a p dx))/\∀ i,n=some i->∃ d,dx=some d/\H1 d=some (XA d i) from r1)
  by_cases hy:y∈ys
  ·have p1:Post X.K XQ Z U mp1 H1 (.ok (.bl (decide (y∈sub))) S1) Q:=by simpa only[Kw,if_pos hy] using p1
   obtain⟨C',hc',ko⟩:=hk y hy
   cases CN.one hc hc'
   exact⟨a,C,dx,_,rfl,xc,hH,ko,Gj.ok (R:=Rep X.K) p1 G1.rs rfl⟩
  ·have p1:Post X.K XQ Z U mp1 H1 .bad Q:=by simpa only[Kw,if_neg hy] using p1
   exact p1.elim
 | _=>exact p1.elim
noncomputable def Gei:List D->BJ (List Bool)
 | []=>some []
 | .bl b::r=>(Gei r).map (b::·)
 | _::_=>none
def Gdj:∀ {l:List D} {bs:List Bool},Gei l=some bs->l=bs.map .bl
 | [],bs,h=>by cases h; rfl
 | d::r,bs,h=>by
  cases d with
  | bl b=>
   have h:(Gei r).map (b::·)=some bs:=h
   cases z:Gei r with
   | none=>rw[z] at h; cases h
   | some q=>rw[z] at h; cases h; rw[Gdj z]; rfl
  | _=>cases h
def Gdk{K:BE}{mp:List BI}{H:Hp}:∀ {bs:List Bool} {vs:List V},RepL K mp H (bs.map .bl) vs->vs=bs.map .bl
 | [],vs,h=>h
 | b::r,vs,h=>by
  obtain⟨v,q,e,h1,h2⟩:=(show ∃ v r',vs=v::r'/\Rep K mp H (.bl b) v/\RepL K mp H (r.map .bl) r' from h)
  cases (show v=.bl b from h1)
  rw[e,Gdk h2]
  rfl
def Gdl:∀ {bs:List Bool} {us:List BG},Vals (bs.map V.bl) us->us=bs.map Value.bool
 | [],_,.nil=>rfl
 | b::r,_,.cons h t=>by
  rw[Gdl t]
  cases (show _=Value.bool b from h)
  rfl
def Gn2(b k:Bool):MeetsSeq.EqGives (.bool b) (.bool k) (b==k):=fun prog w A E s Q h=>PySem.SeqAt.EqAt.bool_bool b k prog w E Q h
noncomputable def Glr(k:Bool):BG->Bool
 | .bool b=>b==k
 | _=>false
def Gjt(bs:List Bool)(k:Bool):∀ y,y∈(bs.map Value.bool).toArray->MeetsSeq.EqGives y (.bool k) (Glr k y):=fun y hy=>by
 obtain⟨b,_,rfl⟩:=AH.mp (show y∈bs.map Value.bool from by simpa using hy)
 exact Gn2 b k
def Hbm:V->List V->Hp->VK->Prop:=fun x vs H Q=>∃ (l:BI) (bs:List Bool) (k:Bool),x=.ref l/\vs=[.bl k]/\H l=some (.lst (bs.map .bl))/\Q (.int (bs.countP (·==k):Nat)) H
def Gx7:MtM X "list.count" Hbm:=by
 intro pins s Z H x vs v us Q I rx rv ⟨l,bs,k,e1,e2,hH,q⟩
 subst e1 e2
 cases rx
 obtain⟨u,rfl,ru⟩:=Vals.one rv
 cases (show u=Value.bool k from ru)
 obtain⟨z,its,n,r,hl,e⟩:=I.lstM hH
 cases Gdl r
 refine call_meets PySem.F.slot_list_count ⟨_,e,rfl⟩ PySem.F.entry_list_count (PySem.F.args_list_count_2 _ _) (MeetsSeq.list_count l _ n (.bool k) (Glr k) (Gjt bs k)) ⟨e,.int _,H,I.tok _,⟨_,rfl⟩,?_⟩
 have ec:List.countP (Glr k) (List.map Value.bool bs).toArray.toList=bs.countP (·==k):=by
  rw[List.countP_map]; rfl
 rw[ec]
 exact q
def Giu(x:D)(xs:List D)(S:Sto):Out D:=match x,xs with
 | .lst i,[.bl k]=>match S[i]? with
  | some c=>if c.fz=false then(match Gei c.xs with
   | some bs=>.ok (.int (bs.countP (·==k):Nat)) S
   | none=>.bad) else .bad
  | none=>.bad
 | _,_=>.bad
def Gx8:MeD K Hbm Giu:=by
 intro XQ Z U mp H S x xs v vs Q rs rx r p
 unfold Giu at p
 split at p
 ·rename_i i k
  split at p
  ·rename_i c zc
   by_cases hc:c.fz=false
   ·rw[if_pos hc] at p
    split at p
    ·rename_i bs zb
     obtain⟨w,rfl,hw⟩:=RepL.one r
     cases (show w=.bl k from hw)
     obtain⟨a,ys,rfl,ha,sq,q,f⟩:=rs.items rx zc
     rw[Gdj zb] at q
     cases Gdk q
     exact⟨a,bs,k,rfl,rfl,f hc,p mp H _ .refl rs rfl⟩
    ·exact p.elim
   ·rw[if_neg hc] at p; exact p.elim
  ·exact p.elim
 ·exact p.elim
def Hbn:V->List V->Hp->VK->Prop:=fun x vs H Q=>∃ (l:BI) (bs:List Bool) (k:Bool) (j:Nat),x=.ref l/\vs=[.bl k]/\H l=some (.lst (bs.map .bl))/\List.findIdx? (·==k) bs=some j/\Q (.int (j:Nat)) H
def Gx9:MtM X "list.index" Hbn:=by
 intro pins s Z H x vs v us Q I rx rv ⟨l,bs,k,j,e1,e2,hH,hj,q⟩
 subst e1 e2
 cases rx
 obtain⟨u,rfl,ru⟩:=Vals.one rv
 cases (show u=Value.bool k from ru)
 obtain⟨z,its,n,r,hl,e⟩:=I.lstM hH
 cases Gdl r
 rw[List.findIdx?_eq_some_iff_getElem] at hj
 obtain⟨h1,h2,h3⟩:=hj
 have z:bs.length<=sizeLine:=by simpa using z
 rw[sizeLine_eq] at z
 refine call_meets PySem.F.slot_list_index ⟨_,e,rfl⟩ PySem.F.entry_list_index (PySem.F.args_list_index_2 _ _) (MeetsSeq.list_index l _ n (.bool k) (Glr k) (Gjt bs k) j (by simpa using h1) (by omega) (by simpa[Glr] using h2) (fun m hm hlt=>?_)) ⟨e,.int _,H,I.tok _,⟨_,rfl⟩,q⟩
 have:=h3 m hlt
 simpa[Glr] using this
def Giv(x:D)(xs:List D)(S:Sto):Out D:=match x,xs with
 | .lst i,[.bl k]=>match S[i]? with
  | some c=>if c.fz=false then(match Gei c.xs with
   | some bs=>(match List.findIdx? (·==k) bs with
    | some j=>.ok (.int (j:Nat)) S
    | none=>.bad)
   | none=>.bad) else .bad
  | none=>.bad
 | _,_=>.bad
def Gya:MeD K Hbn Giv:=by
 intro XQ Z U mp H S x xs v vs Q rs rx r p
 unfold Giv at p
 split at p
 ·rename_i i k
  split at p
  ·rename_i c zc
   by_cases hc:c.fz=false
   ·rw[if_pos hc] at p
    split at p
    ·rename_i bs zb
     split at p
     ·rename_i j zj
      obtain⟨w,rfl,hw⟩:=RepL.one r
      cases (show w=.bl k from hw)
      obtain⟨a,ys,rfl,ha,sq,q,f⟩:=rs.items rx zc
      rw[Gdj zb] at q
      cases Gdk q
      exact⟨a,bs,k,j,rfl,rfl,f hc,zj,p mp H _ .refl rs rfl⟩
     ·exact p.elim
    ·exact p.elim
   ·rw[if_neg hc] at p; exact p.elim
  ·exact p.elim
 ·exact p.elim
def Gn3{e:Expr}{f:Ev (List D)}(ho:JE X XQ o fo)(ha:JA X XQ [e] f)(hbase:attributeBase o "count" X.env (eval o X.env)=eval o X.env:=by rfl)(hfew:((backTo cpos (starEach [e] X.env)).all (fun x=>!x.1)&&(backToKw cpos (keywordEach [] X.env)).all (fun x=>x.1.isSome)
   && decide ([e].length+([]:List Keyword).length+(if([]:List Keyword).isEmpty then 0 else 1)<30))=true:=by rfl)(hline:(apos.endLine==cpos.line)=true:=by rfl)(hs:starEach [e] X.env=(false,eval e X.env)::starEach [] X.env:=by rfl):
  JE X XQ (.Call (.Attribute o "count" apos) [e] [] cpos) (mt Giu fo f):=Gf0 PySem.F.slot_list_count PySem.F.type_list_count Gx7 Gx8 ho ha hbase hfew hline hs rfl
def Gn4{e:Expr}{f:Ev (List D)}(ho:JE X XQ o fo)(ha:JA X XQ [e] f)(hbase:attributeBase o "index" X.env (eval o X.env)=eval o X.env:=by rfl)(hfew:((backTo cpos (starEach [e] X.env)).all (fun x=>!x.1)&&(backToKw cpos (keywordEach [] X.env)).all (fun x=>x.1.isSome)
   && decide ([e].length+([]:List Keyword).length+(if([]:List Keyword).isEmpty then 0 else 1)<30))=true:=by rfl)(hline:(apos.endLine==cpos.line)=true:=by rfl)(hs:starEach [e] X.env=(false,eval e X.env)::starEach [] X.env:=by rfl):
  JE X XQ (.Call (.Attribute o "index" apos) [e] [] cpos) (mt Giv fo f):=Gf0 PySem.F.slot_list_index PySem.F.type_list_index Gx9 Gya ho ha hbase hfew hline hs rfl
end
def Gyb(K:BE)(c:BI):Bool:=
 (PySem.W.findIn K (.ref c) "__getattribute__"==some (some (.builtin "BaseException.__getattribute__")))&&((PySem.W.findIn K (.ref c) "__getattr__"==some none)&&((PySem.W.findIn K (.ref c) "__class__"==some (some (.builtin "object.__class__")))
  && ((PySem.W.clsIn K c).isSome&&((PySem.W.mroIn K c (.type "object")==some true)&&((PySem.W.subIn K (.ref c) (.type "BaseException")==some true)&&["bool","int","str","tuple","list"].all fun T=>PySem.W.kitOne K (.ref c) (.type T)==some false)))))
def Gyc{c:BI}(h:Gyb K c=true):XCl K c:=by
 unfold Gyb at h
 simp only[At,beq_iff_eq,AN] at h
 obtain⟨h1,h2,h3,h4,h5,h6,h7⟩:=h
 exact⟨h1,h2,h3,h4,h5,h6,h7⟩
def xrowB(K:BE)(cs:BI)(l:List (Str×BI))(p:Str×BI):Bool:=
 (PySem.W.nsIn K mainGlobals p.1==some (some (.ref p.2)))&&(Gyb K p.2&&((PySem.W.exmOne K (.ref p.2) (.ref cs)==some true)&&((PySem.W.kitOne K (.ref p.2) (.type "ValueError")==some true)&&l.all fun q=>PySem.W.kitOne K (.ref p.2) (.ref q.2)==some (decide (p.1∈[q.1])))))
def Gn5(K:BE)(cs:BI)(l m:List (Str×BI)):Bool:=(l.all fun p=>xrowB K cs m p)&&m.all fun q=>PySem.W.nsIn K mainGlobals q.1==some (some (.ref q.2))
structure XT(K:BE)(mg:Str->BJ BG)(sup:Str)(ys ms:List Str):Prop where
 cat:Cat K mg sup ys
 isx:∀ x∈ms,Isx K mg x ys [x]
 val:IsxB K "ValueError" ys ys
 xns:XNs K ys
def Hbo{mg:Str->BJ BG}{sup:Str}{cs:BI}{l m:List (Str×BI)}(X:K.In h)(G:h.Ns mainGlobals mg)(a:PySem.W.nsIn K mainGlobals sup=some (some (.ref cs)))(t:Gn5 K cs l m=true):XT K mg sup (l.map (·.1)) (m.map (·.1)):=by
 unfold Gn5 at t
 rw[At] at t
 obtain⟨t,tm⟩:=t
 have qm:∀ r∈m,CN K r.1 r.2:=fun r hr=>beq_iff_eq.mp (AN.mp tm r hr)
 have q:∀ p∈l,CN K p.1 p.2/\XCl K p.2/\PySem.W.exmOne K (.ref p.2) (.ref cs)=some true/\PySem.W.kitOne K (.ref p.2) (.type "ValueError")=some true/\∀ r∈m,PySem.W.kitOne K (.ref p.2) (.ref r.2)=some (decide (p.1∈[r.1])):=fun p hp=>by
  have z:=AN.mp t p hp
  unfold xrowB at z
  simp only[At,beq_iff_eq,AN] at z
  obtain⟨h1,h2,h3,h4,h5⟩:=z
  exact⟨h1,Gyc h2,h3,h4,h5⟩
 refine⟨⟨cs,PySem.W.mg_of X G a,fun y hy=>?_⟩,fun x hx=>?_,⟨fun y hy=>?_⟩,fun y hy=>?_⟩
 ·obtain⟨p,hp,rfl⟩:=AH.mp hy
  obtain⟨h1,h2,h3,h4,h5⟩:=q p hp
  exact⟨p.2,h1,h2,h3⟩
 ·obtain⟨r,hr,rfl⟩:=AH.mp hx
  refine⟨r.2,PySem.W.mg_of X G (qm r hr),fun y hy=>?_⟩
  obtain⟨p,hp,rfl⟩:=AH.mp hy
  obtain⟨h1,h2,h3,h4,h5⟩:=q p hp
  exact⟨p.2,h1,h5 r hr⟩
 ·obtain⟨p,hp,rfl⟩:=AH.mp hy
  obtain⟨h1,h2,h3,h4,h5⟩:=q p hp
  exact⟨p.2,h1,by rw[h4,decide_eq_true hy]⟩
 ·obtain⟨p,hp,rfl⟩:=AH.mp hy
  obtain⟨h1,h2,h3,h4,h5⟩:=q p hp
  exact⟨p.2,h1,h2⟩
def kxB(K:BE)(C:BI):Bool:=match K.lookup C with
 | some ⟨.type "type",_,.cls cd,sl⟩=>(match cd.mro,sl.toList with
  | .ref C'::bm,[_,_,_,_,some (.builtin n),_]=>C'==C&&(!cd.hasDel&&(n=="ValueError.__new__"&&(bm.contains (.type "ValueError")&&(!bm.contains (.type "AttributeError")&&(!bm.contains (.type "NameError")&&bm.contains (.type "BaseException"))))))
  | _,_=>false)
 | _=>false
def Hbp(q:kxB K C=true):KX K C:=by
 unfold kxB at q
 split at q
 ·rename_i dd cd sl ho
  split at q
  ·rename_i C' bm k0 k1 k2 k3 n k5 hm hs
   simp only[At,beq_iff_eq,Bool.not_eq_true'] at q
   obtain⟨rfl,hdel,hn,h1,h2,h3,h4⟩:=q
   subst hn
   obtain⟨nm,bs,mro,ns,qn,hd,sn,sub,ab,col,del⟩:=cd
   dsimp only at hm hdel
   subst hm hdel
   have hsl:sl=#[k0,k1,k2,k3,some (.builtin "ValueError.__new__"),k5]:=by
    obtain⟨l⟩:=sl
    simp only at hs
    rw[hs]
   subst hsl
   exact⟨nm,qn,ns,bs,bm,hd,sn,sub,ab,col,dd,k0,k1,k2,k3,k5,ho,⟨h1,h2,h3,h4⟩⟩
  ·cases q
 ·cases q
def Gdm(K:BE)(c f:BI):Bool:=kxB K c&&(PySem.W.findIn K (.ref c) "__init__"==some (some (.ref f)))
section
variable{P:BK}{w:World}{K:BE}{mg:Str->BJ BG}{base:Heap}
structure IniX(P:BK)(w:World)(K:BE)(mg:Str->BJ BG)(base:Heap)(f:BI)(j:Nat):Prop where
 ex:∃ fd ps oI,K.lookup f=some oI/\oI.cls=.type "function"/\FnOk P w K mg base CX0 j f fd ps (spI K)/\ps.length=2/\Binds K fd ps []
def Xm{x:Str}{f:BI}(X:K.In h)(G:h.Ns mainGlobals mg)(i:IniX P w K mg base f j)(a:PySem.W.nsIn K mainGlobals x=some (some (.ref C)))(t:Gdm K C f=true):ClX P w K mg base x j:=by
 obtain⟨fd,ps,oI,l,c,F,n,b⟩:=i.ex
 unfold Gdm at t
 simp only[At,beq_iff_eq] at t
 exact⟨C,f,fd,ps,oI,PySem.W.mg_of X G a,a,Hbp t.1,t.2,l,c,F,n,b⟩
abbrev Gup(K:BE):TS:=Gt1 (tVI K (Gmp (Gvb 0) (Gmp (Gvb 1) Ham)))
def ini_mk{f:BI}{an:BJ BI}{kV:BG}(l:K.lookup f=some ⟨.type "function",od,.func (PySem.W.fnOf "__init__" "SummitError.__init__" (Hx st) (Gy st) (Gb st) .none kV doc pm an cdv ct),osl⟩)(c:PySem.W.codeIn K cdv "SummitError.__init__"=true)(k:PySem.W.keepIn K (.ref f)=true)(Sc:FnScope ["self","text"] ["self","text"] (Gb st))(hb:∀ (f:BI) (cdv:BG) (A:Around) (outer:List PySem.Env) (s:BH) (H:Hp) (E:XK),PSs (Ud CX0 P w K mg base ["self","text"] "SummitError.__init__" (Gb st) f cdv A outer s H E).nox (Gy st) (Gup K))(bi:∀ (kV doc pm:BG) (an:BJ BI) (cdv ct:BG) (us:List BG),us.length=2->bindArgs (PySem.W.fnOf "__init__" "SummitError.__init__" (Hx st) (Gy st) (Gb st) .none kV doc pm an cdv ct) ⟨us,[]⟩=pure ((["self","text"]:List Str).zip us)):IniX P w K mg base f 1:=by
 have F:=Gfs (st:=st) l c k
 refine⟨_,["self","text"],_,l,rfl,?_,rfl,F.binds bi⟩
 refine Fun.ok F Sc (fun vs H Q E ⟨e,v,C,dx,ev,_⟩=>by rw[ev]; rfl) fun cdv A outer s H vs Q E hr ⟨e,v,C,dx,ev,hH,kx,q⟩=>?_
 refine⟨_,hb _ cdv A outer s H E,?_⟩
 subst ev
 exact⟨.ref e,rfl,v,rfl,e,v,C,dx,rfl,hH,kx,q⟩
end
section
variable{X:Cx}{XQ:XW}
def Hd9(i j:Int):Prop:=(-1000000000000<=i/\i<=1000000000000) /\ -1000000000000<=j/\j<=1000000000000
instance {i j:Int}:Decidable (Hd9 i j):=inferInstanceAs (Decidable ((-1000000000000<=i/\i<=1000000000000) /\ -1000000000000<=j/\j<=1000000000000))
end
structure FvT(K:BE)(mg:Str->BJ BG)(x:Str):Prop where
 ex:∃ f,CN K x f/\mg x=some (.ref f)
section
variable{X:Cx}{XQ:XW}{k:Nat}{ps:List Str}{fn:Fn}{x y:Str}{p pos:Pos}{e:Expr}{es:List Expr}
def Gyd(t:FvT X.K X.mg x)(hg:Gl X x)(hp:Gs x=true):JE X XQ (.Name x pos) (cn (.fv x)):=by
 obtain⟨f,hc,hm⟩:=t.ex
 exact Xa (Gfn hg hm (v:=.ref f) rfl (Gs.of hp).1) fun mp H=>⟨f,rfl,hc⟩
def clv(i:Nat)(x:Str)(n:Nat)(fn:Fn)(t:Ev (List D)):Ev D:=fun U S=>match U[i]? with
 | some (some (.fv y))=>if y=x then(t U S).bind fun ds S1=>if ds.length=n then fn ds S1 else .bad else .bad
 | _=>.bad
def Gn6(i:Nat){ys:List Str}(xs:XNs X.K ys)(L:XL X XQ)(C:CalX X.prog X.w X.K X.mg X.base x ps fn j)(hr:Room k X.A)(hj:j<=k)(hN:X.N[i]?=some y)(hv:Vis X.env.scope y)(hy:Gs y=true)(ha:JA X XQ (e::es) t)(he:starEach (e::es) X.env=(false,eval e X.env)::starEach es X.env:=by rfl)(hpl:(backTo pos (starEach es X.env)).any (·.1)=false:=by rfl):
  JE X XQ (.Call (.Name y p) (e::es) [] pos) (clv i x ps.length (gX ys fn) t):=by
 obtain⟨f,fd,F,hm,hk,hb⟩:=C.ex
 intro pins s Z H Q I ⟨mp,U,S,G,p0⟩
 unfold clv at p0
 split at p0
 ·rename_i z hz
  by_cases c:z=x
  ·rw[if_pos c] at p0
   subst c
   obtain⟨v,hZ,f',rfl,hc⟩:=G.loc i _ hz
   have hm':=PySem.W.mg_of I.ok.mod.kin I.ok.mod.glob hc
   rw[hm] at hm'
   cases hm'
   refine wpAny_Call_Name_kw (thn (Gfm hN hv (Gs.of hy).1 (Gs.of hy).2 pins s Z H (fun w H'=>w=.ref f/\H'=H) I ⟨.ref f,hZ,rfl,rfl⟩) fun u s1 ⟨w,H1,I1,r1,e1,e2⟩=>?_)
   subst e1 e2
   obtain rfl:u=Value.ref f:=r1
   refine PySem.W.callWith_K (h₀:=X.base) I1.ok.mod.kin hk ?_ he hpl
   refine thn (ha pos pins s1 Z H1 (fun vs H2=>spX X.K ps.length fn vs H2 Q fun c dx H'=>∃ C,c=.ref C/\WX X.K XQ Z C dx H') I1 ?_) fun us s2 ⟨vs,H2,I2,r2,q2⟩=>⟨I2.kIn,Gjr (F.mono hj) hr hb L.cal I2 r2 q2⟩
   refine bindP G p0 fun mp1 H1 ds S1 vs a1 G1 r1 p1=>?_
   by_cases hl:ds.length=ps.length
   ·rw[if_pos hl] at p1
    refine⟨mp1,ds,S1,G1.rs,r1,hl,?_⟩
    unfold gX at p1
    cases z:fn ds S1 with
    | ok d S'=>rw[z] at p1; exact p1
    | exc xx S'=>
     rw[z] at p1
     by_cases hi:xx.cls∈ys
     ·have p1:Gj X.K (Rep X.K) XQ Z U mp1 H1 (.exc xx S') Q:=by simpa only[if_pos hi] using p1
      obtain⟨C,hC,_⟩:=xs _ hi
      refine⟨C,hC,fun mp' H' dx af rs xf=>⟨C,rfl,xx,mp',U,S',xf,hC,p1 mp' H' af (G1.aft af rs)⟩⟩
     ·have p1:Gj X.K (Rep X.K) XQ Z U mp1 H1 .bad Q:=by simpa only[if_neg hi] using p1
      exact p1.elim
    | bad=>rw[z] at p1; exact p1.elim
   ·rw[if_neg hl] at p1; exact p1.elim
  ·rw[if_neg c] at p0; exact p0.elim
 ·exact p0.elim
end
noncomputable def Gn7:List BG->Bool
 | .ref _::r=>Gn7 r
 | l=>l==[.type "ValueError",.type "Exception",.type "BaseException",.type "object"]
structure KA(K:BE)(C:BI):Prop where
 sa:PySem.W.findIn K (.ref C) "__setattr__"=some (some (.builtin "object.__setattr__"))
 ve:(PySem.W.clsIn K C).any (fun cd=>Gn7 cd.mro)=true
 na:PySem.W.findIn K (.ref C) "at"=some none
 hd:PySem.W.hasDictIn K C=true
section
variable{X:Cx}{pins:List (BI×Obj)}{Z:L2.St}{H:Hp}{s:BH}{C e:BI}
structure BaseI(K:BE)(mg:Str->BJ BG)(x:Str)(f:BI):Prop where
 ex:∃ cs mc,mg x=some (.ref cs)/\PySem.W.readsIn K cs mc=true/\PySem.W.findCls K (.ref cs) mc "__init__"=some (.val (.ref f))/\PySem.W.specialIn K (.ref cs) "__getattribute__"=some (some (.builtin "type.__getattribute__"))/\PySem.W.keepIn K (.ref f)=true
end
def spJ(K:BE):Sp:=fun vs H Q _=>∃ e n C,vs=[.ref e,.int n]/\H e=some (FX e C none)/\(KX K C/\KA K C)/\∀ d,H d=none->d≠e->Q .non (upd (upd H e (FX e C (some d))) d (XA d n))
section
variable{P:BK}{w:World}{K:BE}{mg:Str->BJ BG}{base:Heap}
structure IniJ(P:BK)(w:World)(K:BE)(mg:Str->BJ BG)(base:Heap)(f:BI)(j:Nat):Prop where
 ex:∃ fd ps oI,K.lookup f=some oI/\oI.cls=.type "function"/\FnOk P w K mg base CX0 j f fd ps (spJ K)/\ps.length=2/\Binds K fd ps []
end
section
variable{X:Cx}{pins:List (BI×Obj)}{Z:L2.St}{H:Hp}{s:BH}{C f:BI}{fd:FuncData}{ps:List Str}{k:Nat}
structure ClJ(P:BK)(w:World)(K:BE)(mg:Str->BJ BG)(base:Heap)(x:Str)(j:Nat):Prop where
 ex:∃ C f fd ps oI,mg x=some (.ref C)/\CN K x C/\(KX K C/\KA K C)/\PySem.W.findIn K (.ref C) "__init__"=some (some (.ref f))/\K.lookup f=some oI/\oI.cls=.type "function"/\FnOk P w K mg base CX0 j f fd ps (spJ K)/\ps.length=2/\Binds K fd ps []
end
section
variable{P:BK}{w:World}{A:Around}{E:BG->BH->Prop}{env:PySem.Env}{s:BH}
variable{nm q:Str}{C N:BI}{bs bm:List BG}{hdct:Bool}{sn:List Str}{sub:List BG}{ab:Bool}{col:BJ Bool}{dd:BJ BI}{k0 k1 k2 k3 k5:BJ BG}{newId:String}
end
structure RoomQ(k:Nat)(A:Around):Prop where
 dp:A.depth+3*k+5<recursionLimit
 un:A.units+16*k+200<cLine
 gd:A.guards=some []
structure FnQ(P:BK)(w:World)(K:BE)(mg:Str->BJ BG)(base:Heap)(k:Nat)(f:BI)(fd:FuncData)(ps:List Str)(sp:Sp):Prop where
 len:∀ vs H Q E,sp vs H Q E->vs.length=ps.length
 run:∀ (A:Around) (outer:List PySem.Env) (s:BH) (H:Hp) (args:Args) (us:List BG) (vs:List V) (Q:VK) (E:XK),RoomQ k A->Env0 P w K mg base A outer s H->BindsTo s fd args (ps.zip us)->Vals vs us->sp vs H Q E→
  codeAny (model P w) A (.call (.ref f) args) (CR CX0 outer P w H s Q E) s
section
variable{P:BK}{w:World}{K:BE}{mg:Str->BJ BG}{base:Heap}
structure IniXQ(P:BK)(w:World)(K:BE)(mg:Str->BJ BG)(base:Heap)(f:BI)(j:Nat):Prop where
 ex:∃ fd ps oI,K.lookup f=some oI/\oI.cls=.type "function"/\FnQ P w K mg base j f fd ps (spI K)/\ps.length=2/\Binds K fd ps []
structure IniJQ(P:BK)(w:World)(K:BE)(mg:Str->BJ BG)(base:Heap)(f:BI)(j:Nat):Prop where
 ex:∃ fd ps oI,K.lookup f=some oI/\oI.cls=.type "function"/\FnQ P w K mg base j f fd ps (spJ K)/\ps.length=2/\Binds K fd ps []
end
section
variable{X:Cx}{pins:List (BI×Obj)}{Z:L2.St}{H:Hp}{s:BH}{C f:BI}{fd:FuncData}{ps:List Str}{k:Nat}
structure ClJQ(P:BK)(w:World)(K:BE)(mg:Str->BJ BG)(base:Heap)(x:Str)(j:Nat):Prop where
 ex:∃ C f fd ps oI,mg x=some (.ref C)/\CN K x C/\(KX K C/\KA K C)/\PySem.W.findIn K (.ref C) "__init__"=some (some (.ref f))/\K.lookup f=some oI/\oI.cls=.type "function"/\FnQ P w K mg base j f fd ps (spJ K)/\ps.length=2/\Binds K fd ps []
end
noncomputable abbrev hx(X:Cx)(a:BI):Cx:={ X with A:=X.A.mark (some (.ref a)),calm:=false }
structure GE(X:Cx)(XQ:XW)(e:Expr)(f:Ev D):Prop where
 h:JE X XQ e f
structure GA(X:Cx)(XQ:XW)(es:List Expr)(f:Ev (List D)):Prop where
 h:JA X XQ es f
structure GT(X:Cx)(XQ:XW)(e:Expr)(f:Ev Bool):Prop where
 h:JT X XQ e f
structure GW(X:Cx)(XQ:XW)(e:Expr)(f:Ev Bool):Prop where
 h:JW X XQ e f
structure GO(X:Cx)(XQ:XW)(e:BJ Expr)(f:Ev (BJ Int)):Prop where
 h:JO X XQ e f
structure GS(X:Cx)(XQ:XW)(st:Stmt)(f:Sv):Prop where
 h:JS X XQ st f
structure GSs(X:Cx)(XQ:XW)(st:List Stmt)(f:Sv):Prop where
 h:JSs X XQ st f
structure GI(X:Cx)(XQ:XW)(tg it:Expr)(f:Ev Src):Prop where
 h:JI X XQ tg it f
structure GG(X:Cx)(tg:Expr)(g:Tg):Prop where
 h:JG X tg g
structure GGs(X:Cx)(ts:List Expr)(g:Tgs):Prop where
 h:JGs X ts g
structure GTs(QC:Cx)(XQ:XW)(ifs:List Expr)(t:Ev Bool):Prop where
 h:JTs QC XQ ifs t
def Gye{x:Str}{pos:Pos}(t:FvT X.K X.mg x)(hg:Gl X x)(hp:Gs x=true):GE X XQ (.Name x pos) (cn (.fv x)):=⟨Gyd t hg hp⟩
def Gn8{x:Str}{pos:Pos}{e:Expr}(i:Nat){ys:List Str}(xs:XNs X.K ys)(L:XL X XQ)(C:CalX X.prog X.w X.K X.mg X.base x ps fn j)(hr:Room k X.A)(hj:j<=k)(hN:X.N[i]?=some y)(hv:Vis X.env.scope y)(hy:Gs y=true)(ha:GA X XQ (e::es) t)(he:starEach (e::es) X.env=(false,eval e X.env)::starEach es X.env:=by rfl)(hpl:(backTo pos (starEach es X.env)).any (·.1)=false:=by rfl):GE X XQ (.Call (.Name y p) (e::es) [] pos) (clv i x ps.length (gX ys fn) t):=⟨Gn6 i xs L C hr hj hN hv hy ha.h he hpl⟩
def Gyf{x:Str}{ys:List Str}{e:Expr}{pos:Pos}(k:Isx X.K X.mg x ys sub)(hg:Gl X "isinstance")(hm:X.mg "isinstance"=none)(hgt:Gl X x)(hp:Gs x=true)(he:GE X XQ e f)(hs:starEach [e,.Name x p2] X.env=(false,eval e X.env)::starEach [.Name x p2] X.env)(hpl:(backTo pos (starEach [.Name x p2] X.env)).any (·.1)=false)(hs2:starEach [.Name x p2] X.env=(false,eval (.Name x p2) X.env)::starEach [] X.env):GE X XQ (.Call (.Name "isinstance" p) [e,.Name x p2] [] pos) (o1 (Kw ys sub) f):=⟨Gx6 k hg hm hgt hp he.h hs hpl hs2⟩
def Gsa{x:Str}{ys:List Str}{e:Expr}{pos:Pos}(k:IsxB X.K T ys sub)(hv:bootBuiltins x=some (.type T))(hnx:x≠"__name__")(hg:Gl X "isinstance")(hm:X.mg "isinstance"=none)(hgt:Gl X x)(hmt:X.mg x=none)(hp:Gs x=true)(he:GE X XQ e f)(hs:starEach [e,.Name x p2] X.env=(false,eval e X.env)::starEach [.Name x p2] X.env)(hpl:(backTo pos (starEach [.Name x p2] X.env)).any (·.1)=false)(hs2:starEach [.Name x p2] X.env=(false,eval (.Name x p2) X.env)::starEach [] X.env):GE X XQ (.Call (.Name "isinstance" p) [e,.Name x p2] [] pos) (o1 (Kw ys sub) f):=⟨Gr9 k hv hnx hg hm hgt hmt hp he.h hs hpl hs2⟩
def Gn9{e:Expr}{f:Ev (List D)}(ho:GE X XQ o fo)(ha:GA X XQ [e] f)(hbase:attributeBase o "count" X.env (eval o X.env)=eval o X.env:=by rfl)(hfew:((backTo cpos (starEach [e] X.env)).all (fun x=>!x.1)&&(backToKw cpos (keywordEach [] X.env)).all (fun x=>x.1.isSome)
   && decide ([e].length+([]:List Keyword).length+(if([]:List Keyword).isEmpty then 0 else 1)<30))=true:=by rfl)(hline:(apos.endLine==cpos.line)=true:=by rfl)(hs:starEach [e] X.env=(false,eval e X.env)::starEach [] X.env:=by rfl):GE X XQ (.Call (.Attribute o "count" apos) [e] [] cpos) (mt Giu fo f):=⟨Gn3 ho.h ha.h hbase hfew hline hs⟩
def Goa{e:Expr}{f:Ev (List D)}(ho:GE X XQ o fo)(ha:GA X XQ [e] f)(hbase:attributeBase o "index" X.env (eval o X.env)=eval o X.env:=by rfl)(hfew:((backTo cpos (starEach [e] X.env)).all (fun x=>!x.1)&&(backToKw cpos (keywordEach [] X.env)).all (fun x=>x.1.isSome)
   && decide ([e].length+([]:List Keyword).length+(if([]:List Keyword).isEmpty then 0 else 1)<30))=true:=by rfl)(hline:(apos.endLine==cpos.line)=true:=by rfl)(hs:starEach [e] X.env=(false,eval e X.env)::starEach [] X.env:=by rfl):GE X XQ (.Call (.Attribute o "index" apos) [e] [] cpos) (mt Giv fo f):=⟨Gn4 ho.h ha.h hbase hfew hline hs⟩
def Ghf{x1}{tp:Pos}{f:Ev (List D)}{pos:Pos}(hg:Gl X "enumerate")(hm:X.mg "enumerate"=none)(ha:GA X XQ [a] f)(hs:starEach [a] X.env=[(false,eval a X.env)]:=by rfl):GI X XQ (.Tuple es x1 tp) (.Call (.Name "enumerate" p) [a] [] pos) (Gdi f):=⟨Gnq hg hm ha.h hs⟩
def Gf4{j pos}:GE X XQ (.Constant .none j pos) (cn .non):=⟨Gwh ⟩
def Yq{b:Bool}{j pos}:GE X XQ (.Constant (.bool b) j pos) (cn (.bl b)):=⟨Ha0 ⟩
def ge_int{i:Int}{j pos}:GE X XQ (.Constant (.int i) j pos) (cn (.int i)):=⟨Gwg ⟩
def Hm{x:Str}{j pos}:GE X XQ (.Constant (.str x) j pos) (cn (.str x)):=⟨Gwi ⟩
def Qu{pos:Pos}(ha:GE X XQ a fa)(hb:GE X XQ b fb):GE X XQ (.BinOp a .Add b pos) (o2 Gq fa fb):=⟨Gxa ha.h hb.h⟩
def Gob{pos:Pos}(ha:GE X XQ a fa)(hb:GE X XQ b fb):GE X XQ (.BinOp a .Sub b pos) (o2 Vr fa fb):=⟨Gw6 ha.h hb.h⟩
def Gyg{pos:Pos}(ha:GE X XQ a fa)(hb:GE X XQ b fb):GE X XQ (.BinOp a .Mult b pos) (o2 Kf fa fb):=⟨Gxc ha.h hb.h⟩
def Gyh{pos:Pos}(ha:GE X XQ a fa)(hb:GE X XQ b fb):GE X XQ (.BinOp a .Mod b pos) (o2 Xl fa fb):=⟨Gw7 ha.h hb.h⟩
def Gsb{pos:Pos}(ha:GE X XQ a fa)(hb:GE X XQ b fb):GE X XQ (.BinOp a .FloorDiv b pos) (o2 Gao fa fb):=⟨Grx ha.h hb.h⟩
def Gyi{pos:Pos}(ha:GE X XQ a fa)(hb:GE X XQ b fb):GE X XQ (.BinOp a .Pow b pos) (o2 Gfz fa fb):=⟨Gw8 ha.h hb.h⟩
def Hbq{pos:Pos}(ha:GE X XQ a fa)(hb:GE X XQ b fb):GE X XQ (.Compare a [.Lt] [b] pos) (o2 ltD fa fb):=⟨Ha8 ha.h hb.h⟩
def Hbr{pos:Pos}(ha:GE X XQ a fa)(hb:GE X XQ b fb):GE X XQ (.Compare a [.LtE] [b] pos) (o2 leD fa fb):=⟨Ha9 ha.h hb.h⟩
def Hbs{pos:Pos}(ha:GE X XQ a fa)(hb:GE X XQ b fb):GE X XQ (.Compare a [.GtE] [b] pos) (o2 geD fa fb):=⟨Hba ha.h hb.h⟩
def Guq{pos:Pos}(hu:X.A.units+64<cLine)(ha:GE X XQ a fa)(hb:GE X XQ b fb):GE X XQ (.Compare a [.Eq] [b] pos) (o2 eqD fa fb):=⟨Ha4 hu ha.h hb.h⟩
def Hbt{pos:Pos}(hu:X.A.units+64<cLine)(ha:GE X XQ a fa)(hb:GE X XQ b fb):GE X XQ (.Compare a [.NotEq] [b] pos) (o2 neD fa fb):=⟨Ha6 hu ha.h hb.h⟩
def Gsc{pos:Pos}(ha:GE X XQ a fa)(hb:GE X XQ b fb):GE X XQ (.Compare a [.IsNot] [b] pos) (o2 Ge9 fa fb):=⟨Grm ha.h hb.h⟩
def Goc{rest:List Expr}{g:Ev D}{pos:Pos}(ha:GE X XQ a f)(hb:GE X XQ (.BoolOp .And (b::rest) pos) g):GE X XQ (.BoolOp .And (a::b::rest) pos) (va f g):=⟨Gwr ha.h hb.h⟩
def God{op}{pos:Pos}(h:GE X XQ a f):GE X XQ (.BoolOp op [a] pos) f:=⟨Gwq h.h⟩
def Goe{pos:Pos}(ha:GE X XQ a f):GE X XQ (.UnaryOp .Not a pos) (vn f):=⟨Gws ha.h⟩
def Gf5{pos:Pos}(ha:GE X XQ a fa):GE X XQ (.UnaryOp .USub a pos) (o1 Gbm fa):=⟨Gxn ha.h⟩
def Gyj{c:Expr}{pos:Pos}(hc:GT X XQ c fc)(ha:GE X XQ a fa)(hb:GE X XQ b fb):GE X XQ (.IfExp c a b pos) (ie fc fa fb):=⟨Gwt hc.h ha.h hb.h⟩
def Hn{pos:Pos}(ha:GE X XQ a fa)(hb:GE X XQ b fb)(hs:Gan b:=by intro _ _; rfl):GE X XQ (.Subscript a b pos) (o2 getD fa fb):=⟨Gxe ha.h hb.h hs⟩
def Ue{e:Expr}{lo hi:BJ Expr}{fe:Ev D}{fl fh:Ev (BJ Int)}{pos:Pos}(he:GE X XQ e fe)(hl:GO X XQ lo fl)(hh:GO X XQ hi fh):GE X XQ (.Subscript e (.Slice lo hi none p2) pos) (sl2 fe fl fh):=⟨Glp he.h hl.h hh.h⟩
def Uf{f:Ev (List D)}{pos:Pos}(h:GA X XQ es f):GE X XQ (.List es pos) (ls f):=⟨Gwl h.h⟩
def Ju{f:Ev (List D)}{x1}{pos:Pos}(h:GA X XQ es f):GE X XQ (.Tuple es x1 pos) (tp f):=⟨Gwk h.h⟩
def Gyk{x:Str}{e:Expr}{pos:Pos}(k:Kit X.K T)(hv:bootBuiltins x=some (.type T))(hnx:x≠"__name__")(hdx:(x==("__debug__":Str))=false)(hg:Gl X "isinstance")(hm:X.mg "isinstance"=none)(hgt:Gl X x)(hmt:X.mg x=none)(he:GE X XQ e f)(hs:starEach [e,.Name x p2] X.env=(false,eval e X.env)::starEach [.Name x p2] X.env)(hpl:(backTo pos (starEach [.Name x p2] X.env)).any (·.1)=false)(hs2:starEach [.Name x p2] X.env=(false,eval (.Name x p2) X.env)::starEach [] X.env):GE X XQ (.Call (.Name "isinstance" p) [e,.Name x p2] [] pos) (o1 (isD T) f):=⟨Gxr k hv hnx hdx hg hm hgt hmt he.h hs hpl hs2⟩
def Wm{pos:Pos}{e:Expr}{f:Ev (List D)}(hg:Gl X "len")(hm:X.mg "len"=none)(ha:GA X XQ [e] f)(he:starEach [e] X.env=(false,eval e X.env)::starEach [] X.env:=by rfl):GE X XQ (.Call (.Name "len" p) [e] [] pos) (b1 Hd f):=⟨Gxh hg hm ha.h he⟩
def Gsd{pos:Pos}{e:Expr}{f:Ev (List D)}(hg:Gl X "list")(hm:X.mg "list"=none)(ha:GA X XQ [e] f)(he:starEach [e] X.env=(false,eval e X.env)::starEach [] X.env:=by rfl):GE X XQ (.Call (.Name "list" p) [e] [] pos) (b1 Qr f):=⟨Grj hg hm ha.h he⟩
def Gof{pos:Pos}{e:Expr}{f:Ev (List D)}(hg:Gl X "tuple")(hm:X.mg "tuple"=none)(ha:GA X XQ [e] f)(he:starEach [e] X.env=(false,eval e X.env)::starEach [] X.env:=by rfl):GE X XQ (.Call (.Name "tuple" p) [e] [] pos) (b1 Kv f):=⟨Gne hg hm ha.h he⟩
def Gse{pos:Pos}{e:Expr}{f:Ev (List D)}(hg:Gl X "int")(hm:X.mg "int"=none)(ha:GA X XQ [e] f)(he:starEach [e] X.env=(false,eval e X.env)::starEach [] X.env:=by rfl):GE X XQ (.Call (.Name "int" p) [e] [] pos) (b1 Yg f):=⟨Grk hg hm ha.h he⟩
def Xn{pos:Pos}{e:Expr}{f:Ev (List D)}(hr:Room k X.A)(hg:Gl X "repr")(hm:X.mg "repr"=none)(ha:GA X XQ [e] f)(he:starEach [e] X.env=(false,eval e X.env)::starEach [] X.env:=by rfl):GE X XQ (.Call (.Name "repr" p) [e] [] pos) (b1 Qt f):=⟨Grv hr hg hm ha.h he⟩
def Gbo{e:Expr}{f:Ev (List D)}(ho:GE X XQ o fo)(ha:GA X XQ [e] f)(hbase:attributeBase o "append" X.env (eval o X.env)=eval o X.env:=by rfl)(hfew:((backTo cpos (starEach [e] X.env)).all (fun x=>!x.1)&&(backToKw cpos (keywordEach [] X.env)).all (fun x=>x.1.isSome)
   && decide ([e].length+([]:List Keyword).length+(if([]:List Keyword).isEmpty then 0 else 1)<30))=true:=by rfl)(hline:(apos.endLine==cpos.line)=true:=by rfl)(hs:starEach [e] X.env=(false,eval e X.env)::starEach [] X.env:=by rfl):GE X XQ (.Call (.Attribute o "append" apos) [e] [] cpos) (mt Gf1 fo f):=⟨Gln ho.h ha.h hbase hfew hline hs⟩
def Gog{pos:Pos}(ha:GE X XQ a fa)(hb:GE X XQ b fb):GT X XQ (.Compare a [.Lt] [b] pos) (tb (o2 ltD fa fb)):=⟨Hbb ha.h hb.h⟩
def Gur{pos:Pos}(ha:GE X XQ a fa)(hb:GE X XQ b fb):GT X XQ (.Compare a [.Gt] [b] pos) (tb (o2 gtD fa fb)):=⟨Hbc ha.h hb.h⟩
def Gus{pos:Pos}(ha:GE X XQ a fa)(hb:GE X XQ b fb):GT X XQ (.Compare a [.GtE] [b] pos) (tb (o2 geD fa fb)):=⟨Hbd ha.h hb.h⟩
def Gju{pos:Pos}(hu:X.A.units+64<cLine)(ha:GE X XQ a fa)(hb:GE X XQ b fb):GT X XQ (.Compare a [.Eq] [b] pos) (tb (o2 eqD fa fb)):=⟨Ha5 hu ha.h hb.h⟩
def Gar{pos:Pos}(hu:X.A.units+64<cLine)(ha:GE X XQ a fa)(hb:GE X XQ b fb):GT X XQ (.Compare a [.NotEq] [b] pos) (tb (o2 neD fa fb)):=⟨Ha7 hu ha.h hb.h⟩
def Gyl{pos:Pos}(ha:GE X XQ a fa)(hb:GE X XQ b fb):GT X XQ (.Compare a [.Is] [b] pos) (tb (o2 Gg8 fa fb)):=⟨Gxk ha.h hb.h⟩
def Ghg{c:Expr}{op op':CmpOp}{r r':R2}{o o':D->D->Sto->Out D}{fc:Ev D}{pos:Pos}(ho:OpR X (compareOp op) r)(hd:OpD X.K r o)(ho':OpR X (compareOp op') r')(hd':OpD X.K r' o')(ha:GE X XQ a fa)(hb:GE X XQ b fb)(hc:GE X XQ c fc)(hm:lastMarks [op,op'] [b,c]=false:=by with_unfolding_all rfl):GT X XQ (.Compare a [op,op'] [b,c] pos) (tb (ch o o' fa fb fc)):=⟨Gnf ho hd ho' hd' ha.h hb.h hc.h hm⟩
def Xo{f:Ev Bool}{pos:Pos}(h:GT X XQ a f):GT X XQ (.UnaryOp .Not a pos) (tn f):=⟨Gwn h.h⟩
def Ug{e:Expr}(h:GE X XQ e f)(he:∀ whole,isTrue e X.env whole=(do let v <- whole; standAt e.pos; holding [v] (truthy v)):=by intro _; rfl):GT X XQ e (tt f):=⟨Gwm h.h he⟩
def Gsf{f:Ev Bool}{pos:Pos}(h:GT X XQ a f):GW X XQ (.BoolOp .And [a] pos) f:=⟨Gq2 h.h⟩
def Gad{f:Ev Bool}{pos:Pos}(h:GT X XQ a f):GW X XQ (.BoolOp .Or [a] pos) f:=⟨Gwo h.h⟩
def Goh{rest:List Expr}{f g:Ev Bool}{pos:Pos}(h:GT X XQ a f)(hb:GW X XQ (.BoolOp .And (b::rest) pos) g):GW X XQ (.BoolOp .And (a::b::rest) pos) (ta f g):=⟨Gwp h.h hb.h⟩
def Yr{rest:List Expr}{f g:Ev Bool}{pos:Pos}(h:GT X XQ a f)(hb:GW X XQ (.BoolOp .Or (b::rest) pos) g):GW X XQ (.BoolOp .Or (a::b::rest) pos) (to f g):=⟨Ha2 h.h hb.h⟩
def BL :GA X XQ [] an:=⟨Gwj ⟩
def Ga{e:Expr}{g:Ev (List D)}(ha:GE X XQ e f)(hr:GA X XQ es g)(hs:starEach (e::es) X.env=(false,eval e X.env)::starEach es X.env:=by rfl):GA X XQ (e::es) (ac f g):=⟨Gqy ha.h hr.h hs⟩
def Gas :GO X XQ none onone:=⟨Grn ⟩
def Vh{e:Expr}(h:GE X XQ e f):GO X XQ (some e) (osome f):=⟨Gro h.h⟩
def Vo{f:Ev (List D)}{pos:Pos}(hg:Gl X "range")(hm:X.mg "range"=none)(ha:GA X XQ [a] f)(hs:starEach [a] X.env=[(false,eval a X.env)]:=by rfl):GI X XQ tg (.Call (.Name "range" p) [a] [] pos) (ir1 f):=⟨Glk hg hm ha.h hs⟩
def Gls{f:Ev (List D)}{pos:Pos}(hg:Gl X "range")(hm:X.mg "range"=none)(ha:GA X XQ [a,b] f)(hs:starEach [a,b] X.env=[(false,eval a X.env),(false,eval b X.env)]:=by rfl)(hs2:starEach [b] X.env=[(false,eval b X.env)]:=by rfl):GI X XQ tg (.Call (.Name "range" p) [a,b] [] pos) (ir2 f):=⟨Gll hg hm ha.h hs hs2⟩
def Gdn{l:Expr}(hl:GE X XQ l f):GI X XQ tg l (isrc f):=⟨Gw3 hl.h⟩
def ggn(i:Nat){x:Str}{pos:Pos}(hN:X.N.Nodup)(h:OkL X.env.scope x)(hi:X.N[i]?=some x:=by rfl)(hf:X.fn x=true:=by rfl):GG X (.Name x pos) (gn i):=⟨jgn i hN h hi hf⟩
def Hea(i:Nat){s2:BH}{x:Str}{pos:Pos}(hN:N'.Nodup)(h:Grw scope x=true)(hi:N'[i]?=some x:=by rfl):GG (blk X s2 H2 C scope c N' fp) (.Name x pos) (gn i):=⟨Hd2 i hN h hi⟩
def Ys{m:Nat}{k:Tgs}{pos:Pos}(hc:X.calm=true)(h:GGs X es k)(hn:(assignEach es X.env).length=n:=by rfl)(hst:(assignEach es X.env).findIdx? (·.1)=none:=by rfl):GG X (.Tuple es m pos) (gt k n):=⟨Gwv hc h.h hn hst⟩
def We :GGs X [] gnil:=⟨Gq6 ⟩
def Hk{e:Expr}{g:Tg}{k:Tgs}(h1:GG X e g)(h2:GGs X es k)(hs:(assignEach (e::es) X.env).map (·.2)=assign e X.env::(assignEach es X.env).map (·.2):=by rfl):GGs X (e::es) (gcons g k):=⟨Gm2 h1.h h2.h hs⟩
def Jg :GSs X XQ [] skip:=⟨Gq3 ⟩
def Gi{rest:List Stmt}{f g:Sv}(h1:GS X XQ st f)(h2:GSs X XQ rest g):GSs X XQ (st::rest) (sq f g):=⟨Gm0 h1.h h2.h⟩
def Go{f:Sv}(h1:GS X XQ st f):GSs X XQ [st] f:=⟨Gq4 h1.h⟩
def Jk{e:Expr}{pos:Pos}(he:GE X XQ e f):GS X XQ (.Return (some e) pos) (sret f):=⟨Gwu he.h⟩
def Qp{c:Expr}{a b:List Stmt}{f g:Sv}{pos:Pos}(hc:GT X XQ c fc)(ha:GSs X XQ a f)(hb:GSs X XQ b g):GS X XQ (.If c a b pos) (sif fc f g):=⟨Ha3 hc.h ha.h hb.h⟩
def gset(i:Nat){x:Str}{e:Expr}{pos:Pos}(hN:X.N.Nodup)(h:OkL X.env.scope x)(he:GE X XQ e f)(hi:X.N[i]?=some x:=by rfl)(hs:swapsWith e (some (.Name x pos')) pos.line X.env=pure false:=by rfl)(hf:X.fn x=true:=by rfl):GS X XQ (.Assign [.Name x pos'] e pos) (sa f (gn i)):=⟨jset i hN h he.h hi hs hf⟩
def Goi(i:Nat){sc:Scope}{pos:Pos}{pk:List (BJ Nat)}{f:Ev Src}{g:Tg}{t:Ev Bool}{e:Ev D}(hsc:X.env.scope=sc)(hNN:X.N=N)(ct:CompTab sc scope N N' pk)(hcm:X.calm=true)(hi:GI X XQ tg iter f)(hg:∀ cl s2 H2 C fp,GG (blk X s2 H2 C scope cl N' fp) tg g)(ht:∀ cl s2 H2 C fp,GTs (blk X s2 H2 C scope cl N' fp) XN ifs t)(he:∀ cl s2 H2 C fp,GE (blk X s2 H2 C scope cl N' fp) XN elt e)(hN:X.N.Nodup)(hl:OkL X.env.scope y)(hsw:swapsWith (.ListComp elt [⟨tg,iter,ifs,0⟩] scope pos) (some (.Name y py)) spos.line X.env=pure true)(hy:X.N[i]?=some y:=by rfl)(hs:∀ x,foldedSetIterable iter X.env x=pure x:=by intro _; rfl)(hf:X.fn y=true:=by rfl):GS X XQ (.Assign [.Name y py] (.ListComp elt [⟨tg,iter,ifs,0⟩] scope pos) spos) (sa (cmp f pk g t e) (gn i)):=⟨Gnn i hsc hNN ct hcm hi.h (fun z0 z1 z2 z3 z4=>(hg z0 z1 z2 z3 z4).h) (fun z0 z1 z2 z3 z4=>(ht z0 z1 z2 z3 z4).h) (fun z0 z1 z2 z3 z4=>(he z0 z1 z2 z3 z4).h) hN hl hsw hy hs hf⟩
def Gbp{e:Expr}{g:Tg}{pos:Pos}(he:GE X XQ e f)(hg:GG X tg g)(hs:swapsWithSole [tg] e pos.line X.env=pure false:=by rfl)(hw:swappedStores [tg] e X.env=pure none:=by rfl)(h1:(assignEach [tg] X.env).map (·.2)=[assign tg X.env]:=by rfl):GS X XQ (.Assign [tg] e pos) (sa f g):=⟨Gww he.h hg.h hs hw h1⟩
def Goj(i j:Nat){x:Str}{f:Ev (List D)}{px pt pos:Pos}{kt k2 pt2}(hc:X.calm=true)(hN:X.N.Nodup)(hi:X.N[i]?=some x)(hj:X.N[j]?=some y)(hij:i≠j)(hx:X.env.scope.names.lookup x=some .local)(hy:X.env.scope.names.lookup y=some .local)(ha:GA X XQ [a,b] f)(hw:swappedStores [.Tuple [.Name x px,.Name y py] kt pt] (.Tuple [a,b] k2 pt2) X.env=pure (some [x,y]))(hs:swapsWithSole [.Tuple [.Name x px,.Name y py] kt pt] (.Tuple [a,b] k2 pt2) pos.line X.env=pure false:=by rfl):GS X XQ (.Assign [.Tuple [.Name x px,.Name y py] kt pt] (.Tuple [a,b] k2 pt2) pos) (spar i j f):=⟨Gxs i j hc hN hi hj hij hx hy ha.h hw hs⟩
def Gok{ob ix e:Expr}{fi:Ev D}{pos:Pos}(he:GE X XQ e f)(hob:GE X XQ ob fo)(hix:GE X XQ ix fi)(hs:swapsWithSole [.Subscript ob ix p2] e pos.line X.env=pure false:=by rfl)(hw:swappedStores [.Subscript ob ix p2] e X.env=pure none:=by rfl)(h1:(assignEach [.Subscript ob ix p2] X.env).map (·.2)=[assign (.Subscript ob ix p2) X.env]:=by rfl)(ha:∀ v,assign (.Subscript ob ix p2) X.env v=(do
   let ov <- holding [v] (eval ob X.env)
   let iv <- holding [v,ov] (eval ix X.env)
   standAt p2
   holding [v,ov,iv] (setItem ov iv v)
   release [v,ov,iv] []):=by intro _; rfl):GS X XQ (.Assign [.Subscript ob ix p2] e pos) (ss f fo fi Jo):=⟨Gna he.h hob.h hix.h hs hw h1 ha⟩
def Gcx{e:Expr}{pos:Pos}(he:GE X XQ e f)(hs:swapsWith e none pos.line X.env=pure false:=by rfl):GS X XQ (.Expr e pos) (sx f):=⟨Gq5 he.h hs⟩
def Gbq{f:Ev Src}{g:Tg}{b:Sv}{pos:Pos}(hp:PassesOwn (model X.prog X.w) X.A X.env X.xe)(hc:X.calm=true)(hi:GI X XQ tg iter f)(hg:GG X tg g)(hb:GSs X XQ body b)(hs:∀ x,foldedSetIterable iter X.env x=pure x:=by intro _; rfl):GS X XQ (.For tg iter body [] pos) (sfor f g b):=⟨Gwz hp hc hi.h hg.h hb.h hs⟩
def Gol(fuel:Nat){c:Expr}{b:Sv}{pos:Pos}(hp:PassesOwn (model X.prog X.w) X.A X.env X.xe)(hc:GT X XQ c fc)(hb:GSs X XQ body b):GS X XQ (.While c body [] pos) (whN fc b fuel):=⟨Gm6 fuel hp hc.h hb.h⟩
def Gym(i:Nat){x:Str}{e:Expr}{pos:Pos}(hN:X.N.Nodup)(h:OkL X.env.scope x)(he:GE X XQ e f)(hi:X.N[i]?=some x:=by rfl)(hf:X.fn x=true:=by rfl):GS X XQ (.AugAssign (.Name x pos') .Add e pos) (sag i (fun a b=>a+b) f):=⟨Gxw i hN h he.h hi hf⟩
def Gcc{pos:Pos}:GS X XQ (.Continue pos) sct:=⟨Gg7 ⟩
def gv(i:Nat){x:Str}{pos:Pos}(h:OkV X.env.scope x)(hN:X.N[i]?=some x:=by rfl):GE X XQ (.Name x pos) (vr i):=⟨jv i h hN⟩
def gvB(i:Nat){s2:BH}{x:Str}{pos:Pos}(h:Gnm scope x=true)(hN:N'[i]?=some x:=by rfl):GE (blk X s2 H2 C scope c N' fp) XQ (.Name x pos) (vr i):=⟨jvB i h hN⟩
def gown{x:Str}{pos:Pos}{e:Expr}(C:Cal X.prog X.w X.K X.mg X.base x ps fn j)(hr:Room k X.A)(hg:Gl X x)(hp:Gs x=true)(ha:GA X XQ (e::es) t)(hn:ps.length=n:=by rfl)(hj:j<=k:=by decide)(he:starEach (e::es) X.env=(false,eval e X.env)::starEach es X.env:=by rfl)(hpl:(backTo pos (starEach es X.env)).any (·.1)=false:=by rfl):GE X XQ (.Call (.Name x p) (e::es) [] pos) (cl n (Gg fn) t):=⟨jown C hr hg hp ha.h hn hj he hpl⟩
def gcomp{sc:Scope}{pos:Pos}{pk:List (BJ Nat)}{f:Ev Src}{g:Tg}{t:Ev Bool}{e:Ev D}(hsc:X.env.scope=sc)(hNN:X.N=N)(ct:CompTab sc scope N N' pk)(hcm:X.calm=true)(hi:GI X XQ tg iter f)(hg:∀ cl s2 H2 C fp,GG (blk X s2 H2 C scope cl N' fp) tg g)(ht:∀ cl s2 H2 C fp,GTs (blk X s2 H2 C scope cl N' fp) XN ifs t)(he:∀ cl s2 H2 C fp,GE (blk X s2 H2 C scope cl N' fp) XN elt e)(hs:∀ x,foldedSetIterable iter X.env x=pure x:=by intro _; rfl):GE X XQ (.ListComp elt [⟨tg,iter,ifs,0⟩] scope pos) (cmp f pk g t e):=⟨jcomp hsc hNN ct hcm hi.h (fun z0 z1 z2 z3 z4=>(hg z0 z1 z2 z3 z4).h) (fun z0 z1 z2 z3 z4=>(ht z0 z1 z2 z3 z4).h) (fun z0 z1 z2 z3 z4=>(he z0 z1 z2 z3 z4).h) hs⟩
def Gat{QC:Cx}:GTs QC XQ [] ttrue:=⟨Grb ⟩
def Gjv{QC:Cx}{c:Expr}{t:Ev Bool}(h:GT QC XQ c t):GTs QC XQ [c] t:=⟨Grc h.h⟩
def GW.jt{e:Expr}{f:Ev Bool}(h:GW X XQ e f):GT X XQ e f:=⟨JW.jt h.h⟩
noncomputable def Gsg:Stmt->List Stmt
 | .ClassDef _ _ _ b _ _ _ _ _ _ _=>b
 | _=>[]
section
variable{X:Cx}{XQ:XW}{k:Nat}{x:Str}{p pos:Pos}{e:Expr}{es:List Expr}
def Hbu{ys:List Str}(xs:XNs X.K ys)(L:XL X XQ)(C:CalX X.prog X.w X.K X.mg X.base x ps fn j)(hr:Room k X.A)(hg:Gl X x)(hp:Gs x=true)(ha:GA X XQ (e::es) t)(hn:ps.length=n:=by rfl)(hj:j<=k:=by decide)(he:starEach (e::es) X.env=(false,eval e X.env)::starEach es X.env:=by rfl)(hpl:(backTo pos (starEach es X.env)).any (·.1)=false:=by rfl):
  GE X XQ (.Call (.Name x p) (e::es) [] pos) (cl n (gX ys fn) t):=⟨Hbl xs L C hr hg hp ha.h hn hj he hpl⟩
def Gom{pos:Pos}(L:XL X XQ)(hcm:X.calm=true)(C:ClX X.prog X.w X.K X.mg X.base x j)(hr:Room k X.A)(hg:Gl X x)(hp:Gs x=true)(ha:GA X XQ [a] t)(hj:j+1<=k:=by decide)(he:starEach [a] X.env=(false,eval a X.env)::starEach [] X.env:=by rfl)(hpl:(backTo cpos (starEach [] X.env)).any (·.1)=false:=by rfl):
  GS X XQ (.Raise (some (.Call (.Name x np) [a] [] cpos)) none pos) (srs x t):=⟨Gny L hcm C hr hg hp ha.h hj he hpl⟩
def Gsh(i:Nat){c n:Str}{pos:Pos}{ys:List Str}{fb:Sv}(pl:Plain X)(ct:Cat X.K X.mg c ys)(hg:Gl X c)(hp:Gs c=true)(hN:X.N.Nodup)(hn:OkC X.env.scope n)(hb:∀ (pn:List (BI×Obj)) (xe:BG->BH->Prop) (XQ':XW),XL (trb X pn xe) XQ'->GSs (trb X pn xe) XQ' body fb)(hs:∀ a,GSs (hnd X a) XN (b0::suite) fh)(hi:X.N[i]?=some n:=by rfl):
  GS X XQ (.Try body [.ExceptHandler (some (.Name c np)) (some n) (b0::suite) hpos] [] [] pos) (Xd ys (hdl i fh) fb):=⟨Gr7 pl ct hg hp hN hi hn.h (fun a b c d=>(hb a b c d).h) fun a=>(hs a).h⟩
def Gsi{c:Str}{pos:Pos}{ys:List Str}{fb:Sv}(pl:Plain X)(ct:Cat X.K X.mg c ys)(hg:Gl X c)(hp:Gs c=true)(hb:∀ (pn:List (BI×Obj)) (xe:BG->BH->Prop) (XQ':XW),XL (trb X pn xe) XQ'->GSs (trb X pn xe) XQ' body fb)(hs:∀ a,GSs (hnd X a) XN (b0::suite) fh):
  GS X XQ (.Try body [.ExceptHandler (some (.Name c np)) none (b0::suite) hpos] [] [] pos) (Xd ys (Gr6 fh) fb):=⟨Gr8 pl ct hg hp (fun a b c d=>(hb a b c d).h) fun a=>(hs a).h⟩
end
structure FH(K:BE)(x:Str)(st:Stmt):Prop where
 ex:∃ (f:BI) (oc:BG) (od an:BJ BI) (osl:Array (BJ BG)) (kV doc pm cdv ct:BG),PySem.W.nsIn K mainGlobals x=some (some (.ref f))/\K.lookup f=some ⟨oc,od,.func (PySem.W.fnOf x x (Hx st) (Gy st) (Gb st) .none kV doc pm an cdv ct),osl⟩/\PySem.W.codeIn K cdv x=true/\PySem.W.keepIn K (.ref f)=true
section
variable{K:BE}{mg:Str->BJ BG}
def Hbv{x:Str}{f:BI}{oc:BG}{an:BJ BI}{kV:BG}(a:PySem.W.nsIn K mainGlobals x=some (some (.ref f)))(l:K.lookup f=some ⟨oc,od,.func (PySem.W.fnOf x x (Hx st) (Gy st) (Gb st) .none kV doc pm an cdv ct),osl⟩)(c:PySem.W.codeIn K cdv x=true)(k:PySem.W.keepIn K (.ref f)=true):FH K x st:=⟨f,oc,od,an,osl,kV,doc,pm,cdv,ct,a,l,c,k⟩
def FH.dn{x:Str}(F:FH K x st)(X:K.In h)(G:h.Ns mainGlobals mg)(hb:∀ (kV doc pm:BG) (an:BJ BI) (cdv ct:BG) (us:List BG),us.length=ps.length->bindArgs (PySem.W.fnOf x x (Hx st) (Gy st) (Gb st) .none kV doc pm an cdv ct) ⟨us,[]⟩=pure (ps.zip us)):Dn K mg x st ps:=by
 obtain⟨f,oc,od,an,osl,kV,doc,pm,cdv,ct,a,l,c,k⟩:=F.ex
 exact Hbf X G a l c k hb
def FH.fv{x:Str}(F:FH K x st)(X:K.In h)(G:h.Ns mainGlobals mg):FvT K mg x:=by
 obtain⟨f,oc,od,an,osl,kV,doc,pm,cdv,ct,a,l,c,k⟩:=F.ex
 exact⟨f,a,PySem.W.mg_of X G a⟩
end
section
variable{K:BE}{h:Heap}{mg:Str->BJ BG}{x:Str}
def Gsj{t:Tok}(X:K.In h)(G:h.Ns mainGlobals mg)(a:PySem.W.nsIn K mainGlobals x=some (some (.str y t))):∃ u v,mg x=some u/\Hc v u/\∀ mp H,Rep K mp H (.str y) v:=
 ⟨_,.str y,PySem.W.mg_of X G a,⟨t,rfl⟩,fun _ _=>rfl⟩
def Gon{p:BI}{t:Tok}{sl:Array (BJ BG)}(X:K.In h)(G:h.Ns mainGlobals mg)(a:PySem.W.nsIn K mainGlobals x=some (some (.ref p)))(l:K.lookup p=some { cls:=.type "tuple",dict:=none,data:=.seq #[.str y t] n,slots:=sl }):
  ∃ u v,mg x=some u/\Hc v u/\∀ mp H,Rep K mp H (.tup [.str y]) v:=
 ⟨_,.ref p,PySem.W.mg_of X G a,rfl,fun _ _=>⟨p,[.str y],rfl,.inr ⟨_,_,n,l,rfl,rfl,by rw[sizeLine_eq]; simp,.cons ⟨t,rfl⟩ .nil⟩,RepL.cons rfl RepL.nil⟩⟩
end
structure FnS(N P:List Str)(sc:Scope):Prop where
 s:FnScope N P sc
 v:N.all (okV sc)=true
 l:N.all (okL sc)=true
def kdF{P:List Str}{s:Scope}(a:s.kind=.function:=by rfl)(b:s.isCoroutine=false:=by rfl)(c:s.isGenerator=false:=by rfl)(d:N.Nodup:=by decide +kernel)(e:N.take P.length=P:=by rfl)(f:∀ x∈P,s.names.lookup x=some .local\/s.names.lookup x=some .cell:=by decide +kernel)(g:∀ y∈s.names,y.2≠.free:=by decide +kernel)(v:N.all (okV s)=true:=by decide +kernel)(l:N.all (okL s)=true:=by decide +kernel):FnS N P s:=⟨⟨a,b,c,d,e,f,g⟩,v,l⟩
def FnS.nd{P:List Str}{sc:Scope}(S:FnS N P sc):N.Nodup:=S.s.nd
def Goo{i:Nat}{x:Str}(h:N[i]?=some x):x∈N:=Ak h
def FnS.ov{P:List Str}{sc:Scope}{i:Nat}{x:Str}(S:FnS N P sc)(h:N[i]?=some x):OkV sc x:=⟨AN.mp S.v x (Goo h)⟩
def FnS.ol{P:List Str}{sc:Scope}{i:Nat}{x:Str}(S:FnS N P sc)(h:N[i]?=some x):OkL sc x:=⟨AN.mp S.l x (Goo h)⟩
def kdC{sc:Scope}{pk:List (BJ Nat)}(a:scope.kind=.function:=by rfl)(b:∀ y∈scope.names,y.2=.cell->scope.names.lookup y.1=some .cell:=by decide +kernel)(c:∀ y∈scope.names,y.2=.local->scope.names.lookup y.1=some .local:=by decide +kernel)(d:∀ y∈scope.names,y.2=.free->sc.names.lookup y.1=some .cell\/sc.names.lookup y.1=some .free:=by decide +kernel)(e:pk.length=N'.length:=by rfl)(f:((List.range N'.length).all fun i=>match pk[i]? with
  | some (some j)=>match N[j]?,N'[i]? with
   | some x,some y=>(x==y)&&((sc.names.lookup y==some NameKind.cell)||(sc.names.lookup y==some NameKind.free))&&(scope.names.lookup y==some NameKind.free)
   | _,_=>false
  | _=>true)=true:=by decide +kernel):CompTab sc scope N N' pk:=⟨a,b,c,d,e,f⟩
section
variable{X:Cx}{XQ:XW}{k:Nat}{x:Str}{p pos:Pos}{e:Expr}{es:List Expr}{P:List Str}{f:Ev D}
def gw(i:Nat)(S:FnS X.N P X.env.scope)(hN:X.N[i]?=some x:=by rfl):GE X XQ (.Name x pos) (vr i):=gv i (S.ov hN) hN
def gG(s:Scope)(h:okG s x=true:=by decide +kernel)(hs:X.env.scope=s:=by rfl):Gl X x:=gl ⟨hs▸h⟩
def ggw(i:Nat)(S:FnS X.N P X.env.scope)(hi:X.N[i]?=some x:=by rfl)(hf:X.fn x=true:=by rfl):GG X (.Name x pos) (gn i):=ggn i S.nd (S.ol hi) hi hf
def gsew(i:Nat)(S:FnS X.N P X.env.scope)(he:GE X XQ e f)(hi:X.N[i]?=some x:=by rfl)(hs:swapsWith e (some (.Name x pos')) pos.line X.env=pure false:=by rfl)(hf:X.fn x=true:=by rfl):
  GS X XQ (.Assign [.Name x pos'] e pos) (sa f (gn i)):=gset i S.nd (S.ol hi) he hi hs hf
def gsiw(i:Nat)(S:FnS X.N P X.env.scope)(he:GE X XQ e f)(hi:X.N[i]?=some x:=by rfl)(hf:X.fn x=true:=by rfl):GS X XQ (.AugAssign (.Name x pos') .Add e pos) (sag i (fun a b=>a+b) f):=Gym i S.nd (S.ol hi) he hi hf
def gow(s:Scope)(C:Cal X.prog X.w X.K X.mg X.base x ps fn j)(hr:Room k X.A)(ha:GA X XQ (e::es) t)(hg:okG s x=true:=by decide +kernel)(hn:ps.length=n:=by rfl)(hj:j<=k:=by decide)(hs:X.env.scope=s:=by rfl)(he:starEach (e::es) X.env=(false,eval e X.env)::starEach es X.env:=by rfl)(hpl:(backTo pos (starEach es X.env)).any (·.1)=false:=by rfl):
  GE X XQ (.Call (.Name x p) (e::es) [] pos) (cl n (Gg fn) t):=gown C hr (gG s hg hs) (okG.gl hg).2 ha hn hj he hpl
def Gsk{ys:List Str}(s:Scope)(xs:XNs X.K ys)(L:XL X XQ)(C:CalX X.prog X.w X.K X.mg X.base x ps fn j)(hr:Room k X.A)(ha:GA X XQ (e::es) t)(hg:okG s x=true:=by decide +kernel)(hn:ps.length=n:=by rfl)(hj:j<=k:=by decide)(hs:X.env.scope=s:=by rfl)(he:starEach (e::es) X.env=(false,eval e X.env)::starEach es X.env:=by rfl)(hpl:(backTo pos (starEach es X.env)).any (·.1)=false:=by rfl):
  GE X XQ (.Call (.Name x p) (e::es) [] pos) (cl n (gX ys fn) t):=Hbu xs L C hr (gG s hg hs) (okG.gl hg).2 ha hn hj he hpl
def Hbw(i:Nat){ys:List Str}(S:FnS X.N P X.env.scope)(xs:XNs X.K ys)(L:XL X XQ)(C:CalX X.prog X.w X.K X.mg X.base x ps fn j)(hr:Room k X.A)(ha:GA X XQ (e::es) t)(hj:j<=k:=by decide)(hN:X.N[i]?=some y:=by rfl)(he:starEach (e::es) X.env=(false,eval e X.env)::starEach es X.env:=by rfl)(hpl:(backTo pos (starEach es X.env)).any (·.1)=false:=by rfl):GE X XQ (.Call (.Name y p) (e::es) [] pos) (clv i x ps.length (gX ys fn) t):=Gn8 i xs L C hr hj hN (okV.vis (S.ov hN).h).1 (okV.vis (S.ov hN).h).2 ha he hpl
def Ghh(s:Scope)(L:XL X XQ)(C:ClX X.prog X.w X.K X.mg X.base x j)(hr:Room k X.A)(ha:GA X XQ [a] t)(hg:okG s x=true:=by decide +kernel)(hcm:X.calm=true:=by rfl)(hj:j+1<=k:=by decide)(hs:X.env.scope=s:=by rfl)(he:starEach [a] X.env=(false,eval a X.env)::starEach [] X.env:=by rfl)(hpl:(backTo cpos (starEach [] X.env)).any (·.1)=false:=by rfl):
  GS X XQ (.Raise (some (.Call (.Name x np) [a] [] cpos)) none pos) (srs x t):=Gom L hcm C hr (gG s hg hs) (okG.gl hg).2 ha hj he hpl
def Va{ys:List Str}(s:Scope)(k:Isx X.K X.mg x ys sub)(hm:X.mg "isinstance"=none)(he:GE X XQ e f)(hg:okG s "isinstance"=true:=by decide +kernel)(hg2:okG s x=true:=by decide +kernel)(h0:X.env.scope=s:=by rfl)(hs:starEach [e,.Name x p2] X.env=(false,eval e X.env)::starEach [.Name x p2] X.env:=by rfl)(hpl:(backTo pos (starEach [.Name x p2] X.env)).any (·.1)=false:=by rfl)(hs2:starEach [.Name x p2] X.env=(false,eval (.Name x p2) X.env)::starEach [] X.env:=by rfl):GE X XQ (.Call (.Name "isinstance" p) [e,.Name x p2] [] pos) (o1 (Kw ys sub) f):=Gyf k (gG s hg h0) hm (gG s hg2 h0) (okG.gl hg2).2 he hs hpl hs2
def Gyn{ys:List Str}(s:Scope)(k:IsxB X.K T ys sub)(hm:X.mg "isinstance"=none)(hmt:X.mg x=none)(he:GE X XQ e f)(hv:bootBuiltins x=some (.type T):=by rfl)(hnx:x≠"__name__":=by decide +kernel)(hg:okG s "isinstance"=true:=by decide +kernel)(hg2:okG s x=true:=by decide +kernel)(h0:X.env.scope=s:=by rfl)(hs:starEach [e,.Name x p2] X.env=(false,eval e X.env)::starEach [.Name x p2] X.env:=by rfl)(hpl:(backTo pos (starEach [.Name x p2] X.env)).any (·.1)=false:=by rfl)(hs2:starEach [.Name x p2] X.env=(false,eval (.Name x p2) X.env)::starEach [] X.env:=by rfl):GE X XQ (.Call (.Name "isinstance" p) [e,.Name x p2] [] pos) (o1 (Kw ys sub) f):=Gsa k hv hnx (gG s hg h0) hm (gG s hg2 h0) hmt (okG.gl hg2).2 he hs hpl hs2
def Gae(g1:Gl X "isinstance")(g2:Gl X x)(k:Kit X.K T)(hm:X.mg "isinstance"=none)(hmt:X.mg x=none)(he:GE X XQ e f)(hv:bootBuiltins x=some (.type T):=by rfl)(hnx:x≠"__name__":=by decide +kernel)(hdx:(x==("__debug__":Str))=false:=by decide +kernel)(hs:starEach [e,.Name x p2] X.env=(false,eval e X.env)::starEach [.Name x p2] X.env:=by rfl)(hpl:(backTo pos (starEach [.Name x p2] X.env)).any (·.1)=false:=by rfl)(hs2:starEach [.Name x p2] X.env=(false,eval (.Name x p2) X.env)::starEach [] X.env:=by rfl):GE X XQ (.Call (.Name "isinstance" p) [e,.Name x p2] [] pos) (o1 (isD T) f):=Gyk k hv hnx hdx g1 hm g2 hmt he hs hpl hs2
def Hbx{sc:Scope}{pk:List (BJ Nat)}{f:Ev Src}{g:Tg}{t:Ev Bool}{e:Ev D}(S:FnS N P sc)(hi:GI X XQ tg iter f)(hg:∀ cl s2 H2 C fp,GG (blk X s2 H2 C scope cl N' fp) tg g)(ht:∀ cl s2 H2 C fp,GTs (blk X s2 H2 C scope cl N' fp) XN ifs t)(he:∀ cl s2 H2 C fp,GE (blk X s2 H2 C scope cl N' fp) XN elt e)(ct:CompTab sc scope N N' pk:=by exact kdC)(hsc:X.env.scope=sc:=by rfl)(hNN:X.N=N:=by rfl)(hcm:X.calm=true:=by rfl)(hs:∀ x,foldedSetIterable iter X.env x=pure x:=by intro _; rfl):GE X XQ (.ListComp elt [⟨tg,iter,ifs,0⟩] scope pos) (cmp f pk g t e):=gcomp hsc hNN ct hcm hi hg ht he hs
def Gfa(i:Nat){sc:Scope}{pk:List (BJ Nat)}{f:Ev Src}{g:Tg}{t:Ev Bool}{e:Ev D}(S:FnS N P sc)(hi:GI X XQ tg iter f)(hg:∀ cl s2 H2 C fp,GG (blk X s2 H2 C scope cl N' fp) tg g)(ht:∀ cl s2 H2 C fp,GTs (blk X s2 H2 C scope cl N' fp) XN ifs t)(he:∀ cl s2 H2 C fp,GE (blk X s2 H2 C scope cl N' fp) XN elt e)(ct:CompTab sc scope N N' pk:=by exact kdC)(hsc:X.env.scope=sc:=by rfl)(hNN:X.N=N:=by rfl)(hcm:X.calm=true:=by rfl)(hsw:swapsWith (.ListComp elt [⟨tg,iter,ifs,0⟩] scope pos) (some (.Name y py)) spos.line X.env=pure true:=by rfl)(hy:N[i]?=some y:=by rfl)(hs:∀ x,foldedSetIterable iter X.env x=pure x:=by intro _; rfl)(hf:X.fn y=true:=by rfl):GS X XQ (.Assign [.Name y py] (.ListComp elt [⟨tg,iter,ifs,0⟩] scope pos) spos) (sa (cmp f pk g t e) (gn i)):=
 Goi i hsc hNN ct hcm hi hg ht he (hNN▸S.nd) (hsc▸S.ol hy) hsw (hNN▸hy) hs hf
section
variable{s2:BH}{H2:Hp}{C:BI}{scope:Scope}{c:List (Str×BI)}{N':List Str}{fp:List BI}
def Gcd(i:Nat)(h:Gnm scope x=true:=by decide +kernel)(hN:N'[i]?=some x:=by rfl):GE (blk X s2 H2 C scope c N' fp) XQ (.Name x pos) (vr i):=gvB i h hN
def glB_w(h:okG scope x=true:=by decide +kernel):Gl (blk X s2 H2 C scope c N' fp) x:=glB h
def Gdo(i:Nat)(h:Grw scope x=true:=by decide +kernel)(hN:N'.Nodup:=by decide +kernel)(hi:N'[i]?=some x:=by rfl):GG (blk X s2 H2 C scope c N' fp) (.Name x pos) (gn i):=Hea i hN h hi
def Heb(Q:Cal X.prog X.w X.K X.mg X.base x ps fn j)(hr:Room k X.A)(ha:GA (blk X s2 H2 C scope c N' fp) XQ (e::es) t)(hg:okG scope x=true:=by decide +kernel)(hn:ps.length=n:=by rfl)(hj:j<=k:=by decide)(he:starEach (e::es) (blk X s2 H2 C scope c N' fp).env=(false,eval e (blk X s2 H2 C scope c N' fp).env)::starEach es (blk X s2 H2 C scope c N' fp).env:=by rfl)(hpl:(backTo pos (starEach es (blk X s2 H2 C scope c N' fp).env)).any (·.1)=false:=by rfl):
  GE (blk X s2 H2 C scope c N' fp) XQ (.Call (.Name x p) (e::es) [] pos) (cl n (Gg fn) t):=gown (X:=blk X s2 H2 C scope c N' fp) Q hr (glB hg) (okG.gl hg).2 ha hn hj he hpl
end
end
section
variable{P:BK}{w:World}{K:BE}{mg:Str->BJ BG}{base:Heap}{x:Str}{st:Stmt}{ps N:List Str}{fn:Fn}
abbrev GH(K:BE)(mg:Str->BJ BG):Prop:=∃ h:Heap,K.In h/\h.Ns mainGlobals mg
def calw{b:Sv}(k:Nat)(F:FH K x st)(g:GH K mg)(S:FnS N ps (Gb st))(hfn:fn=fnB N.length b)
  (hb:∀ (f:BI) (cdv:BG) (A:Around) (outer:List PySem.Env) (s:BH) (H:Hp) (E:XK),Room k (A.deeper (envOfC x (Gb st) s.heap.objs.size f cdv))→
   JSs (Ud CX0 P w K mg base N x (Gb st) f cdv A outer s H E).nox XN (Gy st) b)
  (ha:∀ (kV doc pm:BG) (an:BJ BI) (cdv ct:BG) (us:List BG),us.length=ps.length->bindArgs (PySem.W.fnOf x x (Hx st) (Gy st) (Gb st) .none kV doc pm an cdv ct) ⟨us,[]⟩=pure (ps.zip us):=by first | exact(fun _ _ _ _ _ _ us hl=>match us,hl with | [_],_=>rfl) | exact(fun _ _ _ _ _ _ us hl=>match us,hl with | [_,_],_=>rfl) | exact(fun _ _ _ _ _ _ us hl=>match us,hl with | [_,_,_],_=>rfl) | exact(fun _ _ _ _ _ _ us hl=>match us,hl with | [_,_,_,_],_=>rfl) | exact(fun _ _ _ _ _ _ us hl=>match us,hl with | [_,_,_,_,_],_=>rfl) | exact(fun _ _ _ _ _ _ us hl=>match us,hl with | [_,_,_,_,_,_],_=>rfl)):Cal P w K mg base x ps fn (k+1):=
 let ⟨_,X,G⟩:=g; Gxt N k b hfn (F.dn X G ha) S.s hb
def calxw{b:Sv}(k:Nat)(F:FH K x st)(g:GH K mg)(S:FnS N ps (Gb st))(hfn:fn=fnB N.length b)
  (hb:∀ (f:BI) (cdv:BG) (A:Around) (outer:List PySem.Env) (s:BH) (H:Hp) (E:XK) (XQ:XW),Room k (A.deeper (envOfC x (Gb st) s.heap.objs.size f cdv))->XL (Ud (CXe P w) P w K mg base N x (Gb st) f cdv A outer s H E) XQ→
   JSs (Ud (CXe P w) P w K mg base N x (Gb st) f cdv A outer s H E) XQ (Gy st) b)
  (ha:∀ (kV doc pm:BG) (an:BJ BI) (cdv ct:BG) (us:List BG),us.length=ps.length->bindArgs (PySem.W.fnOf x x (Hx st) (Gy st) (Gb st) .none kV doc pm an cdv ct) ⟨us,[]⟩=pure (ps.zip us):=by first | exact(fun _ _ _ _ _ _ us hl=>match us,hl with | [_],_=>rfl) | exact(fun _ _ _ _ _ _ us hl=>match us,hl with | [_,_],_=>rfl) | exact(fun _ _ _ _ _ _ us hl=>match us,hl with | [_,_,_],_=>rfl) | exact(fun _ _ _ _ _ _ us hl=>match us,hl with | [_,_,_,_],_=>rfl) | exact(fun _ _ _ _ _ _ us hl=>match us,hl with | [_,_,_,_,_],_=>rfl) | exact(fun _ _ _ _ _ _ us hl=>match us,hl with | [_,_,_,_,_,_],_=>rfl)):CalX P w K mg base x ps fn (k+1):=
 let ⟨_,X,G⟩:=g; Gr4 N k b hfn (F.dn X G ha) S.s hb
def FH.fnx{f:BI}(F:FH K x st)(X:K.In h)(G:h.Ns mainGlobals mg)(hm:mg x=some (.ref f)):∃ od an osl kV doc pm cdv ct,∃ oc:BG,PySem.W.keepIn K (.ref f)=true/\PySem.W.codeIn K cdv x=true/\K.lookup f=some ⟨oc,od,.func (PySem.W.fnOf x x (Hx st) (Gy st) (Gb st) .none kV doc pm an cdv ct),osl⟩:=by
 obtain⟨f',oc,od,an,osl,kV,doc,pm,cdv,ct,a,l,c,k⟩:=F.ex
 have e:=hm.symm.trans (PySem.W.mg_of X G a)
 cases e
 exact⟨od,an,osl,kV,doc,pm,cdv,ct,oc,k,c,l⟩
end
section
variable{X:Cx}{XQ:XW}
def mt0(o:D->List D->Sto->Out D)(fo:Ev D):Ev D:=fun U S=>(fo U S).bind fun x S1=>if isLst x S1=true then o x [] S1 else .bad
@[simp] def Hec{o:D->List D->Sto->Out D}:mt0 o fo U S=(fo U S).bind fun x S1=>if isLst x S1=true then o x [] S1 else .bad:=id rfl
end
inductive DP:List (BJ Expr)->List Expr->List (Str×D)->Prop
 | nil:DP [] [] []
 | i {k:Str} {i:Int} {j j' p p'} {ks vs l}:DP ks vs l->DP (some (.Constant (.str k) j p)::ks) (.Constant (.int i) j' p'::vs) ((k,.int i)::l)
 | s {k x:Str} {j j' p p'} {ks vs l}:DP ks vs l->DP (some (.Constant (.str k) j p)::ks) (.Constant (.str x) j' p'::vs) ((k,.str x)::l)
def dsub(l:List (Str×D))(fb:Ev D):Ev D:=fun U S=>(fb U S).bind fun y S1=>match y with
 | .str k=>match l.lookup k with
  | some (.int i)=>.ok (.int i) S1
  | some (.str x)=>.ok (.str x) S1
  | _=>.bad
 | _=>.bad
@[simp] def Hdb{l:List (Str×D)}:dsub l fb U S=(fb U S).bind fun y S1=>match y with
 | .str k=>match l.lookup k with
  | some (.int i)=>.ok (.int i) S1
  | some (.str x)=>.ok (.str x) S1
  | _=>.bad
 | _=>.bad:=id rfl
inductive Nms(mg:Str->BJ BG):List Str->List BI->Prop
 | nil:Nms mg [] []
 | cons {x:Str} {c:BI} {xs:List Str} {cs:List BI} (h:mg x=some (.ref c)) (t:Nms mg xs cs):Nms mg (x::xs) (c::cs)
structure IsT(K:BE)(mg:Str->BJ BG)(xs ys:List Str):Prop where
 ex:∃ cs,Nms mg xs cs/\∀ y∈ys,∃ C,CN K y C/\PySem.W.kitAny K (.ref C) (cs.map Value.ref)=some (decide (y∈xs))
inductive GNs(X:Cx)(s:Scope):List Expr->List Str->Prop
 | nil:GNs X s [] []
 | cons {x:Str} {p:Pos} {es:List Expr} {xs:List Str} (t:GNs X s es xs) (hg:okG s x=true:=by decide +kernel) (hs:starEach (.Name x p::es) X.env=(false,eval (.Name x p) X.env)::starEach es X.env:=by rfl):GNs X s (.Name x p::es) (x::xs)
section
variable{X:Cx}{XQ:XW}
variable{a b:Expr}{fa fb:Ev D}{pos:Pos}
end
section
variable{X:Cx}{pins:List (BI×Obj)}{Z:L2.St}{H:Hp}{s:BH}{mp:List BI}
mutual
theorem Ghi(I:Inv X pins Z H s):∀ (d:D) (v:V) (u:BG) (Y:NK),Rep X.K mp H d v->Hc v u->nkO d=some Y->∃ as,Reads s.heap u (pk Y) as
 | .int i,v,u,Y,h,r,e=>by
  cases (show v=.int i from h); obtain⟨t,rfl⟩:=(show ∃ t,u=Value.int i t from r)
  simp only[nkO,Option.some.injEq] at e
  subst e
  simp only[pk]
  exact⟨_,.int i t⟩
 | .tup l,v,u,Y,h,r,e=>by
  obtain⟨a,xs,rfl,sq,q⟩:=Rep.tup h
  cases (show u=Value.ref a from r)
  obtain⟨its,rv,⟨o,ho,hc,k,hd⟩,_⟩:=I.tuple sq
  simp only[nkO] at e
  obtain⟨ks,e1,rfl⟩:=BA.mp e
  obtain⟨as,ra⟩:=readsL_nk I l xs its ks q rv e1
  simp only[pk]
  exact⟨as,.tuple ho hc hd (by simpa using ra)⟩
 | .non,_,_,_,_,_,e=>by simp[nkO] at e
 | .bl _,_,_,_,_,_,e=>by simp[nkO] at e
 | .str _,_,_,_,_,_,e=>by simp[nkO] at e
 | .lst _,_,_,_,_,_,e=>by simp[nkO] at e
 | .exn _ _,_,_,_,_,_,e=>by simp[nkO] at e
 | .fv _,_,_,_,_,_,e=>by simp[nkO] at e
 | .dct _,_,_,_,_,_,e=>by simp[nkO] at e
theorem readsL_nk(I:Inv X pins Z H s):∀ (l:List D) (vs:List V) (us:List BG) (ks:List NK),RepL X.K mp H l vs->Vals vs us->nkOs l=some ks->∃ as,ReadsAll s.heap us (pks ks) as
 | [],vs,us,ks,h,r,e=>by
  cases (show vs=[] from h); cases r
  simp only[nkOs,Option.some.injEq] at e
  subst e
  simp only[pks]
  exact⟨_,.nil⟩
 | d::l,vs,us,ks,h,r,e=>by
  obtain⟨v,vr,rfl,h1,h2⟩:=(show ∃ v r,vs=v::r/\Rep X.K mp H d v/\RepL X.K mp H l r from h)
  cases r with
  | cons r1 r2=>
   simp only[nkOs] at e
   obtain⟨k,e1,e2⟩:=Option.bind_eq_some_iff.mp e
   obtain⟨q,e3,rfl⟩:=BA.mp e2
   obtain⟨as,ra⟩:=Ghi I d v _ k h1 r1 e1
   obtain⟨bs,rb⟩:=readsL_nk I l vr _ q h2 r2 e3
   simp only[pks]
   exact⟨_,.cons ra rb⟩
end
end
abbrev KVs:=List (NK×BI×V)
noncomputable def Gcp(kvs:KVs)(Y:NK):BJ V:=(kvs.find? fun q=>decide (q.1=Y)).map (·.2.2)
def Giw(kvs:KVs)(Y:NK)(b:BI)(v:V):KVs:=if(Gcp kvs Y).isSome then kvs.map (fun q=>if q.1=Y then(q.1,q.2.1,v) else q) else kvs++[(Y,b,v)]
def KT:KVs->List (NK×BI×BG)->Prop:=Paired fun p q=>p.1=q.1/\p.2.1=q.2.1/\Hc p.2.2 q.2.2
def Ghj{q:NK×BI×V}{r:KVs}{Y:NK}(e:q.1=Y):Gcp (q::r) Y=some q.2.2:=by simp[Gcp,Bt,e]
def Ghk{q:NK×BI×V}{r:KVs}{Y:NK}(e:¬ q.1=Y):Gcp (q::r) Y=Gcp r Y:=by simp[Gcp,Bt,e]
def KT.val{kvs:KVs}{xs:List (NK×BI×BG)}(r:KT kvs xs)(k:NK):Gia (Gcp kvs k) ((atKey xs k).map (·.2)):=by
 unfold KT at r
 induction r with
 | nil=>exact True.intro
 | @cons p q ps qs h t ih=>
  obtain⟨h1,_,h2⟩:=h
  by_cases e:p.1=k
  ·have e':q.1=k:=h1.symm.trans e
   have b:atKey (q::qs) k=some q.2:=by simp[atKey,Bt,e']
   rw[Ghj e,b]; exact h2
  ·have e':¬ q.1=k:=fun z=>e (h1.trans z)
   have b:atKey (q::qs) k=atKey qs k:=by simp[atKey,Bt,e']
   rw[Ghk e,b]; exact ih
def Gfb{v:BJ V}{o:BJ BG}(r:Gia v o):v.isSome=o.isSome:=by
 cases v<;>cases o<;>first | rfl | exact r.elim
def KT.repl{kvs:KVs}{xs:List (NK×BI×BG)}(r:KT kvs xs)(k:NK){y:V}{u:BG}(ry:Hc y u):KT (kvs.map fun q=>if q.1=k then(q.1,q.2.1,y) else q) (xs.map (putAt k u)):=by
 unfold KT at r ⊢
 induction r with
 | nil=>exact .nil
 | @cons p q ps qs h t ih=>
  rw[As,As]
  refine .cons ?_ ih
  obtain⟨h1,h2,h3⟩:=h
  unfold putAt
  by_cases e:p.1=k
  ·rw[if_pos e,if_pos (h1.symm.trans e)]; exact⟨h1,h2,ry⟩
  ·rw[if_neg e,if_neg (fun z=>e (h1.trans z))]; exact⟨h1,h2,h3⟩
def Yt{O β:Type}{F:O->β->Prop}:∀ {l:List O} {m:List β} {a:O} {b:β},Paired F l m->F a b->Paired F (l++[a]) (m++[b])
 | _,_,_,_,.nil,h=>.cons h .nil
 | _,_,_,_,.cons r t,h=>.cons r (Yt t h)
def KT.put{kvs:KVs}{xs:List (NK×BI×BG)}(r:KT kvs xs)(k:NK){b:BI}{y:V}{u:BG}(ry:Hc y u):KT (Giw kvs k b y) (storedH xs k b u):=by
 have e:(Gcp kvs k).isSome=(atKey xs k).isSome:=by rw[Gfb (r.val k),Option.isSome_map]
 unfold Giw storedH
 rw[e]
 by_cases q:(atKey xs k).isSome=true
 ·rw[if_pos q,if_pos q]; exact r.repl k ry
 ·rw[if_neg q,if_neg q]; exact Yt r ⟨rfl,rfl,ry⟩
def Ghl(kvs:KVs)(Y:NK)(b:BI)(v:V):(Giw kvs Y b v).length<=kvs.length+1:=by
 unfold Giw
 split<;>simp
def Gej(K:BE)(H:Hp)(Y:NK)(b:BI):Prop:=(pk Y).depth<=8/\∃ mp k,nkO k=some Y/\Rep K mp H k (.ref b)
section
variable{X:Cx}{XQ:XW}{pins:List (BI×Obj)}{Z:L2.St}{H:Hp}{s:BH}
def Gej.is{Y:NK}{b:BI}(I:Inv X pins Z H s)(k:Gej X.K H Y b):(nestKind X.prog X.w).is s.heap Y b:=by
 obtain⟨d,mp,k,e,r⟩:=k
 exact⟨Ghi I k _ _ Y r rfl e,d⟩
def Gaf{O β:Type}{F:O->β->Prop}:∀ {l:List O} {m:List β} {b:β},Paired F l m->b∈m->∃ a∈l,F a b
 | _,_,_,.nil,h=>by simp at h
 | _,_,_,.cons r t,h=>by
  rcases Af.mp h with rfl | h
  ·exact⟨_,Av,r⟩
  ·obtain⟨a,h1,h2⟩:=Gaf t h
   exact⟨a,Au _ h1,h2⟩
def Gjw{a:BI}{kvs:KVs}(I:Inv X pins Z H s)(e:H a=some (.dT kvs))(ks:∀ q∈kvs,Gej X.K H q.1 q.2.1):kvs.length<=sizeLine/\(a==sysModules)=false/\∃ xs,KT kvs xs/\s.heap.DictOfH (nestKind X.prog X.w) a xs:=by
 obtain⟨z,y,xs,r,o,es,ep,h1,h2,h3,h4,h5⟩:=(show Kh X.prog X.w H s.heap a (.dT kvs) from I.hok a _ e)
 refine⟨z,y,xs,r,o,es,ep,h1,h2,h3,h4,fun x hx=>?_,h5⟩
 obtain⟨q,hq,e1,e2,_⟩:=Gaf r hx
 rw[<- e1,<- e2]
 exact(ks q hq).is I
def Hby(K:BE):R2:=fun x y H Q=>∃ a b Y kvs v,x=.ref a/\y=.ref b/\H a=some (.dT kvs)/\(∀ q∈kvs,Gej K H q.1 q.2.1)/\Gej K H Y b/\Gcp kvs Y=some v/\Q v H
def Gsl(hu:X.A.units+20<cLine):IxR X (Hby X.K):=by
 intro value slice pins s Z H x y v u Q I rx ry h hs
 obtain⟨a,b,Y,kvs,z,rfl,rfl,ea,ks,kb,ev,q⟩:=h
 cases (show v=Value.ref a from rx)
 cases (show u=Value.ref b from ry)
 obtain⟨hz,hd,xs,rel,dd⟩:=Gjw I ea ks
 obtain⟨w',hw,rw'⟩:=Gia.some_of (v:=z) (o:=(atKey xs Y).map (·.2)) (by rw[<- ev]; exact rel.val Y)
 obtain⟨p,hp,hp2⟩:=BA.mp hw
 refine subscriptTail_builtinR (x:=p.2) dd.typeIs slot_dict_getitem.lookup (wpAny_getItem_heap (by show X.A.in1.units+10<cLine; first | omega | (simp[Around.in1]; omega)) (kb.is I) dd hp ⟨rfl,?_⟩) hs
 rw[hp2]
 exact⟨z,H,I.tok _,rw',q⟩
def Gop(K:BE):Glc:=fun o i v H Q=>∃ a b Y kvs,o=.ref a/\i=.ref b/\H a=some (.dT kvs)/\(∀ q∈kvs,Gej K H q.1 q.2.1)/\Gej K H Y b/\kvs.length<sizeLine/\Q (upd H a (.dT (Giw kvs Y b v)))
def Goq(hu:X.A.units+20<cLine):Gqi X (Gop X.K):=by
 intro pins s Z H o i v ov iv u Q I ro ri rv h
 obtain⟨a,b,Y,kvs,rfl,rfl,ea,ks,kb,hl,q⟩:=h
 cases (show ov=Value.ref a from ro)
 cases (show iv=Value.ref b from ri)
 obtain⟨hz,hd,xs,rel,dd⟩:=Gjw I ea ks
 have hz':xs.length<=sizeLine:=by rw[<- Paired.length rel]; exact hz
 have hl':=Ghl kvs Y b v
 refine wpAny_setItem_heap (hsz:=hz') (by show X.A.in1.units+10<cLine; first | omega | (simp[Around.in1]; omega)) (kb.is I) dd fun h' dd' hs=>⟨_,?_,q⟩
 obtain⟨o,es,ep,hq,h2,h3,h4,_,h5⟩:=dd'
 exact I.write (x:=a) (e:=a) (by rw[ea]; exact True.intro) (.inl rfl) (fun c q hc z=>(hs.2 c hc).trans z) ⟨o,hq⟩ ⟨by omega,hd,_,rel.put Y rv,o,es,ep,hq,h2,h3,h4,h5⟩
end
noncomputable def dlook(Y:NK):List D->BJ D
 | []=>none
 | .tup [k,e]::r=>if nkO k=some Y then some e else dlook Y r
 | _::r=>dlook Y r
noncomputable def drepl(Y:NK)(z:D):D->D
 | .tup [k,e]=>if nkO k=some Y then .tup [k,z] else .tup [k,e]
 | d=>d
def dput(Y:NK)(k z:D)(l:List D):List D:=if(dlook Y l).isSome=true then l.map (drepl Y z) else l++[.tup [k,z]]
noncomputable def Gek(x:D):BJ NK:=match x with
 | .tup l=>match nkO (.tup l) with
  | some Y=>if(pk Y).depth<=8 then some Y else none
  | none=>none
 | _=>none
def Gdp(neg:Bool)(x y:D)(S:Sto):Out D:=match y with
 | .dct i=>match S[i]?,Gek x with
  | some c,some Y=>if c.fz=false then .ok (.bl (if neg=true then !(dlook Y c.xs).isSome else(dlook Y c.xs).isSome)) S else .bad
  | _,_=>.bad
 | _=>.bad
def Yu(x y:D)(S:Sto):Out D:=match x with
 | .dct i=>match S[i]?,Gek y with
  | some c,some Y=>if c.fz=false then match dlook Y c.xs with
   | some e=>.ok e S
   | none=>.bad
   else .bad
  | _,_=>.bad
 | _=>.bad
def dsetD(x y z:D)(S:Sto):BJ Sto:=match x with
 | .dct i=>match S[i]?,Gek y with
  | some c,some Y=>if c.fz=false/\c.xs.length<1000000 then some (S.set i ⟨false,dput Y y z c.xs⟩) else none
  | _,_=>none
 | _=>none
noncomputable def dnew:Ev D:=fun _ S=>.ok (.dct S.length) (S++[⟨false,[]⟩])
section
variable{K:BE}{mp:List BI}{H:Hp}
def Gf6{x:D}{Y:NK}{v:V}(h:Rep K mp H x v)(e:Gek x=some Y):nkO x=some Y/\∃ b,v=.ref b/\Gej K H Y b:=by
 unfold Gek at e
 split at e
 ·rename_i l
  split at e
  ·rename_i Y' z
   split at e
   ·rename_i hd
    cases (Ab e)
    obtain⟨b,xs,rfl,_⟩:=Rep.tup h
    exact⟨z,b,rfl,hd,mp,_,z,h⟩
   ·cases e
  ·cases e
 ·cases e
def Gf7{l:List D}{kvs:KVs}(r:Paired (Gcm K mp H) l kvs):∀ q∈kvs,Gej K H q.1 q.2.1:=by
 intro q hq
 obtain⟨d,_,k,e,_,⟨h1,h2⟩,h3,_⟩:=Gaf r hq
 exact⟨h2,mp,k,h1,h3⟩
def Gf8{l:List D}{kvs:KVs}(r:Paired (Gcm K mp H) l kvs)(Y:NK):(dlook Y l).isSome=(Gcp kvs Y).isSome/\∀ e,dlook Y l=some e->∃ v,Gcp kvs Y=some v/\Rep K mp H e v:=by
 induction r with
 | nil=>exact⟨rfl,fun e z=>nomatch z⟩
 | @cons d q ds qs h t ih=>
  obtain⟨k,e,rfl,⟨h1,_⟩,_,h3⟩:=h
  by_cases c:q.1=Y
  ·have hc:nkO k=some Y:=by rw[h1,c]
   rw[Ghj c]
   simp only[dlook,hc,if_true]
   exact⟨rfl,fun e' z=>⟨_,rfl,by cases z; exact h3⟩⟩
  ·have hc:¬ nkO k=some Y:=by rw[h1]; exact fun z=>c (Ab z)
   rw[Ghk c]
   simp only[dlook,hc,if_false]
   exact ih
def Gsm{l:List D}{kvs:KVs}{z:D}{w:V}(r:Paired (Gcm K mp H) l kvs)(Y:NK)(hz:Rep K mp H z w):Paired (Gcm K mp H) (l.map (drepl Y z)) (kvs.map fun q=>if q.1=Y then(q.1,q.2.1,w) else q):=by
 induction r with
 | nil=>exact .nil
 | @cons d q ds qs h t ih=>
  rw[As,As]
  refine .cons ?_ ih
  obtain⟨k,e,rfl,⟨h1,hd⟩,h2,h3⟩:=h
  by_cases c:q.1=Y
  ·have hc:nkO k=some Y:=by rw[h1,c]
   rw[if_pos c]
   simp only[drepl,hc,if_true]
   exact⟨k,z,rfl,⟨h1,hd⟩,h2,hz⟩
  ·have hc:¬ nkO k=some Y:=by rw[h1]; exact fun z=>c (Ab z)
   rw[if_neg c]
   simp only[drepl,hc,if_false]
   exact⟨k,e,rfl,⟨h1,hd⟩,h2,h3⟩
def Gyo{l:List D}{kvs:KVs}{k z:D}{b:BI}{w:V}{Y:NK}(r:Paired (Gcm K mp H) l kvs)(hk:nkO k=some Y)(kb:Gej K H Y b)(hb:Rep K mp H k (.ref b))(hz:Rep K mp H z w):Paired (Gcm K mp H) (dput Y k z l) (Giw kvs Y b w):=by
 unfold dput Giw
 rw[(Gf8 r Y).1]
 by_cases c:(Gcp kvs Y).isSome=true
 ·rw[if_pos c,if_pos c]; exact Gsm r Y hz
 ·rw[if_neg c,if_neg c]; exact Yt r ⟨k,z,rfl,⟨hk,kb.1⟩,hb,hz⟩
def RS.pairs{S:Sto}{i:Nat}{c:Cell}{v:V}(r:RS K mp H S)(h:Rep K mp H (.dct i) v)(e:S[i]?=some c)(f:c.fz=false):∃ a kvs,v=.ref a/\mp[i]?=some a/\H a=some (.dT kvs)/\Paired (Gcm K mp H) c.xs kvs:=by
 obtain⟨a,ev,ea,kvs,hk⟩:=(show ∃ a,v=.ref a/\mp[i]?=some a/\Dcy H a from h)
 rcases r.cell i a c ea e with⟨xs,q,z⟩ | ⟨_,kvs',e',rr⟩
 ·rw[f,if_neg Ao,hk] at z
  cases z
 ·exact⟨a,kvs',ev,ea,e',rr⟩
def RS.setDc{S:Sto}{i:Nat}{a:BI}{c:Cell}{kvs kvs':KVs}{ds:List D}(r:RS K mp H S)(hi:mp[i]?=some a)(hc:S[i]?=some c)(hf:c.fz=false)(ha:H a=some (.dT kvs))(q:Paired (Gcm K mp H) ds kvs'):
  Aft K mp H mp (upd H a (.dT kvs'))/\RS K mp (upd H a (.dT kvs')) (S.set i ⟨false,ds⟩):=by
 have af:Aft K mp H mp (upd H a (.dT kvs')):=by
  refine⟨fun _ _ e=>e,fun b ys s=>?_,fun b φ s=>by rw[Gm (Yi s ha (by intro z; cases z))]; exact s,fun j b e n ⟨kvs,z⟩=>?_,fun b ⟨l,z⟩=>?_⟩
  ·rcases s with(s | ⟨ob,s⟩) | s
   ·exact .inl (.inl (by rw[Gm (Yi s ha (by intro z; cases z))]; exact s))
   ·exact .inl (.inr ⟨ob,by rw[Gm (Yi s ha (by intro z; cases z))]; exact s⟩)
   ·exact .inr s
  ·by_cases hb:b=a
   ·subst hb; exact n ⟨_,ha⟩
   ·rw[Gm hb] at z; exact n ⟨_,z⟩
  ·by_cases hb:b=a
   ·subst hb; exact⟨_,He⟩
   ·exact⟨l,by rw[Gm hb]; exact z⟩
 refine⟨af,⟨by simp[r.len],fun j b cj e1 e2=>?_,fun j k b cj ck e1 e2 e3 e4 f1 f2=>?_⟩⟩
 ·by_cases hj:j=i
  ·subst hj
   rw[hi] at e1
   cases e1
   rw[Ai (Aa.mp hc).1] at e2
   cases e2
   exact .inr ⟨rfl,kvs',He,Paired.mapP q fun _ _ z=>z.aft af⟩
  ·rw[Ae (Ne.symm hj)] at e2
   rcases r.cell j b cj e1 e2 with⟨ys,h1,h2⟩ | ⟨f,l,e,rr⟩
   ·refine .inl ⟨ys,RepL.aft af _ _ h1,?_⟩
    cases z:cj.fz with
    | true=>
     rw[z] at h2
     have h2:SqF K H b ys:=(if_pos rfl).mp h2
     refine(if_pos rfl).mpr ?_
     rcases h2 with⟨ob,s⟩ | s
     ·exact .inl ⟨ob,by rw[Gm (Yi s ha (by intro z; cases z))]; exact s⟩
     ·exact .inr s
    | false=>
     rw[z,if_neg Ao] at h2
     rw[if_neg Ao,Gm (Yi h2 ha (by intro z; cases z))]
     exact h2
   ·have hb:b≠a:=fun hb=>by
     subst hb
     exact hj (r.inj j i b cj c e1 hi e2 hc f hf)
    exact .inr ⟨f,l,by rw[Gm hb]; exact e,Paired.mapP rr fun _ _ z=>z.aft af⟩
 ·have fz:∀ (j:Nat) (cj:Cell),(S.set i ⟨false,ds⟩)[j]?=some cj->cj.fz=false->∃ c',S[j]?=some c'/\c'.fz=false:=fun j cj e f=>by
   by_cases hj:j=i
   ·subst hj
    exact⟨c,hc,hf⟩
   ·rw[Ae (Ne.symm hj)] at e
    exact⟨cj,e,f⟩
  obtain⟨c1,g1,g2⟩:=fz j cj e3 f1
  obtain⟨c2,g3,g4⟩:=fz k ck e4 f2
  exact r.inj j k b c1 c2 e1 e2 g1 g3 g2 g4
def RS.newDc{S:Sto}{p:BI}(r:RS K mp H S)(h:H p=none)(hp:∀ i:Nat,mp[i]?≠some p):
  Aft K mp H (mp++[p]) (upd H p (.dT []))/\RS K (mp++[p]) (upd H p (.dT [])) (S++[⟨false,[]⟩])/\(mp++[p])[S.length]?=some p:=by
 have ne:∀ (i:Nat) (a:BI),mp[i]?=some a->a≠p:=fun i a e z=>hp i (z▸e)
 have af:Aft K mp H (mp++[p]) (upd H p (.dT [])):=by
  refine⟨fun i a e=>by rw[Aq (Aa.mp e).1]; exact e,fun b ys s=>?_,fun b φ s=>by rw[Gm (Ha s h)]; exact s,fun j b e n ⟨kvs,z⟩=>?_,fun b ⟨l,z⟩=>⟨l,by rw[Gm (Ha z h)]; exact z⟩⟩
  ·rcases s with(s | ⟨ob,s⟩) | s
   ·exact .inl (.inl (by rw[Gm (Ha s h)]; exact s))
   ·exact .inl (.inr ⟨ob,by rw[Gm (Ha s h)]; exact s⟩)
   ·exact .inr s
  ·rw[Gm (ne j b e)] at z; exact n ⟨_,z⟩
 have hl:=r.len
 have lastp:(mp++[p])[S.length]?=some p:=by rw[<- hl]; simp
 have old:∀ (i:Nat) (a:BI),i<S.length->(mp++[p])[i]?=some a->mp[i]?=some a:=fun i a hi e1=>by
  rw[Aq (by omega)] at e1; exact e1
 refine⟨af,⟨by simp[hl],fun i a c e1 e2=>?_,fun i j a ci cj e1 e2 e3 e4 f1 f2=>?_⟩,lastp⟩
 ·by_cases hi:i<S.length
  ·rw[Aq hi] at e2
   exact(r.cell i a c (old i a hi e1) e2).new h af
  ·have hi':i=S.length:=by
    have:=(Aa.mp e2).1
    simp at this
    omega
   subst hi'
   rw[lastp] at e1
   cases e1
   simp at e2
   subst e2
   exact .inr ⟨rfl,[],He,.nil⟩
 ·have hi:=(Aa.mp e3).1
  have hj:=(Aa.mp e4).1
  simp at hi hj
  by_cases hi':i<S.length
  ·have o1:=old i a hi' e1
   by_cases hj':j<S.length
   ·rw[Aq hi'] at e3
    rw[Aq hj'] at e4
    exact r.inj i j a ci cj o1 (old j a hj' e2) e3 e4 f1 f2
   ·have:j=S.length:=by omega
    subst this
    rw[lastp] at e2
    cases e2
    exact absurd rfl (ne i _ o1)
  ·have:i=S.length:=by omega
   subst this
   rw[lastp] at e1
   cases e1
   by_cases hj':j<S.length
   ·exact absurd rfl (ne j _ (old j _ hj' e2))
   ·omega
def RS.off{X:Cx}{pins:List (BI×Obj)}{Z:L2.St}{s:BH}{S:Sto}(r:RS X.K mp H S)(I:Inv X pins Z H s)(i:Nat):mp[i]?≠some s.heap.objs.size:=fun e=>by
 have hl:i<S.length:=by rw[<- r.len]; exact(Aa.mp e).1
 have hn:H s.heap.objs.size=none:=I.hok.fresh (Ac _)
 rcases r.cell i _ _ e (Ad hl) with⟨xs,q,z⟩ | ⟨_,kvs',e',rr⟩
 ·cases f:(S[i]).fz with
  | true=>
   rw[f] at z
   have z:SqF X.K H _ xs:=(if_pos rfl).mp z
   rcases z with⟨ob,z⟩ | ⟨o,its,n,lk,_⟩
   ·rw[hn] at z; cases z
   ·exact absurd (Ag (I.kIn _ o lk)) (AD _)
  | false=>rw[f,if_neg Ao,hn] at z; cases z
 ·rw[hn] at e'; cases e'
end
section
variable{X:Cx}{XQ:XW}
def Gsn(neg:Bool)(hu:X.A.units+20<cLine):OpX X (compareOp (if neg=true then .NotIn else .In)) (Gdp neg):=by
 intro pins s Z U XQ mp H S x y v u vv uv Q I rs rx ry rv ru p _
 unfold Gdp at p
 split at p
 ·rename_i i
  split at p
  ·rename_i c Y zc zk
   by_cases hf:c.fz=false
   ·rw[if_pos hf] at p
    obtain⟨hk,b,rfl,kb⟩:=Gf6 rx zk
    obtain⟨a,kvs,rfl,ha,hH,rr⟩:=rs.pairs ry zc hf
    cases (show vv=Value.ref b from rv)
    cases (show uv=Value.ref a from ru)
    obtain⟨hz,hd,xs,rel,dd⟩:=Gjw I hH (Gf7 rr)
    have e:(atKey xs Y).isSome=(dlook Y c.xs).isSome:=by
     rw[(Gf8 rr Y).1,Gfb (rel.val Y),Option.isSome_map]
    cases neg with
    | true=>
     refine wpAny_notIn_heap (knd:=nestKind X.prog X.w) (by show X.A.in1.units+10<cLine; first | omega | (simp[Around.in1]; omega)) (kb.is I) hd dd ?_
     rw[e]
     exact⟨.bl _,H,I.tok _,rfl,Gj.ok (R:=Rep X.K) p rs rfl⟩
    | false=>
     refine wpAny_in_heap (knd:=nestKind X.prog X.w) (by show X.A.in1.units+10<cLine; first | omega | (simp[Around.in1]; omega)) (kb.is I) hd dd ?_
     rw[e]
     exact⟨.bl _,H,I.tok _,rfl,Gj.ok (R:=Rep X.K) p rs rfl⟩
   ·rw[if_neg hf] at p; exact p.elim
  ·exact p.elim
 ·exact p.elim
def Gso(neg:Bool)(x y:D)(S:Sto)(e:XD)(S':Sto):Gdp neg x y S≠.exc e S':=by
 unfold Gdp
 split
 ·split
  ·split<;>(intro z; cases z)
  ·intro z; cases z
 ·intro z; cases z
def Gsp{K:BE}:OpD K (Hby K) Yu:=by
 intro XQ Z U mp H S x y v u Q rs rx ry p
 unfold Yu at p
 split at p
 ·rename_i i
  split at p
  ·rename_i c Y zc zk
   by_cases hf:c.fz=false
   ·rw[if_pos hf] at p
    split at p
    ·rename_i e ze
     obtain⟨hk,b,rfl,kb⟩:=Gf6 ry zk
     obtain⟨a,kvs,rfl,ha,hH,rr⟩:=rs.pairs rx zc hf
     obtain⟨w,hw,rw'⟩:=(Gf8 rr Y).2 e ze
     exact⟨a,b,Y,kvs,w,rfl,rfl,hH,Gf7 rr,kb,hw,Gj.ok (R:=Rep K) p rs rw'⟩
    ·exact p.elim
   ·rw[if_neg hf] at p; exact p.elim
  ·exact p.elim
 ·exact p.elim
def Gjx{K:BE}:Gwy (Gop K) K dsetD:=by
 intro mp H S S' x y z v u w Q rs rx ry rz e k
 unfold dsetD at e
 split at e
 ·rename_i i
  split at e
  ·rename_i c Y zc zk
   split at e
   ·rename_i hf
    cases (Ab e)
    obtain⟨hk,b,rfl,kb⟩:=Gf6 ry zk
    obtain⟨a,kvs,rfl,ha,hH,rr⟩:=rs.pairs rx zc hf.1
    obtain⟨af,rs'⟩:=rs.setDc ha zc hf.1 hH (Gyo rr hk kb ry rz)
    have hl:kvs.length<sizeLine:=by rw[<- Paired.length rr]; exact Aj hf.2 (by decide)
    exact⟨a,b,Y,kvs,rfl,rfl,hH,Gf7 rr,kb,hl,k _ af rs'⟩
   ·cases e
  ·cases e
 ·cases e
variable{k:Nat}{a b:Expr}{fa fb:Ev D}{pos:Pos}
def Gjy(hr:Room k X.A)(ha:GE X XQ a fa)(hb:GE X XQ b fb)(hs:Gan b:=by intro _ _; rfl):GE X XQ (.Subscript a b pos) (o2 Yu fa fb):=⟨Gt6 (Gsl (by have:=hr.un; omega)) Gsp ha.h hb.h hs⟩
def Gor(hr:Room k X.A)(ha:GE X XQ a fa)(hb:GE X XQ b fb)(hm:behindInMarks .NotIn b=false:=by rfl):GT X XQ (.Compare a [.NotIn] [b] pos) (tb (o2 (Gdp true) fa fb)):=⟨Gip (Gsn true (by have:=hr.un; omega)) (Gso true) ha.h hb.h hm⟩
def Gsq:JE X XQ (.Dict [] [] pos) dnew:=by
 intro pins s Z H Q I ⟨mp,U,S,G,p⟩
 have hb:sysModules<s.heap.objs.size:=by
  have h:mainGlobals<s.heap.objs.size:=(I.mod.glob.keeps I.bk).lt
  exact Nat.lt_trans (by decide) h
 have hn:H s.heap.objs.size=none:=I.hok.fresh (Ac _)
 obtain⟨af,rs,la⟩:=G.rs.newDc hn (G.rs.off I)
 refine wpAny_Dict_empty ⟨.ref s.heap.objs.size,_,I.laid (a:=s.heap.objs.size) (o:=.dT []) (t':=s.toks) (fun _ _ q=>Ap _ q) (Ac _)
  ⟨AB _,beq_eq_false_iff_ne.mpr (Ne.symm (Ay hb)),[],.nil,_,#[],0,AF _ rfl,⟨rfl,rfl,rfl⟩,rfl,rfl,List.nodup_nil⟩,rfl,?_⟩
 exact(show Post X.K XQ Z U mp H (.ok (.dct S.length) (S++[⟨false,[]⟩])) Q from p) _ _ _ af rs ⟨_,rfl,la,_,He⟩
def Gjz:GE X XQ (.Dict [] [] pos) dnew:=⟨Gsq⟩
end
structure FHd(K:BE)(x:Str)(st:Stmt)(d:Int):Prop where
 ex:∃ (f T:BI) (oc:BG) (od an:BJ BI) (osl sl:Array (BJ BG)) (kV doc pm cdv ct:BG) (t:Tok) (n:Nat),PySem.W.nsIn K mainGlobals x=some (some (.ref f))/\K.lookup f=some ⟨oc,od,.func (PySem.W.fnOf x x (Hx st) (Gy st) (Gb st) (.ref T) kV doc pm an cdv ct),osl⟩/\PySem.W.codeIn K cdv x=true/\PySem.W.keepIn K (.ref f)=true∧
  K.lookup T=some { cls:=.type "tuple",dict:=none,data:=.seq #[.int d t] n,slots:=sl }
section
variable{P:BK}{w:World}{K:BE}{mg:Str->BJ BG}{base:Heap}
def Gyp{x:Str}{st:Stmt}{d:Int}{f T:BI}{oc:BG}{od an:BJ BI}{osl sl:Array (BJ BG)}{kV doc pm cdv ct:BG}{t:Tok}{n:Nat}(a:PySem.W.nsIn K mainGlobals x=some (some (.ref f)))
  (l:K.lookup f=some ⟨oc,od,.func (PySem.W.fnOf x x (Hx st) (Gy st) (Gb st) (.ref T) kV doc pm an cdv ct),osl⟩) (c:PySem.W.codeIn K cdv x=true) (k:PySem.W.keepIn K (.ref f)=true) (lT:K.lookup T=some { cls:=.type "tuple",dict:=none,data:=.seq #[.int d t] n,slots:=sl }):FHd K x st d:=⟨f,T,oc,od,an,osl,sl,kV,doc,pm,cdv,ct,t,n,a,l,c,k,lT⟩
structure CalD(P:BK)(w:World)(K:BE)(mg:Str->BJ BG)(base:Heap)(x:Str)(ps:List Str)(fn:Fn)(d:Int)(j:Nat):Prop where
 ex:∃ f fd t,FnOk P w K mg base (CXe P w) j f fd ps (spX K ps.length fn)/\mg x=some (.ref f)/\PySem.W.keepIn K (.ref f)=true/\Binds K fd ps []/\Binds K fd ps [.int d t]
def CalD.x{x:Str}{ps:List Str}{fn:Fn}{d:Int}{j:Nat}(C:CalD P w K mg base x ps fn d j):CalX P w K mg base x ps fn j:=
 let ⟨f,fd,_,h1,h2,h3,h4,_⟩:=C.ex; ⟨f,fd,h1,h2,h3,h4⟩
def caldw{x:Str}{st:Stmt}{N ps:List Str}{fn:Fn}{d:Int}{b:Sv}(k:Nat)(F:FHd K x st d)(g:GH K mg)(S:FnS N ps (Gb st))(hfn:fn=fnB N.length b)
  (hb:∀ (f:BI) (cdv:BG) (A:Around) (outer:List PySem.Env) (s:BH) (H:Hp) (E:XK) (XQ:XW),Room k (A.deeper (envOfC x (Gb st) s.heap.objs.size f cdv))->XL (Ud (CXe P w) P w K mg base N x (Gb st) f cdv A outer s H E) XQ→
   JSs (Ud (CXe P w) P w K mg base N x (Gb st) f cdv A outer s H E) XQ (Gy st) b)
  (ha:∀ (s:BH) (T:BI) (o:Obj) (t:Tok) (n:Nat) (kV doc pm:BG) (an:BJ BI) (cdv ct:BG) (us:List BG),us.length=ps.length->s.heap.get? T=some o->o.data=.seq #[.int d t] n->BindsTo s (PySem.W.fnOf x x (Hx st) (Gy st) (Gb st) (.ref T) kV doc pm an cdv ct) ⟨us,[]⟩ (ps.zip us))
  (ha1:∀ (s:BH) (T:BI) (o:Obj) (t:Tok) (n:Nat) (kV doc pm:BG) (an:BJ BI) (cdv ct:BG) (us:List BG),us.length+1=ps.length->s.heap.get? T=some o->o.data=.seq #[.int d t] n->BindsTo s (PySem.W.fnOf x x (Hx st) (Gy st) (Gb st) (.ref T) kV doc pm an cdv ct) ⟨us,[]⟩ (ps.zip (us++[Value.int d t]))):
  CalD P w K mg base x ps fn d (k+1):=by
 subst hfn
 obtain⟨_,X,G⟩:=g
 obtain⟨f,T,oc,od,an,osl,sl,kV,doc,pm,cdv,ct,t,n,a,l,c,kp,lT⟩:=F.ex
 refine⟨f,_,t,Gmq l c S.s (fun vs H Q E ⟨mp,ds,S,rs,r,hl,_⟩=>by rw[r.len]; exact hl) fun A outer s H vs Q E hr ⟨mp,ds,S,rs,r,hl,p⟩=>?_,PySem.W.mg_of X G a,kp,fun s us X hl=>?_,fun s us X hl=>ha1 s T _ t n kV doc pm an cdv ct us (by rw[<- hl,Aw]; rfl) (X T _ lT) rfl⟩
 ·refine⟨_,hb f cdv A outer s H E (XQd K E) hr Gnv,mp,_,S,Gde rs r,?_⟩
  unfold fnB at p
  show PostS K _ mp H (b (ds.map some++List.replicate (N.length-ds.length) none) S) _
  cases z:b (ds.map some++List.replicate (N.length-ds.length) none) S with
  | rt d S'=>rw[z] at p; exact p
  | nx U' S'=>rw[z] at p; exact fun m h v af G=>p m h .non af G.rs rfl
  | bk U' S'=>rw[z] at p; exact p.elim
  | ct U' S'=>rw[z] at p; exact p.elim
  | exc x U' S'=>
   rw[z] at p
   obtain⟨C,hc,q⟩:=p
   exact fun m h v af G=>⟨C,hc,fun dx xf=>q m h dx af G.rs xf⟩
  | bad=>rw[z] at p; exact p.elim
 ·rw[AY] at hl ⊢
  exact ha s T _ t n kV doc pm an cdv ct us hl (X T _ lT) rfl
end
section
variable{X:Cx}{XQ:XW}{k:Nat}{f:BI}{fd:FuncData}{ps:List Str}{fn:Fn}{x:Str}{p pos:Pos}{e:Expr}{es:List Expr}
def Gj0{ob ix e:Expr}{f fo fi:Ev D}{pos p2:Pos}(hr:Room k X.A)(he:GE X XQ e f)(hob:GE X XQ ob fo)(hix:GE X XQ ix fi)(hs:swapsWithSole [.Subscript ob ix p2] e pos.line X.env=pure false:=by rfl)(hw:swappedStores [.Subscript ob ix p2] e X.env=pure none:=by rfl)(h1:(assignEach [.Subscript ob ix p2] X.env).map (·.2)=[assign (.Subscript ob ix p2) X.env]:=by rfl)(ha:∀ v,assign (.Subscript ob ix p2) X.env v=(do
   let ov <- holding [v] (eval ob X.env)
   let iv <- holding [v,ov] (eval ix X.env)
   standAt p2
   holding [v,ov,iv] (setItem ov iv v)
   release [v,ov,iv] []):=by intro _; rfl):GS X XQ (.Assign [.Subscript ob ix p2] e pos) (ss f fo fi dsetD):=⟨Gm3 (Goq (by have:=hr.un; omega)) Gjx he.h hob.h hix.h hs hw h1 ha⟩
noncomputable def Ghm(d:Int)(fn:Fn):Fn:=fun ds S=>fn (ds++[.int d]) S
def Hbz{d:Int}{j n:Nat}{ys:List Str}{t:Ev (List D)}(s:Scope)(xs:XNs X.K ys)(L:XL X XQ)(C:CalD X.prog X.w X.K X.mg X.base x ps fn d j)(hr:Room k X.A)(ha:GA X XQ (e::es) t)(hg:okG s x=true:=by decide +kernel)(hn:ps.length=n+1:=by rfl)(hj:j<=k:=by decide)(hs:X.env.scope=s:=by rfl)
  (he:starEach (e::es) X.env=(false,eval e X.env)::starEach es X.env:=by rfl) (hpl:(backTo pos (starEach es X.env)).any (·.1)=false:=by rfl):
  GE X XQ (.Call (.Name x p) (e::es) [] pos) (cl n (gX ys (Ghm d fn)) t):=by
 obtain⟨f,fd,tk,F,hm,hk,_,hb⟩:=C.ex
 have F:=F.mono hj
 have hdb:=(Gs.of (okG.gl hg).2).1
 refine⟨?_⟩
 intro pins s0 Z H Q I ⟨mp,U,S,G,p⟩
 refine wpAny_Call_Name_kw (Zm I (gG s hg hs) hm ?_ hdb)
 refine PySem.W.callWith_K (h₀:=X.base) I.ok.mod.kin hk (thn (ha.h pos pins s0 Z H _ I (bindP G p fun mp1 H1 ds S1 vs a1 G1 r1 p1=>(⟨mp1,U,ds,S1,G1,r1,p1⟩:∃ mp1 U ds S1,Gd X.K mp1 H1 Z U S1/\RepL X.K mp1 H1 ds vs/\Post X.K XQ Z U mp1 H1 (if ds.length=n then gX ys (Ghm d fn) ds S1 else .bad) Q))) fun us s1 ⟨vs,H1,I1,r,mp1,U1,ds,S1,G1,r1,p1⟩=>⟨I1.kIn,?_⟩) he hpl
 by_cases hl:ds.length=n
 ·rw[if_pos hl] at p1
  have r2:Vals (vs++[V.int d]) (us++[Value.int d tk]):=r.append (.cons ⟨tk,rfl⟩ .nil)
  have rl:RepL X.K mp1 H1 (ds++[.int d]) (vs++[V.int d]):=RepL.append r1 (RepL.cons rfl RepL.nil)
  have hll:(ds++[D.int d]).length=ps.length:=by rw[hn,Aw,hl]; rfl
  have h:spX X.K ps.length fn (vs++[V.int d]) H1 Q fun c dx H'=>∃ C,c=.ref C/\WX X.K XQ Z C dx H':=by
   refine⟨mp1,ds++[.int d],S1,G1.rs,rl,hll,?_⟩
   unfold gX Ghm at p1
   cases z:fn (ds++[.int d]) S1 with
   | ok d S'=>rw[z] at p1; exact p1
   | exc xx S'=>
    rw[z] at p1
    by_cases hi:xx.cls∈ys
    ·have p1:Gj X.K (Rep X.K) XQ Z U1 mp1 H1 (.exc xx S') Q:=by simpa only[if_pos hi] using p1
     obtain⟨C,hC,_⟩:=xs _ hi
     refine⟨C,hC,fun mp' H' dx af rs xf=>⟨C,rfl,xx,mp',U1,S',xf,hC,p1 mp' H' af (G1.aft af rs)⟩⟩
    ·have p1:Gj X.K (Rep X.K) XQ Z U1 mp1 H1 .bad Q:=by simpa only[if_neg hi] using p1
     exact p1.elim
   | bad=>rw[z] at p1; exact p1.elim
  have hlu:(us++[Value.int d tk]).length=ps.length:=by rw[<- r2.length,rl.len]; exact hll
  refine wpAny_call (codeAny_mono (F.run X.A X.stack s1 H1 ⟨us,[]⟩ (us++[Value.int d tk]) (vs++[V.int d]) Q _ hr I1.env0 (hb s1 us I1.kIn hlu) r2 h) fun r s' hq=>?_)
  cases r with
  | error e=>exact L.cal pins Z H1 s1 e s' (fun c dx H'=>∃ C,c=.ref C/\WX X.K XQ Z C dx H') I1 hq fun C dx H' ⟨C',e1,q⟩=>by cases e1; exact q
  | ok fl=>
   cases fl with
   | ret u=>exact I1.after hq
   | next=>exact False.elim hq
   | brk=>exact False.elim hq
   | cont=>exact False.elim hq
 ·rw[if_neg hl] at p1; exact p1.elim
end
def Gfc(fa fb:Ev D):Ev D:=fun U S=>(fa U (S++[⟨false,[]⟩])).bind fun k S1=>(fb U S1).bind fun v S2=>match dsetD (.dct S.length) k v S2 with
 | some S3=>.ok (.dct S.length) S3
 | none=>.bad
section
variable{X:Cx}{XQ:XW}{k:Nat}{a b:Expr}{fa fb:Ev D}{pos:Pos}
def Glt{pins:List (BI×Obj)}{Z:L2.St}{H:Hp}{s:BH}{o i v:V}{ov iv u:BG}{E:BG->BH->Prop}{Q:Hp->Prop}(hu:X.A.units+20<cLine)(I:Inv X pins Z H s)(ro:Hc o ov)(ri:Hc i iv)(rv:Hc v u)(h:Gop X.K o i v H Q):
  ∃ d,ov=.ref d/\wpAny (model X.prog X.w) X.A (dictSet d iv u) (fun _ s'=>∃ H',Inv X pins Z H' s'/\Q H') E s:=by
 obtain⟨a,b,Y,kvs,rfl,rfl,ea,ks,kb,hl,q⟩:=h
 cases (show ov=Value.ref a from ro)
 cases (show iv=Value.ref b from ri)
 refine⟨a,rfl,?_⟩
 obtain⟨hz,hd,xs,rel,dd⟩:=Gjw I ea ks
 have hz':xs.length<=sizeLine:=by rw[<- Paired.length rel]; exact hz
 have hl':=Ghl kvs Y b v
 refine wpAny_dictSet_heap (knd:=nestKind X.prog X.w) (hsz:=hz') (by show X.A.units+10<cLine; omega) (kb.is I) dd fun h' dd' hs=>⟨_,?_,q⟩
 obtain⟨o,es,ep,hq,h2,h3,h4,_,h5⟩:=dd'
 exact I.write (x:=a) (e:=a) (by rw[ea]; exact True.intro) (.inl rfl) (fun c q hc z=>(hs.2 c hc).trans z) ⟨o,hq⟩ ⟨by omega,hd,_,rel.put Y rv,o,es,ep,hq,h2,h3,h4,h5⟩
def Hb0(hu:X.A.units+20<cLine)(ha:JE X XQ a fa)(hb:JE X XQ b fb):JE X XQ (.Dict [some a] [b] pos) (Gfc fa fb):=by
 intro pins s Z H Q I ⟨mp,U,S,G,p⟩
 have hbig:sysModules<s.heap.objs.size:=by
  have h:mainGlobals<s.heap.objs.size:=(I.mod.glob.keeps I.bk).lt
  exact Nat.lt_trans (by decide) h
 have hn:H s.heap.objs.size=none:=I.hok.fresh (Ac _)
 obtain⟨af,rs,la⟩:=G.rs.newDc hn (G.rs.off I)
 have G0:=G.aft af rs
 have I0:=I.laid (a:=s.heap.objs.size) (o:=.dT []) (h':=s.heap.push { cls:=.type "dict",data:=.dict #[] }) (t':=s.toks) (fun _ _ q=>Ap _ q) (Ac _)
  ⟨AB _,beq_eq_false_iff_ne.mpr (Ne.symm (Ay hbig)),[],.nil,_,#[],0,AF _ rfl,⟨rfl,rfl,rfl⟩,rfl,rfl,List.nodup_nil⟩
 have rd:Rep X.K (mp++[s.heap.objs.size]) (upd H s.heap.objs.size (.dT [])) (.dct S.length) (.ref s.heap.objs.size):=⟨_,rfl,la,_,He⟩
 have p0:=Gj.aft p af
 refine wpAny_Dict_any rfl rfl (by simp) (by simp) (pairTrees_cons_walk ?_)
 refine thn (ha pins _ Z _ _ I0 (bindP G0 p0 fun mp1 H1 x S1 v a1 G1 r1 p1=>(⟨mp1,U,S1,x,G1,r1,Rep.aft a1 _ _ rd,p1⟩:∃ mp1 U S1 x,Gd X.K mp1 H1 Z U S1/\Rep X.K mp1 H1 x v/\Rep X.K mp1 H1 (.dct S.length) (.ref s.heap.objs.size)/\Post X.K XQ Z U mp1 H1 ((fb U S1).bind fun v S2=>match dsetD (.dct S.length) x v S2 with | some S3=>.ok (.dct S.length) S3 | none=>.bad) Q))) fun kv s1 ⟨v,H1,I1,rv,mp1,U1,S1,x,G1,r1,rd1,p1⟩=>?_
 refine thn (hb pins s1 Z H1 _ I1 (bindP G1 p1 fun mp2 H2 y S2 u a2 G2 r2 p2=>(⟨mp2,U1,S2,x,y,v,G2,Rep.aft a2 _ _ r1,r2,Rep.aft a2 _ _ rd1,rfl,p2⟩:∃ mp2 U S2 x y v',Gd X.K mp2 H2 Z U S2/\Rep X.K mp2 H2 x v'/\Rep X.K mp2 H2 y u/\Rep X.K mp2 H2 (.dct S.length) (.ref s.heap.objs.size)/\v'=v/\Post X.K XQ Z U mp2 H2 (match dsetD (.dct S.length) x y S2 with | some S3=>.ok (.dct S.length) S3 | none=>.bad) Q))) fun vv s2 ⟨u,H2,I2,ru,mp2,U2,S2,x2,y,v',G2,rx,ry,rd2,ev,p2⟩=>?_
 subst ev
 refine pairTrees_nil_walk ?_
 cases z:dsetD (.dct S.length) x2 y S2 with
 | none=>rw[z] at p2; exact p2.elim
 | some S3=>
  rw[z] at p2
  have hs:=Gjx (K:=X.K) mp2 H2 S2 S3 (.dct S.length) x2 y (.ref s.heap.objs.size) _ _ (fun H'=>Q (.ref s.heap.objs.size) H') G2.rs rd2 rx ry z fun H' af' rs'=>p2 mp2 H' _ af' rs' (Rep.aft af' _ _ rd2)
  obtain⟨d,ed,w'⟩:=Glt (E:=X.xe) hu I2 (show Hc (.ref s.heap.objs.size) (Value.ref s.heap.objs.size) from rfl) rv ru hs
  cases ed
  show wpAny _ _ (storeAll s.heap.objs.size [(kv,vv)]) _ _ _
  unfold storeAll
  rw[List.forIn_cons]
  refine wpAny_bind (wpAny_bind (wpAny_mono w' (fun _ s3 ⟨H3,I3,q3⟩=>?_) fun _ _ e=>e))
  refine wpAny_pure ?_
  show wpAny _ _ (forIn [] PUnit.unit _) _ _ s3
  rw[List.forIn_nil]
  exact wpAny_pure ⟨.ref s.heap.objs.size,H3,I3,rfl,q3⟩
def Hb1(hr:Room k X.A)(ha:GE X XQ a fa)(hb:GE X XQ b fb):GE X XQ (.Dict [some a] [b] pos) (Gfc fa fb):=⟨Hb0 (by have:=hr.un; omega) ha.h hb.h⟩
end
section
variable{X:Cx}{XQ:XW}
noncomputable def Gix(x:D)(xs:List D)(S:Sto):Out D:=match x,xs with
 | .lst k,[]=>match S[k]? with
  | some c=>if c.fz=false then(match c.xs[c.xs.length-1]? with
   | some d=>.ok d (S.set k ⟨false,c.xs.take (c.xs.length-1)⟩)
   | none=>.bad) else .bad
  | none=>.bad
 | _,_=>.bad
def Gsr{K:BE}:MeD K Hau Gix:=by
 intro XQ Z U mp H S x xs v vs Q rs rx r p
 unfold Gix at p
 split at p
 ·rename_i k
  split at p
  ·rename_i c zc
   by_cases hc:c.fz=false
   ·rw[if_pos hc] at p
    split at p
    ·rename_i d zd
     cases (show vs=[] from r)
     obtain⟨a,ys,rfl,ha,sq,q,f⟩:=rs.items rx zc
     have hH:=f hc
     have ql:=q.take (c.xs.length-1)
     obtain⟨y,ey,ry⟩:=q.get zd
     obtain⟨af,rs'⟩:=rs.setL ha zc hc hH ql
     have el:ys.length=c.xs.length:=q.len
     refine⟨a,ys,y,rfl,rfl,hH,by rw[el]; exact ey,?_⟩
     have ed:ys.dropLast=ys.take (c.xs.length-1):=by rw[List.dropLast_eq_take,el]
     rw[ed]
     exact p mp _ _ af rs' (Rep.aft af _ _ ry)
    ·exact p.elim
   ·rw[if_neg hc] at p; exact p.elim
  ·exact p.elim
 ·exact p.elim
def Gss{o:Expr}{apos cpos:Pos}{fo:Ev D}(ho:GE X XQ o fo)(hbase:attributeBase o "pop" X.env (eval o X.env)=eval o X.env:=by rfl)(hline:(apos.endLine==cpos.line)=true:=by rfl):
  GE X XQ (.Call (.Attribute o "pop" apos) [] [] cpos) (mt0 Gix fo):=⟨by
 refine PE.mono (Gwc PySem.F.plainAttrs_list PySem.F.slot_list_pop PySem.F.type_list_pop Gwd ho.h hbase hline) fun Z H Q ⟨mp,U,S,G,p⟩=>?_
 refine bindP G p fun mp1 H1 x S1 v a1 G1 r1 p1=>?_
 by_cases hl:isLst x S1=true
 ·rw[if_pos hl] at p1
  have ty:tyV X.K "list" v H1:=by
   cases x with
   | lst i=>
    cases zc:S1[i]? with
    | none=>simp[isLst,zc] at hl
    | some c=>
     obtain⟨a,xs,rfl,_,sq,_⟩:=G1.rs.items r1 zc
     exact .inl ⟨rfl,xs,sq⟩
   | _=>simp[isLst] at hl
  exact⟨ty,Gsr XQ Z U mp1 H1 S1 x [] v [] Q G1.rs r1 RepL.nil p1⟩
 ·rw[if_neg hl] at p1; exact p1.elim⟩
end
def Giy{prog:BK}{w:World}(d:BI)(hd:(d==sysModules)=false):
  MeetsIn prog w (Builtin.«dict.__len__» ⟨[.ref d],[]⟩) (fun _ R s=>∃ (o:Obj) (es:Array DictEntry) (ep:Nat),s.heap.get? d=some o/\o.data=.dict es ep/\R (.ok (.ret (.int es.size s.toks))) { s with toks:=s.toks+1 }):=
 .of_wp fun A R s ⟨o,es,ep,ho,hdat,h⟩=>by
  show wpAny _ _ (dictSize d >>= _) _ _ s
  unfold dictSize
  refine wpAny_bind (wpAny_bind (wpAny_dictEntries ho hdat (wpAny_pure ?_)))
  show wpAny _ _ (Builtin.Dict.pendingCount d >>= _) _ _ s
  refine wpAny_bind (wpAny_pendingCount_other hd ?_)
  refine wpAny_ret_mkInt ?_
  rw[Nat.add_zero]; exact h
def Glu{prog:BK}{w:World}{A:Around}{E:BG->BH->Prop}{s:BH}{d:BI}{o:Obj}{es:Array DictEntry}{ep:Nat}{Q:BG->BH->Prop}(hd:(d==sysModules)=false)(ho:s.heap.get? d=some o)(hT:o.cls=.type "dict")(hdat:o.data=.dict es ep)(hfit:(es.size:Int)<2^63)
  (h:Q (.int es.size (s.toks+1)) { s with toks:=s.toks+1+1 }):wpAny (model prog w) A (call (.builtin "len") [.ref d]) Q E s:=by
 have ht:s.TypeIs (.ref d) "dict":=⟨o,ho,hT⟩
 refine Calls.call_function_entry kind_len plain_len entry_len (args_len1 _) ?_
 unfold Builtin.«len»
 refine wpAny_bind (m:=oneArg "len" _) (wpAny_pure ?_)
 refine wpAny_bind (m:=callSpecial? (.ref d) (Str.ofString "__len__")) (wpAny_callSpecial?_slot (name:=Str.ofString "__len__") ht F.slot_dict_len
  (call_meetsIn F.slot_dict_len ht F.entry_dict_len (F.args_dict_len_1 _) (Giy d hd) ⟨o,es,ep,ho,hdat,?_⟩))
 show wpAny _ _ _ _ _ { s with toks:=s.toks+1 }
 refine wpAny_bind (wpAny_holding (wpAny_pure ?_))
 refine wpAny_bind (wpAny_letGo ?_)
 show wpAny _ _ (if((es.size:Nat):Int)<0 then _ else _) _ _ _
 rw[if_neg (by omega)]
 show wpAny _ _ (if((es.size:Nat):Int)≥2^63 then _ else _) _ _ _
 rw[if_neg (by omega)]
 exact wpAny_bind (wpAny_mkInt (wpAny_pure ⟨_,rfl,h⟩))
noncomputable def Ur(xs:List D)(S:Sto):Out D:=match xs with
 | [.dct i]=>match S[i]? with
  | some c=>if c.fz=false then .ok (.int c.xs.length) S else .bad
  | none=>.bad
 | _=>.bad
section
variable{X:Cx}{XQ:XW}
def Giz:Yk X (.builtin "len") (fun xs H Q=>∃ a kvs,xs=[V.ref a]/\H a=some (.dT kvs)/\Q (.int kvs.length) H):=by
 intro pins s Z H xs us Q I r h
 obtain⟨a,kvs,rfl,ha,q⟩:=h
 obtain⟨u,rfl,ru⟩:=Vals.one r
 cases ru
 obtain⟨z,hd,ys,rel,o,es,ep,h1,h2,h3,h4,_⟩:=(show Kh X.prog X.w H s.heap a (.dT kvs) from I.hok a _ ha)
 have hl:es.size=kvs.length:=by
  rw[<- Array.length_toList,h4,Ah,Paired.length rel]
 refine Glu hd h1 h2.1 h3 (by rw[hl]; have:=Gab; omega) ?_
 rw[hl]
 exact⟨.int kvs.length,H,I.tok _,⟨_,rfl⟩,q⟩
def Gst{K:BE}:BlD K (fun xs H Q=>∃ a kvs,xs=[V.ref a]/\H a=some (.dT kvs)/\Q (.int kvs.length) H) Ur:=by
 intro XQ Z U mp H S xs vs Q rs r p
 unfold Ur at p
 split at p
 ·rename_i i
  split at p
  ·rename_i c zc
   by_cases hf:c.fz=false
   ·rw[if_pos hf] at p
    obtain⟨v,rfl,hv⟩:=RepL.one r
    obtain⟨a,kvs,rfl,ha,hH,rr⟩:=rs.pairs hv zc hf
    refine⟨a,kvs,rfl,hH,?_⟩
    have:=Gj.ok (R:=Rep K) (v:=.int kvs.length) p rs (by rw[<- Paired.length rr]; rfl)
    exact this
   ·rw[if_neg hf] at p; exact p.elim
  ·exact p.elim
 ·exact p.elim
def Gau{p pos:Pos}{e:Expr}{f:Ev (List D)}(hg:Gl X "len")(hm:X.mg "len"=none)(ha:GA X XQ [e] f)(he:starEach [e] X.env=(false,eval e X.env)::starEach [] X.env:=by rfl):GE X XQ (.Call (.Name "len" p) [e] [] pos) (b1 Ur f):=⟨Gnb Giz Gst hg hm (by rfl) ha.h (he:=he)⟩
end
structure NN(N:List Str):Prop
def nn(N:List Str):NN N:=⟨⟩
section
variable{X:Cx}{XQ:XW}{k:Nat}{x:Str}{p pos:Pos}{e:Expr}{es:List Expr}{N P:List Str}{s:Scope}{f:Ev D}
def gGS(S:FnS N P s)(h:okG s x=true:=by decide +kernel)(hs:X.env.scope=s:=by rfl):Gl X x:=gG s h hs
def Hed{fn:Fn}{ps:List Str}{j n:Nat}{t:Ev (List D)}(S:FnS N P s)(C:Cal X.prog X.w X.K X.mg X.base x ps fn j)(hr:Room k X.A)(ha:GA X XQ (e::es) t)(hg:okG s x=true:=by decide +kernel)(hn:ps.length=n:=by rfl)(hj:j<=k:=by decide)(hs:X.env.scope=s:=by rfl)
  (he:starEach (e::es) X.env=(false,eval e X.env)::starEach es X.env:=by rfl) (hpl:(backTo pos (starEach es X.env)).any (·.1)=false:=by rfl):
  GE X XQ (.Call (.Name x p) (e::es) [] pos) (cl n (Gg fn) t):=gow s C hr ha hg hn hj hs he hpl
def Hb2{fn:Fn}{ps:List Str}{j n:Nat}{ys:List Str}{t:Ev (List D)}(S:FnS N P s)(xs:XNs X.K ys)(L:XL X XQ)(C:CalX X.prog X.w X.K X.mg X.base x ps fn j)(hr:Room k X.A)(ha:GA X XQ (e::es) t)(hg:okG s x=true:=by decide +kernel)(hn:ps.length=n:=by rfl)(hj:j<=k:=by decide)(hs:X.env.scope=s:=by rfl)
  (he:starEach (e::es) X.env=(false,eval e X.env)::starEach es X.env:=by rfl) (hpl:(backTo pos (starEach es X.env)).any (·.1)=false:=by rfl):
  GE X XQ (.Call (.Name x p) (e::es) [] pos) (cl n (gX ys fn) t):=Gsk s xs L C hr ha hg hn hj hs he hpl
def Gyq{N:List Str}{sc:Scope}{elt tg iter:Expr}{ifs:List Expr}{scope:Scope}{N':List Str}{pk:List (BJ Nat)}{f:Ev Src}{g:Tg}{t:Ev Bool}{e:Ev D}(W:NN N')(S:FnS N P sc)(hi:GI X XQ tg iter f)(hg:∀ cl s2 H2 C fp,GG (blk X s2 H2 C scope cl N' fp) tg g)(ht:∀ cl s2 H2 C fp,GTs (blk X s2 H2 C scope cl N' fp) XN ifs t)(he:∀ cl s2 H2 C fp,GE (blk X s2 H2 C scope cl N' fp) XN elt e)(ct:CompTab sc scope N N' pk:=by exact kdC)(hsc:X.env.scope=sc:=by rfl)(hNN:X.N=N:=by rfl)(hcm:X.calm=true:=by rfl)(hs:∀ x,foldedSetIterable iter X.env x=pure x:=by intro _; rfl):GE X XQ (.ListComp elt [⟨tg,iter,ifs,0⟩] scope pos) (cmp f pk g t e):=Hbx S hi hg ht he ct hsc hNN hcm hs
def Gyr(i:Nat){N:List Str}{sc:Scope}{y:Str}{py spos:Pos}{elt tg iter:Expr}{ifs:List Expr}{scope:Scope}{N':List Str}{pk:List (BJ Nat)}{f:Ev Src}{g:Tg}{t:Ev Bool}{e:Ev D}(W:NN N')(S:FnS N P sc)(hi:GI X XQ tg iter f)(hg:∀ cl s2 H2 C fp,GG (blk X s2 H2 C scope cl N' fp) tg g)(ht:∀ cl s2 H2 C fp,GTs (blk X s2 H2 C scope cl N' fp) XN ifs t)(he:∀ cl s2 H2 C fp,GE (blk X s2 H2 C scope cl N' fp) XN elt e)(ct:CompTab sc scope N N' pk:=by exact kdC)(hsc:X.env.scope=sc:=by rfl)(hNN:X.N=N:=by rfl)(hcm:X.calm=true:=by rfl)(hsw:swapsWith (.ListComp elt [⟨tg,iter,ifs,0⟩] scope pos) (some (.Name y py)) spos.line X.env=pure true:=by rfl)(hy:N[i]?=some y:=by rfl)(hs:∀ x,foldedSetIterable iter X.env x=pure x:=by intro _; rfl)(hf:X.fn y=true:=by rfl):GS X XQ (.Assign [.Name y py] (.ListComp elt [⟨tg,iter,ifs,0⟩] scope pos) spos) (sa (cmp f pk g t e) (gn i)):=Gfa i S hi hg ht he ct hsc hNN hcm hsw hy hs hf
def Hee{j:Nat}{np cpos:Pos}{a:Expr}{t:Ev (List D)}(S:FnS N P s)(L:XL X XQ)(C:ClX X.prog X.w X.K X.mg X.base x j)(hr:Room k X.A)(ha:GA X XQ [a] t)(hg:okG s x=true:=by decide +kernel)(hcm:X.calm=true:=by rfl)(hj:j+1<=k:=by decide)(hs:X.env.scope=s:=by rfl)
  (he:starEach [a] X.env=(false,eval a X.env)::starEach [] X.env:=by rfl) (hpl:(backTo cpos (starEach [] X.env)).any (·.1)=false:=by rfl):
  GS X XQ (.Raise (some (.Call (.Name x np) [a] [] cpos)) none pos) (srs x t):=Ghh s L C hr ha hg hcm hj hs he hpl
end
def gx{p:Prop}(h:p:=by repeat' first | (show GE _ _ _ _; first | (apply DL.Gcd; decide +kernel; rfl) | (apply DL.gw; apply Sc; rfl) | apply DL.ge_int | apply DL.Hn | apply DL.Hm | apply DL.Ju | apply DL.Uf | apply DL.Qu | (apply DL.Heb; assumption; apply hr) | (apply DL.Hed; apply Sc; assumption; apply hr) | (apply DL.Hb2; apply Sc; apply T.xt.xns; apply L; assumption; apply hr) | (apply DL.Wm; rotate_left; apply T.b_len) | apply DL.Gob | apply DL.Yq | apply DL.Gf4 | apply DL.Gyj | apply DL.Ue | apply DL.Gyg | apply DL.Gyh | apply DL.Gsb | apply DL.Gyi | apply DL.Gf5 | (apply DL.Gof; rotate_left; apply T.b_tuple) | (apply DL.Gsd; rotate_left; apply T.b_list) | (apply DL.Gse; rotate_left; apply T.b_int) | (apply DL.Xn; apply hr; rotate_left; apply T.b_repr) | (apply DL.Gau; rotate_left; apply T.b_len) | (apply DL.Gyq; apply W1; apply Sc; rotate_left 4; exact kdC) | (apply DL.Gyq; apply W2; apply Sc; rotate_left 4; exact kdC) | (apply DL.Gyq; apply W3; apply Sc; rotate_left 4; exact kdC) | (apply DL.Guq; apply hr.units) | (apply DL.Hbt; apply hr.units) | apply DL.Gbo | apply DL.Gss | apply DL.Gjz | apply DL.Hbq | apply DL.Hbr | apply DL.ge_gt | apply DL.Hbs | apply DL.Goc | apply DL.ge_or | apply DL.God | apply DL.Goe | apply DL.Gsc | apply DL.ge_isn | (apply DL.Hb1; apply hr) | (apply DL.Gjy; apply hr) | apply T.c_END | apply T.c_CHAMBER | apply T.c_UP) | (show GA _ _ _ _; first | apply DL.BL | apply DL.Ga) | (show starEach _ _=_; first | apply DL.Ge | apply DL.Gf | apply DL.Hr | apply DL.Gv | apply DL.Vs | apply DL.Xc | apply DL.Gjo | apply DL.Gir | apply DL.Giq | apply DL.se_BoolOp | apply DL.Gnl | apply DL.Gha | apply DL.se_Attribute) | (show GT _ _ _ _; first | (apply DL.Gju; apply hr.units) | (apply DL.Gar; apply hr.units) | apply DL.Xo | apply DL.Gog | apply DL.gt_le | apply DL.Gur | apply DL.Gus | apply DL.Gyl | (apply DL.Gor; apply hr) | (apply DL.gt_dci; apply hr) | (apply DL.gt_inP; apply hr) | (apply DL.gt_ninP; apply hr) | (apply DL.Ghg; apply Gmk; apply Guj; apply Gji; apply Gui) | (apply GW.jt; first | apply DL.Goh | apply DL.Yr) | apply DL.Ug) | (show GSs _ _ _ _; first | apply DL.Go | apply DL.Gi | apply DL.Jg) | (show GS _ _ _ _; first | (apply DL.Gyr; apply W1; apply Sc; rotate_left 8; rfl; rotate_left 7; exact kdC) | (apply DL.Gyr; apply W2; apply Sc; rotate_left 8; rfl; rotate_left 7; exact kdC) | (apply DL.Gyr; apply W3; apply Sc; rotate_left 8; rfl; rotate_left 7; exact kdC) | (apply DL.gsew; apply Sc) | apply DL.Jk | apply DL.Qp | apply DL.Gbp | apply DL.Gcx | apply DL.Gok | (apply DL.Gj0; apply hr) | (apply DL.gsiw; apply Sc) | (apply DL.Hee; apply Sc; apply L; assumption; apply hr) | (apply DL.Gbq; first | apply PassesOwn.never | apply L.pas) | (apply DL.Gol; first | apply PassesOwn.never | apply L.pas) | apply DL.Gcc | apply DL.gs_break | apply DL.gs_pass) | (show GG _ _ _; first | (apply DL.Gdo; decide +kernel; decide +kernel; rfl) | (apply DL.ggw; apply Sc) | (apply DL.Ys; rfl)) | (show GGs _ _ _; first | apply DL.We | apply DL.Hk) | (show GW _ _ _ _; first | apply DL.Goh | apply DL.Yr | apply DL.Gsf | apply DL.Gad) | (show GO _ _ _ _; first | apply DL.Gas | apply DL.Vh) | (show GI _ _ _ _ _; first | (apply DL.Vo; rotate_left; apply T.b_range) | (apply DL.Gls; rotate_left; apply T.b_range) | (apply DL.Ghf; rotate_left; apply T.b_enumerate) | apply DL.Gdn) | (show GTs _ _ _ _; first | apply DL.Gat | apply DL.Gjv) | (show Gl _ _; first | (apply DL.glB_w; decide +kernel) | (apply DL.gGS; apply Sc)) | rfl | decide +kernel | exact kdC | intro _):p:=h
end DL
namespace Law
open PySem PySem.Spec PyProof.Rows L2 DL
variable{X:Cx}{XQ:XW}
def top(i:Nat):Stmt:=PySem.Challenge.pw_summitwater_k33_open_stands_met.main.body.getD i (.Pass ⟨0,0,0,0⟩)
abbrev Wn:Stmt:=top 3
abbrev Wo:Stmt:=top 4
abbrev Gbr:Stmt:=top 5
abbrev Gag:Stmt:=top 6
abbrev Wp:Stmt:=top 7
abbrev Gdq:Stmt:=top 8
abbrev Gbs:Stmt:=top 11
abbrev Gdr:Stmt:=top 12
abbrev Gav:Stmt:=top 28
abbrev Yv:Stmt:=top 29
abbrev Gaw:Stmt:=top 30
abbrev Zu:Stmt:=top 41
abbrev Xz:Stmt:=top 36
abbrev Yw:Stmt:=top 42
abbrev Yx:Stmt:=top 35
abbrev Zv:Stmt:=top 40
abbrev Xp:Stmt:=top 38
abbrev Wq:Stmt:=top 39
abbrev Ghn:Stmt:=top 45
abbrev Zw:Stmt:=top 44
abbrev Gce:Stmt:=top 43
abbrev Ya:Stmt:=top 37
abbrev Gax:Stmt:=top 32
abbrev Yy:Stmt:=top 34
abbrev Yb:Stmt:=top 51
abbrev Yc:Stmt:=top 50
abbrev Gay:Stmt:=top 52
abbrev Yz:Stmt:=top 33
abbrev Gfd:Stmt:=top 48
abbrev Zc:Stmt:=top 53
abbrev Gaz:Stmt:=top 55
abbrev Ga0:Stmt:=top 56
abbrev Xe:Stmt:=top 57
abbrev Vt:Stmt:=top 58
abbrev Ga1:Stmt:=top 60
abbrev Gcf:Stmt:=top 59
abbrev Uh:Stmt:=top 61
abbrev Ui:Stmt:=top 62
abbrev Xf:Stmt:=top 63
abbrev Xq:Stmt:=top 64
abbrev Wr:Stmt:=top 65
abbrev Zd:Stmt:=top 66
abbrev Uj:Stmt:=top 67
abbrev Gds:Stmt:=top 68
noncomputable def c_CHAMBER:D:=(.tup [(.str "chamber")])
noncomputable def c_END:D:=(.tup [(.str "end")])
noncomputable def c_UP:D:=(.str "up")
noncomputable def ys:List Str:=["NoGate","Dry","Full","NoSpring","NoBarge","NoRoom","Uneven","Shallow","Falls","NoText","TooMany","NoLine"]
noncomputable def ms:List Str:=["NoGate","Dry","Full","NoSpring","NoBarge","NoRoom","Uneven","Shallow","Falls","NoText","TooMany","NoLine"]
structure Hs(K:BE):Prop where
 h_has_spring:FH K "has_spring" Wn
 h_most_water:FH K "most_water" Wo
 h_is_dry:FH K "is_dry" Gbr
 h_is_full:FH K "is_full" Gag
 h_is_shallow:FH K "is_shallow" Wp
 h_holds:FH K "holds" Gdq
 h_higher:FH K "higher" Gbs
 h_lower:FH K "lower" Gdr
 h_barges_of:FH K "barges_of" Gav
 h_with_barges:FH K "with_barges" Yv
 h_with_more:FH K "with_more" Gaw
 h_check_gate:FH K "check_gate" Zu
 h_place_behind:FH K "place_behind" Xz
 h_check_water:FH K "check_water" Yw
 h_place_ahead:FH K "place_ahead" Yx
 h_check_move:FH K "check_move" Zv
 h_check_let:FH K "check_let" Xp
 h_check_feed:FH K "check_feed" Wq
 h_moved:FH K "moved" Ghn
 h_with_water:FH K "with_water" Zw
 h_let_down:FH K "let_down" Gce
 h_is_last_move:FH K "is_last_move" Ya
 h_deed_done:FH K "deed_done" Gax
 h_deeds_of:FH K "deeds_of" Yy
 h_with_waiting:FH K "with_waiting" Yb
 h_without_ends:FH K "without_ends" Yc
 h_open_done:FH K "open_done" Gay
 h_steps_by:FH K "steps_by" Yz
 h_met_by:FH K "met_by" Gfd
 h_open_met:FHd K "open_met" Zc 600
 h__law_tape:FH K "_law_tape" Gaz
 h__law_draw:FH K "_law_draw" Ga0
 h__law_open_dry:FH K "_law_open_dry" Xe
 h__law_open_small:FH K "_law_open_small" Vt
 h__law_gone:FH K "_law_gone" Ga1
 h__law_due:FH K "_law_due" Gcf
 h__law_open_due:FH K "_law_open_due" Uh
 h__law_open_can:FH K "_law_open_can" Ui
 h__law_open_met:FH K "_law_open_met" Xf
 h__law_name:FH K "_law_name" Xq
 h__law_whole:FH K "_law_whole" Wr
 h__law_did:FH K "_law_did" Zd
 h__law_is_right:FH K "_law_is_right" Uj
 h_law:FH K "law" Gds
 z_ValueError:PySem.W.nsIn K mainGlobals "ValueError"=some none
 z_bool:PySem.W.nsIn K mainGlobals "bool"=some none
 z_enumerate:PySem.W.nsIn K mainGlobals "enumerate"=some none
 z_int:PySem.W.nsIn K mainGlobals "int"=some none
 z_isinstance:PySem.W.nsIn K mainGlobals "isinstance"=some none
 z_len:PySem.W.nsIn K mainGlobals "len"=some none
 z_list:PySem.W.nsIn K mainGlobals "list"=some none
 z_range:PySem.W.nsIn K mainGlobals "range"=some none
 z_repr:PySem.W.nsIn K mainGlobals "repr"=some none
 z_str:PySem.W.nsIn K mainGlobals "str"=some none
 z_tuple:PySem.W.nsIn K mainGlobals "tuple"=some none
structure Txt(K:BE)(mg:Str->BJ BG):Prop where
 b_ValueError:mg "ValueError"=none
 b_bool:mg "bool"=none
 b_enumerate:mg "enumerate"=none
 b_int:mg "int"=none
 b_isinstance:mg "isinstance"=none
 b_len:mg "len"=none
 b_list:mg "list"=none
 b_range:mg "range"=none
 b_repr:mg "repr"=none
 b_str:mg "str"=none
 b_tuple:mg "tuple"=none
 k_CHAMBER:∃ u v,mg "CHAMBER"=some u/\Hc v u/\∀ mp H,Rep K mp H c_CHAMBER v
 k_END:∃ u v,mg "END"=some u/\Hc v u/\∀ mp H,Rep K mp H c_END v
 k_UP:∃ u v,mg "UP"=some u/\Hc v u/\∀ mp H,Rep K mp H c_UP v
 fv_open_done:FvT K mg "open_done"
 xt:XT K mg "SummitError" ys ms
def Txt.c_CHAMBER{pos:Pos}(T:Txt X.K X.mg)(hg:Gl X "CHAMBER"):GE X XQ (.Name "CHAMBER" pos) (cn c_CHAMBER):=let ⟨u,v,h1,h2,h3⟩:=T.k_CHAMBER; ⟨Gis h1 h2 h3 hg (by decide +kernel)⟩
def Txt.c_END{pos:Pos}(T:Txt X.K X.mg)(hg:Gl X "END"):GE X XQ (.Name "END" pos) (cn c_END):=let ⟨u,v,h1,h2,h3⟩:=T.k_END; ⟨Gis h1 h2 h3 hg (by decide +kernel)⟩
def Txt.c_UP{pos:Pos}(T:Txt X.K X.mg)(hg:Gl X "UP"):GE X XQ (.Name "UP" pos) (cn c_UP):=let ⟨u,v,h1,h2,h3⟩:=T.k_UP; ⟨Gis h1 h2 h3 hg (by decide +kernel)⟩
abbrev Uo:Stmt:=(Gsg (top 14)).getD 0 (.Pass ⟨0,0,0,0⟩)
def sc_init:FnScope ["self","text"] ["self","text"] (Gb Uo):=kdS
def Hb3:OkG (Gb Uo) "ValueError":=⟨by decide +kernel⟩
def Gsu:OkV (Gb Uo) "self":=⟨by decide +kernel⟩
def Gsv:OkV (Gb Uo) "text":=⟨by decide +kernel⟩
def Glv{P:BK}{w:World}{K:BE}{mg:Str->BJ BG}{base:Heap}(hm:mg "ValueError"=none)(f:BI)(cdv:BG)(A:Around)(outer:List PySem.Env)(s:BH)(H:Hp)(E:XK):PSs (Ud CX0 P w K mg base ["self","text"] "SummitError.__init__" (Gb Uo) f cdv A outer s H E).nox (Gy Uo) (Gup K):=by
 conv=>arg 2; whnf
 exact Gjg (Gjh (Gns (gl Hb3) hm (Vg (Gfm (i:=0) rfl (okV.vis Gsu.h).1) (Vg (Gfm (i:=1) rfl (okV.vis Gsv.h).1) pa_nil)) rfl))
structure All(P:BK)(w:World)(K:BE)(mg:Str->BJ BG)(base:Heap):Prop where
 h:Hs K
 g:GH K mg
 t:Txt K mg
 X_Dry:ClX P w K mg base "Dry" 1
 X_Full:ClX P w K mg base "Full" 1
 X_NoBarge:ClX P w K mg base "NoBarge" 1
 X_NoGate:ClX P w K mg base "NoGate" 1
 X_NoRoom:ClX P w K mg base "NoRoom" 1
 X_NoSpring:ClX P w K mg base "NoSpring" 1
 X_Shallow:ClX P w K mg base "Shallow" 1
 X_TooMany:ClX P w K mg base "TooMany" 1
 X_Uneven:ClX P w K mg base "Uneven" 1
section
variable{P:BK}{w:World}{K:BE}{mg:Str->BJ BG}{base:Heap}
def Jh:Sv:=(sret (va (o2 eqD (o2 getD (vr 0) (cn (.int 0))) (cn (.str "pound"))) (o2 Ge9 (o2 getD (vr 0) (cn (.int 4))) (cn .non))))
def Qv:Fn:=fnB 1 Jh
def Gel:FnS ["place"] ["place"] (Gb Wn):=kdF
abbrev z0:=Gb Wn
def Gdt(Al:All P w K mg base):Cal P w K mg base "has_spring" ["place"] Qv 1:=by
 have Sc:=Gel
 refine calw (b:=Jh) 0 Al.h.h_has_spring Al.g Sc rfl fun _ _ _ _ _ _ _ hr=>?_
 conv=>arg 3; whnf
 refine GSs.h ?_
 exact gx
def Qw:Sv:=(sq (sif (tb (o2 eqD (vr 0) (cn c_END)))
  (sret (cn (.int 0)))
  skip)
  (sret (ie (tb (o2 eqD (vr 0) (cn c_CHAMBER))) (cn (.int 1)) (o2 getD (vr 0) (cn (.int 1))))))
def Kx:Fn:=fnB 1 Qw
def Gem:FnS ["place"] ["place"] (Gb Wo):=kdF
abbrev z1:=Gb Wo
def Gdu(Al:All P w K mg base):Cal P w K mg base "most_water" ["place"] Kx 1:=by
 have Sc:=Gem
 have T:=Al.t
 refine calw (b:=Qw) 0 Al.h.h_most_water Al.g Sc rfl fun _ _ _ _ _ _ _ hr=>?_
 conv=>arg 3; whnf
 refine GSs.h ?_
 exact gx
def Ze:Sv:=(sret (va (o2 neD (vr 0) (cn c_END)) (o2 eqD (vr 1) (cn (.int 0)))))
def Ga2:Fn:=fnB 2 Ze
def Glw:FnS ["place","level"] ["place","level"] (Gb Gbr):=kdF
abbrev z2:=Gb Gbr
def Gi0(Al:All P w K mg base):Cal P w K mg base "is_dry" ["place","level"] Ga2 1:=by
 have Sc:=Glw
 have T:=Al.t
 refine calw (b:=Ze) 0 Al.h.h_is_dry Al.g Sc rfl fun _ _ _ _ _ _ _ hr=>?_
 conv=>arg 3; whnf
 refine GSs.h ?_
 exact gx
def Xg:Sv:=(sret (va (o2 neD (vr 0) (cn c_END)) (o2 geD (vr 1) (cl 1 (Gg Kx) (ac (vr 0) an)))))
def Qq:Fn:=fnB 2 Xg
def Gi1:FnS ["place","level"] ["place","level"] (Gb Gag):=kdF
abbrev z3:=Gb Gag
def Gcg(Al:All P w K mg base):Cal P w K mg base "is_full" ["place","level"] Qq 2:=by
 have Sc:=Gi1
 have T:=Al.t
 refine calw (b:=Xg) 1 Al.h.h_is_full Al.g Sc rfl fun _ _ _ _ _ _ _ hr=>?_
 conv=>arg 3; whnf
 refine GSs.h ?_
 have:=Gdu Al
 exact gx
def Jv:Sv:=(sret (va (o2 eqD (o2 getD (vr 0) (cn (.int 0))) (cn (.str "pound"))) (o2 ltD (vr 1) (o2 getD (vr 0) (cn (.int 2))))))
def Ky:Fn:=fnB 2 Jv
def Gen:FnS ["place","level"] ["place","level"] (Gb Wp):=kdF
abbrev z4:=Gb Wp
def Gdv(Al:All P w K mg base):Cal P w K mg base "is_shallow" ["place","level"] Ky 1:=by
 have Sc:=Gen
 refine calw (b:=Jv) 0 Al.h.h_is_shallow Al.g Sc rfl fun _ _ _ _ _ _ _ hr=>?_
 conv=>arg 3; whnf
 refine GSs.h ?_
 exact gx
def Ga3:Sv:=(sq (sif (tb (o2 eqD (vr 0) (cn c_END)))
  (sret (cn (.bl true)))
  skip)
  (sret (o2 leD (vr 1) (ie (tb (o2 eqD (vr 0) (cn c_CHAMBER))) (cn (.int 1)) (o2 getD (vr 0) (cn (.int 3)))))))
def Zo:Fn:=fnB 2 Ga3
def Gos:FnS ["place","barges"] ["place","barges"] (Gb Gdq):=kdF
abbrev z5:=Gb Gdq
def Glx(Al:All P w K mg base):Cal P w K mg base "holds" ["place","barges"] Zo 1:=by
 have Sc:=Gos
 have T:=Al.t
 refine calw (b:=Ga3) 0 Al.h.h_holds Al.g Sc rfl fun _ _ _ _ _ _ _ hr=>?_
 conv=>arg 3; whnf
 refine GSs.h ?_
 exact gx
def Zf:Sv:=(sret (ie (tb (o2 eqD (o2 getD (o2 getD (vr 0) (cn (.int 1))) (vr 1)) (cn c_UP))) (o2 Gq (vr 1) (cn (.int 1))) (vr 1)))
def Zg:Fn:=fnB 2 Zf
def Gly:FnS ["canal","gate"] ["canal","gate"] (Gb Gbs):=kdF
abbrev z6:=Gb Gbs
def Gah(Al:All P w K mg base):Cal P w K mg base "higher" ["canal","gate"] Zg 1:=by
 have Sc:=Gly
 have T:=Al.t
 refine calw (b:=Zf) 0 Al.h.h_higher Al.g Sc rfl fun _ _ _ _ _ _ _ hr=>?_
 conv=>arg 3; whnf
 refine GSs.h ?_
 exact gx
def Ga4:Sv:=(sret (ie (tb (o2 eqD (o2 getD (o2 getD (vr 0) (cn (.int 1))) (vr 1)) (cn c_UP))) (vr 1) (o2 Gq (vr 1) (cn (.int 1)))))
def Ga5:Fn:=fnB 2 Ga4
def Got:FnS ["canal","gate"] ["canal","gate"] (Gb Gdr):=kdF
abbrev z7:=Gb Gdr
def Gbt(Al:All P w K mg base):Cal P w K mg base "lower" ["canal","gate"] Ga5 1:=by
 have Sc:=Got
 have T:=Al.t
 refine calw (b:=Ga4) 0 Al.h.h_lower Al.g Sc rfl fun _ _ _ _ _ _ _ hr=>?_
 conv=>arg 3; whnf
 refine GSs.h ?_
 exact gx
def Us:Sv:=(sret (ie (tb (o2 eqD (vr 1) (cn (.str "right")))) (o2 getD (vr 0) (cn (.int 1))) (o2 getD (vr 0) (cn (.int 2)))))
def Wf:Fn:=fnB 2 Us
def Gf9:FnS ["stand","word"] ["stand","word"] (Gb Gav):=kdF
def Zx(Al:All P w K mg base):Cal P w K mg base "barges_of" ["stand","word"] Wf 1:=by
 have Sc:=Gf9
 refine calw (b:=Us) 0 Al.h.h_barges_of Al.g Sc rfl fun _ _ _ _ _ _ _ hr=>?_
 conv=>arg 3; whnf
 refine GSs.h ?_
 exact gx
def Qf:Sv:=(sq (sa (vr 0) (gt (gcons (gn 3) (gcons (gn 4) (gcons (gn 5) gnil))) 3))
  (sret (ie (tb (o2 eqD (vr 1) (cn (.str "right")))) (tp (ac (vr 3) (ac (vr 2) (ac (vr 5) an)))) (tp (ac (vr 3) (ac (vr 4) (ac (vr 2) an)))))))
def Wt:Fn:=fnB 6 Qf
def Gdw:FnS ["stand","word","row","levels","rights","lefts"] ["stand","word","row"] (Gb Yv):=kdF
def Gcq(Al:All P w K mg base):Cal P w K mg base "with_barges" ["stand","word","row"] Wt 1:=by
 have Sc:=Gdw
 refine calw (b:=Qf) 0 Al.h.h_with_barges Al.g Sc rfl fun _ _ _ _ _ _ _ hr=>?_
 conv=>arg 3; whnf
 refine GSs.h ?_
 exact gx
def Ut:Sv:=(sret (o2 Gq (o2 Gq (sl2 (vr 0) onone (osome (vr 1))) (tp (ac (o2 Gq (o2 getD (vr 0) (vr 1)) (vr 2)) an))) (sl2 (vr 0) (osome (o2 Gq (vr 1) (cn (.int 1)))) onone)))
def Ki:Fn:=fnB 3 Ut
def Gga:FnS ["row","place","many"] ["row","place","many"] (Gb Gaw):=kdF
def Wu(Al:All P w K mg base):Cal P w K mg base "with_more" ["row","place","many"] Ki 1:=by
 have Sc:=Gga
 refine calw (b:=Ut) 0 Al.h.h_with_more Al.g Sc rfl fun _ _ _ _ _ _ _ hr=>?_
 conv=>arg 3; whnf
 refine GSs.h ?_
 exact gx
def Jw:Sv:=(sif (tn (tb (ch leD ltD (cn (.int 0)) (vr 1) (b1 Hd (ac (o2 getD (vr 0) (cn (.int 1))) an)))))
  (srs "NoGate" (ac (cn (.str "there is no such gate")) an))
  skip)
def Vi:Fn:=fnB 2 Jw
def Geo:FnS ["canal","gate"] ["canal","gate"] (Gb Zu):=kdF
def Zh(Al:All P w K mg base):CalX P w K mg base "check_gate" ["canal","gate"] Vi 3:=by
 have Sc:=Geo
 have T:=Al.t
 refine calxw (b:=Jw) 2 Al.h.h_check_gate Al.g Sc rfl fun _ _ _ _ _ _ _ _ hr L=>?_
 conv=>arg 3; whnf
 refine GSs.h ?_
 have:=Al.X_NoGate
 exact gx
def Kj:Sv:=(sq (sa (vr 0) (gt (gcons (gn 1) (gcons (gn 2) gnil)) 2))
  (sret (ie (tb (o2 eqD (vr 1) (cn (.str "right")))) (o2 Gq (vr 2) (cn (.int 1))) (vr 2))))
def Kk:Fn:=fnB 3 Kj
def Gcr:FnS ["deed","word","gate"] ["deed"] (Gb Xz):=kdF
def Uk(Al:All P w K mg base):Cal P w K mg base "place_behind" ["deed"] Kk 1:=by
 have Sc:=Gcr
 refine calw (b:=Kj) 0 Al.h.h_place_behind Al.g Sc rfl fun _ _ _ _ _ _ _ hr=>?_
 conv=>arg 3; whnf
 refine GSs.h ?_
 exact gx
def Qg:Sv:=(sq (sa (o2 getD (vr 0) (cn (.int 0))) (gn 3))
  (sq (sa (cl 2 (Gg Zg) (ac (vr 0) (ac (vr 2) an))) (gn 4))
  (sq (sa (cl 2 (Gg Ga5) (ac (vr 0) (ac (vr 2) an))) (gn 5))
  (sq (sif (ta (tb (o2 eqD (o2 getD (vr 3) (vr 4)) (cn c_CHAMBER))) (tb (o2 eqD (o2 getD (vr 1) (vr 4)) (cn (.int 1)))))
  (srs "Uneven" (ac (cn (.str "the higher chamber is full")) an))
  skip)
  (sq (sif (ta (tb (o2 eqD (o2 getD (vr 3) (vr 5)) (cn c_CHAMBER))) (tb (o2 eqD (o2 getD (vr 1) (vr 5)) (cn (.int 0)))))
  (srs "Uneven" (ac (cn (.str "the lower chamber is empty")) an))
  skip)
  (sif (to (tt (cl 2 (Gg Ky) (ac (o2 getD (vr 3) (vr 4)) (ac (o2 getD (vr 1) (vr 4)) an)))) (tt (cl 2 (Gg Ky) (ac (o2 getD (vr 3) (vr 5)) (ac (o2 getD (vr 1) (vr 5)) an)))))
  (srs "Shallow" (ac (cn (.str "the pound's level is below its deep")) an))
  skip))))))
def Wv:Fn:=fnB 6 Qg
def Gdx:FnS ["canal","levels","gate","places","high","low"] ["canal","levels","gate"] (Gb Yw):=kdF
def Gcs(Al:All P w K mg base):CalX P w K mg base "check_water" ["canal","levels","gate"] Wv 3:=by
 have Sc:=Gdx
 have T:=Al.t
 refine calxw (b:=Qg) 2 Al.h.h_check_water Al.g Sc rfl fun _ _ _ _ _ _ _ _ hr L=>?_
 conv=>arg 3; whnf
 refine GSs.h ?_
 have:=Gah Al
 have:=Gbt Al
 have:=Gdv Al
 have:=Al.X_Uneven
 have:=Al.X_Shallow
 exact gx
def Qh:Sv:=(sq (sa (vr 0) (gt (gcons (gn 1) (gcons (gn 2) gnil)) 2))
  (sret (ie (tb (o2 eqD (vr 1) (cn (.str "right")))) (vr 2) (o2 Gq (vr 2) (cn (.int 1))))))
def Up:Fn:=fnB 3 Qh
def Gdy:FnS ["deed","word","gate"] ["deed"] (Gb Yx):=kdF
def Yd(Al:All P w K mg base):Cal P w K mg base "place_ahead" ["deed"] Up 1:=by
 have Sc:=Gdy
 refine calw (b:=Qh) 0 Al.h.h_place_ahead Al.g Sc rfl fun _ _ _ _ _ _ _ hr=>?_
 conv=>arg 3; whnf
 refine GSs.h ?_
 exact gx
def Ji:Sv:=(sq (sa (vr 2) (gt (gcons (gn 3) (gcons (gn 4) gnil)) 2))
  (sq (sx (cl 2 (gX ys Vi) (ac (vr 0) (ac (vr 4) an))))
  (sq (sif (tb (o2 eqD (o2 getD (cl 2 (Gg Wf) (ac (vr 1) (ac (vr 3) an))) (cl 1 (Gg Up) (ac (vr 2) an))) (cn (.int 0))))
  (srs "NoBarge" (ac (cn (.str "there is no barge that goes this way")) an))
  skip)
  (sq (sa (cl 1 (Gg Kk) (ac (vr 2) an)) (gn 5))
  (sq (sif (tn (tt (cl 2 (Gg Zo) (ac (o2 getD (o2 getD (vr 0) (cn (.int 0))) (vr 5)) (ac (o2 Gq (o2 Gq (o2 getD (o2 getD (vr 1) (cn (.int 1))) (vr 5)) (o2 getD (o2 getD (vr 1) (cn (.int 2))) (vr 5))) (cn (.int 1))) an)))))
  (srs "NoRoom" (ac (cn (.str "the place that the barge comes to has no room")) an))
  skip)
  (sx (cl 3 (gX ys Wv) (ac (vr 0) (ac (o2 getD (vr 1) (cn (.int 0))) (ac (vr 4) an))))))))))
def Qx:Fn:=fnB 6 Ji
def Gep:FnS ["canal","stand","deed","word","gate","target"] ["canal","stand","deed"] (Gb Zv):=kdF
def Gdz(Al:All P w K mg base):CalX P w K mg base "check_move" ["canal","stand","deed"] Qx 4:=by
 have Sc:=Gep
 have T:=Al.t
 refine calxw (b:=Ji) 3 Al.h.h_check_move Al.g Sc rfl fun _ _ _ _ _ _ _ _ hr L=>?_
 conv=>arg 3; whnf
 refine GSs.h ?_
 have:=Zh Al
 have:=Zx Al
 have:=Yd Al
 have:=Uk Al
 have:=Glx Al
 have:=Gcs Al
 have:=Al.X_NoBarge
 have:=Al.X_NoRoom
 exact gx
def Jp:Sv:=(sq (sx (cl 2 (gX ys Vi) (ac (vr 0) (ac (vr 2) an))))
  (sq (spar 3 4 (ac (o2 getD (vr 0) (cn (.int 0))) (ac (o2 getD (vr 1) (cn (.int 0))) an)))
  (sq (sa (cl 2 (Gg Zg) (ac (vr 0) (ac (vr 2) an))) (gn 5))
  (sq (sa (cl 2 (Gg Ga5) (ac (vr 0) (ac (vr 2) an))) (gn 6))
  (sq (sif (tt (cl 2 (Gg Ga2) (ac (o2 getD (vr 3) (vr 5)) (ac (o2 getD (vr 4) (vr 5)) an))))
  (srs "Dry" (ac (cn (.str "the higher place has no lockful")) an))
  skip)
  (sif (tt (cl 2 (Gg Qq) (ac (o2 getD (vr 3) (vr 6)) (ac (o2 getD (vr 4) (vr 6)) an))))
  (srs "Full" (ac (cn (.str "the lower place takes no lockful")) an))
  skip))))))
def Wg:Fn:=fnB 7 Jp
def Ggb:FnS ["canal","stand","gate","places","levels","high","low"] ["canal","stand","gate"] (Gb Xp):=kdF
abbrev z16:=Gb Xp
def Hb4:OkC z16 "levels":=⟨by decide +kernel⟩
def Hb5:OkC z16 "places":=⟨by decide +kernel⟩
def Geq(Al:All P w K mg base):CalX P w K mg base "check_let" ["canal","stand","gate"] Wg 4:=by
 have Sc:=Ggb
 have T:=Al.t
 refine calxw (b:=Jp) 3 Al.h.h_check_let Al.g Sc rfl fun _ _ _ _ _ _ _ _ hr L=>?_
 conv=>arg 3; whnf
 refine GSs.h ?_
 exact(Gi (Gcx (Gsk z16 T.xt.xns L (Zh Al) hr (Ga (gw 0 Sc) (Ga (gw 2 Sc) BL Ge) Ge)))
  (Gi (Goj 3 4 rfl Sc.nd rfl rfl (by decide) Hb5.h Hb4.h (Ga (Hn (gw 0 Sc) ge_int) (Ga (Hn (gw 1 Sc) ge_int) BL Gv) Gv) (by rfl))
  (Gi (gsew 5 Sc (gow z16 (Gah Al) hr (Ga (gw 0 Sc) (Ga (gw 2 Sc) BL Ge) Ge)))
  (Gi (gsew 6 Sc (gow z16 (Gbt Al) hr (Ga (gw 0 Sc) (Ga (gw 2 Sc) BL Ge) Ge)))
  (Gi (Qp (Ug (gow z16 (Gi0 Al) hr (Ga (Hn (gw 3 Sc) (gw 5 Sc)) (Ga (Hn (gw 4 Sc) (gw 5 Sc)) BL Gv) Gv)))
  (Go (Ghh z16 L Al.X_Dry hr (Ga Hm BL Gf)))
  Jg)
  (Go (Qp (Ug (gow z16 (Gcg Al) hr (Ga (Hn (gw 3 Sc) (gw 6 Sc)) (Ga (Hn (gw 4 Sc) (gw 6 Sc)) BL Gv) Gv)))
  (Go (Ghh z16 L Al.X_Full hr (Ga Hm BL Gf)))
  Jg)))))))
def Qy:Sv:=(sq (spar 3 4 (ac (o2 getD (vr 0) (cn (.int 0))) (ac (o2 getD (vr 1) (cn (.int 0))) an)))
  (sq (sif (to (tn (tb (ch leD ltD (cn (.int 0)) (vr 2) (b1 Hd (ac (vr 3) an))))) (tn (tt (cl 1 (Gg Qv) (ac (o2 getD (vr 3) (vr 2)) an)))))
  (srs "NoSpring" (ac (cn (.str "there is no spring at this place")) an))
  skip)
  (sif (tt (cl 2 (Gg Qq) (ac (o2 getD (vr 3) (vr 2)) (ac (o2 getD (vr 4) (vr 2)) an))))
  (srs "Full" (ac (cn (.str "the pound is at its brim")) an))
  skip)))
def Vj:Fn:=fnB 5 Qy
def Ger:FnS ["canal","stand","number","places","levels"] ["canal","stand","number"] (Gb Wq):=kdF
abbrev z17:=Gb Wq
def Hb6:OkC z17 "levels":=⟨by decide +kernel⟩
def Hb7:OkC z17 "places":=⟨by decide +kernel⟩
def Gd0(Al:All P w K mg base):CalX P w K mg base "check_feed" ["canal","stand","number"] Vj 3:=by
 have Sc:=Ger
 have T:=Al.t
 refine calxw (b:=Qy) 2 Al.h.h_check_feed Al.g Sc rfl fun _ _ _ _ _ _ _ _ hr L=>?_
 conv=>arg 3; whnf
 refine GSs.h ?_
 exact(Gi (Goj 3 4 rfl Sc.nd rfl rfl (by decide) Hb7.h Hb6.h (Ga (Hn (gw 0 Sc) ge_int) (Ga (Hn (gw 1 Sc) ge_int) BL Gv) Gv) (by rfl))
  (Gi (Qp (GW.jt (Yr (Xo (Ghg Gmk Guj Gji Gui ge_int (gw 2 Sc) (Wm (gG z17) T.b_len (Ga (gw 3 Sc) BL Ge)))) (Gad (Xo (Ug (gow z17 (Gdt Al) hr (Ga (Hn (gw 3 Sc) (gw 2 Sc)) BL Gv)))))))
  (Go (Ghh z17 L Al.X_NoSpring hr (Ga Hm BL Gf)))
  Jg)
  (Go (Qp (Ug (gow z17 (Gcg Al) hr (Ga (Hn (gw 3 Sc) (gw 2 Sc)) (Ga (Hn (gw 4 Sc) (gw 2 Sc)) BL Gv) Gv)))
  (Go (Ghh z17 L Al.X_Full hr (Ga Hm BL Gf)))
  Jg))))
def Ga6:Sv:=(sq (sa (o2 getD (vr 1) (cn (.int 0))) (gn 2))
  (sq (sa (cl 3 (Gg Ki) (ac (cl 2 (Gg Wf) (ac (vr 0) (ac (vr 2) an))) (ac (cl 1 (Gg Up) (ac (vr 1) an)) (ac (o1 Gbm (cn (.int 1))) an)))) (gn 3))
  (sret (cl 3 (Gg Wt) (ac (vr 0) (ac (vr 2) (ac (cl 3 (Gg Ki) (ac (vr 3) (ac (cl 1 (Gg Kk) (ac (vr 1) an)) (ac (cn (.int 1)) an)))) an)))))))
def Gcy:Fn:=fnB 4 Ga6
def Gou:FnS ["stand","deed","word","row"] ["stand","deed"] (Gb Ghn):=kdF
def Glz(Al:All P w K mg base):Cal P w K mg base "moved" ["stand","deed"] Gcy 2:=by
 have Sc:=Gou
 refine calw (b:=Ga6) 1 Al.h.h_moved Al.g Sc rfl fun _ _ _ _ _ _ _ hr=>?_
 conv=>arg 3; whnf
 refine GSs.h ?_
 have:=Wu Al
 have:=Zx Al
 have:=Yd Al
 have:=Gcq Al
 have:=Uk Al
 exact gx
def Kz:Sv:=(sq (sif (tb (o2 eqD (o2 getD (o2 getD (vr 0) (cn (.int 0))) (vr 2)) (cn c_END)))
  (sret (vr 1))
  skip)
  (sret (cl 3 (Gg Ki) (ac (vr 1) (ac (vr 2) (ac (vr 3) an))))))
def Vk:Fn:=fnB 4 Kz
def Ges:FnS ["canal","levels","place","many"] ["canal","levels","place","many"] (Gb Zw):=kdF
def Gd1(Al:All P w K mg base):Cal P w K mg base "with_water" ["canal","levels","place","many"] Vk 2:=by
 have Sc:=Ges
 have T:=Al.t
 refine calw (b:=Kz) 1 Al.h.h_with_water Al.g Sc rfl fun _ _ _ _ _ _ _ hr=>?_
 conv=>arg 3; whnf
 refine GSs.h ?_
 have:=Wu Al
 exact gx
def Vu:Sv:=(sq (sa (vr 1) (gt (gcons (gn 3) (gcons (gn 4) (gcons (gn 5) gnil))) 3))
  (sq (sa (cl 4 (Gg Vk) (ac (vr 0) (ac (vr 3) (ac (cl 2 (Gg Zg) (ac (vr 0) (ac (vr 2) an))) (ac (o1 Gbm (cn (.int 1))) an))))) (gn 3))
  (sq (sa (cl 4 (Gg Vk) (ac (vr 0) (ac (vr 3) (ac (cl 2 (Gg Ga5) (ac (vr 0) (ac (vr 2) an))) (ac (cn (.int 1)) an))))) (gn 3))
  (sret (tp (ac (vr 3) (ac (vr 4) (ac (vr 5) an))))))))
def Gai:Fn:=fnB 6 Vu
def Gho:FnS ["canal","stand","gate","levels","rights","lefts"] ["canal","stand","gate"] (Gb Gce):=kdF
def Ggc(Al:All P w K mg base):Cal P w K mg base "let_down" ["canal","stand","gate"] Gai 3:=by
 have Sc:=Gho
 refine calw (b:=Vu) 2 Al.h.h_let_down Al.g Sc rfl fun _ _ _ _ _ _ _ hr=>?_
 conv=>arg 3; whnf
 refine GSs.h ?_
 have:=Gd1 Al
 have:=Gah Al
 have:=Gbt Al
 exact gx
def Kl:Sv:=(sret (o2 eqD (cl 1 (Gg Kk) (ac (vr 1) an)) (ie (tb (o2 eqD (o2 getD (vr 1) (cn (.int 0))) (cn (.str "right")))) (o2 Vr (b1 Hd (ac (o2 getD (vr 0) (cn (.int 0))) an)) (cn (.int 1))) (cn (.int 0)))))
def Qz:Fn:=fnB 2 Kl
def Gct:FnS ["canal","deed"] ["canal","deed"] (Gb Ya):=kdF
def Gbu(Al:All P w K mg base):Cal P w K mg base "is_last_move" ["canal","deed"] Qz 2:=by
 have Sc:=Gct
 have T:=Al.t
 refine calw (b:=Kl) 1 Al.h.h_is_last_move Al.g Sc rfl fun _ _ _ _ _ _ _ hr=>?_
 conv=>arg 3; whnf
 refine GSs.h ?_
 have:=Uk Al
 exact gx
def Gx:Sv:=(sq (sa (vr 2) (gt (gcons (gn 3) (gcons (gn 4) gnil)) 2))
  (sq (sif (tb (o2 eqD (vr 3) (cn (.str "let"))))
  (sq (sx (cl 3 (gX ys Wg) (ac (vr 0) (ac (vr 1) (ac (vr 4) an)))))
  (sret (tp (ac (cl 3 (Gg Gai) (ac (vr 0) (ac (vr 1) (ac (vr 4) an)))) (ac (cn (.int 0)) (ac (cn (.int 0)) an))))))
  skip)
  (sq (sif (tb (o2 eqD (vr 3) (cn (.str "feed"))))
  (sq (sx (cl 3 (gX ys Vj) (ac (vr 0) (ac (vr 1) (ac (vr 4) an)))))
  (sq (sa (vr 1) (gt (gcons (gn 5) (gcons (gn 6) (gcons (gn 7) gnil))) 3))
  (sret (tp (ac (tp (ac (cl 3 (Gg Ki) (ac (vr 5) (ac (vr 4) (ac (cn (.int 1)) an)))) (ac (vr 6) (ac (vr 7) an)))) (ac (o2 getD (o2 getD (o2 getD (vr 0) (cn (.int 0))) (vr 4)) (cn (.int 4))) (ac (cn (.int 0)) an)))))))
  skip)
  (sq (sx (cl 3 (gX ys Qx) (ac (vr 0) (ac (vr 1) (ac (vr 2) an)))))
  (sret (tp (ac (cl 2 (Gg Gcy) (ac (vr 1) (ac (vr 2) an))) (ac (cn (.int 0)) (ac (ie (tt (cl 2 (Gg Qz) (ac (vr 0) (ac (vr 2) an)))) (cn (.int 1)) (cn (.int 0))) an)))))))))
def Gu:Fn:=fnB 8 Gx
def Ggd:FnS ["canal","stand","deed","word","number","levels","rights","lefts"] ["canal","stand","deed"] (Gb Gax):=kdF
def Get(Al:All P w K mg base):CalX P w K mg base "deed_done" ["canal","stand","deed"] Gu 5:=by
 have Sc:=Ggd
 have T:=Al.t
 refine calxw (b:=Gx) 4 Al.h.h_deed_done Al.g Sc rfl fun _ _ _ _ _ _ _ _ hr L=>?_
 conv=>arg 3; whnf
 refine GSs.h ?_
 have:=Geq Al
 have:=Ggc Al
 have:=Gd0 Al
 have:=Wu Al
 have:=Gdz Al
 have:=Glz Al
 have:=Gbu Al
 exact gx
def Vv:Sv:=(sq (sa (vr 0) (gt (gcons (gn 1) (gcons (gn 2) gnil)) 2))
  (sq (sa (cmp (ir1 (ac (b1 Hd (ac (vr 2) an)) an)) [none] (gn 0) ttrue (tp (ac (cn (.str "let")) (ac (vr 0) an)))) (gn 3))
  (sq (sa (cmp (ir1 (ac (b1 Hd (ac (vr 1) an)) an)) [none] (gn 0) ttrue (tp (ac (cn (.str "feed")) (ac (vr 0) an)))) (gn 4))
  (sq (sa (cmp (ir1 (ac (b1 Hd (ac (vr 2) an)) an)) [none] (gn 0) ttrue (tp (ac (cn (.str "right")) (ac (vr 0) an)))) (gn 5))
  (sq (sa (cmp (ir1 (ac (b1 Hd (ac (vr 2) an)) an)) [none] (gn 0) ttrue (tp (ac (cn (.str "left")) (ac (vr 0) an)))) (gn 6))
  (sret (o2 Gq (o2 Gq (o2 Gq (vr 3) (vr 4)) (vr 5)) (vr 6))))))))
def Xr:Fn:=fnB 7 Vv
def Ghp:FnS ["canal","places","gates","lets","feeds","rights","lefts"] ["canal"] (Gb Yy):=kdF
abbrev z23:=Gb Yy
def Gge(Al:All P w K mg base):Cal P w K mg base "deeds_of" ["canal"] Xr 1:=by
 have Sc:=Ghp
 have T:=Al.t
 refine calw (b:=Vv) 0 Al.h.h_deeds_of Al.g Sc rfl fun _ _ _ _ _ _ _ hr=>?_
 conv=>arg 3; whnf
 refine GSs.h ?_
 exact(Gi (Gbp (gw 0 Sc) (Ys rfl (Hk (ggw 1 Sc) (Hk (ggw 2 Sc) We))))
  (Gi (Gfa 3 (N':=["gate"]) (pk:=[none]) Sc (Vo (gG z23) T.b_range (Ga (Wm (gG z23) T.b_len (Ga (gw 2 Sc) BL Ge)) BL Hr)) (fun cl s2 H2 C fp=>(Gdo 0)) (fun cl s2 H2 C fp=>Gat) (fun cl s2 H2 C fp=>(Ju (Ga Hm (Ga (Gcd 0) BL Ge) Gf))))
  (Gi (Gfa 4 (N':=["place"]) (pk:=[none]) Sc (Vo (gG z23) T.b_range (Ga (Wm (gG z23) T.b_len (Ga (gw 1 Sc) BL Ge)) BL Hr)) (fun cl s2 H2 C fp=>(Gdo 0)) (fun cl s2 H2 C fp=>Gat) (fun cl s2 H2 C fp=>(Ju (Ga Hm (Ga (Gcd 0) BL Ge) Gf))))
  (Gi (Gfa 5 (N':=["gate"]) (pk:=[none]) Sc (Vo (gG z23) T.b_range (Ga (Wm (gG z23) T.b_len (Ga (gw 2 Sc) BL Ge)) BL Hr)) (fun cl s2 H2 C fp=>(Gdo 0)) (fun cl s2 H2 C fp=>Gat) (fun cl s2 H2 C fp=>(Ju (Ga Hm (Ga (Gcd 0) BL Ge) Gf))))
  (Gi (Gfa 6 (N':=["gate"]) (pk:=[none]) Sc (Vo (gG z23) T.b_range (Ga (Wm (gG z23) T.b_len (Ga (gw 2 Sc) BL Ge)) BL Hr)) (fun cl s2 H2 C fp=>(Gdo 0)) (fun cl s2 H2 C fp=>Gat) (fun cl s2 H2 C fp=>(Ju (Ga Hm (Ga (Gcd 0) BL Ge) Gf))))
  (Go (Jk (Qu (Qu (Qu (gw 3 Sc) (gw 4 Sc)) (gw 5 Sc)) (gw 6 Sc)))))))))
def Km:Sv:=(sq (sa (vr 0) (gt (gcons (gn 1) (gcons (gn 2) (gcons (gn 3) gnil))) 3))
  (sret (tp (ac (vr 1) (ac (o2 Gq (tp (ac (cn (.int 1)) an)) (sl2 (vr 2) (osome (cn (.int 1))) onone)) (ac (o2 Gq (sl2 (vr 3) onone (osome (o1 Gbm (cn (.int 1))))) (tp (ac (cn (.int 1)) an))) an))))))
def Ua:Fn:=fnB 4 Km
def Gcu:FnS ["stand","levels","rights","lefts"] ["stand"] (Gb Yb):=kdF
def Gbv(Al:All P w K mg base):Cal P w K mg base "with_waiting" ["stand"] Ua 1:=by
 have Sc:=Gcu
 refine calw (b:=Km) 0 Al.h.h_with_waiting Al.g Sc rfl fun _ _ _ _ _ _ _ hr=>?_
 conv=>arg 3; whnf
 refine GSs.h ?_
 exact gx
def Kn:Sv:=(sq (sa (vr 0) (gt (gcons (gn 1) (gcons (gn 2) (gcons (gn 3) gnil))) 3))
  (sret (tp (ac (vr 1) (ac (o2 Gq (o2 Gq (tp (ac (cn (.int 0)) an)) (sl2 (vr 2) (osome (cn (.int 1))) (osome (o1 Gbm (cn (.int 1)))))) (tp (ac (cn (.int 0)) an))) (ac (o2 Gq (o2 Gq (tp (ac (cn (.int 0)) an)) (sl2 (vr 3) (osome (cn (.int 1))) (osome (o1 Gbm (cn (.int 1)))))) (tp (ac (cn (.int 0)) an))) an))))))
def Vw:Fn:=fnB 4 Kn
def Gcv:FnS ["stand","levels","rights","lefts"] ["stand"] (Gb Yc):=kdF
def Gbw(Al:All P w K mg base):Cal P w K mg base "without_ends" ["stand"] Vw 1:=by
 have Sc:=Gcv
 refine calw (b:=Kn) 0 Al.h.h_without_ends Al.g Sc rfl fun _ _ _ _ _ _ _ hr=>?_
 conv=>arg 3; whnf
 refine GSs.h ?_
 exact gx
def Jq:Sv:=(sq (sa (cl 3 (gX ys Gu) (ac (vr 0) (ac (cl 1 (Gg Ua) (ac (vr 1) an)) (ac (vr 2) an)))) (gt (gcons (gn 3) (gcons (gn 4) (gcons (gn 5) gnil))) 3))
  (sret (tp (ac (cl 1 (Gg Vw) (ac (vr 3) an)) (ac (vr 4) (ac (vr 5) an))))))
def Ht:Fn:=fnB 6 Jq
def Ggf:FnS ["canal","stand","deed","behind","price","gain"] ["canal","stand","deed"] (Gb Gay):=kdF
def Geu(Al:All P w K mg base):CalX P w K mg base "open_done" ["canal","stand","deed"] Ht 6:=by
 have Sc:=Ggf
 have T:=Al.t
 refine calxw (b:=Jq) 5 Al.h.h_open_done Al.g Sc rfl fun _ _ _ _ _ _ _ _ hr L=>?_
 conv=>arg 3; whnf
 refine GSs.h ?_
 have:=Get Al
 have:=Gbv Al
 have:=Gbw Al
 exact gx
def Qi:Sv:=(sa (clv 2 "open_done" 3 (gX ys Ht) (ac (vr 0) (ac (vr 1) (ac (vr 4) an)))) (gt (gcons (gn 5) (gcons (gn 6) (gcons (gn 7) gnil))) 3))
def Gev:Sv:=sct
def Ke:Sv:=(sq (Xd ys (Gr6 Gev) Qi)
  (sx (mt Gf1 (vr 3) (ac (tp (ac (vr 4) (ac (vr 5) (ac (vr 6) (ac (vr 7) an))))) an))))
def Vx:Sv:=(sq (sa (ls an) (gn 3))
  (sq (sfor (isrc (cl 1 (Gg Xr) (ac (vr 0) an))) (gn 4) Ke)
  (sret (vr 3))))
def Ul:Fn:=fnB 8 Vx
def Ghq:FnS ["canal","stand","done","steps","deed","behind","price","gain"] ["canal","stand","done"] (Gb Yz):=kdF
abbrev z27:=Gb Yz
def Zy:Gs "SummitError"=true:=by decide +kernel
def Ggg(Al:All P w K mg base):Cal P w K mg base "steps_by" ["canal","stand","done"] Ul 7:=by
 have Sc:=Ghq
 have T:=Al.t
 refine calw (b:=Vx) 6 Al.h.h_steps_by Al.g Sc rfl fun _ _ _ _ _ _ _ hr=>?_
 conv=>arg 3; whnf
 refine GSs.h ?_
 exact(Gi (gsew 3 Sc (Uf BL))
  (Gi (Gbq PassesOwn.never rfl (Gdn (gow z27 (Gge Al) hr (Ga (gw 0 Sc) BL Ge))) (ggw 4 Sc)
  (Gi (Gsi ⟨rfl,rfl,rfl⟩ T.xt.cat (gG z27) Zy (fun pn xe XQ L=>(Go (Gbp (Hbw 2 Sc T.xt.xns L (Geu Al) hr (Ga (gw 0 Sc) (Ga (gw 1 Sc) (Ga (gw 4 Sc) BL Ge) Ge) Ge)) (Ys rfl (Hk (ggw 5 Sc) (Hk (ggw 6 Sc) (Hk (ggw 7 Sc) We)))))))
  (fun a=>(Go Gcc)))
  (Go (Gcx (Gbo (gw 3 Sc) (Ga (Ju (Ga (gw 4 Sc) (Ga (gw 5 Sc) (Ga (gw 6 Sc) (Ga (gw 7 Sc) BL Ge) Ge) Ge) Ge)) BL Vs))))))
  (Go (Jk (gw 3 Sc)))))
def Kq:Sv:=(sif (tb (o2 (Gdp true) (vr 8) (vr 5)))
  (sq (ss (cn (.bl true)) (vr 5) (vr 8) dsetD)
  (sx (mt Gf1 (vr 4) (ac (tp (ac (vr 8) (ac (vr 6) (ac (vr 7) an)))) an))))
  skip)
def Jr:Sv:=(sq (sif (tb (o2 gtD (b1 Hd (ac (vr 4) an)) (vr 2)))
  (srs "TooMany" (ac (cn (.str "more stands are met than the limit")) an))
  skip)
  (sq (sfor (isrc (cl 3 (Gg Ul) (ac (vr 0) (ac (o2 getD (o2 getD (vr 4) (vr 6)) (cn (.int 0))) (ac (vr 3) an))))) (gt (gcons (gn 7) (gcons (gn 8) (gcons (gn 9) (gcons (gn 10) gnil)))) 4) Kq)
  (sag 6 (fun a b=>a+b) (cn (.int 1)))))
def Kr:Ev Bool:=(tb (o2 ltD (vr 6) (b1 Hd (ac (vr 4) an))))
def Ga7:Sv:=(sq (sa (ls (ac (tp (ac (vr 1) (ac (cn .non) (ac (cn .non) an)))) an)) (gn 4))
  (sq (sa (Gfc (vr 1) (cn (.bl true))) (gn 5))
  (sq (sa (cn (.int 0)) (gn 6))
  (sq (whN Kr Jr 6000)
  (sret (vr 4))))))
def Xh:Fn:=fnB 11 Ga7
def Gl0:FnS ["canal","stand","limit","done","told","seen","at","deed","behind","price","gain"] ["canal","stand","limit","done"] (Gb Gfd):=kdF
def Gi2(Al:All P w K mg base):CalX P w K mg base "met_by" ["canal","stand","limit","done"] Xh 8:=by
 have Sc:=Gl0
 have T:=Al.t
 refine calxw (b:=Ga7) 7 Al.h.h_met_by Al.g Sc rfl fun _ _ _ _ _ _ _ _ hr L=>?_
 conv=>arg 3; whnf
 refine GSs.h ?_
 have:=Ggg Al
 have:=Al.X_TooMany
 exact gx
def Xs:Sv:=(sret (cl 4 (gX ys Xh) (ac (vr 0) (ac (vr 1) (ac (vr 2) (ac (cn (.fv "open_done")) an))))))
def Jl:Fn:=fnB 3 Xs
def Ghr:FnS ["canal","stand","limit"] ["canal","stand","limit"] (Gb Zc):=kdF
abbrev z29:=Gb Zc
def Ga8(Al:All P w K mg base):CalD P w K mg base "open_met" ["canal","stand","limit"] Jl 600 9:=by
 have Sc:=Ghr
 have T:=Al.t
 refine caldw (b:=Xs) 8 Al.h.h_open_met Al.g Sc rfl (fun _ _ _ _ _ _ _ _ hr L=>?_) (fun s T o t n kV doc pm an cdv ct us hl ho hd=>match us,hl with | [_,_,_],_=>.of_defaults rfl ho hd rfl rfl) (fun s T o t n kV doc pm an cdv ct us hl ho hd=>match us,hl with | [_,_],_=>.of_defaults rfl ho hd rfl rfl)
 conv=>arg 3; whnf
 refine GSs.h ?_
 exact(Go (Jk (Gsk z29 T.xt.xns L (Gi2 Al) hr (Ga (gw 0 Sc) (Ga (gw 1 Sc) (Ga (gw 2 Sc) (Ga (Gye T.fv_open_done (gG z29) (by decide +kernel)) BL Ge) Ge) Ge) Ge))))
def Uu:Sv:=(sret (ls (ac (b1 Qr (ac (sl2 (vr 0) onone (osome (cn (.int 63)))) an)) (ac (cn (.int 0)) (ac (cn (.int 0)) an)))))
def Wh:Fn:=fnB 1 Uu
def Ggh:FnS ["_law_script"] ["_law_script"] (Gb Gaz):=kdF
def Gew(Al:All P w K mg base):Cal P w K mg base "_law_tape" ["_law_script"] Wh 1:=by
 have Sc:=Ggh
 have T:=Al.t
 refine calw (b:=Uu) 0 Al.h.h__law_tape Al.g Sc rfl fun _ _ _ _ _ _ _ hr=>?_
 conv=>arg 3; whnf
 refine GSs.h ?_
 exact gx
def Ks:Sv:=(sq (sif (tb (o2 gtD (o2 getD (vr 0) (cn (.int 2))) (cn (.int 0))))
  (sq (sa (o2 Xl (o2 getD (vr 0) (cn (.int 2))) (vr 1)) (gn 2))
  (sq (ss (o2 Gao (o2 getD (vr 0) (cn (.int 2))) (vr 1)) (vr 0) (cn (.int 2)) Jo)
  (sret (vr 2))))
  skip)
  (sq (sa (o2 getD (vr 0) (cn (.int 1))) (gn 3))
  (sq (ss (o2 Gq (vr 3) (cn (.int 1))) (vr 0) (cn (.int 1)) Jo)
  (sq (sa (cn (.int 0)) (gn 4))
  (sq (sif (tb (o2 gtD (b1 Hd (ac (o2 getD (vr 0) (cn (.int 0))) an)) (cn (.int 0))))
  (sa (o2 getD (o2 getD (vr 0) (cn (.int 0))) (o2 Xl (vr 3) (b1 Hd (ac (o2 getD (vr 0) (cn (.int 0))) an)))) (gn 4))
  skip)
  (sq (sif (ta (tb (o2 ltD (vr 3) (b1 Hd (ac (o2 getD (vr 0) (cn (.int 0))) an)))) (tb (o2 geD (vr 4) (o2 Gfz (cn (.int 10)) (cn (.int 18))))))
  (sq (ss (o2 Gao (vr 4) (vr 1)) (vr 0) (cn (.int 2)) Jo)
  (sret (o2 Xl (vr 4) (vr 1))))
  skip)
  (sq (sa (o2 Xl (o2 Kf (o2 Gq (o2 Xl (vr 4) (cn (.int 1000003))) (cn (.int 1))) (o2 Gq (o2 Gq (o2 Kf (o2 Kf (cn (.int 7919)) (vr 3)) (vr 3)) (o2 Kf (cn (.int 104729)) (vr 3))) (cn (.int 12345)))) (cn (.int 2147483647))) (gn 5))
  (sq (sa (o2 Xl (o2 Gq (o2 Gq (o2 Kf (vr 5) (vr 5)) (o2 Kf (cn (.int 48271)) (vr 3))) (o2 Xl (vr 4) (cn (.int 65537)))) (cn (.int 2147483629))) (gn 5))
  (sret (o2 Xl (o2 Gao (vr 5) (cn (.int 8))) (vr 1)))))))))))
def Gh:Fn:=fnB 6 Ks
def Ggi:FnS ["_law_tape_here","_law_many","_law_digit","_law_at","_law_cell","_law_mixed"] ["_law_tape_here","_law_many"] (Gb Ga0):=kdF
def Ww(Al:All P w K mg base):Cal P w K mg base "_law_draw" ["_law_tape_here","_law_many"] Gh 1:=by
 have Sc:=Ggi
 have T:=Al.t
 refine calw (b:=Ks) 0 Al.h.h__law_draw Al.g Sc rfl fun _ _ _ _ _ _ _ hr=>?_
 conv=>arg 3; whnf
 refine GSs.h ?_
 exact gx
def Vb:Sv:=(sq (sa (o2 Gq (cn (.int 2)) (cl 2 (Gg Gh) (ac (vr 0) (ac (cn (.int 3)) an)))) (gn 1))
  (sq (sa (tp (ac (cn (.str "pound")) (ac (cn (.int 1)) (ac (cl 2 (Gg Gh) (ac (vr 0) (ac (cn (.int 2)) an))) (ac (vr 1) (ac (cn .non) an)))))) (gn 2))
  (sq (sa (cl 2 (Gg Gh) (ac (vr 0) (ac (o2 Gq (vr 1) (cn (.int 1))) an))) (gn 3))
  (sq (sa (cl 2 (Gg Gh) (ac (vr 0) (ac (o2 Gq (o2 Vr (vr 1) (vr 3)) (cn (.int 1))) an))) (gn 4))
  (sq (sa (cmp (ir1 (ac (cn (.int 2)) an)) [none,some 0] (gn 0) ttrue (cl 2 (Gg Gh) (ac (vr 1) (ac (cn (.int 4)) an)))) (gn 5))
  (sq (sa (cmp (isrc (ls (ac (cn (.int 1)) (ac (cn (.int 2)) an)))) [none,some 5,some 3,some 4] (gn 0) ttrue (ls (ac (cn (.int 0)) (ac (b1 Yg (ac (o2 eqD (o2 getD (vr 1) (cn (.int 0))) (vr 0)) an)) (ac (o2 getD (ls (ac (vr 2) (ac (vr 3) an))) (o2 Vr (vr 0) (cn (.int 1)))) (ac (b1 Yg (ac (o2 eqD (o2 getD (vr 1) (cn (.int 1))) (vr 0)) an)) (ac (cn (.int 0)) an))))))) (gn 6))
  (sq (sa (tp (ac (tp (ac (cn (.str "end")) an)) (ac (tp (ac (cn (.str "chamber")) an)) (ac (vr 2) (ac (tp (ac (cn (.str "chamber")) an)) (ac (tp (ac (cn (.str "end")) an)) an)))))) (gn 7))
  (sret (tp (ac (tp (ac (vr 7) (ac (tp (ac (cn (.str "down")) (ac (cn (.str "up")) (ac (cn (.str "down")) (ac (cn (.str "up")) an))))) an))) (ac (tp (ac (tp (ac (cn (.int 0)) (ac (cn (.int 1)) (ac (cn (.int 1)) (ac (cn (.int 1)) (ac (cn (.int 0)) an)))))) (ac (b1 Kv (ac (o2 getD (vr 6) (cn (.int 0))) an)) (ac (b1 Kv (ac (o2 getD (vr 6) (cn (.int 1))) an)) an)))) an)))))))))))
def Ql:Fn:=fnB 8 Vb
def Gbx:FnS ["_law_tape_here","_law_room","_law_pound","_law_rights","_law_lefts","_law_sides","_law_rows","_law_places"] ["_law_tape_here"] (Gb Xe):=kdF
def Ga9(Al:All P w K mg base):Cal P w K mg base "_law_open_dry" ["_law_tape_here"] Ql 2:=by
 have Sc:=Gbx
 have T:=Al.t
 refine calw (b:=Vb) 1 Al.h.h__law_open_dry Al.g Sc rfl fun _ _ _ _ _ _ _ hr=>?_
 conv=>arg 3; whnf
 refine GSs.h ?_
 have:=Ww Al
 have W1:=nn ["_law_k","_law_tape_here"]
 have W2:=nn ["_law_way","_law_sides","_law_rights","_law_lefts"]
 exact gx
def Hu:Sv:=(sq (ss (cl 2 (Gg Gh) (ac (vr 0) (ac (cn (.int 2)) an))) (o2 getD (vr 10) (cn (.int 0))) (vr 8) Jo)
  (sq (sa (cl 2 (Gg Gh) (ac (vr 0) (ac (cn (.int 6)) an))) (gn 11))
  (sif (tb (o2 ltD (vr 11) (cn (.int 2))))
  (ss (cn (.int 1)) (o2 getD (vr 10) (o2 Gq (cn (.int 1)) (vr 11))) (vr 8) Jo)
  skip)))
def Jj:Sv:=(sq (sif (tb (o2 eqD (cl 2 (Gg Gh) (ac (vr 0) (ac (cn (.int 8)) an))) (cn (.int 0))))
  (sret (cl 1 (Gg Ql) (ac (vr 0) an)))
  skip)
  (sq (sa (o2 getD (ls (ac (o2 Gq (cn (.int 1)) (cl 2 (Gg Gh) (ac (vr 0) (ac (cn (.int 3)) an)))) (ac (cn (.int 0)) (ac (cn .non) (ac (cn (.int 2)) (ac (o2 Gq (cn (.int 1)) (cl 2 (Gg Gh) (ac (vr 0) (ac (cn (.int 99)) an)))) an)))))) (cl 2 (Gg Gh) (ac (vr 0) (ac (cn (.int 5)) an)))) (gn 1))
  (sq (sa (cl 2 (Gg Gh) (ac (vr 0) (ac (cn (.int 2)) an))) (gn 2))
  (sq (sa (tp (ac (cn (.str "pound")) (ac (cn (.int 1)) (ac (vr 2) (ac (cn (.int 1)) (ac (vr 1) an)))))) (gn 3))
  (sq (sa (cl 2 (Gg Gh) (ac (vr 0) (ac (cn (.int 7)) an))) (gn 4))
  (sq (sa (tp (ac (cn (.str "chamber")) an)) (gn 5))
  (sq (sa (o2 getD (ls (ac (ls (ac (vr 5) an)) (ac (ls (ac (vr 5) (ac (vr 5) an))) (ac (ls (ac (vr 5) (ac (vr 3) (ac (vr 5) an)))) (ac (ls (ac (vr 5) (ac (vr 3) (ac (vr 5) an)))) (ac (ls (ac (vr 5) (ac (vr 3) (ac (vr 5) an)))) (ac (ls (ac (vr 5) (ac (vr 5) an))) (ac (ls (ac (vr 5) (ac (vr 5) an))) an)))))))) (vr 4)) (gn 6))
  (sq (sa (cmp (ir1 (ac (o2 Gq (b1 Hd (ac (vr 6) an)) (cn (.int 1))) an)) [none,some 0] (gn 0) ttrue (o2 getD (ls (ac (cn (.str "up")) (ac (cn (.str "down")) an))) (cl 2 (Gg Gh) (ac (vr 1) (ac (cn (.int 2)) an))))) (gn 7))
  (sq (sif (tb (o2 eqD (b1 Hd (ac (vr 6) an)) (cn (.int 3))))
  (sa (o2 getD (ls (ac (ls (ac (cn (.str "up")) (ac (cn (.str "down")) (ac (cn (.str "down")) (ac (cn (.str "down")) an))))) (ac (ls (ac (cn (.str "up")) (ac (cn (.str "down")) (ac (cn (.str "up")) (ac (cn (.str "down")) an))))) (ac (ls (ac (cn (.str "up")) (ac (cn (.str "up")) (ac (cn (.str "down")) (ac (cn (.str "down")) an))))) (ac (ls (ac (cn (.str "up")) (ac (cn (.str "up")) (ac (cn (.str "up")) (ac (cn (.str "down")) an))))) an))))) (cl 2 (Gg Gh) (ac (vr 0) (ac (cn (.int 4)) an)))) (gn 7))
  skip)
  (sq (sa (o2 Gq (o2 Gq (ls (ac (tp (ac (cn (.str "end")) an)) an)) (vr 6)) (ls (ac (tp (ac (cn (.str "end")) an)) an))) (gn 9))
  (sq (sa (ls (ac (o2 Kf (ls (ac (cn (.int 0)) an)) (b1 Hd (ac (vr 9) an))) (ac (o2 Kf (ls (ac (cn (.int 0)) an)) (b1 Hd (ac (vr 9) an))) (ac (o2 Kf (ls (ac (cn (.int 0)) an)) (b1 Hd (ac (vr 9) an))) an)))) (gn 10))
  (sq (sfor (ir2 (ac (cn (.int 1)) (ac (o2 Vr (b1 Hd (ac (vr 9) an)) (cn (.int 1))) an))) (gn 8) Hu)
  (sq (sif (ta (tb (o2 eqD (b1 Hd (ac (vr 6) an)) (cn (.int 3)))) (tb (o2 gtD (cl 2 (Gg Gh) (ac (vr 0) (ac (cn (.int 4)) an))) (cn (.int 0)))))
  (ss (cn (.int 0)) (o2 getD (vr 10) (cn (.int 0))) (cn (.int 1)) Jo)
  skip)
  (sret (tp (ac (tp (ac (b1 Kv (ac (vr 9) an)) (ac (b1 Kv (ac (vr 7) an)) an))) (ac (b1 Kv (ac (cmp (isrc (vr 10)) [none] (gn 0) ttrue (b1 Kv (ac (vr 0) an))) an)) an)))))))))))))))))
def Hv:Fn:=fnB 12 Jj
def Gaj:FnS ["_law_tape_here","_law_price","_law_deep","_law_pound","_law_kind","_law_chamber","_law_inner","_law_gates","_law_k","_law_places","_law_rows","_law_way"] ["_law_tape_here"] (Gb Vt):=kdF
def Zt(Al:All P w K mg base):Cal P w K mg base "_law_open_small" ["_law_tape_here"] Hv 3:=by
 have Sc:=Gaj
 have T:=Al.t
 refine calw (b:=Jj) 2 Al.h.h__law_open_small Al.g Sc rfl fun _ _ _ _ _ _ _ hr=>?_
 conv=>arg 3; whnf
 refine GSs.h ?_
 have:=Ww Al
 have:=Ga9 Al
 have W1:=nn ["_law_k","_law_tape_here"]
 have W2:=nn ["_law_row"]
 exact gx
def Ja:Sv:=(sif (ta (tb (o2 eqD (o2 getD (o2 getD (vr 5) (vr 13)) (cn (.int 0))) (cn (.str "pound")))) (tb (o2 ltD (o2 getD (o2 getD (vr 8) (cn (.int 0))) (vr 13)) (o2 getD (o2 getD (vr 5) (vr 13)) (cn (.int 2))))))
  (sret (cn (.str "shallow")))
  skip)
def Uv:Sv:=(sq (sa (o2 getD (vr 0) (cn (.int 0))) (gn 5))
  (sq (sa (vr 2) (gt (gcons (gn 6) (gcons (gn 7) gnil)) 2))
  (sq (sa (cmp (isrc (vr 1)) [none] (gn 0) ttrue (b1 Qr (ac (vr 0) an))) (gn 8))
  (sq (sa (o2 getD (ls (ac (cn (.int 2)) (ac (cn (.int 1)) an))) (b1 Yg (ac (o2 eqD (vr 6) (cn (.str "right"))) an))) (gn 9))
  (sq (sa (o2 Gq (vr 7) (b1 Yg (ac (o2 eqD (vr 6) (cn (.str "left"))) an))) (gn 10))
  (sq (sa (o2 Vr (o2 Gq (o2 Kf (cn (.int 2)) (vr 7)) (cn (.int 1))) (vr 10)) (gn 11))
  (sq (sif (tb (o2 eqD (o2 getD (o2 getD (vr 8) (vr 9)) (vr 10)) (cn (.int 0))))
  (sret (cn (.str "nobarge")))
  skip)
  (sq (sa (o2 Gq (o2 getD (o2 getD (vr 8) (cn (.int 1))) (vr 11)) (o2 getD (o2 getD (vr 8) (cn (.int 2))) (vr 11))) (gn 12))
  (sq (sif (ta (tb (o2 eqD (o2 getD (o2 getD (vr 5) (vr 11)) (cn (.int 0))) (cn (.str "chamber")))) (tb (o2 gtD (vr 12) (cn (.int 0)))))
  (sret (cn (.str "noroom")))
  skip)
  (sq (sif (ta (tb (o2 eqD (o2 getD (o2 getD (vr 5) (vr 11)) (cn (.int 0))) (cn (.str "pound")))) (tb (o2 geD (vr 12) (o2 getD (o2 getD (vr 5) (vr 11)) (cn (.int 3))))))
  (sret (cn (.str "noroom")))
  skip)
  (sq (sif (ta (tb (o2 eqD (o2 getD (o2 getD (vr 5) (vr 3)) (cn (.int 0))) (cn (.str "chamber")))) (tb (o2 gtD (o2 getD (o2 getD (vr 8) (cn (.int 0))) (vr 3)) (cn (.int 0)))))
  (sret (cn (.str "uneven")))
  skip)
  (sq (sif (ta (tb (o2 eqD (o2 getD (o2 getD (vr 5) (vr 4)) (cn (.int 0))) (cn (.str "chamber")))) (tb (o2 eqD (o2 getD (o2 getD (vr 8) (cn (.int 0))) (vr 4)) (cn (.int 0)))))
  (sret (cn (.str "uneven")))
  skip)
  (sq (sfor (isrc (ls (ac (vr 3) (ac (vr 4) an)))) (gn 13) Ja)
  (sq (ss (o2 Vr (o2 getD (o2 getD (vr 8) (vr 9)) (vr 10)) (cn (.int 1))) (o2 getD (vr 8) (vr 9)) (vr 10) Jo)
  (sq (ss (o2 Gq (o2 getD (o2 getD (vr 8) (vr 9)) (vr 11)) (cn (.int 1))) (o2 getD (vr 8) (vr 9)) (vr 11) Jo)
  (sq (sa (b1 Yg (ac (o2 eqD (vr 11) (o2 getD (ls (ac (cn (.int 0)) (ac (o2 Vr (b1 Hd (ac (vr 5) an)) (cn (.int 1))) an))) (b1 Yg (ac (o2 eqD (vr 6) (cn (.str "right"))) an)))) an)) (gn 14))
  (sret (tp (ac (tp (ac (b1 Kv (ac (o2 getD (vr 8) (cn (.int 0))) an)) (ac (b1 Kv (ac (o2 getD (vr 8) (cn (.int 1))) an)) (ac (b1 Kv (ac (o2 getD (vr 8) (cn (.int 2))) an)) an)))) (ac (cn (.int 0)) (ac (vr 14) an)))))))))))))))))))))
def Uw:Fn:=fnB 15 Uv
def Ggj:FnS ["_law_canal_here","_law_stand_here","_law_deed","_law_up","_law_down","_law_places","_law_word","_law_n","_law_rows","_law_own","_law_start","_law_goal","_law_there","_law_at","_law_gain"] ["_law_canal_here","_law_stand_here","_law_deed","_law_up","_law_down"] (Gb Ga1):=kdF
def Gex(Al:All P w K mg base):Cal P w K mg base "_law_gone" ["_law_canal_here","_law_stand_here","_law_deed","_law_up","_law_down"] Uw 1:=by
 have Sc:=Ggj
 have T:=Al.t
 refine calw (b:=Uv) 0 Al.h.h__law_gone Al.g Sc rfl fun _ _ _ _ _ _ _ hr=>?_
 conv=>arg 3; whnf
 refine GSs.h ?_
 have W1:=nn ["_law_row"]
 exact gx
def Hb:Sv:=(sq (sa (vr 0) (gt (gcons (gn 3) (gcons (gn 4) gnil)) 2))
  (sq (sa (vr 2) (gt (gcons (gn 5) (gcons (gn 6) gnil)) 2))
  (sq (sa (b1 Qr (ac (o2 getD (vr 1) (cn (.int 0))) an)) (gn 7))
  (sq (sif (tb (o2 eqD (vr 5) (cn (.str "feed"))))
  (sq (sif (to (tb (o2 ltD (vr 6) (cn (.int 0)))) (to (tb (o2 geD (vr 6) (b1 Hd (ac (vr 3) an)))) (tb (o2 neD (o2 getD (o2 getD (vr 3) (vr 6)) (cn (.int 0))) (cn (.str "pound"))))))
  (sret (cn (.str "nospring")))
  skip)
  (sq (sif (tb (o2 Gg8 (o2 getD (o2 getD (vr 3) (vr 6)) (cn (.int 4))) (cn .non)))
  (sret (cn (.str "nospring")))
  skip)
  (sq (sif (tb (o2 eqD (o2 getD (vr 7) (vr 6)) (o2 getD (o2 getD (vr 3) (vr 6)) (cn (.int 1)))))
  (sret (cn (.str "full")))
  skip)
  (sq (ss (o2 Gq (o2 getD (vr 7) (vr 6)) (cn (.int 1))) (vr 7) (vr 6) Jo)
  (sret (tp (ac (tp (ac (b1 Kv (ac (vr 7) an)) (ac (o2 getD (vr 1) (cn (.int 1))) (ac (o2 getD (vr 1) (cn (.int 2))) an)))) (ac (o2 getD (o2 getD (vr 3) (vr 6)) (cn (.int 4))) (ac (cn (.int 0)) an)))))))))
  skip)
  (sq (sif (to (tb (o2 ltD (vr 6) (cn (.int 0)))) (tb (o2 geD (vr 6) (b1 Hd (ac (vr 4) an)))))
  (sret (cn (.str "nogate")))
  skip)
  (sq (sa (o2 Gq (vr 6) (b1 Yg (ac (o2 eqD (o2 getD (vr 4) (vr 6)) (cn (.str "up"))) an))) (gn 8))
  (sq (sa (o2 Vr (o2 Gq (o2 Kf (cn (.int 2)) (vr 6)) (cn (.int 1))) (vr 8)) (gn 9))
  (sq (sif (tb (o2 neD (vr 5) (cn (.str "let"))))
  (sret (cl 5 (Gg Uw) (ac (vr 0) (ac (vr 1) (ac (vr 2) (ac (vr 8) (ac (vr 9) an)))))))
  skip)
  (sq (sif (tb (o2 neD (o2 getD (o2 getD (vr 3) (vr 8)) (cn (.int 0))) (cn (.str "end"))))
  (sq (sif (tb (o2 eqD (o2 getD (vr 7) (vr 8)) (cn (.int 0))))
  (sret (cn (.str "dry")))
  skip)
  (ss (o2 Vr (o2 getD (vr 7) (vr 8)) (cn (.int 1))) (vr 7) (vr 8) Jo))
  skip)
  (sq (sif (tb (o2 neD (o2 getD (o2 getD (vr 3) (vr 9)) (cn (.int 0))) (cn (.str "end"))))
  (sq (sif (tb (o2 eqD (o2 getD (vr 7) (vr 9)) (o2 getD (o2 Gq (o2 getD (vr 3) (vr 9)) (tp (ac (cn (.int 1)) an))) (cn (.int 1)))))
  (sret (cn (.str "full")))
  skip)
  (ss (o2 Gq (o2 getD (vr 7) (vr 9)) (cn (.int 1))) (vr 7) (vr 9) Jo))
  skip)
  (sret (tp (ac (tp (ac (b1 Kv (ac (vr 7) an)) (ac (o2 getD (vr 1) (cn (.int 1))) (ac (o2 getD (vr 1) (cn (.int 2))) an)))) (ac (cn (.int 0)) (ac (cn (.int 0)) an)))))))))))))))
def Ho:Fn:=fnB 10 Hb
def Ghs:FnS ["_law_canal_here","_law_stand_here","_law_deed","_law_places","_law_gates","_law_word","_law_n","_law_levels","_law_up","_law_down"] ["_law_canal_here","_law_stand_here","_law_deed"] (Gb Gcf):=kdF
def Ggk(Al:All P w K mg base):Cal P w K mg base "_law_due" ["_law_canal_here","_law_stand_here","_law_deed"] Ho 2:=by
 have Sc:=Ghs
 have T:=Al.t
 refine calw (b:=Hb) 1 Al.h.h__law_due Al.g Sc rfl fun _ _ _ _ _ _ _ hr=>?_
 conv=>arg 3; whnf
 refine GSs.h ?_
 have:=Gex Al
 exact gx
def Hi:Sv:=(sq (sa (vr 1) (gt (gcons (gn 3) (gcons (gn 4) (gcons (gn 5) gnil))) 3))
  (sq (sa (tp (ac (vr 3) (ac (o2 Gq (tp (ac (cn (.int 1)) an)) (sl2 (vr 4) (osome (cn (.int 1))) onone)) (ac (o2 Gq (sl2 (vr 5) onone (osome (o1 Gbm (cn (.int 1))))) (tp (ac (cn (.int 1)) an))) an)))) (gn 6))
  (sq (sa (cl 3 (Gg Ho) (ac (vr 0) (ac (vr 6) (ac (vr 2) an)))) (gn 7))
  (sq (sif (tt (o1 (isD "str") (vr 7)))
  (sret (vr 7))
  skip)
  (sq (sa (o2 getD (vr 7) (cn (.int 0))) (gt (gcons (gn 3) (gcons (gn 4) (gcons (gn 5) gnil))) 3))
  (sret (o2 Gq (tp (ac (tp (ac (vr 3) (ac (o2 Gq (o2 Gq (tp (ac (cn (.int 0)) an)) (sl2 (vr 4) (osome (cn (.int 1))) (osome (o1 Gbm (cn (.int 1)))))) (tp (ac (cn (.int 0)) an))) (ac (o2 Gq (o2 Gq (tp (ac (cn (.int 0)) an)) (sl2 (vr 5) (osome (cn (.int 1))) (osome (o1 Gbm (cn (.int 1)))))) (tp (ac (cn (.int 0)) an))) an)))) an)) (sl2 (vr 7) (osome (cn (.int 1))) onone))))))))
def Hj:Fn:=fnB 8 Hi
def Gby:FnS ["_law_canal_here","_law_stand_here","_law_deed","_law_levels","_law_rights","_law_lefts","_law_waiting","_law_told"] ["_law_canal_here","_law_stand_here","_law_deed"] (Gb Uh):=kdF
abbrev z36:=Gb Uh
def Gba(Al:All P w K mg base):Cal P w K mg base "_law_open_due" ["_law_canal_here","_law_stand_here","_law_deed"] Hj 3:=by
 have Sc:=Gby
 have T:=Al.t
 refine calw (b:=Hi) 2 Al.h.h__law_open_due Al.g Sc rfl fun _ _ _ _ _ _ _ hr=>?_
 conv=>arg 3; whnf
 refine GSs.h ?_
 exact(Gi (Gbp (gw 1 Sc) (Ys rfl (Hk (ggw 3 Sc) (Hk (ggw 4 Sc) (Hk (ggw 5 Sc) We)))))
  (Gi (gsew 6 Sc (Ju (Ga (gw 3 Sc) (Ga (Qu (Ju (Ga ge_int BL Gf)) (Ue (gw 4 Sc) (Vh ge_int) Gas)) (Ga (Qu (Ue (gw 5 Sc) Gas (Vh (Gf5 ge_int))) (Ju (Ga ge_int BL Gf))) BL Xc) Xc) Ge)))
  (Gi (gsew 7 Sc (gow z36 (Ggk Al) hr (Ga (gw 0 Sc) (Ga (gw 6 Sc) (Ga (gw 2 Sc) BL Ge) Ge) Ge)))
  (Gi (Qp (Ug (Gae (gG z36) (gG z36) Gf2 T.b_isinstance T.b_str (gw 7 Sc)))
  (Go (Jk (gw 7 Sc)))
  Jg)
  (Gi (Gbp (Hn (gw 7 Sc) ge_int) (Ys rfl (Hk (ggw 3 Sc) (Hk (ggw 4 Sc) (Hk (ggw 5 Sc) We)))))
  (Go (Jk (Qu (Ju (Ga (Ju (Ga (gw 3 Sc) (Ga (Qu (Qu (Ju (Ga ge_int BL Gf)) (Ue (gw 4 Sc) (Vh ge_int) (Vh (Gf5 ge_int)))) (Ju (Ga ge_int BL Gf))) (Ga (Qu (Qu (Ju (Ga ge_int BL Gf)) (Ue (gw 5 Sc) (Vh ge_int) (Vh (Gf5 ge_int)))) (Ju (Ga ge_int BL Gf))) BL Xc) Xc) Ge)) BL Vs)) (Ue (gw 7 Sc) (Vh ge_int) Gas)))))))))
def Jb:Sv:=(sq (sa (cl 3 (Gg Hj) (ac (vr 0) (ac (vr 1) (ac (tp (ac (vr 3) (ac (vr 4) an))) an)))) (gn 5))
  (sif (tn (tt (o1 (isD "str") (vr 5))))
  (sx (mt Gf1 (vr 2) (ac (tp (ac (tp (ac (vr 3) (ac (vr 4) an))) (ac (vr 5) an))) an)))
  skip))
def Jx:Sv:=(sfor (ir1 (ac (b1 Hd (ac (o2 getD (vr 0) (cn (.int 0))) an)) an)) (gn 4) Jb)
def Vc:Sv:=(sq (sa (ls an) (gn 2))
  (sq (sfor (isrc (ls (ac (cn (.str "let")) (ac (cn (.str "feed")) (ac (cn (.str "right")) (ac (cn (.str "left")) an)))))) (gn 3) Jx)
  (sret (vr 2))))
def Ka:Fn:=fnB 6 Vc
def Gbz:FnS ["_law_canal_here","_law_stand_here","_law_found","_law_word","_law_n","_law_told"] ["_law_canal_here","_law_stand_here"] (Gb Ui):=kdF
abbrev z37:=Gb Ui
def Gbb(Al:All P w K mg base):Cal P w K mg base "_law_open_can" ["_law_canal_here","_law_stand_here"] Ka 4:=by
 have Sc:=Gbz
 have T:=Al.t
 refine calw (b:=Vc) 3 Al.h.h__law_open_can Al.g Sc rfl fun _ _ _ _ _ _ _ hr=>?_
 conv=>arg 3; whnf
 refine GSs.h ?_
 exact(Gi (gsew 2 Sc (Uf BL))
  (Gi (Gbq PassesOwn.never rfl (Gdn (Uf (Ga Hm (Ga Hm (Ga Hm (Ga Hm BL Gf) Gf) Gf) Gf))) (ggw 3 Sc)
  (Go (Gbq PassesOwn.never rfl (Vo (gG z37) T.b_range (Ga (Wm (gG z37) T.b_len (Ga (Hn (gw 0 Sc) ge_int) BL Gv)) BL Hr)) (ggw 4 Sc)
  (Gi (gsew 5 Sc (gow z37 (Gba Al) hr (Ga (gw 0 Sc) (Ga (gw 1 Sc) (Ga (Ju (Ga (gw 3 Sc) (Ga (gw 4 Sc) BL Ge) Ge)) BL Vs) Ge) Ge)))
  (Go (Qp (Xo (Ug (Gae (gG z37) (gG z37) Gf2 T.b_isinstance T.b_str (gw 5 Sc))))
  (Go (Gcx (Gbo (gw 2 Sc) (Ga (Ju (Ga (Ju (Ga (gw 3 Sc) (Ga (gw 4 Sc) BL Ge) Ge)) (Ga (gw 5 Sc) BL Ge) Vs)) BL Vs))))
  Jg))))))
  (Go (Jk (gw 2 Sc)))))
def Hf:Sv:=(sq (sa (mt0 Gix (vr 4)) (gn 5))
  (sif (tb (o2 (Gdp true) (vr 5) (vr 3)))
  (sq (ss (cl 2 (Gg Ka) (ac (vr 0) (ac (vr 5) an))) (vr 3) (vr 5) dsetD)
  (sq (sa (o2 Gq (vr 4) (cmp (isrc (o2 Yu (vr 3) (vr 5))) [none,none] (gt (gcons (gn 0) (gcons (gn 1) gnil)) 2) ttrue (o2 getD (vr 1) (cn (.int 0))))) (gn 4))
  (sif (tb (o2 gtD (b1 Ur (ac (vr 3) an)) (vr 2)))
  (sret (cn .non))
  skip)))
  skip))
def Hq:Ev Bool:=(tb (o2 neD (vr 4) (ls an)))
def Vd:Sv:=(sq (sa dnew (gn 3))
  (sq (sa (ls (ac (vr 1) an)) (gn 4))
  (sq (whN Hq Hf 6000)
  (sret (vr 3)))))
def Kb:Fn:=fnB 6 Vd
def Gb0:FnS ["_law_canal_here","_law_stand_here","_law_most","_law_found","_law_more","_law_now"] ["_law_canal_here","_law_stand_here","_law_most"] (Gb Xf):=kdF
def Gbc(Al:All P w K mg base):Cal P w K mg base "_law_open_met" ["_law_canal_here","_law_stand_here","_law_most"] Kb 5:=by
 have Sc:=Gb0
 have T:=Al.t
 refine calw (b:=Vd) 4 Al.h.h__law_open_met Al.g Sc rfl fun _ _ _ _ _ _ _ hr=>?_
 conv=>arg 3; whnf
 refine GSs.h ?_
 have:=Gbb Al
 have W1:=nn ["_law_deed","_law_told"]
 exact gx
def Ux:Sv:=(sq (sa (ls (ac (cn (.str "nogate")) (ac (cn (.str "dry")) (ac (cn (.str "full")) (ac (cn (.str "nospring")) (ac (cn (.str "nobarge")) (ac (cn (.str "noroom")) (ac (cn (.str "uneven")) (ac (cn (.str "shallow")) (ac (cn (.str "falls")) (ac (cn (.str "notext")) (ac (cn (.str "toomany")) (ac (cn (.str "noline")) an))))))))))))) (gn 1))
  (sq (sif (to (tb (o2 neD (b1 Hd (ac (vr 0) an)) (cn (.int 13)))) (to (tb (o2 neD (mt Giu (sl2 (vr 0) onone (osome (cn (.int 12)))) (ac (cn (.bl true)) an)) (cn (.int 1)))) (tn (tt (o2 getD (vr 0) (cn (.int 12)))))))
  (sret (cn (.str "unlike")))
  skip)
  (sret (o2 getD (vr 1) (mt Giv (vr 0) (ac (cn (.bl true)) an))))))
def Uy:Fn:=fnB 2 Ux
def Ggl:FnS ["_law_marks","_law_words_here"] ["_law_marks"] (Gb Xq):=kdF
abbrev z39:=Gb Xq
def Gey(Al:All P w K mg base):Cal P w K mg base "_law_name" ["_law_marks"] Uy 1:=by
 have Sc:=Ggl
 have T:=Al.t
 refine calw (b:=Ux) 0 Al.h.h__law_name Al.g Sc rfl fun _ _ _ _ _ _ _ hr=>?_
 conv=>arg 3; whnf
 refine GSs.h ?_
 exact(Gi (gsew 1 Sc (Uf (Ga Hm (Ga Hm (Ga Hm (Ga Hm (Ga Hm (Ga Hm (Ga Hm (Ga Hm (Ga Hm (Ga Hm (Ga Hm (Ga Hm BL Gf) Gf) Gf) Gf) Gf) Gf) Gf) Gf) Gf) Gf) Gf) Gf)))
  (Gi (Qp (GW.jt (Yr (Gar hr.units (Wm (gG z39) T.b_len (Ga (gw 0 Sc) BL Ge)) ge_int) (Yr (Gar hr.units (Gn9 (Ue (gw 0 Sc) Gas (Vh ge_int)) (Ga Yq BL Gf)) ge_int) (Gad (Xo (Ug (Hn (gw 0 Sc) ge_int)))))))
  (Go (Jk Hm))
  Jg)
  (Go (Jk (Hn (gw 1 Sc) (Goa (gw 0 Sc) (Ga Yq BL Gf)))))))
def Ub:Sv:=(sret (va (o1 (isD "int") (vr 0)) (vn (o1 (isD "bool") (vr 0)))))
def Vl:Fn:=fnB 1 Ub
def Gez:FnS ["_law_thing"] ["_law_thing"] (Gb Wr):=kdF
abbrev z40:=Gb Wr
def Gd2(Al:All P w K mg base):Cal P w K mg base "_law_whole" ["_law_thing"] Vl 1:=by
 have Sc:=Gez
 have T:=Al.t
 refine calw (b:=Ub) 0 Al.h.h__law_whole Al.g Sc rfl fun _ _ _ _ _ _ _ hr=>?_
 conv=>arg 3; whnf
 refine GSs.h ?_
 exact(Go (Jk (Goc (Gae (gG z40) (gG z40) Grq T.b_isinstance T.b_int (gw 0 Sc)) (God (Goe (Gae (gG z40) (gG z40) Gni T.b_isinstance T.b_bool (gw 0 Sc)))))))
def Qj:Sv:=(sif (tb (o2 eqD (vr 2) (cn (.int 0))))
  (sa (cl 2 (gX ys (Ghm 600 Jl)) (ac (vr 0) (ac (vr 1) an))) (gn 3))
  (sa (cl 3 (gX ys Jl) (ac (vr 0) (ac (vr 1) (ac (vr 2) an)))) (gn 3)))
def Qk:Sv:=(sq (sa (ls (ac (o1 (Kw ys ["NoGate"]) (vr 5)) (ac (o1 (Kw ys ["Dry"]) (vr 5)) (ac (o1 (Kw ys ["Full"]) (vr 5)) (ac (o1 (Kw ys ["NoSpring"]) (vr 5)) an))))) (gn 4))
  (sq (sa (o2 Gq (vr 4) (ls (ac (o1 (Kw ys ["NoBarge"]) (vr 5)) (ac (o1 (Kw ys ["NoRoom"]) (vr 5)) (ac (o1 (Kw ys ["Uneven"]) (vr 5)) an))))) (gn 4))
  (sq (sa (o2 Gq (vr 4) (ls (ac (o1 (Kw ys ["Shallow"]) (vr 5)) (ac (o1 (Kw ys ["Falls"]) (vr 5)) (ac (o1 (Kw ys ["NoText"]) (vr 5)) an))))) (gn 4))
  (sa (o2 Gq (vr 4) (ls (ac (o1 (Kw ys ["TooMany"]) (vr 5)) (ac (o1 (Kw ys ["NoLine"]) (vr 5)) (ac (o1 (Kw ys ys) (vr 5)) an))))) (gn 4)))))
def Xt:Sv:=(sq (sa (cn .non) (gn 3))
  (sq (sa (ls an) (gn 4))
  (sq (Xd ys (hdl 5 Qk) Qj)
  (sq (sif (tb (o2 neD (vr 4) (ls an)))
  (sret (cl 1 (Gg Uy) (ac (vr 4) an)))
  skip)
  (sret (vr 3))))))
def Qn:Fn:=fnB 6 Xt
def Ght:FnS ["_law_canal_here","_law_stand_here","_law_limit","_law_found","_law_marks","e"] ["_law_canal_here","_law_stand_here","_law_limit"] (Gb Zd):=kdF
abbrev z41:=Gb Zd
def Hb8:OkC z41 "e":=⟨by decide +kernel⟩
def Gbd(Al:All P w K mg base):Cal P w K mg base "_law_did" ["_law_canal_here","_law_stand_here","_law_limit"] Qn 10:=by
 have Sc:=Ght
 have T:=Al.t
 refine calw (b:=Xt) 9 Al.h.h__law_did Al.g Sc rfl fun _ _ _ _ _ _ _ hr=>?_
 conv=>arg 3; whnf
 refine GSs.h ?_
 exact(Gi (gsew 3 Sc Gf4)
  (Gi (gsew 4 Sc (Uf BL))
  (Gi (Gsh 5 ⟨rfl,rfl,rfl⟩ T.xt.cat (gG z41) Zy Sc.nd Hb8 (fun pn xe XQ L=>(Go (Qp (Gju hr.units (gw 2 Sc) ge_int)
  (Go (gsew 3 Sc (Hbz z41 T.xt.xns L (Ga8 Al) hr (Ga (gw 0 Sc) (Ga (gw 1 Sc) BL Ge) Ge))))
  (Go (gsew 3 Sc (Gsk z41 T.xt.xns L (Ga8 Al).x hr (Ga (gw 0 Sc) (Ga (gw 1 Sc) (Ga (gw 2 Sc) BL Ge) Ge) Ge)))))))
  (fun a=>(Gi (gsew 4 Sc (Uf (Ga (Va z41 (T.xt.isx "NoGate" (by decide +kernel)) T.b_isinstance (gw 5 Sc)) (Ga (Va z41 (T.xt.isx "Dry" (by decide +kernel)) T.b_isinstance (gw 5 Sc)) (Ga (Va z41 (T.xt.isx "Full" (by decide +kernel)) T.b_isinstance (gw 5 Sc)) (Ga (Va z41 (T.xt.isx "NoSpring" (by decide +kernel)) T.b_isinstance (gw 5 Sc)) BL Hr) Hr) Hr) Hr)))
  (Gi (gsew 4 Sc (Qu (gw 4 Sc) (Uf (Ga (Va z41 (T.xt.isx "NoBarge" (by decide +kernel)) T.b_isinstance (gw 5 Sc)) (Ga (Va z41 (T.xt.isx "NoRoom" (by decide +kernel)) T.b_isinstance (gw 5 Sc)) (Ga (Va z41 (T.xt.isx "Uneven" (by decide +kernel)) T.b_isinstance (gw 5 Sc)) BL Hr) Hr) Hr))))
  (Gi (gsew 4 Sc (Qu (gw 4 Sc) (Uf (Ga (Va z41 (T.xt.isx "Shallow" (by decide +kernel)) T.b_isinstance (gw 5 Sc)) (Ga (Va z41 (T.xt.isx "Falls" (by decide +kernel)) T.b_isinstance (gw 5 Sc)) (Ga (Va z41 (T.xt.isx "NoText" (by decide +kernel)) T.b_isinstance (gw 5 Sc)) BL Hr) Hr) Hr))))
  (Go (gsew 4 Sc (Qu (gw 4 Sc) (Uf (Ga (Va z41 (T.xt.isx "TooMany" (by decide +kernel)) T.b_isinstance (gw 5 Sc)) (Ga (Va z41 (T.xt.isx "NoLine" (by decide +kernel)) T.b_isinstance (gw 5 Sc)) (Ga (Gyn z41 T.xt.val T.b_isinstance T.b_ValueError (gw 5 Sc)) BL Hr) Hr) Hr))))))))))
  (Gi (Qp (Gar hr.units (gw 4 Sc) (Uf BL))
  (Go (Jk (gow z41 (Gey Al) hr (Ga (gw 4 Sc) BL Ge))))
  Jg)
  (Go (Jk (gw 3 Sc)))))))
def Jy:Sv:=(sq (sif (to (tn (tt (o1 (isD "tuple") (vr 5)))) (to (tb (o2 neD (b1 Hd (ac (vr 5) an)) (cn (.int 3)))) (tb (o2 (Gdp true) (o2 getD (vr 5) (cn (.int 0))) (vr 1)))))
  (sret (cn (.bl false)))
  skip)
  (sq (ss (cn (.bl true)) (vr 3) (o2 getD (vr 5) (cn (.int 0))) dsetD)
  (sif (tb (o2 eqD (vr 4) (cn (.int 0))))
  (sif (tb (o2 neD (b1 Qt (ac (vr 5) an)) (b1 Qt (ac (tp (ac (vr 0) (ac (cn .non) (ac (cn .non) an)))) an))))
  (sret (cn (.bl false)))
  skip)
  (sq (sif (to (tn (tt (cl 1 (Gg Vl) (ac (o2 getD (vr 5) (cn (.int 1))) an)))) (to (tb (o2 ltD (o2 getD (vr 5) (cn (.int 1))) (cn (.int 0)))) (tb (o2 geD (o2 getD (vr 5) (cn (.int 1))) (vr 4)))))
  (sret (cn (.bl false)))
  skip)
  (sq (sa (cmp (isrc (o2 Yu (vr 1) (o2 getD (o2 getD (vr 2) (o2 getD (vr 5) (cn (.int 1)))) (cn (.int 0))))) [none,none,some 5] (gt (gcons (gn 0) (gcons (gn 1) gnil)) 2) (tb (o2 eqD (b1 Qt (ac (vr 0) an)) (b1 Qt (ac (o2 getD (vr 2) (cn (.int 2))) an)))) (o2 getD (vr 1) (cn (.int 0)))) (gn 6))
  (sif (tb (o2 neD (b1 Qt (ac (vr 6) an)) (b1 Qt (ac (ls (ac (o2 getD (vr 5) (cn (.int 0))) an)) an))))
  (sret (cn (.bl false)))
  skip))))))
def Ve:Sv:=(sq (sif (to (tn (tt (o1 (isD "list") (vr 2)))) (tb (o2 neD (b1 Hd (ac (vr 2) an)) (b1 Ur (ac (vr 1) an)))))
  (sret (cn (.bl false)))
  skip)
  (sq (sa dnew (gn 3))
  (sq (sfor (Gdi (ac (vr 2) an)) (gt (gcons (gn 4) (gcons (gn 5) gnil)) 2) Jy)
  (sret (o2 eqD (b1 Ur (ac (vr 3) an)) (b1 Ur (ac (vr 1) an)))))))
def Kc:Fn:=fnB 7 Ve
def Gb1:FnS ["_law_stand_here","_law_own","_law_found","_law_known","_law_k","_law_one","_law_told"] ["_law_stand_here","_law_own","_law_found"] (Gb Uj):=kdF
abbrev z42:=Gb Uj
def Wi(Al:All P w K mg base):Cal P w K mg base "_law_is_right" ["_law_stand_here","_law_own","_law_found"] Kc 2:=by
 have Sc:=Gb1
 have T:=Al.t
 refine calw (b:=Ve) 1 Al.h.h__law_is_right Al.g Sc rfl fun _ _ _ _ _ _ _ hr=>?_
 conv=>arg 3; whnf
 refine GSs.h ?_
 exact(Gi (Qp (GW.jt (Yr (Xo (Ug (Gae (gG z42) (gG z42) Gnj T.b_isinstance T.b_list (gw 2 Sc)))) (Gad (Gar hr.units (Wm (gG z42) T.b_len (Ga (gw 2 Sc) BL Ge)) (Gau (gG z42) T.b_len (Ga (gw 1 Sc) BL Ge))))))
  (Go (Jk Yq))
  Jg)
  (Gi (gsew 3 Sc Gjz)
  (Gi (Gbq PassesOwn.never rfl (Ghf (gG z42) T.b_enumerate (Ga (gw 2 Sc) BL Ge)) (Ys rfl (Hk (ggw 4 Sc) (Hk (ggw 5 Sc) We)))
  (Gi (Qp (GW.jt (Yr (Xo (Ug (Gae (gG z42) (gG z42) Glo T.b_isinstance T.b_tuple (gw 5 Sc)))) (Yr (Gar hr.units (Wm (gG z42) T.b_len (Ga (gw 5 Sc) BL Ge)) ge_int) (Gad (Gor hr (Hn (gw 5 Sc) ge_int) (gw 1 Sc))))))
  (Go (Jk Yq))
  Jg)
  (Gi (Gj0 hr Yq (gw 3 Sc) (Hn (gw 5 Sc) ge_int))
  (Go (Qp (Gju hr.units (gw 4 Sc) ge_int)
  (Go (Qp (Gar hr.units (Xn hr (gG z42) T.b_repr (Ga (gw 5 Sc) BL Ge)) (Xn hr (gG z42) T.b_repr (Ga (Ju (Ga (gw 0 Sc) (Ga Gf4 (Ga Gf4 BL Gf) Gf) Ge)) BL Vs)))
  (Go (Jk Yq))
  Jg))
  (Gi (Qp (GW.jt (Yr (Xo (Ug (gow z42 (Gd2 Al) hr (Ga (Hn (gw 5 Sc) ge_int) BL Gv)))) (Yr (Gog (Hn (gw 5 Sc) ge_int) ge_int) (Gad (Gus (Hn (gw 5 Sc) ge_int) (gw 4 Sc))))))
  (Go (Jk Yq))
  Jg)
  (Gi (Gfa 6 (N':=["_law_deed","_law_more","_law_one"]) (pk:=[none,none,some 5]) Sc (Gdn (Gjy hr (gw 1 Sc) (Hn (Hn (gw 2 Sc) (Hn (gw 5 Sc) ge_int)) ge_int))) (fun cl s2 H2 C fp=>(Ys rfl (Hk (Gdo 0) (Hk (Gdo 1) We)))) (fun cl s2 H2 C fp=>(Gjv (Gju hr.units (Xn hr glB_w T.b_repr (Ga (Gcd 0) BL Ge)) (Xn hr glB_w T.b_repr (Ga (Hn (Gcd 2) ge_int) BL Gv))))) (fun cl s2 H2 C fp=>(Hn (Gcd 1) ge_int)))
  (Go (Qp (Gar hr.units (Xn hr (gG z42) T.b_repr (Ga (gw 6 Sc) BL Ge)) (Xn hr (gG z42) T.b_repr (Ga (Uf (Ga (Hn (gw 5 Sc) ge_int) BL Gv)) BL Gjo)))
  (Go (Jk Yq))
  Jg)))))))))
  (Go (Jk (Guq hr.units (Gau (gG z42) T.b_len (Ga (gw 3 Sc) BL Ge)) (Gau (gG z42) T.b_len (Ga (gw 1 Sc) BL Ge))))))))
def Xi:Sv:=(sif (tb (o2 gtD (vr 6) (cn (.int 0))))
  (sq (sa (cl 3 (Gg Qn) (ac (vr 2) (ac (vr 3) (ac (vr 6) an)))) (gn 7))
  (sif (tb (o2 ltD (vr 6) (vr 5)))
  (sif (tb (o2 neD (vr 7) (cn (.str "toomany"))))
  (sret (cn (.bl false)))
  skip)
  (sif (to (tt (o1 (isD "str") (vr 7))) (tn (tt (cl 3 (Gg Kc) (ac (vr 3) (ac (vr 4) (ac (vr 7) an)))))))
  (sret (cn (.bl false)))
  skip)))
  skip)
def Gov:Sv:=(sq (sa (cl 1 (Gg Wh) (ac (vr 0) an)) (gn 1))
  (sq (sa (cl 1 (Gg Hv) (ac (vr 1) an)) (gt (gcons (gn 2) (gcons (gn 3) gnil)) 2))
  (sq (sa (cl 3 (Gg Kb) (ac (vr 2) (ac (vr 3) (ac (cn (.int 300)) an)))) (gn 4))
  (sq (sa (b1 Ur (ac (vr 4) an)) (gn 5))
  (sq (sfor (isrc (ls (ac (vr 5) (ac (o2 Vr (vr 5) (cn (.int 1))) (ac (cl 2 (Gg Gh) (ac (vr 1) (ac (vr 5) an))) an))))) (gn 6) Xi)
  (sret (cl 3 (Gg Kc) (ac (vr 3) (ac (vr 4) (ac (cl 3 (Gg Qn) (ac (vr 2) (ac (vr 3) (ac (cn (.int 0)) an)))) an))))))))))
def Gch:Fn:=fnB 8 Gov
def Gys:FnS ["_law_script","_law_tape_here","_law_canal_here","_law_stand_here","_law_own","_law_many","_law_limit","_law_found"] ["_law_script"] (Gb Gds):=kdF
abbrev z43:=Gb Gds
def Gsw(Al:All P w K mg base){f:BI}{fd:FuncData}(F:Fun K "law" "law" Gds f fd):FnOk P w K mg base CX0 11 f fd ["_law_script"] (spD K 1 Gch):=by
 have Sc:=Gys
 have T:=Al.t
 refine Gt8 (b:=Gov) F Sc.s fun cdv A outer s H E hr=>?_
 conv=>arg 3; whnf
 refine GSs.h ?_
 exact(Gi (gsew 1 Sc (gow z43 (Gew Al) hr (Ga (gw 0 Sc) BL Ge)))
  (Gi (Gbp (gow z43 (Zt Al) hr (Ga (gw 1 Sc) BL Ge)) (Ys rfl (Hk (ggw 2 Sc) (Hk (ggw 3 Sc) We))))
  (Gi (gsew 4 Sc (gow z43 (Gbc Al) hr (Ga (gw 2 Sc) (Ga (gw 3 Sc) (Ga ge_int BL Gf) Ge) Ge)))
  (Gi (gsew 5 Sc (Gau (gG z43) T.b_len (Ga (gw 4 Sc) BL Ge)))
  (Gi (Gbq PassesOwn.never rfl (Gdn (Uf (Ga (gw 5 Sc) (Ga (Gob (gw 5 Sc) ge_int) (Ga (gow z43 (Ww Al) hr (Ga (gw 1 Sc) (Ga (gw 5 Sc) BL Ge) Ge)) BL Hr) Xc) Ge))) (ggw 6 Sc)
  (Go (Qp (Gur (gw 6 Sc) ge_int)
  (Gi (gsew 7 Sc (gow z43 (Gbd Al) hr (Ga (gw 2 Sc) (Ga (gw 3 Sc) (Ga (gw 6 Sc) BL Ge) Ge) Ge)))
  (Go (Qp (Gog (gw 6 Sc) (gw 5 Sc))
  (Go (Qp (Gar hr.units (gw 7 Sc) Hm)
  (Go (Jk Yq))
  Jg))
  (Go (Qp (GW.jt (Yr (Ug (Gae (gG z43) (gG z43) Gf2 T.b_isinstance T.b_str (gw 7 Sc))) (Gad (Xo (Ug (gow z43 (Wi Al) hr (Ga (gw 3 Sc) (Ga (gw 4 Sc) (Ga (gw 7 Sc) BL Ge) Ge) Ge)))))))
  (Go (Jk Yq))
  Jg)))))
  Jg)))
  (Go (Jk (gow z43 (Wi Al) hr (Ga (gw 3 Sc) (Ga (gw 4 Sc) (Ga (gow z43 (Gbd Al) hr (Ga (gw 2 Sc) (Ga (gw 3 Sc) (Ga ge_int BL Gf) Ge) Ge)) BL Hr) Ge) Ge)))))))))
end
def Gyt{l:PySem.W.OpenLaw}{w:World}{K:BE}{h:Heap}{mg:Str->BJ BG}{fa:BI}(X:K.In h)(G:h.Ns mainGlobals mg)(hfa:mg "law"=some (.ref fa))(HS:Hs K)
  {kp_CHAMBER:BI} {kt_CHAMBER:Tok} {kn_CHAMBER:Nat} {ks_CHAMBER:Array (BJ BG)} (ka_CHAMBER:PySem.W.nsIn K mainGlobals "CHAMBER"=some (some (.ref kp_CHAMBER))) (kl_CHAMBER:K.lookup kp_CHAMBER=some { cls:=.type "tuple",dict:=none,data:=.seq #[.str "chamber" kt_CHAMBER] kn_CHAMBER,slots:=ks_CHAMBER })
  {kp_END:BI} {kt_END:Tok} {kn_END:Nat} {ks_END:Array (BJ BG)} (ka_END:PySem.W.nsIn K mainGlobals "END"=some (some (.ref kp_END))) (kl_END:K.lookup kp_END=some { cls:=.type "tuple",dict:=none,data:=.seq #[.str "end" kt_END] kn_END,slots:=ks_END })
  {kt_UP:Tok} (ka_UP:PySem.W.nsIn K mainGlobals "UP"=some (some (.str "up" kt_UP)))
  {cc_SummitError:BI} (ca_SummitError:PySem.W.nsIn K mainGlobals "SummitError"=some (some (.ref cc_SummitError)))
  {cc_NoGate:BI} (ca_NoGate:PySem.W.nsIn K mainGlobals "NoGate"=some (some (.ref cc_NoGate)))
  {cc_Dry:BI} (ca_Dry:PySem.W.nsIn K mainGlobals "Dry"=some (some (.ref cc_Dry)))
  {cc_Full:BI} (ca_Full:PySem.W.nsIn K mainGlobals "Full"=some (some (.ref cc_Full)))
  {cc_NoSpring:BI} (ca_NoSpring:PySem.W.nsIn K mainGlobals "NoSpring"=some (some (.ref cc_NoSpring)))
  {cc_NoBarge:BI} (ca_NoBarge:PySem.W.nsIn K mainGlobals "NoBarge"=some (some (.ref cc_NoBarge)))
  {cc_NoRoom:BI} (ca_NoRoom:PySem.W.nsIn K mainGlobals "NoRoom"=some (some (.ref cc_NoRoom)))
  {cc_Uneven:BI} (ca_Uneven:PySem.W.nsIn K mainGlobals "Uneven"=some (some (.ref cc_Uneven)))
  {cc_Shallow:BI} (ca_Shallow:PySem.W.nsIn K mainGlobals "Shallow"=some (some (.ref cc_Shallow)))
  {cc_Falls:BI} (ca_Falls:PySem.W.nsIn K mainGlobals "Falls"=some (some (.ref cc_Falls)))
  {cc_NoText:BI} (ca_NoText:PySem.W.nsIn K mainGlobals "NoText"=some (some (.ref cc_NoText)))
  {cc_TooMany:BI} (ca_TooMany:PySem.W.nsIn K mainGlobals "TooMany"=some (some (.ref cc_TooMany)))
  {cc_NoLine:BI} (ca_NoLine:PySem.W.nsIn K mainGlobals "NoLine"=some (some (.ref cc_NoLine)))
  (xtb:Gn5 K cc_SummitError [("NoGate",cc_NoGate),("Dry",cc_Dry),("Full",cc_Full),("NoSpring",cc_NoSpring),("NoBarge",cc_NoBarge),("NoRoom",cc_NoRoom),("Uneven",cc_Uneven),("Shallow",cc_Shallow),("Falls",cc_Falls),("NoText",cc_NoText),("TooMany",cc_TooMany),("NoLine",cc_NoLine)] [("NoGate",cc_NoGate),("Dry",cc_Dry),("Full",cc_Full),("NoSpring",cc_NoSpring),("NoBarge",cc_NoBarge),("NoRoom",cc_NoRoom),("Uneven",cc_Uneven),("Shallow",cc_Shallow),("Falls",cc_Falls),("NoText",cc_NoText),("TooMany",cc_TooMany),("NoLine",cc_NoLine)]=true)
  {fi:BI} {odI anI:BJ BI} {slI:Array (BJ BG)} {kVI dcI pmI cdI ctI:BG} (iI:PySem.W.findIn K (.ref cc_SummitError) "__init__"=some (some (.ref fi))) (lI:K.lookup fi=some ⟨.type "function",odI,.func (PySem.W.fnOf "__init__" "SummitError.__init__" (Hx Uo) (Gy Uo) (Gb Uo) .none kVI dcI pmI anI cdI ctI),slI⟩) (cI:PySem.W.codeIn K cdI "SummitError.__init__"=true) (kI:PySem.W.keepIn K (.ref fi)=true)
  (cx_Dry:Gdm K cc_Dry fi=true)
  (cx_Full:Gdm K cc_Full fi=true)
  (cx_NoBarge:Gdm K cc_NoBarge fi=true)
  (cx_NoGate:Gdm K cc_NoGate fi=true)
  (cx_NoRoom:Gdm K cc_NoRoom fi=true)
  (cx_NoSpring:Gdm K cc_NoSpring fi=true)
  (cx_Shallow:Gdm K cc_Shallow fi=true)
  (cx_TooMany:Gdm K cc_TooMany fi=true)
  (cx_Uneven:Gdm K cc_Uneven fi=true)
  : ∃ fd:FuncData,(∀ (s:BH) (v:BG),BindsTo s fd ⟨[v],[]⟩ [("_law_script",v)])/\∀ base:Heap,K.In base->base.Ns mainGlobals mg->FnOk l.prog w K mg base CX0 11 fa fd ["_law_script"] (spD K 1 Gch):=by
 obtain⟨_,_,_,_,_,_,_,_,_,k_law,c_law,l_law⟩:=HS.h_law.fnx X G hfa
 have F:=Gfs (st:=Gds) l_law c_law k_law
 have T:Txt K mg:=⟨PySem.W.mg_none_of X G HS.z_ValueError,PySem.W.mg_none_of X G HS.z_bool,PySem.W.mg_none_of X G HS.z_enumerate,PySem.W.mg_none_of X G HS.z_int,PySem.W.mg_none_of X G HS.z_isinstance,PySem.W.mg_none_of X G HS.z_len,PySem.W.mg_none_of X G HS.z_list,PySem.W.mg_none_of X G HS.z_range,PySem.W.mg_none_of X G HS.z_repr,PySem.W.mg_none_of X G HS.z_str,PySem.W.mg_none_of X G HS.z_tuple,Gon X G ka_CHAMBER kl_CHAMBER,Gon X G ka_END kl_END,Gsj X G ka_UP,HS.h_open_done.fv X G,Hbo X G ca_SummitError xtb⟩
 have hVE:mg "ValueError"=none:=PySem.W.mg_none_of X G HS.z_ValueError
 have ini:∀ base:Heap,IniX l.prog w K mg base fi 1:=fun base=>ini_mk (st:=Uo) lI cI kI sc_init (Glv hVE) (fun _ _ _ _ _ _ us hl=>match us,hl with | [_,_],_=>rfl)
 exact⟨_,fun s v=>.of_eq rfl,fun base _ _=>Gsw ⟨HS,⟨h,X,G⟩,T,Xm X G (ini base) ca_Dry cx_Dry,Xm X G (ini base) ca_Full cx_Full,Xm X G (ini base) ca_NoBarge cx_NoBarge,Xm X G (ini base) ca_NoGate cx_NoGate,Xm X G (ini base) ca_NoRoom cx_NoRoom,Xm X G (ini base) ca_NoSpring cx_NoSpring,Xm X G (ini base) ca_Shallow cx_Shallow,Xm X G (ini base) ca_TooMany cx_TooMany,Xm X G (ini base) ca_Uneven cx_Uneven⟩ F⟩
end Law
namespace WM
noncomputable def stp(b l d:Int):Int:=min b (l+d)
def F(b:Int)(ds:List Int)(x:Int):Int:=ds.foldl (stp b) x
def AP(ds:List Int)(x:Int):Prop:=∀ j,1<=j->j<=ds.length->0<=x+(ds.take j).sum
inductive R where
 | dry (k:Nat) | lev (l:Int)
noncomputable def R.bind(o:R)(g:Int->R):R:=match o with
 | .dry k=>.dry k
 | .lev l=>g l
def wl(b:Int):List Int->Nat->Int->R
 | [],_,x=>.lev x
 | d::r,k,x=>if stp b x d<0 then .dry k else wl b r (k+1) (stp b x d)
def most(b:Int)(ds:List Int):Int:=F b ds.tail b
noncomputable def start(ds:List Int)(mn:Int):Int:=max 0 (-mn)
structure IsMin(ds:List Int)(mn:Int):Prop where
 le:∀ j,1<=j->j<=ds.length->mn<=(ds.take j).sum
 at':∃ j,1<=j/\j<=ds.length/\mn=(ds.take j).sum
end WM
namespace DL
open PySem PySem.Spec PyProof.Rows L2
variable{d:D}{f fa:Ev D}{k:Nat}
section
variable{U:Lc}{S:Sto}{O β:Type}
@[simp] def Gz{a:O}{g:O->Sto->Out β}:(Out.ok a S).bind g=g a S:=id rfl
@[simp] def Hb9{g:O->Sto->Out β}:(Out.bad:Out O).bind g=.bad:=id rfl
@[simp] def Hl{a:O}{g:O->Sto->OS}:bindS (Out.ok a S) U g=g a S:=id rfl
@[simp] def Gz6{g:O->Sto->OS}:bindS (Out.bad:Out O) U g=.bad:=id rfl
@[simp] def Gd3{i:Nat}:vr i U S=match U[i]? with
 | some (some d)=>.ok d S
 | _=>.bad:=id rfl
@[simp] def Gd4:cn d U S=.ok d S:=id rfl
@[simp] def Ghu:an U S=.ok [] S:=id rfl
@[simp] def Gfe{g:Ev (List D)}:ac f g U S=(f U S).bind fun x S1=>(g U S1).bind fun xs S2=>.ok (x::xs) S2:=id rfl
@[simp] def Ye{o:D->D->Sto->Out D}{fb:Ev D}:o2 o fa fb U S=(fa U S).bind fun x S1=>(fb U S1).bind fun y S2=>o x y S2:=id rfl
@[simp] def Heu{o:D->Sto->Out D}:o1 o fa U S=(fa U S).bind fun x S1=>o x S1:=id rfl
@[simp] def Gow{o:List D->Sto->Out D}{f:Ev (List D)}:b1 o f U S=(f U S).bind o:=id rfl
@[simp] def Gut{n:Nat}{fn:Fn}{t:Ev (List D)}:cl n fn t U S=(t U S).bind fun ds S1=>if ds.length=n then fn ds S1 else .bad:=id rfl
@[simp] def Ghv{fn:Fn}{ds:List D}:Gg fn ds S=match fn ds S with
 | .ok d S'=>.ok d S'
 | _=>.bad:=id rfl
@[simp] def Ghw:tb f U S=(f U S).bind fun x S1=>match x with
 | .bl b=>.ok b S1
 | _=>.bad:=id rfl
@[simp] def Hca:tt f U S=(f U S).bind fun x S1=>match Vp x S1 with
 | some b=>.ok b S1
 | none=>.bad:=id rfl
@[simp] def Hev{f:Ev Bool}:tn f U S=(f U S).bind fun b S1=>.ok (!b) S1:=id rfl
@[simp] def Guu{f g:Ev Bool}:ta f g U S=(f U S).bind fun b S1=>if b=true then g U S1 else .ok false S1:=id rfl
@[simp] def Hcb{f g:Ev Bool}:to f g U S=(f U S).bind fun b S1=>if b=true then .ok true S1 else g U S1:=id rfl
@[simp] def Hew{g:Ev D}:va f g U S=(f U S).bind fun x S1=>match x with
 | .bl b=>if b=true then g U S1 else .ok (.bl false) S1
 | _=>.bad:=id rfl
@[simp] def Hex{g:Ev D}:vo f g U S=(f U S).bind fun x S1=>match x with
 | .bl b=>if b=true then .ok (.bl true) S1 else g U S1
 | _=>.bad:=id rfl
@[simp] def Hey:vn f U S=(f U S).bind fun x S1=>match x with
 | .bl b=>.ok (.bl (!b)) S1
 | _=>.bad:=id rfl
@[simp] def Hez{c:Ev Bool}{g:Ev D}:ie c f g U S=(c U S).bind fun b S1=>if b=true then f U S1 else g U S1:=id rfl
@[simp] def Hcc{f:Ev (List D)}:tp f U S=(f U S).bind fun xs S1=>if xs.length<=1000000 then .ok (.tup xs) S1 else .bad:=id rfl
@[simp] def Hcd{f:Ev (List D)}:ls f U S=(f U S).bind fun xs S1=>if xs.length<=1000000 then .ok (.lst S1.length) (S1++[⟨false,xs⟩]) else .bad:=id rfl
@[simp] def Hef{fe:Ev D}{fl fh:Ev (BJ Int)}:sl2 fe fl fh U S=(fe U S).bind fun x S1=>(fl U S1).bind fun l S2=>(fh U S2).bind fun u S3=>Gco x l u S3:=id rfl
@[simp] def Hce:onone U S=.ok none S:=id rfl
@[simp] def Hcf:osome f U S=(f U S).bind fun x S1=>match x with
 | .int i=>.ok (some i) S1
 | _=>.bad:=id rfl
@[simp] def He0{o:D->List D->Sto->Out D}{fo:Ev D}{f:Ev (List D)}:mt o fo f U S=(fo U S).bind fun x S1=>if isLst x S1=true then(f U S1).bind fun xs S2=>o x xs S2 else .bad:=id rfl
@[simp] def He1{o o':D->D->Sto->Out D}{fb fc:Ev D}:ch o o' fa fb fc U S=(fa U S).bind fun x S1=>(fb U S1).bind fun y S2=>(o x y S2).bind fun z S3=>match z with
 | .bl b=>if b=true then(fc U S3).bind fun w S4=>o' y w S4 else .ok (.bl false) S3
 | _=>.bad:=id rfl
@[simp] def Gci{f g:Sv}:sq f g U S=match f U S with
 | .nx U' S'=>g U' S'
 | .rt d S'=>.rt d S'
 | .bk U' S'=>.bk U' S'
 | .ct U' S'=>.ct U' S'
 | .exc x U' S'=>.exc x U' S'
 | .bad=>.bad:=id rfl
@[simp] def Uc{g:Tg}:sa f g U S=bindS (f U S) U fun d S1=>match g d U with
 | some U'=>.nx U' S1
 | none=>.bad:=id rfl
@[simp] def Hcg{i:Nat}:gn i d U=some (U.set i (some d)):=id rfl
@[simp] def Ggm:sret f U S=bindS (f U S) U fun d S1=>.rt d S1:=id rfl
@[simp] def Gox{c:Ev Bool}{f g:Sv}:sif c f g U S=bindS (c U S) U fun b S1=>if b=true then f U S1 else g U S1:=id rfl
@[simp] def He2:sx f U S=bindS (f U S) U fun _ S1=>.nx U S1:=id rfl
@[simp] def Hdc:skip U S=.nx U S:=id rfl
@[simp] def He3{fo fi:Ev D}{o:D->D->D->Sto->BJ Sto}:ss f fo fi o U S=bindS (f U S) U fun d S1=>bindS (fo U S1) U fun x S2=>bindS (fi U S2) U fun y S3=>match o x y d S3 with
 | some S4=>.nx U S4
 | none=>.bad:=id rfl
@[simp] def Heg{i:Nat}{g:Int->Int->Int}:sag i g f U S=match U[i]? with
 | some (some (.int a))=>bindS (f U S) U fun d S1=>match d with
  | .int b=>.nx (U.set i (some (.int (g a b)))) S1
  | _=>.bad
 | _=>.bad:=id rfl
@[simp] def Xu:isrc f U S=(f U S).bind Gjm:=id rfl
@[simp] def Wj{f:Ev Src}{g:Tg}{b:Sv}:sfor f g b U S=bindS (f U S) U fun s S1=>Qe s.nxt g b s.fuel 0 U S1:=id rfl
section
variable{i j:Int}
@[simp] def Gyu:Gq (.int i) (.int j) S=.ok (.int (i+j)) S:=id rfl
@[simp] def Heh:Vr (.int i) (.int j) S=.ok (.int (i-j)) S:=id rfl
@[simp] def He4:Gbm (.int i) S=.ok (.int (-i)) S:=id rfl
def Guv(h1 : -(2^64)<j)(h2:j<2^64):Kf (.int i) (.int j) S=.ok (.int (i*j)) S:=by
 show(if(-(2^64)<i/\i<2^64)\/(-(2^64)<j/\j<2^64) then Out.ok (D.int (i*j)) S else .bad)=_
 rw[if_pos (.inr ⟨h1,h2⟩)]
def Gff(h1 : -(2^64)<i)(h2:i<2^64):Kf (.int i) (.int j) S=.ok (.int (i*j)) S:=by
 show(if(-(2^64)<i/\i<2^64)\/(-(2^64)<j/\j<2^64) then Out.ok (D.int (i*j)) S else .bad)=_
 rw[if_pos (.inl ⟨h1,h2⟩)]
def Gb2(h:0<j):Xl (.int i) (.int j) S=.ok (.int (i%j)) S:=by
 show(if decide (0<j)=true then Out.ok (D.int (i%j)) S else .bad)=_
 rw[if_pos (by simpa using h)]
def Gi3(h:0<j)(h2:j<2^200):Gao (.int i) (.int j) S=.ok (.int (i / j)) S:=by
 show(if decide (0<j/\j<2^200)=true then Out.ok (D.int (i / j)) S else .bad)=_
 rw[if_pos (decide_eq_true ⟨h,h2⟩)]
def Gi4{n:Nat}(h:(n:Int)<=1000000)(h2:i.natAbs<2^64):Gfz (.int i) (.int n) S=.ok (.int (i^n)) S:=by
 show(if decide (0<=(n:Int)/\(n:Int)<=1000000/\i.natAbs<2^64)=true then Out.ok (D.int (i^(n:Int).toNat)) S else .bad)=_
 rw[if_pos (decide_eq_true ⟨by omega,h,h2⟩)]
 rfl
@[simp] def He5:Gfz (.int 10) (.int 6) S=.ok (.int 1000000) S:=Gi4 (n:=6) (by decide) (by decide)
@[simp] def Hei:Gfz (.int 10) (.int 15) S=.ok (.int 1000000000000000) S:=Gi4 (n:=15) (by decide) (by decide)
@[simp] def Hej:Gfz (.int 10) (.int 18) S=.ok (.int 1000000000000000000) S:=Gi4 (n:=18) (by decide) (by decide)
@[simp] def He6:ltD (.int i) (.int j) S=.ok (.bl (decide (i<j))) S:=id rfl
@[simp] def He7:leD (.int i) (.int j) S=.ok (.bl (decide (i<=j))) S:=id rfl
@[simp] def He8:gtD (.int i) (.int j) S=.ok (.bl (decide (j<i))) S:=id rfl
@[simp] def He9:geD (.int i) (.int j) S=.ok (.bl (decide (j<=i))) S:=id rfl
@[simp] def Hek:Hd0 [.int i,.int j] S=.ok (.int (min i j)) S:=by
 show Out.ok (D.int (if j<i then j else i)) S=_
 congr 2
 omega
@[simp] def Hel:Hd4 [.int i,.int j] S=.ok (.int (max i j)) S:=by
 show Out.ok (D.int (if j>i then j else i)) S=_
 congr 2
 omega
@[simp] def Guw:eqD (.int i) (.int j) S=.ok (.bl (decide (i=j))) S:=by
 simp only[eqD,toP]
 simp[SeqAt.shaped,PyData.eqv]
 rfl
@[simp] def Hfa:neD (.int i) (.int j) S=.ok (.bl (!decide (i=j))) S:=by
 simp only[neD,toP]
 simp[SeqAt.shaped,PyData.eqv]
 rfl
def Js{x y:Str}(hx:PyData.strOk x=true)(hy:PyData.strOk y=true):eqD (.str x) (.str y) S=.ok (.bl (x==y)) S:=by
 simp only[eqD,toP]
 simp[SeqAt.shaped,PyData.eqv,PyData.canLay0,PyData.depth,hx,hy]
end
@[simp] def Hfb{l:List D}:Hd [.tup l] S=.ok (.int l.length) S:=id rfl
def Zi{c:Cell}(h:S[k]?=some c):Hd [.lst k] S=.ok (.int c.xs.length) S:=by
 show(match S[k]? with | some c=>Out.ok (D.int c.xs.length) S | none=>.bad)=_
 rw[h]
def Jt{c:Cell}{i:Int}(h:S[k]?=some c)(e:atI c.xs i=some d):getD (.lst k) (.int i) S=.ok d S:=by
 show(match S[k]? with | some c=>(match atI c.xs i with | some d=>Out.ok d S | none=>.bad) | none=>.bad)=_
 rw[h]
 show(match atI c.xs i with | some d=>Out.ok d S | none=>.bad)=_
 rw[e]
def Jc{l:List D}{i:Int}(e:atI l i=some d):getD (.tup l) (.int i) S=.ok d S:=by
 show(match atI l i with | some d=>Out.ok d S | none=>.bad)=_
 rw[e]
def Gw{O:Type}{l:List O}{i:Int}{d:O}(h0:0<=i)(e:l[i.toNat]?=some d):atI l i=some d:=by
 unfold atI ixN
 have:i.toNat<l.length:=(Aa.mp e).1
 rw[if_pos h0,if_pos (by omega)]
 exact e
def Gj1{xs:List D}{i:Int}(h:S[k]?=some ⟨false,xs⟩)(h0:0<=i)(h1:i<xs.length):Jo (.lst k) (.int i) d S=some (S.set k ⟨false,xs.set i.toNat d⟩):=by
 show(match S[k]? with | some c=>(match ixN c.xs.length i with | some j=>if c.fz=false then some (S.set k ⟨false,c.xs.set j d⟩) else none | none=>none) | none=>none)=_
 rw[h]
 show(match ixN xs.length i with | some j=>if false=false then some (S.set k ⟨false,xs.set j d⟩) else none | none=>none)=_
 unfold ixN
 rw[if_pos h0,if_pos h1]
 rfl
@[simp] def Hfc{l:List Int}:Hd3 [.tup (l.map D.int)] S=.ok (.int l.sum) S:=by
 have:∀ l:List Int,Gdh (l.map D.int)=some l:=fun l=>by
  induction l with
  | nil=>rfl
  | cons a r ih=>show(Gdh (r.map D.int)).map (a::·)=_; rw[ih]; rfl
 show(match (some (l.map D.int)).bind Gdh with | some ns=>Out.ok (D.int ns.sum) S | none=>.bad)=_
 rw[Bg,this]
end
end DL
namespace Law
open PySem PySem.Spec PyProof.Rows L2 DL
variable{m t k j q n a N:Nat}{b u:Bool}{ds xs A B C:List D}{S S' S1 S2:Sto}{d:D}{f X:Sv}{U U':Lc}{c:Cell}{r lH lL v:Int}{y:Str}{L M:List Int}{nxt:Nat->Sto->BJ D}{O:Type}
noncomputable def fin(o:OS):Out D:=match o with
 | .rt d S'=>.ok d S'
 | .nx _ S'=>.ok .non S'
 | .exc x _ S'=>.exc x S'
 | _=>.bad
def Gn{b:Sv}:fnB m b ds S=fin (b (ds.map some++List.replicate (m-ds.length) none) S):=id rfl
@[simp] def Hem:fin (.rt d S)=.ok d S:=id rfl
def Gc{g:Sv}(h:f U S=.nx U' S'):fin (sq f g U S)=fin (g U' S'):=by rw[Gci,h]
def Hy{g:Sv}(h:f U S=.rt d S'):fin (sq f g U S)=.ok d S':=by rw[Gci,h]; rfl
structure Dp(S:Sto)(t k:Nat)(n:Nat):Prop where
 ex:∃ (a b:Int) (xs:List Int),S[t]?=some ⟨false,[.lst k,.int a,.int b]⟩/\S[k]?=some ⟨false,xs.map D.int⟩/\0<=a/\a<=n
 ne:t≠k
structure Kp(S S':Sto)(t k:Nat):Prop where
 len:S.length<=S'.length
 get:∀ i,i<S.length->i≠t->i≠k->S'[i]?=S[i]?
def Kp.refl:Kp S S t k:=⟨Ac _,fun _ _ _ _=>rfl⟩
def Kp.trans(a:Kp S S1 t k)(b:Kp S1 S2 t k):Kp S S2 t k:=⟨Am a.len b.len,fun i h h1 h2=>(b.get i (Aj h a.len) h1 h2).trans (a.get i h h1 h2)⟩
def Kp.set(h:j=t\/j=k):Kp S (S.set j c) t k:=⟨by simp,fun i _ h1 h2=>by
 rw[Ae]
 rcases h with h | h
 ·rw[h]; exact Ne.symm h1
 ·rw[h]; exact Ne.symm h2⟩
def Kp.app:Kp S (S++[c]) t k:=⟨by simp,fun i h _ _=>by rw[Aq h]⟩
def Kp.at(a:Kp S S' t k)(e:S[q]?=some c)(h1:q≠t)(h2:q≠k):S'[q]?=some c:=(a.get q (Aa.mp e).1 h1 h2).trans e
def Gr:(S++[c])[S.length]?=some c:=by rw[AU (Ac _)]; simp
def Jn{d:Cell}(e:S[q]?=some d):(S++[c])[q]?=some d:=by
 rw[Aq (Aa.mp e).1]; exact e
def Dp.app(h:Dp S t k n):Dp (S++[c]) t k n:=by
 obtain⟨⟨a,b,xs,e1,e2,h⟩,ne⟩:=h
 exact⟨⟨a,b,xs,Jn e1,Jn e2,h⟩,ne⟩
def Dp.lt(h:Dp S t k n):t<S.length/\k<S.length:=by
 obtain⟨⟨a,b,xs,e1,e2,h⟩,ne⟩:=h
 exact⟨(Aa.mp e1).1,(Aa.mp e2).1⟩
def Dp.set(h:Dp S t k n)(h1:q≠t)(h2:q≠k):Dp (S.set q c) t k n:=by
 obtain⟨⟨a,b,xs,e1,e2,h⟩,ne⟩:=h
 exact⟨⟨a,b,xs,by rw[Ae h1]; exact e1,by rw[Ae h2]; exact e2,h⟩,ne⟩
def Dp.mono(h:Dp S t k n)(hm:n<=m):Dp S t k m:=by
 obtain⟨⟨a,b,xs,e1,e2,h0,h1⟩,ne⟩:=h
 exact⟨⟨a,b,xs,e1,e2,h0,by omega⟩,ne⟩
def Gyv:Sv:=(sq (sif (ta (tb (o2 ltD (vr 3) (b1 Hd (ac (o2 DL.getD (vr 0) (cn (.int 0))) an)))) (tb (o2 geD (vr 4) (o2 Gfz (cn (.int 10)) (cn (.int 18))))))
  (sq (ss (o2 Gao (vr 4) (vr 1)) (vr 0) (cn (.int 2)) Jo)
  (sret (o2 Xl (vr 4) (vr 1))))
  DL.skip)
  (sq (sa (o2 Xl (o2 Kf (o2 Gq (o2 Xl (vr 4) (cn (.int 1000003))) (cn (.int 1))) (o2 Gq (o2 Gq (o2 Kf (o2 Kf (cn (.int 7919)) (vr 3)) (vr 3)) (o2 Kf (cn (.int 104729)) (vr 3))) (cn (.int 12345)))) (cn (.int 2147483647))) (gn 5))
  (sq (sa (o2 Xl (o2 Gq (o2 Gq (o2 Kf (vr 5) (vr 5)) (o2 Kf (cn (.int 48271)) (vr 3))) (o2 Xl (vr 4) (cn (.int 65537)))) (cn (.int 2147483629))) (gn 5))
  (sret (o2 Xl (o2 Gao (vr 5) (cn (.int 8))) (vr 1))))))
def Gyw{m a b c:Int}{xs:List Int}{g2:BJ D}(e1:S[t]?=some ⟨false,[.lst k,.int (a+1),.int b]⟩)(e2:S[k]?=some ⟨false,xs.map D.int⟩)(ne:t≠k)(ha:0<=a)(han:a<=n)(hn:n<2^60)(hm:0<m)(hm2:m<2^200):
  ∃ r S',fin (Gyv [some (.lst t),some (.int m),g2,some (.int a),some (.int c),none] S)=.ok (.int r) S'/\0<=r/\r<m/\Dp S' t k (n+1)/\Kp S S' t k:=by
 have g0:DL.getD (.lst t) (.int 0) S=.ok (.lst k) S:=Jt e1 rfl
 have ln:Hd [.lst k] S=.ok (.int xs.length) S:=by rw[Zi e2]; simp
 have lt:t<S.length:=(Aa.mp e1).1
 have s2:Jo (.lst t) (.int 2) (.int (c / m)) S=some (S.set t ⟨false,[.lst k,.int (a+1),.int (c / m)]⟩):=Gj1 e1 (by decide) (by simp)
 by_cases h:a<xs.length/\1000000000000000000<=c
 ·refine⟨c%m,S.set t ⟨false,[.lst k,.int (a+1),.int (c / m)]⟩,?_,Bi _ (by omega),Bu _ hm,⟨⟨a+1,c / m,xs,Ai lt,by rw[Ae ne]; exact e2,by omega,by omega⟩,ne⟩,Kp.set (.inl rfl)⟩
  unfold Gyv
  exact Hy (by simp[g0,ln,h.1,h.2,Gi3 hm hm2,s2,Gb2 hm])
 ·have sqr:∀ x:Int,Kf (.int (x%2147483647)) (.int (x%2147483647)) S=.ok (.int (x%2147483647*(x%2147483647))) S:=fun x=>Guv (by omega) (by omega)
  have m1:Kf (.int (7919*a)) (.int a) S=.ok (.int (7919*a*a)) S:=Guv (by omega) (by omega)
  have m2:∀ y:Int,Kf (.int (c%1000003+1)) (.int y) S=.ok (.int ((c%1000003+1)*y)) S:=fun y=>Gff (by omega) (by omega)
  obtain⟨z,hz⟩:∃ z:Int,z=((c%1000003+1)*(7919*a*a+104729*a+12345))%2147483647:=⟨_,rfl⟩
  obtain⟨y,hy⟩:∃ y:Int,y=(z*z+48271*a+c%65537)%2147483629:=⟨_,rfl⟩
  have mz:Kf (.int z) (.int z) S=.ok (.int (z*z)) S:=by rw[hz]; exact sqr _
  have e1':sif (ta (tb (o2 ltD (vr 3) (b1 Hd (ac (o2 DL.getD (vr 0) (cn (.int 0))) an)))) (tb (o2 geD (vr 4) (o2 Gfz (cn (.int 10)) (cn (.int 18)))))) (sq (ss (o2 Gao (vr 4) (vr 1)) (vr 0) (cn (.int 2)) Jo) (sret (o2 Xl (vr 4) (vr 1)))) DL.skip [some (.lst t),some (.int m),g2,some (.int a),some (.int c),none] S=.nx [some (.lst t),some (.int m),g2,some (.int a),some (.int c),none] S:=by
   by_cases c1:a<xs.length
   ·have c2:¬ 1000000000000000000<=c:=fun z=>h ⟨c1,z⟩
    simp[g0,ln,c1,c2]
   ·simp[g0,ln,c1]
  refine⟨y / 8%m,S,?_,Bi _ (by omega),Bu _ hm,⟨⟨a+1,b,xs,e1,e2,by omega,by omega⟩,ne⟩,.refl⟩
  unfold Gyv
  rw[Gc e1']
  refine(Gc (U':=[some (.lst t),some (.int m),g2,some (.int a),some (.int c),some (.int z)]) (S':=S) (by rw[hz]; simp[Gb2,Gff,m1,m2])).trans ?_
  refine(Gc (U':=[some (.lst t),some (.int m),g2,some (.int a),some (.int c),some (.int y)]) (S':=S) (by rw[hy]; simp[Gb2,Gff,mz])).trans ?_
  simp[Gi3,Gb2 hm]
def Kg{m:Int}(h:Dp S t k n)(hn:n<2^60)(hm:0<m)(hm2:m<2^200):∃ r S',Gh [.lst t,.int m] S=.ok (.int r) S'/\0<=r/\r<m/\Dp S' t k (n+1)/\Kp S S' t k:=by
 obtain⟨⟨a,b,xs,e1,e2,ha,han⟩,ne⟩:=h
 have lt:t<S.length:=(Aa.mp e1).1
 have g1:DL.getD (.lst t) (.int 1) S=.ok (.int a) S:=Jt e1 rfl
 have g2:DL.getD (.lst t) (.int 2) S=.ok (.int b) S:=Jt e1 rfl
 have s1:Jo (.lst t) (.int 1) (.int (a+1)) S=some (S.set t ⟨false,[.lst k,.int (a+1),.int b]⟩):=Gj1 e1 (by decide) (by simp)
 have s2:Jo (.lst t) (.int 2) (.int (b / m)) S=some (S.set t ⟨false,[.lst k,.int a,.int (b / m)]⟩):=Gj1 e1 (by decide) (by simp)
 have hf:∀ X,Gh [.lst t,.int m] S=X↔fin (Ks [some (.lst t),some (.int m),none,none,none,none] S)=X:=fun X=>by rw[show Gh [.lst t,.int m] S=fin (Ks [some (.lst t),some (.int m),none,none,none,none] S) from Gn (m:=6) (b:=Ks)]
 by_cases c:0<b
 ·refine⟨b%m,S.set t ⟨false,[.lst k,.int a,.int (b / m)]⟩,(hf _).mpr ?_,Bi _ (by omega),Bu _ hm,⟨⟨a,b / m,xs,Ai lt,by rw[Ae ne]; exact e2,ha,by omega⟩,ne⟩,Kp.set (.inl rfl)⟩
  unfold Ks
  exact Hy (by simp[g2,c,Gb2 hm,Gi3 hm hm2,s2])
 ·have e1':(S.set t ⟨false,[.lst k,.int (a+1),.int b]⟩)[t]?=some ⟨false,[.lst k,.int (a+1),.int b]⟩:=Ai lt
  have e2':(S.set t ⟨false,[.lst k,.int (a+1),.int b]⟩)[k]?=some ⟨false,xs.map D.int⟩:=by rw[Ae ne]; exact e2
  have kp:Kp S (S.set t ⟨false,[.lst k,.int (a+1),.int b]⟩) t k:=Kp.set (.inl rfl)
  generalize S.set t ⟨false,[.lst k,.int (a+1),.int b]⟩=S1 at *
  have g0:DL.getD (.lst t) (.int 0) S1=.ok (.lst k) S1:=Jt e1' rfl
  have ln:Hd [.lst k] S1=.ok (.int xs.length) S1:=by rw[Zi e2']; simp
  obtain⟨cl',ec⟩:∃ cl':Int,sif (tb (o2 gtD (b1 Hd (ac (o2 DL.getD (vr 0) (cn (.int 0))) an)) (cn (.int 0)))) (sa (o2 DL.getD (o2 DL.getD (vr 0) (cn (.int 0))) (o2 Xl (vr 3) (b1 Hd (ac (o2 DL.getD (vr 0) (cn (.int 0))) an)))) (gn 4)) DL.skip [some (.lst t),some (.int m),none,some (.int a),some (.int 0),none] S1=.nx [some (.lst t),some (.int m),none,some (.int a),some (.int cl'),none] S1:=by
   by_cases c2:0<xs.length
   ·have c3:(0:Int)<xs.length:=by omega
    have lti:(a%(xs.length:Int)).toNat<xs.length:=by
     have:=Bu a c3
     have:=Bi a (by omega:(xs.length:Int)≠0)
     omega
    have gi:DL.getD (.lst k) (.int (a%(xs.length:Int))) S1=.ok (.int xs[(a%(xs.length:Int)).toNat]) S1:=Jt e2' (Gw (Bi a (by omega)) (by simp[lti]))
    exact⟨xs[(a%(xs.length:Int)).toNat],by simp[g0,ln,c2,Gb2 c3,gi]⟩
   ·exact⟨0,by simp[g0,ln,c2]⟩
  obtain⟨r,S',h1,h2,h3,h4,h5⟩:=Gyw (c:=cl') (g2:=none) e1' e2' ne ha han hn hm hm2
  refine⟨r,S',(hf _).mpr ?_,h2,h3,h4,kp.trans h5⟩
  unfold Ks
  refine(Gc (U':=[some (.lst t),some (.int m),none,none,none,none]) (S':=S) (by simp[g2,c])).trans ?_
  refine(Gc (U':=[some (.lst t),some (.int m),none,some (.int a),none,none]) (S':=S) (by simp[g1])).trans ?_
  refine(Gc (U':=[some (.lst t),some (.int m),none,some (.int a),none,none]) (S':=S1) (by simp[s1])).trans ?_
  refine(Gc (U':=[some (.lst t),some (.int m),none,some (.int a),some (.int 0),none]) (S':=S1) (by simp)).trans ?_
  rw[Gc ec]
  exact h1
def pick{x:D}(s:Kp (S++[⟨false,xs⟩]) S1 t k)(h:t<S.length/\k<S.length)(e:atI xs r=some x):DL.getD (.lst S.length) (.int r) S1=.ok x S1:=
 Jt (c:=⟨false,xs⟩) (s.at Gr (by omega) (by omega)) e
def Gj2{m:Int}(h:Dp S t k n)(hn:n<2^60)(hm:m=xs.length)(h0:0<xs.length)(h1:xs.length<1000):∃ r x S1,Gh [.lst t,.int m] (S++[⟨false,xs⟩])=.ok (.int r) S1/\DL.getD (.lst S.length) (.int r) S1=.ok x S1/\x∈xs/\Dp S1 t k (n+1)/\Kp S S1 t k:=by
 obtain⟨r,S1,e1,r0,r1,d1,k1⟩:=Kg (m:=m) (h.app (c:=⟨false,xs⟩)) hn (by omega) (by omega)
 have hlt:r.toNat<xs.length:=by omega
 have ea:atI xs r=some xs[r.toNat]:=Gw r0 (by simp[hlt])
 exact⟨r,_,S1,e1,pick k1 h.lt ea,AJ hlt,d1,Kp.app.trans k1⟩
inductive Pl where
 | e | c | p (br de ro:Int) (pr:D)
variable{p pH pL:Pl}{ps:List Pl}
noncomputable def Pl.toD:Pl->D
 | .e=>.tup [.str "end"]
 | .c=>.tup [.str "chamber"]
 | .p br de ro pr=>.tup [.str "pound",.int br,.int de,.int ro,pr]
def Pl.ok:Pl->Prop
 | .p br de ro pr=>1<=br/\br<=9/\0<=de/\de<=br/\1<=ro/\ro<=4/\(pr=.non\/∃ i,pr=.int i/\0<=i/\i<=99)
 | _=>True
def isL(e:S[q]?=some c):isLst (.lst q) S=true:=by simp only[isLst,e]
def Qa{nxt:Nat->Sto->BJ D}{g:Tg}{b:Sv}{l:List D}(I:Nat->Lc->Sto->Prop)(hn:∀ k U S,I k U S->nxt k S=l[k]?)(hs:∀ k d U S,l[k]?=some d->I k U S->∃ U1 U2 S2,g d U=some U1/\b U1 S=.nx U2 S2/\I (k+1) U2 S2):
  ∀ (n k:Nat) (U:Lc) (S:Sto),k<=l.length->I k U S->l.length<n+k->∃ U' S',Qe nxt g b n k U S=.nx U' S'/\I l.length U' S'
 | 0,k,U,S,h1,_,h2=>by omega
 | n+1,k,U,S,h1,hI,h2=>by
  unfold Qe
  rw[hn k U S hI]
  cases z:l[k]? with
  | none=>
   have:k=l.length:=by have:=Be.mp z; omega
   subst this
   exact⟨U,S,rfl,hI⟩
  | some d=>
   obtain⟨U1,U2,S2,h3,h4,h5⟩:=hs k d U S z hI
   have hk:k<l.length:=(Aa.mp z).1
   obtain⟨U',S',h6,h7⟩:=Qa I hn hs n (k+1) U2 S2 hk h5 (by omega)
   refine⟨U',S',?_,h7⟩
   simp only[h3,h4]
   exact h6
noncomputable def Gyx(l:List D):Src:=⟨fun k _=>l[k]?,l.length+1⟩
def Wb(i n:Nat):Src:=⟨fun k S=>(S[i]?).bind fun c=>c.xs[k]?,n+1⟩
def Gbe{i:Nat}(e:S[i]?=some c):Gjm (.lst i) S=.ok (Wb i c.xs.length) S:=by
 simp only[Gjm,e]
 rfl
def Gcz:(rsrc 0 n).nxt k S=((List.range n).map fun k:Nat=>D.int (k:Int))[k]?:=by
 show(if k<n then some (D.int (0+k)) else none)=_
 rw[Ar]
 by_cases c:k<n
 ·rw[if_pos c,A8 c]; simp
 ·rw[if_neg c,Bv (by simp; omega)]; rfl
def Gi5(h:((List.range n).map fun k:Nat=>D.int (k:Int))[k]?=some d):k<n/\d=.int k:=by
 have hk:k<n:=by have:=(Aa.mp h).1; simpa using this
 rw[Ar,A8 hk] at h
 exact⟨hk,(Ab h).symm⟩
def Ggn{f:Ev (List D)}(h:f U S=.ok [.int n] S')(hn:n<=1000000):ir1 f U S=.ok (rsrc 0 n) S':=by
 unfold ir1
 rw[h]
 show(if -1000000000000<=(n:Int)/\(n:Int)<=1000000000000 then Out.ok (rsrc 0 (n:Int).toNat) S' else .bad)=_
 rw[if_pos (by omega)]; rfl
def Kp.setq{S0:Sto}(a:Kp S0 S t k)(h:S0.length<=q):Kp S0 (S.set q c) t k:=⟨by simp; exact a.len,fun i hi h1 h2=>by
 rw[Ae (by omega)]; exact a.get i hi h1 h2⟩
def Gb3{i:Nat}{a b:List D}(h1:S[i]?=some ⟨false,a⟩)(h2:S[j]?=some ⟨false,b⟩)(h:a.length+b.length<=1000000):Gq (.lst i) (.lst j) S=.ok (.lst S.length) (S++[⟨false,a++b⟩]):=by
 simp only[Gq,h1,h2]
 simp[h]
def Gsx{i:Nat}(e:S[i]?=some ⟨false,[d]⟩)(hn:n<=1000):Kf (.lst i) (.int n) S=.ok (.lst S.length) (S++[⟨false,List.replicate n d⟩]):=by
 have fl:∀ n:Nat,(List.replicate n [d]).flatten=List.replicate n d:=fun n=>by
  induction n with
  | zero=>rfl
  | succ n ih=>rw[AV,A3,ih]; rfl
 simp only[Kf,e]
 rw[if_pos (by simp; omega)]
 simp[fl]
def Zj(e:S[q]?=some c):Kv [.lst q] S=.ok (.tup c.xs) S:=by
 simp only[Kv,e]
noncomputable def Pl.isC:Pl->Bool
 | .c=>true
 | _=>false
noncomputable def Pl.isE:Pl->Bool
 | .e=>true
 | _=>false
def stok(s:String):PyData.strOk (Str.ofString s)=true:=by
 unfold PyData.strOk
 have hc:∀ c:Char,c.toNat<1114112:=fun c=>by
  rcases c.valid with h | ⟨_,h⟩
  ·exact Aj h (by decide)
  ·exact h
 rw[Str.ofString_eq_toList]
 simp[hc]
def Gc0(h:p.ok):eqD p.toD (.tup [.str "chamber"]) S=.ok (.bl p.isC) S:=by
 have n1:(Str.ofString "end"==Str.ofString "chamber")=false:=by decide +kernel
 have n2:(Str.ofString "pound"==Str.ofString "chamber")=false:=by decide +kernel
 cases p with
 | e=>simp[Pl.toD,eqD,toP,Jm,SeqAt.shaped,PyData.canLay0,PyData.canLayAll0,PyData.depth,PyData.depthAll,stok,PyData.eqv,PyData.eqvAll,n1,Pl.isC]
 | c=>simp[Pl.toD,eqD,toP,Jm,SeqAt.shaped,PyData.canLay0,PyData.canLayAll0,PyData.depth,PyData.depthAll,stok,PyData.eqv,PyData.eqvAll,Pl.isC]
 | p br de ro pr=>
  obtain⟨_,_,_,_,_,_,h⟩:=h
  rcases h with rfl | ⟨i,rfl,_⟩
  ·simp[Pl.toD,eqD,toP,Jm,SeqAt.shaped,PyData.canLay0,PyData.canLayAll0,PyData.depth,PyData.depthAll,stok,PyData.eqv,PyData.eqvAll,n2,Pl.isC]
  ·simp[Pl.toD,eqD,toP,Jm,SeqAt.shaped,PyData.canLay0,PyData.canLayAll0,PyData.depth,PyData.depthAll,stok,PyData.eqv,PyData.eqvAll,n2,Pl.isC]
def Ggo(h:p.ok):eqD p.toD (.tup [.str "end"]) S=.ok (.bl p.isE) S:=by
 have n1:(Str.ofString "chamber"==Str.ofString "end")=false:=by decide +kernel
 have n2:(Str.ofString "pound"==Str.ofString "end")=false:=by decide +kernel
 cases p with
 | e=>simp[Pl.toD,eqD,toP,Jm,SeqAt.shaped,PyData.canLay0,PyData.canLayAll0,PyData.depth,PyData.depthAll,stok,PyData.eqv,PyData.eqvAll,Pl.isE]
 | c=>simp[Pl.toD,eqD,toP,Jm,SeqAt.shaped,PyData.canLay0,PyData.canLayAll0,PyData.depth,PyData.depthAll,stok,PyData.eqv,PyData.eqvAll,n1,Pl.isE]
 | p br de ro pr=>
  obtain⟨_,_,_,_,_,_,h⟩:=h
  rcases h with rfl | ⟨i,rfl,_⟩
  ·simp[Pl.toD,eqD,toP,Jm,SeqAt.shaped,PyData.canLay0,PyData.canLayAll0,PyData.depth,PyData.depthAll,stok,PyData.eqv,PyData.eqvAll,n2,Pl.isE]
  ·simp[Pl.toD,eqD,toP,Jm,SeqAt.shaped,PyData.canLay0,PyData.canLayAll0,PyData.depth,PyData.depthAll,stok,PyData.eqv,PyData.eqvAll,n2,Pl.isE]
def Kt{e:Ev D}(h:e U S=.ok d S2)(q:S2[a]?=some ⟨false,xs⟩)(hl:xs.length<1000000):cbody a ttrue e U S=.nx U (S2.set a ⟨false,xs++[d]⟩):=by
 show bindS (ttrue U S) U _=_
 show bindS (e U S) U _=_
 rw[h]
 simp only[Hl,q]
 rw[if_pos (by simp[hl])]
def Goy{c:Ev Bool}{e:Ev D}(h:c U S=.ok false S2):cbody a c e U S=.nx U S2:=by
 unfold cbody
 rw[h]
 simp
def Gl1{c:Ev Bool}{e:Ev D}(hc:c U S=.ok true S1)(h:e U S1=.ok d S2)(q:S2[a]?=some ⟨false,xs⟩)(hl:xs.length<1000000):cbody a c e U S=.nx U (S2.set a ⟨false,xs++[d]⟩):=by
 unfold cbody
 rw[hc]
 simp only[Hl,if_true,h,q]
 rw[if_pos (by simp[hl])]
def Gak{f:Ev Src}{pk:List (BJ Nat)}{g:Tg}{c:Ev Bool}{e:Ev D}{s:Src}(h:f U S=.ok s S1)(l:Qe s.nxt g (cbody S1.length c e) s.fuel 0 (pkS pk U) (S1++[⟨false,[]⟩])=.nx U' S'):cmp f pk g c e U S=.ok (.lst S1.length) S':=by
 unfold cmp
 rw[h]
 simp only[Gz,l]
structure Ex(S S':Sto):Prop where
 len:S.length<=S'.length
 get:∀ i,i<S.length->S'[i]?=S[i]?
def Ex.refl:Ex S S:=⟨Ac _,fun _ _=>rfl⟩
def Ex.trans(a:Ex S S1)(b:Ex S1 S2):Ex S S2:=⟨Am a.len b.len,fun i h=>(b.get i (Aj h a.len)).trans (a.get i h)⟩
def Ex.app:Ex S (S++[c]):=⟨by simp,fun i h=>by rw[Aq h]⟩
def Ex.setq{S0:Sto}(a:Ex S0 S)(h:S0.length<=q):Ex S0 (S.set q c):=⟨by simp; exact a.len,fun i hi=>by rw[Ae (by omega)]; exact a.get i hi⟩
def Ex.kp(a:Ex S S'):Kp S S' t k:=⟨a.len,fun i h _ _=>a.get i h⟩
def Ex.at(a:Ex S S')(e:S[q]?=some c):S'[q]?=some c:=(a.get q (Aa.mp e).1).trans e
def Dp.ext(h:Dp S t k n)(x:Ex S S'):Dp S' t k n:=by
 obtain⟨⟨a,b,xs,e1,e2,h⟩,ne⟩:=h
 exact⟨⟨a,b,xs,x.at e1,x.at e2,h⟩,ne⟩
noncomputable def isInt:D->Bool
 | .int _=>true
 | _=>false
def Xv{a b:List D}(h:a.length+b.length<=1000000):Gq (.tup a) (.tup b) S=.ok (.tup (a++b)) S:=by
 show(if a.length+b.length<=1000000 then Out.ok (D.tup (a++b)) S else .bad)=_
 rw[if_pos h]
def Xw{a b:Str}(h1:PyData.strOk a=true)(h2:PyData.strOk b=true):PyData.strOk (a++b)=true:=by
 unfold PyData.strOk at *
 show((a.cps++b.cps).all fun x=>decide (x<1114112))=true
 rw[Array.all_append,h1,h2]
 rfl
def Gj3{n:Nat}:∀ ts:List Str,(∀ t∈ts,PyData.strOk t=true/\t.length<=n)->PyData.strOk (Str.join ", " ts)=true/\(Str.join ", " ts).length<=(n+2)*ts.length
 | [],_=>⟨by decide +kernel,by show(Str.join ", " []).length<=_; exact Nat.le_of_eq (by rfl)⟩
 | [x],h=>by
  obtain⟨h1,h2⟩:=h x Av
  exact⟨h1,by show x.length<=_; simp; omega⟩
 | x::y::r,h=>by
  obtain⟨h1,h2⟩:=h x Av
  obtain⟨h3,h4⟩:=Gj3 (y::r) fun t ht=>h t (Au _ ht)
  have e:Str.join ", " (x::y::r)=x++", "++Str.join ", " (y::r):=rfl
  refine⟨by rw[e]; exact Xw (Xw h1 (stok _)) h3,?_⟩
  rw[e,Str.length_append,Str.length_append]
  have e2:((", ":String):Str).length=2:=rfl
  rw[e2]
  simp only[AA] at h4 ⊢
  have:(n+2)*(r.length+1+1)=(n+2)*(r.length+1)+(n+2):=by rw[Nat.mul_add (n+2) (r.length+1) 1]; omega
  omega
def Gyy{ts:List Str}(h:∀ t∈ts,PyData.strOk t=true/\t.length<=n):PyData.strOk (tupleText ts)=true/\(tupleText ts).length<=(n+2)*ts.length+3:=by
 obtain⟨h1,h2⟩:=Gj3 ts h
 unfold tupleText
 refine⟨Xw (Xw (stok _) h1) (stok _),?_⟩
 rw[Str.length_append,Str.length_append]
 have e1:(("(":String):Str).length=1:=rfl
 have e2:∀ b:Bool,(((if b=true then ",)" else ")":String):Str)).length<=2:=fun b=>by cases b<;>decide +kernel
 have:=e2 (ts.length==1)
 rw[e1]
 omega
def Xx:∀ L:List PyData,(PyData.shownAll L).length=L.length
 | []=>rfl
 | a::L=>by show(PyData.shown a::PyData.shownAll L).length=_; simp[Xx L]
def Gi6{l:List D}:Qr [.tup l] S=.ok (.lst S.length) (S++[⟨false,l⟩]):=id rfl
def Goz{x:D}{l:List D}:Gco (.tup (x::l)) (some 1) none S=.ok (.tup l) S:=by
 have e1:HT.sIx (x::l).length 0 (some 1)=1:=by
  have:=HT.Gcw (x::l).length 0 1
  rw[show((1:Nat):Int)=1 from rfl] at this
  rw[this]
  simp
 show(if HT.sIx (x::l).length 0 (some 1)=0/\HT.sIx (x::l).length (x::l).length none=(x::l).length then Out.ok (D.tup (x::l)) S else .ok (.tup (DL.Qs (x::l) (some 1) none)) S)=_
 rw[if_neg (by rw[e1]; simp)]
 unfold DL.Qs
 rw[e1,HT.Yl]
 simp
def Gj4{n:Nat}:∀ (ts:List Str) (k:Nat) (acc:Str),PyData.strOk acc=true->(∀ t∈ts,PyData.strOk t=true/\t.length<=n)->PyData.strOk (textFrom k acc ts)=true/\(textFrom k acc ts).length<=acc.length+(n+2)*ts.length
 | [],k,acc,h,_=>⟨h,by show acc.length<=_; simp⟩
 | t::ts,k,acc,h,ht=>by
  obtain⟨a,b⟩:=ht t Av
  have e2:∀ b:Bool,(((if b=true then ", " else "":String):Str)).length<=2:=fun b=>by cases b<;>decide +kernel
  obtain⟨c,d⟩:=Gj4 ts (k+1) (acc++((if k>0 then ", " else "":String):Str)++t) (Xw (Xw h (stok _)) a) fun u hu=>ht u (Au _ hu)
  refine⟨c,Am d ?_⟩
  have:=e2 (decide (k>0))
  rw[Str.length_append,Str.length_append,AA]
  have hx:(n+2)*(ts.length+1)=(n+2)*ts.length+(n+2):=by rw[Nat.mul_add]; omega
  by_cases c:k>0
  ·rw[decide_eq_true c] at this; simp only[if_true] at this; rw[if_pos c]; omega
  ·rw[decide_eq_false c] at this; simp only[AC,if_false] at this; rw[if_neg c]; omega
def Gyz{ts:List Str}(h:∀ t∈ts,PyData.strOk t=true/\t.length<=n):PyData.strOk (listText ts)=true/\(listText ts).length<=(n+2)*ts.length+3:=by
 obtain⟨a,b⟩:=Gj4 ts 0 "[" (stok _) h
 unfold listText
 refine⟨Xw a (stok _),?_⟩
 rw[Str.length_append]
 have e1:(("[":String):Str).length=1:=rfl
 have e2:(("]":String):Str).length=1:=rfl
 rw[e2]
 rw[e1] at b
 omega
def Gsy(s:String):(Str.ofString s).length=s.toList.length:=by
 rw[Str.ofString_eq_toList]
 show(Array.size _)=_
 simp
def Gsz{i:Int}(h:i.natAbs<10^60):(Str.ofString (toString i)).length<=61:=by
 rw[Gsy]
 cases i with
 | ofNat m=>
  show(Nat.repr m).toList.length<=61
  have:=(Nat.length_toDigits_le_iff (b:=10) (n:=m) (k:=60) (by decide) (by decide)).mpr h
  simp only[Nat.repr,String.toList_ofList]
  omega
 | negSucc m=>
  show("-"++Nat.repr (m+1)).toList.length<=61
  have:=(Nat.length_toDigits_le_iff (b:=10) (n:=m+1) (k:=60) (by decide) (by decide)).mpr h
  simp only[Nat.repr,String.toList_append,String.toList_ofList,Aw]
  have:("-":String).toList.length=1:=rfl
  omega
structure Gp(p:PyData)(b e:Nat):Prop where
 sh:p.showable=true
 nd:p.hasDict=false
 dp:p.depth<=e
 ok:PyData.strOk p.shown=true
 le:p.shown.length<=b
def Gp.mono{p:PyData}{b e b' e':Nat}(h:Gp p b e)(h1:b<=b')(h2:e<=e'):Gp p b' e':=⟨h.sh,h.nd,Am h.dp h2,h.ok,Am h.le h1⟩
def Gi7{b e:Nat}:∀ {ps:List PyData},(∀ p∈ps,Gp p b e)->PyData.showableAll ps=true/\PyData.hasDictAll ps=false/\PyData.depthAll ps<=e/\∀ t∈PyData.shownAll ps,PyData.strOk t=true/\t.length<=b
 | [],_=>⟨rfl,rfl,AB _,fun t ht=>by cases ht⟩
 | p::r,h=>by
  have hp:=h p Av
  obtain⟨a1,a2,a3,a4⟩:=Gi7 (ps:=r) fun q hq=>h q (Au _ hq)
  refine⟨?_,?_,?_,?_⟩
  ·show(p.showable&&PyData.showableAll r)=true; rw[hp.sh,a1]; rfl
  ·show(p.hasDict||PyData.hasDictAll r)=false; rw[hp.nd,a2]; rfl
  ·show max p.depth (PyData.depthAll r)<=e; exact Nat.max_le.mpr ⟨hp.dp,a3⟩
  ·intro t ht
   have ht:t∈p.shown::PyData.shownAll r:=ht
   rcases Af.mp ht with rfl | ht
   ·exact⟨hp.ok,hp.le⟩
   ·exact a4 t ht
def Gy0{ps:List PyData}{b e:Nat}(h:∀ p∈ps,Gp p b e):Gp (.tuple ps) ((b+2)*ps.length+3) (e+1):=by
 obtain⟨a1,a2,a3,a4⟩:=Gi7 h
 obtain⟨c1,c2⟩:=Gyy a4
 rw[Xx] at c2
 refine⟨by simpa[PyData.showable] using a1,by simpa[PyData.hasDict] using a2,by simp only[PyData.depth]; omega,?_,?_⟩
 ·show PyData.strOk (tupleText (PyData.shownAll ps))=true; exact c1
 ·show(tupleText (PyData.shownAll ps)).length<=_; exact c2
def Gy1{ps:List PyData}{b e:Nat}(h:∀ p∈ps,Gp p b e):Gp (.list ps) ((b+2)*ps.length+3) (e+1):=by
 obtain⟨a1,a2,a3,a4⟩:=Gi7 h
 obtain⟨c1,c2⟩:=Gyz a4
 rw[Xx] at c2
 refine⟨by simpa[PyData.showable] using a1,by simpa[PyData.hasDict] using a2,by simp only[PyData.depth]; omega,?_,?_⟩
 ·show PyData.strOk (listText (PyData.shownAll ps))=true; exact c1
 ·show(listText (PyData.shownAll ps)).length<=_; exact c2
def Sho(S:Sto)(d:D)(b e:Nat):Prop:=∃ p,(∀ S',Ex S S'->∀ n,e<n->toP S' n d=some p)/\Gp p b e
def Sho.mono{b e b' e':Nat}(h:Sho S d b e)(h1:b<=b')(h2:e<=e'):Sho S d b' e':=by
 obtain⟨p,a,g⟩:=h
 exact⟨p,fun S' x n hn=>a S' x n (by omega),g.mono h1 h2⟩
def Ggp{S:Sto}{b e:Nat}:∀ {l:List D},(∀ d∈l,Sho S d b e)->∃ ps,(∀ S',Ex S S'->∀ n,e<n->Jm (toP S' n) l=some ps)/\ps.length=l.length/\∀ p∈ps,Gp p b e
 | [],_=>⟨[],fun _ _ _ _=>rfl,rfl,fun p hp=>by cases hp⟩
 | d::l,h=>by
  obtain⟨p,a,g⟩:=h d Av
  obtain⟨ps,a2,a3,a4⟩:=Ggp (l:=l) fun q hq=>h q (Au _ hq)
  refine⟨p::ps,fun S' x n hn=>?_,by simp[a3],fun q hq=>?_⟩
  ·simp only[Jm,a S' x n hn,a2 S' x n hn]
  ·rcases Af.mp hq with rfl | hq
   ·exact g
   ·exact a4 q hq
def Ggq{l:List D}{b e:Nat}(h:∀ d∈l,Sho S d b e):Sho S (.tup l) ((b+2)*l.length+3) (e+1):=by
 obtain⟨ps,a,hl,g⟩:=Ggp h
 refine⟨.tuple ps,fun S' x n hn=>?_,by rw[<- hl]; exact Gy0 g⟩
 obtain⟨m,rfl⟩:∃ m,n=m+1:=⟨n-1,by omega⟩
 show(Jm (toP S' m) l).map PyData.tuple=_
 rw[a S' x m (by omega)]
 rfl
def Gs0{i:Int}(h:i.natAbs<10^60):Sho S (.int i) 61 0:=by
 refine⟨.int i,fun S' _ n hn=>?_,⟨?_,rfl,Ac _,?_,?_⟩⟩
 ·obtain⟨m,rfl⟩:∃ m,n=m+1:=⟨n-1,by omega⟩
  rfl
 ·show decide (i.natAbs.log2<1920)=true
  refine decide_eq_true ?_
  by_cases c:i.natAbs=0
  ·rw[c]; decide
  ·refine Aj ((Nat.log2_lt c).mpr (show i.natAbs<2^200 from Nat.lt_trans h (by decide))) (by decide)
 ·show PyData.strOk (Str.ofString (toString i))=true; exact stok _
 ·show(Str.ofString (toString i)).length<=61; exact Gsz h
def Gj5:Sho S .non 61 0:=by
 refine⟨.none,fun S' _ n hn=>?_,⟨rfl,rfl,Ac _,by decide +kernel,by decide +kernel⟩⟩
 obtain⟨m,rfl⟩:∃ m,n=m+1:=⟨n-1,by omega⟩
 rfl
def Sho.repr{b e:Nat}(h:Sho S d b e)(h1:b<=1000000)(h2:e<40):∃ s:Str,PyData.strOk s=true/\∀ S',Ex S S'->Qt [d] S'=.ok (.str s) S':=by
 obtain⟨p,a,g⟩:=h
 refine⟨p.shown,g.ok,fun S' x=>?_⟩
 have ha:=a S' x 40 h2
 have big:∀ (q:PyData),q=p->(if(q.showable&&!q.hasDict&&decide (q.depth<=60))=true/\q.shown.length<=1000000 then Out.ok (D.str q.shown) S' else .bad)=.ok (.str p.shown) S':=fun q hq=>by
  subst hq
  rw[if_pos]
  refine⟨?_,Am g.le h1⟩
  rw[g.sh,g.nd]
  have:=g.dp
  simp
  omega
 cases d with
 | non=>cases (Ab ha); rfl
 | bl v=>cases (Ab ha); cases v<;>rfl
 | int i=>
  cases (Ab ha)
  have:i.natAbs.log2<1920:=of_decide_eq_true g.sh
  show(if i.natAbs.log2<1920 then Out.ok (D.str (toString i)) S' else .bad)=_
  rw[if_pos this]
  rfl
 | str z=>
  cases (Ab ha)
  have:(reprText z).length<=1000000:=Am g.le h1
  show(if(reprText z).length<=1000000 then Out.ok (D.str (reprText z)) S' else .bad)=_
  rw[if_pos this]
  rfl
 | tup l=>
  show(match toP S' 40 (.tup l) with
   | some p=>if(p.showable&&!p.hasDict&&decide (p.depth<=60))=true/\p.shown.length<=1000000 then Out.ok (D.str p.shown) S' else .bad
   | none=>.bad)=_
  rw[ha]
  exact big p rfl
 | lst i=>
  show(match toP S' 40 (.lst i) with
   | some p=>if(p.showable&&!p.hasDict&&decide (p.depth<=60))=true/\p.shown.length<=1000000 then Out.ok (D.str p.shown) S' else .bad
   | none=>.bad)=_
  rw[ha]
  exact big p rfl
 | exn _ _=>cases ha
 | fv _=>cases ha
 | dct _=>cases ha
def Hw{c:Ev Bool}{g:Sv}(h:c U S=.ok true S1):sif c f g U S=f U S1:=by
 rw[Gox,h,Hl,if_pos rfl]
def Hg{c:Ev Bool}{g:Sv}(h:c U S=.ok false S1):sif c f g U S=g U S1:=by
 rw[Gox,h,Hl,if_neg (by decide)]
def Jd{g:Sv}(h:f U S=.nx U' S1):sq f g U S=g U' S1:=by rw[Gci,h]
def Gd5{g:Sv}{y:D}(h:f U S=.rt y S1):sq f g U S=.rt y S1:=by rw[Gci,h]
def Hch{lo hi:BJ Int}(e:S[q]?=some c):Gco (.lst q) lo hi S=.ok (.lst S.length) (S++[⟨false,DL.Qs c.xs lo hi⟩]):=by
 simp only[Gco,e]
def Gy2(e:S[q]?=some c):Qr [.lst q] S=.ok (.lst S.length) (S++[⟨false,c.xs⟩]):=by
 simp only[Qr,e]
def Gs1{ns:List Int}{lo hi:BJ Int}:∃ ys:List Int,DL.Qs (ns.map D.int) lo hi=ys.map D.int:=
 ⟨(ns.drop (HT.sIx (ns.map D.int).length 0 lo)).take (HT.sIx (ns.map D.int).length (ns.map D.int).length hi-HT.sIx (ns.map D.int).length 0 lo),by unfold DL.Qs; rw[List.map_take,List.map_drop]⟩
def Gs2{fz:Bool}{ns:List Int}(e:S[q]?=some ⟨fz,ns.map D.int⟩):∃ (t k:Nat) (S':Sto),Wh [.lst q] S=.ok (.lst t) S'/\Dp S' t k 0:=by
 obtain⟨ys,hy⟩:=Gs1 (ns:=ns) (lo:=none) (hi:=some 63)
 have s1:Gco (.lst q) none (some 63) S=.ok (.lst S.length) (S++[⟨false,ys.map D.int⟩]):=by rw[Hch e,hy]
 have q1:(S++[⟨false,ys.map D.int⟩])[S.length]?=some (⟨false,ys.map D.int⟩:Cell):=Gr
 generalize hS1:S++[⟨false,ys.map D.int⟩]=S1 at *
 have s3:Qr [.lst S.length] S1=.ok (.lst S1.length) (S1++[⟨false,ys.map D.int⟩]):=Gy2 q1
 have q3:(S1++[⟨false,ys.map D.int⟩])[S1.length]?=some (⟨false,ys.map D.int⟩:Cell):=Gr
 have l3:(S1++[(⟨false,ys.map D.int⟩:Cell)]).length=S1.length+1:=by simp
 generalize hS3:S1++[⟨false,ys.map D.int⟩]=S3 at *
 refine⟨S3.length,S1.length,S3++[⟨false,[.lst S1.length,.int 0,.int 0]⟩],?_,⟨⟨0,0,ys,Gr,Jn q3,by decide,by decide⟩,by omega⟩⟩
 refine(Gn (m:=1) (b:=Uu)).trans ?_
 show fin (Uu [some (.lst q)] S)=_
 unfold Uu
 simp[s1,s3]
def vOk(cr:Int)(p:Pl)(l r f:Int):Prop:=0<=l/\0<=r/\0<=f/\match p with
 | .e=>l=0/\r<=cr/\f<=cr
 | .c=>l<=1/\r+f<=1
 | .p br _ ro _=>l<=br/\r+f<=ro
def s1:eqD (.str "end") (.str "chamber") S=.ok (.bl false) S:=by rw[Js (stok _) (stok _)]; rfl
def s2:eqD (.str "end") (.str "pound") S=.ok (.bl false) S:=by rw[Js (stok _) (stok _)]; rfl
def s3:eqD (.str "chamber") (.str "chamber") S=.ok (.bl true) S:=by rw[Js (stok _) (stok _)]; rfl
def s4:eqD (.str "chamber") (.str "pound") S=.ok (.bl false) S:=by rw[Js (stok _) (stok _)]; rfl
def s5:eqD (.str "pound") (.str "chamber") S=.ok (.bl false) S:=by rw[Js (stok _) (stok _)]; rfl
def s6:eqD (.str "pound") (.str "pound") S=.ok (.bl true) S:=by rw[Js (stok _) (stok _)]; rfl
def s7:eqD (.str "end") (.str "end") S=.ok (.bl true) S:=by rw[Js (stok _) (stok _)]; rfl
def s8:eqD (.str "chamber") (.str "end") S=.ok (.bl false) S:=by rw[Js (stok _) (stok _)]; rfl
def s9:eqD (.str "pound") (.str "end") S=.ok (.bl false) S:=by rw[Js (stok _) (stok _)]; rfl
def p0e{l:List D}:DL.getD (.tup (d::l)) (.int 0) S=.ok d S:=Jc (Gw (by decide) rfl)
def p1e{l:List D}{e:D}:DL.getD (.tup (e::d::l)) (.int 1) S=.ok d S:=Jc (Gw (by decide) rfl)
def p3e{l:List D}{a b c:D}:DL.getD (.tup (a::b::c::d::l)) (.int 3) S=.ok d S:=Jc (Gw (by decide) rfl)
def Gfg:Yg [.bl b] S=.ok (.int (if b then 1 else 0)) S:=id rfl
structure StR(cr:Int)(ps:List Pl)(L R F:List Int):Prop where
 lL:L.length=ps.length
 lR:R.length=ps.length
 lF:F.length=ps.length
 at':∀ (i:Nat) (p:Pl),ps[i]?=some p->∃ l r f,L[i]?=some l/\R[i]?=some r/\F[i]?=some f/\vOk cr p l r f
def stD(L R F:List Int):D:=.tup [.tup (L.map D.int),.tup (R.map D.int),.tup (F.map D.int)]
noncomputable def wat:Pl->Int
 | .e=>0
 | .c=>1
 | .p br _ _ _=>br
def Go0(h:p.ok):Kx [p.toD] S=.ok (.int (wat p)) S:=by
 have e1:=fun S=>Ggo (S:=S) h
 have e2:=fun S=>Gc0 (S:=S) h
 cases p with
 | e=>simp[Kx,fnB,Qw,c_END,c_CHAMBER,e1,Pl.isE,wat]
 | c=>simp[Kx,fnB,Qw,c_END,c_CHAMBER,e1,e2,Pl.isE,Pl.isC,wat]
 | p br de ro pr=>
  have g:∀ S,DL.getD (Pl.toD (.p br de ro pr)) (.int 1) S=.ok (.int br) S:=fun S=>p1e
  simp[Kx,fnB,Qw,c_END,c_CHAMBER,e1,e2,Pl.isE,Pl.isC,wat,g]
def Vm{i:Int}(h:L[k]?=some i):DL.getD (.tup (L.map D.int)) (.int k) S=.ok (.int i) S:=
 Jc (Gw (by omega) (by rw[AK,Ar,h]; rfl))
noncomputable def plc(mid:List Pl):List Pl:=.e::(mid++[.e])
def Gj6{mid:List Pl}:(plc mid).length=mid.length+2:=by simp[plc]
def Go1{mid:List Pl}{i:Nat}(h:(plc mid)[i]?=some p):(i=0/\p=.e)\/(i=mid.length+1/\p=.e)\/(1<=i/\i<=mid.length/\p∈mid):=by
 cases i with
 | zero=>cases (Ab h); exact .inl ⟨rfl,rfl⟩
 | succ i=>
  have h:(mid++[Pl.e])[i]?=some p:=h
  by_cases c:i<mid.length
  ·rw[Aq c] at h
   exact .inr (.inr ⟨by omega,by omega,Ak h⟩)
  ·have hlt:=(Aa.mp h).1
   simp at hlt
   have:i=mid.length:=by omega
   subst this
   rw[AU (Ac _)] at h
   simp at h
   exact .inr (.inl ⟨rfl,h.symm⟩)
def Qb{g:Tg}{b:Sv}{U1 U2:Lc}(h:nxt k S=some d)(h2:g d U=some U1)(h3:b U1 S=.nx U2 S2):Qe nxt g b (n+1) k U S=Qe nxt g b n (k+1) U2 S2:=by
 conv=>lhs; unfold Qe
 simp only[h,h2,h3]
def Gb4{g:Tg}{b:Sv}(h:nxt k S=none):Qe nxt g b (n+1) k U S=.nx U S:=by
 conv=>lhs; unfold Qe
 simp only[h]
def Hci{s:Str}(h:PyData.strOk s=true):neD (.str s) (.str s) S=.ok (.bl false) S:=by
 simp only[neD,toP]
 simp[SeqAt.shaped,PyData.eqv,PyData.canLay0,PyData.depth,h]
def Gs3(h:k<M.length):Gco (.tup (M.map D.int)) none (some (k:Int)) S=.ok (.tup ((M.take k).map D.int)) S:=by
 have e2:HT.sIx (M.map D.int).length (M.map D.int).length (some (k:Int))=k:=by
  rw[HT.Gcw,Ah]
  omega
 show(if HT.sIx (M.map D.int).length 0 none=0/\HT.sIx (M.map D.int).length (M.map D.int).length (some (k:Int))=(M.map D.int).length then Out.ok (D.tup (M.map D.int)) S else .ok (.tup (DL.Qs (M.map D.int) none (some (k:Int)))) S)=_
 rw[if_neg (by rw[e2,Ah]; omega)]
 unfold DL.Qs
 rw[e2,HT.Yl,List.map_take]
 rfl
def Gs4(h:k<M.length):Gco (.tup (M.map D.int)) (some ((k:Int)+1)) none S=.ok (.tup ((M.drop (k+1)).map D.int)) S:=by
 have e1:HT.sIx (M.map D.int).length 0 (some ((k:Int)+1))=k+1:=by
  have:=HT.Gcw (M.map D.int).length 0 (k+1)
  rw[show((k+1:Nat):Int)=(k:Int)+1 from by push_cast; rfl] at this
  rw[this,Ah]
  omega
 show(if HT.sIx (M.map D.int).length 0 (some ((k:Int)+1))=0/\HT.sIx (M.map D.int).length (M.map D.int).length none=(M.map D.int).length then Out.ok (D.tup (M.map D.int)) S else .ok (.tup (DL.Qs (M.map D.int) (some ((k:Int)+1)) none)) S)=_
 rw[if_neg (by rw[e1]; omega)]
 unfold DL.Qs
 rw[e1,HT.Yl,List.map_drop,Bw (by simp)]
def Gc1{m:Int}(h:M[k]?=some r)(hl:M.length<=1000):Ki [.tup (M.map D.int),.int k,.int m] S=.ok (.tup ((M.set k (r+m)).map D.int)) S:=by
 have hk:k<M.length:=(Aa.mp h).1
 have g:=Vm (S:=S) h
 have a1:Gq (.tup ((M.take k).map D.int)) (.tup [.int (r+m)]) S=.ok (.tup ((M.take k).map D.int++[.int (r+m)])) S:=Xv (by simp; omega)
 have a2:Gq (.tup ((M.take k).map D.int++[.int (r+m)])) (.tup ((M.drop (k+1)).map D.int)) S=.ok (.tup ((M.take k).map D.int++[.int (r+m)]++(M.drop (k+1)).map D.int)) S:=Xv (by simp; omega)
 refine(Gn (m:=3) (b:=Ut)).trans ?_
 show fin (Ut [some (.tup (M.map D.int)),some (.int k),some (.int m)] S)=_
 have e:(M.take k).map D.int++[.int (r+m)]++(M.drop (k+1)).map D.int=(M.set k (r+m)).map D.int:=by
  rw[BB,if_pos hk]
  simp
 rw[e] at a2
 simp[Ut,Gs3 hk,Gs4 hk,g,a1,a2,-List.map_take,-List.map_drop,-List.map_set]
def Qo{f:Fn}{x:XD}(h:f ds S=.exc x S')(hy:x.cls∈ys):gX ys f ds S=.exc x S':=by
 simp only[gX,h,if_pos hy]
def Zz{f:Fn}(h:f ds S=.ok d S'):gX ys f ds S=.ok d S':=by
 simp only[gX,h]
@[simp] def Hcj{β:Type}{x:XD}{g:O->Sto->Out β}:(Out.exc x S:Out O).bind g=.exc x S:=id rfl
@[simp] def Gfh{x:XD}{g:O->Sto->OS}:bindS (Out.exc x S:Out O) U g=.exc x U S:=id rfl
def Jz{g:Sv}{x:XD}(h:f U S=.exc x U' S'):fin (sq f g U S)=.exc x S':=by rw[Gci,h]; rfl
noncomputable def words:List D:=[.str "nogate",.str "dry",.str "full",.str "nospring",.str "nobarge",.str "noroom",.str "uneven",.str "shallow",.str "falls",.str "notext",.str "toomany",.str "noline"]
def Gs5{m:List D}{bs cs:List Bool}{w:D}(h:S[q]?=some ⟨false,m⟩)(hl:m.length=13)(h12:m[12]?=some (.bl true))(hb:Gei m=some bs)(hc:Gei (DL.Qs m none (some 12))=some cs)(hcnt:cs.countP (·==true)=1)(hidx:List.findIdx? (·==true) bs=some j)(hw:words[j]?=some w):
  ∃ S',Uy [.lst q] S=.ok w S'/\Ex S S':=by
 have e1:sa (ls (ac (cn (.str "nogate")) (ac (cn (.str "dry")) (ac (cn (.str "full")) (ac (cn (.str "nospring")) (ac (cn (.str "nobarge")) (ac (cn (.str "noroom")) (ac (cn (.str "uneven")) (ac (cn (.str "shallow")) (ac (cn (.str "falls")) (ac (cn (.str "notext")) (ac (cn (.str "toomany")) (ac (cn (.str "noline")) an))))))))))))) (gn 1) [some (.lst q),none] S=.nx [some (.lst q),some (.lst S.length)] (S++[⟨false,words⟩]):=by simp[words]
 have x1:Ex S (S++[⟨false,words⟩]):=Ex.app
 have w1:(S++[(⟨false,words⟩:Cell)])[S.length]?=some ⟨false,words⟩:=Gr
 have h1:=x1.at h
 generalize S++[(⟨false,words⟩:Cell)]=S1 at *
 have x2:Ex S1 (S1++[⟨false,DL.Qs m none (some 12)⟩]):=Ex.app
 have sl:=Hch (lo:=none) (hi:=some 12) h1
 have c1:(S1++[(⟨false,DL.Qs m none (some 12)⟩:Cell)])[S1.length]?=some ⟨false,DL.Qs m none (some 12)⟩:=Gr
 have h2:=x2.at h1
 have w2:=x2.at w1
 have ln:Hd [.lst q] S1=.ok (.int 13) S1:=by rw[Zi h1,hl]; rfl
 generalize hS2:S1++[(⟨false,DL.Qs m none (some 12)⟩:Cell)]=S2 at *
 have il:=isL c1
 have ct:Giu (.lst S1.length) [.bl true] S2=.ok (.int 1) S2:=by
  simp only[Giu,c1,hc]
  rw[if_pos trivial,hcnt]
  rfl
 have g12:DL.getD (.lst q) (.int 12) S2=.ok (.bl true) S2:=Jt h2 (Gw (by decide) h12)
 have ix:Giv (.lst q) [.bl true] S2=.ok (.int j) S2:=by
  simp only[Giv,h2,hb,hidx]
  rw[if_pos trivial]
 have iq:=isL h2
 have gw:DL.getD (.lst S.length) (.int j) S2=.ok w S2:=Jt w2 (Gw (by omega) (by rw[AK]; exact hw))
 refine⟨S2,?_,x1.trans x2⟩
 refine(Gn (m:=2) (b:=Ux)).trans ?_
 show fin (Ux [some (.lst q),none] S)=_
 unfold Ux
 refine(Gc e1).trans ?_
 refine(Gc (U':=[some (.lst q),some (.lst S.length)]) (S':=S2) ?_).trans ?_
 ·simp[ln,sl,il,ct,g12,Vp]
 ·simp[iq,ix,gw]
def mks(y:Str):List D:=ys.map (fun x=>.bl (decide (y∈[x])))++[.bl (decide (y∈ys))]
def Vy(y:Str):D:=match (ys.zip words).lookup y with
 | some w=>w
 | none=>.non
def Gs6(y:Str):List Bool:=ys.map (fun x=>decide (y∈[x]))++[decide (y∈ys)]
def Qm(j:Nat)(y:Str)(h:S[q]?=some ⟨false,mks y⟩)(h1:(mks y)[12]?=some (.bl true):=by kernel_rfl!)(h2:Gei (mks y)=some (Gs6 y):=by kernel_rfl!)(h3:Gei (DL.Qs (mks y) none (some 12))=some ((Gs6 y).take 12):=by kernel_rfl!)(h4:((Gs6 y).take 12).countP (·==true)=1:=by decide +kernel)(h5:List.findIdx? (·==true) (Gs6 y)=some j:=by kernel_rfl!)(h6:words[j]?=some (Vy y):=by kernel_rfl!):∃ S',Uy [.lst q] S=.ok (Vy y) S'/\Ex S S':=
 Gs5 h rfl h1 h2 h3 h4 h5 h6
def Gy3(hy:y∈ys)(h:S[q]?=some ⟨false,mks y⟩):∃ S',Uy [.lst q] S=.ok (Vy y) S'/\Ex S S':=by
 simp only[ys,Af,AR,or_false] at hy
 rcases hy with rfl | rfl | rfl | rfl | rfl | rfl | rfl | rfl | rfl | rfl | rfl | rfl
 ·exact Qm 0 _ h
 ·exact Qm 1 _ h
 ·exact Qm 2 _ h
 ·exact Qm 3 _ h
 ·exact Qm 4 _ h
 ·exact Qm 5 _ h
 ·exact Qm 6 _ h
 ·exact Qm 7 _ h
 ·exact Qm 8 _ h
 ·exact Qm 9 _ h
 ·exact Qm 10 _ h
 ·exact Qm 11 _ h
def Gy4{p:Nat}(hp:S[p]?=some ⟨false,[]⟩)(hq:S[q]?=some ⟨false,[]⟩):neD (.lst p) (.lst q) S=.ok (.bl false) S:=by
 have e:∀ i,S[i]?=some ⟨false,[]⟩->toP S 40 (.lst i)=some (.list []):=fun i h=>by
  show(match S[i]? with | some c=>(Jm (toP S 39) c.xs).map PyData.list | none=>none)=_
  rw[h]; rfl
 simp only[neD,e p hp,e q hq]
 rfl
def Gj7{S:Sto}{n:Nat}:∀ bs:List Bool,Jm (toP S (n+1)) (bs.map D.bl)=some (bs.map PyData.bool)
 | []=>rfl
 | b::r=>by
  have:=Gj7 (S:=S) (n:=n) r
  rw[As,As]
  simp only[Jm,this]
  rfl
def Gj8:∀ L:List Bool,PyData.canLayAll0 (L.map .bool)=true
 | []=>rfl
 | b::r=>by simp[PyData.canLayAll0,PyData.canLay0,Gj8 r]
def Gj9:∀ L:List Bool,PyData.depthAll (L.map .bool)=0
 | []=>rfl
 | b::r=>by simp[PyData.depthAll,PyData.depth,Gj9 r]
def Gs7{p:Nat}{bs:List Bool}(hp:S[p]?=some ⟨false,(b::bs).map D.bl⟩)(hq:S[q]?=some ⟨false,[]⟩):neD (.lst p) (.lst q) S=.ok (.bl true) S:=by
 have e1:toP S 40 (.lst p)=some (.list ((b::bs).map .bool)):=by
  show(match S[p]? with | some c=>(Jm (toP S 39) c.xs).map PyData.list | none=>none)=_
  rw[hp]
  show(Jm (toP S 39) ((b::bs).map D.bl)).map PyData.list=_
  rw[Gj7]; rfl
 have e2:toP S 40 (.lst q)=some (.list []):=by
  show(match S[q]? with | some c=>(Jm (toP S 39) c.xs).map PyData.list | none=>none)=_
  rw[hq]; rfl
 simp only[neD,e1,e2]
 rw[if_pos (by simp[SeqAt.shaped,PyData.canLay0,PyData.canLayAll0,Gj8,PyData.depth,PyData.depthAll,Gj9])]
 rfl
def Go2{hh:XD->Sv}{fb:Sv}(h:fb U S=.nx U' S'):Xd ys hh fb U S=.nx U' S':=by simp only[Xd,h]
def Gka{hh:XD->Sv}{fb:Sv}{x:XD}(h:fb U S=.exc x U' S')(hy:x.cls∈ys):Xd ys hh fb U S=hh x U' S':=by simp only[Xd,h,if_pos hy]
def Gy5{i:Nat}{fh:Sv}{x:XD}(h:fh (U.set i (some (.exn x.cls x.fld))) S=.nx U' S'):hdl i fh x U S=.nx (U'.set i none) S':=by simp only[hdl,h]
def Go3(y:Str):∃ b bs,mks y=(b::bs).map D.bl:=⟨decide (y∈(["NoGate"]:List Str)),[decide (y∈(["Dry"]:List Str)),decide (y∈(["Full"]:List Str)),decide (y∈(["NoSpring"]:List Str)),decide (y∈(["NoBarge"]:List Str)),decide (y∈(["NoRoom"]:List Str)),decide (y∈(["Uneven"]:List Str)),decide (y∈(["Shallow"]:List Str)),decide (y∈(["Falls"]:List Str)),decide (y∈(["NoText"]:List Str)),decide (y∈(["TooMany"]:List Str)),decide (y∈(["NoLine"]:List Str)),decide (y∈ys)],rfl⟩
noncomputable def gd(u:Bool):D:=.str (if u=true then "up" else "down")
def cD(ps:List Pl)(us:List Bool):D:=.tup [.tup (ps.map Pl.toD),.tup (us.map gd)]
def Ghx:∀ {gs:List D},(∀ g∈gs,g=.str "up"\/g=.str "down")->∃ us:List Bool,gs=us.map gd
 | [],_=>⟨[],rfl⟩
 | g::r,h=>by
  obtain⟨us,e⟩:=Ghx fun x hx=>h x (Au _ hx)
  rcases h g Av with z | z
  ·exact⟨true::us,by rw[e,z]; rfl⟩
  ·exact⟨false::us,by rw[e,z]; rfl⟩
inductive Res where
 | no (y:Str) | yes (d:D)
noncomputable def Res.out(r:Res)(S:Sto):Out D:=match r with
 | .no y=>.exc ⟨y,none⟩ S
 | .yes d=>.ok d S
def Res.toD:Res->D
 | .no y=>Vy y
 | .yes d=>d
def Res.ok:Res->Prop
 | .no y=>y∈ys
 | .yes _=>True
section
variable{ps:List Pl}{us:List Bool}{L R F:List Int}{S:Sto}
def cd0:DL.getD (cD ps us) (.int 0) S=.ok (.tup (ps.map Pl.toD)) S:=Jc (Gw (by decide) rfl)
def cd1:DL.getD (cD ps us) (.int 1) S=.ok (.tup (us.map gd)) S:=Jc (Gw (by decide) rfl)
def st0:DL.getD (stD L R F) (.int 0) S=.ok (.tup (L.map D.int)) S:=Jc (Gw (by decide) rfl)
def st1:DL.getD (stD L R F) (.int 1) S=.ok (.tup (R.map D.int)) S:=Jc (Gw (by decide) rfl)
def st2:DL.getD (stD L R F) (.int 2) S=.ok (.tup (F.map D.int)) S:=Jc (Gw (by decide) rfl)
def Vz(h:ps[k]?=some p):DL.getD (.tup (ps.map Pl.toD)) (.int k) S=.ok p.toD S:=
 Jc (Gw (by omega) (by rw[AK,Ar,h]; rfl))
def Gkb(h:us[k]?=some u):DL.getD (.tup (us.map gd)) (.int k) S=.ok (gd u) S:=
 Jc (Gw (by omega) (by rw[AK,Ar,h]; rfl))
def Gkc:eqD (gd u) (.str "up") S=.ok (.bl u) S:=by
 cases u
 ·show eqD (.str "down") (.str "up") S=_
  rw[Js (stok _) (stok _)]; rfl
 ·show eqD (.str "up") (.str "up") S=_
  rw[Js (stok _) (stok _)]; rfl
noncomputable def hiI(u:Bool)(k:Nat):Nat:=if u=true then k+1 else k
noncomputable def loI(u:Bool)(k:Nat):Nat:=if u=true then k else k+1
def Gb5(h:us[k]?=some u):Zg [cD ps us,.int k] S=.ok (.int (hiI u k)) S:=by
 refine(Gn (m:=2) (b:=Zf)).trans ?_
 show fin (Zf [some (cD ps us),some (.int k)] S)=_
 have g:=Gkc (u:=u) (S:=S)
 cases u<;>simp[Zf,cd1,Gkb h,c_UP,g,hiI]
def Gd6(h:us[k]?=some u):Ga5 [cD ps us,.int k] S=.ok (.int (loI u k)) S:=by
 refine(Gn (m:=2) (b:=Ga4)).trans ?_
 show fin (Ga4 [some (cD ps us),some (.int k)] S)=_
 have g:=Gkc (u:=u) (S:=S)
 cases u<;>simp[Ga4,cd1,Gkb h,c_UP,g,loI]
def Ku{x y:D}(e:eqD x y S=.ok (.bl b) S):neD x y S=.ok (.bl (!b)) S:=by
 unfold eqD at e
 unfold neD
 split at e
 ·rename_i P Q z1 z2
  by_cases hs:(SeqAt.shaped P&&SeqAt.shaped Q)=true
  ·rw[if_pos hs] at e
   have:PyData.eqv P Q=b:=by injection e with e _; injection e
   rw[if_pos hs,this]
  ·rw[if_neg hs] at e; cases e
 ·cases e
def Go4(h:p.ok):neD p.toD (.tup [.str "end"]) S=.ok (.bl (!p.isE)) S:=Ku (Ggo h)
def Gl2{l:Int}(h:p.ok):Ga2 [p.toD,.int l] S=.ok (.bl (!p.isE&&decide (l=0))) S:=by
 refine(Gn (m:=2) (b:=Ze)).trans ?_
 show fin (Ze [some p.toD,some (.int l)] S)=_
 have n:=Go4 (S:=S) h
 cases z:p.isE<;>rw[z] at n<;>simp[Ze,c_END,n]
def Gd7{l:Int}(h:p.ok):Qq [p.toD,.int l] S=.ok (.bl (!p.isE&&decide (wat p<=l))) S:=by
 refine(Gn (m:=2) (b:=Xg)).trans ?_
 show fin (Xg [some p.toD,some (.int l)] S)=_
 have n:=Go4 (S:=S) h
 have wa:=Go0 (S:=S) h
 cases z:p.isE<;>rw[z] at n<;>simp[Xg,c_END,n,wa]
noncomputable def spr:Pl->Bool
 | .p _ _ _ (.int _)=>true
 | _=>false
def Gl3(h:p.ok):Qv [p.toD] S=.ok (.bl (spr p)) S:=by
 refine(Gn (m:=1) (b:=Jh)).trans ?_
 show fin (Jh [some p.toD] S)=_
 cases p with
 | e=>
  have g:DL.getD (Pl.toD .e) (.int 0) S=.ok (.str "end") S:=Jc (Gw (by decide) rfl)
  simp[Jh,g,s2,spr]
 | c=>
  have g:DL.getD (Pl.toD .c) (.int 0) S=.ok (.str "chamber") S:=Jc (Gw (by decide) rfl)
  simp[Jh,g,s4,spr]
 | p br de ro pr=>
  have g:DL.getD (Pl.toD (.p br de ro pr)) (.int 0) S=.ok (.str "pound") S:=Jc (Gw (by decide) rfl)
  have g4:DL.getD (Pl.toD (.p br de ro pr)) (.int 4) S=.ok pr S:=Jc (Gw (by decide) rfl)
  obtain⟨_,_,_,_,_,_,hpr⟩:=h
  rcases hpr with rfl | ⟨i,rfl,_⟩
  ·simp[Jh,g,g4,s6,spr,Ge9]
  ·simp[Jh,g,g4,s6,spr,Ge9]
def Gkd{n:Int}:Vi [cD ps us,.int n] S=if 0<=n/\n<us.length then .ok .non S else .exc ⟨"NoGate",none⟩ S:=by
 refine(Gn (m:=2) (b:=Jw)).trans ?_
 show fin (Jw [some (cD ps us),some (.int n)] S)=_
 by_cases h1:0<=n
 ·by_cases h2:n<us.length
  ·rw[if_pos ⟨h1,h2⟩]
   simp[Jw,cd1,h1,h2,fin]
  ·rw[if_neg (fun z=>h2 z.2)]
   simp[Jw,cd1,h1,h2,fin,srs]
 ·rw[if_neg (fun z=>h1 z.1)]
  simp[Jw,cd1,h1,fin,srs]
end
noncomputable def hol:Pl->Int->Bool
 | .e,_=>true
 | .c,b=>decide (b<=1)
 | .p _ _ ro _,b=>decide (b<=ro)
def Go5{b:Int}(h:p.ok):Zo [p.toD,.int b] S=.ok (.bl (hol p b)) S:=by
 have e1:=fun S=>Ggo (S:=S) h
 have e2:=fun S=>Gc0 (S:=S) h
 cases p with
 | e=>simp[Zo,fnB,Ga3,c_END,c_CHAMBER,e1,Pl.isE,hol]
 | c=>simp[Zo,fnB,Ga3,c_END,c_CHAMBER,e1,e2,Pl.isE,Pl.isC,hol]
 | p br de ro pr=>
  have g:∀ S,DL.getD (Pl.toD (.p br de ro pr)) (.int 3) S=.ok (.int ro) S:=fun S=>p3e
  simp[Zo,fnB,Ga3,c_END,c_CHAMBER,e1,e2,Pl.isE,Pl.isC,hol,g]
noncomputable def wd(b:Bool):D:=.str (if b=true then "right" else "left")
def sel(b:Bool)(R F:List Int):List Int:=if b=true then R else F
def Zp:eqD (wd b) (.str "right") S=.ok (.bl b) S:=by
 cases b
 ·show eqD (.str "left") (.str "right") S=_
  rw[Js (stok _) (stok _)]; rfl
 ·show eqD (.str "right") (.str "right") S=_
  rw[Js (stok _) (stok _)]; rfl
def Go6{R F:List Int}:Wf [stD L R F,wd b] S=.ok (.tup ((sel b R F).map D.int)) S:=by
 refine(Gn (m:=2) (b:=Us)).trans ?_
 show fin (Us [some (stD L R F),some (wd b)] S)=_
 have w:=Zp (S:=S) (b:=b)
 have g1:DL.getD (stD L R F) (.int 1) S=.ok (.tup (R.map D.int)) S:=p1e
 have g2:DL.getD (stD L R F) (.int 2) S=.ok (.tup (F.map D.int)) S:=Jc (Gw (by decide) rfl)
 cases b<;>simp[Us,w,g1,g2,sel]
structure Rw(S:Sto)(q x y z:Nat)(A B C:List D):Prop where
 q0:S[q]?=some ⟨false,[.lst x,.lst y,.lst z]⟩
 q1:S[x]?=some ⟨false,A⟩
 q2:S[y]?=some ⟨false,B⟩
 q3:S[z]?=some ⟨false,C⟩
def Go7{f:Ev D}(hf:f U S=.ok (.tup [.tup A,.tup B,.tup C]) S):∃ S',cmp (isrc f) [none] (gn 0) ttrue (b1 Qr (ac (vr 0) an)) U S=.ok (.lst S.length) S'/\Rw S' S.length (S.length+1) (S.length+2) (S.length+3) A B C/\Ex S S':=by
 have w:∀ (l:Sto) (j:Nat),(S++l)[S.length+j]?=l[j]?:=fun l j=>by
  rw[AU (by omega)]
  congr 1
  omega
 have w0:∀ l:Sto,(S++l)[S.length]?=l[0]?:=fun l=>w l 0
 have st:∀ (l:Sto) (c:Cell) (X:D),(S++(c::l)).set S.length ⟨false,c.xs++[X]⟩=S++(⟨false,c.xs++[X]⟩::l):=fun l c X=>by
  rw[List.set_append_right _ _ (Ac _),Nat.sub_self]; rfl
 have ev:∀ (X:List D) (S':Sto),b1 Qr (ac (vr 0) an) [some (.tup X)] S'=.ok (.lst S'.length) (S'++[⟨false,X⟩]):=fun X S'=>by simp[Gi6]
 have b1':cbody S.length ttrue (b1 Qr (ac (vr 0) an)) [some (.tup A)] (S++[⟨false,[]⟩])=.nx [some (.tup A)] (S++[⟨false,[.lst (S.length+1)]⟩,⟨false,A⟩]):=by
  have:=Kt (a:=S.length) (ev A (S++[⟨false,[]⟩])) (xs:=[]) (by rw[AM]; exact w0 _) (by simp)
  rw[this,AM]
  refine congrArg (OS.nx _) ?_
  have q:=st [⟨false,A⟩] ⟨false,[]⟩ (.lst (S.length+1))
  simpa using q
 have b2':cbody S.length ttrue (b1 Qr (ac (vr 0) an)) [some (.tup B)] (S++[⟨false,[.lst (S.length+1)]⟩,⟨false,A⟩])=.nx [some (.tup B)] (S++[⟨false,[.lst (S.length+1),.lst (S.length+2)]⟩,⟨false,A⟩,⟨false,B⟩]):=by
  have:=Kt (a:=S.length) (ev B (S++[⟨false,[.lst (S.length+1)]⟩,⟨false,A⟩])) (xs:=[.lst (S.length+1)]) (by rw[AM]; exact w0 _) (by simp)
  rw[this,AM]
  refine congrArg (OS.nx _) ?_
  have q:=st [⟨false,A⟩,⟨false,B⟩] ⟨false,[.lst (S.length+1)]⟩ (.lst (S.length+2))
  simpa using q
 have b3':cbody S.length ttrue (b1 Qr (ac (vr 0) an)) [some (.tup C)] (S++[⟨false,[.lst (S.length+1),.lst (S.length+2)]⟩,⟨false,A⟩,⟨false,B⟩])=.nx [some (.tup C)] (S++[⟨false,[.lst (S.length+1),.lst (S.length+2),.lst (S.length+3)]⟩,⟨false,A⟩,⟨false,B⟩,⟨false,C⟩]):=by
  have:=Kt (a:=S.length) (ev C (S++[⟨false,[.lst (S.length+1),.lst (S.length+2)]⟩,⟨false,A⟩,⟨false,B⟩])) (xs:=[.lst (S.length+1),.lst (S.length+2)]) (by rw[AM]; exact w0 _) (by simp)
  rw[this,AM]
  refine congrArg (OS.nx _) ?_
  have q:=st [⟨false,A⟩,⟨false,B⟩,⟨false,C⟩] ⟨false,[.lst (S.length+1),.lst (S.length+2)]⟩ (.lst (S.length+3))
  simpa using q
 have lp:Qe (Gyx [.tup A,.tup B,.tup C]).nxt (gn 0) (cbody S.length ttrue (b1 Qr (ac (vr 0) an))) (Gyx [.tup A,.tup B,.tup C]).fuel 0 [none] (S++[⟨false,[]⟩])=.nx [some (.tup C)] (S++[⟨false,[.lst (S.length+1),.lst (S.length+2),.lst (S.length+3)]⟩,⟨false,A⟩,⟨false,B⟩,⟨false,C⟩]):=by
  show Qe _ _ _ (3+1) 0 _ _=_
  rw[Qb (d:=.tup A) rfl rfl b1',Qb (d:=.tup B) rfl rfl b2',Qb (d:=.tup C) rfl rfl b3',Gb4 rfl]
 refine⟨_,Gak (s:=Gyx [.tup A,.tup B,.tup C]) (S1:=S) (by rw[Xu,hf]; rfl) lp,⟨w0 _,w _ 1,w _ 2,w _ 3⟩,⟨by simp,fun i hi=>by rw[Aq hi]⟩⟩
def Gs8{x y z:Nat}{f:Ev D}(h:Rw S q x y z A B C)(hf:f U S=.ok (.lst q) S):∃ S',b1 Kv (ac (cmp (isrc f) [none] (gn 0) ttrue (b1 Kv (ac (vr 0) an))) an) U S=.ok (.tup [.tup A,.tup B,.tup C]) S'/\Ex S S':=by
 have ev:∀ (i:Nat) (X:List D) (S':Sto),S'[i]?=some ⟨false,X⟩->b1 Kv (ac (vr 0) an) [some (.lst i)] S'=.ok (.tup X) S':=fun i X S' e=>by simp[Zj e]
 have S1x:Ex S (S++[⟨false,[]⟩]):=Ex.app
 have c0:(S++[(⟨false,[]⟩:Cell)])[S.length]?=some ⟨false,[]⟩:=Gr
 have b1':=Kt (a:=S.length) (U:=[some (.lst x)]) (ev x A _ (S1x.at h.q1)) c0 (by simp)
 have l1:S.length<(S++[(⟨false,[]⟩:Cell)]).length:=by simp
 have S2x:=S1x.setq (q:=S.length) (c:=⟨false,[]++[.tup A]⟩) (Ac _)
 have c1:=Ai (a:=(⟨false,[]++[.tup A]⟩:Cell)) l1
 generalize hS1:(S++[(⟨false,[]⟩:Cell)])=S1 at *
 generalize S1.set S.length ⟨false,[]++[.tup A]⟩=S2 at *
 have b2':=Kt (a:=S.length) (U:=[some (.lst y)]) (ev y B _ (S2x.at h.q2)) c1 (by simp)
 have l2:S.length<S2.length:=(Aa.mp c1).1
 have S3x:=S2x.setq (q:=S.length) (c:=⟨false,([]++[.tup A])++[.tup B]⟩) (Ac _)
 have c2:=Ai (a:=(⟨false,([]++[.tup A])++[.tup B]⟩:Cell)) l2
 generalize S2.set S.length ⟨false,([]++[.tup A])++[.tup B]⟩=S3 at *
 have b3':=Kt (a:=S.length) (U:=[some (.lst z)]) (ev z C _ (S3x.at h.q3)) c2 (by simp)
 have l3:S.length<S3.length:=(Aa.mp c2).1
 have S4x:=S3x.setq (q:=S.length) (c:=⟨false,(([]++[.tup A])++[.tup B])++[.tup C]⟩) (Ac _)
 have c3:=Ai (a:=(⟨false,(([]++[.tup A])++[.tup B])++[.tup C]⟩:Cell)) l3
 generalize S3.set S.length ⟨false,(([]++[.tup A])++[.tup B])++[.tup C]⟩=S4 at *
 have nx:∀ (S':Sto) (k:Nat),Ex S S'->(Wb q 3).nxt k S'=[D.lst x,.lst y,.lst z][k]?:=fun S' k e=>by
  show(S'[q]?).bind (fun c=>c.xs[k]?)=_
  rw[e.at h.q0]; rfl
 have lp:Qe (Wb q 3).nxt (gn 0) (cbody S.length ttrue (b1 Kv (ac (vr 0) an))) (Wb q 3).fuel 0 [none] S1=.nx [some (.lst z)] S4:=by
  show Qe _ _ _ (3+1) 0 _ _=_
  rw[Qb (nx _ _ S1x) rfl b1',Qb (nx _ _ S2x) rfl b2',Qb (nx _ _ S3x) rfl b3',Gb4 (nx _ _ S4x)]
 refine⟨S4,?_,S4x⟩
 have hc:cmp (isrc f) [none] (gn 0) ttrue (b1 Kv (ac (vr 0) an)) U S=.ok (.lst S.length) S4:=by
  unfold cmp
  rw[Xu,hf,Gz,Gbe h.q0]
  show(match Qe (Wb q 3).nxt (gn 0) (cbody S.length ttrue (b1 Kv (ac (vr 0) an))) (Wb q 3).fuel 0 [none] (S++[⟨false,[]⟩]) with | .nx _ S'=>Out.ok (D.lst S.length) S' | _=>.bad)=_
  rw[hS1,lp]
 rw[Gow,Gfe,hc,Gz,Ghu,Gz,Gz,Zj c3]
 rfl
def Rw.ex{x y z:Nat}(h:Rw S q x y z A B C)(e:Ex S S'):Rw S' q x y z A B C:=⟨e.at h.q0,e.at h.q1,e.at h.q2,e.at h.q3⟩
def Gb6:("NoGate":Str)∈ys/\("Dry":Str)∈ys/\("Full":Str)∈ys/\("NoSpring":Str)∈ys:=by decide +kernel
def adw(p:Pl)(L:List Int)(i:Nat)(l d:Int):List Int:=if p.isE=true then L else L.set i (l+d)
section
variable{ps:List Pl}{us:List Bool}{L R F:List Int}{S:Sto}
def Gke{i:Nat}{f:Ev (List D)}{a b:D}(h:f U S=.ok [a,b] S'):spar i j f U S=.nx ((U.set i (some a)).set j (some b)) S':=by
 unfold spar
 rw[h]
 rfl
def Gs9(hu:us[k]?=some u)(h1:ps[hiI u k]?=some pH)(h2:ps[loI u k]?=some pL)(h3:L[hiI u k]?=some lH)(h4:L[loI u k]?=some lL)(ok1:pH.ok)(ok2:pL.ok):
  Wg [cD ps us,stD L R F,.int k] S=if(!pH.isE&&decide (lH=0))=true then .exc ⟨"Dry",none⟩ S else if(!pL.isE&&decide (wat pL<=lL))=true then .exc ⟨"Full",none⟩ S else .ok .non S:=by
 have hk:k<us.length:=(Aa.mp hu).1
 have cg:=Gkd (ps:=ps) (us:=us) (n:=(k:Int)) (S:=S)
 rw[if_pos ⟨by omega,by omega⟩] at cg
 have cg:=Zz cg
 have hi:=Gb5 (ps:=ps) (S:=S) hu
 have lo:=Gd6 (ps:=ps) (S:=S) hu
 have dry:=Gl2 (l:=lH) (S:=S) ok1
 have ful:=Gd7 (l:=lL) (S:=S) ok2
 refine(Gn (m:=7) (b:=Jp)).trans ?_
 show fin (Jp [some (cD ps us),some (stD L R F),some (.int k),none,none,none,none] S)=_
 unfold Jp
 refine(Gc (U':=[some (cD ps us),some (stD L R F),some (.int k),none,none,none,none]) (S':=S) (by simp[cg])).trans ?_
 refine(Gc (U':=[some (cD ps us),some (stD L R F),some (.int k),some (.tup (ps.map Pl.toD)),some (.tup (L.map D.int)),none,none]) (S':=S) (Gke (by simp[cd0,st0]))).trans ?_
 refine(Gc (U':=[some (cD ps us),some (stD L R F),some (.int k),some (.tup (ps.map Pl.toD)),some (.tup (L.map D.int)),some (.int (hiI u k)),none]) (S':=S) (by simp[hi])).trans ?_
 refine(Gc (U':=[some (cD ps us),some (stD L R F),some (.int k),some (.tup (ps.map Pl.toD)),some (.tup (L.map D.int)),some (.int (hiI u k)),some (.int (loI u k))]) (S':=S) (by simp[lo])).trans ?_
 have g1:=Vz (S:=S) h1
 have g2:=Vz (S:=S) h2
 have g3:=Vm (S:=S) h3
 have g4:=Vm (S:=S) h4
 have t1:tt (cl 2 (Gg Ga2) (ac (o2 DL.getD (vr 3) (vr 5)) (ac (o2 DL.getD (vr 4) (vr 5)) an))) [some (cD ps us),some (stD L R F),some (.int k),some (.tup (ps.map Pl.toD)),some (.tup (L.map D.int)),some (.int (hiI u k)),some (.int (loI u k))] S=.ok (!pH.isE&&decide (lH=0)) S:=by
  simp[g1,g3,dry,Vp]
 have t2:tt (cl 2 (Gg Qq) (ac (o2 DL.getD (vr 3) (vr 6)) (ac (o2 DL.getD (vr 4) (vr 6)) an))) [some (cD ps us),some (stD L R F),some (.int k),some (.tup (ps.map Pl.toD)),some (.tup (L.map D.int)),some (.int (hiI u k)),some (.int (loI u k))] S=.ok (!pL.isE&&decide (wat pL<=lL)) S:=by
  simp[g2,g4,ful,Vp]
 by_cases c1:(!pH.isE&&decide (lH=0))=true
 ·rw[if_pos c1]
  rw[c1] at t1
  refine Jz (U':=[some (cD ps us),some (stD L R F),some (.int k),some (.tup (ps.map Pl.toD)),some (.tup (L.map D.int)),some (.int (hiI u k)),some (.int (loI u k))]) ?_
  rw[Hw t1]
  simp[srs]
 ·rw[if_neg c1]
  rw[AW.mpr c1] at t1
  refine(Gc (U':=[some (cD ps us),some (stD L R F),some (.int k),some (.tup (ps.map Pl.toD)),some (.tup (L.map D.int)),some (.int (hiI u k)),some (.int (loI u k))]) (S':=S) (by rw[Hg t1]; rfl)).trans ?_
  by_cases c2:(!pL.isE&&decide (wat pL<=lL))=true
  ·rw[if_pos c2]
   rw[c2] at t2
   rw[Hw t2]
   simp[srs,fin]
  ·rw[if_neg c2]
   rw[AW.mpr c2] at t2
   rw[Hg t2]
   rfl
def Gux{i:Nat}{l d:Int}(hp:ps[i]?=some p)(hl:L[i]?=some l)(ok:p.ok)(hL:L.length<=1000):Vk [cD ps us,.tup (L.map D.int),.int i,.int d] S=.ok (.tup ((adw p L i l d).map D.int)) S:=by
 have e:=Ggo (S:=S) ok
 have mo:=Gc1 (S:=S) (m:=d) hl hL
 have g:=Vz (S:=S) hp
 refine(Gn (m:=4) (b:=Kz)).trans ?_
 show fin (Kz [some (cD ps us),some (.tup (L.map D.int)),some (.int i),some (.int d)] S)=_
 unfold adw
 cases z:p.isE
 ·rw[z] at e
  simp[Kz,cd0,g,c_END,e,mo,-List.map_set]
 ·rw[z] at e
  simp[Kz,cd0,g,c_END,e]
def Gta{i:Nat}{l d:Int}:(adw p L i l d).length=L.length:=by unfold adw; split<;>simp
def Go8{i:Nat}{l d:Int}(h:i≠j):(adw p L i l d)[j]?=L[j]?:=by
 unfold adw
 split
 ·rfl
 ·exact Ae h
def Guy:hiI u k≠loI u k:=by cases u<;>simp[hiI,loI]
def Hck(hu:us[k]?=some u)(h1:ps[hiI u k]?=some pH)(h2:ps[loI u k]?=some pL)(h3:L[hiI u k]?=some lH)(h4:L[loI u k]?=some lL)(ok1:pH.ok)(ok2:pL.ok)(hL:L.length<=1000):
  Gai [cD ps us,stD L R F,.int k] S=.ok (stD (adw pL (adw pH L (hiI u k) lH (-1)) (loI u k) lL 1) R F) S:=by
 have hi:=Gb5 (ps:=ps) (S:=S) hu
 have lo:=Gd6 (ps:=ps) (S:=S) hu
 have w1:=Gux (us:=us) (d := -1) (S:=S) h1 h3 ok1 hL
 have w2:=Gux (us:=us) (L:=adw pH L (hiI u k) lH (-1)) (d:=1) (S:=S) h2 ((Go8 Guy).trans h4) ok2 (by rw[Gta]; exact hL)
 refine(Gn (m:=6) (b:=Vu)).trans ?_
 show fin (Vu [some (cD ps us),some (stD L R F),some (.int k),none,none,none] S)=_
 unfold Vu
 refine(Gc (U':=[some (cD ps us),some (stD L R F),some (.int k),some (.tup (L.map D.int)),some (.tup (R.map D.int)),some (.tup (F.map D.int))]) (S':=S) rfl).trans ?_
 refine(Gc (U':=[some (cD ps us),some (stD L R F),some (.int k),some (.tup ((adw pH L (hiI u k) lH (-1)).map D.int)),some (.tup (R.map D.int)),some (.tup (F.map D.int))]) (S':=S) (by simp[hi,w1])).trans ?_
 refine(Gc (U':=[some (cD ps us),some (stD L R F),some (.int k),some (.tup ((adw pL (adw pH L (hiI u k) lH (-1)) (loI u k) lL 1).map D.int)),some (.tup (R.map D.int)),some (.tup (F.map D.int))]) (S':=S) (by simp[lo,w2])).trans ?_
 simp[stD]
def Go9:eqD (.str "let") (.str "let") S=.ok (.bl true) S:=by rw[Js (stok _) (stok _)]; rfl
def Hen:eqD (.str "feed") (.str "let") S=.ok (.bl false) S:=by rw[Js (stok _) (stok _)]; rfl
def Gl4:eqD (.str "feed") (.str "feed") S=.ok (.bl true) S:=by rw[Js (stok _) (stok _)]; rfl
def Hcl:eqD (.str "let") (.str "feed") S=.ok (.bl false) S:=by rw[Js (stok _) (stok _)]; rfl
def Gl5(u:Bool)(k:Nat)(pH pL:Pl)(lH lL:Int)(L R F:List Int):Res:=
 if(!pH.isE&&decide (lH=0))=true then .no "Dry" else if(!pL.isE&&decide (wat pL<=lL))=true then .no "Full" else .yes (.tup [stD (adw pL (adw pH L (hiI u k) lH (-1)) (loI u k) lL 1) R F,.int 0,.int 0])
def dd_let(hu:us[k]?=some u)(h1:ps[hiI u k]?=some pH)(h2:ps[loI u k]?=some pL)(h3:L[hiI u k]?=some lH)(h4:L[loI u k]?=some lL)(ok1:pH.ok)(ok2:pL.ok)(hL:L.length<=1000):
  Gu [cD ps us,stD L R F,.tup [.str "let",.int k]] S=(Gl5 u k pH pL lH lL L R F).out S:=by
 have cl':=Gs9 (R:=R) (F:=F) (S:=S) hu h1 h2 h3 h4 ok1 ok2
 have ld:=Hck (R:=R) (F:=F) (S:=S) hu h1 h2 h3 h4 ok1 ok2 hL
 refine(Gn (m:=8) (b:=Gx)).trans ?_
 show fin (Gx [some (cD ps us),some (stD L R F),some (.tup [.str "let",.int k]),none,none,none,none,none] S)=_
 unfold Gx
 refine(Gc (U':=[some (cD ps us),some (stD L R F),some (.tup [.str "let",.int k]),some (.str "let"),some (.int k),none,none,none]) (S':=S) rfl).trans ?_
 unfold Gl5
 by_cases c1:(!pH.isE&&decide (lH=0))=true
 ·rw[if_pos c1] at cl' ⊢
  have gx:=Qo cl' Gb6.2.1
  exact Jz (U':=[some (cD ps us),some (stD L R F),some (.tup [.str "let",.int k]),some (.str "let"),some (.int k),none,none,none]) (by simp[Go9,gx])
 ·rw[if_neg c1] at cl' ⊢
  by_cases c2:(!pL.isE&&decide (wat pL<=lL))=true
  ·rw[if_pos c2] at cl' ⊢
   have gx:=Qo cl' Gb6.2.2.1
   exact Jz (U':=[some (cD ps us),some (stD L R F),some (.tup [.str "let",.int k]),some (.str "let"),some (.int k),none,none,none]) (by simp[Go9,gx])
  ·rw[if_neg c2] at cl' ⊢
   have gx:=Zz cl'
   exact Hy (by simp[Go9,gx,ld])
def dd_nogate{n:Int}(h:¬ (0<=n/\n<us.length)):Gu [cD ps us,stD L R F,.tup [.str "let",.int n]] S=.exc ⟨"NoGate",none⟩ S:=by
 have cg:=Gkd (ps:=ps) (us:=us) (n:=n) (S:=S)
 rw[if_neg h] at cg
 have cg:=Qo cg Gb6.1
 have cl':Wg [cD ps us,stD L R F,.int n] S=.exc ⟨"NoGate",none⟩ S:=by
  refine(Gn (m:=7) (b:=Jp)).trans ?_
  show fin (Jp [some (cD ps us),some (stD L R F),some (.int n),none,none,none,none] S)=_
  unfold Jp
  exact Jz (U':=[some (cD ps us),some (stD L R F),some (.int n),none,none,none,none]) (by simp[cg])
 have gx:=Qo cl' Gb6.1
 refine(Gn (m:=8) (b:=Gx)).trans ?_
 show fin (Gx [some (cD ps us),some (stD L R F),some (.tup [.str "let",.int n]),none,none,none,none,none] S)=_
 unfold Gx
 refine(Gc (U':=[some (cD ps us),some (stD L R F),some (.tup [.str "let",.int n]),some (.str "let"),some (.int n),none,none,none]) (S':=S) rfl).trans ?_
 exact Jz (U':=[some (cD ps us),some (stD L R F),some (.tup [.str "let",.int n]),some (.str "let"),some (.int n),none,none,none]) (by simp[Go9,gx])
def Xj(k:Nat)(p:Pl)(l:Int)(L R F:List Int):Res:=match p with
 | .p br _ _ (.int i)=>if br<=l then .no "Full" else .yes (.tup [stD (L.set k (l+1)) R F,.int i,.int 0])
 | _=>.no "NoSpring"
def Guz{br de ro:Int}{pr:D}:DL.getD (Pl.toD (.p br de ro pr)) (.int 4) S=.ok pr S:=Jc (Gw (by decide) rfl)
def Gpa{l:Int}(hp:ps[k]?=some p)(hl:L[k]?=some l)(ok:p.ok):Vj [cD ps us,stD L R F,.int k] S=match Xj k p l L R F with
  | .no y=>.exc ⟨y,none⟩ S
  | .yes _=>.ok .non S:=by
 have hk:k<ps.length:=(Aa.mp hp).1
 have sp:=Gl3 (S:=S) ok
 have fu:=Gd7 (l:=l) (S:=S) ok
 have g1:=Vz (S:=S) hp
 have g2:=Vm (S:=S) hl
 refine(Gn (m:=5) (b:=Qy)).trans ?_
 show fin (Qy [some (cD ps us),some (stD L R F),some (.int k),none,none] S)=_
 unfold Qy
 refine(Gc (U':=[some (cD ps us),some (stD L R F),some (.int k),some (.tup (ps.map Pl.toD)),some (.tup (L.map D.int))]) (S':=S) (Gke (by simp[cd0,st0]))).trans ?_
 have hk':(k:Int)<ps.length:=by omega
 have t1:(to (tn (tb (ch leD ltD (cn (.int 0)) (vr 2) (b1 Hd (ac (vr 3) an))))) (tn (tt (cl 1 (Gg Qv) (ac (o2 DL.getD (vr 3) (vr 2)) an))))) [some (cD ps us),some (stD L R F),some (.int k),some (.tup (ps.map Pl.toD)),some (.tup (L.map D.int))] S=.ok (!spr p) S:=by
  simp[hk',g1,sp,Vp]
 have t2:tt (cl 2 (Gg Qq) (ac (o2 DL.getD (vr 3) (vr 2)) (ac (o2 DL.getD (vr 4) (vr 2)) an))) [some (cD ps us),some (stD L R F),some (.int k),some (.tup (ps.map Pl.toD)),some (.tup (L.map D.int))] S=.ok (!p.isE&&decide (wat p<=l)) S:=by
  simp[g1,g2,fu,Vp]
 have no:spr p=false->fin (sq (sif (to (tn (tb (ch leD ltD (cn (.int 0)) (vr 2) (b1 Hd (ac (vr 3) an))))) (tn (tt (cl 1 (Gg Qv) (ac (o2 DL.getD (vr 3) (vr 2)) an))))) (srs "NoSpring" (ac (cn (.str "there is no spring at this place")) an)) DL.skip) (sif (tt (cl 2 (Gg Qq) (ac (o2 DL.getD (vr 3) (vr 2)) (ac (o2 DL.getD (vr 4) (vr 2)) an)))) (srs "Full" (ac (cn (.str "the pound is at its brim")) an)) DL.skip) [some (cD ps us),some (stD L R F),some (.int k),some (.tup (ps.map Pl.toD)),some (.tup (L.map D.int))] S)=.exc ⟨"NoSpring",none⟩ S:=fun z=>by
  rw[z] at t1
  exact Jz (U':=[some (cD ps us),some (stD L R F),some (.int k),some (.tup (ps.map Pl.toD)),some (.tup (L.map D.int))]) (by rw[Hw t1]; simp[srs])
 cases p with
 | e=>exact no rfl
 | c=>exact no rfl
 | p br de ro pr=>
  obtain⟨_,_,_,_,_,_,hpr⟩:=id ok
  rcases hpr with rfl | ⟨i,rfl,_⟩
  ·exact no rfl
  ·refine(Gc (U':=[some (cD ps us),some (stD L R F),some (.int k),some (.tup (ps.map Pl.toD)),some (.tup (L.map D.int))]) (S':=S) (by rw[Hg t1]; rfl)).trans ?_
   have t2:tt (cl 2 (Gg Qq) (ac (o2 DL.getD (vr 3) (vr 2)) (ac (o2 DL.getD (vr 4) (vr 2)) an))) [some (cD ps us),some (stD L R F),some (.int k),some (.tup (ps.map Pl.toD)),some (.tup (L.map D.int))] S=.ok (decide (br<=l)) S:=t2
   show _=(match (if br<=l then Res.no "Full" else Res.yes (.tup [stD (L.set k (l+1)) R F,.int i,.int 0])) with | .no y=>Out.exc ⟨y,none⟩ S | .yes _=>.ok D.non S)
   by_cases c:br<=l
   ·rw[if_pos c]
    rw[decide_eq_true c] at t2
    rw[Hw t2]
    simp[srs,fin]
   ·rw[if_neg c]
    rw[decide_eq_false c] at t2
    rw[Hg t2]
    rfl
def dd_feed{l:Int}(hp:ps[k]?=some p)(hl:L[k]?=some l)(ok:p.ok)(hL:L.length<=1000):Gu [cD ps us,stD L R F,.tup [.str "feed",.int k]] S=(Xj k p l L R F).out S:=by
 have cf:=Gpa (us:=us) (R:=R) (F:=F) (S:=S) hp hl ok
 refine(Gn (m:=8) (b:=Gx)).trans ?_
 show fin (Gx [some (cD ps us),some (stD L R F),some (.tup [.str "feed",.int k]),none,none,none,none,none] S)=_
 unfold Gx
 refine(Gc (U':=[some (cD ps us),some (stD L R F),some (.tup [.str "feed",.int k]),some (.str "feed"),some (.int k),none,none,none]) (S':=S) rfl).trans ?_
 refine(Gc (U':=[some (cD ps us),some (stD L R F),some (.tup [.str "feed",.int k]),some (.str "feed"),some (.int k),none,none,none]) (S':=S) (by simp[Hen])).trans ?_
 have no:∀ y,y∈ys->Xj k p l L R F=.no y->fin (sq (sif (tb (o2 eqD (vr 3) (cn (.str "feed")))) (sq (sx (cl 3 (gX ys Vj) (ac (vr 0) (ac (vr 1) (ac (vr 4) an))))) (sq (sa (vr 1) (gt (gcons (gn 5) (gcons (gn 6) (gcons (gn 7) gnil))) 3)) (sret (tp (ac (tp (ac (cl 3 (Gg Ki) (ac (vr 5) (ac (vr 4) (ac (cn (.int 1)) an)))) (ac (vr 6) (ac (vr 7) an)))) (ac (o2 DL.getD (o2 DL.getD (o2 DL.getD (vr 0) (cn (.int 0))) (vr 4)) (cn (.int 4))) (ac (cn (.int 0)) an))))))) DL.skip) (sq (sx (cl 3 (gX ys Qx) (ac (vr 0) (ac (vr 1) (ac (vr 2) an))))) (sret (tp (ac (cl 2 (Gg Gcy) (ac (vr 1) (ac (vr 2) an))) (ac (cn (.int 0)) (ac (ie (tt (cl 2 (Gg Qz) (ac (vr 0) (ac (vr 2) an)))) (cn (.int 1)) (cn (.int 0))) an)))))) [some (cD ps us),some (stD L R F),some (.tup [.str "feed",.int k]),some (.str "feed"),some (.int k),none,none,none] S)=(Res.no y).out S:=fun y hy z=>by
  rw[z] at cf
  have gx:=Qo cf hy
  exact Jz (U':=[some (cD ps us),some (stD L R F),some (.tup [.str "feed",.int k]),some (.str "feed"),some (.int k),none,none,none]) (by simp[Gl4,gx])
 cases z:Xj k p l L R F with
 | no y=>
  refine no y ?_ z
  unfold Xj at z
  split at z
  ·split at z
   ·cases z; exact Gb6.2.2.1
   ·cases z
  ·cases z; exact Gb6.2.2.2
 | yes d=>
  rw[z] at cf
  have gx:=Zz cf
  unfold Xj at z
  split at z
  ·rename_i br de ro i
   split at z
   ·cases z
   ·cases z
    have g:=Vz (S:=S) hp
    have mo:=Gc1 (S:=S) (m:=1) hl hL
    have pp:=Guz (br:=br) (de:=de) (ro:=ro) (pr:=.int i) (S:=S)
    refine Hy ?_
    rw[Hw (S1:=S) (by simp[Gl4]),Jd (U':=[some (cD ps us),some (stD L R F),some (.tup [.str "feed",.int k]),some (.str "feed"),some (.int k),none,none,none]) (S1:=S) (by simp[gx]),Jd (f:=sa (vr 1) (gt (gcons (gn 5) (gcons (gn 6) (gcons (gn 7) gnil))) 3)) (U':=[some (cD ps us),some (stD L R F),some (.tup [.str "feed",.int k]),some (.str "feed"),some (.int k),some (.tup (L.map D.int)),some (.tup (R.map D.int)),some (.tup (F.map D.int))]) (S1:=S) rfl]
    simp[mo,cd0,g,pp,stD,-List.map_set]
  ·cases z
end
def Ge0:("NoGate":Str)∈ys/\("NoBarge":Str)∈ys/\("NoRoom":Str)∈ys/\("Uneven":Str)∈ys/\("Shallow":Str)∈ys:=by decide +kernel
noncomputable def stI(b:Bool)(k:Nat):Nat:=if b=true then k else k+1
noncomputable def glI(b:Bool)(k:Nat):Nat:=if b=true then k+1 else k
abbrev dM(b:Bool)(n:Int):D:=.tup [wd b,.int n]
noncomputable def shal:Pl->Int->Bool
 | .p _ de _ _,l=>decide (l<de)
 | _,_=>false
section
variable{ps:List Pl}{us:List Bool}{L R F:List Int}{S:Sto}{b:Bool}
def Gpb:eqD (wd b) (.str "let") S=.ok (.bl false) S:=by
 cases b
 ·show eqD (.str "left") (.str "let") S=_
  rw[Js (stok _) (stok _)]; rfl
 ·show eqD (.str "right") (.str "let") S=_
  rw[Js (stok _) (stok _)]; rfl
def Ggr:eqD (wd b) (.str "feed") S=.ok (.bl false) S:=by
 cases b
 ·show eqD (.str "left") (.str "feed") S=_
  rw[Js (stok _) (stok _)]; rfl
 ·show eqD (.str "right") (.str "feed") S=_
  rw[Js (stok _) (stok _)]; rfl
def Gy6:eqD (wd b) (.str "left") S=.ok (.bl (!b)) S:=by
 cases b
 ·show eqD (.str "left") (.str "left") S=_
  rw[Js (stok _) (stok _)]; rfl
 ·show eqD (.str "right") (.str "left") S=_
  rw[Js (stok _) (stok _)]; rfl
def Ghy{n:Int}:Up [dM b n] S=.ok (.int (if b=true then n else n+1)) S:=by
 refine(Gn (m:=3) (b:=Qh)).trans ?_
 show fin (Qh [some (dM b n),none,none] S)=_
 unfold Qh
 refine(Gc (U':=[some (dM b n),some (wd b),some (.int n)]) (S':=S) rfl).trans ?_
 have w:=Zp (b:=b) (S:=S)
 cases b<;>simp[w]
def Gb7{n:Int}:Kk [dM b n] S=.ok (.int (if b=true then n+1 else n)) S:=by
 refine(Gn (m:=3) (b:=Kj)).trans ?_
 show fin (Kj [some (dM b n),none,none] S)=_
 unfold Kj
 refine(Gc (U':=[some (dM b n),some (wd b),some (.int n)]) (S':=S) rfl).trans ?_
 have w:=Zp (b:=b) (S:=S)
 cases b<;>simp[w]
def Hcm:(if b=true then(k:Int) else(k:Int)+1)=((stI b k:Nat):Int):=by cases b<;>simp[stI]
def Gy7:(if b=true then(k:Int)+1 else(k:Int))=((glI b k:Nat):Int):=by cases b<;>simp[glI]
def Gpc:stI b k≠glI b k:=by cases b<;>simp[stI,glI]
def Gkf{l:Int}:Ky [p.toD,.int l] S=.ok (.bl (shal p l)) S:=by
 refine(Gn (m:=2) (b:=Jv)).trans ?_
 show fin (Jv [some p.toD,some (.int l)] S)=_
 cases p with
 | e=>
  have g:DL.getD (Pl.toD .e) (.int 0) S=.ok (.str "end") S:=Jc (Gw (by decide) rfl)
  simp[Jv,g,s2,shal]
 | c=>
  have g:DL.getD (Pl.toD .c) (.int 0) S=.ok (.str "chamber") S:=Jc (Gw (by decide) rfl)
  simp[Jv,g,s4,shal]
 | p br de ro pr=>
  have g:DL.getD (Pl.toD (.p br de ro pr)) (.int 0) S=.ok (.str "pound") S:=Jc (Gw (by decide) rfl)
  have g2:DL.getD (Pl.toD (.p br de ro pr)) (.int 2) S=.ok (.int de) S:=Jc (Gw (by decide) rfl)
  simp[Jv,g,g2,s6,shal]
def Gtb(hu:us[k]?=some u)(h1:ps[hiI u k]?=some pH)(h2:ps[loI u k]?=some pL)(h3:L[hiI u k]?=some lH)(h4:L[loI u k]?=some lL)(ok1:pH.ok)(ok2:pL.ok):
  Wv [cD ps us,.tup (L.map D.int),.int k] S=if(pH.isC&&decide (lH=1))=true then .exc ⟨"Uneven",none⟩ S else if(pL.isC&&decide (lL=0))=true then .exc ⟨"Uneven",none⟩ S else if(shal pH lH||shal pL lL)=true then .exc ⟨"Shallow",none⟩ S else .ok .non S:=by
 have hi:=Gb5 (ps:=ps) (S:=S) hu
 have lo:=Gd6 (ps:=ps) (S:=S) hu
 have g1:=Vz (S:=S) h1
 have g2:=Vz (S:=S) h2
 have g3:=Vm (S:=S) h3
 have g4:=Vm (S:=S) h4
 have c1:=Gc0 (S:=S) ok1
 have c2:=Gc0 (S:=S) ok2
 have sh1:=Gkf (p:=pH) (l:=lH) (S:=S)
 have sh2:=Gkf (p:=pL) (l:=lL) (S:=S)
 refine(Gn (m:=6) (b:=Qg)).trans ?_
 show fin (Qg [some (cD ps us),some (.tup (L.map D.int)),some (.int k),none,none,none] S)=_
 unfold Qg
 refine(Gc (U':=[some (cD ps us),some (.tup (L.map D.int)),some (.int k),some (.tup (ps.map Pl.toD)),none,none]) (S':=S) (by simp[cd0])).trans ?_
 refine(Gc (U':=[some (cD ps us),some (.tup (L.map D.int)),some (.int k),some (.tup (ps.map Pl.toD)),some (.int (hiI u k)),none]) (S':=S) (by simp[hi])).trans ?_
 refine(Gc (U':=[some (cD ps us),some (.tup (L.map D.int)),some (.int k),some (.tup (ps.map Pl.toD)),some (.int (hiI u k)),some (.int (loI u k))]) (S':=S) (by simp[lo])).trans ?_
 generalize hU:[some (cD ps us),some (D.tup (L.map D.int)),some (.int k),some (.tup (ps.map Pl.toD)),some (.int (hiI u k)),some (.int (loI u k))]=U
 have v1:vr 1 U S=.ok (.tup (L.map D.int)) S:=by rw[<- hU]; rfl
 have v3:vr 3 U S=.ok (.tup (ps.map Pl.toD)) S:=by rw[<- hU]; rfl
 have v4:vr 4 U S=.ok (.int (hiI u k)) S:=by rw[<- hU]; rfl
 have v5:vr 5 U S=.ok (.int (loI u k)) S:=by rw[<- hU]; rfl
 have t1:ta (tb (o2 eqD (o2 DL.getD (vr 3) (vr 4)) (cn c_CHAMBER))) (tb (o2 eqD (o2 DL.getD (vr 1) (vr 4)) (cn (.int 1)))) U S=.ok (pH.isC&&decide (lH=1)) S:=by
  simp only[Guu,Ghw,Ye,v3,v4,v1,Gz,g1,g3,Gd4,c_CHAMBER,c1,Guw]
  cases pH.isC<;>simp
 have t2:ta (tb (o2 eqD (o2 DL.getD (vr 3) (vr 5)) (cn c_CHAMBER))) (tb (o2 eqD (o2 DL.getD (vr 1) (vr 5)) (cn (.int 0)))) U S=.ok (pL.isC&&decide (lL=0)) S:=by
  simp only[Guu,Ghw,Ye,v3,v5,v1,Gz,g2,g4,Gd4,c_CHAMBER,c2,Guw]
  cases pL.isC<;>simp
 have t3:to (tt (cl 2 (Gg Ky) (ac (o2 DL.getD (vr 3) (vr 4)) (ac (o2 DL.getD (vr 1) (vr 4)) an)))) (tt (cl 2 (Gg Ky) (ac (o2 DL.getD (vr 3) (vr 5)) (ac (o2 DL.getD (vr 1) (vr 5)) an)))) U S=.ok (shal pH lH||shal pL lL) S:=by
  simp only[Hcb,Hca,Gut,Gfe,Ghu,Ye,v3,v4,v5,v1,Gz,g1,g2,g3,g4,AA,AI,if_true,Ghv,sh1,sh2,Vp]
  cases shal pH lH<;>simp[sh2,Vp]
 by_cases e1:(pH.isC&&decide (lH=1))=true
 ·rw[if_pos e1]
  rw[e1] at t1
  exact Jz (by rw[Hw t1]; simp[srs]; rfl)
 ·rw[if_neg e1]
  rw[AW.mpr e1] at t1
  refine(Gc (U':=U) (S':=S) (by rw[Hg t1]; rfl)).trans ?_
  by_cases e2:(pL.isC&&decide (lL=0))=true
  ·rw[if_pos e2]
   rw[e2] at t2
   exact Jz (by rw[Hw t2]; simp[srs]; rfl)
  ·rw[if_neg e2]
   rw[AW.mpr e2] at t2
   refine(Gc (U':=U) (S':=S) (by rw[Hg t2]; rfl)).trans ?_
   by_cases e3:(shal pH lH||shal pL lL)=true
   ·rw[if_pos e3]
    rw[e3] at t3
    rw[Hw t3]
    simp[srs,fin]
   ·rw[if_neg e3]
    rw[AW.mpr e3] at t3
    rw[Hg t3]
    rfl
structure Mv(ps:List Pl)(us:List Bool)(L R F:List Int)(b:Bool)(k:Nat)(u:Bool)(pH pL pG:Pl)(lH lL a g r1 f1:Int):Prop where
 hu:us[k]?=some u
 h1:ps[hiI u k]?=some pH
 h2:ps[loI u k]?=some pL
 h3:L[hiI u k]?=some lH
 h4:L[loI u k]?=some lL
 ok1:pH.ok
 ok2:pL.ok
 hG:ps[glI b k]?=some pG
 okG:pG.ok
 ha:(sel b R F)[stI b k]?=some a
 hg:(sel b R F)[glI b k]?=some g
 hr:R[glI b k]?=some r1
 hf:F[glI b k]?=some f1
 hn:us.length+1=ps.length
 lM:(sel b R F).length<=1000
def Qc(b:Bool)(R F:List Int)(k:Nat)(a g:Int):List Int:=((sel b R F).set (stI b k) (a + -1)).set (glI b k) (g+1)
def Gpd(b:Bool)(L R F:List Int)(k:Nat)(a g:Int):D:=stD L (if b=true then Qc b R F k a g else R) (if b=true then F else Qc b R F k a g)
def Ghz(pH pL pG:Pl)(lH lL a r1 f1:Int):BJ Str:=
 if a=0 then some "NoBarge" else if(hol pG (r1+f1+1))=false then some "NoRoom" else if(pH.isC&&decide (lH=1))=true then some "Uneven" else if(pL.isC&&decide (lL=0))=true then some "Uneven" else if(shal pH lH||shal pL lL)=true then some "Shallow" else none
def Gcj(m:Nat)(b:Bool)(k:Nat)(pH pL pG:Pl)(lH lL a g r1 f1:Int)(L R F:List Int):Res:=match Ghz pH pL pG lH lL a r1 f1 with
 | some y=>.no y
 | none=>.yes (.tup [Gpd b L R F k a g,.int 0,.int (if(glI b k:Int)=(if b=true then(m:Int)-1 else 0) then 1 else 0)])
variable{k:Nat}{u:Bool}{pH pL pG:Pl}{lH lL a g r1 f1:Int}
def Gkg(h:Ghz pH pL pG lH lL a r1 f1=some y):y∈ys:=by
 unfold Ghz at h
 split at h
 ·cases h; exact Ge0.2.1
 ·split at h
  ·cases h; exact Ge0.2.2.1
  ·split at h
   ·cases h; exact Ge0.2.2.2.1
   ·split at h
    ·cases h; exact Ge0.2.2.2.1
    ·split at h
     ·cases h; exact Ge0.2.2.2.2
     ·cases h
def Gpe(v:Mv ps us L R F b k u pH pL pG lH lL a g r1 f1):Qx [cD ps us,stD L R F,dM b k] S=match Ghz pH pL pG lH lL a r1 f1 with
  | some y=>.exc ⟨y,none⟩ S
  | none=>.ok .non S:=by
 have hk:k<us.length:=(Aa.mp v.hu).1
 have cg:=Gkd (ps:=ps) (us:=us) (n:=(k:Int)) (S:=S)
 rw[if_pos ⟨by omega,by omega⟩] at cg
 have cg:=Zz cg
 have bo:=Go6 (b:=b) (L:=L) (R:=R) (F:=F) (S:=S)
 have ah:=Ghy (b:=b) (n:=(k:Int)) (S:=S)
 rw[Hcm] at ah
 have be:=Gb7 (b:=b) (n:=(k:Int)) (S:=S)
 rw[Gy7] at be
 have ga:=Vm (S:=S) v.ha
 have gG:=Vz (S:=S) v.hG
 have gr:=Vm (S:=S) v.hr
 have gf:=Vm (S:=S) v.hf
 have ho:=Go5 (b:=r1+f1+1) (S:=S) v.okG
 have cw:=Gtb (S:=S) v.hu v.h1 v.h2 v.h3 v.h4 v.ok1 v.ok2
 refine(Gn (m:=6) (b:=Ji)).trans ?_
 show fin (Ji [some (cD ps us),some (stD L R F),some (dM b k),none,none,none] S)=_
 unfold Ji
 refine(Gc (U':=[some (cD ps us),some (stD L R F),some (dM b k),some (wd b),some (.int k),none]) (S':=S) rfl).trans ?_
 refine(Gc (U':=[some (cD ps us),some (stD L R F),some (dM b k),some (wd b),some (.int k),none]) (S':=S) (by simp[cg])).trans ?_
 unfold Ghz
 by_cases e1:a=0
 ·rw[if_pos e1]
  subst e1
  exact Jz (U':=[some (cD ps us),some (stD L R F),some (dM b k),some (wd b),some (.int k),none]) (by simp[bo,ah,ga,srs])
 ·rw[if_neg e1]
  refine(Gc (U':=[some (cD ps us),some (stD L R F),some (dM b k),some (wd b),some (.int k),none]) (S':=S) (by simp[bo,ah,ga,e1])).trans ?_
  refine(Gc (U':=[some (cD ps us),some (stD L R F),some (dM b k),some (wd b),some (.int k),some (.int (glI b k))]) (S':=S) (by simp[be])).trans ?_
  by_cases e2:hol pG (r1+f1+1)=false
  ·rw[if_pos e2]
   rw[e2] at ho
   exact Jz (U':=[some (cD ps us),some (stD L R F),some (dM b k),some (wd b),some (.int k),some (.int (glI b k))]) (by simp[cd0,gG,st1,st2,gr,gf,ho,Vp,srs])
  ·rw[if_neg e2]
   have e2:hol pG (r1+f1+1)=true:=by simpa using e2
   rw[e2] at ho
   refine(Gc (U':=[some (cD ps us),some (stD L R F),some (dM b k),some (wd b),some (.int k),some (.int (glI b k))]) (S':=S) (by simp[cd0,gG,st1,st2,gr,gf,ho,Vp])).trans ?_
   by_cases e3:(pH.isC&&decide (lH=1))=true
   ·rw[if_pos e3] at cw ⊢
    have gx:=Qo cw Ge0.2.2.2.1
    simp[st0,gx,fin]
   ·rw[if_neg e3] at cw ⊢
    by_cases e4:(pL.isC&&decide (lL=0))=true
    ·rw[if_pos e4] at cw ⊢
     have gx:=Qo cw Ge0.2.2.2.1
     simp[st0,gx,fin]
    ·rw[if_neg e4] at cw ⊢
     by_cases e5:(shal pH lH||shal pL lL)=true
     ·rw[if_pos e5] at cw ⊢
      have gx:=Qo cw Ge0.2.2.2.2
      simp[st0,gx,fin]
     ·rw[if_neg e5] at cw ⊢
      have gx:=Zz cw
      simp[st0,gx,fin]
def Gpf(v:Mv ps us L R F b k u pH pL pG lH lL a g r1 f1):Gcy [stD L R F,dM b k] S=.ok (Gpd b L R F k a g) S:=by
 have bo:=Go6 (b:=b) (L:=L) (R:=R) (F:=F) (S:=S)
 have ah:=Ghy (b:=b) (n:=(k:Int)) (S:=S)
 rw[Hcm] at ah
 have be:=Gb7 (b:=b) (n:=(k:Int)) (S:=S)
 rw[Gy7] at be
 have m1:=Gc1 (S:=S) (m := -1) v.ha v.lM
 have hg':((sel b R F).set (stI b k) (a + -1))[glI b k]?=some g:=(Ae Gpc).trans v.hg
 have m2:=Gc1 (S:=S) (m:=1) hg' (by rw[A2]; exact v.lM)
 have wb:Wt [stD L R F,wd b,.tup ((Qc b R F k a g).map D.int)] S=.ok (Gpd b L R F k a g) S:=by
  refine(Gn (m:=6) (b:=Qf)).trans ?_
  show fin (Qf [some (stD L R F),some (wd b),some (.tup ((Qc b R F k a g).map D.int)),none,none,none] S)=_
  have w:=Zp (S:=S) (b:=b)
  unfold Qf
  refine(Gc (U':=[some (stD L R F),some (wd b),some (.tup ((Qc b R F k a g).map D.int)),some (.tup (L.map D.int)),some (.tup (R.map D.int)),some (.tup (F.map D.int))]) (S':=S) rfl).trans ?_
  cases b<;>simp[w,Gpd,stD]
 have d0:DL.getD (dM b k) (.int 0) S=.ok (wd b) S:=Jc (Gw (by decide) rfl)
 refine(Gn (m:=4) (b:=Ga6)).trans ?_
 show fin (Ga6 [some (stD L R F),some (dM b k),none,none] S)=_
 unfold Ga6
 refine(Gc (U':=[some (stD L R F),some (dM b k),some (wd b),none]) (S':=S) (by simp[d0])).trans ?_
 refine(Gc (U':=[some (stD L R F),some (dM b k),some (wd b),some (.tup (((sel b R F).set (stI b k) (a + -1)).map D.int))]) (S':=S) (by simp[bo,ah,m1,-List.map_set])).trans ?_
 unfold Qc at wb
 simp[m2,be,wb,-List.map_set]
def Gtc:Qz [cD ps us,dM b k] S=.ok (.bl (decide ((glI b k:Int)=(if b=true then(ps.length:Int)-1 else 0)))) S:=by
 have be:=Gb7 (b:=b) (n:=(k:Int)) (S:=S)
 rw[Gy7] at be
 have d0:DL.getD (dM b k) (.int 0) S=.ok (wd b) S:=Jc (Gw (by decide) rfl)
 have w:=Zp (S:=S) (b:=b)
 refine(Gn (m:=2) (b:=Kl)).trans ?_
 show fin (Kl [some (cD ps us),some (dM b k)] S)=_
 cases b<;>simp[Kl,be,d0,w,cd0]
def dd_move(v:Mv ps us L R F b k u pH pL pG lH lL a g r1 f1):Gu [cD ps us,stD L R F,dM b k] S=(Gcj ps.length b k pH pL pG lH lL a g r1 f1 L R F).out S:=by
 have cm:=Gpe (S:=S) v
 have mo:=Gpf (S:=S) v
 have la:=Gtc (ps:=ps) (us:=us) (b:=b) (k:=k) (S:=S)
 have wl:=Gpb (b:=b) (S:=S)
 have wf:=Ggr (b:=b) (S:=S)
 refine(Gn (m:=8) (b:=Gx)).trans ?_
 show fin (Gx [some (cD ps us),some (stD L R F),some (dM b k),none,none,none,none,none] S)=_
 unfold Gx
 refine(Gc (U':=[some (cD ps us),some (stD L R F),some (dM b k),some (wd b),some (.int k),none,none,none]) (S':=S) rfl).trans ?_
 refine(Gc (U':=[some (cD ps us),some (stD L R F),some (dM b k),some (wd b),some (.int k),none,none,none]) (S':=S) (by simp[wl])).trans ?_
 refine(Gc (U':=[some (cD ps us),some (stD L R F),some (dM b k),some (wd b),some (.int k),none,none,none]) (S':=S) (by simp[wf])).trans ?_
 unfold Gcj
 cases z:Ghz pH pL pG lH lL a r1 f1 with
 | some y=>
  rw[z] at cm
  have gx:=Qo cm (Gkg z)
  exact Jz (U':=[some (cD ps us),some (stD L R F),some (dM b k),some (wd b),some (.int k),none,none,none]) (by simp[gx])
 | none=>
  rw[z] at cm
  have gx:=Zz cm
  refine(Gc (U':=[some (cD ps us),some (stD L R F),some (dM b k),some (wd b),some (.int k),none,none,none]) (S':=S) (by simp[gx])).trans ?_
  by_cases c:(glI b k:Int)=(if b=true then(ps.length:Int)-1 else 0)
  ·rw[decide_eq_true c] at la
   rw[if_pos c]
   simp[mo,la,Vp]
   rfl
  ·rw[decide_eq_false c] at la
   rw[if_neg c]
   simp[mo,la,Vp]
   rfl
def dd_mnogate{n:Int}(h:¬ (0<=n/\n<us.length)):Gu [cD ps us,stD L R F,dM b n] S=.exc ⟨"NoGate",none⟩ S:=by
 have cg:=Gkd (ps:=ps) (us:=us) (n:=n) (S:=S)
 rw[if_neg h] at cg
 have cg:=Qo cg Ge0.1
 have wl:=Gpb (b:=b) (S:=S)
 have wf:=Ggr (b:=b) (S:=S)
 have cm:Qx [cD ps us,stD L R F,dM b n] S=.exc ⟨"NoGate",none⟩ S:=by
  refine(Gn (m:=6) (b:=Ji)).trans ?_
  show fin (Ji [some (cD ps us),some (stD L R F),some (dM b n),none,none,none] S)=_
  unfold Ji
  refine(Gc (U':=[some (cD ps us),some (stD L R F),some (dM b n),some (wd b),some (.int n),none]) (S':=S) rfl).trans ?_
  exact Jz (U':=[some (cD ps us),some (stD L R F),some (dM b n),some (wd b),some (.int n),none]) (by simp[cg])
 have gx:=Qo cm Ge0.1
 refine(Gn (m:=8) (b:=Gx)).trans ?_
 show fin (Gx [some (cD ps us),some (stD L R F),some (dM b n),none,none,none,none,none] S)=_
 unfold Gx
 refine(Gc (U':=[some (cD ps us),some (stD L R F),some (dM b n),some (wd b),some (.int n),none,none,none]) (S':=S) rfl).trans ?_
 refine(Gc (U':=[some (cD ps us),some (stD L R F),some (dM b n),some (wd b),some (.int n),none,none,none]) (S':=S) (by simp[wl])).trans ?_
 refine(Gc (U':=[some (cD ps us),some (stD L R F),some (dM b n),some (wd b),some (.int n),none,none,none]) (S':=S) (by simp[wf])).trans ?_
 exact Jz (U':=[some (cD ps us),some (stD L R F),some (dM b n),some (wd b),some (.int n),none,none,none]) (by simp[gx])
end
noncomputable def pn:Pl->Str
 | .e=>"end"
 | .c=>"chamber"
 | .p _ _ _ _=>"pound"
noncomputable def isP:Pl->Bool
 | .p _ _ _ _=>true
 | _=>false
section
variable{ps:List Pl}{us:List Bool}{L R F:List Int}{S:Sto}
def pl0:DL.getD p.toD (.int 0) S=.ok (.str (pn p)) S:=by cases p<;>exact Jc (Gw (by decide) rfl)
def Gh0:neD (.str (pn p)) (.str "pound") S=.ok (.bl (!isP p)) S:=by
 cases p
 ·exact Ku s2
 ·exact Ku s4
 ·exact Ku s6
def Gkh:neD (.str (pn p)) (.str "end") S=.ok (.bl (!p.isE)) S:=by
 cases p
 ·exact Ku s7
 ·exact Ku s8
 ·exact Ku s9
noncomputable abbrev dL(w:Str)(n:Int):D:=.tup [.str w,.int n]
abbrev rd(ps:List Pl)(us:List Bool)(L R F:List Int)(w:Str)(n:Int)(q:Nat)(x8 x9:BJ D):Lc:=[some (cD ps us),some (stD L R F),some (dL w n),some (.tup (ps.map Pl.toD)),some (.tup (us.map gd)),some (.str w),some (.int n),some (.lst q),x8,x9]
def Wa{i:Nat}{l:Int}(h:S[q]?=some ⟨false,M.map D.int⟩)(hl:M[i]?=some l):DL.getD (.lst q) (.int i) S=.ok (.int l) S:=Jt h (Gw (by omega) (by rw[AK,Ar,hl]; rfl))
def Wk{i:Nat}{l:Int}(h:S[q]?=some ⟨false,M.map D.int⟩)(hl:M[i]?=some l):Jo (.lst q) (.int i) (.int v) S=some (S.set q ⟨false,(M.set i v).map D.int⟩):=by
 have hi:i<M.length:=(Aa.mp hl).1
 rw[Gj1 h (by omega) (by simp; omega),AK,List.map_set]
def Gpg{l:Int}(hp:ps[k]?=some p)(hl:L[k]?=some l)(ok:p.ok)(hw:l<=wat p):∃ S',Ho [cD ps us,stD L R F,dL "feed" k] S=.ok (Xj k p l L R F).toD S'/\Ex S S':=by
 have hk:k<ps.length:=(Aa.mp hp).1
 have q0:(S++[(⟨false,L.map D.int⟩:Cell)])[S.length]?=some ⟨false,L.map D.int⟩:=Gr
 have x1:Ex S (S++[⟨false,L.map D.int⟩]):=Ex.app
 have key:∃ S',fin (sq (sif (tb (o2 eqD (vr 5) (cn (.str "feed")))) (sq (sif (to (tb (o2 ltD (vr 6) (cn (.int 0)))) (to (tb (o2 geD (vr 6) (b1 Hd (ac (vr 3) an)))) (tb (o2 neD (o2 DL.getD (o2 DL.getD (vr 3) (vr 6)) (cn (.int 0))) (cn (.str "pound")))))) (sret (cn (.str "nospring"))) DL.skip) (sq (sif (tb (o2 Gg8 (o2 DL.getD (o2 DL.getD (vr 3) (vr 6)) (cn (.int 4))) (cn .non))) (sret (cn (.str "nospring"))) DL.skip) (sq (sif (tb (o2 eqD (o2 DL.getD (vr 7) (vr 6)) (o2 DL.getD (o2 DL.getD (vr 3) (vr 6)) (cn (.int 1))))) (sret (cn (.str "full"))) DL.skip) (sq (ss (o2 Gq (o2 DL.getD (vr 7) (vr 6)) (cn (.int 1))) (vr 7) (vr 6) Jo) (sret (tp (ac (tp (ac (b1 Kv (ac (vr 7) an)) (ac (o2 DL.getD (vr 1) (cn (.int 1))) (ac (o2 DL.getD (vr 1) (cn (.int 2))) an)))) (ac (o2 DL.getD (o2 DL.getD (vr 3) (vr 6)) (cn (.int 4))) (ac (cn (.int 0)) an))))))))) DL.skip) (fun _ _=>.bad) (rd ps us L R F "feed" k S.length none none) (S++[⟨false,L.map D.int⟩]))=.ok (Xj k p l L R F).toD S'/\Ex S S':=by
  have g1:=fun S=>Vz (ps:=ps) (S:=S) hp
  have h0:¬ ((k:Int)<0):=by omega
  have h1:¬ ((ps.length:Int)<=k):=by omega
  cases hP:isP p with
  | false=>
   refine⟨_,?_,x1⟩
   have e:(Xj k p l L R F).toD=.str "nospring":=by cases p with | p _ _ _ _=>cases hP | _=>rfl
   rw[e]
   have n:=fun S=>Gh0 (p:=p) (S:=S)
   rw[hP] at n
   refine Hy ?_
   rw[Hw (S1:=S++[⟨false,L.map D.int⟩]) (by simp[Gl4])]
   refine Gd5 ?_
   rw[Hw (S1:=S++[⟨false,L.map D.int⟩])]
   ·rfl
   ·simp[h0,h1,g1,pl0,n]
  | true=>
   cases p with
   | e=>cases hP
   | c=>cases hP
   | p br de ro pr=>
    have n:=fun S=>Gh0 (p:=.p br de ro pr) (S:=S)
    have p4:=fun S=>Guz (br:=br) (de:=de) (ro:=ro) (pr:=pr) (S:=S)
    have p1:∀ S,DL.getD (Pl.toD (.p br de ro pr)) (.int 1) S=.ok (.int br) S:=fun S=>Jc (Gw (by decide) rfl)
    have b1':∀ X,(sq (sif (to (tb (o2 ltD (vr 6) (cn (.int 0)))) (to (tb (o2 geD (vr 6) (b1 Hd (ac (vr 3) an)))) (tb (o2 neD (o2 DL.getD (o2 DL.getD (vr 3) (vr 6)) (cn (.int 0))) (cn (.str "pound")))))) (sret (cn (.str "nospring"))) DL.skip) X) (rd ps us L R F "feed" k S.length none none) (S++[⟨false,L.map D.int⟩])=X (rd ps us L R F "feed" k S.length none none) (S++[⟨false,L.map D.int⟩]):=fun X=>by
     refine Jd ?_
     rw[Hg (S1:=S++[⟨false,L.map D.int⟩])]
     ·rfl
     ·simp[h0,h1,g1,pl0,n,isP]
    obtain⟨_,_,_,_,_,_,hpr⟩:=id ok
    have hw:l<=br:=hw
    rcases hpr with rfl | ⟨i,rfl,_⟩
    ·refine⟨_,?_,x1⟩
     refine Hy ?_
     rw[Hw (S1:=S++[⟨false,L.map D.int⟩]) (by simp[Gl4]),b1']
     refine Gd5 ?_
     rw[Hw (S1:=S++[⟨false,L.map D.int⟩])]
     ·rfl
     ·simp[g1,p4,Gg8]
    ·have b2':∀ X,(sq (sif (tb (o2 Gg8 (o2 DL.getD (o2 DL.getD (vr 3) (vr 6)) (cn (.int 4))) (cn .non))) (sret (cn (.str "nospring"))) DL.skip) X) (rd ps us L R F "feed" k S.length none none) (S++[⟨false,L.map D.int⟩])=X (rd ps us L R F "feed" k S.length none none) (S++[⟨false,L.map D.int⟩]):=fun X=>by
      refine Jd ?_
      rw[Hg (S1:=S++[⟨false,L.map D.int⟩])]
      ·rfl
      ·simp[g1,p4,Gg8]
     have gl:=Wa q0 hl
     have t3:tb (o2 eqD (o2 DL.getD (vr 7) (vr 6)) (o2 DL.getD (o2 DL.getD (vr 3) (vr 6)) (cn (.int 1)))) (rd ps us L R F "feed" k S.length none none) (S++[⟨false,L.map D.int⟩])=.ok (decide (l=br)) (S++[⟨false,L.map D.int⟩]):=by
      simp[gl,g1,p1]
     by_cases c:l=br
     ·refine⟨_,?_,x1⟩
      rw[show Xj k (.p br de ro (.int i)) l L R F=.no "Full" from if_pos (by omega)]
      refine Hy ?_
      rw[Hw (S1:=S++[⟨false,L.map D.int⟩]) (by simp[Gl4]),b1',b2']
      refine Gd5 ?_
      rw[decide_eq_true c] at t3
      rw[Hw t3]
      rfl
     ·have x2:Ex S ((S++[(⟨false,L.map D.int⟩:Cell)]).set S.length ⟨false,(L.set k (l+1)).map D.int⟩):=x1.setq (Ac _)
      refine⟨_,?_,x2⟩
      rw[show Xj k (.p br de ro (.int i)) l L R F=.yes (.tup [stD (L.set k (l+1)) R F,.int i,.int 0]) from if_neg (by omega)]
      refine Hy ?_
      rw[Hw (S1:=S++[⟨false,L.map D.int⟩]) (by simp[Gl4]),b1',b2']
      rw[decide_eq_false c] at t3
      rw[Jd (U':=rd ps us L R F "feed" k S.length none none) (S1:=S++[⟨false,L.map D.int⟩]) (by rw[Hg t3]; rfl)]
      have st:=Wk (v:=l+1) q0 hl
      have q2:((S++[(⟨false,L.map D.int⟩:Cell)]).set S.length ⟨false,(L.set k (l+1)).map D.int⟩)[S.length]?=some ⟨false,(L.set k (l+1)).map D.int⟩:=Ai (by simp)
      rw[Jd (f:=ss (o2 Gq (o2 DL.getD (vr 7) (vr 6)) (cn (.int 1))) (vr 7) (vr 6) Jo) (U':=rd ps us L R F "feed" k S.length none none) (S1:=(S++[(⟨false,L.map D.int⟩:Cell)]).set S.length ⟨false,(L.set k (l+1)).map D.int⟩) (by simp[gl,st,-List.map_set])]
      have tu:=Zj q2
      generalize (S++[(⟨false,L.map D.int⟩:Cell)]).set S.length ⟨false,(L.set k (l+1)).map D.int⟩=S2 at tu ⊢
      simp[tu,st1,st2,g1,p4,-List.map_set]
      rfl
 obtain⟨S',e,x⟩:=key
 refine⟨S',?_,x⟩
 refine(Gn (m:=10) (b:=Hb)).trans ?_
 show fin (Hb [some (cD ps us),some (stD L R F),some (dL "feed" k),none,none,none,none,none,none,none] S)=_
 unfold Hb
 refine(Gc (U':=[some (cD ps us),some (stD L R F),some (dL "feed" k),some (.tup (ps.map Pl.toD)),some (.tup (us.map gd)),none,none,none,none,none]) (S':=S) rfl).trans ?_
 refine(Gc (U':=[some (cD ps us),some (stD L R F),some (dL "feed" k),some (.tup (ps.map Pl.toD)),some (.tup (us.map gd)),some (.str "feed"),some (.int k),none,none,none]) (S':=S) rfl).trans ?_
 refine(Gc (U':=rd ps us L R F "feed" k S.length none none) (S':=S++[⟨false,L.map D.int⟩]) (by simp[st0,Gi6])).trans ?_
 rw[Gci] at e ⊢
 split at e<;>first | exact e | (cases e)
end
section
variable{ps:List Pl}{us:List Bool}{L R F:List Int}{S:Sto}
def Heo:neD (.str "let") (.str "let") S=.ok (.bl false) S:=Ku Go9
def Gc2{w:Str}{n:Int}:fin ((sq (sa (vr 0) (gt (gcons (gn 3) (gcons (gn 4) gnil)) 2)) (sq (sa (vr 2) (gt (gcons (gn 5) (gcons (gn 6) gnil)) 2)) (sq (sa (b1 Qr (ac (o2 DL.getD (vr 1) (cn (.int 0))) an)) (gn 7)) X))) [some (cD ps us),some (stD L R F),some (dL w n),none,none,none,none,none,none,none] S)=fin (X (rd ps us L R F w n S.length none none) (S++[⟨false,L.map D.int⟩])):=by
 refine(Gc (U':=[some (cD ps us),some (stD L R F),some (dL w n),some (.tup (ps.map Pl.toD)),some (.tup (us.map gd)),none,none,none,none,none]) (S':=S) rfl).trans ?_
 refine(Gc (U':=[some (cD ps us),some (stD L R F),some (dL w n),some (.tup (ps.map Pl.toD)),some (.tup (us.map gd)),some (.str w),some (.int n),none,none,none]) (S':=S) rfl).trans ?_
 have e:sa (b1 Qr (ac (o2 DL.getD (vr 1) (cn (.int 0))) an)) (gn 7) [some (cD ps us),some (stD L R F),some (dL w n),some (.tup (ps.map Pl.toD)),some (.tup (us.map gd)),some (.str w),some (.int n),none,none,none] S=.nx (rd ps us L R F w n S.length none none) (S++[⟨false,L.map D.int⟩]):=by simp[st0,Gi6]
 exact Gc e
def due_let_no{n:Int}(h:¬ (0<=n/\n<us.length)):∃ S',Ho [cD ps us,stD L R F,dL "let" n] S=.ok (Vy "NoGate") S'/\Ex S S':=by
 refine⟨S++[⟨false,L.map D.int⟩],?_,Ex.app⟩
 refine(Gn (m:=10) (b:=Hb)).trans ?_
 show fin (Hb [some (cD ps us),some (stD L R F),some (dL "let" n),none,none,none,none,none,none,none] S)=_
 unfold Hb
 refine Gc2.trans ?_
 refine(Gc (U':=rd ps us L R F "let" n S.length none none) (S':=S++[⟨false,L.map D.int⟩]) (by rw[Hg (S1:=S++[⟨false,L.map D.int⟩]) (by simp[Hcl])]; rfl)).trans ?_
 refine Hy ?_
 rw[Hw (S1:=S++[⟨false,L.map D.int⟩])]
 ·rfl
 ·by_cases h1:n<0
  ·simp[h1]
  ·have h2:(us.length:Int)<=n:=by
    by_cases c:(us.length:Int)<=n
    ·exact c
    ·exact absurd ⟨by omega,by omega⟩ h
   simp[h1,h2]
def Hcn{i:Nat}{l:Int}{x9:BJ D}{w:Str}{n:Int}(hq:S[q]?=some ⟨false,M.map D.int⟩)(hp:ps[i]?=some p)(hl:M[i]?=some l):
  sif (tb (o2 neD (o2 DL.getD (o2 DL.getD (vr 3) (vr 8)) (cn (.int 0))) (cn (.str "end")))) (sq (sif (tb (o2 eqD (o2 DL.getD (vr 7) (vr 8)) (cn (.int 0)))) (sret (cn (.str "dry"))) DL.skip) (ss (o2 Vr (o2 DL.getD (vr 7) (vr 8)) (cn (.int 1))) (vr 7) (vr 8) Jo)) DL.skip (rd ps us L R F w n q (some (.int i)) x9) S
   = if(!p.isE&&decide (l=0))=true then .rt (.str "dry") S else .nx (rd ps us L R F w n q (some (.int i)) x9) (if p.isE=true then S else S.set q ⟨false,(M.set i (l + -1)).map D.int⟩):=by
 have g1:=Vz (ps:=ps) (S:=S) hp
 have ne:=Gkh (p:=p) (S:=S)
 have gl:=Wa hq hl
 have st:=Wk (v:=l + -1) hq hl
 cases hE:p.isE
 ·rw[hE] at ne
  rw[Hw (S1:=S) (by simp[g1,pl0,ne])]
  by_cases c:l=0
  ·subst c
   rw[if_pos (by simp)]
   refine Gd5 ?_
   rw[Hw (S1:=S) (by simp[gl])]
   rfl
  ·rw[if_neg (by simp[c])]
   rw[Jd (U':=rd ps us L R F w n q (some (.int i)) x9) (S1:=S) (by rw[Hg (S1:=S) (by simp[gl,c])]; rfl)]
   rw[<- Int.sub_eq_add_neg] at st ⊢
   simp[gl,st,-List.map_set]
 ·rw[hE] at ne
  rw[Hg (S1:=S) (by simp[g1,pl0,ne]),if_neg (by simp)]
  rfl
def Hep(hE:p.isE=false):∃ d,Gq p.toD (.tup [.int 1]) S=.ok d S/\DL.getD d (.int 1) S=.ok (.int (wat p)) S:=by
 cases p with
 | e=>cases hE
 | c=>exact⟨_,Xv (by simp),Jc (Gw (by decide) rfl)⟩
 | p br de ro pr=>exact⟨_,Xv (by simp),Jc (Gw (by decide) rfl)⟩
def Gtd{i:Nat}{l:Int}{x8:BJ D}{w:Str}{n:Int}(hq:S[q]?=some ⟨false,M.map D.int⟩)(hp:ps[i]?=some p)(hl:M[i]?=some l)(hw:l<=wat p):
  sif (tb (o2 neD (o2 DL.getD (o2 DL.getD (vr 3) (vr 9)) (cn (.int 0))) (cn (.str "end")))) (sq (sif (tb (o2 eqD (o2 DL.getD (vr 7) (vr 9)) (o2 DL.getD (o2 Gq (o2 DL.getD (vr 3) (vr 9)) (tp (ac (cn (.int 1)) an))) (cn (.int 1))))) (sret (cn (.str "full"))) DL.skip) (ss (o2 Gq (o2 DL.getD (vr 7) (vr 9)) (cn (.int 1))) (vr 7) (vr 9) Jo)) DL.skip (rd ps us L R F w n q x8 (some (.int i))) S
   = if(!p.isE&&decide (wat p<=l))=true then .rt (.str "full") S else .nx (rd ps us L R F w n q x8 (some (.int i))) (if p.isE=true then S else S.set q ⟨false,(M.set i (l+1)).map D.int⟩):=by
 have g1:=Vz (ps:=ps) (S:=S) hp
 have ne:=Gkh (p:=p) (S:=S)
 have gl:=Wa hq hl
 have st:=Wk (v:=l+1) hq hl
 cases hE:p.isE
 ·rw[hE] at ne
  obtain⟨d,a1,a2⟩:=Hep (S:=S) hE
  have tst:tb (o2 eqD (o2 DL.getD (vr 7) (vr 9)) (o2 DL.getD (o2 Gq (o2 DL.getD (vr 3) (vr 9)) (tp (ac (cn (.int 1)) an))) (cn (.int 1)))) (rd ps us L R F w n q x8 (some (.int i))) S=.ok (decide (l=wat p)) S:=by
   simp[gl,g1,a1,a2]
  rw[Hw (S1:=S) (by simp[g1,pl0,ne])]
  by_cases c:l=wat p
  ·rw[if_pos (by simp; omega)]
   refine Gd5 ?_
   rw[decide_eq_true c] at tst
   rw[Hw tst]
   rfl
  ·rw[if_neg (by simp; omega)]
   rw[decide_eq_false c] at tst
   rw[Jd (U':=rd ps us L R F w n q x8 (some (.int i))) (S1:=S) (by rw[Hg tst]; rfl)]
   simp[gl,st,-List.map_set]
 ·rw[hE] at ne
  rw[Hg (S1:=S) (by simp[g1,pl0,ne]),if_neg (by simp)]
  rfl
def Gte(hu:us[k]?=some u)(h1:ps[hiI u k]?=some pH)(h2:ps[loI u k]?=some pL)(h3:L[hiI u k]?=some lH)(h4:L[loI u k]?=some lL)(hw:lL<=wat pL)(hk:k<=1000):
  ∃ S',Ho [cD ps us,stD L R F,dL "let" k] S=.ok (Gl5 u k pH pL lH lL L R F).toD S'/\Ex S S':=by
 have hk':k<us.length:=(Aa.mp hu).1
 have x1:Ex S (S++[⟨false,L.map D.int⟩]):=Ex.app
 have q0:(S++[(⟨false,L.map D.int⟩:Cell)])[S.length]?=some ⟨false,L.map D.int⟩:=Gr
 have hlen:S.length<(S++[(⟨false,L.map D.int⟩:Cell)]).length:=by simp
 generalize hS1:S++[(⟨false,L.map D.int⟩:Cell)]=S1 at x1 q0 hlen
 have mu:Kf (.int 2) (.int (k:Int)) S1=.ok (.int (2*(k:Int))) S1:=Gff (by decide) (by decide)
 have gg:=Gkb (us:=us) (S:=S1) hu
 have gu:=Gkc (u:=u) (S:=S1)
 have pre:Ho [cD ps us,stD L R F,dL "let" k] S=fin (sq (sif (tb (o2 neD (o2 DL.getD (o2 DL.getD (vr 3) (vr 8)) (cn (.int 0))) (cn (.str "end")))) (sq (sif (tb (o2 eqD (o2 DL.getD (vr 7) (vr 8)) (cn (.int 0)))) (sret (cn (.str "dry"))) DL.skip) (ss (o2 Vr (o2 DL.getD (vr 7) (vr 8)) (cn (.int 1))) (vr 7) (vr 8) Jo)) DL.skip) (sq (sif (tb (o2 neD (o2 DL.getD (o2 DL.getD (vr 3) (vr 9)) (cn (.int 0))) (cn (.str "end")))) (sq (sif (tb (o2 eqD (o2 DL.getD (vr 7) (vr 9)) (o2 DL.getD (o2 Gq (o2 DL.getD (vr 3) (vr 9)) (tp (ac (cn (.int 1)) an))) (cn (.int 1))))) (sret (cn (.str "full"))) DL.skip) (ss (o2 Gq (o2 DL.getD (vr 7) (vr 9)) (cn (.int 1))) (vr 7) (vr 9) Jo)) DL.skip) (sret (tp (ac (tp (ac (b1 Kv (ac (vr 7) an)) (ac (o2 DL.getD (vr 1) (cn (.int 1))) (ac (o2 DL.getD (vr 1) (cn (.int 2))) an)))) (ac (cn (.int 0)) (ac (cn (.int 0)) an)))))) (rd ps us L R F "let" k S.length (some (.int (hiI u k))) (some (.int (loI u k)))) S1):=by
  refine(Gn (m:=10) (b:=Hb)).trans ?_
  show fin (Hb [some (cD ps us),some (stD L R F),some (dL "let" k),none,none,none,none,none,none,none] S)=_
  unfold Hb
  refine Gc2.trans ?_
  rw[hS1]
  refine(Gc (U':=rd ps us L R F "let" k S.length none none) (S':=S1) (by rw[Hg (S1:=S1) (by simp[Hcl])]; rfl)).trans ?_
  refine(Gc (U':=rd ps us L R F "let" k S.length none none) (S':=S1) ?_).trans ?_
  ·rw[Hg (S1:=S1)]
   ·rfl
   ·have a1:¬ ((k:Int)<0):=by omega
    have a2:¬ ((us.length:Int)<=k):=by omega
    simp[a1,a2]
  refine(Gc (U':=rd ps us L R F "let" k S.length (some (.int (hiI u k))) none) (S':=S1) ?_).trans ?_
  ·have e:(k:Int)+(if u=true then 1 else 0)=((hiI u k:Nat):Int):=by cases u<;>simp[hiI]
   simp[gg,gu,Gfg,e]
  refine(Gc (U':=rd ps us L R F "let" k S.length (some (.int (hiI u k))) (some (.int (loI u k)))) (S':=S1) ?_).trans ?_
  ·have e:2*(k:Int)+1-((hiI u k:Nat):Int)=((loI u k:Nat):Int):=by cases u<;>simp[hiI,loI]<;>omega
   simp[mu,e]
  exact Gc (U':=rd ps us L R F "let" k S.length (some (.int (hiI u k))) (some (.int (loI u k)))) (S':=S1) (by rw[Hg (S1:=S1) (by simp[Heo])]; rfl)
 have a:=Hcn (us:=us) (L:=L) (R:=R) (F:=F) (x9:=some (.int (loI u k))) (w:="let") (n:=k) q0 h1 h3
 unfold Gl5
 by_cases c1:(!pH.isE&&decide (lH=0))=true
 ·rw[if_pos c1] at a ⊢
  exact⟨S1,by rw[pre]; exact Hy a,x1⟩
 ·rw[if_neg c1] at a ⊢
  have q2:(if pH.isE=true then S1 else S1.set S.length ⟨false,(L.set (hiI u k) (lH + -1)).map D.int⟩)[S.length]?=some ⟨false,(adw pH L (hiI u k) lH (-1)).map D.int⟩:=by
   unfold adw
   split
   ·exact q0
   ·exact Ai hlen
  have x2:Ex S (if pH.isE=true then S1 else S1.set S.length ⟨false,(L.set (hiI u k) (lH + -1)).map D.int⟩):=by
   split
   ·exact x1
   ·exact x1.setq (Ac _)
  generalize (if pH.isE=true then S1 else S1.set S.length ⟨false,(L.set (hiI u k) (lH + -1)).map D.int⟩)=S2 at a q2 x2
  have hlen2:S.length<S2.length:=(Aa.mp q2).1
  have b:=Gtd (us:=us) (L:=L) (R:=R) (F:=F) (x8:=some (.int (hiI u k))) (w:="let") (n:=k) q2 h2 ((Go8 Guy).trans h4) hw
  by_cases c2:(!pL.isE&&decide (wat pL<=lL))=true
  ·rw[if_pos c2] at b ⊢
   exact⟨S2,by rw[pre]; exact(Gc a).trans (Hy b),x2⟩
  ·rw[if_neg c2] at b ⊢
   have q3:(if pL.isE=true then S2 else S2.set S.length ⟨false,((adw pH L (hiI u k) lH (-1)).set (loI u k) (lL+1)).map D.int⟩)[S.length]?=some ⟨false,(adw pL (adw pH L (hiI u k) lH (-1)) (loI u k) lL 1).map D.int⟩:=by
    rw[show adw pL (adw pH L (hiI u k) lH (-1)) (loI u k) lL 1=if pL.isE=true then adw pH L (hiI u k) lH (-1) else(adw pH L (hiI u k) lH (-1)).set (loI u k) (lL+1) from rfl]
    split
    ·exact q2
    ·exact Ai hlen2
   have x3:Ex S (if pL.isE=true then S2 else S2.set S.length ⟨false,((adw pH L (hiI u k) lH (-1)).set (loI u k) (lL+1)).map D.int⟩):=by
    split
    ·exact x2
    ·exact x2.setq (Ac _)
   generalize (if pL.isE=true then S2 else S2.set S.length ⟨false,((adw pH L (hiI u k) lH (-1)).set (loI u k) (lL+1)).map D.int⟩)=S3 at b q3 x3
   refine⟨S3,?_,x3⟩
   rw[pre]
   refine(Gc a).trans ((Gc b).trans ?_)
   have tu:=Zj q3
   simp[tu,st1,st2,-List.map_set]
   rfl
end
def Gi8:eqD (.str (pn p)) (.str "chamber") S=.ok (.bl p.isC) S:=by
 cases p
 ·exact s1
 ·exact s3
 ·exact s5
def Gph:eqD (.str (pn p)) (.str "pound") S=.ok (.bl (isP p)) S:=by
 cases p
 ·exact s2
 ·exact s4
 ·exact s6
def Gki{g:Tg}{b:Sv}{U1:Lc}{y:D}(h:nxt k S=some d)(h2:g d U=some U1)(h3:b U1 S=.rt y S2):Qe nxt g b (n+1) k U S=.rt y S2:=by
 conv=>lhs; unfold Qe
 simp only[h,h2,h3]
noncomputable def kk(b:Bool):Int:=if b=true then 1 else 2
noncomputable def Yf(b:Bool)(n:Nat):Nat:=if b=true then n+2 else n+3
section
variable{q:Nat}{A B C:List D}{S:Sto}
def rw0(h:Rw S q (q+1) (q+2) (q+3) A B C):DL.getD (.lst q) (.int 0) S=.ok (.lst (q+1)) S:=Jt h.q0 rfl
def rw1(h:Rw S q (q+1) (q+2) (q+3) A B C):DL.getD (.lst q) (.int 1) S=.ok (.lst (q+2)) S:=Jt h.q0 rfl
def rw2(h:Rw S q (q+1) (q+2) (q+3) A B C):DL.getD (.lst q) (.int 2) S=.ok (.lst (q+3)) S:=Jt h.q0 rfl
def rwk(h:Rw S q (q+1) (q+2) (q+3) A B C):DL.getD (.lst q) (.int (kk b)) S=.ok (.lst (Yf b q)) S:=by
 cases b
 ·exact rw2 h
 ·exact rw1 h
end
abbrev RwI(S:Sto)(q:Nat)(L R F:List Int):Prop:=Rw S q (q+1) (q+2) (q+3) (L.map D.int) (R.map D.int) (F.map D.int)
def Gpi{R F:List Int}(h:RwI S q L R F):S[Yf b q]?=some ⟨false,(sel b R F).map D.int⟩:=by
 cases b
 ·exact h.q3
 ·exact h.q2
def Gpj{R F:List Int}(h:RwI S q L R F):RwI (S.set (Yf b q) ⟨false,M.map D.int⟩) q L (if b=true then M else R) (if b=true then F else M):=by
 have lt:∀ {i:Nat} {c:Cell},S[i]?=some c->i<S.length:=fun e=>(Aa.mp e).1
 cases b
 ·have e:Yf false q=q+3:=rfl
  rw[e]
  refine⟨?_,?_,?_,?_⟩
  ·rw[Ae (by omega)]; exact h.q0
  ·rw[Ae (by omega)]; exact h.q1
  ·rw[Ae (by omega)]; exact h.q2
  ·rw[Ai (lt h.q3)]; rfl
 ·have e:Yf true q=q+2:=rfl
  rw[e]
  refine⟨?_,?_,?_,?_⟩
  ·rw[Ae (by omega)]; exact h.q0
  ·rw[Ae (by omega)]; exact h.q1
  ·rw[Ai (lt h.q2)]; rfl
  ·rw[Ae (by omega)]; exact h.q3
abbrev rg(ps:List Pl)(us:List Bool)(L R F:List Int)(b:Bool)(k hi lo q:Nat)(x12 x13 x14:BJ D):Lc:=[some (cD ps us),some (stD L R F),some (dM b k),some (.int hi),some (.int lo),some (.tup (ps.map Pl.toD)),some (wd b),some (.int k),some (.lst q),some (.int (kk b)),some (.int (stI b k)),some (.int (glI b k)),x12,x13,x14]
section
variable{ps:List Pl}{us:List Bool}{L R F:List Int}{S:Sto}{b:Bool}{k:Nat}{u:Bool}{pH pL pG:Pl}{lH lL a g r1 f1:Int}
def Gpk{i:Nat}{l:Int}{hi lo:Nat}{x12 x14:BJ D}(h:RwI S q L R F)(hp:ps[i]?=some p)(hl:L[i]?=some l):Ja (rg ps us L R F b k hi lo q x12 (some (.int i)) x14) S=if shal p l=true then .rt (.str "shallow") S else .nx (rg ps us L R F b k hi lo q x12 (some (.int i)) x14) S:=by
 have g1:=Vz (S:=S) hp
 have g2:=rw0 h
 have g3:=Wa h.q1 hl
 have e:=Gph (p:=p) (S:=S)
 have t:ta (tb (o2 eqD (o2 DL.getD (o2 DL.getD (vr 5) (vr 13)) (cn (.int 0))) (cn (.str "pound")))) (tb (o2 ltD (o2 DL.getD (o2 DL.getD (vr 8) (cn (.int 0))) (vr 13)) (o2 DL.getD (o2 DL.getD (vr 5) (vr 13)) (cn (.int 2))))) (rg ps us L R F b k hi lo q x12 (some (.int i)) x14) S=.ok (shal p l) S:=by
  cases p with
  | e=>simp[g1,pl0,e,isP,shal]
  | c=>simp[g1,pl0,e,isP,shal]
  | p br de ro pr=>
   have gd:DL.getD (Pl.toD (.p br de ro pr)) (.int 2) S=.ok (.int de) S:=Jc (Gw (by decide) rfl)
   simp[g1,pl0,e,isP,shal,g2,g3,gd]
 unfold Ja
 cases c:shal p l
 ·rw[c] at t
  rw[Hg t]
  rfl
 ·rw[c] at t
  rw[Hw t]
  rfl
def Gy8{hi lo:Nat}{x13 x14:BJ D}(hG:ps[glI b k]?=some pG):sq (sif (ta (tb (o2 eqD (o2 DL.getD (o2 DL.getD (vr 5) (vr 11)) (cn (.int 0))) (cn (.str "chamber")))) (tb (o2 gtD (vr 12) (cn (.int 0))))) (sret (cn (.str "noroom"))) DL.skip) (sq (sif (ta (tb (o2 eqD (o2 DL.getD (o2 DL.getD (vr 5) (vr 11)) (cn (.int 0))) (cn (.str "pound")))) (tb (o2 geD (vr 12) (o2 DL.getD (o2 DL.getD (vr 5) (vr 11)) (cn (.int 3)))))) (sret (cn (.str "noroom"))) DL.skip) X) (rg ps us L R F b k hi lo q (some (.int (r1+f1))) x13 x14) S
  = if hol pG (r1+f1+1)=false then .rt (.str "noroom") S else X (rg ps us L R F b k hi lo q (some (.int (r1+f1))) x13 x14) S:=by
 have g1:=Vz (S:=S) hG
 have e1:=Gi8 (p:=pG) (S:=S)
 have e2:=Gph (p:=pG) (S:=S)
 cases pG with
 | e=>
  rw[if_neg (by simp[hol])]
  rw[Jd (U':=rg ps us L R F b k hi lo q (some (.int (r1+f1))) x13 x14) (S1:=S) (by rw[Hg (S1:=S) (by simp[g1,pl0,e1,Pl.isC])]; rfl),Jd (U':=rg ps us L R F b k hi lo q (some (.int (r1+f1))) x13 x14) (S1:=S) (by rw[Hg (S1:=S) (by simp[g1,pl0,e2,isP])]; rfl)]
 | c=>
  by_cases c:0<r1+f1
  ·rw[if_pos (by simp[hol]; omega)]
   refine Gd5 ?_
   rw[Hw (S1:=S) (by simp[g1,pl0,e1,Pl.isC,c])]
   rfl
  ·rw[if_neg (by simp[hol]; omega)]
   rw[Jd (U':=rg ps us L R F b k hi lo q (some (.int (r1+f1))) x13 x14) (S1:=S) (by rw[Hg (S1:=S) (by simp[g1,pl0,e1,Pl.isC]; omega)]; rfl),Jd (U':=rg ps us L R F b k hi lo q (some (.int (r1+f1))) x13 x14) (S1:=S) (by rw[Hg (S1:=S) (by simp[g1,pl0,e2,isP])]; rfl)]
 | p br de ro pr=>
  have g3:DL.getD (Pl.toD (.p br de ro pr)) (.int 3) S=.ok (.int ro) S:=Jc (Gw (by decide) rfl)
  rw[Jd (U':=rg ps us L R F b k hi lo q (some (.int (r1+f1))) x13 x14) (S1:=S) (by rw[Hg (S1:=S) (by simp[g1,pl0,e1,Pl.isC])]; rfl)]
  by_cases c:ro<=r1+f1
  ·rw[if_pos (by simp[hol]; omega)]
   refine Gd5 ?_
   rw[Hw (S1:=S) (by simp[g1,pl0,e2,isP,g3,c])]
   rfl
  ·rw[if_neg (by simp[hol]; omega)]
   rw[Jd (U':=rg ps us L R F b k hi lo q (some (.int (r1+f1))) x13 x14) (S1:=S) (by rw[Hg (S1:=S) (by simp[g1,pl0,e2,isP,g3]; omega)]; rfl)]
def Gtf(v:Mv ps us L R F b k u pH pL pG lH lL a g r1 f1)(hc:pH.isC=true->0<=lH/\lH<=1):∃ S',Uw [cD ps us,stD L R F,dM b k,.int (hiI u k),.int (loI u k)] S=.ok (Gcj ps.length b k pH pL pG lH lL a g r1 f1 L R F).toD S'/\Ex S S':=by
 obtain⟨S1,e1,w1,x1⟩:=Go7 (A:=L.map D.int) (B:=R.map D.int) (C:=F.map D.int) (f:=vr 1) (U:=[some (cD ps us),some (stD L R F),some (dM b k),some (.int (hiI u k)),some (.int (loI u k)),some (.tup (ps.map Pl.toD)),some (wd b),some (.int k),none,none,none,none,none,none,none]) (S:=S) rfl
 have w1:RwI S1 S.length L R F:=w1
 have x2:Ex S1 (S1++[⟨false,[.int 2,.int 1]⟩]):=Ex.app
 have gk:∀ c:Bool,DL.getD (.lst S1.length) (.int (if c=true then 1 else 0)) (S1++[⟨false,[.int 2,.int 1]⟩])=.ok (.int (kk c)) (S1++[⟨false,[.int 2,.int 1]⟩]):=fun c=>Jt Gr (by cases c<;>rfl)
 have gb:=gk b
 have wr:=fun S=>Zp (b:=b) (S:=S)
 have wl:=fun S=>Gy6 (b:=b) (S:=S)
 have pre:Uw [cD ps us,stD L R F,dM b k,.int (hiI u k),.int (loI u k)] S=fin ((sq (sif (tb (o2 eqD (o2 DL.getD (o2 DL.getD (vr 8) (vr 9)) (vr 10)) (cn (.int 0)))) (sret (cn (.str "nobarge"))) DL.skip) (sq (sa (o2 Gq (o2 DL.getD (o2 DL.getD (vr 8) (cn (.int 1))) (vr 11)) (o2 DL.getD (o2 DL.getD (vr 8) (cn (.int 2))) (vr 11))) (gn 12)) (sq (sif (ta (tb (o2 eqD (o2 DL.getD (o2 DL.getD (vr 5) (vr 11)) (cn (.int 0))) (cn (.str "chamber")))) (tb (o2 gtD (vr 12) (cn (.int 0))))) (sret (cn (.str "noroom"))) DL.skip) (sq (sif (ta (tb (o2 eqD (o2 DL.getD (o2 DL.getD (vr 5) (vr 11)) (cn (.int 0))) (cn (.str "pound")))) (tb (o2 geD (vr 12) (o2 DL.getD (o2 DL.getD (vr 5) (vr 11)) (cn (.int 3)))))) (sret (cn (.str "noroom"))) DL.skip) (sq (sif (ta (tb (o2 eqD (o2 DL.getD (o2 DL.getD (vr 5) (vr 3)) (cn (.int 0))) (cn (.str "chamber")))) (tb (o2 gtD (o2 DL.getD (o2 DL.getD (vr 8) (cn (.int 0))) (vr 3)) (cn (.int 0))))) (sret (cn (.str "uneven"))) DL.skip) (sq (sif (ta (tb (o2 eqD (o2 DL.getD (o2 DL.getD (vr 5) (vr 4)) (cn (.int 0))) (cn (.str "chamber")))) (tb (o2 eqD (o2 DL.getD (o2 DL.getD (vr 8) (cn (.int 0))) (vr 4)) (cn (.int 0))))) (sret (cn (.str "uneven"))) DL.skip) (sq (sfor (isrc (ls (ac (vr 3) (ac (vr 4) an)))) (gn 13) Ja) (sq (ss (o2 Vr (o2 DL.getD (o2 DL.getD (vr 8) (vr 9)) (vr 10)) (cn (.int 1))) (o2 DL.getD (vr 8) (vr 9)) (vr 10) Jo) (sq (ss (o2 Gq (o2 DL.getD (o2 DL.getD (vr 8) (vr 9)) (vr 11)) (cn (.int 1))) (o2 DL.getD (vr 8) (vr 9)) (vr 11) Jo) (sq (sa (b1 Yg (ac (o2 eqD (vr 11) (o2 DL.getD (ls (ac (cn (.int 0)) (ac (o2 Vr (b1 Hd (ac (vr 5) an)) (cn (.int 1))) an))) (b1 Yg (ac (o2 eqD (vr 6) (cn (.str "right"))) an)))) an)) (gn 14)) (sret (tp (ac (tp (ac (b1 Kv (ac (o2 DL.getD (vr 8) (cn (.int 0))) an)) (ac (b1 Kv (ac (o2 DL.getD (vr 8) (cn (.int 1))) an)) (ac (b1 Kv (ac (o2 DL.getD (vr 8) (cn (.int 2))) an)) an)))) (ac (cn (.int 0)) (ac (vr 14) an))))))))))))))) (rg ps us L R F b k (hiI u k) (loI u k) S.length none none none) (S1++[⟨false,[.int 2,.int 1]⟩])):=by
  refine(Gn (m:=15) (b:=Uv)).trans ?_
  show fin (Uv [some (cD ps us),some (stD L R F),some (dM b k),some (.int (hiI u k)),some (.int (loI u k)),none,none,none,none,none,none,none,none,none,none] S)=_
  unfold Uv
  refine(Gc (U':=[some (cD ps us),some (stD L R F),some (dM b k),some (.int (hiI u k)),some (.int (loI u k)),some (.tup (ps.map Pl.toD)),none,none,none,none,none,none,none,none,none]) (S':=S) (by simp[cd0])).trans ?_
  refine(Gc (U':=[some (cD ps us),some (stD L R F),some (dM b k),some (.int (hiI u k)),some (.int (loI u k)),some (.tup (ps.map Pl.toD)),some (wd b),some (.int k),none,none,none,none,none,none,none]) (S':=S) rfl).trans ?_
  refine(Gc (U':=[some (cD ps us),some (stD L R F),some (dM b k),some (.int (hiI u k)),some (.int (loI u k)),some (.tup (ps.map Pl.toD)),some (wd b),some (.int k),some (.lst S.length),none,none,none,none,none,none]) (S':=S1) (by rw[Uc,e1]; rfl)).trans ?_
  refine(Gc (U':=[some (cD ps us),some (stD L R F),some (dM b k),some (.int (hiI u k)),some (.int (loI u k)),some (.tup (ps.map Pl.toD)),some (wd b),some (.int k),some (.lst S.length),some (.int (kk b)),none,none,none,none,none]) (S':=S1++[⟨false,[.int 2,.int 1]⟩]) (by simp[wr,Gfg,gb])).trans ?_
  refine(Gc (U':=[some (cD ps us),some (stD L R F),some (dM b k),some (.int (hiI u k)),some (.int (loI u k)),some (.tup (ps.map Pl.toD)),some (wd b),some (.int k),some (.lst S.length),some (.int (kk b)),some (.int (stI b k)),none,none,none,none]) (S':=S1++[⟨false,[.int 2,.int 1]⟩]) ?_).trans ?_
  ·have e:(k:Int)+(if(!b)=true then 1 else 0)=((stI b k:Nat):Int):=by cases b<;>simp[stI]
   rw[Uc]
   simp only[Ye,Gd3,Gow,Gfe,Ghu,Gd4,A4,A5,Gz,wl,Gfg,Gyu,e,Hl,Hcg]
   rfl
  refine Gc (U':=rg ps us L R F b k (hiI u k) (loI u k) S.length none none none) (S':=S1++[⟨false,[.int 2,.int 1]⟩]) ?_
  have mu:Kf (.int 2) (.int (k:Int)) (S1++[⟨false,[.int 2,.int 1]⟩])=.ok (.int (2*(k:Int))) (S1++[⟨false,[.int 2,.int 1]⟩]):=Gff (by decide) (by decide)
  have e:2*(k:Int)+1-((stI b k:Nat):Int)=((glI b k:Nat):Int):=by cases b<;>simp[stI,glI]<;>omega
  simp[mu,e]
 rw[pre]
 clear pre
 have w2:RwI (S1++[⟨false,[.int 2,.int 1]⟩]) S.length L R F:=w1.ex x2
 have x12:=x1.trans x2
 generalize S1++[(⟨false,[.int 2,.int 1]⟩:Cell)]=S2 at w2 x12
 have gr:=rwk (b:=b) w2
 have ga:=Wa (Gpi (b:=b) w2) v.ha
 unfold Gcj Ghz
 by_cases c1:a=0
 ·rw[if_pos c1]
  subst c1
  refine⟨S2,Hy ?_,x12⟩
  rw[Hw (S1:=S2) (by simp[gr,ga])]
  rfl
 rw[if_neg c1]
 have g1:=rw1 w2
 have g2:=rw2 w2
 have g0:=rw0 w2
 have gr1:=Wa w2.q2 v.hr
 have gf1:=Wa w2.q3 v.hf
 have rt:=fun X:Sv=>Gy8 (X:=X) (us:=us) (L:=L) (R:=R) (F:=F) (S:=S2) (r1:=r1) (f1:=f1) (hi:=hiI u k) (lo:=loI u k) (q:=S.length) (x13:=none) (x14:=none) v.hG
 have hd:∀ X:Sv,fin (sq (sif (tb (o2 eqD (o2 DL.getD (o2 DL.getD (vr 8) (vr 9)) (vr 10)) (cn (.int 0)))) (sret (cn (.str "nobarge"))) DL.skip) (sq (sa (o2 Gq (o2 DL.getD (o2 DL.getD (vr 8) (cn (.int 1))) (vr 11)) (o2 DL.getD (o2 DL.getD (vr 8) (cn (.int 2))) (vr 11))) (gn 12)) X) (rg ps us L R F b k (hiI u k) (loI u k) S.length none none none) S2)=fin (X (rg ps us L R F b k (hiI u k) (loI u k) S.length (some (.int (r1+f1))) none none) S2):=fun X=>by
  refine(Gc (U':=rg ps us L R F b k (hiI u k) (loI u k) S.length none none none) (S':=S2) (by rw[Hg (S1:=S2) (by simp[gr,ga,c1])]; rfl)).trans ?_
  exact Gc (by simp[g1,g2,gr1,gf1])
 rw[hd,rt]
 by_cases c2:hol pG (r1+f1+1)=false
 ·rw[if_pos c2,if_pos c2]
  exact⟨S2,rfl,x12⟩
 rw[if_neg c2,if_neg c2]
 have gH:=Vz (S:=S2) v.h1
 have gL:=Vz (S:=S2) v.h2
 have lHg:=Wa w2.q1 v.h3
 have lLg:=Wa w2.q1 v.h4
 have eH:=Gi8 (p:=pH) (S:=S2)
 have eL:=Gi8 (p:=pL) (S:=S2)
 have t3:ta (tb (o2 eqD (o2 DL.getD (o2 DL.getD (vr 5) (vr 3)) (cn (.int 0))) (cn (.str "chamber")))) (tb (o2 gtD (o2 DL.getD (o2 DL.getD (vr 8) (cn (.int 0))) (vr 3)) (cn (.int 0)))) (rg ps us L R F b k (hiI u k) (loI u k) S.length (some (.int (r1+f1))) none none) S2=.ok (pH.isC&&decide (lH=1)) S2:=by
  cases z:pH.isC
  ·rw[z] at eH
   simp[gH,pl0,eH]
  ·rw[z] at eH
   have:=hc z
   have e:decide (0<lH)=decide (lH=1):=by simp only[decide_eq_decide]; omega
   simp[gH,pl0,eH,g0,lHg,e]
 by_cases c3:(pH.isC&&decide (lH=1))=true
 ·rw[if_pos c3]
  rw[c3] at t3
  exact⟨S2,Hy (by rw[Hw t3]; rfl),x12⟩
 rw[if_neg c3]
 rw[AW.mpr c3] at t3
 have t4:ta (tb (o2 eqD (o2 DL.getD (o2 DL.getD (vr 5) (vr 4)) (cn (.int 0))) (cn (.str "chamber")))) (tb (o2 eqD (o2 DL.getD (o2 DL.getD (vr 8) (cn (.int 0))) (vr 4)) (cn (.int 0)))) (rg ps us L R F b k (hiI u k) (loI u k) S.length (some (.int (r1+f1))) none none) S2=.ok (pL.isC&&decide (lL=0)) S2:=by
  cases z:pL.isC
  ·rw[z] at eL
   simp[gL,pl0,eL]
  ·rw[z] at eL
   simp[gL,pl0,eL,g0,lLg]
 by_cases c4:(pL.isC&&decide (lL=0))=true
 ·rw[if_pos c4]
  rw[c4] at t4
  refine⟨S2,(Gc (U':=rg ps us L R F b k (hiI u k) (loI u k) S.length (some (.int (r1+f1))) none none) (S':=S2) (by rw[Hg t3]; rfl)).trans (Hy (by rw[Hw t4]; rfl)),x12⟩
 rw[if_neg c4]
 rw[AW.mpr c4] at t4
 have hd2:∀ X:Sv,fin (sq (sif (ta (tb (o2 eqD (o2 DL.getD (o2 DL.getD (vr 5) (vr 3)) (cn (.int 0))) (cn (.str "chamber")))) (tb (o2 gtD (o2 DL.getD (o2 DL.getD (vr 8) (cn (.int 0))) (vr 3)) (cn (.int 0))))) (sret (cn (.str "uneven"))) DL.skip) (sq (sif (ta (tb (o2 eqD (o2 DL.getD (o2 DL.getD (vr 5) (vr 4)) (cn (.int 0))) (cn (.str "chamber")))) (tb (o2 eqD (o2 DL.getD (o2 DL.getD (vr 8) (cn (.int 0))) (vr 4)) (cn (.int 0))))) (sret (cn (.str "uneven"))) DL.skip) X) (rg ps us L R F b k (hiI u k) (loI u k) S.length (some (.int (r1+f1))) none none) S2)=fin (X (rg ps us L R F b k (hiI u k) (loI u k) S.length (some (.int (r1+f1))) none none) S2):=fun X=>by
  refine(Gc (U':=rg ps us L R F b k (hiI u k) (loI u k) S.length (some (.int (r1+f1))) none none) (S':=S2) (by rw[Hg t3]; rfl)).trans ?_
  exact Gc (U':=rg ps us L R F b k (hiI u k) (loI u k) S.length (some (.int (r1+f1))) none none) (S':=S2) (by rw[Hg t4]; rfl)
 rw[hd2]
 have x3:Ex S2 (S2++[⟨false,[.int (hiI u k),.int (loI u k)]⟩]):=Ex.app
 have el:ls (ac (vr 3) (ac (vr 4) an)) (rg ps us L R F b k (hiI u k) (loI u k) S.length (some (.int (r1+f1))) none none) S2=.ok (.lst S2.length) (S2++[⟨false,[.int (hiI u k),.int (loI u k)]⟩]):=by simp
 have q3:(S2++[(⟨false,[.int (hiI u k),.int (loI u k)]⟩:Cell)])[S2.length]?=some ⟨false,[.int (hiI u k),.int (loI u k)]⟩:=Gr
 have w3:RwI (S2++[⟨false,[.int (hiI u k),.int (loI u k)]⟩]) S.length L R F:=w2.ex x3
 have x13:=x12.trans x3
 generalize S2++[(⟨false,[.int (hiI u k),.int (loI u k)]⟩:Cell)]=S3 at el q3 w3 x13
 have sf:sfor (isrc (ls (ac (vr 3) (ac (vr 4) an)))) (gn 13) Ja (rg ps us L R F b k (hiI u k) (loI u k) S.length (some (.int (r1+f1))) none none) S2=Qe (Wb S2.length 2).nxt (gn 13) Ja (1+1+1) 0 (rg ps us L R F b k (hiI u k) (loI u k) S.length (some (.int (r1+f1))) none none) S3:=by
  rw[Wj,Xu,el,Gz,Gbe q3,Hl]
  rfl
 have nx:∀ i,(Wb S2.length 2).nxt i S3=[D.int (hiI u k),D.int (loI u k)][i]?:=fun i=>by
  show(S3[S2.length]?).bind (fun c=>c.xs[i]?)=_
  rw[q3]; rfl
 have sh1:=Gpk (us:=us) (b:=b) (k:=k) (hi:=hiI u k) (lo:=loI u k) (x12:=some (.int (r1+f1))) (x14:=none) w3 v.h1 v.h3
 have sh2:=Gpk (us:=us) (b:=b) (k:=k) (hi:=hiI u k) (lo:=loI u k) (x12:=some (.int (r1+f1))) (x14:=none) w3 v.h2 v.h4
 by_cases c5:(shal pH lH||shal pL lL)=true
 ·rw[if_pos c5]
  refine⟨S3,Hy (sf.trans ?_),x13⟩
  cases c6:shal pH lH
  ·rw[c6] at sh1 c5
   have c7:shal pL lL=true:=by simpa using c5
   rw[if_pos c7] at sh2
   rw[Qb (nx 0) rfl (sh1.trans (if_neg Ao))]
   exact Gki (nx 1) rfl sh2
  ·rw[if_pos c6] at sh1
   exact Gki (nx 0) rfl sh1
 rw[if_neg c5]
 have c6:shal pH lH=false/\shal pL lL=false:=by simpa using c5
 rw[c6.1,if_neg Ao] at sh1
 rw[c6.2,if_neg Ao] at sh2
 have lp:Qe (Wb S2.length 2).nxt (gn 13) Ja (1+1+1) 0 (rg ps us L R F b k (hiI u k) (loI u k) S.length (some (.int (r1+f1))) none none) S3=.nx (rg ps us L R F b k (hiI u k) (loI u k) S.length (some (.int (r1+f1))) (some (.int (loI u k))) none) S3:=by
  rw[Qb (nx 0) rfl sh1,Qb (nx 1) rfl sh2,Gb4 (nx 2)]
 have lrow:S.length<=Yf b S.length:=by cases b<;>simp[Yf]
 obtain⟨S4,e4,w4,q4s,x4⟩:∃ S4,ss (o2 Vr (o2 DL.getD (o2 DL.getD (vr 8) (vr 9)) (vr 10)) (cn (.int 1))) (o2 DL.getD (vr 8) (vr 9)) (vr 10) Jo (rg ps us L R F b k (hiI u k) (loI u k) S.length (some (.int (r1+f1))) (some (.int (loI u k))) none) S3=.nx (rg ps us L R F b k (hiI u k) (loI u k) S.length (some (.int (r1+f1))) (some (.int (loI u k))) none) S4/\RwI S4 S.length L (if b=true then(sel b R F).set (stI b k) (a + -1) else R) (if b=true then F else(sel b R F).set (stI b k) (a + -1))/\S4[Yf b S.length]?=some ⟨false,((sel b R F).set (stI b k) (a + -1)).map D.int⟩/\Ex S S4:=by
  have gr3:=rwk (b:=b) w3
  have q3s:=Gpi (b:=b) w3
  have ga3:=Wa q3s v.ha
  have st3:=Wk (v:=a-1) q3s v.ha
  rw[<- Int.sub_eq_add_neg]
  exact⟨S3.set (Yf b S.length) ⟨false,((sel b R F).set (stI b k) (a-1)).map D.int⟩,by simp[gr3,ga3,st3,-List.map_set],Gpj w3,Ai (Aa.mp q3s).1,x13.setq lrow⟩
 obtain⟨S5,e5,w5,x5⟩:∃ S5,ss (o2 Gq (o2 DL.getD (o2 DL.getD (vr 8) (vr 9)) (vr 11)) (cn (.int 1))) (o2 DL.getD (vr 8) (vr 9)) (vr 11) Jo (rg ps us L R F b k (hiI u k) (loI u k) S.length (some (.int (r1+f1))) (some (.int (loI u k))) none) S4=.nx (rg ps us L R F b k (hiI u k) (loI u k) S.length (some (.int (r1+f1))) (some (.int (loI u k))) none) S5/\RwI S5 S.length L (if b=true then Qc b R F k a g else R) (if b=true then F else Qc b R F k a g)/\Ex S S5:=by
  have gr4:=rwk (b:=b) w4
  have hg':((sel b R F).set (stI b k) (a + -1))[glI b k]?=some g:=(Ae Gpc).trans v.hg
  have gg4:=Wa q4s hg'
  have st4:=Wk (v:=g+1) q4s hg'
  have w5:=Gpj (b:=b) (M:=Qc b R F k a g) w4
  refine⟨S4.set (Yf b S.length) ⟨false,(Qc b R F k a g).map D.int⟩,?_,by cases b<;>exact w5,x4.setq lrow⟩
  have st4:Jo (.lst (Yf b S.length)) (.int (glI b k)) (.int (g+1)) S4=some (S4.set (Yf b S.length) ⟨false,(Qc b R F k a g).map D.int⟩):=st4
  simp[gr4,gg4,st4]
 have x6:Ex S5 (S5++[⟨false,[.int 0,.int ((ps.length:Int)-1)]⟩]):=Ex.app
 have w6:RwI (S5++[⟨false,[.int 0,.int ((ps.length:Int)-1)]⟩]) S.length L (if b=true then Qc b R F k a g else R) (if b=true then F else Qc b R F k a g):=w5.ex x6
 have gv:∀ c:Bool,DL.getD (.lst S5.length) (.int (if c=true then 1 else 0)) (S5++[⟨false,[.int 0,.int ((ps.length:Int)-1)]⟩])=.ok (.int (if c=true then(ps.length:Int)-1 else 0)) (S5++[⟨false,[.int 0,.int ((ps.length:Int)-1)]⟩]):=fun c=>Jt Gr (by cases c<;>rfl)
 have gvb:=gv b
 have e6:sa (b1 Yg (ac (o2 eqD (vr 11) (o2 DL.getD (ls (ac (cn (.int 0)) (ac (o2 Vr (b1 Hd (ac (vr 5) an)) (cn (.int 1))) an))) (b1 Yg (ac (o2 eqD (vr 6) (cn (.str "right"))) an)))) an)) (gn 14) (rg ps us L R F b k (hiI u k) (loI u k) S.length (some (.int (r1+f1))) (some (.int (loI u k))) none) S5=.nx (rg ps us L R F b k (hiI u k) (loI u k) S.length (some (.int (r1+f1))) (some (.int (loI u k))) (some (.int (if(glI b k:Int)=(if b=true then(ps.length:Int)-1 else 0) then 1 else 0)))) (S5++[⟨false,[.int 0,.int ((ps.length:Int)-1)]⟩]):=by
  simp[wr,Gfg,gvb]
 generalize S5++[(⟨false,[.int 0,.int ((ps.length:Int)-1)]⟩:Cell)]=S6 at x6 w6 e6
 refine⟨S6,?_,x5.trans x6⟩
 refine(Gc (sf.trans lp)).trans ((Gc e4).trans ((Gc e5).trans ((Gc e6).trans ?_)))
 have r0:=rw0 w6
 have r1':=rw1 w6
 have r2':=rw2 w6
 have u0:=Zj w6.q1
 have u1:=Zj w6.q2
 have u2:=Zj w6.q3
 simp only[Ggm,Hcc,Gfe,Ghu,Gow,Ye,Gd3,Gd4,A4,A5,Gz,r0,r1',r2',u0,u1,u2,AA,AI]
 rfl
def Gy9:neD (wd b) (.str "let") S=.ok (.bl true) S:=Ku Gpb
noncomputable abbrev wS(b:Bool):Str:=if b=true then "right" else "left"
def due_mno{n:Int}(h:¬ (0<=n/\n<us.length)):∃ S',Ho [cD ps us,stD L R F,dM b n] S=.ok (Vy "NoGate") S'/\Ex S S':=by
 refine⟨S++[⟨false,L.map D.int⟩],?_,Ex.app⟩
 refine(Gn (m:=10) (b:=Hb)).trans ?_
 show fin (Hb [some (cD ps us),some (stD L R F),some (dL (wS b) n),none,none,none,none,none,none,none] S)=_
 unfold Hb
 refine Gc2.trans ?_
 have wf:∀ S,eqD (.str (wS b)) (.str "feed") S=.ok (.bl false) S:=fun S=>Ggr (b:=b)
 refine(Gc (U':=rd ps us L R F (wS b) n S.length none none) (S':=S++[⟨false,L.map D.int⟩]) (by rw[Hg (S1:=S++[⟨false,L.map D.int⟩]) (by simp only[Ghw,Ye,Gd3,Gd4,A4,A5,Gz,wf])]; rfl)).trans ?_
 refine Hy ?_
 rw[Hw (S1:=S++[⟨false,L.map D.int⟩])]
 ·rfl
 ·by_cases h1:n<0
  ·simp[h1]
  ·have h2:(us.length:Int)<=n:=by
    by_cases c:(us.length:Int)<=n
    ·exact c
    ·exact absurd ⟨by omega,by omega⟩ h
   simp[h1,h2]
def Gpl(v:Mv ps us L R F b k u pH pL pG lH lL a g r1 f1)(hc:pH.isC=true->0<=lH/\lH<=1):∃ S',Ho [cD ps us,stD L R F,dM b k] S=.ok (Gcj ps.length b k pH pL pG lH lL a g r1 f1 L R F).toD S'/\Ex S S':=by
 have hk':k<us.length:=(Aa.mp v.hu).1
 have x1:Ex S (S++[⟨false,L.map D.int⟩]):=Ex.app
 obtain⟨S2,e2,x2⟩:=Gtf (S:=S++[⟨false,L.map D.int⟩]) v hc
 refine⟨S2,?_,x1.trans x2⟩
 have mu:Kf (.int 2) (.int (k:Int)) (S++[⟨false,L.map D.int⟩])=.ok (.int (2*(k:Int))) (S++[⟨false,L.map D.int⟩]):=Gff (by decide) (by decide)
 have gg:=Gkb (us:=us) (S:=S++[⟨false,L.map D.int⟩]) v.hu
 have gu:=Gkc (u:=u) (S:=S++[⟨false,L.map D.int⟩])
 have wf:∀ S,eqD (.str (wS b)) (.str "feed") S=.ok (.bl false) S:=fun S=>Ggr (b:=b)
 have nl:∀ S,neD (.str (wS b)) (.str "let") S=.ok (.bl true) S:=fun S=>Gy9 (b:=b)
 refine(Gn (m:=10) (b:=Hb)).trans ?_
 show fin (Hb [some (cD ps us),some (stD L R F),some (dL (wS b) k),none,none,none,none,none,none,none] S)=_
 unfold Hb
 refine Gc2.trans ?_
 generalize S++[(⟨false,L.map D.int⟩:Cell)]=S1 at *
 refine(Gc (U':=rd ps us L R F (wS b) k S.length none none) (S':=S1) (by rw[Hg (S1:=S1) (by simp only[Ghw,Ye,Gd3,Gd4,A4,A5,Gz,wf])]; rfl)).trans ?_
 refine(Gc (U':=rd ps us L R F (wS b) k S.length none none) (S':=S1) ?_).trans ?_
 ·rw[Hg (S1:=S1)]
  ·rfl
  ·have a1:¬ ((k:Int)<0):=by omega
   have a2:¬ ((us.length:Int)<=k):=by omega
   simp[a1,a2]
 refine(Gc (U':=rd ps us L R F (wS b) k S.length (some (.int (hiI u k))) none) (S':=S1) ?_).trans ?_
 ·have e:(k:Int)+(if u=true then 1 else 0)=((hiI u k:Nat):Int):=by cases u<;>simp[hiI]
  simp[gg,gu,Gfg,e]
 refine(Gc (U':=rd ps us L R F (wS b) k S.length (some (.int (hiI u k))) (some (.int (loI u k)))) (S':=S1) ?_).trans ?_
 ·have e:2*(k:Int)+1-((hiI u k:Nat):Int)=((loI u k:Nat):Int):=by cases u<;>simp[hiI,loI]<;>omega
  simp[mu,e]
 refine Hy ?_
 rw[Hw (S1:=S1) (by simp only[Ghw,Ye,Gd3,Gd4,A4,A5,Gz,nl])]
 simp only[Ggm,Gut,Gfe,Ghu,Gd3,A4,A5,Gz,AA,AI,if_true,Ghv]
 have e2:Uw [cD ps us,stD L R F,dL (wS b) k,.int (hiI u k),.int (loI u k)] S1=.ok (Gcj ps.length b k pH pL pG lH lL a g r1 f1 L R F).toD S2:=e2
 rw[e2]
 rfl
end
def Gh1(h:y∈ys):∃ w,Vy y=.str w:=by
 simp only[ys,Af,AR,or_false] at h
 rcases h with rfl | rfl | rfl | rfl | rfl | rfl | rfl | rfl | rfl | rfl | rfl | rfl<;>exact⟨_,rfl⟩
def Sm(M:List Int):Prop:=M.length<=13/\∀ i∈M,i.natAbs<10^60
def Ggs(h:Sm M):Sho S (.tup (M.map D.int)) 822 1:=by
 refine(Ggq (b:=61) (e:=0) fun d hd=>?_).mono ?_ (Ac _)
 ·obtain⟨i,hi,rfl⟩:=AH.mp hd
  exact Gs0 (h.2 i hi)
 ·have:=h.1
  simp only[Ah]
  omega
def Gza{R F:List Int}(h1:Sm L)(h2:Sm R)(h3:Sm F):Sho S (stD L R F) 2475 2:=(Ggq (S:=S) (l:=[.tup (L.map D.int),.tup (R.map D.int),.tup (F.map D.int)]) (b:=822) (e:=1) fun d hd=>by
 simp only[Af,AR,or_false] at hd
 rcases hd with rfl | rfl | rfl
 ·exact Ggs h1
 ·exact Ggs h2
 ·exact Ggs h3).mono (by simp) (by decide)
def Heq:∀ {i:Int},-2000<=i->i<=2000->i.natAbs<10^60:=fun h1 h2=>Nat.lt_of_le_of_lt (show _<=2000 by omega) (by decide)
def sm_of(hl:M.length<=13)(h:∀ i∈M,0<=i/\i<=1000):Sm M:=⟨hl,fun i hi=>Heq (by have:=h i hi; omega) (by have:=h i hi; omega)⟩
structure StF(ps:List Pl)(L R F:List Int):Prop where
 lL:L.length=ps.length
 lR:R.length=ps.length
 lF:F.length=ps.length
 nL:∀ i∈L,0<=i
 nR:∀ i∈R,0<=i
 nF:∀ i∈F,0<=i
 at':∀ (i:Nat) (p:Pl) (l r f:Int),ps[i]?=some p->L[i]?=some l->R[i]?=some r->F[i]?=some f->l<=wat p/\hol p (r+f)=true
 sum:R.sum+F.sum<=900
def Gbf:∀ {M:List Int} {i:Nat} {a v:Int},M[i]?=some a->(M.set i v).sum=M.sum-a+v
 | [],i,a,v,h=>by simp at h
 | x::M,0,a,v,h=>by
  cases (Ab h)
  rw[List.set_cons_zero,AS,AS]
  omega
 | x::M,i+1,a,v,h=>by
  have:=Gbf (M:=M) (i:=i) (v:=v) (by simpa using h)
  rw[List.set_cons_succ,AS,AS,this]
  omega
def Vn{i:Nat}(h:∀ j∈M,0<=j)(hv:0<=v):∀ j∈M.set i v,0<=j:=fun j hj=>by
 rcases List.mem_or_eq_of_mem_set hj with z | z
 ·exact h j z
 ·rw[z]; exact hv
def Zk{i:Nat}{x:Int}(h:(M.set i v)[j]?=some x):(j=i/\x=v)\/(j≠i/\M[j]?=some x):=by
 by_cases c:j=i
 ·subst c
  have hl:j<M.length:=by
   have:=(Aa.mp h).1
   simpa using this
  rw[Ai hl] at h
  exact .inl ⟨rfl,(Ab h).symm⟩
 ·rw[Ae (Ne.symm c)] at h
  exact .inr ⟨c,h⟩
section
variable{ps:List Pl}{us:List Bool}{L R F:List Int}
def StF.setL{i:Nat}(h:StF ps L R F)(hp:ps[i]?=some p)(h0:0<=v)(h1:v<=wat p):StF ps (L.set i v) R F:=by
 refine⟨by rw[A2]; exact h.lL,h.lR,h.lF,Vn h.nL h0,h.nR,h.nF,fun j q l r f e1 e2 e3 e4=>?_,h.sum⟩
 rcases Zk e2 with⟨rfl,rfl⟩ | ⟨_,e2⟩
 ·rw[hp] at e1
  cases e1
  have hj:j<L.length:=by rw[h.lL]; exact(Aa.mp hp).1
  exact⟨h1,(h.at' j p _ r f hp (Ad hj) e3 e4).2⟩
 ·exact h.at' j q l r f e1 e2 e3 e4
def StF.adw{i:Nat}{l d:Int}(h:StF ps L R F)(hp:ps[i]?=some p)(hb:p.isE=false->0<=l+d/\l+d<=wat p):StF ps (Law.adw p L i l d) R F:=by
 unfold Law.adw
 split
 ·exact h
 ·rename_i c
  have:=hb (by simpa using c)
  exact h.setL hp this.1 this.2
def Ggt{a b:Int}(h:hol p b=true)(hab:a<=b):hol p a=true:=by
 cases p with
 | e=>rfl
 | c=>
  have:b<=1:=by simpa[hol] using h
  simp[hol]; omega
 | p br de ro pr=>
  have:b<=ro:=by simpa[hol] using h
  simp[hol]; omega
def StF.move{pG:Pl}{a g r1 f1:Int}(h:StF ps L R F)(hG:ps[glI b k]?=some pG)(ha:(sel b R F)[stI b k]?=some a)(hg:(sel b R F)[glI b k]?=some g)(hr:R[glI b k]?=some r1)(hf:F[glI b k]?=some f1)(h1:1<=a)(h2:hol pG (r1+f1+1)=true):
  StF ps L (if b=true then Qc b R F k a g else R) (if b=true then F else Qc b R F k a g):=by
 have hg':((sel b R F).set (stI b k) (a + -1))[glI b k]?=some g:=(Ae Gpc).trans hg
 have hsum:(Qc b R F k a g).sum=(sel b R F).sum:=by
  unfold Qc
  rw[Gbf hg',Gbf ha]
  omega
 have at2:∀ (j:Nat) (x:Int),(Qc b R F k a g)[j]?=some x->(j=glI b k/\x=g+1)\/(j≠glI b k/\∃ y,(sel b R F)[j]?=some y/\x<=y):=fun j x e=>by
  rcases Zk e with⟨c,e⟩ | ⟨c,e⟩
  ·exact .inl ⟨c,e⟩
  ·rcases Zk e with⟨c',e⟩ | ⟨c',e⟩
   ·exact .inr ⟨c,a,by rw[c']; exact ha,by omega⟩
   ·exact .inr ⟨c,x,e,Int.le_refl _⟩
 have nn:∀ {M:List Int},sel b R F=M->(∀ i∈M,0<=i)->∀ i∈Qc b R F k a g,0<=i:=fun e n=>by
  unfold Qc
  rw[e]
  exact Vn (Vn n (by omega)) (by have:=n g (by rw[<- e]; exact Ak hg); omega)
 have ln:(Qc b R F k a g).length=(sel b R F).length:=by unfold Qc; rw[A2,A2]
 cases b
 ·have e:sel false R F=F:=rfl
  rw[e] at hsum at2 ln hg
  refine⟨h.lL,h.lR,by simp only[AC,if_false]; rw[ln]; exact h.lF,h.nL,h.nR,nn e h.nF,fun j q l r f e1 e2 e3 e4=>?_,by simp only[AC,if_false]; rw[hsum]; exact h.sum⟩
  simp only[AC,if_false] at e3 e4
  rcases at2 j f e4 with⟨c,rfl⟩ | ⟨_,y,ey,hy⟩
  ·rw[c] at e1 e2 e3
   rw[hG] at e1; cases e1
   rw[hr] at e3; cases e3
   rw[hf] at hg; cases hg
   exact⟨(h.at' _ _ _ _ _ hG e2 hr hf).1,Ggt h2 (by omega)⟩
  ·have:=h.at' j q l r y e1 e2 e3 ey
   exact⟨this.1,Ggt this.2 (by omega)⟩
 ·have e:sel true R F=R:=rfl
  rw[e] at hsum at2 ln hg
  refine⟨h.lL,by simp only[if_true]; rw[ln]; exact h.lR,h.lF,h.nL,nn e h.nR,h.nF,fun j q l r f e1 e2 e3 e4=>?_,by simp only[if_true]; rw[hsum]; exact h.sum⟩
  simp only[if_true] at e3 e4
  rcases at2 j r e3 with⟨c,rfl⟩ | ⟨_,y,ey,hy⟩
  ·rw[c] at e1 e2 e4
   rw[hG] at e1; cases e1
   rw[hf] at e4; cases e4
   rw[hr] at hg; cases hg
   exact⟨(h.at' _ _ _ _ _ hG e2 hr hf).1,Ggt h2 (by omega)⟩
  ·have:=h.at' j q l y f e1 e2 ey e4
   exact⟨this.1,Ggt this.2 (by omega)⟩
end
inductive Kd(ps:List Pl):Res->Prop where
 | no {y:Str} (h:y∈ys):Kd ps (.no y)
 | yes {A B C:List Int} {p g:Int} (h:StF ps A B C) (p0:0<=p/\p<=1000) (g0:0<=g/\g<=1):Kd ps (.yes (.tup [stD A B C,.int p,.int g]))
structure Rs(ps:List Pl)(us:List Bool)(L R F:List Int)(dd:D)(r:Res):Prop where
 did:∀ S,Gu [cD ps us,stD L R F,dd] S=r.out S
 due:∀ S,∃ S',Ho [cD ps us,stD L R F,dd] S=.ok r.toD S'/\Ex S S'
 kd:Kd ps r
section
variable{cr:Int}{ps:List Pl}{us:List Bool}{L R F:List Int}
def Gi9{l f:Int}(h:vOk cr p l r f):l<=wat p:=by
 have:=h.2.2.2
 cases p with
 | e=>simp only at this; simp[wat,this.1]
 | c=>simp only at this; simp[wat,this.1]
 | p br de ro pr=>simp only at this; simp[wat,this.1]
def Gzb(hp:∀ p∈ps,p.ok)(hl:ps.length<=13)(hu:us.length+1=ps.length)(st:StR cr ps L R F)(sf:StF ps L R F)(hk:k<us.length):∃ r,Rs ps us L R F (.tup [.str "let",.int k]) r:=by
 have eu:=Ad hk
 generalize us[k]=u at eu
 have hH:hiI u k<ps.length:=by cases u<;>simp[hiI]<;>omega
 have hL:loI u k<ps.length:=by cases u<;>simp[loI]<;>omega
 have eH:=Ad hH
 have eL:=Ad hL
 obtain⟨lH,_,_,a1,_,_,a4⟩:=st.at' _ _ eH
 obtain⟨lL,_,_,b1,_,_,b4⟩:=st.at' _ _ eL
 have k1:=hp _ (Ak eH)
 have k2:=hp _ (Ak eL)
 have w1:=Gi9 a4
 have w2:=Gi9 b4
 have n1:=a4.1
 have n2:=b4.1
 generalize ps[hiI u k]=pH at eH k1 w1
 generalize ps[loI u k]=pL at eL k2 w2
 refine⟨Gl5 u k pH pL lH lL L R F,fun S=>dd_let eu eH eL a1 b1 k1 k2 (by rw[st.lL]; omega),fun S=>Gte eu eH eL a1 b1 w2 (by omega),?_⟩
 unfold Gl5
 split
 ·exact .no Gb6.2.1
 ·rename_i c1
  split
  ·exact .no Gb6.2.2.1
  ·rename_i c2
   refine .yes ((sf.adw eH fun z=>?_).adw eL fun z=>?_) (by decide) (by decide)
   ·have:lH≠0:=by simpa[z] using c1
    exact⟨by omega,by omega⟩
   ·have:¬ wat pL<=lL:=by simpa[z] using c2
    exact⟨by omega,by omega⟩
def Gtg(hp:∀ p∈ps,p.ok)(hl:ps.length<=13)(st:StR cr ps L R F)(sf:StF ps L R F)(hk:k<ps.length):∃ r,Rs ps us L R F (.tup [.str "feed",.int k]) r:=by
 have e:=Ad hk
 obtain⟨l,_,_,a1,_,_,a4⟩:=st.at' _ _ e
 have k1:=hp _ (Ak e)
 have w1:=Gi9 a4
 have n1:=a4.1
 generalize ps[k]=p at e k1 w1
 refine⟨Xj k p l L R F,fun S=>dd_feed e a1 k1 (by rw[st.lL]; omega),fun S=>Gpg e a1 k1 w1,?_⟩
 unfold Xj
 split
 ·rename_i br de ro i
  split
  ·exact .no Gb6.2.2.1
  ·rename_i c
   have w1:l<=br:=w1
   have pb:0<=i/\i<=1000:=by
    obtain⟨_,_,_,_,_,_,hpr⟩:=k1
    rcases hpr with h | ⟨j,h,h1,h2⟩
    ·cases h
    ·cases h; omega
   exact .yes (sf.setL e (by omega) (show l+1<=br by omega)) pb (by decide)
 ·exact .no Gb6.2.2.2
def Gkj(hp:∀ p∈ps,p.ok)(hl:ps.length<=13)(hu:us.length+1=ps.length)(st:StR cr ps L R F)(sf:StF ps L R F)(b:Bool)(hk:k<us.length):∃ r,Rs ps us L R F (dM b k) r:=by
 have eu:=Ad hk
 generalize us[k]=u at eu
 have hH:hiI u k<ps.length:=by cases u<;>simp[hiI]<;>omega
 have hL:loI u k<ps.length:=by cases u<;>simp[loI]<;>omega
 have hG:glI b k<ps.length:=by cases b<;>simp[glI]<;>omega
 have hS:stI b k<ps.length:=by cases b<;>simp[stI]<;>omega
 have lM:(sel b R F).length=ps.length:=by
  unfold sel
  split
  ·exact st.lR
  ·exact st.lF
 have nM:∀ i∈sel b R F,0<=i:=by
  unfold sel
  split
  ·exact sf.nR
  ·exact sf.nF
 have eH:=Ad hH
 have eL:=Ad hL
 have eG:=Ad hG
 have aH:=Ad (l:=L) (i:=hiI u k) (by rw[st.lL]; exact hH)
 have aL:=Ad (l:=L) (i:=loI u k) (by rw[st.lL]; exact hL)
 have aS:=Ad (l:=sel b R F) (i:=stI b k) (by rw[lM]; exact hS)
 have aG:=Ad (l:=sel b R F) (i:=glI b k) (by rw[lM]; exact hG)
 have aR:=Ad (l:=R) (i:=glI b k) (by rw[st.lR]; exact hG)
 have aF:=Ad (l:=F) (i:=glI b k) (by rw[st.lF]; exact hG)
 have v:Mv ps us L R F b k u ps[hiI u k] ps[loI u k] ps[glI b k] _ _ _ _ _ _:=⟨eu,eH,eL,aH,aL,hp _ (AJ hH),hp _ (AJ hL),eG,hp _ (AJ hG),aS,aG,aR,aF,hu,by omega⟩
 have hc:(ps[hiI u k]).isC=true->0<=L[hiI u k]'(by rw[st.lL]; exact hH)/\L[hiI u k]'(by rw[st.lL]; exact hH)<=1:=fun z=>by
  obtain⟨l',_,_,q1,_,_,q4⟩:=st.at' _ _ eH
  rw[aH] at q1
  cases q1
  obtain⟨c1,_,_,c2⟩:=q4
  cases y:ps[hiI u k] with
  | c=>rw[y] at c2; exact⟨c1,c2.1⟩
  | e=>rw[y] at z; cases z
  | p _ _ _ _=>rw[y] at z; cases z
 have na:=nM _ (Ak aS)
 refine⟨_,fun S=>dd_move v,fun S=>Gpl v hc,?_⟩
 unfold Gcj
 split
 ·rename_i y z; exact .no (Gkg z)
 ·rename_i z
  unfold Ghz at z
  split at z
  ·cases z
  ·rename_i c1
   split at z
   ·cases z
   ·rename_i c2
    exact .yes (sf.move eG aS aG aR aF (by omega) (by simpa using c2)) (by decide) ((fun(c:Prop) (_:Decidable c)=>show 0<=(if c then(1:Int) else 0)/\(if c then(1:Int) else 0)<=1 by split<;>decide) _ _)
end
inductive Wd where
 | l | f | r | e
variable{w:Wd}
def Wd.toD:Wd->D
 | .l=>.str "let"
 | .f=>.str "feed"
 | .r=>wd true
 | .e=>wd false
abbrev ddOf(p:Wd×Nat):D:=.tup [p.1.toD,.int p.2]
noncomputable def Res.isY:Res->Bool
 | .yes _=>true
 | .no _=>false
def Gpm{s:Src}{l:List D}{fs:Ev Src}{pk:List (BJ Nat)}{e:Ev D}(rest:Lc)(v:D->D)(hf:fs U S=.ok s S)(hn:∀ k (S':Sto),Ex S S'->s.nxt k S'=l[k]?)(hfu:l.length<s.fuel)(hp:pkS pk U=none::rest)(hl:l.length<1000)(he:∀ d∈l,∀ S':Sto,Ex S S'->∃ S'',e (some d::rest) S'=.ok (v d) S''/\Ex S' S''):
  ∃ S',cmp fs pk (gn 0) ttrue e U S=.ok (.lst S.length) S'/\S'[S.length]?=some ⟨false,l.map v⟩/\Ex S S':=by
 obtain⟨U',S',el,g,hU,hq,hx⟩:=Qa (nxt:=s.nxt) (g:=gn 0) (b:=cbody S.length ttrue e) (l:=l)
  (fun i U S'=>∃ g,U=g::rest/\S'[S.length]?=some ⟨false,(l.take i).map v⟩/\Ex S S')
  (fun k U S' ⟨_,_,_,h3⟩=>hn k S' h3) (fun i d U S' hd ⟨g,h1,h2,h3⟩=>by
   subst h1
   have hi:i<l.length:=(Aa.mp hd).1
   obtain⟨S'',e1,e2⟩:=he d (Ak hd) S' h3
   have q'':=e2.at h2
   have lq:S.length<S''.length:=(Aa.mp q'').1
   refine⟨_,_,_,rfl,Kt e1 q'' (by simp; omega),some d,rfl,?_,(h3.trans e2).setq (Ac _)⟩
   rw[Ai lq]
   have:l.take (i+1)=l.take i++[d]:=by rw[A9,hd]; rfl
   rw[this]
   simp) s.fuel 0 (none::rest) (S++[⟨false,[]⟩]) (AB _) ⟨none,rfl,by simp[Gr],Ex.app⟩ (by omega)
 rw[Bx] at hq
 exact⟨S',Gak (pk:=pk) (U:=U) (S:=S) (f:=fs) (s:=s) (S1:=S) (g:=gn 0) (c:=ttrue) (e:=e) hf (by rw[hp]; exact el),hq,hx⟩
section
def Gb8:∀ {M:List Int},(∀ j∈M,0<=j)->0<=M.sum
 | [],_=>Int.le_refl _
 | x::M,h=>by
  have a:=Gb8 (M:=M) fun j hj=>h j (Au _ hj)
  have b:=h x Av
  rw[AS]
  omega
def Gd8:∀ {M:List Int} {i:Nat} {a:Int},(∀ j∈M,0<=j)->M[i]?=some a->a<=M.sum
 | [],i,a,_,h=>by simp at h
 | x::M,0,a,hn,h=>by
  cases (Ab h)
  have:=Gb8 (M:=M) fun j hj=>hn j (Au _ hj)
  rw[AS]
  omega
 | x::M,i+1,a,hn,h=>by
  have c:=Gd8 (M:=M) (i:=i) (a:=a) (fun j hj=>hn j (Au _ hj)) (by simpa using h)
  have b:=hn x Av
  rw[AS]
  omega
def StF.toR{R F:List Int}(h:StF ps L R F):StR 900 ps L R F:=by
 refine⟨h.lL,h.lR,h.lF,fun i p hp=>?_⟩
 have hi:=(Aa.mp hp).1
 obtain⟨l,e1⟩:∃ l,L[i]?=some l:=⟨_,Ad (by rw[h.lL]; exact hi)⟩
 obtain⟨r,e2⟩:∃ l,R[i]?=some l:=⟨_,Ad (by rw[h.lR]; exact hi)⟩
 obtain⟨f,e3⟩:∃ l,F[i]?=some l:=⟨_,Ad (by rw[h.lF]; exact hi)⟩
 obtain⟨a,b⟩:=h.at' i p _ _ _ hp e1 e2 e3
 have n1:=h.nL _ (Ak e1)
 have n2:=h.nR _ (Ak e2)
 have n3:=h.nF _ (Ak e3)
 have s2:=Gd8 h.nR e2
 have s3:=Gd8 h.nF e3
 have t2:=Gb8 h.nR
 have t3:=Gb8 h.nF
 have s:=h.sum
 refine⟨l,r,f,e1,e2,e3,n1,n2,n3,?_⟩
 cases p with
 | e=>
  have a:l<=0:=a
  exact⟨by omega,by omega,by omega⟩
 | c=>
  have a:l<=1:=a
  have b:r+f<=1:=by simpa[hol] using b
  exact⟨a,b⟩
 | p br de ro pr=>
  have a:l<=br:=a
  have b:r+f<=ro:=by simpa[hol] using b
  exact⟨a,b⟩
end
def Gkk{cr:Int}{us:List Bool}{R F:List Int}(hp:∀ p∈ps,p.ok)(hl:ps.length<=13)(hu:us.length+1=ps.length)(st:StR cr ps L R F)(sf:StF ps L R F):
  ∃ res:Wd×Nat->Res,(∀ w k,k<ps.length->Rs ps us L R F (ddOf (w,k)) (res (w,k)))/\∀ w,w≠.f->(res (w,us.length)).isY=false:=by
 have one:∀ w k,k<ps.length->∃ r,Rs ps us L R F (ddOf (w,k)) r/\(w≠.f->k=us.length->r.isY=false):=fun w k hk=>by
  cases w with
  | f=>
   obtain⟨r,h⟩:=Gtg (us:=us) hp hl st sf hk
   exact⟨r,h,fun z=>absurd rfl z⟩
  | l=>
   by_cases c:k<us.length
   ·obtain⟨r,h⟩:=Gzb hp hl hu st sf c
    exact⟨r,h,fun _ z=>by omega⟩
   ·exact⟨.no "NoGate",⟨fun S=>dd_nogate (by omega),fun S=>due_let_no (by omega),.no Gb6.1⟩,fun _ _=>rfl⟩
  | r=>
   by_cases c:k<us.length
   ·obtain⟨r,h⟩:=Gkj hp hl hu st sf true c
    exact⟨r,h,fun _ z=>by omega⟩
   ·exact⟨.no "NoGate",⟨fun S=>dd_mnogate (by omega),fun S=>due_mno (by omega),.no Gb6.1⟩,fun _ _=>rfl⟩
  | e=>
   by_cases c:k<us.length
   ·obtain⟨r,h⟩:=Gkj hp hl hu st sf false c
    exact⟨r,h,fun _ z=>by omega⟩
   ·exact⟨.no "NoGate",⟨fun S=>dd_mnogate (by omega),fun S=>due_mno (by omega),.no Gb6.1⟩,fun _ _=>rfl⟩
 have all:∀ p:Wd×Nat,∃ r,p.2<ps.length->Rs ps us L R F (ddOf p) r/\(p.1≠.f->p.2=us.length->r.isY=false):=fun p=>by
  by_cases h:p.2<ps.length
  ·obtain⟨r,h1⟩:=one p.1 p.2 h
   exact⟨r,fun _=>h1⟩
  ·exact⟨.no "NoGate",fun z=>absurd z h⟩
 obtain⟨res,h⟩:=Classical.axiomOfChoice all
 exact⟨res,fun w k hk=>(h (w,k) hk).1,fun w hw=>(h (w,us.length) (by show us.length<ps.length; omega)).2 hw rfl⟩
noncomputable def prs(w:Wd)(n:Nat):List (Wd×Nat):=(List.range n).map fun k=>(w,k)
def prP(m N:Nat):List (Wd×Nat):=((prs .l m++prs .f N)++prs .r m)++prs .e m
def prL(N:Nat):List (Wd×Nat):=((prs .l N++prs .f N)++prs .r N)++prs .e N
def prs_last{res:Wd×Nat->Res}(h:(res (w,m)).isY=false):(prs w (m+1)).filter (fun p=>(res p).isY)=(prs w m).filter (fun p=>(res p).isY):=by
 unfold prs
 rw[List.range_succ,AO,Bj]
 simp[h]
def Gth{res:Wd×Nat->Res}(h:∀ w,w≠.f->(res (w,m)).isY=false):(prP m (m+1)).filter (fun p=>(res p).isY)=(prL (m+1)).filter (fun p=>(res p).isY):=by
 unfold prP prL
 simp only[Bj]
 rw[prs_last (h .l (fun z=>nomatch z)),prs_last (h .r (fun z=>nomatch z)),prs_last (h .e (fun z=>nomatch z))]
instance:DecidableEq Wd:=fun a b=>by cases a<;>cases b<;>first | exact .isTrue rfl | exact .isFalse (fun z=>nomatch z)
def Gh2{nxt:Nat->Sto->BJ D}{g:Tg}{b:Sv}{l:List D}(I:Nat->Lc->Sto->Prop)(hn:∀ k U S,I k U S->nxt k S=l[k]?)(hs:∀ k d U S,l[k]?=some d->I k U S->∃ U1 U2 S2,g d U=some U1/\(b U1 S=.nx U2 S2\/b U1 S=.ct U2 S2)/\I (k+1) U2 S2):
  ∀ (n k:Nat) (U:Lc) (S:Sto),k<=l.length->I k U S->l.length<n+k->∃ U' S',Qe nxt g b n k U S=.nx U' S'/\I l.length U' S'
 | 0,k,U,S,h1,_,h2=>by omega
 | n+1,k,U,S,h1,hI,h2=>by
  unfold Qe
  rw[hn k U S hI]
  cases z:l[k]? with
  | none=>
   have:k=l.length:=by have:=Be.mp z; omega
   subst this
   exact⟨U,S,rfl,hI⟩
  | some d=>
   obtain⟨U1,U2,S2,h3,h4,h5⟩:=hs k d U S z hI
   have hk:k<l.length:=(Aa.mp z).1
   obtain⟨U',S',h6,h7⟩:=Gh2 I hn hs n (k+1) U2 S2 hk h5 (by omega)
   refine⟨U',S',?_,h7⟩
   rcases h4 with h4 | h4
   ·simp only[h3,h4]; exact h6
   ·simp only[h3,h4]; exact h6
def Gbg{e:Ev (List D)}{s:D}(hs:s=w.toD)(h:e U S=.ok [.int N] S)(hN:N<=100):∃ S',cmp (ir1 e) [none] (gn 0) ttrue (tp (ac (cn s) (ac (vr 0) an))) U S=.ok (.lst S.length) S'/\S'[S.length]?=some ⟨false,(prs w N).map ddOf⟩/\Ex S S':=by
 subst hs
 obtain⟨S',e1,h1,x1⟩:=Gpm (s:=rsrc 0 N) (l:=(List.range N).map fun k:Nat=>D.int (k:Int)) (fs:=ir1 e) (pk:=[none]) (e:=tp (ac (cn w.toD) (ac (vr 0) an))) (U:=U) (S:=S) [] (fun d=>.tup [w.toD,d]) (Ggn h (by omega)) (fun k S' _=>Gcz) (by simp[rsrc]) rfl (by simp; omega) (fun d _ S' x=>⟨S',by simp,.refl⟩)
 refine⟨S',e1,?_,x1⟩
 rw[h1]
 unfold prs
 rw[List.map_map,List.map_map]
 rfl
def Gzc{us:List Bool}(hl:ps.length<=13)(hu:us.length+1=ps.length):∃ q S',Xr [cD ps us] S=.ok (.lst q) S'/\S'[q]?=some ⟨false,(prP us.length ps.length).map ddOf⟩/\Ex S S'/\S.length<=q:=by
 obtain⟨S1,e1,h1,x1⟩:=Gbg (w:=.l) (s:=.str "let") (e:=ac (b1 Hd (ac (vr 2) an)) an) (U:=[some (cD ps us),some (.tup (ps.map Pl.toD)),some (.tup (us.map gd)),none,none,none,none]) (N:=us.length) (S:=S) rfl (by simp) (by omega)
 obtain⟨S2,e2,h2,x2⟩:=Gbg (w:=.f) (s:=.str "feed") (e:=ac (b1 Hd (ac (vr 1) an)) an) (U:=[some (cD ps us),some (.tup (ps.map Pl.toD)),some (.tup (us.map gd)),some (.lst S.length),none,none,none]) (N:=ps.length) (S:=S1) rfl (by simp) (by omega)
 obtain⟨S3,e3,h3,x3⟩:=Gbg (w:=.r) (s:=.str "right") (e:=ac (b1 Hd (ac (vr 2) an)) an) (U:=[some (cD ps us),some (.tup (ps.map Pl.toD)),some (.tup (us.map gd)),some (.lst S.length),some (.lst S1.length),none,none]) (N:=us.length) (S:=S2) rfl (by simp) (by omega)
 obtain⟨S4,e4,h4,x4⟩:=Gbg (w:=.e) (s:=.str "left") (e:=ac (b1 Hd (ac (vr 2) an)) an) (U:=[some (cD ps us),some (.tup (ps.map Pl.toD)),some (.tup (us.map gd)),some (.lst S.length),some (.lst S1.length),some (.lst S2.length),none]) (N:=us.length) (S:=S3) rfl (by simp) (by omega)
 have ln:∀ w n,((prs w n).map ddOf).length=n:=fun w n=>by simp[prs]
 have a1:=Gb3 (((x2.trans x3).trans x4).at h1) ((x3.trans x4).at h2) (by rw[ln,ln]; omega)
 have a2:=Gb3 (S:=S4++[⟨false,(prs .l us.length).map ddOf++(prs .f ps.length).map ddOf⟩]) Gr (Jn (x4.at h3)) (by rw[Aw,ln,ln,ln]; omega)
 have a3:=Gb3 (S:=(S4++[⟨false,(prs .l us.length).map ddOf++(prs .f ps.length).map ddOf⟩])++[⟨false,((prs .l us.length).map ddOf++(prs .f ps.length).map ddOf)++(prs .r us.length).map ddOf⟩]) Gr (Jn (Jn h4)) (by rw[Aw,Aw,ln,ln,ln,ln]; omega)
 refine⟨((S4++[(⟨false,(prs .l us.length).map ddOf++(prs .f ps.length).map ddOf⟩:Cell)])++[(⟨false,((prs .l us.length).map ddOf++(prs .f ps.length).map ddOf)++(prs .r us.length).map ddOf⟩:Cell)]).length,S4++[⟨false,(prs .l us.length).map ddOf++(prs .f ps.length).map ddOf⟩]++[⟨false,((prs .l us.length).map ddOf++(prs .f ps.length).map ddOf)++(prs .r us.length).map ddOf⟩]++[⟨false,(((prs .l us.length).map ddOf++(prs .f ps.length).map ddOf)++(prs .r us.length).map ddOf)++(prs .e us.length).map ddOf⟩],?_,?_,(((((x1.trans x2).trans x3).trans x4).trans Ex.app).trans Ex.app).trans Ex.app,?_⟩
 rotate_left
 ·rw[Gr]
  unfold prP
  rw[AO,AO,AO]
 ·have:=x1.len; have:=x2.len; have:=x3.len; have:=x4.len
  rw[Aw,Aw]
  omega
 refine(Gn (m:=7) (b:=Vv)).trans ?_
 show fin (Vv [some (cD ps us),none,none,none,none,none,none] S)=_
 unfold Vv
 refine(Gc (U':=[some (cD ps us),some (.tup (ps.map Pl.toD)),some (.tup (us.map gd)),none,none,none,none]) (S':=S) rfl).trans ?_
 refine(Gc (U':=[some (cD ps us),some (.tup (ps.map Pl.toD)),some (.tup (us.map gd)),some (.lst S.length),none,none,none]) (S':=S1) (by rw[Uc,e1]; rfl)).trans ?_
 refine(Gc (U':=[some (cD ps us),some (.tup (ps.map Pl.toD)),some (.tup (us.map gd)),some (.lst S.length),some (.lst S1.length),none,none]) (S':=S2) (by rw[Uc,e2]; rfl)).trans ?_
 refine(Gc (U':=[some (cD ps us),some (.tup (ps.map Pl.toD)),some (.tup (us.map gd)),some (.lst S.length),some (.lst S1.length),some (.lst S2.length),none]) (S':=S3) (by rw[Uc,e3]; rfl)).trans ?_
 refine(Gc (U':=[some (cD ps us),some (.tup (ps.map Pl.toD)),some (.tup (us.map gd)),some (.lst S.length),some (.lst S1.length),some (.lst S2.length),some (.lst S3.length)]) (S':=S4) (by rw[Uc,e4]; rfl)).trans ?_
 simp only[Ggm,Ye,Gd3,A4,A5,Gz,a1,a2,a3]
 rfl
def Gzd{l:List D}{b e:Nat}(h:∀ d∈l,Sho S d b e)(h1:(b+2)*l.length+3<=1000000)(h2:e+1<39):∃ s:Str,PyData.strOk s=true/\∀ (S':Sto) (q:Nat) (fz:Bool),Ex S S'->S'[q]?=some ⟨fz,l⟩->Qt [.lst q] S'=.ok (.str s) S':=by
 obtain⟨ps,a,hl,g⟩:=Ggp h
 have g:=Gy1 g
 rw[hl] at g
 refine⟨(PyData.list ps).shown,g.ok,fun S' q fz x hq=>?_⟩
 have ha:toP S' 40 (.lst q)=some (.list ps):=by
  show(match S'[q]? with | some c=>(Jm (toP S' 39) c.xs).map PyData.list | none=>none)=_
  rw[hq]
  show(Jm (toP S' 39) l).map PyData.list=_
  rw[a S' x 39 (by omega)]
  rfl
 show(match toP S' 40 (.lst q) with
   | some p=>if(p.showable&&!p.hasDict&&decide (p.depth<=60))=true/\p.shown.length<=1000000 then Out.ok (D.str p.shown) S' else .bad
   | none=>.bad)=_
 rw[ha]
 show(if((PyData.list ps).showable&&!(PyData.list ps).hasDict&&decide ((PyData.list ps).depth<=60))=true/\(PyData.list ps).shown.length<=1000000 then Out.ok (D.str (PyData.list ps).shown) S' else .bad)=_
 rw[if_pos]
 refine⟨?_,Am g.le h1⟩
 rw[g.sh,g.nd]
 have:=g.dp
 simp
 omega
def apd(h:S[q]?=some ⟨false,xs⟩)(hl:xs.length<1000000):Gf1 (.lst q) [d] S=.ok .non (S.set q ⟨false,xs++[d]⟩):=by
 simp only[Gf1,h]
 simp[hl]
noncomputable def Res.three:Res->List D
 | .yes (.tup l)=>l
 | _=>[]
def st4(res:Wd×Nat->Res)(p:Wd×Nat):D:=.tup (ddOf p::(res p).three)
def Gkl{l:List O}{p:O}{f:O->Bool}(h:l[k]?=some p):(l.take (k+1)).filter f=(l.take k).filter f++if f p=true then[p] else[]:=by
 rw[A9,h,Bj]
 show _++[p].filter f=_
 rw[List.filter_cons]
 rfl
def Gc3{p:Wd×Nat}(h:p∈prs w n):p.2<n:=by
 obtain⟨k,hk,rfl⟩:=AH.mp h
 exact Bn.mp hk
def Ggu{p:Wd×Nat}(hm:m<=N)(h:p∈prP m N):p.2<N:=by
 unfold prP at h
 simp only[Az] at h
 rcases h with((h | h) | h) | h
 ·have:=Gc3 h; omega
 ·have:=Gc3 h; omega
 ·have:=Gc3 h; omega
 ·have:=Gc3 h; omega
def Zq:(prs w n).length=n:=by simp[prs]
def Gkm:(prP m N).length=m+N+m+m:=by
 unfold prP
 rw[Aw,Aw,Aw,Zq,Zq,Zq,Zq]
def Gpn{x:Str}{fn:Fn}{t:Ev (List D)}(h:U[2]?=some (some (.fv x)))(ht:t U S=.ok ds S1)(hl:ds.length=n):clv 2 x n fn t U S=fn ds S1:=by
 unfold clv
 rw[h]
 simp only[if_true,ht,Gz,hl]
noncomputable def wR(M:List Int):List Int:=M.set 0 1
noncomputable def wF(M:List Int):List Int:=M.set (M.length-1) 1
noncomputable def we(M:List Int):List Int:=(M.set 0 0).set (M.length-1) 0
noncomputable def tl1(M:List Int):List Int:=M.drop 1
noncomputable def ini(M:List Int):List Int:=M.take (M.length-1)
noncomputable def mdl(M:List Int):List Int:=(M.drop 1).take (M.length-2)
def Gja{d:Nat}:HT.sIx n d (some (-1))=n-1:=by
 simp only[HT.sIx]
 rw[if_pos (by decide)]
 omega
def Gu0{d:Nat}(h:1<=n):HT.sIx n d (some 1)=1:=by
 have:=HT.Gcw n d 1
 rw[show((1:Nat):Int)=1 from rfl] at this
 rw[this]
 omega
section
variable{M:List Int}{S:Sto}
def Hco(h:2<=M.length):Gco (.tup (M.map D.int)) (some 1) none S=.ok (.tup ((tl1 M).map D.int)) S:=by
 show(if HT.sIx (M.map D.int).length 0 (some 1)=0/\HT.sIx (M.map D.int).length (M.map D.int).length none=(M.map D.int).length then Out.ok (D.tup (M.map D.int)) S else .ok (.tup (DL.Qs (M.map D.int) (some 1) none)) S)=_
 have e1:HT.sIx (M.map D.int).length 0 (some 1)=1:=Gu0 (by rw[Ah]; omega)
 rw[if_neg (by rw[e1]; omega)]
 unfold DL.Qs
 unfold tl1
 rw[e1,HT.Yl,List.map_drop,Bw (by simp)]
def Hcp(h:2<=M.length):Gco (.tup (M.map D.int)) none (some (-1)) S=.ok (.tup ((ini M).map D.int)) S:=by
 show(if HT.sIx (M.map D.int).length 0 none=0/\HT.sIx (M.map D.int).length (M.map D.int).length (some (-1))=(M.map D.int).length then Out.ok (D.tup (M.map D.int)) S else .ok (.tup (DL.Qs (M.map D.int) none (some (-1)))) S)=_
 rw[if_neg (by rw[Gja,Ah]; omega)]
 unfold DL.Qs
 unfold ini
 rw[Gja,HT.Yl,List.map_take,Ah]
 rfl
def Gti(h:2<=M.length):Gco (.tup (M.map D.int)) (some 1) (some (-1)) S=.ok (.tup ((mdl M).map D.int)) S:=by
 show(if HT.sIx (M.map D.int).length 0 (some 1)=0/\HT.sIx (M.map D.int).length (M.map D.int).length (some (-1))=(M.map D.int).length then Out.ok (D.tup (M.map D.int)) S else .ok (.tup (DL.Qs (M.map D.int) (some 1) (some (-1)))) S)=_
 have e1:HT.sIx (M.map D.int).length 0 (some 1)=1:=Gu0 (by rw[Ah]; omega)
 rw[if_neg (by rw[e1]; omega)]
 unfold DL.Qs
 unfold mdl
 rw[e1,Gja,List.map_take,List.map_drop,Ah]
 rfl
def Hcq(h:2<=M.length):wR M=1::tl1 M:=by
 cases M with
 | nil=>simp at h
 | cons m M=>rfl
def Hcr(h:2<=M.length):wF M=ini M++[1]:=by
 unfold wF ini
 rw[BB,if_pos (by omega),List.drop_of_length_le (by omega)]
def Hcs(h:2<=M.length):we M=0::mdl M++[0]:=by
 cases M with
 | nil=>simp at h
 | cons m M=>
  have h:1<=M.length:=by simpa using h
  unfold we
  rw[List.set_cons_zero,AA,Nat.add_sub_cancel]
  obtain⟨n,hn⟩:∃ n,M.length=n+1:=⟨M.length-1,by omega⟩
  rw[hn,List.set_cons_succ,BB,if_pos (by omega),List.drop_of_length_le (by omega)]
  have e:mdl (m::M)=M.take n:=by
   unfold mdl
   rw[AA,hn]
   rfl
  rw[e]
  rfl
def Gpo:(we M).length=M.length:=by unfold we; simp
def Hct(h:2<=M.length)(hl:M.length<=1000):Gq (.tup [.int 1]) (.tup ((tl1 M).map D.int)) S=.ok (.tup ((wR M).map D.int)) S:=by
 rw[Xv (by simp[tl1]; omega),Hcq h]
 rfl
def Hcu(h:2<=M.length)(hl:M.length<=1000):Gq (.tup ((ini M).map D.int)) (.tup [.int 1]) S=.ok (.tup ((wF M).map D.int)) S:=by
 rw[Xv (by simp[ini]; omega),Hcr h,AO]
 rfl
def Gkn(hl:M.length<=1000):Gq (.tup [.int 0]) (.tup ((mdl M).map D.int)) S=.ok (.tup ((0::mdl M).map D.int)) S:=by
 rw[Xv (by simp[mdl]; omega)]
 rfl
def Gko(h:2<=M.length)(hl:M.length<=1000):Gq (.tup ((0::mdl M).map D.int)) (.tup [.int 0]) S=.ok (.tup ((we M).map D.int)) S:=by
 rw[Xv (by simp[mdl]; omega),Hcs h,AO]
 rfl
end
section
variable{L R F A B C:List Int}{c dd:D}{a g:Int}{S:Sto}
def Gu1(h1:2<=R.length/\R.length<=1000)(h2:2<=F.length/\F.length<=1000):Ua [stD L R F] S=.ok (stD L (wR R) (wF F)) S:=by
 refine(Gn (m:=4) (b:=Km)).trans ?_
 show fin (Km [some (stD L R F),none,none,none] S)=_
 unfold Km
 refine(Gc (U':=[some (stD L R F),some (.tup (L.map D.int)),some (.tup (R.map D.int)),some (.tup (F.map D.int))]) (S':=S) rfl).trans ?_
 simp[Hco h1.1,Hcp h2.1,Hct h1.1 h1.2,Hcu h2.1 h2.2]
 rfl
def Hcv(h1:2<=B.length/\B.length<=1000)(h2:2<=C.length/\C.length<=1000):Vw [stD A B C] S=.ok (stD A (we B) (we C)) S:=by
 refine(Gn (m:=4) (b:=Kn)).trans ?_
 show fin (Kn [some (stD A B C),none,none,none] S)=_
 unfold Kn
 refine(Gc (U':=[some (stD A B C),some (.tup (A.map D.int)),some (.tup (B.map D.int)),some (.tup (C.map D.int))]) (S':=S) rfl).trans ?_
 have e1:=Gkn (M:=B) (S:=S) h1.2
 have e2:=Gko (M:=B) (S:=S) h1.1 h1.2
 have e3:=Gkn (M:=C) (S:=S) h2.2
 have e4:=Gko (M:=C) (S:=S) h2.1 h2.2
 simp only[As] at e1 e2 e3 e4
 simp[Gti h1.1,Gti h2.1,e1,e2,e3,e4]
 rfl
def od_no(h1:2<=R.length/\R.length<=1000)(h2:2<=F.length/\F.length<=1000)(h:Gu [c,stD L (wR R) (wF F),dd] S=.exc ⟨y,none⟩ S)(hy:y∈ys):Ht [c,stD L R F,dd] S=.exc ⟨y,none⟩ S:=by
 have w:=Gu1 (L:=L) (S:=S) h1 h2
 have gx:=Qo h hy
 refine(Gn (m:=6) (b:=Jq)).trans ?_
 show fin (Jq [some c,some (stD L R F),some dd,none,none,none] S)=_
 unfold Jq
 exact Jz (U':=[some c,some (stD L R F),some dd,none,none,none]) (by simp[w,gx])
def od_yes(h1:2<=R.length/\R.length<=1000)(h2:2<=F.length/\F.length<=1000)(h3:2<=B.length/\B.length<=1000)(h4:2<=C.length/\C.length<=1000)(h:Gu [c,stD L (wR R) (wF F),dd] S=.ok (.tup [stD A B C,.int a,.int g]) S):Ht [c,stD L R F,dd] S=.ok (.tup [stD A (we B) (we C),.int a,.int g]) S:=by
 have w:=Gu1 (L:=L) (S:=S) h1 h2
 have w2:=Hcv (A:=A) (S:=S) h3 h4
 have gx:=Zz h
 refine(Gn (m:=6) (b:=Jq)).trans ?_
 show fin (Jq [some c,some (stD L R F),some dd,none,none,none] S)=_
 unfold Jq
 refine(Gc (U':=[some c,some (stD L R F),some dd,some (stD A B C),some (.int a),some (.int g)]) (S':=S) (by
  have:cl 3 (gX ys Gu) (ac (vr 0) (ac (cl 1 (Gg Ua) (ac (vr 1) an)) (ac (vr 2) an))) [some c,some (stD L R F),some dd,none,none,none] S=.ok (.tup [stD A B C,.int a,.int g]) S:=by simp[w,gx]
  rw[Uc,this,Hl]
  rfl)).trans ?_
 simp[w2]
noncomputable abbrev ro(c st dd:D)(x3 x4 x5 x6 x7:BJ D):Lc:=[some c,some st,some dd,x3,x4,x5,x6,x7]
def Gpp{v:D}(h1:2<=R.length/\R.length<=1000)(h2:2<=F.length/\F.length<=1000)(h:Ho [c,stD L (wR R) (wF F),dd] S=.ok v S'):fin ((sq (sa (vr 1) (gt (gcons (gn 3) (gcons (gn 4) (gcons (gn 5) gnil))) 3))
  (sq (sa (tp (ac (vr 3) (ac (o2 Gq (tp (ac (cn (.int 1)) an)) (sl2 (vr 4) (osome (cn (.int 1))) onone)) (ac (o2 Gq (sl2 (vr 5) onone (osome (o1 Gbm (cn (.int 1))))) (tp (ac (cn (.int 1)) an))) an)))) (gn 6))
  (sq (sa (cl 3 (Gg Ho) (ac (vr 0) (ac (vr 6) (ac (vr 2) an)))) (gn 7)) X))) (ro c (stD L R F) dd none none none none none) S)=fin (X (ro c (stD L R F) dd (some (.tup (L.map D.int))) (some (.tup (R.map D.int))) (some (.tup (F.map D.int))) (some (stD L (wR R) (wF F))) (some v)) S'):=by
 refine(Gc (U':=ro c (stD L R F) dd (some (.tup (L.map D.int))) (some (.tup (R.map D.int))) (some (.tup (F.map D.int))) none none) (S':=S) rfl).trans ?_
 refine(Gc (U':=ro c (stD L R F) dd (some (.tup (L.map D.int))) (some (.tup (R.map D.int))) (some (.tup (F.map D.int))) (some (stD L (wR R) (wF F))) none) (S':=S) (by
  simp[Hco h1.1,Hcp h2.1,Hct h1.1 h1.2,Hcu h2.1 h2.2]
  rfl)).trans ?_
 exact Gc (by simp[h])
def Hcw{z:Str}(h1:2<=R.length/\R.length<=1000)(h2:2<=F.length/\F.length<=1000)(h:Ho [c,stD L (wR R) (wF F),dd] S=.ok (.str z) S'):Hj [c,stD L R F,dd] S=.ok (.str z) S':=by
 refine(Gn (m:=8) (b:=Hi)).trans ?_
 show fin (Hi (ro c (stD L R F) dd none none none none none) S)=_
 unfold Hi
 refine(Gpp h1 h2 h).trans ?_
 refine Hy ?_
 rw[Hw (S1:=S') (by simp[isD,isT,tyN,Vp])]
 rfl
def Gze(h1:2<=R.length/\R.length<=1000)(h2:2<=F.length/\F.length<=1000)(h3:2<=B.length/\B.length<=1000)(h4:2<=C.length/\C.length<=1000)(h:Ho [c,stD L (wR R) (wF F),dd] S=.ok (.tup [stD A B C,.int a,.int g]) S'):Hj [c,stD L R F,dd] S=.ok (.tup [stD A (we B) (we C),.int a,.int g]) S':=by
 refine(Gn (m:=8) (b:=Hi)).trans ?_
 show fin (Hi (ro c (stD L R F) dd none none none none none) S)=_
 unfold Hi
 refine(Gpp h1 h2 h).trans ?_
 generalize stD L (wR R) (wF F)=W
 refine(Gc (U':=ro c (stD L R F) dd (some (.tup (L.map D.int))) (some (.tup (R.map D.int))) (some (.tup (F.map D.int))) (some W) (some (.tup [stD A B C,.int a,.int g]))) (S':=S') (by
  rw[Hg (S1:=S') (by simp[isD,isT,tyN,Vp])]
  rfl)).trans ?_
 have g0:DL.getD (.tup [stD A B C,.int a,.int g]) (.int 0) S'=.ok (stD A B C) S':=Jc (Gw (by decide) rfl)
 refine(Gc (U':=ro c (stD L R F) dd (some (.tup (A.map D.int))) (some (.tup (B.map D.int))) (some (.tup (C.map D.int))) (some W) (some (.tup [stD A B C,.int a,.int g]))) (S':=S') (by
  have:o2 DL.getD (vr 7) (cn (.int 0)) (ro c (stD L R F) dd (some (.tup (L.map D.int))) (some (.tup (R.map D.int))) (some (.tup (F.map D.int))) (some W) (some (.tup [stD A B C,.int a,.int g]))) S'=.ok (stD A B C) S':=by simp[g0]
  rw[Uc,this,Hl]
  rfl)).trans ?_
 have e1:=Gkn (M:=B) (S:=S') h3.2
 have e2:=Gko (M:=B) (S:=S') h3.1 h3.2
 have e3:=Gkn (M:=C) (S:=S') h4.2
 have e4:=Gko (M:=C) (S:=S') h4.1 h4.2
 have s1:Gco (.tup [stD A B C,.int a,.int g]) (some 1) none S'=.ok (.tup [.int a,.int g]) S':=Goz
 have a1:∀ x:D,Gq (.tup [x]) (.tup [.int a,.int g]) S'=.ok (.tup [x,.int a,.int g]) S':=fun x=>Xv (by simp)
 simp only[As] at e1 e2 e3 e4
 simp[Gti h3.1,Gti h4.1,e1,e2,e3,e4,s1,a1]
 rfl
end
abbrev S3:=List Int×List Int×List Int
def stE(s:S3):D:=stD s.1 s.2.1 s.2.2
structure Cn(ps:List Pl)(us:List Bool):Prop where
 hp:∀ p∈ps,p.ok
 hl:ps.length<=13
 hu:us.length+1=ps.length
 h3:3<=ps.length
 h5:ps.length<=5
 e0:ps[0]?=some .e
 e1:ps[ps.length-1]?=some .e
 he:∀ i:Nat,ps[i]?=some .e->i=0\/i=ps.length-1
structure Gd(ps:List Pl)(s:S3):Prop extends StF ps s.1 s.2.1 s.2.2 where
 op:∀ (i:Nat) (r f:Int),ps[i]?=some .e->s.2.1[i]?=some r->s.2.2[i]?=some f->r=0/\f=0
def Gtj:∀ {R F:List Int},R.length=n->F.length=n->(∀ (i:Nat) (r f:Int),R[i]?=some r->F[i]?=some f->r+f<=4)->R.sum+F.sum<=4*n:=by
 induction n with
 | zero=>intro R F h1 h2 _; rw[Bk.mp h1,Bk.mp h2]; simp
 | succ n ih=>
  intro R F h1 h2 h
  cases R with
  | nil=>simp at h1
  | cons r R=>
   cases F with
   | nil=>simp at h2
   | cons f F=>
    have a:=h 0 r f rfl rfl
    have b:=ih (R:=R) (F:=F) (by simpa using h1) (by simpa using h2) fun i r f e1 e2=>h (i+1) r f e1 e2
    simp only[AS]
    push_cast
    omega
def Her(ok:p.ok)(hE:p=.e->v=0)(h:hol p v=true):v<=4:=by
 cases p with
 | e=>rw[hE rfl]; decide
 | c=>
  have:v<=1:=by simpa[hol] using h
  omega
 | p br de ro pr=>
  have:v<=ro:=by simpa[hol] using h
  simp only[Pl.ok] at ok
  omega
section
variable{ps:List Pl}{us:List Bool}{s:S3}{L R F A B C:List Int}
def Gkp(C:Cn ps us)(l1:R.length=ps.length)(l2:F.length=ps.length)(h:∀ (i:Nat) (p:Pl) (r f:Int),ps[i]?=some p->R[i]?=some r->F[i]?=some f->hol p (r+f)=true/\(p=.e->r=0/\f=0)):R.sum+F.sum<=52:=by
 have:=Gtj l1 l2 fun i r f e1 e2=>by
  have hi:=(Aa.mp e1).1
  rw[l1] at hi
  have e:=Ad hi
  obtain⟨a,b⟩:=h i _ r f e e1 e2
  exact Her (C.hp _ (AJ hi)) (fun z=>by obtain⟨p,q⟩:=b z; omega) a
 have:=C.hl
 omega
def Gd.wt(C:Cn ps us)(g:Gd ps s):StF ps s.1 (wR s.2.1) (wF s.2.2):=by
 have h3:=C.h3
 have su:=Gkp C g.lR g.lF fun i p r f e1 e2 e3=>by
  have hi:=(Aa.mp e1).1
  have e4:s.1[i]?=some _:=Ad (by rw[g.lL]; exact hi)
  exact⟨(g.at' i p _ r f e1 e4 e2 e3).2,fun z=>g.op i r f (by rw[e1,z]) e2 e3⟩
 refine⟨g.lL,by unfold wR; rw[A2]; exact g.lR,by unfold wF; rw[A2]; exact g.lF,g.nL,Vn g.nR (by decide),Vn g.nF (by decide),fun i p l r f e1 e2 e3 e4=>?_,?_⟩
 ·have hi:=(Aa.mp e1).1
  have a2:s.2.1[i]?=some _:=Ad (by rw[g.lR]; exact hi)
  have a3:s.2.2[i]?=some _:=Ad (by rw[g.lF]; exact hi)
  have w:=(g.at' i p l _ _ e1 e2 a2 a3).1
  rcases Zk e3 with⟨c,_⟩ | ⟨_,e3⟩
  ·have:p=.e:=by rw[c,C.e0] at e1; exact(Ab e1).symm
   subst this
   exact⟨w,rfl⟩
  ·rcases Zk e4 with⟨c,_⟩ | ⟨_,e4⟩
   ·have:p=.e:=by rw[c,g.lF,C.e1] at e1; exact(Ab e1).symm
    subst this
    exact⟨w,rfl⟩
   ·exact g.at' i p l r f e1 e2 e3 e4
 ·have a2:s.2.1[0]?=some _:=Ad (by rw[g.lR]; omega)
  have a3:s.2.2[s.2.2.length-1]?=some _:=Ad (by rw[g.lF]; omega)
  have n1:=g.nR _ (Ak a2)
  have n2:=g.nF _ (Ak a3)
  unfold wR wF
  rw[Gbf a2,Gbf a3]
  omega
def Gkq{i:Nat}{x:Int}(h:(we M)[i]?=some x):((i=0\/i=M.length-1)/\x=0)\/(i≠0/\i≠M.length-1/\M[i]?=some x):=by
 unfold we at h
 rcases Zk h with⟨a,b⟩ | ⟨a,h⟩
 ·exact .inl ⟨.inr a,b⟩
 ·rcases Zk h with⟨c,b⟩ | ⟨c,h⟩
  ·exact .inl ⟨.inl c,b⟩
  ·exact .inr ⟨c,a,h⟩
def Gd.of(C':Cn ps us)(h:StF ps A B C):Gd ps (A,we B,we C):=by
 have h3:=C'.h3
 have op:∀ (i:Nat) (r f:Int),ps[i]?=some Pl.e->(we B)[i]?=some r->(we C)[i]?=some f->r=0/\f=0:=fun i r f e1 e2 e3=>by
  have:=C'.he i e1
  rcases Gkq e2 with⟨_,a⟩ | ⟨a,b,_⟩
  ·rcases Gkq e3 with⟨_,c⟩ | ⟨c,d,_⟩
   ·exact⟨a,c⟩
   ·rw[h.lF] at d; omega
  ·rw[h.lR] at b; omega
 have at':∀ (i:Nat) (p:Pl) (l r f:Int),ps[i]?=some p->A[i]?=some l->(we B)[i]?=some r->(we C)[i]?=some f->l<=wat p/\hol p (r+f)=true:=fun i p l r f e1 e2 e3 e4=>by
  have hi:=(Aa.mp e1).1
  have a2:B[i]?=some _:=Ad (by rw[h.lR]; exact hi)
  have a3:C[i]?=some _:=Ad (by rw[h.lF]; exact hi)
  have w:=(h.at' i p l _ _ e1 e2 a2 a3).1
  refine⟨w,?_⟩
  rcases Gkq e3 with⟨a,b⟩ | ⟨a,b,e3⟩
  ·have:p=.e:=by
    rcases a with a | a
    ·rw[a,C'.e0] at e1; exact(Ab e1).symm
    ·rw[a,h.lR,C'.e1] at e1; exact(Ab e1).symm
   subst this; rfl
  ·rcases Gkq e4 with⟨c,d⟩ | ⟨c,d,e4⟩
   ·rw[h.lR] at b; rw[h.lF] at c; omega
   ·exact(h.at' i p l r f e1 e2 e3 e4).2
 have lB:(we B).length=ps.length:=by rw[Gpo]; exact h.lR
 have lC:(we C).length=ps.length:=by rw[Gpo]; exact h.lF
 have su:=Gkp C' lB lC fun i p r f e1 e2 e3=>by
  have hi:=(Aa.mp e1).1
  have e4:A[i]?=some _:=Ad (by rw[h.lL]; exact hi)
  exact⟨(at' i p _ r f e1 e4 e2 e3).2,fun z=>op i r f (by rw[e1,z]) e2 e3⟩
 exact⟨⟨h.lL,lB,lC,h.nL,by unfold we; exact Vn (Vn h.nR (by decide)) (by decide),by unfold we; exact Vn (Vn h.nF (by decide)) (by decide),at',by show(we B).sum+(we C).sum<=900; omega⟩,op⟩
end
inductive Ko(ps:List Pl):Res->Prop where
 | no {y:Str} (h:y∈ys):Ko ps (.no y)
 | yes {A B C:List Int} {p g:Int} (h:Gd ps (A,B,C)) (p0:0<=p/\p<=1000) (g0:0<=g/\g<=1):Ko ps (.yes (.tup [stD A B C,.int p,.int g]))
structure Ro(ps:List Pl)(us:List Bool)(L R F:List Int)(dd:D)(r:Res):Prop where
 did:∀ S,Ht [cD ps us,stD L R F,dd] S=r.out S
 due:∀ S,∃ S',Hj [cD ps us,stD L R F,dd] S=.ok r.toD S'/\Ex S S'
 kd:Ko ps r
section
variable{ps:List Pl}{us:List Bool}{s:S3}
def Hcx(C:Cn ps us)(g:Gd ps s){dd:D}{r:Res}(rs:Rs ps us s.1 (wR s.2.1) (wF s.2.2) dd r):∃ r',Ro ps us s.1 s.2.1 s.2.2 dd r'/\r'.isY=r.isY:=by
 have h3:=C.h3
 have h13:=C.hl
 have h1:2<=s.2.1.length/\s.2.1.length<=1000:=by rw[g.lR]; omega
 have h2:2<=s.2.2.length/\s.2.2.length<=1000:=by rw[g.lF]; omega
 obtain⟨did,due,kd⟩:=rs
 cases kd with
 | no hy=>
  rename_i y
  obtain⟨z,hz⟩:=Gh1 hy
  refine⟨.no y,⟨fun S=>od_no h1 h2 (did S) hy,fun S=>?_,.no hy⟩,rfl⟩
  obtain⟨S',e,x⟩:=due S
  have e:_=Out.ok (Vy y) S':=e
  rw[hz] at e
  refine⟨S',?_,x⟩
  show _=Out.ok (Vy y) S'
  rw[hz]
  exact Hcw h1 h2 e
 | yes h p0 g0=>
  rename_i A B C' a g'
  have h3':2<=B.length/\B.length<=1000:=by rw[h.lR]; omega
  have h4':2<=C'.length/\C'.length<=1000:=by rw[h.lF]; omega
  refine⟨.yes (.tup [stD A (we B) (we C'),.int a,.int g']),⟨fun S=>od_yes h1 h2 h3' h4' (did S),fun S=>?_,.yes (Gd.of C h) p0 g0⟩,rfl⟩
  obtain⟨S',e,x⟩:=due S
  exact⟨S',Gze h1 h2 h3' h4' e,x⟩
def Gpq(C:Cn ps us)(g:Gd ps s):∃ res:Wd×Nat->Res,(∀ w k,k<ps.length->Ro ps us s.1 s.2.1 s.2.2 (ddOf (w,k)) (res (w,k)))/\∀ w,w≠.f->(res (w,us.length)).isY=false:=by
 obtain⟨res,h1,h2⟩:=Gkk C.hp C.hl C.hu (g.wt C).toR (g.wt C)
 have hu:=C.hu
 have all:∀ p:Wd×Nat,∃ r,p.2<ps.length->Ro ps us s.1 s.2.1 s.2.2 (ddOf p) r/\r.isY=(res p).isY:=fun p=>by
  by_cases h:p.2<ps.length
  ·obtain⟨r,hr⟩:=Hcx C g (h1 p.1 p.2 h)
   exact⟨r,fun _=>hr⟩
  ·exact⟨.no "NoGate",fun z=>absurd z h⟩
 obtain⟨res',h⟩:=Classical.axiomOfChoice all
 exact⟨res',fun w k hk=>(h (w,k) hk).1,fun w hw=>by
  have:=(h (w,us.length) (by show us.length<ps.length; omega)).2
  rw[this]; exact h2 w hw⟩
end
section
variable{ps:List Pl}{us:List Bool}{L R F:List Int}{res:Wd×Nat->Res}
abbrev rs8(ps:List Pl)(us:List Bool)(L R F:List Int)(x3 x4 x5 x6 x7:BJ D):Lc:=[some (cD ps us),some (stD L R F),some (.fv "open_done"),x3,x4,x5,x6,x7]
def Gtk{p:Wd×Nat}{x3 x5 x6 x7:BJ D}(did:Ht [cD ps us,stD L R F,ddOf p] S=.exc ⟨y,none⟩ S)(hy:y∈ys):Ke (rs8 ps us L R F x3 (some (ddOf p)) x5 x6 x7) S=.ct (rs8 ps us L R F x3 (some (ddOf p)) x5 x6 x7) S:=by
 unfold Ke
 have e:Qi (rs8 ps us L R F x3 (some (ddOf p)) x5 x6 x7) S=.exc ⟨y,none⟩ (rs8 ps us L R F x3 (some (ddOf p)) x5 x6 x7) S:=by
  have ec:clv 2 "open_done" 3 (gX ys Ht) (ac (vr 0) (ac (vr 1) (ac (vr 4) an))) (rs8 ps us L R F x3 (some (ddOf p)) x5 x6 x7) S=gX ys Ht [cD ps us,stD L R F,ddOf p] S:=Gpn (ds:=[cD ps us,stD L R F,ddOf p]) (S1:=S) rfl (by simp) rfl
  unfold Qi
  rw[Uc,ec,Qo did hy,Gfh]
 rw[Gci,Gka e hy]
 rfl
def Gpr{p:Wd×Nat}{a b c:D}{x5 x6 x7:BJ D}(did:Ht [cD ps us,stD L R F,ddOf p] S=.ok (.tup [a,b,c]) S)(hq:S[q]?=some ⟨false,xs⟩)(hl:xs.length<1000000):Ke (rs8 ps us L R F (some (.lst q)) (some (ddOf p)) x5 x6 x7) S=.nx (rs8 ps us L R F (some (.lst q)) (some (ddOf p)) (some a) (some b) (some c)) (S.set q ⟨false,xs++[.tup [ddOf p,a,b,c]]⟩):=by
 unfold Ke
 have e:Qi (rs8 ps us L R F (some (.lst q)) (some (ddOf p)) x5 x6 x7) S=.nx (rs8 ps us L R F (some (.lst q)) (some (ddOf p)) (some a) (some b) (some c)) S:=by
  have ec:clv 2 "open_done" 3 (gX ys Ht) (ac (vr 0) (ac (vr 1) (ac (vr 4) an))) (rs8 ps us L R F (some (.lst q)) (some (ddOf p)) x5 x6 x7) S=gX ys Ht [cD ps us,stD L R F,ddOf p] S:=Gpn (ds:=[cD ps us,stD L R F,ddOf p]) (S1:=S) rfl (by simp) rfl
  unfold Qi
  rw[Uc,ec,Zz did,Hl]
  rfl
 rw[Jd (Go2 e)]
 have il:isLst (.lst q) S=true:=by simp[isLst,hq]
 simp[apd hq hl,il]
def Gps(hl:ps.length<=13)(hu:us.length+1=ps.length)(hr:∀ w k,k<ps.length->Ro ps us L R F (ddOf (w,k)) (res (w,k))):
  ∃ S',Ul [cD ps us,stD L R F,.fv "open_done"] S=.ok (.lst S.length) S'/\S'[S.length]?=some ⟨false,((prP us.length ps.length).filter fun p=>(res p).isY).map (st4 res)⟩/\Ex S S':=by
 have q1:(S++[(⟨false,[]⟩:Cell)])[S.length]?=some ⟨false,[]⟩:=Gr
 have x1:Ex S (S++[⟨false,[]⟩]):=Ex.app
 have l1:S.length<(S++[(⟨false,[]⟩:Cell)]).length:=by simp
 have e0:sa (ls an) (gn 3) (rs8 ps us L R F none none none none none) S=.nx (rs8 ps us L R F (some (.lst S.length)) none none none none) (S++[⟨false,[]⟩]):=by simp
 generalize S++[(⟨false,[]⟩:Cell)]=S1 at q1 x1 l1 e0
 obtain⟨q,S2,e2,h2,x2,lq⟩:=Gzc (S:=S1) hl hu
 have pl:=Gkm (m:=us.length) (N:=ps.length)
 obtain⟨U',S',ef,g4,g5,g6,g7,hU,hq3,hq0,x⟩:=Gh2 (nxt:=(Wb q ((prP us.length ps.length).map ddOf).length).nxt) (g:=gn 4) (b:=Ke) (l:=(prP us.length ps.length).map ddOf)
  (fun k U S'=>∃ g4 g5 g6 g7,U=rs8 ps us L R F (some (.lst S.length)) g4 g5 g6 g7/\S'[S.length]?=some ⟨false,(((prP us.length ps.length).take k).filter fun p=>(res p).isY).map (st4 res)⟩/\S'[q]?=some ⟨false,(prP us.length ps.length).map ddOf⟩/\Ex S S')
  (fun k U S' ⟨_,_,_,_,_,_,h,_⟩=>by
   show(S'[q]?).bind (fun c=>c.xs[k]?)=_
   rw[h]; rfl)
  (fun k d U S' hd ⟨g4,g5,g6,g7,h1,h3,h4,h5⟩=>by
   subst h1
   rw[Ar] at hd
   cases hk:(prP us.length ps.length)[k]? with
   | none=>rw[hk] at hd; cases hd
   | some p=>
    rw[hk] at hd
    cases (Ab hd)
    have rs:Ro ps us L R F (ddOf p) (res p):=hr p.1 p.2 (Ggu (by omega) (Ak hk))
    have tk:((prP us.length ps.length).take (k+1)).filter (fun p=>(res p).isY)=((prP us.length ps.length).take k).filter (fun p=>(res p).isY)++if(res p).isY=true then[p] else[]:=Gkl hk
    have did:=rs.did S'
    have kd:=rs.kd
    have l3:((((prP us.length ps.length).take k).filter fun p=>(res p).isY).map (st4 res)).length<1000:=by
     rw[Ah]
     have:=Bl (fun p=>(res p).isY) ((prP us.length ps.length).take k)
     have:=List.length_take_le k (prP us.length ps.length)
     have:((prP us.length ps.length).take k).length<=(prP us.length ps.length).length:=by rw[AT]; omega
     omega
    cases hres:res p with
    | no y=>
     rw[hres] at did kd
     cases kd with
     | no hy=>
      refine⟨rs8 ps us L R F (some (.lst S.length)) (some (ddOf p)) g5 g6 g7,_,S',rfl,.inr (Gtk did hy),_,_,_,_,rfl,?_,h4,h5⟩
      have hy0:(res p).isY=false:=by rw[hres]; rfl
      rw[tk,if_neg (by rw[hy0]; decide),AY]
      exact h3
    | yes d=>
     rw[hres] at did kd
     cases kd with
     | yes hst _ _=>
      have ls:S.length<S'.length:=(Aa.mp h3).1
      refine⟨rs8 ps us L R F (some (.lst S.length)) (some (ddOf p)) g5 g6 g7,_,_,rfl,.inl (Gpr did h3 (by omega)),_,_,_,_,rfl,?_,?_,h5.setq (Ac _)⟩
      ·have hy1:(res p).isY=true:=by rw[hres]; rfl
       rw[Ai ls,tk,if_pos hy1,AO,As,Bq,show st4 res p=.tup (ddOf p::(res p).three) from rfl,hres]
       rfl
      ·rw[Ae (by omega)]
       exact h4) (((prP us.length ps.length).map ddOf).length+1) 0 (rs8 ps us L R F (some (.lst S.length)) none none none none) S2 (AB _) ⟨none,none,none,none,rfl,x2.at q1,h2,x1.trans x2⟩ (A7 _)
 subst hU
 rw[Ah,Bx] at hq3
 refine⟨S',?_,hq3,x⟩
 refine(Gn (m:=8) (b:=Vx)).trans ?_
 show fin (Vx (rs8 ps us L R F none none none none none) S)=_
 unfold Vx
 refine(Gc e0).trans ?_
 refine(Gc (U':=rs8 ps us L R F (some (.lst S.length)) g4 g5 g6 g7) (S':=S') ?_).trans ?_
 ·rw[Wj,Xu]
  have:cl 1 (Gg Xr) (ac (vr 0) an) (rs8 ps us L R F (some (.lst S.length)) none none none none) S1=.ok (.lst q) S2:=by simp[e2]
  rw[this,Gz,Gbe h2,Hl]
  exact ef
 simp
end
end Law
namespace BF
variable{O:Type}[DecidableEq O]
def Gd9:∀ {l m:List O},l.Nodup->(∀ x∈l,x∈m)->l.length<=m.length
 | [],m,_,_=>AB _
 | a::r,m,h,hm=>by
  obtain⟨h1,h2⟩:=A0.mp h
  have ha:=hm a Av
  have:=Gd9 (l:=r) (m:=m.erase a) h2 fun x hx=>(List.mem_erase_of_ne (show x≠a from fun e=>h1 (by rw[<- e]; exact hx))).mpr (hm x (Au _ hx))
  rw[List.length_erase_of_mem ha] at this
  have:=List.length_pos_of_mem ha
  simp
  omega
noncomputable def Yh(t:List O)(b:O):List O:=if b∈t then t else t++[b]
def Vf(t:List O)(bs:List O):List O:=bs.foldl Yh t
def Gpt{t:List O}{b x:O}:x∈Yh t b↔x∈t\/x=b:=by
 unfold Yh
 by_cases h:b∈t
 ·rw[if_pos h]
  exact⟨.inl,fun z=>z.elim id fun e=>e▸h⟩
 ·rw[if_neg h]; simp
def Gtl{t:List O}{b:O}(h:t.Nodup):(Yh t b).Nodup:=by
 unfold Yh
 by_cases hb:b∈t
 ·rw[if_pos hb]; exact h
 ·rw[if_neg hb]
  refine A6.mpr ⟨h,by simp,fun x hx y hy=>?_⟩
  rw[AE.mp hy]
  exact fun e=>hb (e▸hx)
def Gpu{t:List O}{b:O}:∃ r,Yh t b=t++r:=by
 unfold Yh
 split
 ·exact⟨[],by simp⟩
 ·exact⟨[b],rfl⟩
def Zr{t:List O}{b:O}{bs:List O}:Vf t (b::bs)=Vf (Yh t b) bs:=rfl
def Gl6{t:List O}{b:O}{bs:List O}:Vf t (bs++[b])=Yh (Vf t bs) b:=by unfold Vf; rw[List.foldl_append]; rfl
def Zl:∀ {bs t:List O} {x:O},x∈Vf t bs↔x∈t\/x∈bs
 | [],t,x=>by simp[Vf]
 | b::bs,t,x=>by
  rw[Zr,Zl,Gpt,Af]
  exact⟨fun h=>h.elim (fun h=>h.elim .inl fun e=>.inr (.inl e)) fun h=>.inr (.inr h),fun h=>h.elim (fun h=>.inl (.inl h)) fun h=>h.elim (fun e=>.inl (.inr e)) .inr⟩
def Gkr:∀ {bs t:List O},t.Nodup->(Vf t bs).Nodup
 | [],t,h=>h
 | b::bs,t,h=>by rw[Zr]; exact Gkr (Gtl h)
def Gbh:∀ {bs t:List O},∃ r,Vf t bs=t++r
 | [],t=>⟨[],by simp[Vf]⟩
 | b::bs,t=>by
  obtain⟨r,h⟩:=Gpu (t:=t) (b:=b)
  obtain⟨q,h2⟩:=Gbh (bs:=bs) (t:=Yh t b)
  exact⟨r++q,by rw[Zr,h2,h,AM]⟩
inductive Rch(step:O->List O)(s:O):O->Prop
 | nil:Rch step s s
 | cons {x y:O} (h:Rch step s x) (k:y∈step x):Rch step s y
structure Bf(step:O->List O)(s:O)(t:List O)(n:Nat):Prop where
 nd:t.Nodup
 hd:s∈t
 re:∀ x∈t,Rch step s x
 cl:∀ i,i<n->∀ x,t[i]?=some x->∀ b∈step x,b∈t
 le:n<=t.length
def Bf.one{step:O->List O}{s:O}:Bf step s [s] 0:=⟨by simp,by simp,fun x hx=>by rw[AE.mp hx]; exact .nil,fun i h=>by omega,by simp⟩
def Bf.next{step:O->List O}{s x:O}{t:List O}{n:Nat}(h:Bf step s t n)(hx:t[n]?=some x):Bf step s (Vf t (step x)) (n+1):=by
 obtain⟨r,hr⟩:=Gbh (bs:=step x) (t:=t)
 have hn:=(Aa.mp hx).1
 refine⟨Gkr h.nd,Zl.mpr (.inl h.hd),fun y hy=>?_,fun i hi y hy b hb=>?_,by rw[hr]; simp; omega⟩
 ·rcases Zl.mp hy with hy | hy
  ·exact h.re y hy
  ·exact .cons (h.re x (Ak hx)) hy
 ·rw[hr,Aq (by omega)] at hy
  by_cases e:i=n
  ·subst e
   rw[hx] at hy
   cases hy
   exact Zl.mpr (.inr hb)
  ·exact Zl.mpr (.inl (h.cl i (by omega) y hy b hb))
def Bf.all{step:O->List O}{s:O}{t:List O}(h:Bf step s t t.length){x:O}(r:Rch step s x):x∈t:=by
 induction r with
 | nil=>exact h.hd
 | cons _ k ih=>
  obtain⟨i,hi⟩:=AX.mp ih
  exact h.cl i (Aa.mp hi).1 _ hi _ k
def Bf.few{step:O->List O}{s:O}{t u:List O}{n:Nat}(h:Bf step s t n)(hu:∀ x,Rch step s x->x∈u):t.length<=u.length:=Gd9 h.nd fun x hx=>hu x (h.re x hx)
end BF
namespace Law
open PySem PySem.Spec PyProof.Rows L2 DL
variable{S:Sto}{f:Nat}{Y:NK}{xs:List D}
noncomputable def kS(s:S3):NK:=.t [.t (s.1.map .i),.t (s.2.1.map .i),.t (s.2.2.map .i)]
def Gks:∀ (l:List Int),nkOs (l.map D.int)=some (l.map NK.i)
 | []=>rfl
 | a::r=>by simp only[As,nkOs,nkO,Gks r,Bg,Option.map_some]
def Gfi(s:S3):nkO (stE s)=some (kS s):=by
 unfold stE stD kS
 simp only[nkO,nkOs,Gks,Bg,Option.map_some]
def Zs:∀ {l m:List Int},l.map NK.i=m.map NK.i->l=m
 | [],[],_=>rfl
 | [],_::_,h=>by simp at h
 | _::_,[],h=>by simp at h
 | a::r,b::q,h=>by
  simp only[As,List.cons.injEq,NK.i.injEq] at h
  rw[h.1,Zs h.2]
def Ggv{a b:S3}(h:kS a=kS b):a=b:=by
 obtain⟨a1,a2,a3⟩:=a
 obtain⟨b1,b2,b3⟩:=b
 simp only[kS,NK.t.injEq,List.cons.injEq,and_true] at h
 obtain⟨h1,h2,h3⟩:=h
 rw[Zs h1,Zs h2,Zs h3]
def Gkt:∀ (l:List Int),PyData.depthAll (pks (l.map NK.i))=0
 | []=>rfl
 | a::r=>by simp only[As,pks,pk,PyData.depthAll,PyData.depth,Gkt r]; rfl
def Gc4{a b:S3}(h:stE a=stE b):a=b:=by
 have:=Gfi a
 rw[h,Gfi b] at this
 exact(Ggv (Ab this)).symm
def Xy{s:S3}:Gek (stE s)=some (kS s):=by
 have e:Gek (stE s)=(match nkO (stE s) with | some Y=>if(pk Y).depth<=8 then some Y else none | none=>none):=rfl
 rw[e,Gfi]
 have:(pk (kS s)).depth<=8:=by
  simp only[kS,pk,pks,PyData.depth,PyData.depthAll,Gkt]
  decide
 simp only[this,if_true]
def Gzf{x:D}{neg:Bool}(e:S[f]?=some ⟨false,xs⟩)(k:Gek x=some Y):Gdp neg x (.dct f) S=.ok (.bl (if neg=true then !(dlook Y xs).isSome else(dlook Y xs).isSome)) S:=by
 simp only[Gdp,e,k,if_true]
def Gpv{x v:D}(e:S[f]?=some ⟨false,xs⟩)(k:Gek x=some Y)(h:dlook Y xs=some v):Yu (.dct f) x S=.ok v S:=by
 simp only[Yu,e,k,h,if_true]
def Ggw{x z:D}(e:S[f]?=some ⟨false,xs⟩)(k:Gek x=some Y)(h:dlook Y xs=none)(hl:xs.length<1000000):dsetD (.dct f) x z S=some (S.set f ⟨false,xs++[.tup [x,z]]⟩):=by
 have:dput Y x z xs=xs++[.tup [x,z]]:=by unfold dput; rw[h]; rfl
 simp only[dsetD,e,k,this,hl,and_self,if_true]
def Gpw{c:Ev Bool}{b:Sv}(p:Nat)(I:Nat->Lc->Sto->Prop)(hc:∀ j U S,j<p->I j U S->c U S=.ok true S)(hs:∀ j U S,j<p->I j U S->∃ U2 S2,b U S=.nx U2 S2/\I (j+1) U2 S2):
  ∀ (r j f:Nat) (U:Lc) (S:Sto),j+r=p->I j U S->∃ U' S',I p U' S'/\whN c b (f+r) U S=whN c b f U' S'
 | 0,j,f,U,S,e,h=>⟨U,S,by rw[<- e]; exact h,rfl⟩
 | r+1,j,f,U,S,e,h=>by
  obtain⟨U2,S2,e1,h2⟩:=hs j U S (by omega) h
  obtain⟨U',S',h3,e3⟩:=Gpw p I hc hs r (j+1) f U2 S2 (by omega) h2
  refine⟨U',S',h3,?_⟩
  rw[<- e3]
  show whN c b (f+r+1) U S=_
  rw[whN,hc j U S (by omega) h]
  simp only[bindS,if_true,e1]
def sdP(s:S3):D:=.tup [stE s,.bl true]
def Gea{s:S3}:∀ {t:List S3},(dlook (kS s) (t.map sdP)).isSome=decide (s∈t)
 | []=>rfl
 | x::t=>by
  show(if nkO (stE x)=some (kS s) then some (D.bl true) else dlook (kS s) (t.map sdP)).isSome=_
  rw[Gfi]
  by_cases c:x=s
  ·subst c
   simp
  ·have:¬ some (kS x)=some (kS s):=fun z=>c (Ggv (Ab z))
   rw[if_neg this,Gea (t:=t)]
   have c':¬ s=x:=fun z=>c z.symm
   simp[c']
def Gfj{s:S3}{t:List S3}(h:s∉t):dlook (kS s) (t.map sdP)=none:=by
 have:=Gea (s:=s) (t:=t)
 rw[decide_eq_false h] at this
 exact Option.isNone_iff_eq_none.mp (by rw[Option.isNone_iff_eq_none]; exact BD.mp (by rw[this]; decide))
def PR(ps:List Pl)(us:List Bool)(s:S3)(res:Wd×Nat->Res):Prop:=(∀ w k,k<ps.length->Ro ps us s.1 s.2.1 s.2.2 (ddOf (w,k)) (res (w,k)))/\∀ w,w≠.f->(res (w,us.length)).isY=false
open Classical in
noncomputable def resOf (ps:List Pl) (us:List Bool) (s:S3):Wd×Nat->Res:=if h:∃ res,PR ps us s res then Classical.choose h else fun _=>.no "NoGate"
open Classical in
noncomputable def bh (r:Res):S3:=if h:∃ s:S3,∃ p g:Int,r=.yes (.tup [stE s,.int p,.int g]) then Classical.choose h else([],[],[])
def Hcy{s:S3}{p g:Int}:bh (.yes (.tup [stE s,.int p,.int g]))=s:=by
 have h:∃ s':S3,∃ p' g':Int,Res.yes (.tup [stE s,.int p,.int g])=.yes (.tup [stE s',.int p',.int g']):=⟨s,p,g,rfl⟩
 unfold bh
 rw[dif_pos h]
 obtain⟨p',g',e⟩:=Classical.choose_spec h
 injection e with e
 injection e with e
 simp only[List.cons.injEq] at e
 exact(Gc4 e.1).symm
noncomputable def yesL (ps:List Pl) (us:List Bool) (s:S3):List (Wd×Nat):=(prP us.length ps.length).filter fun p=>(resOf ps us s p).isY
noncomputable def stepS (ps:List Pl) (us:List Bool) (s:S3):List S3:=(yesL ps us s).map fun p=>bh (resOf ps us s p)
section
variable{ps:List Pl}{us:List Bool}{s s0:S3}{S:Sto}
def Geb(C:Cn ps us)(g:Gd ps s):PR ps us s (resOf ps us s):=by
 have h:∃ res,PR ps us s res:=Gpq C g
 unfold resOf
 rw[dif_pos h]
 exact Classical.choose_spec h
def Gec(C:Cn ps us)(g:Gd ps s){p:Wd×Nat}(h:p∈yesL ps us s):∃ (s':S3) (pr ga:Int),resOf ps us s p=.yes (.tup [stE s',.int pr,.int ga])/\bh (resOf ps us s p)=s'/\Gd ps s'/\st4 (resOf ps us s) p=.tup [ddOf p,stE s',.int pr,.int ga]:=by
 obtain⟨hp,hy⟩:=Bc.mp h
 have rs:=(Geb C g).1 p.1 p.2 (Ggu (by have:=C.hu; omega) hp)
 have kd:=rs.kd
 cases hres:resOf ps us s p with
 | no y=>rw[hres] at hy; cases hy
 | yes d=>
  rw[show(p.1,p.2)=p from rfl,hres] at kd
  cases kd with
  | yes hst hp0 hg0=>
   rename_i A B C' a g'
   refine⟨(A,B,C'),a,g',rfl,Hcy (s:=(A,B,C')),hst,?_⟩
   show D.tup (ddOf p::(resOf ps us s p).three)=_
   rw[hres]
   rfl
def Gku(C:Cn ps us)(g:Gd ps s){x:S3}(h:x∈stepS ps us s):Gd ps x:=by
 obtain⟨p,hp,rfl⟩:=AH.mp h
 obtain⟨s',_,_,_,e,h',_⟩:=Gec C g hp
 rw[e]; exact h'
def Gjb(C:Cn ps us)(g:Gd ps s0){x:S3}(h:BF.Rch (stepS ps us) s0 x):Gd ps x:=by
 induction h with
 | nil=>exact g
 | cons _ k ih=>exact Gku C ih k
def Gc5:(yesL ps us s).length<=us.length+ps.length+us.length+us.length:=by
 have:=Bl (fun p=>(resOf ps us s p).isY) (prP us.length ps.length)
 rw[Gkm] at this
 exact this
def Gtm(C:Cn ps us)(g:Gd ps s):yesL ps us s=(prL ps.length).filter fun p=>(resOf ps us s p).isY:=by
 have:=Gth (res:=resOf ps us s) (m:=us.length) (Geb C g).2
 unfold yesL
 rw[<- C.hu]
 exact this
def Gh3(C:Cn ps us)(g:Gd ps s):∃ S',Ul [cD ps us,stE s,.fv "open_done"] S=.ok (.lst S.length) S'/\S'[S.length]?=some ⟨false,(yesL ps us s).map (st4 (resOf ps us s))⟩/\Ex S S':=Gps C.hl C.hu (Geb C g).1
end
end Law
namespace Law
open PySem PySem.Spec PyProof.Rows L2 DL BF
variable{r b lim de v:Int}{k a j f q m n N:Nat}{tl xs:List D}{p:Wd×Nat}{S' S0 S:Sto}{pr:D}{U:Lc}{w:Wd}{x5 x4:BJ D}{es:List (S3×Nat)}{st:List S3}
section
variable{ps:List Pl}{us:List Bool}{s s0 x:S3}{S:Sto}{t:List S3}{n:Nat}
def Tw(ps:List Pl)(us:List Bool)(t:List S3)(k:Nat)(s:S3)(a b:D):Prop:=
 (k=0/\a=.non/\b=.non)\/(∃ (j:Nat) (p:Wd×Nat) (sj:S3),j<k/\t[j]?=some sj/\p∈yesL ps us sj/\bh (resOf ps us sj p)=s/\a=.int (j:Int)/\b=ddOf p)
structure Tl(ps:List Pl)(us:List Bool)(t:List S3)(tl:List D):Prop where
 len:tl.length=t.length
 at':∀ (k:Nat) (s:S3),t[k]?=some s->∃ a b,tl[k]?=some (.tup [stE s,a,b])/\Tw ps us t k s a b
def Tw.app{r:List S3}{a b:D}(h:Tw ps us t k s a b):Tw ps us (t++r) k s a b:=by
 rcases h with h | ⟨j,p,sj,h1,h2,h3⟩
 ·exact .inl h
 ·exact .inr ⟨j,p,sj,h1,by rw[Aq (Aa.mp h2).1]; exact h2,h3⟩
def Tl.snoc(h:Tl ps us t tl)(hj:t[j]?=some x)(hp:p∈yesL ps us x)(e:bh (resOf ps us x p)=s):Tl ps us (t++[s]) (tl++[.tup [stE s,.int (j:Int),ddOf p]]):=by
 have jl:=(Aa.mp hj).1
 refine⟨by simp[h.len],fun k s' hk=>?_⟩
 by_cases c:k<t.length
 ·rw[Aq c] at hk
  obtain⟨a,b,h1,h2⟩:=h.at' k s' hk
  exact⟨a,b,by rw[Aq (by rw[h.len]; exact c)]; exact h1,h2.app⟩
 ·have ek:k=t.length:=by
   have:=(Aa.mp hk).1
   simp at this; omega
  subst ek
  rw[AU (Ac _)] at hk
  simp at hk
  subst hk
  refine⟨.int (j:Int),ddOf p,?_,.inr ⟨j,p,x,jl,by rw[Aq jl]; exact hj,hp,e,rfl,rfl⟩⟩
  rw[AU (by rw[h.len]; exact Ac _),h.len]
  simp
abbrev rm(ps:List Pl)(us:List Bool)(s0:S3)(lim:Int)(a f:Nat)(n:Nat)(x7 x8 x9 x10:BJ D):Lc:=[some (cD ps us),some (stE s0),some (.int lim),some (.fv "open_done"),some (.lst a),some (.dct f),some (.int n),x7,x8,x9,x10]
structure K2(a f:Nat)(S S':Sto):Prop where
 len:S.length<=S'.length
 get:∀ i,i<S.length->i≠a->i≠f->S'[i]?=S[i]?
def K2.refl:K2 a f S S:=⟨Ac _,fun _ _ _ _=>rfl⟩
def K2.trans{S1 S2:Sto}(h:K2 a f S S1)(g:K2 a f S1 S2):K2 a f S S2:=⟨Am h.len g.len,fun i hi h1 h2=>(g.get i (Aj hi h.len) h1 h2).trans (h.get i hi h1 h2)⟩
def K2.set{i:Nat}{c:Cell}(h:i=a\/i=f):K2 a f S (S.set i c):=⟨by simp,fun j _ h1 h2=>by rw[Ae]; rcases h with h | h<;>(subst h; first | exact Ne.symm h1 | exact Ne.symm h2)⟩
def Ex.k2(h:Ex S S'):K2 a f S S':=⟨h.len,fun i hi _ _=>h.get i hi⟩
def K2.at{i:Nat}{c:Cell}(h:K2 a f S S')(e:S[i]?=some c)(h1:i≠a)(h2:i≠f):S'[i]?=some c:=(h.get i (Aa.mp e).1 h1 h2).trans e
def K2.ex(x:Ex S0 S)(h:K2 a f S S')(ha:S0.length<=a)(hf:S0.length<=f):Ex S0 S':=⟨Am x.len h.len,fun i hi=>(h.get i (Aj hi x.len) (by omega) (by omega)).trans (x.get i hi)⟩
def Gtn(C:Cn ps us)(g:Gd ps x)(hp:p∈yesL ps us x)(hx:t[n]?=some x)(ha:S[a]?=some ⟨false,tl⟩)(hf:S[f]?=some ⟨false,t.map sdP⟩)(ne:a≠f)(T:Tl ps us t tl)(hl:t.length<10000){ga:D}:
  ∃ S' tl',Kq (rm ps us s0 lim a f n (some (ddOf p)) (some (stE (bh (resOf ps us x p)))) (some pr) (some ga)) S=.nx (rm ps us s0 lim a f n (some (ddOf p)) (some (stE (bh (resOf ps us x p)))) (some pr) (some ga)) S'/\S'[a]?=some ⟨false,tl'⟩/\S'[f]?=some ⟨false,(Yh t (bh (resOf ps us x p))).map sdP⟩/\Tl ps us (Yh t (bh (resOf ps us x p))) tl'/\K2 a f S S':=by
 generalize hs:bh (resOf ps us x p)=s'
 have iq:=Gzf (neg:=true) hf (Xy (s:=s'))
 rw[Gea] at iq
 simp only[if_true] at iq
 by_cases c:s'∈t
 ·have e1:Yh t s'=t:=if_pos c
  rw[e1]
  refine⟨S,tl,?_,ha,hf,T,K2.refl⟩
  generalize stE s'=sd at *
  generalize stE s0=sd0 at *
  generalize cD ps us=cd at *
  generalize ddOf p=dp at *
  simp[Kq,iq,c]
 ·have e1:Yh t s'=t++[s']:=if_neg c
  rw[e1]
  have ds:=Ggw (z:=.bl true) hf (Xy (s:=s')) (Gfj c) (by simp; omega)
  have lf:f<S.length:=(Aa.mp hf).1
  have e2:t.map sdP++[.tup [stE s',.bl true]]=(t++[s']).map sdP:=by simp[sdP]
  rw[e2] at ds
  have f1:(S.set f ⟨false,(t++[s']).map sdP⟩)[f]?=some ⟨false,(t++[s']).map sdP⟩:=Ai lf
  have a1:(S.set f ⟨false,(t++[s']).map sdP⟩)[a]?=some ⟨false,tl⟩:=by rw[Ae (Ne.symm ne)]; exact ha
  have k1:K2 a f S (S.set f ⟨false,(t++[s']).map sdP⟩):=K2.set (.inr rfl)
  generalize S.set f ⟨false,(t++[s']).map sdP⟩=S1 at *
  have la:a<S1.length:=(Aa.mp a1).1
  have ap:=apd (d:=.tup [stE s',.int (n:Int),ddOf p]) a1 (by rw[T.len]; omega)
  have il:isLst (.lst a) S1=true:=by simp[isLst,a1]
  refine⟨S1.set a ⟨false,tl++[.tup [stE s',.int (n:Int),ddOf p]]⟩,tl++[.tup [stE s',.int (n:Int),ddOf p]],?_,Ai la,by rw[Ae ne]; exact f1,T.snoc hx hp hs,k1.trans (K2.set (.inl rfl))⟩
  generalize (⟨false,tl++[.tup [stE s',.int (n:Int),ddOf p]]⟩:Cell)=cc at *
  generalize stE s'=sd at *
  generalize stE s0=sd0 at *
  generalize cD ps us=cd at *
  generalize ddOf p=dp at *
  simp[Kq,iq,c,ds,il,ap]
abbrev g4m:Tg:=gt (gcons (gn 7) (gcons (gn 8) (gcons (gn 9) (gcons (gn 10) gnil)))) 4
def Gzg(C:Cn ps us)(g:Gd ps x){x7 x8 x9 x10:BJ D}(hx:t[n]?=some x)(ha:S[a]?=some ⟨false,tl⟩)(hf:S[f]?=some ⟨false,t.map sdP⟩)(hq:S[q]?=some ⟨false,(yesL ps us x).map (st4 (resOf ps us x))⟩)(ne:a≠f)(qa:q≠a)(qf:q≠f)(T:Tl ps us t tl)(hl:t.length<=9000):
  ∃ S' tl' y7 y8 y9 y10,Qe (Wb q (yesL ps us x).length).nxt g4m Kq ((yesL ps us x).length+1) 0 (rm ps us s0 lim a f n x7 x8 x9 x10) S=.nx (rm ps us s0 lim a f n y7 y8 y9 y10) S'/\S'[a]?=some ⟨false,tl'⟩/\S'[f]?=some ⟨false,(Vf t (stepS ps us x)).map sdP⟩/\Tl ps us (Vf t (stepS ps us x)) tl'/\K2 a f S S':=by
 have yl:=Gc5 (ps:=ps) (us:=us) (s:=x)
 have h13:=C.hl
 have hu:=C.hu
 have lnA:∀ k,(Vf t ((stepS ps us x).take k)).length<=9000+52:=fun k=>by
  have len1:∀ (bs t:List S3),(Vf t bs).length<=t.length+bs.length:=fun bs=>by
   induction bs with
   | nil=>intro t; simp[Vf]
   | cons b bs ih=>
    intro t
    rw[Zr]
    have:=ih (Yh t b)
    have h1:(Yh t b).length<=t.length+1:=by unfold Yh; split<;>simp
    simp
    omega
  have:=len1 ((stepS ps us x).take k) t
  have h2:((stepS ps us x).take k).length<=(stepS ps us x).length:=by rw[AT]; omega
  have h3:(stepS ps us x).length=(yesL ps us x).length:=by simp[stepS]
  omega
 obtain⟨U',S',ef,y7,y8,y9,y10,tl',hU,h1,h2,h3,h4⟩:=Qa (nxt:=(Wb q (yesL ps us x).length).nxt) (g:=g4m) (b:=Kq) (l:=(yesL ps us x).map (st4 (resOf ps us x)))
  (fun k U S'=>∃ y7 y8 y9 y10 tl',U=rm ps us s0 lim a f n y7 y8 y9 y10/\S'[a]?=some ⟨false,tl'⟩/\S'[f]?=some ⟨false,(Vf t ((stepS ps us x).take k)).map sdP⟩/\Tl ps us (Vf t ((stepS ps us x).take k)) tl'/\K2 a f S S')
  (fun k U S' ⟨_,_,_,_,_,_,_,_,_,h⟩=>by
   show(S'[q]?).bind (fun c=>c.xs[k]?)=_
   rw[h.at hq qa qf]; rfl)
  (fun k d U S' hd ⟨y7,y8,y9,y10,tl',e,h1,h2,h3,h4⟩=>by
   subst e
   rw[Ar] at hd
   cases hk:(yesL ps us x)[k]? with
   | none=>rw[hk] at hd; cases hd
   | some p=>
    rw[hk] at hd
    have hd:=Ab hd
    have hp:=Ak hk
    obtain⟨s',pr,ga,e1,e2,_,e4⟩:=Gec C g hp
    rw[e4] at hd
    subst hd
    obtain⟨r,hr⟩:=Gbh (bs:=(stepS ps us x).take k) (t:=t)
    have hx':(Vf t ((stepS ps us x).take k))[n]?=some x:=by rw[hr,Aq (Aa.mp hx).1]; exact hx
    have ln:=lnA k
    obtain⟨S2,tl2,b1',b2,b3,b4,b5⟩:=Gtn (s0:=s0) (lim:=lim) (n:=n) (S:=S') (pr:=.int pr) (ga:=.int ga) C g hp hx' h1 h2 ne h3 (by omega)
    have tk:Vf t ((stepS ps us x).take (k+1))=Yh (Vf t ((stepS ps us x).take k)) (bh (resOf ps us x p)):=by
     rw[<- Gl6,A9]
     congr 1
     congr 1
     unfold stepS
     rw[Ar,hk]
     rfl
    rw[tk]
    rw[e2] at b1' b3 b4 ⊢
    exact⟨rm ps us s0 lim a f n (some (ddOf p)) (some (stE s')) (some (.int pr)) (some (.int ga)),_,S2,rfl,b1',_,_,_,_,tl2,rfl,b2,b3,b4,h4.trans b5⟩)
  ((yesL ps us x).length+1) 0 (rm ps us s0 lim a f n x7 x8 x9 x10) S (AB _) ⟨x7,x8,x9,x10,tl,rfl,ha,hf,T,K2.refl⟩ (by simp)
 have tkl:(stepS ps us x).take (((yesL ps us x).map (st4 (resOf ps us x))).length)=stepS ps us x:=Bw (by simp[stepS])
 rw[tkl] at h2 h3
 subst hU
 exact⟨S',tl',y7,y8,y9,y10,ef,h1,h2,h3,h4⟩
end
section
variable{ps:List Pl}{us:List Bool}{s s0 x:S3}{S:Sto}{n:Nat}
noncomputable def bq (ps:List Pl) (us:List Bool) (s0:S3):Nat->List S3
 | 0=>[s0]
 | n+1=>match (bq ps us s0 n)[n]? with
  | some x=>Vf (bq ps us s0 n) (stepS ps us x)
  | none=>bq ps us s0 n
def Ggx(h:(bq ps us s0 n)[n]?=some x):bq ps us s0 (n+1)=Vf (bq ps us s0 n) (stepS ps us x):=by
 show(match (bq ps us s0 n)[n]? with | some x=>Vf (bq ps us s0 n) (stepS ps us x) | none=>bq ps us s0 n)=_
 rw[h]
def Gzh:∃ r,bq ps us s0 (n+1)=bq ps us s0 n++r:=by
 cases h:(bq ps us s0 n)[n]? with
 | some x=>rw[Ggx h]; exact Gbh
 | none=>
  refine⟨[],?_⟩
  show(match (bq ps us s0 n)[n]? with | some x=>Vf (bq ps us s0 n) (stepS ps us x) | none=>bq ps us s0 n)=_
  rw[h]; simp
def Gkv(d:Nat):∃ r,bq ps us s0 (n+d)=bq ps us s0 n++r:=by
 induction d with
 | zero=>exact⟨[],by simp⟩
 | succ d ih=>
  obtain⟨r,h⟩:=ih
  obtain⟨q,h2⟩:=Gzh (ps:=ps) (us:=us) (s0:=s0) (n:=n+d)
  exact⟨r++q,by rw[show n+(d+1)=n+d+1 from rfl,h2,h,AM]⟩
def Gpx(h:n<=m):(bq ps us s0 n).length<=(bq ps us s0 m).length:=by
 obtain⟨r,e⟩:=Gkv (ps:=ps) (us:=us) (s0:=s0) (n:=n) (m-n)
 rw[show n+(m-n)=m by omega] at e
 rw[e]; simp
def Gck:∀ n,(∀ j,j<n->j<(bq ps us s0 j).length)->Bf (stepS ps us) s0 (bq ps us s0 n) n
 | 0,_=>Bf.one
 | n+1,h=>by
  have hn:=Ad (h n (by omega))
  rw[Ggx hn]
  exact(Gck n (fun j hj=>h j (by omega))).next hn
structure Dn(ps:List Pl)(us:List Bool)(s0:S3)(m:Nat):Prop where
 len:(bq ps us s0 m).length=m
 go:∀ j,j<m->j<(bq ps us s0 j).length
def Dn.gd(d:Dn ps us s0 m)(C:Cn ps us)(g:Gd ps s0)(hj:j<=m){x:S3}(hx:x∈bq ps us s0 j):Gd ps x:=Gjb C g ((Gck j (fun i hi=>d.go i (by omega))).re x hx)
abbrev E0(ps:List Pl)(us:List Bool)(s0:S3)(lim:Int):Lc:=[some (cD ps us),some (stE s0),some (.int lim),some (.fv "open_done"),none,none,none,none,none,none,none]
def IM(S0:Sto)(ps:List Pl)(us:List Bool)(s0:S3)(lim:Int)(j:Nat)(U:Lc)(S:Sto):Prop:=
 ∃ tl x7 x8 x9 x10,U=rm ps us s0 lim S0.length (S0.length+1) j x7 x8 x9 x10/\S[S0.length]?=some ⟨false,tl⟩/\S[S0.length+1]?=some ⟨false,(bq ps us s0 j).map sdP⟩/\Tl ps us (bq ps us s0 j) tl/\Ex S0 S
def Gc6(h:IM S0 ps us s0 lim j U S):Kr U S=.ok (decide (j<(bq ps us s0 j).length)) S:=by
 obtain⟨tl,x7,x8,x9,x10,rfl,ha,_,T,_⟩:=h
 have ln:=Zi ha
 simp only[T.len] at ln
 generalize (bq ps us s0 j).length=m at *
 unfold rm
 generalize stE s0=sd0 at *
 generalize cD ps us=cd at *
 simp[Kr,ln]
def Gkw(C:Cn ps us)(h:IM S0 ps us s0 lim j U S)(hx:(bq ps us s0 j)[j]?=some x)(g:Gd ps x)(hl:((bq ps us s0 j).length:Int)<=lim)(h9:(bq ps us s0 j).length<=9000):∃ U2 S2,Jr U S=.nx U2 S2/\IM S0 ps us s0 lim (j+1) U2 S2:=by
 obtain⟨tl,x7,x8,x9,x10,rfl,ha,hf,T,ex⟩:=h
 have ln:=Zi ha
 simp only[T.len] at ln
 obtain⟨a',b',ht,_⟩:=T.at' j x hx
 have gj:DL.getD (.lst S0.length) (.int (j:Int)) S=.ok (.tup [stE x,a',b']) S:=Jt ha (Gw (by omega) (by rw[AK]; exact ht))
 obtain⟨S1,e1,q1,x1⟩:=Gh3 (S:=S) C g
 have la:S0.length<S.length:=(Aa.mp ha).1
 have lf:S0.length+1<S.length:=(Aa.mp hf).1
 obtain⟨S2,tl2,y7,y8,y9,y10,e2,a2,f2,T2,k2⟩:=Gzg (s0:=s0) (lim:=lim) (x7:=x7) (x8:=x8) (x9:=x9) (x10:=x10) C g hx (x1.at ha) (x1.at hf) q1 (by omega) (by omega) (by omega) T h9
 rw[<- Ggx hx] at f2 T2
 have hn:¬ lim<((bq ps us s0 j).length:Int):=by omega
 have sr:=Gbe q1
 simp only[Ah] at sr
 refine⟨rm ps us s0 lim S0.length (S0.length+1) (j+1) y7 y8 y9 y10,S2,?_,tl2,y7,y8,y9,y10,rfl,a2,f2,T2,(K2.ex (ex.trans x1) k2 (Ac _) (by omega))⟩
 have f1:(sif (tb (o2 gtD (b1 Hd (ac (vr 4) an)) (vr 2))) (srs "TooMany" (ac (cn (.str "more stands are met than the limit")) an)) DL.skip) (rm ps us s0 lim S0.length (S0.length+1) j x7 x8 x9 x10) S=.nx (rm ps us s0 lim S0.length (S0.length+1) j x7 x8 x9 x10) S:=by
  generalize (bq ps us s0 j).length=m at *
  unfold rm
  generalize stE s0=sd0 at *
  generalize cD ps us=cd at *
  simp[ln,hn]
 have f3:(sfor (isrc (cl 3 (Gg Ul) (ac (vr 0) (ac (o2 DL.getD (o2 DL.getD (vr 4) (vr 6)) (cn (.int 0))) (ac (vr 3) an))))) g4m Kq) (rm ps us s0 lim S0.length (S0.length+1) j x7 x8 x9 x10) S=.nx (rm ps us s0 lim S0.length (S0.length+1) j y7 y8 y9 y10) S2:=by
  have ec:cl 3 (Gg Ul) (ac (vr 0) (ac (o2 DL.getD (o2 DL.getD (vr 4) (vr 6)) (cn (.int 0))) (ac (vr 3) an))) (rm ps us s0 lim S0.length (S0.length+1) j x7 x8 x9 x10) S=.ok (.lst S.length) S1:=by
   unfold rm
   generalize stE x=sx at *
   generalize stE s0=sd0 at *
   generalize cD ps us=cd at *
   simp[gj,p0e,e1]
  rw[Wj,Xu,ec,Gz,sr,Hl]
  exact e2
 show sq _ (sq _ _) _ S=_
 rw[Jd f1,Jd f3]
 have:((j+1:Nat):Int)=(j:Int)+1:=by push_cast; rfl
 unfold rm
 rw[this]
 generalize stE s0=sd0 at *
 generalize cD ps us=cd at *
 simp
def Gpy(h:IM S0 ps us s0 lim j U S)(hl:lim<((bq ps us s0 j).length:Int)):Jr U S=.exc ⟨"TooMany",none⟩ U S:=by
 obtain⟨tl,x7,x8,x9,x10,rfl,ha,hf,T,ex⟩:=h
 have ln:=Zi ha
 simp only[T.len] at ln
 generalize (bq ps us s0 j).length=m at *
 unfold rm
 generalize stE s0=sd0 at *
 generalize cD ps us=cd at *
 simp[Jr,ln,hl,srs]
def Gkx:∃ S',IM S ps us s0 lim 0 (rm ps us s0 lim S.length (S.length+1) 0 none none none none) S'/\∀ X:Sv,fin ((sq (sa (ls (ac (tp (ac (vr 1) (ac (cn .non) (ac (cn .non) an)))) an)) (gn 4)) (sq (sa (Gfc (vr 1) (cn (.bl true))) (gn 5)) (sq (sa (cn (.int 0)) (gn 6)) X))) (E0 ps us s0 lim) S)=fin (X (rm ps us s0 lim S.length (S.length+1) 0 none none none none) S'):=by
 have q1:(S++[⟨false,[.tup [stE s0,.non,.non]]⟩])[S.length]?=some ⟨false,[.tup [stE s0,.non,.non]]⟩:=Gr
 have l1:(S++[(⟨false,[.tup [stE s0,.non,.non]]⟩:Cell)]).length=S.length+1:=by simp
 have x1:Ex S (S++[⟨false,[.tup [stE s0,.non,.non]]⟩]):=Ex.app
 have s1:sa (ls (ac (tp (ac (vr 1) (ac (cn .non) (ac (cn .non) an)))) an)) (gn 4) (E0 ps us s0 lim) S=.nx ((E0 ps us s0 lim).set 4 (some (.lst S.length))) (S++[⟨false,[.tup [stE s0,.non,.non]]⟩]):=by
  unfold E0
  generalize stE s0=sd0 at *
  generalize cD ps us=cd at *
  simp
 generalize S++[(⟨false,[.tup [stE s0,.non,.non]]⟩:Cell)]=S1 at *
 have q2:(S1++[⟨false,[]⟩])[S1.length]?=some ⟨false,[]⟩:=Gr
 have ds:=Ggw (z:=.bl true) q2 (Xy (s:=s0)) rfl (by simp)
 have lq:S1.length<(S1++[(⟨false,[]⟩:Cell)]).length:=by simp
 have s2:sa (Gfc (vr 1) (cn (.bl true))) (gn 5) ((E0 ps us s0 lim).set 4 (some (.lst S.length))) S1=.nx (((E0 ps us s0 lim).set 4 (some (.lst S.length))).set 5 (some (.dct S1.length))) ((S1++[(⟨false,[]⟩:Cell)]).set S1.length ⟨false,[]++[.tup [stE s0,.bl true]]⟩):=by
  unfold E0
  generalize (S1++[(⟨false,[]⟩:Cell)]).set S1.length ⟨false,[]++[.tup [stE s0,.bl true]]⟩=SS at *
  generalize stE s0=sd0 at *
  generalize cD ps us=cd at *
  simp[Gfc,ds]
 have q3:((S1++[(⟨false,[]⟩:Cell)]).set S1.length ⟨false,[]++[.tup [stE s0,.bl true]]⟩)[S1.length]?=some ⟨false,[sdP s0]⟩:=Ai lq
 have x3:Ex S1 ((S1++[(⟨false,[]⟩:Cell)]).set S1.length ⟨false,[]++[.tup [stE s0,.bl true]]⟩):=Ex.app.setq (Ac _)
 generalize (S1++[(⟨false,[]⟩:Cell)]).set S1.length ⟨false,[]++[.tup [stE s0,.bl true]]⟩=S2 at *
 rw[l1] at q3 s2
 refine⟨S2,⟨[.tup [stE s0,.non,.non]],none,none,none,none,rfl,x3.at q1,q3,⟨rfl,fun k s hk=>?_⟩,x1.trans x3⟩,fun X=>?_⟩
 ·cases k with
  | zero=>
   cases (Ab hk)
   exact⟨.non,.non,rfl,.inl ⟨rfl,rfl,rfl⟩⟩
  | succ k=>simp[bq] at hk
 ·refine(Gc s1).trans ((Gc s2).trans ?_)
  refine(Gc (U':=rm ps us s0 lim S.length (S.length+1) 0 none none none none) (S':=S2) ?_)
  simp
def Gpz(C:Cn ps us)(g:Gd ps s0)(d:Dn ps us s0 m)(h1:(m:Int)<=lim)(h2:m<=2000):∃ tl S',Xh [cD ps us,stE s0,.int lim,.fv "open_done"] S=.ok (.lst S.length) S'/\S'[S.length]?=some ⟨false,tl⟩/\Tl ps us (bq ps us s0 m) tl/\Ex S S':=by
 obtain⟨S1,I1,hX⟩:=Gkx (S:=S) (ps:=ps) (us:=us) (s0:=s0) (lim:=lim)
 have le:∀ j,j<=m->(bq ps us s0 j).length<=m:=fun j hj=>by have:=Gpx (ps:=ps) (us:=us) (s0:=s0) hj; rw[d.len] at this; exact this
 obtain⟨U',S',hI,ew⟩:=Gpw (c:=Kr) (b:=Jr) m (IM S ps us s0 lim) (fun j U S' hj h=>by rw[Gc6 h,decide_eq_true (d.go j hj)])
  (fun j U S' hj h=>by
   have hx:=Ad (d.go j hj)
   have l:=le j (by omega)
   exact Gkw C h hx (d.gd C g (Bd hj) (Ak hx)) (by omega) (by omega)) m 0 (6000-m) _ S1 (by omega) I1
 have ef:6000-m+m=6000:=by omega
 rw[ef] at ew
 have et:=Gc6 hI
 rw[d.len,decide_eq_false (AD m)] at et
 obtain⟨f,ff⟩:∃ f,6000-m=f+1:=⟨6000-m-1,by omega⟩
 have ew2:whN Kr Jr (6000-m) U' S'=.nx U' S':=by
  rw[ff,whN,et]
  simp only[bindS,AC,if_false]
 have ew:=ew.trans ew2
 obtain⟨tl,x7,x8,x9,x10,rfl,ha,hf,T,ex⟩:=hI
 refine⟨tl,S',?_,ha,T,ex⟩
 unfold Xh
 rw[Gn]
 simp only[Ga7]
 refine(hX _).trans ?_
 refine(Gc ew).trans ?_
 simp
def Gzi(C:Cn ps us)(g:Gd ps s0)(d:Dn ps us s0 m)(h1:lim<(m:Int))(h2:m<=2000)(h0:1<=lim):∃ S',Xh [cD ps us,stE s0,.int lim,.fv "open_done"] S=.exc ⟨"TooMany",none⟩ S'/\Ex S S':=by
 obtain⟨S1,I1,hX⟩:=Gkx (S:=S) (ps:=ps) (us:=us) (s0:=s0) (lim:=lim)
 have le:∀ j,j<=m->(bq ps us s0 j).length<=m:=fun j hj=>by have:=Gpx (ps:=ps) (us:=us) (s0:=s0) hj; rw[d.len] at this; exact this
 obtain⟨p,hp1,hp2,hp3⟩:∃ p,p<m/\lim<((bq ps us s0 p).length:Int)/\∀ j,j<p->((bq ps us s0 j).length:Int)<=lim:=by
  have main:∀ n,(n<m/\lim<((bq ps us s0 n).length:Int))->∃ p,p<m/\lim<((bq ps us s0 p).length:Int)/\∀ j,j<p->((bq ps us s0 j).length:Int)<=lim:=by
   intro n
   induction n using Nat.strongRecOn with
   | _ n ih=>
    intro h
    by_cases c:∃ j,j<n/\lim<((bq ps us s0 j).length:Int)
    ·obtain⟨j,c1,c2⟩:=c
     exact ih j c1 ⟨by omega,c2⟩
    ·exact⟨n,h.1,h.2,fun j hj=>Int.not_lt.mp fun z=>c ⟨j,hj,z⟩⟩
  have:=d.go (m-1) (by omega)
  exact main (m-1) ⟨by omega,by omega⟩
 obtain⟨U',S',hI,ew⟩:=Gpw (c:=Kr) (b:=Jr) p (IM S ps us s0 lim) (fun j U S' hj h=>by rw[Gc6 h,decide_eq_true (d.go j (by omega))])
  (fun j U S' hj h=>by
   have hx:=Ad (d.go j (show j<m by omega))
   have l:=le j (by omega)
   exact Gkw C h hx (d.gd C g (show j<=m by omega) (Ak hx)) (hp3 j hj) (by omega)) p 0 (6000-p) _ S1 (by omega) I1
 have ef:6000-p+p=6000:=by omega
 rw[ef] at ew
 have et:=Gc6 hI
 rw[decide_eq_true (d.go p hp1)] at et
 have er:=Gpy hI hp2
 obtain⟨f,ff⟩:∃ f,6000-p=f+1:=⟨6000-p-1,by omega⟩
 have ew2:whN Kr Jr (6000-p) U' S'=.exc ⟨"TooMany",none⟩ U' S':=by
  rw[ff,whN,et]
  simp only[bindS,if_true,er]
 have ew:=ew.trans ew2
 obtain⟨tl,x7,x8,x9,x10,rfl,ha,hf,T,ex⟩:=hI
 refine⟨S',?_,ex⟩
 unfold Xh
 rw[Gn]
 simp only[Ga7]
 refine(hX _).trans ?_
 rw[Gci,ew]
 rfl
end
section
variable{ps:List Pl}{us:List Bool}{s s0 x:S3}{S:Sto}{n:Nat}
noncomputable def canD (ps:List Pl) (us:List Bool) (s:S3) (p:Wd×Nat):D:=.tup [ddOf p,(resOf ps us s p).toD]
abbrev rc(ps:List Pl)(us:List Bool)(s:S3)(q:Nat)(x3 x4 x5:BJ D):Lc:=[some (cD ps us),some (stE s),some (.lst q),x3,x4,x5]
def Gto(C:Cn ps us)(g:Gd ps s)(hk:k<ps.length)(hq:S[q]?=some ⟨false,xs⟩)(hx:xs.length<1000):
  ∃ S' y5,Jb (rc ps us s q (some w.toD) (some (.int k)) x5) S=.nx (rc ps us s q (some w.toD) (some (.int k)) y5) S'/\S'[q]?=some ⟨false,xs++([(w,k)].filter fun p=>(resOf ps us s p).isY).map (canD ps us s)⟩/\K2 q q S S':=by
 have rs:=(Geb C g).1 w k hk
 obtain⟨S1,e1,x1⟩:=rs.due S
 have e1:Hj [cD ps us,stE s,.tup [w.toD,.int k]] S=.ok (resOf ps us s (w,k)).toD S1:=e1
 have q1:=x1.at hq
 have il:isLst (.lst q) S1=true:=by simp[isLst,q1]
 have lq:q<S1.length:=(Aa.mp q1).1
 have kd:=rs.kd
 cases hres:resOf ps us s (w,k) with
 | no y=>
  rw[hres] at kd e1
  cases kd with
  | no hy=>
   obtain⟨v,hv⟩:=Gh1 hy
   have hy0:([(w,k)].filter fun p=>(resOf ps us s p).isY)=[]:=by simp[hres,Res.isY]
   rw[hy0]
   refine⟨S1,some (.str v),?_,by simpa using q1,x1.k2⟩
   have e1:Hj [cD ps us,stE s,.tup [w.toD,.int k]] S=.ok (.str v) S1:=by rw[e1]; show Out.ok (Vy y) S1=_; rw[hv]
   unfold rc
   generalize stE s=sd at *
   generalize cD ps us=cd at *
   generalize w.toD=wdd at *
   simp[Jb,e1,isD,isT,tyN,Vp]
 | yes d=>
  rw[hres] at kd e1
  have hy1:([(w,k)].filter fun p=>(resOf ps us s p).isY)=[(w,k)]:=by simp[hres,Res.isY]
  rw[hy1]
  cases kd with
  | yes hst hp0 hg0=>
   rename_i A B C' a g'
   have e1:Hj [cD ps us,stE s,.tup [w.toD,.int k]] S=.ok (.tup [stE (A,B,C'),.int a,.int g']) S1:=e1
   have ap:=apd (d:=.tup [.tup [w.toD,.int k],.tup [stE (A,B,C'),.int a,.int g']]) q1 (by omega)
   have ec:([(w,k)].map (canD ps us s))=[.tup [.tup [w.toD,.int k],.tup [stE (A,B,C'),.int a,.int g']]]:=by
    simp only[As,Bq,canD,hres]; rfl
   rw[ec]
   refine⟨S1.set q ⟨false,xs++[.tup [.tup [w.toD,.int k],.tup [stE (A,B,C'),.int a,.int g']]]⟩,some (.tup [stE (A,B,C'),.int a,.int g']),?_,Ai lq,x1.k2.trans (K2.set (.inl rfl))⟩
   generalize (⟨false,xs++[.tup [.tup [w.toD,.int k],.tup [stE (A,B,C'),.int a,.int g']]]⟩:Cell)=cc at *
   unfold rc
   generalize stE s=sd at *
   generalize stE (A,B,C')=sd2 at *
   generalize cD ps us=cd at *
   generalize w.toD=wdd at *
   simp[Jb,e1,isD,isT,tyN,Vp,il,ap]
def Gzj(C:Cn ps us)(g:Gd ps s)(hq:S[q]?=some ⟨false,xs⟩)(hx:xs.length<=900):
  ∃ S' y4 y5,Jx (rc ps us s q (some w.toD) x4 x5) S=.nx (rc ps us s q (some w.toD) y4 y5) S'/\S'[q]?=some ⟨false,xs++((prs w ps.length).filter fun p=>(resOf ps us s p).isY).map (canD ps us s)⟩/\K2 q q S S':=by
 have h13:=C.hl
 obtain⟨U',S',ef,y4,y5,hU,h1,h2⟩:=Qa (nxt:=(rsrc 0 ps.length).nxt) (g:=gn 4) (b:=Jb) (l:=(List.range ps.length).map fun k:Nat=>D.int (k:Int))
  (fun k U S'=>∃ y4 y5,U=rc ps us s q (some w.toD) y4 y5/\S'[q]?=some ⟨false,xs++((prs w k).filter fun p=>(resOf ps us s p).isY).map (canD ps us s)⟩/\K2 q q S S')
  (fun k _ S' _=>Gcz)
  (fun k d U S' hd ⟨y4,y5,e,h1,h2⟩=>by
   obtain⟨hk,rfl⟩:=Gi5 hd
   subst e
   have lf:(((prs w k).filter fun p=>(resOf ps us s p).isY).map (canD ps us s)).length<=k:=by
    rw[Ah]
    refine Am (Bl _ _) ?_
    rw[Zq]; exact Ac _
   obtain⟨S2,z5,e1,e2,e3⟩:=Gto (w:=w) (x5:=y5) C g hk h1 (by rw[Aw]; omega)
   refine⟨rc ps us s q (some w.toD) (some (.int k)) y5,_,S2,rfl,e1,some (.int k),z5,rfl,?_,h2.trans e3⟩
   rw[e2]
   have:prs w (k+1)=prs w k++[(w,k)]:=by unfold prs; rw[List.range_succ]; simp
   rw[this,Bj,AO,AM])
  (rsrc 0 ps.length).fuel 0 (rc ps us s q (some w.toD) x4 x5) S (AB _) ⟨x4,x5,rfl,by simpa[prs] using hq,K2.refl⟩ (by simp[rsrc])
 subst hU
 refine⟨S',y4,y5,?_,by simpa using h1,h2⟩
 have hr:ir1 (ac (b1 Hd (ac (o2 DL.getD (vr 0) (cn (.int 0))) an)) an) (rc ps us s q (some w.toD) x4 x5) S=.ok (rsrc 0 ps.length) S:=Ggn (by
  have c0:=cd0 (ps:=ps) (us:=us) (S:=S)
  have ln:Hd [.tup (ps.map Pl.toD)] S=.ok (.int (ps.length:Int)) S:=by simp[Hd]
  unfold rc
  generalize stE s=sd at *
  generalize cD ps us=cd at *
  generalize ps.map Pl.toD=pd at *
  simp[c0,ln]) (by omega)
 unfold Jx
 rw[Wj,hr,Hl]
 exact ef
noncomputable def Ws:List Wd:=[.l,.f,.r,.e]
def Gzk(C:Cn ps us)(g:Gd ps s):∃ S',Ka [cD ps us,stE s] S=.ok (.lst S.length) S'/\S'[S.length]?=some ⟨false,(yesL ps us s).map (canD ps us s)⟩/\Ex S S':=by
 have h13:=C.hl
 have q1:(S++[⟨false,[]⟩])[S.length]?=some ⟨false,[]⟩:=Gr
 have l1:(S++[(⟨false,[]⟩:Cell)]).length=S.length+1:=by simp
 have x1:Ex S (S++[⟨false,[]⟩]):=Ex.app
 have s1:sa (ls an) (gn 2) [some (cD ps us),some (stE s),none,none,none,none] S=.nx (rc ps us s S.length none none none) (S++[⟨false,[]⟩]):=by simp
 generalize S++[(⟨false,[]⟩:Cell)]=S1 at *
 have q2:(S1++[⟨false,Ws.map Wd.toD⟩])[S1.length]?=some ⟨false,Ws.map Wd.toD⟩:=Gr
 have x2:Ex S1 (S1++[⟨false,Ws.map Wd.toD⟩]):=Ex.app
 have s2:ls (ac (cn (.str "let")) (ac (cn (.str "feed")) (ac (cn (.str "right")) (ac (cn (.str "left")) an)))) (rc ps us s S.length none none none) S1=.ok (.lst S1.length) (S1++[⟨false,Ws.map Wd.toD⟩]):=by
  have:Ws.map Wd.toD=[.str "let",.str "feed",.str "right",.str "left"]:=rfl
  rw[this]
  simp
 generalize S1++[(⟨false,Ws.map Wd.toD⟩:Cell)]=S2 at *
 have sr:=Gbe q2
 have lW:(Ws.map Wd.toD).length=4:=rfl
 simp only[lW] at sr
 obtain⟨U',S',ef,y3,y4,y5,hU,h1,h2⟩:=Qa (nxt:=(Wb S1.length 4).nxt) (g:=gn 3) (b:=Jx) (l:=Ws.map Wd.toD)
  (fun k U S'=>∃ y3 y4 y5,U=rc ps us s S.length y3 y4 y5/\S'[S.length]?=some ⟨false,(((Ws.take k).flatMap fun w=>prs w ps.length).filter fun p=>(resOf ps us s p).isY).map (canD ps us s)⟩/\K2 S.length S.length S2 S')
  (fun k _ S' ⟨_,_,_,_,_,h⟩=>by
   show(S'[S1.length]?).bind (fun c=>c.xs[k]?)=_
   rw[h.at q2 (by omega) (by omega)]; rfl)
  (fun k d U S' hd ⟨y3,y4,y5,e,h1,h2⟩=>by
   subst e
   rw[Ar] at hd
   cases hk:Ws[k]? with
   | none=>rw[hk] at hd; cases hd
   | some w=>
    rw[hk] at hd
    cases (Ab hd)
    have k4:k<4:=(Aa.mp hk).1
    have lf:((((Ws.take k).flatMap fun w=>prs w ps.length).filter fun p=>(resOf ps us s p).isY).map (canD ps us s)).length<=900:=by
     rw[Ah]
     refine Am (Bl _ _) ?_
     rcases(by omega:k=0\/k=1\/k=2\/k=3) with rfl | rfl | rfl | rfl<;>(simp[Ws,Zq]<;>omega)
    obtain⟨S3',z4,z5,e1,e2,e3⟩:=Gzj (w:=w) (x4:=y4) (x5:=y5) C g h1 lf
    refine⟨rc ps us s S.length (some w.toD) y4 y5,_,S3',rfl,e1,some w.toD,z4,z5,rfl,?_,h2.trans e3⟩
    rw[e2,<- AO,<- Bj]
    have:(Ws.take (k+1)).flatMap (fun w=>prs w ps.length)=(Ws.take k).flatMap (fun w=>prs w ps.length)++prs w ps.length:=by
     rw[A9,hk,List.flatMap_append]
     simp
    rw[this])
  5 0 (rc ps us s S.length none none none) S2 (AB _) ⟨none,none,none,rfl,by simpa using x2.at q1,K2.refl⟩ (by rw[lW]; omega)
 subst hU
 rw[lW] at h1
 have e4:(Ws.take 4).flatMap (fun w=>prs w ps.length)=prL ps.length:=by simp[Ws,prL]
 rw[e4,<- Gtm C g] at h1
 refine⟨S',?_,h1,K2.ex (x1.trans x2) h2 (Ac _) (Ac _)⟩
 unfold Ka
 rw[Gn]
 simp only[Vc]
 refine(Gc s1).trans ?_
 refine(Gc (U':=rc ps us s S.length y3 y4 y5) (S':=S') ?_).trans ?_
 ·rw[Wj,Xu,s2,Gz,sr,Hl]
  exact ef
 ·simp
end
def addls{E:Ev (List D)}{a:List D}(h6:U[4]?=some (some (.lst q)))(hq:S[q]?=some ⟨false,a⟩)(hE:E U S=.ok xs S)(hl:xs.length<=1000)(ha:a.length<=1000):
  sa (o2 Gq (vr 4) (ls E)) (gn 4) U S=.nx (U.set 4 (some (.lst (S.length+1)))) ((S++[⟨false,xs⟩])++[⟨false,a++xs⟩]):=by
 have e:Gq (.lst q) (.lst S.length) (S++[⟨false,xs⟩])=.ok (.lst (S++[(⟨false,xs⟩:Cell)]).length) ((S++[⟨false,xs⟩])++[⟨false,a++xs⟩]):=Gb3 (Jn hq) Gr (by omega)
 have h1:xs.length<=1000000:=by omega
 simp[h6,hE,h1] at e ⊢
 simp[e]
def Hcz{y:Str}{sub:List Str}(hy:y∈ys):Kw ys sub (.exn y none) S=.ok (.bl (decide (y∈sub))) S:=if_pos hy
def Hc0{y:Str}{x0 x1 x2 x3:BJ D}(hy:y∈ys):∃ q S',Qk [x0,x1,x2,x3,x4,some (.exn y none)] S=.nx [x0,x1,x2,x3,some (.lst q),some (.exn y none)] S'/\S'[q]?=some ⟨false,mks y⟩/\Ex S S':=by
 have i:=fun(sub:List Str) (S:Sto)=>Hcz (sub:=sub) (S:=S) hy
 have e1:sa (ls (ac (o1 (Kw ys ["NoGate"]) (vr 5)) (ac (o1 (Kw ys ["Dry"]) (vr 5)) (ac (o1 (Kw ys ["Full"]) (vr 5)) (ac (o1 (Kw ys ["NoSpring"]) (vr 5)) an))))) (gn 4) [x0,x1,x2,x3,x4,some (.exn y none)] S=.nx [x0,x1,x2,x3,some (.lst S.length),some (.exn y none)] (S++[⟨false,[.bl (decide (y∈(["NoGate"]:List Str))),.bl (decide (y∈(["Dry"]:List Str))),.bl (decide (y∈(["Full"]:List Str))),.bl (decide (y∈(["NoSpring"]:List Str)))]⟩]):=by
  simp[i]
 have x1':Ex S (S++[⟨false,[.bl (decide (y∈(["NoGate"]:List Str))),.bl (decide (y∈(["Dry"]:List Str))),.bl (decide (y∈(["Full"]:List Str))),.bl (decide (y∈(["NoSpring"]:List Str)))]⟩]):=Ex.app
 have q1:(S++[(⟨false,[.bl (decide (y∈(["NoGate"]:List Str))),.bl (decide (y∈(["Dry"]:List Str))),.bl (decide (y∈(["Full"]:List Str))),.bl (decide (y∈(["NoSpring"]:List Str)))]⟩:Cell)])[S.length]?=some ⟨false,[.bl (decide (y∈(["NoGate"]:List Str))),.bl (decide (y∈(["Dry"]:List Str))),.bl (decide (y∈(["Full"]:List Str))),.bl (decide (y∈(["NoSpring"]:List Str)))]⟩:=Gr
 generalize S++[(⟨false,[.bl (decide (y∈(["NoGate"]:List Str))),.bl (decide (y∈(["Dry"]:List Str))),.bl (decide (y∈(["Full"]:List Str))),.bl (decide (y∈(["NoSpring"]:List Str)))]⟩:Cell)]=S1 at *
 have stp:∀ {q:Nat} {m:List D} {S:Sto},S[q]?=some ⟨false,m⟩->m.length<=100->∀ (s1 s2 s3:List Str),∃ q' S',sa (o2 Gq (vr 4) (ls (ac (o1 (Kw ys s1) (vr 5)) (ac (o1 (Kw ys s2) (vr 5)) (ac (o1 (Kw ys s3) (vr 5)) an))))) (gn 4) [x0,x1,x2,x3,some (.lst q),some (.exn y none)] S=.nx [x0,x1,x2,x3,some (.lst q'),some (.exn y none)] S'/\S'[q']?=some ⟨false,m++[.bl (decide (y∈s1)),.bl (decide (y∈s2)),.bl (decide (y∈s3))]⟩/\Ex S S':=fun{q m S} hq hm s1 s2 s3=>by
  have ad:=addls (E:=ac (o1 (Kw ys s1) (vr 5)) (ac (o1 (Kw ys s2) (vr 5)) (ac (o1 (Kw ys s3) (vr 5)) an))) (U:=[x0,x1,x2,x3,some (.lst q),some (.exn y none)]) (xs:=[.bl (decide (y∈s1)),.bl (decide (y∈s2)),.bl (decide (y∈s3))]) rfl hq (by simp[i]) (by simp) (by omega)
  refine⟨_,_,ad,?_,Ex.app.trans Ex.app⟩
  have:=Gr (S:=S++[(⟨false,[.bl (decide (y∈s1)),.bl (decide (y∈s2)),.bl (decide (y∈s3))]⟩:Cell)]) (c:=⟨false,m++[.bl (decide (y∈s1)),.bl (decide (y∈s2)),.bl (decide (y∈s3))]⟩)
  simpa using this
 obtain⟨q2,S2,e2,h2,x2'⟩:=stp q1 (by simp) ["NoBarge"] ["NoRoom"] ["Uneven"]
 obtain⟨q3,S3,e3,h3,x3'⟩:=stp h2 (by simp) ["Shallow"] ["Falls"] ["NoText"]
 obtain⟨q4,S4,e4,h4,x4'⟩:=stp h3 (by simp) ["TooMany"] ["NoLine"] ys
 refine⟨q4,S4,?_,h4,((x1'.trans x2').trans x3').trans x4'⟩
 unfold Qk
 rw[Jd e1,Jd e2,Jd e3,e4]
def Gh4:("TooMany":Str)∈ys:=by decide +kernel
def Hc1:Vy "TooMany"=.str "toomany":=by kernel_rfl!
section
variable{ps:List Pl}{us:List Bool}{s0:S3}{S:Sto}
def Gtp(C:Cn ps us)(g:Gd ps s0)(d:Dn ps us s0 m)(h1:(m:Int)<=lim)(h2:m<=2000):∃ tl S',Jl [cD ps us,stE s0,.int lim] S=.ok (.lst S.length) S'/\S'[S.length]?=some ⟨false,tl⟩/\Tl ps us (bq ps us s0 m) tl/\Ex S S':=by
 obtain⟨tl,S',e,q,T,x⟩:=Gpz (S:=S) C g d h1 h2
 have gx:=Zz e
 refine⟨tl,S',?_,q,T,x⟩
 unfold Jl
 rw[Gn]
 generalize stE s0=sd0 at *
 generalize cD ps us=cd at *
 simp[Xs,gx,fin]
def Gtq(C:Cn ps us)(g:Gd ps s0)(d:Dn ps us s0 m)(h1:lim<(m:Int))(h2:m<=2000)(h0:1<=lim):∃ S',Jl [cD ps us,stE s0,.int lim] S=.exc ⟨"TooMany",none⟩ S'/\Ex S S':=by
 obtain⟨S',e,x⟩:=Gzi (S:=S) C g d h1 h2 h0
 have gx:=Qo e Gh4
 refine⟨S',?_,x⟩
 unfold Jl
 rw[Gn]
 generalize stE s0=sd0 at *
 generalize cD ps us=cd at *
 simp[Xs,gx,fin]
def Gp0{cd sd:D}{S:Sto}:Qj [some cd,some sd,some (.int lim),some .non,x4,none] S=bindS (gX ys Jl [cd,sd,.int (if lim=0 then 600 else lim)] S) [some cd,some sd,some (.int lim),some .non,x4,none] fun d S1=>.nx [some cd,some sd,some (.int lim),some d,x4,none] S1:=by
 unfold Qj
 by_cases c:lim=0
 ·subst c
  rw[Hw (S1:=S) (by simp),if_pos rfl]
  have:gX ys (Ghm 600 Jl) [cd,sd] S=gX ys Jl [cd,sd,.int 600] S:=rfl
  simp[this]
 ·rw[Hg (S1:=S) (by simp[c]),if_neg c]
  simp
def Gky(C:Cn ps us)(g:Gd ps s0)(d:Dn ps us s0 m)(h1:(m:Int)<=if lim=0 then 600 else lim)(h2:m<=2000):∃ a tl S',Qn [cD ps us,stE s0,.int lim] S=.ok (.lst a) S'/\S'[a]?=some ⟨false,tl⟩/\Tl ps us (bq ps us s0 m) tl/\Ex S S'/\S.length<=a:=by
 have x1:Ex S (S++[⟨false,[]⟩]):=Ex.app
 have q1:(S++[(⟨false,[]⟩:Cell)])[S.length]?=some ⟨false,[]⟩:=Gr
 have l1:S.length<=(S++[(⟨false,[]⟩:Cell)]).length:=x1.len
 have s1:∀ cd sd:D,sa (ls an) (gn 4) [some cd,some sd,some (.int lim),some .non,none,none] S=.nx [some cd,some sd,some (.int lim),some .non,some (.lst S.length),none] (S++[⟨false,[]⟩]):=fun cd sd=>by simp
 generalize S++[(⟨false,[]⟩:Cell)]=S1 at *
 obtain⟨tl,S2,e,q,T,x⟩:=Gtp (S:=S1) C g d h1 h2
 have gx:=Zz e
 have tr:=Go2 (hh:=hdl 5 Qk) (fb:=Qj) (U:=[some (cD ps us),some (stE s0),some (.int lim),some .non,some (.lst S.length),none]) (S:=S1) (U':=[some (cD ps us),some (stE s0),some (.int lim),some (.lst S1.length),some (.lst S.length),none]) (S':=S2) (by rw[Gp0,gx,Hl])
 have q2:(S2++[(⟨false,[]⟩:Cell)])[S2.length]?=some ⟨false,[]⟩:=Gr
 have nn:=Gy4 (Jn (x.at q1)) q2
 refine⟨S1.length,tl,S2++[⟨false,[]⟩],?_,Jn q,T,(x1.trans x).trans Ex.app,l1⟩
 unfold Qn
 rw[Gn]
 simp only[Xt]
 refine(Gc (U':=[some (cD ps us),some (stE s0),some (.int lim),some .non,none,none]) (S':=S) (by simp)).trans ?_
 refine(Gc (s1 _ _)).trans ?_
 refine(Gc tr).trans ?_
 generalize stE s0=sd0 at *
 generalize cD ps us=cd at *
 simp[nn,fin]
def Gzl(C:Cn ps us)(g:Gd ps s0)(d:Dn ps us s0 m)(h1:lim<(m:Int))(h2:m<=2000)(h0:1<=lim):∃ S',Qn [cD ps us,stE s0,.int lim] S=.ok (.str "toomany") S'/\Ex S S':=by
 have x1:Ex S (S++[⟨false,[]⟩]):=Ex.app
 have s1:∀ cd sd:D,sa (ls an) (gn 4) [some cd,some sd,some (.int lim),some .non,none,none] S=.nx [some cd,some sd,some (.int lim),some .non,some (.lst S.length),none] (S++[⟨false,[]⟩]):=fun cd sd=>by simp
 generalize S++[(⟨false,[]⟩:Cell)]=S1 at *
 obtain⟨S2,e,x⟩:=Gtq (S:=S1) C g d h1 h2 h0
 have gx:=Qo e Gh4
 obtain⟨q,S3,e3,h3,x3⟩:=Hc0 (y:="TooMany") (x0:=some (cD ps us)) (x1:=some (stE s0)) (x2:=some (.int lim)) (x3:=some .non) (x4:=some (.lst S.length)) (S:=S2) Gh4
 have hne:¬ lim=0:=by omega
 have tr:Xd ys (hdl 5 Qk) Qj [some (cD ps us),some (stE s0),some (.int lim),some .non,some (.lst S.length),none] S1=.nx [some (cD ps us),some (stE s0),some (.int lim),some .non,some (.lst q),none] S3:=by
  rw[Gka (x:=⟨"TooMany",none⟩) (U':=[some (cD ps us),some (stE s0),some (.int lim),some .non,some (.lst S.length),none]) (S':=S2) (by rw[Gp0,if_neg hne,gx,Gfh]) Gh4]
  exact Gy5 (U':=[some (cD ps us),some (stE s0),some (.int lim),some .non,some (.lst q),some (.exn "TooMany" none)]) e3
 obtain⟨b,bs,hb⟩:=Go3 "TooMany"
 have h3':S3[q]?=some ⟨false,(b::bs).map D.bl⟩:=by rw[<- hb]; exact h3
 have q4:(S3++[(⟨false,[]⟩:Cell)])[S3.length]?=some ⟨false,[]⟩:=Gr
 have ns:=Gs7 (Jn h3') q4
 obtain⟨S5,e5,x5⟩:=Gy3 Gh4 (Jn (c:=⟨false,[]⟩) h3)
 rw[Hc1] at e5
 refine⟨S5,?_,(x1.trans x).trans ((x3.trans Ex.app).trans x5)⟩
 unfold Qn
 rw[Gn]
 simp only[Xt]
 refine(Gc (U':=[some (cD ps us),some (stE s0),some (.int lim),some .non,none,none]) (S':=S) (by simp)).trans ?_
 refine(Gc (s1 _ _)).trans ?_
 refine(Gc tr).trans ?_
 generalize stE s0=sd0 at *
 generalize cD ps us=cd at *
 simp[ns,e5,fin]
end
def Gh5{S:Sto}{n:Nat}:∀ L:List Int,Jm (toP S (n+1)) (L.map D.int)=some (L.map PyData.int)
 | []=>rfl
 | i::L=>by
  have:=Gh5 (S:=S) (n:=n) L
  rw[As,As]
  simp only[Jm,this]
  rfl
def Gh6:∀ L:List Int,PyData.canLayAll0 (L.map .int)=true
 | []=>rfl
 | i::L=>by simp[PyData.canLayAll0,PyData.canLay0,Gh6 L]
def Gh7:∀ L:List Int,PyData.depthAll (L.map .int)=0
 | []=>rfl
 | i::L=>by simp[PyData.depthAll,PyData.depth,Gh7 L]
noncomputable def pdS(s:S3):PyData:=.tuple [.tuple (s.1.map .int),.tuple (s.2.1.map .int),.tuple (s.2.2.map .int)]
def Gtr{s:S3}:toP S (n+3) (stE s)=some (pdS s):=by
 have h:∀ L:List Int,toP S (n+2) (.tup (L.map D.int))=some (.tuple (L.map PyData.int)):=fun L=>by
  show(Jm (toP S (n+1)) (L.map D.int)).map PyData.tuple=_
  rw[Gh5 (n:=n)]; rfl
 show(Jm (toP S (n+2)) [.tup (s.1.map D.int),.tup (s.2.1.map D.int),.tup (s.2.2.map D.int)]).map PyData.tuple=_
 simp only[Jm,h]
 rfl
def Gkz{S:Sto}{n:Nat}:∀ t:List S3,Jm (toP S (n+3)) (t.map stE)=some (t.map pdS)
 | []=>rfl
 | s::t=>by
  have:=Gkz (S:=S) (n:=n) t
  rw[As,As]
  simp only[Jm,this,Gtr]
def Gzm{s:S3}:PyData.canLay0 (pdS s)=true:=by simp[pdS,PyData.canLay0,PyData.canLayAll0,Gh6]
def Gzn{s:S3}:(pdS s).depth=2:=by simp[pdS,PyData.depth,PyData.depthAll,Gh7]
def Gk0:∀ t:List S3,PyData.canLayAll0 (t.map pdS)=true
 | []=>rfl
 | s::t=>by simp[PyData.canLayAll0,Gzm,Gk0 t]
def Gk1:∀ t:List S3,PyData.depthAll (t.map pdS)<=2
 | []=>by simp[PyData.depthAll]
 | s::t=>by
  have:=Gk1 t
  simp only[As,PyData.depthAll,Gzn]
  omega
noncomputable def wsS:Wd->Str
 | .l=>"let"
 | .f=>"feed"
 | .r=>"right"
 | .e=>"left"
def pdD(p:Wd×Nat):PyData:=.tuple [.str (wsS p.1),.int p.2]
def rpD(p:Wd×Nat):Str:=(pdD p).shown
def Gp1:List (Wd×Nat):=((prs .l 13++prs .f 13)++prs .r 13)++prs .e 13
def Gu2:(Gp1.all fun p=>(pdD p).showable&&!(pdD p).hasDict&&decide ((pdD p).depth<=60)&&decide ((pdD p).shown.length<=1000000)&&PyData.strOk (pdD p).shown)=true:=by decide +kernel
def Hc2:(Gp1.all fun p=>Gp1.all fun q=>decide ((pdD p).shown=(pdD q).shown)==decide (p=q))=true:=by decide +kernel
def Gbi(h:p.2<13):p∈Gp1:=by
 obtain⟨w,k⟩:=p
 have hk:∀ w,(w,k)∈prs w 13:=fun w=>AH.mpr ⟨k,Bn.mpr h,rfl⟩
 unfold Gp1
 simp only[Az]
 cases w
 ·exact .inl (.inl (.inl (hk .l)))
 ·exact .inl (.inl (.inr (hk .f)))
 ·exact .inl (.inr (hk .r))
 ·exact .inr (hk .e)
def Gzo{q:Wd×Nat}(h1:p.2<13)(h2:q.2<13):rpD p=rpD q↔p=q:=by
 have:=AN.mp Hc2 p (Gbi h1)
 have:=AN.mp this q (Gbi h2)
 have:=beq_iff_eq.mp this
 unfold rpD
 constructor
 ·intro h
  rw[decide_eq_true h] at this
  exact of_decide_eq_true this.symm
 ·intro h; rw[h]
def Gp2(h:p.2<13):PyData.strOk (rpD p)=true:=by
 have:=AN.mp Gu2 p (Gbi h)
 simp only[At] at this
 exact this.2
def Gk2(h:p.2<13):Qt [ddOf p] S=.ok (.str (rpD p)) S:=by
 have a:=AN.mp Gu2 p (Gbi h)
 simp only[At,decide_eq_true_eq] at a
 have e:toP S 40 (ddOf p)=some (pdD p):=by
  obtain⟨w,k⟩:=p
  cases w<;>rfl
 show(match toP S 40 (ddOf p) with
   | some p=>if(p.showable&&!p.hasDict&&decide (p.depth<=60))=true/\p.shown.length<=1000000 then Out.ok (D.str p.shown) S else .bad
   | none=>.bad)=_
 rw[e]
 show(if((pdD p).showable&&!(pdD p).hasDict&&decide ((pdD p).depth<=60))=true/\(pdD p).shown.length<=1000000 then Out.ok (D.str (pdD p).shown) S else .bad)=_
 rw[if_pos ⟨by simp only[At,decide_eq_true_eq]; exact a.1.1,a.1.2⟩]
 rfl
def Ggy:(prs w n).Nodup:=by
 unfold prs
 rw[List.nodup_iff_pairwise_ne,List.pairwise_map]
 exact List.Pairwise.imp (fun h z=>h (by simpa using z)) List.nodup_range
def Ged(h:p∈prs w n):p.1=w:=by
 obtain⟨k,_,rfl⟩:=AH.mp h
 rfl
def Gzp:(prP m N).Nodup:=by
 unfold prP
 refine A6.mpr ⟨A6.mpr ⟨A6.mpr ⟨Ggy,Ggy,?_⟩,Ggy,?_⟩,Ggy,?_⟩
 ·intro a ha b hb e
  have h1:=Ged ha; have h2:=Ged hb
  rw[e,h2] at h1; cases h1
 ·intro a ha b hb e
  have h2:=Ged hb
  rcases Az.mp ha with ha | ha<;>(have h1:=Ged ha; rw[e,h2] at h1; cases h1)
 ·intro a ha b hb e
  have h2:=Ged hb
  rcases Az.mp ha with ha | ha
  ·rcases Az.mp ha with ha | ha<;>(have h1:=Ged ha; rw[e,h2] at h1; cases h1)
  ·have h1:=Ged ha; rw[e,h2] at h1; cases h1
def Gk3{O:Type}[DecidableEq O]{p:O}:∀ {l:List O},l.Nodup->p∈l->l.filter (fun q=>decide (q=p))=[p]
 | [],_,h=>by cases h
 | a::l,hn,h=>by
  obtain⟨h1,h2⟩:=A0.mp hn
  rw[List.filter_cons]
  by_cases c:a=p
  ·subst c
   rw[if_pos (by simp)]
   have:l.filter (fun q=>decide (q=a))=[]:=List.filter_eq_nil_iff.mpr fun x hx z=>h1 (by rw[<- of_decide_eq_true z]; exact hx)
   rw[this]
  ·rw[if_neg (by simpa using c)]
   rcases Af.mp h with h | h
   ·exact absurd h.symm c
   ·exact Gk3 h2 h
section
variable{ps:List Pl}{us:List Bool}{s s0 x:S3}{S S0:Sto}{t:List S3}{n:Nat}
def Gp3(C:Cn ps us)(h:p∈yesL ps us s):p.2<13:=by
 have:=Ggu (by have:=C.hu; omega) (Bc.mp h).1
 have:=C.hl
 omega
abbrev tdE:Ev D:=o2 DL.getD (vr 1) (cn (.int 0))
abbrev tdC:Ev Bool:=tb (o2 eqD (b1 Qt (ac (vr 0) an)) (b1 Qt (ac (o2 DL.getD (vr 2) (cn (.int 2))) an)))
def Gts(C:Cn ps us)(g:Gd ps x){sd a:D}{f:Ev Src}(hp:p∈yesL ps us x)(hf:f U S0=.ok (Wb q (yesL ps us x).length) S)(hq:S[q]?=some ⟨false,(yesL ps us x).map (canD ps us x)⟩)(h6:pkS [none,none,some 5] U=[none,none,some (.tup [sd,a,ddOf p])]):
  ∃ S',cmp f [none,none,some 5] (gt (gcons (gn 0) (gcons (gn 1) gnil)) 2) tdC tdE U S0=.ok (.lst S.length) S'/\S'[S.length]?=some ⟨false,[stE (bh (resOf ps us x p))]⟩/\Ex S S':=by
 have yl:=Gc5 (ps:=ps) (us:=us) (s:=x)
 have h13:=C.hl
 have hu:=C.hu
 have lq:q<S.length:=(Aa.mp hq).1
 have pl:=Gp3 C hp
 obtain⟨U',S',ef,y0,y1,hU,h1,h2⟩:=Qa (nxt:=(Wb q (yesL ps us x).length).nxt) (g:=gt (gcons (gn 0) (gcons (gn 1) gnil)) 2) (b:=cbody S.length tdC tdE) (l:=(yesL ps us x).map (canD ps us x))
  (fun k U S'=>∃ y0 y1,U=[y0,y1,some (.tup [sd,a,ddOf p])]/\S'[S.length]?=some ⟨false,(((yesL ps us x).take k).filter fun q=>decide (q=p)).map fun q=>stE (bh (resOf ps us x q))⟩/\Ex S S')
  (fun k _ S' ⟨_,_,_,_,h⟩=>by
   show(S'[q]?).bind (fun c=>c.xs[k]?)=_
   rw[h.at hq]; rfl)
  (fun k d U S' hd ⟨y0,y1,e,h1,h2⟩=>by
   subst e
   rw[Ar] at hd
   cases hk:(yesL ps us x)[k]? with
   | none=>rw[hk] at hd; cases hd
   | some p'=>
    rw[hk] at hd
    cases (Ab hd)
    have hp':=Ak hk
    obtain⟨s',pr,ga,e1,e2,_,_⟩:=Gec C g hp'
    have pl':=Gp3 C hp'
    have ecd:canD ps us x p'=.tup [ddOf p',.tup [stE s',.int pr,.int ga]]:=by unfold canD; rw[e1]; rfl
    have tk:((yesL ps us x).take (k+1)).filter (fun q=>decide (q=p))=((yesL ps us x).take k).filter (fun q=>decide (q=p))++if decide (p'=p)=true then[p'] else[]:=Gkl hk
    rw[ecd,tk]
    have r1:=fun S=>Gk2 (S:=S) pl'
    have r2:=fun S=>Gk2 (S:=S) pl
    have g2:∀ S,DL.getD (.tup [sd,a,ddOf p]) (.int 2) S=.ok (ddOf p) S:=fun S=>Jc (Gw (by decide) rfl)
    have ee:∀ S,eqD (.str (rpD p')) (.str (rpD p)) S=.ok (.bl (decide (p'=p))) S:=fun S=>by
     rw[Js (Gp2 pl') (Gp2 pl)]
     have:=Gzo pl' pl
     by_cases c:p'=p
     ·subst c; simp
     ·have c':¬ rpD p'=rpD p:=fun z=>c (this.mp z)
      simp[c,c']
    have ec:tdC [some (ddOf p'),some (.tup [stE s',.int pr,.int ga]),some (.tup [sd,a,ddOf p])] S'=.ok (decide (p'=p)) S':=by
     generalize hd3:D.tup [sd,a,ddOf p]=od at *
     generalize ddOf p'=d1 at *
     generalize ddOf p=d2 at *
     simp[tdC,r1,r2,g2,ee]
    refine⟨[some (ddOf p'),some (.tup [stE s',.int pr,.int ga]),some (.tup [sd,a,ddOf p])],[some (ddOf p'),some (.tup [stE s',.int pr,.int ga]),some (.tup [sd,a,ddOf p])],?_⟩
    by_cases c:p'=p
    ·subst c
     rw[decide_eq_true rfl] at ec
     rw[if_pos (by simp)]
     have ls:S.length<S'.length:=(Aa.mp h1).1
     have lf:((((yesL ps us x).take k).filter fun q=>decide (q=p')).map fun q=>stE (bh (resOf ps us x q))).length<1000:=by
      rw[Ah]
      refine Nat.lt_of_le_of_lt (Bl _ _) ?_
      rw[AT]; omega
     refine⟨S'.set S.length ⟨false,((((yesL ps us x).take k).filter fun q=>decide (q=p')).map fun q=>stE (bh (resOf ps us x q)))++[stE s']⟩,rfl,Gl1 ec (by simp[tdE,p0e]) h1 (by omega),_,_,rfl,?_,h2.setq (Ac _)⟩
     rw[Ai ls,AO,As,Bq,e2]
    ·rw[decide_eq_false c] at ec
     rw[if_neg (by simpa using c),AY]
     exact⟨S',rfl,Goy ec,_,_,rfl,h1,h2⟩)
  ((yesL ps us x).length+1) 0 [none,none,some (.tup [sd,a,ddOf p])] (S++[⟨false,[]⟩]) (AB _) ⟨none,none,rfl,by simp[Gr],Ex.app⟩ (by simp)
 rw[Ah,Bx] at h1
 have f1:(yesL ps us x).filter (fun q=>decide (q=p))=[p]:=Gk3 (Gzp.filter _) hp
 rw[f1] at h1
 refine⟨S',Gak hf (by rw[h6]; exact ef),h1,h2⟩
end
abbrev T3:=Int×Int×Int
def QA(B:Pl->List T3):List Pl->List S3
 | []=>[([],[],[])]
 | p::ps=>(B p).flatMap fun t=>(QA B ps).map fun s=>(t.1::s.1,t.2.1::s.2.1,t.2.2::s.2.2)
def Gu3{B:Pl->List T3}{ps:List Pl}:∀ {L R F:List Int},L.length=ps.length->R.length=ps.length->F.length=ps.length->(∀ (i:Nat) (p:Pl) (l r f:Int),ps[i]?=some p->L[i]?=some l->R[i]?=some r->F[i]?=some f->(l,r,f)∈B p)->(L,R,F)∈QA B ps:=by
 induction ps with
 | nil=>intro L R F h1 h2 h3 _; rw[Bk.mp h1,Bk.mp h2,Bk.mp h3]; simp[QA]
 | cons p ps ih=>
  intro L R F h1 h2 h3 h
  cases L with
  | nil=>simp at h1
  | cons l L=>
   cases R with
   | nil=>simp at h2
   | cons r R=>
    cases F with
    | nil=>simp at h3
    | cons f F=>
     have b:=ih (L:=L) (R:=R) (F:=F) (by simpa using h1) (by simpa using h2) (by simpa using h3) fun i p l r f e1 e2 e3 e4=>h (i+1) p l r f e1 e2 e3 e4
     exact List.mem_flatMap.mpr ⟨(l,r,f),h 0 p l r f rfl rfl rfl rfl,AH.mpr ⟨(L,R,F),b,rfl⟩⟩
noncomputable def six:List T3:=[(0,0,0),(0,1,0),(0,0,1),(1,0,0),(1,1,0),(1,0,1)]
def Ba:Pl->List T3
 | .e=>[(0,0,0)]
 | _=>six
noncomputable def Bb:Pl->List T3
 | .e=>[(0,0,0)]
 | .c=>[(1,0,0),(1,1,0),(1,0,1)]
 | .p _ _ _ _=>[(1,0,0),(1,0,1),(1,0,2),(1,0,3),(1,0,4),(1,1,0),(1,1,1),(1,1,2),(1,1,3),(1,2,0),(1,2,1),(1,2,2),(1,3,0),(1,3,1),(1,4,0)]
def Gp4{l f:Int}(h1:0<=l)(h2:l<=1)(h3:0<=r)(h4:0<=f)(h5:r+f<=1):(l,r,f)∈six:=by
 rcases(by omega:l=0\/l=1) with rfl | rfl<;>rcases(by omega:(r=0/\f=0)\/(r=1/\f=0)\/(r=0/\f=1)) with⟨rfl,rfl⟩ | ⟨rfl,rfl⟩ | ⟨rfl,rfl⟩<;>simp[six]
section
variable{ps:List Pl}{us:List Bool}{s s0 x:S3}{S:Sto}{m:Nat}
def Gd.one(g:Gd ps s){i:Nat}{p:Pl}{l f:Int}(e1:ps[i]?=some p)(e2:s.1[i]?=some l)(e3:s.2.1[i]?=some r)(e4:s.2.2[i]?=some f):0<=l/\l<=wat p/\0<=r/\0<=f/\hol p (r+f)=true/\(p=.e->r=0/\f=0):=
 let a:=g.at' i p l r f e1 e2 e3 e4
 ⟨g.nL _ (Ak e2),a.1,g.nR _ (Ak e3),g.nF _ (Ak e4),a.2,fun z=>g.op i r f (by rw[e1,z]) e3 e4⟩
def Hes(g:Gd ps s)(h:∀ p∈ps,p=.e\/p=.c\/∃ de pr,p=.p 1 de 1 pr):s∈QA Ba ps:=by
 refine Gu3 g.lL g.lR g.lF fun i p l r f e1 e2 e3 e4=>?_
 obtain⟨a1,a2,a3,a4,a5,a6⟩:=g.one e1 e2 e3 e4
 rcases h p (Ak e1) with rfl | rfl | ⟨de,pr,rfl⟩
 ·obtain⟨rfl,rfl⟩:=a6 rfl
  simp only[wat] at a2
  rw[show l=0 by omega]
  simp[Ba]
 ·simp only[wat] at a2
  exact Gp4 a1 a2 a3 a4 (by simpa[hol] using a5)
 ·simp only[wat] at a2
  exact Gp4 a1 a2 a3 a4 (by simpa[hol] using a5)
def Het{ro:Int}(g:Gd [.e,.c,.p 1 de ro .non,.c,.e] s)(hr:ro<=4)(hl:s.1=[0,1,1,1,0]):s∈QA Bb [.e,.c,.p 1 de ro .non,.c,.e]:=by
 obtain⟨L,R,F⟩:=s
 subst hl
 refine Gu3 g.lL g.lR g.lF fun i p l r f e1 e2 e3 e4=>?_
 obtain⟨a1,a2,a3,a4,a5,a6⟩:=g.one e1 e2 e3 e4
 have hi:=(Aa.mp e1).1
 simp only[AA,AI] at hi
 have ch:∀ {r f:Int},0<=r->0<=f->r+f<=1->((1:Int),r,f)∈Bb .c:=fun h1 h2 h3=>by
  rename_i r f
  rcases(by omega:(r=0/\f=0)\/(r=1/\f=0)\/(r=0/\f=1)) with⟨rfl,rfl⟩ | ⟨rfl,rfl⟩ | ⟨rfl,rfl⟩<;>simp[Bb]
 rcases(by omega:i=0\/i=1\/i=2\/i=3\/i=4) with rfl | rfl | rfl | rfl | rfl
 ·cases (Ab e1); cases (Ab e2)
  obtain⟨rfl,rfl⟩:=a6 rfl
  simp[Bb]
 ·cases (Ab e1); cases (Ab e2)
  exact ch a3 a4 (by simpa[hol] using a5)
 ·cases (Ab e1); cases (Ab e2)
  have a5:r+f<=ro:=by simpa[hol] using a5
  rcases(by omega:r=0\/r=1\/r=2\/r=3\/r=4) with rfl | rfl | rfl | rfl | rfl<;>rcases(by omega:f=0\/f=1\/f=2\/f=3\/f=4) with rfl | rfl | rfl | rfl | rfl<;>first | (exfalso; omega) | simp[Bb]
 ·cases (Ab e1); cases (Ab e2)
  exact ch a3 a4 (by simpa[hol] using a5)
 ·cases (Ab e1); cases (Ab e2)
  obtain⟨rfl,rfl⟩:=a6 rfl
  simp[Bb]
def Hc3{u:List S3}(hU:∀ x,Rch (stepS ps us) s0 x->x∈u)(hu:u.length<=300):∃ m,Dn ps us s0 m/\m<=300:=by
 have main:∀ n,(∀ j,j<n->j<(bq ps us s0 j).length)\/∃ m,Dn ps us s0 m:=fun n=>by
  induction n with
  | zero=>exact .inl fun j h=>absurd h (Nat.not_lt_zero _)
  | succ n ih=>
   rcases ih with ih | ih
   ·by_cases c:n<(bq ps us s0 n).length
    ·left
     intro j hj
     by_cases e:j=n
     ·rw[e]; exact c
     ·exact ih j (by omega)
    ·have:=(Gck n ih).le
     exact .inr ⟨n,by omega,ih⟩
   ·exact .inr ih
 have few:∀ n,(∀ j,j<n->j<(bq ps us s0 j).length)->(bq ps us s0 n).length<=300:=fun n h=>Am ((Gck n h).few hU) hu
 rcases main 301 with h | ⟨m,d⟩
 ·have:=(Gck 301 h).le
  have:=few 301 h
  omega
 ·exact⟨m,d,by have:=few m d.go; rw[d.len] at this; exact this⟩
abbrev dP(de ro:Int):List Pl:=[.e,.c,.p 1 de ro .non,.c,.e]
noncomputable abbrev dU:List Bool:=[false,true,false,true]
def Gk4(hp:∀ p∈ps,p.ok)(hl:ps.length<=13)(hu:us.length+1=ps.length){L R F:List Int}(sf:StF ps L R F)(b:Bool)(hk:k<us.length){A B C:List Int}{a g:D}(h:Gu [cD ps us,stD L R F,dM b k] S=.ok (.tup [stD A B C,a,g]) S):A=L:=by
 have eu:=Ad hk
 generalize us[k]=u at eu
 have hH:hiI u k<ps.length:=by cases u<;>simp[hiI]<;>omega
 have hL:loI u k<ps.length:=by cases u<;>simp[loI]<;>omega
 have hG:glI b k<ps.length:=by cases b<;>simp[glI]<;>omega
 have hS:stI b k<ps.length:=by cases b<;>simp[stI]<;>omega
 have lM:(sel b R F).length=ps.length:=by
  unfold sel
  split
  ·exact sf.lR
  ·exact sf.lF
 have eH:=Ad hH
 have eL:=Ad hL
 have eG:=Ad hG
 have aH:=Ad (l:=L) (i:=hiI u k) (by rw[sf.lL]; exact hH)
 have aL:=Ad (l:=L) (i:=loI u k) (by rw[sf.lL]; exact hL)
 have aS:=Ad (l:=sel b R F) (i:=stI b k) (by rw[lM]; exact hS)
 have aG:=Ad (l:=sel b R F) (i:=glI b k) (by rw[lM]; exact hG)
 have aR:=Ad (l:=R) (i:=glI b k) (by rw[sf.lR]; exact hG)
 have aF:=Ad (l:=F) (i:=glI b k) (by rw[sf.lF]; exact hG)
 have v:Mv ps us L R F b k u ps[hiI u k] ps[loI u k] ps[glI b k] _ _ _ _ _ _:=⟨eu,eH,eL,aH,aL,hp _ (AJ hH),hp _ (AJ hL),eG,hp _ (AJ hG),aS,aG,aR,aF,hu,by omega⟩
 rw[dd_move v] at h
 unfold Gcj at h
 split at h
 ·cases h
 ·injection h with h
  injection h with h
  simp only[List.cons.injEq] at h
  have h:=h.1
  unfold Gpd at h
  cases b
  ·exact(congrArg (·.1) (Gc4 (a:=(L,_,_)) (b:=(A,B,C)) h)).symm
  ·exact(congrArg (·.1) (Gc4 (a:=(L,_,_)) (b:=(A,B,C)) h)).symm
def Gzq{ro:Int}(hp:∀ p∈dP de ro,p.ok){R F:List Int}(sf:StF (dP de ro) [0,1,1,1,0] R F)(hk:k<5){A B C:List Int}{a g:D}(h:Gu [cD (dP de ro) dU,stD [0,1,1,1,0] R F,ddOf (w,k)] S=.ok (.tup [stD A B C,a,g]) S):A=[0,1,1,1,0]:=by
 have okp:(Pl.p 1 de ro .non).ok:=hp _ (by simp)
 cases w with
 | l=>
  exfalso
  have h:Gu [cD (dP de ro) dU,stD [0,1,1,1,0] R F,.tup [.str "let",.int k]] S=_:=h
  rcases(by omega:k=0\/k=1\/k=2\/k=3\/k=4) with rfl | rfl | rfl | rfl | rfl
  ·rw[dd_let (u:=false) (pH:=.e) (pL:=.c) (lH:=0) (lL:=1) rfl rfl rfl rfl rfl trivial trivial (by simp)] at h
   cases h
  ·rw[dd_let (u:=true) (pH:=.p 1 de ro .non) (pL:=.c) (lH:=1) (lL:=1) rfl rfl rfl rfl rfl okp trivial (by simp)] at h
   cases h
  ·rw[dd_let (u:=false) (pH:=.p 1 de ro .non) (pL:=.c) (lH:=1) (lL:=1) rfl rfl rfl rfl rfl okp trivial (by simp)] at h
   cases h
  ·rw[dd_let (u:=true) (pH:=.e) (pL:=.c) (lH:=0) (lL:=1) rfl rfl rfl rfl rfl trivial trivial (by simp)] at h
   cases h
  ·rw[dd_nogate (by simp)] at h
   cases h
 | f=>
  exfalso
  have h:Gu [cD (dP de ro) dU,stD [0,1,1,1,0] R F,.tup [.str "feed",.int k]] S=_:=h
  rcases(by omega:k=0\/k=1\/k=2\/k=3\/k=4) with rfl | rfl | rfl | rfl | rfl
  ·rw[dd_feed (p:=.e) (l:=0) rfl rfl trivial (by simp)] at h; cases h
  ·rw[dd_feed (p:=.c) (l:=1) rfl rfl trivial (by simp)] at h; cases h
  ·rw[dd_feed (p:=.p 1 de ro .non) (l:=1) rfl rfl okp (by simp)] at h; cases h
  ·rw[dd_feed (p:=.c) (l:=1) rfl rfl trivial (by simp)] at h; cases h
  ·rw[dd_feed (p:=.e) (l:=0) rfl rfl trivial (by simp)] at h; cases h
 | r=>
  by_cases c:k<4
  ·exact Gk4 hp (by simp) rfl sf true c h
  ·exfalso
   have h:Gu [cD (dP de ro) dU,stD [0,1,1,1,0] R F,dM true k] S=_:=h
   rw[dd_mnogate (by simp; omega)] at h
   cases h
 | e=>
  by_cases c:k<4
  ·exact Gk4 hp (by simp) rfl sf false c h
  ·exfalso
   have h:Gu [cD (dP de ro) dU,stD [0,1,1,1,0] R F,dM false k] S=_:=h
   rw[dd_mnogate (by simp; omega)] at h
   cases h
def Gp5{ro:Int}(C:Cn (dP de ro) dU)(g:Gd (dP de ro) s)(hl:s.1=[0,1,1,1,0])(h:x∈stepS (dP de ro) dU s):x.1=[0,1,1,1,0]:=by
 obtain⟨p,hp,rfl⟩:=AH.mp h
 obtain⟨s',pr,ga,e1,e2,_,_⟩:=Gec C g hp
 rw[e2]
 have pl:p.2<5:=Ggu (N:=5) (by decide) (Bc.mp hp).1
 have ro':=(Geb C g).1 p.1 p.2 pl
 have d1:=ro'.did []
 rw[show(p.1,p.2)=p from rfl,e1] at d1
 obtain⟨res,r1,_⟩:=Gkk C.hp C.hl C.hu (g.wt C).toR (g.wt C)
 have rs:=r1 p.1 p.2 pl
 have d2:=rs.did []
 have kd:=rs.kd
 have h1:2<=s.2.1.length/\s.2.1.length<=1000:=by rw[g.lR]; simp
 have h2:2<=s.2.2.length/\s.2.2.length<=1000:=by rw[g.lF]; simp
 rw[show(p.1,p.2)=p from rfl] at d2 kd
 cases hres:res p with
 | no y=>
  rw[hres] at d2 kd
  cases kd with
  | no hy=>
   rw[od_no h1 h2 d2 hy] at d1
   cases d1
 | yes d=>
  rw[hres] at d2 kd
  cases kd with
  | yes hst p0 g0=>
   rename_i A B C' a g'
   have lB:=hst.lR
   have lC:=hst.lF
   have d2:Gu [cD (dP de ro) dU,stD s.1 (wR s.2.1) (wF s.2.2),ddOf p] []=.ok (.tup [stD A B C',.int a,.int g']) []:=d2
   rw[od_yes h1 h2 (by rw[lB]; simp) (by rw[lC]; simp) d2] at d1
   have wt:=g.wt C
   rw[hl] at d2 wt
   have eA:=Gzq C.hp wt (w:=p.1) (k:=p.2) pl d2
   have d1:Out.ok (D.tup [stD A (we B) (we C'),.int a,.int g']) []=.ok (.tup [stE s',.int pr,.int ga]) []:=d1
   injection d1 with d1
   injection d1 with d1
   simp only[List.cons.injEq] at d1
   have:=Gc4 (a:=(A,we B,we C')) (b:=s') d1.1
   rw[<- this]
   exact eA
def Gk5{ro:Int}(C:Cn (dP de ro) dU)(g:Gd (dP de ro) s0)(hl:s0.1=[0,1,1,1,0])(h:Rch (stepS (dP de ro) dU) s0 x):Gd (dP de ro) x/\x.1=[0,1,1,1,0]:=by
 induction h with
 | nil=>exact⟨g,hl⟩
 | cons _ k ih=>exact⟨Gku C ih.1 k,Gp5 C ih.1 ih.2 k⟩
structure Few(ps:List Pl)(us:List Bool)(s0:S3):Prop where
 h:∃ u:List S3,u.length<=300/\∀ x,Rch (stepS ps us) s0 x->x∈u
def Hc4{ro:Int}(C:Cn (dP de ro) dU)(g:Gd (dP de ro) s0)(hr:ro<=4)(hl:s0.1=[0,1,1,1,0]):Few (dP de ro) dU s0:=
 ⟨QA Bb (dP de ro),by show(QA Bb [.e,.c,.p 1 0 1 .non,.c,.e]).length<=300; decide +kernel,fun x h=>Het (Gk5 C g hl h).1 hr (Gk5 C g hl h).2⟩
def Hc5(C:Cn ps us)(g:Gd ps s0)(h:∀ p∈ps,p=.e\/p=.c\/∃ de pr,p=.p 1 de 1 pr)(hn:(QA Ba ps).length<=300):Few ps us s0:=⟨QA Ba ps,hn,fun x r=>Hes (Gjb C g r) h⟩
def Hc6:(QA Ba [.e,.c,.e]).length<=300/\(QA Ba [.e,.c,.c,.e]).length<=300/\(QA Ba [.e,.c,.p 1 de 1 pr,.c,.e]).length<=300:=
 ⟨by decide +kernel,by decide +kernel,by show(QA Ba [.e,.c,.c,.c,.e]).length<=300; decide +kernel⟩
end
section
variable{ps:List Pl}{us:List Bool}{s s0 x:S3}{S S0:Sto}{t:List S3}{n:Nat}
def Gp6(C:Cn ps us)(g:Gd ps x){f:Ev Src}(hf:f U S0=.ok (Wb q (yesL ps us x).length) S)(hq:S[q]?=some ⟨false,(yesL ps us x).map (canD ps us x)⟩)(h6:pkS [none,none] U=[none,none]):
  ∃ S',cmp f [none,none] (gt (gcons (gn 0) (gcons (gn 1) gnil)) 2) ttrue tdE U S0=.ok (.lst S.length) S'/\S'[S.length]?=some ⟨false,(stepS ps us x).map stE⟩/\Ex S S':=by
 have yl:=Gc5 (ps:=ps) (us:=us) (s:=x)
 have h13:=C.hl
 have hu:=C.hu
 obtain⟨U',S',ef,y0,y1,hU,h1,h2⟩:=Qa (nxt:=(Wb q (yesL ps us x).length).nxt) (g:=gt (gcons (gn 0) (gcons (gn 1) gnil)) 2) (b:=cbody S.length ttrue tdE) (l:=(yesL ps us x).map (canD ps us x))
  (fun k U S'=>∃ y0 y1,U=[y0,y1]/\S'[S.length]?=some ⟨false,((stepS ps us x).take k).map stE⟩/\Ex S S')
  (fun k _ S' ⟨_,_,_,_,h⟩=>by
   show(S'[q]?).bind (fun c=>c.xs[k]?)=_
   rw[h.at hq]; rfl)
  (fun k d U S' hd ⟨y0,y1,e,h1,h2⟩=>by
   subst e
   rw[Ar] at hd
   cases hk:(yesL ps us x)[k]? with
   | none=>rw[hk] at hd; cases hd
   | some p'=>
    rw[hk] at hd
    cases (Ab hd)
    have kl:=(Aa.mp hk).1
    have hp':=Ak hk
    obtain⟨s',pr,ga,e1,e2,_,_⟩:=Gec C g hp'
    have ecd:canD ps us x p'=.tup [ddOf p',.tup [stE s',.int pr,.int ga]]:=by unfold canD; rw[e1]; rfl
    have tk:(stepS ps us x).take (k+1)=(stepS ps us x).take k++[s']:=by
     rw[A9]
     congr 1
     unfold stepS
     rw[Ar,hk]
     show[bh (resOf ps us x p')]=_
     rw[e2]
    rw[ecd,tk]
    have ls:S.length<S'.length:=(Aa.mp h1).1
    refine⟨[some (ddOf p'),some (.tup [stE s',.int pr,.int ga])],[some (ddOf p'),some (.tup [stE s',.int pr,.int ga])],S'.set S.length ⟨false,((stepS ps us x).take k).map stE++[stE s']⟩,rfl,Kt (by simp[tdE,p0e]) h1 (by rw[Ah,AT]; omega),_,_,rfl,?_,h2.setq (Ac _)⟩
    rw[Ai ls]
    simp)
  ((yesL ps us x).length+1) 0 [none,none] (S++[⟨false,[]⟩]) (AB _) ⟨none,none,rfl,by simp[Gr],Ex.app⟩ (by simp)
 have tkl:(stepS ps us x).take (((yesL ps us x).map (canD ps us x)).length)=stepS ps us x:=Bw (by simp[stepS])
 rw[tkl] at h1
 exact⟨S',Gak hf (by rw[h6]; exact ef),h1,h2⟩
def Gzr{p:Nat}(hp:S[p]?=some ⟨false,t.map stE⟩)(hq:S[q]?=some ⟨false,[]⟩):neD (.lst p) (.lst q) S=.ok (.bl (decide (t≠[]))) S:=by
 have e1:toP S 40 (.lst p)=some (.list (t.map pdS)):=by
  show(match S[p]? with | some c=>(Jm (toP S 39) c.xs).map PyData.list | none=>none)=_
  rw[hp]
  show(Jm (toP S 39) (t.map stE)).map PyData.list=_
  rw[Gkz (n:=36)]
  rfl
 have e2:toP S 40 (.lst q)=some (.list []):=by
  show(match S[q]? with | some c=>(Jm (toP S 39) c.xs).map PyData.list | none=>none)=_
  rw[hq]; rfl
 simp only[neD,e1,e2]
 have dp:=Gk1 t
 have sh:(SeqAt.shaped (.list (t.map pdS))&&SeqAt.shaped (.list []))=true:=by
  simp[SeqAt.shaped,PyData.canLay0,PyData.canLayAll0,Gk0,PyData.depth,PyData.depthAll]
  omega
 rw[if_pos sh]
 cases t with
 | nil=>rfl
 | cons a t=>simp[PyData.eqv,PyData.eqvAll]
def eP(e:S3×Nat):D:=.tup [stE e.1,.lst e.2]
noncomputable def kys(es:List (S3×Nat)):List S3:=es.map (·.1)
def Ggz{s:S3}:∀ {es:List (S3×Nat)},(dlook (kS s) (es.map eP)).isSome=decide (s∈kys es)
 | []=>rfl
 | x::t=>by
  show(if nkO (stE x.1)=some (kS s) then some (D.lst x.2) else dlook (kS s) (t.map eP)).isSome=_
  rw[Gfi]
  by_cases c:x.1=s
  ·subst c
   simp[kys]
  ·have:¬ some (kS x.1)=some (kS s):=fun z=>c (Ggv (Ab z))
   rw[if_neg this,Ggz (es:=t)]
   have c':¬ s=x.1:=fun z=>c z.symm
   show _=decide (s∈x.1::kys t)
   simp[c']
def Gtt{s:S3}(h:s∉kys es):dlook (kS s) (es.map eP)=none:=by
 have:=Ggz (s:=s) (es:=es)
 rw[decide_eq_false h] at this
 exact BD.mp (by rw[this]; decide)
def Gg0{e:S3×Nat}:∀ {es:List (S3×Nat)},(kys es).Nodup->e∈es->dlook (kS e.1) (es.map eP)=some (.lst e.2)
 | x::t,hn,h=>by
  show(if nkO (stE x.1)=some (kS e.1) then some (D.lst x.2) else dlook (kS e.1) (t.map eP))=_
  rw[Gfi]
  have hn:(x.1::kys t).Nodup:=hn
  obtain⟨h1,h2⟩:=A0.mp hn
  rcases Af.mp h with rfl | h
  ·rw[if_pos rfl]
  ·have c:¬ some (kS x.1)=some (kS e.1):=fun z=>h1 (by rw[Ggv (Ab z)]; exact List.mem_map_of_mem h)
   rw[if_neg c]
   exact Gg0 h2 h
abbrev ro'(ps:List Pl)(us:List Bool)(s0:S3)(f a:Nat)(x5:BJ D):Lc:=[some (cD ps us),some (stE s0),some (.int 300),some (.dct f),some (.lst a),x5]
structure Df(ps:List Pl)(us:List Bool)(s0:S3)(S0 S:Sto)(a:Nat)(es:List (S3×Nat))(st:List S3):Prop where
 cf:S[S0.length]?=some ⟨false,es.map eP⟩
 ca:S[a]?=some ⟨false,st.map stE⟩
 la:S0.length<a
 ce:∀ e∈es,S[e.2]?=some ⟨false,(yesL ps us e.1).map (canD ps us e.1)⟩/\S0.length<e.2/\e.2≠a
 nd:(kys es).Nodup
 rk:∀ x∈kys es,Rch (stepS ps us) s0 x
 rs:∀ x∈st,Rch (stepS ps us) s0 x
 cl:∀ x∈kys es,∀ b∈stepS ps us x,b∈kys es\/b∈st
 hs:s0∈kys es\/s0∈st
 sl:st.length<=17*es.length+1
 ex:Ex S0 S
def Df.nx(h:Df ps us s0 S0 S a es st)(x:Ex S S'):Df ps us s0 S0 S' a es st:=
 ⟨x.at h.cf,x.at h.ca,h.la,fun e he=>⟨x.at (h.ce e he).1,(h.ce e he).2⟩,h.nd,h.rk,h.rs,h.cl,h.hs,h.sl,h.ex.trans x⟩
def Df.few(h:Df ps us s0 S0 S a es st)(F:Few ps us s0):es.length<=300:=by
 obtain⟨u,h1,h2⟩:=F.h
 have:=Gd9 h.nd fun x hx=>h2 x (h.rk x hx)
 unfold kys at this
 rw[Ah] at this
 omega
def Gtu(h:Df ps us s0 S0 S a es st):∃ S',Hq (ro' ps us s0 S0.length a x5) S=.ok (decide (st≠[])) S'/\Ex S S':=by
 have q2:(S++[(⟨false,[]⟩:Cell)])[S.length]?=some ⟨false,[]⟩:=Gr
 have nn:=Gzr (Jn (c:=⟨false,[]⟩) h.ca) q2
 refine⟨S++[⟨false,[]⟩],?_,Ex.app⟩
 unfold ro'
 generalize stE s0=sd0 at *
 generalize cD ps us=cd at *
 simp[Hq,nn]
def Gtv(C:Cn ps us)(g0:Gd ps s0)(F:Few ps us s0)(h:Df ps us s0 S0 S a es (st++[x])):∃ S' a' es' st' y5,Hf (ro' ps us s0 S0.length a x5) S=.nx (ro' ps us s0 S0.length a' y5) S'/\Df ps us s0 S0 S' a' es' st'/\((es'=es/\st'.length=st.length)\/(es'.length=es.length+1/\st'.length<=st.length+17)):=by
 have hx:=h.rs x (by simp)
 have g:=Gjb C g0 hx
 have la:a<S.length:=(Aa.mp h.ca).1
 have lf:S0.length<S.length:=(Aa.mp h.cf).1
 have il:isLst (.lst a) S=true:=by simp[isLst,h.ca]
 have pp:Gix (.lst a) [] S=.ok (stE x) (S.set a ⟨false,st.map stE⟩):=by
  simp[Gix,h.ca]
 have cf1:(S.set a ⟨false,st.map stE⟩)[S0.length]?=some ⟨false,es.map eP⟩:=by rw[Ae (by have:=h.la; omega)]; exact h.cf
 have ca1:(S.set a ⟨false,st.map stE⟩)[a]?=some ⟨false,st.map stE⟩:=Ai la
 have ce1:∀ e∈es,(S.set a ⟨false,st.map stE⟩)[e.2]?=some ⟨false,(yesL ps us e.1).map (canD ps us e.1)⟩:=fun e he=>by rw[Ae (Ne.symm (h.ce e he).2.2)]; exact(h.ce e he).1
 have ex1:Ex S0 (S.set a ⟨false,st.map stE⟩):=h.ex.setq (Bd h.la)
 have p1:sa (mt0 Gix (vr 4)) (gn 5) (ro' ps us s0 S0.length a x5) S=.nx (ro' ps us s0 S0.length a (some (stE x))) (S.set a ⟨false,st.map stE⟩):=by
  unfold ro'
  generalize S.set a ⟨false,st.map stE⟩=S1 at *
  generalize stE s0=sd0 at *
  generalize stE x=sx at *
  generalize cD ps us=cd at *
  simp[mt0,il,pp]
 generalize S.set a ⟨false,st.map stE⟩=S1 at *
 have iq:=Gzf (neg:=true) cf1 (Xy (s:=x))
 rw[Ggz] at iq
 simp only[if_true] at iq
 by_cases c:x∈kys es
 ·refine⟨S1,a,es,st,some (stE x),?_,⟨cf1,ca1,h.la,fun e he=>⟨ce1 e he,(h.ce e he).2⟩,h.nd,h.rk,fun y hy=>h.rs y (by simp[hy]),fun y hy b hb=>?_,?_,by have:=h.sl; simp at this; omega,ex1⟩,.inl ⟨rfl,rfl⟩⟩
  ·unfold Hf
   rw[Jd p1]
   unfold ro'
   generalize stE s0=sd0 at *
   generalize stE x=sx at *
   generalize cD ps us=cd at *
   simp[iq,c]
  ·rcases h.cl y hy b hb with z | z
   ·exact .inl z
   ·rcases Az.mp z with z | z
    ·exact .inr z
    ·rw[AE.mp z]; exact .inl c
  ·rcases h.hs with z | z
   ·exact .inl z
   ·rcases Az.mp z with z | z
    ·exact .inr z
    ·rw[AE.mp z]; exact .inl c
 ·obtain⟨S2,e2,q2,x2⟩:=Gzk (S:=S1) C g
  have nes:=h.few F
  have cf2:=x2.at cf1
  have lf2:S0.length<S2.length:=(Aa.mp cf2).1
  have lf1:S0.length<S1.length:=(Aa.mp cf1).1
  have lS1:a<S1.length:=(Aa.mp ca1).1
  have ds:=Ggw (z:=.lst S1.length) cf2 (Xy (s:=x)) (Gtt c) (by rw[Ah]; omega)
  have e3:es.map eP++[.tup [stE x,.lst S1.length]]=(es++[(x,S1.length)]).map eP:=by simp[eP]
  rw[e3] at ds
  have cf3:(S2.set S0.length ⟨false,(es++[(x,S1.length)]).map eP⟩)[S0.length]?=some ⟨false,(es++[(x,S1.length)]).map eP⟩:=Ai lf2
  have oth:∀ i c,i≠S0.length->S2[i]?=some c->(S2.set S0.length ⟨false,(es++[(x,S1.length)]).map eP⟩)[i]?=some c:=fun i c hi e=>by rw[Ae (Ne.symm hi)]; exact e
  have ex3:Ex S0 (S2.set S0.length ⟨false,(es++[(x,S1.length)]).map eP⟩):=(ex1.trans x2).setq (Ac _)
  have ca3:=oth a _ (by have:=h.la; omega) (x2.at ca1)
  have q3:=oth S1.length _ (by omega) q2
  have ce3:∀ e∈es,(S2.set S0.length ⟨false,(es++[(x,S1.length)]).map eP⟩)[e.2]?=some ⟨false,(yesL ps us e.1).map (canD ps us e.1)⟩:=fun e he=>oth e.2 _ (by have:=(h.ce e he).2.1; omega) (x2.at (ce1 e he))
  have l3:(S2.set S0.length ⟨false,(es++[(x,S1.length)]).map eP⟩).length=S2.length:=by simp
  have p2:ss (cl 2 (Gg Ka) (ac (vr 0) (ac (vr 5) an))) (vr 3) (vr 5) dsetD (ro' ps us s0 S0.length a (some (stE x))) S1=.nx (ro' ps us s0 S0.length a (some (stE x))) (S2.set S0.length ⟨false,(es++[(x,S1.length)]).map eP⟩):=by
   unfold ro'
   generalize S2.set S0.length ⟨false,(es++[(x,S1.length)]).map eP⟩=S3 at *
   generalize stE s0=sd0 at *
   generalize stE x=sx at *
   generalize cD ps us=cd at *
   simp[e2,ds]
  generalize S2.set S0.length ⟨false,(es++[(x,S1.length)]).map eP⟩=S3 at *
  have nd':(kys (es++[(x,S1.length)])).Nodup:=by
   have:kys (es++[(x,S1.length)])=kys es++[x]:=by simp[kys]
   rw[this]
   refine A6.mpr ⟨h.nd,by simp,fun y hy z hz=>?_⟩
   rw[AE.mp hz]
   exact fun e=>c (e▸hy)
  have dg:=Gpv (x:=stE x) cf3 (Xy (s:=x)) (Gg0 (e:=(x,S1.length)) nd' (by simp))
  have sr:=Gbe q3
  simp only[Ah] at sr
  have hsrc:isrc (o2 Yu (vr 3) (vr 5)) (ro' ps us s0 S0.length a (some (stE x))) S3=.ok (Wb S1.length (yesL ps us x).length) S3:=by
   unfold ro'
   generalize stE s0=sd0 at *
   generalize stE x=sx at *
   generalize cD ps us=cd at *
   simp[dg,sr]
  obtain⟨S4,e4,q4,x4⟩:=Gp6 C g hsrc q3 rfl
  have yl:=Gc5 (ps:=ps) (us:=us) (s:=x)
  have h5:=C.h5
  have hu:=C.hu
  have sl:(stepS ps us x).length<=17:=by
   have:(stepS ps us x).length=(yesL ps us x).length:=by simp[stepS]
   omega
  have hsl:=h.sl
  simp only[Aw,AA,AI] at hsl
  have ad:=Gb3 (x4.at ca3) q4 (by rw[Ah,Ah]; omega)
  have q5:(S4++[(⟨false,st.map stE++(stepS ps us x).map stE⟩:Cell)])[S4.length]?=some ⟨false,st.map stE++(stepS ps us x).map stE⟩:=Gr
  have x5':Ex S3 (S4++[⟨false,st.map stE++(stepS ps us x).map stE⟩]):=x4.trans Ex.app
  have p3:sa (o2 Gq (vr 4) (cmp (isrc (o2 Yu (vr 3) (vr 5))) [none,none] (gt (gcons (gn 0) (gcons (gn 1) gnil)) 2) ttrue (o2 DL.getD (vr 1) (cn (.int 0))))) (gn 4) (ro' ps us s0 S0.length a (some (stE x))) S3=.nx (ro' ps us s0 S0.length S4.length (some (stE x))) (S4++[⟨false,st.map stE++(stepS ps us x).map stE⟩]):=by
   rw[Uc,Ye,show vr 4 (ro' ps us s0 S0.length a (some (stE x))) S3=.ok (.lst a) S3 from rfl,Gz,e4,Gz,ad,Hl]
   rfl
  have l4:S3.length<=S4.length:=x4.len
  have l2:S1.length<=S2.length:=x2.len
  have lq3:S1.length<S3.length:=(Aa.mp q3).1
  have lf3:S0.length<S3.length:=(Aa.mp cf3).1
  generalize S4++[(⟨false,st.map stE++(stepS ps us x).map stE⟩:Cell)]=S5 at *
  rw[<- AO] at q5
  have D':Df ps us s0 S0 S5 S4.length (es++[(x,S1.length)]) (st++stepS ps us x):=by
   have kk:kys (es++[(x,S1.length)])=kys es++[x]:=by simp[kys]
   refine⟨x5'.at cf3,q5,by omega,fun e he=>?_,nd',fun y hy=>?_,fun y hy=>?_,fun y hy b hb=>?_,?_,?_,ex3.trans x5'⟩
   ·rcases Az.mp he with he | he
    ·have z:=h.ce e he
     have le:e.2<S3.length:=(Aa.mp (ce3 e he)).1
     exact⟨x5'.at (ce3 e he),z.2.1,by omega⟩
    ·rw[AE.mp he]
     exact⟨x5'.at q3,by have:=h.la; show S0.length<S1.length; omega,by show S1.length≠S4.length; omega⟩
   ·rw[kk] at hy
    rcases Az.mp hy with hy | hy
    ·exact h.rk y hy
    ·rw[AE.mp hy]; exact hx
   ·rcases Az.mp hy with hy | hy
    ·exact h.rs y (by simp[hy])
    ·exact .cons hx hy
   ·rw[kk] at hy ⊢
    rcases Az.mp hy with hy | hy
    ·rcases h.cl y hy b hb with z | z
     ·exact .inl (by simp[z])
     ·rcases Az.mp z with z | z
      ·exact .inr (by simp[z])
      ·exact .inl (by simp[AE.mp z])
    ·rw[AE.mp hy] at hb
     exact .inr (by simp[hb])
   ·rw[kk]
    rcases h.hs with z | z
    ·exact .inl (by simp[z])
    ·rcases Az.mp z with z | z
     ·exact .inr (by simp[z])
     ·exact .inl (by simp[AE.mp z])
   ·simp only[Aw,AA,AI]; omega
  have nes':=D'.few F
  have ld:Ur [.dct S0.length] S5=.ok (.int ((es++[(x,S1.length)]).length:Int)) S5:=by simp[Ur,D'.cf]
  have nl:¬ (300:Int)<((es++[(x,S1.length)]).length:Int):=by omega
  refine⟨S5,S4.length,es++[(x,S1.length)],st++stepS ps us x,some (stE x),?_,D',.inr ⟨by simp,by simp; omega⟩⟩
  unfold Hf
  rw[Jd p1,Hw (S1:=S1) (by
   unfold ro'
   generalize stE s0=sd0 at *
   generalize stE x=sx at *
   generalize cD ps us=cd at *
   simp[iq,c]),Jd p2,Jd p3]
  unfold ro'
  generalize ((es++[(x,S1.length)]).length:Int)=mm at *
  generalize stE s0=sd0 at *
  generalize stE x=sx at *
  generalize cD ps us=cd at *
  simp[ld,nl]
def Gu4(C:Cn ps us)(g0:Gd ps s0)(F:Few ps us s0):∀ (fuel:Nat) (a:Nat) (es:List (S3×Nat)) (st:List S3) (x5:BJ D) (S:Sto),Df ps us s0 S0 S a es st->st.length+(300-es.length)*18<fuel->∃ S' a' es' y5,whN Hq Hf fuel (ro' ps us s0 S0.length a x5) S=.nx (ro' ps us s0 S0.length a' y5) S'/\Df ps us s0 S0 S' a' es' []
 | 0,a,es,st,x5,S,h,hf=>by omega
 | fuel+1,a,es,st,x5,S,h,hf=>by
  obtain⟨S1,et,x1⟩:=Gtu (x5:=x5) h
  have h1:=h.nx x1
  rcases List.eq_nil_or_concat st with rfl | ⟨st',x,rfl⟩
  ·rw[decide_eq_false (by simp)] at et
   exact⟨S1,a,es,x5,by rw[whN,et]; simp only[bindS,AC,if_false],h1⟩
  ·rw[List.concat_eq_append] at et h1 hf
   rw[decide_eq_true (by simp)] at et
   obtain⟨S2,a',es',st'',y5,e2,h2,hm⟩:=Gtv (x5:=x5) C g0 F h1
   have ew:whN Hq Hf (fuel+1) (ro' ps us s0 S0.length a x5) S=whN Hq Hf fuel (ro' ps us s0 S0.length a' y5) S2:=by
    rw[whN,et]; simp only[bindS,if_true,e2]
   rw[ew]
   have n1:=h1.few F
   have n2:=h2.few F
   simp only[Aw,AA,AI] at hf
   refine Gu4 C g0 F fuel a' es' st'' y5 S2 h2 ?_
   rcases hm with⟨rfl,e⟩ | ⟨e,e'⟩
   ·omega
   ·omega
structure Own(ps:List Pl)(us:List Bool)(s0:S3)(S:Sto)(f:Nat)(es:List (S3×Nat)):Prop where
 cf:S[f]?=some ⟨false,es.map eP⟩
 ce:∀ e∈es,S[e.2]?=some ⟨false,(yesL ps us e.1).map (canD ps us e.1)⟩
 nd:(kys es).Nodup
 lo:∀ e∈es,f<e.2
 mem:∀ x,x∈kys es↔Rch (stepS ps us) s0 x
def Own.nx(h:Own ps us s0 S f es)(x:Ex S S'):Own ps us s0 S' f es:=⟨x.at h.cf,fun e he=>x.at (h.ce e he),h.nd,h.lo,h.mem⟩
def Gtw(C:Cn ps us)(g0:Gd ps s0)(F:Few ps us s0):∃ S' es,Kb [cD ps us,stE s0,.int 300] S=.ok (.dct S.length) S'/\Own ps us s0 S' S.length es/\Ex S S':=by
 have q1:(S++[(⟨false,[]⟩:Cell)])[S.length]?=some ⟨false,[]⟩:=Gr
 have x1:Ex S (S++[⟨false,[]⟩]):=Ex.app
 have l1:(S++[(⟨false,[]⟩:Cell)]).length=S.length+1:=by simp
 have s1:sa dnew (gn 3) [some (cD ps us),some (stE s0),some (.int 300),none,none,none] S=.nx [some (cD ps us),some (stE s0),some (.int 300),some (.dct S.length),none,none] (S++[⟨false,[]⟩]):=by simp[dnew]
 generalize S++[(⟨false,[]⟩:Cell)]=S1 at *
 have q2:(S1++[(⟨false,[stE s0]⟩:Cell)])[S1.length]?=some ⟨false,[s0].map stE⟩:=Gr
 have x2:Ex S1 (S1++[⟨false,[stE s0]⟩]):=Ex.app
 have s2:sa (ls (ac (vr 1) an)) (gn 4) [some (cD ps us),some (stE s0),some (.int 300),some (.dct S.length),none,none] S1=.nx (ro' ps us s0 S.length S1.length none) (S1++[⟨false,[stE s0]⟩]):=by
  unfold ro'
  generalize stE s0=sd0 at *
  generalize cD ps us=cd at *
  simp
 generalize S1++[(⟨false,[stE s0]⟩:Cell)]=S2 at *
 have D0:Df ps us s0 S S2 S1.length [] [s0]:=⟨x2.at q1,q2,by omega,fun e he=>(nomatch he),by simp[kys],fun x hx=>(nomatch hx),fun x hx=>by rw[AE.mp hx]; exact .nil,fun x hx=>(nomatch hx),.inr (by simp),by simp,x1.trans x2⟩
 obtain⟨S3,a,es,y5,ew,D3⟩:=Gu4 C g0 F 6000 _ _ _ none S2 D0 (by simp)
 refine⟨S3,es,?_,⟨D3.cf,fun e he=>(D3.ce e he).1,D3.nd,fun e he=>(D3.ce e he).2.1,fun x=>⟨D3.rk x,fun r=>?_⟩⟩,D3.ex⟩
 ·unfold Kb
  rw[Gn]
  simp only[Vd]
  refine(Gc s1).trans ((Gc s2).trans ((Gc ew).trans ?_))
  simp
 ·induction r with
  | nil=>exact D3.hs.elim id fun z=>(nomatch z)
  | cons _ k ih=>exact(D3.cl _ ih _ k).elim id fun z=>(nomatch z)
end
section
variable{ps:List Pl}{us:List Bool}{s s0 x:S3}{S S0:Sto}{t:List S3}{n:Nat}
def Gtx{n:Int}{S:Sto}:Vl [.int n] S=.ok (.bl true) S:=by
 refine(Gn (m:=1) (b:=Ub)).trans ?_
 show fin (Ub [some (.int n)] S)=_
 unfold Ub
 rfl
def Hc7(C:Cn ps us)(g:Gd ps s):Sm s.1/\Sm s.2.1/\Sm s.2.2:=by
 have h13:=C.hl
 have su:=g.sum
 have t2:=Gb8 g.nR
 have t3:=Gb8 g.nF
 refine⟨sm_of (by rw[g.lL]; exact h13) fun i hi=>?_,sm_of (by rw[g.lR]; exact h13) fun i hi=>?_,sm_of (by rw[g.lF]; exact h13) fun i hi=>?_⟩
 ·have n1:=g.nL i hi
  obtain⟨k,hk⟩:=AX.mp hi
  have kl:=(Aa.mp hk).1
  rw[g.lL] at kl
  have e1:=Ad kl
  have e2:s.2.1[k]?=some _:=Ad (by rw[g.lR]; exact kl)
  have e3:s.2.2[k]?=some _:=Ad (by rw[g.lF]; exact kl)
  have h:=(g.at' k _ _ _ _ e1 hk e2 e3).1
  have ok:=C.hp _ (AJ kl)
  generalize ps[k]=pl at *
  cases pl with
  | e=>simp[wat] at h; omega
  | c=>simp[wat] at h; omega
  | p br de ro pr=>
   simp only[wat,Pl.ok] at h ok
   omega
 ·obtain⟨k,hk⟩:=AX.mp hi
  have:=Gd8 g.nR hk
  have:=g.nR i hi
  omega
 ·obtain⟨k,hk⟩:=AX.mp hi
  have:=Gd8 g.nF hk
  have:=g.nF i hi
  omega
def Gk6(C:Cn ps us)(g:Gd ps s):Sho S (stE s) 2475 2:=let ⟨h1,h2,h3⟩:=Hc7 C g; Gza h1 h2 h3
abbrev ri(s0:S3)(w a f:Nat)(x4 x5 x6:BJ D):Lc:=[some (stE s0),some (.dct w),some (.lst a),some (.dct f),x4,x5,x6]
structure Rt(ps:List Pl)(us:List Bool)(s0:S3)(t:List S3)(tl:List D):Prop where
 C:Cn ps us
 T:Tl ps us t tl
 nd:t.Nodup
 hd:t[0]?=some s0
 gd:∀ x∈t,Gd ps x
 len:t.length<=2000
 mem:∀ x,x∈t↔Rch (stepS ps us) s0 x
variable{es:List (S3×Nat)}
def Own.k2{w:Nat}(h:Own ps us s0 S w es)(k:K2 f f S S')(wf:w≠f)(ef:∀ e∈es,e.2≠f):Own ps us s0 S' w es:=⟨k.at h.cf wf wf,fun e he=>k.at (h.ce e he) (ef e he) (ef e he),h.nd,h.lo,h.mem⟩
def Gl7{w:Nat}{A B:D}{x6:BJ D}(h:Rt ps us s0 t tl)(QB:Own ps us s0 S w es)(ha:S[a]?=some ⟨false,tl⟩)(hf:S[f]?=some ⟨false,(t.take k).map sdP⟩)(wf:w≠f)(af:a≠f)(ef:∀ e∈es,e.2≠f)(hk:t[k]?=some s)(tk:Tw ps us t k s A B):
  ∃ S' y6,Jy (ri s0 w a f (some (.int k)) (some (.tup [stE s,A,B])) x6) S=.nx (ri s0 w a f (some (.int k)) (some (.tup [stE s,A,B])) y6) S'/\S'[f]?=some ⟨false,(t.take (k+1)).map sdP⟩/\K2 f f S S':=by
 have C:=h.C
 have kl:=(Aa.mp hk).1
 have sm:=Ak hk
 have gs:=h.gd s sm
 have sk:s∈kys es:=(QB.mem s).mpr ((h.mem s).mp sm)
 have nin:=Gzf (neg:=true) QB.cf (Xy (s:=s))
 rw[Ggz,decide_eq_true sk] at nin
 simp only[if_true,Bool.not_true] at nin
 have g0':∀ S,DL.getD (.tup [stE s,A,B]) (.int 0) S=.ok (stE s) S:=fun S=>p0e
 have g1':∀ S,DL.getD (.tup [stE s,A,B]) (.int 1) S=.ok A S:=fun S=>p1e
 have ln3:∀ S,Hd [.tup [stE s,A,B]] S=.ok (.int 3) S:=fun S=>rfl
 have tks:t.take (k+1)=t.take k++[s]:=by rw[A9,hk]; rfl
 have nm:s∉t.take k:=fun z=>by
  have:=h.nd
  rw[<- List.take_append_drop (k+1) t,tks] at this
  have:=(A6.mp this).1
  exact(A6.mp this).2.2 s z s (AE.mpr rfl) rfl
 have ds:=Ggw (z:=.bl true) hf (Xy (s:=s)) (Gfj nm) (by rw[Ah,AT]; have:=h.len; omega)
 have e2:(t.take k).map sdP++[.tup [stE s,.bl true]]=(t.take (k+1)).map sdP:=by rw[tks]; simp[sdP]
 rw[e2] at ds
 have lf:f<S.length:=(Aa.mp hf).1
 have f1:(S.set f ⟨false,(t.take (k+1)).map sdP⟩)[f]?=some ⟨false,(t.take (k+1)).map sdP⟩:=Ai lf
 have a1:(S.set f ⟨false,(t.take (k+1)).map sdP⟩)[a]?=some ⟨false,tl⟩:=by rw[Ae (Ne.symm af)]; exact ha
 have k1:K2 f f S (S.set f ⟨false,(t.take (k+1)).map sdP⟩):=K2.set (.inl rfl)
 generalize S.set f ⟨false,(t.take (k+1)).map sdP⟩=S1 at *
 have QB1:=QB.k2 k1 wf ef
 have p1:(sif (to (tn (tt (o1 (isD "tuple") (vr 5)))) (to (tb (o2 neD (b1 Hd (ac (vr 5) an)) (cn (.int 3)))) (tb (o2 (Gdp true) (o2 DL.getD (vr 5) (cn (.int 0))) (vr 1))))) (sret (cn (.bl false))) DL.skip) (ri s0 w a f (some (.int k)) (some (.tup [stE s,A,B])) x6) S=.nx (ri s0 w a f (some (.int k)) (some (.tup [stE s,A,B])) x6) S:=by
  unfold ri
  generalize stE s0=sd0 at *
  have it:∀ S,isD "tuple" (.tup [stE s,A,B]) S=.ok (.bl true) S:=fun S=>rfl
  generalize D.tup [stE s,A,B]=od at *
  generalize stE s=sd at *
  simp[it,Vp,ln3,g0',nin]
 have p2:(ss (cn (.bl true)) (vr 3) (o2 DL.getD (vr 5) (cn (.int 0))) dsetD) (ri s0 w a f (some (.int k)) (some (.tup [stE s,A,B])) x6) S=.nx (ri s0 w a f (some (.int k)) (some (.tup [stE s,A,B])) x6) S1:=by
  unfold ri
  generalize stE s0=sd0 at *
  generalize D.tup [stE s,A,B]=od at *
  generalize stE s=sd at *
  simp[g0',ds]
 unfold Jy
 rw[Jd p1,Jd p2]
 rcases tk with⟨k0,hA,hB⟩ | ⟨j,p,sj,hj,tj,hp,hb,hA,hB⟩
 ·subst k0 hA hB
  have es:s=s0:=by have:=h.hd; rw[hk] at this; exact Ab this
  subst es
  obtain⟨r,hr,er⟩:=Sho.repr (S:=S1) (d:=.tup [stE s,.non,.non]) (b:=(2475+2)*3+3) (e:=3) (Ggq (l:=[stE s,.non,.non]) fun d hd=>by
   simp only[Af,AG,or_false] at hd
   rcases hd with rfl | rfl | rfl
   ·exact Gk6 C gs
   ·exact Gj5.mono (by decide) (by decide)
   ·exact Gj5.mono (by decide) (by decide)) (by decide) (by decide)
  have er:=er S1 .refl
  refine⟨S1,x6,?_,f1,k1⟩
  have nr:neD (.str r) (.str r) S1=.ok (.bl false) S1:=by
   have:=Ku (S:=S1) (Js (S:=S1) hr hr)
   rw[this]; simp
  unfold ri
  generalize stE s=sd at *
  simp[er,nr]
 ·subst hA hB
  have hk0:¬ ((k:Int)=0):=by omega
  have j1:¬ ((j:Int)<0):=by omega
  have j2:¬ ((k:Int)<=(j:Int)):=by omega
  obtain⟨a',b',htj,_⟩:=h.T.at' j sj tj
  have gj1:DL.getD (.lst a) (.int (j:Int)) S1=.ok (.tup [stE sj,a',b']) S1:=Jt a1 (Gw (by omega) (by rw[AK]; exact htj))
  have smj:=Ak tj
  have gsj:=h.gd sj smj
  obtain⟨e,he,ee⟩:=AH.mp ((QB.mem sj).mpr ((h.mem sj).mp smj))
  have ee:e.1=sj:=ee
  have q2:=QB1.ce e he
  have dg:=Gpv (x:=stE sj) QB1.cf (Xy (s:=sj)) (by rw[<- ee]; exact Gg0 QB1.nd he)
  rw[ee] at q2
  have sr:=Gbe q2
  simp only[Ah] at sr
  have hsrc:isrc (o2 Yu (vr 1) (o2 DL.getD (o2 DL.getD (vr 2) (o2 DL.getD (vr 5) (cn (.int 1)))) (cn (.int 0)))) (ri s0 w a f (some (.int k)) (some (.tup [stE s,.int (j:Int),ddOf p])) x6) S1=.ok (Wb e.2 (yesL ps us sj).length) S1:=by
   have gp0:DL.getD (.tup [stE sj,a',b']) (.int 0) S1=.ok (stE sj) S1:=p0e
   unfold ri
   generalize D.tup [stE sj,a',b']=oj at *
   generalize D.tup [stE s,.int (j:Int),ddOf p]=od at *
   generalize stE s0=sd0 at *
   generalize stE sj=sdj at *
   simp[g1',gj1,gp0,dg,sr]
  obtain⟨S3,e3,q3,x3⟩:=Gts (sd:=stE s) (a:=.int (j:Int)) C gsj hp hsrc q2 rfl
  rw[hb] at q3
  have l4:(S3++[(⟨false,[stE s]⟩:Cell)]).length=S3.length+1:=by simp
  have q4:(S3++[(⟨false,[stE s]⟩:Cell)])[S3.length]?=some ⟨false,[stE s]⟩:=Gr
  obtain⟨r,hr,er⟩:=Gzd (S:=S3) (l:=[stE s]) (b:=2475) (e:=2) (fun d hd=>by rw[AE.mp hd]; exact Gk6 C gs) (by show(2475+2)*1+3<=1000000; decide) (by decide)
  have er1:=er S3 S1.length false .refl q3
  have er2:=er (S3++[⟨false,[stE s]⟩]) S3.length false Ex.app q4
  have nr:∀ S,neD (.str r) (.str r) S=.ok (.bl false) S:=fun S=>by
   have:=Ku (S:=S) (Js (S:=S) hr hr)
   rw[this]; simp
  refine⟨S3++[⟨false,[stE s]⟩],some (.lst S1.length),?_,Ex.app.at (x3.at f1),k1.trans (x3.trans Ex.app).k2⟩
  have p3:(sif (to (tn (tt (cl 1 (Gg Vl) (ac (o2 DL.getD (vr 5) (cn (.int 1))) an)))) (to (tb (o2 ltD (o2 DL.getD (vr 5) (cn (.int 1))) (cn (.int 0)))) (tb (o2 geD (o2 DL.getD (vr 5) (cn (.int 1))) (vr 4))))) (sret (cn (.bl false))) DL.skip) (ri s0 w a f (some (.int k)) (some (.tup [stE s,.int (j:Int),ddOf p])) x6) S1=.nx (ri s0 w a f (some (.int k)) (some (.tup [stE s,.int (j:Int),ddOf p])) x6) S1:=by
   have wi:=Gtx (n:=(j:Int)) (S:=S1)
   unfold ri
   generalize D.tup [stE s,.int (j:Int),ddOf p]=od at *
   generalize stE s0=sd0 at *
   generalize (j:Int)=jj at *
   generalize (k:Int)=kk' at *
   simp[g1',wi,Vp,j1,j2]
  have p4:(sa (cmp (isrc (o2 Yu (vr 1) (o2 DL.getD (o2 DL.getD (vr 2) (o2 DL.getD (vr 5) (cn (.int 1)))) (cn (.int 0))))) [none,none,some 5] (gt (gcons (gn 0) (gcons (gn 1) gnil)) 2) tdC tdE) (gn 6)) (ri s0 w a f (some (.int k)) (some (.tup [stE s,.int (j:Int),ddOf p])) x6) S1=.nx (ri s0 w a f (some (.int k)) (some (.tup [stE s,.int (j:Int),ddOf p])) (some (.lst S1.length))) S3:=by
   rw[Uc,e3]; rfl
  have p5:(sif (tb (o2 neD (b1 Qt (ac (vr 6) an)) (b1 Qt (ac (ls (ac (o2 DL.getD (vr 5) (cn (.int 0))) an)) an)))) (sret (cn (.bl false))) DL.skip) (ri s0 w a f (some (.int k)) (some (.tup [stE s,.int (j:Int),ddOf p])) (some (.lst S1.length))) S3=.nx (ri s0 w a f (some (.int k)) (some (.tup [stE s,.int (j:Int),ddOf p])) (some (.lst S1.length))) (S3++[⟨false,[stE s]⟩]):=by
   unfold ri
   generalize D.tup [stE s,.int (j:Int),ddOf p]=od at *
   generalize stE s0=sd0 at *
   generalize stE s=sd at *
   simp[er1,g0',er2,nr]
  rw[Hg (S1:=S1) (by
   unfold ri
   generalize D.tup [stE s,.int (j:Int),ddOf p]=od at *
   generalize stE s0=sd0 at *
   generalize (k:Int)=kk' at *
   simp[hk0]),Jd p3,Jd p4]
  exact p5
def Gk7{w:Nat}(h:Rt ps us s0 t tl)(QB:Own ps us s0 S w es):es.length=t.length:=by
 have h1:=Gd9 QB.nd fun x hx=>(h.mem x).mpr ((QB.mem x).mp hx)
 have h2:=Gd9 h.nd fun x hx=>(QB.mem x).mpr ((h.mem x).mp hx)
 unfold kys at h1 h2
 rw[Ah] at h1 h2
 omega
def Gh8{w:Nat}(h:Rt ps us s0 t tl)(QB:Own ps us s0 S w es)(ha:S[a]?=some ⟨false,tl⟩):∃ S',Kc [stE s0,.dct w,.lst a] S=.ok (.bl true) S'/\Ex S S':=by
 have lw:w<S.length:=(Aa.mp QB.cf).1
 have la:a<S.length:=(Aa.mp ha).1
 have le:∀ e∈es,e.2<S.length:=fun e he=>(Aa.mp (QB.ce e he)).1
 have el:=Gk7 h QB
 have q1:(S++[(⟨false,[]⟩:Cell)])[S.length]?=some ⟨false,[]⟩:=Gr
 have x1:Ex S (S++[⟨false,[]⟩]):=Ex.app
 have il:isD "list" (.lst a) S=.ok (.bl true) S:=by simp[isD,isT,ha,tyN]
 have l1:=Zi ha
 have l2:∀ S',S'[w]?=some ⟨false,es.map eP⟩->Ur [.dct w] S'=.ok (.int (t.length:Int)) S':=fun S' q=>by simp[Ur,q,el]
 have l2':=l2 S QB.cf
 simp only[h.T.len] at l1
 have s0':(sif (to (tn (tt (o1 (isD "list") (vr 2)))) (tb (o2 neD (b1 Hd (ac (vr 2) an)) (b1 Ur (ac (vr 1) an))))) (sret (cn (.bl false))) DL.skip) [some (stE s0),some (.dct w),some (.lst a),none,none,none,none] S=.nx [some (stE s0),some (.dct w),some (.lst a),none,none,none,none] S:=by
  generalize stE s0=sd0 at *
  generalize (t.length:Int)=mm at *
  simp[il,Vp,l1,l2']
 have s1:(sa dnew (gn 3)) [some (stE s0),some (.dct w),some (.lst a),none,none,none,none] S=.nx (ri s0 w a S.length none none none) (S++[⟨false,[]⟩]):=by
  simp[dnew]
 have ha1:=x1.at ha
 have QB1:=QB.nx x1
 generalize S++[(⟨false,[]⟩:Cell)]=S1 at *
 have hn:∀ (k:Nat) (S':Sto),S'[a]?=some ⟨false,tl⟩->((S'[a]?).bind fun c=>(c.xs[k]?).map fun d=>D.tup [.int k,d])=((List.range tl.length).map fun k:Nat=>D.tup [.int k,tl.getD k .non])[k]?:=fun k S' q=>by
  rw[q]
  show(tl[k]?).map _=_
  rw[Ar]
  by_cases c:k<tl.length
  ·rw[A8 c,Ad c]
   simp[List.getD,Ad c]
  ·rw[Bv (by omega),Bv (by simp; omega)]; rfl
 obtain⟨U',S',ef,y4,y5,y6,hU,h1,h2⟩:=Qa (nxt:=fun(k:Nat) S=>(S[a]?).bind fun c=>(c.xs[k]?).map fun d=>D.tup [.int k,d]) (g:=gt (gcons (gn 4) (gcons (gn 5) gnil)) 2) (b:=Jy) (l:=(List.range tl.length).map fun k:Nat=>D.tup [.int k,tl.getD k .non])
  (fun k U S'=>∃ y4 y5 y6,U=ri s0 w a S.length y4 y5 y6/\S'[S.length]?=some ⟨false,(t.take k).map sdP⟩/\K2 S.length S.length S1 S')
  (fun k _ S' ⟨_,_,_,_,_,hx⟩=>hn k S' (hx.at ha1 (by omega) (by omega)))
  (fun k d U S' hd ⟨y4,y5,y6,e,h1,h2⟩=>by
   subst e
   have kl:k<tl.length:=by have:=(Aa.mp hd).1; simpa using this
   rw[Ar,A8 kl] at hd
   have hd:D.tup [.int (k:Int),tl.getD k .non]=d:=Ab hd
   have kt:k<t.length:=by rw[<- h.T.len]; exact kl
   have hk:=Ad kt
   generalize t[k]=s at hk
   obtain⟨A,B,hAB,tw⟩:=h.T.at' k s hk
   have eg:tl.getD k .non=.tup [stE s,A,B]:=by simp[List.getD,hAB]
   rw[eg] at hd
   subst hd
   obtain⟨S2,z6,e1,e2,e3⟩:=Gl7 (x6:=y6) h (QB1.k2 h2 (by omega) fun e he=>by have:=le e he; omega) (h2.at ha1 (by omega) (by omega)) h1 (by omega) (by omega) (fun e he=>by have:=le e he; omega) hk tw
   exact⟨ri s0 w a S.length (some (.int k)) (some (.tup [stE s,A,B])) y6,_,S2,rfl,e1,_,_,_,rfl,e2,h2.trans e3⟩)
  (tl.length+1) 0 (ri s0 w a S.length none none none) S1 (AB _) ⟨none,none,none,rfl,q1,K2.refl⟩ (by simp)
 subst hU
 rw[Ah,List.length_range,h.T.len,Bx] at h1
 have lw':=l2 S' (h2.at QB1.cf (by omega) (by omega))
 have ld:Ur [.dct S.length] S'=.ok (.int (t.length:Int)) S':=by simp[Ur,h1]
 refine⟨S',?_,K2.ex x1 h2 (Ac _) (Ac _)⟩
 unfold Kc
 rw[Gn]
 simp only[Ve]
 refine(Gc s0').trans ?_
 refine(Gc s1).trans ?_
 refine(Gc (U':=ri s0 w a S.length y4 y5 y6) (S':=S') ?_).trans ?_
 ·have:Gdi (ac (vr 2) an) (ri s0 w a S.length none none none) S1=.ok ⟨fun(k:Nat) S=>(S[a]?).bind fun c=>(c.xs[k]?).map fun d=>D.tup [.int k,d],tl.length+1⟩ S1:=by
   simp[Gdi,ha1]
  rw[Wj,this,Hl]
  exact ef
 ·unfold ri
  generalize stE s0=sd0 at *
  generalize (t.length:Int)=mm at *
  simp[ld,lw',fin]
end
def Gk8:Prop:=∀ {S:Sto} {t k:Nat},Dp S t k 0->∃ (ps:List Pl) (us:List Bool) (s0:S3) (S':Sto) (n:Nat),Hv [.lst t] S=.ok (.tup [cD ps us,stE s0]) S'/\Cn ps us/\Gd ps s0/\Few ps us s0/\Dp S' t k n/\n<2^50
section
variable{ps:List Pl}{us:List Bool}{s0:S3}{S:Sto}{m:Nat}{es:List (S3×Nat)}
def Dn.rt(C:Cn ps us)(g:Gd ps s0)(d:Dn ps us s0 m)(h:m<=2000)(T:Tl ps us (bq ps us s0 m) tl):Rt ps us s0 (bq ps us s0 m) tl where
 C:=C
 T:=T
 nd:=(Gck m d.go).nd
 hd:=by
  obtain⟨r,e⟩:=Gkv (ps:=ps) (us:=us) (s0:=s0) (n:=0) m
  rw[Nat.zero_add] at e
  rw[e]; rfl
 gd:=fun x hx=>d.gd C g (Ac _) hx
 len:=by rw[d.len]; exact h
 mem:=fun x=>⟨(Gck m d.go).re x,fun r=>by
  have:=Gck m d.go
  rw[show m=(bq ps us s0 m).length from d.len.symm] at this
  rw[d.len] at this
  exact Bf.all (by rw[d.len]; exact this) r⟩
def Dn.pos(d:Dn ps us s0 m):1<=m:=by
 have h:=Gpx (ps:=ps) (us:=us) (s0:=s0) (AB m)
 rw[d.len] at h
 exact h
abbrev rz(q t:Nat)(ps:List Pl)(us:List Bool)(s0:S3)(w m:Nat)(x6 x7:BJ D):Lc:=[some (.lst q),some (.lst t),some (cD ps us),some (stE s0),some (.dct w),some (.int m),x6,x7]
def Gty(C:Cn ps us)(g:Gd ps s0)(d:Dn ps us s0 m)(h:m<=300){t w:Nat}{x7:BJ D}(QB:Own ps us s0 S w es)(l0:0<=lim)(l1:lim<=m):
  ∃ S' y7,Xi (rz q t ps us s0 w m (some (.int lim)) x7) S=.nx (rz q t ps us s0 w m (some (.int lim)) y7) S'/\Ex S S':=by
 by_cases c0:0<lim
 ·by_cases c1:lim<m
  ·obtain⟨S1,e1,x1⟩:=Gzl (S:=S) C g d c1 (by omega) (by omega)
   refine⟨S1,some (.str "toomany"),?_,x1⟩
   have nr:neD (.str "toomany") (.str "toomany") S1=.ok (.bl false) S1:=Hci (stok _)
   unfold rz
   generalize stE s0=sd0 at *
   generalize cD ps us=cd at *
   generalize (m:Int)=mm at *
   simp[Xi,c0,c1,e1,nr]
  ·obtain⟨a,tl,S1,e1,q1,T,x1,la⟩:=Gky (S:=S) (lim:=lim) C g d (by split<;>omega) (by omega)
   obtain⟨S2,e2,x2⟩:=Gh8 (d.rt C g (by omega) T) (QB.nx x1) q1
   have il:isD "str" (.lst a) S1=.ok (.bl false) S1:=by simp[isD,isT,q1,tyN]
   refine⟨S2,some (.lst a),?_,x1.trans x2⟩
   unfold rz
   generalize stE s0=sd0 at *
   generalize cD ps us=cd at *
   generalize (m:Int)=mm at *
   simp[Xi,c0,c1,e1,il,Vp,e2]
 ·refine⟨S,x7,?_,.refl⟩
  unfold rz
  generalize stE s0=sd0 at *
  generalize cD ps us=cd at *
  generalize (m:Int)=mm at *
  simp[Xi,c0]
end
def Gp7(hs:Gk8){fz:Bool}{ns:List Int}(e:S[q]?=some ⟨fz,ns.map D.int⟩):∃ S',Gch [.lst q] S=.ok (.bl true) S':=by
 obtain⟨t,k,S1,f1,d1⟩:=Gs2 e
 obtain⟨ps,us,s0,S2,n,f2,C,g,F,d2,hn⟩:=hs d1
 have b1':(sa (cl 1 (Gg Wh) (ac (vr 0) an)) (gn 1)) [some (.lst q),none,none,none,none,none,none,none] S=.nx [some (.lst q),some (.lst t),none,none,none,none,none,none] S1:=by simp[f1]
 have b2':(sa (cl 1 (Gg Hv) (ac (vr 1) an)) (gt (gcons (gn 2) (gcons (gn 3) gnil)) 2)) [some (.lst q),some (.lst t),none,none,none,none,none,none] S1=.nx [some (.lst q),some (.lst t),some (cD ps us),some (stE s0),none,none,none,none] S2:=by
  generalize stE s0=sd0 at *
  generalize cD ps us=cd at *
  simp[f2,gt,gcons,gnil]
 obtain⟨S3,es,f3,QB,x3⟩:=Gtw (S:=S2) C g F
 obtain⟨m,d,hm⟩:∃ m,Dn ps us s0 m/\m<=300:=let ⟨u,h1,h2⟩:=F.h; Hc3 h2 h1
 obtain⟨tl0,_,_,_,T0,_⟩:=Gpz (S:=S) (lim:=600) C g d (by omega) (by omega)
 have el:es.length=m:=by rw[Gk7 (d.rt C g (by omega) T0) QB,d.len]
 have m1:=d.pos
 have d3:=d2.ext x3
 have b3':(sa (cl 3 (Gg Kb) (ac (vr 2) (ac (vr 3) (ac (cn (.int 300)) an)))) (gn 4)) [some (.lst q),some (.lst t),some (cD ps us),some (stE s0),none,none,none,none] S2=.nx [some (.lst q),some (.lst t),some (cD ps us),some (stE s0),some (.dct S2.length),none,none,none] S3:=by
  generalize stE s0=sd0 at *
  generalize cD ps us=cd at *
  simp[f3]
 have ln:Ur [.dct S2.length] S3=.ok (.int (m:Int)) S3:=by simp[Ur,QB.cf,el]
 obtain⟨r,S4,f4,r0,r1,d4,k4⟩:=Kg (m:=(m:Int)) d3 (by omega) (by omega) (by omega)
 have lw:∀ e∈es,e.2<S3.length:=fun e he=>(Aa.mp (QB.ce e he)).1
 have d2lt:=d2.lt
 have QB4:(∀ e∈es,e.2≠t/\e.2≠k)->Own ps us s0 S4 S2.length es:=fun z=>⟨k4.at QB.cf (by omega) (by omega),fun e he=>k4.at (QB.ce e he) (z e he).1 (z e he).2,QB.nd,QB.lo,QB.mem⟩
 have hz:∀ e∈es,e.2≠t/\e.2≠k:=fun e he=>by have:=QB.lo e he; omega
 have QB5:Own ps us s0 (S4++[(⟨false,[.int m,.int ((m:Int)-1),.int r]⟩:Cell)]) S2.length es:=(QB4 hz).nx Ex.app
 have ql:(S4++[(⟨false,[.int m,.int ((m:Int)-1),.int r]⟩:Cell)])[S4.length]?=some ⟨false,[.int m,.int ((m:Int)-1),.int r]⟩:=Gr
 have bl:ls (ac (vr 5) (ac (o2 Vr (vr 5) (cn (.int 1))) (ac (cl 2 (Gg Gh) (ac (vr 1) (ac (vr 5) an))) an))) (rz q t ps us s0 S2.length m none none) S3=.ok (.lst S4.length) (S4++[⟨false,[.int m,.int ((m:Int)-1),.int r]⟩]):=by
  unfold rz
  generalize stE s0=sd0 at *
  generalize cD ps us=cd at *
  generalize (m:Int)=mm at *
  simp[f4]
 generalize S4++[(⟨false,[.int m,.int ((m:Int)-1),.int r]⟩:Cell)]=S5 at *
 have sr:=Gbe ql
 obtain⟨U',S6,ef,y6,y7,hU,x6⟩:=Qa (nxt:=(Wb S4.length 3).nxt) (g:=gn 6) (b:=Xi) (l:=[.int m,.int ((m:Int)-1),.int r])
  (fun i U S'=>∃ y6 y7,U=rz q t ps us s0 S2.length m y6 y7/\Ex S5 S')
  (fun i _ S' ⟨_,_,_,x⟩=>by
   show(S'[S4.length]?).bind (fun c=>c.xs[i]?)=_
   rw[x.at ql]; rfl)
  (fun i dd U S' hd ⟨y6,y7,e,x⟩=>by
   subst e
   obtain⟨lim,rfl,l0,l1⟩:∃ lim:Int,dd=.int lim/\0<=lim/\lim<=m:=by
    have:=Ak hd
    simp only[Af,AG,or_false] at this
    rcases this with rfl | rfl | rfl
    ·exact⟨m,rfl,by omega,by omega⟩
    ·exact⟨_,rfl,by omega,by omega⟩
    ·exact⟨_,rfl,by omega,by omega⟩
   obtain⟨S7,z7,e7,x7⟩:=Gty (q:=q) (t:=t) (x7:=y7) C g d hm (QB5.nx x) l0 l1
   exact⟨rz q t ps us s0 S2.length m (some (.int lim)) y7,_,S7,rfl,e7,_,_,rfl,x.trans x7⟩)
  4 0 (rz q t ps us s0 S2.length m none none) S5 (AB _) ⟨none,none,rfl,.refl⟩ (by simp)
 subst hU
 obtain⟨a,tl,S8,f8,q8,T,x8,_⟩:=Gky (S:=S6) (lim:=0) C g d (by rw[if_pos rfl]; omega) (by omega)
 obtain⟨S9,f9,x9⟩:=Gh8 (d.rt C g (by omega) T) ((QB5.nx x6).nx x8) q8
 refine⟨S9,?_⟩
 unfold Gch
 rw[Gn]
 simp only[Gov]
 refine(Gc b1').trans ((Gc b2').trans ((Gc b3').trans ?_))
 refine(Gc (U':=rz q t ps us s0 S2.length m none none) (S':=S3) (by simp[ln])).trans ?_
 refine(Gc (U':=rz q t ps us s0 S2.length m y6 y7) (S':=S6) ?_).trans ?_
 ·rw[Wj,Xu,bl,Gz,sr,Hl]
  exact ef
 ·unfold rz
  generalize stE s0=sd0 at *
  generalize cD ps us=cd at *
  generalize (m:Int)=mm at *
  simp[f8,f9,fin]
structure Rr(S:Sto)(t k q x y z:Nat)(s:S3):Prop where
 rw:Rw S q x y z (s.1.map D.int) (s.2.1.map D.int) (s.2.2.map D.int)
 ne:q≠x/\q≠y/\q≠z/\x≠y/\x≠z/\y≠z
 nt:q≠t/\x≠t/\y≠t/\z≠t/\q≠k/\x≠k/\y≠k/\z≠k
structure Ms(SB S:Sto)(t k n q x y z:Nat)(s:S3):Prop where
 d:Dp S t k n
 kp:Kp SB S t k
 rr:Rr S t k q x y z s
 lo:SB.length<=q/\SB.length<=x/\SB.length<=y/\SB.length<=z
noncomputable def up3(i:Nat)(s:S3)(j:Nat)(v:Int):S3:=if i=0 then(s.1.set j v,s.2.1,s.2.2) else if i=1 then(s.1,s.2.1.set j v,s.2.2) else(s.1,s.2.1,s.2.2.set j v)
section
variable{SB S S':Sto}{t k n q x y z:Nat}{s:S3}
def Rr.kp(h:Rr S t k q x y z s)(kp:Kp S S' t k):Rr S' t k q x y z s:=
 ⟨⟨kp.at h.rw.q0 h.nt.1 h.nt.2.2.2.2.1,kp.at h.rw.q1 h.nt.2.1 h.nt.2.2.2.2.2.1,kp.at h.rw.q2 h.nt.2.2.1 h.nt.2.2.2.2.2.2.1,kp.at h.rw.q3 h.nt.2.2.2.1 h.nt.2.2.2.2.2.2.2⟩,h.ne,h.nt⟩
def Ms.ex(h:Ms SB S t k n q x y z s)(e:Ex S S'):Ms SB S' t k n q x y z s:=⟨h.d.ext e,h.kp.trans e.kp,h.rr.kp e.kp,h.lo⟩
def Ms.draw(h:Ms SB S t k n q x y z s){m:Int}(hn:n<2^60)(hm:0<m)(hm2:m<2^200):∃ r S',Gh [.lst t,.int m] S=.ok (.int r) S'/\0<=r/\r<m/\Ms SB S' t k (n+1) q x y z s:=by
 obtain⟨r,S',e,a,b,d,kp⟩:=Kg h.d hn hm hm2
 exact⟨r,S',e,a,b,d,h.kp.trans kp,h.rr.kp kp,h.lo⟩
def Gp8{M:List Int}{c:Nat}(h:S[c]?=some ⟨false,M.map D.int⟩)(h0:0<M.length):Jo (.lst c) (.int (-1)) (.int v) S=some (S.set c ⟨false,(M.set (M.length-1) v).map D.int⟩):=by
 have e:ixN (M.map D.int).length (-1)=some (M.length-1):=by
  simp only[ixN,Ah]
  rw[if_neg (by omega),if_pos (by omega)]
  congr 1
  omega
 unfold Jo
 simp only[h]
 rw[e]
 simp[List.map_set]
def Ms.put(h:Ms SB S t k n q x y z s){i:Nat}(hi:i<3)(l0:j<s.1.length)(l1:j<s.2.1.length)(l2:j<s.2.2.length):∃ c S',DL.getD (.lst q) (.int (i:Int)) S=.ok (.lst c) S/\Jo (.lst c) (.int (j:Int)) (.int v) S=some S'/\(j+1=s.2.1.length->i=1->Jo (.lst c) (.int (-1)) (.int v) S=some S')/\Ms SB S' t k n q x y z (up3 i s j v):=by
 obtain⟨d,kp,⟨⟨r0,r1,r2,r3⟩,ne,nt⟩,lo⟩:=h
 obtain⟨n1,n2,n3,n4,n5,n6⟩:=ne
 obtain⟨t1,t2,t3,t4,t5,t6,t7,t8⟩:=nt
 rcases(by omega:i=0\/i=1\/i=2) with rfl | rfl | rfl
 ·have lx:x<S.length:=(Aa.mp r1).1
  refine⟨x,S.set x ⟨false,(s.1.set j v).map D.int⟩,Jt r0 rfl,Wk r1 (Ad l0),fun _ z=>absurd z (by decide),d.set t2 t6,kp.setq lo.2.1,⟨⟨?_,?_,?_,?_⟩,⟨n1,n2,n3,n4,n5,n6⟩,⟨t1,t2,t3,t4,t5,t6,t7,t8⟩⟩,lo⟩
  ·rw[Ae (Ne.symm n1)]; exact r0
  ·exact Ai lx
  ·rw[Ae n4]; exact r2
  ·rw[Ae n5]; exact r3
 ·have lx:y<S.length:=(Aa.mp r2).1
  refine⟨y,S.set y ⟨false,(s.2.1.set j v).map D.int⟩,Jt r0 rfl,Wk r2 (Ad l1),fun e _=>by rw[Gp8 r2 (by omega),show s.2.1.length-1=j by omega],d.set t3 t7,kp.setq lo.2.2.1,⟨⟨?_,?_,?_,?_⟩,⟨n1,n2,n3,n4,n5,n6⟩,⟨t1,t2,t3,t4,t5,t6,t7,t8⟩⟩,lo⟩
  ·rw[Ae (Ne.symm n2)]; exact r0
  ·rw[Ae (Ne.symm n4)]; exact r1
  ·exact Ai lx
  ·rw[Ae n6]; exact r3
 ·have lx:z<S.length:=(Aa.mp r3).1
  refine⟨z,S.set z ⟨false,(s.2.2.set j v).map D.int⟩,Jt r0 rfl,Wk r3 (Ad l2),fun _ z=>absurd z (by decide),d.set t4 t8,kp.setq lo.2.2.2,⟨⟨?_,?_,?_,?_⟩,⟨n1,n2,n3,n4,n5,n6⟩,⟨t1,t2,t3,t4,t5,t6,t7,t8⟩⟩,lo⟩
  ·rw[Ae (Ne.symm n3)]; exact r0
  ·rw[Ae (Ne.symm n5)]; exact r1
  ·rw[Ae (Ne.symm n6)]; exact r2
  ·exact Ai lx
end
structure Ok3(ps:List Pl)(s:S3):Prop where
 l0:s.1.length=ps.length
 l1:s.2.1.length=ps.length
 l2:s.2.2.length=ps.length
 at':∀ (i:Nat) (p:Pl) (l r f:Int),ps[i]?=some p->s.1[i]?=some l->s.2.1[i]?=some r->s.2.2[i]?=some f->0<=l/\l<=wat p/\0<=r/\r<=3/\0<=f/\f<=3/\hol p (r+f)=true/\(p=.e->r=0/\f=0)
section
variable{ps:List Pl}{us:List Bool}{s:S3}
def Gg1{M:List Int}{i:Nat}{x:Int}(h:(M.set j v)[i]?=some x):(i=j/\x=v)\/(i≠j/\M[i]?=some x):=Zk h
def Ok3.put(h:Ok3 ps s){i:Nat}{p:Pl}{f:Int}(hE:p≠.e)(hp:ps[j]?=some p)(hr:s.2.1[j]?=some r)(hf:s.2.2[j]?=some f)(h0:0<=v)(h1:i=0->v<=wat p)(h2:i≠0->v<=3)(h3:i=1->hol p (v+f)=true)(h4:2<=i->hol p (r+v)=true):Ok3 ps (up3 i s j v):=by
 unfold up3
 split
 ·rename_i e
  refine⟨by simpa using h.l0,h.l1,h.l2,fun a p' l r' f' e1 e2 e3 e4=>?_⟩
  rcases Gg1 e2 with⟨rfl,rfl⟩ | ⟨_,e2⟩
  ·rw[hp] at e1; cases (Ab e1)
   have lj:a<s.1.length:=by rw[h.l0]; exact(Aa.mp hp).1
   have:=h.at' a p _ r' f' hp (Ad lj) e3 e4
   exact⟨h0,h1 e,this.2.2⟩
  ·exact h.at' a p' l r' f' e1 e2 e3 e4
 ·split
  ·rename_i e
   refine⟨h.l0,by simpa using h.l1,h.l2,fun a p' l r' f' e1 e2 e3 e4=>?_⟩
   rcases Gg1 e3 with⟨rfl,rfl⟩ | ⟨_,e3⟩
   ·rw[hp] at e1; cases (Ab e1)
    rw[hf] at e4; cases (Ab e4)
    have:=h.at' a p l r f hp e2 hr hf
    exact⟨this.1,this.2.1,h0,h2 (by omega),this.2.2.2.2.1,this.2.2.2.2.2.1,h3 e,fun z=>absurd z hE⟩
   ·exact h.at' a p' l r' f' e1 e2 e3 e4
  ·refine⟨h.l0,h.l1,by simpa using h.l2,fun a p' l r' f' e1 e2 e3 e4=>?_⟩
   rcases Gg1 e4 with⟨rfl,rfl⟩ | ⟨_,e4⟩
   ·rw[hp] at e1; cases (Ab e1)
    rw[hr] at e3; cases (Ab e3)
    have:=h.at' a p l r f hp e2 hr hf
    exact⟨this.1,this.2.1,this.2.2.1,this.2.2.2.1,h0,h2 (by omega),h4 (by omega),fun z=>absurd z hE⟩
   ·exact h.at' a p' l r' f' e1 e2 e3 e4
def Gjc:∀ {M:List Int},(∀ i∈M,i<=3)->M.sum<=3*(M.length:Int)
 | [],_=>by simp
 | a::M,h=>by
  have h1:=h a Av
  have h2:=Gjc (M:=M) fun i hi=>h i (Au _ hi)
  simp only[AS,AA]
  push_cast
  omega
def Ok3.gd(h:Ok3 ps s)(hl:ps.length<=13):Gd ps s:=by
 have all:∀ i,i<ps.length->∃ p l r f,ps[i]?=some p/\s.1[i]?=some l/\s.2.1[i]?=some r/\s.2.2[i]?=some f:=fun i hi=>⟨_,_,_,_,Ad hi,Ad (by rw[h.l0]; exact hi),Ad (by rw[h.l1]; exact hi),Ad (by rw[h.l2]; exact hi)⟩
 have mL:∀ v∈s.1,0<=v:=fun v hv=>by
  obtain⟨i,hi⟩:=AX.mp hv
  obtain⟨p,l,r,f,e1,e2,e3,e4⟩:=all i (by rw[<- h.l0]; exact(Aa.mp hi).1)
  exact(h.at' i p v r f e1 hi e3 e4).1
 have mR:∀ v∈s.2.1,0<=v/\v<=3:=fun v hv=>by
  obtain⟨i,hi⟩:=AX.mp hv
  obtain⟨p,l,r,f,e1,e2,e3,e4⟩:=all i (by rw[<- h.l1]; exact(Aa.mp hi).1)
  have:=h.at' i p l v f e1 e2 hi e4
  omega
 have mF:∀ v∈s.2.2,0<=v/\v<=3:=fun v hv=>by
  obtain⟨i,hi⟩:=AX.mp hv
  obtain⟨p,l,r,f,e1,e2,e3,e4⟩:=all i (by rw[<- h.l2]; exact(Aa.mp hi).1)
  have:=h.at' i p l r v e1 e2 e3 hi
  omega
 refine⟨⟨h.l0,h.l1,h.l2,mL,fun v hv=>(mR v hv).1,fun v hv=>(mF v hv).1,fun i p l r f e1 e2 e3 e4=>?_,?_⟩,fun i r f e1 e3 e4=>(h.at' i .e _ r f e1 (Ad (by rw[h.l0]; exact(Aa.mp e1).1)) e3 e4).2.2.2.2.2.2.2 rfl⟩
 ·have:=h.at' i p l r f e1 e2 e3 e4
  exact⟨this.2.1,this.2.2.2.2.2.2.1⟩
 ·have a:=Gjc fun v hv=>(mR v hv).2
  have b:=Gjc fun v hv=>(mF v hv).2
  rw[h.l1] at a
  rw[h.l2] at b
  omega
end
def Ms.mono{SB:Sto}{t x y z:Nat}{s:S3}(h:Ms SB S t k n q x y z s)(hm:n<=m):Ms SB S t k m q x y z s:=⟨h.d.mono hm,h.kp,h.rr,h.lo⟩
def LE(e:Ev D)(U:Lc)(S:Sto)(xs:List D):Prop:=∃ a S',e U S=.ok (.lst a) S'/\S'[a]?=some ⟨false,xs⟩/\Ex S S'
def LN(e:Ev D)(U:Lc)(S:Sto)(xs:List D):Prop:=∃ a S',e U S=.ok (.lst a) S'/\S'[a]?=some ⟨false,xs⟩/\Ex S S'/\S.length<=a
section
variable{e1 e2:Ev D}{U:Lc}{S:Sto}{xs ys:List D}{d:D}
def LN.le(h:LN e1 U S xs):LE e1 U S xs:=let ⟨a,S',h1,h2,h3,_⟩:=h; ⟨a,S',h1,h2,h3⟩
def Gp9(h1:LE e1 U S xs)(h2:∀ S',Ex S S'->LE e2 U S' ys)(hl:xs.length+ys.length<=1000000):LN (o2 Gq e1 e2) U S (xs++ys):=by
 obtain⟨a,S1,f1,q1,x1⟩:=h1
 obtain⟨b,S2,f2,q2,x2⟩:=h2 S1 x1
 have ad:=Gb3 (x2.at q1) q2 hl
 exact⟨S2.length,_,by simp[f1,f2,ad],Gr,(x1.trans x2).trans Ex.app,Am x1.len x2.len⟩
def Gk9{f:Ev (List D)}(h:f U S=.ok xs S)(hl:xs.length<=1000000):LN (ls f) U S xs:=⟨S.length,S++[⟨false,xs⟩],by simp[h,hl],Gr,Ex.app,Ac _⟩
def Gzs(h1:LE e1 U S [d])(h2:∀ S',Ex S S'->e2 U S'=.ok (.int n) S')(hn:n<=1000):LN (o2 Kf e1 e2) U S (List.replicate n d):=by
 obtain⟨a,S1,f1,q1,x1⟩:=h1
 have m:=Gsx q1 hn
 exact⟨S1.length,_,by simp[f1,h2 S1 x1,m],Gr,x1.trans Ex.app,x1.len⟩
def le_vr{i:Nat}(h:U[i]?=some (some (.lst a)))(q:S[a]?=some ⟨false,xs⟩):LE (vr i) U S xs:=⟨a,S,by simp[h],q,Ex.refl⟩
end
section
variable{e1 e2 e3:Ev D}{U:Lc}{S:Sto}{t k n:Nat}{A B C:List Int}
def Hc8(d:Dp S t k n)(h1:LN e1 U S (A.map D.int))(h2:∀ S',Ex S S'->LN e2 U S' (B.map D.int))(h3:∀ S',Ex S S'->LN e3 U S' (C.map D.int)):∃ q x y z S',ls (ac e1 (ac e2 (ac e3 an))) U S=.ok (.lst q) S'/\Ms S S' t k n q x y z (A,B,C)/\Ex S S':=by
 obtain⟨x,S1,f1,q1,x1,l1⟩:=h1
 obtain⟨y,S2,f2,q2,x2,l2⟩:=h2 S1 x1
 obtain⟨z,S3,f3,q3,x3,l3⟩:=h3 S2 (x1.trans x2)
 have a1:x<S1.length:=(Aa.mp q1).1
 have a2:y<S2.length:=(Aa.mp q2).1
 have a3:z<S3.length:=(Aa.mp q3).1
 have lt:=d.lt
 have n1:=x1.len
 have n2:=x2.len
 have n3:=x3.len
 have ex:Ex S (S3++[⟨false,[.lst x,.lst y,.lst z]⟩]):=(x1.trans (x2.trans x3)).trans Ex.app
 refine⟨S3.length,x,y,z,S3++[⟨false,[.lst x,.lst y,.lst z]⟩],by simp[f1,f2,f3],⟨d.ext ex,ex.kp,⟨⟨Gr,Jn (x3.at (x2.at q1)),Jn (x3.at q2),Jn q3⟩,by omega,by omega⟩,by omega⟩,ex⟩
def zero_row{e:Ev D}(h:∀ S',Ex S S'->e U S'=.ok (.int N) S')(hN:N<=1000):LN (o2 Kf (ls (ac (cn (.int 0)) an)) e) U S ((List.replicate N (0:Int)).map D.int):=by
 have:=Gzs (e1:=ls (ac (cn (.int 0)) an)) (e2:=e) (U:=U) (S:=S) (d:=.int 0) (n:=N) (LN.le (Gk9 (by simp) (by simp))) h hN
 rw[List.map_replicate]
 exact this
end
def Gzt{f:Ev (List D)}{i:Nat}{j:Int}(h:f U S=.ok [.int i,.int j] S')(hj:j=(i:Int)+n)(hi:i<=1000000)(hn:n<=1000000):ir2 f U S=.ok (rsrc i n) S':=by
 unfold ir2
 rw[h]
 show(if(-1000000000000<=(i:Int)/\(i:Int)<=1000000000000) /\ -1000000000000<=j/\j<=1000000000000 then Out.ok (rsrc i (j-i).toNat) S' else .bad)=_
 rw[if_pos (by omega),show(j-(i:Int)).toNat=n by omega]
def Gzu{i:Nat}:(rsrc i n).nxt k S=((List.range n).map fun k:Nat=>D.int ((i:Int)+k))[k]?:=by
 show(if k<n then some (D.int ((i:Int)+k)) else none)=_
 rw[Ar]
 by_cases c:k<n
 ·rw[if_pos c,A8 c]; rfl
 ·rw[if_neg c,Bv (by simp; omega)]; rfl
section
variable{S:Sto}{t k n:Nat}
noncomputable abbrev ud:List D:=[.str "up",.str "down"]
def Hc9{g:D}(h:g∈ud):g=.str "up"\/g=.str "down":=by simpa using h
def Gzv{f:Ev Src}(d:Dp S t k n)(hn:n<2^50)(hN:N<=100)(hf:f U S=.ok (rsrc 0 N) S)(hp:pkS [none,some 0] U=[none,some (.lst t)]):
  ∃ (gs:List D) (S':Sto),cmp f [none,some 0] (gn 0) ttrue (o2 DL.getD (ls (ac (cn (.str "up")) (ac (cn (.str "down")) an))) (cl 2 (Gg Gh) (ac (vr 1) (ac (cn (.int 2)) an)))) U S=.ok (.lst S.length) S'/\S'[S.length]?=some ⟨false,gs⟩/\gs.length=N/\(∀ g∈gs,g=.str "up"\/g=.str "down")/\Dp S' t k (n+N)/\Kp S S' t k:=by
 have lt:=d.lt
 obtain⟨U',S',ef,y0,gs,rfl,q,l,b,d',kp⟩:=Qa (nxt:=(rsrc 0 N).nxt) (g:=gn 0) (b:=cbody S.length ttrue (o2 DL.getD (ls (ac (cn (.str "up")) (ac (cn (.str "down")) an))) (cl 2 (Gg Gh) (ac (vr 1) (ac (cn (.int 2)) an))))) (l:=(List.range N).map fun k:Nat=>D.int (k:Int))
  (fun i U S'=>∃ (y0:BJ D) (gs:List D),U=[y0,some (.lst t)]/\S'[S.length]?=some ⟨false,gs⟩/\gs.length=i/\(∀ g∈gs,g=.str "up"\/g=.str "down")/\Dp S' t k (n+i)/\Kp S S' t k)
  (fun i _ S _=>Gcz) (fun i dt U S1 hd ⟨y0,gs,e,q,l,b,d1,kp⟩=>by
   obtain⟨hi,rfl⟩:=Gi5 hd
   subst e
   obtain⟨r,g,S2,e1,e2,hg,d2,k2⟩:=Gj2 (m:=2) (xs:=ud) d1 (by omega) rfl (by decide) (by decide)
   have q2:=k2.at q (by omega) (by omega)
   have l2:S.length<S2.length:=(Aa.mp q2).1
   refine⟨[some (.int i),some (.lst t)],[some (.int i),some (.lst t)],S2.set S.length ⟨false,gs++[g]⟩,rfl,Kt (by simp[e1,e2]) q2 (by omega),some (.int i),gs++[g],rfl,Ai l2,by simp[l],fun g' hg'=>?_,(d2.set (by omega) (by omega)).mono (by omega),(kp.trans k2).setq (Ac _)⟩
   rcases Az.mp hg' with h | h
   ·exact b g' h
   ·rw[AE.mp h]; exact Hc9 hg)
  (rsrc 0 N).fuel 0 [none,some (.lst t)] (S++[⟨false,[]⟩]) (AB _) ⟨none,[],rfl,Gr,rfl,by simp,d.app,Kp.app⟩ (by simp[rsrc])
 exact⟨gs,S',Gak hf (by rw[hp]; exact ef),q,by simpa using l,b,by simpa using d',kp⟩
def Gzw{f:Ev Src}(d:Dp S t k n)(hn:n<2^50)(hN:N<=100)(hf:f U S=.ok (rsrc 0 N) S)(hp:pkS [none,some 0] U=[none,some (.lst t)]):
  ∃ (gs:List Int) (S':Sto),cmp f [none,some 0] (gn 0) ttrue (cl 2 (Gg Gh) (ac (vr 1) (ac (cn (.int 4)) an))) U S=.ok (.lst S.length) S'/\S'[S.length]?=some ⟨false,gs.map D.int⟩/\gs.length=N/\Dp S' t k (n+N)/\Kp S S' t k:=by
 have lt:=d.lt
 obtain⟨U',S',ef,y0,gs,rfl,q,l,d',kp⟩:=Qa (nxt:=(rsrc 0 N).nxt) (g:=gn 0) (b:=cbody S.length ttrue (cl 2 (Gg Gh) (ac (vr 1) (ac (cn (.int 4)) an)))) (l:=(List.range N).map fun k:Nat=>D.int (k:Int))
  (fun i U S'=>∃ (y0:BJ D) (gs:List Int),U=[y0,some (.lst t)]/\S'[S.length]?=some ⟨false,gs.map D.int⟩/\gs.length=i/\Dp S' t k (n+i)/\Kp S S' t k)
  (fun i _ S _=>Gcz) (fun i dt U S1 hd ⟨y0,gs,e,q,l,d1,kp⟩=>by
   obtain⟨hi,rfl⟩:=Gi5 hd
   subst e
   obtain⟨r,S2,e1,_,_,d2,k2⟩:=Kg (m:=4) d1 (by omega) (by decide) (by decide)
   have q2:=k2.at q (by omega) (by omega)
   have l2:S.length<S2.length:=(Aa.mp q2).1
   exact⟨[some (.int i),some (.lst t)],[some (.int i),some (.lst t)],S2.set S.length ⟨false,gs.map D.int++[.int r]⟩,rfl,Kt (by simp[e1]) q2 (by simp; omega),some (.int i),gs++[r],rfl,by rw[Ai l2]; simp,by simp[l],(d2.set (by omega) (by omega)).mono (by omega),(kp.trans k2).setq (Ac _)⟩)
  (rsrc 0 N).fuel 0 [none,some (.lst t)] (S++[⟨false,[]⟩]) (AB _) ⟨none,[],rfl,Gr,rfl,d.app,Kp.app⟩ (by simp[rsrc])
 exact⟨gs,S',Gak hf (by rw[hp]; exact ef),q,by simpa using l,by simpa using d',kp⟩
def acL:List (Ev D)->Ev (List D)
 | []=>an
 | e::es=>ac e (acL es)
def Gzx:∀ {es:List (Ev D)} {xss:List (List D)} {S:Sto},es.length=xss.length->(∀ (i:Nat) (e:Ev D) (xs:List D),es[i]?=some e->xss[i]?=some xs->∀ S',Ex S S'->LN e U S' xs)→
  ∃ (as:List Nat) (S':Sto),acL es U S=.ok (as.map D.lst) S'/\as.length=xss.length/\(∀ (i a:Nat) (xs:List D),as[i]?=some a->xss[i]?=some xs->S'[a]?=some ⟨false,xs⟩/\S.length<=a)/\Ex S S':=by
 intro es
 induction es with
 | nil=>intro xss S h _; exact⟨[],S,rfl,h,fun i a xs e=>by simp at e,Ex.refl⟩
 | cons e es ih=>
  intro xss S h hh
  cases xss with
  | nil=>simp at h
  | cons xs xss=>
   obtain⟨a,S1,e1,q1,x1,l1⟩:=hh 0 e xs rfl rfl S Ex.refl
   obtain⟨as,S2,e2,l2,h2,x2⟩:=ih (xss:=xss) (S:=S1) (by simpa using h) fun i e' xs' h1 h2 S' x=>hh (i+1) e' xs' h1 h2 S' (x1.trans x)
   refine⟨a::as,S2,?_,by simp[l2],fun i a' xs' h3 h4=>?_,x1.trans x2⟩
   ·show ac e (acL es) U S=_
    rw[Gfe,e1,Gz,e2,Gz]
    rfl
   ·cases i with
    | zero=>cases (Ab h3); cases (Ab h4); exact⟨x2.at q1,l1⟩
    | succ i=>
     obtain⟨p1,p2⟩:=h2 i a' xs' (by simpa using h3) (by simpa using h4)
     have:=x1.len
     exact⟨p1,by omega⟩
def Gqa{es:List (Ev D)}{xss:List (List D)}{S:Sto}(h:es.length=xss.length)(hl:xss.length<=100)(hh:∀ (i:Nat) (e:Ev D) (xs:List D),es[i]?=some e->xss[i]?=some xs->∀ S',Ex S S'->LN e U S' xs):
  ∃ (q:Nat) (as:List Nat) (S':Sto),ls (acL es) U S=.ok (.lst q) S'/\S'[q]?=some ⟨false,as.map D.lst⟩/\S.length<=q/\as.length=xss.length/\(∀ (i a:Nat) (xs:List D),as[i]?=some a->xss[i]?=some xs->S'[a]?=some ⟨false,xs⟩/\S.length<=a)/\Ex S S':=by
 obtain⟨as,S1,e1,l1,h1,x1⟩:=Gzx h hh
 refine⟨S1.length,as,S1++[⟨false,as.map D.lst⟩],?_,Gr,x1.len,l1,fun i a xs h3 h4=>?_,x1.trans Ex.app⟩
 ·have:(as.map D.lst).length<=1000000:=by rw[Ah]; omega
  rw[Hcd,e1,Gz,if_pos this]
 ·obtain⟨p1,p2⟩:=h1 i a xs h3 h4
  exact⟨Jn p1,p2⟩
end
section
variable{S:Sto}{t k n:Nat}
noncomputable def Gee(a b r f:Int)(w:Int):List Int:=[0,if a=w then 1 else 0,if w=1 then r else f,if b=w then 1 else 0,0]
abbrev rwE:Ev D:=ls (ac (cn (.int 0)) (ac (b1 Yg (ac (o2 eqD (o2 DL.getD (vr 1) (cn (.int 0))) (vr 0)) an)) (ac (o2 DL.getD (ls (ac (vr 2) (ac (vr 3) an))) (o2 Vr (vr 0) (cn (.int 1)))) (ac (b1 Yg (ac (o2 eqD (o2 DL.getD (vr 1) (cn (.int 1))) (vr 0)) an)) (ac (cn (.int 0)) an)))))
def Gtz{a f:Int}{g i:Nat}(hg:S[g]?=some ⟨false,[.int a,.int b]⟩)(hi:i<2):∃ S' c,rwE [some (.int (1+(i:Int))),some (.lst g),some (.int r),some (.int f)] S=.ok (.lst c) S'/\S'[c]?=some ⟨false,(Gee a b r f (1+(i:Int))).map D.int⟩/\Ex S S'/\S.length<=c:=by
 have g0:∀ S',Ex S S'->DL.getD (.lst g) (.int 0) S'=.ok (.int a) S':=fun S' x=>Jt (x.at hg) rfl
 have g1:∀ S',Ex S S'->DL.getD (.lst g) (.int 1) S'=.ok (.int b) S':=fun S' x=>Jt (x.at hg) rfl
 have ga:=g0 S Ex.refl
 have x1:Ex S (S++[⟨false,[.int r,.int f]⟩]):=Ex.app
 have q1:(S++[(⟨false,[.int r,.int f]⟩:Cell)])[S.length]?=some ⟨false,[.int r,.int f]⟩:=Gr
 have gb:=g1 _ x1
 have gc:DL.getD (.lst S.length) (.int (1+(i:Int)-1)) (S++[⟨false,[.int r,.int f]⟩])=.ok (.int (if 1+(i:Int)=1 then r else f)) (S++[⟨false,[.int r,.int f]⟩]):=Jt q1 (by
  rcases(by omega:i=0\/i=1) with rfl | rfl<;>rfl)
 refine⟨(S++[(⟨false,[.int r,.int f]⟩:Cell)])++[⟨false,(Gee a b r f (1+(i:Int))).map D.int⟩],(S++[(⟨false,[.int r,.int f]⟩:Cell)]).length,?_,Gr,x1.trans Ex.app,x1.len⟩
 have s1:ls (ac (vr 2) (ac (vr 3) an)) [some (.int (1+(i:Int))),some (.lst g),some (.int r),some (.int f)] S=.ok (.lst S.length) (S++[⟨false,[.int r,.int f]⟩]):=by simp
 generalize hS:S++[(⟨false,[.int r,.int f]⟩:Cell)]=S1 at *
 generalize 1+(i:Int)=w at *
 simp[rwE,ga,hS,gb,gc,Gfg,Gee]
def Gqb{a f:Int}{g:Nat}(hg:S[g]?=some ⟨false,[.int a,.int b]⟩)(hp:pkS [none,some 5,some 3,some 4] U=[none,some (.lst g),some (.int r),some (.int f)]):
  ∃ S' q c1 c2,cmp (isrc (ls (ac (cn (.int 1)) (ac (cn (.int 2)) an)))) [none,some 5,some 3,some 4] (gn 0) ttrue rwE U S=.ok (.lst q) S'/\S'[q]?=some ⟨false,[.lst c1,.lst c2]⟩/\S'[c1]?=some ⟨false,(Gee a b r f 1).map D.int⟩/\S'[c2]?=some ⟨false,(Gee a b r f 2).map D.int⟩/\Ex S S':=by
 have q1:(S++[(⟨false,[.int 1,.int 2]⟩:Cell)])[S.length]?=some ⟨false,[.int 1,.int 2]⟩:=Gr
 have x1:Ex S (S++[⟨false,[.int 1,.int 2]⟩]):=Ex.app
 have s1:isrc (ls (ac (cn (.int 1)) (ac (cn (.int 2)) an))) U S=.ok (Wb S.length 2) (S++[⟨false,[.int 1,.int 2]⟩]):=by
  have:=Gbe q1
  simp[this]
 have lS:S.length<(S++[(⟨false,[.int 1,.int 2]⟩:Cell)]).length:=by simp
 generalize S++[(⟨false,[.int 1,.int 2]⟩:Cell)]=S1 at *
 have hg1:=x1.at hg
 obtain⟨U',S',ef,y0,cs,hU,h1,h2,h3,h4⟩:=Qa (nxt:=(Wb S.length 2).nxt) (g:=gn 0) (b:=cbody S1.length ttrue rwE) (l:=[.int 1,.int 2])
  (fun i U S'=>∃ (y0:BJ D) (cs:List Nat),U=[y0,some (.lst g),some (.int r),some (.int f)]/\S'[S1.length]?=some ⟨false,cs.map D.lst⟩/\cs.length=i/\(∀ (j c:Nat),cs[j]?=some c->S'[c]?=some ⟨false,(Gee a b r f (1+(j:Int))).map D.int⟩/\S1.length<c)/\Ex S1 S')
  (fun i _ S' ⟨_,_,_,_,_,_,h⟩=>by
   show(S'[S.length]?).bind (fun c=>c.xs[i]?)=_
   rw[h.at q1]; rfl)
  (fun i d U S' hd ⟨y0,cs,e,h1,h2,h3,h4⟩=>by
   subst e
   have hi:i<2:=(Aa.mp hd).1
   have hd:d=.int (1+(i:Int)):=by
    rcases(by omega:i=0\/i=1) with rfl | rfl<;>exact(Ab hd).symm
   subst hd
   obtain⟨S2,c,e2,q2,x2,l2⟩:=Gtz (r:=r) (f:=f) (h4.at hg1) hi
   have la:S1.length<S'.length:=(Aa.mp h1).1
   have la2:S1.length<S2.length:=Aj la x2.len
   refine⟨[some (.int (1+(i:Int))),some (.lst g),some (.int r),some (.int f)],[some (.int (1+(i:Int))),some (.lst g),some (.int r),some (.int f)],S2.set S1.length ⟨false,cs.map D.lst++[.lst c]⟩,rfl,Kt e2 (x2.at h1) (by simp; omega),some (.int (1+(i:Int))),cs++[c],rfl,by rw[Ai la2]; simp,by simp[h2],fun j c' hj=>?_,(h4.trans x2).setq (Ac _)⟩
   by_cases cj:j<cs.length
   ·rw[Aq cj] at hj
    obtain⟨p1,p2⟩:=h3 j c' hj
    exact⟨by rw[Ae (by omega)]; exact x2.at p1,p2⟩
   ·have ej:j=i:=by
     have:=(Aa.mp hj).1
     simp at this; omega
    rw[AU (by omega),ej,h2,Nat.sub_self] at hj
    cases (Ab hj)
    rw[ej]
    exact⟨by rw[Ae (by omega)]; exact q2,by omega⟩)
  3 0 [none,some (.lst g),some (.int r),some (.int f)] (S1++[⟨false,[]⟩]) (AB _) ⟨none,[],rfl,Gr,rfl,fun j c hj=>by simp at hj,Ex.app⟩ (by simp)
 obtain⟨c1,c2,rfl⟩:∃ c1 c2,cs=[c1,c2]:=by
  match cs,h2 with
  | [c1,c2],_=>exact⟨c1,c2,rfl⟩
 exact⟨S',S1.length,c1,c2,Gak s1 (by rw[hp]; exact ef),h1,(h3 0 c1 rfl).1,(h3 1 c2 rfl).1,x1.trans h4⟩
def Gzy{ro:Int}(h1:0<=de)(h2:de<=1)(h3:1<=ro)(h4:ro<=4):Cn (dP de ro) dU:=by
 refine⟨fun p hp=>?_,by simp,rfl,by simp,by simp,rfl,rfl,fun i hi=>?_⟩
 ·simp only[Af,AG,or_false] at hp
  rcases hp with rfl | rfl | rfl | rfl | rfl
  ·trivial
  ·trivial
  ·exact⟨by decide,by decide,h1,h2,h3,h4,.inl rfl⟩
  ·trivial
  ·trivial
 ·have:=(Aa.mp hi).1
  simp only[AA,AI] at this ⊢
  rcases(by omega:i=0\/i=1\/i=2\/i=3\/i=4) with rfl | rfl | rfl | rfl | rfl
  ·exact .inl rfl
  ·cases (Ab hi)
  ·cases (Ab hi)
  ·cases (Ab hi)
  ·exact .inr rfl
def Gzz{ro a f:Int}(r0:0<=r)(f0:0<=f)(rf:r+f<=ro)(hr:ro<=4):Gd (dP de ro) ([0,1,1,1,0],Gee a b r f 1,Gee a b r f 2):=by
 have two:∀ (c:Int),(0<=(if c=1 then(1:Int) else 0)/\0<=(if c=2 then(1:Int) else 0))/\(if c=1 then(1:Int) else 0)+(if c=2 then(1:Int) else 0)<=1:=fun c=>by
  by_cases h1:c=1
  ·subst h1; decide
  ·by_cases h2:c=2
   ·subst h2; decide
   ·simp[h1,h2]
 have ta:=two a
 have tb':=two b
 unfold Gee
 rw[if_pos rfl,if_neg (by decide:¬ (2:Int)=1)]
 generalize (if a=1 then(1:Int) else 0)=a1 at *
 generalize (if a=2 then(1:Int) else 0)=a2 at *
 generalize (if b=1 then(1:Int) else 0)=b1 at *
 generalize (if b=2 then(1:Int) else 0)=b2 at *
 refine⟨⟨rfl,rfl,rfl,by simp,by simp; omega,by simp; omega,fun i p l r' f' e1 e2 e3 e4=>?_,by simp; omega⟩,fun i r' f' e1 e3 e4=>?_⟩
 ·have:=(Aa.mp e1).1
  simp only[AA,AI] at this
  rcases(by omega:i=0\/i=1\/i=2\/i=3\/i=4) with rfl | rfl | rfl | rfl | rfl<;>(cases (Ab e1); cases (Ab e2); cases (Ab e3); cases (Ab e4); simp[wat,hol]; try omega)
 ·have:=(Aa.mp e1).1
  simp only[AA,AI] at this
  rcases(by omega:i=0\/i=1\/i=2\/i=3\/i=4) with rfl | rfl | rfl | rfl | rfl
  ·cases (Ab e3); cases (Ab e4); exact⟨rfl,rfl⟩
  ·cases (Ab e1)
  ·cases (Ab e1)
  ·cases (Ab e1)
  ·cases (Ab e3); cases (Ab e4); exact⟨rfl,rfl⟩
def Gz0(d:Dp S t k n)(hn:n<2^40):∃ (ps:List Pl) (us:List Bool) (s0:S3) (S':Sto) (n':Nat),Ql [.lst t] S=.ok (.tup [cD ps us,stE s0]) S'/\Cn ps us/\Gd ps s0/\Few ps us s0/\Dp S' t k n'/\n'<2^50:=by
 have lt:=d.lt
 obtain⟨r1,S1,e1,a1,b1',d1,k1⟩:=Kg (m:=3) d (by omega) (by decide) (by decide)
 obtain⟨r2,S2,e2,a2,b2,d2,k2⟩:=Kg (m:=2) d1 (by omega) (by decide) (by decide)
 obtain⟨r3,S3,e3,a3,b3,d3,k3⟩:=Kg (m:=2+r1+1) d2 (by omega) (by omega) (by omega)
 obtain⟨r4,S4,e4,a4,b4,d4,k4⟩:=Kg (m:=2+r1-r3+1) d3 (by omega) (by omega) (by omega)
 obtain⟨gs,S5,e5,q5,l5,d5,k5⟩:=Gzw (f:=ir1 (ac (cn (.int 2)) an)) (U:=[some (.lst t),some (.int (2+r1)),some (.tup [.str "pound",.int 1,.int r2,.int (2+r1),.non]),some (.int r3),some (.int r4),none,none,none]) (N:=2) d4 (by omega) (by decide) (Ggn (n:=2) rfl (by decide)) rfl
 obtain⟨a,b,rfl⟩:∃ a b,gs=[a,b]:=by
  match gs,l5 with
  | [a,b],_=>exact⟨a,b,rfl⟩
 obtain⟨S6,q,c1,c2,e6,q6,h1,h2,x6⟩:=Gqb (r:=r3) (f:=r4) (U:=[some (.lst t),some (.int (2+r1)),some (.tup [.str "pound",.int 1,.int r2,.int (2+r1),.non]),some (.int r3),some (.int r4),some (.lst S4.length),none,none]) q5 rfl
 have C:=Gzy (de:=r2) (ro:=2+r1) a2 (by omega) (by omega) (by omega)
 have g:=Gzz (de:=r2) (ro:=2+r1) (a:=a) (b:=b) a3 a4 (by omega) (by omega)
 refine⟨dP r2 (2+r1),dU,_,S6,n+10,?_,C,g,Hc4 C g (by omega) rfl,(d5.ext x6).mono (by omega),by omega⟩
 have g1:DL.getD (.lst q) (.int 0) S6=.ok (.lst c1) S6:=Jt q6 rfl
 have g2:DL.getD (.lst q) (.int 1) S6=.ok (.lst c2) S6:=Jt q6 rfl
 have t1:=Zj h1
 have t2:=Zj h2
 simp only at t1 t2
 unfold Ql
 rw[Gn]
 simp only[Vb]
 refine(Gc (U':=[some (.lst t),some (.int (2+r1)),none,none,none,none,none,none]) (S':=S1) (by simp[e1])).trans ?_
 refine(Gc (U':=[some (.lst t),some (.int (2+r1)),some (.tup [.str "pound",.int 1,.int r2,.int (2+r1),.non]),none,none,none,none,none]) (S':=S2) (by simp[e2])).trans ?_
 refine(Gc (U':=[some (.lst t),some (.int (2+r1)),some (.tup [.str "pound",.int 1,.int r2,.int (2+r1),.non]),some (.int r3),none,none,none,none]) (S':=S3) (by simp[e3])).trans ?_
 refine(Gc (U':=[some (.lst t),some (.int (2+r1)),some (.tup [.str "pound",.int 1,.int r2,.int (2+r1),.non]),some (.int r3),some (.int r4),none,none,none]) (S':=S4) (by simp[e4])).trans ?_
 refine(Gc (U':=[some (.lst t),some (.int (2+r1)),some (.tup [.str "pound",.int 1,.int r2,.int (2+r1),.non]),some (.int r3),some (.int r4),some (.lst S4.length),none,none]) (S':=S5) (by rw[Uc,e5]; rfl)).trans ?_
 refine(Gc (U':=[some (.lst t),some (.int (2+r1)),some (.tup [.str "pound",.int 1,.int r2,.int (2+r1),.non]),some (.int r3),some (.int r4),some (.lst S4.length),some (.lst q),none]) (S':=S6) (by rw[Uc,e6]; rfl)).trans ?_
 generalize Gee a b r3 r4 1=M1 at *
 generalize Gee a b r3 r4 2=M2 at *
 simp[g1,g2,t1,t2,fin]
 exact⟨rfl,rfl⟩
end
section
variable{SB S S':Sto}{t k n q x y z:Nat}{s:S3}{ps:List Pl}{x1 x2 x3 x4 x5 x6 x7 x9 x11:BJ D}
noncomputable abbrev re(t q:Nat)(x1 x2 x3 x4 x5 x6 x7 x8 x9 x11:BJ D):Lc:=[some (.lst t),x1,x2,x3,x4,x5,x6,x7,x8,x9,some (.lst q),x11]
def Gl8{p:Pl}(h:Ms SB S t k n q x y z s)(hn:n<2^58)(o:Ok3 ps s)(hp:ps[j]?=some p)(hE:p≠.e)(hw:1<=wat p)(hh:hol p 1=true)(z1:s.2.1[j]?=some 0)(z2:s.2.2[j]?=some 0):
  ∃ S' y11 s',Hu (re t q x1 x2 x3 x4 x5 x6 x7 (some (.int j)) x9 x11) S=.nx (re t q x1 x2 x3 x4 x5 x6 x7 (some (.int j)) x9 y11) S'/\Ms SB S' t k (n+2) q x y z s'/\Ok3 ps s'/\∀ i,i≠j->s'.2.1[i]?=s.2.1[i]?/\s'.2.2[i]?=s.2.2[i]?:=by
 have jl:=(Aa.mp hp).1
 obtain⟨v,S1,e1,v0,v1,m1⟩:=h.draw (m:=2) (by omega) (by decide) (by decide)
 obtain⟨c,S2,g2,s2,_,m2⟩:=m1.put (i:=0) (j:=j) (v:=v) (by decide) (by rw[o.l0]; exact jl) (by rw[o.l1]; exact jl) (by rw[o.l2]; exact jl)
 have g2:DL.getD (.lst q) (.int 0) S1=.ok (.lst c) S1:=g2
 have o2':Ok3 ps (up3 0 s j v):=o.put hE hp z1 z2 v0 (fun _=>by omega) (fun z=>absurd rfl z) (fun z=>absurd z (by decide)) (fun z=>absurd z (by decide))
 have e0:up3 0 s j v=(s.1.set j v,s.2.1,s.2.2):=rfl
 rw[e0] at m2 o2'
 obtain⟨w,S3,e3,w0,w1,m3⟩:=m2.draw (m:=6) (by omega) (by decide) (by decide)
 have p1:(ss (cl 2 (Gg Gh) (ac (vr 0) (ac (cn (.int 2)) an))) (o2 DL.getD (vr 10) (cn (.int 0))) (vr 8) Jo) (re t q x1 x2 x3 x4 x5 x6 x7 (some (.int j)) x9 x11) S=.nx (re t q x1 x2 x3 x4 x5 x6 x7 (some (.int j)) x9 x11) S2:=by
  simp[e1,g2,s2]
 have p2:(sa (cl 2 (Gg Gh) (ac (vr 0) (ac (cn (.int 6)) an))) (gn 11)) (re t q x1 x2 x3 x4 x5 x6 x7 (some (.int j)) x9 x11) S2=.nx (re t q x1 x2 x3 x4 x5 x6 x7 (some (.int j)) x9 (some (.int w))) S3:=by
  simp[e3]
 unfold Hu
 rw[Jd p1,Jd p2]
 by_cases c2:w<2
 ·obtain⟨i,hi,i1,i3⟩:∃ i:Nat,1+w=(i:Int)/\1<=i/\i<3:=⟨(1+w).toNat,by omega,by omega,by omega⟩
  obtain⟨c4,S4,g4,s4,_,m4⟩:=m3.put (i:=i) (j:=j) (v:=1) i3 (by simpa[o.l0] using jl) (by rw[o.l1]; exact jl) (by rw[o.l2]; exact jl)
  have o4:=o2'.put (i:=i) (v:=1) hE hp z1 z2 (by decide) (fun z=>by omega) (fun _=>by decide) (fun _=>hh) (fun _=>hh)
  refine⟨S4,some (.int w),_,?_,m4.mono (by omega),o4,fun a ha=>?_⟩
  ·rw[Hw (S1:=S3) (by simp[c2])]
   rw[<- hi] at g4
   simp[g4,s4]
  ·unfold up3
   split
   ·omega
   ·split
    ·exact⟨Ae (Ne.symm ha),rfl⟩
    ·exact⟨rfl,Ae (Ne.symm ha)⟩
 ·exact⟨S3,some (.int w),_,by rw[Hg (S1:=S3) (by simp[c2])]; rfl,m3.mono (by omega),o2',fun a ha=>⟨rfl,rfl⟩⟩
end
def lnc{f:Ev (List D)}(h:∀ S',f U S'=.ok xs S')(hl:xs.length<=1000000)(S':Sto):LN (ls f) U S' xs:=Gk9 (h S') hl
section
variable{S:Sto}{t k n:Nat}
noncomputable abbrev ch:D:=.tup [.str "chamber"]
noncomputable abbrev pd(de:Int)(pr:D):D:=.tup [.str "pound",.int 1,.int de,.int 1,pr]
noncomputable abbrev rh(t:Nat)(x1 x2 x3 x4 x5 x6 x7 x9:BJ D):Lc:=[some (.lst t),x1,x2,x3,x4,x5,x6,x7,none,x9,none,none]
noncomputable def mids(de:Int)(pr:D):List (List Pl):=[[.c],[.c,.c],[.c,.p 1 de 1 pr,.c],[.c,.p 1 de 1 pr,.c],[.c,.p 1 de 1 pr,.c],[.c,.c],[.c,.c]]
def Gqc{x1 x2:BJ D}{kd:Nat}(hk:kd<7):
  ∃ (mid:List Pl) (I:Nat) (S':Sto),mid∈mids de pr/\(o2 DL.getD (ls (ac (ls (ac (vr 5) an)) (ac (ls (ac (vr 5) (ac (vr 5) an))) (ac (ls (ac (vr 5) (ac (vr 3) (ac (vr 5) an)))) (ac (ls (ac (vr 5) (ac (vr 3) (ac (vr 5) an)))) (ac (ls (ac (vr 5) (ac (vr 3) (ac (vr 5) an)))) (ac (ls (ac (vr 5) (ac (vr 5) an))) (ac (ls (ac (vr 5) (ac (vr 5) an))) an)))))))) (vr 4)) (rh t x1 x2 (some (pd de pr)) (some (.int kd)) (some ch) none none none) S=.ok (.lst I) S'/\S'[I]?=some ⟨false,mid.map Pl.toD⟩/\S.length<=I/\Ex S S':=by
 obtain⟨q,as,S',e1,q1,lq,la,h1,x⟩:=Gqa (U:=rh t x1 x2 (some (pd de pr)) (some (.int kd)) (some ch) none none none) (es:=[ls (ac (vr 5) an),ls (ac (vr 5) (ac (vr 5) an)),ls (ac (vr 5) (ac (vr 3) (ac (vr 5) an))),ls (ac (vr 5) (ac (vr 3) (ac (vr 5) an))),ls (ac (vr 5) (ac (vr 3) (ac (vr 5) an))),ls (ac (vr 5) (ac (vr 5) an)),ls (ac (vr 5) (ac (vr 5) an))]) (xss:=(mids de pr).map fun m=>m.map Pl.toD) (S:=S) rfl (by simp[mids]) (fun i e xs he hx S' _=>by
  have hi:=(Aa.mp he).1
  simp only[AA,AI] at hi
  rcases(by omega:i=0\/i=1\/i=2\/i=3\/i=4\/i=5\/i=6) with rfl | rfl | rfl | rfl | rfl | rfl | rfl<;>(cases (Ab he); cases (Ab hx); exact lnc (fun _=>rfl) (by simp) S'))
 have la:as.length=7:=la
 have ka:=Ad (show kd<as.length by omega)
 generalize as[kd]=I at ka
 have km:kd<(mids de pr).length:=by show kd<7; exact hk
 have ke:=Ad km
 obtain⟨p1,p2⟩:=h1 kd I _ ka (by rw[Ar,ke]; rfl)
 refine⟨_,I,S',AJ km,?_,p1,p2,x⟩
 have gI:DL.getD (.lst q) (.int (kd:Int)) S'=.ok (.lst I) S':=Jt q1 (Gw (by omega) (by rw[AK,Ar,ka]; rfl))
 rw[Ye]
 have e1:ls (ac (ls (ac (vr 5) an)) (ac (ls (ac (vr 5) (ac (vr 5) an))) (ac (ls (ac (vr 5) (ac (vr 3) (ac (vr 5) an)))) (ac (ls (ac (vr 5) (ac (vr 3) (ac (vr 5) an)))) (ac (ls (ac (vr 5) (ac (vr 3) (ac (vr 5) an)))) (ac (ls (ac (vr 5) (ac (vr 5) an))) (ac (ls (ac (vr 5) (ac (vr 5) an))) an))))))) (rh t x1 x2 (some (pd de pr)) (some (.int kd)) (some ch) none none none) S=_:=e1
 rw[e1,Gz]
 exact gI
noncomputable def gts:List (List Bool):=[[true,false,false,false],[true,false,true,false],[true,true,false,false],[true,true,true,false]]
def Gz1(d:Dp S t k n)(hn:n<2^50)(r0:U[0]?=some (some (.lst t))):
  ∃ (us:List Bool) (G:Nat) (S':Sto),us∈gts/\(o2 DL.getD (ls (ac (ls (ac (cn (.str "up")) (ac (cn (.str "down")) (ac (cn (.str "down")) (ac (cn (.str "down")) an))))) (ac (ls (ac (cn (.str "up")) (ac (cn (.str "down")) (ac (cn (.str "up")) (ac (cn (.str "down")) an))))) (ac (ls (ac (cn (.str "up")) (ac (cn (.str "up")) (ac (cn (.str "down")) (ac (cn (.str "down")) an))))) (ac (ls (ac (cn (.str "up")) (ac (cn (.str "up")) (ac (cn (.str "up")) (ac (cn (.str "down")) an))))) an))))) (cl 2 (Gg Gh) (ac (vr 0) (ac (cn (.int 4)) an)))) U S=.ok (.lst G) S'/\S'[G]?=some ⟨false,us.map gd⟩/\S.length<=G/\Dp S' t k (n+1)/\Kp S S' t k:=by
 have lt:=d.lt
 obtain⟨q,as,S1,e1,q1,lq,la,h1,x⟩:=Gqa (U:=U) (es:=[ls (ac (cn (.str "up")) (ac (cn (.str "down")) (ac (cn (.str "down")) (ac (cn (.str "down")) an)))),ls (ac (cn (.str "up")) (ac (cn (.str "down")) (ac (cn (.str "up")) (ac (cn (.str "down")) an)))),ls (ac (cn (.str "up")) (ac (cn (.str "up")) (ac (cn (.str "down")) (ac (cn (.str "down")) an)))),ls (ac (cn (.str "up")) (ac (cn (.str "up")) (ac (cn (.str "up")) (ac (cn (.str "down")) an))))]) (xss:=gts.map fun m=>m.map gd) (S:=S) rfl (by simp[gts]) (fun i e xs he hx S' _=>by
  have hi:=(Aa.mp he).1
  simp only[AA,AI] at hi
  rcases(by omega:i=0\/i=1\/i=2\/i=3) with rfl | rfl | rfl | rfl<;>(cases (Ab he); cases (Ab hx); exact lnc (fun _=>rfl) (by simp) S'))
 obtain⟨r,S2,e2,r0',r1,d2,k2⟩:=Kg (m:=4) (d.ext x) (by omega) (by decide) (by decide)
 obtain⟨kd,rfl⟩:∃ kd:Nat,r=kd:=⟨r.toNat,by omega⟩
 have la:as.length=4:=la
 have ka:=Ad (show kd<as.length by omega)
 generalize as[kd]=I at ka
 have km:kd<gts.length:=by show kd<4; omega
 obtain⟨p1,p2⟩:=h1 kd I _ ka (by rw[Ar,Ad km]; rfl)
 refine⟨_,I,S2,AJ km,?_,k2.at p1 (by omega) (by omega),p2,d2,x.kp.trans k2⟩
 have gI:DL.getD (.lst q) (.int (kd:Int)) S2=.ok (.lst I) S2:=Jt (k2.at q1 (by omega) (by omega)) (Gw (by omega) (by rw[AK,Ar,ka]; rfl))
 have e1:ls (ac (ls (ac (cn (.str "up")) (ac (cn (.str "down")) (ac (cn (.str "down")) (ac (cn (.str "down")) an))))) (ac (ls (ac (cn (.str "up")) (ac (cn (.str "down")) (ac (cn (.str "up")) (ac (cn (.str "down")) an))))) (ac (ls (ac (cn (.str "up")) (ac (cn (.str "up")) (ac (cn (.str "down")) (ac (cn (.str "down")) an))))) (ac (ls (ac (cn (.str "up")) (ac (cn (.str "up")) (ac (cn (.str "up")) (ac (cn (.str "down")) an))))) an)))) U S=_:=e1
 rw[Ye,e1,Gz]
 have ed:cl 2 (Gg Gh) (ac (vr 0) (ac (cn (.int 4)) an)) U S1=.ok (.int (kd:Int)) S2:=by simp[r0,e2]
 rw[ed,Gz]
 exact gI
end
section
variable{S:Sto}{t k n I:Nat}{x1 x2 x3 x4 x5:BJ D}{mid:List Pl}
def om7:Sv:=(sa (cmp (ir1 (ac (o2 Gq (b1 Hd (ac (vr 6) an)) (cn (.int 1))) an)) [none,some 0] (gn 0) ttrue (o2 DL.getD (ls (ac (cn (.str "up")) (ac (cn (.str "down")) an))) (cl 2 (Gg Gh) (ac (vr 1) (ac (cn (.int 2)) an))))) (gn 7))
def om8:Sv:=(sif (tb (o2 eqD (b1 Hd (ac (vr 6) an)) (cn (.int 3))))
  (sa (o2 DL.getD (ls (ac (ls (ac (cn (.str "up")) (ac (cn (.str "down")) (ac (cn (.str "down")) (ac (cn (.str "down")) an))))) (ac (ls (ac (cn (.str "up")) (ac (cn (.str "down")) (ac (cn (.str "up")) (ac (cn (.str "down")) an))))) (ac (ls (ac (cn (.str "up")) (ac (cn (.str "up")) (ac (cn (.str "down")) (ac (cn (.str "down")) an))))) (ac (ls (ac (cn (.str "up")) (ac (cn (.str "up")) (ac (cn (.str "up")) (ac (cn (.str "down")) an))))) an))))) (cl 2 (Gg Gh) (ac (vr 0) (ac (cn (.int 4)) an)))) (gn 7))
  DL.skip)
def om9:Sv:=(sa (o2 Gq (o2 Gq (ls (ac (tp (ac (cn (.str "end")) an)) an)) (vr 6)) (ls (ac (tp (ac (cn (.str "end")) an)) an))) (gn 9))
def Gz2:Sv:=(sa (ls (ac (o2 Kf (ls (ac (cn (.int 0)) an)) (b1 Hd (ac (vr 9) an))) (ac (o2 Kf (ls (ac (cn (.int 0)) an)) (b1 Hd (ac (vr 9) an))) (ac (o2 Kf (ls (ac (cn (.int 0)) an)) (b1 Hd (ac (vr 9) an))) an)))) (gn 10))
def Gz3:Sv:=(sfor (ir2 (ac (cn (.int 1)) (ac (o2 Vr (b1 Hd (ac (vr 9) an)) (cn (.int 1))) an))) (gn 8) Hu)
def Gqd:Sv:=(sif (ta (tb (o2 eqD (b1 Hd (ac (vr 6) an)) (cn (.int 3)))) (tb (o2 gtD (cl 2 (Gg Gh) (ac (vr 0) (ac (cn (.int 4)) an))) (cn (.int 0)))))
  (ss (cn (.int 0)) (o2 DL.getD (vr 10) (cn (.int 0))) (cn (.int 1)) Jo)
  DL.skip)
def Hda:Sv:=(sret (tp (ac (tp (ac (b1 Kv (ac (vr 9) an)) (ac (b1 Kv (ac (vr 7) an)) an))) (ac (b1 Kv (ac (cmp (isrc (vr 10)) [none] (gn 0) ttrue (b1 Kv (ac (vr 0) an))) an)) an))))
def omR:Sv:=(sq om7 (sq om8 (sq om9 (sq Gz2 (sq Gz3 (sq Gqd Hda))))))
def Gl9(d:Dp S t k n)(hn:n<2^45)(hI:S[I]?=some ⟨false,mid.map Pl.toD⟩)(It:I≠t)(Ik:I≠k)(m3:mid.length<=3):
  ∃ (G:Nat) (us:List Bool) (S':Sto),(∀ X:Sv,fin ((sq om7 (sq om8 X)) (rh t x1 x2 x3 x4 x5 (some (.lst I)) none none) S)=fin (X (rh t x1 x2 x3 x4 x5 (some (.lst I)) (some (.lst G)) none) S'))/\S'[G]?=some ⟨false,us.map gd⟩/\us.length=mid.length+1/\Dp S' t k (n+10)/\Kp S S' t k/\S.length<=G:=by
 have lt:=d.lt
 have ln:=Zi hI
 simp only[Ah] at ln
 obtain⟨gs,S1,e1,q1,l1,b1',d1,k1⟩:=Gzv (f:=ir1 (ac (o2 Gq (b1 Hd (ac (vr 6) an)) (cn (.int 1))) an)) (U:=rh t x1 x2 x3 x4 x5 (some (.lst I)) none none) (N:=mid.length+1) d (by omega) (by omega) (Ggn (n:=mid.length+1) (by simp[ln]) (by omega)) rfl
 have s1:om7 (rh t x1 x2 x3 x4 x5 (some (.lst I)) none none) S=.nx (rh t x1 x2 x3 x4 x5 (some (.lst I)) (some (.lst S.length)) none) S1:=by
  unfold om7
  rw[Uc,e1]; rfl
 have ln1:=Zi (k1.at hI It Ik)
 simp only[Ah] at ln1
 by_cases c:mid.length=3
 ·obtain⟨us,G,S3,hus,e3,q3,lG,d3,k3⟩:=Gz1 (U:=rh t x1 x2 x3 x4 x5 (some (.lst I)) (some (.lst S.length)) none) d1 (by omega) rfl
  refine⟨G,us,S3,fun X=>(Gc s1).trans (Gc ?_),q3,?_,d3.mono (by omega),k1.trans k3,Am k1.len lG⟩
  ·unfold om8
   rw[Hw (S1:=S1) (by
    rw[c] at ln1
    simp[ln1]),Uc,e3]
   rfl
  ·rw[c]
   simp only[gts,Af,AG,or_false] at hus
   rcases hus with rfl | rfl | rfl | rfl<;>rfl
 ·obtain⟨us,rfl⟩:=Ghx b1'
  rw[Ah] at l1
  refine⟨S.length,us,S1,fun X=>(Gc s1).trans (Gc ?_),q1,l1,d1.mono (by omega),k1,Ac _⟩
  unfold om8
  rw[Hg (S1:=S1) (by
   have c':¬ ((mid.length:Int)=3):=by omega
   simp[ln1,c'])]
  rfl
def Gz4{us:List Bool}(hm:∀ p∈mid,p.ok/\p≠.e)(m1:1<=mid.length)(m3:mid.length<=3)(hu:us.length=mid.length+1):Cn (plc mid) us:=by
 have pl:=Gj6 (mid:=mid)
 refine⟨fun p hp=>?_,by omega,by omega,by omega,by omega,rfl,?_,fun i hi=>?_⟩
 ·unfold plc at hp
  rcases Af.mp hp with rfl | hp
  ·trivial
  ·rcases Az.mp hp with hp | hp
   ·exact(hm p hp).1
   ·rw[AE.mp hp]; trivial
 ·rw[pl]
  show(mid++[Pl.e])[mid.length]?=_
  simp
 ·rw[pl]
  rcases Go1 hi with⟨h,_⟩ | ⟨h,_⟩ | ⟨_,_,h⟩
  ·exact .inl h
  ·exact .inr (by omega)
  ·exact absurd rfl (hm _ h).2
def Gma(d:Dp S t k n)(hn:n<2^44)(hde:0<=de/\de<=1)(hpr:pr=.non\/∃ i,pr=.int i/\0<=i/\i<=99)(hmid:mid∈mids de pr)(hI:S[I]?=some ⟨false,mid.map Pl.toD⟩)(It:I≠t)(Ik:I≠k):
  ∃ (ps:List Pl) (us:List Bool) (s0:S3) (S':Sto) (n':Nat),fin (omR (rh t x1 x2 x3 x4 x5 (some (.lst I)) none none) S)=.ok (.tup [cD ps us,stE s0]) S'/\Cn ps us/\Gd ps s0/\Few ps us s0/\Dp S' t k n'/\n'<2^50:=by
 have lt:=d.lt
 have hm:∀ p∈mid,p=.c\/p=.p 1 de 1 pr:=fun p hp=>by
  simp only[mids,Af,AG,or_false] at hmid
  rcases hmid with rfl | rfl | rfl | rfl | rfl | rfl | rfl<;>(simp only[Af,AG,or_false] at hp; rcases hp with rfl | rfl | rfl<;>simp)
 have m13:1<=mid.length/\mid.length<=3:=by
  simp only[mids,Af,AG,or_false] at hmid
  rcases hmid with rfl | rfl | rfl | rfl | rfl | rfl | rfl<;>simp
 obtain⟨m1,m3⟩:=m13
 have hok:∀ p∈mid,p.ok/\p≠.e:=fun p hp=>by
  rcases hm p hp with rfl | rfl
  ·exact⟨trivial,fun z=>nomatch z⟩
  ·exact⟨⟨by decide,by decide,hde.1,hde.2,by decide,by decide,hpr⟩,fun z=>nomatch z⟩
 obtain⟨G,us,S2,hX,qG,lg,d2,k2,lG⟩:=Gl9 (x1:=x1) (x2:=x2) (x3:=x3) (x4:=x4) (x5:=x5) d (by omega) hI It Ik m3
 have hI2:=k2.at hI It Ik
 have C:=Gz4 (us:=us) hok m1 m3 lg
 obtain⟨ps,hps⟩:∃ ps:List Pl,ps=plc mid:=⟨_,rfl⟩
 have pl:ps.length=mid.length+2:=by rw[hps]; exact Gj6
 have few:∀ s0,Gd ps s0->Few ps us s0:=fun s0 g=>by
  rw[hps] at g ⊢
  refine Hc5 C g (fun p hp=>?_) ?_
  ·obtain⟨i,hi⟩:=AX.mp hp
   rcases Go1 hi with⟨_,h⟩ | ⟨_,h⟩ | ⟨_,_,h⟩
   ·exact .inl h
   ·exact .inl h
   ·rcases hm p h with h | h
    ·exact .inr (.inl h)
    ·exact .inr (.inr ⟨de,pr,h⟩)
  ·have la:=Hc6 (de:=de) (pr:=pr)
   simp only[mids,Af,AG,or_false] at hmid
   rcases hmid with rfl | rfl | rfl | rfl | rfl | rfl | rfl
   ·exact la.1
   ·exact la.2.1
   ·exact la.2.2
   ·exact la.2.2
   ·exact la.2.2
   ·exact la.2.1
   ·exact la.2.1
 rw[<- hps] at C
 have pin:∀ i,i<mid.length->∃ p,ps[i+1]?=some p/\p∈mid:=fun i hi=>⟨mid[i],by rw[hps]; show(mid++[Pl.e])[i]?=_; rw[Aq hi,Ad hi],AJ hi⟩
 obtain⟨P,S3,e3,q3,x3',l3⟩:LN (o2 Gq (o2 Gq (ls (ac (tp (ac (cn (.str "end")) an)) an)) (vr 6)) (ls (ac (tp (ac (cn (.str "end")) an)) an))) (rh t x1 x2 x3 x4 x5 (some (.lst I)) (some (.lst G)) none) S2 (([.tup [.str "end"]]++mid.map Pl.toD)++[.tup [.str "end"]]):=
  Gp9 (LN.le (Gp9 (LN.le (Gk9 (by simp) (by simp))) (fun S' x=>le_vr rfl (x.at hI2)) (by simp; omega))) (fun S' x=>LN.le (Gk9 (by simp) (by simp))) (by simp; omega)
 have ep:([D.tup [.str "end"]]++mid.map Pl.toD)++[.tup [.str "end"]]=ps.map Pl.toD:=by rw[hps]; simp[Pl.toD,plc]
 rw[ep] at q3
 have s3:om9 (rh t x1 x2 x3 x4 x5 (some (.lst I)) (some (.lst G)) none) S2=.nx (rh t x1 x2 x3 x4 x5 (some (.lst I)) (some (.lst G)) (some (.lst P))) S3:=by
  unfold om9
  rw[Uc,e3]; rfl
 have d3:Dp S3 t k (n+10):=d2.ext x3'
 have lt3:=d3.lt
 have qG3:=x3'.at qG
 have lnP:∀ S':Sto,S'[P]?=some ⟨false,ps.map Pl.toD⟩->Hd [.lst P] S'=.ok (.int ((mid.length+2:Nat):Int)) S':=fun S' h=>by rw[Zi h]; simp only[Ah,pl]
 have Pt:P≠t:=by have:=k2.len; omega
 have Pk:P≠k:=by have:=k2.len; omega
 have Gt:G≠t:=by omega
 have Gk:G≠k:=by omega
 have zl:∀ S',Ex S3 S'->b1 Hd (ac (vr 9) an) (rh t x1 x2 x3 x4 x5 (some (.lst I)) (some (.lst G)) (some (.lst P))) S'=.ok (.int ((mid.length+2:Nat):Int)) S':=fun S' x=>by
  have:=lnP S' (x.at q3)
  generalize ((mid.length+2:Nat):Int)=nn at *
  simp[this]
 obtain⟨q,x,y,z,S4,e4,M4,x4'⟩:=Hc8 (A:=List.replicate (mid.length+2) 0) (B:=List.replicate (mid.length+2) 0) (C:=List.replicate (mid.length+2) 0) (U:=rh t x1 x2 x3 x4 x5 (some (.lst I)) (some (.lst G)) (some (.lst P))) d3 (zero_row zl (by omega)) (fun S' h=>zero_row (fun S'' h'=>zl S'' (h.trans h')) (by omega)) (fun S' h=>zero_row (fun S'' h'=>zl S'' (h.trans h')) (by omega))
 have s4:Gz2 (rh t x1 x2 x3 x4 x5 (some (.lst I)) (some (.lst G)) (some (.lst P))) S3=.nx (re t q x1 x2 x3 x4 x5 (some (.lst I)) (some (.lst G)) none (some (.lst P)) none) S4:=by
  unfold Gz2
  rw[Uc,e4]; rfl
 have o4:Ok3 ps (List.replicate (mid.length+2) 0,List.replicate (mid.length+2) 0,List.replicate (mid.length+2) 0):=by
  refine⟨by simp[pl],by simp[pl],by simp[pl],fun i p l r f h1 h2 h3 h4=>?_⟩
  have e2:=BC (Ak h2)
  have e3:=BC (Ak h3)
  have e4:=BC (Ak h4)
  subst e2 e3 e4
  have ok:=C.hp p (Ak h1)
  cases p with
  | e=>simp[wat,hol]
  | c=>simp[wat,hol]
  | p br de ro pr=>simp only[Pl.ok] at ok; simp[wat,hol]; omega
 obtain⟨U',S5,ef,y8,y11,s5,hU,M5,o5,_⟩:=Qa (nxt:=(rsrc ((1:Nat):Int) mid.length).nxt) (g:=gn 8) (b:=Hu) (l:=(List.range mid.length).map fun i:Nat=>D.int (((1:Nat):Int)+i))
  (fun i U S'=>∃ y8 y11 s',U=re t q x1 x2 x3 x4 x5 (some (.lst I)) (some (.lst G)) y8 (some (.lst P)) y11/\Ms S3 S' t k (n+10+3*i) q x y z s'/\Ok3 ps s'/\∀ a,i+1<=a->a<mid.length+2->s'.2.1[a]?=some 0/\s'.2.2[a]?=some 0)
  (fun i _ S' _=>Gzu) (fun i dt U S' hd ⟨y8,y11,s',e,M,o,zz⟩=>by
   have hi:i<mid.length:=by have:=(Aa.mp hd).1; simpa using this
   rw[Ar,A8 hi] at hd
   have hd:D.int (((1:Nat):Int)+(i:Int))=dt:=Ab hd
   rw[show((1:Nat):Int)+(i:Int)=((i+1:Nat):Int) by omega] at hd
   subst hd e
   obtain⟨p,hp,hpm⟩:=pin i hi
   obtain⟨z1,z2⟩:=zz (i+1) (Ac _) (by omega)
   have wh:1<=wat p/\hol p 1=true:=by rcases hm p hpm with rfl | rfl<;>exact⟨by simp[wat],by simp[hol]⟩
   obtain⟨S6,w11,s6,e6,M6,o6,k6⟩:=Gl8 (x1:=x1) (x2:=x2) (x3:=x3) (x4:=x4) (x5:=x5) (x6:=some (.lst I)) (x7:=some (.lst G)) (x9:=some (.lst P)) (x11:=y11) M (by omega) o hp (hok p hpm).2 wh.1 wh.2 z1 z2
   refine⟨re t q x1 x2 x3 x4 x5 (some (.lst I)) (some (.lst G)) (some (.int ((i+1:Nat):Int))) (some (.lst P)) y11,_,S6,rfl,e6,_,w11,s6,rfl,M6.mono (by omega),o6,fun a ha hb=>?_⟩
   obtain⟨k61,k62⟩:=k6 a (by omega)
   rw[k61,k62]
   exact zz a (by omega) hb)
  (rsrc ((1:Nat):Int) mid.length).fuel 0 (re t q x1 x2 x3 x4 x5 (some (.lst I)) (some (.lst G)) none (some (.lst P)) none) S4 (AB _) ⟨none,none,_,rfl,M4,o4,fun a _ hb=>by simp[hb]⟩ (by simp[rsrc])
 subst hU
 rw[Ah,List.length_range] at M5
 have s5':Gz3 (re t q x1 x2 x3 x4 x5 (some (.lst I)) (some (.lst G)) none (some (.lst P)) none) S4=.nx (re t q x1 x2 x3 x4 x5 (some (.lst I)) (some (.lst G)) y8 (some (.lst P)) y11) S5:=by
  have hs:ir2 (ac (cn (.int 1)) (ac (o2 Vr (b1 Hd (ac (vr 9) an)) (cn (.int 1))) an)) (re t q x1 x2 x3 x4 x5 (some (.lst I)) (some (.lst G)) none (some (.lst P)) none) S4=.ok (rsrc ((1:Nat):Int) mid.length) S4:=Gzt (i:=1) (n:=mid.length) (j:=((mid.length+2:Nat):Int)-1) (by
   have:=lnP S4 (M4.kp.at q3 Pt Pk)
   generalize ((mid.length+2:Nat):Int)=nn at *
   simp[this]) (by omega) (by omega) (by omega)
  unfold Gz3
  rw[Wj,hs,Hl]
  exact ef
 have lnI:=Zi (M5.kp.at (x3'.at hI2) It Ik)
 simp only[Ah] at lnI
 obtain⟨S6,s6,s6',M6,o6⟩:∃ S6 s6,Gqd (re t q x1 x2 x3 x4 x5 (some (.lst I)) (some (.lst G)) y8 (some (.lst P)) y11) S5=.nx (re t q x1 x2 x3 x4 x5 (some (.lst I)) (some (.lst G)) y8 (some (.lst P)) y11) S6/\Ms S3 S6 t k (n+30) q x y z s6/\Ok3 ps s6:=by
  by_cases c3:mid.length=3
  ·obtain⟨r,S7,e7,r0,r1,M7⟩:=M5.draw (m:=4) (by omega) (by decide) (by decide)
   rw[c3] at lnI
   by_cases cr:0<r
   ·obtain⟨p,hp,hpm⟩:=pin 0 (by omega)
    have l1:1<ps.length:=by omega
    obtain⟨c8,S8,g8,t8,_,M8⟩:=M7.put (i:=0) (j:=1) (v:=0) (by decide) (by rw[o5.l0]; exact l1) (by rw[o5.l1]; exact l1) (by rw[o5.l2]; exact l1)
    have g8:DL.getD (.lst q) (.int 0) S7=.ok (.lst c8) S7:=g8
    have t8:Jo (.lst c8) (.int 1) (.int 0) S7=some S8:=t8
    have wp:0<=wat p:=by rcases hm p hpm with rfl | rfl<;>simp[wat]
    refine⟨S8,_,?_,M8.mono (by omega),o5.put (i:=0) (hok p hpm).2 hp (Ad (by rw[o5.l1]; exact l1)) (Ad (by rw[o5.l2]; exact l1)) (by decide) (fun _=>wp) (fun z=>absurd rfl z) (fun z=>absurd z (by decide)) (fun z=>absurd z (by decide))⟩
    unfold Gqd
    rw[Hw (S1:=S7) (by simp[lnI,e7,cr])]
    simp[g8,t8]
   ·refine⟨S7,s5,?_,M7.mono (by omega),o5⟩
    unfold Gqd
    rw[Hg (S1:=S7) (by simp[lnI,e7,cr])]
    rfl
  ·refine⟨S5,s5,?_,M5.mono (by omega),o5⟩
   unfold Gqd
   have c':¬ ((mid.length:Int)=3):=by omega
   rw[Hg (S1:=S5) (by simp[lnI,c'])]
   rfl
 obtain⟨S13,e13,x13⟩:=Gs8 (f:=vr 10) (U:=re t q x1 x2 x3 x4 x5 (some (.lst I)) (some (.lst G)) y8 (some (.lst P)) y11) M6.rr.rw rfl
 have tp1:=Zj (M6.kp.at q3 Pt Pk)
 have tg1:=Zj (M6.kp.at qG3 Gt Gk)
 simp only at tp1 tg1
 have gd6:=o6.gd (by omega)
 refine⟨ps,us,_,S13,n+30,?_,C,gd6,few _ gd6,(M6.ex x13).d,by omega⟩
 unfold omR
 refine(hX _).trans ((Gc s3).trans ((Gc s4).trans ((Gc s5').trans ((Gc s6').trans ?_))))
 unfold Hda
 generalize b1 Kv (ac (cmp (isrc (vr 10)) [none] (gn 0) ttrue (b1 Kv (ac (vr 0) an))) an)=E at e13 ⊢
 unfold cD
 generalize ps.map Pl.toD=PD at *
 generalize us.map gd=GD at *
 unfold re at e13 ⊢
 simp[tp1,tg1,e13]
 rfl
end
def Gqe:Gk8:=fun{S t k} d=>by
 have lt:=d.lt
 obtain⟨r0,S0,e0,_,_,d0,k0⟩:=Kg (m:=8) d (by decide) (by decide) (by decide)
 by_cases c:r0=0
 ·subst c
  obtain⟨ps,us,s0,S',n',e,h⟩:=Gz0 d0 (by decide)
  refine⟨ps,us,s0,S',n',?_,h⟩
  unfold Hv
  rw[Gn]
  simp only[Jj]
  generalize stE s0=sd0 at *
  generalize cD ps us=cd at *
  refine Hy ?_
  simp[e0,e]
 ·obtain⟨r1,S1,e1,a1,b1',d1,k1⟩:=Kg (m:=3) d0 (by decide) (by decide) (by decide)
  obtain⟨r2,S2,e2,a2,b2,d2,k2⟩:=Kg (m:=99) d1 (by decide) (by decide) (by decide)
  obtain⟨r3,pr,S3,e3,g3,h3,d3,k3⟩:=Gj2 (m:=5) (xs:=[.int (1+r1),.int 0,.non,.int 2,.int (1+r2)]) d2 (by decide) rfl (by simp) (by simp)
  have hpr:pr=.non\/∃ i,pr=.int i/\0<=i/\i<=99:=by
   simp only[Af,AG,or_false] at h3
   rcases h3 with rfl | rfl | rfl | rfl | rfl
   ·exact .inr ⟨_,rfl,by omega,by omega⟩
   ·exact .inr ⟨_,rfl,by omega,by omega⟩
   ·exact .inl rfl
   ·exact .inr ⟨_,rfl,by omega,by omega⟩
   ·exact .inr ⟨_,rfl,by omega,by omega⟩
  obtain⟨de,S4,e4,a4,b4,d4,k4⟩:=Kg (m:=2) d3 (by decide) (by decide) (by decide)
  obtain⟨r5,S5,e5,a5,b5,d5,k5⟩:=Kg (m:=7) d4 (by decide) (by decide) (by decide)
  obtain⟨kd,rfl⟩:∃ kd:Nat,r5=kd:=⟨r5.toNat,by omega⟩
  obtain⟨mid,I,S6,hmid,e6,q6,l6,x6⟩:=Gqc (t:=t) (S:=S5) (de:=de) (pr:=pr) (x1:=some pr) (x2:=some (.int de)) (kd:=kd) (by omega)
  have lt5:=d5.lt
  obtain⟨ps,us,s0,S7,n',e7,h7⟩:=Gma (x1:=some pr) (x2:=some (.int de)) (x3:=some (pd de pr)) (x4:=some (.int kd)) (x5:=some ch) (d5.ext x6) (by decide) ⟨a4,by omega⟩ hpr hmid q6 (by omega) (by omega)
  refine⟨ps,us,s0,S7,n',?_,h7⟩
  unfold Hv
  rw[Gn]
  refine Eq.trans ?_ e7
  show fin (Jj (rh t none none none none none none none none) S)=_
  unfold Jj
  refine(Gc (U':=rh t none none none none none none none none) (S':=S0) (by rw[Hg (S1:=S0) (by simp[e0,c])]; rfl)).trans ?_
  refine(Gc (U':=rh t (some pr) none none none none none none none) (S':=S3) (by simp[e1,e2,e3,g3])).trans ?_
  refine(Gc (U':=rh t (some pr) (some (.int de)) none none none none none none) (S':=S4) (by simp[e4])).trans ?_
  refine(Gc (U':=rh t (some pr) (some (.int de)) (some (pd de pr)) none none none none none) (S':=S4) (by simp)).trans ?_
  refine(Gc (U':=rh t (some pr) (some (.int de)) (some (pd de pr)) (some (.int kd)) none none none none) (S':=S5) (by simp[e5])).trans ?_
  refine(Gc (U':=rh t (some pr) (some (.int de)) (some (pd de pr)) (some (.int kd)) (some ch) none none none) (S':=S5) (by simp)).trans ?_
  refine(Gc (U':=rh t (some pr) (some (.int de)) (some (pd de pr)) (some (.int kd)) (some ch) (some (.lst I)) none none) (S':=S6) (by rw[Uc,e6]; rfl)).trans ?_
  rfl
def Gz5{fz:Bool}{ns:List Int}(e:S[q]?=some ⟨fz,ns.map D.int⟩):∃ S',Gch [.lst q] S=.ok (.bl true) S':=Gp7 Gqe e
def Gh9{K:BE}{mp:List BI}{H:Hp}:∀ ns:List Int,RepL K mp H (ns.map D.int) (ns.map V.int)
 | []=>RepL.nil
 | a::r=>RepL.cons rfl (Gh9 r)
theorem hsp(K:BE)(H:Hp)(a:BI)(ns:List Int)(hl:ns.length<=63)(hO:Only H)(hS:SqL K H a (ns.map V.int)):spD K 1 Gch [.ref a] H (fun v _=>v=.bl true) fun _ _ _=>False:=by
 have hF:SqF K H a (ns.map V.int):=by
  rcases hS with(h | h) | h
  ·rcases hO a with z | ⟨o,xs,z⟩
   ·rw[z] at h; cases h
   ·rw[z] at h; cases h
  ·exact .inl h
  ·exact .inr h
 obtain⟨S',e⟩:=Gz5 (S:=[⟨true,ns.map D.int⟩]) (q:=0) (fz:=true) (ns:=ns) rfl
 refine⟨[a],[.lst 0],[⟨true,ns.map D.int⟩],⟨rfl,fun i b c h1 h2=>?_,fun i j b ci cj h1 h2 h3 h4 h5 h6=>?_⟩,RepL.cons ⟨a,rfl,rfl,fun⟨_,z⟩=>by rcases hO a with y | ⟨o,xs,y⟩<;>(rw[y] at z; cases z)⟩ RepL.nil,rfl,?_⟩
 ·cases i with
  | zero=>
   cases (Ab h1)
   cases (Ab h2)
   exact .inl ⟨ns.map V.int,Gh9 ns,(if_pos rfl).mpr hF⟩
  | succ i=>simp at h1
 ·cases i with
  | zero=>cases (Ab h3); cases h5
  | succ i=>simp at h1
 ·show Gt7 K [a] H (Gch [.lst 0] [⟨true,ns.map D.int⟩]) _
  rw[e]
  exact fun mp' H' v _ _ h=>h
end Law
def PySem.W.Fast.tw12134162724811622282:Nat:=0
def PySem.W.Fast.tw3974559258239330438:Nat:=0
def PySem.W.Fast.tw1535625306550985453:Nat:=0
def PySem.W.Fast.tw6520552556005901757:Nat:=0
def PySem.W.Fast.tw10756468687748723975:Nat:=0
def PySem.W.Fast.tw16618612611876642361:Nat:=0
def PySem.W.Fast.tw14388294828844951029:Nat:=0
def PySem.W.Fast.tw9516964549297582548:Nat:=0
def PySem.W.Fast.tw16415583242608035757:Nat:=0
def PySem.W.Fast.tw11815257041005502437:Nat:=0
def PySem.W.Fast.tw15551688542357805836:Nat:=0
def PySem.W.Fast.tw10811482498672815775:Nat:=0
def PySem.W.Fast.tw8020001914685239046:Nat:=0
def PySem.W.Fast.tw13839464035432280181:Nat:=0
def PySem.W.Fast.tw16643366510176686879:Nat:=0
def PySem.W.Fast.tw14179577647080629821:Nat:=0
def PySem.W.Fast.tw14275825661113984330:Nat:=0
def PySem.W.Fast.tw10978972371727373998:Nat:=0
def PySem.W.Fast.tw10736202139914222140:Nat:=0
def PySem.W.Fast.tw8741999220541163078:Nat:=0
def PySem.W.Fast.tw8279643720881673836:Nat:=0
def PySem.W.Fast.tw12936276425775109678:Nat:=0
def PySem.W.Fast.tw9238794262131957458:Nat:=0
def PySem.W.Fast.tw18027035880085596233:Nat:=0
def PySem.W.Fast.tw1075916509549709563:Nat:=0
def PySem.W.Fast.tw14746296707618360190:Nat:=0
def PySem.W.Fast.tw9237120962664026830:Nat:=0
def PySem.W.Fast.tw3991673747177414552:Nat:=0
def PySem.W.Fast.tw9350271089134961555:Nat:=0
def PySem.W.Fast.tw3589419455702208471:Nat:=0
def PySem.W.Fast.tw11334744228756527730:Nat:=0
def PySem.W.Fast.tw1055746552879686935:Nat:=0
def PySem.W.Fast.tw9284797779684361823:Nat:=0
def PySem.W.Fast.tw9475636477097022301:Nat:=0
def PySem.W.Fast.tw2006628111873088287:Nat:=0
def PySem.W.Fast.tw4729779840857256013:Nat:=0
def PySem.W.Fast.tw15533420100613664780:Nat:=0
def PySem.W.Fast.tw15781515219495197836:Nat:=0
def PySem.W.Fast.tw4327090278026192303:Nat:=0
def PySem.W.Fast.tw3047067225411774628:Nat:=0
def PySem.W.Fast.tw11293139717768278202:Nat:=0
def PySem.W.Fast.tw7768396821563246242:Nat:=0
def PySem.W.Fast.tw8322970134128080302:Nat:=0
def PySem.W.Fast.tw1063180645466134954:Nat:=0
def PySem.W.Fast.tw12011401267412852024:Nat:=0
def PySem.W.Fast.tw18234198350754691512:Nat:=0
def PySem.W.Fast.tw7441834063420378983:Nat:=0
def PySem.W.Fast.tw803967972528485909:Nat:=0
def PySem.W.Fast.tw14257944260427150031:Nat:=0
def PySem.W.Fast.tw8989919121641544812:Nat:=0
def PySem.W.Fast.tw10325485920599097067:Nat:=0
def PySem.W.Fast.tw16169257313532453297:Nat:=0
def PySem.W.Fast.tw5351289611592370579:Nat:=0
def PySem.W.Fast.tw8742660820183143127:Nat:=0
def PySem.W.Fast.tw17197735314577623521:Nat:=0
def PySem.W.Fast.tw3818444856893961840:Nat:=0
def PySem.W.Fast.tw7785620769998176795:Nat:=0
def PySem.W.Fast.tw14108161926904179431:Nat:=0
def PySem.W.Fast.tw5312462394982960567:Nat:=0
def PySem.W.Fast.tw13170617171569740894:Nat:=0
def PySem.W.Fast.tw6930767593995286899:Nat:=0
def PySem.W.Fast.tw15045340726019349360:Nat:=0
def PySem.W.Fast.tw18243142701078112823:Nat:=0
def PySem.W.Fast.tw10300032269146675459:Nat:=0
def PySem.W.Fast.tw12130746522725822861:Nat:=0
def PySem.W.Fast.tw2494362409700857732:Nat:=0
def PySem.W.Fast.tw10643082605362039339:Nat:=0
def PySem.W.Fast.tw16590446832481343506:Nat:=0
def PySem.W.Fast.tw5488572431037918646:Nat:=0
def PySem.W.Fast.tw5015743898355318715:Nat:=0
def PySem.W.Fast.tw12713919993303950029:Nat:=0
def PySem.W.Fast.tw2576617266506216920:Nat:=0
def PySem.W.Fast.tw7328808103932876915:Nat:=0
def PySem.W.Fast.tw13719058580819587467:Nat:=0
def PySem.W.Fast.tw1446989698415970562:Nat:=0
def PySem.W.Fast.tw8282328176825435802:Nat:=0
def PySem.W.Fast.tw9549806447421892775:Nat:=0
def PySem.W.Fast.tw2741917658475426180:Nat:=0
def PySem.W.Fast.tw17270366128021346801:Nat:=0
def PySem.W.Fast.tw8167121132906961143:Nat:=0
noncomputable def PySem.W.Fast.tw14205508821948022824:Nat:=0
noncomputable def PySem.W.Fast.tw13727854959135187475:Nat:=0
noncomputable def PySem.W.Fast.tw3681991462384587919:Nat:=0
noncomputable def PySem.W.Fast.tw3223478356326131553:Nat:=0
noncomputable def PySem.W.Fast.tw17772195994107879681:Nat:=0
noncomputable def PySem.W.Fast.tw18046504570318113829:Nat:=0
noncomputable def PySem.W.Fast.tw8225185595658086322:Nat:=0
noncomputable def PySem.W.Fast.tw15849449789713094546:Nat:=0
noncomputable def PySem.W.Fast.tw9107934941724158375:Nat:=0
noncomputable def PySem.W.Fast.tw14186907830314219785:Nat:=0
noncomputable def PySem.W.Fast.tw6719744939544842554:Nat:=0
noncomputable def PySem.W.Fast.tw7283913931436390095:Nat:=0
open PySem PySem.W PyProof.Rows
set_option maxHeartbeats 0 in
theorem PySem.Challenge.cw_summitwater_k33_open_stands_met_holds : PySem.Challenge.rw_summitwater_k33_open_stands_met.Holds := by
 w_on; o_law; k_head; (case hw=>w_witness2)
 k_fill
 refine L2.Gmx (l:=PySem.Challenge.rw_summitwater_k33_open_stands_met) (n:=63) (k:=11) (x:="_law_script") (CX:=L2.CX0) (sp:=fun K=>DL.spD K 1 Law.Gch) rfl (by decide) rfl ⟨rfl,by decide,by decide,rfl⟩ (fun w h QC=>PySem.W.kIn_of QC) ?F Law.hsp (fun _ _ _ _ z=>z)
 case F=>
  intro w mg fa h KX G hmg
  refine' Law.Gyt KX G hmg ?HS ?x0 ?x1 ?x2 ?x3 ?x4 ?x5 ?x6 ?x7 ?x8 ?x9 ?x10 ?x11 ?x12 ?x13 ?x14 ?x15 ?x16 ?x17 ?x18 ?x19 ?x20 ?x21 ?x22 ?x23 ?x24 ?x25 ?x26 ?x27 ?x28 ?x29 ?x30 ?x31
  (case HS=>constructor<;>first | (refine' DL.Gyp ?a ?l ?c ?k ?t; (case a=>k_is); (case l=>k_is); (case c=>k_is); (case k=>k_is); (case t=>k_is)) | (refine' DL.Hbv ?a ?l ?c ?k; (case a=>k_is); (case l=>k_is); (case c=>k_is); (case k=>k_is)) | k_is)
  (case x0=>k_is)
  (case x1=>k_is)
  (case x2=>k_is)
  (case x3=>k_is)
  (case x4=>k_is)
  (case x5=>k_is)
  (case x6=>k_is)
  (case x7=>k_is)
  (case x8=>k_is)
  (case x9=>k_is)
  (case x10=>k_is)
  (case x11=>k_is)
  (case x12=>k_is)
  (case x13=>k_is)
  (case x14=>k_is)
  (case x15=>k_is)
  (case x16=>k_is)
  (case x17=>k_is)
  (case x18=>kernel_rfl!)
  (case x19=>k_is)
  (case x20=>k_is)
  (case x21=>k_is)
  (case x22=>k_is)
  (case x23=>kernel_rfl!)
  (case x24=>kernel_rfl!)
  (case x25=>kernel_rfl!)
  (case x26=>kernel_rfl!)
  (case x27=>kernel_rfl!)
  (case x28=>kernel_rfl!)
  (case x29=>kernel_rfl!)
  (case x30=>kernel_rfl!)
  (case x31=>kernel_rfl!)
