import PyProof.Rows.All
import Wide.All
import OpenK.AllK
import Wide.FinOn
import Lean
import PyProof.EqAt
import PyProof.EqKinds
import PyProof.TupleCall
import PyProof.FactsAll.tuple_2
import PyProof.ListMulRoad
import PyProof.ExcArgsOwn
import PyProof.ZipIter
import PyProof.EnumFor
import PyProof.Rows.StrJoin2
import PyProof.FString
import PyProof.StrBlockH
import PyProof.StrWalks
import PyProof.EnumMake
import KE.KIntText
import PyProof.CallStr
import PyProof.ExcInit
import PyProof.ExcClass3
import PyProof.ExcBaseAll.ValueError
import PyProof.NsDelKeeps
import KE.KTryMore
import PyProof.Rows.CountFlat
import PyProof.Rows.KernelRfl
import PyProof.ListRange
import PyProof.InstStoreFacts
import PyProof.Rows.InDataRows
import PyProof.DictTable
import PyProof.DictRoads
import PyProof.DictStraight
import PyProof.Rows.TupTab
import PyProof.Rows.TupDisplay
import PyProof.DictTruth
import PyProof.DictCompW
import KE.KRevIter
import PyProof.CollectIter
import PySem.Challenge.RW_summitwater_k21_who_never_comes_through
set_option compiler.extract_closed false
noncomputable section
set_option compiler.extract_closed false
set_option maxHeartbeats 4000000
set_option Elab.async false
set_option linter.all false
set_option bootstrap.genMatcherCode false
set_option maxRecDepth 100000
set_option tactic.hygienic false
def zA0(h:True:=by first|exact .inl rfl|exact .inr rfl|assumption):True:=h
abbrev zQ0:=zA0._auto_1
def zA1(h:True:=by decide):True:=h
abbrev zQ1:=zA1._auto_1
def zA2(h:True:=by rfl):True:=h
abbrev zQ2:=zA2._auto_1
def zA3(h:True:=by intro _; rfl):True:=h
abbrev zQ3:=zA3._auto_1
def zA4(h:True:=by intro _;rfl):True:=h
abbrev zQ4:=zA4._auto_1
def zA5(h:True:=by with_unfolding_all rfl):True:=h
abbrev zQ5:=zA5._auto_1
def zA6(h:True:=by first|exact Or.inl rfl|exact Or.inr (Or.inl rfl)|exact Or.inr (Or.inr rfl)):True:=h
abbrev zQ6:=zA6._auto_1
def zA7(h:True:=by intro _ z;cases z):True:=h
abbrev zQ7:=zA7._auto_1
def zA8(h:True:=by first|exact Or.inl rfl|exact Or.inr rfl):True:=h
abbrev zQ8:=zA8._auto_1
def zA9(h:True:=by intro _ _;rfl):True:=h
abbrev zQ9:=zA9._auto_1
def zA10(h:True:=by decide +kernel):True:=h
abbrev zQ10:=zA10._auto_1
def zA11(h:True:=by exact kdC):True:=h
abbrev zQ11:=zA11._auto_1
local macro_rules|`(⇑$x)=>`(autoParam $x zQ2)
local macro_rules|`(↥$x)=>`(autoParam $x zQ1)
local macro_rules|`(↑$x)=>`(autoParam $x zQ10)
set_option autoImplicit true
abbrev Aa:=@List.getElem?_eq_some_iff
abbrev Ab:=@Option.some.inj
abbrev Ac:=@Nat.le_refl
abbrev Ad:=@List.mem_cons
abbrev Ae:=@PySem.Heap.lt_size
abbrev Af:=@List.getElem?_eq_getElem
abbrev Ag:=@Nat.lt_of_lt_of_le
abbrev Ah:=@List.getElem?_set_ne
abbrev Ai:=@List.length_map
abbrev Aj:=@PySem.Heap.get?_push_of_some
abbrev Ak:=@Nat.le_trans
abbrev Am:=@Bool.and_eq_true
abbrev An:=@Nat.ne_of_lt
abbrev Ao:=@List.mem_of_getElem?
abbrev Ap:=@Bool.false_ne_true
abbrev Aq:=@List.size_toArray
abbrev Ar:=@List.getElem?_map
abbrev As:=@List.getElem?_set_self
abbrev At:=@Nat.zero_le
abbrev Au:=@List.mem_cons_of_mem
abbrev Av:=@List.not_mem_nil
abbrev Aw:=@List.mem_cons_self
abbrev Ax:=@Nat.lt_irrefl
abbrev Ay:=@List.mem_append
abbrev Az:=@PySem.Heap.get?_push_size
abbrev AA:=@List.mem_singleton
abbrev AB:=@List.map_cons
abbrev AC:=@List.lookup_cons
abbrev AD:=@List.getElem?_append_left
abbrev AE:=@Bool.false_eq_true
abbrev AF:=@List.all_eq_true
abbrev AG:=@List.length_append
abbrev AH:=@List.mem_map
abbrev AI:=@List.mem_append_right
abbrev AJ:=@Bool.true_and
abbrev AK:=@Int.toNat_natCast
abbrev AL:=@PySem.Heap.get?_update_other
abbrev AM:=@Nat.lt_succ_self
abbrev AN:=@Bool.false_and
abbrev AO:=@List.getElem?_cons_succ
abbrev AQ:=@List.mem_range
abbrev AR:=@PySem.Heap.size_push
abbrev AS:=@List.getElem?_cons_zero
abbrev AT:=@List.length_take
abbrev AU:=@PySem.Heap.get?_update_self
abbrev AV:=@List.getElem?_eq_none_iff
abbrev AW:=@Nat.ne_of_gt
abbrev AX:=@List.replicate_succ
abbrev AY:=@List.getElem_mem
abbrev AZ:=@List.all_map
abbrev A0:=@List.sum_cons
abbrev A4:=@PySem.Heap.get?_none_of_le
abbrev A5:=@List.flatten_cons
abbrev A6:=@Nat.le_succ
abbrev A7:=@List.mem_nil_iff
abbrev A8:=@List.take_add_one
abbrev A9:=@List.map_append
abbrev Ba:=@List.length_drop
abbrev Bb:=@Nat.lt_trans
abbrev Bc:=@List.mem_iff_getElem?
abbrev Bd:=@List.append_nil
abbrev Be:=@List.nodup_cons
abbrev Bg:=@List.length_set
abbrev Bh:=@List.append_assoc
abbrev Bi:=@List.length_cons
abbrev Bj:=@List.getElem?_eq_none
abbrev Bk:=@Int.emod_nonneg
abbrev Bl:=@List.take_length
abbrev Bm:=@List.filter_append
abbrev Bn:=@List.eq_of_mem_replicate
abbrev Bo:=@Nat.add_assoc
abbrev Bp:=@List.mem_append_left
abbrev Bq:=@List.getElem?_append_right
abbrev Br:=@List.map_nil
abbrev Bs:=@Option.bind_some
abbrev Bt:=@Nat.lt_succ_of_lt
abbrev Bu:=@Bool.eq_iff_iff
abbrev Bv:=@List.contains_cons
abbrev Bw:=@List.find?_cons
abbrev Bx:=@Int.emod_lt_of_pos
abbrev By:=@List.getElem?_range
abbrev Bz:=@List.map_map
abbrev BA:=@List.length_filter_le
abbrev BB:=@List.all_cons
abbrev BC:=@List.all_eq_false
abbrev BD:=@List.drop_zero
abbrev BE:=@List.mem_of_mem_take
abbrev BG:=@List.mem_of_mem_drop
abbrev BH:=@Nat.mul_le_mul_left
abbrev BI:=@List.filterMap_cons
abbrev BJ:=@Option.isSome_iff_exists
abbrev BK:=@List.getD_eq_getElem?_getD
abbrev BL:=@List.take_of_length_le
abbrev BM:=PySem.W.Frag
abbrev BN:=PySem.Value
abbrev BO:=PySem.Shared
abbrev BP:=PySem.Addr
abbrev BQ:=Option
abbrev BR:=PySem.Program
namespace L2
open PySem PySem.Spec PyProof.Rows
abbrev Key:=Sum Int Str
def Gu5:Key->BN->Bool
 |.inl k,v=>Value.isInt k v
 |.inr x,v=>Value.isStrOf x v
def Hdv(w:World):Key->Int
 |.inl k=>hashInt k
 |.inr x=>hashStr w x
def Jm:∀{k:Key}{v:BN},Gu5 k v=true->(∃i t,k=Sum.inl i/\v=Value.int i t)\/(∃x t,k=Sum.inr x/\v=Value.str x t)
 |.inl i,v,h=>by
  obtain⟨t,e⟩:=Value.isInt_shape (k:=i) (v:=v) h;exact .inl ⟨i,t,rfl,e⟩
 |.inr x,v,h=>by
  obtain⟨t,e⟩:=Value.isStrOf_shape (x:=x) (v:=v) h;exact .inr ⟨x,t,rfl,e⟩
def Gwc(a b:Int):decide ((Sum.inl a:Key)=Sum.inl b)=(a==b):=by
 by_cases e:a=b
 ·subst e;simp
 ·have h:¬(Sum.inl a:Key)=Sum.inl b:=fun q=>e (Sum.inl.inj q);rw[decide_eq_false h];exact(beq_eq_false_iff_ne.mpr e).symm
def Gwd(a b:Str):decide ((Sum.inr a:Key)=Sum.inr b)=decide (a=b):=by
 by_cases e:a=b
 ·subst e;simp
 ·have h:¬(Sum.inr a:Key)=Sum.inr b:=fun q=>e (Sum.inr.inj q);rw[decide_eq_false h,decide_eq_false e]
def Gwe(a:Int)(b:Str):decide ((Sum.inl a:Key)=Sum.inr b)=false:=decide_eq_false (fun q=>nomatch q)
def Gwf(a:Str)(b:Int):decide ((Sum.inr a:Key)=Sum.inl b)=false:=decide_eq_false (fun q=>nomatch q)
def Gk5(prog:BR)(w:World):PySem.KeyKind prog w Key where
 is:=Gu5
 hash:=Hdv w
 inj:=fun v a b ha hb=>by
  rcases Jm ha with⟨i,t,rfl,rfl⟩|⟨x,t,rfl,rfl⟩
  ·rcases Jm hb with⟨j,u,rfl,e⟩|⟨y,u,rfl,e⟩
   ·injection e with e1 _;rw[e1]
   ·exact nomatch e
  ·rcases Jm hb with⟨j,u,rfl,e⟩|⟨y,u,rfl,e⟩
   ·exact nomatch e
   ·injection e with e1 _;rw[e1]
 byValue:=fun k v h=>by
  rcases Jm h with⟨i,t,rfl,rfl⟩|⟨x,t,rfl,rfl⟩<;>rfl
 pyHash:=fun hv h=>by
  rcases Jm hv with⟨i,t,rfl,rfl⟩|⟨x,t,rfl,rfl⟩
  ·exact wpAny_pyHash_int h
  ·exact wpAny_pyHash_str h
 eqBool:=fun hu hv h=>by
  rcases Jm hu with⟨i,t,rfl,rfl⟩|⟨x,t,rfl,rfl⟩
  ·rcases Jm hv with⟨j,u,rfl,rfl⟩|⟨y,u,rfl,rfl⟩
   ·rw[Gwc]at h;exact wpAny_eqBool_int h
   ·rw[Gwe]at h;exact SeqAt.EqAt.int_str i t y u _ _ _ _ h
  ·rcases Jm hv with⟨j,u,rfl,rfl⟩|⟨y,u,rfl,rfl⟩
   ·rw[Gwf]at h;exact SeqAt.EqAt.str_int x t j u _ _ _ _ h
   ·rw[Gwd]at h;exact wpAny_eqBool_str h
 «strs»:=fun k x t v h=>by
  rcases Jm h with⟨i,u,rfl,e⟩|⟨y,u,rfl,e⟩
  ·exact nomatch e
  ·injection e with e1 _;subst e1;cases v<;>rfl
inductive V where
 |non|bl (b:Bool)|int (i:Int)|str (x:Str)|byt (b:Array UInt8)|flt (b:UInt64)|ref (a:BP)|ty (n:String)
 deriving DecidableEq
def Hg:V->BN->Prop
 |.non,u=>u=Value.none
 |.bl b,u=>u=Value.bool b
 |.int i,u=>∃t,u=Value.int i t
 |.str x,u=>∃t,u=Value.str x t
 |.byt b,u=>∃t,u=Value.bytes b t
 |.flt b,u=>∃t,u=Value.float b t
 |.ref a,u=>u=Value.ref a
 |.ty n,u=>u=Value.type n
abbrev Vals:List V->List BN->Prop:=Paired Hg
def Vals.length{xs:List V}{us:List BN}(r:Vals xs us):xs.length=us.length:=Paired.length r
def Vals.get:∀{xs:List V}{us:List BN}{i:Nat}{x:V},Vals xs us->xs[i]?=some x->∃u,us[i]?=some u/\Hg x u
 |_,_,_,_,.nil,e=>by simp at e
 |_,_,0,_,.cons r _,e=>by simp at e;subst e;exact⟨_,rfl,r⟩
 |_,_,i+1,x,.cons _ t,e=>by
  obtain⟨u,h1,h2⟩:=Vals.get (i:=i) (x:=x) t (by simpa using e);exact⟨u,by simpa using h1,h2⟩
def Vals.set(r:Hg x u):∀{xs:List V}{us:List BN}(i:Nat),Vals xs us->Vals (xs.set i x) (us.set i u)
 |_,_,_,.nil=>.nil
 |_,_,0,.cons _ t=>.cons r t
 |_,_,i+1,.cons q t=>.cons q (Vals.set r i t)
def Vals.append:∀{xs ys:List V}{us ws:List BN},Vals xs us->Vals ys ws->Vals (xs++ys) (us++ws)
 |_,_,_,_,.nil,s=>s
 |_,_,_,_,.cons r t,s=>.cons r (Vals.append t s)
def Vals.take:∀{xs:List V}{us:List BN}(n:Nat),Vals xs us->Vals (xs.take n) (us.take n)
 |_,_,0,_=>.nil
 |_,_,_+1,.nil=>.nil
 |_,_,n+1,.cons r t=>.cons r (Vals.take n t)
def Vals.drop:∀{xs:List V}{us:List BN}(n:Nat),Vals xs us->Vals (xs.drop n) (us.drop n)
 |_,_,0,r=>r
 |_,_,_+1,.nil=>.nil
 |_,_,n+1,.cons _ t=>Vals.drop n t
def Grk:BQ V->BQ BN->Prop
 |some v,some u=>Hg v u
 |none,none=>True
 |_,_=>False
def KV:List (Y×V)->List (Y×BN)->Prop:=Paired fun(p:Y×V)(q:Y×BN)=>p.1=q.1/\Hg p.2 q.2
noncomputable def kV:Key->V
 |.inl i=>.int i
 |.inr x=>.str x
inductive NK where
 |i (n:Int)|t (l:List NK)
mutual
def pk:NK->PyData
 |.i n=>.int n
 |.t l=>.tuple (pks l)
def pks:List NK->List PyData
 |[]=>[]
 |k::r=>pk k::pks r
end
mutual
theorem Gat:∀(x y:NK),PyData.eqv (pk x) (pk y)=true↔x=y
 |.i n,.i m=>by simp[pk,PyData.eqv]
 |.i n,.t m=>by simp[pk,PyData.eqv]
 |.t n,.i m=>by simp[pk,PyData.eqv]
 |.t l,.t m=>by simp only[pk,PyData.eqv,pks_eqv l m,NK.t.injEq]
theorem pks_eqv:∀(x y:List NK),PyData.eqvAll (pks x) (pks y)=true↔x=y
 |[],[]=>by simp[pks,PyData.eqvAll]
 |[],_::_=>by simp[pks,PyData.eqvAll]
 |_::_,[]=>by simp[pks,PyData.eqvAll]
 |a::r,b::q=>by simp only[pks,PyData.eqvAll,Am,Gat a b,pks_eqv r q,List.cons.injEq]
end
instance:DecidableEq NK:=fun x y=>if h:PyData.eqv (pk x) (pk y)=true then isTrue ((Gat x y).mp h)else isFalse fun e=>h ((Gat x y).mpr e)
def Gwg(x y:NK):PyData.eqv (pk x) (pk y)=decide (x=y):=by
 by_cases h:x=y
 ·rw[decide_eq_true h,(Gat x y).mpr h]
 ·rw[decide_eq_false h];cases e:PyData.eqv (pk x) (pk y)with
  |false=>rfl
  |true=>exact absurd ((Gat x y).mp e) h
def Gwh(h:pk x=pk y):x=y:=(Gat x y).mp (by rw[h];exact(Gat y y).mpr rfl)
mutual
theorem Gjy:∀(x:NK),(pk x).canLay0=true
 |.i n=>by simp[pk,PyData.canLay0]
 |.t l=>by simp[pk,PyData.canLay0,pks_can l]
theorem pks_can:∀(x:List NK),PyData.canLayAll0 (pks x)=true
 |[]=>by simp[pks,PyData.canLayAll0]
 |a::r=>by simp[pks,PyData.canLayAll0,Gjy a,pks_can r]
end
mutual
def nkh:NK->Int
 |.i n=>hashInt n
 |.t l=>reduceHash (Builtin.Tuple.tupleHashOf (nkhs l))
def nkhs:List NK->List Int
 |[]=>[]
 |k::r=>nkh k::nkhs r
end
mutual
def nkd:NK->Nat
 |.i _=>1
 |.t l=>nkds l+1
def nkds:List NK->Nat
 |[]=>0
 |k::r=>nkd k+nkds r
end
def Gdk:∀(l m:List NK),nkhs (l++m)=nkhs l++nkhs m
 |[],m=>by simp[nkhs]
 |a::r,m=>by simp[nkhs,Gdk r m]
def Gdl:∀(l m:List NK),nkds (l++m)=nkds l+nkds m
 |[],m=>by simp[nkds]
 |a::r,m=>by simp[nkds,Gdl r m];omega
def Gbz:∀{l:List NK}{k:NK},k∈l->(pk k).depth<=PyData.depthAll (pks l)
 |[],k,h=>by simp at h
 |a::r,k,h=>by
  rcases Ad.mp h with rfl|h
  ·simp only[pks,PyData.depthAll];omega
  ·have:=Gbz h;simp only[pks,PyData.depthAll];omega
def Gk6(k:NK):Prop:=∀(prog:BR)(w:World)(A:Around)(E:BN->BO->Prop)(s:BO)(v:BN)(as:List BP)(Q:Int->BO->Prop),
 Reads s.heap v (pk k) as->A.units+(pk k).depth<cLine->Q (nkh k) {s with toks:=s.toks+nkd k}->wpAny (model prog w) A (pyHash v) Q E s
def Gf5(k:NK):Prop:=∀(prog:BR)(w:World)(A:Around)(E:BN->BO->Prop)(s:BO)(v:BN)(as:List BP)(n:Nat)(Q:Bool->BO->Prop),
 Reads s.heap v (pk k) as->(pk k).depth<=n->Q true s->wpAny (model prog w) A (eqIsQuiet n v) Q E s
def Gno(ih:∀k∈l,Gk6 k):Gk6 (.t l):=by
 intro prog w A E s v as Q r hu h;simp only[pk]at r;cases r with
 |@tuple a o vs n xs as ho hc hd rs=>
  have hT:s.TypeIs (.ref a) "tuple":=⟨o,ho,hc⟩
  have hdep:(pk (.t l)).depth=PyData.depthAll (pks l)+1:=by simp[pk,PyData.depth]
  rw[hdep]at hu;unfold pyHash;unfold pyHashByItsType;refine wpAny_bind (wpAny_cRoomFor_or (.inr (by omega)) ?_);refine wpAny_bind (wpAny_specialOf hT F.slot_tuple_hash.lookup ?_);rw[if_neg (by rw[beq_builtin_none];exact Ap)];refine wpAny_bind (wpAny_specialOf hT F.slot_tuple_hash.lookup ?_);show wpAny _ _ (callSpecialIfBoundUnlessNone? (.ref a) "__hash__" _ >>= _) Q E s;refine wpAny_bind (wpAny_callSpecialIfBoundUnlessNone?_slot hT F.slot_tuple_hash (wpAny_call_entry F.slot_tuple_hash hT F.entry_tuple_hash ?_ (F.args_tuple_hash_1 _)));show wpAny _ _ (Builtin.Tuple.tupleItemsOf (.ref a) >>= _) _ _ s;refine wpAny_bind (wpAny_tupleItemsOf ho hd ?_);refine wpAny_bind ?_;rw[<- Array.forIn_toList];refine wpAny_forIn_list _
   (fun rest (b:Array Int) s'=>∃done left cs,l=done++left/\ReadsAll s.heap rest (pks left) cs/\b.toList=nkhs done/\s'={s with toks:=s.toks+nkds done})
   _ ?_ ?_ _ _ ⟨[],l,as,rfl,rs,rfl,rfl⟩
  ·rintro x rest b s' ⟨done,left,cs,el,hl,hb,rfl⟩;cases left with
   |nil=>simp only[pks]at hl;cases hl
   |cons k left=>
    simp only[pks]at hl;cases hl with
    |@cons _ _ _ _ c1 c2 h1 h2=>
     have hk:k∈l:=by rw[el];simp
     have hdk:=Gbz hk;refine wpAny_bind (ih k hk prog w _ _ _ x c1 _ h1 (by first|omega|(show A.units+1+_<cLine;omega)) ?_)
     first
      |exact wpAny_pure ⟨done++[k],left,c2,by simp[el],h2,by simp[hb,Gdk,nkhs],by simp[Gdl,nkds,Bo]⟩
      |exact wpAny_bind (wpAny_pure (wpAny_pure ⟨done++[k],left,c2,by simp[el],h2,by simp[hb,Gdk,nkhs],by simp[Gdl,nkds,Bo]⟩))
  ·rintro b s' ⟨done,left,cs,el,hl,hb,rfl⟩;cases left with
   |cons k left=>simp only[pks]at hl;cases hl
   |nil=>
    rw[Bd]at el;subst el;show wpAny _ _ (retInt (Builtin.Tuple.tupleHashOf b.toList)) _ _ _;rw[hb];refine wpAny_ret_mkInt ?_;show wpAny _ _ (if(decide (-(2:Int)^63<=Builtin.Tuple.tupleHashOf (nkhs l))&&decide (Builtin.Tuple.tupleHashOf (nkhs l)<2^63))=true then _ else _) Q E _;unfold nkh reduceHash at h;simp only[nkd]at h;by_cases hr:(decide (-(2:Int)^63<=Builtin.Tuple.tupleHashOf (nkhs l))&&decide (Builtin.Tuple.tupleHashOf (nkhs l)<2^63))=true
    ·rw[if_pos hr];rw[if_pos hr]at h;exact wpAny_pure (by simpa[Bo]using h)
    ·rw[if_neg hr];rw[if_neg hr]at h;exact wpAny_bind (wpAny_rule (wpAny_pure (by simpa[Bo]using h)))
mutual
theorem hash_ok:∀k:NK,Gk6 k
 |.i n=>by
  intro prog w A E s v as Q r hu h;simp only[pk]at r;cases r;exact wpAny_pyHash_int h
 |.t l=>Gno (hash_all l)
theorem hash_all:∀(l:List NK)(k:NK),k∈l->Gk6 k
 |[],k,h=>by simp at h
 |a::r,k,h=>(Ad.mp h).elim (fun e=>e▸hash_ok a) (fun m=>hash_all r k m)
end
def Gml(ih:∀k∈l,Gf5 k):Gf5 (.t l):=by
 intro prog w A E s v as n Q r hn h;simp only[pk]at r;cases r with
 |@tuple a o vs n' xs as ho hc hd rs=>
  have hT:s.TypeIs (.ref a) "tuple":=⟨o,ho,hc⟩
  have hdep:(pk (.t l)).depth=PyData.depthAll (pks l)+1:=by simp[pk,PyData.depth]
  rw[hdep]at hn;cases n with
  |zero=>omega
  |succ n=>
   unfold eqIsQuiet;refine wpAny_bind (wpAny_specialOf hT F.slot_tuple_eq.lookup ?_);show wpAny _ _ (isInstance (.ref a) (.type "tuple") >>= _) _ _ s;refine wpAny_bind (wpAny_isInstance hT isSubtype_tuple_tuple ?_);simp only[Bool.not_true,AE,if_false];refine wpAny_bind (wpAny_seqItems ho hd ?_);refine wpAny_bind ?_;show wpAny _ _ (forIn vs _ _) _ _ s;rw[<- Array.forIn_toList];refine wpAny_forIn_list _ (fun rest r s'=>r.1=none/\s'=s/\∃left cs,(∀k∈left,k∈l)/\ReadsAll s.heap rest (pks left) cs) _ ?_ ?_ _ _ ⟨rfl,rfl,l,as,fun _ h=>h,rs⟩
   ·rintro x rest r s' ⟨hr,rfl,left,cs,hm,hl⟩;cases left with
    |nil=>simp only[pks]at hl;cases hl
    |cons k left=>
     simp only[pks]at hl;cases hl with
     |@cons _ _ _ _ c1 c2 h1 h2=>
      have hk:=hm k Aw;have hdk:=Gbz hk;refine wpAny_bind (ih k hk prog w _ _ _ x c1 n _ h1 (by omega) ?_);simp only[Bool.not_true,AE,if_false];exact wpAny_pure ⟨rfl,rfl,left,c2,fun q hq=>hm q (Au _ hq),h2⟩
   ·rintro⟨r1,r2⟩ s' ⟨hr,rfl,_⟩;simp only at hr;subst hr;exact wpAny_pure h
mutual
theorem quiet_ok:∀k:NK,Gf5 k
 |.i m=>by
  intro prog w A E s v as n Q r hn h;simp only[pk]at r;cases r;rw[eqIsQuiet_byValue n (by rfl)];exact wpAny_pure h
 |.t l=>Gml (quiet_all l)
theorem quiet_all:∀(l:List NK)(k:NK),k∈l->Gf5 k
 |[],k,h=>by simp at h
 |a::r,k,h=>(Ad.mp h).elim (fun e=>e▸quiet_ok a) (fun m=>quiet_all r k m)
end
mutual
theorem Gh4:∀(k:NK){h h':Heap}{v:BN}{as:List BP}{d:BP}{o:Obj}{es:Array DictEntry}{ep:Nat},Reads h v (pk k) as->h.get? d=some o->o.data=.dict es ep->Heap.SameBut d h h'->Reads h' v (pk k) as
 |.i n,h,h',v,as,d,o,es,ep,r,_,_,_=>by
  simp only[pk]at r⊢;cases r;exact .int _ _
 |.t l,h,h',v,as,d,o,es,ep,r,ho,hd,hs=>by
  simp only[pk]at r⊢;cases r with
  |@tuple a o' vs n' xs as ho' hc hd' rs=>
   have hne:a≠d:=by
    rintro rfl;obtain rfl:o'=o:=Ab (ho'.symm.trans ho);rw[hd]at hd';exact nomatch hd'
   exact .tuple ((hs.2 a hne).trans ho') hc hd' (pks_keeps l rs ho hd hs)
theorem pks_keeps:∀(l:List NK){h h':Heap}{v:List BN}{as:List BP}{d:BP}{o:Obj}{es:Array DictEntry}{ep:Nat},ReadsAll h v (pks l) as->h.get? d=some o->o.data=.dict es ep->Heap.SameBut d h h'->ReadsAll h' v (pks l) as
 |[],h,h',v,as,d,o,es,ep,r,_,_,_=>by
  simp only[pks]at r⊢;cases r;exact .nil
 |k::l,h,h',v,as,d,o,es,ep,r,ho,hd,hs=>by
  simp only[pks]at r⊢;cases r with
  |cons r1 r2=>exact .cons (Gh4 k r1 ho hd hs) (pks_keeps l r2 ho hd hs)
end
def Hdw(h:Heap)(k:NK)(a:BP):Prop:=(∃as,Reads h (.ref a) (pk k) as)/\(pk k).depth<=8
noncomputable def nestKind (prog:BR) (w:World):HeapKind prog w NK where
 is:=Hdw
 hash:=nkh
 draws:=nkd
 room:=fun A=>A.units+10<cLine
 inj:=fun⟨⟨_,hx⟩,_⟩ ⟨⟨_,hy⟩,_⟩=>Gwh (hx.unique _ _ hy).1
 keeps:=fun⟨⟨as,x⟩,q⟩ ho hd hs=>⟨⟨as,Gh4 _ x ho hd hs⟩,q⟩
 pyHash:=fun hu ⟨⟨as,x⟩,q⟩ h=>hash_ok _ _ _ _ _ _ _ as _ x (by omega) h
 eqBool:=fun hu ⟨⟨as,x⟩,q⟩ ⟨⟨bs,y⟩,q'⟩ h=>SeqAt.eqAt_reads _ _ _ _ _ _ as bs x y (Gjy _) (Gjy _) (by omega) _ _ _ _ (by rw[Gwg];exact h)
 quiet:=fun⟨⟨as,x⟩,q⟩ h=>quiet_ok _ _ _ _ _ _ _ as 8 _ x q h
inductive HO where
 |lst (xs:List V)
 |tup (xs:List V)
 |dK (kvs:List (Key×V))|dT (kvs:List (NK×BP×V))
 |set (S:Int->Bool) (n:Nat)
 |ins (C dx:BP) (fs:List (Str×V))
 |own (x:BP)
 |xd (fs:List (Str×V))
 |met (f x:BP)
 |rng (lo hi:Int)
 |frz (o:Obj) (u:HO)
 |tbl (ps:Array BN)
 |ext (φ:Heap->Prop)
abbrev Hp:=BP->BQ HO
noncomputable def upd(H:Hp)(a:BP)(o:HO):Hp:=fun b=>if b=a then some o else H b
def Ho:upd H a o a=some o:=by unfold upd;rw[if_pos rfl]
def Gv{H:Hp}(h:b≠a):upd H a o b=H b:=by unfold upd;rw[if_neg h]
def Yv{H:Hp}(h:H a=some o)(h':H b=some u)(d:o≠u):a≠b:=by
 intro e;subst e;rw[h]at h';exact d (Ab h')
def Hf{H:Hp}(h:H a=some o)(h':H b=none):a≠b:=by
 intro e;subst e;rw[h]at h';cases h'
section
variable(P:BR)(w:World)
def Ks(H:Hp)(h:Heap)(a:BP):HO->Prop
 |.lst xs=>xs.length<=sizeLine/\∃(its:List BN)(n:Nat),Vals xs its/\h.get? a=some {cls:=.type "list",data:=.seq its.toArray n}
 |.tup xs=>xs.length<=sizeLine/\∃its:List BN,Vals xs its/\IsTup h a its.toArray
 |.dK kvs=>kvs.length<=sizeLine/\(a==sysModules)=false/\∃vs,KV kvs vs/\h.DictOf (Gk5 P w) a vs
 |.dT kvs=>kvs.length<=sizeLine/\(a==sysModules)=false/\∃xs:List (NK×BP×BN),
   Paired (fun(p:NK×BP×V)(q:NK×BP×BN)=>p.1=q.1/\p.2.1=q.2.1/\Hg p.2.2 q.2.2) kvs xs∧
   ∃o es ep,h.get? a=some o/\o.ExactDict/\o.data=.dict es ep/\es.toList=xs.map (entryOfKey (nestKind P w))/\(xs.map (·.1)).Nodup
 |.set S n=>h.SetOf (intKind P w) a S n
 |.ins C dx fs=>H dx=some (.own a)/\fs.length<=1000/\dx≠a/\h.get? a=some (PySem.W.instObj C dx)∧
   ∃mA,h.Ns1 dx mA/\(∀f,Grk (fs.lookup f) (mA f))/\PySem.Within mA (fs.map (·.1))
 |.own _=>∃o,h.get? a=some o
 |.xd fs=>∃mA,h.Ns1 a mA/\∀f,Grk (fs.lookup f) (mA f)
 |.rng lo hi=>∃t u v,h.get? a=some {cls:=.type "range",data:=.fields #[.int lo t,.int hi u,.int 1 v]}
 |.frz o u=>h.get? a=some o/\Ks H h a u
 |.tbl ps=>h.get? a=some {cls:=.none,data:=.fields ps}
 |.met f x=>h.get? a=some (PySem.W.methodObj (.ref f) (.ref x))
 |.ext φ=>φ h/\(∃o,h.get? a=some o)/\∀h1 h2:Heap,φ h1->(∀o,h1.get? a=some o->h2.get? a=some o)->φ h2
def HOk(H:Hp)(h:Heap):Prop:=∀a o,H a=some o->Ks P w H h a o
end
section
variable{P:BR}{w:World}{H H':Hp}{h h':Heap}{a:BP}{o:HO}
def Ks.lt(x:Ks P w H h a o):a<h.objs.size:=by
 cases o with
 |lst xs=>obtain⟨_,_,_,_,e⟩:=x;exact Ae e
 |tup xs=>obtain⟨_,_,_,p⟩:=x;exact p.lt
 |dK kvs=>obtain⟨_,_,_,_,o,_,_,e,_⟩:=x;exact Ae e
 |dT kvs=>obtain⟨_,_,_,_,o,_,_,e,_⟩:=x;exact Ae e
 |set S n=>obtain⟨o,_,_,_,e,_⟩:=x;exact Ae e
 |ins C dx fs=>obtain⟨_,_,_,e,_⟩:=x;exact Ae e
 |own y=>obtain⟨_,e⟩:=x;exact Ae e
 |xd fs=>obtain⟨_,⟨_,_,_,e,_⟩,_⟩:=x;exact Ae e
 |rng lo hi=>obtain⟨_,_,_,e⟩:=x;exact Ae e
 |frz ob u=>obtain⟨e,_⟩:=x;exact Ae e
 |tbl ps=>exact Ae (show h.get? a=some _ from x)
 |met f y=>exact Ae (show h.get? a=some _ from x)
 |ext φ=>obtain⟨_,⟨_,e⟩,_⟩:=x;exact Ae e
def Paired.mapP{F G:Z->β->Prop}:∀{l₁:List Z}{l₂:List β},Paired F l₁ l₂->(∀a b,F a b->G a b)->Paired G l₁ l₂
 |_,_,.nil,_=>.nil
 |_,_,.cons r t,f=>.cons (f _ _ r) (Paired.mapP t f)
def Ks.stay(x:Ks P w H h a o)(k:∀b u,(b=a\/H b=some (.own a))->h.get? b=some u->h'.get? b=some u)
  (ho:∀b,H b=some (.own a)->H' b=some (.own a)) (ht:∀b xs,H b=some (.tup xs)->H' b=some (.tup xs)):Ks P w H' h' a o:=by
 induction o with
 |lst xs=>obtain⟨z,its,n,r,e⟩:=x;exact⟨z,its,n,r,k _ _ (.inl rfl) e⟩
 |tup xs=>obtain⟨z,its,r,ob,e,c⟩:=x;exact⟨z,its,r,ob,k _ _ (.inl rfl) e,c⟩
 |dK kvs=>obtain⟨z,y,vs,r,ob,es,ep,e,c⟩:=x;exact⟨z,y,vs,r,ob,es,ep,k _ _ (.inl rfl) e,c⟩
 |dT kvs=>
  obtain⟨z,y,xs,r,ob,es,ep,e,c⟩:=x;exact⟨z,y,xs,r,ob,es,ep,k _ _ (.inl rfl) e,c⟩
 |set S n=>obtain⟨ob,es,ep,t,e,c⟩:=x;exact⟨ob,es,ep,t,k _ _ (.inl rfl) e,c⟩
 |ins C dx fs=>
  obtain⟨d,z,ne,e,mA,⟨od,es,ep,e2,c⟩,r⟩:=x;exact⟨ho _ d,z,ne,k _ _ (.inl rfl) e,mA,⟨od,es,ep,k _ _ (.inr d) e2,c⟩,r⟩
 |own y=>obtain⟨ob,e⟩:=x;exact⟨ob,k _ _ (.inl rfl) e⟩
 |xd fs=>obtain⟨mA,⟨od,es,ep,e,c⟩,r⟩:=x;exact⟨mA,⟨od,es,ep,k _ _ (.inl rfl) e,c⟩,r⟩
 |rng lo hi=>obtain⟨t,u,v,e⟩:=x;exact⟨t,u,v,k _ _ (.inl rfl) e⟩
 |frz ob u ih=>obtain⟨e,q⟩:=x;exact⟨k _ _ (.inl rfl) e,ih q⟩
 |tbl ps=>
  have e:h.get? a=some {cls:=.none,data:=.fields ps}:=x;show h'.get? a=some {cls:=.none,data:=.fields ps};exact k a _ (.inl rfl) e
 |met f y=>
  have e:h.get? a=some (PySem.W.methodObj (.ref f) (.ref y)):=x;show h'.get? a=some (PySem.W.methodObj (.ref f) (.ref y));exact k a _ (.inl rfl) e
 |ext φ=>obtain⟨p,⟨o,e⟩,st⟩:=x;exact⟨st _ _ p fun o q=>k _ _ (.inl rfl) q,⟨o,k _ _ (.inl rfl) e⟩,st⟩
def HOk.lt(x:HOk P w H h)(e:H a=some o):a<h.objs.size:=(x a o e).lt
def HOk.fresh(x:HOk P w H h)(e:h.objs.size<=a):H a=none:=by
 cases q:H a with
 |none=>rfl
 |some u=>exact absurd (Ag (x.lt q) e) (Ax _)
def HOk.kept(x:HOk P w H h)(k:∀b u,h.get? b=some u->h'.get? b=some u):HOk P w H h':=fun a o e=>
 (x a o e).stay (fun b u _ q=>k b u q) (fun _ q=>q) fun _ _ q=>q
def HOk.laid(x:HOk P w H h)(k:∀b u,h.get? b=some u->h'.get? b=some u)(hp:h.objs.size<=a)(new:Ks P w (upd H a o) h' a o):HOk P w (upd H a o) h':=fun b u e=>by
 have hn:=x.fresh hp;by_cases hb:b=a
 ·subst hb;rw[Ho]at e;cases e;exact new
 ·rw[Gv hb]at e;exact(x b u e).stay (fun c v _ q=>k c v q) (fun c q=>by rw[Gv (Hf q hn)];exact q) fun c xs q=>by rw[Gv (Hf q hn)];exact q
end
def Rd(H:Hp)(a:BP)(u:HO):Prop:=H a=some u\/∃o,H a=some (.frz o u)
def Rd.ok(r:Rd H a u)(x:HOk P w H h):Ks P w H h a u:=by
 rcases r with r|⟨o,r⟩
 ·exact x a u r
 ·obtain⟨_,q⟩:=x a _ r;exact q
def Mut:BQ HO->Prop
 |some (.lst _)=>True
 |some (.dK _)=>True
 |some (.dT _)=>True
 |some (.set _ _)=>True
 |some (.ins _ _ _)=>True
 |some (.ext _)=>True
 |_=>False
def HOk.write{H:Hp}{h h':Heap}(ok:HOk P w H h)(mu:Mut (H x))(he:e=x\/H e=some (.own x))(k:∀b u,b≠e->h.get? b=some u->h'.get? b=some u)(heo:∃u,h'.get? e=some u)(new:Ks P w (upd H x o') h' x o'):HOk P w (upd H x o') h':=fun b u q=>by
 have nown:∀c y,H c=some (.own y)->c≠x:=fun c y r z=>by subst z;rw[r]at mu;exact mu
 have ntup:∀c xs,H c=some (.tup xs)->c≠x:=fun c xs r z=>by subst z;rw[r]at mu;exact mu
 by_cases hb:b=x
 ·subst hb;rw[Ho]at q;cases q;exact new
 ·rw[Gv hb]at q;by_cases hbe:b=e
  ·have q':H b=some (.own x):=by
    rcases he with z|z
    ·exact absurd (hbe.trans z) hb
    ·rw[hbe];exact z
   rw[q]at q';cases q';obtain⟨v,hv⟩:=heo;exact⟨v,by rw[hbe];exact hv⟩
  ·refine(ok b u q).stay (fun c v hc r=>k c v ?_ r) (fun c r=>by rw[Gv (nown c b r)];exact r) fun c xs r=>by rw[Gv (ntup c xs r)];exact r
   rcases hc with rfl|hc
   ·exact hbe
   ·rintro rfl;rcases he with z|z
    ·exact nown c b hc z
    ·rw[hc]at z;cases z;exact hb rfl
structure Un(fs ex:List BP)(H H':Hp)(h h':Heap):Prop where
 keep:∀b o,h.get? b=some o->H b=none->b∉fs->b∉ex->h'.get? b=some o
 slot:∀b o,h.get? b=some o->H b=none->b∈fs->b∉ex->∃sl,h'.get? b=some {o with slots:=sl}
 free:∀b o,h.get? b=some o->H b=none->b∉ex->H' b=none
 there:∀b o,h.get? b=some o->b∉ex->∃o',h'.get? b=some o'
 tups:∀b xs,H b=some (.tup xs)->H' b=some (.tup xs)
 frzs:∀b o u,H b=some (.frz o u)->H' b=some (.frz o u)
 tbls:∀b ps,H b=some (.tbl ps)->∃more,H' b=some (.tbl (ps++more))
section
variable{fs fs' ex ex':List BP}{H H1 H2:Hp}{h h1 h2 h':Heap}{a x e:BP}{o:HO}
noncomputable def Un.any(u:Un fs ex H H1 h h1){ob:Obj}(q:h.get? b=some ob)(n:H b=none)(hx:b∉ex):∃sl,h1.get? b=some {ob with slots:=sl}:=by
 by_cases hb:b∈fs
 ·exact u.slot b ob q n hb hx
 ·exact⟨ob.slots,u.keep b ob q n hb hx⟩
def Un.kept(k:∀b u,h.get? b=some u->h'.get? b=some u):Un fs ex H H h h':=
 ⟨fun b ob q _ _ _=>k b ob q,fun b ob q _ _ _=>⟨ob.slots,k b ob q⟩,fun _ _ _ n _=>n,fun b ob q _=>⟨ob,k b ob q⟩,fun _ _ q=>q,fun _ _ _ q=>q,fun _ ps q=>⟨#[],by rw[q];simp⟩⟩
def Un.refl:Un fs ex H H h h:=Un.kept fun _ _ q=>q
def Un.laid(k:∀b u,h.get? b=some u->h'.get? b=some u)(hp:h.objs.size<=a)(hn:H a=none):Un fs ex H (upd H a o) h h' where
 keep:=fun b u q _ _ _=>k b u q
 slot:=fun b u q _ _ _=>⟨u.slots,k b u q⟩
 free:=fun b u q n _=>by rw[Gv (An (Ag (Ae q) hp))];exact n
 there:=fun b u q _=>⟨u,k b u q⟩
 tups:=fun b xs q=>by rw[Gv (Hf q hn)];exact q
 frzs:=fun b u xs q=>by rw[Gv (Hf q hn)];exact q
 tbls:=fun b ps q=>⟨#[],by rw[Gv (Hf q hn),q];simp⟩
def Un.write(mu:Mut (H x))(he:e=x\/H e=some (.own x))(k:∀b u,b≠e->h.get? b=some u->h'.get? b=some u)(heo:∃u,h'.get? e=some u):Un fs ex H (upd H x o) h h':=by
 have hx:∀b,H b=none->b≠x:=fun b n z=>by subst z;rw[n]at mu;exact mu
 have hb:∀b,H b=none->b≠e:=fun b n z=>by
  subst z;rcases he with r|r
  ·exact hx b n r
  ·rw[n]at r;cases r
 have hm:∀b u,H b=some u->¬Mut (some u)->b≠x:=fun b u q nm z=>by subst z;rw[q]at mu;exact nm mu
 refine⟨fun b u q n _ _=>k b u (hb b n) q,fun b u q n _ _=>⟨u.slots,k b u (hb b n) q⟩,fun b u q n _=>by rw[Gv (hx b n)]; exact n,fun b u q _=>?_,
  fun b xs q=>by rw[Gv (hm b _ q fun z=>z)]; exact q,fun b u xs q=>by rw[Gv (hm b _ q fun z=>z)]; exact q,fun b ps q=>⟨#[],by rw[Gv (hm b _ q fun z=>z),q]; simp⟩⟩
 by_cases hbe:b=e
 ·subst hbe;exact heo
 ·exact⟨u,k b u hbe q⟩
end
noncomputable def trk(h:Heap)(H:Hp):List BP:=(List.range h.objs.size).filter fun a=>(H a).isSome
def Gf6(h:Heap)(H:Hp):Heap:=PySem.W.hideAll h (trk h H)
def Gmm(h:Heap)(H:Hp):(Gf6 h H).objs.size=h.objs.size:=PySem.W.hideAll_size _ _
def Gnp{h:Heap}{H:Hp}(e:h.get? b=some o)(n:H b=none):(Gf6 h H).get? b=some o:=
 PySem.W.hideAll_get _ e fun hm=>by
  have q:(H b).isSome=true:=(List.mem_filter.mp hm).2;rw[n]at q;simp at q
def of_hidT{h:Heap}{H:Hp}(e:(Gf6 h H).get? b=some o):h.get? b=some o/\H b=none:=by
 have e':h.get? b=some o:=PySem.W.of_hideAll (trk h H) e;refine⟨e',?_⟩;cases q:H b with
 |none=>rfl
 |some x=>
  have hm:b∈trk h H:=List.mem_filter.mpr ⟨AQ.mpr (Ae e'),by simp[q]⟩;have z:(Gf6 h H).get? b=none:=PySem.W.hideAll_none (trk h H) hm;rw[z]at e;cases e
def Grl(g h:Heap)(L:BP):List (BP×Obj):=(List.range h.objs.size).filterMap fun a=>if a=L\/(g.get? a).isSome=true then none else(h.get? a).map fun o=>(a,o)
def rest(g h:Heap)(L d:BP):List (BP×Obj):=(Grl g h L).filter fun p=>decide (p.1≠d)
structure Mod(K:BM)(mg:Str->BQ BN)(base:Heap):Prop where
 kin:K.In base
 glob:base.Ns mainGlobals mg
 blt:∃mb,base.Ns builtinsNs mb/\∀x:Str,x≠"__name__"->mb x=bootBuiltins x
 nolimit:base.NoLimit
structure Cx where
 prog:BR
 w:World
 K:BM
 mg:Str->BQ BN
 base:Heap
 A:Around
 N:List Str
 s₀:BO
 H₀:Hp
 env:Env
 outer:List Env
 stack:List Env
 ex:List BP
 fn:Str->Bool
 calm:Bool
 pn:List (BP×Obj)
 xe:BN->BO->Prop
noncomputable def frs(l:List Env):List BP:=l.filterMap (·.frame)
abbrev Cx.fs(X:Cx):List BP:=frs X.outer
def Vis(sc:Scope)(x:Str):Prop:=sc.names.lookup x=some .local\/sc.names.lookup x=some .cell\/sc.names.lookup x=some .free
def Loc(sc:Scope)(x:Str):Prop:=sc.names.lookup x=some .local\/sc.names.lookup x=some .cell
def Look(env:Env)(h:Heap)(m:Str->BQ BN)(x:Str)(u:BN):Prop:=
 (env.kindOf x=some .local/\m x=some u)\/((env.kindOf x=some .cell\/env.kindOf x=some .free)/\∃c,env.cells.lookup x=some c/\h.IsCell c (some u))
structure Cx.Ok(X:Cx):Prop where
 mod:Mod X.K X.mg X.base
 kind:X.env.scope.kind=.function
 glob:X.env.globals=mainGlobals
 blt:X.env.builtins=builtinsNs
 above:X.s₀.heap.objs.size<=X.env.locals
 inj:∀x y c,X.env.cells.lookup x=some c->X.env.cells.lookup y=some c->x=y
 has:∀x,(X.env.kindOf x=some .cell\/X.env.kindOf x=some .free)->∃c,X.env.cells.lookup x=some c
 cab:∀x c,X.fn x=true->X.env.cells.lookup x=some c->X.s₀.heap.objs.size<=c
 hd:X.calm=true->X.A.handled=none
 frames:X.A.frames=some X.stack
 stk:X.stack=X.outer\/(X.stack=X.env::X.outer/\X.env.frame=some X.env.locals)
 exf:∀b∈X.ex,b≠X.env.locals/\∀x c,X.env.cells.lookup x=some c->c≠b
 bs:∀b o,X.base.get? b=some o->X.s₀.heap.get? b=some o/\X.H₀ b=none
 bsz:X.base.objs.size<=X.s₀.heap.objs.size
 noex:∀b o,X.base.get? b=some o->b∉X.ex
 exfs:∀b∈X.ex,b∉X.fs
 funs:X.s₀.heap.FunFrames X.base X.outer
 frf:∀b∈X.fs,X.H₀ b=none
structure Inv(X:Cx)(pins:List (BP×Obj))(O:List (BQ V))(H:Hp)(s:BO):Prop where
 ok:X.Ok
 os:s.os=X.s₀.os
 bare:AllBare s.gens
 base:Un X.fs X.ex X.H₀ H X.s₀.heap s.heap
 loc:∃m,s.heap.Ns X.env.locals m/\∀(i:Nat)(x:Str)(v:V),X.N[i]?=some x->O[i]?=some (some v)->Vis X.env.scope x->∃u,Hg v u/\Look X.env s.heap m x u
 cell:∀x c,X.env.cells.lookup x=some c->∃v,s.heap.IsCell c v
 free:H X.env.locals=none
 freeC:∀x c,X.env.cells.lookup x=some c->H c=none
 pin:∀p∈X.pn++pins,s.heap.get? p.1=some p.2/\H p.1=none/\p.1≠X.env.locals/\p.1∉X.fs/\∀v,p.2.data≠.cell v
 hok:HOk X.prog X.w H s.heap
 len:O.length=X.N.length
section
variable{X:Cx}{pins:List (BP×Obj)}{O:List (BQ V)}{H H':Hp}{s:BO}{h':Heap}
def Cx.Ok.nofr(ok:X.Ok)(e:X.base.get? b=some o):b∉X.fs:=fun hb=>by
 have:=(ok.funs.mem hb).1;rw[e]at this;cases this
def Inv.bs(I:Inv X pins O H s):∀b o,X.base.get? b=some o->s.heap.get? b=some o/\H b=none:=fun b o e=>
 ⟨I.base.keep b o (I.ok.bs b o e).1 (I.ok.bs b o e).2 (I.ok.nofr e) (I.ok.noex b o e),I.base.free b o (I.ok.bs b o e).1 (I.ok.bs b o e).2 (I.ok.noex b o e)⟩
def Inv.bk(I:Inv X pins O H s):∀b o,X.base.get? b=some o->s.heap.get? b=some o:=fun b o e=>(I.bs b o e).1
def Inv.mod(I:Inv X pins O H s):Mod X.K X.mg X.base:=I.ok.mod
def Inv.kIn(I:Inv X pins O H s):X.K.In s.heap:=I.ok.mod.kin.keeps I.bk
def Inv.lt(I:Inv X pins O H s):X.env.locals<s.heap.objs.size:=let⟨_,hn,_⟩:=I.loc;hn.lt
def Inv.sz(I:Inv X pins O H s):X.s₀.heap.objs.size<=s.heap.objs.size:=Ak I.ok.above (Nat.le_of_lt I.lt)
def Inv.nofs(I:Inv X pins O H s)(h:s.heap.objs.size<=a):a∉X.fs:=fun hb=>by
 obtain⟨_,o,ho,_⟩:=I.ok.funs.mem hb;exact absurd (Ag (Ae ho) (Ak I.sz h)) (Ax _)
def Inv.cne(I:Inv X pins O H s):∀x c,X.env.cells.lookup x=some c->c≠X.env.locals:=fun x c e z=>by
 obtain⟨v,o,ho,hd⟩:=I.cell x c e;obtain⟨m,⟨o',es,ep,ho',hd',_⟩,_⟩:=I.loc;rw[z,ho']at ho;cases ho;rw[hd']at hd;cases hd
def Inv.funs(I:Inv X pins O H s):s.heap.FunFrames X.base X.outer:=by
 have all:∀(l:List Env),(∀b∈frs l,b∈X.fs)->X.s₀.heap.FunFrames X.base l->s.heap.FunFrames X.base l:=by
  intro l;induction l with
  |nil=>intro _ _;trivial
  |cons env r ih=>
   intro hs hl;obtain⟨hk,⟨L,o,hf,hn,ho,hd⟩,hr⟩:=hl;have hL:L∈X.fs:=hs L (by unfold frs;rw[BI,hf];exact Aw);obtain⟨sl,e⟩:=I.base.slot L o ho (I.ok.frf L hL) hL fun z=>I.ok.exfs L z hL;exact⟨hk,⟨L,_,hf,hn,e,hd⟩,ih (fun b hb=>hs b (by unfold frs;rw[BI,hf];exact Au _ hb)) hr⟩
 exact all X.outer (fun _ hb=>hb) I.ok.funs
def Inv.stack(I:Inv X pins O H s):s.heap.FunFrames X.base X.stack:=by
 rcases I.ok.stk with e|⟨e,hf⟩
 ·rw[e];exact I.funs
 ·rw[e];obtain⟨m,hn,_⟩:=I.loc;refine .cons (by rw[I.ok.kind];decide) hf hn ?_ I.funs;exact A4 (Ak I.ok.bsz I.ok.above)
def Inv.stkSub(I:Inv X pins O H s):∀b∈frs X.stack,b∈X.env.locals::X.fs:=fun b hb=>by
 rcases I.ok.stk with e|⟨e,hf⟩
 ·rw[e]at hb;exact Au _ hb
 ·rw[e]at hb;unfold frs at hb;rw[BI,hf]at hb;exact hb
def Inv.stkFree(I:Inv X pins O H s):∀b∈frs X.stack,H b=none:=fun b hb=>by
 rcases Ad.mp (I.stkSub b hb)with e|hb
 ·rw[e];exact I.free
 ·obtain⟨_,o,ho,_⟩:=I.ok.funs.mem hb;exact I.base.free b o ho (I.ok.frf b hb) fun z=>I.ok.exfs b z hb
def Inv.step{ch:List BP}(I:Inv X pins O H s)(hch:∀b∈ch,(b∈X.ex\/X.s₀.heap.objs.size<=b)/\b≠X.env.locals/\(∀x c,X.env.cells.lookup x=some c->c≠b)/\∀p∈X.pn++pins,p.1≠b)(keep:∀b o,b≠X.env.locals->b∉X.fs->b∉ch->s.heap.get? b=some o->H b=none->h'.get? b=some o)(slot:∀b o,b≠X.env.locals->b∈X.fs->b∉ch->s.heap.get? b=some o->H b=none->∃sl,h'.get? b=some {o with slots:=sl})(free:∀b o,b∉ch->s.heap.get? b=some o->H b=none->H' b=none)(there:∀b o,b∉ch->s.heap.get? b=some o->∃o',h'.get? b=some o')(tups:∀b xs,H b=some (.tup xs)->H' b=some (.tup xs))(frzs:∀b o u,H b=some (.frz o u)->H' b=some (.frz o u))(tbls:∀b ps,H b=some (.tbl ps)->∃more,H' b=some (.tbl (ps++more)))(ns:∀m,s.heap.Ns X.env.locals m->h'.Ns X.env.locals m)(hok:HOk X.prog X.w H' h')(hg:AllBare g'):
  Inv X pins O H' {s with heap:=h',gens:=g',drawn:=d',toks:=t'}:=by
 have neL:∀b o,X.s₀.heap.get? b=some o->b≠X.env.locals:=fun b o e=>An (Ag (Ae e) I.ok.above);have neC:∀b o,X.s₀.heap.get? b=some o->b∉X.ex->b∉ch:=fun b o e hx hb=>by
  rcases(hch b hb).1 with z|z
  ·exact hx z
  ·exact absurd (Ag (Ae e) z) (Ax _)
 have cellK:∀x c,X.env.cells.lookup x=some c->∀v,s.heap.IsCell c v->h'.IsCell c v:=fun x c e v ⟨o,ho,hd⟩=>by
  have nch:c∉ch:=fun z=>(hch c z).2.2.1 x c e rfl;by_cases hc:c∈X.fs
  ·obtain⟨sl,q⟩:=slot c o (I.cne x c e) hc nch ho (I.freeC x c e);exact⟨_,q,hd⟩
  ·exact⟨o,keep c o (I.cne x c e) hc nch ho (I.freeC x c e),hd⟩
 refine⟨I.ok,I.os,hg,⟨fun b o e n hb hx=>?_,fun b o e n hb hx=>?_,fun b o e n hx=>?_,fun b o e hx=>?_,fun b xs e=>tups b xs (I.base.tups b xs e),fun b o xs e=>frzs b o xs (I.base.frzs b o xs e),fun b ps e=>?_⟩,?_,fun x c e=>?_,?_,fun x c e=>?_,fun p hp=>?_,hok,I.len⟩
 ·exact keep b o (neL b o e) hb (neC b o e hx) (I.base.keep b o e n hb hx) (I.base.free b o e n hx)
 ·obtain⟨sl,e1⟩:=I.base.slot b o e n hb hx;obtain⟨sl',e2⟩:=slot b _ (neL b o e) hb (neC b o e hx) e1 (I.base.free b o e n hx);exact⟨sl',e2⟩
 ·obtain⟨o',e1⟩:=I.base.there b o e hx;exact free b o' (neC b o e hx) e1 (I.base.free b o e n hx)
 ·obtain⟨o',e1⟩:=I.base.there b o e hx;exact there b o' (neC b o e hx) e1
 ·obtain⟨m1,e1⟩:=I.base.tbls b ps e;obtain⟨m2,e2⟩:=tbls b _ e1;exact⟨m1++m2,by rw[e2,Array.append_assoc]⟩
 ·obtain⟨m,hn,hl⟩:=I.loc;refine⟨m,ns m hn,fun i x v e1 e2 e3=>?_⟩;obtain⟨u,r,l⟩:=hl i x v e1 e2 e3;refine⟨u,r,?_⟩;rcases l with l|⟨k,c,e,z⟩
  ·exact .inl l
  ·exact .inr ⟨k,c,e,cellK x c e _ z⟩
 ·obtain⟨v,z⟩:=I.cell x c e;exact⟨v,cellK x c e v z⟩
 ·obtain⟨m,⟨o,_,_,ho,_⟩,_⟩:=I.loc;exact free _ o (fun z=>(hch _ z).2.1 rfl) ho I.free
 ·obtain⟨v,o,ho,hd⟩:=I.cell x c e;exact free c o (fun z=>(hch c z).2.2.1 x c e rfl) ho (I.freeC x c e)
 ·obtain⟨e,n,ne,nf,d⟩:=I.pin p hp;have nch:p.1∉ch:=fun z=>(hch p.1 z).2.2.2 p hp rfl;exact⟨keep p.1 p.2 ne nf nch e n,free p.1 p.2 nch e n,ne,nf,d⟩
def Inv.un(I:Inv X pins O H s)(u:Un X.fs [] H H' s.heap h')(hok:HOk X.prog X.w H' h'):Inv X pins O H' {s with heap:=h',toks:=t'}:=by
 obtain⟨m,⟨o,es,ep,ho,r⟩,_⟩:=id I.loc;obtain⟨sl,hL⟩:=u.any ho I.free (by simp);exact I.step (g':=s.gens) (d':=s.drawn) (ch:=[]) (fun _ z=>nomatch z) (fun b o _ hb _ e n=>u.keep b o e n hb (by simp)) (fun b o _ hb _ e n=>u.slot b o e n hb (by simp)) (fun b o _ e n=>u.free b o e n (by simp)) (fun b o _ e=>u.there b o e (by simp)) u.tups u.frzs u.tbls (fun m' hm=>by
  obtain⟨o',es',ep',ho',r'⟩:=hm;rw[ho]at ho';cases ho';exact⟨_,es',ep',hL,r'⟩) hok I.bare
def Inv.call{ch:List BP}(I:Inv X pins O H s)(u:Un (frs X.stack) ch H H' s.heap h')(hok:HOk X.prog X.w H' h')(hg:AllBare g')(hch:∀b∈ch,(b∈X.ex\/X.s₀.heap.objs.size<=b)/\b≠X.env.locals/\(∀x c,X.env.cells.lookup x=some c->c≠b)/\∀p∈X.pn++pins,p.1≠b):
  Inv X pins O H' {s with heap:=h',gens:=g',drawn:=d',toks:=t'}:=by
 obtain⟨m,⟨o,es,ep,ho,r⟩,_⟩:=id I.loc;obtain⟨sl,hL⟩:=u.any ho I.free fun z=>(hch _ z).2.1 rfl;exact I.step (ch:=ch) hch (fun b o hL hb hc e n=>u.keep b o e n (fun z=>(Ad.mp (I.stkSub b z)).elim hL hb) hc) (fun b o _ _ hc e n=>u.any e n hc) (fun b o hc e n=>u.free b o e n hc) (fun b o hc e=>u.there b o e hc) u.tups u.frzs u.tbls (fun m' hm=>by
  obtain⟨o',es',ep',ho',r'⟩:=hm;rw[ho]at ho';cases ho';exact⟨_,es',ep',hL,r'⟩) hok hg
def Inv.turned(I:Inv X pins O H s)(k:∀b o,b≠it->s.heap.get? b=some o->h'.get? b=some o)(hn:H it=none)(hL:it≠X.env.locals)(h1:it∈X.ex\/X.s₀.heap.objs.size<=it)(h2:∀x c,X.env.cells.lookup x=some c->c≠it)(h3:∀p∈X.pn++pins,p.1≠it):Inv X pins O H {s with heap:=h',toks:=t'}:=by
 have nit:∀b u,H b=some u->b≠it:=fun b u e z=>by rw[z,hn]at e;cases e
 refine I.step (g':=s.gens) (d':=s.drawn) (ch:=[it]) (fun b hb=>?_) (fun b o _ _ hc e _=>k b o (fun z=>hc (by simp[z])) e) (fun b o _ _ hc e _=>⟨o.slots,k b o (fun z=>hc (by simp[z])) e⟩) (fun _ _ _ _ n=>n)
  (fun b o hc e=>⟨o,k b o (fun z=>hc (by simp[z])) e⟩) (fun _ _ e=>e) (fun _ _ _ e=>e) (fun b ps e=>⟨#[],by rw[e];simp⟩) (fun m hm=>?_) (fun b u e=>?_) I.bare
 ·have e:b=it:=by simpa using hb
  subst e;exact⟨h1,hL,h2,h3⟩
 ·obtain⟨o,es,ep,ho,r⟩:=hm;exact⟨o,es,ep,k _ o (Ne.symm hL) ho,r⟩
 ·refine(I.hok b u e).stay (fun c v hc q=>k c v ?_ q) (fun _ q=>q) fun _ _ q=>q;rcases hc with z|z
  ·rw[z];exact nit b u e
  ·exact nit c _ z
def Inv.tok(I:Inv X pins O H s)(t:Nat):Inv X pins O H {s with toks:=t}:=I.un (h':=s.heap) (t':=t) Un.refl I.hok
def Inv.kept(I:Inv X pins O H s)(k:∀b u,s.heap.get? b=some u->h'.get? b=some u):Inv X pins O H {s with heap:=h',toks:=t'}:=I.un (Un.kept k) (I.hok.kept k)
def Inv.laid(I:Inv X pins O H s)(k:∀b u,s.heap.get? b=some u->h'.get? b=some u)(hp:s.heap.objs.size<=a)(new:Ks X.prog X.w (upd H a o) h' a o):
  Inv X pins O (upd H a o) {s with heap:=h',toks:=t'}:=I.un (Un.laid k hp (I.hok.fresh hp)) (I.hok.laid k hp new)
def Inv.write(I:Inv X pins O H s)(mu:Mut (H x))(he:e=x\/H e=some (.own x))(k:∀b u,b≠e->s.heap.get? b=some u->h'.get? b=some u)(heo:∃u,h'.get? e=some u)(new:Ks X.prog X.w (upd H x o) h' x o):Inv X pins O (upd H x o) {s with heap:=h',toks:=t'}:=I.un (Un.write mu he k heo) (I.hok.write mu he k heo new)
def Inv.pins_of(I:Inv X pins O H s)(h:∀p∈pins',s.heap.get? p.1=some p.2/\H p.1=none/\p.1≠X.env.locals/\p.1∉X.fs/\∀v,p.2.data≠.cell v):Inv X pins' O H s:=
 ⟨I.ok,I.os,I.bare,I.base,I.loc,I.cell,I.free,I.freeC,fun p hp=>(Ay.mp hp).elim (fun z=>I.pin p (Bp _ z)) (h p),I.hok,I.len⟩
def Gh5{N:List Str}(hN:N.Nodup){i j:Nat}{x:Str}(a:N[i]?=some x)(b:N[j]?=some x):i=j:=by
 obtain⟨h1,e1⟩:=Aa.mp a;obtain⟨h2,e2⟩:=Aa.mp b;exact(List.getElem_inj hN).mp (e1.trans e2.symm)
def Gb0{Q:Unit->BO->Prop}(I:Inv X pins O H s)(hN:X.N.Nodup)(hi:X.N[i]?=some x)(hx:Loc X.env.scope x)(r:Hg v u)(h:∀s',Inv X pins (O.set i (some v)) H s'->(∃a,Heap.SameBut a s.heap s'.heap/\(a=X.env.locals\/X.env.cells.lookup x=some a))->Q () s')(hf:autoParam (X.fn x=true\/X.env.scope.names.lookup x=some .local) zQ0):wpAny M A (storeName X.env x u) Q E s:=by
 obtain⟨m,hn,hl⟩:=id I.loc;have hcls:(X.env.scope.kind==.class||(X.env.scope.kind==.module&&X.env.locals != X.env.globals))=false:=by rw[I.ok.kind];rfl
 have hiO:i<O.length:=by rw[I.len];exact(Aa.mp hi).1
 have cne:=I.cne;have tracked:∀{a:BP}{h':Heap},(∃o,s.heap.get? a=some o/\H a=none)->Heap.SameBut a s.heap h'->HOk X.prog X.w H h':=fun{a h'} ha hs b ob e=>by
  obtain⟨_,_,hfree⟩:=ha;refine(I.hok b ob e).stay (fun c w' hc q=>(hs.2 c ?_).trans q) (fun _ q=>q) fun _ _ q=>q;rintro rfl;rcases hc with rfl|hc
  ·rw[hfree]at e;cases e
  ·rw[hfree]at hc;cases hc
 rcases hx with hk|hk
 ·refine wpAny_storeName_local hk hn (fun h' hn' hs=>?_) hcls;obtain⟨oL,_,_,hoL,_⟩:=id hn;refine h _ ⟨I.ok,I.os,I.bare,⟨fun b o e n hb hx=>?_,fun b o e n hb hx=>?_,I.base.free,fun b o e hx=>?_,I.base.tups,I.base.frzs,I.base.tbls⟩,⟨_,hn',fun j y v' e1 e2 e3=>?_⟩,fun y c e=>?_,I.free,I.freeC,fun p hp=>?_,tracked ⟨oL,hoL,I.free⟩ hs,by simpa using I.len⟩ ⟨_,hs,.inl rfl⟩
  ·exact(hs.2 b (An (Ag (Ae e) I.ok.above))).trans (I.base.keep b o e n hb hx)
  ·obtain⟨sl,e1⟩:=I.base.slot b o e n hb hx;exact⟨sl,(hs.2 b (An (Ag (Ae e) I.ok.above))).trans e1⟩
  ·obtain⟨o',e1⟩:=I.base.there b o e hx;exact⟨o',(hs.2 b (An (Ag (Ae e) I.ok.above))).trans e1⟩
  ·by_cases hj:j=i
   ·subst hj;rw[hi]at e1;cases e1;rw[As hiO]at e2;cases e2;exact⟨u,r,.inl ⟨hk,by simp⟩⟩
   ·rw[Ah (Ne.symm hj)]at e2;obtain⟨u',r',q⟩:=hl j y v' e1 e2 e3;refine⟨u',r',?_⟩;rcases q with⟨k,e⟩|⟨k,c,e,z⟩
    ·refine .inl ⟨k,?_⟩;have:y≠x:=fun e=>hj (Gh5 hN e1 (e▸hi));simp[this,e]
    ·exact .inr ⟨k,c,e,z.sameBut hs (cne y c e)⟩
  ·obtain⟨w',z⟩:=I.cell y c e;exact⟨w',z.sameBut hs (cne y c e)⟩
  ·obtain⟨e,n,ne,nf,d⟩:=I.pin p hp;exact⟨(hs.2 p.1 ne).trans e,n,ne,nf,d⟩
 ·have hfn:X.fn x=true:=by
   rcases hf with z|z
   ·exact z
   ·rw[z]at hk;cases hk
  obtain⟨c,hc⟩:=I.ok.has x (.inl hk);obtain⟨w',z⟩:=I.cell x c hc;refine wpAny_storeName_cell I.ok.kind hk hc z (fun h' hc' hs=>?_);obtain⟨oc,hoc,hocd⟩:=id z;refine h {s with heap:=h'} ⟨I.ok,I.os,I.bare,⟨fun b o e n hb hx=>?_,fun b o e n hb hx=>?_,I.base.free,fun b o e hx=>?_,I.base.tups,I.base.frzs,I.base.tbls⟩,⟨m,hn.sameBut hs (Ne.symm (cne x c hc)),fun j y v' e1 e2 e3=>?_⟩,fun y c' e=>?_,I.free,I.freeC,fun p hp=>?_,tracked ⟨oc,hoc,I.freeC x c hc⟩ hs,by simpa using I.len⟩ ⟨c,hs,.inr hc⟩
  ·exact(hs.2 b (An (Ag (Ae e) (I.ok.cab x c hfn hc)))).trans (I.base.keep b o e n hb hx)
  ·obtain⟨sl,e1⟩:=I.base.slot b o e n hb hx;exact⟨sl,(hs.2 b (An (Ag (Ae e) (I.ok.cab x c hfn hc)))).trans e1⟩
  ·obtain⟨o',e1⟩:=I.base.there b o e hx;exact⟨o',(hs.2 b (An (Ag (Ae e) (I.ok.cab x c hfn hc)))).trans e1⟩
  ·by_cases hj:j=i
   ·subst hj;rw[hi]at e1;cases e1;rw[As hiO]at e2;cases e2;exact⟨u,r,.inr ⟨.inl hk,c,hc,hc'⟩⟩
   ·rw[Ah (Ne.symm hj)]at e2;obtain⟨u',r',q⟩:=hl j y v' e1 e2 e3;refine⟨u',r',?_⟩;rcases q with q|⟨k,c',e,z'⟩
    ·exact .inl q
    ·refine .inr ⟨k,c',e,z'.sameBut hs ?_⟩;rintro rfl;exact hj (Gh5 hN e1 (I.ok.inj _ _ _ e hc▸hi))
  ·by_cases hcc:c'=c
   ·subst hcc;exact⟨_,hc'⟩
   ·obtain⟨w2,z2⟩:=I.cell y c' e;exact⟨w2,z2.sameBut hs hcc⟩
  ·obtain⟨e,n,ne,nf,d⟩:=I.pin p hp;refine⟨(hs.2 p.1 ?_).trans e,n,ne,nf,d⟩;intro q;rw[q,hoc]at e;have q':oc=p.2:=Ab e;exact d w' (by rw[<- q'];exact hocd)
def Ga6{Q:Unit->BO->Prop}(I:Inv X pins O H s)(hN:X.N.Nodup)(hi:X.N[i]?=some x)(hx:Loc X.env.scope x)(r:Hg v u)(h:∀s',Inv X pins (O.set i (some v)) H s'->Q () s')(hf:autoParam (X.fn x=true\/X.env.scope.names.lookup x=some .local) zQ0):wpAny M A (storeName X.env x u) Q E s:=
 Gb0 I hN hi hx r (fun s' I' _=>h s' I') hf
def Inv.call'{s':BO}{ch:List BP}(I:Inv X pins O H s)(ho:s'.os=s.os)(u:Un (frs X.stack) ch H H' s.heap s'.heap)(hok:HOk X.prog X.w H' s'.heap)(hg:AllBare s'.gens)
  (hch:∀b∈ch,(b∈X.ex\/X.s₀.heap.objs.size<=b)/\b≠X.env.locals/\(∀x c,X.env.cells.lookup x=some c->c≠b)/\∀p∈X.pn++pins,p.1≠b):Inv X pins O H' s':=by
 obtain⟨h',g',d',t',o'⟩:=s';have e:o'=s.os:=ho;subst e;exact I.call (g':=g') (t':=t') (d':=d') u hok hg hch
end
abbrev XK:=BN->BQ BP->Hp->Prop
abbrev St:=List (BQ V)
abbrev VK:=V->Hp->Prop
abbrev TE:=St->Hp->VK->Prop
abbrev TT:=St->Hp->(Bool->Hp->Prop)->Prop
abbrev TA:=St->Hp->(List V->Hp->Prop)->Prop
structure Ends where
 nx:St->Hp->Prop
 rt:VK
 bk:St->Hp->Prop:=fun _ _=>False
 ct:St->Hp->Prop:=fun _ _=>False
abbrev TS:=Ends->St->Hp->Prop
def EP(X:Cx)(pins:List (BP×Obj))(O:St)(Q:VK)(u:BN)(s':BO):Prop:=∃v H',Inv X pins O H' s'/\Hg v u/\Q v H'
def TP(X:Cx)(pins:List (BP×Obj))(O:St)(Q:Bool->Hp->Prop)(b:Bool)(s':BO):Prop:=∃H',Inv X pins O H' s'/\Q b H'
def AP(X:Cx)(pins:List (BP×Obj))(O:St)(Q:List V->Hp->Prop)(us:List BN)(s':BO):Prop:=∃vs H',Inv X pins O H' s'/\Vals vs us/\Q vs H'
def SP(X:Cx)(pins:List (BP×Obj))(D:Ends)(f:Flow)(s':BO):Prop:=
 match f with
 |.next=>∃O' H',Inv X pins O' H' s'/\D.nx O' H'
 |.brk=>∃O' H',Inv X pins O' H' s'/\D.bk O' H'
 |.cont=>∃O' H',Inv X pins O' H' s'/\D.ct O' H'
 |.ret u=>∃v O' H',Inv X pins O' H' s'/\Hg v u/\D.rt v H'
def PE(X:Cx)(e:Expr)(t:TE):Prop:=
 ∀(pins:List (BP×Obj))(s:BO)(O:St)(H:Hp)(Q:VK),Inv X pins O H s->t O H Q->wpAny (model X.prog X.w) X.A (eval e X.env) (EP X pins O Q) X.xe s
def PT(X:Cx)(e:Expr)(t:TT):Prop:=
 ∀(pins:List (BP×Obj))(s:BO)(O:St)(H:Hp)(Q:Bool->Hp->Prop),Inv X pins O H s->t O H Q->wpAny (model X.prog X.w) X.A (isTrue e X.env (eval e X.env)) (TP X pins O Q) X.xe s
def PW(X:Cx)(e:Expr)(t:TT):Prop:=
 ∀(whole:Sem BN)(pins:List (BP×Obj))(s:BO)(O:St)(H:Hp)(Q:Bool->Hp->Prop),Inv X pins O H s->t O H Q->wpAny (model X.prog X.w) X.A (isTrue e X.env whole) (TP X pins O Q) X.xe s
def PW.pt(h:PW X e t):PT X e t:=h _
def PA(X:Cx)(es:List Expr)(t:TA):Prop:=
 ∀(pos:Pos)(pins:List (BP×Obj))(s:BO)(O:St)(H:Hp)(Q:List V->Hp->Prop),Inv X pins O H s->t O H Q->wpAny (model X.prog X.w) X.A (spliced (backTo pos (starEach es X.env))) (AP X pins O Q) X.xe s
def PS(X:Cx)(st:Stmt)(t:TS):Prop:=
 ∀(pins:List (BP×Obj))(s:BO)(O:St)(H:Hp)(D:Ends),Inv X pins O H s->t D O H->wpAny (model X.prog X.w) X.A (exec st X.env) (SP X pins D) X.xe s
def PSs(X:Cx)(st:List Stmt)(t:TS):Prop:=
 ∀(pins:List (BP×Obj))(s:BO)(O:St)(H:Hp)(D:Ends),Inv X pins O H s->t D O H->wpAny (model X.prog X.w) X.A (execs st X.env) (SP X pins D) X.xe s
def thn{Q Q':Z->BO->Prop}(h:wpAny M A t Q E s)(hQ:∀a s,Q a s->Q' a s):wpAny M A t Q' E s:=wpAny_mono h hQ fun _ _ x=>x
section
variable{X:Cx}
def Gwi(i:Nat):TE:=fun O H Q=>∃v,O[i]?=some (some v)/\Q v H
def tC(v:V):TE:=fun _ H Q=>Q v H
def Gf7(hN:X.N[i]?=some x)(hv:Vis X.env.scope x)(hd:↥((x==("__debug__":Str))=false))(hcd:↥((x==("__classdict__":Str))=false)):PE X (.Name x pos) (Gwi i):=by
 intro pins s O H Q I h;obtain⟨v,e,h⟩:=h;obtain⟨m,hn,hl⟩:=I.loc;obtain⟨u,r,l⟩:=hl i x v hN e hv;have fin:EP X pins O Q u s:=⟨v,H,I,r,h⟩
 rcases l with⟨hk,hm⟩|⟨hk,c,hc,hcell⟩
 ·exact wpAny_Name (wpAny_loadName_local I.ok.kind hk hn hm fin) hd
 ·rcases hk with hk|hk
  ·exact wpAny_Name (wpAny_loadName_cell I.ok.kind hk hc hcell fin) hd
  ·exact wpAny_Name (wpAny_loadName_free I.ok.kind hk hc hcell fin hcd) hd
def Gwj:PE X (.Constant (.int i) j pos) (tC (.int i)):=fun _ _ _ H _ I h=>wpAny_Constant_int ⟨.int i,H,I.tok _,⟨_,rfl⟩,h⟩
def Ha2:PE X (.Constant (.bool b) j pos) (tC (.bl b)):=fun _ _ _ H _ I h=>Constant_bool ⟨.bl b,H,I,rfl,h⟩
def Gwk:PE X (.Constant .none j pos) (tC .non):=fun _ _ _ H _ I h=>Constant_none ⟨.non,H,I,rfl,h⟩
def Gwl:PE X (.Constant (.str x) j pos) (tC (.str x)):=fun _ _ _ H _ I h=>Calls.Constant_str ⟨.str x,H,I.tok _,⟨_,rfl⟩,h⟩
def Gl(X:Cx)(x:Str):Prop:=X.env.kindOf x=some .globalImplicit
def Ga7{Q:BN->BO->Prop}(I:Inv X pins O H s)(hg:Gl X x)(hm:X.mg x=some u)(h:Q u s)(hd:↥((x==("__debug__":Str))=false)):wpAny (model X.prog X.w) X.A (eval (.Name x pos) X.env) Q E s:=
 Calls.Name_function_global I.ok.kind hg (Calls.loadGlobal_global (by rw[I.ok.glob];exact I.mod.glob.keeps I.bk) hm h) hd
def Wo{Q:BN->BO->Prop}(I:Inv X pins O H s)(hg:Gl X x)(hm:X.mg x=none)(hv:bootBuiltins x=some u)(h:Q u s)(hn:↥(x≠"__name__"))(hd:↥((x==("__debug__":Str))=false)):wpAny (model X.prog X.w) X.A (eval (.Name x pos) X.env) Q E s:=by
 obtain⟨mb,h1,h2⟩:=I.mod.blt;exact Calls.Name_function_global I.ok.kind hg (Calls.loadGlobal_builtin (by rw[I.ok.glob];exact I.mod.glob.keeps I.bk) hm (by rw[I.ok.blt];exact h1.keeps I.bk) ((h2 x hn).trans hv) h) hd
def Gk7(hg:Gl X x)(hm:X.mg x=some u)(r:Hg v u)(hd:↥((x==("__debug__":Str))=false)):PE X (.Name x pos) (tC v):=
 fun _ _ _ H _ I h=>Ga7 I hg hm ⟨v,H,I,r,h⟩ hd
def Grm(hg:Gl X x)(hm:X.mg x=none)(hv:bootBuiltins x=some u)(r:Hg v u)(hn:↥(x≠"__name__"))(hd:↥((x==("__debug__":Str))=false)):PE X (.Name x pos) (tC v):=
 fun _ _ _ H _ I h=>Wo I hg hm hv ⟨v,H,I,r,h⟩ hn hd
variable{a b:Expr}{ta tb:TE}{pos:Pos}
variable{tA tB':TT}{rest:List Expr}
def Hdx(t u:TT):TT:=fun O H Q=>t O H fun c H1=>if c=true then u O H1 Q else Q false H1
def tOr(t u:TT):TT:=fun O H Q=>t O H fun c H1=>if c=true then Q true H1 else u O H1 Q
def Hdy(t:TT):TT:=fun O H Q=>t O H fun c H1=>Q (!c) H1
def Grn(ha:PT X a tA):PW X (.BoolOp .And [a] pos) tA:=by
 intro wh pins s O H Q I h;refine isTrue_and (thn (ha pins s O H Q I h) fun c s1 e=>?_);cases c with
 |true=>exact isTrue_and_nil e
 |false=>exact e
def Gwm(ha:PT X a tA):PW X (.BoolOp .Or [a] pos) tA:=by
 intro wh pins s O H Q I h;refine isTrue_or (thn (ha pins s O H Q I h) fun c s1 e=>?_);cases c with
 |false=>exact isTrue_or_nil e
 |true=>exact e
def Gwn(ha:PT X a tA)(hb:PW X (.BoolOp .And (b::rest) pos) tB'):PW X (.BoolOp .And (a::b::rest) pos) (Hdx tA tB'):=by
 intro wh pins s O H Q I h;refine isTrue_and (thn (ha pins s O H _ I h) fun c s1 zq0=>?_);obtain⟨H1,I1,q1⟩:=zq0;cases c with
 |true=>exact hb wh pins s1 O H1 Q I1 q1
 |false=>exact⟨H1,I1,q1⟩
def Ha3(ha:PT X a tA)(hb:PW X (.BoolOp .Or (b::rest) pos) tB'):PW X (.BoolOp .Or (a::b::rest) pos) (tOr tA tB'):=by
 intro wh pins s O H Q I h;refine isTrue_or (thn (ha pins s O H _ I h) fun c s1 zq0=>?_);obtain⟨H1,I1,q1⟩:=zq0;cases c with
 |true=>exact⟨H1,I1,q1⟩
 |false=>exact hb wh pins s1 O H1 Q I1 q1
def Gwo(ha:PT X a tA):PT X (.UnaryOp .Not a pos) (Hdy tA):=by
 intro pins s O H Q I h;exact isTrue_not (ha pins s O H (fun c H1=>Q (!c) H1) I h)
def Ha4(ta tb:TE):TE:=fun O H Q=>ta O H fun x H1=>∃c,x=.bl c/\if c=true then tb O H1 Q else Q (.bl false) H1
def Ha5(ta:TE):TE:=fun O H Q=>ta O H fun x H1=>∃c,x=.bl c/\Q (.bl (!c)) H1
def Gwp(h:PE X a t):PE X (.BoolOp op [a] pos) t:=fun pins s O H Q I hw=>BoolOp_one (h pins s O H Q I hw)
def Gwq(ha:PE X a ta)(hb:PE X (.BoolOp .And (b::rest) pos) tb):PE X (.BoolOp .And (a::b::rest) pos) (Ha4 ta tb):=by
 intro pins s O H Q I h;refine BoolOp_and (thn (ha pins s O H _ I h) fun v s1 zq0=>?_);obtain⟨x,H1,I1,r1,q1⟩:=zq0;obtain⟨c,rfl,q1⟩:=q1;cases r1;refine wpAny_truthy_bool ?_;cases c with
 |true=>exact hb pins s1 O H1 Q I1 q1
 |false=>exact⟨.bl false,H1,I1,rfl,q1⟩
def Gwr(ha:PE X a ta):PE X (.UnaryOp .Not a pos) (Ha5 ta):=by
 intro pins s O H Q I h;refine UnaryOp_ (thn (ha pins s O H _ I h) fun v s1 zq0=>?_);obtain⟨x,H1,I1,r1,q1⟩:=zq0;obtain⟨c,rfl,q1⟩:=q1;cases r1;exact not_of (wpAny_truthy_bool ⟨.bl (!c),H1,I1,rfl,q1⟩)
def tIf(t:TT)(ta tb:TE):TE:=fun O H Q=>t O H fun c H1=>if c=true then ta O H1 Q else tb O H1 Q
def Gnq(hc:PT X c tA)(ha:PE X a ta)(hb:PE X b tb):PE X (.IfExp c a b pos) (tIf tA ta tb):=by
 intro pins s O H Q I h;refine wpAny_IfExp (thn (hc pins s O H _ I h) fun d s1 zq0=>?_);obtain⟨H1,I1,q1⟩:=zq0;cases d with
 |true=>exact ha pins s1 O H1 Q I1 q1
 |false=>exact hb pins s1 O H1 Q I1 q1
end
def SqL(K:BM)(H:Hp)(a:BP)(xs:List V):Prop:=
 Rd H a (.lst xs)∨
  ∃(o:Obj)(its:Array BN)(n:Nat),K.lookup a=some o/\o.cls=.type "list"/\o.dict=none/\o.data=.seq its n/\its.size<=sizeLine/\Vals xs its.toList
def SqT(K:BM)(H:Hp)(a:BP)(xs:List V):Prop:=
 Rd H a (.tup xs)∨
  ∃(o:Obj)(its:Array BN)(n:Nat),K.lookup a=some o/\o.cls=.type "tuple"/\o.data=.seq its n/\its.size<=sizeLine/\Vals xs its.toList
def Hdz:BN->BQ V
 |.none=>some .non
 |.bool b=>some (.bl b)
 |.int i _=>some (.int i)
 |.str x _=>some (.str x)
 |.bytes b _=>some (.byt b)
 |.float b _=>some (.flt b)
 |.ref a=>some (.ref a)
 |.type n=>some (.ty n)
 |_=>none
def Hg.abs(r:Hg x u):Hdz u=some x:=by
 cases x with
 |non=>cases r;rfl
 |bl _=>cases r;rfl
 |int _=>obtain⟨t,rfl⟩:=r;rfl
 |str _=>obtain⟨t,rfl⟩:=r;rfl
 |byt _=>obtain⟨t,rfl⟩:=r;rfl
 |flt _=>obtain⟨t,rfl⟩:=r;rfl
 |ref _=>cases r;rfl
 |ty _=>cases r;rfl
def Hg.inj(r:Hg x u)(q:Hg y u):x=y:=Ab (r.abs.symm.trans q.abs)
def Vals.inj:∀{xs ys:List V}{us:List BN},Vals xs us->Vals ys us->xs=ys
 |_,_,_,.nil,.nil=>rfl
 |_,_,_,.cons r t,.cons r' t'=>by rw[r.inj r',Vals.inj t t']
section
variable{X:Cx}{pins:List (BP×Obj)}{O:St}{H:Hp}{s:BO}{a:BP}{xs ys:List V}
def SqL.of{K:BM}(h:H a=some (.lst xs)):SqL K H a xs:=.inl (.inl h)
def SqT.of{K:BM}(h:H a=some (.tup xs)):SqT K H a xs:=.inl (.inl h)
def Inv.list(I:Inv X pins O H s)(h:SqL X.K H a xs):∃its:List BN,Vals xs its/\PlainL s.heap a its.toArray/\xs.length<=sizeLine:=by
 rcases h with h|⟨o,its,n,hk,hc,hd,hs,hz,r⟩
 ·obtain⟨z,its,n,r,e⟩:=h.ok I.hok;exact⟨its,r,⟨_,n,e,rfl,rfl,rfl⟩,z⟩
 ·refine⟨its.toList,r,⟨o,n,I.kIn a o hk,hc,hd,by simpa using hs⟩,?_⟩;have e:=r.length;simp only[Array.length_toList]at e;omega
def Inv.tuple(I:Inv X pins O H s)(h:SqT X.K H a xs):∃its:List BN,Vals xs its/\IsTup s.heap a its.toArray/\xs.length<=sizeLine:=by
 rcases h with h|⟨o,its,n,hk,hc,hs,hz,r⟩
 ·obtain⟨z,its,r,p⟩:=h.ok I.hok;exact⟨its,r,p,z⟩
 ·refine⟨its.toList,r,⟨o,I.kIn a o hk,hc,n,by simpa using hs⟩,?_⟩;have e:=r.length;simp only[Array.length_toList]at e;omega
def Inv.list_inj(I:Inv X pins O H s)(h:SqL X.K H a xs)(h':SqL X.K H a ys):xs=ys:=by
 obtain⟨its,r,⟨o,n,e,_,_,d⟩,_⟩:=I.list h;obtain⟨its',r',⟨o',n',e',_,_,d'⟩,_⟩:=I.list h';rw[e]at e';cases e';rw[d]at d';injection d' with d1 _;have:its=its':=by simpa using congrArg Array.toList d1
 subst this;exact r.inj r'
def Inv.tuple_inj(I:Inv X pins O H s)(h:SqT X.K H a xs)(h':SqT X.K H a ys):xs=ys:=by
 obtain⟨its,r,⟨o,e,_,n,d⟩,_⟩:=I.tuple h;obtain⟨its',r',⟨o',e',_,n',d'⟩,_⟩:=I.tuple h';rw[e]at e';cases e';rw[d]at d';injection d' with d1 _;have:its=its':=by simpa using congrArg Array.toList d1
 subst this;exact r.inj r'
end
noncomputable abbrev Cx.wish(X:Cx)(E:BN->BO->Prop):Cx:={X with xe:=E}
abbrev Cx.nox(X:Cx):Cx:=X.wish fun _ _=>False
noncomputable def Cx.Ok.wish{X:Cx}(ok:X.Ok)(E:BN->BO->Prop):(X.wish E).Ok:=
 ⟨ok.mod,ok.kind,ok.glob,ok.blt,ok.above,ok.inj,ok.has,ok.cab,ok.hd,ok.frames,ok.stk,ok.exf,ok.bs,ok.bsz,ok.noex,ok.exfs,ok.funs,ok.frf⟩
def Cx.Ok.unwish{X:Cx}(ok:(X.wish E).Ok):X.Ok:=
 ⟨ok.mod,ok.kind,ok.glob,ok.blt,ok.above,ok.inj,ok.has,ok.cab,ok.hd,ok.frames,ok.stk,ok.exf,ok.bs,ok.bsz,ok.noex,ok.exfs,ok.funs,ok.frf⟩
section
variable{X:Cx}{pins:List (BP×Obj)}{O:St}{H:Hp}{s:BO}{E:BN->BO->Prop}
noncomputable def Inv.wish(I:Inv X pins O H s)(E:BN->BO->Prop):Inv (X.wish E) pins O H s:=⟨I.ok.wish E,I.os,I.bare,I.base,I.loc,I.cell,I.free,I.freeC,I.pin,I.hok,I.len⟩
def Inv.unwish(I:Inv (X.wish E) pins O H s):Inv X pins O H s:=⟨I.ok.unwish,I.os,I.bare,I.base,I.loc,I.cell,I.free,I.freeC,I.pin,I.hok,I.len⟩
def SP.unwish{D:Ends}(h:SP (X.wish E) pins D f s'):SP X pins D f s':=by
 cases f with
 |next=>obtain⟨O',H',I,q⟩:=h;exact⟨O',H',I.unwish,q⟩
 |brk=>obtain⟨O',H',I,q⟩:=h;exact⟨O',H',I.unwish,q⟩
 |cont=>obtain⟨O',H',I,q⟩:=h;exact⟨O',H',I.unwish,q⟩
 |ret u=>obtain⟨v,O',H',I,r,q⟩:=h;exact⟨v,O',H',I.unwish,r,q⟩
def PSs.nox{st:List Stmt}{t:TS}(h:PSs X.nox st t):PSs X st t:=fun pins s O H D I hw=>
 wpAny_mono (h pins s O H D (I.wish _) hw) (fun _ _ q=>q.unwish) fun _ _ z=>False.elim z
end
section
variable{X:Cx}{st:Stmt}{rest:List Stmt}{t u:TS}{e:Expr}{te:TE}{pos:Pos}
def Ha6:TS:=fun D O H=>D.nx O H
def Hd0(t u:TS):TS:=fun D O H=>t {D with nx:=u D} O H
def Gro:PSs X [] Ha6:=fun _ _ O H _ I h=>wpAny_execs_nil ⟨O,H,I,h⟩
def Gnr(h1:PS X st t)(h2:PSs X rest u):PSs X (st::rest) (Hd0 t u):=by
 intro pins s O H D I h;refine wpAny_execs_cons (thn (h1 pins s O H {D with nx:=u D} I h) fun f s1 q=>?_);cases f with
 |next=>
  obtain⟨O',H',I',q⟩:=q;exact h2 pins s1 O' H' D I' q
 |ret v=>exact q
 |brk=>exact q
 |cont=>exact q
def Gk8(h1:PS X st t):PSs X [st] t:=by
 intro pins s O H D I h;refine wpAny_execs_cons (thn (h1 pins s O H D I h) fun f s1 q=>?_);cases f with
 |next=>exact wpAny_execs_nil q
 |ret v=>exact q
 |brk=>exact q
 |cont=>exact q
def Ha7:TS:=fun D O H=>D.ct O H
def Gh6:PS X (.Continue pos) Ha7:=fun _ _ O H _ I h=>wpAny_Continue ⟨O,H,I,h⟩
def Inv.quiet(I:Inv X pins O H s):interactive X.env=false:=by simp[interactive,I.ok.kind]
def Gu6(te:TE):TS:=fun D O H=>te O H fun _ H1=>D.nx O H1
def Gk9(he:PE X e te)(hs:⇑(swapsWith e none pos.line X.env=pure false)):PS X (.Expr e pos) (Gu6 te):=by
 intro pins s O H D I h;exact wpAny_Expr_any (thn (he pins s O H _ I h) fun v s1 ⟨x,H1,I1,r1,q1⟩=>⟨O,H1,I1,q1⟩) I.quiet hs
def Hd1(te:TE):TS:=fun D O H=>te O H D.rt
def Gws(he:PE X e te):PS X (.Return (some e) pos) (Hd1 te):=by
 intro pins s O H D I h;exact wpAny_Return_some (thn (he pins s O H _ I h) fun v s1 ⟨x,H1,I1,r1,q1⟩=>⟨x,O,H1,I1,r1,q1⟩)
def Hd2(c:TT)(t u:TS):TS:=fun D O H=>c O H fun b H1=>if b=true then t D O H1 else u D O H1
def Ha8(hc:PT X c tc)(ha:PSs X a t)(hb:PSs X b u):PS X (.If c a b pos) (Hd2 tc t u):=by
 intro pins s O H D I h;refine wpAny_If (thn (hc pins s O H _ I h) fun d s1 zq0=>?_);obtain⟨H1,I1,q1⟩:=zq0;cases d with
 |true=>exact ha pins s1 O H1 D I1 q1
 |false=>exact hb pins s1 O H1 D I1 q1
end
abbrev TG:=V->St->Hp->(St->Hp->Prop)->Prop
abbrev TGs:=List V->St->Hp->(St->Hp->Prop)->Prop
def PG(X:Cx)(target:Expr)(t:TG):Prop:=
 ∀(pins:List (BP×Obj))(s:BO)(O:St)(H:Hp)(v:V)(u:BN)(Q:St->Hp->Prop),Inv X pins O H s->Hg v u->t v O H Q→
  wpAny (model X.prog X.w) X.A (assign target X.env u) (fun _ s'=>∃O' H',Inv X pins O' H' s'/\Q O' H') X.xe s
def PGs(X:Cx)(ts:List Expr)(t:TGs):Prop:=
 ∀(pins:List (BP×Obj))(s:BO)(O:St)(H:Hp)(vs:List V)(us:List BN)(Q:St->Hp->Prop),Inv X pins O H s->Vals vs us->t vs O H Q→
  wpAny (model X.prog X.w) X.A (assignInOrder ((assignEach ts X.env).map (·.2)) us) (fun _ s'=>∃O' H',Inv X pins O' H' s'/\Q O' H') X.xe s
abbrev Gmn:=V->V->V->Hp->(Hp->Prop)->Prop
def Grp(X:Cx)(t:Gmn):Prop:=
 ∀(pins:List (BP×Obj))(s:BO)(O:St)(H:Hp)(o i v:V)(ov iv u:BN)(Q:Hp->Prop),Inv X pins O H s->Hg o ov->Hg i iv->Hg v u->t o i v H Q→
  wpAny (model X.prog X.w) X.A (setItem ov iv u) (fun _ s'=>∃H',Inv X pins O H' s'/\Q H') X.xe s
section
variable{X:Cx}{pos:Pos}
def gName(i:Nat):TG:=fun v O H Q=>Q (O.set i (some v)) H
def Grq(hN:X.N.Nodup)(hi:X.N[i]?=some x)(hx:Loc X.env.scope x)(hf:autoParam (X.fn x=true\/X.env.scope.names.lookup x=some .local) zQ0):PG X (.Name x pos) (gName i):=by
 intro pins s O H v u Q I r h;exact wpAny_assign_Name (Ga6 I hN hi hx r (fun s' I'=>⟨_,H,I',h⟩) hf)
def Hd3:TGs:=fun vs O H Q=>vs=[]/\Q O H
def Ha9(t:TG)(u:TGs):TGs:=fun vs O H Q=>∃v r,vs=v::r/\t v O H fun O' H'=>u r O' H' Q
def Gla:PGs X [] Hd3:=by
 intro pins s O H vs us Q I r h;obtain⟨e,h⟩:=h;subst e;cases r;exact assignInOrder_nil ⟨O,H,I,h⟩
def Gdm{e:Expr}(h1:PG X e t)(h2:PGs X es u)(hs:⇑((assignEach (e::es) X.env).map (·.2)=assign e X.env::(assignEach es X.env).map (·.2))):PGs X (e::es) (Ha9 t u):=by
 intro pins s O H vs us Q I r h;obtain⟨v,vr,e1,h⟩:=h;subst e1;cases r with
 |cons r rr=>
  rw[hs];refine assignInOrder_cons (thn (h1 pins s O H _ _ _ I r h) fun _ s1 zq0=>?_);obtain⟨O1,H1,I1,q1⟩:=zq0;exact h2 pins s1 O1 H1 _ _ Q I1 rr q1
def Hd4(K:BM)(n:Nat)(t:TGs):TG:=fun v O H Q=>∃a xs,v=.ref a/\SqT K H a xs/\xs.length=n/\t xs O H Q
def Gns(hc:X.calm=true)(h:PGs X es t)(hn:⇑((assignEach es X.env).length=n))(hst:⇑((assignEach es X.env).findIdx? (·.1)=none)):PG X (.Tuple es k pos) (Hd4 X.K n t):=by
 intro pins s O H v u Q I r hw;obtain⟨a,xs,e1,hq,hl,hw⟩:=hw;subst e1;cases r;obtain⟨its,rv,ht,hz⟩:=I.tuple hq;refine assign_Tuple_tuple (I.ok.hd hc) ht (by simp[hn,<- hl,rv.length]) hst fun h' hx=>?_;have I1:Inv X pins O H {s with heap:=h'}:=I.kept (t':=s.toks) fun b o e=>hx b o (An (Ae e)) e;exact h pins _ O H xs _ Q I1 (by simpa using rv) hw
def Hd5(to ti:TE)(t:Gmn):TG:=fun v O H Q=>to O H fun o H1=>ti O H1 fun i H2=>t o i v H2 fun H3=>Q O H3
def Gjz{to:TE}(ho:PE X o to)(hi:PE X i ti)(hs:Grp X t)(ha:autoParam (∀ v,assign (.Subscript o i pos) X.env v=(do
   let ov <- holding [v] (eval o X.env);let iv <- holding [v,ov] (eval i X.env)
   standAt pos
   holding [v,ov,iv] (setItem ov iv v)
   release [v,ov,iv] [])) zQ3):PG X (.Subscript o i pos) (Hd5 to ti t):=by
 intro pins s O H v u Q I r h;rw[ha];refine wpAny_bind (wpAny_holding (thn (ho pins s O H _ I h) fun ov s1 zq0=>?_));obtain⟨x,H1,I1,r1,q1⟩:=zq0;refine wpAny_bind (wpAny_holding (thn (hi pins s1 O H1 _ I1 q1) fun iv s2 zq0=>?_));obtain⟨y,H2,I2,r2,q2⟩:=zq0;refine wpAny_bind (wpAny_standAt (wpAny_bind (wpAny_holding (thn (hs pins s2 O H2 x y v ov iv u _ I2 r1 r2 r q2) fun _ s3 zq0=>?_))));obtain⟨H3,I3,q3⟩:=zq0;exact wpAny_release ⟨O,H3,I3,q3⟩
def Gnt(te:TE)(g:TG):TS:=fun D O H=>te O H fun x H1=>g x O H1 D.nx
def Gj0(he:PE X e te)(hg:PG X tg g)(hs:⇑(swapsWithSole [tg] e pos.line X.env=pure false))(hw:⇑(swappedStores [tg] e X.env=pure none))(h1:⇑((assignEach [tg] X.env).map (·.2)=[assign tg X.env])):PS X (.Assign [tg] e pos) (Gnt te g):=by
 intro pins s O H D I h;refine wpAny_Assign_stores (thn (he pins s O H _ I h) fun v s1 zq0=>?_) hs hw;obtain⟨x,H1,I1,r1,q1⟩:=zq0;rw[h1];exact thn (hg pins s1 O H1 x v _ I1 r1 q1) fun _ s2 q=>q
def Gwt(hN:X.N.Nodup)(hi:X.N[i]?=some x)(hx:Loc X.env.scope x)(he:PE X e te)(hs:⇑(swapsWith e (some (.Name x pos')) pos.line X.env=pure false))(hf:autoParam (X.fn x=true\/X.env.scope.names.lookup x=some .local) zQ0):
  PS X (.Assign [.Name x pos'] e pos) (Gnt te (gName i)):=by
 intro pins s O H D I h;refine wpAny_Assign_Name (thn (he pins s O H _ I h) fun v s1 zq0=>?_) hs;obtain⟨y,H1,I1,r1,q1⟩:=zq0;exact Ga6 I1 hN hi hx r1 (fun s2 I2=>⟨_,H1,I2,q1⟩) hf
def Hd6(i j:Nat)(ta:TA):TS:=fun D O H=>ta O H fun vs H1=>∃v w,vs=[v,w]/\D.nx ((O.set i (some v)).set j (some w)) H1
def Gwu{ta:TA}(hc:X.calm=true)(hN:X.N.Nodup)(hi:X.N[i]?=some x)(hj:X.N[j]?=some y)(hij:i≠j)(hx:X.env.scope.names.lookup x=some .local)(hy:X.env.scope.names.lookup y=some .local)(ha:PA X [a,b] ta)(hw:swappedStores [.Tuple [.Name x px,.Name y py] kt pt] (.Tuple [a,b] k2 pt2) X.env=pure (some [x,y]))(hs:⇑(swapsWithSole [.Tuple [.Name x px,.Name y py] kt pt] (.Tuple [a,b] k2 pt2) pos.line X.env=pure false)):
  PS X (.Assign [.Tuple [.Name x px,.Name y py] kt pt] (.Tuple [a,b] k2 pt2) pos) (Hd6 i j ta):=by
 intro pins s O H D I h;rw[exec_Assign_arm];refine wpAny_bind (wpAny_standAt ?_);rw[hs];refine wpAny_bind (wpAny_pure ?_);rw[if_neg (by decide)];refine wpAny_bind (Tuple_ (thn (ha _ pins s O H _ I h) fun us s1 zq0=>?_));obtain⟨vs,H1,I1,r1,q1⟩:=zq0;obtain⟨v,w,e1,q1⟩:=q1;subst e1;obtain⟨u1,u2,rfl,rv,rw'⟩:∃u1 u2,us=[u1,u2]/\Hg v u1/\Hg w u2:=by
  cases r1 with
  |cons p q=>
   cases q with
   |cons p' q'=>
    cases q';exact⟨_,_,rfl,p,p'⟩
 refine wpAny_newObj_type ?_ (by show 2<=sizeLine;decide);have I2:Inv X pins O H1 {s1 with heap:=s1.heap.push {cls:=.type "tuple",data:=.seq [u1,u2].toArray}}:=I1.kept (t':=s1.toks) fun b o e=>Aj _ e;rw[hw];refine wpAny_bind (wpAny_pure ?_);show wpAny (model X.prog X.w) X.A (do rule "assign.swapped-stores";let items <- unpackItems (.ref s1.heap.objs.size) 2 none;assignInOrder [fun v=>bindName X.env y v,fun v=>bindName X.env x v] items.reverse;pure Flow.next) _ _ _;refine wpAny_bind (wpAny_rule (wpAny_bind (unpackItems_tuple (items:=#[u1,u2]) (I.ok.hd hc) (IsTup.new s1.heap _) fun h' hx'=>?_)));have I3:=I2.kept (h':=h') (t':=s1.toks) fun b o e=>hx' b o (An (Ae e)) e;show wpAny _ _ (assignInOrder [fun v=>bindName X.env y v,fun v=>bindName X.env x v] [u2,u1] >>= fun _=>pure Flow.next) _ _ _;refine wpAny_bind (assignInOrder_cons (wpAny_bindName (Ga6 I3 hN hj (.inl hy) rw' (fun s2 I4=>?_) (.inr hy))));refine assignInOrder_cons (wpAny_bindName (Ga6 I4 hN hi (.inl hx) rv (fun s3 I5=>assignInOrder_nil (wpAny_pure ?_)) (.inr hx)));rw[List.set_comm _ _ (Ne.symm hij)]at I5;exact⟨_,H1,I5,q1⟩
end
section
variable{X:Cx}{pos:Pos}
def Gwv(c:TT)(tb:TS):TS:=fun D O H=>∃W:Nat->St->Hp->Prop,(∃m,W m O H)/\∀m O H,W m O H→
 c O H fun b H1=>if b=true then∃N:St->Hp->Prop,(∀O' H',N O' H'->∃m',m'<m/\W m' O' H')/\tb {D with nx:=N,ct:=N,bk:=D.nx} O H1 else D.nx O H1
def Gnu{tb:TS}(hp:PassesOwn (model X.prog X.w) X.A X.env X.xe)(hc:PT X c tc)(hb:PSs X body tb):PS X (.While c body [] pos) (Gwv tc tb):=by
 intro pins s O H D I h;obtain⟨W,⟨m0,w0⟩,turn⟩:=h;refine wpAny_While (codeAny_whileLoop (fun n s'=>∃O' H',Inv X pins O' H' s'/\W n O' H') ?_ m0 ⟨O,H,I,w0⟩);rintro n s1 ⟨O1,H1,I1,w1⟩;refine wpAny_passesOwn hp (thn (hc pins s1 O1 H1 _ I1 (turn n O1 H1 w1)) fun b s2 zq0=>?_);obtain⟨H2,I2,q2⟩:=zq0;cases b with
 |true=>
  obtain⟨N,hN,q2⟩:=q2;rw[if_pos rfl];refine wpAny_passesOwn hp (thn (hb pins s2 O1 H2 _ I2 q2) fun f s3 q3=>?_);cases f with
  |next=>
   obtain⟨O3,H3,I3,n3⟩:=q3;obtain⟨m',hm,w3⟩:=hN O3 H3 n3;exact⟨m',hm,O3,H3,I3,w3⟩
  |cont=>
   obtain⟨O3,H3,I3,n3⟩:=q3;obtain⟨m',hm,w3⟩:=hN O3 H3 n3;exact⟨m',hm,O3,H3,I3,w3⟩
  |brk=>exact q3
  |ret v=>exact q3
 |false=>
  rw[if_neg Ap];exact wpAny_execs_nil ⟨O1,H2,I2,q2⟩
end
structure It where
 go:Nat->Hp->Prop
 yld:Nat->Hp->V->Hp->Prop
 stop:Nat->Hp->Prop
def Gc3(X:Cx)(pins:List (BP×Obj))(H:Hp)(b:BP):Prop:=
 H b=none/\b≠X.env.locals/\b∉X.fs/\(b∈X.ex\/X.s₀.heap.objs.size<=b)/\(∀x c,X.env.cells.lookup x=some c->c≠b)/\∀p∈X.pn++pins,p.1≠b
def Inv.fpOk{H':Hp}{s:BO}(I:Inv X pins O H s)(hb:s.heap.objs.size<=b)(hn:H' b=none):Gc3 X pins H' b:=by
 refine⟨hn,AW (Ag I.lt hb),I.nofs hb,.inr (Ak I.sz hb),fun x c e z=>?_,fun p hp z=>?_⟩
 ·obtain⟨v,q⟩:=I.cell x c e;exact absurd (Ag q.lt (by rw[z];exact hb)) (Ax _)
 ·exact absurd (Ag (Ae (I.pin p hp).1) (by rw[z];exact hb)) (Ax _)
structure Turn(P:BR)(w:World)(K:BM)(tg:Expr)(J:It)(fp:List BP)(it:BP)(tn:Nat->Heap->Prop):Prop where
 mem:it∈fp
 obj:∀i h,tn i h->∀b∈fp,∃o,h.get? b=some o/\∀v,o.data≠.cell v
 keep:∀i h h',tn i h->(∀b∈fp,∀o,h.get? b=some o->h'.get? b=some o)->tn i h'
 item:∀(X:Cx),X.prog=P->X.w=w->X.K=K->X.calm=true->∀(i:Nat)(pins:List (BP×Obj))(s:BO)(O:St)(H:Hp)(E:BN->BO->Prop),Inv X pins O H s->(∀b∈fp,Gc3 X pins H b)->tn i s.heap->J.go i H→
  wpAny (model P w) X.A (pyNext (.ref it)) (fun r s1=>∃ u,r=some u∧
   wpAny (model P w) X.A (letOwnedTupleGo tg (.ref it) u) (fun _ s2=>∃ x H',Inv X pins O H' s2/\Hg x u/\J.yld i H x H'/\tn (i+1) s2.heap/\∀ b∈fp,H' b=none) E s1) E s
 done:∀(X:Cx),X.prog=P->X.w=w->X.K=K->X.calm=true->∀(i:Nat)(pins:List (BP×Obj))(s:BO)(O:St)(H:Hp)(E:BN->BO->Prop),Inv X pins O H s->(∀b∈fp,Gc3 X pins H b)->tn i s.heap->J.stop i H→
  wpAny (model P w) X.A (pyNext (.ref it)) (fun r s1=>r=none/\Inv X pins O H s1) E s
 self:∀(A:Around)(i:Nat)(s:BO)(Q:BN->BO->Prop)(E:BN->BO->Prop),tn i s.heap->Q (.ref it) s->wpAny (model P w) A (pyIter (.ref it)) Q E s
abbrev TI:=St->Hp->(It->Hp->Prop)->Prop
def PIE(X:Cx)(pins:List (BP×Obj))(O:St)(tg:Expr)(R:It->Hp->Prop)(itv:BN)(s2:BO):Prop:=
 ∃(it:BP)(fp:List BP)(tn:Nat->Heap->Prop)(J:It)(H':Hp),itv=.ref it/\Inv X pins O H' s2/\Turn X.prog X.w X.K tg J fp it tn/\tn 0 s2.heap/\(∀b∈fp,Gc3 X pins H' b)/\R J H'
def PI(X:Cx)(tg iter:Expr)(wi:TI):Prop:=
 ∀(pins:List (BP×Obj))(s:BO)(O:St)(H:Hp)(R:It->Hp->Prop),Inv X pins O H s->wi O H R→
  wpAny (model X.prog X.w) X.A (eval iter X.env) (fun v s1=>wpAny (model X.prog X.w) X.A (pyIter v) (PIE X pins O tg R) X.xe s1) X.xe s
def Gnv{s:BO}{o:Obj}{Q:Unit->BO->Prop}(ho:s.heap.get? it=some o)(hc:o.cls=.type n)(hd:o.data=.fields vs)(hn:["enumerate","zip","dict_itemiterator","dict_reverseitemiterator","odict_iterator","itertools.zip_longest","itertools.pairwise"].contains n=false)(hQ:Q () s):wpAny M A (letOwnedTupleGo tg (.ref it) u) Q E s:=by
 unfold letOwnedTupleGo;cases tg<;>first
  |exact wpAny_pure hQ
  | (cases u<;>first
    |exact wpAny_pure hQ
    | (refine wpAny_bind (wpAny_load ho ?_)
       rw[hc,hd];show wpAny M A (if(["enumerate","zip","dict_itemiterator","dict_reverseitemiterator","odict_iterator","itertools.zip_longest","itertools.pairwise"].contains n&&vs[0]?==some (rawInt _))=true then _ else _) Q E s;rw[if_neg (by intro h;rw[hn,AN]at h;cases h)];exact wpAny_pure hQ))
def Itl(K:BM)(a:BP):It:=
 ⟨fun i H=>∃xs x,SqL K H a xs/\xs[i]?=some x,fun i H x H'=>H'=H/\∀xs,SqL K H a xs->xs[i]?=some x,fun i H=>∃xs,SqL K H a xs/\xs.length<=i⟩
noncomputable def Itt(K:BM)(a:BP):It:=
 ⟨fun i H=>∃xs x,SqT K H a xs/\xs[i]?=some x,fun i H x H'=>H'=H/\∀xs,SqT K H a xs->xs[i]?=some x,fun i H=>∃xs,SqT K H a xs/\xs.length<=i⟩
noncomputable def Itr(lo:Int)(n:Nat):It:=⟨fun i _=>i<n,fun i H x H'=>H'=H/\x=.int (lo+i),fun i _=>n<=i⟩
def turn_list{P:BR}{w:World}{K:BM}{tg:Expr}(a it:BP):Turn P w K tg (Itl K a) [it] it (fun i h=>h.IsListIter it a i) where
 mem:=by simp
 obj:=fun i h st b hb=>by
  have e:b=it:=by simpa using hb
  subst e;obtain⟨o,e,c,d⟩:=st;exact⟨o,e,fun v z=>by rw[d]at z;cases z⟩
 keep:=fun i h h' st k=>st.at fun o e=>k it (by simp) o e
 item:=by
  intro X hP hw hK hc i pins s O H E I hf st hg;subst hP hw hK;obtain⟨xs,x,hq,hx⟩:=hg;obtain⟨its,rv,p,hz⟩:=I.list hq;obtain⟨u,hu,ru⟩:=rv.get hx;obtain⟨f0,f1,f2,f3,f4,f5⟩:=hf it (by simp);refine wpAny_pyNext_list_item st p.isList (x:=u) (by simpa using hu) fun h' st' sb=>?_;have I1:Inv X pins O H {s with heap:=h'}:=I.turned (t':=s.toks) (fun b o hb e=>(sb.2 b hb).trans e) f0 f1 f3 f4 f5;obtain⟨o,e,c,d⟩:=id st';exact⟨u,rfl,Gnv (s:={s with heap:=h'}) e c d (by decide) ⟨x,H,I1,ru,⟨rfl,fun ys hy=>by rw[I.list_inj hy hq];exact hx⟩,st',fun b hb=>(hf b hb).1⟩⟩
 done:=by
  intro X hP hw hK hc i pins s O H E I hf st hg;subst hP hw hK;obtain⟨xs,hq,hx⟩:=hg;obtain⟨its,rv,p,hz⟩:=I.list hq;obtain⟨f0,f1,f2,f3,f4,f5⟩:=hf it (by simp);have hl:=rv.length;exact wpAny_pyNext_list_end (I.ok.hd hc) st p.isList (by simp;omega) fun h' eb=>⟨rfl,I.turned (t':=s.toks) (fun b o hb e=>eb b o hb e) f0 f1 f3 f4 f5⟩
 self:=fun _ _ _ _ _ st h=>wpAny_pyIter_listiter st h
def turn_tuple{P:BR}{w:World}{K:BM}{tg:Expr}(a it:BP):Turn P w K tg (Itt K a) [it] it (fun i h=>h.IsTupleIter it a i) where
 mem:=by simp
 obj:=fun i h st b hb=>by
  have e:b=it:=by simpa using hb
  subst e;obtain⟨o,e,c,d⟩:=st;exact⟨o,e,fun v z=>by rw[d]at z;cases z⟩
 keep:=fun i h h' st k=>st.at fun o e=>k it (by simp) o e
 item:=by
  intro X hP hw hK hc i pins s O H E I hf st hg;subst hP hw hK;obtain⟨xs,x,hq,hx⟩:=hg;obtain⟨its,rv,p,hz⟩:=I.tuple hq;obtain⟨u,hu,ru⟩:=rv.get hx;obtain⟨f0,f1,f2,f3,f4,f5⟩:=hf it (by simp);refine wpAny_pyNext_tuple_item st (show s.heap.IsTuple a its.toArray from p) (x:=u) (by simpa using hu) fun h' st' sb=>?_;have I1:Inv X pins O H {s with heap:=h'}:=I.turned (t':=s.toks) (fun b o hb e=>(sb.2 b hb).trans e) f0 f1 f3 f4 f5;obtain⟨o,e,c,d⟩:=id st';exact⟨u,rfl,Gnv (s:={s with heap:=h'}) e c d (by decide) ⟨x,H,I1,ru,⟨rfl,fun ys hy=>by rw[I.tuple_inj hy hq];exact hx⟩,st',fun b hb=>(hf b hb).1⟩⟩
 done:=by
  intro X hP hw hK hc i pins s O H E I hf st hg;subst hP hw hK;obtain⟨xs,hq,hx⟩:=hg;obtain⟨its,rv,p,hz⟩:=I.tuple hq;obtain⟨f0,f1,f2,f3,f4,f5⟩:=hf it (by simp);have hl:=rv.length;exact wpAny_pyNext_tuple_end (I.ok.hd hc) st (show s.heap.IsTuple a its.toArray from p) (by simp;omega) fun h' eb=>⟨rfl,I.turned (t':=s.toks) (fun b o hb e=>eb b o hb e) f0 f1 f3 f4 f5⟩
 self:=fun _ _ _ _ _ st h=>wpAny_pyIter_tupleiter st h
def turn_range{P:BR}{w:World}{K:BM}{tg:Expr}(it:BP)(lo:Int)(n:Nat):Turn P w K tg (Itr lo n) [it] it (fun i h=>IsRangeIter h it (lo+(i:Nat)*1) ((n:Int)-(i:Nat)) 1) where
 mem:=by simp
 obj:=fun i h st b hb=>by
  have e:b=it:=by simpa using hb
  subst e;exact⟨_,st,fun v z=>by
   have z':Data.fields _=Data.cell v:=z;cases z'⟩
 keep:=fun i h h' st k=>k it (by simp) _ st
 item:=by
  intro X hP hw hK hc i pins s O H E I hf st hg;subst hP hw hK;obtain⟨f0,f1,f2,f3,f4,f5⟩:=hf it (by simp);have W:=Walks.range (prog:=X.prog) (w:=X.w) (I.ok.hd hc) it lo 1 n;refine W.item i s _ _ hg st fun v h' tk hv st' kk=>?_;obtain⟨t,rfl⟩:=hv;have I1:Inv X pins O H {s with heap:=h',toks:=tk}:=I.turned (fun b o hb e=>kk b o (by simpa using hb) e) f0 f1 f3 f4 f5;refine⟨_,rfl,Gnv (s:={s with heap:=h',toks:=tk}) (n:="range_iterator") st' rfl rfl (by decide) ⟨.int (lo+i),H,I1,⟨t,?_⟩,⟨rfl,rfl⟩,st',fun b hb=>(hf b hb).1⟩⟩;rw[Int.mul_one]
 done:=by
  intro X hP hw hK hc i pins s O H E I hf st hg;subst hP hw hK;obtain⟨f0,f1,f2,f3,f4,f5⟩:=hf it (by simp);exact wpAny_pyNext_range_end (I.ok.hd hc) st (by have:n<=i:=hg;omega) fun h' eb=>⟨rfl,I.turned (t':=s.toks) (fun b o hb e=>eb b o hb e) f0 f1 f3 f4 f5⟩
 self:=fun _ _ _ _ _ st h=>wpAny_pyIter_rangeiter st h
section
variable{X:Cx}{tg:Expr}
def Gh7{pins:List (BP×Obj)}{O:St}{H:Hp}{s:BO}{R:It->Hp->Prop}{E:BN->BO->Prop}{lo hi:Int}{t u v:Tok}{tk:Nat}(I:Inv X pins O H s)(h1 : -(2^62)<=lo)(h2:lo<2^62)(h3 : -(2^62)<=hi)(h4:hi<2^62)
  (q:R (Itr lo (hi-lo).toNat) H):wpAny (model X.prog X.w) X.A (pyIter (.ref s.heap.objs.size)) (PIE X pins O tg R) E {s with heap:=s.heap.push {cls:=.type "range",data:=.fields #[.int lo t,.int hi u,.int 1 v]},toks:=tk}:=by
 refine wpAny_pyIter_range (IsRange.new ..) (small_one h1 h2 h3 h4) ?_;have I1:Inv X pins O H {s with heap:=s.heap.push {cls:=.type "range",data:=.fields #[.int lo t,.int hi u,.int 1 v]},toks:=tk}:=I.kept fun b o e=>Aj _ e;refine⟨(s.heap.push { cls:=.type "range",data:=.fields #[.int lo t,.int hi u,.int 1 v] }).objs.size,[(s.heap.push { cls:=.type "range",data:=.fields #[.int lo t,.int hi u,.int 1 v] }).objs.size],_,_,H,rfl,
  I1.kept (t':=tk) fun b o e=>Aj _ e,turn_range _ lo (hi-lo).toNat,?_,fun b hb=>?_,q⟩
 ·have e1:lo+((0:Nat):Int)*1=lo:=by simp
  have e2:(((hi-lo).toNat:Nat):Int)-((0:Nat):Int)=Builtin.Range.rangeSize lo hi 1:=by rw[rangeSize_one];split<;>omega
  show IsRangeIter _ _ (lo+((0:Nat):Int)*1) ((((hi-lo).toNat:Nat):Int)-((0:Nat):Int)) 1;rw[e1,e2];exact Az _ rfl
 ·have e:b=(s.heap.push {cls:=.type "range",data:=.fields #[.int lo t,.int hi u,.int 1 v]}).objs.size:=by simpa using hb
  subst e;exact I1.fpOk (Ac _) (I1.hok.fresh (Ac _))
def Hba(ta:TA):TI:=fun O H R=>ta O H fun vs H1=>∃j:Int,vs=[.int j] /\ -(2^62)<=j/\j<2^62/\R (Itr 0 j.toNat) H1
def Hbb(ta:TA):TI:=fun O H R=>ta O H fun vs H1=>∃i j:Int,vs=[.int i,.int j]/\(-(2^62)<=i/\i<2^62 /\ -(2^62)<=j/\j<2^62)/\R (Itr i (j-i).toNat) H1
def Gmo{ta:TA}(hg:Gl X "range")(hm:X.mg "range"=none)(ha:PA X [a] ta)(hs:⇑(starEach [a] X.env=[(false,eval a X.env)])):PI X tg (.Call (.Name "range" p) [a] [] pos) (Hba ta):=by
 intro pins s O H R I h;refine Call_ (Wo I hg hm boot_range (PyProof.Rows.callWith_type1 (thn (ha pos pins s O H _ I h) fun us s1 zq0=>?_) hs rfl));obtain⟨vs,H1,I1,r1,q1⟩:=zq0;obtain⟨j,e,q1,q2,q⟩:=q1;subst e;cases r1 with
 |cons r rr=>
  cases rr;obtain⟨t,rfl⟩:=r;exact call_range_1 (Gh7 I1 (by omega) (by omega) q1 q2 (by simpa using q))
def Gmp{ta:TA}(hg:Gl X "range")(hm:X.mg "range"=none)(ha:PA X [a,b] ta)(hs:⇑(starEach [a,b] X.env=[(false,eval a X.env),(false,eval b X.env)]))(hs2:⇑(starEach [b] X.env=[(false,eval b X.env)])):
  PI X tg (.Call (.Name "range" p) [a,b] [] pos) (Hbb ta):=by
 intro pins s O H R I h;refine Call_ (Wo I hg hm boot_range (PyProof.Rows.callWith_type1 (thn (ha pos pins s O H _ I h) fun us s1 ⟨vs,H1,I1,r1,q1⟩=>?_) (by rw[hs,hs2]) (by rw[hs2];rfl)));obtain⟨i,j,e,⟨q1,q2,q3,q4⟩,q⟩:=q1;subst e;cases r1 with
 |cons r rr=>
  cases rr with
  |cons r' rr=>
   cases rr;obtain⟨t,rfl⟩:=r;obtain⟨t',rfl⟩:=r';exact call_range_2 (Gh7 I1 q1 q2 q3 q4 q)
def Hd7(wi:TI)(g:TG)(tb:TS):TS:=fun D O H=>wi O H fun J H1=>∃W:Nat->Nat->St->Hp->Prop,(∃m,W 0 m O H1)/\∀i m O H,W i m O H→
 (J.stop i H/\D.nx O H)\/(J.go i H/\∃N:St->Hp->Prop,(∀O' H',N O' H'->∃m',m'<m/\W (i+1) m' O' H')/\∀x H',J.yld i H x H'->g x O H' fun O2 H2=>tb {D with nx:=N,ct:=N,bk:=D.nx} O2 H2)
noncomputable def Gb1(fp:List BP)(h:Heap):List (BP×Obj):=fp.filterMap fun b=>(h.get? b).map fun o=>(b,o)
def Ug{h:Heap}(hb:b∈fp)(e:h.get? b=some o):(b,o)∈Gb1 fp h:=List.mem_filterMap.mpr ⟨b,hb,by rw[e];rfl⟩
def Gmq{h:Heap}{p:BP×Obj}(hp:p∈Gb1 fp h):p.1∈fp/\h.get? p.1=some p.2:=by
 obtain⟨b,hb,e⟩:=List.mem_filterMap.mp hp;cases q:h.get? b with
 |none=>rw[q]at e;cases e
 |some o=>
  rw[q]at e;have e':(b,o)=p:=Ab e;subst e';exact⟨hb,q⟩
def Inv.pinned{pins:List (BP×Obj)}{s:BO}(I:Inv X pins O H s)(hf:∀b∈fp,Gc3 X pins H b)(ho:∀b∈fp,∃o,s.heap.get? b=some o/\∀v,o.data≠.cell v):Inv X (pins++Gb1 fp s.heap) O H s:=
 I.pins_of fun p hp=>(Ay.mp hp).elim (fun z=>I.pin p (AI _ z)) fun z=>by
  obtain⟨hb,e⟩:=Gmq z;obtain⟨f0,f1,f2,_⟩:=hf p.1 hb;obtain⟨o,e',d⟩:=ho p.1 hb;rw[e]at e';cases e';exact⟨e,f0,f1,f2,d⟩
def Inv.unpinned{pins:List (BP×Obj)}(I:Inv X (pins++pl) O H s):Inv X pins O H s:=I.pins_of fun p hp=>I.pin p (AI _ (Bp _ hp))
def Gww{tb:TS}(hp:PassesOwn (model X.prog X.w) X.A X.env X.xe)(hc:X.calm=true)(hi:PI X tg iter wi)(hg:PG X tg g)(hb:PSs X body tb)(hs:autoParam (∀x,foldedSetIterable iter X.env x=pure x) zQ4):PS X (.For tg iter body [] pos) (Hd7 wi g tb):=by
 intro pins s O H D I h;refine wpAny_For (thn (hi pins s O H _ I h) fun v s1 h1=>thn h1 fun itv s2 h2=>?_) hs;obtain⟨it,fp,tn,J,H2,e,I2,T,st2,f2,W,⟨m0,w0⟩,turn⟩:=h2;subst e;have stat:∀{H':Hp},(∀b∈fp,H' b=none)->∀b∈fp,Gc3 X pins H' b:=fun hn b hb=>⟨hn b hb,(f2 b hb).2⟩
 refine codeAny_forLoop_any (fun n s'=>∃i O' H',Inv X pins O' H' s'/\tn i s'.heap/\(∀b∈fp,H' b=none)/\W i n O' H') ?_ m0 ⟨0,O,H2,I2,st2,fun b hb=>(f2 b hb).1,w0⟩;rintro n s3 ⟨i,O3,H3,I3,st3,fr3,w3⟩;rcases turn i n O3 H3 w3 with⟨stop,qn⟩|⟨go,N,hN,step⟩
 ·refine wpAny_passesOwn hp (thn (T.done X rfl rfl rfl hc i pins s3 O3 H3 X.xe I3 (stat fr3) st3 stop) fun r s4 zq0=>?_);obtain⟨hr,I4⟩:=zq0;subst hr;exact wpAny_execs_nil ⟨O3,H3,I4,qn⟩
 ·refine wpAny_passesOwn hp (thn (T.item X rfl rfl rfl hc i pins s3 O3 H3 X.xe I3 (stat fr3) st3 go) fun r s4 zq0=>?_);obtain⟨u,hr,h4⟩:=zq0;subst hr;refine wpAny_passesOwn hp (thn h4 fun _ s5 zq0=>?_);obtain⟨x,H5,I5,r5,y5,st5,fr5⟩:=zq0;have I5':=I5.pinned (stat fr5) (T.obj _ _ st5);refine wpAny_passesOwn hp (thn (hg _ s5 O3 H5 x u _ I5' r5 (step x H5 y5)) fun _ s6 zq0=>?_);obtain⟨O6,H6,I6,q6⟩:=zq0;refine wpAny_passesOwn hp (thn (hb _ s6 O6 H6 _ I6 q6) fun f s7 q7=>?_);have again:∀{O7:St}{H7:Hp},Inv X (pins++Gb1 fp s5.heap) O7 H7 s7->N O7 H7->∃m,m<n/\∃i O' H',Inv X pins O' H' s7/\tn i s7.heap/\(∀b∈fp,H' b=none)/\W i m O' H':=fun{O7 H7} I7 n7=>by
   obtain⟨m',hm,w7⟩:=hN O7 H7 n7;refine⟨m',hm,i+1,O7,H7,I7.unpinned,T.keep _ _ _ st5 fun b hb o e=>(I7.pin (b,o) (AI _ (AI _ (Ug hb e)))).1,fun b hb=>?_,w7⟩;obtain⟨o,e,d⟩:=T.obj _ _ st5 b hb;exact(I7.pin (b,o) (AI _ (AI _ (Ug hb e)))).2.1
  cases f with
  |next=>obtain⟨O7,H7,I7,n7⟩:=q7;exact again I7 n7
  |cont=>obtain⟨O7,H7,I7,n7⟩:=q7;exact again I7 n7
  |brk=>obtain⟨O7,H7,I7,q7⟩:=q7;exact⟨O7,H7,I7.unpinned,q7⟩
  |ret v=>obtain⟨x7,O7,H7,I7,r7,q7⟩:=q7;exact⟨x7,O7,H7,I7.unpinned,r7,q7⟩
end
abbrev R2:=V->V->Hp->VK->Prop
def OpR(X:Cx)(f:BN->BN->Sem BN)(r:R2):Prop:=
 ∀(pins:List (BP×Obj))(s:BO)(O:St)(H:Hp)(x y:V)(v u:BN)(Q:VK),Inv X pins O H s->Hg x v->Hg y u->r x y H Q→
  wpAny (model X.prog X.w) X.A (f v u) (EP X pins O Q) X.xe s
def UnR(X:Cx)(f:BN->Sem BN)(r:V->Hp->VK->Prop):Prop:=
 ∀(pins:List (BP×Obj))(s:BO)(O:St)(H:Hp)(x:V)(v:BN)(Q:VK),Inv X pins O H s->Hg x v->r x H Q→
  wpAny (model X.prog X.w) X.A (f v) (EP X pins O Q) X.xe s
def Xg(X:Cx)(f:BN)(r:List V->Hp->VK->Prop):Prop:=
 ∀(pins:List (BP×Obj))(s:BO)(O:St)(H:Hp)(xs:List V)(us:List BN)(Q:VK),Inv X pins O H s->Vals xs us->r xs H Q→
  wpAny (model X.prog X.w) X.A (call f us) (EP X pins O Q) X.xe s
def Hd8(X:Cx)(r:V->Hp->(Bool->Hp->Prop)->Prop):Prop:=
 ∀(pins:List (BP×Obj))(s:BO)(O:St)(H:Hp)(x:V)(v:BN)(Q:Bool->Hp->Prop),Inv X pins O H s->Hg x v->r x H Q→
  wpAny (model X.prog X.w) X.A (truthy v) (TP X pins O Q) X.xe s
def tOp(r:R2)(ta tb:TE):TE:=fun O H Q=>ta O H fun x H1=>tb O H1 fun y H2=>r x y H2 Q
def tUn(r:V->Hp->VK->Prop)(ta:TE):TE:=fun O H Q=>ta O H fun x H1=>r x H1 Q
def rI(C:Int->Int->Prop)(g:Int->Int->V):R2:=fun x y H Q=>∃i j,x=.int i/\y=.int j/\C i j/\Q (g i j) H
def rI0(g:Int->Int->V):R2:=fun x y H Q=>∃i j,x=.int i/\y=.int j/\Q (g i j) H
def rU(g:Int->V):V->Hp->VK->Prop:=fun x H Q=>∃i,x=.int i/\Q (g i) H
section
variable{X:Cx}{a b c:Expr}{ta tb tc:TE}{pos:Pos}
def Gwx(ha:PE X a ta)(hb:PE X b tb){R:V->V->Hp->Prop}(I:Inv X pins O H s)(h:ta O H fun x H1=>tb O H1 fun y H2=>R x y H2){f:BN->BN->Sem BN}(hf:∀v u s2 x y H2,Inv X pins O H2 s2->Hg x v->Hg y u->R x y H2->wpAny (model X.prog X.w) X.A (f v u) Q X.xe s2):
  wpAny (model X.prog X.w) X.A (eval a X.env) (fun v s₁=>wpAny (model X.prog X.w) X.A (eval b X.env) (fun u s₂=>wpAny (model X.prog X.w) X.A (f v u) Q X.xe s₂) X.xe s₁) X.xe s:=by
 refine thn (ha pins s O H _ I h) fun v s1 zq0=>?_;obtain⟨x,H1,I1,r1,q1⟩:=zq0;refine thn (hb pins s1 O H1 _ I1 q1) fun u s2 zq0=>?_;obtain⟨y,H2,I2,r2,q2⟩:=zq0;exact hf v u s2 x y H2 I2 r1 r2 q2
def Hbc(ho:OpR X (binaryOp op) r)(ha:PE X a ta)(hb:PE X b tb):PE X (.BinOp a op b pos) (tOp r ta tb):=by
 intro pins s O H Q I h;exact wpAny_BinOp (Gwx ha hb I h fun v u s2 x y H2 I2 rx ry q=>ho pins s2 O H2 x y v u Q I2 rx ry q)
def Hbd(ho:UnR X (unaryOp op) r)(ha:PE X a ta):PE X (.UnaryOp op a pos) (tUn r ta):=by
 intro pins s O H Q I h;exact UnaryOp_ (thn (ha pins s O H _ I h) fun v s1 ⟨x,H1,I1,r1,q1⟩=>ho pins s1 O H1 x v Q I1 r1 q1)
def opI{f:BN->BN->Sem BN}{C:Int->Int->Prop}{g:Int->Int->Int}
  (rule:∀(i j:Int)(t u:Tok)(s:BO)(Q:BN->BO->Prop)(E:BN->BO->Prop),C i j->Q (.int (g i j) s.toks) {s with toks:=s.toks+1}->wpAny (model X.prog X.w) X.A (f (.int i t) (.int j u)) Q E s):
  OpR X f (rI C fun i j=>.int (g i j)):=by
 intro pins s O H x y v u Q I rx ry h;obtain⟨i,j,rfl,rfl,hc,q⟩:=h;obtain⟨t,rfl⟩:=rx;obtain⟨t',rfl⟩:=ry;exact rule i j t t' s _ _ hc ⟨.int (g i j),H,I.tok _,⟨_,rfl⟩,q⟩
def opI0{f:BN->BN->Sem BN}{g:Int->Int->Int}
  (rule:∀(i j:Int)(t u:Tok)(s:BO)(Q:BN->BO->Prop)(E:BN->BO->Prop),Q (.int (g i j) s.toks) {s with toks:=s.toks+1}->wpAny (model X.prog X.w) X.A (f (.int i t) (.int j u)) Q E s):
  OpR X f (rI0 fun i j=>.int (g i j)):=by
 intro pins s O H x y v u Q I rx ry h;obtain⟨i,j,rfl,rfl,q⟩:=h;obtain⟨t,rfl⟩:=rx;obtain⟨t',rfl⟩:=ry;exact rule i j t t' s _ _ ⟨.int (g i j),H,I.tok _,⟨_,rfl⟩,q⟩
def opB0{f:BN->BN->Sem BN}{g:Int->Int->Bool}
  (rule:∀(i j:Int)(t u:Tok)(s:BO)(Q:BN->BO->Prop)(E:BN->BO->Prop),Q (.bool (g i j)) s->wpAny (model X.prog X.w) X.A (f (.int i t) (.int j u)) Q E s):
  OpR X f (rI0 fun i j=>.bl (g i j)):=by
 intro pins s O H x y v u Q I rx ry h;obtain⟨i,j,rfl,rfl,q⟩:=h;obtain⟨t,rfl⟩:=rx;obtain⟨t',rfl⟩:=ry;exact rule i j t t' s _ _ ⟨.bl (g i j),H,I,rfl,q⟩
def Hd9(i j:Int):Prop:=0<=j/\j<=1000000/\i.natAbs<2^64
def CMul(i j:Int):Prop:=(-(2^64)<i/\i<2^64)\/(-(2^64)<j/\j<2^64)
def CMul.ok(h:CMul i j):IntMulOk i j:=by
 rcases h with⟨h1,h2⟩|⟨h1,h2⟩
 ·exact .of_left (intBits_le_64 h1 h2)
 ·exact .of_right (intBits_le_64 h1 h2)
def Gwy:OpR X (binaryOp .Add) (rI0 fun i j=>.int (i+j)):=opI0 fun _ _ _ _ _ _ _ q=>add_int q
def Gwz:OpR X (binaryOp .Sub) (rI0 fun i j=>.int (i-j)):=opI0 fun _ _ _ _ _ _ _ q=>sub_int q
def Gw0:OpR X (binaryOp .Mult) (rI CMul fun i j=>.int (i*j)):=opI fun _ _ _ _ _ _ _ hc q=>mul_int q hc.ok
def Gw1:OpR X (binaryOp .Mod) (rI (fun _ j=>0<j) fun i j=>.int (i%j)):=opI fun i j _ _ _ _ _ hc q=>by
 have h1:(0:Int)<j:=hc;exact mod_int' (by omega) (by rw[Int.fmod_eq_emod_of_nonneg i (by omega)];exact q)
def Gw2:OpR X (binaryOp .Pow) (rI Hd9 fun i j=>.int (i^j.toNat)):=opI fun _ _ _ _ _ _ _ hc q=>pow_int_small hc.1 hc.2.1 hc.2.2 q
def unI{f:BN->Sem BN}{g:Int->Int}
  (rule:∀(i:Int)(t:Tok)(s:BO)(Q:BN->BO->Prop)(E:BN->BO->Prop),Q (.int (g i) s.toks) {s with toks:=s.toks+1}->wpAny (model X.prog X.w) X.A (f (.int i t)) Q E s):
  UnR X f (rU fun i=>.int (g i)):=by
 intro pins s O H x v Q I rx h;obtain⟨i,rfl,q⟩:=h;obtain⟨t,rfl⟩:=rx;exact rule i t s _ _ ⟨.int (g i),H,I.tok _,⟨_,rfl⟩,q⟩
def Gw3:UnR X (unaryOp .USub) (rU fun i=>.int (-i)):=unI fun _ _ _ _ _ q=>neg_int q
end
section
variable{X:Cx}{a b c:Expr}{ta tb tc:TE}{pos:Pos}
def Gnw{Q:VK}(I:Inv X pins O H s)(q:Q (.bl k) H)(e:k=k'):EP X pins O Q (.bool k') s:=by
 subst e;exact⟨.bl k,H,I,rfl,q⟩
def Glb:OpR X (compareOp .Lt) (rI0 fun i j=>.bl (decide (i<j))):=opB0 fun _ _ _ _ _ _ _ q=>lt_int q
def Gnx:OpR X (compareOp .LtE) (rI0 fun i j=>.bl (decide (i<=j))):=opB0 fun _ _ _ _ _ _ _ q=>le_int q
def Hbe:OpR X (compareOp .Gt) (rI0 fun i j=>.bl (decide (j<i))):=opB0 fun _ _ _ _ _ _ _ q=>gt_int q
def Gu7:OpR X (compareOp .GtE) (rI0 fun i j=>.bl (decide (j<=i))):=opB0 fun _ _ _ _ _ _ _ q=>ge_int q
def Gw4:OpR X (compareOp .Is) (fun x y H Q=>y=.non/\Q (.bl (decide (x=.non))) H):=by
 intro pins s O H x y v u Q I rx ry h;obtain⟨rfl,q⟩:=h;cases ry;refine is_none_gen (Gnw I q ?_);cases x<;>first
  |(cases rx;rfl)
  |(obtain⟨t,rfl⟩:=rx;rfl)
def Grr:OpR X (compareOp .IsNot) (fun x y H Q=>y=.non/\Q (.bl (!decide (x=.non))) H):=by
 intro pins s O H x y v u Q I rx ry h;obtain⟨rfl,q⟩:=h;cases ry;refine isnot_none_gen (Gnw I q ?_);cases x<;>first
  |(cases rx;rfl)
  |(obtain⟨t,rfl⟩:=rx;rfl)
def OpR.or{r r':R2}(h:OpR X f r)(h':OpR X f r'):OpR X f (fun x y H Q=>r x y H Q\/r' x y H Q):=by
 intro pins s O H x y v u Q I rx ry q;rcases q with q|q
 ·exact h pins s O H x y v u Q I rx ry q
 ·exact h' pins s O H x y v u Q I rx ry q
def nomark(b:Expr)(h:↥(op≠.In))(h2:↥(op≠.NotIn)):behindInMarks op b=false:=by
 have e1:(op==CmpOp.In)=false:=by cases op<;>first|rfl|exact absurd rfl h
 have e2:(op==CmpOp.NotIn)=false:=by cases op<;>first|rfl|exact absurd rfl h2
 cases b<;>simp[behindInMarks,e1,e2]
def Grs(ho:OpR X (compareOp op) r)(ha:PE X a ta)(hb:PE X b tb)(hm:behindInMarks op b=false):PE X (.Compare a [op] [b] pos) (tOp r ta tb):=by
 intro pins s O H Q I h;exact wpAny_Compare1 (Gwx ha hb I h fun v u s2 x y H2 I2 rx ry q=>ho pins s2 O H2 x y v u Q I2 rx ry q) hm
def Gu8(t:TE):TT:=fun O H Q=>t O H fun x H'=>∃k,x=.bl k/\Q k H'
def Grt(ho:OpR X (compareOp op) r)(ha:PE X a ta)(hb:PE X b tb)(hm:behindInMarks op b=false):PT X (.Compare a [op] [b] pos) (Gu8 (tOp r ta tb)):=by
 intro pins s O H Q I h;refine wpAny_isTrue_Compare1 (thn (ha pins s O H _ I h) fun v s1 ⟨x,H1,I1,r1,q1⟩=>thn (hb pins s1 O H1 _ I1 q1) fun u s2 ⟨y,H2,I2,r2,q2⟩=>
  thn (ho pins s2 O H2 x y v u _ I2 r1 r2 q2) fun c s3 ⟨z,H3,I3,r3,k,e,q3⟩=>?_) hm
 subst e;cases r3;exact wpAny_truthy_bool ⟨H3,I3,q3⟩
def Gny(r r':R2)(ta tb tc:TE):TE:=fun O H Q=>ta O H fun x H1=>tb O H1 fun y H2=>r x y H2 fun z H3=>∃k,z=.bl k∧
 (if k=true then tc O H3 fun w' H4=>r' y w' H4 Q else Q (.bl false) H3)
def Gnz(ho:OpR X (compareOp op) r)(ho':OpR X (compareOp op') r')(ha:PE X a ta)(hb:PE X b tb)(hc:PE X c tc)(hm:autoParam (lastMarks [op,op'] [b,c]=false) zQ5):PT X (.Compare a [op,op'] [b,c] pos) (Gu8 (Gny r r' ta tb tc)):=by
 intro pins s O H Q I h;refine isTrue_chain (thn (ha pins s O H _ I h) fun v s1 ⟨x,H1,I1,r1,q1⟩=>test_link (thn (hb pins s1 O H1 _ I1 q1) fun u s2 ⟨y,H2,I2,r2,q2⟩=>
  thn (ho pins s2 O H2 x y v u _ I2 r1 r2 q2) fun d s3 ⟨z,H3,I3,r3,k,e,q3⟩=>?_)) hm
 subst e;cases r3;refine wpAny_truthy_bool ?_;cases k with
 |false=>
  obtain⟨k',e',q'⟩:=q3;cases e';exact ite_ff ⟨H3,I3,q'⟩
 |true=>
  refine ite_tt (test_last (thn (hc pins s3 O H3 _ I3 q3) fun w' s4 ⟨z',H4,I4,r4,q4⟩=>thn (ho' pins s4 O H4 y z' u w' _ I4 r2 r4 q4) fun d' s5 zq0=>?_));obtain⟨z2,H5,I5,r5,k2,e2,q5⟩:=zq0;subst e2;cases r5;exact wpAny_truthy_bool ⟨H5,I5,q5⟩
def Gw5(K:BM)(x:V)(H:Hp)(k:Bool):Prop:=
 match x with
 |.non=>k=false
 |.bl b=>k=b
 |.int i=>k=(i != 0)
 |.str y=>y.length<=sizeLine/\k=((y.length:Int) != 0)
 |.byt y=>y.size<=sizeLine/\k=((y.size:Int) != 0)
 |.ref p=>(∃xs,SqL K H p xs/\k=!xs.isEmpty)\/(∃xs,SqT K H p xs/\k=!xs.isEmpty)\/∃kvs,H p=some (.dK kvs)/\k=!kvs.isEmpty
 |_=>False
def Gj1{kvs:List (Y×V)}{vs:List (Y×BN)}(r:KV kvs vs):(!vs.isEmpty)=!kvs.isEmpty:=by
 cases r<;>rfl
def Gdn{xs:List V}{its:List BN}(r:Vals xs its):(!its.toArray.isEmpty)=!xs.isEmpty:=by
 cases r<;>simp
def Gau:(sizeLine:Nat)<2^63:=by rw[sizeLine_eq];decide
def Gw6:Hd8 X (fun x H Q=>∃k,Gw5 X.K x H k/\Q k H):=by
 intro pins s O H x v Q I rx h;obtain⟨k,e,q⟩:=h;have hl:=Gau;have hs:sizeLine=16777216:=sizeLine_eq;cases x with
 |non=>
  cases rx;have e':k=false:=e;subst e';exact truthy_none ⟨H,I,q⟩
 |bl b=>
  cases rx;have e':k=b:=e;subst e';exact wpAny_truthy_bool ⟨H,I,q⟩
 |int i=>
  obtain⟨t,rfl⟩:=rx;have e':k=(i != 0):=e;subst e';exact PySem.P.truthy_int ⟨H,I,q⟩
 |str y=>
  obtain⟨t,rfl⟩:=rx;obtain⟨hy,e'⟩:y.length<=sizeLine/\k=((y.length:Int) != 0):=e;subst e';exact PySem.P.truthy_str (by omega) ⟨H,I.tok _,q⟩
 |byt y=>
  obtain⟨t,rfl⟩:=rx;obtain⟨hy,e'⟩:y.size<=sizeLine/\k=((y.size:Int) != 0):=e;subst e';exact PySem.W.truthy_bytes (by omega) ⟨H,I.tok _,q⟩
 |ref p=>
  cases rx;have e':(∃xs,SqL X.K H p xs/\k=!xs.isEmpty)\/(∃xs,SqT X.K H p xs/\k=!xs.isEmpty)\/∃kvs,H p=some (.dK kvs)/\k=!kvs.isEmpty:=e;rcases e' with⟨xs,hx,e'⟩|⟨xs,hx,e'⟩|⟨kvs,hx,e'⟩
  ·subst e';obtain⟨its,r,pl,hz⟩:=I.list hx;have hlen:=r.length;exact wpAny_truthy_list pl.isList (by simp only[Aq];omega) ⟨H,I.tok _,by rw[Gdn r];exact q⟩
  ·subst e';obtain⟨its,r,pl,hz⟩:=I.tuple hx;have hlen:=r.length;exact truthy_tuple pl (by simp only[Aq];omega) ⟨H,I.tok _,by rw[Gdn r];exact q⟩
  ·subst e';obtain⟨hz,hS,vs,r,m⟩:kvs.length<=sizeLine/\(p==sysModules)=false/\∃vs,KV kvs vs/\s.heap.DictOf (Gk5 X.prog X.w) p vs:=I.hok p _ hx;have hlen:kvs.length=vs.length:=Paired.length r;exact wpAny_truthy_dict hS m (by omega) ⟨H,I.tok _,by rw[Gj1 r];exact q⟩
 |_=>exact(show False from e).elim
def Gn0(ha:PE X a ta)(he:∀whole,isTrue a X.env whole=(do let v <- whole;standAt a.pos;holding [v] (truthy v))):
  PT X a (fun O H Q=>ta O H fun x H'=>∃k,Gw5 X.K x H' k/\Q k H'):=by
 intro pins s O H Q I h;exact isTrue_plain (thn (ha pins s O H _ I h) fun v s1 ⟨x,H1,I1,r1,q1⟩=>Gw6 pins s1 O H1 x v Q I1 r1 q1) (he _)
def Gj2:OpR X (binaryOp .Add) (fun x y H Q=>∃i j,x=.str i/\y=.str j/\i.length+j.length<=sizeLine/\Q (.str (i++j)) H):=by
 intro pins s O H x y v u Q I rx ry h;obtain⟨i,j,rfl,rfl,hz,q⟩:=h;obtain⟨t,rfl⟩:=rx;obtain⟨t',rfl⟩:=ry;exact add_str (fun t' tk=>⟨.str (i++j),H,I.tok _,⟨_,rfl⟩,q⟩) hz
def Gcn(r:Vals [x] us):∃u,us=[u]/\Hg x u:=by
 cases r with
 |cons r1 r2=>cases r2;exact⟨_,rfl,r1⟩
def Hbf(r:Vals [x,y] us):∃u w',us=[u,w']/\Hg x u/\Hg y w':=by
 cases r with
 |cons r1 r2=>
  cases r2 with
  |cons r3 r4=>cases r4;exact⟨_,_,rfl,r1,r3⟩
def Gmr(hc:X.calm=true):Xg X (.builtin "min") (fun xs H Q=>∃i j,xs=[.int i,.int j]/\Q (.int (if j<i then j else i)) H):=by
 intro pins s O H xs us Q I r h;obtain⟨i,j,rfl,q⟩:=h;obtain⟨u,w',rfl,⟨t,rfl⟩,⟨t',rfl⟩⟩:=Hbf r;refine min_two_ints (I.ok.hd hc) fun h' tk k=>⟨_,H,I.kept k,?_,q⟩
 by_cases hj:j<i
 ·rw[if_pos hj,if_pos hj];exact⟨_,rfl⟩
 ·rw[if_neg hj,if_neg hj];exact⟨_,rfl⟩
def Gms:Xg X (.type "int") (fun xs H Q=>(∃i,xs=[.int i]/\Q (.int i) H)\/∃k,xs=[.bl k]/\Q (.int (if k then 1 else 0)) H):=by
 intro pins s O H xs us Q I r h;rcases h with⟨i,rfl,q⟩|⟨k,rfl,q⟩
 ·obtain⟨u,rfl,t,rfl⟩:=Gcn r;exact call_int_int ⟨.int i,H,I,⟨_,rfl⟩,q⟩
 ·obtain⟨u,rfl,r1⟩:=Gcn r;cases r1;exact call_int_bool ⟨.int (if k then 1 else 0),H,I.tok _,⟨_,rfl⟩,q⟩
def Hbg(K:BM)(x:V)(H:Hp)(n:Nat):Prop:=
 match x with
 |.str y=>y.length<=sizeLine/\n=y.length
 |.byt y=>y.size<=sizeLine/\n=y.size
 |.ref p=>(∃xs,SqL K H p xs/\n=xs.length)\/∃xs,SqT K H p xs/\n=xs.length
 |_=>False
def Gn1:Xg X (.builtin "len") (fun xs H Q=>∃x n,xs=[x]/\Hbg X.K x H n/\Q (.int n) H):=by
 intro pins s O H xs us Q I r h;obtain⟨x,n,rfl,e,q⟩:=h;obtain⟨u,rfl,rx⟩:=Gcn r;have hl:=Gau;have hs:sizeLine=16777216:=sizeLine_eq;cases x with
 |str y=>
  obtain⟨t,rfl⟩:=rx;obtain⟨hy,e'⟩:y.length<=sizeLine/\n=y.length:=e;subst e';exact len_str (by omega) ⟨.int _,H,I.tok _,⟨_,rfl⟩,q⟩
 |byt y=>
  obtain⟨t,rfl⟩:=rx;obtain⟨hy,e'⟩:y.size<=sizeLine/\n=y.size:=e;subst e';exact PySem.W.len_bytes (by omega) ⟨.int _,H,I.tok _,⟨_,rfl⟩,q⟩
 |ref p=>
  cases rx;have e':(∃xs,SqL X.K H p xs/\n=xs.length)\/∃xs,SqT X.K H p xs/\n=xs.length:=e;rcases e' with⟨xs,hx,e'⟩|⟨xs,hx,e'⟩
  ·subst e';obtain⟨its,r',pl,hz⟩:=I.list hx;have hlen:=r'.length;exact Calls.call_len_list pl.isList (by simp only[Aq];omega) ⟨.int xs.length,H,I.tok _,⟨_,by simp only[Aq];rw[hlen]⟩,q⟩
  ·subst e';obtain⟨its,r',pl,hz⟩:=I.tuple hx;have hlen:=r'.length;exact len_tuple pl (by simp only[Aq];omega) ⟨.int xs.length,H,I.tok _,⟨_,by simp only[Aq];rw[hlen]⟩,q⟩
 |_=>exact(show False from e).elim
end
structure ObjM(h:Heap)(x dx C:BP)(mA:Str->BQ BN):Prop where
 obj:h.get? x=some (PySem.W.instObj C dx)
 ns:h.Ns1 dx mA
 ne:dx≠x
structure Cls(K:BM)(C:BP):Prop where
 pg:PySem.W.plainGet K C Str.empty=true
 hd:PySem.W.hasDictIn K C=true
 po:PySem.W.plainOver K C=true
 sa:PySem.W.findIn K (.ref C) "__setattr__"=some (some (.builtin "object.__setattr__"))
structure Con(K:BM)(C:BP)(f:Str)(v:V)(u:BN):Prop where
 at_:PySem.W.findIn K (.ref C) f=some (some u)
 rel:Hg v u
 get:PySem.W.specialIn K u "__get__"=some none
 cp:PySem.W.copiedNames.contains f=false
structure Meth(K:BM)(C:BP)(m:Str)(f:BP):Prop where
 at_:PySem.W.findIn K (.ref C) m=some (some (.ref f))
 fn:PySem.W.isFn K (.ref f)=true
 kp:PySem.W.keepIn K (.ref f)=true
section
variable{X:Cx}{pins:List (BP×Obj)}{O:St}{H:Hp}{s:BO}{A:Around}{E:BN->BO->Prop}{Q:BN->BO->Prop}{c:BN}{b:Bool}
inductive TyOf(K:BM)(H:Hp):V->BN->Prop where
 |non:TyOf K H .non (.type "NoneType")
 |bl (x:Bool):TyOf K H (.bl x) (.type "bool")
 |int (i:Int):TyOf K H (.int i) (.type "int")
 |str (x:Str):TyOf K H (.str x) (.type "str")
 |flt (x:UInt64):TyOf K H (.flt x) (.type "float")
 |lst {a:BP} {xs:List V} (e:H a=some (.lst xs)):TyOf K H (.ref a) (.type "list")
 |frz {a:BP} {o:Obj} {xs:List V} (e:H a=some (.frz o (.lst xs))):TyOf K H (.ref a) (.type "list")
 |tup {a:BP} {xs:List V} (e:H a=some (.tup xs)):TyOf K H (.ref a) (.type "tuple")
 |dK {a:BP} {kvs:List (Key×V)} (e:H a=some (.dK kvs)):TyOf K H (.ref a) (.type "dict")
 |dT {a:BP} {kvs:List (NK×BP×V)} (e:H a=some (.dT kvs)):TyOf K H (.ref a) (.type "dict")
 |ins {a C dx:BP} {fs:List (Str×V)} (e:H a=some (.ins C dx fs)) (cl:Cls K C) (ha:PySem.W.findIn K (.ref C) "__class__"=some (some (.builtin "object.__class__")))
   (hn:PySem.W.specialIn K (.builtin "object.__class__") "__get__"=some (some (.builtin "getset_descriptor.__get__"))) (htk:PySem.W.takesIn K (.builtin "object.__class__")=some true)
   (hm:PySem.W.mroIn K C (.type "object")=some true):TyOf K H (.ref a) (.ref C)
end
structure Room(k:Nat)(A:Around):Prop where
 hd:A.handled=none
 dp:A.depth+3*k+5<recursionLimit
 un:A.units+16*k+200<cLine
 gd:A.guards=some []
def Room.mono(r:Room k A)(h:j<=k):Room j A:=⟨r.hd,by have:=r.dp;omega,by have:=r.un;omega,r.gd⟩
def Room.deeper{A:Around}(r:Room (k+1) A)(env:Env):Room k (A.deeper env):=
 ⟨r.hd,by have:=r.dp;show A.depth+1+3*k+5<_;omega,by have:=r.un;show A.units+3+16*k+200<_;omega,by first|exact r.gd|(simpa[Around.deeper]using r.gd)⟩
def Gj3{A:Around}{C:BP}:(A.under (.builtin "type.__call__" ⟨.ref C::us,kw⟩)).depth=A.depth+1:=by
 first|rfl|simp[Around.under,Code.weight,Code.isCreation,Code.isGuard,Code.isCaller,Code.frames,Code.isFrame,guardIds]
def Gj4{A:Around}{C:BP}:(A.under (.builtin "type.__call__" ⟨.ref C::us,kw⟩)).units=A.units+1:=by
 first|rfl|simp[Around.under,Code.cUnits,Code.frames,Code.isFrame]
def Room.make{A:Around}(r:Room (k+1) A)(C:BP)(us:List BN)(kw:List (Str×BN)):Room k (A.under (.builtin "type.__call__" ⟨.ref C::us,kw⟩)):=
 ⟨r.hd,by have:=r.dp;rw[Gj3];omega,by have:=r.un;rw[Gj4];omega,by first|exact r.gd|(simpa[Around.under,pushGuards,Code.guards,Code.isGuard,guardIds]using r.gd)⟩
def Room.depth{A:Around}(r:Room k A):A.depth<recursionLimit:=by have:=r.dp;omega
def Room.units{A:Around}(r:Room k A):A.units+64<cLine:=by have:=r.un;omega
def Hbh:TA:=fun _ H Q=>Q [] H
def Gn2(ta:TE)(tr:TA):TA:=fun O H Q=>ta O H fun x H1=>tr O H1 fun xs H2=>Q (x::xs) H2
section
variable{X:Cx}{e:Expr}{es:List Expr}{te:TE}{t:TA}{pos:Pos}
def Gj5:PA X [] Hbh:=fun _ _ _ _ H Q I h=>Calls.spliced_nil ⟨[],H,I,.nil,h⟩
def Ga8(ha:PE X e te)(hr:PA X es t)(hs:⇑(starEach (e::es) X.env=(false,eval e X.env)::starEach es X.env)):PA X (e::es) (Gn2 te t):=by
 intro pos pins s O H Q I h;rw[hs];show wpAny _ _ (spliced ((false,eval e X.env)::backTo pos (starEach es X.env))) _ _ s;refine Calls.spliced_cons (thn (ha pins s O H _ I h) fun u s1 zq0=>?_);obtain⟨x,H1,I1,r1,q1⟩:=zq0;exact thn (hr pos pins s1 O H1 _ I1 q1) fun us s2 ⟨xs,H2,I2,r2,q2⟩=>⟨x::xs,H2,I2,.cons r1 r2,q2⟩
def Hea(t:TA):TE:=fun O H Q=>t O H fun xs H1=>xs.length<=sizeLine/\∀p,H1 p=none->Q (.ref p) (upd H1 p (.tup xs))
def Heb(t:TA):TE:=fun O H Q=>t O H fun xs H1=>xs.length<=sizeLine/\∀p,H1 p=none->Q (.ref p) (upd H1 p (.lst xs))
def Gw7(h:PA X es t):PE X (.Tuple es x1 pos) (Hea t):=by
 intro pins s O H Q I hq;refine wpAny_Tuple_spliced (thn (h pos pins s O H _ I hq) fun us s1 ⟨xs,H1,I1,r,z,q⟩=>⟨by rw[<- r.length];exact z,?_⟩);have hf:H1 s1.heap.objs.size=none:=I1.hok.fresh (Ac _);refine⟨.ref s1.heap.objs.size,upd H1 s1.heap.objs.size (.tup xs),I1.laid (t':=s1.toks) (fun b u e=>Aj _ e) (Ac _) ?_,rfl,q _ hf⟩;exact⟨z,us,r,⟨_,Az _ rfl,rfl,_,rfl⟩⟩
def Gw8(h:PA X es t):PE X (.List es pos) (Heb t):=by
 intro pins s O H Q I hq;refine wpAny_List_spliced (thn (h pos pins s O H _ I hq) fun us s1 ⟨xs,H1,I1,r,z,q⟩=>⟨by rw[<- r.length];exact z,?_⟩);have hf:H1 s1.heap.objs.size=none:=I1.hok.fresh (Ac _);refine⟨.ref s1.heap.objs.size,upd H1 s1.heap.objs.size (.lst xs),I1.laid (t':=s1.toks) (fun b u e=>Aj _ e) (Ac _) ?_,rfl,q _ hf⟩;exact⟨z,us,0,r,Az _ rfl⟩
end
abbrev Sp:=List V->Hp->VK->XK->Prop
abbrev CXT:=List Env->Hp->BO->XK->BN->BO->Prop
structure Env0(P:BR)(w:World)(K:BM)(mg:Str->BQ BN)(base:Heap)(A:Around)(outer:List Env)(s:BO)(H:Hp):Prop where
 frames:A.frames=some outer
 mod:Mod K mg base
 bs:∀b o,base.get? b=some o->s.heap.get? b=some o/\H b=none
 bsz:base.objs.size<=s.heap.objs.size
 funs:s.heap.FunFrames base outer
 frf:∀b∈frs outer,H b=none
 hok:HOk P w H s.heap
 bare:AllBare s.gens
def CE(outer:List Env)(P:BR)(w:World)(H:Hp)(s:BO)(Q:VK)(u:BN)(s':BO):Prop:=
 ∃v H',s'.os=s.os/\AllBare s'.gens/\Un (frs outer) [] H H' s.heap s'.heap/\HOk P w H' s'.heap/\Hg v u/\Q v H'
def CR(CX:CXT)(outer:List Env)(P:BR)(w:World)(H:Hp)(s:BO)(Q:VK)(E:XK)(r:Result)(s':BO):Prop:=
 match r with
 |.ok (.ret u)=>CE outer P w H s Q u s'
 |.ok _=>False
 |.error e=>CX outer H s E e s'
structure FnOk(P:BR)(w:World)(K:BM)(mg:Str->BQ BN)(base:Heap)(CX:CXT)(k:Nat)(f:BP)(fd:FuncData)(ps:List Str)(sp:Sp):Prop where
 len:∀vs H Q E,sp vs H Q E->vs.length=ps.length
 run:∀(A:Around)(outer:List Env)(s:BO)(H:Hp)(args:Args)(us:List BN)(vs:List V)(Q:VK)(E:XK),Room k A->Env0 P w K mg base A outer s H->BindsTo s fd args (ps.zip us)->Vals vs us->sp vs H Q E→
  codeAny (model P w) A (.call (.ref f) args) (CR CX outer P w H s Q E) s
def FnOk.mono{P:BR}{w:World}{K:BM}{mg:Str->BQ BN}{base:Heap}{CX:CXT}{j k:Nat}{f:BP}{fd:FuncData}{ps:List Str}{sp:Sp}(F:FnOk P w K mg base CX j f fd ps sp)(h:j<=k):
  FnOk P w K mg base CX k f fd ps sp:=⟨F.len,fun A outer s H args us vs Q E hr=>F.run A outer s H args us vs Q E (hr.mono h)⟩
def Env0.make{P:BR}{w:World}{K:BM}{mg:Str->BQ BN}{base:Heap}{A:Around}{outer:List Env}{s:BO}{H:Hp}(e:Env0 P w K mg base A outer s H)(C:BP)(us:List BN)(kw:List (Str×BN)):
  Env0 P w K mg base (A.under (.builtin "type.__call__" ⟨.ref C::us,kw⟩)) outer s H:=⟨by first|exact e.frames|(simpa[Around.under,Code.envs,Code.isFrame,pushEnvs]using e.frames),e.mod,e.bs,e.bsz,e.funs,e.frf,e.hok,e.bare⟩
section
variable{X:Cx}{pins:List (BP×Obj)}{O:St}{H:Hp}{s s':BO}
def Inv.env0(I:Inv X pins O H s):Env0 X.prog X.w X.K X.mg X.base X.A X.stack s H:=
 ⟨I.ok.frames,I.ok.mod,I.bs,Ak I.ok.bsz I.sz,I.stack,I.stkFree,I.hok,I.bare⟩
def Inv.after(I:Inv X pins O H s)(h:CE X.stack X.prog X.w H s Q u s'):EP X pins O Q u s':=by
 obtain⟨v,H',os,bare,un,hok,r,q⟩:=h;obtain⟨hh,g,d,t,os'⟩:=s';obtain rfl:os'=s.os:=os;exact⟨v,H',I.call (h':=hh) (g':=g) (d':=d) (t':=t) (ch:=[]) un hok bare (fun b z=>absurd z (by simp)),r,q⟩
end
def Hbi(sp:Sp)(dvs:List V)(E:XK)(t:TA):TE:=fun O H Q=>t O H fun vs H1=>sp (vs++dvs) H1 Q E
def Binds(K:BM)(fd:FuncData)(ps:List Str)(ds:List BN):Prop:=
 ∀(s:BO)(us:List BN),K.In s.heap->(us++ds).length=ps.length->BindsTo s fd ⟨us,[]⟩ (ps.zip (us++ds))
noncomputable def Binds.all{K:BM}{fd:FuncData}{ps:List Str}(h:∀us:List BN,us.length=ps.length->bindArgs fd ⟨us,[]⟩=pure (ps.zip us)):Binds K fd ps []:=fun s us _ hl=>by
 rw[Bd]at hl⊢;exact .of_eq (h us hl)
def Passes(CX:CXT)(X:Cx)(E:XK):Prop:=∀(pins:List (BP×Obj))(O:St)(H:Hp)(s:BO)(e:BN)(s':BO),Inv X pins O H s->CX X.stack H s E e s'->X.xe e s'
section
variable{X:Cx}{CX:CXT}{k:Nat}{f C:BP}{fd:FuncData}{ps:List Str}{sp:Sp}{dvs:List V}{ds:List BN}{E:XK}{x m:Str}{p pos apos:Pos}{e o:Expr}{es:List Expr}{ta:TE}{t:TA}
def Gw9{vs:List V}(F:FnOk X.prog X.w X.K X.mg X.base CX k f fd ps sp)(hr:Room k X.A)(hb:Binds X.K fd ps ds)(hd:Vals dvs ds)(hx:Passes CX X E)(I:Inv X pins O H s)(r:Vals vs us)(h:sp (vs++dvs) H Q E):wpAny (model X.prog X.w) X.A (call (.ref f) us) (EP X pins O Q) X.xe s:=by
 have r2:Vals (vs++dvs) (us++ds):=r.append hd;have hl:(us++ds).length=ps.length:=by rw[<- r2.length];exact F.len _ _ _ _ h
 refine wpAny_call (codeAny_mono (F.run X.A X.stack s H ⟨us,[]⟩ (us++ds) (vs++dvs) Q E hr I.env0 (hb s us I.kIn hl) r2 h) fun r s' hq=>?_);cases r with
 |error e=>exact hx pins O H s e s' I hq
 |ok fl=>
  cases fl with
  |ret u=>exact I.after hq
  |next=>exact False.elim hq
  |brk=>exact False.elim hq
  |cont=>exact False.elim hq
def Gru(F:FnOk X.prog X.w X.K X.mg X.base CX k f fd ps sp)(hr:Room k X.A)(hg:Gl X x)(hm:X.mg x=some (.ref f))(hk:PySem.W.keepIn X.K (.ref f)=true)(hb:Binds X.K fd ps ds)(hd:Vals dvs ds)(hx:Passes CX X E)
  (ha:PA X (e::es) t) (hdb:↥((x==("__debug__":Str))=false)) (he:⇑(starEach (e::es) X.env=(false,eval e X.env)::starEach es X.env)) (hpl:⇑((backTo pos (starEach es X.env)).any (·.1)=false)):
  PE X (.Call (.Name x p) (e::es) [] pos) (Hbi sp dvs E t):=by
 intro pins s O H Q I h;refine wpAny_Call_Name_kw (Ga7 I hg hm ?_ hdb);refine PySem.W.callWith_K (h₀:=X.base) I.ok.mod.kin hk (thn (ha pos pins s O H _ I h) fun us s1 ⟨vs,H1,I1,r,q⟩=>⟨I1.kIn,?_⟩) he hpl;exact Gw9 F hr hb hd hx I1 r q
structure Mk(K:BM)(C f:BP):Prop where
 makes:PySem.W.makesIn K C=true
 init:PySem.W.findIn K (.ref C) "__init__"=some (some (.ref f))
 fn:PySem.W.isFn K (.ref f)=true
 kp:PySem.W.keepIn K (.ref C)=true
end
section
variable{X:Cx}{CX:CXT}{k:Nat}{f C:BP}{fd:FuncData}{ps ks:List Str}{sp:Sp}{E:XK}{x m:Str}{p pos apos kpos:Pos}{e o:Expr}{es:List Expr}{kws:List Keyword}{te ta:TE}{t tk:TA}{nm:BQ Str}
structure KBinds(K:BM)(fd:FuncData)(ps ks:List Str)(g:List BN->List BN->List BN)(gV:List V->List V->List V):Prop where
 to:∀(s:BO)(us ws:List BN),K.In s.heap->(g us ws).length=ps.length->BindsTo s fd ⟨us,ks.zip ws⟩ (ps.zip (g us ws))
 rel:∀{vs:List V}{us:List BN}{zs:List V}{ws:List BN},Vals vs us->Vals zs ws->Vals (gV vs zs) (g us ws)
variable{g:List BN->List BN->List BN}{gV:List V->List V->List V}
end
structure FnScope(N P:List Str)(sc:Scope):Prop where
 kind:sc.kind=.function
 co:sc.isCoroutine=false
 gen:sc.isGenerator=false
 nd:N.Nodup
 pre:N.take P.length=P
 par:∀x∈P,sc.names.lookup x=some .local\/sc.names.lookup x=some .cell
 nofree:∀y∈sc.names,y.2≠.free
def Gfj{kindOf:Str->BQ NameKind}{x:Str}:∀{binds:List (Str×BN)}{m:Str->BQ BN},(∀v,(x,v)∉binds)->bindL kindOf binds m x=m x
 |[],_,_=>rfl
 |(n,v)::r,m,h=>by
  unfold bindL;rw[Gfj fun w hw=>h w (Au _ hw)];split
  ·have:x≠n:=by rintro rfl;exact h v Aw
   simp[this]
  ·rfl
def Gfk{kindOf:Str->BQ NameKind}{x:Str}:∀{binds:List (Str×BN)}{m:Str->BQ BN},(∀v,(x,v)∉binds)->bindC kindOf binds m x=m x
 |[],_,_=>rfl
 |(n,v)::r,m,h=>by
  unfold bindC;rw[Gfk fun w hw=>h w (Au _ hw)];split
  ·rfl
  ·have:x≠n:=by rintro rfl;exact h v Aw
   simp[this]
def Gfl{kindOf:Str->BQ NameKind}:∀{P:List Str}{vs:List BN}{i:Nat}{m:Str->BQ BN},P.Nodup->P[i]?=some x->vs[i]?=some v->kindOf x=some .local→
  bindL kindOf (P.zip vs) m x=some v
 |[],_,_,_,_,h,_,_=>by simp at h
 |_::_,[],_,_,_,_,h,_=>by simp at h
 |p::P,w::vs,0,m,nd,h1,h2,hk=>by
  simp at h1 h2;subst h1;subst h2;show bindL kindOf ((p,w)::P.zip vs) m p=_;unfold bindL;rw[Gfj fun v hv=>(Be.mp nd).1 (List.of_mem_zip hv).1,if_pos hk];simp
 |p::P,w::vs,i+1,m,nd,h1,h2,hk=>by
  show bindL kindOf ((p,w)::P.zip vs) m x=_;unfold bindL;exact Gfl (i:=i) (Be.mp nd).2 (by simpa using h1) (by simpa using h2) hk
def Gfm{kindOf:Str->BQ NameKind}:∀{P:List Str}{vs:List BN}{i:Nat}{m:Str->BQ BN},P.Nodup->P[i]?=some x->vs[i]?=some v->kindOf x≠some .local→
  bindC kindOf (P.zip vs) m x=some v
 |[],_,_,_,_,h,_,_=>by simp at h
 |_::_,[],_,_,_,_,h,_=>by simp at h
 |p::P,w::vs,0,m,nd,h1,h2,hk=>by
  simp at h1 h2;subst h1;subst h2;show bindC kindOf ((p,w)::P.zip vs) m p=_;unfold bindC;rw[Gfk fun v hv=>(Be.mp nd).1 (List.of_mem_zip hv).1,if_neg hk];simp
 |p::P,w::vs,i+1,m,nd,h1,h2,hk=>by
  show bindC kindOf ((p,w)::P.zip vs) m x=_;unfold bindC;exact Gfm (i:=i) (Be.mp nd).2 (by simpa using h1) (by simpa using h2) hk
noncomputable def start(N:List Str)(vs:List V):St:=vs.map some++List.replicate (N.length-vs.length) none
noncomputable def Vj(CX:CXT)(P:BR)(w:World)(K:BM)(mg:Str->BQ BN)(base:Heap)(N:List Str)(qual:Str)(scope:Scope)(f:BP)(cd:BN)(A:Around)(outer:List Env)(s:BO)(H:Hp)(E:XK):Cx where
 prog:=P
 w:=w
 K:=K
 mg:=mg
 base:=base
 A:=A.deeper (envOfC qual scope s.heap.objs.size f cd)
 N:=N
 s₀:=s
 H₀:=H
 env:=envOfC qual scope s.heap.objs.size f cd
 outer:=outer
 stack:=envOfC qual scope s.heap.objs.size f cd::outer
 ex:=[]
 calm:=true
 fn:=fun _=>true
 pn:=[]
 xe:=fun e s'=>wpAny (model P w) (A.deeper (envOfC qual scope s.heap.objs.size f cd)) (leaving (envOfC qual scope s.heap.objs.size f cd) e) (fun _ s''=>CX outer H s E e s'') (fun e' s''=>CX outer H s E e' s'') s'
def Gh8{sc:Scope}(h:sc.names.lookup x=some .cell):∃c,(cellsFrom n sc.names []).lookup x=some c:=by
 have q:=PySem.W.cellsFrom_some sc.names n [] (.inl h);exact BJ.mp q
def Gmt{CX:CXT}{P:BR}{w:World}{K:BM}{mg:Str->BQ BN}{base:Heap}{N ps:List Str}{qual:Str}{scope:Scope}{f:BP}{cd:BN}{A:Around}{outer:List Env}{s s1:BO}{H:Hp}{E:XK}{us:List BN}{vs:List V}
  (S:FnScope N ps scope) (hd:A.handled=none) (e0:Env0 P w K mg base A outer s H) (hl:vs.length=ps.length) (r:Vals vs us)
  (x:InCallC s s.heap.objs.size (bindL (envOfC qual scope s.heap.objs.size f cd).kindOf (ps.zip us) fun _=>none) (cellsFrom (s.heap.objs.size+1) scope.names []) (bindC (envOfC qual scope s.heap.objs.size f cd).kindOf (ps.zip us) fun _=>none) s1):
  Inv (Vj CX P w K mg base N qual scope f cd A outer s H E) [] (start N vs) H s1:=by
 have hpl:ps.length<=N.length:=by have:=congrArg List.length S.pre;rw[AT]at this;omega
 obtain⟨h1,tk,rfl,hk⟩:=x.done;have noA:∀b:BP,b∉(Vj CX P w K mg base N qual scope f cd A outer s H E).ex:=fun b z=>absurd (show b∈([]:List BP)from z) (by simp);refine⟨⟨e0.mod,S.kind,rfl,rfl,Ac _,fun y z c h1 h2=>?_,fun y hy=>?_,fun y c _ h=>?_,fun _=>hd,Around.frames_deeper e0.frames,.inr ⟨rfl,rfl⟩,fun b z=>absurd z (noA b),e0.bs,e0.bsz,fun b _ _=>noA b,fun b z=>absurd z (noA b),e0.funs,e0.frf⟩,
  rfl,e0.bare,Un.kept hk,⟨_,x.toInCall.ns,fun i y v h1 h2 h3=>?_⟩,fun y c h=>⟨_,x.cell y c h⟩,e0.hok.fresh (Ac _),fun y c h=>?_,fun p hp=>absurd (show p∈([]:List (BP×Obj)) from hp) (by simp),e0.hok.kept hk,?_⟩
 ·exact name_of_addr x.apart (PySem.mem_of_lookup h1) (PySem.mem_of_lookup h2)
 ·have hy:scope.names.lookup y=some .cell\/scope.names.lookup y=some .free:=hy;rcases hy with hy|hy
  ·exact Gh8 hy
  ·exact absurd rfl (S.nofree _ (PySem.mem_of_lookup hy))
 ·exact Nat.le_of_lt (x.above y c (PySem.mem_of_lookup h))
 ·have hi:i<vs.length:=by
   unfold start at h2;by_cases hi:i<vs.length
   ·exact hi
   ·rw[Bq (by simpa using hi)]at h2;rw[List.getElem?_replicate]at h2;split at h2<;>cases h2
  have ha:vs[i]?=some v:=by
   unfold start at h2;rw[AD (by simpa using hi),Ar]at h2;cases e:vs[i]? with
   |none=>rw[e]at h2;cases h2
   |some a=>rw[e]at h2;cases h2;rfl
  obtain⟨u,hu,rv⟩:=r.get ha;have hp:ps[i]?=some y:=by
   rw[<- S.pre,List.getElem?_take_of_lt (by omega)];exact h1
  have ndP:ps.Nodup:=by rw[<- S.pre];exact S.nd.sublist (List.take_sublist _ _)
  refine⟨u,rv,?_⟩;rcases S.par y (Ao hp)with k|k
  ·exact .inl ⟨k,Gfl ndP hp hu k⟩
  ·obtain⟨c,e⟩:=Gh8 (n:=s.heap.objs.size+1) k;refine .inr ⟨.inl k,c,e,?_⟩;have q:=x.cell y c e;rw[Gfm ndP hp hu (by show scope.names.lookup y≠_;rw[k];decide)]at q;exact q
 ·exact e0.hok.fresh (Nat.le_of_lt (x.above y c (PySem.mem_of_lookup h)))
 ·unfold start;show _=N.length;rw[AG,Ai,List.length_replicate];omega
def Gu9{K:BM}{kV:BN}{an:BQ BP}{ps:List Str}{sp:Sp}(lk:K.lookup f=some ⟨oc,od,.func (PySem.W.fnOf name qual params body scope dV kV doc pm an cdv ct),osl⟩)(hcd:PySem.W.codeIn K cdv qual=true)(S:FnScope N ps scope)(len:∀ vs H Q E,sp vs H Q E->vs.length=ps.length)(hbody:∀ (A:Around) (outer:List Env) (s:BO) (H:Hp) (vs:List V) (Q:VK) (E:XK),Room k (A.deeper (envOfC qual scope s.heap.objs.size f cdv))->sp vs H Q E→
   ∃ t,PSs (Vj CX P w K mg base N qual scope f cdv A outer s H E) body t/\t { nx:=fun _ H'=>Q .non H',rt:=Q } (start N vs) H):
  FnOk P w K mg base CX (k+1) f (PySem.W.fnOf name qual params body scope dV kV doc pm an cdv ct) ps sp:=by
 refine⟨len,fun A outer s H args us vs Q E hr e0 hb r hsp=>?_⟩;have hl:=len _ _ _ _ hsp;have KX:K.In s.heap:=e0.mod.kin.keeps fun b o e=>(e0.bs b o e).1;have lim:s.heap.NoLimit:=e0.mod.nolimit.keeps fun b o e=>(e0.bs b o e).1;have hkind:∀y∈ps.zip us,scope.names.lookup y.1=some .local\/(scope.names.lookup y.1=some .cell/\((cellsFrom (s.heap.objs.size+1) scope.names []).lookup y.1).isSome=true):=fun⟨n,v⟩ hy=>by
  rcases S.par n (List.of_mem_zip hy).1 with q|q
  ·exact .inl q
  ·exact .inr ⟨q,PySem.W.cellsFrom_some _ _ _ (.inl q)⟩
 refine codeAny_call_function hr.depth (KX _ _ lk) rfl S.co S.gen rfl (PySem.W.codeRec_of KX hcd) (hb _ _ _ _ ?_);refine wpAny_newFunctionEnv_cells S.kind hkind fun env he s1 x=>?_;subst he;refine⟨lim.keeps x.toInCall.keep,codeAny_func ?_⟩;obtain⟨t,ht,hq⟩:=hbody A outer s H vs Q E (hr.deeper _) hsp;have I:Inv (Vj CX P w K mg base N qual scope f cdv A outer s H E) [] (start N vs) H s1:=Gmt S hr.hd e0 hl r x;refine wpAny_mono (ht [] s1 (start N vs) H _ I hq) (fun fl s' hs=>?_) fun e s' hs=>hs;have fin:∀{O':St}{H':Hp}{v:V}{u:BN},Inv (Vj CX P w K mg base N qual scope f cdv A outer s H E) [] O' H' s'->Hg v u->Q v H'->CE outer P w H s Q u s':=
  fun{O' H' v u} J rv q=>⟨v,H',J.os,J.bare,J.base,J.hok,rv,q⟩
 cases fl with
 |ret u=>
  obtain⟨v,O',H',J,rv,q⟩:=hs;exact fin J rv q
 |next=>
  obtain⟨O',H',J,q⟩:=hs;exact fin (v:=V.non) (u:=Value.none) J rfl q
 |brk=>
  obtain⟨_,_,_,q⟩:=hs;exact False.elim q
 |cont=>
  obtain⟨_,_,_,q⟩:=hs;exact False.elim q
section
variable{X:Cx}{x:Str}{p pos:Pos}{e:Expr}{es:List Expr}{t:TA}{id T:String}{r:List V->Hp->VK->Prop}
def tCB(r:List V->Hp->VK->Prop)(t:TA):TE:=fun O H Q=>t O H fun vs H1=>r vs H1 Q
def Gh9(hc:Xg X (.builtin id) r)(hg:Gl X x)(hm:X.mg x=none)(hv:bootBuiltins x=some (.builtin id))(ha:PA X (e::es) t)(hn:↥(x≠"__name__"))(hdb:↥((x==("__debug__":Str))=false))
  (he:⇑(starEach (e::es) X.env=(false,eval e X.env)::starEach es X.env)) (hpl:⇑((backTo pos (starEach es X.env)).any (·.1)=false)):PE X (.Call (.Name x p) (e::es) [] pos) (tCB r t):=by
 intro pins s O H Q I h;refine wpAny_Call_Name_kw (Wo I hg hm hv ?_ hn hdb);exact PyProof.Rows.callWith_builtin1 (thn (ha pos pins s O H _ I h) fun us s1 ⟨vs,H1,I1,r1,q1⟩=>hc pins s1 O H1 vs us Q I1 r1 q1) he hpl
def Gmu(hc:Xg X (.type T) r)(hg:Gl X x)(hm:X.mg x=none)(hv:bootBuiltins x=some (.type T))(ha:PA X (e::es) t)(hn:↥(x≠"__name__"))(hdb:↥((x==("__debug__":Str))=false))
  (he:⇑(starEach (e::es) X.env=(false,eval e X.env)::starEach es X.env)) (hpl:⇑((backTo pos (starEach es X.env)).any (·.1)=false)):PE X (.Call (.Name x p) (e::es) [] pos) (tCB r t):=by
 intro pins s O H Q I h;refine wpAny_Call_Name_kw (Wo I hg hm hv ?_ hn hdb);exact PyProof.Rows.callWith_type1 (thn (ha pos pins s O H _ I h) fun us s1 ⟨vs,H1,I1,r1,q1⟩=>hc pins s1 O H1 vs us Q I1 r1 q1) he hpl
end
end L2
namespace HT
open PySem PyProof.Rows
section
open PySem.SeqAt
open PySem.AutoSeq1 (wpAny_loadPart')
open PySem.MeetsSeq PySem.MeetsSeq2 PySem.MeetsSeq3
end
section
variable{prog:BR}{w:World}{A:Around}{E:BN->BO->Prop}{s:BO}
def Grv{vs ws:List BN}{Q:BN->BO->Prop}(ht:IsTup s.heap t vs.toArray)(hb:IsTup s.heap b ws.toArray)(hv:vs≠[])(h1:ws=[]->Q (.ref t) s)(h2:ws≠[]->Q (.ref s.heap.objs.size) {s with heap:=s.heap.push {cls:=.type "tuple",data:=.seq (vs++ws).toArray}})(hsz:vs.length+ws.length<=sizeLine):wpAny (model prog w) A (binaryOp .Add (.ref t) (.ref b)) Q E s:=by
 obtain⟨⟨cls,dd,data,sl⟩,ho,hc,n,hd⟩:=id ht;obtain⟨⟨cls2,dd2,data2,sl2⟩,ho2,hc2,n2,hd2⟩:=id hb;simp only at hc hd hc2 hd2;subst hc hd hc2 hd2;have e:vs.toArray++ws.toArray=(vs++ws).toArray:=by simp
 by_cases hw:ws=[]
 ·exact concat_meets ⟨_,ho,rfl⟩ ⟨_,ho2,rfl⟩ noFill_tuple_add seq_tuple_add PySem.F.slot_tuple_add PySem.F.entry_tuple_add (PySem.F.args_tuple_add_2 _ _)
   (tuple_addW1 t b vs.toArray ws.toArray n n2 dd dd2 sl sl2 (by simpa using hv) (by simp[hw])) ⟨ho,ho2,h1 hw⟩
 ·refine concat_meets ⟨_,ho,rfl⟩ ⟨_,ho2,rfl⟩ noFill_tuple_add seq_tuple_add PySem.F.slot_tuple_add PySem.F.entry_tuple_add (PySem.F.args_tuple_add_2 _ _)
   (tuple_addW2 t b vs.toArray ws.toArray n n2 dd dd2 sl sl2 (by simpa using hv) (by simpa using hw) (by rw[Aq,Aq];exact hsz)) ⟨ho,ho2,?_⟩
  rw[e];exact h2 hw
noncomputable def sIx(n d:Nat):BQ Int->Nat
 |none=>d
 |some v=>if v<0 then(v+(n:Int)).toNat else min v.toNat n
def Qd(n d:Nat):sIx n d none=d:=rfl
def Vo(n d k:Nat):sIx n d (some (k:Int))=min k n:=by
 show(if(k:Int)<0 then((k:Int)+(n:Int)).toNat else min (k:Int).toNat n)=min k n;rw[if_neg (by omega),AK]
def Gxa(n d:Nat)(hd:d<=n)(o:BQ Int):sIx n d o<=n:=by
 cases o with
 |none=>exact hd
 |some v=>
  show(if v<0 then(v+(n:Int)).toNat else min v.toNat n)<=n;by_cases hv:v<0
  ·rw[if_pos hv];omega
  ·rw[if_neg hv];exact Nat.min_le_right _ _
def Glc(v:Int)(n d:Nat):(if v<0 then max (v+(n:Int)) 0 else min v (n:Int))=((sIx n d (some v):Nat):Int):=by
 show(if v<0 then max (v+(n:Int)) 0 else min v (n:Int))=(((if v<0 then(v+(n:Int)).toNat else min v.toNat n):Nat):Int)
 by_cases hv:v<0
 ·simp only[if_pos hv];omega
 ·simp only[if_neg hv];omega
def Gj6(lo hi:BQ Int)(n:Nat):Builtin.Slice.sliceAdjust lo hi 1 (n:Int)=(((sIx n 0 lo:Nat):Int),((sIx n n hi:Nat):Int)):=by
 have h1:¬((1:Int)<0):=by omega
 unfold Builtin.Slice.sliceAdjust;simp only[h1,if_false];refine Prod.ext ?_ ?_
 ·cases lo with
  |none=>rfl
  |some v=>exact Glc v n 0
 ·cases hi with
  |none=>rfl
  |some v=>exact Glc v n n
def Gj7(i j:Nat):Builtin.Slice.slicePlaces (i:Int) (j:Int) 1=j-i:=by
 unfold Builtin.Slice.slicePlaces;have h1:(1:Int)>0:=by omega
 simp only[h1,if_true,Int.ediv_one];split<;>omega
def Gdo{Q:BQ Int->BO->Prop}(p:IsPart v o)(h:Q o s):wpAny (model prog w) A (Builtin.Slice.slicePartIndex v) Q E s:=by
 cases p with
 |none=>exact slicePart_none h
 |int i t=>exact slicePart_int h
def Xh{sl:BP}{vl vu:BN}{lo hi:BQ Int}{n:Nat}{Q:Int×Int×Nat->BO->Prop}(hs:s.heap.IsSliceOf sl vl vu .none)(pl:IsPart vl lo)(pu:IsPart vu hi)
  (h:Q (((sIx n 0 lo:Nat):Int),1,sIx n n hi-sIx n 0 lo) s):wpAny (model prog w) A (Builtin.Slice.sliceApplied (.ref sl) (pure (n:Int))) Q E s:=by
 obtain⟨os,hos,hcs,hds⟩:=id hs;unfold Builtin.Slice.sliceApplied Builtin.Slice.sliceFields;refine wpAny_bind (wpAny_bind (wpAny_field hos hds (x:=vl) rfl (wpAny_bind (wpAny_field hos hds (x:=vu) rfl (wpAny_bind (wpAny_field hos hds (x:=.none) rfl (wpAny_pure ?_)))))));refine wpAny_bind (slicePart_none ?_);show wpAny _ _ (if((1:Int)==0)=true then _ else _) _ _ s;rw[if_neg (by decide)];refine wpAny_bind (Gdo pl (wpAny_bind (Gdo pu (wpAny_bind (wpAny_pure ?_)))));show wpAny _ _ (match Builtin.Slice.sliceAdjust lo hi 1 (n:Int)with|(lo,hi)=>pure (lo,(1:Int),Builtin.Slice.slicePlaces lo hi 1)) _ _ s;rw[Gj6 lo hi n];show wpAny _ _ (pure (((sIx n 0 lo:Nat):Int),(1:Int),Builtin.Slice.slicePlaces ((sIx n 0 lo:Nat):Int) ((sIx n n hi:Nat):Int) 1)) _ _ s;rw[Gj7];exact wpAny_pure h
def Gn3(xs:Array BN)(i k:Nat):((List.range k).filterMap fun(m:Nat)=>xs[((i:Int)+(m:Int)*1).toNat]?).toArray=((xs.toList.drop i).take k).toArray:=by
 have e:(fun(m:Nat)=>xs[((i:Int)+(m:Int)*1).toNat]?)=fun m=>xs[i+m]?:=by
  funext m;have:((i:Int)+(m:Int)*1).toNat=i+m:=by omega
  rw[this]
 rw[e];have:=pick_run xs i k;rw[List.filterMap_map]at this;have e2:((fun x=>xs[x]?)∘fun x=>i+x)=fun m=>xs[i+m]?:=rfl;rw[e2]at this;rw[this]
def Ga9{t sl:BP}{items:Array BN}{vl vu:BN}{lo hi:BQ Int}{Q:BN->BO->Prop}(ht:IsTup s.heap t items)(hs:s.heap.IsSliceOf sl vl vu .none)(pl:IsPart vl lo)(pu:IsPart vu hi)
  (hw:¬(sIx items.size 0 lo=0/\sIx items.size items.size hi=items.size))
  (h:Q (.ref s.heap.objs.size) {s with heap:=s.heap.push {cls:=.type "tuple",data:=.seq ((items.toList.drop (sIx items.size 0 lo)).take (sIx items.size items.size hi-sIx items.size 0 lo)).toArray}})
  (hsz:items.size<=sizeLine):wpAny (model prog w) A (getItem (.ref t) (.ref sl)) Q E s:=by
 have htake:sizeOk (.seq ((items.toList.drop (sIx items.size 0 lo)).take (sIx items.size items.size hi-sIx items.size 0 lo)).toArray):=by
  show((items.toList.drop (sIx items.size 0 lo)).take (sIx items.size items.size hi-sIx items.size 0 lo)).toArray.size<=sizeLine;rw[Aq,AT,Ba,Array.length_toList];omega
 have hj:sIx items.size items.size hi<=items.size:=Gxa _ _ (Ac _) hi;obtain⟨os,hos,hcs,hds⟩:=id hs;have hTs:s.TypeIs (.ref sl) "slice":=⟨os,hos,hcs⟩
 unfold getItem
 try with_reducible refine wpAny_holding ?_
 first|refine wpAny_bind (wpAny_pure ?_)|skip
 refine wpAny_bind (wpAny_sequenceKey ht.typeIs (by decide) ?_);refine wpAny_bind (wpAny_callSpecial?_slot (name:=Str.ofString "__getitem__") ht.typeIs PyProof.Rows.slot_tuple_getitem
  (wpAny_call_entry PyProof.Rows.slot_tuple_getitem ht.typeIs entry_tuple_getitem ?_ (args_tuple_getitem _ _)))
 show wpAny _ _ (Builtin.Tuple.tupleItemsOf (.ref t) >>= _) _ _ s;refine wpAny_bind (tupleItemsOf_ ht ?_);refine wpAny_bind (wpAny_typeOf hTs ?_);rw[if_pos (by decide)];refine wpAny_bind (Xh hs pl pu ?_);have hno:¬((((sIx items.size 0 lo:Nat):Int)==0&&(1:Int)==1&&(sIx items.size items.size hi-sIx items.size 0 lo)==items.size)=true):=by
  intro q;rw[Am,Am]at q;have q1:((sIx items.size 0 lo:Nat):Int)=0:=eq_of_beq q.1.1;have q2:sIx items.size items.size hi-sIx items.size 0 lo=items.size:=eq_of_beq q.2;exact hw ⟨by omega,by omega⟩
 show wpAny _ _ (if(((sIx items.size 0 lo:Nat):Int)==0&&(1:Int)==1&&(sIx items.size items.size hi-sIx items.size 0 lo)==items.size)=true then _ else _) _ _ s;rw[if_neg hno,Gn3]
 first
  |exact wpAny_bind (m:=Builtin.Tuple.tupleExact _) (wpAny_newObj_type (wpAny_pure ⟨_,rfl,wpAny_pure h⟩) htake)
  |exact wpAny_bind (m:=Builtin.Tuple.tupleExact _) (wpAny_newObj_type (wpAny_bind (wpAny_pure (wpAny_pure ⟨_,rfl,wpAny_pure h⟩))) htake)
  |exact wpAny_bind (wpAny_bind (m:=Builtin.Tuple.tupleExact _) (wpAny_newObj_type (wpAny_pure (wpAny_pure ⟨_,rfl,wpAny_pure h⟩)) htake))
  |exact wpAny_bind (wpAny_bind (m:=Builtin.Tuple.tupleExact _) (wpAny_newObj_type (wpAny_pure ⟨_,rfl,wpAny_pure h⟩) htake))
end
end HT
namespace L2
open PySem PySem.Spec PyProof.Rows
variable{xs:List V}{us its:List BN}{n:Nat}{pins:List (BP×Obj)}{O:St}{H:Hp}{x:V}
abbrev TO:=St->Hp->(BQ Int->Hp->Prop)->Prop
def PO(X:Cx)(e:BQ Expr)(t:TO):Prop:=
 ∀(pins:List (BP×Obj))(s:BO)(O:St)(H:Hp)(Q:BQ Int->Hp->Prop),Inv X pins O H s->t O H Q→
  wpAny (model X.prog X.w) X.A (evalPart e X.env) (fun u s'=>∃o H',Inv X pins O H' s'/\IsPart u o/\Q o H') X.xe s
def Grw:TO:=fun _ H Q=>Q none H
def Hbj(t:TE):TO:=fun O H Q=>t O H fun x H1=>∃i,x=.int i/\Q (some i) H1
def Gj8{ns:List Int}:∀{us:List BN},Vals (ns.map V.int) us->IntsAre us ns:=by
 induction ns with
 |nil=>intro us r;rw[Br]at r;cases r;exact .nil
 |cons n ns ih=>
  intro us r;rw[AB]at r;cases r with
  |cons r1 r2=>
   obtain⟨t,e⟩:=r1;subst e;exact .cons n t (ih r2)
section
variable{X:Cx}{e:Expr}{te:TE}{lo hi:BQ Expr}{tl th:TO}{pos p2:Pos}
def Grx:PO X none Grw:=by
 intro pins s O H Q I h;rw[evalPart_none];exact wpAny_pure ⟨none,H,I,.none,h⟩
def Gry(h:PE X e te):PO X (some e) (Hbj te):=by
 intro pins s O H Q I hw;rw[evalPart_some];refine thn (h pins s O H _ I hw) fun u s1 zq0=>?_;obtain⟨x,H1,I1,r1,q1⟩:=zq0;obtain⟨i,rfl,q⟩:=q1;obtain⟨t,rfl⟩:=r1;exact⟨some i,H1,I1,.int i t,q⟩
def SlR(X:Cx)(r:V->BQ Int->BQ Int->Hp->VK->Prop):Prop:=
 ∀(pins:List (BP×Obj))(s:BO)(O:St)(H:Hp)(x:V)(v vl vu:BN)(lo hi:BQ Int)(sl:BP)(Q:VK),Inv X pins O H s->Hg x v->s.heap.IsSliceOf sl vl vu .none->IsPart vl lo->IsPart vu hi->r x lo hi H Q→
  ∃T id,typeLookup (.type T) "__getitem__"=pure (some (.builtin id))/\s.TypeIs v T/\wpAny (model X.prog X.w) X.A (getItem v (.ref sl)) (EP X pins O Q) X.xe s
def SlR.or{r r':V->BQ Int->BQ Int->Hp->VK->Prop}(h:SlR X r)(h':SlR X r'):SlR X (fun x lo hi H Q=>r x lo hi H Q\/r' x lo hi H Q):=by
 intro pins s O H x v vl vu lo hi sl Q I rx hs pl pu q;rcases q with q|q
 ·exact h pins s O H x v vl vu lo hi sl Q I rx hs pl pu q
 ·exact h' pins s O H x v vl vu lo hi sl Q I rx hs pl pu q
def tSl(r:V->BQ Int->BQ Int->Hp->VK->Prop)(te:TE)(tl th:TO):TE:=fun O H Q=>te O H fun x H1=>tl O H1 fun l H2=>th O H2 fun u H3=>r x l u H3 Q
def Gn4(hr:SlR X r)(he:PE X e te)(hl:PO X lo tl)(hu:PO X hi th):PE X (.Subscript e (.Slice lo hi none p2) pos) (tSl r te tl th):=by
 intro pins s O H Q I h;refine Subscript_ (thn (he pins s O H _ I h) fun v s1 zq0=>?_);obtain⟨x,H1,I1,r1,q1⟩:=zq0;refine wpAny_Slice (thn (hl pins s1 O H1 _ I1 q1) fun vl s2 ⟨l,H2,I2,pl,q2⟩=>thn (hu pins s2 O H2 _ I2 q2) fun vu s3 zq0=>?_);obtain⟨u,H3,I3,pu,q3⟩:=zq0;rw[evalPart_none];refine wpAny_pure ?_;have I4:Inv X pins O H3 {s3 with heap:=s3.heap.push {cls:=.type "slice",data:=.fields #[vl,vu,.none]}}:=I3.kept (t':=s3.toks) fun b ob q=>Aj _ q;obtain⟨T,id,hT,ht,hg⟩:=hr pins {s3 with heap:=s3.heap.push {cls:=.type "slice",data:=.fields #[vl,vu,.none]}} O H3 x v vl vu l u s3.heap.objs.size Q I4 r1 (Heap.IsSliceOf.new ..) pl pu q3;show wpAny (model X.prog X.w) X.A (subscriptTail e (.Slice lo hi none p2) v (.ref s3.heap.objs.size)) (EP X pins O Q) X.xe {s3 with heap:=s3.heap.push {cls:=.type "slice",data:=.fields #[vl,vu,.none]}};exact tail_any (ops:=[.ref s3.heap.objs.size,v]) ht hT hg (by with_unfolding_all rfl)
def Gia(xs:List V)(lo hi:BQ Int):List V:=(xs.drop (HT.sIx xs.length 0 lo)).take (HT.sIx xs.length xs.length hi-HT.sIx xs.length 0 lo)
def Gco(xs:List V)(lo hi:BQ Int):(Gia xs lo hi).length<=xs.length:=by
 unfold Gia;rw[AT,Ba];omega
def Hec(K:BM):V->BQ Int->BQ Int->Hp->VK->Prop:=fun x lo hi H Q=>∃a xs,x=.ref a/\SqT K H a xs∧
 ¬(HT.sIx xs.length 0 lo=0/\HT.sIx xs.length xs.length hi=xs.length)/\∀p,H p=none->Q (.ref p) (upd H p (.tup (Gia xs lo hi)))
def Gxb:SlR X (Hec X.K):=by
 intro pins s O H x v vl vu lo hi sl Q I rx hs pl pu h;obtain⟨a,xs,rfl,hx,hw,q⟩:=h;cases rx;obtain⟨its,r,ht,hz⟩:=I.tuple hx;have hlen:its.toArray.size=xs.length:=by rw[Aq];exact r.length.symm
 refine⟨"tuple",_,PyProof.Rows.slot_tuple_getitem.lookup,ht.typeIs,?_⟩;refine HT.Ga9 ht hs pl pu (by rw[hlen];exact hw) ?_ (by rw[hlen];exact hz);rw[hlen];refine⟨.ref s.heap.objs.size,_,I.laid (t':=s.toks) (o:=.tup (Gia xs lo hi)) (fun b ob q=>Aj _ q) (Ac _) ?_,rfl,q _ (I.hok.fresh (Ac _))⟩;exact⟨Ak (Gco xs lo hi) hz,_,(r.drop (HT.sIx xs.length 0 lo)).take (HT.sIx xs.length xs.length hi-HT.sIx xs.length 0 lo),IsTup.new _ _⟩
def Gva(K:BM):R2:=fun x y H Q=>∃a b xs ys,x=.ref a/\y=.ref b/\SqT K H a xs/\SqT K H b ys/\xs≠[]/\xs.length+ys.length<=sizeLine∧
 (ys=[]->Q (.ref a) H)/\(ys≠[]->∀p,H p=none->Q (.ref p) (upd H p (.tup (xs++ys))))
def Vals.nil_iff(r:Vals xs us):us=[]↔xs=[]:=by
 cases r with
 |nil=>simp
 |cons _ _=>simp
def Grz:OpR X (binaryOp .Add) (Gva X.K):=by
 intro pins s O H x y v u Q I rx ry h;obtain⟨a,b,xs,ys,rfl,rfl,ha,hb,hx,hz,q1,q2⟩:=h;cases rx;cases ry;obtain⟨its,r1,p1,_⟩:=I.tuple ha;obtain⟨its2,r2,p2,_⟩:=I.tuple hb;refine HT.Grv p1 p2 (fun z=>hx (r1.nil_iff.mp z)) (fun z=>⟨.ref a,H,I,rfl,q1 (r2.nil_iff.mp z)⟩) (fun z=>?_) (by rw[<- r1.length,<- r2.length];exact hz);refine⟨.ref s.heap.objs.size,_,I.laid (t':=s.toks) (o:=.tup (xs++ys)) (fun b ob q=>Aj _ q) (Ac _) ?_,rfl,q2 (fun w=>z (r2.nil_iff.mpr w)) _ (I.hok.fresh (Ac _))⟩;exact⟨by rw[AG];exact hz,_,r1.append r2,IsTup.new _ _⟩
end
noncomputable def ixN(n:Nat)(i:Int):BQ Nat:=if 0<=i then(if i<n then some i.toNat else none)else if -(n:Int)<=i then some (i+n).toNat else none
def atI(xs:List Z)(i:Int):BQ Z:=(ixN xs.length i).bind fun j=>xs[j]?
def Gld(h:ixN n i=some j):seqIndex? i n=some j/\j<n /\ -(n:Int)<=i/\i<n:=by
 unfold ixN at h;by_cases h0:0<=i
 ·rw[if_pos h0]at h;by_cases h1:i<n
  ·rw[if_pos h1]at h;have e:i.toNat=j:=Ab h;exact⟨by rw[seqIndex_of h0 h1,e],by omega,by omega,h1⟩
  ·rw[if_neg h1]at h;cases h
 ·rw[if_neg h0]at h;by_cases h1 : -(n:Int)<=i
  ·rw[if_pos h1]at h;have e:(i+n).toNat=j:=Ab h;exact⟨by rw[seqIndex_neg (by omega) h1,e],by omega,h1,by omega⟩
  ·rw[if_neg h1]at h;cases h
def Gf8{xs:List Z}(h:atI xs i=some v):∃j,seqIndex? i xs.length=some j/\xs[j]?=some v/\j<xs.length /\ -(xs.length:Int)<=i/\i<xs.length:=by
 unfold atI at h;cases e:ixN xs.length i with
 |none=>rw[e]at h;cases h
 |some j=>
  rw[e]at h;obtain⟨h1,h2,h3,h4⟩:=Gld e;exact⟨j,h1,h,h2,h3,h4⟩
def Gde(b:Expr):Prop:=∀o i,subscripted b false o i=operate [o,i] (getItem o i)
def IxR(X:Cx)(r:R2):Prop:=
 ∀(value slice:Expr)(pins:List (BP×Obj))(s:BO)(O:St)(H:Hp)(x y:V)(v u:BN)(Q:VK),Inv X pins O H s->Hg x v->Hg y u->r x y H Q→
  subscripted slice false v u=operate [v,u] (getItem v u)->wpAny (model X.prog X.w) X.A (subscriptTail value slice v u) (EP X pins O Q) X.xe s
def MtR(X:Cx)(id:String)(r:V->List V->Hp->VK->Prop):Prop:=
 ∀(pins:List (BP×Obj))(s:BO)(O:St)(H:Hp)(x:V)(xs:List V)(v:BN)(us:List BN)(Q:VK),Inv X pins O H s->Hg x v->Vals xs us->r x xs H Q→
  wpAny (model X.prog X.w) X.A (call (.builtin id) (v::us)) (EP X pins O Q) X.xe s
section
variable{X:Cx}{a b:Expr}{ta tb:TE}{pos:Pos}
def IxR.or{r r':R2}(h:IxR X r)(h':IxR X r'):IxR X (fun x y H Q=>r x y H Q\/r' x y H Q):=by
 intro value slice pins s O H x y v u Q I rx ry q hs;rcases q with q|q
 ·exact h value slice pins s O H x y v u Q I rx ry q hs
 ·exact h' value slice pins s O H x y v u Q I rx ry q hs
def Hbk(hr:IxR X r)(ha:PE X a ta)(hb:PE X b tb)(hs:Gde b):PE X (.Subscript a b pos) (tOp r ta tb):=by
 intro pins s O H Q I h;exact Subscript_ (Gwx ha hb I h fun v u s2 x y H2 I2 rx ry q=>hr a b pins s2 O H2 x y v u Q I2 rx ry q (hs _ _))
def Hbl(K:BM):R2:=fun x y H Q=>∃p xs i v,x=.ref p/\y=.int i/\SqL K H p xs/\atI xs i=some v/\Q v H
def Hbm(K:BM):R2:=fun x y H Q=>∃p xs i v,x=.ref p/\y=.int i/\SqT K H p xs/\atI xs i=some v/\Q v H
def Hbn:R2:=fun x y H Q=>∃z i c,x=.str z/\y=.int i/\z.length<=sizeLine/\atI z.cps.toList i=some c/\Q (.str ⟨#[c]⟩) H
def Gr0:IxR X (Hbl X.K):=by
 intro value slice pins s O H x y v u Q I rx ry h hs;obtain⟨p,xs,i,z,rfl,rfl,hq,he,q⟩:=h;cases rx;obtain⟨t,rfl⟩:=ry;obtain⟨its,r,pl,hz⟩:=I.list hq;obtain⟨j,h1,h2,h3,h4,h5⟩:=Gf8 he;obtain⟨w,ew,rw'⟩:=r.get h2;have hl:=r.length;have hn:=Gau;have fin:EP X pins O Q w s:=⟨z,H,I,rw',q⟩
 by_cases h0:0<=i
 ·have hj:i.toNat=j:=by
   rw[seqIndex_of h0 h5]at h1;exact Ab h1
  exact item_listR pl.isList h0 (by omega) (by rw[hj];simpa using ew) fin hs
 ·have hj:(i+(its.toArray.size:Int)).toNat=j:=by
   rw[seqIndex_neg (by omega) h4]at h1;rw[Aq,<- hl];exact Ab h1
  exact subscriptTail_builtinR (x:=w) pl.isList.typeIs slot_list_getitem.lookup
   (wpAny_getItem_list_neg (Q:=fun r s'=>r=w/\EP X pins O Q r s') pl.isList (by omega) (by rw[Aq]<;>omega) (by omega) (by rw[hj];simpa using ew) ⟨rfl,fin⟩) hs
def Gxc:IxR X (Hbm X.K):=by
 intro value slice pins s O H x y v u Q I rx ry h hs;obtain⟨p,xs,i,z,rfl,rfl,hq,he,q⟩:=h;cases rx;obtain⟨t,rfl⟩:=ry;obtain⟨its,r,pl,hz⟩:=I.tuple hq;obtain⟨j,h1,h2,h3,h4,h5⟩:=Gf8 he;obtain⟨w,ew,rw'⟩:=r.get h2;have hl:=r.length;have hn:=Gau;have fin:EP X pins O Q w s:=⟨z,H,I,rw',q⟩
 exact subscriptTail_builtinR (x:=w) pl.typeIs slot_tuple_getitem.lookup
  (getItem_tuple (j:=j) (Q:=fun r s'=>r=w/\EP X pins O Q r s') pl (by omega) (by omega) (by rw[Aq,<- hl];exact h1) (by simpa using ew) ⟨rfl,fin⟩) hs
def Gxd:IxR X Hbn:=by
 intro value slice pins s O H x y v u Q I rx ry h hs;obtain⟨z,i,c,rfl,rfl,hz,he,q⟩:=h;obtain⟨t,rfl⟩:=rx;obtain⟨t',rfl⟩:=ry;obtain⟨j,h1,h2,h3,h4,h5⟩:=Gf8 he;have hl:z.cps.toList.length=z.length:=by simp[Str.length]
 rw[hl]at h1 h4 h5;have hn:=Gau;exact tail_any (typeIs_str s z t) slot_str_getitem.lookup (getItem_str (c:=c) (by
  have e1:decide (i < -(2^63:Int))=false:=decide_eq_false (by omega);have e2:decide (i≥2^63)=false:=decide_eq_false (by omega);rw[e1,e2,Bool.or_false]) (by rw[h1]; simpa using h2) ⟨.str ⟨#[c]⟩,H,I.tok _,⟨_,rfl⟩,q⟩) hs
def rIx(K:BM):R2:=fun x y H Q=>Hbl K x y H Q\/Hbm K x y H Q\/Hbn x y H Q
def Gxe:IxR X (rIx X.K):=Gr0.or (Gxc.or Gxd)
def Gj9(its:List BN)(n j:Nat)(u:BN):Obj.mapSeq (·.setIfInBounds j u) {cls:=.type "list",data:=.seq its.toArray n}={cls:=.type "list",data:=.seq (its.set j u).toArray n}:=by
 simp[Obj.mapSeq]
def Inv.lst{s:BO}(I:Inv X pins O H s)(h:H p=some (.lst xs)):
  ∃(its:List BN)(n:Nat),Vals xs its/\s.heap.get? p=some {cls:=.type "list",data:=.seq its.toArray n}/\xs.length<=sizeLine:=by
 obtain⟨z,its,n,r,e⟩:=I.hok p _ h;exact⟨its,n,r,e,z⟩
def Inv.lstUpd{s:BO}{ys:List V}{its':List BN}(I:Inv X pins O H s)(h:H p=some (.lst xs))(ho:s.heap.get? p=some {cls:=.type "list",data:=.seq its.toArray n})(hf:f {cls:=.type "list",data:=.seq its.toArray n}={cls:=.type "list",data:=.seq its'.toArray n'})(r:Vals ys its')(hz:ys.length<=sizeLine)(t:Nat):
  Inv X pins O (upd H p (.lst ys)) {s with heap:=s.heap.update p f,toks:=t}:=by
 have e:(s.heap.update p f).get? p=some {cls:=.type "list",data:=.seq its'.toArray n'}:=by
  rw[AU f ho (by rw[hf]<;>rfl),hf]
 refine I.write (x:=p) (e:=p) (by rw[h];trivial) (.inl rfl) (fun b u hb q=>(AL _ _ (Ne.symm hb)).trans q) ⟨_,e⟩ ?_;exact⟨hz,its',n',r,e⟩
def Gvb:V->V->V->Hp->(Hp->Prop)->Prop:=fun o i v H Q=>∃p xs k j,o=.ref p/\i=.int k/\H p=some (.lst xs)/\ixN xs.length k=some j/\Q (upd H p (.lst (xs.set j v)))
def Gdp:Grp X Gvb:=by
 intro pins s O H o i v ov iv u Q I ro ri rv h;obtain⟨p,xs,k,j,rfl,rfl,hp,hj,q⟩:=h;cases ro;obtain⟨t,rfl⟩:=ri;obtain⟨its,n,r,ho,hz⟩:=I.lst hp;obtain⟨h1,h2,h3,h4⟩:=Gld hj;have hl:=r.length;have hn:=Gau;have I':Inv X pins O (upd H p (.lst (xs.set j v))) {s with heap:=s.heap.update p (Obj.mapSeq (·.setIfInBounds j u))}:=
  I.lstUpd hp ho (Gj9 its n j u) (r.set rv j) (by rw[Bg];exact hz) s.toks
 by_cases h0:0<=k
 ·have hk:k.toNat=j:=by
   rw[seqIndex_of h0 h4]at h1;exact Ab h1
  exact PySem.W.ki_setAt ho h0 (by omega) (by rw[Aq,<- hl];exact h4) (by rw[hk];exact⟨_,I',q⟩)
 ·have hk:(k+(its.toArray.size:Int)).toNat=j:=by
   rw[seqIndex_neg (by omega) h3]at h1;rw[Aq,<- hl];exact Ab h1
  exact PySem.W.ki_setBack ho (by omega) (by rw[Aq,<- hl];exact h3) (by omega) (by rw[hk];exact⟨_,I',q⟩)
def Gf9(lo hi:BQ Int)(n:Nat):(sliceBounds lo hi none n).1=((HT.sIx n 0 lo:Nat):Int)/\(sliceBounds lo hi none n).2.1=((HT.sIx n n hi:Nat):Int)/\(sliceBounds lo hi none n).2.2=1:=by
 refine⟨?_,?_,rfl⟩
 ·cases lo with
  |none=>simp[sliceBounds,HT.sIx]
  |some i=>
   simp only[sliceBounds,HT.sIx,Option.getD_none,show(1:Int)>0 by decide,if_true];by_cases h:i<0
   ·simp only[h,if_true]<;>omega
   ·simp only[h,if_false]<;>omega
 ·cases hi with
  |none=>simp[sliceBounds,HT.sIx]
  |some i=>
   simp only[sliceBounds,HT.sIx,Option.getD_none,show(1:Int)>0 by decide,if_true];by_cases h:i<0
   ·simp only[h,if_true]<;>omega
   ·simp only[h,if_false]<;>omega
def Get(its:List BN)(lo hi:BQ Int):slicePick its.toArray lo hi none=((its.drop (HT.sIx its.length 0 lo)).take (HT.sIx its.length its.length hi-HT.sIx its.length 0 lo)).toArray:=by
 obtain⟨h1,h2,h3⟩:=Gf9 lo hi its.toArray.size;unfold slicePick;rw[h1,h2,h3];simp only[sliceRange_one,pick_run,Aq]<;>rfl
def Hed(K:BM):V->BQ Int->BQ Int->Hp->VK->Prop:=fun x lo hi H Q=>∃a xs,x=.ref a/\SqL K H a xs/\∀p,H p=none->Q (.ref p) (upd H p (.lst (Gia xs lo hi)))
def Gr1:SlR X (Hed X.K):=by
 intro pins s O H x v vl vu lo hi sl Q I rx hs pl pu h;obtain⟨a,xs,rfl,hx,q⟩:=h;cases rx;obtain⟨its,r,ht,hz⟩:=I.list hx;have hlen:=r.length;refine⟨"list",_,slot_list_getitem.lookup,ht.isList.typeIs,?_⟩;refine wpAny_getItem_list_slice ht.isList hs pl pu .none (by simp) ?_ (by rw[Aq]<;>omega);rw[Get,<- hlen];refine⟨.ref s.heap.objs.size,_,I.laid (t':=s.toks) (o:=.lst (Gia xs lo hi)) (fun b ob q=>Aj _ q) (Ac _) ?_,rfl,q _ (I.hok.fresh (Ac _))⟩;exact⟨Ak (Gco xs lo hi) hz,_,0,(r.drop (HT.sIx xs.length 0 lo)).take (HT.sIx xs.length xs.length hi-HT.sIx xs.length 0 lo),Az _ rfl⟩
def Gga:Xg X (.type "list") (fun xs H Q=>∃p ys,xs=[.ref p]/\(SqL X.K H p ys\/SqT X.K H p ys)/\∀l,H l=none->Q (.ref l) (upd H l (.lst ys))):=by
 intro pins s O H xs us Q I r h;obtain⟨p,ys,rfl,hq,q⟩:=h;obtain⟨u,rfl,rx⟩:=Gcn r;cases rx;have fin:∀(its:List BN),Vals ys its->ys.length<=sizeLine->∀(h':Heap)(c':Nat),(∀b o',s.heap.get? b=some o'->h'.get? b=some o')→
   h'.get? s.heap.objs.size=some {cls:=.type "list",dict:=none,data:=.seq its.toArray c',slots:=#[]}->EP X pins O Q (.ref s.heap.objs.size) {s with heap:=h'}:=fun its r' hz h' c' kp e=>
  ⟨.ref s.heap.objs.size,_,I.laid (t':=s.toks) kp (Ac _) (show Ks X.prog X.w _ h' _ (.lst ys)from⟨hz,its,c',r',e⟩),rfl,q _ (I.hok.fresh (Ac _))⟩
 rcases hq with hq|hq
 ·obtain⟨its,r',pl,hz⟩:=I.list hq;have hlen:=r'.length;obtain⟨o,ho,hc,n,hd⟩:=pl.isList;exact call_list_seq p (.inl rfl) ho hc hd (fun h' c' kp e=>fin its r' hz h' c' kp e) (by simp only[Aq]<;>omega)
 ·obtain⟨its,r',pl,hz⟩:=I.tuple hq;have hlen:=r'.length;obtain⟨o,ho,hc,n,hd⟩:=pl;exact call_list_seq p (.inr rfl) ho hc hd (fun h' c' kp e=>fin its r' hz h' c' kp e) (by simp only[Aq]<;>omega)
def Geu:Xg X (.type "tuple") (fun xs H Q=>∃p ys,xs=[.ref p]/\((SqL X.K H p ys/\∀l,H l=none->Q (.ref l) (upd H l (.tup ys)))\/(SqT X.K H p ys/\Q (.ref p) H))):=by
 intro pins s O H xs us Q I r h;obtain⟨p,ys,rfl,h⟩:=h;obtain⟨u,rfl,rx⟩:=Gcn r;cases rx;rcases h with⟨hq,q⟩|⟨hq,q⟩
 ·obtain⟨its,r',pl,hz⟩:=I.list hq;have hlen:=r'.length;refine call_tuple_list pl.isList (fun h' kp=>?_) (by simp only[Aq]<;>omega);have I1:Inv X pins O H {s with heap:=h'}:=I.kept (t':=s.toks) kp;have I2:Inv X pins O (upd H h'.objs.size (.tup ys)) {s with heap:=h'.push {cls:=.type "tuple",data:=.seq its.toArray}}:=
   I1.laid (t':=s.toks) (fun b o e=>Aj _ e) (Ac _) (show Ks X.prog X.w _ _ _ (.tup ys)from⟨hz,its,r',IsTup.new _ _⟩)
  exact⟨.ref h'.objs.size,_,I2,rfl,q _ (I1.hok.fresh (Ac _))⟩
 ·obtain⟨its,r',pl,hz⟩:=I.tuple hq;exact call_tuple_same pl ⟨.ref p,H,I,rfl,q⟩
def tyV(K:BM)(T:String)(x:V)(H:Hp):Prop:=match x with
 |.str _=>T="str"
 |.int _=>T="int"
 |.ref p=>(T="list"/\∃xs,SqL K H p xs)\/(T="tuple"/\∃o,K.lookup p=some o/\o.cls=.type "tuple"/\o.dict=none)∨
   (T="dict"/\((∃kvs,H p=some (.dK kvs))\/∃kvs,H p=some (.dT kvs)))\/(T="set"/\∃S n,H p=some (.set S n))
 |_=>False
def Gxf{s:BO}(I:Inv X pins O H s)(r:Hg x v)(ty:tyV X.K T x H):
  s.TypeIs v T/\∀a,v=.ref a->∃ob,s.heap.get? a=some ob/\ob.dict=none:=by
 cases x with
 |str z=>
  obtain⟨t,rfl⟩:=r;cases (show T="str" from ty);exact⟨typeIs_str s z t,fun _ e=>nomatch e⟩
 |int i=>
  obtain⟨t,rfl⟩:=r;cases (show T="int" from ty);exact⟨typeIs_int s i t,fun _ e=>nomatch e⟩
 |ref p=>
  cases r;rcases ty with⟨rfl,xs,hq⟩|⟨rfl,o,hk,hc,hd⟩|⟨rfl,hk⟩|⟨rfl,S,n,hk⟩
  ·obtain⟨its,_,pl,_⟩:=I.list hq;refine⟨pl.isList.typeIs,fun a e=>?_⟩;cases e;obtain⟨o,n,e,c,hd,_⟩:=pl;exact⟨o,e,hd⟩
  ·refine⟨⟨o,I.kIn p o hk,hc⟩,fun a e=>?_⟩;cases e;exact⟨o,I.kIn _ o hk,hd⟩
  ·have z:∃o,s.heap.get? p=some o/\o.ExactDict:=by
    rcases hk with⟨kvs,hk⟩|⟨kvs,hk⟩
    ·obtain⟨_,_,_,_,o,_,_,e,ex,_⟩:=I.hok p _ hk;exact⟨o,e,ex⟩
    ·obtain⟨_,_,_,_,o,_,_,e,ex,_⟩:=I.hok p _ hk;exact⟨o,e,ex⟩
   obtain⟨o,e,ex⟩:=z;refine⟨⟨o,e,ex.1⟩,fun a e2=>?_⟩;cases e2;exact⟨o,e,ex.2.1⟩
  ·obtain⟨o,_,_,_,e,ex,_⟩:=I.hok p _ hk;refine⟨⟨o,e,ex.1⟩,fun a e2=>?_⟩;cases e2;exact⟨o,e,ex.2.1⟩
 |_=>exact False.elim ty
def tBM(K:BM)(T:String)(r:V->List V->Hp->VK->Prop)(to:TE)(t:TA):TE:=fun O H Q=>to O H fun x H1=>tyV K T x H1/\t O H1 fun xs H2=>r x xs H2 Q
variable{o e:Expr}{es:List Expr}{to:TE}{t:TA}{name:Str}{apos cpos:Pos}{T id:String}{r:V->List V->Hp->VK->Prop}
def Hbo(pa:PlainAttrs T)(slot:Slot T name id)(hty:typeOf (.builtin id)=pure (.type "method_descriptor"))(hm:MtR X id r)(ho:PE X o to)(ha:PA X (e::es) t)
  (hbase:⇑(attributeBase o name X.env (eval o X.env)=eval o X.env))
  (hfew:⇑(((backTo cpos (starEach (e::es) X.env)).all (fun x=>!x.1)&&(backToKw cpos (keywordEach [] X.env)).all (fun x=>x.1.isSome)
   && decide ((e::es).length+([]:List Keyword).length+(if([]:List Keyword).isEmpty then 0 else 1)<30))=true))
  (hline:⇑((apos.endLine==cpos.line)=true)) (hs:⇑(starEach (e::es) X.env=(false,eval e X.env)::starEach es X.env)) (hplain:⇑((backTo cpos (starEach es X.env)).any (·.1)=false)):
  PE X (.Call (.Attribute o name apos) (e::es) [] cpos) (tBM X.K T r to t):=by
 intro pins s O H Q I h;refine wpAny_Call_method_late hbase hfew hline rfl (thn (ho pins s O H _ I h) fun v s1 zq0=>?_);obtain⟨x,H1,I1,r1,ty,q1⟩:=zq0;obtain⟨h1,h2⟩:=Gxf I1 r1 ty;refine⟨T,id,pa,slot,hty,h1,h2,?_⟩;have hA:=ha cpos pins s1 O H1 _ I1 q1;rw[hs]at hA⊢;refine Calls.callWith_builtin (by show(false||(backTo cpos (starEach es X.env)).any (·.1))=false;rw[hplain]<;>rfl) (Calls.evalArgs_plain ?_);exact thn hA fun us s2 ⟨vs,H2,I2,r2,q2⟩=>hm pins s2 O H2 x vs v us Q I2 r1 r2 q2
end
def MtM(X:Cx)(id:String)(r:V->List V->Hp->VK->Prop):Prop:=
 ∀(pins:List (BP×Obj))(s:BO)(O:St)(H:Hp)(x:V)(xs:List V)(v:BN)(us:List BN)(Q:VK),Inv X pins O H s->Hg x v->Vals xs us->r x xs H Q→
  wpAny (model X.prog X.w) X.A (call (.builtin id) (v::us)) (EP X pins O Q) X.xe s
def Vals.one(h:Vals [x] us):∃u,us=[u]/\Hg x u:=by
 cases h with|cons r t=>cases t;exact⟨_,rfl,r⟩
def Vals.two(h:Vals [x,y] us):∃u v,us=[u,v]/\Hg x u/\Hg y v:=by
 cases h with|cons r t=>cases t with|cons q t=>cases t;exact⟨_,_,rfl,r,q⟩
def Vals.reverse(h:Vals xs us):Vals xs.reverse us.reverse:=by
 induction h with
 |nil=>exact .nil
 |cons r t ih=>rw[List.reverse_cons,List.reverse_cons];exact Vals.append ih (.cons r .nil)
def Vals.rep(h:Vals xs us):∀k:Nat,Vals (List.replicate k xs).flatten (List.replicate k us).flatten
 |0=>.nil
 |k+1=>by
  rw[AX,AX,A5,A5];exact Vals.append h (Vals.rep h k)
def Gb2(its:List BN):∀(k:Nat)(acc:List BN),
  List.foldl (fun x1 x2=>x1++x2) acc.toArray (List.replicate k its.toArray)=(acc++(List.replicate k its).flatten).toArray
 |0,acc=>by simp
 |k+1,acc=>by
  have e:acc.toArray++its.toArray=(acc++its).toArray:=by simp
  have e2:(acc++its)++(List.replicate k its).flatten=acc++(List.replicate (k+1) its).flatten:=by
   rw[AX,A5,Bh]
  rw[<- e2,<- Gb2 its k (acc++its),<- e,AX,List.foldl_cons]
section
variable{X:Cx}{pins:List (BP×Obj)}{O:St}{H:Hp}{s:BO}{l b:BP}{xs ys zs:List V}
def Inv.lset{its':List BN}{f:Array BN->Array BN}(I:Inv X pins O H s)(hH:H l=some (.lst xs))(e:s.heap.get? l=some {cls:=.type "list",data:=.seq its.toArray n})(hf:f its.toArray=its'.toArray)(hv:Vals ys its')(hz:ys.length<=sizeLine):
  Inv X pins O (upd H l (.lst ys)) {s with heap:=s.heap.update l (Obj.mapSeq f),toks:=t'}:=by
 have q:=PySem.IsL.update e f;rw[hf]at q;refine I.write (x:=l) (e:=l) (by rw[hH];exact trivial) (.inl rfl) (fun b' u hb hu=>(AL s.heap (Obj.mapSeq f) (Ne.symm hb)).trans hu) ⟨_,q⟩ ?_;exact⟨hz,its',_,hv,q⟩
def Inv.lnew(I:Inv X pins O H s)(hv:Vals ys its)(hz:ys.length<=sizeLine):
  Inv X pins O (upd H s.heap.objs.size (.lst ys)) {s with heap:=s.heap.push {cls:=.type "list",data:=.seq its.toArray},toks:=t'}:=
 I.laid (fun _ _ q=>Aj _ q) (Ac _) ⟨hz,its,0,hv,Az _ rfl⟩
def Inv.fresh(I:Inv X pins O H s):H s.heap.objs.size=none:=I.hok.fresh (Ac _)
def Inv.lstM(I:Inv X pins O H s)(hH:H l=some (.lst xs)):xs.length<=sizeLine/\∃(its:List BN)(n:Nat),Vals xs its/\xs.length=its.length/\s.heap.get? l=some {cls:=.type "list",data:=.seq its.toArray n}:=by
 obtain⟨z,its,n,r,e⟩:=I.hok l _ hH;exact⟨z,its,n,r,r.length,e⟩
def Gn5(h:n<=sizeLine):Builtin.List.listTooLong n=false:=by
 unfold Builtin.List.listTooLong;exact decide_eq_false (by omega)
end
section
variable{X:Cx}
def Gle:V->List V->Hp->VK->Prop:=fun x vs H Q=>∃l xs y,x=.ref l/\vs=[y]/\H l=some (.lst xs)/\xs.length<sizeLine/\Q .non (upd H l (.lst (xs++[y])))
def Gfn:MtM X "list.append" Gle:=by
 intro pins s O H x vs v us Q I rx rv h;obtain⟨l,xs,y,rfl,rfl,hH,hz,q⟩:=h;cases rx;obtain⟨u,rfl,ru⟩:=rv.one;obtain⟨z,its,n,r,hl,e⟩:=I.lstM hH;refine call_meets F.slot_list_append ⟨_,e,rfl⟩ F.entry_list_append (F.args_list_append_2 _ _) (PySem.list_append l its.toArray n u (by rw[Aq];omega)) ⟨e,?_⟩;refine⟨.non,_,I.lset (its':=its++[u]) hH e (by simp) (r.append (.cons ru .nil)) ?_,rfl,q⟩;rw[AG,List.length_singleton];omega
def Hbp:R2:=fun x y H Q=>∃l b xs zs,x=.ref l/\y=.ref b/\H l=some (.lst xs)/\H b=some (.lst zs)/\xs.length+zs.length<=sizeLine/\∀p,H p=none->Q (.ref p) (upd H p (.lst (xs++zs)))
def Gxg:OpR X (binaryOp .Add) Hbp:=by
 intro pins s O H x y v u Q I rx ry h;obtain⟨l,b,xs,zs,rfl,rfl,hH,hB,hz,q⟩:=h;cases rx;cases ry;obtain⟨z,its,n,r,hl,e⟩:=I.lstM hH;obtain⟨z2,its2,n2,r2,hl2,e2⟩:=I.lstM hB;refine PySem.P.add_list e e2 ?_ (by rw[Aq,Aq];omega);have ea:its.toArray++its2.toArray=(its++its2).toArray:=by simp
 rw[ea];exact⟨.ref _,_,I.lnew (t':=s.toks) (r.append r2) (by rw[AG];omega),rfl,q _ I.fresh⟩
def Hbq:R2:=fun x y H Q=>∃l k xs,x=.ref l/\y=.int k/\H l=some (.lst xs) /\ -(2^63)<=k/\k<2^63/\xs.length*k.toNat<=sizeLine∧
 ∀p,H p=none->Q (.ref p) (upd H p (.lst (List.replicate k.toNat xs).flatten))
def Ggb(xs:List Z)(k:Nat):(List.replicate k xs).flatten.length=k*xs.length:=by
 induction k with
 |zero=>simp
 |succ k ih=>rw[AX,A5,AG,ih,Nat.succ_mul,Nat.add_comm]
def Gxh:OpR X (binaryOp .Mult) Hbq:=by
 intro pins s O H x y v u Q I rx ry h;obtain⟨l,k,xs,rfl,rfl,hH,h1,h2,hz,q⟩:=h;cases rx;obtain⟨t,rfl⟩:=ry;obtain⟨z,its,n,r,hl,e⟩:=I.lstM hH;have hlen:its.toArray.size*k.toNat<=sizeLine:=by rw[Aq,<- hl];exact hz
 have hcap:¬its.toArray.size*k.toNat>(2^63-1) / 8:=by
  have:(sizeLine:Nat)<=(2^63-1) / 8:=by decide
  omega
 have hfit:¬(!Builtin.List.listFitsIndex k)=true:=by
  rw[fitsIndex_both h1 h2];exact Ap
 have hlong:¬Builtin.List.listTooLong (its.toArray.size*k.toNat)=true:=by
  rw[Gn5 hlen];exact Ap
 have hnew:List.foldl (fun x1 x2=>x1++x2) #[] (List.replicate (if its.toArray.isEmpty=true then 0 else k.toNat) its.toArray)=(List.replicate k.toNat its).flatten.toArray:=by
  have f0:∀m:Nat,List.foldl (fun x1 x2=>x1++x2) #[] (List.replicate m its.toArray)=(List.replicate m its).flatten.toArray:=fun m=>by
   have:=Gb2 its m [];rw[List.nil_append]at this;exact this
  rw[f0];cases its with
  |nil=>simp
  |cons a r'=>rw[if_neg (by simp)]
 refine wpAny_binaryOp_repeat_ref (T:="list") (U:="int") (by decide) ⟨_,e,rfl⟩ (fun s'=>typeIs_int s' k t) noFill_list_mul F.fills_int_mul F.slot_int_rmul repeat_list F.slot_int_index.lookup
  (call_meets F.slot_int_rmul (typeIs_int s k t) F.entry_int_rmul (F.args_int_rmul_2 _ _) (int___rmul___int_list k t l its.toArray n)
   ⟨e,rfl,⟨_,e,rfl⟩,call_meets F.slot_list_mul ⟨_,e,rfl⟩ F.entry_list_mul (F.args_list_mul_2 _ _) (AutoListH.list___mul___list_int_3 l its.toArray n k t hfit hcap hlong) ⟨e,?_⟩⟩)
 rw[hnew];exact⟨.ref _,_,I.lnew (t':=s.toks) (r.rep k.toNat) (by rw[Ggb,Nat.mul_comm];exact hz),rfl,q _ I.fresh⟩
end
end L2
namespace Att
open PySem PySem.W PySem.Calls PyProof.Rows
def Gc4:∀(ns:List Int)(vs:List BN),WellAll P h vs (ns.map WData.int)->IntsAre vs ns:=by
 intro ns;induction ns with
 |nil=>
  intro vs w;rw[Br]at w;cases w;exact .nil
 |cons n ns ih=>
  intro vs w;rw[AB]at w;cases w with
  |cons a b=>
   cases a;exact .cons _ _ (ih _ b)
def Gmv{l:OpenLaw}(hn:l.most=some n){h:Heap}(hpre:l.row.toRowW.claim.pre args=true)(hwl:WellAll P h vals args):
  ∃a vs ns,vals=[Value.ref a]/\args=[WData.list (ns.map WData.int)]/\h.get? a=some {cls:=.type "list",data:=.seq vs.toArray}/\IntsAre vs ns/\ns.length<=n:=by
 have hsh:WShape.hasAll [] args [.list .int]=true:=(pre_splitW hpre).1;have hc:l.pre.holds [] {args:=args}=true:=(pre_splitW hpre).2;obtain⟨d,r,rfl,h1,h2⟩:=hasAllW_cons hsh;obtain rfl:=hasAllW_nil h2;obtain⟨xs,rfl,h3⟩:=hasW_list h1;obtain⟨ns,rfl⟩:=items_int h3;have hlen:ns.length<=n:=by
  unfold OpenLaw.pre at hc;have h4:(WTm.not (.lt (.lit (.int (n:Int))) (.len (.arg 0)))).holds [] {args:=[.list (ns.map .int)]}=true:=by
   have h4:=(holds_andW hc).1;rw[hn]at h4;exact h4
  have h5:=condW_of h4 (w_not (w_lt w_lit (w_len_list (w_arg rfl))));rw[Ai]at h5;refine Nat.le_of_not_lt fun q=>?_;have q':(n:Int)<((ns.length:Nat):Int):=by omega
  first
   |(rw[decide_eq_true q']at h5;exact absurd h5 (by decide))
   |(simp at h5;omega)
 cases hwl with
 |cons w1 w2=>
  cases w2;cases w1 with
  |list ho hall=>exact⟨_,_,ns,rfl,rfl,ho,Gc4 ns _ hall,hlen⟩
def post_true(l:OpenLaw)(args:List WData):l.row.toRowW.claim.post args (.bool true) args=true:=
 postW_of (r:=l.row.toRowW) (X:=(true==true))
  (show WShape.has [] (.bool true) .bool=true by first|rfl|decide|simp[WShape.has,WShape.arms,WShape.armsAll])
  (show(WTm.eq .res (.lit (.bool true))).value [] {args:=args,res:=some (.bool true),after:=args}=some (.bool (true==true))from w_eq_bool (w_res rfl) w_lit) rfl
def attach_call{l:OpenLaw}{YP:World->Heap->Prop}{d:DefRec}(hn:l.most=some n)(hdf:d.params.defaults=[])(call:∀ (w:World) (s₀ s₁:BO) (mg mb:Str->BQ BN) (fa:BP) (o:Obj) (pm cd doc:BN) (a:BP) (vs:List BN) (ns:List Int),
   Ground q loose [] XP w s₀ mg mb s₁.heap->YP w s₁.heap→
   s₁.heap.get? fa=some o->o.data=.func (docDef d.name d.params d.body d.scope pm cd doc)->s₁.heap.CodeRec cd d.name->mg d.name=some (.ref fa)→
   s₁.heap.get? a=some {cls:=.type "list",data:=.seq vs.toArray}->IntsAre vs ns->ns.length<=n->s₁.gens=#[]→
   codeAny (model l.prog w) callerA (.call (.ref fa) ⟨[.ref a],[]⟩) (fun r s'=>r=.ok (.ret (.bool true))/\OldK s₁.heap s'.heap/\s'.os=s₁.os/\AllBare s'.gens) s₁):
  WalkO q loose XP YP l.row.toRowW d [] (fun f vs=>PySem.call f vs):=by
 intro w s₀ s₁ mg mb G QC fa o pm cd doc dV kV ho hd hcd hD hmg hg args vals as hpre hlay hrd hwl hlo;obtain rfl:dV=.none:=Dflts.none hD hdf;obtain rfl:kV=.none:=Dflts.noKw hD;obtain⟨a,vs,ns,rfl,rfl,hobj,hints,hlen⟩:=Gmv hn hpre hwl;refine enter_call (codeAny_mono (call w s₀ s₁ mg mb fa o pm cd doc a vs ns G QC ho (fd_plain hd) hcd hmg hobj hints hlen hg) fun r s' hq=>?_);obtain⟨rfl,h2,h3,h4⟩:=hq;exact⟨.inl ⟨.bool true,.bool true,[],rfl,fun _=>rfl,.bool true,post_true l _,fun _=>⟨List.Pairwise.nil,fun _ hm=>(nomatch hm)⟩⟩,h2,h3,h4⟩
end Att
namespace L2
open PySem PySem.Spec PyProof.Rows
variable{k:Nat}{fd:FuncData}{x qual:Str}{st:Stmt}{f:BP}
def Gfo:∀{vs:List BN}{ns:List Int},IntsAre vs ns->Vals (ns.map V.int) vs
 |_,_,.nil=>.nil
 |_,_,.cons n t h=>.cons ⟨t,rfl⟩ (Gfo h)
def Only(H:Hp):Prop:=∀b,H b=none\/∃o xs,H b=some (.frz o (.lst xs))
def Gn6{P:BR}{w:World}{K:BM}{mg mb:Str->BQ BN}{CX:CXT}{fa a:BP}{sp:Sp}{s₁:BO}{vs:List BN}{ns:List Int}(KX:K.In s₁.heap)(hns:s₁.heap.Ns mainGlobals mg)(hb:s₁.heap.Ns builtinsNs mb)(hbb:∀x:Str,x≠"__name__"->mb x=bootBuiltins x)(hlim:s₁.heap.NoLimit)(hg:s₁.gens=#[])(ha:s₁.heap.get? a=some {cls:=.type "list",data:=.seq vs.toArray})(hi:IntsAre vs ns)(hl:ns.length<=sizeLine)(hr:Room k callerA)(F:∀base:Heap,K.In base->base.Ns mainGlobals mg->FnOk P w K mg base CX k fa fd [x] sp)(hbind:∀(s:BO)(u:BN),BindsTo s fd ⟨[u],[]⟩ [(x,u)])(hsp:∀H:Hp,Only H->SqL K H a (ns.map V.int)->sp [.ref a] H (fun v _=>v=.bl true) fun _ _ _=>False)(hCX:∀H e s',CX [] H s₁ (fun _ _ _=>False) e s'->False):
  codeAny (model P w) callerA (.call (.ref fa) ⟨[.ref a],[]⟩) (fun r s'=>r=.ok (.ret (.bool true))/\OldK s₁.heap s'.heap/\s'.os=s₁.os/\AllBare s'.gens) s₁:=by
 have rv:=Gfo hi;have lenV:=hi.length;have core:∀H:Hp,Only H->SqL K H a (ns.map V.int)->HOk P w H s₁.heap->(∀b,H b≠none->b=a)->(H a≠none->K.lookup a=none)→
   codeAny (model P w) callerA (.call (.ref fa) ⟨[.ref a],[]⟩) (fun r s'=>r=.ok (.ret (.bool true))/\OldK s₁.heap s'.heap/\s'.os=s₁.os/\AllBare s'.gens) s₁:=by
  intro H hO hS hok hA hK;have base_of:∀{b:BP}{o:Obj},s₁.heap.get? b=some o->H b=none->(Gf6 s₁.heap H).get? b=some o:=fun e n=>Gnp e n;have noA:∀{b:BP}{o:Obj}{es:Array DictEntry}{ep:Nat},s₁.heap.get? b=some o->o.data=.dict es ep->H b=none:=fun{b o es ep} e d=>by
   cases q:H b with
   |none=>rfl
   |some u=>
    have e':b=a:=hA b (by rw[q];simp);subst e';rw[ha]at e;cases e;have d':Data.seq vs.toArray _=Data.dict es ep:=d;cases d'
  have nsK:∀{b:BP}{m:Str->BQ BN},s₁.heap.Ns b m->(Gf6 s₁.heap H).Ns b m:=fun{b m} ⟨o,es,ep,e,d,r⟩=>⟨o,es,ep,base_of e (noA e d),d,r⟩
  have hKb:K.In (Gf6 s₁.heap H):=fun b o e=>base_of (KX b o e) (by
   cases q:H b with
   |none=>rfl
   |some u=>
    have e':b=a:=hA b (by rw[q];simp);subst e';rw[hK (by rw[q]; simp)] at e; cases e)
  have hM:Mod K mg (Gf6 s₁.heap H):=⟨hKb,nsK hns,⟨mb,nsK hb,hbb⟩,let⟨mc,h1,h2⟩:=hlim;⟨mc,nsK h1,h2⟩⟩
  have e0:Env0 P w K mg (Gf6 s₁.heap H) callerA [] s₁ H:=⟨rfl,hM,fun b o e=>of_hidT e,Nat.le_of_eq (Gmm _ _),trivial,fun b hb=>absurd (show b∈([]:List BP)from hb) (by simp),hok,.of_eq hg⟩
  refine codeAny_mono ((F _ hKb (nsK hns)).run callerA [] s₁ H ⟨[.ref a],[]⟩ [.ref a] [.ref a] _ _ hr e0 (hbind s₁ (.ref a)) (.cons rfl .nil) (hsp H hO hS)) fun r s' h=>?_;cases r with
  |error e=>exact(hCX H e s' h).elim
  |ok fl=>
   cases fl with
   |next=>exact False.elim h
   |brk=>exact False.elim h
   |cont=>exact False.elim h
   |ret u=>
    obtain⟨v,H',os,bare,un,hok',r',q⟩:=h;have q':v=.bl true:=q;subst q';obtain rfl:u=Value.bool true:=r';refine⟨rfl,OldK.of_keep fun b o e=>?_,os,bare⟩;cases q:H b with
    |none=>exact un.keep b o e q (by intro z;exact absurd (show b∈([]:List BP)from z) (by simp)) (by simp)
    |some u=>
     rcases hO b with z|⟨ob,xs,z⟩
     ·rw[q]at z;cases z
     ·have z2:=un.frzs b ob _ z;obtain⟨e1,_⟩:=hok b _ z;obtain⟨e2,_⟩:=hok' b _ z2;rw[e]at e1;cases e1;exact e2
 cases hk:K.lookup a with
 |some o=>
  have e:=KX a o hk;rw[ha]at e;cases e;refine core (fun _=>none) (fun _=>.inl rfl) (.inr ⟨_,vs.toArray,_,hk,rfl,rfl,rfl,by rw[Aq,lenV];exact hl,by simpa using rv⟩) (fun b u z=>by have z':(none:BQ HO)=some u:=z;cases z') (fun b z=>absurd rfl z) fun z=>absurd rfl z
 |none=>
  refine core (fun b=>if b=a then some (.frz {cls:=.type "list",data:=.seq vs.toArray} (.lst (ns.map V.int)))else none) (fun b=>?_) (.inl (.inr ⟨{cls:=.type "list",data:=.seq vs.toArray},if_pos rfl⟩)) (fun b u z=>?_) (fun b z=>?_) fun _=>hk
  ·by_cases hb:b=a
   ·exact .inr ⟨_,_,if_pos hb⟩
   ·exact .inl (if_neg hb)
  ·by_cases hb:b=a
   ·have z':=(if_pos hb).symm.trans z;cases z';subst hb;exact⟨ha,by rw[Ai];exact hl,vs,_,rv,ha⟩
   ·have z':=(if_neg hb).symm.trans z;cases z'
  ·by_cases hb:b=a
   ·exact hb
   ·exact absurd (if_neg hb) z
def Gr2{l:PySem.W.OpenLaw}{YP:World->Heap->Prop}{d:DefRec}{K:Params->BM}{CX:World->CXT}{sp:World->Sp}(hn:l.most=some n)(hn2:n<=sizeLine)(hdf:d.params.defaults=[])(hr:Room k callerA)(hY:∀ (w:World) (h:Heap),YP w h->(K w.params).In h)(F:∀ (w:World) (mg:Str->BQ BN) (fa:BP) (h:Heap),(K w.params).In h->h.Ns mainGlobals mg->mg d.name=some (.ref fa)→
   ∃fd:FuncData,(∀(s:BO)(u:BN),BindsTo s fd ⟨[u],[]⟩ [(x,u)])∧
    ∀ base:Heap,(K w.params).In base->base.Ns mainGlobals mg->FnOk l.prog w (K w.params) mg base (CX w) k fa fd [x] (sp w))(hsp:∀ (w:World) (H:Hp) (a:BP) (ns:List Int),ns.length<=n->Only H->SqL (K w.params) H a (ns.map V.int)->sp w [.ref a] H (fun v _=>v=.bl true) fun _ _ _=>False)(hCX:∀ (w:World) (H:Hp) (s:BO) (e:BN) (s':BO),CX w [] H s (fun _ _ _=>False) e s'->False):
  PySem.W.WalkO q loose XP YP l.row.toRowW d [] (fun f vs=>PySem.call f vs):=by
 refine Att.attach_call hn hdf fun w s₀ s₁ mg mb fa o pm cd doc a vs ns G QC ho hd hcd hmg hobj hints hlen hg=>?_;have KX:=hY w _ QC;obtain⟨fd,hb,hF⟩:=F w mg fa _ KX G.T.g hmg;exact Gn6 KX G.T.g G.T.b G.T.builtins G.T.nolimit hg hobj hints (Ak hlen hn2) hr hF hb (fun H hO hS=>hsp w H a ns hlen hO hS) fun H e s'=>hCX w H s₁ e s'
def Gn7{l:PySem.W.OpenLaw}{YP:World->Heap->Prop}{d:DefRec}{K:Params->BM}{CX:CXT}{sp:BM->Sp}(hn:l.most=some n)(hn2:n<=sizeLine)(hdf:d.params.defaults=[])(hr:Room k callerA)(hY:∀ (w:World) (h:Heap),YP w h->(K w.params).In h)(F:∀ (w:World) (mg:Str->BQ BN) (fa:BP) (h:Heap),(K w.params).In h->h.Ns mainGlobals mg->mg d.name=some (.ref fa)→
   ∃fd:FuncData,(∀(s:BO)(u:BN),BindsTo s fd ⟨[u],[]⟩ [(x,u)])∧
    ∀ base:Heap,(K w.params).In base->base.Ns mainGlobals mg->FnOk l.prog w (K w.params) mg base CX k fa fd [x] (sp (K w.params)))(hsp:∀ (K:BM) (H:Hp) (a:BP) (ns:List Int),ns.length<=n->Only H->SqL K H a (ns.map V.int)->sp K [.ref a] H (fun v _=>v=.bl true) fun _ _ _=>False)(hCX:∀ (H:Hp) (s:BO) (e:BN) (s':BO),CX [] H s (fun _ _ _=>False) e s'->False):
  PySem.W.WalkO q loose XP YP l.row.toRowW d [] (fun f vs=>PySem.call f vs):=
 Gr2 (K:=K) (CX:=fun _=>CX) (sp:=fun w=>sp (K w.params)) hn hn2 hdf hr hY F (fun w H a ns h1 h2 h3=>hsp (K w.params) H a ns h1 h2 h3) fun _ H s e s'=>hCX H s e s'
noncomputable def Jr(s:Stmt):Arguments:=match s with
 |.FunctionDef _ a _ _ _ _ _ _ _ _=>a
 |_=>{posonlyargs:=[],args:=[],vararg:=none,kwonlyargs:=[],kw_defaults:=[],kwarg:=none,defaults:=[]}
noncomputable def Hl(s:Stmt):List Stmt:=match s with
 |.FunctionDef _ _ b _ _ _ _ _ _ _=>b
 |_=>[]
noncomputable def Gc(s:Stmt):Scope:=match s with
 |.FunctionDef _ _ _ _ _ _ sc _ _ _=>sc
 |_=>{kind:=.function,names:=[],isGenerator:=false,isCoroutine:=false}
abbrev CX0:CXT:=fun _ _ _ _ _ _=>False
abbrev E0:XK:=fun _ _ _=>False
def Hbr:Passes CX0 X E0:=fun _ _ _ _ _ _ _ h=>h.elim
structure Fun(K:BM)(x qual:Str)(st:Stmt)(f:BP)(fd:FuncData):Prop where
 ex:∃(oc:BN)(od:BQ BP)(kV doc pm:BN)(an:BQ BP)(cdv ct:BN)(osl:Array (BQ BN)),
  fd=PySem.W.fnOf x qual (Jr st) (Hl st) (Gc st) .none kV doc pm an cdv ct/\K.lookup f=some ⟨oc,od,.func fd,osl⟩/\PySem.W.codeIn K cdv qual=true
 kp:PySem.W.keepIn K (.ref f)=true
section
variable{P:BR}{w:World}{K:BM}{mg:Str->BQ BN}{base:Heap}
def Fun.ok{ps:List Str}{sp:Sp}(F:Fun K x qual st f fd)(S:FnScope N ps (Gc st))(len:∀ vs H Q E,sp vs H Q E->vs.length=ps.length)(hbody:∀ (cdv:BN) (A:Around) (outer:List Env) (s:BO) (H:Hp) (vs:List V) (Q:VK) (E:XK),Room k (A.deeper (envOfC qual (Gc st) s.heap.objs.size f cdv))->sp vs H Q E→
   ∃ t,PSs (Vj CX0 P w K mg base N qual (Gc st) f cdv A outer s H E).nox (Hl st) t/\t { nx:=fun _ H'=>Q .non H',rt:=Q } (start N vs) H):FnOk P w K mg base CX0 (k+1) f fd ps sp:=by
 obtain⟨oc,od,kV,doc,pm,an,cdv,ct,osl,rfl,lk,hcd⟩:=F.ex;refine Gu9 lk hcd S len fun A outer s H vs Q E hr hsp=>?_;obtain⟨t,h,q⟩:=hbody cdv A outer s H vs Q E hr hsp;exact⟨t,h.nox,q⟩
def Fun.binds{ps:List Str}(F:Fun K x qual st f fd)(h:∀(kV doc pm:BN)(an:BQ BP)(cdv ct:BN)(us:List BN),us.length=ps.length->bindArgs (PySem.W.fnOf x qual (Jr st) (Hl st) (Gc st) .none kV doc pm an cdv ct) ⟨us,[]⟩=pure (ps.zip us)):Binds K fd ps []:=by
 obtain⟨oc,od,kV,doc,pm,an,cdv,ct,osl,rfl,lk,hcd⟩:=F.ex;exact .all (h kV doc pm an cdv ct)
def Ggc{an:BQ BP}{kV:BN}(l:K.lookup f=some ⟨oc,od,.func (PySem.W.fnOf x qual (Jr st) (Hl st) (Gc st) .none kV doc pm an cdv ct),osl⟩)(c:PySem.W.codeIn K cdv qual=true)(k:PySem.W.keepIn K (.ref f)=true):Fun K x qual st f (PySem.W.fnOf x qual (Jr st) (Hl st) (Gc st) .none kV doc pm an cdv ct):=⟨⟨oc,od,kV,doc,pm,an,cdv,ct,osl,rfl,l,c⟩,k⟩
end
end L2
namespace DL
open PySem PySem.Spec PyProof.Rows L2
inductive D where
 |non|bl (b:Bool)|int (i:Int)|str (x:Str)|tup (l:List D)|lst (i:Nat)|exn (c:Str) (n:BQ Int)|fv (x:Str)|dct (i:Nat)
structure Cell where
 fz:Bool
 xs:List D
abbrev Sto:=List Cell
abbrev Lc:=List (BQ D)
structure XD where
 cls:Str
 fld:BQ Int
inductive Out(Z:Type) where
 |ok (a:Z) (S:Sto)
 |exc (x:XD) (S:Sto)
 |bad
noncomputable def Out.bind(o:Out Z)(g:Z->Sto->Out β):Out β:=
 match o with
 |.ok a S=>g a S
 |.exc x S=>.exc x S
 |.bad=>.bad
structure XCl(K:BM)(c:BP):Prop where
 ga:PySem.W.findIn K (.ref c) "__getattribute__"=some (some (.builtin "BaseException.__getattribute__"))
 gt:PySem.W.findIn K (.ref c) "__getattr__"=some none
 cl:PySem.W.findIn K (.ref c) "__class__"=some (some (.builtin "object.__class__"))
 cd:(PySem.W.clsIn K c).isSome=true
 ob:PySem.W.mroIn K c (.type "object")=some true
 be:PySem.W.subIn K (.ref c) (.type "BaseException")=some true
 bt:∀T∈["bool","int","str","tuple","list"],PySem.W.kitOne K (.ref c) (.type T)=some false
def CN(K:BM)(y:Str)(c:BP):Prop:=PySem.W.nsIn K mainGlobals y=some (some (.ref c))
def CN.one{K:BM}{y:Str}{c d:BP}(h:CN K y c)(g:CN K y d):c=d:=Value.ref.inj (Ab (Ab (h.symm.trans g)))
noncomputable def XO(a c:BP)(dx:BQ BP):HO:=.ext fun h=>∃oe,h.get? a=some oe/\oe.cls=.ref c/\oe.dict=dx/\∃vs,oe.data=.fields vs
noncomputable def XA(d:BP)(n:Int):HO:=.ext fun h=>∃t,h.Ns d fun y=>if y="at" then some (.int n t)else none
def Dcy(H:Hp)(a:BP):Prop:=∃kvs,H a=some (.dT kvs)
mutual
def Rep(K:BM)(mp:List BP)(H:Hp):D->V->Prop
 |.non,v=>v=.non
 |.bl b,v=>v=.bl b
 |.int i,v=>v=.int i
 |.str x,v=>v=.str x
 |.tup l,v=>∃a xs,v=.ref a/\SqT K H a xs/\RepL K mp H l xs
 |.lst i,v=>∃a,v=.ref a/\mp[i]?=some a/\¬Dcy H a
 |.exn c n,v=>∃a dx p,v=.ref a/\(CN K c p/\XCl K p/\H a=some (XO a p dx))/\∀i,n=some i->∃d,dx=some d/\H d=some (XA d i)
 |.fv x,v=>∃a,v=.ref a/\CN K x a
 |.dct i,v=>∃a,v=.ref a/\mp[i]?=some a/\Dcy H a
def RepL(K:BM)(mp:List BP)(H:Hp):List D->List V->Prop
 |[],vs=>vs=[]
 |d::l,vs=>∃v r,vs=v::r/\Rep K mp H d v/\RepL K mp H l r
end
structure Aft(K:BM)(mp:List BP)(H:Hp)(mp':List BP)(H':Hp):Prop where
 pre:∀(i:Nat)(a:BP),mp[i]?=some a->mp'[i]?=some a
 tup:∀a xs,SqT K H a xs->SqT K H' a xs
 ext:∀a φ,H a=some (.ext φ)->H' a=some (.ext φ)
 ndc:∀(i:Nat)(a:BP),mp[i]?=some a->¬Dcy H a->¬Dcy H' a
 dcy:∀a,Dcy H a->Dcy H' a
def Aft.refl{K:BM}{mp:List BP}{H:Hp}:Aft K mp H mp H:=⟨fun _ _ h=>h,fun _ _ h=>h,fun _ _ h=>h,fun _ _ _ h=>h,fun _ h=>h⟩
def Aft.trans{K:BM}{mp mp1 mp2:List BP}{H H1 H2:Hp}(a:Aft K mp H mp1 H1)(b:Aft K mp1 H1 mp2 H2):Aft K mp H mp2 H2:=
 ⟨fun i x h=>b.pre i x (a.pre i x h),fun x xs h=>b.tup x xs (a.tup x xs h),fun x f h=>b.ext x f (a.ext x f h),fun i x e h=>b.ndc i x (a.pre i x e) (a.ndc i x e h),fun x h=>b.dcy x (a.dcy x h)⟩
mutual
theorem Rep.aft{K:BM}{mp mp':List BP}{H H':Hp}(a:Aft K mp H mp' H'):∀(d:D)(v:V),Rep K mp H d v->Rep K mp' H' d v
 |.non,v,h=>h
 |.bl _,v,h=>h
 |.int _,v,h=>h
 |.str _,v,h=>h
 |.tup l,v,h=>by
  obtain⟨p,xs,e,s,r⟩:=(show∃a xs,v=.ref a/\SqT K H a xs/\RepL K mp H l xs from h)
  exact⟨p,xs,e,a.tup _ _ s,RepL.aft a l xs r⟩
 |.lst i,v,h=>by
  obtain⟨p,e,s,n⟩:=(show∃a,v=.ref a/\mp[i]?=some a/\¬Dcy H a from h)
  exact⟨p,e,a.pre _ _ s,a.ndc _ _ s n⟩
 |.exn c n,v,h=>by
  obtain⟨p,dx,q,e,⟨s0,s1,s⟩,r⟩:=(show∃a dx p,v=.ref a/\(CN K c p/\XCl K p/\H a=some (XO a p dx))/\∀i,n=some i->∃d,dx=some d/\H d=some (XA d i)from h)
  exact⟨p,dx,q,e,⟨s0,s1,a.ext _ _ s⟩,fun i z=>let⟨d,z1,z2⟩:=r i z;⟨d,z1,a.ext _ _ z2⟩⟩
 |.fv x,v,h=>h
 |.dct i,v,h=>by
  obtain⟨p,e,s,n⟩:=(show∃a,v=.ref a/\mp[i]?=some a/\Dcy H a from h)
  exact⟨p,e,a.pre _ _ s,a.dcy _ n⟩
theorem RepL.aft{K:BM}{mp mp':List BP}{H H':Hp}(a:Aft K mp H mp' H'):∀(l:List D)(vs:List V),RepL K mp H l vs->RepL K mp' H' l vs
 |[],vs,h=>h
 |d::l,vs,h=>by
  obtain⟨v,r,e,h1,h2⟩:=(show∃v r,vs=v::r/\Rep K mp H d v/\RepL K mp H l r from h)
  exact⟨v,r,e,Rep.aft a d v h1,RepL.aft a l r h2⟩
end
section
variable{K:BM}{mp:List BP}{H:Hp}
def RepL.nil:RepL K mp H [] []:=rfl
def RepL.cons{d:D}{v:V}{l:List D}{r:List V}(h:Rep K mp H d v)(t:RepL K mp H l r):RepL K mp H (d::l) (v::r):=⟨v,r,rfl,h,t⟩
def RepL.len:∀{l:List D}{vs:List V},RepL K mp H l vs->vs.length=l.length
 |[],vs,h=>by cases (show vs=[]from h);rfl
 |d::l,vs,h=>by
  obtain⟨v,r,e,h1,h2⟩:=h;subst e;simp[RepL.len h2]
def RepL.get:∀{l:List D}{vs:List V}{i:Nat}{d:D},RepL K mp H l vs->l[i]?=some d->∃v,vs[i]?=some v/\Rep K mp H d v
 |[],_,_,_,_,e=>by simp at e
 |d::l,vs,0,_,h,e=>by
  obtain⟨v,r,q,h1,h2⟩:=h;subst q;simp at e;subst e;exact⟨v,rfl,h1⟩
 |d::l,vs,i+1,x,h,e=>by
  obtain⟨v,r,q,h1,h2⟩:=h;subst q;obtain⟨v',a,b⟩:=RepL.get (i:=i) (d:=x) h2 (by simpa using e);exact⟨v',by simpa using a,b⟩
def RepL.append:∀{l m:List D}{vs ws:List V},RepL K mp H l vs->RepL K mp H m ws->RepL K mp H (l++m) (vs++ws)
 |[],m,vs,ws,h,g=>by cases (show vs=[]from h);exact g
 |d::l,m,vs,ws,h,g=>by
  obtain⟨v,r,q,h1,h2⟩:=h;subst q;exact⟨v,r++ws,rfl,h1,RepL.append h2 g⟩
def RepL.take:∀{l:List D}{vs:List V}(n:Nat),RepL K mp H l vs->RepL K mp H (l.take n) (vs.take n)
 |[],vs,n,h=>by cases (show vs=[]from h);simp;exact RepL.nil
 |d::l,vs,0,h=>by simp;exact RepL.nil
 |d::l,vs,n+1,h=>by
  obtain⟨v,r,q,h1,h2⟩:=h;subst q;simpa using RepL.cons h1 (RepL.take n h2)
def RepL.drop:∀{l:List D}{vs:List V}(n:Nat),RepL K mp H l vs->RepL K mp H (l.drop n) (vs.drop n)
 |[],vs,n,h=>by cases (show vs=[]from h);simp;exact RepL.nil
 |d::l,vs,0,h=>by simpa using h
 |d::l,vs,n+1,h=>by
  obtain⟨v,r,q,h1,h2⟩:=h;subst q;simpa using RepL.drop n h2
def RepL.set:∀{l:List D}{vs:List V}{d:D}{v:V}(n:Nat),RepL K mp H l vs->Rep K mp H d v->RepL K mp H (l.set n d) (vs.set n v)
 |[],vs,d,v,n,h,g=>by cases (show vs=[]from h);simp;exact RepL.nil
 |x::l,vs,d,v,0,h,g=>by
  obtain⟨v',r,q,h1,h2⟩:=h;subst q;simpa using RepL.cons g h2
 |x::l,vs,d,v,n+1,h,g=>by
  obtain⟨v',r,q,h1,h2⟩:=h;subst q;simpa using RepL.cons h1 (RepL.set n h2 g)
def RepL.rev:∀{l:List D}{vs:List V},RepL K mp H l vs->RepL K mp H l.reverse vs.reverse
 |[],vs,h=>by cases (show vs=[]from h);exact RepL.nil
 |d::l,vs,h=>by
  obtain⟨v,r,q,h1,h2⟩:=h;subst q;simpa using RepL.append (RepL.rev h2) (RepL.cons h1 RepL.nil)
end
def SqF(K:BM)(H:Hp)(a:BP)(xs:List V):Prop:=
 (∃o,H a=some (.frz o (.lst xs)))∨
  ∃(o:Obj)(its:Array BN)(n:Nat),K.lookup a=some o/\o.cls=.type "list"/\o.dict=none/\o.data=.seq its n/\its.size<=sizeLine/\Vals xs its.toList
noncomputable def SqF.sq{K:BM}{H:Hp}{a:BP}{xs:List V}(h:SqF K H a xs):SqL K H a xs:=by
 rcases h with h|h
 ·exact .inl (.inr h)
 ·exact .inr h
def Hbs(K:BM)(mp:List BP)(H:Hp)(a:BP)(c:Cell):Prop:=
 ∃xs,RepL K mp H c.xs xs/\(if c.fz=true then SqF K H a xs else H a=some (.lst xs))
mutual
def nkO:D->BQ NK
 |.int i=>some (.i i)
 |.tup l=>(nkOs l).map .t
 |_=>none
def nkOs:List D->BQ (List NK)
 |[]=>some []
 |d::r=>(nkO d).bind fun k=>(nkOs r).map fun q=>k::q
end
def Gc5(K:BM)(mp:List BP)(H:Hp)(d:D)(q:NK×BP×V):Prop:=
 ∃k e,d=.tup [k,e]/\(nkO k=some q.1/\(pk q.1).depth<=8)/\Rep K mp H k (.ref q.2.1)/\Rep K mp H e q.2.2
def Hbt(K:BM)(mp:List BP)(H:Hp)(a:BP)(c:Cell):Prop:=
 c.fz=false/\∃kvs,H a=some (.dT kvs)/\Paired (Gc5 K mp H) c.xs kvs
def Gc5.aft{K:BM}{mp mp':List BP}{H H':Hp}(a:Aft K mp H mp' H'){d:D}{q:NK×BP×V}(p:Gc5 K mp H d q):Gc5 K mp' H' d q:=
 let⟨k,e,h1,h2,h3,h4⟩:=p;⟨k,e,h1,h2,Rep.aft a _ _ h3,Rep.aft a _ _ h4⟩
def Gb3(K:BM)(mp:List BP)(H:Hp)(a:BP)(c:Cell):Prop:=Hbs K mp H a c\/Hbt K mp H a c
def Gb3.low{K:BM}{mp:List BP}{H:Hp}{a:BP}{c:Cell}(q:Gb3 K mp H a c)(f:c.fz=false):∃o,H a=some o:=by
 rcases q with⟨xs,_,e⟩|⟨_,kvs,e,_⟩
 ·rw[f,if_neg Ap]at e;exact⟨_,e⟩
 ·exact⟨_,e⟩
structure RS(K:BM)(mp:List BP)(H:Hp)(S:Sto):Prop where
 len:mp.length=S.length
 cell:∀(i:Nat)(a:BP)(c:Cell),mp[i]?=some a->S[i]?=some c->Gb3 K mp H a c
 inj:∀(i j:Nat)(a:BP)(ci cj:Cell),mp[i]?=some a->mp[j]?=some a->S[i]?=some ci->S[j]?=some cj->ci.fz=false->cj.fz=false->i=j
structure Gd(K:BM)(mp:List BP)(H:Hp)(O:L2.St)(U:Lc)(S:Sto):Prop where
 rs:RS K mp H S
 len:O.length=U.length
 loc:∀(i:Nat)(d:D),U[i]?=some (some d)->∃v,O[i]?=some (some v)/\Rep K mp H d v
def Gd.aft{K:BM}{mp mp':List BP}{H H':Hp}{O:L2.St}{U:Lc}{S S':Sto}(g:Gd K mp H O U S)(a:Aft K mp H mp' H')(r:RS K mp' H' S'):Gd K mp' H' O U S':=
 ⟨r,g.len,fun i d h=>let⟨v,e,q⟩:=g.loc i d h;⟨v,e,q.aft a⟩⟩
abbrev XW:=XD->List BP->Hp->L2.St->Lc->Sto->Prop
abbrev RL(Z β:Type):=List BP->Hp->Z->β->Prop
def Gn(K:BM)(R:RL Z β)(XQ:XW)(O:L2.St)(U:Lc)(mp:List BP)(H:Hp)(o:Out Z)(Q:β->Hp->Prop):Prop:=
 match o with
 |.ok d S=>∀mp' H' v,Aft K mp H mp' H'->RS K mp' H' S->R mp' H' d v->Q v H'
 |.exc x S=>∀mp' H',Aft K mp H mp' H'->Gd K mp' H' O U S->XQ x mp' H' O U S
 |.bad=>False
def Gn.aft{Z β:Type}{K:BM}{R:RL Z β}{XQ:XW}{O:L2.St}{U:Lc}{mp mp':List BP}{H H':Hp}{o:Out Z}{Q:β->Hp->Prop}(p:Gn K R XQ O U mp H o Q)(a:Aft K mp H mp' H'):Gn K R XQ O U mp' H' o Q:=by
 cases o with
 |ok d S=>exact fun m h v b=>p m h v (a.trans b)
 |exc x S=>exact fun m h b=>p m h (a.trans b)
 |bad=>exact p
def Gn.ok{Z β:Type}{K:BM}{R:RL Z β}{XQ:XW}{O:L2.St}{U:Lc}{mp:List BP}{H:Hp}{d:Z}{S:Sto}{v:β}{Q:β->Hp->Prop}(p:Gn K R XQ O U mp H (.ok d S) Q)(r:RS K mp H S)(h:R mp H d v):Q v H:=p mp H v .refl r h
abbrev Post(K:BM)(XQ:XW):=Gn (β:=V) K (Rep K) XQ
abbrev Ev(Z:Type):=Lc->Sto->Out Z
def rdG(K:BM)(R:RL Z β)(XQ:XW)(f:Ev Z):L2.St->Hp->(β->Hp->Prop)->Prop:=fun O H Q=>∃mp U S,Gd K mp H O U S/\Gn K R XQ O U mp H (f U S) Q
def kB:RL Bool Bool:=fun _ _ a b=>b=a
def kO:RL (BQ Int) (BQ Int):=fun _ _ a b=>b=a
abbrev rdE(K:BM)(XQ:XW)(f:Ev D):TE:=rdG K (Rep K) XQ f
abbrev rdA(K:BM)(XQ:XW)(f:Ev (List D)):TA:=rdG K (RepL K) XQ f
abbrev rdT(K:BM)(XQ:XW)(f:Ev Bool):TT:=rdG K kB XQ f
abbrev rdO(K:BM)(XQ:XW)(f:Ev (BQ Int)):TO:=rdG K kO XQ f
def JE(X:Cx)(XQ:XW)(e:Expr)(f:Ev D):Prop:=PE X e (rdE X.K XQ f)
def JA(X:Cx)(XQ:XW)(es:List Expr)(f:Ev (List D)):Prop:=PA X es (rdA X.K XQ f)
def JT(X:Cx)(XQ:XW)(e:Expr)(f:Ev Bool):Prop:=PT X e (rdT X.K XQ f)
def JW(X:Cx)(XQ:XW)(e:Expr)(f:Ev Bool):Prop:=PW X e (rdT X.K XQ f)
def JO(X:Cx)(XQ:XW)(e:BQ Expr)(f:Ev (BQ Int)):Prop:=PO X e (rdO X.K XQ f)
def PE.mono{t t':TE}(h:PE X e t)(m:∀O H Q,t' O H Q->t O H Q):PE X e t':=fun pins s O H Q I q=>h pins s O H Q I (m O H Q q)
def PT.mono{t t':TT}(h:PT X e t)(m:∀O H Q,t' O H Q->t O H Q):PT X e t':=fun pins s O H Q I q=>h pins s O H Q I (m O H Q q)
def PW.mono{t t':TT}(h:PW X e t)(m:∀O H Q,t' O H Q->t O H Q):PW X e t':=fun wh pins s O H Q I q=>h wh pins s O H Q I (m O H Q q)
def PO.mono{t t':TO}(h:PO X e t)(m:∀O H Q,t' O H Q->t O H Q):PO X e t':=fun pins s O H Q I q=>h pins s O H Q I (m O H Q q)
def PA.mono{t t':TA}(h:PA X e t)(m:∀O H Q,t' O H Q->t O H Q):PA X e t':=fun pos pins s O H Q I q=>h pos pins s O H Q I (m O H Q q)
def PS.mono{t t':TS}(h:PS X e t)(m:∀D O H,t' D O H->t D O H):PS X e t':=fun pins s O H D I q=>h pins s O H D I (m D O H q)
def PSs.mono{t t':TS}(h:PSs X e t)(m:∀D O H,t' D O H->t D O H):PSs X e t':=fun pins s O H D I q=>h pins s O H D I (m D O H q)
def bindP{Z β γ δ:Type}{K:BM}{R:RL Z β}{R':RL γ δ}{XQ:XW}{mp:List BP}{H:Hp}{O:L2.St}{U:Lc}{S:Sto}{f:Ev Z}{g:Z->Sto->Out γ}{Q:δ->Hp->Prop}{Q1:β->Hp->Prop}(G:Gd K mp H O U S)(p:Gn K R' XQ O U mp H ((f U S).bind g) Q)
  (k:∀mp1 H1 d S1 v,Aft K mp H mp1 H1->Gd K mp1 H1 O U S1->R mp1 H1 d v->Gn K R' XQ O U mp1 H1 (g d S1) Q->Q1 v H1):rdG K R XQ f O H Q1:=by
 refine⟨mp,U,S,G,?_⟩;cases e:f U S with
 |ok d S1=>
  rw[e]at p;exact fun mp1 H1 v a rs r=>k mp1 H1 d S1 v a (G.aft a rs) r (Gn.aft p a)
 |exc x S1=>rw[e]at p;exact p
 |bad=>rw[e]at p;exact p
noncomputable def vr(i:Nat):Ev D:=fun U S=>match U[i]? with
 |some (some d)=>.ok d S
 |_=>.bad
noncomputable def cn(d:D):Ev D:=fun _ S=>.ok d S
section
variable{X:Cx}{XQ:XW}
def Gn8(i:Nat)(hN:⇑(X.N[i]?=some x))(hv:autoParam (Vis X.env.scope x) zQ6)(hd:↥((x==("__debug__":Str))=false))(hcd:↥((x==("__classdict__":Str))=false)):JE X XQ (.Name x pos) (vr i):=by
 refine PE.mono (Gf7 hN hv hd hcd) fun O H Q zq0=>?_;obtain⟨mp,U,S,G,p⟩:=zq0;unfold vr at p;cases e:U[i]? with
 |none=>rw[e]at p;exact p.elim
 |some o=>
  rw[e]at p;cases o with
  |none=>exact p.elim
  |some d=>
   obtain⟨v,h1,h2⟩:=G.loc i d e;exact⟨v,h1,Gn.ok p G.rs h2⟩
def Xi(h:PE X e (tC v))(r:∀mp H,Rep X.K mp H d v):JE X XQ e (cn d):=
 PE.mono h fun O H Q ⟨mp,U,S,G,p⟩=>Gn.ok p G.rs (r mp H)
def Gxi:JE X XQ (.Constant (.int i) j pos) (cn (.int i)):=Xi Gwj fun _ _=>rfl
def Hbu:JE X XQ (.Constant (.bool b) j pos) (cn (.bl b)):=Xi Ha2 fun _ _=>rfl
def Gxj:JE X XQ (.Constant .none j pos) (cn .non):=Xi Gwk fun _ _=>rfl
def Gxk:JE X XQ (.Constant (.str x) j pos) (cn (.str x)):=Xi Gwl fun _ _=>rfl
noncomputable def an:Ev (List D):=fun _ S=>.ok [] S
def ac(f:Ev D)(g:Ev (List D)):Ev (List D):=fun U S=>(f U S).bind fun x S1=>(g U S1).bind fun xs S2=>.ok (x::xs) S2
def Gxl:JA X XQ [] an:=PA.mono Gj5 fun O H Q ⟨mp,U,S,G,p⟩=>Gn.ok p G.rs RepL.nil
def Gr3{e:Expr}(ha:JE X XQ e f)(hr:JA X XQ es g)(hs:⇑(starEach (e::es) X.env=(false,eval e X.env)::starEach es X.env)):JA X XQ (e::es) (ac f g):=by
 refine PA.mono (Ga8 ha hr hs) fun O H Q zq0=>?_;obtain⟨mp,U,S,G,p⟩:=zq0;refine bindP G p fun mp1 H1 x S1 v a1 G1 r1 p1=>?_;refine bindP G1 p1 fun mp2 H2 xs S2 vs a2 G2 r2 p2=>?_;exact Gn.ok p2 G2.rs (RepL.cons (Rep.aft a2 _ _ r1) r2)
def Xu{K:BM}{mp:List BP}{H:Hp}{p:BP}{o:HO}(h:H p=none)(hd:autoParam (∀kvs,o≠.dT kvs) zQ7):Aft K mp H mp (upd H p o):=by
 refine⟨fun _ _ e=>e,fun a xs s=>?_,fun a φ s=>by rw[Gv (Hf s h)];exact s,fun i a e n ⟨kvs,z⟩=>?_,fun a ⟨kvs,z⟩=>⟨kvs,by rw[Gv (Hf z h)];exact z⟩⟩
 ·rcases s with(s|⟨ob,s⟩)|s
  ·exact .inl (.inl (by rw[Gv (Hf s h)];exact s))
  ·exact .inl (.inr ⟨ob,by rw[Gv (Hf s h)];exact s⟩)
  ·exact .inr s
 ·by_cases hb:a=p
  ·subst hb;rw[Ho]at z;exact hd kvs (Ab z)
  ·rw[Gv hb]at z;exact n ⟨kvs,z⟩
def Gr4{K:BM}{H:Hp}{p a:BP}{o:HO}{xs:List V}(h:H p=none)(s:SqF K H a xs):SqF K (upd H p o) a xs:=by
 rcases s with⟨ob,s⟩|s
 ·exact .inl ⟨ob,by rw[Gv (Hf s h)];exact s⟩
 ·exact .inr s
def Gb3.new{K:BM}{mp mp':List BP}{H:Hp}{p a:BP}{o:HO}{c:Cell}(h:H p=none)(af:Aft K mp H mp' (upd H p o))(q:Gb3 K mp H a c):Gb3 K mp' (upd H p o) a c:=by
 rcases q with⟨xs,r,e⟩|⟨f,kvs,e,r⟩
 case inr=>exact .inr ⟨f,kvs,by rw[Gv (Hf e h)];exact e,Paired.mapP r fun _ _ z=>z.aft af⟩
 refine .inl ⟨xs,RepL.aft af _ _ r,?_⟩;cases z:c.fz with
 |true=>rw[z]at e;exact(if_pos rfl).mpr (Gr4 h ((if_pos rfl).mp e))
 |false=>
  rw[z,if_neg Ap]at e;rw[if_neg Ap,Gv (Hf e h)];exact e
def RS.new{K:BM}{mp:List BP}{H:Hp}{S:Sto}{p:BP}{o:HO}(r:RS K mp H S)(h:H p=none)(hd:autoParam (∀kvs,o≠.dT kvs) zQ7):RS K mp (upd H p o) S:=
 ⟨r.len,fun i a c e1 e2=>(r.cell i a c e1 e2).new h (Xu h hd),r.inj⟩
def RS.newL{K:BM}{mp:List BP}{H:Hp}{S:Sto}{p:BP}{ds:List D}{vs:List V}(r:RS K mp H S)(h:H p=none)(q:RepL K mp H ds vs):
  Aft K mp H (mp++[p]) (upd H p (.lst vs))/\RS K (mp++[p]) (upd H p (.lst vs)) (S++[⟨false,ds⟩])/\(mp++[p])[S.length]?=some p:=by
 have af:Aft K mp H (mp++[p]) (upd H p (.lst vs)):=⟨fun i a e=>by rw[AD (Aa.mp e).1];exact e,(Xu (mp:=mp) h).tup,(Xu (K:=K) (mp:=mp) h).ext,(Xu (K:=K) (mp:=mp) h).ndc,(Xu (K:=K) (mp:=mp) h).dcy⟩
 have hl:=r.len;have lastp:(mp++[p])[S.length]?=some p:=by rw[<- hl];simp
 refine⟨af,⟨by simp[hl],fun i a c e1 e2=>?_,fun i j a ci cj e1 e2 e3 e4 f1 f2=>?_⟩,lastp⟩
 ·by_cases hi:i<S.length
  ·rw[AD (by omega)]at e1;rw[AD hi]at e2;exact(r.cell i a c e1 e2).new h af
  ·have hi':i=S.length:=by
    have:=(Aa.mp e2).1;simp at this;omega
   subst hi';rw[lastp]at e1;cases e1;simp at e2;subst e2;exact .inl ⟨vs,RepL.aft af _ _ q,by simp[Ho]⟩
 ·have old:∀(i:Nat)(a:BP)(c:Cell),i<S.length->(mp++[p])[i]?=some a->(S++[⟨false,ds⟩])[i]?=some c->c.fz=false->mp[i]?=some a/\S[i]?=some c/\a≠p:=fun i a c hi e1 e2 f=>by
   rw[AD (by omega)]at e1;rw[AD hi]at e2;refine⟨e1,e2,?_⟩;obtain⟨o,e⟩:=(r.cell i a c e1 e2).low f;exact Hf e h
  have hi:=(Aa.mp e3).1;have hj:=(Aa.mp e4).1;simp at hi hj;by_cases hi':i<S.length
  ·obtain⟨o1,o2,o3⟩:=old i a ci hi' e1 e3 f1;by_cases hj':j<S.length
   ·obtain⟨u1,u2,u3⟩:=old j a cj hj' e2 e4 f2;exact r.inj i j a ci cj o1 u1 o2 u2 f1 f2
   ·have:j=S.length:=by omega
    subst this;rw[lastp]at e2;cases e2;exact absurd rfl o3
  ·have:i=S.length:=by omega
   subst this;rw[lastp]at e1;cases e1;by_cases hj':j<S.length
   ·obtain⟨u1,u2,u3⟩:=old j _ cj hj' e2 e4 f2;exact absurd rfl u3
   ·omega
def RS.setL{K:BM}{mp:List BP}{H:Hp}{S:Sto}{i:Nat}{a:BP}{c:Cell}{xs vs:List V}{ds:List D}(r:RS K mp H S)(hi:mp[i]?=some a)(hc:S[i]?=some c)(hf:c.fz=false)(ha:H a=some (.lst xs))(q:RepL K mp H ds vs):
  Aft K mp H mp (upd H a (.lst vs))/\RS K mp (upd H a (.lst vs)) (S.set i ⟨false,ds⟩):=by
 have af:Aft K mp H mp (upd H a (.lst vs)):=by
  refine⟨fun _ _ e=>e,fun b ys s=>?_,fun b φ s=>by rw[Gv (Yv s ha (by intro z;cases z))];exact s,fun j b e n ⟨kvs,z⟩=>?_,fun b ⟨kvs,z⟩=>⟨kvs,by rw[Gv (Yv z ha (by intro z;cases z))];exact z⟩⟩
  ·rcases s with(s|⟨ob,s⟩)|s
   ·exact .inl (.inl (by rw[Gv (Yv s ha (by intro z;cases z))];exact s))
   ·exact .inl (.inr ⟨ob,by rw[Gv (Yv s ha (by intro z;cases z))];exact s⟩)
   ·exact .inr s
  ·by_cases hb:b=a
   ·subst hb;rw[Ho]at z;cases z
   ·rw[Gv hb]at z;exact n ⟨kvs,z⟩
 refine⟨af,⟨by simp[r.len],fun j b cj e1 e2=>?_,fun j k b cj ck e1 e2 e3 e4 f1 f2=>?_⟩⟩
 ·by_cases hj:j=i
  ·subst hj;rw[hi]at e1;cases e1;rw[As (Aa.mp hc).1]at e2;cases e2;exact .inl ⟨vs,RepL.aft af _ _ q,by simp[Ho]⟩
  ·rw[Ah (Ne.symm hj)]at e2;rcases r.cell j b cj e1 e2 with⟨ys,h1,h2⟩|⟨f,kvs,e,rr⟩
   case inr=>exact .inr ⟨f,kvs,by rw[Gv (Yv e ha (by intro z;cases z))];exact e,Paired.mapP rr fun _ _ z=>z.aft af⟩
   refine .inl ⟨ys,RepL.aft af _ _ h1,?_⟩;cases z:cj.fz with
   |true=>
    rw[z]at h2;have h2:SqF K H b ys:=(if_pos rfl).mp h2;refine(if_pos rfl).mpr ?_;rcases h2 with⟨ob,s⟩|s
    ·exact .inl ⟨ob,by rw[Gv (Yv s ha (by intro z;cases z))];exact s⟩
    ·exact .inr s
   |false=>
    rw[z,if_neg Ap]at h2;rw[if_neg Ap];have hb:b≠a:=fun hb=>by
     subst hb;exact hj (r.inj j i b cj c e1 hi e2 hc z hf)
    rw[Gv hb];exact h2
 ·have fz:∀(j:Nat)(cj:Cell),(S.set i ⟨false,ds⟩)[j]?=some cj->cj.fz=false->∃c',S[j]?=some c'/\c'.fz=false:=fun j cj e f=>by
   by_cases hj:j=i
   ·subst hj;exact⟨c,hc,hf⟩
   ·rw[Ah (Ne.symm hj)]at e;exact⟨cj,e,f⟩
  obtain⟨c1,g1,g2⟩:=fz j cj e3 f1;obtain⟨c2,g3,g4⟩:=fz k ck e4 f2;exact r.inj j k b c1 c2 e1 e2 g1 g3 g2 g4
def RS.items{K:BM}{mp:List BP}{H:Hp}{S:Sto}{i:Nat}{c:Cell}{v:V}(r:RS K mp H S)(h:Rep K mp H (.lst i) v)(e:S[i]?=some c):∃a xs,v=.ref a/\mp[i]?=some a/\SqL K H a xs/\RepL K mp H c.xs xs/\(c.fz=false->H a=some (.lst xs)):=by
 obtain⟨a,ev,ea,n⟩:=(show∃a,v=.ref a/\mp[i]?=some a/\¬Dcy H a from h)
 rcases r.cell i a c ea e with⟨xs,q,z⟩|⟨f,kvs,e,rr⟩
 case inr=>exact absurd ⟨kvs,e⟩ n
 cases f:c.fz with
 |true=>rw[f]at z;exact⟨a,xs,ev,ea,((if_pos rfl).mp z:SqF K H a xs).sq,q,fun w=>nomatch w⟩
 |false=>rw[f,if_neg Ap]at z;exact⟨a,xs,ev,ea,SqL.of z,q,fun _=>z⟩
def Rep.nd{K:BM}{mp:List BP}{H:Hp}{i:Nat}{a:BP}(h:Rep K mp H (.lst i) (.ref a)):¬Dcy H a:=by
 obtain⟨b,e,_,n⟩:=(show∃b,V.ref a=.ref b/\mp[i]?=some b/\¬Dcy H b from h)
 cases e;exact n
def Ggd{H:Hp}(h:H a=some (.lst xs)):¬Dcy H a:=fun⟨_,z⟩=>by rw[h]at z;cases z
def Rep.tup{K:BM}{mp:List BP}{H:Hp}{l:List D}{v:V}(h:Rep K mp H (.tup l) v):∃a xs,v=.ref a/\SqT K H a xs/\RepL K mp H l xs:=h
def OpD(K:BM)(r:R2)(o:D->D->Sto->Out D):Prop:=
 ∀(XQ:XW)(O:L2.St)(U:Lc)(mp:List BP)(H:Hp)(S:Sto)(x y:D)(v u:V)(Q:VK),RS K mp H S->Rep K mp H x v->Rep K mp H y u->Post K XQ O U mp H (o x y S) Q->r v u H Q
def o2(o:D->D->Sto->Out D)(fa fb:Ev D):Ev D:=fun U S=>(fa U S).bind fun x S1=>(fb U S1).bind fun y S2=>o x y S2
def Gr5(hd:OpD X.K r o):∀O H Q,rdE X.K XQ (o2 o fa fb) O H Q->tOp r (rdE X.K XQ fa) (rdE X.K XQ fb) O H Q:=by
 intro O H Q zq0;obtain⟨mp,U,S,G,p⟩:=zq0;refine bindP G p fun mp1 H1 x S1 v a1 G1 r1 p1=>?_;refine bindP G1 p1 fun mp2 H2 y S2 u a2 G2 r2 p2=>?_;exact hd XQ O U mp2 H2 S2 x y v u Q G2.rs (Rep.aft a2 _ _ r1) r2 p2
def Gfp(ho:OpR X (binaryOp op) r)(hd:OpD X.K r o)(ha:JE X XQ a fa)(hb:JE X XQ b fb):JE X XQ (.BinOp a op b pos) (o2 o fa fb):=
 PE.mono (Hbc ho ha hb) (Gr5 hd)
def Gge(ho:OpR X (compareOp op) r)(hd:OpD X.K r o)(ha:JE X XQ a fa)(hb:JE X XQ b fb)(hm:behindInMarks op b=false):JE X XQ (.Compare a [op] [b] pos) (o2 o fa fb):=
 PE.mono (Grs ho ha hb hm) (Gr5 hd)
def Hbv(hr:IxR X r)(hd:OpD X.K r o)(ha:JE X XQ a fa)(hb:JE X XQ b fb)(hs:Gde b):JE X XQ (.Subscript a b pos) (o2 o fa fb):=
 PE.mono (Hbk hr ha hb hs) (Gr5 hd)
def UnD(K:BM)(r:V->Hp->VK->Prop)(o:D->Sto->Out D):Prop:=
 ∀(XQ:XW)(O:L2.St)(U:Lc)(mp:List BP)(H:Hp)(S:Sto)(x:D)(v:V)(Q:VK),RS K mp H S->Rep K mp H x v->Post K XQ O U mp H (o x S) Q->r v H Q
def o1(o:D->Sto->Out D)(fa:Ev D):Ev D:=fun U S=>(fa U S).bind fun x S1=>o x S1
def Hbw(ho:UnR X (unaryOp op) r)(hd:UnD X.K r o)(ha:JE X XQ a fa):JE X XQ (.UnaryOp op a pos) (o1 o fa):=by
 refine PE.mono (Hbd ho ha) fun O H Q zq0=>?_;obtain⟨mp,U,S,G,p⟩:=zq0;exact bindP G p fun mp1 H1 x S1 v a1 G1 r1 p1=>hd XQ O U mp1 H1 S1 x v Q G1.rs r1 p1
def tp(f:Ev (List D)):Ev D:=fun U S=>(f U S).bind fun xs S1=>if xs.length<=1000000 then .ok (.tup xs) S1 else .bad
def ls(f:Ev (List D)):Ev D:=fun U S=>(f U S).bind fun xs S1=>if xs.length<=1000000 then .ok (.lst S1.length) (S1++[⟨false,xs⟩])else .bad
def line_le(h:n<=1000000):n<=sizeLine:=Ak h (by decide)
def Yw{K:BM}{O:L2.St}{U:Lc}{mp:List BP}{H:Hp}{S:Sto}{ds:List D}{vs:List V}{Q:VK}{p:BP}(po:Post K XQ O U mp H (.ok (.tup ds) S) Q)(r:RS K mp H S)(q:RepL K mp H ds vs)(h:H p=none):Q (.ref p) (upd H p (.tup vs)):=by
 have af:Aft K mp H mp (upd H p (.tup vs)):=Xu h;exact po mp _ _ af (r.new h) ⟨p,vs,rfl,SqT.of Ho,RepL.aft af _ _ q⟩
def Xj{K:BM}{O:L2.St}{U:Lc}{mp:List BP}{H:Hp}{S:Sto}{ds:List D}{vs:List V}{Q:VK}{p:BP}(po:Post K XQ O U mp H (.ok (.lst S.length) (S++[⟨false,ds⟩])) Q)(r:RS K mp H S)(q:RepL K mp H ds vs)(h:H p=none):Q (.ref p) (upd H p (.lst vs)):=by
 obtain⟨af,rs,e⟩:=r.newL h q;exact po _ _ _ af rs ⟨p,rfl,e,Ggd Ho⟩
def Gxm(h:JA X XQ es f):JE X XQ (.Tuple es x1 pos) (tp f):=by
 refine PE.mono (Gw7 h) fun O H Q zq0=>?_;obtain⟨mp,U,S,G,p⟩:=zq0;refine bindP G p fun mp1 H1 xs S1 vs a1 G1 r1 p1=>?_;by_cases hl:xs.length<=1000000
 ·rw[if_pos hl]at p1;exact⟨by rw[r1.len];exact line_le hl,fun q hq=>Yw p1 G1.rs r1 hq⟩
 ·rw[if_neg hl]at p1;exact p1.elim
def Gxn(h:JA X XQ es f):JE X XQ (.List es pos) (ls f):=by
 refine PE.mono (Gw8 h) fun O H Q zq0=>?_;obtain⟨mp,U,S,G,p⟩:=zq0;refine bindP G p fun mp1 H1 xs S1 vs a1 G1 r1 p1=>?_;by_cases hl:xs.length<=1000000
 ·rw[if_pos hl]at p1;exact⟨by rw[r1.len];exact line_le hl,fun q hq=>Xj p1 G1.rs r1 hq⟩
 ·rw[if_neg hl]at p1;exact p1.elim
noncomputable def Kt:D->Sto->BQ Bool
 |.non,_=>some false
 |.bl b,_=>some b
 |.int i,_=>some (i != 0)
 |.str y,_=>if y.length<=1000000 then some ((y.length:Int) != 0)else none
 |.tup l,_=>some (!l.isEmpty)
 |.lst i,S=>match S[i]? with
  |some c=>some (!c.xs.isEmpty)
  |none=>none
 |.exn _ _,_=>none
 |.fv _,_=>none
 |.dct _,_=>none
def tt(f:Ev D):Ev Bool:=fun U S=>(f U S).bind fun x S1=>match Kt x S1 with
 |some b=>.ok b S1
 |none=>.bad
def RepL.empty{K:BM}{mp:List BP}{H:Hp}{l:List D}{vs:List V}(h:RepL K mp H l vs):(!l.isEmpty)=!vs.isEmpty:=by
 have e:=h.len;cases l<;>cases vs<;>simp_all
def Gr6{K:BM}{mp:List BP}{H:Hp}{S:Sto}{x:D}{v:V}{b:Bool}(r:RS K mp H S)(h:Rep K mp H x v)(e:Kt x S=some b):Gw5 K v H b:=by
 cases x with
 |non=>cases (show v=.non from h);exact(Ab e).symm
 |bl c=>cases (show v=.bl c from h);exact(Ab e).symm
 |int i=>cases (show v=.int i from h);exact(Ab e).symm
 |str y=>
  cases (show v=.str y from h);have e:(if y.length<=1000000 then some ((y.length:Int) != 0)else none)=some b:=e;by_cases hl:y.length<=1000000
  ·rw[if_pos hl]at e;exact⟨line_le hl,(Ab e).symm⟩
  ·rw[if_neg hl]at e;cases e
 |tup l=>
  obtain⟨a,xs,rfl,s,q⟩:=Rep.tup h;exact .inr (.inl ⟨xs,s,by rw[<- q.empty];exact(Ab e).symm⟩)
 |lst i=>
  have e:(match S[i]? with|some c=>some (!c.xs.isEmpty)|none=>none)=some b:=e;cases z:S[i]? with
  |none=>rw[z]at e;cases e
  |some c=>
   rw[z]at e;obtain⟨a,xs,rfl,_,s,q,_⟩:=r.items h z;exact .inl ⟨xs,s,by rw[<- q.empty];exact(Ab e).symm⟩
 |exn c n=>cases (show(none:BQ Bool)=some b from e)
 |fv c=>cases (show(none:BQ Bool)=some b from e)
 |dct c=>cases (show(none:BQ Bool)=some b from e)
def Gxo{e:Expr}(h:JE X XQ e f)(he:autoParam (∀whole,isTrue e X.env whole=(do let v <- whole;standAt e.pos;holding [v] (truthy v))) zQ4):JT X XQ e (tt f):=by
 refine PT.mono (Gn0 h he) fun O H Q zq0=>?_;obtain⟨mp,U,S,G,p⟩:=zq0;refine bindP G p fun mp1 H1 x S1 v a1 G1 r1 p1=>?_;cases z:Kt x S1 with
 |none=>rw[z]at p1;exact p1.elim
 |some b=>
  rw[z]at p1;exact⟨b,Gr6 G1.rs r1 z,Gn.ok p1 G1.rs rfl⟩
def tb(f:Ev D):Ev Bool:=fun U S=>(f U S).bind fun x S1=>match x with
 |.bl b=>.ok b S1
 |_=>.bad
def Gn9{K:BM}{f:Ev D}{O:L2.St}{H:Hp}{Q:Bool->Hp->Prop}(h:rdT K XQ (tb f) O H Q):rdE K XQ f O H fun x H1=>∃k,x=.bl k/\Q k H1:=by
 obtain⟨mp,U,S,G,p⟩:=h;refine bindP G p fun mp1 H1 x S1 v a1 G1 r1 p1=>?_;cases x with
 |bl b=>exact⟨b,r1,Gn.ok p1 G1.rs rfl⟩
 |_=>exact p1.elim
def Ggf(ho:OpR X (compareOp op) r)(hd:OpD X.K r o)(ha:JE X XQ a fa)(hb:JE X XQ b fb)(hm:behindInMarks op b=false):JT X XQ (.Compare a [op] [b] pos) (tb (o2 o fa fb)):=
 PT.mono (Grt ho ha hb hm) fun O H Q h=>Gr5 hd O H _ (Gn9 h)
def tn(f:Ev Bool):Ev Bool:=fun U S=>(f U S).bind fun b S1=>.ok (!b) S1
def ta(f g:Ev Bool):Ev Bool:=fun U S=>(f U S).bind fun b S1=>if b=true then g U S1 else .ok false S1
def to(f g:Ev Bool):Ev Bool:=fun U S=>(f U S).bind fun b S1=>if b=true then .ok true S1 else g U S1
def Gxp(h:JT X XQ a f):JT X XQ (.UnaryOp .Not a pos) (tn f):=
 PT.mono (Gwo h) fun O H Q ⟨mp,U,S,G,p⟩=>bindP G p fun mp1 H1 b S1 c a1 G1 r1 p1=>by
  cases (show c=b from r1);exact Gn.ok p1 G1.rs rfl
def Gr7(h:JT X XQ a f):JW X XQ (.BoolOp .And [a] pos) f:=Grn h
def Gxq(h:JT X XQ a f):JW X XQ (.BoolOp .Or [a] pos) f:=Gwm h
def Gxr{a b:Expr}{rest:List Expr}(h:JT X XQ a f)(hb:JW X XQ (.BoolOp .And (b::rest) pos) g):JW X XQ (.BoolOp .And (a::b::rest) pos) (ta f g):=
 PW.mono (Gwn h hb) fun O H Q ⟨mp,U,S,G,p⟩=>bindP G p fun mp1 H1 b S1 c a1 G1 r1 p1=>by
  cases (show c=b from r1);cases b with
  |true=>exact(if_pos rfl).mpr ⟨mp1,U,S1,G1,by simpa using p1⟩
  |false=>exact(if_neg Ap).mpr (Gn.ok (R:=kB) (d:=false) (S:=S1) (by simpa using p1) G1.rs rfl)
def Hbx{a b:Expr}{rest:List Expr}(h:JT X XQ a f)(hb:JW X XQ (.BoolOp .Or (b::rest) pos) g):JW X XQ (.BoolOp .Or (a::b::rest) pos) (to f g):=
 PW.mono (Ha3 h hb) fun O H Q ⟨mp,U,S,G,p⟩=>bindP G p fun mp1 H1 b S1 c a1 G1 r1 p1=>by
  cases (show c=b from r1);cases b with
  |false=>exact(if_neg Ap).mpr ⟨mp1,U,S1,G1,by simpa using p1⟩
  |true=>exact(if_pos rfl).mpr (Gn.ok (R:=kB) (d:=true) (S:=S1) (by simpa using p1) G1.rs rfl)
def JW.jt(h:JW X XQ e f):JT X XQ e f:=PW.pt h
def va(f g:Ev D):Ev D:=fun U S=>(f U S).bind fun x S1=>match x with
 |.bl b=>if b=true then g U S1 else .ok (.bl false) S1
 |_=>.bad
def vo(f g:Ev D):Ev D:=fun U S=>(f U S).bind fun x S1=>match x with
 |.bl b=>if b=true then .ok (.bl true) S1 else g U S1
 |_=>.bad
def vn(f:Ev D):Ev D:=fun U S=>(f U S).bind fun x S1=>match x with
 |.bl b=>.ok (.bl (!b)) S1
 |_=>.bad
def Gxs(h:JE X XQ a f):JE X XQ (.BoolOp op [a] pos) f:=Gwp h
def Gxt{a b:Expr}{rest:List Expr}(ha:JE X XQ a f)(hb:JE X XQ (.BoolOp .And (b::rest) pos) g):JE X XQ (.BoolOp .And (a::b::rest) pos) (va f g):=
 PE.mono (Gwq ha hb) fun O H Q ⟨mp,U,S,G,p⟩=>bindP G p fun mp1 H1 x S1 v a1 G1 r1 p1=>by
  cases x with
  |bl b=>
   refine⟨b,r1,?_⟩;cases b with
   |true=>exact(if_pos rfl).mpr ⟨mp1,U,S1,G1,by simpa using p1⟩
   |false=>exact(if_neg Ap).mpr (Gn.ok (R:=Rep X.K) (d:=.bl false) (S:=S1) (by simpa using p1) G1.rs rfl)
  |_=>exact p1.elim
def Gxu(ha:JE X XQ a f):JE X XQ (.UnaryOp .Not a pos) (vn f):=
 PE.mono (Gwr ha) fun O H Q ⟨mp,U,S,G,p⟩=>bindP G p fun mp1 H1 x S1 v a1 G1 r1 p1=>by
  cases x with
  |bl b=>exact⟨b,r1,Gn.ok p1 G1.rs rfl⟩
  |_=>exact p1.elim
def ie(c:Ev Bool)(f g:Ev D):Ev D:=fun U S=>(c U S).bind fun b S1=>if b=true then f U S1 else g U S1
def Gxv(hc:JT X XQ c fc)(ha:JE X XQ a fa)(hb:JE X XQ b fb):JE X XQ (.IfExp c a b pos) (ie fc fa fb):=
 PE.mono (Gnq hc ha hb) fun O H Q ⟨mp,U,S,G,p⟩=>bindP G p fun mp1 H1 b S1 c a1 G1 r1 p1=>by
  cases (show c=b from r1);cases b with
  |true=>exact(if_pos rfl).mpr ⟨mp1,U,S1,G1,by simpa using p1⟩
  |false=>exact(if_neg Ap).mpr ⟨mp1,U,S1,G1,by simpa using p1⟩
end
inductive OS where
 |nx (U:Lc) (S:Sto)|rt (d:D) (S:Sto)|bk (U:Lc) (S:Sto)|ct (U:Lc) (S:Sto)|exc (x:XD) (U:Lc) (S:Sto)|bad
abbrev Sv:=Lc->Sto->OS
def PostS(K:BM)(XQ:XW)(mp:List BP)(H:Hp)(o:OS)(E:Ends):Prop:=
 match o with
 |.nx U S=>∀mp' H' O',Aft K mp H mp' H'->Gd K mp' H' O' U S->E.nx O' H'
 |.rt d S=>∀mp' H' v,Aft K mp H mp' H'->RS K mp' H' S->Rep K mp' H' d v->E.rt v H'
 |.bk U S=>∀mp' H' O',Aft K mp H mp' H'->Gd K mp' H' O' U S->E.bk O' H'
 |.ct U S=>∀mp' H' O',Aft K mp H mp' H'->Gd K mp' H' O' U S->E.ct O' H'
 |.exc x U S=>∀mp' H' O',Aft K mp H mp' H'->Gd K mp' H' O' U S->XQ x mp' H' O' U S
 |.bad=>False
def PostS.aft{K:BM}{XQ:XW}{mp mp':List BP}{H H':Hp}{o:OS}{E:Ends}(p:PostS K XQ mp H o E)(a:Aft K mp H mp' H'):PostS K XQ mp' H' o E:=by
 cases o with
 |nx U S=>exact fun m h v b=>p m h v (a.trans b)
 |rt d S=>exact fun m h v b=>p m h v (a.trans b)
 |bk U S=>exact fun m h v b=>p m h v (a.trans b)
 |ct U S=>exact fun m h v b=>p m h v (a.trans b)
 |exc x U S=>exact fun m h v b=>p m h v (a.trans b)
 |bad=>exact p
def rdS(K:BM)(XQ:XW)(f:Sv):TS:=fun E O H=>∃mp U S,Gd K mp H O U S/\PostS K XQ mp H (f U S) E
def JS(X:Cx)(XQ:XW)(st:Stmt)(f:Sv):Prop:=PS X st (rdS X.K XQ f)
def JSs(X:Cx)(XQ:XW)(st:List Stmt)(f:Sv):Prop:=PSs X st (rdS X.K XQ f)
noncomputable def bindS(o:Out Z)(U:Lc)(k:Z->Sto->OS):OS:=
 match o with
 |.ok a S=>k a S
 |.exc x S=>.exc x U S
 |.bad=>.bad
def bindSP{Z β:Type}{K:BM}{R:RL Z β}{XQ:XW}{mp:List BP}{H:Hp}{O:L2.St}{U:Lc}{S:Sto}{f:Ev Z}{g:Z->Sto->OS}{E:Ends}{Q1:β->Hp->Prop}(G:Gd K mp H O U S)(p:PostS K XQ mp H (bindS (f U S) U g) E)
  (k:∀mp1 H1 d S1 v,Aft K mp H mp1 H1->Gd K mp1 H1 O U S1->R mp1 H1 d v->PostS K XQ mp1 H1 (g d S1) E->Q1 v H1):rdG K R XQ f O H Q1:=by
 refine⟨mp,U,S,G,?_⟩;cases e:f U S with
 |ok d S1=>
  rw[e]at p;exact fun mp1 H1 v a rs r=>k mp1 H1 d S1 v a (G.aft a rs) r (PostS.aft p a)
 |exc x S1=>rw[e]at p;exact fun m h b c=>p m h O b c
 |bad=>rw[e]at p;exact p
noncomputable def skip:Sv:=fun U S=>.nx U S
noncomputable def sq(f g:Sv):Sv:=fun U S=>match f U S with
 |.nx U' S'=>g U' S'
 |.rt d S'=>.rt d S'
 |.bk U' S'=>.bk U' S'
 |.ct U' S'=>.ct U' S'
 |.exc x U' S'=>.exc x U' S'
 |.bad=>.bad
section
variable{X:Cx}{XQ:XW}
def PostS.nx{K:BM}{mp:List BP}{H:Hp}{O:L2.St}{U:Lc}{S:Sto}{E:Ends}(p:PostS K XQ mp H (.nx U S) E)(G:Gd K mp H O U S):E.nx O H:=p mp H O .refl G
def PostS.rt{K:BM}{mp:List BP}{H:Hp}{d:D}{v:V}{S:Sto}{E:Ends}(p:PostS K XQ mp H (.rt d S) E)(r:RS K mp H S)(h:Rep K mp H d v):E.rt v H:=p mp H v .refl r h
def Gr8:JSs X XQ [] skip:=PSs.mono Gro fun E O H ⟨mp,U,S,G,p⟩=>PostS.nx p G
def Goa{st:Stmt}{rest:List Stmt}(h1:JS X XQ st f)(h2:JSs X XQ rest g):JSs X XQ (st::rest) (sq f g):=by
 refine PSs.mono (Gnr h1 h2) fun E O H ⟨mp,U,S,G,p⟩=>⟨mp,U,S,G,?_⟩
 unfold sq at p;cases e:f U S with
 |nx U' S'=>rw[e]at p;exact fun m h v a G'=>⟨m,U',S',G',PostS.aft p a⟩
 |rt d S'=>rw[e]at p;exact p
 |bk U' S'=>rw[e]at p;exact p
 |ct U' S'=>rw[e]at p;exact p
 |exc x U' S'=>rw[e]at p;exact p
 |bad=>rw[e]at p;exact p
def Gr9{st:Stmt}{f:Sv}(h1:JS X XQ st f):JSs X XQ [st] f:=Gk8 h1
def sct:Sv:=fun U S=>.ct U S
def Gib:JS X XQ (.Continue pos) sct:=PS.mono Gh6 fun E O H ⟨mp,U,S,G,p⟩=>p mp H O .refl G
def sx(f:Ev D):Sv:=fun U S=>bindS (f U S) U fun _ S1=>.nx U S1
def Gsa{pos:Pos}(he:JE X XQ e f)(hs:⇑(swapsWith e none pos.line X.env=pure false)):JS X XQ (.Expr e pos) (sx f):=
 PS.mono (Gk9 he hs) fun E O H ⟨mp,U,S,G,p⟩=>bindSP G p fun mp1 H1 d S1 v a1 G1 r1 p1=>PostS.nx p1 G1
def sret(f:Ev D):Sv:=fun U S=>bindS (f U S) U fun d S1=>.rt d S1
def Gxw(he:JE X XQ e f):JS X XQ (.Return (some e) pos) (sret f):=
 PS.mono (Gws he) fun E O H ⟨mp,U,S,G,p⟩=>bindSP G p fun mp1 H1 d S1 v a1 G1 r1 p1=>PostS.rt p1 G1.rs r1
def sif(c:Ev Bool)(f g:Sv):Sv:=fun U S=>bindS (c U S) U fun b S1=>if b=true then f U S1 else g U S1
def Hby{fc:Ev Bool}{f:Sv}(hc:JT X XQ c fc)(ha:JSs X XQ a f)(hb:JSs X XQ b g):JS X XQ (.If c a b pos) (sif fc f g):=
 PS.mono (Ha8 hc ha hb) fun E O H ⟨mp,U,S,G,p⟩=>bindSP G p fun mp1 H1 b S1 c a1 G1 r1 p1=>by
  cases (show c=b from r1);cases b with
  |true=>exact(if_pos rfl).mpr ⟨mp1,U,S1,G1,by simpa using p1⟩
  |false=>exact(if_neg Ap).mpr ⟨mp1,U,S1,G1,by simpa using p1⟩
def Gd.set{K:BM}{mp:List BP}{H:Hp}{O:L2.St}{U:Lc}{S:Sto}{d:D}{v:V}(G:Gd K mp H O U S)(i:Nat)(r:Rep K mp H d v):Gd K mp H (O.set i (some v)) (U.set i (some d)) S:=by
 refine⟨G.rs,by simp[G.len],fun j e h=>?_⟩;by_cases hj:j=i
 ·subst hj;have hl:j<U.length:=by
   have:=(Aa.mp h).1;simpa using this
  rw[As hl]at h;cases h;exact⟨v,by rw[As (by rw[G.len];exact hl)],r⟩
 ·rw[Ah (Ne.symm hj)]at h⊢;exact G.loc j e h
abbrev Tg:=D->Lc->BQ Lc
def Gka(K:BM)(g:Tg):TG:=fun v O H Q=>∃mp U S d U',Gd K mp H O U S/\Rep K mp H d v/\g d U=some U'/\∀O',Gd K mp H O' U' S->Q O' H
def JG(X:Cx)(tg:Expr)(g:Tg):Prop:=PG X tg (Gka X.K g)
def PG.mono{t t':TG}(h:PG X e t)(m:∀v O H Q,t' v O H Q->t v O H Q):PG X e t':=fun pins s O H v u Q I r q=>h pins s O H v u Q I r (m v O H Q q)
noncomputable def gn(i:Nat):Tg:=fun d U=>some (U.set i (some d))
def Ggg(i:Nat)(hN:X.N.Nodup)(hi:⇑(X.N[i]?=some x))(hx:autoParam (Loc X.env.scope x) zQ8)(hf:autoParam (X.fn x=true\/X.env.scope.names.lookup x=some .local) zQ0):JG X (.Name x pos) (gn i):=
 PG.mono (Grq hN hi hx hf) fun v O H Q ⟨mp,U,S,d,U',G,r,e,k⟩=>by
  cases (Ab e);exact k _ (G.set i r)
abbrev Tgs:=List D->Lc->BQ Lc
def Hee(K:BM)(g:Tgs):TGs:=fun vs O H Q=>∃mp U S ds U',Gd K mp H O U S/\RepL K mp H ds vs/\g ds U=some U'/\∀O',Gd K mp H O' U' S->Q O' H
def JGs(X:Cx)(ts:List Expr)(g:Tgs):Prop:=PGs X ts (Hee X.K g)
def PGs.mono{t t':TGs}(h:PGs X e t)(m:∀v O H Q,t' v O H Q->t v O H Q):PGs X e t':=fun pins s O H v u Q I r q=>h pins s O H v u Q I r (m v O H Q q)
noncomputable def gnil:Tgs:=fun ds U=>match ds with
 |[]=>some U
 |_::_=>none
def gcons(g:Tg)(k:Tgs):Tgs:=fun ds U=>match ds with
 |[]=>none
 |d::r=>(g d U).bind fun U'=>k r U'
def Gsb:JGs X [] gnil:=PGs.mono Gla fun vs O H Q ⟨mp,U,S,ds,U',G,r,e,k⟩=>by
 cases ds with
 |nil=>
  cases (show some U=some U' from e);exact⟨r,k _ G⟩
 |cons _ _=>cases (show(none:BQ Lc)=some U' from e)
def Gob{e:Expr}(h1:JG X e g)(h2:JGs X es k)(hs:⇑((assignEach (e::es) X.env).map (·.2)=assign e X.env::(assignEach es X.env).map (·.2))):JGs X (e::es) (gcons g k):=
 PGs.mono (Gdm h1 h2 hs) fun vs O H Q ⟨mp,U,S,ds,U',G,r,e,q⟩=>by
  cases ds with
  |nil=>cases (show(none:BQ Lc)=some U' from e)
  |cons d ds=>
   have e:(g d U).bind (fun U'=>k ds U')=some U':=e;obtain⟨v,vr,ev,h3,h4⟩:=(show∃v r,vs=v::r/\Rep X.K mp H d v/\RepL X.K mp H ds r from r)
   cases z:g d U with
   |none=>rw[z]at e;cases e
   |some U1=>
    rw[z]at e;exact⟨v,vr,ev,mp,U,S,d,U1,G,h3,z,fun O1 G1=>⟨mp,U1,S,ds,U',G1,h4,e,q⟩⟩
noncomputable def gt(k:Tgs)(n:Nat):Tg:=fun d U=>match d with
 |.tup ds=>if ds.length=n then k ds U else none
 |_=>none
def Gxx(hc:X.calm=true)(h:JGs X es k)(hn:⇑((assignEach es X.env).length=n))(hst:⇑((assignEach es X.env).findIdx? (·.1)=none)):JG X (.Tuple es m pos) (gt k n):=
 PG.mono (Gns hc h hn hst) fun v O H Q ⟨mp,U,S,d,U',G,r,e,q⟩=>by
  cases d with
  |tup ds=>
   have e:(if ds.length=n then k ds U else none)=some U':=e;obtain⟨a,xs,ev,sq,rl⟩:=Rep.tup r;by_cases hl:ds.length=n
   ·rw[if_pos hl]at e;exact⟨a,xs,ev,sq,by rw[rl.len];exact hl,mp,U,S,ds,U',G,rl,e,q⟩
   ·rw[if_neg hl]at e;cases e
  |_=>cases (show(none:BQ Lc)=some U' from e)
def sa(f:Ev D)(g:Tg):Sv:=fun U S=>bindS (f U S) U fun d S1=>match g d U with
 |some U'=>.nx U' S1
 |none=>.bad
def Hef{K:BM}{f:Ev D}{g:Tg}(E:Ends)(O:L2.St)(H:Hp)(h:rdS K XQ (sa f g) E O H):Gnt (rdE K XQ f) (Gka K g) E O H:=by
 obtain⟨mp,U,S,G,p⟩:=h;refine bindSP G p fun mp1 H1 d S1 v a1 G1 r1 p1=>?_;cases z:g d U with
 |none=>rw[z]at p1;exact p1.elim
 |some U'=>
  rw[z]at p1;exact⟨mp1,U,S1,d,U',G1,r1,z,fun O' G'=>PostS.nx p1 G'⟩
def Gxy{pos:Pos}(he:JE X XQ e f)(hg:JG X tg g)(hs:⇑(swapsWithSole [tg] e pos.line X.env=pure false))(hw:⇑(swappedStores [tg] e X.env=pure none))(h1:⇑((assignEach [tg] X.env).map (·.2)=[assign tg X.env])):JS X XQ (.Assign [tg] e pos) (sa f g):=
 PS.mono (Gj0 he hg hs hw h1) Hef
def Gxz(i:Nat){pos:Pos}(hN:X.N.Nodup)(he:JE X XQ e f)(hi:⇑(X.N[i]?=some x))(hx:autoParam (Loc X.env.scope x) zQ8)(hs:⇑(swapsWith e (some (.Name x pos')) pos.line X.env=pure false))(hf:autoParam (X.fn x=true\/X.env.scope.names.lookup x=some .local) zQ0):JS X XQ (.Assign [.Name x pos'] e pos) (sa f (gn i)):=
 PS.mono (Gwt hN hi hx he hs hf) fun E O H ⟨mp,U,S,G,p⟩=>bindSP G p fun mp1 H1 d S1 v a1 G1 r1 p1=>PostS.nx p1 (G1.set i r1)
def Gx0(t:Gmn)(K:BM)(o:D->D->D->Sto->BQ Sto):Prop:=
 ∀(mp:List BP)(H:Hp)(S S':Sto)(x y z:D)(v u w:V)(Q:Hp->Prop),RS K mp H S->Rep K mp H x v->Rep K mp H y u->Rep K mp H z w->o x y z S=some S'->(∀H',Aft K mp H mp H'->RS K mp H' S'->Q H')->t v u w H Q
def ss(f fo fi:Ev D)(o:D->D->D->Sto->BQ Sto):Sv:=fun U S=>bindS (f U S) U fun d S1=>bindS (fo U S1) U fun x S2=>bindS (fi U S2) U fun y S3=>match o x y d S3 with
 |some S4=>.nx U S4
 |none=>.bad
def Goc{pos:Pos}(hset:Grp X t)(ho:Gx0 t X.K o)(he:JE X XQ e f)(hob:JE X XQ ob fo)(hix:JE X XQ ix fi)(hs:⇑(swapsWithSole [.Subscript ob ix p2] e pos.line X.env=pure false))(hw:⇑(swappedStores [.Subscript ob ix p2] e X.env=pure none))(h1:⇑((assignEach [.Subscript ob ix p2] X.env).map (·.2)=[assign (.Subscript ob ix p2) X.env]))(ha:autoParam (∀ v,assign (.Subscript ob ix p2) X.env v=(do
   let ov <- holding [v] (eval ob X.env);let iv <- holding [v,ov] (eval ix X.env)
   standAt p2
   holding [v,ov,iv] (setItem ov iv v)
   release [v,ov,iv] [])) zQ3):JS X XQ (.Assign [.Subscript ob ix p2] e pos) (ss f fo fi o):=by
 refine PS.mono (Gj0 he (Gjz hob hix hset ha) hs hw h1) fun E O H zq0=>?_;obtain⟨mp,U,S,G,p⟩:=zq0;refine bindSP G p fun mp1 H1 d S1 v a1 G1 r1 p1=>?_;refine bindSP G1 p1 fun mp2 H2 x S2 vx a2 G2 r2 p2=>?_;refine bindSP G2 p2 fun mp3 H3 y S3 vy a3 G3 r3 p3=>?_;cases z:o x y d S3 with
 |none=>rw[z]at p3;exact p3.elim
 |some S4=>
  rw[z]at p3;exact ho mp3 H3 S3 S4 x y d vx vy v _ G3.rs (Rep.aft a3 _ _ r2) r3 (Rep.aft (a2.trans a3) _ _ r1) z fun H' af rs=>p3 mp3 H' O af (G3.aft af rs)
structure Src where
 nxt:Nat->Sto->BQ D
 fuel:Nat
def God(K:BM)(mp0:List BP)(H0:Hp)(J:It)(nxt:Nat->Sto->BQ D):Prop:=
 ∀(mp:List BP)(H:Hp)(S:Sto),Aft K mp0 H0 mp H->RS K mp H S->∀k,match nxt k S with
  |some d=>J.go k H/\∀x H',J.yld k H x H'->Aft K mp H mp H'/\RS K mp H' S/\Rep K mp H' d x
  |none=>J.stop k H
def kI(K:BM):RL Src It:=fun mp H s J=>God K mp H J s.nxt
abbrev rdI(K:BM)(XQ:XW)(f:Ev Src):TI:=rdG K (kI K) XQ f
def JI(X:Cx)(XQ:XW)(tg iter:Expr)(f:Ev Src):Prop:=PI X tg iter (rdI X.K XQ f)
def PI.mono{t t':TI}(h:PI X tg e t)(m:∀O H Q,t' O H Q->t O H Q):PI X tg e t':=fun pins s O H Q I q=>h pins s O H Q I (m O H Q q)
noncomputable def Jd(nxt:Nat->Sto->BQ D)(g:Tg)(b:Sv):Nat->Nat->Sv
 |0,_,_,_=>.bad
 |n+1,k,U,S=>match nxt k S with
  |none=>.nx U S
  |some d=>match g d U with
   |none=>.bad
   |some U1=>match b U1 S with
    |.nx U2 S2=>Jd nxt g b n (k+1) U2 S2
    |.ct U2 S2=>Jd nxt g b n (k+1) U2 S2
    |.bk U2 S2=>.nx U2 S2
    |.rt d S2=>.rt d S2
    |.exc x U2 S2=>.exc x U2 S2
    |.bad=>.bad
def sfor(f:Ev Src)(g:Tg)(b:Sv):Sv:=fun U S=>bindS (f U S) U fun s S1=>Jd s.nxt g b s.fuel 0 U S1
def Gx1(hp:PassesOwn (model X.prog X.w) X.A X.env X.xe)(hc:X.calm=true)(hi:JI X XQ tg iter f)(hg:JG X tg g)(hb:JSs X XQ body b)(hs:autoParam (∀x,foldedSetIterable iter X.env x=pure x) zQ4):JS X XQ (.For tg iter body [] pos) (sfor f g b):=by
 refine PS.mono (Gww hp hc hi hg hb hs) fun E O H zq0=>?_;obtain⟨mp,U,S,G,p⟩:=zq0;refine bindSP G p fun mp1 H1 s S1 J a1 G1 j1 p1=>?_;refine⟨fun i m O' H'=>∃mp' U' S',Aft X.K mp1 H1 mp' H'/\Gd X.K mp' H' O' U' S'/\PostS X.K XQ mp' H' (Jd s.nxt g b m i U' S') E,⟨s.fuel,mp1,U,S1,.refl,G1,p1⟩,?_⟩;rintro i m O' H' ⟨mp',U',S',a',G',p'⟩;cases m with
 |zero=>exact(show False from p').elim
 |succ n=>
  have j:=j1 mp' H' S' a' G'.rs i;unfold Jd at p';cases z:s.nxt i S' with
  |none=>
   rw[z]at j p';exact .inl ⟨j,PostS.nx p' G'⟩
  |some d=>
   rw[z]at j p';obtain⟨j1,j2⟩:=j;refine .inr ⟨j1,fun O2 H2=>∃mp2 U2 S2,Aft X.K mp1 H1 mp2 H2/\Gd X.K mp2 H2 O2 U2 S2/\PostS X.K XQ mp2 H2 (Jd s.nxt g b n (i+1) U2 S2) E,fun O2 H2 q=>⟨n,AM n,q⟩,fun x H2 y=>?_⟩;obtain⟨a2,r2,x2⟩:=j2 x H2 y;have G2:=G'.aft a2 r2;cases zg:g d U' with
   |none=>simp only[zg]at p';exact p'.elim
   |some U1=>
    simp only[zg]at p';refine⟨mp',U',S',d,U1,G2,x2,zg,fun O3 G3=>⟨mp',U1,S',G3,?_⟩⟩;have p2:=PostS.aft p' a2;cases zb:b U1 S' with
    |nx U2 S2=>simp only[zb]at p2;exact fun m h v af G4=>⟨m,U2,S2,(a'.trans a2).trans af,G4,PostS.aft p2 af⟩
    |ct U2 S2=>simp only[zb]at p2;exact fun m h v af G4=>⟨m,U2,S2,(a'.trans a2).trans af,G4,PostS.aft p2 af⟩
    |bk U2 S2=>simp only[zb]at p2;exact p2
    |rt d S2=>simp only[zb]at p2;exact p2
    |exc x U2 S2=>simp only[zb]at p2;exact p2
    |bad=>simp only[zb]at p2;exact p2
def Yx:D->Sto->Out Src
 |.tup l,S=>.ok ⟨fun k _=>l[k]?,l.length+1⟩ S
 |.lst i,S=>match S[i]? with
  |some c=>.ok ⟨fun k S=>(S[i]?).bind fun c=>c.xs[k]?,c.xs.length+1⟩ S
  |none=>.bad
 |_,_=>.bad
end
section
variable{X:Cx}{XQ:XW}
def Heg(K:BM)(tl:TE):TI:=fun O H R=>tl O H fun x H1=>∃a,x=.ref a/\(((∃xs,SqL K H1 a xs)/\R (Itl K a) H1)\/((∃xs,SqT K H1 a xs)/\R (Itt K a) H1))
def Gx2(hl:PE X l tl):PI X tg l (Heg X.K tl):=by
 intro pins s O H R I h;refine thn (hl pins s O H _ I h) fun v s1 zq0=>?_;obtain⟨x,H1,I1,r1,q1⟩:=zq0;obtain⟨a,e,q⟩:=q1;subst e;cases r1;rcases q with⟨⟨xs,hq⟩,q⟩|⟨⟨xs,hq⟩,q⟩
 ·obtain⟨its,rv,p,hz⟩:=I1.list hq;refine wpAny_pyIter_list p.isList ?_;refine⟨s1.heap.objs.size,[s1.heap.objs.size],_,_,H1,rfl,I1.kept (t':=s1.toks) fun b o e=>Aj _ e,turn_list a _,⟨_,Az _ rfl,rfl,rfl⟩,fun b hb=>?_,q⟩;have e:b=s1.heap.objs.size:=by simpa using hb
  subst e;exact I1.fpOk (Ac _) (I1.hok.fresh (Ac _))
 ·obtain⟨its,rv,p,hz⟩:=I1.tuple hq;refine wpAny_pyIter_tuple (show s1.heap.IsTuple a its.toArray from p) ?_;refine⟨s1.heap.objs.size,[s1.heap.objs.size],_,_,H1,rfl,I1.kept (t':=s1.toks) fun b o e=>Aj _ e,turn_tuple a _,⟨_,Az _ rfl,rfl,rfl⟩,fun b hb=>?_,q⟩;have e:b=s1.heap.objs.size:=by simpa using hb
  subst e;exact I1.fpOk (Ac _) (I1.hok.fresh (Ac _))
def isrc(f:Ev D):Ev Src:=fun U S=>(f U S).bind Yx
def Gx3{K:BM}{mp:List BP}{H:Hp}{a:BP}{xs:List V}{l:List D}(s:SqT K H a xs)(r:RepL K mp H l xs):God K mp H (Itt K a) (fun k _=>l[k]?):=by
 intro mp' H' S' af rs k;show match l[k]? with
  |some d=>(Itt K a).go k H'/\∀x H2,(Itt K a).yld k H' x H2->Aft K mp' H' mp' H2/\RS K mp' H2 S'/\Rep K mp' H2 d x
  |none=>(Itt K a).stop k H'
 cases z:l[k]? with
 |none=>
  refine⟨xs,af.tup _ _ s,?_⟩;rw[r.len];exact AV.mp z
 |some d=>
  have r':=RepL.aft af _ _ r;obtain⟨v,e,q⟩:=r'.get z;refine⟨⟨xs,v,af.tup _ _ s,e⟩,fun x H2 zq0=>?_⟩;obtain⟨h1,h2⟩:=zq0;subst h1;have e2:=h2 xs (af.tup _ _ s);rw[e]at e2;cases e2;exact⟨.refl,rs,q⟩
def Gx4{K:BM}{mp:List BP}{H:Hp}{a:BP}{i:Nat}(hi:mp[i]?=some a)(nd:¬Dcy H a):God K mp H (Itl K a) (fun k S=>(S[i]?).bind fun c=>c.xs[k]?):=by
 intro mp' H' S' af rs k;have hi':=af.pre i a hi;have hl:i<S'.length:=by rw[<- rs.len];exact(Aa.mp hi').1
 have hc:S'[i]?=some S'[i]:=Af hl;obtain⟨a2,xs,e1,e2,sq,r,_⟩:=rs.items (v:=.ref a) ⟨a,rfl,hi',af.ndc i a hi nd⟩ hc;cases e1;simp only[hc,Bs];cases z:(S'[i]).xs[k]? with
 |none=>
  refine⟨xs,sq,?_⟩;rw[r.len];exact AV.mp z
 |some d=>
  obtain⟨v,e,q⟩:=r.get z;refine⟨⟨xs,v,sq,e⟩,fun x H2 zq0=>?_⟩;obtain⟨h1,h2⟩:=zq0;subst h1;have e2:=h2 xs sq;rw[e]at e2;cases e2;exact⟨.refl,rs,q⟩
def Gx5(hl:JE X XQ l f):JI X XQ tg l (isrc f):=by
 refine PI.mono (Gx2 hl) fun O H R zq0=>?_;obtain⟨mp,U,S,G,p⟩:=zq0;refine bindP G p fun mp1 H1 d S1 v a1 G1 r1 p1=>?_;cases d with
 |tup ds=>
  obtain⟨a,xs,rfl,s,q⟩:=Rep.tup r1;exact⟨a,rfl,.inr ⟨⟨xs,s⟩,Gn.ok (R:=kI X.K) (d:=⟨fun k _=>ds[k]?,ds.length+1⟩) (S:=S1) p1 G1.rs (Gx3 s q)⟩⟩
 |lst i=>
  have p1:Gn X.K (kI X.K) XQ O U mp1 H1 (match S1[i]? with|some c=>.ok ⟨fun k S=>(S[i]?).bind fun c=>c.xs[k]?,c.xs.length+1⟩ S1|none=>.bad) R:=p1;cases z:S1[i]? with
  |none=>rw[z]at p1;exact p1.elim
  |some c=>
   rw[z]at p1;obtain⟨a,xs,rfl,ha,s,q,_⟩:=G1.rs.items r1 z;exact⟨a,rfl,.inl ⟨⟨xs,s⟩,Gn.ok (R:=kI X.K) (d:=⟨fun k S=>(S[i]?).bind fun c=>c.xs[k]?,c.xs.length+1⟩) (S:=S1) p1 G1.rs (Gx4 ha (Rep.nd r1))⟩⟩
 |_=>exact(show False from p1).elim
noncomputable def rsrc(lo:Int)(n:Nat):Src:=⟨fun k _=>if k<n then some (.int (lo+k))else none,n+1⟩
def Goe{K:BM}{mp:List BP}{H:Hp}{lo:Int}{n:Nat}:God K mp H (Itr lo n) (rsrc lo n).nxt:=by
 intro mp' H' S' af rs k;show match (if k<n then some (D.int (lo+k))else none)with
  |some d=>(Itr lo n).go k H'/\∀x H2,(Itr lo n).yld k H' x H2->Aft K mp' H' mp' H2/\RS K mp' H2 S'/\Rep K mp' H2 d x
  |none=>(Itr lo n).stop k H'
 by_cases h:k<n
 ·rw[if_pos h];refine⟨h,fun x H2 zq0=>?_⟩;obtain⟨h1,h2⟩:=zq0;subst h1 h2;exact⟨.refl,rs,rfl⟩
 ·rw[if_neg h];exact Nat.not_lt.mp h
def ir1(f:Ev (List D)):Ev Src:=fun U S=>(f U S).bind fun ds S1=>match ds with
 |[.int j]=>if -1000000000000<=j/\j<=1000000000000 then .ok (rsrc 0 j.toNat) S1 else .bad
 |_=>.bad
def ir2(f:Ev (List D)):Ev Src:=fun U S=>(f U S).bind fun ds S1=>match ds with
 |[.int i,.int j]=>if(-1000000000000<=i/\i<=1000000000000) /\ -1000000000000<=j/\j<=1000000000000 then .ok (rsrc i (j-i).toNat) S1 else .bad
 |_=>.bad
def RepL.one{K:BM}{mp:List BP}{H:Hp}{d:D}{vs:List V}(h:RepL K mp H [d] vs):∃v,vs=[v]/\Rep K mp H d v:=by
 obtain⟨v,r,rfl,h1,h2⟩:=h;cases (show r=[]from h2);exact⟨v,rfl,h1⟩
def RepL.two{K:BM}{mp:List BP}{H:Hp}{d e:D}{vs:List V}(h:RepL K mp H [d,e] vs):∃v w,vs=[v,w]/\Rep K mp H d v/\Rep K mp H e w:=by
 obtain⟨v,r,rfl,h1,h2⟩:=h;obtain⟨w,rfl,h3⟩:=RepL.one h2;exact⟨v,w,rfl,h1,h3⟩
def Gmw(hg:Gl X "range")(hm:X.mg "range"=none)(ha:JA X XQ [a] f)(hs:⇑(starEach [a] X.env=[(false,eval a X.env)])):JI X XQ tg (.Call (.Name "range" p) [a] [] pos) (ir1 f):=by
 refine PI.mono (Gmo hg hm ha hs) fun O H R zq0=>?_;obtain⟨mp,U,S,G,p⟩:=zq0;refine bindP G p fun mp1 H1 ds S1 vs a1 G1 r1 p1=>?_;split at p1
 ·rename_i j;by_cases hb : -1000000000000<=j/\j<=1000000000000
  ·rw[if_pos hb]at p1;obtain⟨v,rfl,h1⟩:=RepL.one r1;cases (show v=.int j from h1);refine⟨j,rfl,by omega,by omega,Gn.ok (R:=kI X.K) (d:=rsrc 0 j.toNat) (S:=S1) p1 G1.rs Goe⟩
  ·rw[if_neg hb]at p1;exact p1.elim
 ·exact p1.elim
set_option tactic.hygienic true
def Gmx(hg:Gl X "range")(hm:X.mg "range"=none)(ha:JA X XQ [a,b] f)(hs:⇑(starEach [a,b] X.env=[(false,eval a X.env),(false,eval b X.env)]))(hs2:⇑(starEach [b] X.env=[(false,eval b X.env)])):JI X XQ tg (.Call (.Name "range" p) [a,b] [] pos) (ir2 f):=by
 refine PI.mono (Gmp hg hm ha hs hs2) fun O H R zq0=>?_;obtain⟨mp,U,S,G,p⟩:=zq0;refine bindP G p fun mp1 H1 ds S1 vs a1 G1 r1 p1=>?_;split at p1
 ·rename_i i j;by_cases hb:(-1000000000000<=i/\i<=1000000000000) /\ -1000000000000<=j/\j<=1000000000000
  ·rw[if_pos hb]at p1;obtain⟨v,w,rfl,h1,h2⟩:=RepL.two r1;cases (show v=.int i from h1);cases (show w=.int j from h2);refine⟨i,j,rfl,⟨by omega,by omega,by omega,by omega⟩,Gn.ok (R:=kI X.K) (d:=rsrc i (j-i).toNat) (S:=S1) p1 G1.rs Goe⟩
  ·rw[if_neg hb]at p1;exact p1.elim
 ·exact p1.elim
set_option tactic.hygienic false
def whN(c:Ev Bool)(b:Sv):Nat->Sv
 |0,_,_=>.bad
 | n+1,U,S=>bindS (c U S) U fun t S1=>if t=true then(match b U S1 with
    |.nx U2 S2=>whN c b n U2 S2
    |.ct U2 S2=>whN c b n U2 S2
    |.bk U2 S2=>.nx U2 S2
    |.rt d S2=>.rt d S2
    |.exc x U2 S2=>.exc x U2 S2
    | .bad=>.bad) else .nx U S1
def Gof(fuel:Nat)(hp:PassesOwn (model X.prog X.w) X.A X.env X.xe)(hc:JT X XQ c fc)(hb:JSs X XQ body b):JS X XQ (.While c body [] pos) (whN fc b fuel):=by
 refine PS.mono (Gnu hp hc hb) fun E O H zq0=>?_;obtain⟨mp,U,S,G,p⟩:=zq0;refine⟨fun m O' H'=>∃mp' U' S',Gd X.K mp' H' O' U' S'/\PostS X.K XQ mp' H' (whN fc b m U' S') E,⟨fuel,mp,U,S,G,p⟩,?_⟩;rintro m O' H' ⟨mp',U',S',G',p'⟩;cases m with
 |zero=>exact(show False from p').elim
 |succ n=>
  refine bindSP G' p' fun mp1 H1 t S1 t' a1 G1 r1 p1=>?_;cases (show t'=t from r1);cases t with
  |false=>exact(if_neg Ap).mpr (PostS.nx (by simpa using p1) G1)
  |true=>
   refine(if_pos rfl).mpr ⟨fun O2 H2=>∃mp2 U2 S2,Gd X.K mp2 H2 O2 U2 S2/\PostS X.K XQ mp2 H2 (whN fc b n U2 S2) E,fun O2 H2 q=>⟨n,AM n,q⟩,⟨mp1,U',S1,G1,?_⟩⟩;simp only[if_true]at p1;cases zb:b U' S1 with
   |nx U2 S2=>simp only[zb]at p1;exact fun m h v af G4=>⟨m,U2,S2,G4,PostS.aft p1 af⟩
   |ct U2 S2=>simp only[zb]at p1;exact fun m h v af G4=>⟨m,U2,S2,G4,PostS.aft p1 af⟩
   |bk U2 S2=>simp only[zb]at p1;exact p1
   |rt d S2=>simp only[zb]at p1;exact p1
   |exc x U2 S2=>simp only[zb]at p1;exact p1
   |bad=>simp only[zb]at p1;exact p1
end
abbrev Fn:=List D->Sto->Out D
def Gvc(K:BM)(mp:List BP)(H:Hp)(o:Out D)(Q:VK):Prop:=
 match o with
 |.ok d S=>∀mp' H' v,Aft K mp H mp' H'->RS K mp' H' S->Rep K mp' H' d v->Q v H'
 |_=>False
def spD(K:BM)(n:Nat)(fn:Fn):Sp:=fun vs H Q _=>∃mp ds S,RS K mp H S/\RepL K mp H ds vs/\ds.length=n/\Gvc K mp H (fn ds S) Q
noncomputable def fnB(m:Nat)(b:Sv):Fn:=fun ds S=>match b (ds.map some++List.replicate (m-ds.length) none) S with
 |.rt d S'=>.ok d S'
 |.nx _ S'=>.ok .non S'
 |.exc x _ S'=>.exc x S'
 |_=>.bad
def Gic{K:BM}{mp:List BP}{H:Hp}{S:Sto}{N:List Str}{ds:List D}{vs:List V}(r:RS K mp H S)(h:RepL K mp H ds vs):Gd K mp H (start N vs) (ds.map some++List.replicate (N.length-ds.length) none) S:=by
 have hl:=h.len;refine⟨r,by simp[L2.start,hl],fun i d e=>?_⟩;by_cases hi:i<ds.length
 ·rw[AD (by simpa using hi),Ar]at e;cases z:ds[i]? with
  |none=>rw[z]at e;cases e
  |some d'=>
   rw[z]at e;cases e;obtain⟨v,e1,q⟩:=h.get z;refine⟨v,?_,q⟩;unfold L2.start;rw[AD (by simp[hl];exact hi),Ar,e1];rfl
 ·rw[Bq (by simpa using hi),List.getElem?_replicate]at e;split at e
  ·cases e
  ·cases e
def Gvd{P:BR}{w:World}{K:BM}{mg:Str->BQ BN}{base:Heap}{x qual:Str}{st:Stmt}{f:BP}{fd:FuncData}{N ps:List Str}{k:Nat}{b:Sv}(F:Fun K x qual st f fd)(Sc:FnScope N ps (Gc st))(hb:∀ (cdv:BN) (A:Around) (outer:List PySem.Env) (s:BO) (H:Hp) (E:XK),Room k (A.deeper (envOfC qual (Gc st) s.heap.objs.size f cdv))→
   JSs (Vj CX0 P w K mg base N qual (Gc st) f cdv A outer s H E).nox (fun _ _ _ _ _ _=>False) (Hl st) b):FnOk P w K mg base CX0 (k+1) f fd ps (spD K ps.length (fnB N.length b)):=by
 refine F.ok Sc (fun vs H Q E ⟨mp,ds,S,rs,r,hl,_⟩=>by rw[r.len];exact hl) fun cdv A outer s H vs Q E hr ⟨mp,ds,S,rs,r,hl,p⟩=>?_;refine⟨_,hb cdv A outer s H E hr,mp,_,S,Gic rs r,?_⟩;unfold fnB at p;show PostS K _ mp H (b (ds.map some++List.replicate (N.length-ds.length) none) S) _;cases z:b (ds.map some++List.replicate (N.length-ds.length) none) S with
 |rt d S'=>rw[z]at p;exact p
 |nx U' S'=>rw[z]at p;exact fun m h v af G=>p m h .non af G.rs rfl
 |bk U' S'=>rw[z]at p;exact p.elim
 |ct U' S'=>rw[z]at p;exact p.elim
 |exc x U' S'=>rw[z]at p;exact p.elim
 |bad=>rw[z]at p;exact p.elim
section
variable{X:Cx}{XQ:XW}{k:Nat}{f:BP}{fd:FuncData}{ps:List Str}{fn:Fn}{x:Str}{p pos:Pos}{e:Expr}{es:List Expr}{t:Ev (List D)}
def cl(n:Nat)(fn:Fn)(t:Ev (List D)):Ev D:=fun U S=>(t U S).bind fun ds S1=>if ds.length=n then fn ds S1 else .bad
noncomputable def Gh(fn:Fn):Fn:=fun ds S=>match fn ds S with
 |.ok d S'=>.ok d S'
 |_=>.bad
def Gsc(F:FnOk X.prog X.w X.K X.mg X.base CX0 j f fd ps (spD X.K ps.length fn))(hr:Room k X.A)(hj:j<=k)(hg:Gl X x)(hm:X.mg x=some (.ref f))(hk:PySem.W.keepIn X.K (.ref f)=true)(hb:Binds X.K fd ps [])(ha:JA X XQ (e::es) t)(hdb:↥((x==("__debug__":Str))=false))(he:⇑(starEach (e::es) X.env=(false,eval e X.env)::starEach es X.env))(hpl:⇑((backTo pos (starEach es X.env)).any (·.1)=false)):
  JE X XQ (.Call (.Name x p) (e::es) [] pos) (cl ps.length (Gh fn) t):=by
 refine PE.mono (Gru (F.mono hj) hr hg hm hk hb .nil (Hbr) ha hdb he hpl) fun O H Q zq0=>?_;obtain⟨mp,U,S,G,p⟩:=zq0;refine bindP G p fun mp1 H1 ds S1 vs a1 G1 r1 p1=>?_;by_cases hl:ds.length=ps.length
 ·rw[if_pos hl]at p1;refine⟨mp1,ds,S1,G1.rs,by rw[Bd];exact r1,hl,?_⟩;unfold Gh at p1;cases z:fn ds S1 with
  |ok d S'=>rw[z]at p1;exact p1
  |exc x S'=>rw[z]at p1;exact p1.elim
  |bad=>rw[z]at p1;exact p1.elim
 ·rw[if_neg hl]at p1;exact p1.elim
end
def Ggh{R:Result->BO->Prop}(I:Nat->BO->Prop)(turn:∀ n s,I n s->wpAny (model prog w) A (pyNext it) (fun r s₁=>match r with
   |none=>R (.ok .next) s₁
   | some v=>wpAny (model prog w) A (letOwnedTupleGo target it v) (fun _ s₁=>wpAny (model prog w) A (assign target env v) (fun _ s₂=>
     wpAny (model prog w) A (forIn ifs true fun c r=>if r=true then do let ok <- isTrue c env (eval c env); pure (ForInStep.yield ok) else pure (ForInStep.yield r)) (fun ok s₃=>
      if ok=true then wpAny (model prog w) A (eval elt env) (fun x s₄=>
       wpAny (model prog w) A (call (.builtin "list.append") [acc,x]) (fun _ s₅=>∃ m,m<n/\I m s₅) (fun _ _=>False) s₄) (fun _ _=>False) s₃
      else ∃ m,m<n/\I m s₃) (fun _ _=>False) s₂) (fun _ _=>False) s₁) (fun _ _=>False) s₁) (fun _ _=>False) s)(n:Nat)(h:I n s):
  codeAny (model prog w) A (.compLoop (.ListComp elt [⟨target,iter,ifs,0⟩] scope pos) 0 it acc env) R s:=by
 have noE:∀{Z:Type}{m:Sem Z}{Q:Z->BO->Prop}{E':BN->BO->Prop}{s:BO},wpAny (model prog w) A m Q (fun _ _=>False) s->wpAny (model prog w) A m Q E' s:=fun h=>wpAny_mono h (fun _ _ q=>q) fun _ _ z=>z.elim;refine codeAny_loop rfl I (fun n s hI=>?_) n h;show wpAny _ A ((compTurn (.ListComp elt [⟨target,iter,ifs,0⟩] scope pos) 0 it acc env).onRaise (fun x=>do noteFrame x env;theTreesLotGoes x)) _ _ s;refine wpAny_noted ?_;rw[compTurn_list];refine wpAny_bind (wpAny_standAt (wpAny_bind (noE (wpAny_mono (turn n s hI) (fun r s₁ h₁=>?_) fun _ _ z=>z))));cases r with
 |none=>exact wpAny_pure h₁
 |some v=>
  refine wpAny_bind (noE (wpAny_mono h₁ (fun _ s₁ h₁=>?_) fun _ _ z=>z));refine wpAny_bind (noE (wpAny_mono h₁ (fun _ s₂ h₂=>wpAny_bind (noE (wpAny_mono h₂ (fun ok s₃ h₃=>?_) fun _ _ z=>z))) fun _ _ z=>z));cases ok with
  |false=>exact wpAny_pure ⟨rfl,h₃⟩
  |true=>
   exact wpAny_bind (wpAny_bind (noE (wpAny_mono h₃ (fun x s₄ h₄=>wpAny_bind (noE (wpAny_mono h₄ (fun _ s₅ h₅=>wpAny_pure (wpAny_pure ⟨rfl,h₅⟩)) fun _ _ z=>z))) fun _ _ z=>z)))
def blk(X:Cx)(s2:BO)(H2:Hp)(C:BP)(scope:Scope)(cl:List (Str×BP))(N':List Str)(fp:List BP):Cx:=
 {X with N:=N',s₀:=s2,H₀:=H2,env:=compEnvC scope cl C X.env,outer:=X.stack,ex:=fp,fn:=fun x=>scope.names.lookup x==some NameKind.cell,pn:=[],xe:=fun _ _=>False}
structure CompSc(X:Cx)(scope:Scope)(cl:List (Str×BP))(N':List Str)(pk:List (BQ Nat)):Prop where
 kind:scope.kind=.function
 cell:∀y∈scope.names,y.2=.cell->scope.names.lookup y.1=some .cell
 names:∀y∈scope.names,y.2=.local->scope.names.lookup y.1=some .local
 clos:closureFor scope X.env=pure cl
 sub:∀x c,cl.lookup x=some c->X.env.cells.lookup x=some c
 has:∀x,((relabel scope X.env).names.lookup x=some .cell\/(relabel scope X.env).names.lookup x=some .free)->(x,NameKind.cell)∈scope.names\/∃c,cl.lookup x=some c
 len:pk.length=N'.length
 take:∀(i j:Nat)(x:Str),pk[i]?=some (some j)->N'[i]?=some x->X.N[j]?=some x/\(X.env.kindOf x=some .cell\/X.env.kindOf x=some .free)/\((relabel scope X.env).names.lookup x=some .cell\/(relabel scope X.env).names.lookup x=some .free)/\scope.names.lookup x=some .free
def pkS(pk:List (BQ Nat))(O:List (BQ Z)):List (BQ Z):=pk.map fun o=>o.bind fun j=>(O[j]?).bind id
def PTs(QC:Cx)(ifs:List Expr)(t:TT):Prop:=
 ∀(pins:List (BP×Obj))(s:BO)(O:L2.St)(H:Hp)(Q:Bool->Hp->Prop),Inv QC pins O H s->t O H Q→
  wpAny (model QC.prog QC.w) QC.A (forIn ifs true fun c r=>if r=true then do let ok <- isTrue c QC.env (eval c QC.env);pure (ForInStep.yield ok)else pure (ForInStep.yield r)) (TP QC pins O Q) QC.xe s
def Gsd:PTs QC [] (fun _ H Q=>Q true H):=fun _ _ _ H _ I h=>wpAny_tests_nil ⟨H,I,h⟩
def Gog(wi:TI)(pk:List (BQ Nat))(g:TG)(tt:TT)(te:TE):TE:=fun O H Q=>wi O H fun J H1=>∀a,H1 a=none->∃W:Nat->Nat->L2.St->Hp->Prop,(∃m,W 0 m (pkS pk O) (upd H1 a (.lst [])))/\∀i m O' H',W i m O' H'→
 (J.stop i H'/\Q (.ref a) H')\/(J.go i H'/\∀ x H2,J.yld i H' x H2->g x O' H2 fun O3 H3=>tt O3 H3 fun b H4=>if b=true then te O3 H4 fun v H5=>∃ xs,H5 a=some (.lst xs)/\xs.length<sizeLine/\∃ m',m'<m/\W (i+1) m' O3 (upd H5 a (.lst (xs++[v])))
  else ∃ m',m'<m/\W (i+1) m' O3 H4)
def Gid{H:Hp}(k:HOk P w H h)(hn:H C=none)(hs:Heap.SameBut C h h'):HOk P w H h':=fun b ob e=>by
 refine(k b ob e).stay (fun c w' hc q=>(hs.2 c ?_).trans q) (fun _ q=>q) fun _ _ q=>q;rintro rfl;rcases hc with rfl|hc
 ·rw[hn]at e;cases e
 ·rw[hn]at hc;cases hc
def Hr:∀(names:List (Str×NameKind))(n:Nat)(acc:List (Str×BP)),cellsFrom n names acc=cellsFrom n names []++acc
 |[],_,_=>rfl
 |(x,k)::r,n,acc=>by
  unfold cellsFrom;by_cases hk:(k==NameKind.cell)=true
  ·rw[if_pos hk,if_pos hk,Hr r (n+1) ((x,n)::acc),Hr r (n+1) [(x,n)],Bh];rfl
  ·rw[if_neg hk,if_neg hk,Hr r n acc]
def Uo:∀(names:List (Str×NameKind))(n:Nat)(x:Str)(c:BP),(x,c)∈cellsFrom n names []->(x,NameKind.cell)∈names
 |[],_,_,_,h=>by simp[cellsFrom]at h
 |(y,k)::r,n,x,c,h=>by
  unfold cellsFrom at h;by_cases hk:(k==NameKind.cell)=true
  ·rw[if_pos hk,Hr]at h;rcases Ay.mp h with h|h
   ·exact Au _ (Uo r (n+1) x c h)
   ·have:x=y:=by simpa using(AA.mp h▸rfl:(x,c).1=(y,n).1)
    have hk:k=.cell:=by simpa using hk
    subst this hk;exact Aw
  ·rw[if_neg hk]at h;exact Au _ (Uo r n x c h)
def Qm:∀(a b:List (Str×BP)),(a++b).lookup x=match a.lookup x with
  |some c=>some c
  |none=>b.lookup x
 |[],_=>rfl
 |(y,c)::r,b=>by
  rw[List.cons_append,AC,AC];cases h:x==y with
  |true=>rfl
  |false=>exact Qm r b
def Kn:∀(names:List (Str×NameKind))(n:Nat)(x:Str),(x,NameKind.cell)∈names->∃c,(cellsFrom n names []).lookup x=some c
 |[],_,_,h=>by simp at h
 |(y,k)::r,n,x,h=>by
  unfold cellsFrom;by_cases hx:(x,NameKind.cell)∈r
  ·by_cases hk:(k==NameKind.cell)=true
   ·rw[if_pos hk,Hr,Qm];obtain⟨c,hc⟩:=Kn r (n+1) x hx;rw[hc];exact⟨c,rfl⟩
   ·rw[if_neg hk];exact Kn r n x hx
  ·rcases Ad.mp h with h|h
   ·cases h;rw[if_pos (by rfl),Hr,Qm];cases e:(cellsFrom (n+1) r []).lookup y with
    |some c=>exact⟨c,rfl⟩
    |none=>exact⟨n,by simp[AC]⟩
   ·exact absurd h hx
def Yn{s:BO}{scope:Scope}{cl:List (Str×BP)}{env:PySem.Env}(hQ:∀ h',h'=pushCells (s.heap.push { cls:=.type "dict",data:=.dict #[] }) scope.names→
   Q { scope:=scope,locals:=s.heap.objs.size,globals:=globals,cells:=cellsFrom (s.heap.objs.size+1) scope.names cl,qual:=qual,func:=none,code:=env.code,frame:=env.frame,builtins:=env.builtins } { s with heap:=h' }):
  wpAny M A (newFunctionEnv scope globals cl [] qual none .none (some env)) Q E s:=by
 simp only[newFunctionEnv,Option.isSome_some,if_true];refine wpAny_bind (wpAny_alloc ?_);refine wpAny_bind (wpAny_layCells _ (fun name kind cells=>by cases hkc:kind==NameKind.cell<;>simp[hkc]) _ _ _ _ ?_);rw[show({s with heap:=s.heap.push {cls:=.type "dict",data:=.dict #[]}}:BO).heap.objs.size=s.heap.objs.size+1 from AR ..];rw[List.forIn_nil];exact wpAny_bind (wpAny_pure (wpAny_pure (hQ _ rfl)))
section
variable{X:Cx}
def Gdq{cl:List (Str×BP)}{pk:List (BQ Nat)}{g:TG}{tt:TT}{te:TE}(cs:CompSc X scope cl N' pk)(hcm:X.calm=true)(hg:∀ cl s2 H2 C fp,PG (blk X s2 H2 C scope cl N' fp) tg g)(ht:∀ cl s2 H2 C fp,PTs (blk X s2 H2 C scope cl N' fp) ifs tt)(he:∀ cl s2 H2 C fp,PE (blk X s2 H2 C scope cl N' fp) elt te){H2:Hp}{s2:BO}{tn:Nat->Heap->Prop}{J:It}(I2:Inv X pins O H2 s2)(T:Turn X.prog X.w X.K tg J fp it tn)(st2:tn 0 s2.heap)(f2:∀ b∈fp,Gc3 X pins H2 b){Q:VK}(hQ:∀ a,H2 a=none->∃ W:Nat->Nat->L2.St->Hp->Prop,(∃ m,W 0 m (pkS pk O) (upd H2 a (.lst [])))/\∀ i m O' H',W i m O' H'→
   (J.stop i H'/\Q (.ref a) H')\/(J.go i H'/\∀ x H3,J.yld i H' x H3->g x O' H3 fun O3 H3=>tt O3 H3 fun b H4=>if b=true then te O3 H4 fun v H5=>∃ xs,H5 a=some (.lst xs)/\xs.length<sizeLine/\∃ m',m'<m/\W (i+1) m' O3 (upd H5 a (.lst (xs++[v])))
    else ∃ m',m'<m/\W (i+1) m' O3 H4)){RR:BN->BP->Result->BO->Prop}(hRR:∀ D C s' (H':Hp),Q (.ref D) H'->(∃ m,s'.heap.Ns C m)->Inv X pins O H' s'->H' C=none->s2.heap.objs.size<=C->RR (.ref D) C (.ok .next) s'):
  wpAny (model X.prog X.w) X.A (newList []) (fun acc s₃=>wpAny (model X.prog X.w) X.A (newFunctionEnv scope X.env.globals cl [] X.env.qual none .none (some X.env)) (fun cenv s₄=>
   codeAny (model X.prog X.w) X.A (.compStart (.ListComp elt [⟨tg,iter,ifs,0⟩] scope pos) 0 (.ref it) acc { cenv with scope:=relabel scope X.env }) (RR acc cenv.locals) s₄) E s₃) E s2:=by
 have hD:H2 s2.heap.objs.size=none:=I2.hok.fresh (Ac _);obtain⟨W,⟨m0,w0⟩,turn⟩:=hQ s2.heap.objs.size hD;refine wpAny_newObj_type (Yn (fun h₁ hh₁=>?_));dsimp only at hh₁⊢;generalize hHh:s2.heap.push {cls:=.type "list",dict:=none,data:=.seq ([]:List BN).toArray}=Hh at hh₁⊢;have hC:Hh.objs.size=s2.heap.objs.size+1:=by rw[<- hHh,AR]
 have hDC:s2.heap.objs.size≠Hh.objs.size:=by rw[hC];exact An (AM _)
 have hCle:s2.heap.objs.size<=Hh.objs.size:=by rw[hC];exact A6 _
 have below:∀b,b<s2.heap.objs.size->b≠Hh.objs.size/\b≠s2.heap.objs.size:=fun b hb=>⟨by rw[hC];exact An (Bt hb),An hb⟩
 have hns₁:h₁.Ns Hh.objs.size (fun _=>none):=by rw[hh₁];exact(Heap.Ns.new Hh (.type "dict")).keeps (pushCells_keeps _ _)
 have old0:∀b o,Hh.get? b=some o->h₁.get? b=some o:=fun b o e=>by rw[hh₁];exact pushCells_keeps _ _ b o (Aj _ e)
 have old:∀b o,s2.heap.get? b=some o->h₁.get? b=some o:=fun b o e=>old0 b o (by rw[<- hHh];exact Aj _ e);have hacc:h₁.get? s2.heap.objs.size=some {cls:=.type "list",dict:=none,data:=.seq ([]:List BN).toArray}:=old0 _ _ (by rw[<- hHh];exact Az _ rfl);have own:=cellsFrom_ok scope.names (Hh.push {cls:=.type "dict",data:=.dict #[]}) (Hh.objs.size+1) [] ⟨fun _ _ hm=>(nomatch hm),List.Pairwise.nil⟩ (by rw[AR];exact Ac _);rw[AR,<- hh₁]at own;generalize hcs:cellsFrom (Hh.objs.size+1) scope.names cl=cs' at *;have csl:∀x c,cs'.lookup x=some c->((x,c)∈cellsFrom (Hh.objs.size+1) scope.names []/\h₁.IsCell c none/\Hh.objs.size+1<=c/\scope.names.lookup x=some .cell)\/((x,NameKind.cell)∉scope.names/\X.env.cells.lookup x=some c):=fun x c h=>by
  rw[<- hcs,Hr,Qm]at h;cases e:(cellsFrom (Hh.objs.size+1) scope.names []).lookup x with
  |some c'=>
   rw[e]at h;cases h;have m:=mem_of_lookup e;exact .inl ⟨m,(own.empty x c m).1,(own.empty x c m).2,cs.cell (x,.cell) (Uo _ _ _ _ m) rfl⟩
  |none=>
   rw[e]at h;refine .inr ⟨fun hm=>?_,cs.sub x c h⟩;obtain⟨c',q⟩:=Kn scope.names (Hh.objs.size+1) x hm;rw[e]at q;cases q
 have cshas:∀x,((relabel scope X.env).names.lookup x=some .cell\/(relabel scope X.env).names.lookup x=some .free)->∃c,cs'.lookup x=some c:=fun x h=>by
  rw[<- hcs,Hr,Qm];cases e:(cellsFrom (Hh.objs.size+1) scope.names []).lookup x with
  |some c=>exact⟨c,rfl⟩
  |none=>
   rcases cs.has x h with hm|hm
   ·obtain⟨c',q⟩:=Kn scope.names (Hh.objs.size+1) x hm;rw[e]at q;cases q
   ·exact hm
 have lts:∀x c,X.env.cells.lookup x=some c->c<s2.heap.objs.size:=fun x c h=>by
  obtain⟨v,o,ho,hd⟩:=I2.cell x c h;exact Ae ho
 let QC:=blk X s2 H2 Hh.objs.size scope cs' N' fp;have fpLt:∀b∈fp,b<s2.heap.objs.size:=fun b hb=>by
  obtain⟨o,e,_⟩:=T.obj _ _ st2 b hb;exact Ae e
 have okY:QC.Ok:=by
  refine⟨I2.ok.mod,(by show(relabel scope X.env).kind=.function; exact cs.kind),I2.ok.glob,I2.ok.blt,hCle,fun x y c h1 h2=>?_,cshas,(fun x c z h=>by
   rcases csl x c h with⟨_,_,q,_⟩|⟨q,_⟩
   ·show s2.heap.objs.size<=c;rw[hC]at q;omega
   ·have z:scope.names.lookup x=some .cell:=by simpa[QC,blk]using z
    exact absurd (mem_of_lookup z) q),I2.ok.hd,I2.ok.frames,.inl rfl,fun b hb=>⟨An (by rw[show QC.env.locals=Hh.objs.size from rfl,hC];exact Bt (fpLt b hb)),fun x c h=>by
   rcases csl x c h with⟨_,_,q,_⟩|⟨_,q⟩
   ·exact fun z=>absurd (Ag (fpLt b hb) (Ak (by rw[hC];omega) (z▸q))) (Ax _)
   ·exact(f2 b hb).2.2.2.2.1 x c q⟩,I2.bs,Ak I2.ok.bsz I2.sz,fun b o e hb=>?_,fun b hb hs=>?_,I2.stack,I2.stkFree⟩
  ·rcases csl x c h1 with⟨m1,_,q1,_⟩|⟨_,q1⟩<;>rcases csl y c h2 with⟨m2,_,q2,_⟩|⟨_,q2⟩
   ·exact name_of_addr own.apart m1 m2
   ·exact absurd (Ag (lts y c q2) (Ak (by rw[hC];omega) q1)) (Ax _)
   ·exact absurd (Ag (lts x c q1) (Ak (by rw[hC];omega) q2)) (Ax _)
   ·exact I2.ok.inj x y c q1 q2
  ·rcases(f2 b hb).2.2.2.1 with z|z
   ·exact I2.ok.noex b o e z
   ·exact absurd (Ag (Ae e) (Ak I2.ok.bsz z)) (Ax _)
  ·rcases Ad.mp (I2.stkSub b hs)with z|z
   ·exact(f2 b hb).2.1 z
   ·exact(f2 b hb).2.2.1 z
 have hokY:HOk X.prog X.w (upd H2 s2.heap.objs.size (.lst [])) h₁:=I2.hok.laid old (Ac _) ⟨by decide,[],0,.nil,hacc⟩;have IY:∀tk,Inv QC [] (pkS pk O) (upd H2 s2.heap.objs.size (.lst [])) {s2 with heap:=h₁,toks:=tk}:=fun tk=>by
  refine⟨okY,rfl,I2.bare,?_,⟨_,hns₁,fun i x v h1 h2 h3=>?_⟩,fun x c h=>?_,?_,fun x c h=>?_,fun p hp=>absurd (show p∈([]:List (BP×Obj))from hp) (by simp),hokY,by show(pkS pk O).length=N'.length;rw[<- cs.len];simp[pkS]⟩
  ·exact Un.laid old (Ac _) hD
  ·unfold pkS at h2;rw[Ar]at h2;cases e:pk[i]? with
   |none=>rw[e]at h2;cases h2
   |some o=>
    rw[e]at h2;cases o with
    |none=>cases h2
    |some j=>
     have h2:(O[j]?).bind id=some v:=Ab h2;have h2:O[j]?=some (some v):=by
      cases z:O[j]? with
      |none=>rw[z]at h2;cases h2
      |some q=>
       rw[z]at h2;have h2:q=some v:=h2;rw[h2]
     obtain⟨n1,n2,n3,n4⟩:=cs.take i j x e h1;obtain⟨m,_,hl⟩:=I2.loc;have vis:Vis X.env.scope x:=by
      rcases n2 with n2|n2
      ·exact .inr (.inl n2)
      ·exact .inr (.inr n2)
     obtain⟨u,r,l⟩:=hl j x v n1 h2 vis;refine⟨u,r,.inr ⟨n3,?_⟩⟩;rcases l with⟨k,_⟩|⟨_,c,hc,⟨o,ho,hd⟩⟩
     ·rcases n2 with n2|n2<;>rw[k]at n2<;>cases n2
     ·obtain⟨c',hc'⟩:=cshas x n3;rcases csl x c' hc' with⟨_,_,_,q⟩|⟨_,e2⟩
      ·rw[n4]at q;cases q
      rw[hc]at e2;cases e2;exact⟨c,hc',o,old c o ho,hd⟩
  ·rcases csl x c h with⟨_,q,_,_⟩|⟨_,q⟩
   ·exact⟨none,q⟩
   obtain⟨v,o,ho,hd⟩:=I2.cell x c q;exact⟨v,o,old c o ho,hd⟩
  ·show upd H2 s2.heap.objs.size (.lst []) Hh.objs.size=none;rw[Gv (Ne.symm hDC)];exact I2.hok.fresh hCle
  ·rcases csl x c h with⟨_,_,z,_⟩|⟨_,z⟩
   ·show upd H2 s2.heap.objs.size (.lst []) c=none;have z:s2.heap.objs.size+2<=c:=by rw[hC]at z;exact z
    rw[Gv (AW (by omega:s2.heap.objs.size<c))];exact I2.hok.fresh (by omega)
   have q:=I2.freeC x c z;obtain⟨v,o,ho,hd⟩:=I2.cell x c z;show upd H2 s2.heap.objs.size (.lst []) c=none;rw[Gv (below c (Ae ho)).2];exact q
 have stat:∀{H':Hp},(∀b∈fp,H' b=none)->∀b∈fp,Gc3 QC [] H' b:=fun hn b hb=>
  ⟨hn b hb,(okY.exf b hb).1,okY.exfs b hb,.inl hb,(okY.exf b hb).2,fun p hp=>absurd (show p∈([]:List (BP×Obj))from hp) (by simp)⟩
 have fin:∀(H':Hp)(O':L2.St)(s':BO),Inv QC [] O' H' s'->∀h',Heap.SameBut Hh.objs.size s'.heap h'->Inv X pins O H' {s' with heap:=h'}:=fun H' O' s' I' h' hs=>by
  have sub:∀b o,s2.heap.get? b=some o->b≠Hh.objs.size:=fun b o e=>(below b (Ae e)).1;have un:Un (frs X.stack) fp H2 H' s2.heap s'.heap:=I'.base;refine I2.call' (ch:=fp) I'.os ⟨fun b o e n hb hx=>(hs.2 b (sub b o e)).trans (un.keep b o e n hb hx),fun b o e n hb hx=>?_,un.free,fun b o e hx=>?_,un.tups,un.frzs,un.tbls⟩ (Gid I'.hok I'.free hs) I'.bare fun b hb=>⟨(f2 b hb).2.2.2.1,(f2 b hb).2.1,(f2 b hb).2.2.2.2.1,(f2 b hb).2.2.2.2.2⟩
  ·obtain⟨sl,q⟩:=un.slot b o e n hb hx;exact⟨sl,(hs.2 b (sub b o e)).trans q⟩
  ·obtain⟨o',q⟩:=un.there b o e hx;exact⟨o',(hs.2 b (sub b o e)).trans q⟩
 have loop:∀s3:BO,(∃tk,s3={s2 with heap:=h₁,toks:=tk})→
   codeAny (model X.prog X.w) X.A (.compLoop (.ListComp elt [⟨tg,iter,ifs,0⟩] scope pos) 0 (.ref it) (.ref s2.heap.objs.size) (compEnvC scope cs' Hh.objs.size X.env)) (RR (.ref s2.heap.objs.size) Hh.objs.size) s3:=by
  rintro s3 ⟨tk,rfl⟩;refine Ggh (fun n s'=>∃i O' H',Inv QC [] O' H' s'/\tn i s'.heap/\(∀b∈fp,H' b=none)/\W i n O' H') ?_ m0 ⟨0,_,_,IY tk,T.keep _ _ _ st2 (fun b _ o e=>old b o e),fun b hb=>by rw[Gv (below b (fpLt b hb)).2];exact(f2 b hb).1,w0⟩;rintro n s4 ⟨i,O4,H4,I4,st4,fr4,w4⟩;rcases turn i n O4 H4 w4 with⟨stop,qn⟩|⟨go,step⟩
  ·refine wpAny_mono (T.done QC rfl rfl rfl hcm i [] s4 O4 H4 (fun _ _=>False) I4 (stat fr4) st4 stop) (fun r s5 zq0=>?_) fun _ _ z=>z;obtain⟨hr,I5⟩:=zq0;subst hr;obtain⟨m,hn,_⟩:=I5.loc;exact hRR _ _ s5 H4 qn ⟨m,hn⟩ (fin H4 O4 s5 I5 s5.heap (.refl ..)) I5.free hCle
  ·refine wpAny_mono (T.item QC rfl rfl rfl hcm i [] s4 O4 H4 (fun _ _=>False) I4 (stat fr4) st4 go) (fun r s5 zq0=>?_) fun _ _ z=>z;obtain⟨u,hr,h5⟩:=zq0;subst hr;refine wpAny_mono h5 (fun _ s6 zq0=>?_) fun _ _ z=>z;obtain⟨x,H6,I6,r6,y6,st6,fr6⟩:=zq0;have I6':=I6.pinned (stat fr6) (T.obj _ _ st6);refine wpAny_mono (hg cs' s2 H2 Hh.objs.size fp _ s6 O4 H6 x u _ I6' r6 (step x H6 y6)) (fun _ s7 zq0=>?_) fun _ _ z=>z;obtain⟨O7,H7,I7,q7⟩:=zq0;refine wpAny_mono (ht cs' s2 H2 Hh.objs.size fp _ s7 O7 H7 _ I7 q7) (fun ok s8 zq0=>?_) fun _ _ z=>z;obtain⟨H8,I8,q8⟩:=zq0;have back:∀{O9:L2.St}{H9:Hp}{s9:BO},Inv QC ([]++Gb1 fp s6.heap) O9 H9 s9->Inv QC [] O9 H9 s9/\tn (i+1) s9.heap/\∀b∈fp,H9 b=none:=fun{O9 H9 s9} I9=>
    ⟨I9.unpinned,T.keep _ _ _ st6 fun b hb o e=>(I9.pin (b,o) (AI _ (AI _ (Ug hb e)))).1,fun b hb=>by
     obtain⟨o,e,d⟩:=T.obj _ _ st6 b hb;exact(I9.pin (b,o) (AI _ (AI _ (Ug hb e)))).2.1⟩
   cases ok with
   |false=>
    obtain⟨m',hm,w'⟩:=(if_neg Ap).mp q8;obtain⟨b1,b2,b3⟩:=back I8;exact(if_neg Ap).mpr ⟨m',hm,i+1,O7,H8,b1,b2,b3,w'⟩
   |true=>
    refine(if_pos rfl).mpr ?_;refine wpAny_mono (he cs' s2 H2 Hh.objs.size fp _ s8 O7 H8 _ I8 ((if_pos rfl).mp q8)) (fun ux s9 zq0=>?_) fun _ _ z=>z;obtain⟨v,H9,I9,r9,xs,ex,hx,m',hm,w'⟩:=zq0;refine wpAny_mono (Gfn (X:=QC) _ s9 O7 H9 (.ref s2.heap.objs.size) [v] (.ref s2.heap.objs.size) [ux] (fun _ H'=>H'=upd H9 s2.heap.objs.size (.lst (xs++[v]))) I9 rfl (.cons r9 .nil) ⟨_,xs,v,rfl,rfl,ex,hx,rfl⟩) (fun _ s10 zq0=>?_) fun _ _ z=>z;obtain⟨_,H10,I10,_,e10⟩:=zq0;subst e10;obtain⟨b1,b2,b3⟩:=back I10;exact⟨m',hm,i+1,O7,_,b1,b2,b3,w'⟩
 exact codeAny_compStart_list (loop _ ⟨_,rfl⟩) (T.self _ 0 _ _ _ (T.keep _ _ _ st2 fun b _ o e=>old b o e) (loop _ ⟨_,rfl⟩))
def Ggi{H':Hp}{s2 s':BO}(I2:Inv X pins O2 H2 s2)(I:Inv X pins O H' s')(hn:H' C=none)(hC:s2.heap.objs.size<=C)(hs:Heap.SameBut C s'.heap h'):Inv X pins O H' {s' with heap:=h'}:=by
 refine I.turned (t':=s'.toks) (it:=C) (fun b o hb e=>(hs.2 b hb).trans e) hn (fun z=>?_) (.inr (Ak I2.sz hC)) (fun x c h z=>?_) fun p hp z=>?_
 ·exact absurd (Ag I2.lt (by rw[<- z];exact hC)) (Ax _)
 ·obtain⟨v,q⟩:=I2.cell x c h;exact absurd (Ag q.lt (by rw[z];exact hC)) (Ax _)
 ·exact absurd (Ag (Ae (I2.pin p hp).1) (by rw[z];exact hC)) (Ax _)
def Gav{env:PySem.Env}:∀(names:List (Str×NameKind))(acc:List (Str×BP)),(∀x∈names,x.2=.free->∃c,env.cells.lookup x.1=some c)->(∀x c,acc.lookup x=some c->env.cells.lookup x=some c)→
  ∃cl,(forIn names acc fun x cs=>(if(x.2==NameKind.free)=true then do let c <- cellOf env x.1;pure (ForInStep.yield ((x.1,c)::cs))else pure (ForInStep.yield cs):Sem _))=pure cl/\(∀x c,cl.lookup x=some c->env.cells.lookup x=some c)∧
   (∀x,(∃c,acc.lookup x=some c)\/(x,NameKind.free)∈names->∃c,cl.lookup x=some c)
 | [],acc,_,ha=>⟨acc,rfl,ha,fun x h=>by
   rcases h with h|h
   ·exact h
   ·simp at h⟩
 |(n,k)::r,acc,hn,ha=>by
  have hr:∀x∈r,x.2=.free->∃c,env.cells.lookup x.1=some c:=fun x hx=>hn x (Au _ hx);by_cases hk:k=.free
  ·subst hk;obtain⟨c,hc⟩:=hn (n,.free) Aw rfl;obtain⟨cl,e,h1,h2⟩:=Gav r ((n,c)::acc) hr (fun x c' h=>by
    rw[AC]at h;by_cases hx:(x==n)=true
    ·rw[hx]at h;cases h;have:x=n:=by simpa using hx
     rw[this];exact hc
    ·have hx:(x==n)=false:=by simpa using hx
     rw[hx]at h;exact ha x c' h)
   refine⟨cl,?_,h1,fun x h=>h2 x ?_⟩
   ·rw[List.forIn_cons];simp only[beq_self_eq_true,if_true];have q:cellOf env n=pure c:=by unfold cellOf;rw[hc]
    rw[q];exact e
   ·rcases h with⟨c',h⟩|h
    ·left;rw[AC];by_cases hx:(x==n)=true
     ·rw[hx];exact⟨c,rfl⟩
     ·have hx:(x==n)=false:=by simpa using hx
      rw[hx];exact⟨c',h⟩
    ·rcases Ad.mp h with h|h
     ·left;cases h;exact⟨c,by rw[AC,beq_self_eq_true]⟩
     ·exact .inr h
  ·have hb:(k==NameKind.free)=false:=by simpa using hk
   obtain⟨cl,e,h1,h2⟩:=Gav r acc hr ha;refine⟨cl,?_,h1,fun x h=>h2 x ?_⟩
   ·rw[List.forIn_cons];simp only[hb,AE,if_false];exact e
   ·rcases h with h|h
    ·exact .inl h
    ·rcases Ad.mp h with h|h
     ·cases h;exact absurd rfl hk
     ·exact .inr h
def Gkb{env:PySem.Env}{scope:Scope}(hn:∀x∈scope.names,x.2=.free->∃c,env.cells.lookup x.1=some c):∃cl,closureFor scope env=pure cl/\(∀x c,cl.lookup x=some c->env.cells.lookup x=some c)/\(∀x,(x,NameKind.free)∈scope.names->∃c,cl.lookup x=some c):=by
 obtain⟨cl,e,h1,h2⟩:=Gav (env:=env) scope.names [] hn (fun x c h=>by simp at h);refine⟨cl,?_,h1,fun x h=>h2 x (.inr h)⟩;unfold closureFor;have e2:(forIn scope.names ([]:List (Str×BP)) fun x r=>(match x with
   | (name,kind)=>if(kind==NameKind.free)=true then do let c <- cellOf env name; pure (ForInStep.yield ((name,c)::r)) else pure (ForInStep.yield r):Sem _))=pure cl:=e
 first
  |exact congrArg (fun m=>m >>= fun cs=>pure cs) e2
  |(show(do let cs <- forIn scope.names ([]:List (Str×BP)) fun x r=>_;pure cs)=_;rw[e2];rfl)
structure CompTab(sc scope:Scope)(N N':List Str)(pk:List (BQ Nat)):Prop where
 kind:scope.kind=.function
 cell:∀y∈scope.names,y.2=.cell->scope.names.lookup y.1=some .cell
 names:∀y∈scope.names,y.2=.local->scope.names.lookup y.1=some .local
 free:∀y∈scope.names,y.2=.free->sc.names.lookup y.1=some .cell\/sc.names.lookup y.1=some .free
 len:pk.length=N'.length
 take:((List.range N'.length).all fun i=>match pk[i]? with
  |some (some j)=>match N[j]?,N'[i]? with
   |some x,some y=>(x==y)&&((sc.names.lookup y==some NameKind.cell)||(sc.names.lookup y==some NameKind.free))&&(scope.names.lookup y==some NameKind.free)
   |_,_=>false
  | _=>true)=true
def Yy{scope:Scope}{env:PySem.Env}:∀ (names:List (Str×NameKind)),((names.map fun(n,k)=>if(k==NameKind.free&&env.scope.kind==.function&&env.kindOf n==some .cell)=true then(n,NameKind.cell) else(n,k)).lookup x=some .cell∨
   (names.map fun(n,k)=>if(k==NameKind.free&&env.scope.kind==.function&&env.kindOf n==some .cell)=true then(n,NameKind.cell) else(n,k)).lookup x=some .free)->(x,NameKind.cell)∈names\/(x,NameKind.free)∈names
 |[],h=>by simp at h
 |(n,k)::r,h=>by
  rw[AB]at h;by_cases hx:(x==n)=true
  ·have e:x=n:=by simpa using hx
   subst e;by_cases hq:(k==NameKind.free&&env.scope.kind==.function&&env.kindOf x==some .cell)=true
   ·have:k=.free:=by
     rw[Am,Am]at hq;simpa using hq.1.1
    subst this;exact .inr Aw
   ·simp only[hq,AE,if_false,AC,beq_self_eq_true]at h;rcases h with h|h
    ·have:k=.cell:=by simpa using h
     subst this;exact .inl Aw
    ·have:k=.free:=by simpa using h
     subst this;exact .inr Aw
  ·have hx:(x==n)=false:=by simpa using hx
   refine(Yy (scope:=scope) (env:=env) r ?_).imp (Au _) (Au _);by_cases hq:(k==NameKind.free&&env.scope.kind==.function&&env.kindOf n==some .cell)=true
   ·simpa only[hq,if_true,AC,hx]using h
   ·simpa only[hq,AE,if_false,AC,hx]using h
def Qc{scope:Scope}{env:PySem.Env}:∀ (names:List (Str×NameKind)),names.lookup x=some .free->((names.map fun(n,k)=>if(k==NameKind.free&&env.scope.kind==.function&&env.kindOf n==some .cell)=true then(n,NameKind.cell) else(n,k)).lookup x=some .cell∨
   (names.map fun(n,k)=>if(k==NameKind.free&&env.scope.kind==.function&&env.kindOf n==some .cell)=true then(n,NameKind.cell) else(n,k)).lookup x=some .free)
 |[],h=>by simp at h
 |(n,k)::r,h=>by
  rw[AB];by_cases hx:(x==n)=true
  ·rw[AC,hx]at h;have:k=.free:=by simpa using h
   subst this;by_cases hq:(NameKind.free==NameKind.free&&env.scope.kind==.function&&env.kindOf n==some .cell)=true
   ·left;simp only[hq,if_true,AC,hx]
   ·right;simp only[hq,AE,if_false,AC,hx]
  ·have hx:(x==n)=false:=by simpa using hx
   rw[AC,hx]at h;have:=Qc (scope:=scope) (env:=env) r h;by_cases hq:(k==NameKind.free&&env.scope.kind==.function&&env.kindOf n==some .cell)=true
   ·simpa only[hq,if_true,AC,hx]using this
   ·simpa only[hq,AE,if_false,AC,hx]using this
def CompTab.sc{pk:List (BQ Nat)}(t:CompTab X.env.scope scope X.N N' pk)(ok:X.Ok):∃cl,CompSc X scope cl N' pk:=by
 obtain⟨cl,e,h1,h2⟩:=Gkb (env:=X.env) (scope:=scope) fun x hx hf=>ok.has x.1 (t.free x hx hf);refine⟨cl,t.kind,t.cell,t.names,e,h1,fun x h=>(Yy (scope:=scope) (env:=X.env) scope.names h).imp id (h2 x),t.len,fun i j x hp hn=>?_⟩;have hi:i<N'.length:=(Aa.mp hn).1;have q:=AF.mp t.take i (AQ.mpr hi);simp only[hp,hn]at q;cases hj:X.N[j]? with
 |none=>simp[hj]at q
 |some y=>
  simp only[hj,Am,Bool.or_eq_true,beq_iff_eq]at q;obtain⟨⟨e1,e2⟩,e3⟩:=q;subst e1;exact⟨rfl,e2,Qc (scope:=scope) (env:=X.env) scope.names e3,e3⟩
def Gse{pk:List (BQ Nat)}{tt:TT}(ct:CompTab X.env.scope scope X.N N' pk)(hcm:X.calm=true)(hi:PI X tg iter wi)(hg:∀cl s2 H2 C fp,PG (blk X s2 H2 C scope cl N' fp) tg g)(ht:∀cl s2 H2 C fp,PTs (blk X s2 H2 C scope cl N' fp) ifs tt)(he:∀cl s2 H2 C fp,PE (blk X s2 H2 C scope cl N' fp) elt te)(hs:autoParam (∀x,foldedSetIterable iter X.env x=pure x) zQ4):PE X (.ListComp elt [⟨tg,iter,ifs,0⟩] scope pos) (Gog wi pk g tt te):=by
 intro pins s O H Q I h;obtain⟨cl,cs⟩:=ct.sc I.ok;rw[eval_ListComp];refine wpAny_comprehension_free (use:=none) rfl hs cs.clos cs.kind cs.names (thn (hi pins s O H _ I h) fun x s1 h1=>thn h1 fun itv s2 h2=>?_);obtain⟨it,fp,tn,J,H2,e,I2,T,st2,f2,hQ⟩:=h2;subst e;refine Gdq cs hcm hg ht he I2 T st2 f2 hQ (RR:=fun acc C=>compPost (model X.prog X.w) X.A X.xe none (EP X pins O Q) acc C) fun D C s' H' q hn inv hf hC=>?_;obtain⟨m,hn⟩:=hn;exact⟨m,hn,fun h' hs'=>⟨.ref D,H',Ggi I2 inv hf hC hs',rfl,q⟩⟩
def Gkc{spos:Pos}{pk:List (BQ Nat)}{tt:TT}(ct:CompTab X.env.scope scope X.N N' pk)(hcm:X.calm=true)(hi:PI X tg iter wi)(hg:∀cl s2 H2 C fp,PG (blk X s2 H2 C scope cl N' fp) tg g)(ht:∀cl s2 H2 C fp,PTs (blk X s2 H2 C scope cl N' fp) ifs tt)(he:∀cl s2 H2 C fp,PE (blk X s2 H2 C scope cl N' fp) elt te)(hN:X.N.Nodup)(hy:X.N[i]?=some y)(hx:Loc X.env.scope y)(hsw:swapsWith (.ListComp elt [⟨tg,iter,ifs,0⟩] scope pos) (some (.Name y py)) spos.line X.env=pure true)(hs:autoParam (∀x,foldedSetIterable iter X.env x=pure x) zQ4)(hf:autoParam (X.fn y=true\/X.env.scope.names.lookup y=some .local) zQ0):
  PS X (.Assign [.Name y py] (.ListComp elt [⟨tg,iter,ifs,0⟩] scope pos) spos) (Gnt (Gog wi pk g tt te) (gName i)):=by
 intro pins s O H E I h;obtain⟨cl,cs⟩:=ct.sc I.ok;rw[exec_Assign_Name_used _ _ _ _ hsw];refine wpAny_bind (wpAny_standAt (wpAny_bind ?_));show wpAny _ X.A (do let _ <- comprehension (.ListComp elt [⟨tg,iter,ifs,0⟩] scope pos) scope X.env _ (newList []) false (eval iter X.env) (some (assign (.Name y py) X.env))) _ _ s;refine wpAny_bind (wpAny_mono (wpAny_comprehension_free (use:=some (assign (.Name y py) X.env)) (Q:=fun _ s'=>SP X pins E .next s') rfl hs cs.clos cs.kind cs.names
  (thn (hi pins s O H _ I h) fun x s1 h1=>thn h1 fun itv s2 h2=>?_)) (fun _ s' hq=>wpAny_pure (wpAny_pure hq)) fun _ _ e=>e)
 obtain⟨it,fp,tn,J,H2,e,I2,T,st2,f2,hQ⟩:=h2;subst e;refine Gdq cs hcm hg ht he I2 T st2 f2 (Q:=fun x H1=>gName i x O H1 E.nx) hQ (RR:=fun acc C=>compPost (model X.prog X.w) X.A X.xe (some (assign (.Name y py) X.env)) (fun _ s'=>SP X pins E .next s') acc C) fun D C s' H' q hn inv hfr hC=>?_;obtain⟨m,hn⟩:=hn;show wpAny _ X.A (assign (.Name y py) X.env (.ref D)) _ _ _;refine wpAny_assign_Name (Gb0 inv hN hy hx (v:=.ref D) rfl (fun s'' I'' hch=>?_) hf);obtain⟨a,hsb,ha⟩:=hch;have hCa:C≠a:=by
  rcases ha with ha|ha
  ·rintro rfl;exact absurd (Ag I2.lt (by rw[<- ha];exact hC)) (Ax _)
  ·rintro rfl;obtain⟨v,z⟩:=I2.cell y _ ha;exact absurd (Ag z.lt hC) (Ax _)
 exact⟨m,hn.sameBut hsb hCa,fun h' hs'=>⟨_,H',Ggi I2 I'' hfr hC hs',q⟩⟩
abbrev XN:XW:=fun _ _ _ _ _ _=>False
def cbody(a:Nat)(t:Ev Bool)(e:Ev D):Sv:=fun U S=>bindS (t U S) U fun b S1=>if b=true then bindS (e U S1) U fun d S2=>(match S2[a]? with
  |some c=>if c.fz=false/\c.xs.length<1000000 then .nx U (S2.set a ⟨false,c.xs++[d]⟩)else .bad
  | none=>.bad) else .nx U S1
def cmp(f:Ev Src)(pk:List (BQ Nat))(g:Tg)(t:Ev Bool)(e:Ev D):Ev D:=fun U S=>(f U S).bind fun src S1=>match Jd src.nxt g (cbody S1.length t e) src.fuel 0 (pkS pk U) (S1++[⟨false,[]⟩])with
 |.nx _ S'=>.ok (.lst S1.length) S'
 |_=>.bad
def Gcp(K:BM)(XQ:XW)(O:L2.St)(U:Lc)(a:Nat)(mp:List BP)(H:Hp)(o:OS)(Q:VK):Prop:=match o with
 |.nx _ S=>Post K XQ O U mp H (.ok (.lst a) S) Q
 |_=>False
def Gcp.aft{K:BM}{XQ:XW}{O:L2.St}{U:Lc}{a:Nat}{mp mp':List BP}{H H':Hp}{o:OS}{Q:VK}(p:Gcp K XQ O U a mp H o Q)(af:Aft K mp H mp' H'):Gcp K XQ O U a mp' H' o Q:=by
 cases o with
 |nx r S=>exact Gn.aft (show Post K XQ O U mp H (.ok (.lst a) S) Q from p) af
 |_=>exact p
def Gd.pick{K:BM}{mp:List BP}{H:Hp}{O:L2.St}{U:Lc}{S:Sto}(G:Gd K mp H O U S)(pk:List (BQ Nat)):Gd K mp H (pkS pk O) (pkS pk U) S:=by
 refine⟨G.rs,by simp[pkS],fun i d h=>?_⟩;unfold pkS at h⊢;rw[Ar]at h⊢;cases e:pk[i]? with
 |none=>rw[e]at h;cases h
 |some o=>
  rw[e]at h;cases o with
  |none=>cases h
  |some j=>
   have h:(U[j]?).bind id=some d:=Ab h;have h:U[j]?=some (some d):=by
    cases z:U[j]? with
    |none=>rw[z]at h;cases h
    |some q=>
     rw[z]at h;have h:q=some d:=h;rw[h]
   obtain⟨v,e1,r⟩:=G.loc j d h;refine⟨v,?_,r⟩;show some ((O[j]?).bind id)=some (some v);rw[e1];rfl
def JTs(QC:Cx)(XQ:XW)(ifs:List Expr)(t:Ev Bool):Prop:=PTs QC ifs (rdT QC.K XQ t)
noncomputable def ttrue:Ev Bool:=fun _ S=>.ok true S
def Gsf:JTs QC XQ [] ttrue:=fun pins s O H Q I ⟨mp,U,S,G,p⟩=>Gsd pins s O H Q I (Gn.ok (show Gn QC.K kB XQ O U mp H (.ok true S) Q from p) G.rs rfl)
def Gve{K:BM}{XQ:XW}{f:Ev Src}{pk:List (BQ Nat)}{g:Tg}{t:Ev Bool}{e:Ev D}(O:L2.St)(H:Hp)(Q:VK)(h:rdE K XQ (cmp f pk g t e) O H Q):Gog (rdI K XQ f) pk (Gka K g) (rdT K XN t) (rdE K XN e) O H Q:=by
 obtain⟨mp,U,S,G,p⟩:=h;refine bindP G p fun mp1 H1 src S1 J a1 G1 j1 p1=>?_;intro a ha;obtain⟨af,rs,la⟩:=G1.rs.newL ha (RepL.nil:RepL K mp1 H1 [] []);have p1:Gcp K XQ O U S1.length (mp1++[a]) (upd H1 a (.lst [])) (Jd src.nxt g (cbody S1.length t e) src.fuel 0 (pkS pk U) (S1++[⟨false,[]⟩])) Q:=by
  cases z:Jd src.nxt g (cbody S1.length t e) src.fuel 0 (pkS pk U) (S1++[⟨false,[]⟩])with
  |nx r S'=>rw[z]at p1;exact Gn.aft p1 af
  |rt d S'=>rw[z]at p1;exact p1
  |bk r S'=>rw[z]at p1;exact p1
  |ct r S'=>rw[z]at p1;exact p1
  |exc x r S'=>rw[z]at p1;exact p1
  |bad=>rw[z]at p1;exact p1
 refine⟨fun i m O' H'=>∃mp' U' S',Aft K mp1 H1 mp' H'/\Gd K mp' H' O' U' S'/\(mp'[S1.length]?=some a/\¬Dcy H' a)/\Gcp K XQ O U S1.length mp' H' (Jd src.nxt g (cbody S1.length t e) m i U' S') Q,⟨src.fuel,_,_,_,af,(G1.pick pk).aft af rs,⟨la,Ggd Ho⟩,p1⟩,?_⟩;rintro i m O' H' ⟨mp',U',S',a',G',⟨la',nd'⟩,p'⟩;cases m with
 |zero=>exact(show False from p').elim
 |succ n=>
  have j:=j1 mp' H' S' a' G'.rs i;unfold Jd at p';cases z:src.nxt i S' with
  |none=>
   rw[z]at j p';exact .inl ⟨j,Gn.ok (show Post K XQ O U mp' H' (.ok (.lst S1.length) S') Q from p') G'.rs ⟨a,rfl,la',nd'⟩⟩
  |some d=>
   rw[z]at j p';obtain⟨j1,j2⟩:=j;refine .inr ⟨j1,fun x H2 y=>?_⟩;obtain⟨a2,r2,x2⟩:=j2 x H2 y;have nd2:=a2.ndc _ _ la' nd';have G2:=G'.aft a2 r2;cases zg:g d U' with
   |none=>simp only[zg]at p';exact p'.elim
   |some U1=>
    simp only[zg]at p';refine⟨mp',U',S',d,U1,G2,x2,zg,fun O3 G3=>⟨mp',U1,S',G3,?_⟩⟩;have p2:=Gcp.aft p' a2;unfold cbody at p2;cases zt:t U1 S' with
    |exc x S2=>simp only[zt,bindS]at p2;exact p2.elim
    |bad=>simp only[zt,bindS]at p2;exact p2.elim
    |ok b S2=>
     simp only[zt,bindS]at p2;intro mp3 H3 b' a3 rs3 e3;cases (show b'=b from e3);have G4:=G3.aft a3 rs3;cases b with
     |false=>
      simp only[AE,if_false]at p2;exact(if_neg Ap).mpr ⟨n,AM n,mp3,U1,S2,(a'.trans a2).trans a3,G4,⟨a3.pre _ _ la',a3.ndc _ _ la' nd2⟩,Gcp.aft p2 a3⟩
     |true=>
      simp only[if_true]at p2;refine(if_pos rfl).mpr ⟨mp3,U1,S2,G4,?_⟩;cases ze:e U1 S2 with
      |exc x S3=>simp only[ze]at p2;exact p2.elim
      |bad=>simp only[ze]at p2;exact p2.elim
      |ok d2 S3=>
       simp only[ze]at p2;intro mp4 H4 v a4 rs4 r4;have la4:=a4.pre _ _ (a3.pre _ _ la');have nd4:=a4.ndc _ _ (a3.pre _ _ la') (a3.ndc _ _ la' nd2);have G5:=G4.aft a4 rs4;cases zc:S3[S1.length]? with
       |none=>simp only[zc]at p2;exact p2.elim
       |some c=>
        simp only[zc]at p2;by_cases hc:c.fz=false/\c.xs.length<1000000
        ·rw[if_pos hc]at p2;obtain⟨a5,xs,e5,h5,s5,r5,f5⟩:=rs4.items (v:=.ref a) ⟨a,rfl,la4,nd4⟩ zc;cases e5;have h5:=f5 hc.1;obtain⟨af6,rs6⟩:=rs4.setL la4 zc hc.1 h5 (RepL.append r5 (RepL.cons r4 RepL.nil));refine⟨xs,h5,?_,n,AM n,mp4,U1,_,(((a'.trans a2).trans a3).trans a4).trans af6,G5.aft af6 rs6,⟨la4,Ggd Ho⟩,Gcp.aft p2 ((a3.trans a4).trans af6)⟩;rw[r5.len];exact Ag hc.2 (by decide)
        ·rw[if_neg hc]at p2;exact p2.elim
variable{XQ:XW}
def Gsg{pk:List (BQ Nat)}(ct:CompTab X.env.scope scope X.N N' pk)(hcm:X.calm=true)(hi:JI X XQ tg iter f)(hg:∀cl s2 H2 C fp,JG (blk X s2 H2 C scope cl N' fp) tg g)(ht:∀cl s2 H2 C fp,JTs (blk X s2 H2 C scope cl N' fp) XN ifs t)(he:∀cl s2 H2 C fp,JE (blk X s2 H2 C scope cl N' fp) XN elt e)(hs:autoParam (∀x,foldedSetIterable iter X.env x=pure x) zQ4):JE X XQ (.ListComp elt [⟨tg,iter,ifs,0⟩] scope pos) (cmp f pk g t e):=
 PE.mono (Gse (g:=Gka X.K g) (tt:=rdT X.K XN t) (te:=rdE X.K XN e) ct hcm hi hg ht he hs) Gve
def Gkd(i:Nat){spos:Pos}{pk:List (BQ Nat)}(ct:CompTab X.env.scope scope X.N N' pk)(hcm:X.calm=true)(hi:JI X XQ tg iter f)(hg:∀cl s2 H2 C fp,JG (blk X s2 H2 C scope cl N' fp) tg g)(ht:∀cl s2 H2 C fp,JTs (blk X s2 H2 C scope cl N' fp) XN ifs t)(he:∀cl s2 H2 C fp,JE (blk X s2 H2 C scope cl N' fp) XN elt e)(hN:X.N.Nodup)(hy:⇑(X.N[i]?=some y))(hx:autoParam (Loc X.env.scope y) zQ8)(hsw:⇑(swapsWith (.ListComp elt [⟨tg,iter,ifs,0⟩] scope pos) (some (.Name y py)) spos.line X.env=pure true))(hs:autoParam (∀x,foldedSetIterable iter X.env x=pure x) zQ4)(hf:autoParam (X.fn y=true\/X.env.scope.names.lookup y=some .local) zQ0):
  JS X XQ (.Assign [.Name y py] (.ListComp elt [⟨tg,iter,ifs,0⟩] scope pos) spos) (sa (cmp f pk g t e) (gn i)):=by
 refine PS.mono (Gkc (g:=Gka X.K g) (tt:=rdT X.K XN t) (te:=rdE X.K XN e) ct hcm hi hg ht he hN hy hx hsw hs hf) fun E O H ⟨mp,U,S,G,p⟩=>Gve O H _ ?_;exact bindSP G p fun mp1 H1 d S1 v a1 G1 r1 p1=>PostS.nx p1 (G1.set i r1)
end
def Gmy:fillsNumberSlot (.type "tuple") "mul"=pure false:=
 PySem.fillsNumberSlot_seq (id:="tuple.__mul__") (r:=some (.builtin "tuple.__rmul__")) F.slot_tuple_mul.lookup (by decide +kernel) F.slot_tuple_rmul.lookup (by decide +kernel)
def Gke:seqRepeat? (.type "tuple")=pure (some (.builtin "tuple.__mul__")):=by
 unfold seqRepeat?;rw[PySem.seqSlot_of (T:="tuple") (name:="__mul__") (id:="tuple.__mul__") F.slot_tuple_mul.lookup (by decide +kernel),PySem.seqSlot_of (T:="tuple") (name:="__rmul__") (id:="tuple.__rmul__") F.slot_tuple_rmul.lookup (by decide +kernel)];rfl
def Gx6(x:Int)(t:Tok)(l:BP)(xs:Array BN)(n:Nat)(d:BQ BP)(sl:Array (BQ BN)):
  Meets (Builtin.«int.__rmul__» ⟨[.int x t,.ref l],[]⟩) (fun _ R s=>s.heap.get? l=some {cls:=.type "tuple",dict:=d,data:=.seq xs n,slots:=sl}/\R (.ok (.ret Value.notImplemented)) s):=
 .of_wp fun prog w A R s h=>by obtain⟨hp,g,d,tk,os⟩:=s;obtain⟨hl,h⟩:=h;wp_walk;exact⟨_,rfl,h⟩
def Gx7(x:Int)(t:Tok)(l:BP)(xs:Array BN)(n:Nat)(d:BQ BP)(sl:Array (BQ BN))(c0:¬(decide (x < -2^63)||decide (x≥2^63))=true)(c1:¬(xs.isEmpty||x==1)=true)(c2:¬(decide (x<=0)||xs.isEmpty)=true)(c3:¬(xs.size:Int)*x>(2^63-1) / 8)(c4:¬Builtin.Tuple.tupleTooMany ((xs.size:Int)*x)=true)(c5:(List.foldl (fun x1 x2=>x1++x2) #[] (List.replicate x.toNat xs)).size<=sizeLine):
  Meets (Builtin.«tuple.__mul__» ⟨[.ref l,.int x t],[]⟩) (fun _ R s=>s.heap.get? l=some {cls:=.type "tuple",dict:=d,data:=.seq xs n,slots:=sl}/\R (.ok (.ret (Value.ref s.heap.objs.size))) {s with heap:=s.heap.push {cls:=Value.type "tuple",data:=Data.seq (List.foldl (fun x1 x2=>x1++x2) #[] (List.replicate x.toNat xs))},toks:=s.toks}):=
 .of_wp fun prog w A R s h=>by
  obtain⟨hp,g,d,tk,os⟩:=s;obtain⟨hl,h⟩:=h
  wp_walk
  refine wpAny_ite_false (decide_eq_false c0) ?_
  wp_walk using wpAny_loadPart' hl
  refine wpAny_ite_false (decide_eq_false c3) ?_
  wp_walk
  exact⟨_,rfl,h⟩
section
variable{X:Cx}
def Gvf(K:BM):R2:=fun x y H Q=>∃a k xs,x=.ref a/\y=.int k/\SqT K H a xs/\xs≠[]/\2<=k/\k<=1000000/\xs.length*k.toNat<=sizeLine/\∀p,H p=none->Q (.ref p) (upd H p (.tup (List.replicate k.toNat xs).flatten))
def Gsh:OpR X (binaryOp .Mult) (Gvf X.K):=by
 intro pins s O H x y v u Q I rx ry zq0;obtain⟨a,k,xs,e1,e2,ha,hne,k2,k3,hz,q⟩:=zq0;subst e1 e2;cases rx;obtain⟨t,rfl⟩:=ry;obtain⟨its,r1,p1,_⟩:=I.tuple ha;obtain⟨⟨cls,dd,data,sl⟩,ho,hc,n,hd⟩:=id p1;simp only at hc hd;subst hc hd;have hl:xs.length=its.length:=r1.length;have hne':its≠[]:=fun z=>hne (r1.nil_iff.mp z);have hie:its.toArray.isEmpty=false:=by
  cases its with
  |nil=>exact absurd rfl hne'
  |cons _ _=>rfl
 have hnew:List.foldl (fun x1 x2=>x1++x2) #[] (List.replicate k.toNat its.toArray)=(List.replicate k.toNat its).flatten.toArray:=by
  have:=Gb2 its k.toNat [];rw[List.nil_append]at this;exact this
 have hsz:(its.toArray.size:Int)*k<=(sizeLine:Int):=by
  rw[Aq,<- hl];have h1:((xs.length*k.toNat:Nat):Int)<=(sizeLine:Int):=by exact_mod_cast hz
  rw[Int.natCast_mul,Int.toNat_of_nonneg (by omega)]at h1;exact h1
 have hsl:(sizeLine:Int)<=(2^63-1) / 8:=by decide
 refine wpAny_binaryOp_repeat_ref (T:="tuple") (U:="int") (by decide) ⟨_,ho,rfl⟩ (fun s'=>typeIs_int s' k t) Gmy F.fills_int_mul F.slot_int_rmul Gke F.slot_int_index.lookup
  (call_meets F.slot_int_rmul (typeIs_int s k t) F.entry_int_rmul (F.args_int_rmul_2 _ _) (Gx6 k t a its.toArray n dd sl)
   ⟨ho,rfl,⟨_,ho,rfl⟩,call_meets F.slot_tuple_mul ⟨_,ho,rfl⟩ F.entry_tuple_mul (F.args_tuple_mul_2 _ _) (Gx7 k t a its.toArray n dd sl ?c0 ?c1 ?c2 ?c3 ?c4 ?c5) ⟨ho,?_⟩⟩)
 case c0=>simp;omega
 case c1=>rw[hie];simp;omega
 case c2=>rw[hie];simp;omega
 case c3=>omega
 case c4=>unfold Builtin.Tuple.tupleTooMany;simp;omega
 case c5=>rw[hnew,Aq,Ggb,<- hl,Nat.mul_comm];exact hz
 rw[hnew];refine⟨.ref s.heap.objs.size,_,I.laid (t':=s.toks) (o:=.tup (List.replicate k.toNat xs).flatten) (fun b ob q=>Aj _ q) (Ac _) ?_,rfl,q _ (I.hok.fresh (Ac _))⟩;exact⟨by rw[Ggb,Nat.mul_comm];exact hz,_,r1.rep k.toNat,IsTup.new _ _⟩
end
noncomputable def Jy(f:Z->BQ β):List Z->BQ (List β)
 |[]=>some []
 |x::l=>match f x,Jy f l with
  |some y,some ys=>some (y::ys)
  |_,_=>none
def toP(S:Sto):Nat->D->BQ PyData
 |0,_=>none
 |n+1,d=>match d with
  |.non=>some .none
  |.bl b=>some (.bool b)
  |.int i=>some (.int i)
  |.str x=>some (.str x)
  |.tup l=>(Jy (toP S n) l).map .tuple
  |.lst i=>match S[i]? with
   |some c=>(Jy (toP S n) c.xs).map .list
   |none=>none
  |.exn _ _=>none
  |.fv _=>none
  |.dct _=>none
section
variable{X:Cx}{pins:List (BP×Obj)}{O:L2.St}{H:Hp}{s:BO}{mp:List BP}{S:Sto}
def Ggj{f:D->BQ PyData}{K:BM}(hf:∀(d:D)(v:V)(u:BN)(p:PyData),Rep K mp H d v->Hg v u->f d=some p->∃as,Reads s.heap u p as):∀(l:List D)(vs:List V)(us:List BN)(ps:List PyData),RepL K mp H l vs->Vals vs us->Jy f l=some ps->∃as,ReadsAll s.heap us ps as
 |[],vs,us,ps,h,r,e=>by
  cases (show vs=[]from h);cases r;cases (Ab e);exact⟨_,.nil⟩
 |d::l,vs,us,ps,h,r,e=>by
  obtain⟨v,vr,rfl,h1,h2⟩:=(show∃v r,vs=v::r/\Rep K mp H d v/\RepL K mp H l r from h)
  cases r with
  |cons r1 r2=>
   cases z1:f d with
   |none=>simp only[Jy,z1]at e;cases e
   |some p=>
    cases z2:Jy f l with
    |none=>simp only[Jy,z1,z2]at e;cases e
    |some qs=>
     simp only[Jy,z1,z2]at e;cases (Ab e);obtain⟨as,ra⟩:=hf d v _ p h1 r1 z1;obtain⟨bs,rb⟩:=Ggj hf l vr _ qs h2 r2 z2;exact⟨_,.cons ra rb⟩
def Xv(I:Inv X pins O H s)(rs:RS X.K mp H S):∀(n:Nat)(d:D)(v:V)(u:BN)(p:PyData),Rep X.K mp H d v->Hg v u->toP S n d=some p->∃as,Reads s.heap u p as:=by
 intro n;induction n with
 |zero=>intro d v u p h r e;cases e
 |succ n ih=>
  intro d v u p h r e;cases d with
  |non=>
   cases (show v=.non from h);cases (show u=Value.none from r);cases (Ab e);exact⟨_,.none⟩
  |bl b=>
   cases (show v=.bl b from h);cases (show u=Value.bool b from r);cases (Ab e);exact⟨_,.bool b⟩
  |int i=>
   cases (show v=.int i from h);obtain⟨t,rfl⟩:=(show∃t,u=Value.int i t from r)
   cases (Ab e);exact⟨_,.int i t⟩
  |str x=>
   cases (show v=.str x from h);obtain⟨t,rfl⟩:=(show∃t,u=Value.str x t from r)
   cases (Ab e);exact⟨_,.str x t⟩
  |tup l=>
   obtain⟨a,xs,rfl,sq,q⟩:=Rep.tup h;cases (show u=Value.ref a from r);obtain⟨its,rv,⟨o,ho,hc,k,hd⟩,_⟩:=I.tuple sq;have e:(Jy (toP S n) l).map PyData.tuple=some p:=e;cases z:Jy (toP S n) l with
   |none=>rw[z]at e;cases e
   |some ps=>
    rw[z]at e;cases (Ab e);obtain⟨as,ra⟩:=Ggj ih l xs its ps q rv z;exact⟨as,.tuple ho hc hd (by simpa using ra)⟩
  |lst i=>
   have e:(match S[i]? with|some c=>(Jy (toP S n) c.xs).map PyData.list|none=>none)=some p:=e;cases zc:S[i]? with
   |none=>rw[zc]at e;cases e
   |some c=>
    rw[zc]at e;obtain⟨a,xs,rfl,_,sq,q,_⟩:=rs.items h zc;cases (show u=Value.ref a from r);obtain⟨its,rv,⟨o,k,ho,hc,_,hd⟩,_⟩:=I.list sq;have e:(Jy (toP S n) c.xs).map PyData.list=some p:=e;cases z:Jy (toP S n) c.xs with
    |none=>rw[z]at e;cases e
    |some ps=>
     rw[z]at e;cases (Ab e);obtain⟨as,ra⟩:=Ggj ih c.xs xs its ps q rv z;exact⟨_,.list ho hc hd (by simpa using ra)⟩
  |exn c n=>cases (show(none:BQ PyData)=some p from e)
  |fv c=>cases (show(none:BQ PyData)=some p from e)
  |dct c=>cases (show(none:BQ PyData)=some p from e)
end
def eqD(x y:D)(S:Sto):Out D:=match toP S 40 x,toP S 40 y with
 |some p,some q=>if(SeqAt.shaped p&&SeqAt.shaped q)=true then .ok (.bl (PyData.eqv p q)) S else .bad
 |_,_=>.bad
def neD(x y:D)(S:Sto):Out D:=match toP S 40 x,toP S 40 y with
 |some p,some q=>if(SeqAt.shaped p&&SeqAt.shaped q)=true then .ok (.bl (!PyData.eqv p q)) S else .bad
 |_,_=>.bad
section
variable{X:Cx}{XQ:XW}
def OpX(X:Cx)(f:BN->BN->Sem BN)(o:D->D->Sto->Out D):Prop:=
 ∀(pins:List (BP×Obj))(s:BO)(O:L2.St)(U:Lc)(XQ:XW)(mp:List BP)(H:Hp)(S:Sto)(x y:D)(v u:V)(vv uv:BN)(Q:VK),Inv X pins O H s->RS X.K mp H S->Rep X.K mp H x v->Rep X.K mp H y u->Hg v vv->Hg u uv->Post X.K XQ O U mp H (o x y S) Q→
  (∀(e:XD)(S':Sto),o x y S≠.exc e S')->wpAny (model X.prog X.w) X.A (f vv uv) (EP X pins O Q) X.xe s
def Ggk{o:D->D->Sto->Out D}(ho:OpX X (compareOp op) o)(hno:∀x y S e S',o x y S≠.exc e S')(ha:JE X XQ a fa)(hb:JE X XQ b fb)(hm:behindInMarks op b=false):JE X XQ (.Compare a [op] [b] pos) (o2 o fa fb):=by
 intro pins s O H Q I zq0;obtain⟨mp,U,S,G,p⟩:=zq0;refine wpAny_Compare1 (thn (ha pins s O H _ I (bindP G p fun mp1 H1 x S1 v a1 G1 r1 p1=>(⟨mp1,U,S1,x,G1,r1,p1⟩:∃mp1 U S1 x,Gd X.K mp1 H1 O U S1/\Rep X.K mp1 H1 x v/\Post X.K XQ O U mp1 H1 ((fb U S1).bind fun y S2=>o x y S2) Q))) fun vv s1 zq0=>?_) hm;obtain⟨v,H1,I1,rv,mp1,U1,S1,x,G1,r1,p1⟩:=zq0;refine thn (hb pins s1 O H1 _ I1 (bindP G1 p1 fun mp2 H2 y S2 u a2 G2 r2 p2=>(⟨mp2,U1,S2,x,y,v,G2,Rep.aft a2 _ _ r1,r2,rfl,p2⟩:∃mp2 U S2 x y v',Gd X.K mp2 H2 O U S2/\Rep X.K mp2 H2 x v'/\Rep X.K mp2 H2 y u/\v'=v/\Post X.K XQ O U mp2 H2 (o x y S2) Q))) fun uv s2 zq0=>?_;obtain⟨u,H2,I2,ru,mp2,U2,S2,x2,y,v',G2,rx,ry,ev,p2⟩:=zq0;subst ev;exact ho pins s2 O U2 XQ mp2 H2 S2 x2 y _ u vv uv Q I2 G2.rs rx ry rv ru p2 (hno _ _ _)
def Gdr{o:D->D->Sto->Out D}(ho:OpX X (compareOp op) o)(hno:∀x y S e S',o x y S≠.exc e S')(ha:JE X XQ a fa)(hb:JE X XQ b fb)(hm:behindInMarks op b=false):JT X XQ (.Compare a [op] [b] pos) (tb (o2 o fa fb)):=by
 intro pins s O H Q I h;obtain⟨mp,U,S,G,p⟩:=Gn9 h;refine wpAny_isTrue_Compare1 (thn (ha pins s O H _ I (bindP G p fun mp1 H1 x S1 v a1 G1 r1 p1=>(⟨mp1,U,S1,x,G1,r1,p1⟩:∃mp1 U S1 x,Gd X.K mp1 H1 O U S1/\Rep X.K mp1 H1 x v/\Post X.K XQ O U mp1 H1 ((fb U S1).bind fun y S2=>o x y S2) (fun x H1=>∃k,x=.bl k/\Q k H1)))) fun vv s1 zq0=>?_) hm;obtain⟨v,H1,I1,rv,mp1,U1,S1,x,G1,r1,p1⟩:=zq0;refine thn (hb pins s1 O H1 _ I1 (bindP G1 p1 fun mp2 H2 y S2 u a2 G2 r2 p2=>(⟨mp2,U1,S2,x,y,v,G2,Rep.aft a2 _ _ r1,r2,rfl,p2⟩:∃mp2 U S2 x y v',Gd X.K mp2 H2 O U S2/\Rep X.K mp2 H2 x v'/\Rep X.K mp2 H2 y u/\v'=v/\Post X.K XQ O U mp2 H2 (o x y S2) (fun x H1=>∃k,x=.bl k/\Q k H1)))) fun uv s2 zq0=>?_;obtain⟨u,H2,I2,ru,mp2,U2,S2,x2,y,v',G2,rx,ry,ev,p2⟩:=zq0;subst ev;refine thn (ho pins s2 O U2 XQ mp2 H2 S2 x2 y _ u vv uv _ I2 G2.rs rx ry rv ru p2 (hno _ _ _)) fun c s3 zq0=>?_;obtain⟨z,H3,I3,r3,k,e,q3⟩:=zq0;subst e;cases r3;exact wpAny_truthy_bool ⟨H3,I3,q3⟩
def Gvg(hu:X.A.units+64<cLine):OpX X (compareOp .Eq) eqD:=by
 intro pins s O U XQ mp H S x y v u vv uv Q I rs rx ry rv ru p _;unfold eqD at p;cases z1:toP S 40 x with
 |none=>simp only[z1]at p;exact p.elim
 |some a=>
  cases z2:toP S 40 y with
  |none=>simp only[z1,z2]at p;exact p.elim
  |some b=>
   simp only[z1,z2]at p;by_cases hs:(SeqAt.shaped a&&SeqAt.shaped b)=true
   ·rw[if_pos hs]at p;obtain⟨as,ra⟩:=Xv I rs 40 x v vv a rx rv z1;obtain⟨bs,rb⟩:=Xv I rs 40 y u uv b ry ru z2;rw[Am]at hs;exact SeqAt.compareEq_shaped ra rb hs.1 hs.2 hu ⟨.bl _,H,I,rfl,Gn.ok (R:=Rep X.K) p rs rfl⟩
   ·rw[if_neg hs]at p;exact p.elim
def Gvh(hu:X.A.units+64<cLine):OpX X (compareOp .NotEq) neD:=by
 intro pins s O U XQ mp H S x y v u vv uv Q I rs rx ry rv ru p _;unfold neD at p;cases z1:toP S 40 x with
 |none=>simp only[z1]at p;exact p.elim
 |some a=>
  cases z2:toP S 40 y with
  |none=>simp only[z1,z2]at p;exact p.elim
  |some b=>
   simp only[z1,z2]at p;by_cases hs:(SeqAt.shaped a&&SeqAt.shaped b)=true
   ·rw[if_pos hs]at p;obtain⟨as,ra⟩:=Xv I rs 40 x v vv a rx rv z1;obtain⟨bs,rb⟩:=Xv I rs 40 y u uv b ry ru z2;rw[Am]at hs;exact SeqAt.compareNe_shaped ra rb hs.1 hs.2 hu ⟨.bl _,H,I,rfl,Gn.ok (R:=Rep X.K) p rs rfl⟩
   ·rw[if_neg hs]at p;exact p.elim
def Gvi(x y:D)(S:Sto)(e:XD)(S':Sto):eqD x y S≠.exc e S':=by
 unfold eqD;split
 ·split<;>exact fun z=>nomatch z
 ·exact fun z=>nomatch z
def Gvj(x y:D)(S:Sto)(e:XD)(S':Sto):neD x y S≠.exc e S':=by
 unfold neD;split
 ·split<;>exact fun z=>nomatch z
 ·exact fun z=>nomatch z
def Hbz(hu:X.A.units+64<cLine)(ha:JE X XQ a fa)(hb:JE X XQ b fb):JE X XQ (.Compare a [.Eq] [b] pos) (o2 eqD fa fb):=Ggk (Gvg hu) Gvi ha hb (nomark _)
def Hb0(hu:X.A.units+64<cLine)(ha:JE X XQ a fa)(hb:JE X XQ b fb):JT X XQ (.Compare a [.Eq] [b] pos) (tb (o2 eqD fa fb)):=Gdr (Gvg hu) Gvi ha hb (nomark _)
def Hb1(hu:X.A.units+64<cLine)(ha:JE X XQ a fa)(hb:JE X XQ b fb):JE X XQ (.Compare a [.NotEq] [b] pos) (o2 neD fa fb):=Ggk (Gvh hu) Gvj ha hb (nomark _)
def Hb2(hu:X.A.units+64<cLine)(ha:JE X XQ a fa)(hb:JE X XQ b fb):JT X XQ (.Compare a [.NotEq] [b] pos) (tb (o2 neD fa fb)):=Gdr (Gvh hu) Gvj ha hb (nomark _)
noncomputable def i2(C:Int->Int->Bool)(g:Int->Int->D):D->D->Sto->Out D:=fun x y S=>match x,y with
 |.int i,.int j=>if C i j=true then .ok (g i j) S else .bad
 |_,_=>.bad
def Ggl{K:BM}{C:Int->Int->Prop}{c:Int->Int->Bool}{g:Int->Int->V}{gd:Int->Int->D}(hc:∀i j,c i j=true->C i j)(hg:∀mp H i j,Rep K mp H (gd i j) (g i j)):OpD K (rI C g) (i2 c gd):=by
 intro XQ O U mp H S x y v u Q rs rx ry p;cases x with
 |int i=>
  cases y with
  |int j=>
   have p:Post K XQ O U mp H (if c i j=true then .ok (gd i j) S else .bad) Q:=p;by_cases h:c i j=true
   ·rw[if_pos h]at p;exact⟨i,j,rx,ry,hc i j h,Gn.ok (R:=Rep K) p rs (hg mp H i j)⟩
   ·rw[if_neg h]at p;exact p.elim
  |_=>exact(show False from p).elim
 |_=>exact(show False from p).elim
def od_int0{K:BM}{g:Int->Int->V}{gd:Int->Int->D}(hg:∀mp H i j,Rep K mp H (gd i j) (g i j)):OpD K (rI0 g) (i2 (fun _ _=>true) gd):=by
 intro XQ O U mp H S x y v u Q rs rx ry p;obtain⟨i,j,h1,h2,_,h3⟩:=Ggl (C:=fun _ _=>True) (c:=fun _ _=>true) (fun _ _ _=>trivial) hg XQ O U mp H S x y v u Q rs rx ry p;exact⟨i,j,h1,h2,h3⟩
abbrev Uy:=i2 (fun _ _=>true) fun i j=>.int (i-j)
abbrev Xw:=i2 (fun _ j=>decide (0<j)) fun i j=>.int (i%j)
abbrev Ggm:=i2 (fun i j=>decide (0<=j/\j<=1000000/\i.natAbs<2^64)) fun i j=>.int (i^j.toNat)
abbrev ltD:=i2 (fun _ _=>true) fun i j=>.bl (decide (i<j))
abbrev leD:=i2 (fun _ _=>true) fun i j=>.bl (decide (i<=j))
abbrev gtD:=i2 (fun _ _=>true) fun i j=>.bl (decide (j<i))
abbrev geD:=i2 (fun _ _=>true) fun i j=>.bl (decide (j<=i))
section
variable{a b:Expr}{fa fb:Ev D}{pos:Pos}
def Gx8(ha:JE X XQ a fa)(hb:JE X XQ b fb):JE X XQ (.BinOp a .Sub b pos) (o2 Uy fa fb):=Gfp Gwz (od_int0 fun _ _ _ _=>rfl) ha hb
def Gx9(ha:JE X XQ a fa)(hb:JE X XQ b fb):JE X XQ (.BinOp a .Mod b pos) (o2 Xw fa fb):=Gfp Gw1 (Ggl (fun _ _ h=>of_decide_eq_true h) fun _ _ _ _=>rfl) ha hb
def Gya(ha:JE X XQ a fa)(hb:JE X XQ b fb):JE X XQ (.BinOp a .Pow b pos) (o2 Ggm fa fb):=Gfp Gw2 (Ggl (fun i j h=>(of_decide_eq_true h:0<=j/\j<=1000000/\i.natAbs<2^64)) fun _ _ _ _=>rfl) ha hb
def Hb3(ha:JE X XQ a fa)(hb:JE X XQ b fb):JE X XQ (.Compare a [.Lt] [b] pos) (o2 ltD fa fb):=Gge Glb (od_int0 fun _ _ _ _=>rfl) ha hb (nomark _)
def Hb4(ha:JE X XQ a fa)(hb:JE X XQ b fb):JE X XQ (.Compare a [.LtE] [b] pos) (o2 leD fa fb):=Gge Gnx (od_int0 fun _ _ _ _=>rfl) ha hb (nomark _)
def Hb5(ha:JE X XQ a fa)(hb:JE X XQ b fb):JE X XQ (.Compare a [.GtE] [b] pos) (o2 geD fa fb):=Gge Gu7 (od_int0 fun _ _ _ _=>rfl) ha hb (nomark _)
def Hb6(ha:JE X XQ a fa)(hb:JE X XQ b fb):JT X XQ (.Compare a [.Lt] [b] pos) (tb (o2 ltD fa fb)):=Ggf Glb (od_int0 fun _ _ _ _=>rfl) ha hb (nomark _)
def Hb7(ha:JE X XQ a fa)(hb:JE X XQ b fb):JT X XQ (.Compare a [.Gt] [b] pos) (tb (o2 gtD fa fb)):=Ggf Hbe (od_int0 fun _ _ _ _=>rfl) ha hb (nomark _)
def Hb8(ha:JE X XQ a fa)(hb:JE X XQ b fb):JT X XQ (.Compare a [.GtE] [b] pos) (tb (o2 geD fa fb)):=Ggf Gu7 (od_int0 fun _ _ _ _=>rfl) ha hb (nomark _)
end
noncomputable def Gr(x y:D)(S:Sto):Out D:=match x,y with
 |.int i,.int j=>.ok (.int (i+j)) S
 |.str a,.str b=>if a.length+b.length<=1000000 then .ok (.str (a++b)) S else .bad
 |.lst i,.lst j=>match S[i]?,S[j]? with
  |some c,some e=>if(c.fz=false/\e.fz=false)/\c.xs.length+e.xs.length<=1000000 then .ok (.lst S.length) (S++[⟨false,c.xs++e.xs⟩])else .bad
  |_,_=>.bad
 |.tup a,.tup b=>if a.length+b.length<=1000000 then .ok (.tup (a++b)) S else .bad
 |_,_=>.bad
def Gvk(K:BM):R2:=fun x y H Q=>∃a b ys,x=.ref a/\y=.ref b/\SqT K H a []/\SqT K H b ys/\Q (.ref b) H
def Gsi:OpR X (binaryOp .Add) (Gvk X.K):=by
 intro pins s O H x y v u Q I rx ry zq0;obtain⟨a,b,ys,e1,e2,ha,hb,q⟩:=zq0;subst e1 e2;cases rx;cases ry;obtain⟨its,r1,p1,_⟩:=I.tuple ha;obtain⟨its2,r2,p2,_⟩:=I.tuple hb;have ei:=r1.nil_iff.mpr rfl;subst ei;obtain⟨⟨cls,dd,data,sl⟩,ho,hc,n,hd⟩:=id p1;obtain⟨⟨cls2,dd2,data2,sl2⟩,ho2,hc2,n2,hd2⟩:=id p2;simp only at hc hd hc2 hd2;subst hc hd hc2 hd2;exact concat_meets ⟨_,ho,rfl⟩ ⟨_,ho2,rfl⟩ noFill_tuple_add seq_tuple_add PySem.F.slot_tuple_add PySem.F.entry_tuple_add (PySem.F.args_tuple_add_2 _ _)
  (tuple_addW0 a b [].toArray its2.toArray n n2 dd dd2 sl sl2 (by rfl)) ⟨ho,ho2,⟨.ref b,H,I,rfl,q⟩⟩
def Gvl(K:BM):R2:=fun x y H Q=>rI0 (fun i j=>.int (i+j)) x y H Q\/(∃i j,x=.str i/\y=.str j/\i.length+j.length<=sizeLine/\Q (.str (i++j)) H)\/Hbp x y H Q\/Gva K x y H Q\/Gvk K x y H Q
def Gsj:OpR X (binaryOp .Add) (Gvl X.K):=Gwy.or (Gj2.or (Gxg.or (Grz.or Gsi)))
set_option tactic.hygienic true
def Gyb{K:BM}:OpD K (Gvl K) Gr:=by
 intro XQ O U mp H S x y v u Q rs rx ry p;unfold Gr at p;split at p
 ·exact .inl ⟨_,_,rx,ry,Gn.ok (R:=Rep K) p rs rfl⟩
 ·rename_i a b;by_cases h:a.length+b.length<=1000000
  ·rw[if_pos h]at p;exact .inr (.inl ⟨_,_,rx,ry,line_le h,Gn.ok (R:=Rep K) p rs rfl⟩)
  ·rw[if_neg h]at p;exact p.elim
 ·rename_i i j;split at p
  ·rename_i c e zc ze;by_cases h:(c.fz=false/\e.fz=false)/\c.xs.length+e.xs.length<=1000000
   ·rw[if_pos h]at p;obtain⟨a1,xs,rfl,_,_,q1,f1⟩:=rs.items rx zc;obtain⟨a2,ys,rfl,_,_,q2,f2⟩:=rs.items ry ze;refine .inr (.inr (.inl ⟨a1,a2,xs,ys,rfl,rfl,f1 h.1.1,f2 h.1.2,by rw[q1.len,q2.len];exact line_le h.2,fun q hq=>Xj p rs (q1.append q2) hq⟩))
   ·rw[if_neg h]at p;exact p.elim
  ·exact p.elim
 ·rename_i a b;by_cases h:a.length+b.length<=1000000
  ·rw[if_pos h]at p;obtain⟨a1,xs,rfl,s1,q1⟩:=Rep.tup rx;obtain⟨a2,ys,rfl,s2,q2⟩:=Rep.tup ry;have l1:=q1.len;have l2:=q2.len;by_cases he:xs=[]
   ·subst he;have ea:a=[]:=by cases a with|nil=>rfl|cons _ _=>simp at l1
    subst ea;exact .inr (.inr (.inr (.inr ⟨a1,a2,ys,rfl,rfl,s1,s2,Gn.ok (R:=Rep K) p rs ry⟩)))
   ·refine .inr (.inr (.inr (.inl ⟨a1,a2,xs,ys,rfl,rfl,s1,s2,he,by rw[l1,l2];exact line_le h,fun z=>?_,fun _ q hq=>Yw p rs (q1.append q2) hq⟩)));subst z;have eb:b=[]:=by cases b with|nil=>rfl|cons _ _=>simp at l2
    subst eb;rw[Bd]at p;exact Gn.ok (R:=Rep K) p rs rx
  ·rw[if_neg h]at p;exact p.elim
 ·exact p.elim
set_option tactic.hygienic false
def Gyc(ha:JE X XQ a fa)(hb:JE X XQ b fb):JE X XQ (.BinOp a .Add b pos) (o2 Gr fa fb):=Gfp Gsj Gyb ha hb
noncomputable def Je(x y:D)(S:Sto):Out D:=match x,y with
 |.int i,.int j=>if(-(2^64)<i/\i<2^64)\/(-(2^64)<j/\j<2^64)then .ok (.int (i*j)) S else .bad
 |.lst i,.int k=>match S[i]? with
  |some c=>if c.fz=false/\(-1000000<=k/\k<=1000000)/\c.xs.length*k.toNat<=1000000 then .ok (.lst S.length) (S++[⟨false,(List.replicate k.toNat c.xs).flatten⟩])else .bad
  |none=>.bad
 |.tup l,.int k=>if 0<l.length/\(2<=k/\k<=1000000)/\l.length*k.toNat<=1000000 then .ok (.tup (List.replicate k.toNat l).flatten) S else .bad
 |_,_=>.bad
def Gvm(K:BM):R2:=fun x y H Q=>rI CMul (fun i j=>.int (i*j)) x y H Q\/Hbq x y H Q\/Gvf K x y H Q
def Gsk:OpR X (binaryOp .Mult) (Gvm X.K):=Gw0.or (Gxh.or Gsh)
def RepL.flat{K:BM}{mp:List BP}{H:Hp}{l:List D}{vs:List V}(h:RepL K mp H l vs):∀k:Nat,RepL K mp H (List.replicate k l).flatten (List.replicate k vs).flatten
 |0=>RepL.nil
 |k+1=>by
  rw[AX,AX,A5,A5];exact RepL.append h (RepL.flat h k)
set_option tactic.hygienic true
def Gyd{K:BM}:OpD K (Gvm K) Je:=by
 intro XQ O U mp H S x y v u Q rs rx ry p;unfold Je at p;split at p
 ·rename_i i j;by_cases h:(-(2^64)<i/\i<2^64)\/(-(2^64)<j/\j<2^64)
  ·rw[if_pos h]at p;exact .inl ⟨_,_,rx,ry,h,Gn.ok (R:=Rep K) p rs rfl⟩
  ·rw[if_neg h]at p;exact p.elim
 ·rename_i i k;split at p
  ·rename_i c zc;by_cases h:c.fz=false/\(-1000000<=k/\k<=1000000)/\c.xs.length*k.toNat<=1000000
   ·rw[if_pos h]at p;obtain⟨a1,xs,rfl,_,_,q1,f1⟩:=rs.items rx zc;exact .inr (.inl ⟨a1,k,xs,rfl,ry,f1 h.1,by omega,by omega,by rw[q1.len];exact line_le h.2.2,fun q hq=>Xj p rs (q1.flat _) hq⟩)
   ·rw[if_neg h]at p;exact p.elim
  ·exact p.elim
 ·rename_i l k;by_cases h:0<l.length/\(2<=k/\k<=1000000)/\l.length*k.toNat<=1000000
  ·rw[if_pos h]at p;obtain⟨a1,xs,rfl,s1,q1⟩:=Rep.tup rx;have hl:=q1.len;exact .inr (.inr ⟨a1,k,xs,rfl,ry,s1,fun z=>by rw[z]at hl;simp at hl;omega,h.2.1.1,h.2.1.2,by rw[q1.len];exact line_le h.2.2,fun q hq=>Yw p rs (q1.flat _) hq⟩)
  ·rw[if_neg h]at p;exact p.elim
 ·exact p.elim
set_option tactic.hygienic false
def Gye(ha:JE X XQ a fa)(hb:JE X XQ b fb):JE X XQ (.BinOp a .Mult b pos) (o2 Je fa fb):=Gfp Gsk Gyd ha hb
noncomputable def Gds(x:D)(S:Sto):Out D:=match x with
 |.int i=>.ok (.int (-i)) S
 |_=>.bad
def getD(x y:D)(S:Sto):Out D:=match x,y with
 |.tup l,.int i=>match atI l i with
  |some d=>.ok d S
  |none=>.bad
 |.lst k,.int i=>match S[k]? with
  |some c=>match atI c.xs i with
   |some d=>.ok d S
   |none=>.bad
  |none=>.bad
 | .str z,.int i=>if z.length<=1000000 then(match atI z.cps.toList i with
  |some c=>.ok (.str ⟨#[c]⟩) S
  | none=>.bad) else .bad
 |_,_=>.bad
def RepL.atI{K:BM}{mp:List BP}{H:Hp}{l:List D}{vs:List V}{i:Int}{d:D}(h:RepL K mp H l vs)(e:L2.atI l i=some d):∃v,L2.atI vs i=some v/\Rep K mp H d v:=by
 unfold L2.atI at e⊢;rw[h.len];cases z:ixN l.length i with
 |none=>rw[z]at e;cases e
 |some j=>
  rw[z]at e;exact h.get e
set_option tactic.hygienic true
def Gyf{K:BM}:OpD K (rIx K) getD:=by
 intro XQ O U mp H S x y v u Q rs rx ry p;unfold getD at p;split at p
 ·rename_i l i;split at p
  ·rename_i d zd;obtain⟨a,xs,rfl,sq,q⟩:=Rep.tup rx;obtain⟨w,hw,rw'⟩:=q.atI zd;exact .inr (.inl ⟨a,xs,i,w,rfl,ry,sq,hw,Gn.ok (R:=Rep K) p rs rw'⟩)
  ·exact p.elim
 ·rename_i k i;split at p
  ·rename_i c zc;split at p
   ·rename_i d zd;obtain⟨a,xs,rfl,_,sq,q,_⟩:=rs.items rx zc;obtain⟨w,hw,rw'⟩:=q.atI zd;exact .inl ⟨a,xs,i,w,rfl,ry,sq,hw,Gn.ok (R:=Rep K) p rs rw'⟩
   ·exact p.elim
  ·exact p.elim
 ·rename_i z i;by_cases h:z.length<=1000000
  ·rw[if_pos h]at p;split at p
   ·rename_i c zc;exact .inr (.inr ⟨z,i,c,rx,ry,line_le h,zc,Gn.ok (R:=Rep K) p rs rfl⟩)
   ·exact p.elim
  ·rw[if_neg h]at p;exact p.elim
 ·exact p.elim
set_option tactic.hygienic false
def Gyg(ha:JE X XQ a fa)(hb:JE X XQ b fb)(hs:autoParam (Gde b) zQ9):JE X XQ (.Subscript a b pos) (o2 getD fa fb):=Hbv Gxe Gyf ha hb hs
def Jg(x y z:D)(S:Sto):BQ Sto:=match x,y with
 |.lst k,.int i=>match S[k]? with
  |some c=>match ixN c.xs.length i with
   |some j=>if c.fz=false then some (S.set k ⟨false,c.xs.set j z⟩)else none
   |none=>none
  |none=>none
 |_,_=>none
set_option tactic.hygienic true
def Gkf{K:BM}:Gx0 Gvb K Jg:=by
 intro mp H S S' x y z v u w Q rs rx ry rz e k;unfold Jg at e;split at e
 ·rename_i kk i;split at e
  ·rename_i c zc;split at e
   ·rename_i j zj;by_cases hf:c.fz=false
    ·rw[if_pos hf]at e;cases (Ab e);obtain⟨a,xs,rfl,ha,sq,q,f⟩:=rs.items rx zc;have hH:=f hf;obtain⟨af,rs'⟩:=rs.setL ha zc hf hH (q.set j rz);exact⟨a,xs,i,j,rfl,ry,hH,by rw[q.len];exact zj,k _ af rs'⟩
    ·rw[if_neg hf]at e;cases e
   ·cases e
  ·cases e
 ·cases e
set_option tactic.hygienic false
def Goh{pos:Pos}(he:JE X XQ e f)(hob:JE X XQ ob fo)(hix:JE X XQ ix fi)(hs:⇑(swapsWithSole [.Subscript ob ix p2] e pos.line X.env=pure false))(hw:⇑(swappedStores [.Subscript ob ix p2] e X.env=pure none))(h1:⇑((assignEach [.Subscript ob ix p2] X.env).map (·.2)=[assign (.Subscript ob ix p2) X.env]))(ha:autoParam (∀ v,assign (.Subscript ob ix p2) X.env v=(do
   let ov <- holding [v] (eval ob X.env);let iv <- holding [v,ov] (eval ix X.env)
   standAt p2
   holding [v,ov,iv] (setItem ov iv v)
   release [v,ov,iv] [])) zQ3):JS X XQ (.Assign [.Subscript ob ix p2] e pos) (ss f fo fi Jg):=Goc Gdp Gkf he hob hix hs hw h1 ha
end
section
variable{X:Cx}{XQ:XW}
def BlD(K:BM)(r:List V->Hp->VK->Prop)(o:List D->Sto->Out D):Prop:=
 ∀(XQ:XW)(O:L2.St)(U:Lc)(mp:List BP)(H:Hp)(S:Sto)(xs:List D)(vs:List V)(Q:VK),RS K mp H S->RepL K mp H xs vs->Post K XQ O U mp H (o xs S) Q->r vs H Q
def b1(o:List D->Sto->Out D)(f:Ev (List D)):Ev D:=fun U S=>(f U S).bind o
def cbR(hd:BlD X.K r o)(O:L2.St)(H:Hp)(Q:VK)(h:rdE X.K XQ (b1 o f) O H Q):tCB r (rdA X.K XQ f) O H Q:=by
 obtain⟨mp,U,S,G,p⟩:=h;exact bindP G p fun mp1 H1 xs S1 vs a1 G1 r1 p1=>hd XQ O U mp1 H1 S1 xs vs Q G1.rs r1 p1
def Gdt{id:String}{x:Str}{p pos:Pos}{e:Expr}{es:List Expr}{r:List V->Hp->VK->Prop}{o:List D->Sto->Out D}{f:Ev (List D)}(hc:Xg X (.builtin id) r)(hd:BlD X.K r o)(hg:Gl X x)(hm:X.mg x=none)(hv:bootBuiltins x=some (.builtin id))(ha:JA X XQ (e::es) f)(hn:↥(x≠"__name__"))(hdb:↥((x==("__debug__":Str))=false))
  (he:⇑(starEach (e::es) X.env=(false,eval e X.env)::starEach es X.env)) (hpl:⇑((backTo pos (starEach es X.env)).any (·.1)=false)):JE X XQ (.Call (.Name x p) (e::es) [] pos) (b1 o f):=
 PE.mono (Gh9 hc hg hm hv ha hn hdb he hpl) (cbR hd)
def Goi{e:Expr}(hc:Xg X (.type T) r)(hd:BlD X.K r o)(hg:Gl X x)(hm:X.mg x=none)(hv:bootBuiltins x=some (.type T))(ha:JA X XQ (e::es) f)(hn:↥(x≠"__name__"))(hdb:↥((x==("__debug__":Str))=false))(he:⇑(starEach (e::es) X.env=(false,eval e X.env)::starEach es X.env))(hpl:⇑((backTo pos (starEach es X.env)).any (·.1)=false)):JE X XQ (.Call (.Name x p) (e::es) [] pos) (b1 o f):=
 PE.mono (Gmu hc hg hm hv ha hn hdb he hpl) (cbR hd)
noncomputable def Hb(xs:List D)(S:Sto):Out D:=match xs with
 |[.str z]=>if z.length<=1000000 then .ok (.int z.length) S else .bad
 |[.tup l]=>.ok (.int l.length) S
 |[.lst i]=>match S[i]? with
  |some c=>.ok (.int c.xs.length) S
  |none=>.bad
 |_=>.bad
def Gyh{K:BM}:BlD K (fun xs H Q=>∃x n,xs=[x]/\Hbg K x H n/\Q (.int n) H) Hb:=by
 intro XQ O U mp H S xs vs Q rs r p;unfold Hb at p;split at p
 ·rename_i z;obtain⟨v,rfl,h⟩:=RepL.one r;cases (show v=.str z from h);by_cases hz:z.length<=1000000
  ·rw[if_pos hz]at p;exact⟨_,_,rfl,⟨line_le hz,rfl⟩,Gn.ok (R:=Rep K) p rs rfl⟩
  ·rw[if_neg hz]at p;exact p.elim
 ·rename_i l;obtain⟨v,rfl,h⟩:=RepL.one r;obtain⟨a,xs,rfl,sq,q⟩:=Rep.tup h;exact⟨_,xs.length,rfl,.inr ⟨xs,sq,rfl⟩,Gn.ok (R:=Rep K) p rs (by rw[q.len];rfl)⟩
 ·rename_i i;obtain⟨v,rfl,h⟩:=RepL.one r;split at p
  ·rename_i c zc;obtain⟨a,xs,rfl,_,sq,q,_⟩:=rs.items h zc;exact⟨_,xs.length,rfl,.inl ⟨xs,sq,rfl⟩,Gn.ok (R:=Rep K) p rs (by rw[q.len];rfl)⟩
  ·exact p.elim
 ·exact p.elim
def Gyi(hg:Gl X "len")(hm:X.mg "len"=none)(ha:JA X XQ [e] f)(he:⇑(starEach [e] X.env=(false,eval e X.env)::starEach [] X.env)):JE X XQ (.Call (.Name "len" p) [e] [] pos) (b1 Hb f):=Gdt Gn1 Gyh hg hm PySem.boot_len ha (he:=he)
noncomputable def Uf(xs:List D)(S:Sto):Out D:=match xs with
 |[.tup l]=>.ok (.lst S.length) (S++[⟨false,l⟩])
 |[.lst i]=>match S[i]? with
  |some c=>.ok (.lst S.length) (S++[⟨false,c.xs⟩])
  |none=>.bad
 |_=>.bad
def Gsl{K:BM}:BlD K (fun xs H Q=>∃p ys,xs=[.ref p]/\(SqL K H p ys\/SqT K H p ys)/\∀l,H l=none->Q (.ref l) (upd H l (.lst ys))) Uf:=by
 intro XQ O U mp H S xs vs Q rs r p;unfold Uf at p;split at p
 ·obtain⟨v,rfl,h⟩:=RepL.one r;obtain⟨a,xs,rfl,sq,q⟩:=Rep.tup h;exact⟨a,xs,rfl,.inr sq,fun l hl=>Xj p rs q hl⟩
 ·obtain⟨v,rfl,h⟩:=RepL.one r;split at p
  ·rename_i c zc;obtain⟨a,xs,rfl,_,sq,q,_⟩:=rs.items h zc;exact⟨a,xs,rfl,.inl sq,fun l hl=>Xj p rs q hl⟩
  ·exact p.elim
 ·exact p.elim
noncomputable def Qr(xs:List D)(S:Sto):Out D:=match xs with
 |[.tup l]=>.ok (.tup l) S
 |[.lst i]=>match S[i]? with
  |some c=>.ok (.tup c.xs) S
  |none=>.bad
 |_=>.bad
def Goj{K:BM}:BlD K (fun xs H Q=>∃p ys,xs=[.ref p]/\((SqL K H p ys/\∀l,H l=none->Q (.ref l) (upd H l (.tup ys)))\/(SqT K H p ys/\Q (.ref p) H))) Qr:=by
 intro XQ O U mp H S xs vs Q rs r p;unfold Qr at p;split at p
 ·obtain⟨v,rfl,h⟩:=RepL.one r;obtain⟨a,xs,rfl,sq,q⟩:=Rep.tup h;exact⟨a,xs,rfl,.inr ⟨sq,Gn.ok (R:=Rep K) p rs h⟩⟩
 ·obtain⟨v,rfl,h⟩:=RepL.one r;split at p
  ·rename_i c zc;obtain⟨a,xs,rfl,_,sq,q,_⟩:=rs.items h zc;exact⟨a,xs,rfl,.inl ⟨sq,fun l hl=>Yw p rs q hl⟩⟩
  ·exact p.elim
 ·exact p.elim
def Gsm(hg:Gl X "list")(hm:X.mg "list"=none)(ha:JA X XQ [e] f)(he:⇑(starEach [e] X.env=(false,eval e X.env)::starEach [] X.env)):JE X XQ (.Call (.Name "list" p) [e] [] pos) (b1 Uf f):=Goi Gga Gsl hg hm (by rfl) ha (he:=he)
def Gok(hg:Gl X "tuple")(hm:X.mg "tuple"=none)(ha:JA X XQ [e] f)(he:⇑(starEach [e] X.env=(false,eval e X.env)::starEach [] X.env)):JE X XQ (.Call (.Name "tuple" p) [e] [] pos) (b1 Qr f):=Goi Geu Goj hg hm (by rfl) ha (he:=he)
def Gmz(xs:List D)(S:Sto):Out D:=match xs with
 |[.int i,.int j]=>.ok (.int (if j<i then j else i)) S
 |_=>.bad
set_option tactic.hygienic true
def Gyj{K:BM}:BlD K (fun xs H Q=>∃i j,xs=[.int i,.int j]/\Q (.int (if j<i then j else i)) H) Gmz:=by
 intro XQ O U mp H S xs vs Q rs r p;unfold Gmz at p;split at p
 ·rename_i i j;obtain⟨v,w,rfl,h1,h2⟩:=RepL.two r;cases (show v=.int i from h1);cases (show w=.int j from h2);exact⟨i,j,rfl,Gn.ok (R:=Rep K) p rs rfl⟩
 ·exact p.elim
set_option tactic.hygienic false
def Gyk(hc:X.calm=true)(hg:Gl X "min")(hm:X.mg "min"=none)(ha:JA X XQ [e,e'] f)(he:⇑(starEach [e,e'] X.env=(false,eval e X.env)::starEach [e'] X.env))(hpl:⇑((backTo pos (starEach [e'] X.env)).any (·.1)=false)):JE X XQ (.Call (.Name "min" p) [e,e'] [] pos) (b1 Gmz f):=Gdt (Gmr hc) Gyj hg hm (by rfl) ha (he:=he) (hpl:=hpl)
noncomputable def Gev(xs:List D)(S:Sto):Out D:=match xs with
 |[.int i]=>.ok (.int i) S
 |[.bl b]=>.ok (.int (if b then 1 else 0)) S
 |_=>.bad
def Gyl{K:BM}:BlD K (fun xs H Q=>(∃i,xs=[.int i]/\Q (.int i) H)\/∃k,xs=[.bl k]/\Q (.int (if k then 1 else 0)) H) Gev:=by
 intro XQ O U mp H S xs vs Q rs r p;unfold Gev at p;split at p
 ·rename_i i;obtain⟨v,rfl,h⟩:=RepL.one r;cases (show v=.int i from h);exact .inl ⟨i,rfl,Gn.ok (R:=Rep K) p rs rfl⟩
 ·rename_i b;obtain⟨v,rfl,h⟩:=RepL.one r;cases (show v=.bl b from h);exact .inr ⟨b,rfl,Gn.ok (R:=Rep K) p rs rfl⟩
 ·exact p.elim
def Gsn(hg:Gl X "int")(hm:X.mg "int"=none)(ha:JA X XQ [e] f)(he:⇑(starEach [e] X.env=(false,eval e X.env)::starEach [] X.env)):JE X XQ (.Call (.Name "int" p) [e] [] pos) (b1 Gev f):=Goi Gms Gyl hg hm (by rfl) ha (he:=he)
noncomputable def Ggn(x y:D)(S:Sto):Out D:=match x,y with
 |.non,.non=>.ok (.bl true) S
 |.bl _,.non=>.ok (.bl false) S
 |.int _,.non=>.ok (.bl false) S
 |.str _,.non=>.ok (.bl false) S
 |.tup _,.non=>.ok (.bl false) S
 |.lst _,.non=>.ok (.bl false) S
 |.exn _ _,.non=>.ok (.bl false) S
 |_,_=>.bad
noncomputable def Gfq(x y:D)(S:Sto):Out D:=match x,y with
 |.non,.non=>.ok (.bl false) S
 |.bl _,.non=>.ok (.bl true) S
 |.int _,.non=>.ok (.bl true) S
 |.str _,.non=>.ok (.bl true) S
 |.tup _,.non=>.ok (.bl true) S
 |.lst _,.non=>.ok (.bl true) S
 |.exn _ _,.non=>.ok (.bl true) S
 |_,_=>.bad
def Gym{K:BM}:OpD K (fun x y H Q=>y=.non/\Q (.bl (decide (x=.non))) H) Ggn:=by
 intro XQ O U mp H S x y v u Q rs rx ry p;cases y with
 |non=>
  refine⟨ry,?_⟩;cases x with
  |non=>cases (show v=.non from rx);exact Gn.ok (R:=Rep K) p rs (by rfl)
  |bl b=>cases (show v=.bl b from rx);exact Gn.ok (R:=Rep K) p rs (by rfl)
  |int b=>cases (show v=.int b from rx);exact Gn.ok (R:=Rep K) p rs (by rfl)
  |str b=>cases (show v=.str b from rx);exact Gn.ok (R:=Rep K) p rs (by rfl)
  |tup l=>obtain⟨a,xs,rfl,_⟩:=Rep.tup rx;exact Gn.ok (R:=Rep K) p rs (by rfl)
  |lst i=>obtain⟨a,rfl,_⟩:=(show∃a,v=.ref a/\mp[i]?=some a/\¬Dcy H a from rx);exact Gn.ok (R:=Rep K) p rs (by rfl)
  |exn c n=>obtain⟨a,dx,_,rfl,_⟩:=(show∃a dx p,v=.ref a/\(CN K c p/\XCl K p/\H a=some (XO a p dx))/\∀i,n=some i->∃d,dx=some d/\H d=some (XA d i)from rx);exact Gn.ok (R:=Rep K) p rs (by rfl)
  |fv c=>exact(show False from p).elim
  |dct c=>exact(show False from p).elim
 |_=>cases x<;>exact(show False from p).elim
def Gso{K:BM}:OpD K (fun x y H Q=>y=.non/\Q (.bl (!decide (x=.non))) H) Gfq:=by
 intro XQ O U mp H S x y v u Q rs rx ry p;cases y with
 |non=>
  refine⟨ry,?_⟩;cases x with
  |non=>cases (show v=.non from rx);exact Gn.ok (R:=Rep K) p rs (by rfl)
  |bl b=>cases (show v=.bl b from rx);exact Gn.ok (R:=Rep K) p rs (by rfl)
  |int b=>cases (show v=.int b from rx);exact Gn.ok (R:=Rep K) p rs (by rfl)
  |str b=>cases (show v=.str b from rx);exact Gn.ok (R:=Rep K) p rs (by rfl)
  |tup l=>obtain⟨a,xs,rfl,_⟩:=Rep.tup rx;exact Gn.ok (R:=Rep K) p rs (by rfl)
  |lst i=>obtain⟨a,rfl,_⟩:=(show∃a,v=.ref a/\mp[i]?=some a/\¬Dcy H a from rx);exact Gn.ok (R:=Rep K) p rs (by rfl)
  |exn c n=>obtain⟨a,dx,_,rfl,_⟩:=(show∃a dx p,v=.ref a/\(CN K c p/\XCl K p/\H a=some (XO a p dx))/\∀i,n=some i->∃d,dx=some d/\H d=some (XA d i)from rx);exact Gn.ok (R:=Rep K) p rs (by rfl)
  |fv c=>exact(show False from p).elim
  |dct c=>exact(show False from p).elim
 |_=>cases x<;>exact(show False from p).elim
section
variable{a b:Expr}{fa fb:Ev D}{pos:Pos}
def Gyn(ha:JE X XQ a fa)(hb:JE X XQ b fb):JT X XQ (.Compare a [.Is] [b] pos) (tb (o2 Ggn fa fb)):=Ggf Gw4 Gym ha hb (nomark _)
def Gsp(ha:JE X XQ a fa)(hb:JE X XQ b fb):JE X XQ (.Compare a [.IsNot] [b] pos) (o2 Gfq fa fb):=Gge Grr Gso ha hb (nomark _)
end
def Kl(xs:List D)(lo hi:BQ Int):List D:=(xs.drop (HT.sIx xs.length 0 lo)).take (HT.sIx xs.length xs.length hi-HT.sIx xs.length 0 lo)
def RepL.cut{K:BM}{mp:List BP}{H:Hp}{l:List D}{vs:List V}(h:RepL K mp H l vs)(lo hi:BQ Int):RepL K mp H (Kl l lo hi) (Gia vs lo hi):=by
 unfold Kl Gia;rw[h.len];exact(h.drop _).take _
def slD(x:D)(lo hi:BQ Int)(S:Sto):Out D:=match x with
 |.tup l=>if HT.sIx l.length 0 lo=0/\HT.sIx l.length l.length hi=l.length then .bad else .ok (.tup (Kl l lo hi)) S
 |.lst i=>match S[i]? with
  |some c=>.ok (.lst S.length) (S++[⟨false,Kl c.xs lo hi⟩])
  |none=>.bad
 |_=>.bad
def sl(fe:Ev D)(fl fh:Ev (BQ Int)):Ev D:=fun U S=>(fe U S).bind fun x S1=>(fl U S1).bind fun l S2=>(fh U S2).bind fun u S3=>slD x l u S3
noncomputable def onone:Ev (BQ Int):=fun _ S=>.ok none S
def osome(f:Ev D):Ev (BQ Int):=fun U S=>(f U S).bind fun x S1=>match x with
 |.int i=>.ok (some i) S1
 |_=>.bad
def Gsq:JO X XQ none onone:=PO.mono Grx fun O H Q ⟨mp,U,S,G,p⟩=>Gn.ok (R:=kO) (show Gn X.K kO XQ O U mp H (.ok none S) Q from p) G.rs rfl
def Gsr(h:JE X XQ e f):JO X XQ (some e) (osome f):=PO.mono (Gry h) fun O H Q ⟨mp,U,S,G,p⟩=>bindP G p fun mp1 H1 x S1 v a1 G1 r1 p1=>by
 cases x with
 |int i=>exact⟨i,r1,Gn.ok (R:=kO) p1 G1.rs rfl⟩
 |_=>exact(show False from p1).elim
def MeD(K:BM)(r:V->List V->Hp->VK->Prop)(o:D->List D->Sto->Out D):Prop:=
 ∀(XQ:XW)(O:L2.St)(U:Lc)(mp:List BP)(H:Hp)(S:Sto)(x:D)(xs:List D)(v:V)(vs:List V)(Q:VK),RS K mp H S->Rep K mp H x v->RepL K mp H xs vs->Post K XQ O U mp H (o x xs S) Q->r v vs H Q
noncomputable def isLst(x:D)(S:Sto):Bool:=match x with
 |.lst i=>match S[i]? with
  |some _=>true
  |none=>false
 |_=>false
def mt(o:D->List D->Sto->Out D)(fo:Ev D)(f:Ev (List D)):Ev D:=fun U S=>(fo U S).bind fun x S1=>if isLst x S1=true then(f U S1).bind fun xs S2=>o x xs S2 else .bad
def Glf{id:String}{name:Str}{o e:Expr}{es:List Expr}{apos cpos:Pos}{r:V->List V->Hp->VK->Prop}{od:D->List D->Sto->Out D}{fo:Ev D}{f:Ev (List D)}(slot:Slot "list" name id)(hty:typeOf (.builtin id)=pure (.type "method_descriptor"))(hm:MtM X id r)(hd:MeD X.K r od)(ho:JE X XQ o fo)(ha:JA X XQ (e::es) f)
  (hbase:⇑(attributeBase o name X.env (eval o X.env)=eval o X.env))
  (hfew:⇑(((backTo cpos (starEach (e::es) X.env)).all (fun x=>!x.1)&&(backToKw cpos (keywordEach [] X.env)).all (fun x=>x.1.isSome)
   && decide ((e::es).length+([]:List Keyword).length+(if([]:List Keyword).isEmpty then 0 else 1)<30))=true))
  (hline:⇑((apos.endLine==cpos.line)=true)) (hs:⇑(starEach (e::es) X.env=(false,eval e X.env)::starEach es X.env)) (hplain:⇑((backTo cpos (starEach es X.env)).any (·.1)=false)):
  JE X XQ (.Call (.Attribute o name apos) (e::es) [] cpos) (mt od fo f):=by
 refine PE.mono (Hbo PySem.F.plainAttrs_list slot hty hm ho ha hbase hfew hline hs hplain) fun O H Q zq0=>?_;obtain⟨mp,U,S,G,p⟩:=zq0;refine bindP G p fun mp1 H1 x S1 v a1 G1 r1 p1=>?_;by_cases hl:isLst x S1=true
 ·rw[if_pos hl]at p1;have ty:tyV X.K "list" v H1:=by
   cases x with
   |lst i=>
    cases zc:S1[i]? with
    |none=>simp[isLst,zc]at hl
    |some c=>
     obtain⟨a,xs,rfl,_,sq,_⟩:=G1.rs.items r1 zc;exact .inl ⟨rfl,xs,sq⟩
   |_=>simp[isLst]at hl
  exact⟨ty,bindP G1 p1 fun mp2 H2 xs S2 vs a2 G2 r2 p2=>hd XQ O U mp2 H2 S2 x xs v vs Q G2.rs (Rep.aft a2 _ _ r1) r2 p2⟩
 ·rw[if_neg hl]at p1;exact p1.elim
noncomputable def Gba(x:D)(xs:List D)(S:Sto):Out D:=match x,xs with
 |.lst i,[d]=>match S[i]? with
  |some c=>if c.fz=false/\c.xs.length<1000000 then .ok .non (S.set i ⟨false,c.xs++[d]⟩)else .bad
  |none=>.bad
 |_,_=>.bad
set_option tactic.hygienic true
def Gyo{K:BM}:MeD K Gle Gba:=by
 intro XQ O U mp H S x xs v vs Q rs rx r p;unfold Gba at p;split at p
 ·rename_i i d;split at p
  ·rename_i c zc;by_cases hc:c.fz=false/\c.xs.length<1000000
   ·rw[if_pos hc]at p;obtain⟨w,rfl,hw⟩:=RepL.one r;obtain⟨a,ys,rfl,ha,sq,q,f⟩:=rs.items rx zc;have hH:=f hc.1;obtain⟨af,rs'⟩:=rs.setL ha zc hc.1 hH (RepL.append q (RepL.cons hw RepL.nil));exact⟨a,ys,w,rfl,rfl,hH,by rw[q.len];exact Ag hc.2 (by decide),p mp _ _ af rs' rfl⟩
   ·rw[if_neg hc]at p;exact p.elim
  ·exact p.elim
 ·exact p.elim
set_option tactic.hygienic false
def Gm0{apos cpos:Pos}(ho:JE X XQ o fo)(ha:JA X XQ [e] f)(hbase:⇑(attributeBase o "append" X.env (eval o X.env)=eval o X.env))(hfew:⇑(((backTo cpos (starEach [e] X.env)).all (fun x=>!x.1)&&(backToKw cpos (keywordEach [] X.env)).all (fun x=>x.1.isSome)
   && decide ([e].length+([]:List Keyword).length+(if([]:List Keyword).isEmpty then 0 else 1)<30))=true))(hline:⇑((apos.endLine==cpos.line)=true))(hs:⇑(starEach [e] X.env=(false,eval e X.env)::starEach [] X.env)):
  JE X XQ (.Call (.Attribute o "append" apos) [e] [] cpos) (mt Gba fo f):=Glf PySem.F.slot_list_append PySem.F.type_list_append Gfn Gyo ho ha hbase hfew hline hs rfl
end
section
variable{X:Cx}{XQ:XW}
def Gyp{K:BM}:UnD K (rU fun i=>.int (-i)) Gds:=by
 intro XQ O U mp H S x v Q rs rx p;cases x with
 |int i=>exact⟨i,rx,Gn.ok (R:=Rep K) (show Post K XQ O U mp H (.ok (.int (-i)) S) Q from p) rs rfl⟩
 |_=>exact(show False from p).elim
def Gyq(ha:JE X XQ a fa):JE X XQ (.UnaryOp .USub a pos) (o1 Gds fa):=Hbw Gw3 Gyp ha
def ch(o o':D->D->Sto->Out D)(fa fb fc:Ev D):Ev D:=fun U S=>(fa U S).bind fun x S1=>(fb U S1).bind fun y S2=>(o x y S2).bind fun z S3=>match z with
 |.bl k=>if k=true then(fc U S3).bind fun w S4=>o' y w S4 else .ok (.bl false) S3
 |_=>.bad
def Gyr{K:BM}{r r':R2}{o o':D->D->Sto->Out D}{fa fb fc:Ev D}(hd:OpD K r o)(hd':OpD K r' o')(O:L2.St)(H:Hp)(Q:VK)(h:rdE K XQ (ch o o' fa fb fc) O H Q):Gny r r' (rdE K XQ fa) (rdE K XQ fb) (rdE K XQ fc) O H Q:=by
 obtain⟨mp,U,S,G,p⟩:=h;refine bindP G p fun mp1 H1 x S1 v a1 G1 r1 p1=>?_;refine bindP G1 p1 fun mp2 H2 y S2 u a2 G2 r2 p2=>?_;refine hd XQ O U mp2 H2 S2 x y v u _ G2.rs (Rep.aft a2 _ _ r1) r2 ?_;cases z:o x y S2 with
 |bad=>rw[z]at p2;exact p2
 |exc e S3=>rw[z]at p2;exact p2
 |ok d S3=>
  rw[z]at p2;intro mp3 H3 zv a3 rs3 r3;have p3:=Gn.aft p2 a3;have G3:=G2.aft a3 rs3;cases d with
  |bl k=>
   refine⟨k,r3,?_⟩;cases k with
   |true=>exact(if_pos rfl).mpr (bindP (f:=fc) G3 (by simpa[Out.bind]using p3) fun mp4 H4 w S4 wv a4 G4 r4 p4=>hd' XQ O U mp4 H4 S4 y w u wv Q G4.rs (Rep.aft (a3.trans a4) _ _ r2) r4 p4)
   |false=>exact(if_neg Ap).mpr (Gn.ok (R:=Rep K) (d:=.bl false) (S:=S3) (by simpa[Out.bind]using p3) G3.rs rfl)
  |_=>exact(show False from p3).elim
def Gol(ho:OpR X (compareOp op) r)(hd:OpD X.K r o)(ho':OpR X (compareOp op') r')(hd':OpD X.K r' o')(ha:JE X XQ a fa)(hb:JE X XQ b fb)(hc:JE X XQ c fc)(hm:autoParam (lastMarks [op,op'] [b,c]=false) zQ5):JT X XQ (.Compare a [op,op'] [b,c] pos) (tb (ch o o' fa fb fc)):=PT.mono (Gnz ho ho' ha hb hc hm) fun O H Q h=>Gyr hd hd' O H _ (Gn9 h)
def Gvn{K:BM}:OpD K (rI0 fun i j=>.bl (decide (i<j))) ltD:=od_int0 fun _ _ _ _=>rfl
def Gvo{K:BM}:OpD K (rI0 fun i j=>.bl (decide (i<=j))) leD:=od_int0 fun _ _ _ _=>rfl
end
def XAt(a c:BP)(h:Heap):Prop:=∃oe,h.get? a=some oe/\oe.cls=.ref c/\∃vs,oe.data=.fields vs
section
variable{prog:BR}{w:World}{A:Around}{E:BN->BO->Prop}{h:Heap}{g:Array GenState}{d:Drawn}{t:Nat}{os:OsState}{a c:BP}{o:Obj}{K:BM}
def Gys(x:XAt a c h):PySem.W.Looks M h (typeOf (.ref a)) (.ref c):=by
 obtain⟨oe,h1,h2,_⟩:=x;exact h2▸(PySem.W.Looks.ld h1).andThen .now
def Gyt{tp:BN}{R:Result->BO->Prop}(X:K.In h)(k:XCl K c)(x:XAt a c h)(hq:R (.ok (.ret (.ref c))) ⟨h,g,d,t,os⟩):
  codeAny (model prog w) A (.call (.builtin "getset_descriptor.__get__") ⟨[.builtin "object.__class__",.ref a,tp],[]⟩) R ⟨h,g,d,t,os⟩:=by
 obtain⟨oe,hx,hc,_⟩:=x;have hT5:(⟨h,g,d,t,os⟩:BO).TypeIs (.builtin "object.__class__") "getset_descriptor":=F.typeOf_object_class;refine codeAny_call_builtin F.slot_gs_get.plain F.entry_gs_get (F.slot_gs_get.check _ _ _ _ _ _ _ _ hT5 (F.args_gs_get _ _ _) ?_);have L1:=fun(M:Model)=>PySem.W.looks_mroIn (M:=M) X k.ob;have ow:=F.owner_object_class
 repeat (any_goals (first|assumption|(with_reducible refine wpAny_loadPart_at hx ?_;rw[hc])|(rw[ow];with_reducible refine(L1 _).here ?_)|wp_step))
 refine⟨Code.quiet_builtin _ (by decide +kernel),codeAny_builtin F.entry_object_class ?_⟩
 repeat (any_goals (first|assumption|(with_reducible refine wpAny_loadPart_at hx ?_;rw[hc])|wp_step))
def Gom{Q:Unit->BO->Prop}(X:K.In h)(k:XCl K c)(x:XAt a c h)(hq:Q () ⟨h,g,d,t,os⟩):wpAny M A (checkBuiltinCall "BaseException.__getattribute__" ⟨[.ref a,nameV],[]⟩) Q E ⟨h,g,d,t,os⟩:=by
 obtain⟨oe,hx,hc,_⟩:=x;have bk:builtinKind "BaseException.__getattribute__"=some .slot:=by decide +kernel
 have bs:splitId "BaseException.__getattribute__"=some ("BaseException","__getattribute__"):=by decide +kernel
 have ha:=F.args_bexc_ga (.ref a) nameV;have L1:PySem.W.Looks M h (isSubtype (.ref c) (.type "BaseException")) true:=PySem.W.looks_subIn X k.be;simp only[checkBuiltinCall,bk,bs];refine wpAny_bind ?_
 ·unfold isInstance
  repeat (first|(with_reducible refine wpAny_loadPart_at hx ?_;rw[hc])|(with_reducible refine L1.here ?_)|wp_step)
  exact hq
def Gon{Q:Fin->BO->Prop}(X:K.In h)(k:XCl K c)(x:XAt a c h)(hq:Q (.done (.ret (.ref c))) ⟨h,g,d,t,os⟩):
  wpAny (model prog w) A (Builtin.«object.__getattribute__» ⟨[.ref a,.str "__class__" tk],[]⟩) Q E ⟨h,g,d,t,os⟩:=by
 obtain⟨oe,hx,hc,hv⟩:=id x;have hT5:(⟨h,g,d,t,os⟩:BO).TypeIs (.builtin "object.__class__") "getset_descriptor":=F.typeOf_object_class;have f5:=F.typeOf_object_class;have f6:=F.slot_gs_get.lookup;have f7:=F.slot_gs_set.lookup;have L1:=fun(M:Model)=>PySem.W.looks_findIn (M:=M) X k.cl
 repeat (any_goals (first|assumption|(with_reducible refine wpAny_loadPart_at hx ?_;rw[hc])|with_reducible refine(L1 _).here ?_|wp_step))
 refine Gyt X k x ?_
 repeat (any_goals (first|assumption|wp_step))
def Hb9{tk:Tok}{fill expr:Bool}{Q:BN->BO->Prop}(X:K.In h)(k:XCl K c)(x:XAt a c h)(hq:Q (.ref c) ⟨h,g,d,t,os⟩):
  wpAny (model prog w) A (getAttrBy (.ref a) (.str "__class__" tk) fill expr) Q E ⟨h,g,d,t,os⟩:=by
 obtain⟨oe,hx,hc,hv⟩:=id x;have f3:=PySem.F.excAttr_ValueError.ga.bind (.ref a);have n0:(expr&&onTheHeap (Value.builtin "BaseException.__getattribute__"))=false:=by cases expr<;>rfl
 have n2:(Value.builtin "BaseException.__getattribute__"==Value.builtin "object.__getattribute__")=false:=by decide +kernel
 have n1:(onTheHeap (Value.ref c)&&Value.builtin "BaseException.__getattribute__"==Value.builtin "object.__getattribute__")=false:=by rw[n2];rfl
 have L1:=fun(M:Model)=>PySem.W.looks_findIn (M:=M) X k.ga;have L2:=fun(M:Model)=>PySem.W.looks_findIn (M:=M) X k.gt
 repeat (any_goals (first|assumption|(with_reducible refine wpAny_loadPart_at hx ?_;rw[hc])|with_reducible refine(L1 _).here ?_|with_reducible refine(L2 _).here ?_|wp_step))
 refine codeAny_call_builtin PySem.F.excAttr_ValueError.ga.plain F.entry_bexc_ga (Gom X k x (Gon X k x ?_))
 repeat (any_goals (first|assumption|wp_step))
def Gss{Q:BQ BN->BO->Prop}(X:K.In h)(k:XCl K c)(x:XAt a c h)(hq:Q (some (.ref c)) ⟨h,g,d,t+1,os⟩):wpAny (model prog w) A (getAttr? (.ref a) "__class__") Q E ⟨h,g,d,t,os⟩:=by
 unfold getAttr? getAttrBy?
 repeat (any_goals (first|assumption|with_reducible apply Hb9 X k x|wp_step))
end
set_option tactic.hygienic true
def Goo{K:BM}{a c:BP}(k:XCl K c):PySem.W.KitX K (.ref a) (.ref c) (XAt a c) where
 ty:=fun _ _ _ x=>Gys x
 it:=fun _ _ X _=>by
  obtain⟨cd,hc⟩:=BJ.mp k.cd;unfold PySem.W.clsIn at hc;split at hc
  ·rename_i c' d' cd' sl' ho;intro A Q E s kp q;unfold isType loadHead;exact wpAny_bind (wpAny_loadPart (kp _ _ (X _ _ ho)) (wpAny_pure q))
  ·cases hc
 ne:=fun h tp dd its n sl X htp=>by
  obtain⟨cd,hc⟩:=BJ.mp k.cd;refine Bool.eq_false_iff.mpr fun q=>?_;have e:c=tp:=Value.ref.inj (beq_iff_eq.mp q);subst e;unfold PySem.W.clsIn at hc;split at hc
  ·rename_i c' d' cd' sl' ho;cases (X _ _ ho).symm.trans htp
  ·cases hc
 ca:=fun{prog w A E Q s} X x q=>by
  obtain⟨hh,g,d,t,os⟩:=s;exact Gss X k x q
set_option tactic.hygienic false
noncomputable def tyN:D->String
 |.non=>"NoneType"
 |.bl _=>"bool"
 |.int _=>"int"
 |.str _=>"str"
 |.tup _=>"tuple"
 |.lst _=>"list"
 |.exn _ _=>"exn"
 |.fv _=>"fv"
 |.dct _=>"dct"
noncomputable def isT(T t:String):Bool:=t==T||(T=="int"&&t=="bool")
def isD(T:String)(x:D)(S:Sto):Out D:=match x with
 |.fv _=>.bad
 |.dct _=>.bad
 |_=>.ok (.bl (isT T (tyN x))) S
def Kit(K:BM)(T:String):Prop:=T∈["bool","int","str","tuple","list"]/\∀t∈["NoneType","bool","int","str","tuple","list"],PySem.W.kitOne K (.type t) (.type T)=some (isT T t)
def Gst{K:BM}:Kit K "int":=by refine⟨by decide,?_⟩;intro t h;simp only[Ad,A7,or_false]at h;rcases h with rfl|rfl|rfl|rfl|rfl|rfl<;>first|rfl|decide +kernel|(with_unfolding_all rfl)
def Gie{K:BM}:Kit K "bool":=by refine⟨by decide,?_⟩;intro t h;simp only[Ad,A7,or_false]at h;rcases h with rfl|rfl|rfl|rfl|rfl|rfl<;>first|rfl|decide +kernel|(with_unfolding_all rfl)
def Gm1{K:BM}:Kit K "tuple":=by refine⟨by decide,?_⟩;intro t h;simp only[Ad,A7,or_false]at h;rcases h with rfl|rfl|rfl|rfl|rfl|rfl<;>first|rfl|decide +kernel|(with_unfolding_all rfl)
def Gsu{K:BM}:Kit K "str":=by refine⟨by decide,?_⟩;intro t h;simp only[Ad,A7,or_false]at h;rcases h with rfl|rfl|rfl|rfl|rfl|rfl<;>first|rfl|decide +kernel|(with_unfolding_all rfl)
def Gif{K:BM}:Kit K "list":=by refine⟨by decide,?_⟩;intro t h;simp only[Ad,A7,or_false]at h;rcases h with rfl|rfl|rfl|rfl|rfl|rfl<;>first|rfl|decide +kernel|(with_unfolding_all rfl)
section
variable{X:Cx}{XQ:XW}
def Heh(K:BM)(T:String):List V->Hp->VK->Prop:=fun vs H Q=>∃ x t,vs=[x,.ty T]/\(match x with
 |.non=>t="NoneType"|.bl _=>t="bool"|.int _=>t="int"|.str _=>t="str"
 |.ref a=>(t="tuple"/\∃xs,SqT K H a xs)\/(t="list"/\∃xs,SqL K H a xs)\/(t="exn"/\∃c dx,XCl K c/\H a=some (XO a c dx))
 | _=>False)/\Q (.bl (isT T t)) H
def Hca{H:Hp}{s:BO}(I:Inv X pins O H s)(h:H a=some (XO a c dx)):XAt a c s.heap:=by
 obtain⟨⟨oe,h1,h2,_,h3⟩,_,_⟩:=(show Ks X.prog X.w H s.heap a (XO a c dx)from I.hok a _ h)
 exact⟨oe,h1,h2,h3⟩
def Gsv(h:T∈["bool","int","str","tuple","list"]):isT T "exn"=false:=by
 simp only[Ad,A7,or_false]at h;rcases h with rfl|rfl|rfl|rfl|rfl<;>rfl
def Gop(k:Kit X.K T):Xg X (.builtin "isinstance") (Heh X.K T):=by
 intro pins s O H xs us Q I r zq0;obtain⟨x,t,e,h,q⟩:=zq0;subst e;obtain⟨u,w,rfl,ru,rw'⟩:=Vals.two r;cases (show w=Value.type T from rw');have fin:∀tk,EP X pins O Q (.bool (isT T t)) {s with toks:=tk}:=fun tk=>⟨.bl _,H,I.tok tk,rfl,q⟩
 cases x with
 |non=>cases (show u=Value.none from ru);cases (show t="NoneType" from h);exact PySem.W.kia_one PySem.W.kitx_none I.kIn True.intro (k.2 _ (by decide)) (fun z=>nomatch z) fin
 |bl y=>cases (show u=Value.bool y from ru);cases (show t="bool" from h);exact PySem.W.kia_one PySem.W.kitx_bool I.kIn True.intro (k.2 _ (by decide)) (fun z=>nomatch z) fin
 |int i=>obtain⟨tk,e⟩:=(show∃t,u=Value.int i t from ru);cases e;cases (show t="int" from h);exact PySem.W.kia_one PySem.W.kitx_int I.kIn True.intro (k.2 _ (by decide)) (fun z=>nomatch z) fin
 |str y=>obtain⟨tk,e⟩:=(show∃t,u=Value.str y t from ru);cases e;cases (show t="str" from h);exact PySem.W.kia_one PySem.W.kitx_str I.kIn True.intro (k.2 _ (by decide)) (fun z=>nomatch z) fin
 |ref a=>
  cases (show u=Value.ref a from ru);rcases h with⟨rfl,xs,sq⟩|⟨rfl,xs,sq⟩|⟨rfl,c,dx,xc,hH⟩
  ·obtain⟨its,_,⟨o,h1,h2,_⟩,_⟩:=I.tuple sq;exact PySem.W.kia_one PySem.W.kitx_tuple I.kIn ⟨o,h1,h2⟩ (k.2 _ (by decide)) (fun z=>nomatch z) fin
  ·obtain⟨its,_,⟨o,n,h1,h2,_⟩,_⟩:=I.list sq;exact PySem.W.kia_one PySem.W.kitx_list I.kIn ⟨o,h1,h2⟩ (k.2 _ (by decide)) (fun z=>nomatch z) fin
  ·have xa:=Hca I hH;have e:isT T "exn"=false:=Gsv k.1;rw[e]at fin;exact PySem.W.kia_one (Goo xc) I.kIn xa (xc.bt T k.1) (fun z=>nomatch z) fin
 |_=>exact h.elim
def Gyu(k:Kit X.K T)(hv:bootBuiltins x=some (.type T))(hnx:x≠"__name__")(hdx:(x==("__debug__":Str))=false)(hg:Gl X "isinstance")(hm:X.mg "isinstance"=none)(hgt:Gl X x)(hmt:X.mg x=none)(he:JE X XQ e f)(hs:starEach [e,.Name x p2] X.env=(false,eval e X.env)::starEach [.Name x p2] X.env)(hpl:(backTo pos (starEach [.Name x p2] X.env)).any (·.1)=false)(hs2:starEach [.Name x p2] X.env=(false,eval (.Name x p2) X.env)::starEach [] X.env):
  JE X XQ (.Call (.Name "isinstance" p) [e,.Name x p2] [] pos) (o1 (isD T) f):=by
 refine PE.mono (Gh9 (Gop k) hg hm (by rfl) (Ga8 he (Ga8 (Grm hgt hmt hv (v:=.ty T) rfl hnx hdx) Gj5 hs2) hs) (by decide) (by decide) hs hpl) fun O H Q zq0=>?_;obtain⟨mp,U,S,G,q⟩:=zq0;refine bindP G q fun mp1 H1 d S1 v a1 G1 r1 p1=>?_;have p2:((∃c,d=.fv c)\/∃c,d=.dct c)\/Post X.K XQ O U mp1 H1 (.ok (.bl (isT T (tyN d))) S1) Q:=by cases d<;>first|exact .inr p1|exact .inl (.inl ⟨_,rfl⟩)|exact .inl (.inr ⟨_,rfl⟩)
 rcases p2 with(⟨c,rfl⟩|⟨c,rfl⟩)|p2
 ·exact(show False from p1).elim
 ·exact(show False from p1).elim
 refine⟨v,tyN d,rfl,?_,Gn.ok (R:=Rep X.K) p2 G1.rs rfl⟩;cases d with
 |non=>cases (show v=.non from r1);exact rfl
 |bl b=>cases (show v=.bl b from r1);exact rfl
 |int b=>cases (show v=.int b from r1);exact rfl
 |str b=>cases (show v=.str b from r1);exact rfl
 |tup l=>obtain⟨a,xs,rfl,sq,_⟩:=Rep.tup r1;exact .inl ⟨rfl,xs,sq⟩
 |lst i=>
  obtain⟨a,rfl,ha,_⟩:=(show∃a,v=.ref a/\mp1[i]?=some a/\¬Dcy H1 a from r1)
  have hl:i<S1.length:=by rw[<- G1.rs.len];exact(Aa.mp ha).1
  obtain⟨a2,xs,e2,_,sq,_⟩:=G1.rs.items r1 (Af hl);cases e2;exact .inr (.inl ⟨rfl,xs,sq⟩)
 |exn c n=>
  obtain⟨a,dx,q,rfl,⟨_,xc,hH⟩,_⟩:=(show∃a dx p,v=.ref a/\(CN X.K c p/\XCl X.K p/\H1 a=some (XO a p dx))/\∀i,n=some i->∃d,dx=some d/\H1 d=some (XA d i)from r1)
  exact .inr (.inr ⟨rfl,q,dx,xc,hH⟩)
 |fv c=>exact(show False from p1).elim
 |dct c=>exact(show False from p1).elim
end
section
variable{X:Cx}{XQ:XW}
def Gcq:List D->BQ (List Bool)
 |[]=>some []
 |.bl b::l=>match Gcq l with
  |some r=>some (b::r)
  |none=>none
 |_::_=>none
def Yu(xs:List D)(S:Sto):Out D:=match xs with
 |[.lst i]=>match S[i]? with
  |some c=>match Gcq c.xs with
   |some bs=>.ok (.bl (bs.all id)) S
   |none=>.bad
  |none=>.bad
 |_=>.bad
def Gsw{K:BM}{mp:List BP}{H:Hp}{l:List D}:∀{vs:List V}{bs:List Bool},RepL K mp H l vs->Gcq l=some bs->vs=bs.map V.bl:=by
 induction l with
 |nil=>intro vs bs h e;cases (show vs=[]from h);cases (Ab e);rfl
 |cons d l ih=>
  intro vs bs h e;cases d with
  |bl b=>
   obtain⟨v,r,rfl,h1,h2⟩:=(show∃v r,vs=v::r/\Rep K mp H (.bl b) v/\RepL K mp H l r from h)
   cases (show v=.bl b from h1);cases z:Gcq l with
   |none=>simp[Gcq,z]at e
   |some q=>
    simp only[Gcq,z]at e;cases (Ab e);rw[ih h2 z];rfl
  |_=>cases e
def Gig:∀{bs:List Bool}{us:List BN},Vals (bs.map V.bl) us->us=bs.map Value.bool
 |[],us,h=>by cases h;rfl
 |b::r,us,h=>by
  cases h with
  |cons h1 h2=>
   cases (show _=Value.bool b from h1);rw[Gig h2];rfl
def Gm2(bs:List Bool):((List.range bs.length).all fun i=>bs.getD i true)=bs.all id:=by
 rw[Bu,AF,AF];constructor
 ·intro h b hb;obtain⟨i,hi,e⟩:=List.getElem_of_mem hb;have:=h i (AQ.mpr hi);rw[BK,Af hi]at this;simpa[e]using this
 ·intro h i hi;have hi:=AQ.mp hi;rw[BK,Af hi];exact h _ (AY hi)
def Ggo(hc:X.calm=true):Xg X (.builtin "all") (fun xs H Q=>∃(p:BP)(bs:List Bool),xs=[.ref p]/\SqL X.K H p (bs.map V.bl)/\Q (.bl (bs.all id)) H):=by
 intro pins s O H xs us Q I r zq0;obtain⟨p,bs,e,sq,q⟩:=zq0;subst e;obtain⟨u,rfl,ru⟩:=r.one;cases (show u=Value.ref p from ru);obtain⟨its,rv,pl,hz⟩:=I.list sq;have ei:=Gig rv;subst ei;have hl:=pl.isList;refine call_all_walk (wpAny_pyIter_list hl ?_);have hne:p≠s.heap.objs.size:=by
  obtain⟨o,n,ho,_⟩:=pl;exact An (Ae ho)
 refine⟨s.heap.objs.size,[s.heap.objs.size,p],[s.heap.objs.size],_,_,_,fun i=>bs.getD i true,rfl,Walks.list (by exact I.ok.hd hc) s.heap.objs.size p hne (bs.map Value.bool).toArray,⟨⟨_,Az _ rfl,rfl,rfl⟩,hl.push _⟩,fun i v s' Q' E' hP hQ'=>?_,fun h' tk hk=>?_⟩
 ·have hP:(bs.map Value.bool)[i]?=some v:=by simpa using hP
  rw[Ar]at hP;cases z:bs[i]? with
  |none=>rw[z]at hP;cases hP
  |some b=>
   rw[z]at hP;cases (Ab hP);refine wpAny_truthy_bool ?_;have e:bs.getD i true=b:=by rw[BK,z];rfl
   have hQ2:Q' (bs.getD i true) s':=hQ';rw[e]at hQ2;exact hQ2
 ·have hs:((List.range (bs.map Value.bool).toArray.size).all fun i=>bs.getD i true)=bs.all id:=by simpa using Gm2 bs
  rw[hs];refine⟨.bl _,H,I.kept (h':=h') (t':=tk) fun b o e=>hk b o (fun z=>absurd (Ae e) (by rw[show b=s.heap.objs.size from AA.mp z];exact Ax _)) (Aj _ e),rfl,q⟩
set_option tactic.hygienic true
def Gyv{K:BM}:BlD K (fun xs H Q=>∃(p:BP)(bs:List Bool),xs=[.ref p]/\SqL K H p (bs.map V.bl)/\Q (.bl (bs.all id)) H) Yu:=by
 intro XQ O U mp H S xs vs Q rs r p;unfold Yu at p;split at p
 ·obtain⟨v,rfl,h⟩:=RepL.one r;split at p
  ·rename_i c zc;split at p
   ·rename_i bs zb;obtain⟨a,xs,rfl,_,sq,q,_⟩:=rs.items h zc;rw[Gsw q zb]at sq;exact⟨a,bs,rfl,sq,Gn.ok (R:=Rep K) p rs rfl⟩
   ·exact p.elim
  ·exact p.elim
 ·exact p.elim
set_option tactic.hygienic false
def Gyw(hc:X.calm=true)(hg:Gl X "all")(hm:X.mg "all"=none)(ha:JA X XQ [e] f)(he:⇑(starEach [e] X.env=(false,eval e X.env)::starEach [] X.env)):JE X XQ (.Call (.Name "all" p) [e] [] pos) (b1 Yu f):=Gdt (Ggo hc) Gyv hg hm (by rfl) ha (he:=he)
def spar(i j:Nat)(f:Ev (List D)):Sv:=fun U S=>bindS (f U S) U fun ds S1=>match ds with
 |[d,e]=>.nx ((U.set i (some d)).set j (some e)) S1
 |_=>.bad
def Gyx(i j:Nat){pos:Pos}(hc:X.calm=true)(hN:X.N.Nodup)(hi:X.N[i]?=some x)(hj:X.N[j]?=some y)(hij:i≠j)(hx:X.env.scope.names.lookup x=some .local)(hy:X.env.scope.names.lookup y=some .local)(ha:JA X XQ [a,b] f)(hw:swappedStores [.Tuple [.Name x px,.Name y py] kt pt] (.Tuple [a,b] k2 pt2) X.env=pure (some [x,y]))(hs:⇑(swapsWithSole [.Tuple [.Name x px,.Name y py] kt pt] (.Tuple [a,b] k2 pt2) pos.line X.env=pure false)):
  JS X XQ (.Assign [.Tuple [.Name x px,.Name y py] kt pt] (.Tuple [a,b] k2 pt2) pos) (spar i j f):=by
 refine PS.mono (Gwu hc hN hi hj hij hx hy ha hw hs) fun E O H zq0=>?_;obtain⟨mp,U,S,G,p⟩:=zq0;refine bindSP G p fun mp1 H1 ds S1 vs a1 G1 r1 p1=>?_;split at p1
 ·obtain⟨v,w,rfl,h1,h2⟩:=RepL.two r1;exact⟨v,w,rfl,PostS.nx p1 ((G1.set i h1).set j h2)⟩
 ·exact p1.elim
end
section
variable{X:Cx}{XQ:XW}
def Gvp(X:Cx)(id:String)(o:List D->Sto->Out D):Prop:=
 ∀(pins:List (BP×Obj))(s:BO)(O:L2.St)(U:Lc)(XQ:XW)(mp:List BP)(H:Hp)(S:Sto)(ds:List D)(vs:List V)(us:List BN)(Q:VK),Inv X pins O H s->RS X.K mp H S->RepL X.K mp H ds vs->Vals vs us->Post X.K XQ O U mp H (o ds S) Q→
  (∀(e:XD)(S':Sto),o ds S≠.exc e S')->wpAny (model X.prog X.w) X.A (call (.builtin id) us) (EP X pins O Q) X.xe s
def Gsx{id:String}{x:Str}{p pos:Pos}{e:Expr}{es:List Expr}{o:List D->Sto->Out D}{f:Ev (List D)}(hc:Gvp X id o)(hno:∀ds S e S',o ds S≠.exc e S')(hg:Gl X x)(hm:X.mg x=none)(hv:bootBuiltins x=some (.builtin id))(ha:JA X XQ (e::es) f)(hn:↥(x≠"__name__"))(hdb:↥((x==("__debug__":Str))=false))
  (he:⇑(starEach (e::es) X.env=(false,eval e X.env)::starEach es X.env)) (hpl:⇑((backTo pos (starEach es X.env)).any (·.1)=false)):JE X XQ (.Call (.Name x p) (e::es) [] pos) (b1 o f):=by
 intro pins s O H Q I zq0;obtain⟨mp,U,S,G,q⟩:=zq0;refine wpAny_Call_Name_kw (Wo I hg hm hv ?_ hn hdb);refine PyProof.Rows.callWith_builtin1 (thn (ha pos pins s O H _ I (bindP G q fun mp1 H1 ds S1 vs a1 G1 r1 p1=>(⟨mp1,U,S1,ds,G1,r1,p1⟩:∃mp1 U S1 ds,Gd X.K mp1 H1 O U S1/\RepL X.K mp1 H1 ds vs/\Post X.K XQ O U mp1 H1 (o ds S1) Q))) fun us s1 zq0=>?_) he hpl;obtain⟨vs,H1,I1,rv,mp1,U1,S1,ds,G1,r1,p1⟩:=zq0;exact hc pins s1 O U1 XQ mp1 H1 S1 ds vs us Q I1 G1.rs r1 rv p1 (hno _ _)
def Yo(xs:List D)(S:Sto):Out D:=match xs with
 |[.non]=>.ok (.str "None") S
 |[.bl b]=>.ok (.str (if b then "True" else "False")) S
 |[.int i]=>if i.natAbs.log2<1920 then .ok (.str (toString i)) S else .bad
 |[.str x]=>if(reprText x).length<=1000000 then .ok (.str (reprText x)) S else .bad
 |[d]=>match toP S 40 d with
  |some p=>if(p.showable&&!p.hasDict&&decide (p.depth<=60))=true/\p.shown.length<=1000000 then .ok (.str p.shown) S else .bad
  |none=>.bad
 |_=>.bad
def Gsy(ds:List D)(S:Sto)(e:XD)(S':Sto):Yo ds S≠.exc e S':=by
 unfold Yo;split<;>(try split)<;>(try split)<;>exact fun z=>nomatch z
set_option tactic.hygienic true
def Gsz(hr:Room k X.A):Gvp X "repr" Yo:=by
 intro pins s O U XQ mp H S ds vs us Q I rs r rv p hno;clear hno;have big:∀ (d:D) (v:V) (a:BP) (u:BN),Rep X.K mp H d v->v=.ref a->Hg v u->Post X.K XQ O U mp H (match toP S 40 d with
   |some p=>if(p.showable&&!p.hasDict&&decide (p.depth<=60))=true/\p.shown.length<=1000000 then .ok (.str p.shown) S else .bad
   | none=>.bad) Q->wpAny (model X.prog X.w) X.A (call (.builtin "repr") [u]) (EP X pins O Q) X.xe s:=by
  intro d v a u rd ev ru p;subst ev;cases z:toP S 40 d with
  |none=>rw[z]at p;exact p.elim
  |some q=>
   rw[z]at p;by_cases h:(q.showable&&!q.hasDict&&decide (q.depth<=60))=true/\q.shown.length<=1000000
   ·have p:Post X.K XQ O U mp H (.ok (.str q.shown) S) Q:=by simpa only[if_pos h]using p
    obtain⟨as,ra⟩:=Xv I rs 40 d _ u q rd ru z;cases (show u=Value.ref a from ru);have h1:=h.1;rw[Am,Am]at h1;have hd:q.depth<=60:=of_decide_eq_true h1.2;have hu:=hr.units;refine repr_of_reads' ra h1.1.1 (fun z=>by rw[z]at h1;simp at h1) hr.gd (by omega) (fun _ _ e=>e) (fun h' u' tk hk=>?_) (line_le h.2);exact⟨.str q.shown,H,I.kept (h':=h') (t':=tk) hk,⟨_,rfl⟩,Gn.ok p rs rfl⟩
   ·simp only[if_neg h]at p;exact p.elim
 unfold Yo at p;split at p
 ·obtain⟨v,rfl,h⟩:=RepL.one r;obtain⟨u,rfl,ru⟩:=Vals.one rv;cases (show v=.non from h);cases (show u=Value.none from ru);exact PySem.P.repr_of_none ⟨.str "None",H,I.tok _,⟨_,rfl⟩,Gn.ok (R:=Rep X.K) p rs rfl⟩
 ·rename_i b;obtain⟨v,rfl,h⟩:=RepL.one r;obtain⟨u,rfl,ru⟩:=Vals.one rv;cases (show v=.bl b from h);cases (show u=Value.bool b from ru);exact PySem.P.repr_of_bool ⟨.str _,H,I.tok _,⟨_,rfl⟩,Gn.ok (R:=Rep X.K) p rs (by cases b<;>rfl)⟩
 ·rename_i i;obtain⟨v,rfl,h⟩:=RepL.one r;obtain⟨u,rfl,ru⟩:=Vals.one rv;cases (show v=.int i from h);obtain⟨t,rfl⟩:=(show∃t,u=Value.int i t from ru)
  by_cases hi:i.natAbs.log2<1920
  ·rw[if_pos hi]at p;exact PySem.P.repr_of_int hi ⟨.str _,H,I.tok _,⟨_,rfl⟩,Gn.ok (R:=Rep X.K) p rs rfl⟩
  ·rw[if_neg hi]at p;exact p.elim
 ·rename_i x;obtain⟨v,rfl,h⟩:=RepL.one r;obtain⟨u,rfl,ru⟩:=Vals.one rv;cases (show v=.str x from h);obtain⟨t,rfl⟩:=(show∃t,u=Value.str x t from ru)
  by_cases hi:(reprText x).length<=1000000
  ·rw[if_pos hi]at p;exact PySem.P.repr_of_str ⟨.str _,H,I.tok _,⟨_,rfl⟩,Gn.ok (R:=Rep X.K) p rs rfl⟩ (line_le hi)
  ·rw[if_neg hi]at p;exact p.elim
 ·rename_i d n1 n2 n3 n4;obtain⟨v,rfl,h⟩:=RepL.one r;obtain⟨u,rfl,ru⟩:=Vals.one rv;cases d with
  |non=>exact absurd rfl n1
  |bl b=>exact absurd rfl (n2 b)
  |int i=>exact absurd rfl (n3 i)
  |str x=>exact absurd rfl (n4 x)
  |tup l=>obtain⟨a,xs,ev,_⟩:=Rep.tup h;exact big _ v a u h ev ru p
  |lst i=>obtain⟨a,ev,_⟩:=(show∃a,v=.ref a/\mp[i]?=some a/\¬Dcy H a from h);exact big _ v a u h ev ru p
  |exn c n=>obtain⟨a,dx,_,ev,_⟩:=(show∃a dx p,v=.ref a/\(CN X.K c p/\XCl X.K p/\H a=some (XO a p dx))/\∀i,n=some i->∃d,dx=some d/\H d=some (XA d i)from h);exact big _ v a u h ev ru p
  |fv c=>obtain⟨a,ev,_⟩:=(show∃a,v=.ref a/\CN X.K c a from h);exact big _ v a u h ev ru p
  |dct c=>obtain⟨a,ev,_⟩:=(show∃a,v=.ref a/\mp[c]?=some a/\Dcy H a from h);exact big _ v a u h ev ru p
 ·exact p.elim
set_option tactic.hygienic false
def Gs0(hr:Room k X.A)(hg:Gl X "repr")(hm:X.mg "repr"=none)(ha:JA X XQ [e] f)(he:⇑(starEach [e] X.env=(false,eval e X.env)::starEach [] X.env)):JE X XQ (.Call (.Name "repr" p) [e] [] pos) (b1 Yo f):=Gsx (Gsz hr) Gsy hg hm (by rfl) ha (he:=he)
end
end DL
namespace DL
open PySem
variable{es:List Expr}{env:PySem.Env}
def Gb:starEach (.Constant c j p::es) env=(false,eval (.Constant c j p) env)::starEach es env:=rfl
def Gg:starEach (.Name x p::es) env=(false,eval (.Name x p) env)::starEach es env:=rfl
def Ht:starEach (.Tuple a b p::es) env=(false,eval (.Tuple a b p) env)::starEach es env:=rfl
def Gs1:starEach (.List a p::es) env=(false,eval (.List a p) env)::starEach es env:=rfl
def Up:starEach (.Call f a k p::es) env=(false,eval (.Call f a k p) env)::starEach es env:=rfl
def Go:starEach (.Subscript a b p::es) env=(false,eval (.Subscript a b p) env)::starEach es env:=rfl
def Hu:starEach (.BinOp a o b p::es) env=(false,eval (.BinOp a o b p) env)::starEach es env:=rfl
def Gkg:starEach (.UnaryOp o a p::es) env=(false,eval (.UnaryOp o a p) env)::starEach es env:=rfl
def Gkh:starEach (.Compare a o b p::es) env=(false,eval (.Compare a o b p) env)::starEach es env:=rfl
def Goq:starEach (.IfExp a b c p::es) env=(false,eval (.IfExp a b c p) env)::starEach es env:=rfl
def Wf:starEach (.ListComp a b c p::es) env=(false,eval (.ListComp a b c p) env)::starEach es env:=rfl
end DL
namespace DL
open PySem PySem.Spec PyProof.Rows L2
variable{h:Heap}{x y qual:Str}{st:Stmt}{ps N N':List Str}{f t:Ev (List D)}{od dx:BQ BP}{osl:Array (BQ BN)}{doc pm cdv ct v:BN}{fn:Fn}{j k n:Nat}{p pos' py spos p2 np cpos hpos:Pos}{es ifs:List Expr}{P:BR}{H2 H H1:Hp}{C T:BP}{scope:Scope}{c:List (Str×BP)}{fp mp:List BP}{elt tg iter a b:Expr}{fa fb fo:Ev D}{K:BM}{S:Sto}{w:World}{A:Around}{Q:BN->BO->Prop}{X:Cx}{pins:List (BP×Obj)}{O:L2.St}{vs:Array BN}{bm:List BN}{oI:Obj}{φ:Heap->Prop}{XQ:XW}{sp:Sp}{body:List Stmt}{fc:Ev Bool}
structure Cal(P:BR)(w:World)(K:BM)(mg:Str->BQ BN)(base:Heap)(x:Str)(ps:List Str)(fn:Fn)(j:Nat):Prop where
 ex:∃f fd,FnOk P w K mg base CX0 j f fd ps (spD K ps.length fn)/\mg x=some (.ref f)/\PySem.W.keepIn K (.ref f)=true/\Binds K fd ps []
structure Dn(K:BM)(mg:Str->BQ BN)(x:Str)(st:Stmt)(ps:List Str):Prop where
 ex:∃f fd,Fun K x x st f fd/\mg x=some (.ref f)/\Binds K fd ps []
section
variable{P:BR}{w:World}{K:BM}{mg:Str->BQ BN}{base:Heap}
def Hcb{f:BP}{an:BQ BP}{kV:BN}(X:K.In h)(G:h.Ns mainGlobals mg)(a:PySem.W.nsIn K mainGlobals x=some (some (.ref f)))(l:K.lookup f=some ⟨oc,od,.func (PySem.W.fnOf x x (Jr st) (Hl st) (Gc st) .none kV doc pm an cdv ct),osl⟩)(c:PySem.W.codeIn K cdv x=true)(k:PySem.W.keepIn K (.ref f)=true)(hb:∀(kV doc pm:BN)(an:BQ BP)(cdv ct:BN)(us:List BN),us.length=ps.length->bindArgs (PySem.W.fnOf x x (Jr st) (Hl st) (Gc st) .none kV doc pm an cdv ct) ⟨us,[]⟩=pure (ps.zip us)):Dn K mg x st ps:=
 ⟨f,_,Ggc l c k,PySem.W.mg_of X G a,(Ggc (st:=st) l c k).binds hb⟩
def Gyy(N:List Str)(k:Nat)(b:Sv)(hfn:fn=fnB N.length b)(d:Dn K mg x st ps)(Sc:FnScope N ps (Gc st))(hb:∀ (f:BP) (cdv:BN) (A:Around) (outer:List PySem.Env) (s:BO) (H:Hp) (E:XK),Room k (A.deeper (envOfC x (Gc st) s.heap.objs.size f cdv))→
   JSs (Vj CX0 P w K mg base N x (Gc st) f cdv A outer s H E).nox XN (Hl st) b):Cal P w K mg base x ps fn (k+1):=by
 subst hfn;obtain⟨f,fd,F,hm,hbi⟩:=d.ex;exact⟨f,fd,Gvd F Sc (hb f),hm,F.kp,hbi⟩
end
section
variable{X:Cx}{XQ:XW}
def Gyz{e:Expr}(C:Cal X.prog X.w X.K X.mg X.base x ps fn j)(hr:Room k X.A)(ha:JA X XQ (e::es) t)(hn:ps.length=n)(hj:↥(j<=k))(hg:⇑(Gl X x))(hdb:↥((x==("__debug__":Str))=false))(he:⇑(starEach (e::es) X.env=(false,eval e X.env)::starEach es X.env))(hpl:⇑((backTo pos (starEach es X.env)).any (·.1)=false)):
  JE X XQ (.Call (.Name x p) (e::es) [] pos) (cl n (Gh fn) t):=by
 subst hn;obtain⟨f,fd,F,hm,hk,hb⟩:=C.ex;exact Gsc F hr hj hg hm hk hb ha hdb he hpl
def Ggp{v:V}(hm:X.mg x=some u)(r:Hg v u)(rep:∀mp H,Rep X.K mp H d v)(hg:Gl X x)(hd:(x==("__debug__":Str))=false):JE X XQ (.Name x pos) (cn d):=Xi (Gk7 hg hm r hd) rep
noncomputable def Hi(x:Str):Bool:=!(x==("__debug__":Str))&&!(x==("__classdict__":Str))
def okV(sc:Scope)(x:Str):Bool:=(match sc.names.lookup x with
 |some .local=>true
 |some .cell=>true
 |some .free=>true
 | _=>false)&&Hi x
noncomputable def okL(sc:Scope)(x:Str):Bool:=match sc.names.lookup x with
 |some .local=>true
 |some .cell=>true
 |_=>false
def okG(sc:Scope)(x:Str):Bool:=(match sc.names.lookup x with
 |some .globalImplicit=>true
 | _=>false)&&Hi x
def Hi.of(h:Hi x=true):(x==("__debug__":Str))=false/\(x==("__classdict__":Str))=false:=by
 unfold Hi at h;rw[Am]at h;exact⟨by simpa using h.1,by simpa using h.2⟩
def okV.vis(h:okV sc x=true):Vis sc x/\Hi x=true:=by
 unfold okV at h;rw[Am]at h;refine⟨?_,h.2⟩;have h:=h.1;split at h
 ·rename_i e;exact .inl e
 ·rename_i e;exact .inr (.inl e)
 ·rename_i e;exact .inr (.inr e)
 ·cases h
def okL.loc(h:okL sc x=true):Loc sc x:=by
 unfold okL at h;split at h
 ·rename_i e;exact .inl e
 ·rename_i e;exact .inr e
 ·cases h
def okG.gl{sc:Scope}(h:okG sc x=true):sc.names.lookup x=some .globalImplicit/\Hi x=true:=by
 unfold okG at h;rw[Am]at h;refine⟨?_,h.2⟩;have h:=h.1;split at h
 ·rename_i e;exact e
 ·cases h
structure OkV(sc:Scope)(x:Str):Prop where
 h:okV sc x=true
structure OkL(sc:Scope)(x:Str):Prop where
 h:okL sc x=true
structure OkC(sc:Scope)(x:Str):Prop where
 h:sc.names.lookup x=some .local
structure OkG(sc:Scope)(x:Str):Prop where
 h:okG sc x=true
def kdV(h:↑(okV s x=true)):OkV s x:=⟨h⟩
def kdL(h:↑(okL s x=true)):OkL s x:=⟨h⟩
def kdG(h:↑(okG s x=true)):OkG s x:=⟨h⟩
def kdS{P:List Str}{s:Scope}(a:⇑(s.kind=.function))(b:⇑(s.isCoroutine=false))(c:⇑(s.isGenerator=false))(d:↑(N.Nodup))(e:⇑(N.take P.length=P))(f:↑(∀x∈P,s.names.lookup x=some .local\/s.names.lookup x=some .cell))(g:↑(∀y∈s.names,y.2≠.free)):FnScope N P s:=⟨a,b,c,d,e,f,g⟩
def jv(i:Nat)(h:OkV X.env.scope x)(hN:⇑(X.N[i]?=some x)):JE X XQ (.Name x pos) (vr i):=Gn8 i hN (okV.vis h.h).1 (Hi.of (okV.vis h.h).2).1 (Hi.of (okV.vis h.h).2).2
def gl(h:OkG X.env.scope x):Gl X x:=(okG.gl h.h).1
def jgn(i:Nat)(hN:X.N.Nodup)(h:OkL X.env.scope x)(hi:⇑(X.N[i]?=some x))(hf:⇑(X.fn x=true)):JG X (.Name x pos) (gn i):=Ggg i hN hi (okL.loc h.h) (.inl hf)
def jset(i:Nat){f:Ev D}{pos:Pos}(hN:X.N.Nodup)(h:OkL X.env.scope x)(he:JE X XQ e f)(hi:⇑(X.N[i]?=some x))(hs:⇑(swapsWith e (some (.Name x pos')) pos.line X.env=pure false))(hf:⇑(X.fn x=true)):
  JS X XQ (.Assign [.Name x pos'] e pos) (sa f (gn i)):=Gxz i hN he hi (okL.loc h.h) hs (.inl hf)
def jown{e:Expr}(C:Cal X.prog X.w X.K X.mg X.base x ps fn j)(hr:Room k X.A)(hg:Gl X x)(hp:Hi x=true)(ha:JA X XQ (e::es) t)(hn:⇑(ps.length=n))(hj:↥(j<=k))(he:⇑(starEach (e::es) X.env=(false,eval e X.env)::starEach es X.env))(hpl:⇑((backTo pos (starEach es X.env)).any (·.1)=false)):
  JE X XQ (.Call (.Name x p) (e::es) [] pos) (cl n (Gh fn) t):=Gyz C hr ha hn hj hg (Hi.of hp).1 he hpl
def Gor(sc:Scope)(x:Str):Bool:=(match sc.names.lookup x with
 |some .local=>true
 |some .cell=>true
 |some .free=>true
 | _=>false)&&Hi x
def Jn{scope:Scope}{env:PySem.Env}{k:NameKind}(hk:k≠.free):∀(names:List (Str×NameKind)),names.lookup x=some k->(names.map fun(n,k)=>if(k==NameKind.free&&env.scope.kind==.function&&env.kindOf n==some .cell)=true then(n,NameKind.cell)else(n,k)).lookup x=some k
 |[],h=>by simp at h
 |(n,k')::r,h=>by
  rw[AB];by_cases hx:(x==n)=true
  ·rw[AC,hx]at h;have:k'=k:=by simpa using h
   subst this;have hb:(k'==NameKind.free)=false:=by simpa using hk
   simp only[hb,AN,AE,if_false,AC,hx]
  ·have hx:(x==n)=false:=by simpa using hx
   rw[AC,hx]at h;have:=Jn (scope:=scope) (env:=env) hk r h;by_cases hq:(k'==NameKind.free&&env.scope.kind==.function&&env.kindOf n==some .cell)=true
   ·simpa only[hq,if_true,AC,hx]using this
   ·simpa only[hq,AE,if_false,AC,hx]using this
def Ggq{s2:BO}(h:Gor scope x=true):Vis (blk X s2 H2 C scope c N' fp).env.scope x/\Hi x=true:=by
 unfold Gor at h;rw[Am]at h;refine⟨?_,h.2⟩;have h:=h.1;split at h
 ·rename_i e;exact .inl (lookup_relabel_local e)
 ·rename_i e;exact .inr (.inl (Jn (scope:=scope) (env:=X.env) (by decide) scope.names e))
 ·rename_i e;exact .inr (Qc (scope:=scope) (env:=X.env) scope.names e)
 ·cases h
def jvB(i:Nat){s2:BO}(h:Gor scope x=true)(hN:⇑(N'[i]?=some x)):JE (blk X s2 H2 C scope c N' fp) XQ (.Name x pos) (vr i):=
 Gn8 i hN (Ggq h).1 (Hi.of (Ggq (X:=X) (s2:=s2) (H2:=H2) (C:=C) (c:=c) (N':=N') (fp:=fp) h).2).1 (Hi.of (Ggq (X:=X) (s2:=s2) (H2:=H2) (C:=C) (c:=c) (N':=N') (fp:=fp) h).2).2
def glB{s2:BO}(h:okG scope x=true):Gl (blk X s2 H2 C scope c N' fp) x:=
 Jn (scope:=scope) (env:=X.env) (by decide) scope.names (okG.gl h).1
noncomputable def Gs2(sc:Scope)(x:Str):Bool:=match sc.names.lookup x with
 |some .local=>true
 |some .cell=>true
 |_=>false
def Hei(i:Nat){s2:BO}(hN:N'.Nodup)(h:Gs2 scope x=true)(hi:⇑(N'[i]?=some x)):JG (blk X s2 H2 C scope c N' fp) (.Name x pos) (gn i):=by
 unfold Gs2 at h;split at h
 ·rename_i e;exact Ggg i hN hi (.inl (lookup_relabel_local e)) (.inr (lookup_relabel_local e))
 ·rename_i e;exact Ggg i hN hi (.inr (Jn (scope:=scope) (env:=X.env) (by decide) scope.names e)) (.inl (by show(scope.names.lookup x==some NameKind.cell)=true;rw[e];rfl))
 ·cases h
def jcomp{pk:List (BQ Nat)}{f:Ev Src}{t:Ev Bool}(hsc:X.env.scope=sc)(hNN:X.N=N)(ct:CompTab sc scope N N' pk)(hcm:X.calm=true)(hi:JI X XQ tg iter f)(hg:∀cl s2 H2 C fp,JG (blk X s2 H2 C scope cl N' fp) tg g)(ht:∀cl s2 H2 C fp,JTs (blk X s2 H2 C scope cl N' fp) XN ifs t)(he:∀cl s2 H2 C fp,JE (blk X s2 H2 C scope cl N' fp) XN elt e)(hs:autoParam (∀x,foldedSetIterable iter X.env x=pure x) zQ4):JE X XQ (.ListComp elt [⟨tg,iter,ifs,0⟩] scope pos) (cmp f pk g t e):=by
 subst hsc hNN;exact Gsg ct hcm hi hg ht he hs
def Gos(i:Nat){pk:List (BQ Nat)}{f:Ev Src}{t:Ev Bool}(hsc:X.env.scope=sc)(hNN:X.N=N)(ct:CompTab sc scope N N' pk)(hcm:X.calm=true)(hi:JI X XQ tg iter f)(hg:∀cl s2 H2 C fp,JG (blk X s2 H2 C scope cl N' fp) tg g)(ht:∀cl s2 H2 C fp,JTs (blk X s2 H2 C scope cl N' fp) XN ifs t)(he:∀cl s2 H2 C fp,JE (blk X s2 H2 C scope cl N' fp) XN elt e)(hN:X.N.Nodup)(hl:OkL X.env.scope y)(hsw:swapsWith (.ListComp elt [⟨tg,iter,ifs,0⟩] scope pos) (some (.Name y py)) spos.line X.env=pure true)(hy:⇑(X.N[i]?=some y))(hs:autoParam (∀x,foldedSetIterable iter X.env x=pure x) zQ4)(hf:⇑(X.fn y=true)):
  JS X XQ (.Assign [.Name y py] (.ListComp elt [⟨tg,iter,ifs,0⟩] scope pos) spos) (sa (cmp f pk g t e) (gn i)):=by
 subst hsc hNN;exact Gkd i ct hcm hi hg ht he hN hy (okL.loc hl.h) hsw hs (.inl hf)
end
section
variable{X:Cx}{XQ:XW}
def Gy0{j:Int}(h1:0<j)(h2:j<2^200):j.natAbs.log2<9000:=by
 have h3:j.natAbs<2^200:=by omega
 exact Ag ((Nat.log2_lt (by omega)).mpr h3) (by decide)
def Got:OpR X (binaryOp .FloorDiv) (rI (fun _ j=>0<j/\j<2^200) fun i j=>.int (i / j)):=opI fun i j _ _ _ _ _ hc q=>by
 have h1:(0:Int)<j:=hc.1;have h2:j<2^200:=hc.2;exact floordiv_int (by omega) (by rw[Int.fdiv_eq_ediv_of_nonneg i (by omega)];exact q) (.inl (PyProof.noPylong_of_log2 (Gy0 h1 h2)))
abbrev Wg:=i2 (fun _ j=>decide (0<j/\j<2^200)) fun i j=>.int (i / j)
def Gs3(ha:JE X XQ a fa)(hb:JE X XQ b fb):JE X XQ (.BinOp a .FloorDiv b pos) (o2 Wg fa fb):=Gfp Got (Ggl (fun _ j h=>(of_decide_eq_true h:0<j/\j<2^200)) fun _ _ _ _=>rfl) ha hb
def Yz:List D->BQ (List Int)
 |[]=>some []
 |.int i::r=>(Yz r).map (i::·)
 |_::_=>none
def RepL.ints:∀{l:List D}{vs:List V}{ns:List Int},RepL K mp H l vs->Yz l=some ns->vs=ns.map V.int
 |[],vs,ns,h,e=>by
  cases (show vs=[]from h);cases (Ab (show some []=some ns from e));rfl
 |d::l,vs,ns,h,e=>by
  obtain⟨v,r,rfl,h1,h2⟩:=h;cases d with
  |int i=>
   have e:(Yz l).map (i::·)=some ns:=e;cases z:Yz l with
   |none=>rw[z]at e;cases e
   |some ms=>
    rw[z]at e;cases (Ab e);cases (show v=.int i from h1);rw[RepL.ints h2 z];rfl
  |_=>cases (show(none:BQ (List Int))=some ns from e)
def Gih{ns:List Int}(its:List BN)(r':Vals (ns.map V.int) its):∃xs:Array (Int×Tok),its.toArray=intItems xs/\preSum (numAt xs) xs.size=ns.sum/\ns=xs.toList.map (·.1):=by
 have hi:=Gj8 r';obtain⟨xs,hx⟩:=hi.allInts.items;have hn:numsOf its.toArray.toList=ns:=by rw[show its.toArray.toList=its from rfl,hi.numsOf]
 rw[hx,nums_intItems]at hn;refine⟨xs,hx,?_,hn.symm⟩;rw[preSum_eq,BL (by simp),hn]
def Gou(hc:X.calm=true):Xg X (.builtin "sum") (fun xs H Q=>∃(p:BP)(ns:List Int),xs=[.ref p]/\(SqL X.K H p (ns.map V.int)\/SqT X.K H p (ns.map V.int))/\Q (.int ns.sum) H):=by
 intro pins s O H xs us Q I r h;obtain⟨p,ns,rfl,hq,q⟩:=h;obtain⟨u,rfl,rx⟩:=Gcn r;cases rx;rcases hq with hq|hq
 ·obtain⟨its,r',pl,hz⟩:=I.list hq;obtain⟨xs,hx,e,_⟩:=Gih its r';have hl:=pl.isList;rw[hx]at hl;exact sum_intListG (I.ok.hd hc) hl fun h' tk t' hk=>⟨.int ns.sum,H,I.kept hk,⟨t',by rw[e]⟩,q⟩
 ·obtain⟨its,r',pl,hz⟩:=I.tuple hq;obtain⟨xs,hx,e,_⟩:=Gih its r';have hl:s.heap.IsTuple p its.toArray:=pl;rw[hx]at hl;exact PySem.W.ktm_sumG (I.ok.hd hc) hl fun h' tk t' hk=>⟨.int ns.sum,H,I.kept hk,⟨t',by rw[e]⟩,q⟩
def Gvq(x:D)(S:Sto):BQ (List D):=match x with
 |.tup l=>some l
 |.lst i=>(S[i]?).map (·.xs)
 |_=>none
def Gy1{x:D}{v:V}(rs:RS K mp H S)(h:Rep K mp H x v)(e:Gvq x S=some l):∃a xs,v=.ref a/\(SqL K H a xs\/SqT K H a xs)/\RepL K mp H l xs:=by
 cases x with
 |tup ds=>
  cases (Ab (show some ds=some l from e));obtain⟨a,xs,rfl,s,q⟩:=Rep.tup h;exact⟨a,xs,rfl,.inr s,q⟩
 |lst i=>
  have e:(S[i]?).map (·.xs)=some l:=e;cases z:S[i]? with
  |none=>rw[z]at e;cases e
  |some c=>
   rw[z]at e;cases (Ab e);obtain⟨a,xs,rfl,_,s,q,_⟩:=rs.items h z;exact⟨a,xs,rfl,.inl s,q⟩
 |_=>cases (show(none:BQ (List D))=some l from e)
def Gaw(xs:List D)(S:Sto):Out D:=match xs with
 |[x]=>match (Gvq x S).bind Yz with
  |some ns=>.ok (.int ns.sum) S
  |none=>.bad
 |_=>.bad
def Gy2:BlD K (fun xs H Q=>∃(p:BP)(ns:List Int),xs=[.ref p]/\(SqL K H p (ns.map V.int)\/SqT K H p (ns.map V.int))/\Q (.int ns.sum) H) Gaw:=by
 intro XQ O U mp H S xs vs Q rs r p;unfold Gaw at p;split at p
 ·rename_i x;obtain⟨v,rfl,h⟩:=RepL.one r;split at p
  ·rename_i ns z;obtain⟨l,e1,e2⟩:=Option.bind_eq_some_iff.mp z;obtain⟨a,ys,rfl,sq,q⟩:=Gy1 rs h e1;cases q.ints e2;exact⟨a,ns,rfl,sq,Gn.ok (R:=Rep K) p rs rfl⟩
  ·exact p.elim
 ·exact p.elim
def Gy3(hc:X.calm=true)(hg:Gl X "sum")(hm:X.mg "sum"=none)(ha:JA X XQ [e] f)(he:⇑(starEach [e] X.env=(false,eval e X.env)::starEach [] X.env)):JE X XQ (.Call (.Name "sum" p) [e] [] pos) (b1 Gaw f):=Gdt (Gou hc) Gy2 hg hm (by rfl) ha (he:=he)
def Hej(xs:List D)(S:Sto):Out D:=match xs with
 |[.int i,.int j]=>.ok (.int (if j>i then j else i)) S
 |_=>.bad
def sag(i:Nat)(g:Int->Int->Int)(f:Ev D):Sv:=fun U S=>match U[i]? with
 |some (some (.int a))=>bindS (f U S) U fun d S1=>match d with
  |.int b=>.nx (U.set i (some (.int (g a b)))) S1
  |_=>.bad
 |_=>.bad
end
def Gbb{prog:BR}{E:BN->BO->Prop}{s:BO}{t sl:BP}{items:Array BN}{vl vu:BN}{lo hi:BQ Int}(ht:IsTup s.heap t items)(hs:s.heap.IsSliceOf sl vl vu .none)(pl:IsPart vl lo)(pu:IsPart vu hi)(hw:HT.sIx items.size 0 lo=0/\HT.sIx items.size items.size hi=items.size)(h:Q (.ref t) s):wpAny (model prog w) A (getItem (.ref t) (.ref sl)) Q E s:=by
 obtain⟨os,hos,hcs,hds⟩:=id hs;have hTs:s.TypeIs (.ref sl) "slice":=⟨os,hos,hcs⟩
 unfold getItem
 try with_reducible refine wpAny_holding ?_
 first|refine wpAny_bind (wpAny_pure ?_)|skip
 refine wpAny_bind (wpAny_sequenceKey ht.typeIs (by decide) ?_);refine wpAny_bind (wpAny_callSpecial?_slot (name:=Str.ofString "__getitem__") ht.typeIs PyProof.Rows.slot_tuple_getitem
  (wpAny_call_entry PyProof.Rows.slot_tuple_getitem ht.typeIs entry_tuple_getitem ?_ (args_tuple_getitem _ _)))
 show wpAny _ _ (Builtin.Tuple.tupleItemsOf (.ref t) >>= _) _ _ s;refine wpAny_bind (tupleItemsOf_ ht ?_);refine wpAny_bind (wpAny_typeOf hTs ?_);rw[if_pos (by decide)];refine wpAny_bind (HT.Xh hs pl pu ?_);show wpAny _ _ (if(((HT.sIx items.size 0 lo:Nat):Int)==0&&(1:Int)==1&&(HT.sIx items.size items.size hi-HT.sIx items.size 0 lo)==items.size)=true then _ else _) _ _ s;rw[if_pos (by rw[hw.1,hw.2];simp)];unfold Builtin.Tuple.tupleIsExact;refine wpAny_bind (wpAny_bind (wpAny_typeOf ht.typeIs (wpAny_pure ?_)));rw[if_pos (by decide)];exact wpAny_bind (wpAny_rule (wpAny_pure ⟨_,rfl,wpAny_pure h⟩))
section
variable{X:Cx}{XQ:XW}
def Hek(K:BM):V->BQ Int->BQ Int->Hp->VK->Prop:=fun x lo hi H Q=>∃a xs,x=.ref a/\SqT K H a xs/\(HT.sIx xs.length 0 lo=0/\HT.sIx xs.length xs.length hi=xs.length)/\Q (.ref a) H
def Gy4:SlR X (Hek X.K):=by
 intro pins s O H x v vl vu lo hi sl Q I rx hs pl pu h;obtain⟨a,xs,rfl,hx,hw,q⟩:=h;cases rx;obtain⟨its,r,ht,hz⟩:=I.tuple hx;have hlen:its.toArray.size=xs.length:=by rw[Aq];exact r.length.symm
 refine⟨"tuple",_,PyProof.Rows.slot_tuple_getitem.lookup,ht.typeIs,?_⟩;exact Gbb ht hs pl pu (by rw[hlen];exact hw) ⟨.ref a,H,I,rfl,q⟩
def Wp(x:D)(lo hi:BQ Int)(S:Sto):Out D:=match x with
 |.tup l=>if HT.sIx l.length 0 lo=0/\HT.sIx l.length l.length hi=l.length then .ok (.tup l) S else .ok (.tup (Kl l lo hi)) S
 |.lst i=>match S[i]? with
  |some c=>.ok (.lst S.length) (S++[⟨false,Kl c.xs lo hi⟩])
  |none=>.bad
 |_=>.bad
def sl2(fe:Ev D)(fl fh:Ev (BQ Int)):Ev D:=fun U S=>(fe U S).bind fun x S1=>(fl U S1).bind fun l S2=>(fh U S2).bind fun u S3=>Wp x l u S3
def Gm3{e:Expr}{lo hi:BQ Expr}{fe:Ev D}{fl fh:Ev (BQ Int)}{pos:Pos}(he:JE X XQ e fe)(hl:JO X XQ lo fl)(hh:JO X XQ hi fh):JE X XQ (.Subscript e (.Slice lo hi none p2) pos) (sl2 fe fl fh):=by
 refine PE.mono (Gn4 ((Gr1.or Gxb).or Gy4) he hl hh) fun O H Q zq0=>?_;obtain⟨mp,U,S,G,p⟩:=zq0;refine bindP G p fun mp1 H1 x S1 v a1 G1 r1 p1=>?_;refine bindP G1 p1 fun mp2 H2 l S2 l' a2 G2 r2 p2=>?_;refine bindP G2 p2 fun mp3 H3 u S3 u' a3 G3 r3 p3=>?_;cases (show l'=l from r2);cases (show u'=u from r3);have r1:=Rep.aft (a2.trans a3) _ _ r1;cases x with
 |tup ds=>
  have p3:Post X.K XQ O U mp3 H3 (if HT.sIx ds.length 0 l=0/\HT.sIx ds.length ds.length u=ds.length then .ok (.tup ds) S3 else .ok (.tup (Kl ds l u)) S3) Q:=p3;obtain⟨a,xs,rfl,sq,q⟩:=Rep.tup r1;by_cases hw:HT.sIx ds.length 0 l=0/\HT.sIx ds.length ds.length u=ds.length
  ·rw[if_pos hw]at p3;exact .inr ⟨a,xs,rfl,sq,by rw[q.len];exact hw,Gn.ok (R:=Rep X.K) p3 G3.rs r1⟩
  ·rw[if_neg hw]at p3;exact .inl (.inr ⟨a,xs,rfl,sq,by rw[q.len];exact hw,fun t ht=>Yw p3 G3.rs (q.cut l u) ht⟩)
 |lst i=>
  have p3:Post X.K XQ O U mp3 H3 (match S3[i]? with|some c=>.ok (.lst S3.length) (S3++[⟨false,Kl c.xs l u⟩])|none=>.bad) Q:=p3;cases zc:S3[i]? with
  |none=>rw[zc]at p3;exact p3.elim
  |some c=>
   rw[zc]at p3;obtain⟨a,xs,rfl,_,sq,q,_⟩:=G3.rs.items r1 zc;exact .inl (.inl ⟨a,xs,rfl,sq,fun t ht=>Xj p3 G3.rs (q.cut l u) ht⟩)
 |_=>exact(show False from p3).elim
end
def turnedL{s:BO}{g:Heap}{ch:List BP}(I:Inv X pins O H s)(k:∀b o,b∉ch->s.heap.get? b=some o->g.get? b=some o)(hf:∀b∈ch,Gc3 X pins H b):Inv X pins O H {s with heap:=g,toks:=tk}:=by
 have nit:∀b u,H b=some u->b∉ch:=fun b u e z=>by have:=(hf b z).1;rw[this]at e;cases e
 refine I.step (g':=s.gens) (d':=s.drawn) (ch:=ch) (fun b hb=>?_) (fun b o _ _ hc e _=>k b o hc e) (fun b o _ _ hc e _=>⟨o.slots,k b o hc e⟩) (fun _ _ _ _ n=>n)
  (fun b o hc e=>⟨o,k b o hc e⟩) (fun _ _ e=>e) (fun _ _ _ e=>e) (fun b ps e=>⟨#[],by rw[e];simp⟩) (fun m hm=>?_) (fun b u e=>?_) I.bare
 ·obtain⟨f0,f1,f2,f3,f4,f5⟩:=hf b hb;exact⟨f3,f1,f4,f5⟩
 ·obtain⟨o,es,ep,ho,r⟩:=hm;exact⟨o,es,ep,k _ o (fun z=>(hf _ z).2.1 rfl) ho,r⟩
 ·refine(I.hok b u e).stay (fun c v hc q=>k c v ?_ q) (fun _ q=>q) fun _ _ q=>q;rcases hc with z|z
  ·rw[z];exact nit b u e
  ·exact nit c _ z
section
variable{prog:BR}{w:World}{A:Around}{E:BN->BO->Prop}{s:BO}
def Gs4{j t:BP}{y:BN}(pit:s.heap.IsTupleIter j t k)(pt:s.heap.IsTuple t vs)(py:vs[k]?=some y)(fin:∀g,g.IsTupleIter j t (k+1)->Heap.SameBut j s.heap g->Q y {s with heap:=g}):wpAny (model prog w) A (Builtin.SmallTypes.nextOf (.ref j)) Q E s:=by
 obtain⟨u,pu,pc,pd⟩:=id pit;obtain⟨v,pv,_,m,pe⟩:=pt;unfold Builtin.SmallTypes.nextOf;refine wpAny_bind (wpAny_callSpecial?_slot (name:=Str.ofString "__next__") pit.typeIs F.slot_tuple_iterator_next (wpAny_call_entry F.slot_tuple_iterator_next pit.typeIs F.entry_tuple_iterator_next ?_ (F.args_tuple_iterator_next_1 _)));show wpAny _ _ (field (.ref j) 0 >>= _) _ _ s;refine wpAny_bind (wpAny_field pu pd (x:=.ref t) rfl ?_);show wpAny _ _ (if(Value.ref t==Value.none)=true then _ else _) _ _ _;rw[if_neg (by exact Ap)];show wpAny _ _ (field (.ref j) 1 >>= _) _ _ s;refine wpAny_bind (wpAny_field pu pd (x:=.int k 0) rfl ?_);show wpAny _ _ (seqItems? (.ref t) >>= _) _ _ _;refine wpAny_bind (wpAny_seqItems pv pe ?_);simp only[AK,py];refine wpAny_bind (wpAny_setField pu pd (by simp) (wpAny_pure ⟨y,rfl,wpAny_pure (fin _ ?_ (Heap.SameBut.update ..))⟩));exact⟨_,AU _ pu (Obj.isFreed_of_fields (Obj.data_mapFields pd _)),(Obj.cls_mapFields ..).trans pc,by rw[Obj.data_mapFields pd];simp[rawInt]⟩
def Gy5{j t:BP}(no:A.handled=none)(pit:s.heap.IsTupleIter j t k)(pt:s.heap.IsTuple t vs)(py:vs[k]?=none)(fin:∀g e,Heap.ExtBut j s.heap g->(∃o,g.get? e=some o/\o.cls=.type "StopIteration")->E (.ref e) {s with heap:=g}):wpAny (model prog w) A (Builtin.SmallTypes.nextOf (.ref j)) Q E s:=by
 obtain⟨u,pu,pc,pd⟩:=id pit;obtain⟨v,pv,_,m,pe⟩:=pt;unfold Builtin.SmallTypes.nextOf;refine wpAny_bind (wpAny_callSpecial?_slot (name:=Str.ofString "__next__") pit.typeIs F.slot_tuple_iterator_next (wpAny_call_entry F.slot_tuple_iterator_next pit.typeIs F.entry_tuple_iterator_next ?_ (F.args_tuple_iterator_next_1 _)));show wpAny _ _ (field (.ref j) 0 >>= _) _ _ s;refine wpAny_bind (wpAny_field pu pd (x:=.ref t) rfl ?_);show wpAny _ _ (if(Value.ref t==Value.none)=true then _ else _) _ _ _;rw[if_neg (by exact Ap)];show wpAny _ _ (field (.ref j) 1 >>= _) _ _ s;refine wpAny_bind (wpAny_field pu pd (x:=.int k 0) rfl ?_);show wpAny _ _ (seqItems? (.ref t) >>= _) _ _ _;refine wpAny_bind (wpAny_seqItems pv pe ?_);simp only[AK,py];refine wpAny_bind (wpAny_rule (wpAny_bind (wpAny_setField pu pd (by simp) ?_)));show wpAny _ _ (newExc (.type "StopIteration") [] >>= _) _ _ (_:BO);refine wpAny_bind ?_;simp only[newExc,newTuple];refine wpAny_bind (wpAny_newObj_type ?_ (by size_fits));refine wpAny_bind (m:=firstArgMember _ _) (wpAny_of_eq (a:=Value.none) (by(first|rfl|(simp only[firstArgMember];rfl))) ?_);refine wpAny_newObj_type ?_ (by size_fits);simp only[raiseNew];refine wpAny_bind (wpAny_handled ?_)
 first
  |rw[show A.in1.handled=none from no]
  |rw[no]
 refine wpAny_bind (wpAny_pure (wpAny_throw ?_));exact fin _ _ (((Heap.SameBut.update ..).extBut.push _).push _) ⟨_,Az _ rfl,rfl⟩
def Gs5{j t:BP}{y:BN}{Q:BQ BN->BO->Prop}(pe:IsEnum s.heap e j k old)(pit:s.heap.IsTupleIter j t k)(pt:s.heap.IsTuple t vs)(py:vs[k]?=some y)(ne:e≠j)(fin:∀ g,IsEnumOut g e j ((k:Int)+1) y s.heap.objs.size->g.IsTupleIter j t (k+1)->g.get? s.heap.objs.size=some { cls:=.type "tuple",data:=.seq #[.int k s.toks,y] }→
   (∀ b o,b≠e->b≠j->s.heap.get? b=some o->g.get? b=some o)->Q (some (.ref s.heap.objs.size)) { s with heap:=g,toks:=s.toks+1 }):wpAny (model prog w) A (pyNext (.ref e)) Q E s:=by
 have ty:s.TypeIs (.ref e) "enumerate":=⟨_,pe,rfl⟩
 unfold pyNext;refine wpAny_bind (wpAny_attempt (wpAny_callSpecial?_slot (name:=Str.ofString "__next__") ty F.slot_enumerate_next (wpAny_call_entry F.slot_enumerate_next ty F.entry_enumerate_next ?_ (F.args_enumerate_next_1 _))));obtain⟨hp,gs,dr,tk,os⟩:=s;show wpAny _ _ (field (.ref e) 2 >>= _) _ _ (_:BO);refine wpAny_bind (wpAny_field pe rfl (x:=.ref j) rfl ?_);refine wpAny_bind (Gs4 pit pt py fun g1 i1 b1=>?_);replace b1:Heap.SameBut j hp g1:=b1;have q1:IsEnum g1 e j k old:=(b1.2 e ne).trans pe;show wpAny _ _ (field (.ref e) 3 >>= _) _ _ ⟨g1,gs,dr,tk,os⟩;refine wpAny_bind (wpAny_field q1 rfl (x:=rawInt k) rfl ?_);show wpAny _ _ (field (.ref e) 4 >>= _) _ _ ⟨g1,gs,dr,tk,os⟩;refine wpAny_bind (wpAny_field q1 rfl (x:=.none) rfl ?_);show wpAny _ _ (mkInt k >>= _) _ _ ⟨g1,gs,dr,tk,os⟩;refine wpAny_bind (wpAny_mkInt ?_);show wpAny _ _ (setField (.ref e) 3 (rawInt ((k:Int)+1)) >>= _) _ _ ⟨g1,gs,dr,tk+1,os⟩;refine wpAny_bind (wpAny_setField_rec q1 (by simp) fun g2 q2 b2=>?_);replace b2:Heap.SameBut e g1 g2:=b2;replace q2:IsEnum g2 e j ((k:Int)+1) old:=q2;show wpAny _ _ (setField (.ref e) 4 .none >>= _) _ _ ⟨g2,gs,dr,tk+1,os⟩;refine wpAny_bind (wpAny_setField_rec q2 (by simp) fun g3 q3 b3=>?_);replace b3:Heap.SameBut e g2 g3:=b3;replace q3:IsEnum g3 e j ((k:Int)+1) old:=q3;show wpAny _ _ (newTuple [.int k tk,y] >>= _) _ _ ⟨g3,gs,dr,tk+1,os⟩;refine wpAny_bind (wpAny_newTuple ?_);have q4:IsEnum (g3.push {cls:=.type "tuple",data:=.seq #[.int k tk,y]}) e j ((k:Int)+1) old:=Aj _ q3;have sz:g3.objs.size=hp.objs.size:=by rw[b3.1,b2.1,b1.1]
 have el:e<hp.objs.size:=Ae pe;have t4:(g3.push {cls:=.type "tuple",data:=.seq #[.int k tk,y]}).get? hp.objs.size=some {cls:=.type "tuple",data:=.seq #[.int k tk,y]}:=by rw[<- sz];exact Az _ rfl
 have k4:∀b o,b≠e->b≠j->hp.get? b=some o->(g3.push {cls:=.type "tuple",data:=.seq #[.int k tk,y]}).get? b=some o:=fun b o z1 z2 z3=>
  Aj _ (b3.extBut b o z1 (b2.extBut b o z1 (b1.extBut b o z2 z3)))
 have i4:(g3.push {cls:=.type "tuple",data:=.seq #[.int k tk,y]}).IsTupleIter j t (k+1):=by
  obtain⟨o,ho,r⟩:=(i1.extBut b2.extBut (Ne.symm ne)).extBut b3.extBut (Ne.symm ne);exact⟨o,Aj _ ho,r⟩
 generalize g3.push {cls:=.type "tuple",data:=.seq #[.int k tk,y]}=g4 at *;rw[sz];show wpAny _ _ (Builtin.SmallTypes.ownedTupleIsFree (.ref e) >>= _) _ _ ⟨g4,gs,dr,tk+1,os⟩;refine wpAny_bind ?_;unfold Builtin.SmallTypes.ownedTupleIsFree;refine wpAny_bind (wpAny_field q4 rfl (x:=.none) rfl (wpAny_pure ?_));simp only[if_true];refine wpAny_bind (wpAny_rule ?_);refine wpAny_bind (wpAny_field q4 rfl (x:=old) rfl ?_);refine wpAny_bind (wpAny_setField_rec q4 (by simp) fun g5 q5 b5=>?_);replace b5:Heap.SameBut e g4 g5:=b5;replace q5:IsEnum g5 e j ((k:Int)+1) y:=q5;show wpAny _ _ (Builtin.SmallTypes.ownedTupleHandOut (.ref e) (.ref hp.objs.size) >>= _) _ _ ⟨g5,gs,dr,tk+1,os⟩;refine wpAny_bind ?_;unfold Builtin.SmallTypes.ownedTupleHandOut;refine wpAny_bind (wpAny_setField_rec q5 (by simp) fun g6 q6 b6=>?_);replace b6:Heap.SameBut e g5 g6:=b6;replace q6:IsEnumOut g6 e j ((k:Int)+1) y hp.objs.size:=q6;refine wpAny_setField_rec q6 (by simp) fun g7 q7 b7=>?_;replace b7:Heap.SameBut e g6 g7:=b7;replace q7:IsEnumOut g7 e j ((k:Int)+1) y hp.objs.size:=q7;refine wpAny_bind (wpAny_letGo (wpAny_pure ⟨_,rfl,wpAny_pure (fin g7 q7 ?_ ?_ ?_)⟩))
 ·exact((i4.extBut b5.extBut (Ne.symm ne)).extBut b6.extBut (Ne.symm ne)).extBut b7.extBut (Ne.symm ne)
 ·exact b7.extBut _ _ (AW el) (b6.extBut _ _ (AW el) (b5.extBut _ _ (AW el) t4))
 ·exact fun b o z1 z2 z3=>b7.extBut b o z1 (b6.extBut b o z1 (b5.extBut b o z1 (k4 b o z1 z2 z3)))
def Gy6{j t:BP}{Q:BQ BN->BO->Prop}(no:A.handled=none)(pe:IsEnum s.heap e j k old)(pit:s.heap.IsTupleIter j t k)(pt:s.heap.IsTuple t vs)(py:vs[k]?=none)(fin:∀g,Heap.ExtBut j s.heap g->Q none {s with heap:=g}):wpAny (model prog w) A (pyNext (.ref e)) Q E s:=by
 have ty:s.TypeIs (.ref e) "enumerate":=⟨_,pe,rfl⟩
 unfold pyNext;refine wpAny_bind (wpAny_attempt (wpAny_callSpecial?_slot (name:=Str.ofString "__next__") ty F.slot_enumerate_next (wpAny_call_entry F.slot_enumerate_next ty F.entry_enumerate_next ?_ (F.args_enumerate_next_1 _))));show wpAny _ _ (field (.ref e) 2 >>= _) _ _ (_:BO);refine wpAny_bind (wpAny_field pe rfl (x:=.ref j) rfl ?_);refine wpAny_bind (Gy5 no pit pt py fun g x b1 zq0=>?_);obtain⟨o,ho,hc⟩:=zq0;refine wpAny_bind (wpAny_isInstance (T:="StopIteration") (b:=true) ⟨o,ho,hc⟩ isSubtype_stop ?_);exact wpAny_pure (fin _ b1)
abbrev enG(g:Heap)(t:BP):Heap:=g.push {cls:=.type "tuple_iterator",data:=.fields #[.ref t,.int 0 0]}
set_option tactic.hygienic true
def Gov(t:BP)(vs:Array BN)(n:Nat)(dd:BQ BP)(sl:Array (BQ BN)):
  Meets (Builtin.«enumerate.__new__» ⟨[.type "enumerate",.ref t],[]⟩) (fun _ R s=>s.heap.get? t=some { cls:=.type "tuple",dict:=dd,data:=.seq vs n,slots:=sl }∧
   R (.ok (.ret (.ref (enG s.heap t).objs.size))) { s with heap:=(enG s.heap t).push { cls:=.type "enumerate",data:=.fields #[.none,.bool false,.ref s.heap.objs.size,rawInt 0,.none,.none] } }):=
 .of_wp fun prog w A R s h=>by
  obtain⟨hp,g,d,tk,os⟩:=s;obtain⟨hl,h⟩:=h;have hsub:=sub_enumerate;have hT:Heap.IsTuple (Shared.heap ⟨hp,g,d,tk,os⟩) t vs:=⟨_,hl,rfl,n,rfl⟩
  wp_walk using AutoSeq1.wpAny_loadPart' hl
  refine wpAny_stack_any fun st=>wpAny_pure ?_;split
  ·rename_i c _ _ _ _ _;cases (c==Value.type "enumerate")
   ·wp_walk using AutoSeq1.wpAny_loadPart' hl,wpAny_pyIter_tuple hT
    exact⟨_,rfl,h⟩
   ·wp_walk using AutoSeq1.wpAny_loadPart' hl,wpAny_pyIter_tuple hT
    exact⟨_,rfl,h⟩
  ·wp_walk using AutoSeq1.wpAny_loadPart' hl,wpAny_pyIter_tuple hT
   exact⟨_,rfl,h⟩
set_option tactic.hygienic false
def Gs6{t:BP}(pt:s.heap.IsTuple t vs)(fin:∀g,IsEnum g (s.heap.objs.size+1) s.heap.objs.size 0 .none->g.IsTupleIter s.heap.objs.size t 0->(∀b o,s.heap.get? b=some o->g.get? b=some o)->Q (.ref (s.heap.objs.size+1)) {s with heap:=g}):
  wpAny (model prog w) A (call (.type "enumerate") [.ref t]) Q E s:=by
 obtain⟨⟨oc,od,odt,osl⟩,ho,hc,n,hd⟩:=pt;cases (show oc=.type "tuple" from hc);cases (show odt=.seq vs n from hd);refine callType_new F.called_enumerate (by decide) (F.typeCall_enumerate_1 _) (F.newCall_enumerate_1 _) (fun obj=>F.args_object_init_2 obj _) F.entry_enumerate_new (Gov t vs n od osl) ⟨ho,?_⟩;have hz:(enG s.heap t).objs.size=s.heap.objs.size+1:=AR ..;have he:IsEnum ((enG s.heap t).push {cls:=.type "enumerate",data:=.fields #[.none,.bool false,.ref s.heap.objs.size,rawInt 0,.none,.none]}) (s.heap.objs.size+1) s.heap.objs.size 0 .none:=by
  have:=Az (enG s.heap t) (o:={cls:=.type "enumerate",data:=.fields #[.none,.bool false,.ref s.heap.objs.size,rawInt 0,.none,.none]}) rfl;rw[hz]at this;exact this
 show _/\_;rw[hz];exact⟨⟨_,he,rfl⟩,fin _ he ⟨_,Aj _ (Az _ rfl),rfl,rfl⟩ fun b o x=>Aj _ (Aj _ x)⟩
end
def Gii{s:BO}{g:Heap}{ch:List BP}{vs:List V}{us:List BN}(I:Inv X pins O H s)(hn:H s.heap.objs.size=none)(hz:vs.length<=sizeLine)(rv:Vals vs us)(tt:g.get? s.heap.objs.size=some {cls:=.type "tuple",data:=.seq us.toArray})(k:∀b o,b∉ch->s.heap.get? b=some o->g.get? b=some o)(hf:∀b∈ch,Gc3 X pins H b)(ltf:∀b∈ch,b≠s.heap.objs.size):
  Inv X pins O (upd H s.heap.objs.size (.tup vs)) {s with heap:=g,toks:=tk}:=by
 have I1:Inv X pins O (upd H s.heap.objs.size (.tup vs)) {s with heap:=s.heap.push {cls:=.type "tuple",data:=.seq us.toArray}}:=
  I.laid (t':=s.toks) (fun b o e=>Aj _ e) (Ac _) (show Ks X.prog X.w _ _ _ (.tup vs)from⟨hz,us,rv,IsTup.new _ _⟩)
 refine turnedL (ch:=ch) (s:={s with heap:=s.heap.push {cls:=.type "tuple",data:=.seq us.toArray}}) I1 (fun b o hb e=>?_) fun b hb=>?_
 ·by_cases hs:b=s.heap.objs.size
  ·subst hs;rw[Az _ rfl]at e;cases e;exact tt
  ·have:s.heap.get? b=some o:=by
    rcases Heap.get?_push_cases e with⟨z,_⟩|z
    ·exact absurd z hs
    ·exact z
   exact k b o hb this
 ·obtain⟨f0,f⟩:=hf b hb;exact⟨by rw[Gv (ltf b hb)];exact f0,f⟩
def Ite(K:BM)(a:BP):It:=
 ⟨fun i H=>∃xs x,SqT K H a xs/\xs[i]?=some x,fun i H x H'=>∃y p,(∀xs,SqT K H a xs->xs[i]?=some y)/\H p=none/\x=.ref p/\H'=upd H p (.tup [.int i,y]),fun i H=>∃xs,SqT K H a xs/\xs.length<=i⟩
def Gm4{x1}{pos:Pos}(a it e:BP)(ne:e≠it):
  Turn P w K (.Tuple es x1 pos) (Ite K a) [e,it] e (fun i h=>(∃old,IsEnum h e it i old)/\h.IsTupleIter it a i) where
 mem:=by simp
 obj:=fun i h ⟨⟨old,st⟩,o,e1,c,d⟩ b hb=>by
  rcases Ad.mp hb with rfl|hb
  ·exact⟨_,st,fun v z=>by
    have z':Data.fields _=Data.cell v:=z;cases z'⟩
  ·have eb:b=it:=by simpa using hb
   subst eb;exact⟨o,e1,fun v z=>by rw[d]at z;cases z⟩
 keep:=fun i h h' ⟨⟨old,st⟩,ti⟩ k=>⟨⟨old,k e (by simp) _ st⟩,ti.at fun o e1=>k it (by simp) o e1⟩
 item:=by
  intro X hP hw hK hc i pins s O H E I hf zq0 hg;obtain⟨⟨old,st⟩,ti⟩:=zq0;subst hP hw hK;obtain⟨xs,x,hq,hx⟩:=hg;obtain⟨its,rv,p,hz⟩:=I.tuple hq;obtain⟨u,hu,ru⟩:=rv.get hx;have hn:H s.heap.objs.size=none:=I.hok.fresh (Ac _);refine Gs5 st ti (show s.heap.IsTuple a its.toArray from p) (y:=u) (by simpa using hu) ne fun g oe ti' tt kk=>?_;refine⟨_,rfl,wpAny_letOwnedTupleGo_enum oe fun g2 e2 b2=>?_⟩;have kk2:∀b o,b∉[e,it]->s.heap.get? b=some o->g2.get? b=some o:=fun b o hb h1=>
   b2.extBut b o (fun z=>hb (by simp[z])) (kk b o (fun z=>hb (by simp[z])) (fun z=>hb (by simp[z])) h1)
  have el:s.heap.objs.size≠e:=AW (Ae st);have tt2:g2.get? s.heap.objs.size=some {cls:=.type "tuple",data:=.seq #[.int i s.toks,u]}:=b2.extBut _ _ el tt;have ltf:∀b∈[e,it],b≠s.heap.objs.size:=fun b hb=>by
   rcases Ad.mp hb with rfl|hb
   ·exact Ne.symm el
   ·have eb:b=it:=by simpa using hb
    subst eb;obtain⟨o,e1,_⟩:=ti;exact An (Ae e1)
  have I2:Inv X pins O (upd H s.heap.objs.size (.tup [.int i,x])) {s with heap:=g2,toks:=s.toks+1}:=
   Gii I hn (by rw[sizeLine_eq];simp only[Bi,List.length_nil];decide) (.cons ⟨s.toks,rfl⟩ (.cons ru .nil)) tt2 kk2 hf ltf
  exact⟨.ref s.heap.objs.size,_,I2,rfl,⟨x,_,fun ys hy=>by rw[I.tuple_inj hy hq]; exact hx,hn,rfl,rfl⟩,⟨⟨u,e2⟩,ti'.extBut b2.extBut (Ne.symm ne)⟩,fun b hb=>by
   rw[Gv (ltf b hb)];exact(hf b hb).1⟩
 done:=by
  intro X hP hw hK hc i pins s O H E I hf zq0 hg;obtain⟨⟨old,st⟩,ti⟩:=zq0;subst hP hw hK;obtain⟨xs,hq,hx⟩:=hg;obtain⟨its,rv,p,hz⟩:=I.tuple hq;have hl:=rv.length;exact Gy6 (I.ok.hd hc) st ti (show s.heap.IsTuple a its.toArray from p) (by simp;omega) fun g eb=>⟨rfl,turnedL I (fun b o hb e1=>eb b o (fun z=>hb (by simp[z])) e1) hf⟩
 self:=fun _ _ _ _ _ ⟨⟨_,st⟩,_⟩ h=>wpAny_pyIter_enum st h
section
variable{X:Cx}{XQ:XW}
def Hel(K:BM)(ta:TA):TI:=fun O H R=>ta O H fun xs H1=>∃a,xs=[.ref a]/\(∃ys,SqT K H1 a ys)/\R (Ite K a) H1
def Gs7{tp:Pos}{ta:TA}(hg:Gl X "enumerate")(hm:X.mg "enumerate"=none)(ha:PA X [a] ta)(hs:⇑(starEach [a] X.env=[(false,eval a X.env)])):
  PI X (.Tuple es x1 tp) (.Call (.Name "enumerate" p) [a] [] pos) (Hel X.K ta):=by
 intro pins s O H R I h;refine wpAny_Call_Name_kw (Wo I hg hm (by rfl) ?_ (by decide) (by decide));refine PyProof.Rows.callWith_type1 (thn (ha pos pins s O H _ I h) fun us s1 zq0=>?_) hs rfl;obtain⟨vs,H1,I1,r1,q1⟩:=zq0;obtain⟨c,e,⟨ys,hq⟩,q⟩:=q1;subst e;obtain⟨u,rfl,rx⟩:=Gcn r1;cases rx;obtain⟨its,rv,pt,hz⟩:=I1.tuple hq;refine Gs6 (show s1.heap.IsTuple c its.toArray from pt) fun g e1 i1 kk=>?_;refine wpAny_pyIter_enum e1 ?_;have I2:Inv X pins O H1 {s1 with heap:=g}:=I1.kept (t':=s1.toks) kk;refine⟨s1.heap.objs.size+1,[s1.heap.objs.size+1,s1.heap.objs.size],_,_,H1,rfl,I2,Gm4 c s1.heap.objs.size (s1.heap.objs.size+1) (Nat.succ_ne_self _),⟨⟨.none,e1⟩,i1⟩,fun b hb=>?_,q⟩;have hb':s1.heap.objs.size<=b:=by
  rcases Ad.mp hb with rfl|hb
  ·exact A6 _
  ·have eb:b=s1.heap.objs.size:=by simpa using hb
   exact Nat.le_of_eq eb.symm
 exact I1.fpOk hb' (I1.hok.fresh hb')
def ienumerate(f:Ev (List D)):Ev Src:=fun U S=>(f U S).bind fun ds S1=>match ds with
 |[.tup l]=>.ok ⟨fun k _=>(l[k]?).map fun d=>.tup [.int k,d],l.length+1⟩ S1
 |_=>.bad
def Gy7{a:BP}{l:List D}(s:SqT K H a xs)(r:RepL K mp H l xs):God K mp H (Ite K a) (fun k _=>(l[k]?).map fun d=>.tup [.int k,d]):=by
 intro mp' H' S' af rs k;have s':=af.tup _ _ s;have r':=RepL.aft af _ _ r;show match (l[k]?).map (fun d=>D.tup [.int k,d])with
  |some d=>(Ite K a).go k H'/\∀x H2,(Ite K a).yld k H' x H2->Aft K mp' H' mp' H2/\RS K mp' H2 S'/\Rep K mp' H2 d x
  |none=>(Ite K a).stop k H'
 cases z:l[k]? with
 |none=>
  refine⟨xs,s',?_⟩;rw[r.len];exact AV.mp z
 |some d=>
  obtain⟨v,e,q⟩:=r'.get z;refine⟨⟨xs,v,s',e⟩,fun x H2 zq0=>?_⟩;obtain⟨y,p,h2,h3,h4,h5⟩:=zq0;have h2:=h2 xs s';rw[e]at h2;cases h2;subst h4 h5;have af2:Aft K mp' H' mp' (upd H' p (.tup [.int k,v])):=Xu h3;exact⟨af2,rs.new h3,p,_,rfl,SqT.of Ho,RepL.cons rfl (RepL.cons (Rep.aft af2 _ _ q) RepL.nil)⟩
def Ggr{tp:Pos}(hg:Gl X "enumerate")(hm:X.mg "enumerate"=none)(ha:JA X XQ [a] f)(hs:⇑(starEach [a] X.env=[(false,eval a X.env)])):
  JI X XQ (.Tuple es x1 tp) (.Call (.Name "enumerate" p) [a] [] pos) (ienumerate f):=by
 refine PI.mono (Gs7 hg hm ha hs) fun O H R zq0=>?_;obtain⟨mp,U,S,G,p⟩:=zq0;refine bindP G p fun mp1 H1 ds S1 vs a1 G1 r1 p1=>?_;split at p1
 ·rename_i l;obtain⟨v,rfl,h1⟩:=RepL.one r1;obtain⟨c,xs,rfl,s,q⟩:=Rep.tup h1;exact⟨c,rfl,⟨xs,s⟩,Gn.ok (R:=kI X.K) (d:=⟨fun k _=>(l[k]?).map fun d=>.tup [.int k,d],l.length+1⟩) (S:=S1) p1 G1.rs (Gy7 s q)⟩
 ·exact p1.elim
end
structure Za(z ti to' i j a b:BP):Prop where
 q1:ti≠z
 q2:to'≠z
 q3:i≠z
 q4:j≠z
 q5:ti≠to'
 q6:ti≠i
 q7:ti≠j
 q8:to'≠i
 q9:to'≠j
 q10:i≠j
 q11:a≠z
 q12:a≠to'
 q13:a≠i
 q14:a≠j
 q15:b≠z
 q16:b≠to'
 q17:b≠i
 q18:b≠j
section
variable{X:Cx}{XQ:XW}
def rvD(x:D)(st:BQ Int)(S:Sto):Out D:=match x,st with
 |.tup l,some (-1)=>.ok (.tup l.reverse) S
 |_,_=>.bad
def rv(fe:Ev D)(fs:Ev (BQ Int)):Ev D:=fun U S=>(fe U S).bind fun x S1=>(fs U S1).bind fun o S2=>rvD x o S2
end
section
variable{X:Cx}{XQ:XW}
inductive JFs(X:Cx)(XQ:XW):List Expr->List (Ev D)->Prop
 |nil:JFs X XQ [] []
 |cons {e:Expr} {f:Ev D} {es:List Expr} {fs:List (Ev D)}:JE X XQ e f->JFs X XQ es fs->JFs X XQ (e::es) (f::fs)
end
structure Zb(z ti to' i j l a b c:BP):Prop where
 tz:ti≠z
 oz:to'≠z
 iz:i≠z
 jz:j≠z
 lz:l≠z
 t_o:ti≠to'
 t_i:ti≠i
 t_j:ti≠j
 t_l:ti≠l
 oi:to'≠i
 oj:to'≠j
 ol:to'≠l
 ij:i≠j
 il:i≠l
 jl:j≠l
 az:a≠z
 ao:a≠to'
 ai:a≠i
 aj:a≠j
 al:a≠l
 bz:b≠z
 bo:b≠to'
 bi:b≠i
 bj:b≠j
 bl:b≠l
 cz:c≠z
 co:c≠to'
 ci:c≠i
 cj:c≠j
 cl:c≠l
section
open Builtin Builtin.Str
variable{prog:BR}{w:World}{A:Around}{E:BN->BO->Prop}{s:BO}
end
section
variable{X:Cx}{XQ:XW}
variable{a b:Expr}{fa fb:Ev D}{pos:Pos}
end
structure XB(bm:List BN):Prop where
 v:bm.contains (.type "ValueError")=true
 a:bm.contains (.type "AttributeError")=false
 n:bm.contains (.type "NameError")=false
 b:bm.contains (.type "BaseException")=true
def XB.has(x:XB bm)(C:BP):(Value.ref C::bm).contains (.type "ValueError")=true:=by rw[Bv,x.v,Bool.or_true]
def XB.noA(x:XB bm)(C:BP):(Value.ref C::bm).contains (.type "AttributeError")=false:=by rw[Bv,x.a];rfl
def XB.noN(x:XB bm)(C:BP):(Value.ref C::bm).contains (.type "NameError")=false:=by rw[Bv,x.n];rfl
abbrev FV:=PySem.F.excBase_ValueError
def Gs8(K:BM):PySem.W.findCls K (.type "ValueError") (.type "type") "__init__"=some (.val (.builtin "ValueError.__init__")):=by
 first
  |rfl
  |kernel_rfl
def Gs9{s:BO}{Q:BN×List BN->BO->Prop}(X:K.In s.heap)(h:Q (.builtin "ValueError.__init__",[]) {s with toks:=s.toks+1}):
  wpAny (model prog w) A (getMethod (.type "ValueError") (Str.ofString "__init__") pl) Q E s:=by
 have st:opaqueClassAbove (.type "ValueError")=pure none:=by unfold opaqueClassAbove;dsimp only;rw[show Manifest.isStub "ValueError"=false by decide +kernel];rfl
 have ty:PySem.W.Looks (model prog w) s.heap (typeOf (.type "ValueError")) (.type "type"):=PySem.W.Looks.of_pure (by first|rfl|kernel_rfl);have ga:PySem.W.findIn K (.type "type") "__getattribute__"=some (some (.builtin "type.__getattribute__")):=PySem.W.type_tga;unfold getMethod specialOf;refine wpAny_bind (wpAny_bind (ty.here ((PySem.W.looks_findIn X ga).here ?_)));dsimp only;rw[if_pos PySem.W.canon_tga];refine wpAny_bind (wpAny_mono (Q:=fun v=>Q (v,[])) (E:=E) ?_ (fun _ _ z=>wpAny_pure z) fun _ _ z=>z);refine PySem.W.cls_open X (PySem.W.Looks.of_pure st) ty ga (PySem.W.looks_hook X (r:=none) (by rfl)) (by show PySem.W.subIn K _ _=_;rfl) (Gs8 K) ?_;refine wpAny_pure ?_;show wpAny _ _ (handedOut _) _ _ _;rw[PySem.W.handedOut_of (by rfl)];exact wpAny_pure h
section
variable{prog:BR}{w:World}{A:Around}{E:BN->BO->Prop}{h:Heap}{g:Array GenState}{d:Drawn}{t:Nat}{os:OsState}
variable{nm q:Str}{C N:BP}{bs bm:List BN}{hdct:Bool}{sn:List Str}{sub:List BN}{ab:Bool}{col:BQ Bool}{dd:BQ BP}{k0 k1 k2 k3 k5:BQ BN}
def Gta(x:XB bm)(hC:h.get? C=some (excClassObj nm q C N bs bm hdct sn sub ab col dd k0 k1 k2 k3 k5 "ValueError.__new__"))(he:h.get? e=some {cls:=.ref C,dict:=dx,data:=.fields #[.ref t0,.none,.none,.none,.bool false,.none]})(hq:∀h',h'.get? e=some {cls:=.ref C,dict:=dx,data:=.fields #[.ref h.objs.size,.none,.none,.none,.bool false,.none]}->(∀b o,b≠e->h.get? b=some o->h'.get? b=some o)->h'.get? h.objs.size=some {cls:=.type "tuple",data:=.seq #[v]}->Q .none ⟨h',g,d,t,os⟩):
  wpAny (model prog w) A (call (.builtin "ValueError.__init__") [.ref e,v]) Q E ⟨h,g,d,t,os⟩:=by
 have hB:=x.has C;refine wpAny_call (codeAny_call_builtin FV.init.plain FV.initEntry ?_);have chk:∀{M:Model}{A:Around}{E:BN->BO->Prop}{Q:Unit->BO->Prop},Q () ⟨h,g,d,t,os⟩->wpAny M A (checkBuiltinCall "ValueError.__init__" ⟨[.ref e,v],[]⟩) Q E ⟨h,g,d,t,os⟩:=fun hQ=>by
  have ns:=FV.noStar;simp only[checkBuiltinCall,FV.initKind,FV.initSplit,FV.initRow]
  repeat (first|with_reducible refine wpAny_loadPart_at he ?_|with_reducible refine wpAny_loadPart_at hC ?_|(with_reducible refine wpAny_isSubtype_exc hC ?_;rw[hB])|wp_step)
  exact hQ
 refine chk ?_
 wp_walk
 have le:e≠h.objs.size:=An (Ae he);refine hq _ ?_ (fun b o hb ho=>?_) ?_
 ·rw[AU _ (Aj _ he) rfl];rfl
 ·rw[AL _ _ (Ne.symm hb)];exact Aj _ ho
 ·rw[AL _ _ le];exact Az _ rfl
def Gij{Q:Unit->BO->Prop}(x:XB bm)(hC:h.get? C=some (excClassObj nm q C N bs bm hdct sn sub ab col dd k0 k1 k2 k3 k5 "ValueError.__new__"))(hq:Q () ⟨h,g,d,t,os⟩):
  wpAny M A (checkBuiltinCall "ValueError.__new__" ⟨[.ref C,v],[]⟩) Q E ⟨h,g,d,t,os⟩:=by
 have hB:=x.has C;have ns:=FV.noStar;simp only[checkBuiltinCall,FV.newKind,FV.newSplit,FV.newRow]
 repeat (first|refine wpAny_loadPart_at hC ?_|(refine wpAny_isSubtype_exc hC ?_;rw[hB])|refine wpAny_staticBase_exc hC ?_|refine wpAny_madeBy_exc hC ?_|simp only[bne_self_eq_false,AE,if_false]|wp_step)
 exact hq
def Hcc{R:Result->BO->Prop}(x:XB bm)(hC:h.get? C=some (excClassObj nm q C N bs bm hdct sn sub ab col dd k0 k1 k2 k3 k5 "ValueError.__new__"))(hq:R (.ok (.ret (.ref (h.objs.size+1)))) ⟨(h.push {cls:=.type "tuple",data:=.seq #[v]}).push {cls:=.ref C,data:=.fields #[.ref h.objs.size,.none,.none,.none,.bool false,.none]},g,d,t,os⟩):
  codeAny (model prog w) A (.builtin "ValueError.__new__" ⟨[.ref C,v],[]⟩) R ⟨h,g,d,t,os⟩:=by
 have he:=FV.ends;have hB:=x.has C;have hA:=x.noA C;have hN:=x.noN C;refine codeAny_builtinAt FV.entry ?_;unfold Builtin.«BaseException.__new__»;refine PySem.wpAt_bind ?_;show PySem.wpAt _ _ _ (PySem.stack >>= _) _ _ _;refine PySem.wpAt_bind (PySem.wpAt_stack fun p below=>PySem.wpAt_of_wpAny ?_)
 wp_walk
 refine PySem.wpAt_of_wpAny ?_;rw[FV.owner]
 repeat (first|with_reducible refine wpAny_madeHere_exc FV.canon hC ?_|with_reducible refine wpAny_loadPart_at hC ?_|(with_reducible refine wpAny_isSubtype_exc hC ?_;first|rw[hB]|rw[hA]|rw[hN])|wp_step)
 show R _ _;rw[AR];exact hq
def Gy8(x:XB bm)(X:K.In h)(hC:h.get? C=some (excClassObj nm q C N bs bm hdct sn sub ab col dd k0 k1 k2 k3 k5 "ValueError.__new__"))(hi:PySem.W.findIn K (.ref C) "__init__"=some (some (.ref fI)))(hfI:h.get? fI=some oI)(hfc:oI.cls=.type "function")(hq:∀h' e,h.objs.size<=e->Heap.MadeExcOf h h' e (.ref C) [v]->wpAny (model prog w) (A.under (.builtin "type.__call__" ⟨[.ref C,v],[]⟩)) (call (.ref fI) [.ref e,v]) (fun r s'=>r=.none/\Q (.ref e) s') E ⟨h',g,d,t,os⟩):
  wpAny (model prog w) A (call (.ref C) [v]) Q E ⟨h,g,d,t,os⟩:=by
 have hB:=x.has C;have hA:=x.noA C;have hN:=x.noN C;have f1:=tc_lookup;have f2:=tc_bind (.ref C);have hT:(⟨h,g,d,t,os⟩:BO).TypeIs (.ref C) "type":=⟨_,hC,rfl⟩
 refine wpAny_call (codeAny_of_tree ?_);show wpAny _ _ (callAny (.ref C) _) _ _ _
 repeat (any_goals (first|assumption|with_reducible refine wpAny_loadPart_at hC ?_|wp_step))
 refine⟨rfl,?_⟩;refine codeAny_call_builtin_at (Code.quiet_builtin _ (by decide +kernel)) entry_typeCall (wpAny_check_type_call_sub hC ?_)
 repeat (first|with_reducible refine wpAny_loadPart_at hC ?_|with_reducible refine wpAny_madeBy_exc hC ?_|wp_step)
 refine codeAny_call_builtin_code (Code.quiet_builtin _ FV.quiet) (Gij x hC (Hcc x hC ?_));show wpAny _ _ _ _ _ _;have kp:∀b o,h.get? b=some o->((h.push {cls:=.type "tuple",data:=.seq #[v]}).push {cls:=.ref C,data:=.fields #[.ref h.objs.size,.none,.none,.none,.bool false,.none]}).get? b=some o:=fun b o e=>Aj _ (Aj _ e);have he:((h.push {cls:=.type "tuple",data:=.seq #[v]}).push {cls:=.ref C,data:=.fields #[.ref h.objs.size,.none,.none,.none,.bool false,.none]}).get? (h.objs.size+1)=some {cls:=.ref C,data:=.fields #[.ref h.objs.size,.none,.none,.none,.bool false,.none]}:=by heap_get
 have ht:((h.push {cls:=.type "tuple",data:=.seq #[v]}).push {cls:=.ref C,data:=.fields #[.ref h.objs.size,.none,.none,.none,.bool false,.none]}).get? h.objs.size=some {cls:=.type "tuple",data:=.seq #[v]}:=Aj _ (Az _ rfl);have hC1:=kp _ _ hC;have hf1:=kp _ _ hfI;have X1:=X.keeps kp;have hcC:(Value.ref C::bm).contains (.ref C)=true:=by simp
 have done:=hq _ (h.objs.size+1) (A6 _) ⟨kp,A4 (A6 _),h.objs.size,he,A4 (Ac _),ht⟩;generalize (h.push {cls:=.type "tuple",data:=.seq #[v]}).push {cls:=.ref C,data:=.fields #[.ref h.objs.size,.none,.none,.none,.bool false,.none]}=h1 at *;unfold isInstance
 repeat (first|with_reducible refine wpAny_loadPart_at he ?_|(with_reducible refine wpAny_isSubtype_exc hC1 ?_;rw[hcC])|wp_step)
 show wpAny _ _ (typeLookup (.ref C) _) _ _ _;refine(PySem.W.looks_findIn X1 hi).here ?_;refine wpAny_holding (wpAny_bind ?_);unfold bindSpecial;refine wpAny_bind (wpAny_typeOf (T:="function") ⟨_,hf1,hfc⟩ ?_);rw[if_pos (by decide)];refine wpAny_pure (wpAny_bind (wpAny_mono done (fun r s' hr=>?_) fun _ _ x=>x));obtain⟨rfl,hQ⟩:=hr
 wp_walk
 exact hQ
end
section
variable{M:Model}{A:Around}{E:BN->BO->Prop}{env:PySem.Env}
variable{nm q:Str}{C N:BP}{bs bm:List BN}{hdct:Bool}{sn:List Str}{sub:List BN}{ab:Bool}{col:BQ Bool}{dd:BQ BP}{k0 k1 k2 k3 k5:BQ BN}{newId:String}
def Zc(h:Heap)(e C:BP)(dx:BQ BP):Prop:=∃t:BP,h.get? e=some {cls:=.ref C,dict:=dx,data:=.fields #[.ref t,.none,.none,.none,.bool false,.none]}
def Gcr{x:Sem BN}{Q:Flow->BO->Prop}(hb:XB bm)(hh:A.handled=none)(h:wpAny M A x (fun v s₁=>∃e dx,v=.ref e/\s₁.heap.get? C=some (excClassObj nm q C N bs bm hdct sn sub ab col dd k0 k1 k2 k3 k5 newId)/\Zc s₁.heap e C dx/\E (.ref e) s₁) E s):
  wpAny M A (raiseStmt env (some x) none) Q E s:=by
 have hB:(Value.ref C::bm).contains (.type "BaseException")=true:=by rw[Bv,hb.b,Bool.or_true]
 unfold raiseStmt;refine wpAny_bind (wpAny_mono h (fun v s₁ h₁=>?_) fun _ _ x=>x);obtain⟨e,dx,rfl,hC,⟨t,he⟩,hE⟩:=h₁;obtain⟨hp,g,d,tk,os⟩:=s₁
 repeat (first|with_reducible refine wpAny_loadPart_at he ?_|with_reducible refine wpAny_loadPart_at hC ?_|(with_reducible refine wpAny_isSubtype_exc hC ?_;rw[hB])|wp_step)
 exact wpAny_raiseNew_none hh hE
def Gtb{e1:Expr}{Q:Flow->BO->Prop}(hb:XB bm)(hh:A.handled=none)(h:wpAny M A (eval (.Name x np) env) (fun f s₁=>f=.ref C/\wpAny M A (spliced (backTo cpos (starEach (e1::es) env))) (fun vs s₂=>
   s₂.heap.get? C=some (excClassObj nm q C N bs bm hdct sn sub ab col dd k0 k1 k2 k3 k5 newId)/\wpAny M A (call (.ref C) vs) (fun v s₃=>∃ e dx,v=.ref e∧
    s₃.heap.get? C=some (excClassObj nm q C N bs bm hdct sn sub ab col dd k0 k1 k2 k3 k5 newId)/\Zc s₃.heap e C dx/\E (.ref e) s₃) E s₂) E s₁) E s)(he:⇑(starEach (e1::es) env=(false,eval e1 env)::starEach es env))(hpl:⇑((backTo cpos (starEach es env)).any (·.1)=false)):
  wpAny M A (exec (.Raise (some (.Call (.Name x np) (e1::es) [] cpos)) none pos) env) Q E s:=by
 have plain:(backTo cpos (starEach (e1::es) env)).any (·.1)=false:=by
  rw[he];show(false||(backTo cpos (starEach es env)).any (·.1))=false;rw[hpl];rfl
 rw[arm_exec_Raise];have key:wpAny M A (eval (.Call (.Name x np) (e1::es) [] cpos) env) (fun v s₁=>∃e dx,v=.ref e/\s₁.heap.get? C=some (excClassObj nm q C N bs bm hdct sn sub ab col dd k0 k1 k2 k3 k5 newId)/\Zc s₁.heap e C dx/\E (.ref e) s₁) E s:=by
  refine wpAny_Call_ofName (wpAny_mono h (fun f s₁ h₁=>?_) fun _ _ x=>x);obtain⟨rfl,h₁⟩:=h₁;unfold callWith;have ev:wpAny M A (evalArgs (.ref C) true (backTo cpos (starEach (e1::es) env)) []) (fun a s₂=>a.kw=[]/\s₂.heap.get? C=some (excClassObj nm q C N bs bm hdct sn sub ab col dd k0 k1 k2 k3 k5 newId)/\wpAny M A (call (.ref C) a.pos) (fun v s₃=>∃ e dx,v=.ref e∧
    s₃.heap.get? C=some (excClassObj nm q C N bs bm hdct sn sub ab col dd k0 k1 k2 k3 k5 newId)/\Zc s₃.heap e C dx/\E (.ref e) s₃) E s₂) E s₁:=by
   rw[he]at h₁⊢;exact PySem.Calls.evalArgs_plain (wpAny_mono h₁ (fun vs s₂ z=>⟨rfl,z⟩) fun _ _ x=>x)
  refine wpAny_bind (wpAny_holding (wpAny_mono ev (fun a s₂ h₂=>wpAny_bind (wpAny_standAt ?_)) fun _ _ x=>x));obtain⟨ap,ak⟩:=a;obtain⟨hk,hC,h₂⟩:=h₂;obtain rfl:ak=[]:=hk;obtain⟨hp,g,d,tk,os⟩:=s₂;simp only[plain];refine wpAny_bind (wpAny_keeperOf_exc hC ?_);exact wpAny_bind (wpAny_mono h₂ (fun r s₃ hr=>wpAny_bind (wpAny_holding (wpAny_point (wpAny_pure hr)))) fun _ _ x=>x)
 first
  |exact wpAny_bind (wpAny_standAt (Gcr hb hh (wpAny_bind (wpAny_mono key (fun v s₃ h₃=>wpAny_bind (wpAny_standAt (wpAny_pure h₃))) fun _ _ x=>x))))
  |(simp only[evalOpt,Option.map];exact wpAny_bind (wpAny_standAt (Gcr hb hh (wpAny_bind (wpAny_mono key (fun v s₃ h₃=>wpAny_bind (wpAny_standAt (wpAny_pure h₃))) fun _ _ x=>x)))))
end
noncomputable def FX(e C:BP)(dx:BQ BP):HO:=.ext fun h=>Zc h e C dx
def Gvr(f:Zc h e C dx):Ks P w H h e (FX e C dx):=
 ⟨f,(let⟨_,q⟩:=f;⟨_,q⟩),fun _ _ ⟨t,q⟩ k=>⟨t,k _ q⟩⟩
def Gow{a:BP}(h:H a=some o):upd H a o=H:=by
 funext b;by_cases c:b=a
 ·subst c;rw[Ho,h]
 ·rw[Gv c]
structure KX(K:BM)(C:BP):Prop where
 ex:∃nm q N bs bm hdct sn sub ab col dd k0 k1 k2 k3 k5,K.lookup C=some (excClassObj nm q C N bs bm hdct sn sub ab col dd k0 k1 k2 k3 k5 "ValueError.__new__")/\XB bm
section
variable{X:Cx}
def tVI(K:BM)(t:TA):TE:=fun O H Q=>t O H fun vs H1=>∃e v C dx,vs=[.ref e,v]/\H1 e=some (FX e C dx)/\KX K C/\Q .non H1
def Gox{t:TA}{apos:Pos}(hg:Gl X "ValueError")(hm:X.mg "ValueError"=none)(ha:PA X [a,b] t)(ht:eval (.Call (.Attribute (.Name "ValueError" p) "__init__" apos) [a,b] [] pos) X.env=(do
   let ov <- eval (.Name "ValueError" p) X.env
   standAt apos.atName
   let(f,first) <- holding [ov] (getMethod ov "__init__" pl)
   callWith pos f first (backTo pos (starEach [a,b] X.env)) (backToKw pos (keywordEach [] X.env))))(hs:⇑(starEach [a,b] X.env=(false,eval a X.env)::starEach [b] X.env))(hpl:⇑((backTo pos (starEach [b] X.env)).any (·.1)=false)):
  PE X (.Call (.Attribute (.Name "ValueError" p) "__init__" apos) [a,b] [] pos) (tVI X.K t):=by
 intro pins s O H Q I h;refine PySem.W.methodCall_KW (pl:=pl) (Wo I hg hm (by rfl) ?_ (by decide) (by decide)) ht;refine Gs9 I.kIn ?_;have hA:=ha pos pins {s with toks:=s.toks+1} O H _ (I.tok _) h;show wpAny _ _ (callWith pos (.builtin "ValueError.__init__") [] (backTo pos (starEach [a,b] X.env)) _) _ _ _;rw[hs]at hA⊢;refine Calls.callWith_builtin (by show(false||(backTo pos (starEach [b] X.env)).any (·.1))=false;rw[hpl]<;>rfl) (Calls.evalArgs_plain ?_);refine thn hA fun us s2 zq0=>?_;obtain⟨vs,H2,I2,r2,e,v,C,dx,ev,hH,kx,q⟩:=zq0;subst ev;cases r2 with
 |cons ra rb=>
  cases rb with
  |cons rv rn=>
   cases rn;cases ra;obtain⟨nm,qn,N,bs,bm,hdct,sn,sub,ab,col,dd,k0,k1,k2,k3,k5,lk,xb⟩:=kx.ex;have hC:=I2.kIn _ _ lk;obtain⟨⟨t0,he⟩,_,_⟩:=(show Ks X.prog X.w H2 s2.heap e (FX e C dx)from I2.hok e _ hH)
   obtain⟨hp,g,d,tk,os⟩:=s2;refine Gta xb hC he fun h' e1 k1' _=>?_;have I3:=I2.write (h':=h') (x:=e) (e:=e) (o:=FX e C dx) (t':=tk) (by rw[hH];exact trivial) (.inl rfl) (fun b u hb hu=>k1' b u hb hu) ⟨_,e1⟩ (Gvr ⟨_,e1⟩);rw[Gow hH]at I3;exact⟨.non,H2,I3,rfl,q⟩
end
def spI(K:BM):Sp:=fun vs H Q _=>∃e v C dx,vs=[.ref e,v]/\H e=some (FX e C dx)/\KX K C/\Q .non H
section
variable{X:Cx}{pins:List (BP×Obj)}{O:L2.St}{H:Hp}{s:BO}{C f:BP}{fd:FuncData}{ps:List Str}{k:Nat}
def Hcd{v:V}(kx:KX X.K C)(hi:PySem.W.findIn X.K (.ref C) "__init__"=some (some (.ref f)))(lf:X.K.lookup f=some oI)(hfc:oI.cls=.type "function")(F:FnOk X.prog X.w X.K X.mg X.base CX0 k f fd ps (spI X.K))(hl:ps.length=2)(hr:Room (k+1) X.A)(hb:Binds X.K fd ps [])(I:Inv X pins O H s)(rv:Hg v u):
  wpAny (model X.prog X.w) X.A (call (.ref C) [u]) (fun r s'=>∃e,r=.ref e/\(H e=none/\X.s₀.heap.get? e=none)/\Inv X pins O (upd H e (FX e C none)) s') X.xe s:=by
 obtain⟨nm,qn,N,bs,bm,hdct,sn,sub,ab,col,dd,k0,k1,k2,k3,k5,lk,xb⟩:=kx.ex;obtain⟨hp,g,d,tk,os⟩:=s;refine Gy8 xb I.kIn (I.kIn _ _ lk) hi (I.kIn _ _ lf) hfc fun h' e le hm=>?_;have hn:H e=none:=I.hok.fresh le;have h0:X.s₀.heap.get? e=none:=A4 (Ak I.sz le);obtain⟨t,ht,_,_⟩:=hm.there;have I1:Inv X pins O (upd H e (FX e C none)) ⟨h',g,d,tk,os⟩:=I.laid (t':=tk) hm.keeps le (Gvr ⟨t,ht⟩);refine wpAny_call (codeAny_mono (F.run (X.A.under (.builtin "type.__call__" ⟨[.ref C,u],[]⟩)) X.stack ⟨h',g,d,tk,os⟩ (upd H e (FX e C none)) ⟨[.ref e,u],[]⟩ [.ref e,u] [.ref e,v] (fun v' H'=>v'=.non/\H'=upd H e (FX e C none)) E0
  (hr.make C [u] []) (I1.env0.make C [u] []) (by have:=hb ⟨h',g,d,tk,os⟩ [.ref e,u] I1.kIn (by simpa using hl.symm); simpa using this) (.cons rfl (.cons rv .nil)) ⟨e,v,C,none,rfl,Ho,kx,rfl,rfl⟩) fun r s' hq=>?_)
 cases r with
 |error x=>exact hq.elim
 |ok fl=>
  cases fl with
  |ret u'=>
   obtain⟨v',H',I',r',e1,e2⟩:=I1.after hq;subst e1 e2;exact⟨r',e,rfl,⟨hn,h0⟩,I'⟩
  |next=>exact hq.elim
  |brk=>exact hq.elim
  |cont=>exact hq.elim
def tRz(C:BP)(W:L2.St->Hp->BP->Prop)(t:TA):TS:=fun _ O H=>t O H fun vs H1=>∃v,vs=[v]/\∀e,H1 e=none->W O (upd H1 e (FX e C none)) e
def Goy{W:L2.St->Hp->BP->Prop}{t:TA}(hW:∀(pins:List (BP×Obj))(O:L2.St)(H:Hp)(e:BP)(s':BO),Inv X pins O H s'->H e=some (FX e C none)->X.s₀.heap.get? e=none->W O H e->X.xe (.ref e) s')(hcm:X.calm=true)(hg:Gl X x)(hm:X.mg x=some (.ref C))(kx:KX X.K C)(hi:PySem.W.findIn X.K (.ref C) "__init__"=some (some (.ref f)))(lf:X.K.lookup f=some oI)(hfc:oI.cls=.type "function")(F:FnOk X.prog X.w X.K X.mg X.base CX0 k f fd ps (spI X.K))(hl:ps.length=2)(hr:Room (k+1) X.A)(hb:Binds X.K fd ps [])(ha:PA X [a] t)(hdb:↥((x==("__debug__":Str))=false))(he:⇑(starEach [a] X.env=(false,eval a X.env)::starEach [] X.env))(hpl:⇑((backTo cpos (starEach [] X.env)).any (·.1)=false)):
  PS X (.Raise (some (.Call (.Name x np) [a] [] cpos)) none pos) (tRz C W t):=by
 intro pins s O H D I h;obtain⟨nm,qn,N,bs,bm,hdct,sn,sub,ab,col,dd,k0,k1,k2,k3,k5,lk,xb⟩:=id kx.ex;refine Gtb (C:=C) (nm:=nm) (q:=qn) (N:=N) (bs:=bs) (bm:=bm) (hdct:=hdct) (sn:=sn) (sub:=sub) (ab:=ab) (col:=col) (dd:=dd) (k0:=k0) (k1:=k1) (k2:=k2) (k3:=k3) (k5:=k5) (newId:="ValueError.__new__") xb (I.ok.hd hcm) (Ga7 I hg hm ⟨rfl,?_⟩ hdb) he hpl;refine thn (ha cpos pins s O H _ I h) fun us s1 ⟨vs,H1,I1,r1,v,ev,q⟩=>⟨I1.kIn _ _ lk,?_⟩
 subst ev;obtain⟨u,rfl,rv⟩:=Gcn r1;refine thn (Hcd kx hi lf hfc F hl hr hb I1 rv) fun r s2 ⟨e,er,⟨hn,h0⟩,I2⟩=>?_;subst er;have hH:upd H1 e (FX e C none) e=some (FX e C none):=Ho;obtain⟨fr,_,_⟩:=(show Ks X.prog X.w _ s2.heap e (FX e C none)from I2.hok e _ hH)
 exact⟨e,none,rfl,I2.kIn _ _ lk,fr,hW pins O _ e s2 I2 hH h0 (q e hn)⟩
end
def Gb4(h:Heap)(e C:BP)(dx:BQ BP):Prop:=∃t c k u:BN,h.get? e=some {cls:=.ref C,dict:=dx,data:=.fields #[t,.none,c,k,u,.none]}/\(dx=none->c=.none)
def Zc.g(f:Zc h e C dx):Gb4 h e C dx:=by
 obtain⟨t,q⟩:=f;exact⟨_,_,_,_,q,fun _=>rfl⟩
def Gy9(fl:BN)(h:Heap)(a T C:BP)(dx:BQ BP):Prop:=∃oe vs oT ts a0,h.get? a=some oe/\(oe.cls=.ref C/\oe.dict=dx/\vs[0]?=some a0/\(dx=none->vs[2]?=some .none))/\oe.data=.fields vs/\vs[1]?=some (.ref T)/\T≠a/\h.get? T=some oT/\oT.data=.fields ts/\ts[3]?=some fl
abbrev Fly:=Gy9 .none
section
variable{M:Model}{A:Around}{E:BN->BO->Prop}{s:BO}{Q:Unit->BO->Prop}{env:PySem.Env}{outer:List PySem.Env}{L:BP}{base:Heap}
def Gik{a:BP}{o:Obj}(hl:h.FunFrames base l)(e:h.get? a=some o)(d:o.data=.fields vs):a∉frs l:=fun hm=>by
 obtain⟨_,o',e',nf⟩:=hl.mem hm;rw[e]at e';cases e';exact nf vs d
structure Left(fs:List BP)(no:List BP)(h h':Heap):Prop where
 keep:∀b o,b∉fs->b∉no->h.get? b=some o->h'.get? b=some o
 slot:∀b o,b∈fs->h.get? b=some o->∃sl,h'.get? b=some {o with slots:=sl}
def Gtc(f:Array BN->Array BN)(o:Obj):(Obj.mapFields f o).dict=o.dict:=by
 obtain⟨c,d,dt,sl⟩:=o;cases dt<;>rfl
def Hce{oe:Obj}(hfr:A.frames=some (env::outer))(hl:s.heap.FunFrames base (env::outer))(hf:env.frame=some L)(he:s.heap.get? e=some oe)(hc:oe.cls=.ref C/\oe.dict=dx)(hd:oe.data=.fields vs)(hz:1<vs.size)(h0:vs[0]?=some a0/\(dx=none->vs[2]?=some .none))(hq:∀h' T,Gy9 (rawInt L) h' e T C dx->s.heap.get? T=none->Left (frs (env::outer)) [e] s.heap h'->Q () {s with heap:=h'}):
  wpAny M A (frameOf env >>= fun a=>entryPlaceOf L hn >>= fun pl=>EntryCells.newEntry head a .none (rawInt L) .none pl >>= fun b=>setField (.ref e) 1 b) Q E s:=by
 have nf:=Gik hl he hd;refine wpAny_bind (wpAny_frameOf_fun hfr hl hf fun h1 so=>wpAny_bind (wpAny_entryPlaceOf fun pl ip=>?_));obtain⟨sz,so1,so2⟩:=so;have g1:h1.get? e=some oe:=(so1 e nf).trans he;unfold EntryCells.newEntry newFields;refine wpAny_bind (wpAny_newObj_type ?_ (ip.sizeOk5 _ _ _ _ _));generalize hT:({cls:=.type "traceback",dict:=none,data:=.fields ([head,.ref L,.none,rawInt L,.none]++(if pl.isEmpty then List.replicate 6 Value.none else pl)).toArray}:Obj)=oT;have g2:=Aj (h:=h1) oT g1;have nT:h1.objs.size≠e:=AW (Ae g1);refine wpAny_setField g2 hd hz ?_;have d3:=Obj.data_mapFields hd (·.setIfInBounds 1 (Value.ref h1.objs.size));have g3:=AU (Obj.mapFields (·.setIfInBounds 1 (Value.ref h1.objs.size))) g2 (Obj.isFreed_of_fields d3);have t3:((h1.push oT).update e (Obj.mapFields (·.setIfInBounds 1 (Value.ref h1.objs.size)))).get? h1.objs.size=some oT:=(AL _ _ (Ne.symm nT)).trans (Az h1 (by rw[<- hT];rfl));have kp:∀b o,b≠e->h1.get? b=some o->((h1.push oT).update e (Obj.mapFields (·.setIfInBounds 1 (Value.ref h1.objs.size)))).get? b=some o:=fun b o hb q=>by
  rw[AL _ _ (Ne.symm hb)];exact Aj _ q
 refine hq _ h1.objs.size ⟨_,_,oT,_,a0,g3,⟨(Obj.cls_mapFields _ _).trans hc.1,?_,?_⟩,d3,by simp[hz],nT,t3,by rw[<- hT],?_⟩ ?_ ⟨fun b o hb hn q=>kp b o (by simpa using hn) ((so1 b hb).trans q),fun b o hb q=>?_⟩
 ·rw[<- hc.2];exact Gtc _ _
 ·rw[Array.getElem?_setIfInBounds_ne (by decide),Array.getElem?_setIfInBounds_ne (by decide)];exact h0
 ·first|(simp;done)|(rcases ip with rfl|⟨_,_,_,_,_,_,_,rfl⟩<;>simp)
 ·exact A4 (by rw[sz];exact Ac _)
 ·obtain⟨sl,q'⟩:=so2 b o q;exact⟨sl,kp b _ (fun z=>nf (by rw[<- z];exact hb)) q'⟩
def fltD(f:Gy9 fl s.heap e T C dx)(hq:∀h',Fly h' e T C dx->(∀b o,b≠T->s.heap.get? b=some o->h'.get? b=some o)->Q () {s with heap:=h'}):wpAny M A (setFlight (.ref e) none) Q E s:=by
 obtain⟨oe,vs,oT,ts,a0,e1,e2,e3,e4,e5,e6,e7,e8⟩:=f;have h3:3<ts.size:=(Array.getElem?_eq_some_iff.mp e8).1;refine wpAny_setFlight_none e1 e3 e4 e6 e7 h3 (hq _ ⟨oe,vs,_,_,a0,by rw[AL _ _ e5];exact e1,e2,e3,e4,e5,AU _ e6 (Obj.isFreed_of_fields (Obj.data_mapFields e7 _)),Obj.data_mapFields e7 _,by simp[h3]⟩ fun b o hb q=>by rw[AL _ _ (Ne.symm hb)];exact q)
def Gvs(hfr:A.frames=some (env::outer))(hl:s.heap.FunFrames base (env::outer))(hf:env.frame=some L)(fx:Gb4 s.heap e C dx)(hq:∀h' T,Fly h' e T C dx->s.heap.get? T=none->Left (frs (env::outer)) [e] s.heap h'->Q () {s with heap:=h'}):wpAny M A (noteFrame (.ref e) env) (fun _ s₂=>wpAny M A (setFlight (.ref e) none) Q E s₂) E s:=by
 obtain⟨t,c,k,u,he,hc⟩:=fx;unfold noteFrame;simp only[hf];refine wpAny_bind (wpAny_field he rfl rfl ?_);show wpAny M A (if(Value.none != Value.none)=true then _ else _) _ _ _;rw[if_neg (show¬((Value.none != Value.none)=true)from by decide)];refine Hce hfr hl hf he ⟨rfl,rfl⟩ rfl (by simp) ⟨rfl,fun z=>by rw[hc z];rfl⟩ fun h1 T f1 hT lf=>fltD (s:={s with heap:=h1}) f1 fun h' f2 kp=>hq h' T f2 hT ⟨fun b o hb hn q=>kp b o (fun z=>by rw[z,hT]at q;cases q) (lf.keep b o hb hn q),fun b o hb q=>?_⟩;obtain⟨sl,q'⟩:=lf.slot b o hb q;exact⟨sl,kp b _ (fun z=>by rw[z,hT]at q;cases q) q'⟩
def Gvt{a:BP}(hfr:A.frames=some (env::outer))(hl:s.heap.FunFrames base (env::outer))(hf:env.frame=some L)(fl:Fly s.heap a T C dx)(hq:∀h' T',Fly h' a T' C dx->(s.heap.get? T'=none\/T'=T)->Left (frs (env::outer)) [a,T] s.heap h'->Q () {s with heap:=h'}):wpAny M A (noteFrame (.ref a) env) (fun _ s₂=>wpAny M A (setFlight (.ref a) none) Q E s₂) E s:=by
 obtain⟨oe,vs,oT,ts,a0,e1,⟨c1,c2,c3⟩,e3,e4,e5,e6,e7,e8⟩:=fl;have h3:3<ts.size:=(Array.getElem?_eq_some_iff.mp e8).1;have nfT:=Gik hl e6 e7;unfold noteFrame;simp only[hf];refine wpAny_bind (wpAny_field e1 e3 e4 ?_);rw[if_pos (show(Value.ref T != Value.none)=true from by simp)];refine wpAny_bind (wpAny_field e6 e7 e8 ?_);rw[if_neg (show¬((Value.none==rawInt L)=true)from by simp[rawInt])];refine wpAny_bind (wpAny_setField e6 e7 h3 ?_);have ot:∀b,b≠T->(s.heap.update T (Obj.mapFields (·.setIfInBounds 3 Value.none))).get? b=s.heap.get? b:=fun b hb=>AL _ _ (Ne.symm hb);have tt:=AU (Obj.mapFields (·.setIfInBounds 3 Value.none)) e6 (Obj.isFreed_of_fields (Obj.data_mapFields e7 _));have hl2:(s.heap.update T (Obj.mapFields (·.setIfInBounds 3 Value.none))).FunFrames base (env::outer):=hl.of_keeps fun b o q nf=>⟨o,(ot b fun z=>by rw[z,e6]at q;cases q;exact nf ts e7).trans q,rfl⟩
 refine Hce (s:={s with heap:=s.heap.update T (Obj.mapFields (·.setIfInBounds 3 Value.none))}) hfr hl2 hf ((ot a (Ne.symm e5)).trans e1) ⟨c1,c2⟩ e3 (Array.getElem?_eq_some_iff.mp e4).1 c3 fun h1 T1 f1 hT lf=>fltD (s:={s with heap:=h1}) f1 fun h' f2 kp=>hq h' T1 f2 (.inl ?_) ⟨fun b o hb hn q=>?_,fun b o hb q=>?_⟩
 ·cases z:s.heap.get? T1 with
  |none=>rfl
  |some o=>
   by_cases c:T1=T
   ·rw[c]at hT;rw[show(s.heap.update T (Obj.mapFields (·.setIfInBounds 3 Value.none))).get? T=_ from tt]at hT;cases hT
   ·rw[show(s.heap.update T (Obj.mapFields (·.setIfInBounds 3 Value.none))).get? T1=_ from ot T1 c,z]at hT;cases hT
 ·simp only[Ad,Av,or_false,not_or]at hn;have q1:(s.heap.update T (Obj.mapFields (·.setIfInBounds 3 Value.none))).get? b=some o:=(ot b hn.2).trans q;exact kp b o (fun z=>by rw[z]at q1;rw[show _=none from hT]at q1;cases q1) (lf.keep b o hb (by simpa using hn.1) q1)
 ·have nb:b≠T:=fun z=>nfT (by rw[<- z];exact hb);have q1:(s.heap.update T (Obj.mapFields (·.setIfInBounds 3 Value.none))).get? b=some o:=(ot b nb).trans q;obtain⟨sl,q'⟩:=lf.slot b o hb q1;exact⟨sl,kp b _ (fun z=>by rw[z]at q1;rw[show _=none from hT]at q1;cases q1) q'⟩
def Gza(hfr:A.frames=some (env::outer))(hl:s.heap.FunFrames base (env::outer))(hf:env.frame=some L)(fx:Gb4 s.heap e C dx)(hq:∀h' T,Fly h' e T C dx->s.heap.get? T=none->Left (frs (env::outer)) [e] s.heap h'->Q () {s with heap:=h'}):wpAny M A (leaving env (.ref e)) Q E s:=by
 unfold leaving;exact wpAny_bind (Gvs hfr hl hf fx hq)
def Gzb{a:BP}(hfr:A.frames=some (env::outer))(hl:s.heap.FunFrames base (env::outer))(hf:env.frame=some L)(fl:Fly s.heap a T C dx)(hq:∀h' T',Fly h' a T' C dx->(s.heap.get? T'=none\/T'=T)->Left (frs (env::outer)) [a,T] s.heap h'->Q () {s with heap:=h'}):wpAny M A (leaving env (.ref a)) Q E s:=by
 unfold leaving;exact wpAny_bind (Gvt hfr hl hf fl hq)
end
noncomputable def del(H:Hp)(a:BP):Hp:=fun b=>if b=a then none else H b
def Uz{a:BP}:del H a a=none:=if_pos rfl
def Vk{a b:BP}(h:b≠a):del H a b=H b:=if_neg h
def Gm5{a:BP}(x:Ks P w H h a o):∃u,h.get? a=some u:=by
 cases o with
 |lst xs=>obtain⟨_,_,_,_,e⟩:=x;exact⟨_,e⟩
 |tup xs=>obtain⟨_,_,_,ob,e,_⟩:=x;exact⟨_,e⟩
 |dK kvs=>obtain⟨_,_,_,_,o,_,_,e,_⟩:=x;exact⟨_,e⟩
 |dT kvs=>obtain⟨_,_,_,_,o,_,_,e,_⟩:=x;exact⟨_,e⟩
 |set S n=>obtain⟨o,_,_,_,e,_⟩:=x;exact⟨_,e⟩
 |ins C dx fs=>obtain⟨_,_,_,e,_⟩:=x;exact⟨_,e⟩
 |own y=>obtain⟨_,e⟩:=x;exact⟨_,e⟩
 |xd fs=>obtain⟨_,⟨_,_,_,e,_⟩,_⟩:=x;exact⟨_,e⟩
 |rng lo hi=>obtain⟨_,_,_,e⟩:=x;exact⟨_,e⟩
 |frz ob u=>obtain⟨e,_⟩:=x;exact⟨_,e⟩
 |tbl ps=>exact⟨_,(show h.get? a=some _ from x)⟩
 |met f y=>exact⟨_,(show h.get? a=some _ from x)⟩
 |ext φ=>obtain⟨_,⟨_,e⟩,_⟩:=x;exact⟨_,e⟩
def Gbc{a:BP}(k:HOk P w H h)(e:h.get? a=none):H a=none:=by
 cases z:H a with
 |none=>rfl
 |some o=>
  obtain⟨u,q⟩:=Gm5 (k a o z);rw[e]at q;cases q
def CXe(P:BR)(w:World):CXT:=fun outer H s E e s'=>∃a T C dx H',e=.ref a/\s'.os=s.os/\AllBare s'.gens/\Un (frs outer) [] H H' s.heap s'.heap/\HOk P w H' s'.heap/\Fly s'.heap a T C dx/\(H' a=none/\H' T=none)/\(s.heap.get? a=none/\s.heap.get? T=none)/\E (.ref C) dx H'
def hok_left(k:HOk P w H h)(l:Left fs no h h')(hf:∀b∈fs,H b=none)(hn:∀b∈no,H b=none):HOk P w H h':=fun b o e=>by
 refine(k b o e).stay (fun c u hc q=>l.keep c u (fun z=>?_) (fun z=>?_) q) (fun _ q=>q) fun _ _ q=>q
 ·have:=hf c z;rcases hc with rfl|hc
  ·rw[e]at this;cases this
  ·rw[hc]at this;cases this
 ·have:=hn c z;rcases hc with rfl|hc
  ·rw[e]at this;cases this
  ·rw[hc]at this;cases this
def Glg{a:BP}(k:HOk P w H h)(ha:H a=some (.ext φ)):HOk P w (del H a) h:=fun b o e=>by
 have nb:b≠a:=fun z=>by rw[z,Uz]at e;cases e
 rw[Vk nb]at e;refine(k b o e).stay (fun c u _ q=>q) (fun c q=>?_) fun c xs q=>?_
 ·rw[Vk (fun z=>by rw[z,ha]at q;cases q)];exact q
 ·rw[Vk (fun z=>by rw[z,ha]at q;cases q)];exact q
def Glh{L:BP}{H':Hp}(u:Un fs [] H H1 h h1)(l:Left (L::fs) no h1 h2)(hL:h.get? L=none)(hno:∀b∈no,h.get? b=none)(fr:∀b,H1 b=none->H' b=none)(tp:∀b xs,H1 b=some (.tup xs)->H' b=some (.tup xs))(fz:∀b o v,H1 b=some (.frz o v)->H' b=some (.frz o v))(tb:∀b ps,H1 b=some (.tbl ps)->H' b=some (.tbl ps)):Un fs [] H H' h h2:=by
 have nL:∀b o,h.get? b=some o->b≠L:=fun b o e z=>by rw[z,hL]at e;cases e
 have nN:∀b o,h.get? b=some o->b∉no:=fun b o e z=>by rw[hno b z]at e;cases e
 refine⟨fun b o e n hb hx=>?_,fun b o e n hb hx=>?_,fun b o e n hx=>fr b (u.free b o e n hx),fun b o e hx=>?_,fun b xs e=>tp b xs (u.tups b xs e),fun b o v e=>fz b o v (u.frzs b o v e),fun b ps e=>?_⟩
 ·refine l.keep b o (fun z=>?_) (nN b o e) (u.keep b o e n hb hx);rcases Ad.mp z with z|z
  ·exact nL b o e z
  ·exact hb z
 ·obtain⟨sl,q⟩:=u.slot b o e n hb hx;obtain⟨sl',q'⟩:=l.slot b _ (Au _ hb) q;exact⟨sl',q'⟩
 ·obtain⟨o',q⟩:=u.there b o e hx;by_cases c:b∈L::fs
  ·obtain⟨sl,q'⟩:=l.slot b o' c q;exact⟨_,q'⟩
  ·exact⟨o',l.keep b o' c (nN b o e) q⟩
 ·obtain⟨more,q⟩:=u.tbls b ps e;exact⟨more,tb b _ q⟩
section
variable{P:BR}{w:World}{K:BM}{mg:Str->BQ BN}{base:Heap}{N:List Str}{qual:Str}{scope:Scope}{f:BP}{cd:BN}{A:Around}{outer:List PySem.Env}{s:BO}{H:Hp}{E:XK}
def Zd{h0 h1:Heap}{b:BP}(u:Un fs [] H0 H1 h0 h1)(e:h1.get? b=none):h0.get? b=none:=by
 cases z:h0.get? b with
 |none=>rfl
 |some o=>
  obtain⟨o',q⟩:=u.there b o z (by simp);rw[e]at q;cases q
def Goz{s1:BO}(I:Inv (Vj (CXe P w) P w K mg base N qual scope f cd A outer s H E) pins O H1 s1)(hH:H1 e=some (.ext φ))(fr:Gb4 s1.heap e C dx)(le:s.heap.get? e=none)(hE:E (.ref C) dx (del H1 e)):
  (Vj (CXe P w) P w K mg base N qual scope f cd A outer s H E).xe (.ref e) s1:=by
 show wpAny (model P w) _ (leaving (envOfC qual scope s.heap.objs.size f cd) (.ref e)) _ _ s1;have hL:s.heap.get? s.heap.objs.size=none:=A4 (Ac _);refine Gza (base:=base) I.ok.frames I.stack rfl fr fun h' T fl hT lf=>?_;have hT1:H1 T=none:=Gbc I.hok hT;have dn:∀b,H1 b=none->del H1 e b=none:=fun b q=>by
  by_cases c:b=e
  ·rw[c,Uz]
  ·rw[Vk c];exact q
 have ne_of_kind:∀{b:BP}{o:HO},H1 b=some o->o≠.ext φ->b≠e:=fun q n z=>n (by rw[z,hH]at q;exact(Ab q).symm);refine⟨e,T,C,dx,del H1 e,rfl,I.os,I.bare,Glh (L:=s.heap.objs.size) I.base lf hL (fun b hb=>?_) dn (fun b xs q=>?_) (fun b o v q=>?_) (fun b ps q=>?_),hok_left (Glg I.hok hH) lf (fun b hb=>dn b (I.stkFree b hb)) (fun b hb=>?_),fl,⟨Uz,dn T hT1⟩,⟨le,Zd I.base hT⟩,hE⟩
 ·have:b=e:=by simpa using hb
  rw[this];exact le
 ·rw[Vk (ne_of_kind q (by intro z;cases z))];exact q
 ·rw[Vk (ne_of_kind q (by intro z;cases z))];exact q
 ·rw[Vk (ne_of_kind q (by intro z;cases z))];exact q
 ·have:b=e:=by simpa using hb
  rw[this];exact Uz
def xe_on{s2 s3:BO}{E2:XK}(I:Inv (Vj (CXe P w) P w K mg base N qual scope f cd A outer s H E) pins O H2 s2)(hx:CXe P w (Vj (CXe P w) P w K mg base N qual scope f cd A outer s H E).stack H2 s2 E2 e s3)(hE:∀C dx H',E2 (.ref C) dx H'->E (.ref C) dx H'):
  (Vj (CXe P w) P w K mg base N qual scope f cd A outer s H E).xe e s3:=by
 obtain⟨a,T,C,dx,H',rfl,os,bare,un,hok,fly,⟨na,nT⟩,⟨oa,oT⟩,hE2⟩:=hx;obtain⟨h3,g3,d3,t3,o3⟩:=s3;obtain rfl:o3=s2.os:=os;have I3:Inv (Vj (CXe P w) P w K mg base N qual scope f cd A outer s H E) pins O H' {s2 with heap:=h3,gens:=g3,drawn:=d3,toks:=t3}:=I.call (h':=h3) (g':=g3) (d':=d3) (t':=t3) (ch:=[]) un hok bare (fun b z=>absurd z (by simp));show wpAny (model P w) _ (leaving (envOfC qual scope s.heap.objs.size f cd) (.ref a)) _ _ _;have hL:s.heap.get? s.heap.objs.size=none:=A4 (Ac _);have a0:s.heap.get? a=none:=Zd I.base oa;have T0:s.heap.get? T=none:=Zd I.base oT;refine Gzb (base:=base) I3.ok.frames I3.stack rfl fly fun h' T' fl hT lf=>?_;have nT':H' T'=none:=by
  rcases hT with hT|rfl
  ·exact Gbc hok hT
  ·exact nT
 have oT':s.heap.get? T'=none:=by
  rcases hT with hT|rfl
  ·exact Zd I3.base hT
  ·exact T0
 refine⟨a,T',C,dx,H',rfl,I3.os,bare,Glh (L:=s.heap.objs.size) I3.base lf hL (fun b hb=>?_) (fun b q=>q) (fun b xs q=>q) (fun b o v q=>q) (fun b ps q=>q),hok_left hok lf (fun b hb=>I3.stkFree b hb) (fun b hb=>?_),fl,⟨na,nT'⟩,⟨a0,oT'⟩,hE _ _ _ hE2⟩
 ·simp only[Ad,Av,or_false]at hb;rcases hb with rfl|rfl
  ·exact a0
  ·exact T0
 ·simp only[Ad,Av,or_false]at hb;rcases hb with rfl|rfl
  ·exact na
  ·exact nT
end
def XF(H:Hp)(dx:BQ BP)(fl:BQ Int):Prop:=(∀i,fl=some i->∃d,dx=some d/\H d=some (XA d i))/\(fl=none->dx=none)
def Gtd:XF H none none:=⟨fun _ z=>(nomatch z),fun _=>rfl⟩
def WX(K:BM)(XQ:XW)(O:L2.St)(C:BP)(dx:BQ BP)(H:Hp):Prop:=∃x mp U S,XF H dx x.fld/\CN K x.cls C/\XQ x mp H O U S
structure XL(X:Cx)(XQ:XW):Prop where
 own:∀(pins:List (BP×Obj))(O:L2.St)(H:Hp)(s:BO)(e C:BP)(dx:BQ BP)(φ:Heap->Prop),Inv X pins O H s->H e=some (.ext φ)->Gb4 s.heap e C dx->X.s₀.heap.get? e=none->WX X.K XQ O C dx (del H e)->X.xe (.ref e) s
 cal:∀(pins:List (BP×Obj))(O:L2.St)(H:Hp)(s:BO)(e:BN)(s':BO)(E2:XK),Inv X pins O H s->CXe X.prog X.w X.stack H s E2 e s'->(∀C dx H',E2 (.ref C) dx H'->WX X.K XQ O C dx H')->X.xe e s'
 pas:PassesOwn (model X.prog X.w) X.A X.env X.xe
 pat:∀hd,PassesOwnAt (model X.prog X.w) (X.A.mark hd) X.A X.env X.xe
def XL.own1(L:XL X XQ)(pins:List (BP×Obj))(O:L2.St)(H:Hp)(s:BO)(e C:BP)(dx:BQ BP)(I:Inv X pins O H s)(hH:H e=some (FX e C dx))(h0:X.s₀.heap.get? e=none)(w:WX X.K XQ O C dx (del H e)):X.xe (.ref e) s:=by
 obtain⟨fr,_,_⟩:=(show Ks X.prog X.w H s.heap e (FX e C dx)from I.hok e _ hH)
 exact L.own pins O H s e C dx _ I hH fr.g h0 w
def Hcf(K:BM)(mp:List BP)(H:Hp)(o:Out D)(Q:VK)(E:XK):Prop:=
 match o with
 |.ok d S=>∀mp' H' v,Aft K mp H mp' H'->RS K mp' H' S->Rep K mp' H' d v->Q v H'
 |.exc x S=>∃C,CN K x.cls C/\∀mp' H' dx,Aft K mp H mp' H'->RS K mp' H' S->XF H' dx x.fld->E (.ref C) dx H'
 |.bad=>False
def spX(K:BM)(n:Nat)(fn:Fn):Sp:=fun vs H Q E=>∃mp ds S,RS K mp H S/\RepL K mp H ds vs/\ds.length=n/\Hcf K mp H (fn ds S) Q E
def XQd(K:BM)(E:XK):XW:=fun x _ H _ _ _=>∃C,CN K x.cls C/\∀dx,XF H dx x.fld->E (.ref C) dx H
section
variable{P:BR}{w:World}{K:BM}{mg:Str->BQ BN}{base:Heap}
def Gzc{f:BP}:XL (Vj (CXe P w) P w K mg base N qual scope f cd A outer s H E) (XQd K E) where
 own:=fun pins O H1 s1 e C dx φ I hH fr le ⟨x,mp,U,S,xf,hc,C',hc',hE⟩=>by
  cases CN.one hc hc';exact Goz I hH fr le (hE dx xf)
 cal:=fun pins O H2 s2 e s3 E2 I hx hE=>xe_on I hx fun C dx H' q=>by
  obtain⟨x,mp,U,S,xf,hc,C',hc',hE⟩:=hE C dx H' q;cases CN.one hc hc';exact hE dx xf
 pas:=PassesOwn.leaving
 pat:=fun _=>PassesOwnAt.leaving
def Fun.okX{f:BP}(F:Fun K x qual st f fd)(S:FnScope N ps (Gc st))(len:∀ vs H Q E,sp vs H Q E->vs.length=ps.length)(hbody:∀ (cdv:BN) (A:Around) (outer:List PySem.Env) (s:BO) (H:Hp) (vs:List V) (Q:VK) (E:XK),Room k (A.deeper (envOfC qual (Gc st) s.heap.objs.size f cdv))->sp vs H Q E→
   ∃ t,PSs (Vj CX P w K mg base N qual (Gc st) f cdv A outer s H E) (Hl st) t/\t { nx:=fun _ H'=>Q .non H',rt:=Q } (start N vs) H):FnOk P w K mg base CX (k+1) f fd ps sp:=by
 obtain⟨oc,od,kV,doc,pm,an,cdv,ct,osl,rfl,lk,hcd⟩:=F.ex;exact Gu9 lk hcd S len fun A outer s H vs Q E hr hsp=>hbody cdv A outer s H vs Q E hr hsp
def Gzd{f:BP}{b:Sv}(F:Fun K x qual st f fd)(Sc:FnScope N ps (Gc st))(hb:∀ (cdv:BN) (A:Around) (outer:List PySem.Env) (s:BO) (H:Hp) (E:XK) (XQ:XW),Room k (A.deeper (envOfC qual (Gc st) s.heap.objs.size f cdv))->XL (Vj (CXe P w) P w K mg base N qual (Gc st) f cdv A outer s H E) XQ→
   JSs (Vj (CXe P w) P w K mg base N qual (Gc st) f cdv A outer s H E) XQ (Hl st) b):FnOk P w K mg base (CXe P w) (k+1) f fd ps (spX K ps.length (fnB N.length b)):=by
 refine Fun.okX F Sc (fun vs H Q E ⟨mp,ds,S,rs,r,hl,_⟩=>by rw[r.len];exact hl) fun cdv A outer s H vs Q E hr ⟨mp,ds,S,rs,r,hl,p⟩=>?_;refine⟨_,hb cdv A outer s H E (XQd K E) hr Gzc,mp,_,S,Gic rs r,?_⟩;unfold fnB at p;show PostS K _ mp H (b (ds.map some++List.replicate (N.length-ds.length) none) S) _;cases z:b (ds.map some++List.replicate (N.length-ds.length) none) S with
 |rt d S'=>rw[z]at p;exact p
 |nx U' S'=>rw[z]at p;exact fun m h v af G=>p m h .non af G.rs rfl
 |bk U' S'=>rw[z]at p;exact p.elim
 |ct U' S'=>rw[z]at p;exact p.elim
 |exc x U' S'=>
  rw[z]at p;obtain⟨C,hc,q⟩:=p;exact fun m h v af G=>⟨C,hc,fun dx xf=>q m h dx af G.rs xf⟩
 |bad=>rw[z]at p;exact p.elim
structure CalX(P:BR)(w:World)(K:BM)(mg:Str->BQ BN)(base:Heap)(x:Str)(ps:List Str)(fn:Fn)(j:Nat):Prop where
 ex:∃f fd,FnOk P w K mg base (CXe P w) j f fd ps (spX K ps.length fn)/\mg x=some (.ref f)/\PySem.W.keepIn K (.ref f)=true/\Binds K fd ps []
def Gte(N:List Str)(k:Nat)(b:Sv)(hfn:fn=fnB N.length b)(d:Dn K mg x st ps)(Sc:FnScope N ps (Gc st))(hb:∀ (f:BP) (cdv:BN) (A:Around) (outer:List PySem.Env) (s:BO) (H:Hp) (E:XK) (XQ:XW),Room k (A.deeper (envOfC x (Gc st) s.heap.objs.size f cdv))->XL (Vj (CXe P w) P w K mg base N x (Gc st) f cdv A outer s H E) XQ→
   JSs (Vj (CXe P w) P w K mg base N x (Gc st) f cdv A outer s H E) XQ (Hl st) b):CalX P w K mg base x ps fn (k+1):=by
 subst hfn;obtain⟨f,fd,F,hm,hbi⟩:=d.ex;exact⟨f,fd,Gzd F Sc (hb f),hm,F.kp,hbi⟩
end
section
variable{X:Cx}{XQ:XW}{k:Nat}{f:BP}{fd:FuncData}{ps:List Str}{fn:Fn}{x:Str}{p pos:Pos}{e:Expr}{es:List Expr}
def Gze(sp:Sp)(Wx:L2.St->BP->BQ BP->Hp->Prop)(t:TA):TE:=fun O H Q=>t O H fun vs H1=>sp vs H1 Q fun c dx H'=>∃C,c=.ref C/\Wx O C dx H'
def Gli{Wx:L2.St->BP->BQ BP->Hp->Prop}{Q:VK}{vs:List V}(F:FnOk X.prog X.w X.K X.mg X.base (CXe X.prog X.w) k f fd ps sp)(hr:Room k X.A)(hb:Binds X.K fd ps [])(hx:∀(pins:List (BP×Obj))(O:L2.St)(H:Hp)(s:BO)(e:BN)(s':BO)(E2:XK),Inv X pins O H s->CXe X.prog X.w X.stack H s E2 e s'->(∀C dx H',E2 (.ref C) dx H'->Wx O C dx H')->X.xe e s')(I:Inv X pins O H s)(r:Vals vs us)(h:sp vs H Q fun c dx H'=>∃C,c=.ref C/\Wx O C dx H'):wpAny (model X.prog X.w) X.A (call (.ref f) us) (EP X pins O Q) X.xe s:=by
 have hl:us.length=ps.length:=by rw[<- r.length];exact F.len _ _ _ _ h
 refine wpAny_call (codeAny_mono (F.run X.A X.stack s H ⟨us,[]⟩ us vs Q _ hr I.env0 (by have:=hb s us I.kIn (by simpa using hl);simpa using this) r h) fun r s' hq=>?_);cases r with
 |error e=>exact hx pins O H s e s' (fun c dx H'=>∃C,c=.ref C/\Wx O C dx H') I hq fun C dx H' ⟨C',e1,q⟩=>by cases e1;exact q
 |ok fl=>
  cases fl with
  |ret u=>exact I.after hq
  |next=>exact False.elim hq
  |brk=>exact False.elim hq
  |cont=>exact False.elim hq
def Go0{Wx:L2.St->BP->BQ BP->Hp->Prop}{t:TA}(F:FnOk X.prog X.w X.K X.mg X.base (CXe X.prog X.w) k f fd ps sp)(hr:Room k X.A)(hg:Gl X x)(hm:X.mg x=some (.ref f))(hk:PySem.W.keepIn X.K (.ref f)=true)(hb:Binds X.K fd ps [])(hx:∀(pins:List (BP×Obj))(O:L2.St)(H:Hp)(s:BO)(e:BN)(s':BO)(E2:XK),Inv X pins O H s->CXe X.prog X.w X.stack H s E2 e s'->(∀C dx H',E2 (.ref C) dx H'->Wx O C dx H')->X.xe e s')(ha:PA X (e::es) t)(hdb:↥((x==("__debug__":Str))=false))(he:⇑(starEach (e::es) X.env=(false,eval e X.env)::starEach es X.env))(hpl:⇑((backTo pos (starEach es X.env)).any (·.1)=false)):
  PE X (.Call (.Name x p) (e::es) [] pos) (Gze sp Wx t):=by
 intro pins s O H Q I h;refine wpAny_Call_Name_kw (Ga7 I hg hm ?_ hdb);refine PySem.W.callWith_K (h₀:=X.base) I.ok.mod.kin hk (thn (ha pos pins s O H _ I h) fun us s1 ⟨vs,H1,I1,r,q⟩=>⟨I1.kIn,?_⟩) he hpl;exact Gli F hr hb hx I1 r q
noncomputable def gX(ys:List Str)(fn:Fn):Fn:=fun ds S=>match fn ds S with
 |.ok d S'=>.ok d S'
 |.exc x S'=>if x.cls∈ys then .exc x S' else .bad
 |.bad=>.bad
def XNs(K:BM)(ys:List Str):Prop:=∀y∈ys,∃C,CN K y C/\XCl K C
def Go1{ys:List Str}(xs:XNs X.K ys)(L:XL X XQ)(F:FnOk X.prog X.w X.K X.mg X.base (CXe X.prog X.w) j f fd ps (spX X.K ps.length fn))(hr:Room k X.A)(hj:j<=k)(hg:Gl X x)(hm:X.mg x=some (.ref f))(hk:PySem.W.keepIn X.K (.ref f)=true)(hb:Binds X.K fd ps [])(ha:JA X XQ (e::es) t)(hdb:↥((x==("__debug__":Str))=false))(he:⇑(starEach (e::es) X.env=(false,eval e X.env)::starEach es X.env))(hpl:⇑((backTo pos (starEach es X.env)).any (·.1)=false)):
  JE X XQ (.Call (.Name x p) (e::es) [] pos) (cl ps.length (gX ys fn) t):=by
 refine PE.mono (Go0 (Wx:=WX X.K XQ) (F.mono hj) hr hg hm hk hb L.cal ha hdb he hpl) fun O H Q zq0=>?_;obtain⟨mp,U,S,G,p⟩:=zq0;refine bindP G p fun mp1 H1 ds S1 vs a1 G1 r1 p1=>?_;by_cases hl:ds.length=ps.length
 ·rw[if_pos hl]at p1;refine⟨mp1,ds,S1,G1.rs,r1,hl,?_⟩;unfold gX at p1;cases z:fn ds S1 with
  |ok d S'=>rw[z]at p1;exact p1
  |exc xx S'=>
   rw[z]at p1;by_cases hi:xx.cls∈ys
   ·have p1:Gn X.K (Rep X.K) XQ O U mp1 H1 (.exc xx S') Q:=by simpa only[if_pos hi]using p1
    obtain⟨C,hC,_⟩:=xs _ hi;refine⟨C,hC,fun mp' H' dx af rs xf=>⟨C,rfl,xx,mp',U,S',xf,hC,p1 mp' H' af (G1.aft af rs)⟩⟩
   ·have p1:Gn X.K (Rep X.K) XQ O U mp1 H1 .bad Q:=by simpa only[if_neg hi]using p1
    exact p1.elim
  |bad=>rw[z]at p1;exact p1.elim
 ·rw[if_neg hl]at p1;exact p1.elim
def Hcg{ys:List Str}(xs:XNs X.K ys)(L:XL X XQ)(C:CalX X.prog X.w X.K X.mg X.base x ps fn j)(hr:Room k X.A)(hg:Gl X x)(hp:Hi x=true)(ha:JA X XQ (e::es) t)(hn:⇑(ps.length=n))(hj:↥(j<=k))(he:⇑(starEach (e::es) X.env=(false,eval e X.env)::starEach es X.env))(hpl:⇑((backTo pos (starEach es X.env)).any (·.1)=false)):
  JE X XQ (.Call (.Name x p) (e::es) [] pos) (cl n (gX ys fn) t):=by
 subst hn;obtain⟨f,fd,F,hm,hk,hb⟩:=C.ex;exact Go1 xs L F hr hj hg hm hk hb ha (Hi.of hp).1 he hpl
def srs(y:Str)(f:Ev (List D)):Sv:=fun U S=>bindS (f U S) U fun ds S1=>match ds with
 |[_]=>.exc ⟨y,none⟩ U S1
 |_=>.bad
structure ClX(P:BR)(w:World)(K:BM)(mg:Str->BQ BN)(base:Heap)(x:Str)(j:Nat):Prop where
 ex:∃C f fd ps oI,mg x=some (.ref C)/\CN K x C/\KX K C/\PySem.W.findIn K (.ref C) "__init__"=some (some (.ref f))/\K.lookup f=some oI/\oI.cls=.type "function"/\FnOk P w K mg base CX0 j f fd ps (spI K)/\ps.length=2/\Binds K fd ps []
def Go2(L:XL X XQ)(hcm:X.calm=true)(C:ClX X.prog X.w X.K X.mg X.base x j)(hr:Room k X.A)(hg:Gl X x)(hp:Hi x=true)(ha:JA X XQ [a] t)(hj:↥(j+1<=k))(he:⇑(starEach [a] X.env=(false,eval a X.env)::starEach [] X.env))(hpl:⇑((backTo cpos (starEach [] X.env)).any (·.1)=false)):
  JS X XQ (.Raise (some (.Call (.Name x np) [a] [] cpos)) none pos) (srs x t):=by
 obtain⟨C,f,fd,ps,oI,hm,hc,kx,hi,lf,hfc,F,hl,hb⟩:=C.ex;refine PS.mono (Goy (W:=fun O H e=>WX X.K XQ O C none (del H e)) (fun pins O H e s' I hH h0 w=>L.own1 pins O H s' e C none I hH h0 w) hcm hg hm kx hi lf hfc F hl (hr.mono hj) hb ha (Hi.of hp).1 he hpl) fun E O H zq0=>?_;obtain⟨mp,U,S,G,p⟩:=zq0;refine bindSP G p fun mp1 H1 ds S1 vs a1 G1 r1 p1=>?_;split at p1
 ·obtain⟨v,rfl,_⟩:=RepL.one r1;refine⟨v,rfl,fun e he=>⟨⟨x,none⟩,mp1,U,S1,Gtd,hc,?_⟩⟩;have e1:del (upd H1 e (FX e C none)) e=H1:=by
   funext b;by_cases c:b=e
   ·rw[c,Uz,he]
   ·rw[Vk c,Gv c]
  rw[e1];exact p1 mp1 H1 O .refl G1
 ·exact p1.elim
end
structure Plain(X:Cx):Prop where
 stk:X.stack=X.env::X.outer
 fr:X.env.frame=some X.env.locals
 ex:X.ex=[]
structure Landed(X:Cx)(pins:List (BP×Obj))(O:L2.St)(H:Hp)(a C:BP)(dx:BQ BP)(s:BO):Prop where
 ex:∃T,Inv X pins O H s/\Fly s.heap a T C dx/\(H a=none/\H T=none)/\(X.s₀.heap.get? a=none/\X.s₀.heap.get? T=none)/\∀p∈X.pn++pins,p.1≠a/\p.1≠T
section
variable{X:Cx}{pins:List (BP×Obj)}{O:L2.St}{H:Hp}{s:BO}{A:Around}{E:BN->BO->Prop}{Q:Unit->BO->Prop}{M:Model}
def Plain.old{b:BP}(pl:Plain X)(I:Inv X pins O H s)(e:s.heap.get? b=none):X.s₀.heap.get? b=none:=by
 have u:=I.base;rw[pl.ex]at u;exact Zd u e
def own_land(pl:Plain X)(I:Inv X pins O H s)(hH:H e=some (.ext φ))(fr:Gb4 s.heap e C dx)(le:X.s₀.heap.get? e=none)(hq:∀s',Landed X pins O (del H e) e C dx s'->Q () s'):
  wpAny M X.A (noteFrame (.ref e) X.env) (fun _ s₂=>wpAny M X.A (setFlight (.ref e) none) Q E s₂) E s:=by
 have hfr:X.A.frames=some (X.env::X.outer):=by rw[I.ok.frames,pl.stk]
 have hl:s.heap.FunFrames X.base (X.env::X.outer):=by rw[<- pl.stk];exact I.stack
 refine Gvs hfr hl pl.fr fr fun h' T fl hT lf=>hq _ ?_;have dn:∀b,H b=none->del H e b=none:=fun b q=>by
  by_cases c:b=e
  ·rw[c,Uz]
  ·rw[Vk c];exact q
 have nk:∀{b:BP}{o:HO},H b=some o->o≠.ext φ->b≠e:=fun q n z=>n (by rw[z,hH]at q;exact(Ab q).symm);have ne0:∀b,H b=none->b≠e:=fun b q z=>by rw[z,hH]at q;cases q
 rw[<- pl.stk]at lf;have un:Un (frs X.stack) [] H (del H e) s.heap h':=⟨fun b o q n hb _=>lf.keep b o hb (fun z=>ne0 b n (by simpa using z)) q,fun b o q n hb _=>lf.slot b o hb q,fun b o q n _=>dn b n,fun b o q _=>by
   by_cases c:b∈frs X.stack
   ·obtain⟨sl,q'⟩:=lf.slot b o c q;exact⟨_,q'⟩
   ·by_cases c2:b=e
    ·subst c2;obtain⟨oe,_,_,_,_,z,_⟩:=fl;exact⟨_,z⟩
    ·exact⟨o,lf.keep b o c (by simpa using c2) q⟩,
  fun b xs q=>by rw[Vk (nk q (by intro z; cases z))]; exact q,fun b o v q=>by rw[Vk (nk q (by intro z; cases z))]; exact q,fun b ps q=>⟨#[],by rw[Vk (nk q (by intro z; cases z)),q]; simp⟩⟩
 have hk:HOk X.prog X.w (del H e) h':=hok_left (Glg I.hok hH) lf (fun b hb=>dn b (I.stkFree b hb)) (fun b hb=>by
  have:b=e:=by simpa using hb
  rw[this]; exact Uz)
 refine⟨T,?_,fl,⟨Uz,dn T (Gbc I.hok hT)⟩,⟨le,pl.old I hT⟩,fun p hp=>?_⟩
 ·have J:=I.call (h':=h') (g':=s.gens) (d':=s.drawn) (t':=s.toks) (ch:=[]) un hk I.bare (fun b z=>absurd z (by simp));exact J
 ·obtain⟨q1,q2,_⟩:=I.pin p hp;refine⟨ne0 _ q2,fun z=>?_⟩;rw[z,hT]at q1;cases q1
def call_land{E2:XK}(pl:Plain X)(I:Inv X pins O H s)(hx:CXe X.prog X.w X.stack H s E2 e s')(hq:∀a C dx H' s'',e=.ref a->E2 (.ref C) dx H'->Landed X pins O H' a C dx s''->Q () s''):
  wpAny M X.A (noteFrame e X.env) (fun _ s₂=>wpAny M X.A (setFlight e none) Q E s₂) E s':=by
 obtain⟨a,T,C,dx,H',rfl,os,bare,un,hok,fly,⟨na,nT⟩,⟨oa,oT⟩,hE2⟩:=hx;obtain⟨h3,g3,d3,t3,o3⟩:=s';obtain rfl:o3=s.os:=os;have I3:Inv X pins O H' {s with heap:=h3,gens:=g3,drawn:=d3,toks:=t3}:=I.call (h':=h3) (g':=g3) (d':=d3) (t':=t3) (ch:=[]) un hok bare (fun b z=>absurd z (by simp));have hfr:X.A.frames=some (X.env::X.outer):=by rw[I.ok.frames,pl.stk]
 have hl:h3.FunFrames X.base (X.env::X.outer):=by rw[<- pl.stk];exact I3.stack
 refine Gvt (s:={s with heap:=h3,gens:=g3,drawn:=d3,toks:=t3}) hfr hl pl.fr fly fun h' T' fl hT lf=>hq a C dx H' _ rfl hE2 ?_;rw[<- pl.stk]at lf;have nn:∀b o,s.heap.get? b=some o->b∉[a,T]:=fun b o q z=>by
  simp only[Ad,Av,or_false]at z;rcases z with rfl|rfl
  ·rw[oa]at q;cases q
  ·rw[oT]at q;cases q
 have un2:Un (frs X.stack) [] H H' s.heap h':=⟨fun b o q n hb hx=>lf.keep b o hb (nn b o q) (un.keep b o q n hb hx),fun b o q n hb hx=>by
   obtain⟨sl,q1⟩:=un.slot b o q n hb hx;obtain⟨sl',q2⟩:=lf.slot b _ hb q1;exact⟨sl',q2⟩,un.free,fun b o q hx=>by
   obtain⟨o',q1⟩:=un.there b o q hx;by_cases c:b∈frs X.stack
   ·obtain⟨sl,q2⟩:=lf.slot b o' c q1;exact⟨_,q2⟩
   ·exact⟨o',lf.keep b o' c (nn b o q) q1⟩,un.tups,un.frzs,un.tbls⟩
 have nT':H' T'=none:=by
  rcases hT with hT|rfl
  ·exact Gbc hok hT
  ·exact nT
 have oT':X.s₀.heap.get? T'=none:=by
  rcases hT with hT|rfl
  ·exact pl.old I3 hT
  ·exact pl.old I oT
 have hk:HOk X.prog X.w H' h':=hok_left hok lf (fun b hb=>I3.stkFree b hb) (fun b hb=>by
  simp only[Ad,Av,or_false]at hb;rcases hb with rfl|rfl
  ·exact na
  ·exact nT)
 refine⟨T',?_,fl,⟨na,nT'⟩,⟨pl.old I oa,oT'⟩,fun p hp=>?_⟩
 ·have J:=I.call (h':=h') (g':=g3) (d':=d3) (t':=t3) (ch:=[]) un2 hk bare (fun b z=>absurd z (by simp));exact J
 ·obtain⟨q1,q2,_⟩:=I.pin p hp;obtain⟨q3,_,_⟩:=I3.pin p hp;refine And.intro (fun z=>?_) (fun z=>?_)
  ·rw[z,oa]at q1;cases q1
  rcases hT with hT|rfl
  ·rw[z]at q3;rw[show h3.get? T'=none from hT]at q3;cases q3
  ·rw[z,oT]at q1;cases q1
end
section
variable{X:Cx}{pins:List (BP×Obj)}{O:L2.St}{H:Hp}{s:BO}{A:Around}{E:BN->BO->Prop}{Q:Unit->BO->Prop}{M:Model}
def Gtf{h':Heap}(I:Inv X pins O H s)(k:∀b o,b≠it->s.heap.get? b=some o->h'.get? b=some o)(there:∃o,h'.get? it=some o)(hn:H it=none)(hL:it≠X.env.locals)(h0:X.s₀.heap.get? it=none)(h2:∀x c,X.env.cells.lookup x=some c->c≠it)(h3:∀p∈X.pn++pins,p.1≠it):Inv X pins O H {s with heap:=h'}:=by
 have n0:∀b o,X.s₀.heap.get? b=some o->b≠it:=fun b o e z=>by rw[z,h0]at e;cases e
 have nit:∀b u,H b=some u->b≠it:=fun b u e z=>by rw[z,hn]at e;cases e
 have ce:∀x c,X.env.cells.lookup x=some c->∀v,s.heap.IsCell c v->h'.IsCell c v:=fun x c e v ⟨o,ho,hd⟩=>⟨o,k c o (h2 x c e) ho,hd⟩
 refine⟨I.ok,I.os,I.bare,⟨fun b o e n hb hx=>k b o (n0 b o e) (I.base.keep b o e n hb hx),fun b o e n hb hx=>?_,I.base.free,fun b o e hx=>?_,I.base.tups,I.base.frzs,I.base.tbls⟩,?_,fun x c e=>?_,I.free,I.freeC,fun p hp=>?_,fun b u e=>?_,I.len⟩
 ·obtain⟨sl,q⟩:=I.base.slot b o e n hb hx;exact⟨sl,k b _ (n0 b o e) q⟩
 ·obtain⟨o',q⟩:=I.base.there b o e hx;exact⟨o',k b o' (n0 b o e) q⟩
 ·obtain⟨m,⟨o,es,ep,ho,r⟩,hl⟩:=I.loc;refine⟨m,⟨o,es,ep,k _ o (Ne.symm hL) ho,r⟩,fun i x v e1 e2 e3=>?_⟩;obtain⟨u,r,l⟩:=hl i x v e1 e2 e3;refine⟨u,r,?_⟩;rcases l with l|⟨kk,c,e,z⟩
  ·exact .inl l
  ·exact .inr ⟨kk,c,e,ce x c e _ z⟩
 ·obtain⟨v,z⟩:=I.cell x c e;exact⟨v,ce x c e v z⟩
 ·obtain⟨q1,q2,q3,q4,q5⟩:=I.pin p hp;exact⟨k _ _ (h3 p hp) q1,q2,q3,q4,q5⟩
 ·refine(I.hok b u e).stay (fun c v hc q=>k c v ?_ q) (fun _ q=>q) fun _ _ q=>q;rcases hc with z|z
  ·rw[z];exact nit b u e
  ·exact nit c _ z
def Gzf{b:BP}{o:Obj}(I:Inv X pins O H s)(e:s.heap.get? b=some o)(d:o.data=.fields vs):b≠X.env.locals/\∀x c,X.env.cells.lookup x=some c->c≠b:=by
 refine⟨fun z=>?_,fun x c hc z=>?_⟩
 ·obtain⟨m,⟨o',es,ep,ho,hd,_⟩,_⟩:=I.loc;rw[<- z,e]at ho;cases ho;rw[d]at hd;cases hd
 ·obtain⟨v,o',ho,hd⟩:=I.cell x c hc;rw[z,e]at ho;cases ho;rw[d]at hd;cases hd
def Landed.flight{a:BP}(l:Landed X pins O H a C dx s)(hq:∀s',Landed X pins O H a C dx s'->Q () s'):wpAny M A (setFlight (.ref a) none) Q E s:=by
 obtain⟨T,I,⟨oe,vs,oT,ts,a0,e1,e2,e3,e4,e5,e6,e7,e8⟩,⟨na,nT⟩,⟨oa,ot⟩,pn⟩:=l.ex;have h3:3<ts.size:=(Array.getElem?_eq_some_iff.mp e8).1;refine wpAny_setFlight_none e1 e3 e4 e6 e7 h3 (hq _ ⟨T,?_,?_,⟨na,nT⟩,⟨oa,ot⟩,pn⟩)
 ·have rn:=Gzf I e6 e7;exact Gtf (it:=T) I (fun b o hb q=>by rw[AL _ _ (Ne.symm hb)];exact q) ⟨_,AU _ e6 (Obj.isFreed_of_fields (Obj.data_mapFields e7 _))⟩ nT rn.1 ot rn.2 fun p hp=>(pn p hp).2
 ·exact⟨oe,vs,_,_,a0,by rw[AL _ _ e5];exact e1,e2,e3,e4,e5,AU _ e6 (Obj.isFreed_of_fields (Obj.data_mapFields e7 _)),Obj.data_mapFields e7 _,by simp[h3]⟩
abbrev hnd(X:Cx)(a:BP):Cx:={X with A:=X.A.mark (some (.ref a)),calm:=false,xe:=fun _ _=>False}
def _root_.L2.Inv.hnd(I:Inv X pins O H s)(a:BP):Inv (DL.hnd X a) pins O H s:=
 ⟨⟨I.ok.mod,I.ok.kind,I.ok.glob,I.ok.blt,I.ok.above,I.ok.inj,I.ok.has,I.ok.cab,(fun z=>nomatch z),I.ok.frames,I.ok.stk,I.ok.exf,I.ok.bs,I.ok.bsz,I.ok.noex,I.ok.exfs,I.ok.funs,I.ok.frf⟩,I.os,I.bare,I.base,I.loc,I.cell,I.free,I.freeC,I.pin,I.hok,I.len⟩
def _root_.L2.Inv.unhnd{a:BP}(ok:X.Ok)(I:Inv (DL.hnd X a) pins O H s):Inv X pins O H s:=⟨ok,I.os,I.bare,I.base,I.loc,I.cell,I.free,I.freeC,I.pin,I.hok,I.len⟩
end
noncomputable abbrev trb(X:Cx)(pn:List (BP×Obj))(xe:BN->BO->Prop):Cx:={X with pn:=pn,xe:=xe}
section
variable{X:Cx}{XQ:XW}{pins:List (BP×Obj)}{O:L2.St}{H:Hp}{s:BO}{pn:List (BP×Obj)}{xe:BN->BO->Prop}
noncomputable def _root_.L2.Inv.trb(I:Inv X pins O H s):Inv (DL.trb X (X.pn++pins) xe) [] O H s:=
 ⟨⟨I.ok.mod,I.ok.kind,I.ok.glob,I.ok.blt,I.ok.above,I.ok.inj,I.ok.has,I.ok.cab,I.ok.hd,I.ok.frames,I.ok.stk,I.ok.exf,I.ok.bs,I.ok.bsz,I.ok.noex,I.ok.exfs,I.ok.funs,I.ok.frf⟩,I.os,I.bare,I.base,I.loc,I.cell,I.free,I.freeC,fun p hp=>I.pin p (by simpa using hp),I.hok,I.len⟩
def _root_.L2.Inv.untrb(ok:X.Ok)(I:Inv (DL.trb X (X.pn++pins) xe) pins' O H s):Inv X pins O H s:=
 ⟨ok,I.os,I.bare,I.base,I.loc,I.cell,I.free,I.freeC,fun p hp=>I.pin p (Bp _ hp),I.hok,I.len⟩
def Landed.untrb{a:BP}(ok:X.Ok)(l:Landed (DL.trb X (X.pn++pins) xe) pins' O H a C dx s):Landed X pins O H a C dx s:=by
 obtain⟨T,I,f,n,o,p⟩:=l.ex;exact⟨T,I.untrb ok,f,n,o,fun q hq=>p q (Bp _ hq)⟩
noncomputable def Plain.trb(pl:Plain X):Plain (trb X pn xe):=⟨pl.stk,pl.fr,pl.ex⟩
noncomputable def Gbd(ys:List Str)(hh:XD->Sv)(fb:Sv):Sv:=fun U S=>match fb U S with
 |.nx U' S'=>.nx U' S'
 |.rt d S'=>.rt d S'
 |.bk U' S'=>.bk U' S'
 |.ct U' S'=>.ct U' S'
 |.exc x U' S'=>if x.cls∈ys then hh x U' S' else .bad
 |.bad=>.bad
def Gtg{ys:List Str}{hh:XD->Sv}{fb:Sv}(pl:Plain X)(hH:∀(pins:List (BP×Obj))(O:L2.St)(H:Hp)(s:BO)(a C:BP)(dx:BQ BP)(x:XD)(mp:List BP)(U:Lc)(S:Sto)(D:Ends),x.cls∈ys->CN X.K x.cls C->XF H dx x.fld->Landed X pins O H a C dx s->Gd X.K mp H O U S->PostS X.K XQ mp H (hh x U S) D->wpAny (model X.prog X.w) X.A (handleBy (.ref a) X.env [hd]) (SP X pins D) X.xe s)(hb:∀(pn:List (BP×Obj))(xe:BN->BO->Prop)(XQ':XW),XL (trb X pn xe) XQ'->JSs (trb X pn xe) XQ' body fb):JS X XQ (.Try body [hd] [] [] pos) (Gbd ys hh fb):=by
 intro pins s O H D I zq0;obtain⟨mp,U,S,G,p⟩:=zq0;refine wpAny_Try_except ?_;have ok:=I.ok;let Eh:BN->BO->Prop:=fun e s₁=>wpAny (model X.prog X.w) X.A (noteFrame e X.env) (fun _ s₂=>wpAny (model X.prog X.w) X.A (setFlight e none) (fun _ s₃=>wpAny (model X.prog X.w) X.A (handleBy e X.env [hd]) (SP X pins D) X.xe s₃) X.xe s₂) X.xe s₁;let XQ':XW:=fun x mp H O U S=>x.cls∈ys/\Gd X.K mp H O U S/\PostS X.K XQ mp H (hh x U S) D;have fin:∀(pins':List (BP×Obj))(O:L2.St)(H:Hp)(s:BO)(a C:BP)(dx:BQ BP),WX X.K XQ' O C dx H->Landed (DL.trb X (X.pn++pins) Eh) pins' O H a C dx s->wpAny (model X.prog X.w) X.A (handleBy (.ref a) X.env [hd]) (SP X pins D) X.xe s:=
  fun pins' O H s a C dx ⟨x,mp,U,S,xf,hc,hm,G,p⟩ l=>hH pins O H s a C dx x mp U S D hm hc xf (l.untrb ok) G p
 have L:XL (DL.trb X (X.pn++pins) Eh) XQ':=⟨fun pins' O H s e C dx φ I hH fr le w=>own_land (X:=DL.trb X (X.pn++pins) Eh) pl.trb I hH fr le fun s' l=>fin pins' O _ s' e C dx w l,
  fun pins' O H s e s' E2 I hx hE=>call_land (X:=DL.trb X (X.pn++pins) Eh) pl.trb I hx fun a C dx H' s'' ea q l=>by
   subst ea;exact fin pins' O H' s'' a C dx (hE C dx H' q) l,
  PassesOwn.looking,fun _=>PassesOwnAt.looking⟩
 have post:PostS X.K XQ' mp H (fb U S) D:=by
  unfold Gbd at p;cases z:fb U S with
  |nx U' S'=>rw[z]at p;exact p
  |rt d S'=>rw[z]at p;exact p
  |bk U' S'=>rw[z]at p;exact p
  |ct U' S'=>rw[z]at p;exact p
  |bad=>rw[z]at p;exact p
  |exc x U' S'=>
   rw[z]at p;by_cases hm:x.cls∈ys
   ·have p:PostS X.K XQ mp H (hh x U' S') D:=by simpa only[if_pos hm]using p
    exact fun mp' H' O' af G'=>⟨hm,G',PostS.aft p af⟩
   ·have p:PostS X.K XQ mp H .bad D:=by simpa only[if_neg hm]using p
    exact p.elim
 refine wpAny_mono (hb (X.pn++pins) Eh XQ' L [] s O H D I.trb ⟨mp,U,S,G,post⟩) (fun f s1 q=>?_) fun e s1 q=>q;cases f with
 |next=>
  obtain⟨O',H',I',q⟩:=q;exact wpAny_execs_nil ⟨O',H',I'.untrb ok,q⟩
 |brk=>
  obtain⟨O',H',I',q⟩:=q;exact⟨O',H',I'.untrb ok,q⟩
 |cont=>
  obtain⟨O',H',I',q⟩:=q;exact⟨O',H',I'.untrb ok,q⟩
 |ret u=>
  obtain⟨v,O',H',I',r,q⟩:=q;exact⟨v,O',H',I'.untrb ok,r,q⟩
structure Cat(K:BM)(mg:Str->BQ BN)(c:Str)(ys:List Str):Prop where
 ex:∃cs,mg c=some (.ref cs)/\∀y∈ys,∃C,CN K y C/\XCl K C/\PySem.W.exmOne K (.ref C) (.ref cs)=some true
def hdl(i:Nat)(fh:Sv)(x:XD):Sv:=fun U S=>match fh (U.set i (some (.exn x.cls x.fld))) S with
 |.nx U' S'=>.nx (U'.set i none) S'
 |.rt d S'=>.rt d S'
 |.bk U' S'=>.bk (U'.set i none) S'
 |.ct U' S'=>.ct (U'.set i none) S'
 |_=>.bad
noncomputable def Gth(fh:Sv)(x:XD):Sv:=fun U S=>match fh U S with
 |.nx U' S'=>.nx U' S'
 |.rt d S'=>.rt d S'
 |.bk U' S'=>.bk U' S'
 |.ct U' S'=>.ct U' S'
 |_=>.bad
def Gzg{a:BP}(f:Fly h a T C dx):PySem.W.Looks M h (typeOf (.ref a)) (.ref C):=by
 obtain⟨oe,vs,_,_,_,h1,⟨h2,_⟩,_⟩:=f;exact h2▸(PySem.W.Looks.ld h1).andThen .now
def Gzh{c:Str}{ys:List Str}{a:BP}{R:Result->BO->Prop}(ct:Cat X.K X.mg c ys)(hg:Gl X c)(hp:Hi c=true)(hy:y∈ys)(hc:CN X.K y C)(l:Landed X pins O H a C dx s)(hq:R (.ok .brk) s):
  XCl X.K C/\codeAny (model X.prog X.w) (X.A.mark (some (.ref a))) (.handlers (.ref a) [.ExceptHandler (some (.Name c np)) none [] hpos] X.env) R s:=by
 obtain⟨T,I,f,_⟩:=l.ex;obtain⟨cs,hm,hk⟩:=ct.ex;obtain⟨C',hc',xc,he⟩:=hk y hy;cases CN.one hc hc';refine⟨xc,codeAny_handlers_test ?_⟩;refine Ga7 (X:=hnd X a) (I.hnd a) hg hm ?_ (Hi.of hp).1;exact(PySem.W.exm_one I.kIn (Gzg f) he).here hq
def Gti{c:Str}{b0:Stmt}{ys:List Str}{fb:Sv}(pl:Plain X)(ct:Cat X.K X.mg c ys)(hg:Gl X c)(hp:Hi c=true)(hb:∀(pn:List (BP×Obj))(xe:BN->BO->Prop)(XQ':XW),XL (trb X pn xe) XQ'->JSs (trb X pn xe) XQ' body fb)(hs:∀a,JSs (hnd X a) (fun _ _ _ _ _ _=>False) (b0::suite) fh):
  JS X XQ (.Try body [.ExceptHandler (some (.Name c np)) none (b0::suite) hpos] [] [] pos) (Gbd ys (Gth fh) fb):=by
 refine Gtg pl (fun pins O H s a C dx x mp U S D hy hc xf l G p=>?_) hb;refine wpAny_handleBy_cons ?_ (by intro q;cases q);obtain⟨xc,hit⟩:=Gzh (np:=np) (hpos:=hpos) (R:=fun r s₁=>match r with
   | .ok .brk=>codeAny (model X.prog X.w) (X.A.mark (some (.ref a))) (.handlers (.ref a) [.ExceptHandler none none (b0::suite) hpos] X.env) (fun r s₂=>match r with
     |.ok f=>SP X pins D f s₂
     | .error x=>cameBackBy (model X.prog X.w) X.A X.env X.xe x s₂) s₁
   |.ok _=>wpAny (model X.prog X.w) X.A (handleBy (.ref a) X.env []) (SP X pins D) X.xe s₁
   |.error x=>cameBackBy (model X.prog X.w) X.A X.env X.xe x s₁) ct hg hp hy hc l (by
  refine codeAny_handlers_suite (l.flight fun s1 l1=>?_);obtain⟨T,I1,_⟩:=l1.ex;have ok:=I1.ok;refine wpAny_mono (hs a pins s1 _ _ D (I1.hnd a) ⟨mp,_,S,G,?_⟩) (fun f s3 q=>?_) (fun e s3 q=>q.elim)
  ·unfold Gth at p;cases z:fh U S with
   |nx U' S'=>rw[z]at p;exact p
   |rt d S'=>rw[z]at p;exact p
   |bk U' S'=>rw[z]at p;exact p
   |ct U' S'=>rw[z]at p;exact p
   |exc x U' S'=>rw[z]at p;exact p.elim
   |bad=>rw[z]at p;exact p.elim
  ·cases f with
   |next=>
    obtain⟨O',H',I',q⟩:=q;exact⟨_,H',I'.unhnd ok,q⟩
   |brk=>
    obtain⟨O',H',I',q⟩:=q;exact⟨_,H',I'.unhnd ok,q⟩
   |cont=>
    obtain⟨O',H',I',q⟩:=q;exact⟨_,H',I'.unhnd ok,q⟩
   |ret u=>
    obtain⟨v,O',H',I',r,q⟩:=q;exact⟨v,_,H',I'.unhnd ok,r,q⟩)
 exact hit
end
structure Isx(K:BM)(mg:Str->BQ BN)(x:Str)(ys sub:List Str):Prop where
 ex:∃cs,mg x=some (.ref cs)/\∀y∈ys,∃C,CN K y C/\PySem.W.kitOne K (.ref C) (.ref cs)=some (decide (y∈sub))
structure IsxB(K:BM)(T:String)(ys sub:List Str):Prop where
 ex:∀y∈ys,∃C,CN K y C/\PySem.W.kitOne K (.ref C) (.type T)=some (decide (y∈sub))
def Gzi(K:BM)(c:BP):Bool:=
 (PySem.W.findIn K (.ref c) "__getattribute__"==some (some (.builtin "BaseException.__getattribute__")))&&((PySem.W.findIn K (.ref c) "__getattr__"==some none)&&((PySem.W.findIn K (.ref c) "__class__"==some (some (.builtin "object.__class__")))
  && ((PySem.W.clsIn K c).isSome&&((PySem.W.mroIn K c (.type "object")==some true)&&((PySem.W.subIn K (.ref c) (.type "BaseException")==some true)&&["bool","int","str","tuple","list"].all fun T=>PySem.W.kitOne K (.ref c) (.type T)==some false)))))
def Gzj{c:BP}(h:Gzi K c=true):XCl K c:=by
 unfold Gzi at h;simp only[Am,beq_iff_eq,AF]at h;obtain⟨h1,h2,h3,h4,h5,h6,h7⟩:=h;exact⟨h1,h2,h3,h4,h5,h6,h7⟩
def xrowB(K:BM)(cs:BP)(l:List (Str×BP))(p:Str×BP):Bool:=
 (PySem.W.nsIn K mainGlobals p.1==some (some (.ref p.2)))&&(Gzi K p.2&&((PySem.W.exmOne K (.ref p.2) (.ref cs)==some true)&&((PySem.W.kitOne K (.ref p.2) (.type "ValueError")==some true)&&l.all fun q=>PySem.W.kitOne K (.ref p.2) (.ref q.2)==some (decide (p.1∈[q.1])))))
def Go3(K:BM)(cs:BP)(l m:List (Str×BP)):Bool:=(l.all fun p=>xrowB K cs m p)&&m.all fun q=>PySem.W.nsIn K mainGlobals q.1==some (some (.ref q.2))
structure XT(K:BM)(mg:Str->BQ BN)(sup:Str)(ys ms:List Str):Prop where
 cat:Cat K mg sup ys
 isx:∀x∈ms,Isx K mg x ys [x]
 val:IsxB K "ValueError" ys ys
 xns:XNs K ys
def Hch{l m:List (Str×BP)}(X:K.In h)(G:h.Ns mainGlobals mg)(a:PySem.W.nsIn K mainGlobals sup=some (some (.ref cs)))(t:Go3 K cs l m=true):XT K mg sup (l.map (·.1)) (m.map (·.1)):=by
 unfold Go3 at t;rw[Am]at t;obtain⟨t,tm⟩:=t;have qm:∀r∈m,CN K r.1 r.2:=fun r hr=>beq_iff_eq.mp (AF.mp tm r hr);have q:∀p∈l,CN K p.1 p.2/\XCl K p.2/\PySem.W.exmOne K (.ref p.2) (.ref cs)=some true/\PySem.W.kitOne K (.ref p.2) (.type "ValueError")=some true/\∀r∈m,PySem.W.kitOne K (.ref p.2) (.ref r.2)=some (decide (p.1∈[r.1])):=fun p hp=>by
  have z:=AF.mp t p hp;unfold xrowB at z;simp only[Am,beq_iff_eq,AF]at z;obtain⟨h1,h2,h3,h4,h5⟩:=z;exact⟨h1,Gzj h2,h3,h4,h5⟩
 refine⟨⟨cs,PySem.W.mg_of X G a,fun y hy=>?_⟩,fun x hx=>?_,⟨fun y hy=>?_⟩,fun y hy=>?_⟩
 ·obtain⟨p,hp,rfl⟩:=AH.mp hy;obtain⟨h1,h2,h3,h4,h5⟩:=q p hp;exact⟨p.2,h1,h2,h3⟩
 ·obtain⟨r,hr,rfl⟩:=AH.mp hx;refine⟨r.2,PySem.W.mg_of X G (qm r hr),fun y hy=>?_⟩;obtain⟨p,hp,rfl⟩:=AH.mp hy;obtain⟨h1,h2,h3,h4,h5⟩:=q p hp;exact⟨p.2,h1,h5 r hr⟩
 ·obtain⟨p,hp,rfl⟩:=AH.mp hy;obtain⟨h1,h2,h3,h4,h5⟩:=q p hp;exact⟨p.2,h1,by rw[h4,decide_eq_true hy]⟩
 ·obtain⟨p,hp,rfl⟩:=AH.mp hy;obtain⟨h1,h2,h3,h4,h5⟩:=q p hp;exact⟨p.2,h1,h2⟩
def kxB(K:BM)(C:BP):Bool:=match K.lookup C with
 | some ⟨.type "type",_,.cls cd,sl⟩=>(match cd.mro,sl.toList with
  |.ref C'::bm,[_,_,_,_,some (.builtin n),_]=>C'==C&&(!cd.hasDel&&(n=="ValueError.__new__"&&(bm.contains (.type "ValueError")&&(!bm.contains (.type "AttributeError")&&(!bm.contains (.type "NameError")&&bm.contains (.type "BaseException"))))))
  | _,_=>false)
 |_=>false
set_option tactic.hygienic true
def Hci(q:kxB K C=true):KX K C:=by
 unfold kxB at q;split at q
 ·rename_i dd cd sl ho;split at q
  ·rename_i C' bm k0 k1 k2 k3 n k5 hm hs;simp only[Am,beq_iff_eq,Bool.not_eq_true']at q;obtain⟨rfl,hdel,hn,h1,h2,h3,h4⟩:=q;subst hn;obtain⟨nm,bs,mro,ns,qn,hd,sn,sub,ab,col,del⟩:=cd;dsimp only at hm hdel;subst hm hdel;have hsl:sl=#[k0,k1,k2,k3,some (.builtin "ValueError.__new__"),k5]:=by
    obtain⟨l⟩:=sl;simp only at hs;rw[hs]
   subst hsl;exact⟨nm,qn,ns,bs,bm,hd,sn,sub,ab,col,dd,k0,k1,k2,k3,k5,ho,⟨h1,h2,h3,h4⟩⟩
  ·cases q
 ·cases q
set_option tactic.hygienic false
def Gew(K:BM)(c f:BP):Bool:=kxB K c&&(PySem.W.findIn K (.ref c) "__init__"==some (some (.ref f)))
section
variable{P:BR}{w:World}{K:BM}{mg:Str->BQ BN}{base:Heap}
structure IniX(P:BR)(w:World)(K:BM)(mg:Str->BQ BN)(base:Heap)(f:BP)(j:Nat):Prop where
 ex:∃fd ps oI,K.lookup f=some oI/\oI.cls=.type "function"/\FnOk P w K mg base CX0 j f fd ps (spI K)/\ps.length=2/\Binds K fd ps []
set_option tactic.hygienic true
def Ze{f:BP}(X:K.In h)(G:h.Ns mainGlobals mg)(i:IniX P w K mg base f j)(a:PySem.W.nsIn K mainGlobals x=some (some (.ref C)))(t:Gew K C f=true):ClX P w K mg base x j:=by
 obtain⟨fd,ps,oI,l,c,F,n,b⟩:=i.ex;unfold Gew at t;simp only[Am,beq_iff_eq]at t;exact⟨C,f,fd,ps,oI,PySem.W.mg_of X G a,a,Hci t.1,t.2,l,c,F,n,b⟩
set_option tactic.hygienic false
abbrev Gvu(K:BM):TS:=Gu6 (tVI K (Gn2 (Gwi 0) (Gn2 (Gwi 1) Hbh)))
def ini_mk{f:BP}{an:BQ BP}{kV:BN}(l:K.lookup f=some ⟨.type "function",od,.func (PySem.W.fnOf "__init__" "SummitError.__init__" (Jr st) (Hl st) (Gc st) .none kV doc pm an cdv ct),osl⟩)(c:PySem.W.codeIn K cdv "SummitError.__init__"=true)(k:PySem.W.keepIn K (.ref f)=true)(Sc:FnScope ["self","text"] ["self","text"] (Gc st))(hb:∀(f:BP)(cdv:BN)(A:Around)(outer:List PySem.Env)(s:BO)(H:Hp)(E:XK),PSs (Vj CX0 P w K mg base ["self","text"] "SummitError.__init__" (Gc st) f cdv A outer s H E).nox (Hl st) (Gvu K))(bi:∀(kV doc pm:BN)(an:BQ BP)(cdv ct:BN)(us:List BN),us.length=2->bindArgs (PySem.W.fnOf "__init__" "SummitError.__init__" (Jr st) (Hl st) (Gc st) .none kV doc pm an cdv ct) ⟨us,[]⟩=pure ((["self","text"]:List Str).zip us)):IniX P w K mg base f 1:=by
 have F:=Ggc (st:=st) l c k;refine⟨_,["self","text"],_,l,rfl,?_,rfl,F.binds bi⟩;refine Fun.ok F Sc (fun vs H Q E ⟨e,v,C,dx,ev,_⟩=>by rw[ev];rfl) fun cdv A outer s H vs Q E hr ⟨e,v,C,dx,ev,hH,kx,q⟩=>?_;refine⟨_,hb _ cdv A outer s H E,?_⟩;subst ev;exact⟨.ref e,rfl,v,rfl,e,v,C,dx,rfl,hH,kx,q⟩
end
section
variable{X:Cx}{XQ:XW}
def Hem(i j:Int):Prop:=(-1000000000000<=i/\i<=1000000000000) /\ -1000000000000<=j/\j<=1000000000000
instance {i j:Int}:Decidable (Hem i j):=inferInstanceAs (Decidable ((-1000000000000<=i/\i<=1000000000000) /\ -1000000000000<=j/\j<=1000000000000))
end
structure FvT(K:BM)(mg:Str->BQ BN)(x:Str):Prop where
 ex:∃f,CN K x f/\mg x=some (.ref f)
section
variable{X:Cx}{XQ:XW}{k:Nat}{ps:List Str}{fn:Fn}{x y:Str}{p pos:Pos}{e:Expr}{es:List Expr}
def Gzk(t:FvT X.K X.mg x)(hg:Gl X x)(hp:Hi x=true):JE X XQ (.Name x pos) (cn (.fv x)):=by
 obtain⟨f,hc,hm⟩:=t.ex;exact Xi (Gk7 hg hm (v:=.ref f) rfl (Hi.of hp).1) fun mp H=>⟨f,rfl,hc⟩
def clv(i:Nat)(x:Str)(n:Nat)(fn:Fn)(t:Ev (List D)):Ev D:=fun U S=>match U[i]? with
 |some (some (.fv y))=>if y=x then(t U S).bind fun ds S1=>if ds.length=n then fn ds S1 else .bad else .bad
 |_=>.bad
set_option tactic.hygienic true
def Go4(i:Nat){ys:List Str}(xs:XNs X.K ys)(L:XL X XQ)(C:CalX X.prog X.w X.K X.mg X.base x ps fn j)(hr:Room k X.A)(hj:j<=k)(hN:X.N[i]?=some y)(hv:Vis X.env.scope y)(hy:Hi y=true)(ha:JA X XQ (e::es) t)(he:⇑(starEach (e::es) X.env=(false,eval e X.env)::starEach es X.env))(hpl:⇑((backTo pos (starEach es X.env)).any (·.1)=false)):
  JE X XQ (.Call (.Name y p) (e::es) [] pos) (clv i x ps.length (gX ys fn) t):=by
 obtain⟨f,fd,F,hm,hk,hb⟩:=C.ex;intro pins s O H Q I zq0;obtain⟨mp,U,S,G,p0⟩:=zq0;unfold clv at p0;split at p0
 ·rename_i z hz;by_cases c:z=x
  ·rw[if_pos c]at p0;subst c;obtain⟨v,hO,f',rfl,hc⟩:=G.loc i _ hz;have hm':=PySem.W.mg_of I.ok.mod.kin I.ok.mod.glob hc;rw[hm]at hm';cases hm';refine wpAny_Call_Name_kw (thn (Gf7 hN hv (Hi.of hy).1 (Hi.of hy).2 pins s O H (fun w H'=>w=.ref f/\H'=H) I ⟨.ref f,hO,rfl,rfl⟩) fun u s1 zq0=>?_);obtain⟨w,H1,I1,r1,e1,e2⟩:=zq0;subst e1 e2;obtain rfl:u=Value.ref f:=r1;refine PySem.W.callWith_K (h₀:=X.base) I1.ok.mod.kin hk ?_ he hpl;refine thn (ha pos pins s1 O H1 (fun vs H2=>spX X.K ps.length fn vs H2 Q fun c dx H'=>∃C,c=.ref C/\WX X.K XQ O C dx H') I1 ?_) fun us s2 ⟨vs,H2,I2,r2,q2⟩=>⟨I2.kIn,Gli (F.mono hj) hr hb L.cal I2 r2 q2⟩
   refine bindP G p0 fun mp1 H1 ds S1 vs a1 G1 r1 p1=>?_;by_cases hl:ds.length=ps.length
   ·rw[if_pos hl]at p1;refine⟨mp1,ds,S1,G1.rs,r1,hl,?_⟩;unfold gX at p1;cases z:fn ds S1 with
    |ok d S'=>rw[z]at p1;exact p1
    |exc xx S'=>
     rw[z]at p1;by_cases hi:xx.cls∈ys
     ·have p1:Gn X.K (Rep X.K) XQ O U mp1 H1 (.exc xx S') Q:=by simpa only[if_pos hi]using p1
      obtain⟨C,hC,_⟩:=xs _ hi;refine⟨C,hC,fun mp' H' dx af rs xf=>⟨C,rfl,xx,mp',U,S',xf,hC,p1 mp' H' af (G1.aft af rs)⟩⟩
     ·have p1:Gn X.K (Rep X.K) XQ O U mp1 H1 .bad Q:=by simpa only[if_neg hi]using p1
      exact p1.elim
    |bad=>rw[z]at p1;exact p1.elim
   ·rw[if_neg hl]at p1;exact p1.elim
  ·rw[if_neg c]at p0;exact p0.elim
 ·exact p0.elim
set_option tactic.hygienic false
end
def Go5:List BN->Bool
 |.ref _::r=>Go5 r
 |l=>l==[.type "ValueError",.type "Exception",.type "BaseException",.type "object"]
structure KA(K:BM)(C:BP):Prop where
 sa:PySem.W.findIn K (.ref C) "__setattr__"=some (some (.builtin "object.__setattr__"))
 ve:(PySem.W.clsIn K C).any (fun cd=>Go5 cd.mro)=true
 na:PySem.W.findIn K (.ref C) "at"=some none
 hd:PySem.W.hasDictIn K C=true
section
variable{X:Cx}{pins:List (BP×Obj)}{O:L2.St}{H:Hp}{s:BO}{C e:BP}
structure BaseI(K:BM)(mg:Str->BQ BN)(x:Str)(f:BP):Prop where
 ex:∃cs mc,mg x=some (.ref cs)/\PySem.W.readsIn K cs mc=true/\PySem.W.findCls K (.ref cs) mc "__init__"=some (.val (.ref f))/\PySem.W.specialIn K (.ref cs) "__getattribute__"=some (some (.builtin "type.__getattribute__"))/\PySem.W.keepIn K (.ref f)=true
end
def spJ(K:BM):Sp:=fun vs H Q _=>∃e n C,vs=[.ref e,.int n]/\H e=some (FX e C none)/\(KX K C/\KA K C)/\∀d,H d=none->d≠e->Q .non (upd (upd H e (FX e C (some d))) d (XA d n))
section
variable{P:BR}{w:World}{K:BM}{mg:Str->BQ BN}{base:Heap}
structure IniJ(P:BR)(w:World)(K:BM)(mg:Str->BQ BN)(base:Heap)(f:BP)(j:Nat):Prop where
 ex:∃fd ps oI,K.lookup f=some oI/\oI.cls=.type "function"/\FnOk P w K mg base CX0 j f fd ps (spJ K)/\ps.length=2/\Binds K fd ps []
end
section
variable{X:Cx}{pins:List (BP×Obj)}{O:L2.St}{H:Hp}{s:BO}{C f:BP}{fd:FuncData}{ps:List Str}{k:Nat}
structure ClJ(P:BR)(w:World)(K:BM)(mg:Str->BQ BN)(base:Heap)(x:Str)(j:Nat):Prop where
 ex:∃C f fd ps oI,mg x=some (.ref C)/\CN K x C/\(KX K C/\KA K C)/\PySem.W.findIn K (.ref C) "__init__"=some (some (.ref f))/\K.lookup f=some oI/\oI.cls=.type "function"/\FnOk P w K mg base CX0 j f fd ps (spJ K)/\ps.length=2/\Binds K fd ps []
end
section
variable{P:BR}{w:World}{A:Around}{E:BN->BO->Prop}{env:PySem.Env}{s:BO}
variable{nm q:Str}{C N:BP}{bs bm:List BN}{hdct:Bool}{sn:List Str}{sub:List BN}{ab:Bool}{col:BQ Bool}{dd:BQ BP}{k0 k1 k2 k3 k5:BQ BN}{newId:String}
end
structure RoomQ(k:Nat)(A:Around):Prop where
 dp:A.depth+3*k+5<recursionLimit
 un:A.units+16*k+200<cLine
 gd:A.guards=some []
structure FnQ(P:BR)(w:World)(K:BM)(mg:Str->BQ BN)(base:Heap)(k:Nat)(f:BP)(fd:FuncData)(ps:List Str)(sp:Sp):Prop where
 len:∀vs H Q E,sp vs H Q E->vs.length=ps.length
 run:∀(A:Around)(outer:List PySem.Env)(s:BO)(H:Hp)(args:Args)(us:List BN)(vs:List V)(Q:VK)(E:XK),RoomQ k A->Env0 P w K mg base A outer s H->BindsTo s fd args (ps.zip us)->Vals vs us->sp vs H Q E→
  codeAny (model P w) A (.call (.ref f) args) (CR CX0 outer P w H s Q E) s
section
variable{P:BR}{w:World}{K:BM}{mg:Str->BQ BN}{base:Heap}
structure IniXQ(P:BR)(w:World)(K:BM)(mg:Str->BQ BN)(base:Heap)(f:BP)(j:Nat):Prop where
 ex:∃fd ps oI,K.lookup f=some oI/\oI.cls=.type "function"/\FnQ P w K mg base j f fd ps (spI K)/\ps.length=2/\Binds K fd ps []
structure IniJQ(P:BR)(w:World)(K:BM)(mg:Str->BQ BN)(base:Heap)(f:BP)(j:Nat):Prop where
 ex:∃fd ps oI,K.lookup f=some oI/\oI.cls=.type "function"/\FnQ P w K mg base j f fd ps (spJ K)/\ps.length=2/\Binds K fd ps []
end
section
variable{X:Cx}{pins:List (BP×Obj)}{O:L2.St}{H:Hp}{s:BO}{C f:BP}{fd:FuncData}{ps:List Str}{k:Nat}
structure ClJQ(P:BR)(w:World)(K:BM)(mg:Str->BQ BN)(base:Heap)(x:Str)(j:Nat):Prop where
 ex:∃C f fd ps oI,mg x=some (.ref C)/\CN K x C/\(KX K C/\KA K C)/\PySem.W.findIn K (.ref C) "__init__"=some (some (.ref f))/\K.lookup f=some oI/\oI.cls=.type "function"/\FnQ P w K mg base j f fd ps (spJ K)/\ps.length=2/\Binds K fd ps []
end
noncomputable abbrev hx(X:Cx)(a:BP):Cx:={X with A:=X.A.mark (some (.ref a)),calm:=false}
structure GE(X:Cx)(XQ:XW)(e:Expr)(f:Ev D):Prop where
 h:JE X XQ e f
structure GA(X:Cx)(XQ:XW)(es:List Expr)(f:Ev (List D)):Prop where
 h:JA X XQ es f
structure GT(X:Cx)(XQ:XW)(e:Expr)(f:Ev Bool):Prop where
 h:JT X XQ e f
structure GW(X:Cx)(XQ:XW)(e:Expr)(f:Ev Bool):Prop where
 h:JW X XQ e f
structure GO(X:Cx)(XQ:XW)(e:BQ Expr)(f:Ev (BQ Int)):Prop where
 h:JO X XQ e f
structure GS(X:Cx)(XQ:XW)(st:Stmt)(f:Sv):Prop where
 h:JS X XQ st f
structure GSs(X:Cx)(XQ:XW)(st:List Stmt)(f:Sv):Prop where
 h:JSs X XQ st f
structure GI(X:Cx)(XQ:XW)(tg it:Expr)(f:Ev Src):Prop where
 h:JI X XQ tg it f
structure GG(X:Cx)(tg:Expr)(g:Tg):Prop where
 h:JG X tg g
structure GGs(X:Cx)(ts:List Expr)(g:Tgs):Prop where
 h:JGs X ts g
structure GTs(QC:Cx)(XQ:XW)(ifs:List Expr)(t:Ev Bool):Prop where
 h:JTs QC XQ ifs t
def Gzl(t:FvT X.K X.mg x)(hg:Gl X x)(hp:Hi x=true):GE X XQ (.Name x pos) (cn (.fv x)):=⟨Gzk t hg hp⟩
def Go6{e:Expr}(i:Nat){ys:List Str}(xs:XNs X.K ys)(L:XL X XQ)(C:CalX X.prog X.w X.K X.mg X.base x ps fn j)(hr:Room k X.A)(hj:j<=k)(hN:X.N[i]?=some y)(hv:Vis X.env.scope y)(hy:Hi y=true)(ha:GA X XQ (e::es) t)(he:⇑(starEach (e::es) X.env=(false,eval e X.env)::starEach es X.env))(hpl:⇑((backTo pos (starEach es X.env)).any (·.1)=false)):GE X XQ (.Call (.Name y p) (e::es) [] pos) (clv i x ps.length (gX ys fn) t):=⟨Go4 i xs L C hr hj hN hv hy ha.h he hpl⟩
def Gki{j pos}:GE X XQ (.Constant .none j pos) (cn .non):=⟨Gxj ⟩
def Gai{b:Bool}{j pos}:GE X XQ (.Constant (.bool b) j pos) (cn (.bl b)):=⟨Hbu ⟩
def ge_int{j pos}:GE X XQ (.Constant (.int i) j pos) (cn (.int i)):=⟨Gxi ⟩
def Jz{j pos}:GE X XQ (.Constant (.str x) j pos) (cn (.str x)):=⟨Gxk ⟩
def Jh(ha:GE X XQ a fa)(hb:GE X XQ b fb):GE X XQ (.BinOp a .Add b pos) (o2 Gr fa fb):=⟨Gyc ha.h hb.h⟩
def Xx(ha:GE X XQ a fa)(hb:GE X XQ b fb):GE X XQ (.BinOp a .Sub b pos) (o2 Uy fa fb):=⟨Gx8 ha.h hb.h⟩
def Gax(ha:GE X XQ a fa)(hb:GE X XQ b fb):GE X XQ (.BinOp a .Mult b pos) (o2 Je fa fb):=⟨Gye ha.h hb.h⟩
def Gzm(ha:GE X XQ a fa)(hb:GE X XQ b fb):GE X XQ (.BinOp a .Mod b pos) (o2 Xw fa fb):=⟨Gx9 ha.h hb.h⟩
def Ggs(ha:GE X XQ a fa)(hb:GE X XQ b fb):GE X XQ (.BinOp a .FloorDiv b pos) (o2 Wg fa fb):=⟨Gs3 ha.h hb.h⟩
def Gzn(ha:GE X XQ a fa)(hb:GE X XQ b fb):GE X XQ (.BinOp a .Pow b pos) (o2 Ggm fa fb):=⟨Gya ha.h hb.h⟩
def Hcj(ha:GE X XQ a fa)(hb:GE X XQ b fb):GE X XQ (.Compare a [.Lt] [b] pos) (o2 ltD fa fb):=⟨Hb3 ha.h hb.h⟩
def Hck(ha:GE X XQ a fa)(hb:GE X XQ b fb):GE X XQ (.Compare a [.LtE] [b] pos) (o2 leD fa fb):=⟨Hb4 ha.h hb.h⟩
def Hcl(ha:GE X XQ a fa)(hb:GE X XQ b fb):GE X XQ (.Compare a [.GtE] [b] pos) (o2 geD fa fb):=⟨Hb5 ha.h hb.h⟩
def Go7(hu:X.A.units+64<cLine)(ha:GE X XQ a fa)(hb:GE X XQ b fb):GE X XQ (.Compare a [.Eq] [b] pos) (o2 eqD fa fb):=⟨Hbz hu ha.h hb.h⟩
def Hcm(hu:X.A.units+64<cLine)(ha:GE X XQ a fa)(hb:GE X XQ b fb):GE X XQ (.Compare a [.NotEq] [b] pos) (o2 neD fa fb):=⟨Hb1 hu ha.h hb.h⟩
def Gtj(ha:GE X XQ a fa)(hb:GE X XQ b fb):GE X XQ (.Compare a [.IsNot] [b] pos) (o2 Gfq fa fb):=⟨Gsp ha.h hb.h⟩
def Go8{rest:List Expr}{f:Ev D}(ha:GE X XQ a f)(hb:GE X XQ (.BoolOp .And (b::rest) pos) g):GE X XQ (.BoolOp .And (a::b::rest) pos) (va f g):=⟨Gxt ha.h hb.h⟩
def Go9{f:Ev D}(h:GE X XQ a f):GE X XQ (.BoolOp op [a] pos) f:=⟨Gxs h.h⟩
def Gzo{f:Ev D}(ha:GE X XQ a f):GE X XQ (.UnaryOp .Not a pos) (vn f):=⟨Gxu ha.h⟩
def Gkj(ha:GE X XQ a fa):GE X XQ (.UnaryOp .USub a pos) (o1 Gds fa):=⟨Gyq ha.h⟩
def Gzp{c:Expr}(hc:GT X XQ c fc)(ha:GE X XQ a fa)(hb:GE X XQ b fb):GE X XQ (.IfExp c a b pos) (ie fc fa fb):=⟨Gxv hc.h ha.h hb.h⟩
def He(ha:GE X XQ a fa)(hb:GE X XQ b fb)(hs:autoParam (Gde b) zQ9):GE X XQ (.Subscript a b pos) (o2 getD fa fb):=⟨Gyg ha.h hb.h hs⟩
def Jt{e:Expr}{lo hi:BQ Expr}{fe:Ev D}{fl fh:Ev (BQ Int)}{pos:Pos}(he:GE X XQ e fe)(hl:GO X XQ lo fl)(hh:GO X XQ hi fh):GE X XQ (.Subscript e (.Slice lo hi none p2) pos) (sl2 fe fl fh):=⟨Gm3 he.h hl.h hh.h⟩
def Ja(h:GA X XQ es f):GE X XQ (.List es pos) (ls f):=⟨Gxn h.h⟩
def Hj(h:GA X XQ es f):GE X XQ (.Tuple es x1 pos) (tp f):=⟨Gxm h.h⟩
def Gzq{T:String}{f:Ev D}(k:Kit X.K T)(hv:bootBuiltins x=some (.type T))(hnx:x≠"__name__")(hdx:(x==("__debug__":Str))=false)(hg:Gl X "isinstance")(hm:X.mg "isinstance"=none)(hgt:Gl X x)(hmt:X.mg x=none)(he:GE X XQ e f)(hs:starEach [e,.Name x p2] X.env=(false,eval e X.env)::starEach [.Name x p2] X.env)(hpl:(backTo pos (starEach [.Name x p2] X.env)).any (·.1)=false)(hs2:starEach [.Name x p2] X.env=(false,eval (.Name x p2) X.env)::starEach [] X.env):GE X XQ (.Call (.Name "isinstance" p) [e,.Name x p2] [] pos) (o1 (isD T) f):=⟨Gyu k hv hnx hdx hg hm hgt hmt he.h hs hpl hs2⟩
def Kr(hg:Gl X "len")(hm:X.mg "len"=none)(ha:GA X XQ [e] f)(he:⇑(starEach [e] X.env=(false,eval e X.env)::starEach [] X.env)):GE X XQ (.Call (.Name "len" p) [e] [] pos) (b1 Hb f):=⟨Gyi hg hm ha.h he⟩
def Gtk(hg:Gl X "list")(hm:X.mg "list"=none)(ha:GA X XQ [e] f)(he:⇑(starEach [e] X.env=(false,eval e X.env)::starEach [] X.env)):GE X XQ (.Call (.Name "list" p) [e] [] pos) (b1 Uf f):=⟨Gsm hg hm ha.h he⟩
def Zf(hg:Gl X "tuple")(hm:X.mg "tuple"=none)(ha:GA X XQ [e] f)(he:⇑(starEach [e] X.env=(false,eval e X.env)::starEach [] X.env)):GE X XQ (.Call (.Name "tuple" p) [e] [] pos) (b1 Qr f):=⟨Gok hg hm ha.h he⟩
def Gzr(hc:X.calm=true)(hg:Gl X "min")(hm:X.mg "min"=none)(ha:GA X XQ [e,e'] f)(he:⇑(starEach [e,e'] X.env=(false,eval e X.env)::starEach [e'] X.env))(hpl:⇑((backTo pos (starEach [e'] X.env)).any (·.1)=false)):GE X XQ (.Call (.Name "min" p) [e,e'] [] pos) (b1 Gmz f):=⟨Gyk hc hg hm ha.h he hpl⟩
def Gtl(hg:Gl X "int")(hm:X.mg "int"=none)(ha:GA X XQ [e] f)(he:⇑(starEach [e] X.env=(false,eval e X.env)::starEach [] X.env)):GE X XQ (.Call (.Name "int" p) [e] [] pos) (b1 Gev f):=⟨Gsn hg hm ha.h he⟩
def Ggt(hr:Room k X.A)(hg:Gl X "repr")(hm:X.mg "repr"=none)(ha:GA X XQ [e] f)(he:⇑(starEach [e] X.env=(false,eval e X.env)::starEach [] X.env)):GE X XQ (.Call (.Name "repr" p) [e] [] pos) (b1 Yo f):=⟨Gs0 hr hg hm ha.h he⟩
def Ggu(hc:X.calm=true)(hg:Gl X "all")(hm:X.mg "all"=none)(ha:GA X XQ [e] f)(he:⇑(starEach [e] X.env=(false,eval e X.env)::starEach [] X.env)):GE X XQ (.Call (.Name "all" p) [e] [] pos) (b1 Yu f):=⟨Gyw hc hg hm ha.h he⟩
def Ggv(hc:X.calm=true)(hg:Gl X "sum")(hm:X.mg "sum"=none)(ha:GA X XQ [e] f)(he:⇑(starEach [e] X.env=(false,eval e X.env)::starEach [] X.env)):GE X XQ (.Call (.Name "sum" p) [e] [] pos) (b1 Gaw f):=⟨Gy3 hc hg hm ha.h he⟩
def Gad{apos:Pos}(ho:GE X XQ o fo)(ha:GA X XQ [e] f)(hbase:⇑(attributeBase o "append" X.env (eval o X.env)=eval o X.env))(hfew:⇑(((backTo cpos (starEach [e] X.env)).all (fun x=>!x.1)&&(backToKw cpos (keywordEach [] X.env)).all (fun x=>x.1.isSome)
   && decide ([e].length+([]:List Keyword).length+(if([]:List Keyword).isEmpty then 0 else 1)<30))=true))(hline:⇑((apos.endLine==cpos.line)=true))(hs:⇑(starEach [e] X.env=(false,eval e X.env)::starEach [] X.env)):GE X XQ (.Call (.Attribute o "append" apos) [e] [] cpos) (mt Gba fo f):=⟨Gm0 ho.h ha.h hbase hfew hline hs⟩
def Gvv(ha:GE X XQ a fa)(hb:GE X XQ b fb):GT X XQ (.Compare a [.Lt] [b] pos) (tb (o2 ltD fa fb)):=⟨Hb6 ha.h hb.h⟩
def Glj(ha:GE X XQ a fa)(hb:GE X XQ b fb):GT X XQ (.Compare a [.Gt] [b] pos) (tb (o2 gtD fa fb)):=⟨Hb7 ha.h hb.h⟩
def Hcn(ha:GE X XQ a fa)(hb:GE X XQ b fb):GT X XQ (.Compare a [.GtE] [b] pos) (tb (o2 geD fa fb)):=⟨Hb8 ha.h hb.h⟩
def Gpa(hu:X.A.units+64<cLine)(ha:GE X XQ a fa)(hb:GE X XQ b fb):GT X XQ (.Compare a [.Eq] [b] pos) (tb (o2 eqD fa fb)):=⟨Hb0 hu ha.h hb.h⟩
def Gpb(hu:X.A.units+64<cLine)(ha:GE X XQ a fa)(hb:GE X XQ b fb):GT X XQ (.Compare a [.NotEq] [b] pos) (tb (o2 neD fa fb)):=⟨Hb2 hu ha.h hb.h⟩
def Gpc(ha:GE X XQ a fa)(hb:GE X XQ b fb):GT X XQ (.Compare a [.Is] [b] pos) (tb (o2 Ggn fa fb)):=⟨Gyn ha.h hb.h⟩
def Gil{c:Expr}{fc:Ev D}(ho:OpR X (compareOp op) r)(hd:OpD X.K r o)(ho':OpR X (compareOp op') r')(hd':OpD X.K r' o')(ha:GE X XQ a fa)(hb:GE X XQ b fb)(hc:GE X XQ c fc)(hm:autoParam (lastMarks [op,op'] [b,c]=false) zQ5):GT X XQ (.Compare a [op,op'] [b,c] pos) (tb (ch o o' fa fb fc)):=⟨Gol ho hd ho' hd' ha.h hb.h hc.h hm⟩
def Gay{f:Ev Bool}(h:GT X XQ a f):GT X XQ (.UnaryOp .Not a pos) (tn f):=⟨Gxp h.h⟩
def Wq{e:Expr}{f:Ev D}(h:GE X XQ e f)(he:autoParam (∀whole,isTrue e X.env whole=(do let v <- whole;standAt e.pos;holding [v] (truthy v))) zQ4):GT X XQ e (tt f):=⟨Gxo h.h he⟩
def Gtm{f:Ev Bool}(h:GT X XQ a f):GW X XQ (.BoolOp .And [a] pos) f:=⟨Gr7 h.h⟩
def Gb5{f:Ev Bool}(h:GT X XQ a f):GW X XQ (.BoolOp .Or [a] pos) f:=⟨Gxq h.h⟩
def Gpd{rest:List Expr}{f:Ev Bool}(h:GT X XQ a f)(hb:GW X XQ (.BoolOp .And (b::rest) pos) g):GW X XQ (.BoolOp .And (a::b::rest) pos) (ta f g):=⟨Gxr h.h hb.h⟩
def Gdu{rest:List Expr}{f:Ev Bool}(h:GT X XQ a f)(hb:GW X XQ (.BoolOp .Or (b::rest) pos) g):GW X XQ (.BoolOp .Or (a::b::rest) pos) (to f g):=⟨Hbx h.h hb.h⟩
def Gf :GA X XQ [] an:=⟨Gxl ⟩
def Ga{e:Expr}{f:Ev D}(ha:GE X XQ e f)(hr:GA X XQ es g)(hs:⇑(starEach (e::es) X.env=(false,eval e X.env)::starEach es X.env)):GA X XQ (e::es) (ac f g):=⟨Gr3 ha.h hr.h hs⟩
def Qs :GO X XQ none onone:=⟨Gsq ⟩
def Qt{f:Ev D}(h:GE X XQ e f):GO X XQ (some e) (osome f):=⟨Gsr h.h⟩
def Uh(hg:Gl X "range")(hm:X.mg "range"=none)(ha:GA X XQ [a] f)(hs:⇑(starEach [a] X.env=[(false,eval a X.env)])):GI X XQ tg (.Call (.Name "range" p) [a] [] pos) (ir1 f):=⟨Gmw hg hm ha.h hs⟩
def Gfr(hg:Gl X "range")(hm:X.mg "range"=none)(ha:GA X XQ [a,b] f)(hs:⇑(starEach [a,b] X.env=[(false,eval a X.env),(false,eval b X.env)]))(hs2:⇑(starEach [b] X.env=[(false,eval b X.env)])):GI X XQ tg (.Call (.Name "range" p) [a,b] [] pos) (ir2 f):=⟨Gmx hg hm ha.h hs hs2⟩
def Zg{f:Ev D}(hl:GE X XQ l f):GI X XQ tg l (isrc f):=⟨Gx5 hl.h⟩
def Ggw{tp:Pos}(hg:Gl X "enumerate")(hm:X.mg "enumerate"=none)(ha:GA X XQ [a] f)(hs:⇑(starEach [a] X.env=[(false,eval a X.env)])):GI X XQ (.Tuple es x1 tp) (.Call (.Name "enumerate" p) [a] [] pos) (ienumerate f):=⟨Ggr hg hm ha.h hs⟩
def ggn(i:Nat)(hN:X.N.Nodup)(h:OkL X.env.scope x)(hi:⇑(X.N[i]?=some x))(hf:⇑(X.fn x=true)):GG X (.Name x pos) (gn i):=⟨jgn i hN h hi hf⟩
def Hen(i:Nat){s2:BO}(hN:N'.Nodup)(h:Gs2 scope x=true)(hi:⇑(N'[i]?=some x)):GG (blk X s2 H2 C scope c N' fp) (.Name x pos) (gn i):=⟨Hei i hN h hi⟩
def Gaz{k:Tgs}(hc:X.calm=true)(h:GGs X es k)(hn:⇑((assignEach es X.env).length=n))(hst:⇑((assignEach es X.env).findIdx? (·.1)=none)):GG X (.Tuple es m pos) (gt k n):=⟨Gxx hc h.h hn hst⟩
def Xy :GGs X [] gnil:=⟨Gsb ⟩
def Jb{e:Expr}{k:Tgs}(h1:GG X e g)(h2:GGs X es k)(hs:⇑((assignEach (e::es) X.env).map (·.2)=assign e X.env::(assignEach es X.env).map (·.2))):GGs X (e::es) (gcons g k):=⟨Gob h1.h h2.h hs⟩
def Js :GSs X XQ [] skip:=⟨Gr8 ⟩
def Gj{rest:List Stmt}{f:Sv}(h1:GS X XQ st f)(h2:GSs X XQ rest g):GSs X XQ (st::rest) (sq f g):=⟨Goa h1.h h2.h⟩
def Gy{f:Sv}(h1:GS X XQ st f):GSs X XQ [st] f:=⟨Gr9 h1.h⟩
def Ku{f:Ev D}(he:GE X XQ e f):GS X XQ (.Return (some e) pos) (sret f):=⟨Gxw he.h⟩
def Va{c:Expr}{a b:List Stmt}{f:Sv}(hc:GT X XQ c fc)(ha:GSs X XQ a f)(hb:GSs X XQ b g):GS X XQ (.If c a b pos) (sif fc f g):=⟨Hby hc.h ha.h hb.h⟩
def gset(i:Nat){f:Ev D}{pos:Pos}(hN:X.N.Nodup)(h:OkL X.env.scope x)(he:GE X XQ e f)(hi:⇑(X.N[i]?=some x))(hs:⇑(swapsWith e (some (.Name x pos')) pos.line X.env=pure false))(hf:⇑(X.fn x=true)):GS X XQ (.Assign [.Name x pos'] e pos) (sa f (gn i)):=⟨jset i hN h he.h hi hs hf⟩
def Gpe(i:Nat){pk:List (BQ Nat)}{f:Ev Src}{t:Ev Bool}(hsc:X.env.scope=sc)(hNN:X.N=N)(ct:CompTab sc scope N N' pk)(hcm:X.calm=true)(hi:GI X XQ tg iter f)(hg:∀cl s2 H2 C fp,GG (blk X s2 H2 C scope cl N' fp) tg g)(ht:∀cl s2 H2 C fp,GTs (blk X s2 H2 C scope cl N' fp) XN ifs t)(he:∀cl s2 H2 C fp,GE (blk X s2 H2 C scope cl N' fp) XN elt e)(hN:X.N.Nodup)(hl:OkL X.env.scope y)(hsw:swapsWith (.ListComp elt [⟨tg,iter,ifs,0⟩] scope pos) (some (.Name y py)) spos.line X.env=pure true)(hy:⇑(X.N[i]?=some y))(hs:autoParam (∀x,foldedSetIterable iter X.env x=pure x) zQ4)(hf:⇑(X.fn y=true)):GS X XQ (.Assign [.Name y py] (.ListComp elt [⟨tg,iter,ifs,0⟩] scope pos) spos) (sa (cmp f pk g t e) (gn i)):=⟨Gos i hsc hNN ct hcm hi.h (fun z0 z1 z2 z3 z4=>(hg z0 z1 z2 z3 z4).h) (fun z0 z1 z2 z3 z4=>(ht z0 z1 z2 z3 z4).h) (fun z0 z1 z2 z3 z4=>(he z0 z1 z2 z3 z4).h) hN hl hsw hy hs hf⟩
def Gb6{f:Ev D}{pos:Pos}(he:GE X XQ e f)(hg:GG X tg g)(hs:⇑(swapsWithSole [tg] e pos.line X.env=pure false))(hw:⇑(swappedStores [tg] e X.env=pure none))(h1:⇑((assignEach [tg] X.env).map (·.2)=[assign tg X.env])):GS X XQ (.Assign [tg] e pos) (sa f g):=⟨Gxy he.h hg.h hs hw h1⟩
def Gkk(i j:Nat){pos:Pos}(hc:X.calm=true)(hN:X.N.Nodup)(hi:X.N[i]?=some x)(hj:X.N[j]?=some y)(hij:i≠j)(hx:X.env.scope.names.lookup x=some .local)(hy:X.env.scope.names.lookup y=some .local)(ha:GA X XQ [a,b] f)(hw:swappedStores [.Tuple [.Name x px,.Name y py] kt pt] (.Tuple [a,b] k2 pt2) X.env=pure (some [x,y]))(hs:⇑(swapsWithSole [.Tuple [.Name x px,.Name y py] kt pt] (.Tuple [a,b] k2 pt2) pos.line X.env=pure false)):GS X XQ (.Assign [.Tuple [.Name x px,.Name y py] kt pt] (.Tuple [a,b] k2 pt2) pos) (spar i j f):=⟨Gyx i j hc hN hi hj hij hx hy ha.h hw hs⟩
def Xk{f:Ev D}{pos:Pos}(he:GE X XQ e f)(hob:GE X XQ ob fo)(hix:GE X XQ ix fi)(hs:⇑(swapsWithSole [.Subscript ob ix p2] e pos.line X.env=pure false))(hw:⇑(swappedStores [.Subscript ob ix p2] e X.env=pure none))(h1:⇑((assignEach [.Subscript ob ix p2] X.env).map (·.2)=[assign (.Subscript ob ix p2) X.env]))(ha:autoParam (∀ v,assign (.Subscript ob ix p2) X.env v=(do
   let ov <- holding [v] (eval ob X.env);let iv <- holding [v,ov] (eval ix X.env)
   standAt p2
   holding [v,ov,iv] (setItem ov iv v)
   release [v,ov,iv] [])) zQ3):GS X XQ (.Assign [.Subscript ob ix p2] e pos) (ss f fo fi Jg):=⟨Goh he.h hob.h hix.h hs hw h1 ha⟩
def Gbe{f:Ev D}{pos:Pos}(he:GE X XQ e f)(hs:⇑(swapsWith e none pos.line X.env=pure false)):GS X XQ (.Expr e pos) (sx f):=⟨Gsa he.h hs⟩
def Gb7{f:Ev Src}{b:Sv}(hp:PassesOwn (model X.prog X.w) X.A X.env X.xe)(hc:X.calm=true)(hi:GI X XQ tg iter f)(hg:GG X tg g)(hb:GSs X XQ body b)(hs:autoParam (∀x,foldedSetIterable iter X.env x=pure x) zQ4):GS X XQ (.For tg iter body [] pos) (sfor f g b):=⟨Gx1 hp hc hi.h hg.h hb.h hs⟩
def Gpf(fuel:Nat){c:Expr}{b:Sv}(hp:PassesOwn (model X.prog X.w) X.A X.env X.xe)(hc:GT X XQ c fc)(hb:GSs X XQ body b):GS X XQ (.While c body [] pos) (whN fc b fuel):=⟨Gof fuel hp hc.h hb.h⟩
def Gcs:GS X XQ (.Continue pos) sct:=⟨Gib ⟩
def gv(i:Nat)(h:OkV X.env.scope x)(hN:⇑(X.N[i]?=some x)):GE X XQ (.Name x pos) (vr i):=⟨jv i h hN⟩
def gvB(i:Nat){s2:BO}(h:Gor scope x=true)(hN:⇑(N'[i]?=some x)):GE (blk X s2 H2 C scope c N' fp) XQ (.Name x pos) (vr i):=⟨jvB i h hN⟩
def gown{e:Expr}(C:Cal X.prog X.w X.K X.mg X.base x ps fn j)(hr:Room k X.A)(hg:Gl X x)(hp:Hi x=true)(ha:GA X XQ (e::es) t)(hn:⇑(ps.length=n))(hj:↥(j<=k))(he:⇑(starEach (e::es) X.env=(false,eval e X.env)::starEach es X.env))(hpl:⇑((backTo pos (starEach es X.env)).any (·.1)=false)):GE X XQ (.Call (.Name x p) (e::es) [] pos) (cl n (Gh fn) t):=⟨jown C hr hg hp ha.h hn hj he hpl⟩
def gcomp{pk:List (BQ Nat)}{f:Ev Src}{t:Ev Bool}(hsc:X.env.scope=sc)(hNN:X.N=N)(ct:CompTab sc scope N N' pk)(hcm:X.calm=true)(hi:GI X XQ tg iter f)(hg:∀cl s2 H2 C fp,GG (blk X s2 H2 C scope cl N' fp) tg g)(ht:∀cl s2 H2 C fp,GTs (blk X s2 H2 C scope cl N' fp) XN ifs t)(he:∀cl s2 H2 C fp,GE (blk X s2 H2 C scope cl N' fp) XN elt e)(hs:autoParam (∀x,foldedSetIterable iter X.env x=pure x) zQ4):GE X XQ (.ListComp elt [⟨tg,iter,ifs,0⟩] scope pos) (cmp f pk g t e):=⟨jcomp hsc hNN ct hcm hi.h (fun z0 z1 z2 z3 z4=>(hg z0 z1 z2 z3 z4).h) (fun z0 z1 z2 z3 z4=>(ht z0 z1 z2 z3 z4).h) (fun z0 z1 z2 z3 z4=>(he z0 z1 z2 z3 z4).h) hs⟩
def Uq:GTs QC XQ [] ttrue:=⟨Gsf ⟩
def GW.jt{f:Ev Bool}(h:GW X XQ e f):GT X XQ e f:=⟨JW.jt h.h⟩
def Gtn:Stmt->List Stmt
 |.ClassDef _ _ _ b _ _ _ _ _ _ _=>b
 |_=>[]
section
variable{X:Cx}{XQ:XW}{k:Nat}{x:Str}{p pos:Pos}{e:Expr}{es:List Expr}
def Hco{ys:List Str}(xs:XNs X.K ys)(L:XL X XQ)(C:CalX X.prog X.w X.K X.mg X.base x ps fn j)(hr:Room k X.A)(hg:Gl X x)(hp:Hi x=true)(ha:GA X XQ (e::es) t)(hn:⇑(ps.length=n))(hj:↥(j<=k))(he:⇑(starEach (e::es) X.env=(false,eval e X.env)::starEach es X.env))(hpl:⇑((backTo pos (starEach es X.env)).any (·.1)=false)):
  GE X XQ (.Call (.Name x p) (e::es) [] pos) (cl n (gX ys fn) t):=⟨Hcg xs L C hr hg hp ha.h hn hj he hpl⟩
def Gpg(L:XL X XQ)(hcm:X.calm=true)(C:ClX X.prog X.w X.K X.mg X.base x j)(hr:Room k X.A)(hg:Gl X x)(hp:Hi x=true)(ha:GA X XQ [a] t)(hj:↥(j+1<=k))(he:⇑(starEach [a] X.env=(false,eval a X.env)::starEach [] X.env))(hpl:⇑((backTo cpos (starEach [] X.env)).any (·.1)=false)):
  GS X XQ (.Raise (some (.Call (.Name x np) [a] [] cpos)) none pos) (srs x t):=⟨Go2 L hcm C hr hg hp ha.h hj he hpl⟩
def Gto{c:Str}{b0:Stmt}{ys:List Str}{fb:Sv}(pl:Plain X)(ct:Cat X.K X.mg c ys)(hg:Gl X c)(hp:Hi c=true)(hb:∀(pn:List (BP×Obj))(xe:BN->BO->Prop)(XQ':XW),XL (trb X pn xe) XQ'->GSs (trb X pn xe) XQ' body fb)(hs:∀a,GSs (hnd X a) XN (b0::suite) fh):
  GS X XQ (.Try body [.ExceptHandler (some (.Name c np)) none (b0::suite) hpos] [] [] pos) (Gbd ys (Gth fh) fb):=⟨Gti pl ct hg hp (fun a b c d=>(hb a b c d).h) fun a=>(hs a).h⟩
end
structure FH(K:BM)(x:Str)(st:Stmt):Prop where
 ex:∃(f:BP)(oc:BN)(od an:BQ BP)(osl:Array (BQ BN))(kV doc pm cdv ct:BN),PySem.W.nsIn K mainGlobals x=some (some (.ref f))/\K.lookup f=some ⟨oc,od,.func (PySem.W.fnOf x x (Jr st) (Hl st) (Gc st) .none kV doc pm an cdv ct),osl⟩/\PySem.W.codeIn K cdv x=true/\PySem.W.keepIn K (.ref f)=true
section
variable{K:BM}{mg:Str->BQ BN}
def Hcp{f:BP}{an:BQ BP}{kV:BN}(a:PySem.W.nsIn K mainGlobals x=some (some (.ref f)))(l:K.lookup f=some ⟨oc,od,.func (PySem.W.fnOf x x (Jr st) (Hl st) (Gc st) .none kV doc pm an cdv ct),osl⟩)(c:PySem.W.codeIn K cdv x=true)(k:PySem.W.keepIn K (.ref f)=true):FH K x st:=⟨f,oc,od,an,osl,kV,doc,pm,cdv,ct,a,l,c,k⟩
def FH.dn(F:FH K x st)(X:K.In h)(G:h.Ns mainGlobals mg)(hb:∀(kV doc pm:BN)(an:BQ BP)(cdv ct:BN)(us:List BN),us.length=ps.length->bindArgs (PySem.W.fnOf x x (Jr st) (Hl st) (Gc st) .none kV doc pm an cdv ct) ⟨us,[]⟩=pure (ps.zip us)):Dn K mg x st ps:=by
 obtain⟨f,oc,od,an,osl,kV,doc,pm,cdv,ct,a,l,c,k⟩:=F.ex;exact Hcb X G a l c k hb
def FH.fv(F:FH K x st)(X:K.In h)(G:h.Ns mainGlobals mg):FvT K mg x:=by
 obtain⟨f,oc,od,an,osl,kV,doc,pm,cdv,ct,a,l,c,k⟩:=F.ex;exact⟨f,a,PySem.W.mg_of X G a⟩
end
section
variable{K:BM}{h:Heap}{mg:Str->BQ BN}{x:Str}
def Gtp{t:Tok}(X:K.In h)(G:h.Ns mainGlobals mg)(a:PySem.W.nsIn K mainGlobals x=some (some (.int i t))):∃u v,mg x=some u/\Hg v u/\∀mp H,Rep K mp H (.int i) v:=
 ⟨_,.int i,PySem.W.mg_of X G a,⟨t,rfl⟩,fun _ _=>rfl⟩
def Gtq{t:Tok}(X:K.In h)(G:h.Ns mainGlobals mg)(a:PySem.W.nsIn K mainGlobals x=some (some (.str y t))):∃u v,mg x=some u/\Hg v u/\∀mp H,Rep K mp H (.str y) v:=
 ⟨_,.str y,PySem.W.mg_of X G a,⟨t,rfl⟩,fun _ _=>rfl⟩
def Gph{p:BP}{t:Tok}{sl:Array (BQ BN)}(X:K.In h)(G:h.Ns mainGlobals mg)(a:PySem.W.nsIn K mainGlobals x=some (some (.ref p)))(l:K.lookup p=some {cls:=.type "tuple",dict:=none,data:=.seq #[.str y t] n,slots:=sl}):
  ∃u v,mg x=some u/\Hg v u/\∀mp H,Rep K mp H (.tup [.str y]) v:=
 ⟨_,.ref p,PySem.W.mg_of X G a,rfl,fun _ _=>⟨p,[.str y],rfl,.inr ⟨_,_,n,l,rfl,rfl,by rw[sizeLine_eq];simp,.cons ⟨t,rfl⟩ .nil⟩,RepL.cons rfl RepL.nil⟩⟩
end
structure FnS(N P:List Str)(sc:Scope):Prop where
 s:FnScope N P sc
 v:N.all (okV sc)=true
 l:N.all (okL sc)=true
def kdF{P:List Str}{s:Scope}(a:⇑(s.kind=.function))(b:⇑(s.isCoroutine=false))(c:⇑(s.isGenerator=false))(d:↑(N.Nodup))(e:⇑(N.take P.length=P))(f:↑(∀x∈P,s.names.lookup x=some .local\/s.names.lookup x=some .cell))(g:↑(∀y∈s.names,y.2≠.free))(v:↑(N.all (okV s)=true))(l:↑(N.all (okL s)=true)):FnS N P s:=⟨⟨a,b,c,d,e,f,g⟩,v,l⟩
def FnS.nd{P:List Str}(S:FnS N P sc):N.Nodup:=S.s.nd
def Gpi{i:Nat}(h:N[i]?=some x):x∈N:=Ao h
def FnS.ov{P:List Str}{sc:Scope}{i:Nat}(S:FnS N P sc)(h:N[i]?=some x):OkV sc x:=⟨AF.mp S.v x (Gpi h)⟩
def FnS.ol{P:List Str}{sc:Scope}{i:Nat}(S:FnS N P sc)(h:N[i]?=some x):OkL sc x:=⟨AF.mp S.l x (Gpi h)⟩
def kdC{sc:Scope}{pk:List (BQ Nat)}(a:⇑(scope.kind=.function))(b:↑(∀ y∈scope.names,y.2=.cell->scope.names.lookup y.1=some .cell))(c:↑(∀ y∈scope.names,y.2=.local->scope.names.lookup y.1=some .local))(d:↑(∀ y∈scope.names,y.2=.free->sc.names.lookup y.1=some .cell\/sc.names.lookup y.1=some .free))(e:⇑(pk.length=N'.length))(f:↑(((List.range N'.length).all fun i=>match pk[i]? with
  |some (some j)=>match N[j]?,N'[i]? with
   |some x,some y=>(x==y)&&((sc.names.lookup y==some NameKind.cell)||(sc.names.lookup y==some NameKind.free))&&(scope.names.lookup y==some NameKind.free)
   |_,_=>false
  | _=>true)=true)):CompTab sc scope N N' pk:=⟨a,b,c,d,e,f⟩
section
variable{X:Cx}{XQ:XW}{k:Nat}{x:Str}{p pos:Pos}{e:Expr}{es:List Expr}{P:List Str}{f:Ev D}
def gw(i:Nat)(S:FnS X.N P X.env.scope)(hN:⇑(X.N[i]?=some x)):GE X XQ (.Name x pos) (vr i):=gv i (S.ov hN) hN
def gG(s:Scope)(h:↑(okG s x=true))(hs:⇑(X.env.scope=s)):Gl X x:=gl ⟨hs▸h⟩
def ggw(i:Nat)(S:FnS X.N P X.env.scope)(hi:⇑(X.N[i]?=some x))(hf:⇑(X.fn x=true)):GG X (.Name x pos) (gn i):=ggn i S.nd (S.ol hi) hi hf
def gsew(i:Nat)(S:FnS X.N P X.env.scope)(he:GE X XQ e f)(hi:⇑(X.N[i]?=some x))(hs:⇑(swapsWith e (some (.Name x pos')) pos.line X.env=pure false))(hf:⇑(X.fn x=true)):
  GS X XQ (.Assign [.Name x pos'] e pos) (sa f (gn i)):=gset i S.nd (S.ol hi) he hi hs hf
def gow(s:Scope)(C:Cal X.prog X.w X.K X.mg X.base x ps fn j)(hr:Room k X.A)(ha:GA X XQ (e::es) t)(hg:↑(okG s x=true))(hn:⇑(ps.length=n))(hj:↥(j<=k))(hs:⇑(X.env.scope=s))(he:⇑(starEach (e::es) X.env=(false,eval e X.env)::starEach es X.env))(hpl:⇑((backTo pos (starEach es X.env)).any (·.1)=false)):
  GE X XQ (.Call (.Name x p) (e::es) [] pos) (cl n (Gh fn) t):=gown C hr (gG s hg hs) (okG.gl hg).2 ha hn hj he hpl
def Hcq{ys:List Str}(s:Scope)(xs:XNs X.K ys)(L:XL X XQ)(C:CalX X.prog X.w X.K X.mg X.base x ps fn j)(hr:Room k X.A)(ha:GA X XQ (e::es) t)(hg:↑(okG s x=true))(hn:⇑(ps.length=n))(hj:↥(j<=k))(hs:⇑(X.env.scope=s))(he:⇑(starEach (e::es) X.env=(false,eval e X.env)::starEach es X.env))(hpl:⇑((backTo pos (starEach es X.env)).any (·.1)=false)):
  GE X XQ (.Call (.Name x p) (e::es) [] pos) (cl n (gX ys fn) t):=Hco xs L C hr (gG s hg hs) (okG.gl hg).2 ha hn hj he hpl
def Hcr(i:Nat){ys:List Str}(S:FnS X.N P X.env.scope)(xs:XNs X.K ys)(L:XL X XQ)(C:CalX X.prog X.w X.K X.mg X.base x ps fn j)(hr:Room k X.A)(ha:GA X XQ (e::es) t)(hj:↥(j<=k))(hN:⇑(X.N[i]?=some y))(he:⇑(starEach (e::es) X.env=(false,eval e X.env)::starEach es X.env))(hpl:⇑((backTo pos (starEach es X.env)).any (·.1)=false)):GE X XQ (.Call (.Name y p) (e::es) [] pos) (clv i x ps.length (gX ys fn) t):=Go6 i xs L C hr hj hN (okV.vis (S.ov hN).h).1 (okV.vis (S.ov hN).h).2 ha he hpl
def Gim(s:Scope)(L:XL X XQ)(C:ClX X.prog X.w X.K X.mg X.base x j)(hr:Room k X.A)(ha:GA X XQ [a] t)(hg:↑(okG s x=true))(hcm:⇑(X.calm=true))(hj:↥(j+1<=k))(hs:⇑(X.env.scope=s))(he:⇑(starEach [a] X.env=(false,eval a X.env)::starEach [] X.env))(hpl:⇑((backTo cpos (starEach [] X.env)).any (·.1)=false)):
  GS X XQ (.Raise (some (.Call (.Name x np) [a] [] cpos)) none pos) (srs x t):=Gpg L hcm C hr (gG s hg hs) (okG.gl hg).2 ha hj he hpl
def Gkl{T:String}(g1:Gl X "isinstance")(g2:Gl X x)(k:Kit X.K T)(hm:X.mg "isinstance"=none)(hmt:X.mg x=none)(he:GE X XQ e f)(hv:⇑(bootBuiltins x=some (.type T)))(hnx:↑(x≠"__name__"))(hdx:↑((x==("__debug__":Str))=false))(hs:⇑(starEach [e,.Name x p2] X.env=(false,eval e X.env)::starEach [.Name x p2] X.env))(hpl:⇑((backTo pos (starEach [.Name x p2] X.env)).any (·.1)=false))(hs2:⇑(starEach [.Name x p2] X.env=(false,eval (.Name x p2) X.env)::starEach [] X.env)):GE X XQ (.Call (.Name "isinstance" p) [e,.Name x p2] [] pos) (o1 (isD T) f):=Gzq k hv hnx hdx g1 hm g2 hmt he hs hpl hs2
def Glk{pk:List (BQ Nat)}{f:Ev Src}{t:Ev Bool}{e:Ev D}(S:FnS N P sc)(hi:GI X XQ tg iter f)(hg:∀cl s2 H2 C fp,GG (blk X s2 H2 C scope cl N' fp) tg g)(ht:∀cl s2 H2 C fp,GTs (blk X s2 H2 C scope cl N' fp) XN ifs t)(he:∀cl s2 H2 C fp,GE (blk X s2 H2 C scope cl N' fp) XN elt e)(ct:autoParam (CompTab sc scope N N' pk) zQ11)(hsc:⇑(X.env.scope=sc))(hNN:⇑(X.N=N))(hcm:⇑(X.calm=true))(hs:autoParam (∀x,foldedSetIterable iter X.env x=pure x) zQ4):GE X XQ (.ListComp elt [⟨tg,iter,ifs,0⟩] scope pos) (cmp f pk g t e):=gcomp hsc hNN ct hcm hi hg ht he hs
def Gfs(i:Nat){pk:List (BQ Nat)}{f:Ev Src}{t:Ev Bool}{e:Ev D}(S:FnS N P sc)(hi:GI X XQ tg iter f)(hg:∀cl s2 H2 C fp,GG (blk X s2 H2 C scope cl N' fp) tg g)(ht:∀cl s2 H2 C fp,GTs (blk X s2 H2 C scope cl N' fp) XN ifs t)(he:∀cl s2 H2 C fp,GE (blk X s2 H2 C scope cl N' fp) XN elt e)(ct:autoParam (CompTab sc scope N N' pk) zQ11)(hsc:⇑(X.env.scope=sc))(hNN:⇑(X.N=N))(hcm:⇑(X.calm=true))(hsw:⇑(swapsWith (.ListComp elt [⟨tg,iter,ifs,0⟩] scope pos) (some (.Name y py)) spos.line X.env=pure true))(hy:⇑(N[i]?=some y))(hs:autoParam (∀x,foldedSetIterable iter X.env x=pure x) zQ4)(hf:⇑(X.fn y=true)):GS X XQ (.Assign [.Name y py] (.ListComp elt [⟨tg,iter,ifs,0⟩] scope pos) spos) (sa (cmp f pk g t e) (gn i)):=
 Gpe i hsc hNN ct hcm hi hg ht he (hNN▸S.nd) (hsc▸S.ol hy) hsw (hNN▸hy) hs hf
section
variable{s2:BO}{H2:Hp}{C:BP}{scope:Scope}{c:List (Str×BP)}{N':List Str}{fp:List BP}
def Yp(i:Nat)(h:↑(Gor scope x=true))(hN:⇑(N'[i]?=some x)):GE (blk X s2 H2 C scope c N' fp) XQ (.Name x pos) (vr i):=gvB i h hN
def Gvw(h:↑(okG scope x=true)):Gl (blk X s2 H2 C scope c N' fp) x:=glB h
def Xl(i:Nat)(h:↑(Gs2 scope x=true))(hN:↑(N'.Nodup))(hi:⇑(N'[i]?=some x)):GG (blk X s2 H2 C scope c N' fp) (.Name x pos) (gn i):=Hen i hN h hi
def Gzs(Q:Cal X.prog X.w X.K X.mg X.base x ps fn j)(hr:Room k X.A)(ha:GA (blk X s2 H2 C scope c N' fp) XQ (e::es) t)(hg:↑(okG scope x=true))(hn:⇑(ps.length=n))(hj:↥(j<=k))(he:⇑(starEach (e::es) (blk X s2 H2 C scope c N' fp).env=(false,eval e (blk X s2 H2 C scope c N' fp).env)::starEach es (blk X s2 H2 C scope c N' fp).env))(hpl:⇑((backTo pos (starEach es (blk X s2 H2 C scope c N' fp).env)).any (·.1)=false)):
  GE (blk X s2 H2 C scope c N' fp) XQ (.Call (.Name x p) (e::es) [] pos) (cl n (Gh fn) t):=gown (X:=blk X s2 H2 C scope c N' fp) Q hr (glB hg) (okG.gl hg).2 ha hn hj he hpl
end
end
def usS{Q:List BN->Prop}(h:∀a us,us.length=n->Q (a::us))(us:List BN)(e:us.length=n+1):Q us:=by
 cases us with
 |nil=>cases e
 |cons a us=>exact h a us (Nat.succ.inj e)
def us0{Q:List BN->Prop}(h:Q [])(us:List BN)(e:us.length=0):Q us:=List.eq_nil_of_length_eq_zero e▸h
section
variable{P:BR}{w:World}{K:BM}{mg:Str->BQ BN}{base:Heap}{x:Str}{st:Stmt}{ps N:List Str}{fn:Fn}
abbrev GH(K:BM)(mg:Str->BQ BN):Prop:=∃h:Heap,K.In h/\h.Ns mainGlobals mg
def calw{b:Sv}(k:Nat)(F:FH K x st)(g:GH K mg)(S:FnS N ps (Gc st))(hfn:fn=fnB N.length b)
  (hb:∀ (f:BP) (cdv:BN) (A:Around) (outer:List PySem.Env) (s:BO) (H:Hp) (E:XK),Room k (A.deeper (envOfC x (Gc st) s.heap.objs.size f cdv))→
   JSs (Vj CX0 P w K mg base N x (Gc st) f cdv A outer s H E).nox XN (Hl st) b)
  (ha:∀(kV doc pm:BN)(an:BQ BP)(cdv ct:BN)(us:List BN),us.length=ps.length->bindArgs (PySem.W.fnOf x x (Jr st) (Hl st) (Gc st) .none kV doc pm an cdv ct) ⟨us,[]⟩=pure (ps.zip us):=by(intro _ _ _ _ _ _;(repeat refine DL.usS fun _=>?_);exact DL.us0 rfl)):Cal P w K mg base x ps fn (k+1):=
 let⟨_,X,G⟩:=g;Gyy N k b hfn (F.dn X G ha) S.s hb
def calxw{b:Sv}(k:Nat)(F:FH K x st)(g:GH K mg)(S:FnS N ps (Gc st))(hfn:fn=fnB N.length b)
  (hb:∀ (f:BP) (cdv:BN) (A:Around) (outer:List PySem.Env) (s:BO) (H:Hp) (E:XK) (XQ:XW),Room k (A.deeper (envOfC x (Gc st) s.heap.objs.size f cdv))->XL (Vj (CXe P w) P w K mg base N x (Gc st) f cdv A outer s H E) XQ→
   JSs (Vj (CXe P w) P w K mg base N x (Gc st) f cdv A outer s H E) XQ (Hl st) b)
  (ha:∀(kV doc pm:BN)(an:BQ BP)(cdv ct:BN)(us:List BN),us.length=ps.length->bindArgs (PySem.W.fnOf x x (Jr st) (Hl st) (Gc st) .none kV doc pm an cdv ct) ⟨us,[]⟩=pure (ps.zip us):=by(intro _ _ _ _ _ _;(repeat refine DL.usS fun _=>?_);exact DL.us0 rfl)):CalX P w K mg base x ps fn (k+1):=
 let⟨_,X,G⟩:=g;Gte N k b hfn (F.dn X G ha) S.s hb
def FH.fnx{f:BP}(F:FH K x st)(X:K.In h)(G:h.Ns mainGlobals mg)(hm:mg x=some (.ref f)):∃od an osl kV doc pm cdv ct,∃oc:BN,PySem.W.keepIn K (.ref f)=true/\PySem.W.codeIn K cdv x=true/\K.lookup f=some ⟨oc,od,.func (PySem.W.fnOf x x (Jr st) (Hl st) (Gc st) .none kV doc pm an cdv ct),osl⟩:=by
 obtain⟨f',oc,od,an,osl,kV,doc,pm,cdv,ct,a,l,c,k⟩:=F.ex;have e:=hm.symm.trans (PySem.W.mg_of X G a);cases e;exact⟨od,an,osl,kV,doc,pm,cdv,ct,oc,k,c,l⟩
end
def Gex(neg:Bool)(x y:D)(S:Sto):Out D:=match toP S 40 x,toP S 40 y with
 |some p,some (.list l)=>if(SeqAt.shaped p&&SeqAt.shaped (.list l))=true then .ok (.bl (if neg=true then !(l.any fun z=>PyData.eqv z p)else l.any fun z=>PyData.eqv z p)) S else .bad
 |some p,some (.tuple l)=>if(SeqAt.shaped p&&SeqAt.shaped (.tuple l))=true then .ok (.bl (if neg=true then !(l.any fun z=>PyData.eqv z p)else l.any fun z=>PyData.eqv z p)) S else .bad
 |_,_=>.bad
abbrev inP:=Gex false
abbrev Hcs:=Gex true
section
variable{X:Cx}{XQ:XW}{a b:Expr}{fa fb:Ev D}{pos:Pos}
def Gkm(neg:Bool)(hu:X.A.units+65<cLine):OpX X (compareOp (if neg=true then .NotIn else .In)) (Gex neg):=by
 intro pins s O U XQ mp H S x y v u vv uv Q I rs rx ry rv ru p _;unfold Gex at p;cases z1:toP S 40 x with
 |none=>simp only[z1]at p;exact p.elim
 |some a=>
  cases z2:toP S 40 y with
  |none=>simp only[z1,z2]at p;exact p.elim
  |some b=>
   simp only[z1,z2]at p;obtain⟨as,ra⟩:=Xv I rs 40 x v vv a rx rv z1;obtain⟨bs,rb⟩:=Xv I rs 40 y u uv b ry ru z2;cases b with
   |list l=>
    simp only at p;by_cases hs:(SeqAt.shaped a&&SeqAt.shaped (.list l))=true
    ·rw[if_pos hs]at p;rw[Am]at hs;cases neg
     ·exact SeqAt.in_list_reads rb ra (SeqAt.canLay_of_shaped hs.2) (SeqAt.canLay_of_shaped hs.1) (room_in_shaped hs.1 hu) ⟨.bl _,H,I,rfl,Gn.ok (R:=Rep X.K) p rs rfl⟩
     ·exact SeqAt.notIn_list_reads rb ra (SeqAt.canLay_of_shaped hs.2) (SeqAt.canLay_of_shaped hs.1) (room_in_shaped hs.1 hu) ⟨.bl _,H,I,rfl,Gn.ok (R:=Rep X.K) p rs rfl⟩
    ·rw[if_neg hs]at p;exact p.elim
   |tuple l=>
    simp only at p;by_cases hs:(SeqAt.shaped a&&SeqAt.shaped (.tuple l))=true
    ·rw[if_pos hs]at p;rw[Am]at hs;cases neg
     ·exact SeqAt.in_tuple_reads rb ra (SeqAt.canLay_of_shaped hs.2) (SeqAt.canLay_of_shaped hs.1) (room_in_shaped hs.1 hu) ⟨.bl _,H,I,rfl,Gn.ok (R:=Rep X.K) p rs rfl⟩
     ·exact SeqAt.notIn_tuple_reads rb ra (SeqAt.canLay_of_shaped hs.2) (SeqAt.canLay_of_shaped hs.1) (room_in_shaped hs.1 hu) ⟨.bl _,H,I,rfl,Gn.ok (R:=Rep X.K) p rs rfl⟩
    ·rw[if_neg hs]at p;exact p.elim
   |_=>exact p.elim
def Gkn(neg:Bool)(x y:D)(S:Sto)(e:XD)(S':Sto):Gex neg x y S≠.exc e S':=by
 unfold Gex;split
 ·split<;>exact fun z=>nomatch z
 ·split<;>exact fun z=>nomatch z
 ·exact fun z=>nomatch z
def Gzt(hr:Room k X.A)(ha:GE X XQ a fa)(hb:GE X XQ b fb)(hm:⇑(behindInMarks .In b=false)):GE X XQ (.Compare a [.In] [b] pos) (o2 inP fa fb):=⟨Ggk (Gkm false (by have:=hr.un;omega)) (Gkn false) ha.h hb.h hm⟩
def Gpj(hr:Room k X.A)(ha:GE X XQ a fa)(hb:GE X XQ b fb)(hm:⇑(behindInMarks .In b=false)):GT X XQ (.Compare a [.In] [b] pos) (tb (o2 inP fa fb)):=⟨Gdr (Gkm false (by have:=hr.un;omega)) (Gkn false) ha.h hb.h hm⟩
def Gtr(hr:Room k X.A)(ha:GE X XQ a fa)(hb:GE X XQ b fb)(hm:⇑(behindInMarks .NotIn b=false)):GT X XQ (.Compare a [.NotIn] [b] pos) (tb (o2 Hcs fa fb)):=⟨Gdr (Gkm true (by have:=hr.un;omega)) (Gkn true) ha.h hb.h hm⟩
end
section
variable{X:Cx}{XQ:XW}
def mt0(o:D->List D->Sto->Out D)(fo:Ev D):Ev D:=fun U S=>(fo U S).bind fun x S1=>if isLst x S1=true then o x [] S1 else .bad
@[simp] theorem Heo{o:D->List D->Sto->Out D}:mt0 o fo U S=(fo U S).bind fun x S1=>if isLst x S1=true then o x [] S1 else .bad:=rfl
end
inductive DP:List (BQ Expr)->List Expr->List (Str×D)->Prop
 |nil:DP [] [] []
 |i {k:Str} {i:Int} {j j' p p'} {ks vs l}:DP ks vs l->DP (some (.Constant (.str k) j p)::ks) (.Constant (.int i) j' p'::vs) ((k,.int i)::l)
 |s {k x:Str} {j j' p p'} {ks vs l}:DP ks vs l->DP (some (.Constant (.str k) j p)::ks) (.Constant (.str x) j' p'::vs) ((k,.str x)::l)
def dsub(l:List (Str×D))(fb:Ev D):Ev D:=fun U S=>(fb U S).bind fun y S1=>match y with
 |.str k=>match l.lookup k with
  |some (.int i)=>.ok (.int i) S1
  |some (.str x)=>.ok (.str x) S1
  |_=>.bad
 |_=>.bad
@[simp] theorem Hdt:dsub l fb U S=(fb U S).bind fun y S1=>match y with
 |.str k=>match l.lookup k with
  |some (.int i)=>.ok (.int i) S1
  |some (.str x)=>.ok (.str x) S1
  |_=>.bad
 |_=>.bad:=rfl
inductive Nms(mg:Str->BQ BN):List Str->List BP->Prop
 |nil:Nms mg [] []
 |cons {x:Str} {c:BP} {xs:List Str} {cs:List BP} (h:mg x=some (.ref c)) (t:Nms mg xs cs):Nms mg (x::xs) (c::cs)
structure IsT(K:BM)(mg:Str->BQ BN)(xs ys:List Str):Prop where
 ex:∃cs,Nms mg xs cs/\∀y∈ys,∃C,CN K y C/\PySem.W.kitAny K (.ref C) (cs.map Value.ref)=some (decide (y∈xs))
inductive GNs(X:Cx)(s:Scope):List Expr->List Str->Prop
 |nil:GNs X s [] []
 |cons {x:Str} {p:Pos} {es:List Expr} {xs:List Str} (t:GNs X s es xs) (hg:okG s x=true:=by decide +kernel) (hs:starEach (.Name x p::es) X.env=(false,eval (.Name x p) X.env)::starEach es X.env:=by rfl):GNs X s (.Name x p::es) (x::xs)
section
variable{X:Cx}{XQ:XW}
variable{a b:Expr}{fa fb:Ev D}{pos:Pos}
end
section
variable{X:Cx}{pins:List (BP×Obj)}{O:L2.St}{H:Hp}{s:BO}{mp:List BP}
mutual
theorem Gin(I:Inv X pins O H s):∀(d:D)(v:V)(u:BN)(Y:NK),Rep X.K mp H d v->Hg v u->nkO d=some Y->∃as,Reads s.heap u (pk Y) as
 |.int i,v,u,Y,h,r,e=>by
  cases (show v=.int i from h);obtain⟨t,rfl⟩:=(show∃t,u=Value.int i t from r)
  simp only[nkO,Option.some.injEq]at e;subst e;simp only[pk];exact⟨_,.int i t⟩
 |.tup l,v,u,Y,h,r,e=>by
  obtain⟨a,xs,rfl,sq,q⟩:=Rep.tup h;cases (show u=Value.ref a from r);obtain⟨its,rv,⟨o,ho,hc,k,hd⟩,_⟩:=I.tuple sq;simp only[nkO]at e;obtain⟨ks,e1,rfl⟩:=Option.map_eq_some_iff.mp e;obtain⟨as,ra⟩:=readsL_nk I l xs its ks q rv e1;simp only[pk];exact⟨as,.tuple ho hc hd (by simpa using ra)⟩
 |.non,_,_,_,_,_,e=>by simp[nkO]at e
 |.bl _,_,_,_,_,_,e=>by simp[nkO]at e
 |.str _,_,_,_,_,_,e=>by simp[nkO]at e
 |.lst _,_,_,_,_,_,e=>by simp[nkO]at e
 |.exn _ _,_,_,_,_,_,e=>by simp[nkO]at e
 |.fv _,_,_,_,_,_,e=>by simp[nkO]at e
 |.dct _,_,_,_,_,_,e=>by simp[nkO]at e
theorem readsL_nk(I:Inv X pins O H s):∀(l:List D)(vs:List V)(us:List BN)(ks:List NK),RepL X.K mp H l vs->Vals vs us->nkOs l=some ks->∃as,ReadsAll s.heap us (pks ks) as
 |[],vs,us,ks,h,r,e=>by
  cases (show vs=[]from h);cases r;simp only[nkOs,Option.some.injEq]at e;subst e;simp only[pks];exact⟨_,.nil⟩
 |d::l,vs,us,ks,h,r,e=>by
  obtain⟨v,vr,rfl,h1,h2⟩:=(show∃v r,vs=v::r/\Rep X.K mp H d v/\RepL X.K mp H l r from h)
  cases r with
  |cons r1 r2=>
   simp only[nkOs]at e;obtain⟨k,e1,e2⟩:=Option.bind_eq_some_iff.mp e;obtain⟨q,e3,rfl⟩:=Option.map_eq_some_iff.mp e2;obtain⟨as,ra⟩:=Gin I d v _ k h1 r1 e1;obtain⟨bs,rb⟩:=readsL_nk I l vr _ q h2 r2 e3;simp only[pks];exact⟨_,.cons ra rb⟩
end
end
abbrev KVs:=List (NK×BP×V)
noncomputable def Gdv(kvs:KVs)(Y:NK):BQ V:=(kvs.find? fun q=>decide (q.1=Y)).map (·.2.2)
def Gko(kvs:KVs)(Y:NK)(b:BP)(v:V):KVs:=if(Gdv kvs Y).isSome then kvs.map (fun q=>if q.1=Y then(q.1,q.2.1,v)else q)else kvs++[(Y,b,v)]
def KT:KVs->List (NK×BP×BN)->Prop:=Paired fun p q=>p.1=q.1/\p.2.1=q.2.1/\Hg p.2.2 q.2.2
def Gio{q:NK×BP×V}(e:q.1=Y):Gdv (q::r) Y=some q.2.2:=by simp[Gdv,Bw,e]
def Gip{q:NK×BP×V}(e:¬q.1=Y):Gdv (q::r) Y=Gdv r Y:=by simp[Gdv,Bw,e]
def KT.val(r:KT kvs xs)(k:NK):Grk (Gdv kvs k) ((atKey xs k).map (·.2)):=by
 unfold KT at r;induction r with
 |nil=>exact True.intro
 |@cons p q ps qs h t ih=>
  obtain⟨h1,_,h2⟩:=h;by_cases e:p.1=k
  ·have e':q.1=k:=h1.symm.trans e;have b:atKey (q::qs) k=some q.2:=by simp[atKey,Bw,e']
   rw[Gio e,b];exact h2
  ·have e':¬q.1=k:=fun z=>e (h1.trans z);have b:atKey (q::qs) k=atKey qs k:=by simp[atKey,Bw,e']
   rw[Gip e,b];exact ih
def Gft{v:BQ V}{o:BQ BN}(r:Grk v o):v.isSome=o.isSome:=by
 cases v<;>cases o<;>first|rfl|exact r.elim
def KT.repl{kvs:KVs}{xs:List (NK×BP×BN)}(r:KT kvs xs)(k:NK){y:V}(ry:Hg y u):KT (kvs.map fun q=>if q.1=k then(q.1,q.2.1,y)else q) (xs.map (putAt k u)):=by
 unfold KT at r⊢;induction r with
 |nil=>exact .nil
 |@cons p q ps qs h t ih=>
  rw[AB,AB];refine .cons ?_ ih;obtain⟨h1,h2,h3⟩:=h;unfold putAt;by_cases e:p.1=k
  ·rw[if_pos e,if_pos (h1.symm.trans e)];exact⟨h1,h2,ry⟩
  ·rw[if_neg e,if_neg (fun z=>e (h1.trans z))];exact⟨h1,h2,h3⟩
def Zh{F:Z->β->Prop}:∀{l:List Z}{m:List β}{a:Z}{b:β},Paired F l m->F a b->Paired F (l++[a]) (m++[b])
 |_,_,_,_,.nil,h=>.cons h .nil
 |_,_,_,_,.cons r t,h=>.cons r (Zh t h)
def KT.put(r:KT kvs xs)(k:NK){b:BP}{y:V}(ry:Hg y u):KT (Gko kvs k b y) (storedH xs k b u):=by
 have e:(Gdv kvs k).isSome=(atKey xs k).isSome:=by rw[Gft (r.val k),Option.isSome_map]
 unfold Gko storedH;rw[e];by_cases q:(atKey xs k).isSome=true
 ·rw[if_pos q,if_pos q];exact r.repl k ry
 ·rw[if_neg q,if_neg q];exact Zh r ⟨rfl,rfl,ry⟩
def Giq(kvs:KVs)(Y:NK)(b:BP)(v:V):(Gko kvs Y b v).length<=kvs.length+1:=by
 unfold Gko;split<;>simp
def Gir(K:BM)(H:Hp)(Y:NK)(b:BP):Prop:=(pk Y).depth<=8/\∃mp k,nkO k=some Y/\Rep K mp H k (.ref b)
section
variable{X:Cx}{XQ:XW}{pins:List (BP×Obj)}{O:L2.St}{H:Hp}{s:BO}
def Gir.is{b:BP}(I:Inv X pins O H s)(k:Gir X.K H Y b):(nestKind X.prog X.w).is s.heap Y b:=by
 obtain⟨d,mp,k,e,r⟩:=k;exact⟨Gin I k _ _ Y r rfl e,d⟩
def Ga0{F:Z->β->Prop}:∀{l:List Z}{m:List β}{b:β},Paired F l m->b∈m->∃a∈l,F a b
 |_,_,_,.nil,h=>by simp at h
 |_,_,_,.cons r t,h=>by
  rcases Ad.mp h with rfl|h
  ·exact⟨_,Aw,r⟩
  ·obtain⟨a,h1,h2⟩:=Ga0 t h;exact⟨a,Au _ h1,h2⟩
def Gpk{a:BP}{kvs:KVs}(I:Inv X pins O H s)(e:H a=some (.dT kvs))(ks:∀q∈kvs,Gir X.K H q.1 q.2.1):kvs.length<=sizeLine/\(a==sysModules)=false/\∃xs,KT kvs xs/\s.heap.DictOfH (nestKind X.prog X.w) a xs:=by
 obtain⟨z,y,xs,r,o,es,ep,h1,h2,h3,h4,h5⟩:=(show Ks X.prog X.w H s.heap a (.dT kvs)from I.hok a _ e)
 refine⟨z,y,xs,r,o,es,ep,h1,h2,h3,h4,fun x hx=>?_,h5⟩;obtain⟨q,hq,e1,e2,_⟩:=Ga0 r hx;rw[<- e1,<- e2];exact(ks q hq).is I
def rDSet(K:BM):Gmn:=fun o i v H Q=>∃a b Y kvs,o=.ref a/\i=.ref b/\H a=some (.dT kvs)/\(∀q∈kvs,Gir K H q.1 q.2.1)/\Gir K H Y b/\kvs.length<sizeLine/\Q (upd H a (.dT (Gko kvs Y b v)))
def Gpl(hu:X.A.units+20<cLine):Grp X (rDSet X.K):=by
 intro pins s O H o i v ov iv u Q I ro ri rv h;obtain⟨a,b,Y,kvs,rfl,rfl,ea,ks,kb,hl,q⟩:=h;cases (show ov=Value.ref a from ro);cases (show iv=Value.ref b from ri);obtain⟨hz,hd,xs,rel,dd⟩:=Gpk I ea ks;have hz':xs.length<=sizeLine:=by rw[<- Paired.length rel];exact hz
 have hl':=Giq kvs Y b v;refine wpAny_setItem_heap (hsz:=hz') (by show X.A.in1.units+10<cLine;first|omega|(simp[Around.in1];omega)) (kb.is I) dd fun h' dd' hs=>⟨_,?_,q⟩
 obtain⟨o,es,ep,hq,h2,h3,h4,_,h5⟩:=dd';exact I.write (x:=a) (e:=a) (by rw[ea];exact True.intro) (.inl rfl) (fun c q hc z=>(hs.2 c hc).trans z) ⟨o,hq⟩ ⟨by omega,hd,_,rel.put Y rv,o,es,ep,hq,h2,h3,h4,h5⟩
end
noncomputable def dlook(Y:NK):List D->BQ D
 |[]=>none
 |.tup [k,e]::r=>if nkO k=some Y then some e else dlook Y r
 |_::r=>dlook Y r
def drepl(Y:NK)(z:D):D->D
 |.tup [k,e]=>if nkO k=some Y then .tup [k,z]else .tup [k,e]
 |d=>d
def dput(Y:NK)(k z:D)(l:List D):List D:=if(dlook Y l).isSome=true then l.map (drepl Y z)else l++[.tup [k,z]]
def Gis(x:D):BQ NK:=match x with
 |.tup l=>match nkO (.tup l)with
  |some Y=>if(pk Y).depth<=8 then some Y else none
  |none=>none
 |_=>none
def Gb8(neg:Bool)(x y:D)(S:Sto):Out D:=match y with
 |.dct i=>match S[i]?,Gis x with
  |some c,some Y=>if c.fz=false then .ok (.bl (if neg=true then !(dlook Y c.xs).isSome else(dlook Y c.xs).isSome)) S else .bad
  |_,_=>.bad
 |_=>.bad
def dsetD(x y z:D)(S:Sto):BQ Sto:=match x with
 |.dct i=>match S[i]?,Gis y with
  |some c,some Y=>if c.fz=false/\c.xs.length<1000000 then some (S.set i ⟨false,dput Y y z c.xs⟩)else none
  |_,_=>none
 |_=>none
section
variable{K:BM}{mp:List BP}{H:Hp}
def Gll{x:D}{v:V}(h:Rep K mp H x v)(e:Gis x=some Y):nkO x=some Y/\∃b,v=.ref b/\Gir K H Y b:=by
 unfold Gis at e;split at e
 ·rename_i l;split at e
  ·rename_i Y' z;split at e
   ·rename_i hd;cases (Ab e);obtain⟨b,xs,rfl,_⟩:=Rep.tup h;exact⟨z,b,rfl,hd,mp,_,z,h⟩
   ·cases e
  ·cases e
 ·cases e
def Glm(r:Paired (Gc5 K mp H) l kvs):∀q∈kvs,Gir K H q.1 q.2.1:=by
 intro q hq;obtain⟨d,_,k,e,_,⟨h1,h2⟩,h3,_⟩:=Ga0 r hq;exact⟨h2,mp,k,h1,h3⟩
def Gln(r:Paired (Gc5 K mp H) l kvs)(Y:NK):(dlook Y l).isSome=(Gdv kvs Y).isSome/\∀e,dlook Y l=some e->∃v,Gdv kvs Y=some v/\Rep K mp H e v:=by
 induction r with
 |nil=>exact⟨rfl,fun e z=>nomatch z⟩
 |@cons d q ds qs h t ih=>
  obtain⟨k,e,rfl,⟨h1,_⟩,_,h3⟩:=h;by_cases c:q.1=Y
  ·have hc:nkO k=some Y:=by rw[h1,c]
   rw[Gio c];simp only[dlook,hc,if_true];exact⟨rfl,fun e' z=>⟨_,rfl,by cases z;exact h3⟩⟩
  ·have hc:¬nkO k=some Y:=by rw[h1];exact fun z=>c (Ab z)
   rw[Gip c];simp only[dlook,hc,if_false];exact ih
def Gts{l:List D}{kvs:KVs}{w:V}(r:Paired (Gc5 K mp H) l kvs)(Y:NK)(hz:Rep K mp H z w):Paired (Gc5 K mp H) (l.map (drepl Y z)) (kvs.map fun q=>if q.1=Y then(q.1,q.2.1,w)else q):=by
 induction r with
 |nil=>exact .nil
 |@cons d q ds qs h t ih=>
  rw[AB,AB];refine .cons ?_ ih;obtain⟨k,e,rfl,⟨h1,hd⟩,h2,h3⟩:=h;by_cases c:q.1=Y
  ·have hc:nkO k=some Y:=by rw[h1,c]
   rw[if_pos c];simp only[drepl,hc,if_true];exact⟨k,z,rfl,⟨h1,hd⟩,h2,hz⟩
  ·have hc:¬nkO k=some Y:=by rw[h1];exact fun z=>c (Ab z)
   rw[if_neg c];simp only[drepl,hc,if_false];exact⟨k,e,rfl,⟨h1,hd⟩,h2,h3⟩
def Gzu{k:D}{b:BP}{w:V}(r:Paired (Gc5 K mp H) l kvs)(hk:nkO k=some Y)(kb:Gir K H Y b)(hb:Rep K mp H k (.ref b))(hz:Rep K mp H z w):Paired (Gc5 K mp H) (dput Y k z l) (Gko kvs Y b w):=by
 unfold dput Gko;rw[(Gln r Y).1];by_cases c:(Gdv kvs Y).isSome=true
 ·rw[if_pos c,if_pos c];exact Gts r Y hz
 ·rw[if_neg c,if_neg c];exact Zh r ⟨k,z,rfl,⟨hk,kb.1⟩,hb,hz⟩
def RS.pairs{S:Sto}{c:Cell}{v:V}(r:RS K mp H S)(h:Rep K mp H (.dct i) v)(e:S[i]?=some c)(f:c.fz=false):∃a kvs,v=.ref a/\mp[i]?=some a/\H a=some (.dT kvs)/\Paired (Gc5 K mp H) c.xs kvs:=by
 obtain⟨a,ev,ea,kvs,hk⟩:=(show∃a,v=.ref a/\mp[i]?=some a/\Dcy H a from h)
 rcases r.cell i a c ea e with⟨xs,q,z⟩|⟨_,kvs',e',rr⟩
 ·rw[f,if_neg Ap,hk]at z;cases z
 ·exact⟨a,kvs',ev,ea,e',rr⟩
def RS.setDc{S:Sto}{a:BP}{c:Cell}(r:RS K mp H S)(hi:mp[i]?=some a)(hc:S[i]?=some c)(hf:c.fz=false)(ha:H a=some (.dT kvs))(q:Paired (Gc5 K mp H) ds kvs'):
  Aft K mp H mp (upd H a (.dT kvs'))/\RS K mp (upd H a (.dT kvs')) (S.set i ⟨false,ds⟩):=by
 have af:Aft K mp H mp (upd H a (.dT kvs')):=by
  refine⟨fun _ _ e=>e,fun b ys s=>?_,fun b φ s=>by rw[Gv (Yv s ha (by intro z;cases z))];exact s,fun j b e n ⟨kvs,z⟩=>?_,fun b ⟨l,z⟩=>?_⟩
  ·rcases s with(s|⟨ob,s⟩)|s
   ·exact .inl (.inl (by rw[Gv (Yv s ha (by intro z;cases z))];exact s))
   ·exact .inl (.inr ⟨ob,by rw[Gv (Yv s ha (by intro z;cases z))];exact s⟩)
   ·exact .inr s
  ·by_cases hb:b=a
   ·subst hb;exact n ⟨_,ha⟩
   ·rw[Gv hb]at z;exact n ⟨_,z⟩
  ·by_cases hb:b=a
   ·subst hb;exact⟨_,Ho⟩
   ·exact⟨l,by rw[Gv hb];exact z⟩
 refine⟨af,⟨by simp[r.len],fun j b cj e1 e2=>?_,fun j k b cj ck e1 e2 e3 e4 f1 f2=>?_⟩⟩
 ·by_cases hj:j=i
  ·subst hj;rw[hi]at e1;cases e1;rw[As (Aa.mp hc).1]at e2;cases e2;exact .inr ⟨rfl,kvs',Ho,Paired.mapP q fun _ _ z=>z.aft af⟩
  ·rw[Ah (Ne.symm hj)]at e2;rcases r.cell j b cj e1 e2 with⟨ys,h1,h2⟩|⟨f,l,e,rr⟩
   ·refine .inl ⟨ys,RepL.aft af _ _ h1,?_⟩;cases z:cj.fz with
    |true=>
     rw[z]at h2;have h2:SqF K H b ys:=(if_pos rfl).mp h2;refine(if_pos rfl).mpr ?_;rcases h2 with⟨ob,s⟩|s
     ·exact .inl ⟨ob,by rw[Gv (Yv s ha (by intro z;cases z))];exact s⟩
     ·exact .inr s
    |false=>
     rw[z,if_neg Ap]at h2;rw[if_neg Ap,Gv (Yv h2 ha (by intro z;cases z))];exact h2
   ·have hb:b≠a:=fun hb=>by
     subst hb;exact hj (r.inj j i b cj c e1 hi e2 hc f hf)
    exact .inr ⟨f,l,by rw[Gv hb];exact e,Paired.mapP rr fun _ _ z=>z.aft af⟩
 ·have fz:∀(j:Nat)(cj:Cell),(S.set i ⟨false,ds⟩)[j]?=some cj->cj.fz=false->∃c',S[j]?=some c'/\c'.fz=false:=fun j cj e f=>by
   by_cases hj:j=i
   ·subst hj;exact⟨c,hc,hf⟩
   ·rw[Ah (Ne.symm hj)]at e;exact⟨cj,e,f⟩
  obtain⟨c1,g1,g2⟩:=fz j cj e3 f1;obtain⟨c2,g3,g4⟩:=fz k ck e4 f2;exact r.inj j k b c1 c2 e1 e2 g1 g3 g2 g4
def RS.newDc{S:Sto}{p:BP}(r:RS K mp H S)(h:H p=none)(hp:∀i:Nat,mp[i]?≠some p):
  Aft K mp H (mp++[p]) (upd H p (.dT []))/\RS K (mp++[p]) (upd H p (.dT [])) (S++[⟨false,[]⟩])/\(mp++[p])[S.length]?=some p:=by
 have ne:∀(i:Nat)(a:BP),mp[i]?=some a->a≠p:=fun i a e z=>hp i (z▸e);have af:Aft K mp H (mp++[p]) (upd H p (.dT [])):=by
  refine⟨fun i a e=>by rw[AD (Aa.mp e).1];exact e,fun b ys s=>?_,fun b φ s=>by rw[Gv (Hf s h)];exact s,fun j b e n ⟨kvs,z⟩=>?_,fun b ⟨l,z⟩=>⟨l,by rw[Gv (Hf z h)];exact z⟩⟩
  ·rcases s with(s|⟨ob,s⟩)|s
   ·exact .inl (.inl (by rw[Gv (Hf s h)];exact s))
   ·exact .inl (.inr ⟨ob,by rw[Gv (Hf s h)];exact s⟩)
   ·exact .inr s
  ·rw[Gv (ne j b e)]at z;exact n ⟨_,z⟩
 have hl:=r.len;have lastp:(mp++[p])[S.length]?=some p:=by rw[<- hl];simp
 have old:∀(i:Nat)(a:BP),i<S.length->(mp++[p])[i]?=some a->mp[i]?=some a:=fun i a hi e1=>by
  rw[AD (by omega)]at e1;exact e1
 refine⟨af,⟨by simp[hl],fun i a c e1 e2=>?_,fun i j a ci cj e1 e2 e3 e4 f1 f2=>?_⟩,lastp⟩
 ·by_cases hi:i<S.length
  ·rw[AD hi]at e2;exact(r.cell i a c (old i a hi e1) e2).new h af
  ·have hi':i=S.length:=by
    have:=(Aa.mp e2).1;simp at this;omega
   subst hi';rw[lastp]at e1;cases e1;simp at e2;subst e2;exact .inr ⟨rfl,[],Ho,.nil⟩
 ·have hi:=(Aa.mp e3).1;have hj:=(Aa.mp e4).1;simp at hi hj;by_cases hi':i<S.length
  ·have o1:=old i a hi' e1;by_cases hj':j<S.length
   ·rw[AD hi']at e3;rw[AD hj']at e4;exact r.inj i j a ci cj o1 (old j a hj' e2) e3 e4 f1 f2
   ·have:j=S.length:=by omega
    subst this;rw[lastp]at e2;cases e2;exact absurd rfl (ne i _ o1)
  ·have:i=S.length:=by omega
   subst this;rw[lastp]at e1;cases e1;by_cases hj':j<S.length
   ·exact absurd rfl (ne j _ (old j _ hj' e2))
   ·omega
def RS.off{s:BO}(r:RS X.K mp H S)(I:Inv X pins O H s)(i:Nat):mp[i]?≠some s.heap.objs.size:=fun e=>by
 have hl:i<S.length:=by rw[<- r.len];exact(Aa.mp e).1
 have hn:H s.heap.objs.size=none:=I.hok.fresh (Ac _);rcases r.cell i _ _ e (Af hl)with⟨xs,q,z⟩|⟨_,kvs',e',rr⟩
 ·cases f:(S[i]).fz with
  |true=>
   rw[f]at z;have z:SqF X.K H _ xs:=(if_pos rfl).mp z;rcases z with⟨ob,z⟩|⟨o,its,n,lk,_⟩
   ·rw[hn]at z;cases z
   ·exact absurd (Ae (I.kIn _ o lk)) (Ax _)
  |false=>rw[f,if_neg Ap,hn]at z;cases z
 ·rw[hn]at e';cases e'
end
section
variable{X:Cx}{XQ:XW}
set_option tactic.hygienic true
def Glo(neg:Bool)(hu:X.A.units+20<cLine):OpX X (compareOp (if neg=true then .NotIn else .In)) (Gb8 neg):=by
 intro pins s O U XQ mp H S x y v u vv uv Q I rs rx ry rv ru p _;unfold Gb8 at p;split at p
 ·rename_i i;split at p
  ·rename_i c Y zc zk;by_cases hf:c.fz=false
   ·rw[if_pos hf]at p;obtain⟨hk,b,rfl,kb⟩:=Gll rx zk;obtain⟨a,kvs,rfl,ha,hH,rr⟩:=rs.pairs ry zc hf;cases (show vv=Value.ref b from rv);cases (show uv=Value.ref a from ru);obtain⟨hz,hd,xs,rel,dd⟩:=Gpk I hH (Glm rr);have e:(atKey xs Y).isSome=(dlook Y c.xs).isSome:=by
     rw[(Gln rr Y).1,Gft (rel.val Y),Option.isSome_map]
    cases neg with
    |true=>
     refine wpAny_notIn_heap (knd:=nestKind X.prog X.w) (by show X.A.in1.units+10<cLine;first|omega|(simp[Around.in1];omega)) (kb.is I) hd dd ?_;rw[e];exact⟨.bl _,H,I.tok _,rfl,Gn.ok (R:=Rep X.K) p rs rfl⟩
    |false=>
     refine wpAny_in_heap (knd:=nestKind X.prog X.w) (by show X.A.in1.units+10<cLine;first|omega|(simp[Around.in1];omega)) (kb.is I) hd dd ?_;rw[e];exact⟨.bl _,H,I.tok _,rfl,Gn.ok (R:=Rep X.K) p rs rfl⟩
   ·rw[if_neg hf]at p;exact p.elim
  ·exact p.elim
 ·exact p.elim
set_option tactic.hygienic false
def Glp(neg:Bool)(x y:D)(S:Sto)(e:XD)(S':Sto):Gb8 neg x y S≠.exc e S':=by
 unfold Gb8;split
 ·split
  ·split<;>(intro z;cases z)
  ·intro z;cases z
 ·intro z;cases z
def Ggx:Gx0 (rDSet K) K dsetD:=by
 intro mp H S S' x y z v u w Q rs rx ry rz e k;unfold dsetD at e;split at e
 ·rename_i i;split at e
  ·rename_i c Y zc zk;split at e
   ·rename_i hf;cases (Ab e);obtain⟨hk,b,rfl,kb⟩:=Gll ry zk;obtain⟨a,kvs,rfl,ha,hH,rr⟩:=rs.pairs rx zc hf.1;obtain⟨af,rs'⟩:=rs.setDc ha zc hf.1 hH (Gzu rr hk kb ry rz);have hl:kvs.length<sizeLine:=by rw[<- Paired.length rr];exact Ag hf.2 (by decide)
    exact⟨a,b,Y,kvs,rfl,rfl,hH,Glm rr,kb,hl,k _ af rs'⟩
   ·cases e
  ·cases e
 ·cases e
variable{k:Nat}{a b:Expr}{fa fb:Ev D}{pos:Pos}
def Gpm(hr:Room k X.A)(ha:GE X XQ a fa)(hb:GE X XQ b fb)(hm:⇑(behindInMarks .NotIn b=false)):GT X XQ (.Compare a [.NotIn] [b] pos) (tb (o2 (Gb8 true) fa fb)):=⟨Gdr (Glo true (by have:=hr.un;omega)) (Glp true) ha.h hb.h hm⟩
end
structure FHd(K:BM)(x:Str)(st:Stmt)(d:Int):Prop where
 ex:∃(f T:BP)(oc:BN)(od an:BQ BP)(osl sl:Array (BQ BN))(kV doc pm cdv ct:BN)(t:Tok)(n:Nat),PySem.W.nsIn K mainGlobals x=some (some (.ref f))/\K.lookup f=some ⟨oc,od,.func (PySem.W.fnOf x x (Jr st) (Hl st) (Gc st) (.ref T) kV doc pm an cdv ct),osl⟩/\PySem.W.codeIn K cdv x=true/\PySem.W.keepIn K (.ref f)=true∧
  K.lookup T=some {cls:=.type "tuple",dict:=none,data:=.seq #[.int d t] n,slots:=sl}
section
variable{P:BR}{w:World}{K:BM}{mg:Str->BQ BN}{base:Heap}
structure CalD(P:BR)(w:World)(K:BM)(mg:Str->BQ BN)(base:Heap)(x:Str)(ps:List Str)(fn:Fn)(d:Int)(j:Nat):Prop where
 ex:∃f fd t,FnOk P w K mg base (CXe P w) j f fd ps (spX K ps.length fn)/\mg x=some (.ref f)/\PySem.W.keepIn K (.ref f)=true/\Binds K fd ps []/\Binds K fd ps [.int d t]
end
def Gtt{X:Cx}{f:Ev D}{pos:Pos}(hr:Room k X.A)(he:GE X XQ e f)(hob:GE X XQ ob fo)(hix:GE X XQ ix fi)(hs:⇑(swapsWithSole [.Subscript ob ix p2] e pos.line X.env=pure false))(hw:⇑(swappedStores [.Subscript ob ix p2] e X.env=pure none))(h1:⇑((assignEach [.Subscript ob ix p2] X.env).map (·.2)=[assign (.Subscript ob ix p2) X.env]))(ha:autoParam (∀ v,assign (.Subscript ob ix p2) X.env v=(do
   let ov <- holding [v] (eval ob X.env);let iv <- holding [v,ov] (eval ix X.env)
   standAt p2
   holding [v,ov,iv] (setItem ov iv v)
   release [v,ov,iv] [])) zQ3):GS X XQ (.Assign [.Subscript ob ix p2] e pos) (ss f fo fi dsetD):=⟨Goc (Gpl (by have:=hr.un; omega)) Ggx he.h hob.h hix.h hs hw h1 ha⟩
def Gfu(fa fb:Ev D):Ev D:=fun U S=>(fa U (S++[⟨false,[]⟩])).bind fun k S1=>(fb U S1).bind fun v S2=>match dsetD (.dct S.length) k v S2 with
 |some S3=>.ok (.dct S.length) S3
 |none=>.bad
section
variable{X:Cx}{XQ:XW}{k:Nat}{a b:Expr}{fa fb:Ev D}{pos:Pos}
def Gfv{v:V}{Q:Hp->Prop}(hu:X.A.units+20<cLine)(I:Inv X pins O H s)(ro:Hg o ov)(ri:Hg i iv)(rv:Hg v u)(h:rDSet X.K o i v H Q):
  ∃d,ov=.ref d/\wpAny (model X.prog X.w) X.A (dictSet d iv u) (fun _ s'=>∃H',Inv X pins O H' s'/\Q H') E s:=by
 obtain⟨a,b,Y,kvs,rfl,rfl,ea,ks,kb,hl,q⟩:=h;cases (show ov=Value.ref a from ro);cases (show iv=Value.ref b from ri);refine⟨a,rfl,?_⟩;obtain⟨hz,hd,xs,rel,dd⟩:=Gpk I ea ks;have hz':xs.length<=sizeLine:=by rw[<- Paired.length rel];exact hz
 have hl':=Giq kvs Y b v;refine wpAny_dictSet_heap (knd:=nestKind X.prog X.w) (hsz:=hz') (by show X.A.units+10<cLine;omega) (kb.is I) dd fun h' dd' hs=>⟨_,?_,q⟩
 obtain⟨o,es,ep,hq,h2,h3,h4,_,h5⟩:=dd';exact I.write (x:=a) (e:=a) (by rw[ea];exact True.intro) (.inl rfl) (fun c q hc z=>(hs.2 c hc).trans z) ⟨o,hq⟩ ⟨by omega,hd,_,rel.put Y rv,o,es,ep,hq,h2,h3,h4,h5⟩
def Hct(hu:X.A.units+20<cLine)(ha:JE X XQ a fa)(hb:JE X XQ b fb):JE X XQ (.Dict [some a] [b] pos) (Gfu fa fb):=by
 intro pins s O H Q I zq0;obtain⟨mp,U,S,G,p⟩:=zq0;have hbig:sysModules<s.heap.objs.size:=by
  have h:mainGlobals<s.heap.objs.size:=(I.mod.glob.keeps I.bk).lt;exact Bb (by decide) h
 have hn:H s.heap.objs.size=none:=I.hok.fresh (Ac _);obtain⟨af,rs,la⟩:=G.rs.newDc hn (G.rs.off I);have G0:=G.aft af rs;have I0:=I.laid (a:=s.heap.objs.size) (o:=.dT []) (h':=s.heap.push {cls:=.type "dict",data:=.dict #[]}) (t':=s.toks) (fun _ _ q=>Aj _ q) (Ac _)
  ⟨At _,beq_eq_false_iff_ne.mpr (Ne.symm (An hbig)),[],.nil,_,#[],0,Az _ rfl,⟨rfl,rfl,rfl⟩,rfl,rfl,List.nodup_nil⟩
 have rd:Rep X.K (mp++[s.heap.objs.size]) (upd H s.heap.objs.size (.dT [])) (.dct S.length) (.ref s.heap.objs.size):=⟨_,rfl,la,_,Ho⟩
 have p0:=Gn.aft p af;refine wpAny_Dict_any rfl rfl (by simp) (by simp) (pairTrees_cons_walk ?_);refine thn (ha pins _ O _ _ I0 (bindP G0 p0 fun mp1 H1 x S1 v a1 G1 r1 p1=>(⟨mp1,U,S1,x,G1,r1,Rep.aft a1 _ _ rd,p1⟩:∃mp1 U S1 x,Gd X.K mp1 H1 O U S1/\Rep X.K mp1 H1 x v/\Rep X.K mp1 H1 (.dct S.length) (.ref s.heap.objs.size)/\Post X.K XQ O U mp1 H1 ((fb U S1).bind fun v S2=>match dsetD (.dct S.length) x v S2 with|some S3=>.ok (.dct S.length) S3|none=>.bad) Q))) fun kv s1 zq0=>?_;obtain⟨v,H1,I1,rv,mp1,U1,S1,x,G1,r1,rd1,p1⟩:=zq0;refine thn (hb pins s1 O H1 _ I1 (bindP G1 p1 fun mp2 H2 y S2 u a2 G2 r2 p2=>(⟨mp2,U1,S2,x,y,v,G2,Rep.aft a2 _ _ r1,r2,Rep.aft a2 _ _ rd1,rfl,p2⟩:∃mp2 U S2 x y v',Gd X.K mp2 H2 O U S2/\Rep X.K mp2 H2 x v'/\Rep X.K mp2 H2 y u/\Rep X.K mp2 H2 (.dct S.length) (.ref s.heap.objs.size)/\v'=v/\Post X.K XQ O U mp2 H2 (match dsetD (.dct S.length) x y S2 with|some S3=>.ok (.dct S.length) S3|none=>.bad) Q))) fun vv s2 zq0=>?_;obtain⟨u,H2,I2,ru,mp2,U2,S2,x2,y,v',G2,rx,ry,rd2,ev,p2⟩:=zq0;subst ev;refine pairTrees_nil_walk ?_;cases z:dsetD (.dct S.length) x2 y S2 with
 |none=>rw[z]at p2;exact p2.elim
 |some S3=>
  rw[z]at p2;have hs:=Ggx (K:=X.K) mp2 H2 S2 S3 (.dct S.length) x2 y (.ref s.heap.objs.size) _ _ (fun H'=>Q (.ref s.heap.objs.size) H') G2.rs rd2 rx ry z fun H' af' rs'=>p2 mp2 H' _ af' rs' (Rep.aft af' _ _ rd2);obtain⟨d,ed,w'⟩:=Gfv (E:=X.xe) hu I2 (show Hg (.ref s.heap.objs.size) (Value.ref s.heap.objs.size)from rfl) rv ru hs;cases ed;show wpAny _ _ (storeAll s.heap.objs.size [(kv,vv)]) _ _ _;unfold storeAll;rw[List.forIn_cons];refine wpAny_bind (wpAny_bind (wpAny_mono w' (fun _ s3 zq0=>?_) fun _ _ e=>e));obtain⟨H3,I3,q3⟩:=zq0;refine wpAny_pure ?_;show wpAny _ _ (forIn [] PUnit.unit _) _ _ s3;rw[List.forIn_nil];exact wpAny_pure ⟨.ref s.heap.objs.size,H3,I3,rfl,q3⟩
def Hcu(hr:Room k X.A)(ha:GE X XQ a fa)(hb:GE X XQ b fb):GE X XQ (.Dict [some a] [b] pos) (Gfu fa fb):=⟨Hct (by have:=hr.un;omega) ha.h hb.h⟩
def Gpn(hr:Room k X.A)(ha:GE X XQ a fa)(hb:GE X XQ b fb)(hm:⇑(behindInMarks .In b=false)):GE X XQ (.Compare a [.In] [b] pos) (o2 (Gb8 false) fa fb):=⟨Ggk (Glo false (by have:=hr.un;omega)) (Glp false) ha.h hb.h hm⟩
end
def ss2(f o1 i1 o2 i2:Ev D):Sv:=fun U S=>bindS (f U S) U fun d S1=>match d with
 |.tup [x,y]=>bindS (o1 U S1) U fun a S2=>bindS (i1 U S2) U fun b S3=>match Jg a b x S3 with
  |some S4=>bindS (o2 U S4) U fun a' S5=>bindS (i2 U S5) U fun b' S6=>match Jg a' b' y S6 with
   |some S7=>.nx U S7
   |none=>.bad
  |none=>.bad
 |_=>.bad
section
variable{X:Cx}{XQ:XW}
def Gtu{b1:Expr}{f o1 o2 i2:Ev D}{pos:Pos}(hc:X.calm=true)(he:JE X XQ e f)(ho1:JE X XQ a1 o1)(hi1:JE X XQ b1 i1)(ho2:JE X XQ a2 o2)(hi2:JE X XQ b2 i2)(hs:⇑(swapsWithSole [.Tuple [.Subscript a1 b1 p1,.Subscript a2 b2 p2] k pt] e pos.line X.env=pure false))(hw:⇑(swappedStores [.Tuple [.Subscript a1 b1 p1,.Subscript a2 b2 p2] k pt] e X.env=pure none))(h1:⇑((assignEach [.Tuple [.Subscript a1 b1 p1,.Subscript a2 b2 p2] k pt] X.env).map (·.2)=[assign (.Tuple [.Subscript a1 b1 p1,.Subscript a2 b2 p2] k pt) X.env]))(hn:⇑((assignEach [.Subscript a1 b1 p1,.Subscript a2 b2 p2] X.env).length=2))(hst:⇑((assignEach [.Subscript a1 b1 p1,.Subscript a2 b2 p2] X.env).findIdx? (·.1)=none))(g1:⇑((assignEach [.Subscript a1 b1 p1,.Subscript a2 b2 p2] X.env).map (·.2)=assign (.Subscript a1 b1 p1) X.env::(assignEach [.Subscript a2 b2 p2] X.env).map (·.2)))(g2:⇑((assignEach [.Subscript a2 b2 p2] X.env).map (·.2)=assign (.Subscript a2 b2 p2) X.env::(assignEach [] X.env).map (·.2)))(h2:autoParam (∀ v,assign (.Subscript a1 b1 p1) X.env v=(do
   let ov <- holding [v] (eval a1 X.env);let iv <- holding [v,ov] (eval b1 X.env)
   standAt p1
   holding [v,ov,iv] (setItem ov iv v)
   release [v,ov,iv] [])) zQ4)(h3:autoParam (∀v,assign (.Subscript a2 b2 p2) X.env v=(do
   let ov <- holding [v] (eval a2 X.env);let iv <- holding [v,ov] (eval b2 X.env)
   standAt p2
   holding [v,ov,iv] (setItem ov iv v)
   release [v,ov,iv] [])) zQ3):JS X XQ (.Assign [.Tuple [.Subscript a1 b1 p1,.Subscript a2 b2 p2] k pt] e pos) (ss2 f o1 i1 o2 i2):=by
 refine PS.mono (Gj0 he (Gns hc (Gdm (Gjz ho1 hi1 Gdp h2) (Gdm (Gjz ho2 hi2 Gdp h3) Gla g2) g1) hn hst) hs hw h1) fun E O H zq0=>?_;obtain⟨mp,U,S,G,p⟩:=zq0;refine bindSP G p fun mp1 H1 d S1 v a1 G1 r1 p1=>?_;have q1:∃ x y,d=.tup [x,y]/\PostS X.K XQ mp1 H1 (bindS (o1 U S1) U fun a S2=>bindS (i1 U S2) U fun b S3=>match Jg a b x S3 with
  |some S4=>bindS (o2 U S4) U fun a' S5=>bindS (i2 U S5) U fun b' S6=>match Jg a' b' y S6 with
   |some S7=>.nx U S7
   |none=>.bad
  | none=>.bad) E:=by
  split at p1
  ·exact⟨_,_,rfl,p1⟩
  ·exact p1.elim
 obtain⟨x,y,rfl,p1⟩:=q1;obtain⟨ad,xs,ev,sq,rl⟩:=Rep.tup r1;obtain⟨vx,t1,e1,rx,rl⟩:=(show∃v r,xs=v::r/\Rep X.K mp1 H1 x v/\RepL X.K mp1 H1 [y] r from rl)
 obtain⟨vy,t2,e2,ry,rl⟩:=(show∃v r,t1=v::r/\Rep X.K mp1 H1 y v/\RepL X.K mp1 H1 [] r from rl)
 cases (show t2=[]from rl);subst e2 e1;refine⟨ad,[vx,vy],ev,sq,rfl,vx,[vy],rfl,?_⟩;refine bindSP G1 p1 fun mp2 H2 a S2 va a2 G2 r2 p2=>?_;refine bindSP G2 p2 fun mp3 H3 b S3 vb a3 G3 r3 p3=>?_;cases z:Jg a b x S3 with
 |none=>rw[z]at p3;exact p3.elim
 |some S4=>
  rw[z]at p3;refine Gkf mp3 H3 S3 S4 a b x va vb vx _ G3.rs (Rep.aft a3 _ _ r2) r3 (Rep.aft (a2.trans a3) _ _ rx) z fun H4 a4 rs4=>?_;have G4:=G3.aft a4 rs4;have p4:=PostS.aft p3 a4;refine⟨vy,[],rfl,?_⟩;refine bindSP G4 p4 fun mp5 H5 a' S5 va' a5 G5 r5 p5=>?_;refine bindSP G5 p5 fun mp6 H6 b' S6 vb' a6 G6 r6 p6=>?_;cases z2:Jg a' b' y S6 with
  |none=>rw[z2]at p6;exact p6.elim
  |some S7=>
   rw[z2]at p6;refine Gkf mp6 H6 S6 S7 a' b' y va' vb' vy _ G6.rs (Rep.aft a6 _ _ r5) r6 (Rep.aft ((((a2.trans a3).trans a4).trans a5).trans a6) _ _ ry) z2 fun H7 a7 rs7=>?_;exact⟨rfl,p6 mp6 H7 O a7 (G6.aft a7 rs7)⟩
def Gtv{b1:Expr}{f o1 o2 i2:Ev D}{pos:Pos}(he:GE X XQ e f)(ho1:GE X XQ a1 o1)(hi1:GE X XQ b1 i1)(ho2:GE X XQ a2 o2)(hi2:GE X XQ b2 i2)(hc:⇑(X.calm=true))(hs:⇑(swapsWithSole [.Tuple [.Subscript a1 b1 p1,.Subscript a2 b2 p2] k pt] e pos.line X.env=pure false))(hw:⇑(swappedStores [.Tuple [.Subscript a1 b1 p1,.Subscript a2 b2 p2] k pt] e X.env=pure none))(h1:⇑((assignEach [.Tuple [.Subscript a1 b1 p1,.Subscript a2 b2 p2] k pt] X.env).map (·.2)=[assign (.Tuple [.Subscript a1 b1 p1,.Subscript a2 b2 p2] k pt) X.env]))(hn:⇑((assignEach [.Subscript a1 b1 p1,.Subscript a2 b2 p2] X.env).length=2))(hst:⇑((assignEach [.Subscript a1 b1 p1,.Subscript a2 b2 p2] X.env).findIdx? (·.1)=none))(g1:⇑((assignEach [.Subscript a1 b1 p1,.Subscript a2 b2 p2] X.env).map (·.2)=assign (.Subscript a1 b1 p1) X.env::(assignEach [.Subscript a2 b2 p2] X.env).map (·.2)))(g2:⇑((assignEach [.Subscript a2 b2 p2] X.env).map (·.2)=assign (.Subscript a2 b2 p2) X.env::(assignEach [] X.env).map (·.2)))(h2:autoParam (∀ v,assign (.Subscript a1 b1 p1) X.env v=(do
   let ov <- holding [v] (eval a1 X.env);let iv <- holding [v,ov] (eval b1 X.env)
   standAt p1
   holding [v,ov,iv] (setItem ov iv v)
   release [v,ov,iv] [])) zQ4)(h3:autoParam (∀v,assign (.Subscript a2 b2 p2) X.env v=(do
   let ov <- holding [v] (eval a2 X.env);let iv <- holding [v,ov] (eval b2 X.env)
   standAt p2
   holding [v,ov,iv] (setItem ov iv v)
   release [v,ov,iv] [])) zQ3):GS X XQ (.Assign [.Tuple [.Subscript a1 b1 p1,.Subscript a2 b2 p2] k pt] e pos) (ss2 f o1 i1 o2 i2):=⟨Gtu hc he.h ho1.h hi1.h ho2.h hi2.h hs hw h1 hn hst g1 g2 h2 h3⟩
end
def Gkp(d:BP)(hd:(d==sysModules)=false):
  MeetsIn prog w (Builtin.«dict.__len__» ⟨[.ref d],[]⟩) (fun _ R s=>∃(o:Obj)(es:Array DictEntry)(ep:Nat),s.heap.get? d=some o/\o.data=.dict es ep/\R (.ok (.ret (.int es.size s.toks))) {s with toks:=s.toks+1}):=
 .of_wp fun A R s ⟨o,es,ep,ho,hdat,h⟩=>by
  show wpAny _ _ (dictSize d >>= _) _ _ s;unfold dictSize;refine wpAny_bind (wpAny_bind (wpAny_dictEntries ho hdat (wpAny_pure ?_)));show wpAny _ _ (Builtin.Dict.pendingCount d >>= _) _ _ s;refine wpAny_bind (wpAny_pendingCount_other hd ?_);refine wpAny_ret_mkInt ?_;rw[Nat.add_zero];exact h
def Gm6{s:BO}{o:Obj}{es:Array DictEntry}{Q:BN->BO->Prop}(hd:(d==sysModules)=false)(ho:s.heap.get? d=some o)(hT:o.cls=.type "dict")(hdat:o.data=.dict es ep)(hfit:(es.size:Int)<2^63)(h:Q (.int es.size (s.toks+1)) {s with toks:=s.toks+1+1}):wpAny (model prog w) A (call (.builtin "len") [.ref d]) Q E s:=by
 have ht:s.TypeIs (.ref d) "dict":=⟨o,ho,hT⟩
 refine Calls.call_function_entry kind_len plain_len entry_len (args_len1 _) ?_;unfold Builtin.«len»;refine wpAny_bind (m:=oneArg "len" _) (wpAny_pure ?_);refine wpAny_bind (m:=callSpecial? (.ref d) (Str.ofString "__len__")) (wpAny_callSpecial?_slot (name:=Str.ofString "__len__") ht F.slot_dict_len
  (call_meetsIn F.slot_dict_len ht F.entry_dict_len (F.args_dict_len_1 _) (Gkp d hd) ⟨o,es,ep,ho,hdat,?_⟩))
 show wpAny _ _ _ _ _ {s with toks:=s.toks+1};refine wpAny_bind (wpAny_holding (wpAny_pure ?_));refine wpAny_bind (wpAny_letGo ?_);show wpAny _ _ (if((es.size:Nat):Int)<0 then _ else _) _ _ _;rw[if_neg (by omega)];show wpAny _ _ (if((es.size:Nat):Int)≥2^63 then _ else _) _ _ _;rw[if_neg (by omega)];exact wpAny_bind (wpAny_mkInt (wpAny_pure ⟨_,rfl,h⟩))
def Gdw(xs:List D)(S:Sto):Out D:=match xs with
 |[.dct i]=>match S[i]? with
  |some c=>if c.fz=false then .ok (.int c.xs.length) S else .bad
  |none=>.bad
 |_=>.bad
section
variable{X:Cx}{XQ:XW}
def Gkq:Xg X (.builtin "len") (fun xs H Q=>∃a kvs,xs=[V.ref a]/\H a=some (.dT kvs)/\Q (.int kvs.length) H):=by
 intro pins s O H xs us Q I r h;obtain⟨a,kvs,rfl,ha,q⟩:=h;obtain⟨u,rfl,ru⟩:=Vals.one r;cases ru;obtain⟨z,hd,ys,rel,o,es,ep,h1,h2,h3,h4,_⟩:=(show Ks X.prog X.w H s.heap a (.dT kvs)from I.hok a _ ha)
 have hl:es.size=kvs.length:=by
  rw[<- Array.length_toList,h4,Ai,Paired.length rel]
 refine Gm6 hd h1 h2.1 h3 (by rw[hl];have:=Gau;omega) ?_;rw[hl];exact⟨.int kvs.length,H,I.tok _,⟨_,rfl⟩,q⟩
set_option tactic.hygienic true
def Gtw:BlD K (fun xs H Q=>∃a kvs,xs=[V.ref a]/\H a=some (.dT kvs)/\Q (.int kvs.length) H) Gdw:=by
 intro XQ O U mp H S xs vs Q rs r p;unfold Gdw at p;split at p
 ·rename_i i;split at p
  ·rename_i c zc;by_cases hf:c.fz=false
   ·rw[if_pos hf]at p;obtain⟨v,rfl,hv⟩:=RepL.one r;obtain⟨a,kvs,rfl,ha,hH,rr⟩:=rs.pairs hv zc hf;refine⟨a,kvs,rfl,hH,?_⟩;have:=Gn.ok (R:=Rep K) (v:=.int kvs.length) p rs (by rw[<- Paired.length rr];rfl);exact this
   ·rw[if_neg hf]at p;exact p.elim
  ·exact p.elim
 ·exact p.elim
set_option tactic.hygienic false
def Glq(hg:Gl X "len")(hm:X.mg "len"=none)(ha:GA X XQ [e] f)(he:⇑(starEach [e] X.env=(false,eval e X.env)::starEach [] X.env)):GE X XQ (.Call (.Name "len" p) [e] [] pos) (b1 Gdw f):=⟨Gdt Gkq Gtw hg hm (by rfl) ha.h (he:=he)⟩
end
structure NN(N:List Str):Prop
def nn(N:List Str):NN N:=⟨⟩
section
variable{X:Cx}{XQ:XW}{k:Nat}{x:Str}{p pos:Pos}{e:Expr}{es:List Expr}{N P:List Str}{s:Scope}{f:Ev D}
def gGS(S:FnS N P s)(h:↑(okG s x=true))(hs:⇑(X.env.scope=s)):Gl X x:=gG s h hs
def Hep{ps:List Str}(S:FnS N P s)(C:Cal X.prog X.w X.K X.mg X.base x ps fn j)(hr:Room k X.A)(ha:GA X XQ (e::es) t)(hg:↑(okG s x=true))(hn:⇑(ps.length=n))(hj:↥(j<=k))(hs:⇑(X.env.scope=s))(he:⇑(starEach (e::es) X.env=(false,eval e X.env)::starEach es X.env))(hpl:⇑((backTo pos (starEach es X.env)).any (·.1)=false)):
  GE X XQ (.Call (.Name x p) (e::es) [] pos) (cl n (Gh fn) t):=gow s C hr ha hg hn hj hs he hpl
def Hcv{ps ys:List Str}(S:FnS N P s)(xs:XNs X.K ys)(L:XL X XQ)(C:CalX X.prog X.w X.K X.mg X.base x ps fn j)(hr:Room k X.A)(ha:GA X XQ (e::es) t)(hg:↑(okG s x=true))(hn:⇑(ps.length=n))(hj:↥(j<=k))(hs:⇑(X.env.scope=s))(he:⇑(starEach (e::es) X.env=(false,eval e X.env)::starEach es X.env))(hpl:⇑((backTo pos (starEach es X.env)).any (·.1)=false)):
  GE X XQ (.Call (.Name x p) (e::es) [] pos) (cl n (gX ys fn) t):=Hcq s xs L C hr ha hg hn hj hs he hpl
def Gzv{pk:List (BQ Nat)}{f:Ev Src}{t:Ev Bool}{e:Ev D}(W:NN N')(S:FnS N P sc)(hi:GI X XQ tg iter f)(hg:∀cl s2 H2 C fp,GG (blk X s2 H2 C scope cl N' fp) tg g)(ht:∀cl s2 H2 C fp,GTs (blk X s2 H2 C scope cl N' fp) XN ifs t)(he:∀cl s2 H2 C fp,GE (blk X s2 H2 C scope cl N' fp) XN elt e)(ct:autoParam (CompTab sc scope N N' pk) zQ11)(hsc:⇑(X.env.scope=sc))(hNN:⇑(X.N=N))(hcm:⇑(X.calm=true))(hs:autoParam (∀x,foldedSetIterable iter X.env x=pure x) zQ4):GE X XQ (.ListComp elt [⟨tg,iter,ifs,0⟩] scope pos) (cmp f pk g t e):=Glk S hi hg ht he ct hsc hNN hcm hs
def Gzw(i:Nat){N:List Str}{spos:Pos}{pk:List (BQ Nat)}{f:Ev Src}{t:Ev Bool}{e:Ev D}(W:NN N')(S:FnS N P sc)(hi:GI X XQ tg iter f)(hg:∀cl s2 H2 C fp,GG (blk X s2 H2 C scope cl N' fp) tg g)(ht:∀cl s2 H2 C fp,GTs (blk X s2 H2 C scope cl N' fp) XN ifs t)(he:∀cl s2 H2 C fp,GE (blk X s2 H2 C scope cl N' fp) XN elt e)(ct:autoParam (CompTab sc scope N N' pk) zQ11)(hsc:⇑(X.env.scope=sc))(hNN:⇑(X.N=N))(hcm:⇑(X.calm=true))(hsw:⇑(swapsWith (.ListComp elt [⟨tg,iter,ifs,0⟩] scope pos) (some (.Name y py)) spos.line X.env=pure true))(hy:⇑(N[i]?=some y))(hs:autoParam (∀x,foldedSetIterable iter X.env x=pure x) zQ4)(hf:⇑(X.fn y=true)):GS X XQ (.Assign [.Name y py] (.ListComp elt [⟨tg,iter,ifs,0⟩] scope pos) spos) (sa (cmp f pk g t e) (gn i)):=Gfs i S hi hg ht he ct hsc hNN hcm hsw hy hs hf
def Heq(S:FnS N P s)(L:XL X XQ)(C:ClX X.prog X.w X.K X.mg X.base x j)(hr:Room k X.A)(ha:GA X XQ [a] t)(hg:↑(okG s x=true))(hcm:⇑(X.calm=true))(hj:↥(j+1<=k))(hs:⇑(X.env.scope=s))(he:⇑(starEach [a] X.env=(false,eval a X.env)::starEach [] X.env))(hpl:⇑((backTo cpos (starEach [] X.env)).any (·.1)=false)):
  GS X XQ (.Raise (some (.Call (.Name x np) [a] [] cpos)) none pos) (srs x t):=Gim s L C hr ha hg hcm hj hs he hpl
end
def Gey{R:Result->BO->Prop}{D:BP}(I:Nat->BO->Prop)(turn:∀ n s,I n s->wpAny (model prog w) A (pyNext it) (fun r s₁=>match r with
   |none=>R (.ok .next) s₁
   | some v=>wpAny (model prog w) A (letOwnedTupleGo target it v) (fun _ s₁=>wpAny (model prog w) A (assign target env v) (fun _ s₂=>
     wpAny (model prog w) A (forIn ifs true fun c r=>if r=true then do let ok <- isTrue c env (eval c env); pure (ForInStep.yield ok) else pure (ForInStep.yield r)) (fun ok s₃=>
      if ok=true then wpAny (model prog w) A (eval kx env) (fun kv s₄=>wpAny (model prog w) A (eval vx env) (fun vv s₅=>
       wpAny (model prog w) A (dictSet D kv vv) (fun _ s₆=>∃ m,m<n/\I m s₆) (fun _ _=>False) s₅) (fun _ _=>False) s₄) (fun _ _=>False) s₃
      else ∃ m,m<n/\I m s₃) (fun _ _=>False) s₂) (fun _ _=>False) s₁) (fun _ _=>False) s₁) (fun _ _=>False) s)(n:Nat)(h:I n s):
  codeAny (model prog w) A (.compLoop (.DictComp kx vx [⟨target,iter,ifs,0⟩] scope pos) 0 it (.ref D) env) R s:=by
 have noE:∀{Z:Type}{m:Sem Z}{Q:Z->BO->Prop}{E':BN->BO->Prop}{s:BO},wpAny (model prog w) A m Q (fun _ _=>False) s->wpAny (model prog w) A m Q E' s:=fun h=>wpAny_mono h (fun _ _ q=>q) fun _ _ z=>z.elim;refine codeAny_loop rfl I (fun n s hI=>?_) n h;show wpAny _ A ((compTurn (.DictComp kx vx [⟨target,iter,ifs,0⟩] scope pos) 0 it (.ref D) env).onRaise (fun x=>do noteFrame x env;theTreesLotGoes x)) _ _ s;refine wpAny_noted ?_;rw[compTurn_dict];refine wpAny_bind (wpAny_standAt (wpAny_bind (noE (wpAny_mono (turn n s hI) (fun r s₁ h₁=>?_) fun _ _ z=>z))));cases r with
 |none=>exact wpAny_pure h₁
 |some v=>
  refine wpAny_bind (noE (wpAny_mono h₁ (fun _ s₁ h₁=>?_) fun _ _ z=>z));refine wpAny_bind (noE (wpAny_mono h₁ (fun _ s₂ h₂=>wpAny_bind (noE (wpAny_mono h₂ (fun ok s₃ h₃=>?_) fun _ _ z=>z))) fun _ _ z=>z));cases ok with
  |false=>exact wpAny_pure ⟨rfl,h₃⟩
  |true=>
   exact wpAny_bind (wpAny_bind (noE (wpAny_mono h₃ (fun kv s₄ h₄=>wpAny_bind (wpAny_holding (noE (wpAny_mono h₄ (fun vv s₅ h₅=>wpAny_bind (wpAny_standAt (wpAny_holding (noE (wpAny_mono h₅ (fun _ s₆ h₆=>wpAny_pure ⟨rfl,h₆⟩) fun _ _ z=>z))))) fun _ _ z=>z)))) fun _ _ z=>z)))
section
variable{X:Cx}
def tDC(K:BM)(wi:TI)(pk:List (BQ Nat))(g:TG)(tt:TT)(tk tv:TE):TE:=fun O H Q=>wi O H fun J H1=>∀a,H1 a=none->(∀mp S,RS K mp H1 S->∀i:Nat,mp[i]?≠some a)->∃W:Nat->Nat->L2.St->Hp->Prop,(∃m,W 0 m (pkS pk O) (upd H1 a (.dT [])))/\∀i m O' H',W i m O' H'→
 (J.stop i H'/\Q (.ref a) H')\/(J.go i H'/\∀ x H2,J.yld i H' x H2->g x O' H2 fun O3 H3=>tt O3 H3 fun b H4=>if b=true then tk O3 H4 fun kv H5=>tv O3 H5 fun vv H6=>rDSet K (.ref a) kv vv H6 fun H7=>∃ m',m'<m/\W (i+1) m' O3 H7
  else ∃ m',m'<m/\W (i+1) m' O3 H4)
def Zi(a:Nat)(t:Ev Bool)(ek ev:Ev D):Sv:=fun U S=>bindS (t U S) U fun b S1=>if b=true then bindS (ek U S1) U fun k S2=>bindS (ev U S2) U fun v S3=>(match dsetD (.dct a) k v S3 with
  |some S4=>.nx U S4
  | none=>.bad) else .nx U S1
def dcm(f:Ev Src)(pk:List (BQ Nat))(g:Tg)(t:Ev Bool)(ek ev:Ev D):Ev D:=fun U S=>(f U S).bind fun src S1=>match Jd src.nxt g (Zi S1.length t ek ev) src.fuel 0 (pkS pk U) (S1++[⟨false,[]⟩])with
 |.nx _ S'=>.ok (.dct S1.length) S'
 |_=>.bad
def Zj(K:BM)(XQ:XW)(O:L2.St)(U:Lc)(a:Nat)(mp:List BP)(H:Hp)(o:OS)(Q:VK):Prop:=match o with
 |.nx _ S=>Post K XQ O U mp H (.ok (.dct a) S) Q
 |_=>False
def Zj.aft{a:Nat}{Q:VK}(p:Zj K XQ O U a mp H o Q)(af:Aft K mp H mp' H'):Zj K XQ O U a mp' H' o Q:=by
 cases o with
 |nx r S=>exact Gn.aft (show Post K XQ O U mp H (.ok (.dct a) S) Q from p) af
 |_=>exact p
def Git{cl:List (Str×BP)}{pk:List (BQ Nat)}{g:TG}{tt:TT}{tk tv:TE}(cs:CompSc X scope cl N' pk)(hcm:X.calm=true)(hg:∀ cl s2 H2 C fp,PG (blk X s2 H2 C scope cl N' fp) tg g)(ht:∀ cl s2 H2 C fp,PTs (blk X s2 H2 C scope cl N' fp) ifs tt)(hk:∀ cl s2 H2 C fp,PE (blk X s2 H2 C scope cl N' fp) kx tk)(hv:∀ cl s2 H2 C fp,PE (blk X s2 H2 C scope cl N' fp) vx tv)(hu:X.A.units+20<cLine){H2:Hp}{s2:BO}{tn:Nat->Heap->Prop}{J:It}(I2:Inv X pins O H2 s2)(T:Turn X.prog X.w X.K tg J fp it tn)(st2:tn 0 s2.heap)(f2:∀ b∈fp,Gc3 X pins H2 b){Q:VK}(hQ:∀ a,H2 a=none->(∀ mp S,RS X.K mp H2 S->∀ i:Nat,mp[i]?≠some a)->∃ W:Nat->Nat->L2.St->Hp->Prop,(∃ m,W 0 m (pkS pk O) (upd H2 a (.dT [])))/\∀ i m O' H',W i m O' H'→
   (J.stop i H'/\Q (.ref a) H')\/(J.go i H'/\∀ x H3,J.yld i H' x H3->g x O' H3 fun O3 H3=>tt O3 H3 fun b H4=>if b=true then tk O3 H4 fun kv H5=>tv O3 H5 fun vv H6=>rDSet X.K (.ref a) kv vv H6 fun H7=>∃ m',m'<m/\W (i+1) m' O3 H7
    else ∃ m',m'<m/\W (i+1) m' O3 H4)){RR:BN->BP->Result->BO->Prop}(hRR:∀ D C s' (H':Hp),Q (.ref D) H'->(∃ m,s'.heap.Ns C m)->Inv X pins O H' s'->H' C=none->s2.heap.objs.size<=C->RR (.ref D) C (.ok .next) s'):
  wpAny (model X.prog X.w) X.A newDict (fun acc s₃=>wpAny (model X.prog X.w) X.A (newFunctionEnv scope X.env.globals cl [] X.env.qual none .none (some X.env)) (fun cenv s₄=>
   codeAny (model X.prog X.w) X.A (.compStart (.DictComp kx vx [⟨tg,iter,ifs,0⟩] scope pos) 0 (.ref it) acc { cenv with scope:=relabel scope X.env }) (RR acc cenv.locals) s₄) E s₃) E s2:=by
 have hD:H2 s2.heap.objs.size=none:=I2.hok.fresh (Ac _);obtain⟨W,⟨m0,w0⟩,turn⟩:=hQ s2.heap.objs.size hD fun mp S r i=>r.off I2 i;refine wpAny_newObj_type (Yn (fun h₁ hh₁=>?_));dsimp only at hh₁⊢;generalize hHh:s2.heap.push {cls:=.type "dict",dict:=none,data:=.dict #[]}=Hh at hh₁⊢;have hC:Hh.objs.size=s2.heap.objs.size+1:=by rw[<- hHh,AR]
 have hDC:s2.heap.objs.size≠Hh.objs.size:=by rw[hC];exact An (AM _)
 have hCle:s2.heap.objs.size<=Hh.objs.size:=by rw[hC];exact A6 _
 have below:∀b,b<s2.heap.objs.size->b≠Hh.objs.size/\b≠s2.heap.objs.size:=fun b hb=>⟨by rw[hC];exact An (Bt hb),An hb⟩
 have hns₁:h₁.Ns Hh.objs.size (fun _=>none):=by rw[hh₁];exact(Heap.Ns.new Hh (.type "dict")).keeps (pushCells_keeps _ _)
 have old0:∀b o,Hh.get? b=some o->h₁.get? b=some o:=fun b o e=>by rw[hh₁];exact pushCells_keeps _ _ b o (Aj _ e)
 have old:∀b o,s2.heap.get? b=some o->h₁.get? b=some o:=fun b o e=>old0 b o (by rw[<- hHh];exact Aj _ e);have hacc:h₁.get? s2.heap.objs.size=some {cls:=.type "dict",dict:=none,data:=.dict #[]}:=old0 _ _ (by rw[<- hHh];exact Az _ rfl);have own:=cellsFrom_ok scope.names (Hh.push {cls:=.type "dict",data:=.dict #[]}) (Hh.objs.size+1) [] ⟨fun _ _ hm=>(nomatch hm),List.Pairwise.nil⟩ (by rw[AR];exact Ac _);rw[AR,<- hh₁]at own;generalize hcs:cellsFrom (Hh.objs.size+1) scope.names cl=cs' at *;have csl:∀x c,cs'.lookup x=some c->((x,c)∈cellsFrom (Hh.objs.size+1) scope.names []/\h₁.IsCell c none/\Hh.objs.size+1<=c/\scope.names.lookup x=some .cell)\/((x,NameKind.cell)∉scope.names/\X.env.cells.lookup x=some c):=fun x c h=>by
  rw[<- hcs,Hr,Qm]at h;cases e:(cellsFrom (Hh.objs.size+1) scope.names []).lookup x with
  |some c'=>
   rw[e]at h;cases h;have m:=mem_of_lookup e;exact .inl ⟨m,(own.empty x c m).1,(own.empty x c m).2,cs.cell (x,.cell) (Uo _ _ _ _ m) rfl⟩
  |none=>
   rw[e]at h;refine .inr ⟨fun hm=>?_,cs.sub x c h⟩;obtain⟨c',q⟩:=Kn scope.names (Hh.objs.size+1) x hm;rw[e]at q;cases q
 have cshas:∀x,((relabel scope X.env).names.lookup x=some .cell\/(relabel scope X.env).names.lookup x=some .free)->∃c,cs'.lookup x=some c:=fun x h=>by
  rw[<- hcs,Hr,Qm];cases e:(cellsFrom (Hh.objs.size+1) scope.names []).lookup x with
  |some c=>exact⟨c,rfl⟩
  |none=>
   rcases cs.has x h with hm|hm
   ·obtain⟨c',q⟩:=Kn scope.names (Hh.objs.size+1) x hm;rw[e]at q;cases q
   ·exact hm
 have lts:∀x c,X.env.cells.lookup x=some c->c<s2.heap.objs.size:=fun x c h=>by
  obtain⟨v,o,ho,hd⟩:=I2.cell x c h;exact Ae ho
 let QC:=blk X s2 H2 Hh.objs.size scope cs' N' fp;have fpLt:∀b∈fp,b<s2.heap.objs.size:=fun b hb=>by
  obtain⟨o,e,_⟩:=T.obj _ _ st2 b hb;exact Ae e
 have okY:QC.Ok:=by
  refine⟨I2.ok.mod,(by show(relabel scope X.env).kind=.function; exact cs.kind),I2.ok.glob,I2.ok.blt,hCle,fun x y c h1 h2=>?_,cshas,(fun x c z h=>by
   rcases csl x c h with⟨_,_,q,_⟩|⟨q,_⟩
   ·show s2.heap.objs.size<=c;rw[hC]at q;omega
   ·have z:scope.names.lookup x=some .cell:=by simpa[QC,blk]using z
    exact absurd (mem_of_lookup z) q),I2.ok.hd,I2.ok.frames,.inl rfl,fun b hb=>⟨An (by rw[show QC.env.locals=Hh.objs.size from rfl,hC];exact Bt (fpLt b hb)),fun x c h=>by
   rcases csl x c h with⟨_,_,q,_⟩|⟨_,q⟩
   ·exact fun z=>absurd (Ag (fpLt b hb) (Ak (by rw[hC];omega) (z▸q))) (Ax _)
   ·exact(f2 b hb).2.2.2.2.1 x c q⟩,I2.bs,Ak I2.ok.bsz I2.sz,fun b o e hb=>?_,fun b hb hs=>?_,I2.stack,I2.stkFree⟩
  ·rcases csl x c h1 with⟨m1,_,q1,_⟩|⟨_,q1⟩<;>rcases csl y c h2 with⟨m2,_,q2,_⟩|⟨_,q2⟩
   ·exact name_of_addr own.apart m1 m2
   ·exact absurd (Ag (lts y c q2) (Ak (by rw[hC];omega) q1)) (Ax _)
   ·exact absurd (Ag (lts x c q1) (Ak (by rw[hC];omega) q2)) (Ax _)
   ·exact I2.ok.inj x y c q1 q2
  ·rcases(f2 b hb).2.2.2.1 with z|z
   ·exact I2.ok.noex b o e z
   ·exact absurd (Ag (Ae e) (Ak I2.ok.bsz z)) (Ax _)
  ·rcases Ad.mp (I2.stkSub b hs)with z|z
   ·exact(f2 b hb).2.1 z
   ·exact(f2 b hb).2.2.1 z
 have hokY:HOk X.prog X.w (upd H2 s2.heap.objs.size (.dT [])) h₁:=I2.hok.laid old (Ac _) ⟨At _,beq_eq_false_iff_ne.mpr (Ne.symm (An (Bb (by decide:sysModules<mainGlobals) (I2.mod.glob.keeps I2.bk).lt))),[],.nil,_,#[],0,hacc,⟨rfl,rfl,rfl⟩,rfl,rfl,List.nodup_nil⟩;have IY:∀tk,Inv QC [] (pkS pk O) (upd H2 s2.heap.objs.size (.dT [])) {s2 with heap:=h₁,toks:=tk}:=fun tk=>by
  refine⟨okY,rfl,I2.bare,?_,⟨_,hns₁,fun i x v h1 h2 h3=>?_⟩,fun x c h=>?_,?_,fun x c h=>?_,fun p hp=>absurd (show p∈([]:List (BP×Obj))from hp) (by simp),hokY,by show(pkS pk O).length=N'.length;rw[<- cs.len];simp[pkS]⟩
  ·exact Un.laid old (Ac _) hD
  ·unfold pkS at h2;rw[Ar]at h2;cases e:pk[i]? with
   |none=>rw[e]at h2;cases h2
   |some o=>
    rw[e]at h2;cases o with
    |none=>cases h2
    |some j=>
     have h2:(O[j]?).bind id=some v:=Ab h2;have h2:O[j]?=some (some v):=by
      cases z:O[j]? with
      |none=>rw[z]at h2;cases h2
      |some q=>
       rw[z]at h2;have h2:q=some v:=h2;rw[h2]
     obtain⟨n1,n2,n3,n4⟩:=cs.take i j x e h1;obtain⟨m,_,hl⟩:=I2.loc;have vis:Vis X.env.scope x:=by
      rcases n2 with n2|n2
      ·exact .inr (.inl n2)
      ·exact .inr (.inr n2)
     obtain⟨u,r,l⟩:=hl j x v n1 h2 vis;refine⟨u,r,.inr ⟨n3,?_⟩⟩;rcases l with⟨k,_⟩|⟨_,c,hc,⟨o,ho,hd⟩⟩
     ·rcases n2 with n2|n2<;>rw[k]at n2<;>cases n2
     ·obtain⟨c',hc'⟩:=cshas x n3;rcases csl x c' hc' with⟨_,_,_,q⟩|⟨_,e2⟩
      ·rw[n4]at q;cases q
      rw[hc]at e2;cases e2;exact⟨c,hc',o,old c o ho,hd⟩
  ·rcases csl x c h with⟨_,q,_,_⟩|⟨_,q⟩
   ·exact⟨none,q⟩
   obtain⟨v,o,ho,hd⟩:=I2.cell x c q;exact⟨v,o,old c o ho,hd⟩
  ·show upd H2 s2.heap.objs.size (.dT []) Hh.objs.size=none;rw[Gv (Ne.symm hDC)];exact I2.hok.fresh hCle
  ·rcases csl x c h with⟨_,_,z,_⟩|⟨_,z⟩
   ·show upd H2 s2.heap.objs.size (.dT []) c=none;have z:s2.heap.objs.size+2<=c:=by rw[hC]at z;exact z
    rw[Gv (AW (by omega:s2.heap.objs.size<c))];exact I2.hok.fresh (by omega)
   have q:=I2.freeC x c z;obtain⟨v,o,ho,hd⟩:=I2.cell x c z;show upd H2 s2.heap.objs.size (.dT []) c=none;rw[Gv (below c (Ae ho)).2];exact q
 have stat:∀{H':Hp},(∀b∈fp,H' b=none)->∀b∈fp,Gc3 QC [] H' b:=fun hn b hb=>
  ⟨hn b hb,(okY.exf b hb).1,okY.exfs b hb,.inl hb,(okY.exf b hb).2,fun p hp=>absurd (show p∈([]:List (BP×Obj))from hp) (by simp)⟩
 have fin:∀(H':Hp)(O':L2.St)(s':BO),Inv QC [] O' H' s'->∀h',Heap.SameBut Hh.objs.size s'.heap h'->Inv X pins O H' {s' with heap:=h'}:=fun H' O' s' I' h' hs=>by
  have sub:∀b o,s2.heap.get? b=some o->b≠Hh.objs.size:=fun b o e=>(below b (Ae e)).1;have un:Un (frs X.stack) fp H2 H' s2.heap s'.heap:=I'.base;refine I2.call' (ch:=fp) I'.os ⟨fun b o e n hb hx=>(hs.2 b (sub b o e)).trans (un.keep b o e n hb hx),fun b o e n hb hx=>?_,un.free,fun b o e hx=>?_,un.tups,un.frzs,un.tbls⟩ (Gid I'.hok I'.free hs) I'.bare fun b hb=>⟨(f2 b hb).2.2.2.1,(f2 b hb).2.1,(f2 b hb).2.2.2.2.1,(f2 b hb).2.2.2.2.2⟩
  ·obtain⟨sl,q⟩:=un.slot b o e n hb hx;exact⟨sl,(hs.2 b (sub b o e)).trans q⟩
  ·obtain⟨o',q⟩:=un.there b o e hx;exact⟨o',(hs.2 b (sub b o e)).trans q⟩
 have loop:∀s3:BO,(∃tk,s3={s2 with heap:=h₁,toks:=tk})→
   codeAny (model X.prog X.w) X.A (.compLoop (.DictComp kx vx [⟨tg,iter,ifs,0⟩] scope pos) 0 (.ref it) (.ref s2.heap.objs.size) (compEnvC scope cs' Hh.objs.size X.env)) (RR (.ref s2.heap.objs.size) Hh.objs.size) s3:=by
  rintro s3 ⟨tk,rfl⟩;refine Gey (fun n s'=>∃i O' H',Inv QC [] O' H' s'/\tn i s'.heap/\(∀b∈fp,H' b=none)/\W i n O' H') ?_ m0 ⟨0,_,_,IY tk,T.keep _ _ _ st2 (fun b _ o e=>old b o e),fun b hb=>by rw[Gv (below b (fpLt b hb)).2];exact(f2 b hb).1,w0⟩;rintro n s4 ⟨i,O4,H4,I4,st4,fr4,w4⟩;rcases turn i n O4 H4 w4 with⟨stop,qn⟩|⟨go,step⟩
  ·refine wpAny_mono (T.done QC rfl rfl rfl hcm i [] s4 O4 H4 (fun _ _=>False) I4 (stat fr4) st4 stop) (fun r s5 zq0=>?_) fun _ _ z=>z;obtain⟨hr,I5⟩:=zq0;subst hr;obtain⟨m,hn,_⟩:=I5.loc;exact hRR _ _ s5 H4 qn ⟨m,hn⟩ (fin H4 O4 s5 I5 s5.heap (.refl ..)) I5.free hCle
  ·refine wpAny_mono (T.item QC rfl rfl rfl hcm i [] s4 O4 H4 (fun _ _=>False) I4 (stat fr4) st4 go) (fun r s5 zq0=>?_) fun _ _ z=>z;obtain⟨u,hr,h5⟩:=zq0;subst hr;refine wpAny_mono h5 (fun _ s6 zq0=>?_) fun _ _ z=>z;obtain⟨x,H6,I6,r6,y6,st6,fr6⟩:=zq0;have I6':=I6.pinned (stat fr6) (T.obj _ _ st6);refine wpAny_mono (hg cs' s2 H2 Hh.objs.size fp _ s6 O4 H6 x u _ I6' r6 (step x H6 y6)) (fun _ s7 zq0=>?_) fun _ _ z=>z;obtain⟨O7,H7,I7,q7⟩:=zq0;refine wpAny_mono (ht cs' s2 H2 Hh.objs.size fp _ s7 O7 H7 _ I7 q7) (fun ok s8 zq0=>?_) fun _ _ z=>z;obtain⟨H8,I8,q8⟩:=zq0;have back:∀{O9:L2.St}{H9:Hp}{s9:BO},Inv QC ([]++Gb1 fp s6.heap) O9 H9 s9->Inv QC [] O9 H9 s9/\tn (i+1) s9.heap/\∀b∈fp,H9 b=none:=fun{O9 H9 s9} I9=>
    ⟨I9.unpinned,T.keep _ _ _ st6 fun b hb o e=>(I9.pin (b,o) (AI _ (AI _ (Ug hb e)))).1,fun b hb=>by
     obtain⟨o,e,d⟩:=T.obj _ _ st6 b hb;exact(I9.pin (b,o) (AI _ (AI _ (Ug hb e)))).2.1⟩
   cases ok with
   |false=>
    obtain⟨m',hm,w'⟩:=(if_neg Ap).mp q8;obtain⟨b1,b2,b3⟩:=back I8;exact(if_neg Ap).mpr ⟨m',hm,i+1,O7,H8,b1,b2,b3,w'⟩
   |true=>
    refine(if_pos rfl).mpr ?_;refine wpAny_mono (hk cs' s2 H2 Hh.objs.size fp _ s8 O7 H8 _ I8 ((if_pos rfl).mp q8)) (fun ukx s9 zq0=>?_) fun _ _ z=>z;obtain⟨kv,H9,I9,r9,q9⟩:=zq0;refine wpAny_mono (hv cs' s2 H2 Hh.objs.size fp _ s9 O7 H9 _ I9 q9) (fun uvx s10 zq0=>?_) fun _ _ z=>z;obtain⟨vv,H10,I10,r10,q10⟩:=zq0;obtain⟨d,ed,w'⟩:=Gfv (X:=QC) (E:=fun _ _=>False) hu I10 (show Hg (.ref s2.heap.objs.size) (Value.ref s2.heap.objs.size)from rfl) r9 r10 q10;cases ed;refine wpAny_mono w' (fun _ s11 zq0=>?_) fun _ _ z=>z;obtain⟨H11,I11,m',hm,w11⟩:=zq0;obtain⟨b1,b2,b3⟩:=back I11;exact⟨m',hm,i+1,O7,_,b1,b2,b3,w11⟩
 exact codeAny_compStart_dict (loop _ ⟨_,rfl⟩) (T.self _ 0 _ _ _ (T.keep _ _ _ st2 fun b _ o e=>old b o e) (loop _ ⟨_,rfl⟩))
def Gpo{spos:Pos}{pk:List (BQ Nat)}{tt:TT}(ct:CompTab X.env.scope scope X.N N' pk)(hcm:X.calm=true)(hi:PI X tg iter wi)(hg:∀cl s2 H2 C fp,PG (blk X s2 H2 C scope cl N' fp) tg g)(ht:∀cl s2 H2 C fp,PTs (blk X s2 H2 C scope cl N' fp) ifs tt)(hk:∀cl s2 H2 C fp,PE (blk X s2 H2 C scope cl N' fp) kx tk)(hv:∀cl s2 H2 C fp,PE (blk X s2 H2 C scope cl N' fp) vx tv)(hu:X.A.units+20<cLine)(hN:X.N.Nodup)(hy:X.N[i]?=some y)(hx:Loc X.env.scope y)(hsw:swapsWith (.DictComp kx vx [⟨tg,iter,ifs,0⟩] scope pos) (some (.Name y py)) spos.line X.env=pure true)(hs:autoParam (∀x,foldedSetIterable iter X.env x=pure x) zQ4)(hf:autoParam (X.fn y=true\/X.env.scope.names.lookup y=some .local) zQ0):
  PS X (.Assign [.Name y py] (.DictComp kx vx [⟨tg,iter,ifs,0⟩] scope pos) spos) (Gnt (tDC X.K wi pk g tt tk tv) (gName i)):=by
 intro pins s O H E I h;obtain⟨cl,cs⟩:=ct.sc I.ok;rw[exec_Assign_Name_used _ _ _ _ hsw];refine wpAny_bind (wpAny_standAt (wpAny_bind ?_));show wpAny _ X.A (do let _ <- comprehension (.DictComp kx vx [⟨tg,iter,ifs,0⟩] scope pos) scope X.env _ newDict false (eval iter X.env) (some (assign (.Name y py) X.env))) _ _ s;refine wpAny_bind (wpAny_mono (wpAny_comprehension_free (use:=some (assign (.Name y py) X.env)) (Q:=fun _ s'=>SP X pins E .next s') rfl hs cs.clos cs.kind cs.names
  (thn (hi pins s O H _ I h) fun x s1 h1=>thn h1 fun itv s2 h2=>?_)) (fun _ s' hq=>wpAny_pure (wpAny_pure hq)) fun _ _ e=>e)
 obtain⟨it,fp,tn,J,H2,e,I2,T,st2,f2,hQ⟩:=h2;subst e;refine Git cs hcm hg ht hk hv hu I2 T st2 f2 (Q:=fun x H1=>gName i x O H1 E.nx) hQ (RR:=fun acc C=>compPost (model X.prog X.w) X.A X.xe (some (assign (.Name y py) X.env)) (fun _ s'=>SP X pins E .next s') acc C) fun D C s' H' q hn inv hfr hC=>?_;obtain⟨m,hn⟩:=hn;show wpAny _ X.A (assign (.Name y py) X.env (.ref D)) _ _ _;refine wpAny_assign_Name (Gb0 inv hN hy hx (v:=.ref D) rfl (fun s'' I'' hch=>?_) hf);obtain⟨a,hsb,ha⟩:=hch;have hCa:C≠a:=by
  rcases ha with ha|ha
  ·rintro rfl;exact absurd (Ag I2.lt (by rw[<- ha];exact hC)) (Ax _)
  ·rintro rfl;obtain⟨v,z⟩:=I2.cell y _ ha;exact absurd (Ag z.lt hC) (Ax _)
 exact⟨m,hn.sameBut hsb hCa,fun h' hs'=>⟨_,H',Ggi I2 I'' hfr hC hs',q⟩⟩
def Gzx{f:Ev Src}{pk:List (BQ Nat)}{t:Ev Bool}(O:L2.St)(H:Hp)(Q:VK)(h:rdE K XQ (dcm f pk g t ek ev) O H Q):tDC K (rdI K XQ f) pk (Gka K g) (rdT K XN t) (rdE K XN ek) (rdE K XN ev) O H Q:=by
 obtain⟨mp,U,S,G,p⟩:=h;refine bindP G p fun mp1 H1 src S1 J a1 G1 j1 p1=>?_;intro a ha hoff;obtain⟨af,rs,la⟩:=G1.rs.newDc ha (hoff _ _ G1.rs);have p1:Zj K XQ O U S1.length (mp1++[a]) (upd H1 a (.dT [])) (Jd src.nxt g (Zi S1.length t ek ev) src.fuel 0 (pkS pk U) (S1++[⟨false,[]⟩])) Q:=by
  cases z:Jd src.nxt g (Zi S1.length t ek ev) src.fuel 0 (pkS pk U) (S1++[⟨false,[]⟩])with
  |nx r S'=>rw[z]at p1;exact Gn.aft p1 af
  |rt d S'=>rw[z]at p1;exact p1
  |bk r S'=>rw[z]at p1;exact p1
  |ct r S'=>rw[z]at p1;exact p1
  |exc x r S'=>rw[z]at p1;exact p1
  |bad=>rw[z]at p1;exact p1
 refine⟨fun i m O' H'=>∃mp' U' S',Aft K mp1 H1 mp' H'/\Gd K mp' H' O' U' S'/\(mp'[S1.length]?=some a/\Dcy H' a)/\Zj K XQ O U S1.length mp' H' (Jd src.nxt g (Zi S1.length t ek ev) m i U' S') Q,⟨src.fuel,_,_,_,af,(G1.pick pk).aft af rs,⟨la,⟨[],Ho⟩⟩,p1⟩,?_⟩;rintro i m O' H' ⟨mp',U',S',a',G',⟨la',nd'⟩,p'⟩;cases m with
 |zero=>exact(show False from p').elim
 |succ n=>
  have j:=j1 mp' H' S' a' G'.rs i;unfold Jd at p';cases z:src.nxt i S' with
  |none=>
   rw[z]at j p';exact .inl ⟨j,Gn.ok (show Post K XQ O U mp' H' (.ok (.dct S1.length) S') Q from p') G'.rs ⟨a,rfl,la',nd'⟩⟩
  |some d=>
   rw[z]at j p';obtain⟨j1,j2⟩:=j;refine .inr ⟨j1,fun x H2 y=>?_⟩;obtain⟨a2,r2,x2⟩:=j2 x H2 y;have nd2:=a2.dcy _ nd';have G2:=G'.aft a2 r2;cases zg:g d U' with
   |none=>simp only[zg]at p';exact p'.elim
   |some U1=>
    simp only[zg]at p';refine⟨mp',U',S',d,U1,G2,x2,zg,fun O3 G3=>⟨mp',U1,S',G3,?_⟩⟩;have p2:=Zj.aft p' a2;unfold Zi at p2;cases zt:t U1 S' with
    |exc x S2=>simp only[zt,bindS]at p2;exact p2.elim
    |bad=>simp only[zt,bindS]at p2;exact p2.elim
    |ok b S2=>
     simp only[zt,bindS]at p2;intro mp3 H3 b' a3 rs3 e3;cases (show b'=b from e3);have G4:=G3.aft a3 rs3;cases b with
     |false=>
      simp only[AE,if_false]at p2;exact(if_neg Ap).mpr ⟨n,AM n,mp3,U1,S2,(a'.trans a2).trans a3,G4,⟨a3.pre _ _ la',a3.dcy _ nd2⟩,Zj.aft p2 a3⟩
     |true=>
      simp only[if_true]at p2;refine(if_pos rfl).mpr ⟨mp3,U1,S2,G4,?_⟩;cases ze:ek U1 S2 with
      |exc x S3=>simp only[ze]at p2;exact p2.elim
      |bad=>simp only[ze]at p2;exact p2.elim
      |ok dk S3=>
       simp only[ze]at p2;intro mp4 H4 v a4 rs4 r4;have G5:=G4.aft a4 rs4;refine⟨mp4,U1,S3,G5,?_⟩;cases zv:ev U1 S3 with
       |exc x S4=>simp only[zv]at p2;exact p2.elim
       |bad=>simp only[zv]at p2;exact p2.elim
       |ok dv S4=>
        simp only[zv]at p2;intro mp5 H5 u a5 rs5 r5;have G6:=G5.aft a5 rs5;have la5:=a5.pre _ _ (a4.pre _ _ (a3.pre _ _ la'));have nd5:=a5.dcy _ (a4.dcy _ (a3.dcy _ nd2));cases zc:dsetD (.dct S1.length) dk dv S4 with
        |none=>simp only[zc]at p2;exact p2.elim
        |some S5=>
         simp only[zc]at p2;exact Ggx (K:=K) mp5 H5 S4 S5 (.dct S1.length) dk dv (.ref a) v u _ rs5 ⟨a,rfl,la5,nd5⟩ (Rep.aft a5 _ _ r4) r5 zc fun H6 af6 rs6=>⟨n,AM n,mp5,U1,S5,(((a'.trans a2).trans a3).trans (a4.trans a5)).trans af6,G6.aft af6 rs6,⟨af6.pre _ _ la5,af6.dcy _ nd5⟩,Zj.aft p2 ((a3.trans (a4.trans a5)).trans af6)⟩
variable{XQ:XW}
def Gpp(i:Nat){spos:Pos}{pk:List (BQ Nat)}{f:Ev Src}{t:Ev Bool}(ct:CompTab X.env.scope scope X.N N' pk)(hcm:X.calm=true)(hi:JI X XQ tg iter f)(hg:∀cl s2 H2 C fp,JG (blk X s2 H2 C scope cl N' fp) tg g)(ht:∀cl s2 H2 C fp,JTs (blk X s2 H2 C scope cl N' fp) XN ifs t)(hk:∀cl s2 H2 C fp,JE (blk X s2 H2 C scope cl N' fp) XN kx ek)(hv:∀cl s2 H2 C fp,JE (blk X s2 H2 C scope cl N' fp) XN vx ev)(hu:X.A.units+20<cLine)(hN:X.N.Nodup)(hy:⇑(X.N[i]?=some y))(hx:autoParam (Loc X.env.scope y) zQ8)(hsw:⇑(swapsWith (.DictComp kx vx [⟨tg,iter,ifs,0⟩] scope pos) (some (.Name y py)) spos.line X.env=pure true))(hs:autoParam (∀x,foldedSetIterable iter X.env x=pure x) zQ4)(hf:autoParam (X.fn y=true\/X.env.scope.names.lookup y=some .local) zQ0):
  JS X XQ (.Assign [.Name y py] (.DictComp kx vx [⟨tg,iter,ifs,0⟩] scope pos) spos) (sa (dcm f pk g t ek ev) (gn i)):=by
 refine PS.mono (Gpo (g:=Gka X.K g) (tt:=rdT X.K XN t) (tk:=rdE X.K XN ek) (tv:=rdE X.K XN ev) ct hcm hi hg ht hk hv hu hN hy hx hsw hs hf) fun E O H ⟨mp,U,S,G,p⟩=>Gzx O H _ ?_;exact bindSP G p fun mp1 H1 d S1 v a1 G1 r1 p1=>PostS.nx p1 (G1.set i r1)
end
def Hcw{X:Cx}{P:List Str}(i:Nat){N:List Str}{spos:Pos}{pk:List (BQ Nat)}{f:Ev Src}{t:Ev Bool}(S:FnS N P sc)(hi:GI X XQ tg iter f)(hg:∀cl s2 H2 C fp,GG (blk X s2 H2 C scope cl N' fp) tg g)(ht:∀cl s2 H2 C fp,GTs (blk X s2 H2 C scope cl N' fp) XN ifs t)(hk:∀cl s2 H2 C fp,GE (blk X s2 H2 C scope cl N' fp) XN kx ek)(hv:∀cl s2 H2 C fp,GE (blk X s2 H2 C scope cl N' fp) XN vx ev)(hr:Room k X.A)(ct:autoParam (CompTab sc scope N N' pk) zQ11)(hsc:⇑(X.env.scope=sc))(hNN:⇑(X.N=N))(hcm:⇑(X.calm=true))(hsw:⇑(swapsWith (.DictComp kx vx [⟨tg,iter,ifs,0⟩] scope pos) (some (.Name y py)) spos.line X.env=pure true))(hy:⇑(N[i]?=some y))(hs:autoParam (∀x,foldedSetIterable iter X.env x=pure x) zQ4)(hf:⇑(X.fn y=true)):GS X XQ (.Assign [.Name y py] (.DictComp kx vx [⟨tg,iter,ifs,0⟩] scope pos) spos) (sa (dcm f pk g t ek ev) (gn i)):=by
 subst hsc hNN;have:=hr.un;exact⟨Gpp i ct hcm hi.h (fun cl s2 H2 C fp=>(hg cl s2 H2 C fp).h) (fun cl s2 H2 C fp=>(ht cl s2 H2 C fp).h) (fun cl s2 H2 C fp=>(hk cl s2 H2 C fp).h) (fun cl s2 H2 C fp=>(hv cl s2 H2 C fp).h) (by omega) S.nd hy (okL.loc (S.ol hy).h) hsw hs (.inl hf)⟩
def Gm7:typeLookup (.type "list_reverseiterator") "__len__"=pure none:=by rw[typeLookup_type,builtinLookup_eq_fast];kernel_rfl
def Gpq:typeLookup (.type "list_reverseiterator") "__length_hint__"=pure (some (.builtin "list_reverseiterator.__length_hint__")):=by rw[typeLookup_type,builtinLookup_eq_fast];kernel_rfl
section
variable{prog:BR}{w:World}{A:Around}{E:BN->BO->Prop}{s:BO}
def Gkr{R:Result->BO->Prop}{items:Array BN}(hh:A.handled=none)(hit:s.heap.IsRevIter I l ((items.size:Int)-1))(hl:s.heap.IsList l items)(hne:l≠I)(hn:items.size<=sizeLine)(S:BP)(res:BN)(c₀:Nat)(hS:s.heap.get? S=some { cls:=.type "list",data:=.seq #[] c₀ })(hSI:S≠I)(hSl:S≠l)(hR:∀ h' tk acc' c',(∀ b o,b≠S->b≠I->s.heap.get? b=some o->h'.get? b=some o)->h'.get? S=some { cls:=.type "list",dict:=none,data:=.seq acc' c',slots:=#[] }→
   ItemsOf (fun i v=>items[items.size-1-i]?=some v) acc' items.size->R (.ok (.ret res)) { s with heap:=h',toks:=tk }):
  wpAny (model prog w) A.in1 (Builtin.List.listExtendWith (.ref S) (.ref I) res)
   (fun fin s'=>match fin with|.done f=>R (.ok f) s'|.again c'=>c'.quiet=true/\codeAny (model prog w) A c' R s') (fun e s'=>R (.error e) s') s:=by
 have W:=(Walks.listRev (prog:=prog) (w:=w) (A:=A.in1) hh I l hne items).toS;have hSf:S∉[I,l]:=fun hm=>by
  rcases Ad.mp hm with e|hm
  ·exact hSI e
  ·exact hSl (AA.mp hm)
 have hst:0<=items.size/\s.heap.IsRevIter I l ((items.size:Int)-1-((0:Nat):Int))/\s.heap.IsList l items:=⟨At _,by simpa using hit,hl⟩
 have hT:=hit.typeIs;have h1:Builtin.List.listSameRef (.ref S) (.ref I)=false:=by simp[Builtin.List.listSameRef,hSI]
 unfold Builtin.List.listExtendWith;refine wpAny_bind (wpAny_typeOf hT ?_);rw[if_neg (by rw[h1];decide)];refine wpAny_bind (W.self 0 _ _ _ hst ?_);refine wpAny_bind (wpAny_holding ?_);unfold Builtin.List.listLengthHint;refine wpAny_bind (wpAny_specialOf hT Gm7 ?_);show wpAny _ A.in1 (specialOf (Value.ref I) (Str.ofString "__length_hint__") >>= _) _ _ _;refine wpAny_bind (wpAny_specialOf hT Gpq ?_)
 (generalize hid:("list_reverseiterator.__length_hint__":String)=id0;(fail_if_success (clear hid id0));wp_delta;rw[show splitId id0=some ("list_reverseiterator","__length_hint__")from by subst hid;decide +kernel];subst hid)
 refine wpAny_bind (wpAny_isInstance (b:=true) hT (by rw[isSubtype_type];kernel_rfl) ?_);refine wpAny_pure ?_;rw[if_neg (by decide)];refine wpAny_pure ⟨plainId_quiet F.plain_extend_loop _,codeAny_extend_loopS W hn S hSf res items.size 0 _ #[] c₀ rfl (At _) hst hS (ItemsOf.nil _) fun s' acc' c' hm hS' hacc=>?_⟩;rw[Moved.eq_with hm];exact hR s'.heap s'.toks acc' c' (fun b o hb hb2 e=>hm.heap b o (fun hmem=>by
  rcases Ad.mp hmem with e'|hmem
  ·exact hb e'
  ·exact hb2 (AA.mp hmem)) e) hS' hacc
def Gez{Q:BN->BO->Prop}{items:Array BN}(hh:A.handled=none)(hit:s.heap.IsRevIter I l ((items.size:Int)-1))(hl:s.heap.IsList l items)(hne:l≠I)(hn:items.size<=sizeLine)(hQ:∀ h' tk acc' c',(∀ b o,b≠I->s.heap.get? b=some o->h'.get? b=some o)→
   h'.get? s.heap.objs.size=some { cls:=.type "list",dict:=none,data:=.seq acc' c',slots:=#[] }->ItemsOf (fun i v=>items[items.size-1-i]?=some v) acc' items.size->Q (.ref s.heap.objs.size) { s with heap:=h',toks:=tk }):
  wpAny (model prog w) A (call (.type "list") [.ref I]) Q E s:=by
 have lI:I<s.heap.objs.size:=by obtain⟨o,ho,_⟩:=hit;exact Ae ho
 have ll:l<s.heap.objs.size:=by obtain⟨o,ho,_⟩:=hl;exact Ae ho
 refine callType_codes (Q₁:=fun obj s₁=>obj=.ref s.heap.objs.size/\s₁={s with heap:=s.heap.push {cls:=.type "list",data:=.seq #[]}}) F.called_list (F.typeCall_list_1 _) F.entry_list_init
  (code_list_new _ ⟨rfl,rfl⟩) fun obj s₁ h₁=>?_
 obtain⟨rfl,rfl⟩:=h₁;have hS:(s.heap.push {cls:=.type "list",data:=.seq #[]}).get? s.heap.objs.size=some {cls:=.type "list",data:=.seq #[]}:=Az _ rfl;refine⟨⟨_,hS,rfl⟩,F.args_list_init_2 _ _,?_⟩;show wpAny _ _ (do let old <- Builtin.List.listItems (.ref s.heap.objs.size);Builtin.List.listUpdate (.ref s.heap.objs.size) (fun _=>#[]);letGo old.toList.reverse;Builtin.List.listExtendWith (.ref s.heap.objs.size) (.ref I) .none) _ _ _;refine wpAny_bind ?_;unfold Builtin.List.listItems;refine wpAny_bind (wpAny_seqItems hS rfl (wpAny_pure ?_));show wpAny _ _ (updateSeq s.heap.objs.size (fun _=>#[]) >>= fun _=>letGo (#[]:Array BN).toList.reverse >>= fun _=>Builtin.List.listExtendWith (.ref s.heap.objs.size) (.ref I) .none) _ _ _;refine wpAny_bind (wpAny_updateSeq hS rfl ?_);have hS₂:=AU (Obj.mapSeq (fun _=>(#[]:Array BN))) hS rfl;have oth:∀b o,b≠s.heap.objs.size->s.heap.get? b=some o->((s.heap.push {cls:=.type "list",data:=.seq #[]}).update s.heap.objs.size (Obj.mapSeq (fun _=>(#[]:Array BN)))).get? b=some o:=
  fun b o hb e=>(AL _ _ (Ne.symm hb)).trans (Aj _ e)
 refine wpAny_bind (wpAny_letGo ?_);refine Gkr (A:=A.in1) (items:=items) hh (hit.at fun o e=>oth I o (An lI) e) (hl.at fun o e=>oth l o (An ll) e) hne hn _ .none _ hS₂ (Ne.symm (An lI)) (Ne.symm (An ll)) fun h' tk acc' c' hk hS' hacc=>?_;exact⟨rfl,hQ h' tk acc' c' (fun b o hb e=>hk b o (An (Ae e)) hb (oth b o (An (Ae e)) e)) hS' hacc⟩
end
section
variable{X:Cx}{XQ:XW}
noncomputable def Giu(xs:List D)(S:Sto):Out D:=match xs with
 |[.lst k]=>match S[k]? with
  |some c=>if c.fz=false then .ok (.lst S.length) (S++[⟨false,c.xs.reverse⟩])else .bad
  |none=>.bad
 |_=>.bad
def Gpr{xs:List V}{vs:List BN}{acc:Array BN}(h:Vals xs vs)(ha:ItemsOf (fun i v=>vs.toArray[vs.toArray.size-1-i]?=some v) acc vs.toArray.size):Vals xs.reverse acc.toList:=by
 have e:acc.toList=vs.reverse:=by
  have hs:acc.size=vs.length:=by rw[ha.1];simp
  refine List.ext_getElem? fun i=>?_;by_cases c:i<vs.length
  ·have hi:acc[i]?=some acc[i]:=Array.getElem?_eq_getElem (by omega);have:=ha.2 i _ hi;rw[Array.getElem?_toList,hi,List.getElem?_reverse c,<- this];simp
  ·rw[Bj (by rw[Array.length_toList];omega),Bj (by simp;omega)]
 rw[e];exact h.reverse
set_option tactic.hygienic true
def Gtx(hcm:X.calm=true)(hg:Gl X "list")(hm:X.mg "list"=none)(hg2:Gl X "reversed")(hm2:X.mg "reversed"=none)(ha:JA X XQ [a] f)(he:⇑(starEach [.Call (.Name "reversed" p2) [a] [] pos2] X.env=(false,eval (.Call (.Name "reversed" p2) [a] [] pos2) X.env)::starEach [] X.env))(he2:⇑(starEach [a] X.env=(false,eval a X.env)::starEach [] X.env)):
  JE X XQ (.Call (.Name "list" p) [.Call (.Name "reversed" p2) [a] [] pos2] [] pos) (b1 Giu f):=by
 intro pins s O H Q I zq0;obtain⟨mp,U,S,G,q⟩:=zq0;refine wpAny_Call_Name_kw (Wo I hg hm (by rfl) ?_ (by decide) (by decide));refine PyProof.Rows.callWith_type1 ?_ he rfl;rw[he];refine Calls.spliced_cons ?_;refine wpAny_Call_Name_kw (Wo I hg2 hm2 (by rfl) ?_ (by decide) (by decide));refine PyProof.Rows.callWith_type1 (thn (ha pos2 pins s O H (fun vs H1=>∃mp1 S1 ds,Gd X.K mp1 H1 O U S1/\RepL X.K mp1 H1 ds vs/\Post X.K XQ O U mp1 H1 (Giu ds S1) Q) I (bindP G q fun mp1 H1 ds S1 vs a1 G1 r1 p1=>⟨mp1,S1,ds,G1,r1,p1⟩)) fun us s1 zq0=>?_) he2 rfl;obtain⟨vs,H1,I1,rv,mp1,S1,ds,G1,r1,p1⟩:=zq0;unfold Giu at p1;split at p1
 ·rename_i k;split at p1
  ·rename_i c zc;by_cases hc:c.fz=false
   ·rw[if_pos hc]at p1;obtain⟨v,rfl,h1⟩:=RepL.one r1;obtain⟨u,rfl,ru⟩:=Vals.one rv;obtain⟨l,xs,rfl,hl,_,rx,hH⟩:=G1.rs.items h1 zc;cases (show u=Value.ref l from ru);have hH:=hH hc;obtain⟨hz,its,n,vi,ho⟩:=(show Ks X.prog X.w H1 s1.heap l (.lst xs)from I1.hok l _ hH)
    have ll:l<s1.heap.objs.size:=Ae ho;have isl:s1.heap.IsList l its.toArray:=⟨_,ho,rfl,n,rfl⟩
    refine call_reversed_list isl (Calls.spliced_nil ?_);have hrev:(s1.heap.push (revObj l ((its.toArray.size:Int)-1))).IsRevIter s1.heap.objs.size l ((its.toArray.size:Int)-1):=⟨_,Az _ rfl,rfl,rfl⟩
    refine Gez (I.ok.hd hcm) hrev (isl.at fun o e=>Aj _ e) (An ll) (by simpa[<- vi.length]using hz) fun h' tk acc c' kp e hi=>?_;have sz:(s1.heap.push (revObj l ((its.toArray.size:Int)-1))).objs.size=s1.heap.objs.size+1:=AR ..;rw[show({s1 with heap:=s1.heap.push (revObj l ((its.toArray.size:Int)-1))}:BO).heap.objs.size=s1.heap.objs.size+1 from sz]at e⊢;have hn:H1 (s1.heap.objs.size+1)=none:=I1.hok.fresh (A6 _);obtain⟨af,rs,la⟩:=G1.rs.newL hn rx.rev;refine⟨.ref (s1.heap.objs.size+1),_,I1.laid (o:=.lst xs.reverse) (t':=tk) (fun b o hb=>kp b o (An (Ae hb)) (Aj _ hb)) (A6 _) ⟨by simpa using hz,acc.toList,c',Gpr vi hi,by simpa using e⟩,rfl,p1 _ _ _ af rs ⟨_,rfl,la,Ggd Ho⟩⟩
   ·rw[if_neg hc]at p1;exact p1.elim
  ·exact p1.elim
 ·exact p1.elim
set_option tactic.hygienic false
def Glr(hg:Gl X "list")(hm:X.mg "list"=none)(hg2:Gl X "reversed")(hm2:X.mg "reversed"=none)(ha:GA X XQ [a] f)(hcm:⇑(X.calm=true))(he:⇑(starEach [.Call (.Name "reversed" p2) [a] [] pos2] X.env=(false,eval (.Call (.Name "reversed" p2) [a] [] pos2) X.env)::starEach [] X.env))(he2:⇑(starEach [a] X.env=(false,eval a X.env)::starEach [] X.env)):
  GE X XQ (.Call (.Name "list" p) [.Call (.Name "reversed" p2) [a] [] pos2] [] pos) (b1 Giu f):=⟨Gtx hcm hg hm hg2 hm2 ha.h he he2⟩
end
def Giv{A:Around}{s:BO}{c x:BN}{xs:List PyData}{d:PyData}{Q:BN->BO->Prop}(rc:Reads s.heap c (.list xs) as)(rx:Reads s.heap x d bs)(hxs:PyData.canLayAll0 xs=true)(hd:d.canLay0=true)(hu:A.units+1+min (PyData.depthAll xs) d.depth<cLine)(h:Q (.int (xs.countP fun y=>PyData.eqv y d:Nat) s.toks) {s with toks:=s.toks+1}):wpAny (model prog w) A (call (.builtin "list.count") [c,x]) Q E s:=by
 cases rc with
 |@list _ o _ _ n _ h1 h2 h3 h4=>
  obtain⟨cls,dict,data,slots⟩:=o;cases (show cls=.type "list" from h2);have h3:data=_:=h3;subst h3;refine call_meets PySem.F.slot_list_count ⟨_,h1,rfl⟩ PySem.F.entry_list_count (PySem.F.args_list_count_2 _ _) (SeqAt.list_countAt _ _ _ dict slots x _) ⟨h1,SeqAt.items_eqAt h4 rx hxs hd hu,?_⟩;have e:∀(vs:Array BN)(as':List BP),ReadsAll s.heap vs.toList xs as'->List.countP (fun y=>PyData.eqv (SeqAt.readOf s.heap y) d) vs.toList=xs.countP (fun y=>PyData.eqv y d):=fun vs as' h4=>by
   rw[<- SeqAt.readsAll_map xs _ _ hxs h4,List.countP_map];rfl
  rw[e _ _ h4];exact h
section
variable{X:Cx}{XQ:XW}
def Gvx(K:BM):V->List V->Hp->VK->Prop:=fun x vs H Q=>∃(mp:List BP)(S:Sto)(dx dy:D)(l:List PyData)(p:PyData)(y:V),vs=[y]/\RS K mp H S/\Rep K mp H dx x/\Rep K mp H dy y/\toP S 40 dx=some (.list l)/\toP S 40 dy=some p/\SeqAt.shaped p=true/\SeqAt.shaped (.list l)=true/\Q (.int (l.countP fun z=>PyData.eqv z p:Nat)) H
def Gty(hu:X.A.units+65<cLine):MtM X "list.count" (Gvx X.K):=by
 intro pins s O H x vs v us Q I rx rv zq0;obtain⟨mp,S,dx,dy,l,p,y,e,rs,r1,r2,z1,z2,h1,h2,q⟩:=zq0;subst e;obtain⟨u,rfl,ru⟩:=Vals.one rv;obtain⟨as,ra⟩:=Xv I rs 40 dx x v _ r1 rx z1;obtain⟨bs,rb⟩:=Xv I rs 40 dy y u _ r2 ru z2;exact Giv ra rb (SeqAt.canLay_of_shaped h2) (SeqAt.canLay_of_shaped h1) (room_in_shaped h1 hu) ⟨.int _,H,I.tok _,⟨_,rfl⟩,q⟩
def Giw(x:D)(xs:List D)(S:Sto):Out D:=match xs with
 |[y]=>match toP S 40 x,toP S 40 y with
  |some (.list l),some p=>if(SeqAt.shaped p&&SeqAt.shaped (.list l))=true then .ok (.int (l.countP fun z=>PyData.eqv z p:Nat)) S else .bad
  |_,_=>.bad
 |_=>.bad
set_option tactic.hygienic true
def Gtz:MeD K (Gvx K) Giw:=by
 intro XQ O U mp H S x xs v vs Q rs rx r p;unfold Giw at p;split at p
 ·rename_i y;split at p
  ·rename_i l q z1 z2;by_cases hs:(SeqAt.shaped q&&SeqAt.shaped (.list l))=true
   ·rw[if_pos hs]at p;rw[Am]at hs;obtain⟨w,rfl,hw⟩:=RepL.one r;exact⟨mp,S,x,y,l,q,w,rfl,rs,rx,hw,z1,z2,hs.1,hs.2,p mp H _ .refl rs rfl⟩
   ·rw[if_neg hs]at p;exact p.elim
  ·exact p.elim
 ·exact p.elim
set_option tactic.hygienic false
def Gm8{apos cpos:Pos}(hr:Room k X.A)(ho:GE X XQ o fo)(ha:GA X XQ [e] f)(hbase:⇑(attributeBase o "count" X.env (eval o X.env)=eval o X.env))(hfew:⇑(((backTo cpos (starEach [e] X.env)).all (fun x=>!x.1)&&(backToKw cpos (keywordEach [] X.env)).all (fun x=>x.1.isSome)
   && decide ([e].length+([]:List Keyword).length+(if([]:List Keyword).isEmpty then 0 else 1)<30))=true))(hline:⇑((apos.endLine==cpos.line)=true))(hs:⇑(starEach [e] X.env=(false,eval e X.env)::starEach [] X.env)):
  GE X XQ (.Call (.Attribute o "count" apos) [e] [] cpos) (mt Giw fo f):=⟨Glf PySem.F.slot_list_count PySem.F.type_list_count (Gty (by have:=hr.un;omega)) Gtz ho.h ha.h hbase hfew hline hs rfl⟩
end
noncomputable def gy{p:Prop}(h:p:=by repeat' first|(show GE _ _ _ _;first|(apply DL.Yp;decide +kernel;rfl)|(apply DL.gw;apply Sc;rfl)|apply DL.ge_int|apply DL.He|apply DL.Jz|apply DL.Hj|apply DL.Ja|apply DL.Jh|(apply DL.Gzs;assumption;apply hr)|(apply DL.Hep;apply Sc;assumption;apply hr)|(apply DL.Hcv;apply Sc;apply T.xt.xns;apply L;assumption;apply hr)|(apply DL.Kr;rotate_left;apply T.b_len)|apply DL.Xx|apply DL.Gai|apply DL.Gki|apply DL.Gzp|apply DL.Jt|apply DL.Gax|apply DL.Gzm|apply DL.Ggs|apply DL.Gzn|apply DL.Gkj|(apply DL.Zf;rotate_left;apply T.b_tuple)|(apply DL.Gtk;rotate_left;apply T.b_list)|(apply DL.Gtl;rotate_left;apply T.b_int)|(apply DL.Ggt;apply hr;rotate_left;apply T.b_repr)|(apply DL.Glq;rotate_left;apply T.b_len)|(apply DL.Gzv;apply W1;apply Sc;rotate_left 4;exact kdC)|(apply DL.Gzv;apply W2;apply Sc;rotate_left 4;exact kdC)|(apply DL.Gzv;apply W3;apply Sc;rotate_left 4;exact kdC)|(apply DL.Go7;apply hr.units)|(apply DL.Hcm;apply hr.units)|apply DL.Gad|apply DL.ge_popL|apply DL.ge_dnew|apply DL.Hcj|apply DL.Hck|apply DL.ge_gt|apply DL.Hcl|apply DL.Go8|apply DL.ge_or|apply DL.Go9|apply DL.Gzo|apply DL.Gtj|apply DL.ge_isn|(apply DL.Hcu;apply hr)|(apply DL.ge_dget;apply hr)|(apply DL.Ggv;rotate_left;apply T.b_sum)|(apply DL.Ggu;rotate_left;apply T.b_all)|(apply DL.Gzt;apply hr)|(apply DL.ge_ninP;apply hr)|(apply DL.Gpn;apply hr)|(apply DL.ge_dcn;apply hr)|(apply DL.Ggu;rfl;rotate_left;apply T.b_all)|(apply DL.Ggv;rfl;rotate_left;apply T.b_sum)|(apply DL.Gkl;rotate_left 2;(first|apply Gm1|apply Gif|apply Gst|apply Gie|apply Gsu);apply T.b_isinstance;(first|apply T.b_tuple|apply T.b_list|apply T.b_int|apply T.b_bool|apply T.b_str))|(apply DL.Glr;rotate_left;apply T.b_list;rotate_left;apply T.b_reversed)|apply DL.ge_count|(apply DL.Gm8;apply hr)|apply DL.ge_index|apply T.c_MOST_BARGES|apply T.c_DOWN|apply T.c_END|apply T.c_CHAMBER|apply T.c_UP)|(show GA _ _ _ _;first|apply DL.Gf|apply DL.Ga)|(show starEach _ _=_;first|apply DL.Gg|apply DL.Gb|apply DL.Up|apply DL.Go|apply DL.Ht|apply DL.Hu|apply DL.Gs1|apply DL.Gkh|apply DL.Gkg|apply DL.se_BoolOp|apply DL.Goq|apply DL.Wf|apply DL.se_Attribute)|(show GT _ _ _ _;first|(apply DL.Gpa;apply hr.units)|(apply DL.Gpb;apply hr.units)|apply DL.Gay|apply DL.Gvv|apply DL.gt_le|apply DL.Glj|apply DL.Hcn|apply DL.Gpc|(apply DL.Gpm;apply hr)|(apply DL.gt_dci;apply hr)|(apply DL.Gpj;apply hr)|(apply DL.Gtr;apply hr)|(apply DL.Gil;apply Gnx;apply Gvo;apply Glb;apply Gvn)|(apply GW.jt;first|apply DL.Gpd|apply DL.Gdu)|apply DL.Wq)|(show GSs _ _ _ _;first|apply DL.Gy|apply DL.Gj|apply DL.Js)|(show GS _ _ _ _;first|(apply DL.Gzw;apply W1;apply Sc;rotate_left 8;rfl;rotate_left 7;exact kdC)|(apply DL.Gzw;apply W2;apply Sc;rotate_left 8;rfl;rotate_left 7;exact kdC)|(apply DL.Gzw;apply W3;apply Sc;rotate_left 8;rfl;rotate_left 7;exact kdC)|(apply DL.gsew;apply Sc)|apply DL.Ku|apply DL.Va|apply DL.Gb6|apply DL.Gbe|apply DL.Xk|(apply DL.Gtt;apply hr)|(apply DL.gsiw;apply Sc)|(apply DL.Heq;apply Sc;apply L;assumption;apply hr)|(apply DL.Gb7;first|apply PassesOwn.never|apply L.pas)|(apply DL.Gpf;first|apply PassesOwn.never|apply L.pas)|apply DL.Gcs|apply DL.gs_break|apply DL.gs_pass)|(show GG _ _ _;first|(apply DL.Xl;decide +kernel;decide +kernel;rfl)|(apply DL.ggw;apply Sc)|(apply DL.Gaz;rfl))|(show GGs _ _ _;first|apply DL.Xy|apply DL.Jb)|(show GW _ _ _ _;first|apply DL.Gpd|apply DL.Gdu|apply DL.Gtm|apply DL.Gb5)|(show GO _ _ _ _;first|apply DL.Qs|apply DL.Qt)|(show GI _ _ _ _ _;first|(apply DL.Uh;rotate_left;apply T.b_range)|(apply DL.Gfr;rotate_left;apply T.b_range)|(apply DL.gi_enumL;rotate_left;apply T.b_enumerate)|(apply DL.Ggw;rotate_left;apply T.b_enumerate)|apply DL.Zg)|(show GTs _ _ _ _;first|apply DL.Uq|apply DL.gts_one)|(show Gl _ _;first|(apply DL.Gvw;decide +kernel)|(apply DL.gGS;apply Sc))|rfl|decide +kernel|exact kdC|intro _):p:=h
end DL
namespace Law
open PySem PySem.Spec PyProof.Rows L2 DL
variable{X:Cx}{XQ:XW}
def top(i:Nat):Stmt:=PySem.Challenge.pw_summitwater_k21_who_never_comes_through.main.body.getD i (.Pass ⟨0,0,0,0⟩)
abbrev Zk:Stmt:=top 1
abbrev Zl:Stmt:=top 2
abbrev Wr:Stmt:=top 6
abbrev Wu:Stmt:=top 7
abbrev Gb9:Stmt:=top 8
abbrev Ga1:Stmt:=top 9
abbrev Gaj:Stmt:=top 10
abbrev Gix:Stmt:=top 11
abbrev Gfw:Stmt:=top 14
abbrev Giy:Stmt:=top 15
abbrev Gak:Stmt:=top 29
abbrev Gct:Stmt:=top 28
abbrev Wv:Stmt:=top 30
abbrev Gbf:Stmt:=top 31
abbrev Zm:Stmt:=top 32
abbrev Gbg:Stmt:=top 33
abbrev Ww:Stmt:=top 44
abbrev Vl:Stmt:=top 39
abbrev Zn:Stmt:=top 45
abbrev Zo:Stmt:=top 38
abbrev Gal:Stmt:=top 43
abbrev Xz:Stmt:=top 41
abbrev Wy:Stmt:=top 42
abbrev Giz:Stmt:=top 48
abbrev Gam:Stmt:=top 47
abbrev Gcu:Stmt:=top 46
abbrev Yq:Stmt:=top 40
abbrev Gbh:Stmt:=top 35
abbrev Zp:Stmt:=top 37
abbrev Zq:Stmt:=top 36
abbrev Vu:Stmt:=top 51
abbrev Vv:Stmt:=top 50
abbrev Gbi:Stmt:=top 53
abbrev Gbj:Stmt:=top 54
abbrev Zr:Stmt:=top 55
abbrev Ui:Stmt:=top 56
abbrev Xm:Stmt:=top 57
abbrev Wz:Stmt:=top 58
abbrev Gan:Stmt:=top 59
abbrev Gbk:Stmt:=top 61
abbrev Gcv:Stmt:=top 60
abbrev Gcw:Stmt:=top 62
abbrev Gcx:Stmt:=top 63
abbrev Yr:Stmt:=top 64
abbrev Xn:Stmt:=top 65
abbrev Gao:Stmt:=top 66
abbrev Gbl:Stmt:=top 67
abbrev Gdx:Stmt:=top 68
noncomputable def c_CHAMBER:D:=(.tup [(.str "chamber")])
noncomputable def c_END:D:=(.tup [(.str "end")])
def c_MOST_BARGES:D:=(.int 60)
noncomputable def c_UP:D:=(.str "up")
noncomputable def ys:List Str:=["NoGate","Dry","Full","NoSpring","NoBarge","NoRoom","Uneven","Shallow"]
def ms:List Str:=["NoGate","Dry","Full","NoSpring","NoBarge","NoRoom","Uneven","Shallow"]
structure Hs(K:BM):Prop where
 h_is_whole:FH K "is_whole" Zk
 h_is_tuple:FH K "is_tuple" Zl
 h_has_spring:FH K "has_spring" Wr
 h_most_water:FH K "most_water" Wu
 h_is_dry:FH K "is_dry" Gb9
 h_is_full:FH K "is_full" Ga1
 h_is_shallow:FH K "is_shallow" Gaj
 h_holds:FH K "holds" Gix
 h_higher:FH K "higher" Gfw
 h_lower:FH K "lower" Giy
 h_are_counts:FH K "are_counts" Gak
 h_is_stand:FH K "is_stand" Gct
 h_is_through:FH K "is_through" Wv
 h_barges_of:FH K "barges_of" Gbf
 h_with_barges:FH K "with_barges" Zm
 h_with_more:FH K "with_more" Gbg
 h_check_gate:FH K "check_gate" Ww
 h_place_behind:FH K "place_behind" Vl
 h_check_water:FH K "check_water" Zn
 h_place_ahead:FH K "place_ahead" Zo
 h_check_move:FH K "check_move" Gal
 h_check_let:FH K "check_let" Xz
 h_check_feed:FH K "check_feed" Wy
 h_moved:FH K "moved" Giz
 h_with_water:FH K "with_water" Gam
 h_let_down:FH K "let_down" Gcu
 h_is_last_move:FH K "is_last_move" Yq
 h_deed_done:FH K "deed_done" Gbh
 h_deeds_of:FH K "deeds_of" Zp
 h_steps_by:FH K "steps_by" Zq
 h_stays_among:FH K "stays_among" Vu
 h_shows_never:FH K "shows_never" Vv
 h__law_tape:FH K "_law_tape" Gbi
 h__law_draw:FH K "_law_draw" Gbj
 h__law_facing:FH K "_law_facing" Zr
 h__law_in_pound:FH K "_law_in_pound" Ui
 h__law_kept_out:FH K "_law_kept_out" Xm
 h__law_small:FH K "_law_small" Wz
 h__law_whole:FH K "_law_whole" Gan
 h__law_gone:FH K "_law_gone" Gbk
 h__law_due:FH K "_law_due" Gcv
 h__law_can:FH K "_law_can" Gcw
 h__law_met:FH K "_law_met" Gcx
 h__law_through:FH K "_law_through" Yr
 h__law_is_stand:FH K "_law_is_stand" Xn
 h__law_shows:FH K "_law_shows" Gao
 h__law_bent:FH K "_law_bent" Gbl
 h_law:FH K "law" Gdx
 z_ValueError:PySem.W.nsIn K mainGlobals "ValueError"=some none
 z_all:PySem.W.nsIn K mainGlobals "all"=some none
 z_bool:PySem.W.nsIn K mainGlobals "bool"=some none
 z_enumerate:PySem.W.nsIn K mainGlobals "enumerate"=some none
 z_int:PySem.W.nsIn K mainGlobals "int"=some none
 z_isinstance:PySem.W.nsIn K mainGlobals "isinstance"=some none
 z_len:PySem.W.nsIn K mainGlobals "len"=some none
 z_list:PySem.W.nsIn K mainGlobals "list"=some none
 z_min:PySem.W.nsIn K mainGlobals "min"=some none
 z_range:PySem.W.nsIn K mainGlobals "range"=some none
 z_repr:PySem.W.nsIn K mainGlobals "repr"=some none
 z_reversed:PySem.W.nsIn K mainGlobals "reversed"=some none
 z_str:PySem.W.nsIn K mainGlobals "str"=some none
 z_sum:PySem.W.nsIn K mainGlobals "sum"=some none
 z_tuple:PySem.W.nsIn K mainGlobals "tuple"=some none
structure Txt(K:BM)(mg:Str->BQ BN):Prop where
 b_ValueError:mg "ValueError"=none
 b_all:mg "all"=none
 b_bool:mg "bool"=none
 b_enumerate:mg "enumerate"=none
 b_int:mg "int"=none
 b_isinstance:mg "isinstance"=none
 b_len:mg "len"=none
 b_list:mg "list"=none
 b_min:mg "min"=none
 b_range:mg "range"=none
 b_repr:mg "repr"=none
 b_reversed:mg "reversed"=none
 b_str:mg "str"=none
 b_sum:mg "sum"=none
 b_tuple:mg "tuple"=none
 k_CHAMBER:∃u v,mg "CHAMBER"=some u/\Hg v u/\∀mp H,Rep K mp H c_CHAMBER v
 k_END:∃u v,mg "END"=some u/\Hg v u/\∀mp H,Rep K mp H c_END v
 k_MOST_BARGES:∃u v,mg "MOST_BARGES"=some u/\Hg v u/\∀mp H,Rep K mp H c_MOST_BARGES v
 k_UP:∃u v,mg "UP"=some u/\Hg v u/\∀mp H,Rep K mp H c_UP v
 fv_deed_done:FvT K mg "deed_done"
 xt:XT K mg "SummitError" ys ms
def Txt.c_CHAMBER(T:Txt X.K X.mg)(hg:Gl X "CHAMBER"):GE X XQ (.Name "CHAMBER" pos) (cn c_CHAMBER):=let⟨u,v,h1,h2,h3⟩:=T.k_CHAMBER;⟨Ggp h1 h2 h3 hg (by decide +kernel)⟩
def Txt.c_END(T:Txt X.K X.mg)(hg:Gl X "END"):GE X XQ (.Name "END" pos) (cn c_END):=let⟨u,v,h1,h2,h3⟩:=T.k_END;⟨Ggp h1 h2 h3 hg (by decide +kernel)⟩
def Txt.c_MOST_BARGES(T:Txt X.K X.mg)(hg:Gl X "MOST_BARGES"):GE X XQ (.Name "MOST_BARGES" pos) (cn c_MOST_BARGES):=let⟨u,v,h1,h2,h3⟩:=T.k_MOST_BARGES;⟨Ggp h1 h2 h3 hg (by decide +kernel)⟩
def Txt.c_UP(T:Txt X.K X.mg)(hg:Gl X "UP"):GE X XQ (.Name "UP" pos) (cn c_UP):=let⟨u,v,h1,h2,h3⟩:=T.k_UP;⟨Ggp h1 h2 h3 hg (by decide +kernel)⟩
abbrev Ur:Stmt:=(Gtn (top 17)).getD 0 (.Pass ⟨0,0,0,0⟩)
def sc_init:FnScope ["self","text"] ["self","text"] (Gc Ur):=kdS
def Hcx:OkG (Gc Ur) "ValueError":=⟨by decide +kernel⟩
def Gt0:OkV (Gc Ur) "self":=⟨by decide +kernel⟩
def Gt1:OkV (Gc Ur) "text":=⟨by decide +kernel⟩
def Gm9{P:BR}{w:World}{K:BM}{mg:Str->BQ BN}{base:Heap}(hm:mg "ValueError"=none)(f:BP)(cdv:BN)(A:Around)(outer:List PySem.Env)(s:BO)(H:Hp)(E:XK):PSs (Vj CX0 P w K mg base ["self","text"] "SummitError.__init__" (Gc Ur) f cdv A outer s H E).nox (Hl Ur) (Gvu K):=by
 conv=>arg 2;whnf
 exact Gk8 (Gk9 (Gox (gl Hcx) hm (Ga8 (Gf7 (i:=0) rfl (okV.vis Gt0.h).1) (Ga8 (Gf7 (i:=1) rfl (okV.vis Gt1.h).1) Gj5)) rfl))
structure All(P:BR)(w:World)(K:BM)(mg:Str->BQ BN)(base:Heap):Prop where
 h:Hs K
 g:GH K mg
 t:Txt K mg
 X_Dry:ClX P w K mg base "Dry" 1
 X_Full:ClX P w K mg base "Full" 1
 X_NoBarge:ClX P w K mg base "NoBarge" 1
 X_NoGate:ClX P w K mg base "NoGate" 1
 X_NoRoom:ClX P w K mg base "NoRoom" 1
 X_NoSpring:ClX P w K mg base "NoSpring" 1
 X_Shallow:ClX P w K mg base "Shallow" 1
 X_Uneven:ClX P w K mg base "Uneven" 1
section
variable{P:BR}{w:World}{K:BM}{mg:Str->BQ BN}{base:Heap}
abbrev XH:=vr 0
def Ga2:Sv:=(sret (va (o1 (isD "int") XH) (vn (o1 (isD "bool") XH))))
def Qn:Fn:=fnB 1 Ga2
def Gi0:FnS ["thing"] ["thing"] (Gc Zk):=kdF
abbrev z0:=Gc Zk
def Ggy(Al:All P w K mg base):Cal P w K mg base "is_whole" ["thing"] Qn 1:=by
 have Sc:=Gi0;have T:=Al.t;refine calw (b:=Ga2) 0 Al.h.h_is_whole Al.g Sc rfl fun _ _ _ _ _ _ _ hr=>?_
 conv=>arg 3;whnf
 refine GSs.h ?_;exact gy
abbrev XI:=vr 1
def Vw:Sv:=(sret (va (o1 (isD "tuple") XH) (o2 eqD (b1 Hb (ac XH an)) XI)))
def Kv:Fn:=fnB 2 Vw
def Gi1:FnS ["thing","many"] ["thing","many"] (Gc Zl):=kdF
abbrev z1:=Gc Zl
def Gbm(Al:All P w K mg base):Cal P w K mg base "is_tuple" ["thing","many"] Kv 1:=by
 have Sc:=Gi1;have T:=Al.t;refine calw (b:=Vw) 0 Al.h.h_is_tuple Al.g Sc rfl fun _ _ _ _ _ _ _ hr=>?_
 conv=>arg 3;whnf
 refine GSs.h ?_;exact gy
abbrev XC:=cn (.int 0)
abbrev XY:=cn (.int 4)
abbrev XZ:=o2 getD XH XC
abbrev YA:=cn (.str "pound")
abbrev YZ:=cn .non
def Jo:Sv:=(sret (va (o2 eqD XZ YA) (o2 Gfq (o2 getD XH XY) YZ)))
def Ya:Fn:=fnB 1 Jo
def Ge0:FnS ["place"] ["place"] (Gc Wr):=kdF
abbrev z2:=Gc Wr
def Gdy(Al:All P w K mg base):Cal P w K mg base "has_spring" ["place"] Ya 1:=by
 have Sc:=Ge0;refine calw (b:=Jo) 0 Al.h.h_has_spring Al.g Sc rfl fun _ _ _ _ _ _ _ hr=>?_
 conv=>arg 3;whnf
 refine GSs.h ?_;exact gy
abbrev XE:=cn (.int 1)
abbrev YX:=o2 getD XH XE
def Qu:Sv:=(sq (sif (tb (o2 eqD XH (cn c_END)))
  (sret XC)
  skip)
  (sret (ie (tb (o2 eqD XH (cn c_CHAMBER))) XE YX)))
def Ka:Fn:=fnB 1 Qu
def Ge1:FnS ["place"] ["place"] (Gc Wu):=kdF
abbrev z3:=Gc Wu
def Zs(Al:All P w K mg base):Cal P w K mg base "most_water" ["place"] Ka 1:=by
 have Sc:=Ge1;have T:=Al.t;refine calw (b:=Qu) 0 Al.h.h_most_water Al.g Sc rfl fun _ _ _ _ _ _ _ hr=>?_
 conv=>arg 3;whnf
 refine GSs.h ?_;exact gy
def Zt:Sv:=(sret (va (o2 neD XH (cn c_END)) (o2 eqD XI XC)))
def Gdz:Fn:=fnB 2 Zt
def Gna:FnS ["place","level"] ["place","level"] (Gc Gb9):=kdF
abbrev z4:=Gc Gb9
def Gks(Al:All P w K mg base):Cal P w K mg base "is_dry" ["place","level"] Gdz 1:=by
 have Sc:=Gna;have T:=Al.t;refine calw (b:=Zt) 0 Al.h.h_is_dry Al.g Sc rfl fun _ _ _ _ _ _ _ hr=>?_
 conv=>arg 3;whnf
 refine GSs.h ?_;exact gy
def Xo:Sv:=(sret (va (o2 neD XH (cn c_END)) (o2 geD XI (cl 1 (Gh Ka) (ac XH an)))))
def Gae:Fn:=fnB 2 Xo
def Gkt:FnS ["place","level"] ["place","level"] (Gc Ga1):=kdF
abbrev z5:=Gc Ga1
def Gcy(Al:All P w K mg base):Cal P w K mg base "is_full" ["place","level"] Gae 2:=by
 have Sc:=Gkt;have T:=Al.t;refine calw (b:=Xo) 1 Al.h.h_is_full Al.g Sc rfl fun _ _ _ _ _ _ _ hr=>?_
 conv=>arg 3;whnf
 refine GSs.h ?_;have:=Zs Al;exact gy
abbrev XG:=cn (.int 2)
abbrev Y8:=o2 getD XH XG
def Yb:Sv:=(sret (va (o2 eqD XZ YA) (o2 ltD XI Y8)))
def Qv:Fn:=fnB 2 Yb
def Ge2:FnS ["place","level"] ["place","level"] (Gc Gaj):=kdF
def Gd0(Al:All P w K mg base):Cal P w K mg base "is_shallow" ["place","level"] Qv 1:=by
 have Sc:=Ge2;refine calw (b:=Yb) 0 Al.h.h_is_shallow Al.g Sc rfl fun _ _ _ _ _ _ _ hr=>?_
 conv=>arg 3;whnf
 refine GSs.h ?_;exact gy
abbrev XU:=cn (.int 3)
abbrev X8:=cn (.bl true)
def Gbn:Sv:=(sq (sif (tb (o2 eqD XH (cn c_END)))
  (sret X8)
  skip)
  (sret (o2 leD XI (ie (tb (o2 eqD XH (cn c_CHAMBER))) XE (o2 getD XH XU)))))
def Yc:Fn:=fnB 2 Gbn
def Gps:FnS ["place","barges"] ["place","barges"] (Gc Gix):=kdF
def Gfx(Al:All P w K mg base):Cal P w K mg base "holds" ["place","barges"] Yc 1:=by
 have Sc:=Gps;have T:=Al.t;refine calw (b:=Gbn) 0 Al.h.h_holds Al.g Sc rfl fun _ _ _ _ _ _ _ hr=>?_
 conv=>arg 3;whnf
 refine GSs.h ?_;exact gy
def Zu:Sv:=(sret (ie (tb (o2 eqD (o2 getD YX XI) (cn c_UP))) (o2 Gr XI XE) XI))
def Zv:Fn:=fnB 2 Zu
def Gnb:FnS ["canal","gate"] ["canal","gate"] (Gc Gfw):=kdF
def Ga3(Al:All P w K mg base):Cal P w K mg base "higher" ["canal","gate"] Zv 1:=by
 have Sc:=Gnb;have T:=Al.t;refine calw (b:=Zu) 0 Al.h.h_higher Al.g Sc rfl fun _ _ _ _ _ _ _ hr=>?_
 conv=>arg 3;whnf
 refine GSs.h ?_;exact gy
def Gbo:Sv:=(sret (ie (tb (o2 eqD (o2 getD YX XI) (cn c_UP))) XI (o2 Gr XI XE)))
def Gbp:Fn:=fnB 2 Gbo
def Gpt:FnS ["canal","gate"] ["canal","gate"] (Gc Giy):=kdF
def Gca(Al:All P w K mg base):Cal P w K mg base "lower" ["canal","gate"] Gbp 1:=by
 have Sc:=Gpt;have T:=Al.t;refine calw (b:=Gbo) 0 Al.h.h_lower Al.g Sc rfl fun _ _ _ _ _ _ _ hr=>?_
 conv=>arg 3;whnf
 refine GSs.h ?_;exact gy
abbrev YT:=o2 geD XH XC
def Ky:Sv:=(sret (va (cl 2 (Gh Kv) (ac XH (ac XI an))) (b1 Yu (ac (cmp (isrc XH) [none] (gn 0) ttrue (va (cl 1 (Gh Qn) (ac XH an)) YT)) an))))
def Kb:Fn:=fnB 2 Ky
def Ge3:FnS ["thing","many"] ["thing","many"] (Gc Gak):=kdF
def Gd1(Al:All P w K mg base):Cal P w K mg base "are_counts" ["thing","many"] Kb 2:=by
 have Sc:=Ge3;have T:=Al.t;refine calw (b:=Ky) 1 Al.h.h_are_counts Al.g Sc rfl fun _ _ _ _ _ _ _ hr=>?_
 conv=>arg 3;whnf
 refine GSs.h ?_;have:=Gbm Al;have:=Ggy Al;have W1:=nn ["number"];exact gy
abbrev XJ:=vr 3
abbrev XR:=vr 4
abbrev XS:=cn (.bl false)
abbrev X0:=vr 5
abbrev X9:=vr 6
abbrev YG:=vr 7
abbrev Y5:=o2 getD XJ X9
abbrev QD:=o2 getD XR X9
def Qe:Sv:=(sif (to (tb (o2 gtD Y5 (cl 1 (Gh Ka) (ac YG an)))) (tn (tt (cl 2 (Gh Yc) (ac YG (ac (o2 Gr QD (o2 getD X0 X9)) an))))))
  (sret XS)
  skip)
abbrev XM:=vr 2
abbrev ZV:=isrc XI
def Kw:Sv:=(sq (sa XZ (gn 2))
  (sq (sif (tn (tt (cl 2 (Gh Kv) (ac XI (ac XU an)))))
  (sret XS)
  skip)
  (sq (sif (tn (tt (b1 Yu (ac (cmp ZV [none,some 2] (gn 0) ttrue (cl 2 (Gh Kb) (ac XH (ac (b1 Hb (ac XI an)) an)))) an))))
  (sret XS)
  skip)
  (sq (sa XI (gt (gcons (gn 3) (gcons (gn 4) (gcons (gn 5) gnil))) 3))
  (sq (sfor (ienumerate (ac XM an)) (gt (gcons (gn 6) (gcons (gn 7) gnil)) 2) Qe)
  (sret (o2 leD (o2 Gr (b1 Gaw (ac XR an)) (b1 Gaw (ac X0 an))) (cn c_MOST_BARGES))))))))
def Kc:Fn:=fnB 8 Kw
def Gi2:FnS ["canal","thing","places","levels","rights","lefts","number","place"] ["canal","thing"] (Gc Gct):=kdF
def Ggz(Al:All P w K mg base):Cal P w K mg base "is_stand" ["canal","thing"] Kc 3:=by
 have Sc:=Gi2;have T:=Al.t;refine calw (b:=Kw) 2 Al.h.h_is_stand Al.g Sc rfl fun _ _ _ _ _ _ _ hr=>?_
 conv=>arg 3;whnf
 refine GSs.h ?_;have:=Gbm Al;have:=Gd1 Al;have:=Zs Al;have:=Gfx Al;have W1:=nn ["row","places"];exact gy
abbrev Y6:=o2 getD XI XG
abbrev Y7:=o2 getD XI XE
abbrev ZB:=osome XE
abbrev QJ:=osome XM
def Qw:Sv:=(sq (sa (o2 Uy (b1 Hb (ac XZ an)) XE) (gn 2))
  (sq (spar 3 4 (ac Y7 (ac Y6 an)))
  (sret (va (o2 eqD (b1 Gaw (ac (sl2 XJ onone QJ) an)) XC) (o2 eqD (b1 Gaw (ac (sl2 XR ZB onone) an)) XC)))))
def Vp:Fn:=fnB 5 Qw
def Ge4:FnS ["canal","stand","last","rights","lefts"] ["canal","stand"] (Gc Wv):=kdF
abbrev z12:=Gc Wv
def Hcy:OkC z12 "lefts":=⟨by decide +kernel⟩
def Hcz:OkC z12 "rights":=⟨by decide +kernel⟩
def Gd2(Al:All P w K mg base):Cal P w K mg base "is_through" ["canal","stand"] Vp 1:=by
 have Sc:=Ge4;have T:=Al.t;refine calw (b:=Qw) 0 Al.h.h_is_through Al.g Sc rfl fun _ _ _ _ _ _ _ hr=>?_
 conv=>arg 3;whnf
 refine GSs.h ?_;exact(Gj (gsew 2 Sc (Xx (Kr (gG z12) T.b_len (Ga (He (gw 0 Sc) ge_int) Gf Go)) ge_int))
  (Gj (Gkk 3 4 rfl Sc.nd rfl rfl (by decide) Hcz.h Hcy.h (Ga (He (gw 1 Sc) ge_int) (Ga (He (gw 1 Sc) ge_int) Gf Go) Go) (by rfl))
  (Gy (Ku (Go8 (Go7 hr.units (Ggv rfl (gG z12) T.b_sum (Ga (Jt (gw 3 Sc) Qs (Qt (gw 2 Sc))) Gf Go)) ge_int) (Go9 (Go7 hr.units (Ggv rfl (gG z12) T.b_sum (Ga (Jt (gw 4 Sc) (Qt ge_int) Qs) Gf Go)) ge_int)))))))
abbrev YF:=cn (.str "right")
abbrev ZL:=tb (o2 eqD XI YF)
def Vb:Sv:=(sret (ie ZL YX Y8))
def Wh:Fn:=fnB 2 Vb
def Gg0:FnS ["stand","word"] ["stand","word"] (Gc Gbf):=kdF
def Gap(Al:All P w K mg base):Cal P w K mg base "barges_of" ["stand","word"] Wh 1:=by
 have Sc:=Gg0;refine calw (b:=Vb) 0 Al.h.h_barges_of Al.g Sc rfl fun _ _ _ _ _ _ _ hr=>?_
 conv=>arg 3;whnf
 refine GSs.h ?_;exact gy
def Xa:Sv:=(sq (sa XH (gt (gcons (gn 3) (gcons (gn 4) (gcons (gn 5) gnil))) 3))
  (sret (ie ZL (tp (ac XJ (ac XM (ac X0 an)))) (tp (ac XJ (ac XR (ac XM an)))))))
def Us:Fn:=fnB 6 Xa
def Gd3:FnS ["stand","word","row","levels","rights","lefts"] ["stand","word","row"] (Gc Zm):=kdF
def Gc6(Al:All P w K mg base):Cal P w K mg base "with_barges" ["stand","word","row"] Us 1:=by
 have Sc:=Gd3;refine calw (b:=Xa) 0 Al.h.h_with_barges Al.g Sc rfl fun _ _ _ _ _ _ _ hr=>?_
 conv=>arg 3;whnf
 refine GSs.h ?_;exact gy
def Vc:Sv:=(sret (o2 Gr (o2 Gr (sl2 XH onone (osome XI)) (tp (ac (o2 Gr (o2 getD XH XI) XM) an))) (sl2 XH (osome (o2 Gr XI XE)) onone)))
def Qp:Fn:=fnB 3 Vc
def Gg1:FnS ["row","place","many"] ["row","place","many"] (Gc Gbg):=kdF
def Xb(Al:All P w K mg base):Cal P w K mg base "with_more" ["row","place","many"] Qp 1:=by
 have Sc:=Gg1;refine calw (b:=Vc) 0 Al.h.h_with_more Al.g Sc rfl fun _ _ _ _ _ _ _ hr=>?_
 conv=>arg 3;whnf
 refine GSs.h ?_;exact gy
def Ke:Sv:=(sif (tn (tb (ch leD ltD XC XI (b1 Hb (ac YX an)))))
  (srs "NoGate" (ac (cn (.str "there is no such gate")) an))
  skip)
def Vq:Fn:=fnB 2 Ke
def Ge5:FnS ["canal","gate"] ["canal","gate"] (Gc Ww):=kdF
abbrev z16:=Gc Ww
def Zw(Al:All P w K mg base):CalX P w K mg base "check_gate" ["canal","gate"] Vq 3:=by
 have Sc:=Ge5;have T:=Al.t;refine calxw (b:=Ke) 2 Al.h.h_check_gate Al.g Sc rfl fun _ _ _ _ _ _ _ _ hr L=>?_
 conv=>arg 3;whnf
 refine GSs.h ?_;have:=Al.X_NoGate;exact gy
def Vx:Sv:=(sq (sa XH (gt (gcons (gn 1) (gcons (gn 2) gnil)) 2))
  (sret (ie ZL (o2 Gr XM XE) XM)))
def Ju:Fn:=fnB 3 Vx
def Gc7:FnS ["deed","word","gate"] ["deed"] (Gc Vl):=kdF
abbrev z17:=Gc Vl
def Uj(Al:All P w K mg base):Cal P w K mg base "place_behind" ["deed"] Ju 1:=by
 have Sc:=Gc7;refine calw (b:=Vx) 0 Al.h.h_place_behind Al.g Sc rfl fun _ _ _ _ _ _ _ hr=>?_
 conv=>arg 3;whnf
 refine GSs.h ?_;exact gy
abbrev ZR:=o2 getD XJ X0
def Xc:Sv:=(sq (sa XZ (gn 3))
  (sq (sa (cl 2 (Gh Zv) (ac XH (ac XM an))) (gn 4))
  (sq (sa (cl 2 (Gh Gbp) (ac XH (ac XM an))) (gn 5))
  (sq (sif (ta (tb (o2 eqD (o2 getD XJ XR) (cn c_CHAMBER))) (tb (o2 eqD (o2 getD XI XR) XE)))
  (srs "Uneven" (ac (cn (.str "the higher chamber is full")) an))
  skip)
  (sq (sif (ta (tb (o2 eqD ZR (cn c_CHAMBER))) (tb (o2 eqD (o2 getD XI X0) XC)))
  (srs "Uneven" (ac (cn (.str "the lower chamber is empty")) an))
  skip)
  (sif (to (tt (cl 2 (Gh Qv) (ac (o2 getD XJ XR) (ac (o2 getD XI XR) an)))) (tt (cl 2 (Gh Qv) (ac ZR (ac (o2 getD XI X0) an)))))
  (srs "Shallow" (ac (cn (.str "the pound's level is below its deep")) an))
  skip))))))
def Ut:Fn:=fnB 6 Xc
def Gd4:FnS ["canal","levels","gate","places","high","low"] ["canal","levels","gate"] (Gc Zn):=kdF
def Gc8(Al:All P w K mg base):CalX P w K mg base "check_water" ["canal","levels","gate"] Ut 3:=by
 have Sc:=Gd4;have T:=Al.t;refine calxw (b:=Xc) 2 Al.h.h_check_water Al.g Sc rfl fun _ _ _ _ _ _ _ _ hr L=>?_
 conv=>arg 3;whnf
 refine GSs.h ?_;have:=Ga3 Al;have:=Gca Al;have:=Gd0 Al;have:=Al.X_Uneven;have:=Al.X_Shallow;exact gy
def Xd:Sv:=(sq (sa XH (gt (gcons (gn 1) (gcons (gn 2) gnil)) 2))
  (sret (ie ZL XM (o2 Gr XM XE))))
def Qf:Fn:=fnB 3 Xd
def Gd5:FnS ["deed","word","gate"] ["deed"] (Gc Zo):=kdF
def Ys(Al:All P w K mg base):Cal P w K mg base "place_ahead" ["deed"] Qf 1:=by
 have Sc:=Gd5;refine calw (b:=Xd) 0 Al.h.h_place_ahead Al.g Sc rfl fun _ _ _ _ _ _ _ hr=>?_
 conv=>arg 3;whnf
 refine GSs.h ?_;exact gy
abbrev YN:=o2 getD XI XC
def Kz:Sv:=(sq (sa XM (gt (gcons (gn 3) (gcons (gn 4) gnil)) 2))
  (sq (sx (cl 2 (gX ys Vq) (ac XH (ac XR an))))
  (sq (sif (tb (o2 eqD (o2 getD (cl 2 (Gh Wh) (ac XI (ac XJ an))) (cl 1 (Gh Qf) (ac XM an))) XC))
  (srs "NoBarge" (ac (cn (.str "there is no barge that goes this way")) an))
  skip)
  (sq (sa (cl 1 (Gh Ju) (ac XM an)) (gn 5))
  (sq (sif (tn (tt (cl 2 (Gh Yc) (ac (o2 getD XZ X0) (ac (o2 Gr (o2 Gr (o2 getD Y7 X0) (o2 getD Y6 X0)) XE) an)))))
  (srs "NoRoom" (ac (cn (.str "the place that the barge comes to has no room")) an))
  skip)
  (sx (cl 3 (gX ys Ut) (ac XH (ac YN (ac XR an))))))))))
def Qa:Fn:=fnB 6 Kz
def Ge6:FnS ["canal","stand","deed","word","gate","target"] ["canal","stand","deed"] (Gc Gal):=kdF
def Gd6(Al:All P w K mg base):CalX P w K mg base "check_move" ["canal","stand","deed"] Qa 4:=by
 have Sc:=Ge6;have T:=Al.t;refine calxw (b:=Kz) 3 Al.h.h_check_move Al.g Sc rfl fun _ _ _ _ _ _ _ _ hr L=>?_
 conv=>arg 3;whnf
 refine GSs.h ?_;have:=Zw Al;have:=Gap Al;have:=Ys Al;have:=Uj Al;have:=Gfx Al;have:=Gc8 Al;have:=Al.X_NoBarge;have:=Al.X_NoRoom;exact gy
def Wi:Sv:=(sq (sx (cl 2 (gX ys Vq) (ac XH (ac XM an))))
  (sq (spar 3 4 (ac XZ (ac YN an)))
  (sq (sa (cl 2 (Gh Zv) (ac XH (ac XM an))) (gn 5))
  (sq (sa (cl 2 (Gh Gbp) (ac XH (ac XM an))) (gn 6))
  (sq (sif (tt (cl 2 (Gh Gdz) (ac ZR (ac (o2 getD XR X0) an))))
  (srs "Dry" (ac (cn (.str "the higher place has no lockful")) an))
  skip)
  (sif (tt (cl 2 (Gh Gae) (ac Y5 (ac QD an))))
  (srs "Full" (ac (cn (.str "the lower place takes no lockful")) an))
  skip))))))
def Vd:Fn:=fnB 7 Wi
def Gg2:FnS ["canal","stand","gate","places","levels","high","low"] ["canal","stand","gate"] (Gc Xz):=kdF
abbrev z21:=Gc Xz
def Hc0:OkC z21 "levels":=⟨by decide +kernel⟩
def Hc1:OkC z21 "places":=⟨by decide +kernel⟩
def Ge7(Al:All P w K mg base):CalX P w K mg base "check_let" ["canal","stand","gate"] Vd 4:=by
 have Sc:=Gg2;have T:=Al.t;refine calxw (b:=Wi) 3 Al.h.h_check_let Al.g Sc rfl fun _ _ _ _ _ _ _ _ hr L=>?_
 conv=>arg 3;whnf
 refine GSs.h ?_;exact(Gj (Gbe (Hcq z21 T.xt.xns L (Zw Al) hr (Ga (gw 0 Sc) (Ga (gw 2 Sc) Gf Gg) Gg)))
  (Gj (Gkk 3 4 rfl Sc.nd rfl rfl (by decide) Hc1.h Hc0.h (Ga (He (gw 0 Sc) ge_int) (Ga (He (gw 1 Sc) ge_int) Gf Go) Go) (by rfl))
  (Gj (gsew 5 Sc (gow z21 (Ga3 Al) hr (Ga (gw 0 Sc) (Ga (gw 2 Sc) Gf Gg) Gg)))
  (Gj (gsew 6 Sc (gow z21 (Gca Al) hr (Ga (gw 0 Sc) (Ga (gw 2 Sc) Gf Gg) Gg)))
  (Gj (Va (Wq (gow z21 (Gks Al) hr (Ga (He (gw 3 Sc) (gw 5 Sc)) (Ga (He (gw 4 Sc) (gw 5 Sc)) Gf Go) Go)))
  (Gy (Gim z21 L Al.X_Dry hr (Ga Jz Gf Gb)))
  Js)
  (Gy (Va (Wq (gow z21 (Gcy Al) hr (Ga (He (gw 3 Sc) (gw 6 Sc)) (Ga (He (gw 4 Sc) (gw 6 Sc)) Gf Go) Go)))
  (Gy (Gim z21 L Al.X_Full hr (Ga Jz Gf Gb)))
  Js)))))))
def Yd:Sv:=(sq (spar 3 4 (ac XZ (ac YN an)))
  (sq (sif (to (tn (tb (ch leD ltD XC XM (b1 Hb (ac XJ an))))) (tn (tt (cl 1 (Gh Ya) (ac (o2 getD XJ XM) an)))))
  (srs "NoSpring" (ac (cn (.str "there is no spring at this place")) an))
  skip)
  (sif (tt (cl 2 (Gh Gae) (ac (o2 getD XJ XM) (ac (o2 getD XR XM) an))))
  (srs "Full" (ac (cn (.str "the pound is at its brim")) an))
  skip)))
def Vr:Fn:=fnB 5 Yd
def Ge8:FnS ["canal","stand","number","places","levels"] ["canal","stand","number"] (Gc Wy):=kdF
abbrev z22:=Gc Wy
def Hc2:OkC z22 "levels":=⟨by decide +kernel⟩
def Hc3:OkC z22 "places":=⟨by decide +kernel⟩
def Gd7(Al:All P w K mg base):CalX P w K mg base "check_feed" ["canal","stand","number"] Vr 3:=by
 have Sc:=Ge8;have T:=Al.t;refine calxw (b:=Yd) 2 Al.h.h_check_feed Al.g Sc rfl fun _ _ _ _ _ _ _ _ hr L=>?_
 conv=>arg 3;whnf
 refine GSs.h ?_;exact(Gj (Gkk 3 4 rfl Sc.nd rfl rfl (by decide) Hc3.h Hc2.h (Ga (He (gw 0 Sc) ge_int) (Ga (He (gw 1 Sc) ge_int) Gf Go) Go) (by rfl))
  (Gj (Va (GW.jt (Gdu (Gay (Gil Gnx Gvo Glb Gvn ge_int (gw 2 Sc) (Kr (gG z22) T.b_len (Ga (gw 3 Sc) Gf Gg)))) (Gb5 (Gay (Wq (gow z22 (Gdy Al) hr (Ga (He (gw 3 Sc) (gw 2 Sc)) Gf Go)))))))
  (Gy (Gim z22 L Al.X_NoSpring hr (Ga Jz Gf Gb)))
  Js)
  (Gy (Va (Wq (gow z22 (Gcy Al) hr (Ga (He (gw 3 Sc) (gw 2 Sc)) (Ga (He (gw 4 Sc) (gw 2 Sc)) Gf Go) Go)))
  (Gy (Gim z22 L Al.X_Full hr (Ga Jz Gf Gb)))
  Js))))
def Gg3:Sv:=(sq (sa YN (gn 2))
  (sq (sa (cl 3 (Gh Qp) (ac (cl 2 (Gh Wh) (ac XH (ac XM an))) (ac (cl 1 (Gh Qf) (ac XI an)) (ac (o1 Gds XE) an)))) (gn 3))
  (sret (cl 3 (Gh Us) (ac XH (ac XM (ac (cl 3 (Gh Qp) (ac XJ (ac (cl 1 (Gh Ju) (ac XI an)) (ac XE an)))) an)))))))
def Gdf:Fn:=fnB 4 Gg3
def Gpu:FnS ["stand","deed","word","row"] ["stand","deed"] (Gc Giz):=kdF
def Gnc(Al:All P w K mg base):Cal P w K mg base "moved" ["stand","deed"] Gdf 2:=by
 have Sc:=Gpu;refine calw (b:=Gg3) 1 Al.h.h_moved Al.g Sc rfl fun _ _ _ _ _ _ _ hr=>?_
 conv=>arg 3;whnf
 refine GSs.h ?_;have:=Xb Al;have:=Gap Al;have:=Ys Al;have:=Gc6 Al;have:=Uj Al;exact gy
def Ye:Sv:=(sq (sif (tb (o2 eqD (o2 getD XZ XM) (cn c_END)))
  (sret XI)
  skip)
  (sret (cl 3 (Gh Qp) (ac XI (ac XM (ac XJ an))))))
def Qx:Fn:=fnB 4 Ye
def Ge9:FnS ["canal","levels","place","many"] ["canal","levels","place","many"] (Gc Gam):=kdF
def Gd8(Al:All P w K mg base):Cal P w K mg base "with_water" ["canal","levels","place","many"] Qx 2:=by
 have Sc:=Ge9;have T:=Al.t;refine calw (b:=Ye) 1 Al.h.h_with_water Al.g Sc rfl fun _ _ _ _ _ _ _ hr=>?_
 conv=>arg 3;whnf
 refine GSs.h ?_;have:=Xb Al;exact gy
def Ga4:Sv:=(sq (sa XI (gt (gcons (gn 3) (gcons (gn 4) (gcons (gn 5) gnil))) 3))
  (sq (sa (cl 4 (Gh Qx) (ac XH (ac XJ (ac (cl 2 (Gh Zv) (ac XH (ac XM an))) (ac (o1 Gds XE) an))))) (gn 3))
  (sq (sa (cl 4 (Gh Qx) (ac XH (ac XJ (ac (cl 2 (Gh Gbp) (ac XH (ac XM an))) (ac XE an))))) (gn 3))
  (sret (tp (ac XJ (ac XR (ac X0 an))))))))
def Yf:Fn:=fnB 6 Ga4
def Gi3:FnS ["canal","stand","gate","levels","rights","lefts"] ["canal","stand","gate"] (Gc Gcu):=kdF
def Gg4(Al:All P w K mg base):Cal P w K mg base "let_down" ["canal","stand","gate"] Yf 3:=by
 have Sc:=Gi3;refine calw (b:=Ga4) 2 Al.h.h_let_down Al.g Sc rfl fun _ _ _ _ _ _ _ hr=>?_
 conv=>arg 3;whnf
 refine GSs.h ?_;have:=Gd8 Al;have:=Ga3 Al;have:=Gca Al;exact gy
def Vy:Sv:=(sret (o2 eqD (cl 1 (Gh Ju) (ac XI an)) (ie (tb (o2 eqD YN YF)) (o2 Uy (b1 Hb (ac XZ an)) XE) XC)))
def Qy:Fn:=fnB 2 Vy
def Gc9:FnS ["canal","deed"] ["canal","deed"] (Gc Yq):=kdF
def Gcb(Al:All P w K mg base):Cal P w K mg base "is_last_move" ["canal","deed"] Qy 2:=by
 have Sc:=Gc9;have T:=Al.t;refine calw (b:=Vy) 1 Al.h.h_is_last_move Al.g Sc rfl fun _ _ _ _ _ _ _ hr=>?_
 conv=>arg 3;whnf
 refine GSs.h ?_;have:=Uj Al;exact gy
abbrev ZD:=cn (.str "feed")
abbrev ZF:=cn (.str "let")
def Jc:Sv:=(sq (sa XM (gt (gcons (gn 3) (gcons (gn 4) gnil)) 2))
  (sq (sif (tb (o2 eqD XJ ZF))
  (sq (sx (cl 3 (gX ys Vd) (ac XH (ac XI (ac XR an)))))
  (sret (tp (ac (cl 3 (Gh Yf) (ac XH (ac XI (ac XR an)))) (ac XC (ac XC an))))))
  skip)
  (sq (sif (tb (o2 eqD XJ ZD))
  (sq (sx (cl 3 (gX ys Vr) (ac XH (ac XI (ac XR an)))))
  (sq (sa XI (gt (gcons (gn 5) (gcons (gn 6) (gcons (gn 7) gnil))) 3))
  (sret (tp (ac (tp (ac (cl 3 (Gh Qp) (ac X0 (ac XR (ac XE an)))) (ac X9 (ac YG an)))) (ac (o2 getD (o2 getD XZ XR) XY) (ac XC an)))))))
  skip)
  (sq (sx (cl 3 (gX ys Qa) (ac XH (ac XI (ac XM an)))))
  (sret (tp (ac (cl 2 (Gh Gdf) (ac XI (ac XM an))) (ac XC (ac (ie (tt (cl 2 (Gh Qy) (ac XH (ac XM an)))) XE XC) an)))))))))
def Gx:Fn:=fnB 8 Jc
def Gg5:FnS ["canal","stand","deed","word","number","levels","rights","lefts"] ["canal","stand","deed"] (Gc Gbh):=kdF
def Gfa(Al:All P w K mg base):CalX P w K mg base "deed_done" ["canal","stand","deed"] Gx 5:=by
 have Sc:=Gg5;have T:=Al.t;refine calxw (b:=Jc) 4 Al.h.h_deed_done Al.g Sc rfl fun _ _ _ _ _ _ _ _ hr L=>?_
 conv=>arg 3;whnf
 refine GSs.h ?_;have:=Ge7 Al;have:=Gg4 Al;have:=Gd7 Al;have:=Xb Al;have:=Gd6 Al;have:=Gnc Al;have:=Gcb Al;exact gy
abbrev ZM:=cn (.str "left")
def Vz:Sv:=(sq (sa XH (gt (gcons (gn 1) (gcons (gn 2) gnil)) 2))
  (sq (sa (cmp (ir1 (ac (b1 Hb (ac XM an)) an)) [none] (gn 0) ttrue (tp (ac ZF (ac XH an)))) (gn 3))
  (sq (sa (cmp (ir1 (ac (b1 Hb (ac XI an)) an)) [none] (gn 0) ttrue (tp (ac ZD (ac XH an)))) (gn 4))
  (sq (sa (cmp (ir1 (ac (b1 Hb (ac XM an)) an)) [none] (gn 0) ttrue (tp (ac YF (ac XH an)))) (gn 5))
  (sq (sa (cmp (ir1 (ac (b1 Hb (ac XM an)) an)) [none] (gn 0) ttrue (tp (ac ZM (ac XH an)))) (gn 6))
  (sret (o2 Gr (o2 Gr (o2 Gr XJ XR) X0) X9)))))))
def Yg:Fn:=fnB 7 Vz
def Gi4:FnS ["canal","places","gates","lets","feeds","rights","lefts"] ["canal"] (Gc Zp):=kdF
abbrev z28:=Gc Zp
def Gg6(Al:All P w K mg base):Cal P w K mg base "deeds_of" ["canal"] Yg 1:=by
 have Sc:=Gi4;have T:=Al.t;refine calw (b:=Vz) 0 Al.h.h_deeds_of Al.g Sc rfl fun _ _ _ _ _ _ _ hr=>?_
 conv=>arg 3;whnf
 refine GSs.h ?_;exact(Gj (Gb6 (gw 0 Sc) (Gaz rfl (Jb (ggw 1 Sc) (Jb (ggw 2 Sc) Xy))))
  (Gj (Gfs 3 (N':=["gate"]) (pk:=[none]) Sc (Uh (gG z28) T.b_range (Ga (Kr (gG z28) T.b_len (Ga (gw 2 Sc) Gf Gg)) Gf Up)) (fun cl s2 H2 C fp=>(Xl 0)) (fun cl s2 H2 C fp=>Uq) (fun cl s2 H2 C fp=>(Hj (Ga Jz (Ga (Yp 0) Gf Gg) Gb))))
  (Gj (Gfs 4 (N':=["place"]) (pk:=[none]) Sc (Uh (gG z28) T.b_range (Ga (Kr (gG z28) T.b_len (Ga (gw 1 Sc) Gf Gg)) Gf Up)) (fun cl s2 H2 C fp=>(Xl 0)) (fun cl s2 H2 C fp=>Uq) (fun cl s2 H2 C fp=>(Hj (Ga Jz (Ga (Yp 0) Gf Gg) Gb))))
  (Gj (Gfs 5 (N':=["gate"]) (pk:=[none]) Sc (Uh (gG z28) T.b_range (Ga (Kr (gG z28) T.b_len (Ga (gw 2 Sc) Gf Gg)) Gf Up)) (fun cl s2 H2 C fp=>(Xl 0)) (fun cl s2 H2 C fp=>Uq) (fun cl s2 H2 C fp=>(Hj (Ga Jz (Ga (Yp 0) Gf Gg) Gb))))
  (Gj (Gfs 6 (N':=["gate"]) (pk:=[none]) Sc (Uh (gG z28) T.b_range (Ga (Kr (gG z28) T.b_len (Ga (gw 2 Sc) Gf Gg)) Gf Up)) (fun cl s2 H2 C fp=>(Xl 0)) (fun cl s2 H2 C fp=>Uq) (fun cl s2 H2 C fp=>(Hj (Ga Jz (Ga (Yp 0) Gf Gg) Gb))))
  (Gy (Ku (Jh (Jh (Jh (gw 3 Sc) (gw 4 Sc)) (gw 5 Sc)) (gw 6 Sc)))))))))
def Qg:Sv:=(sa (clv 2 "deed_done" 3 (gX ys Gx) (ac XH (ac XI (ac XR an)))) (gt (gcons (gn 5) (gcons (gn 6) (gcons (gn 7) gnil))) 3))
def Gfb:Sv:=sct
def Ko:Sv:=(sq (Gbd ys (Gth Gfb) Qg)
  (sx (mt Gba XJ (ac (tp (ac XR (ac X0 (ac X9 (ac YG an))))) an))))
abbrev ZP:=ls an
def Wa:Sv:=(sq (sa ZP (gn 3))
  (sq (sfor (isrc (cl 1 (Gh Yg) (ac XH an))) (gn 4) Ko)
  (sret XJ)))
def Wb:Fn:=fnB 8 Wa
def Gi5:FnS ["canal","stand","done","steps","deed","behind","price","gain"] ["canal","stand","done"] (Gc Zq):=kdF
abbrev z29:=Gc Zq
def Gfc:Hi "SummitError"=true:=by decide +kernel
def Gg7(Al:All P w K mg base):Cal P w K mg base "steps_by" ["canal","stand","done"] Wb 6:=by
 have Sc:=Gi5;have T:=Al.t;refine calw (b:=Wa) 5 Al.h.h_steps_by Al.g Sc rfl fun _ _ _ _ _ _ _ hr=>?_
 conv=>arg 3;whnf
 refine GSs.h ?_;exact(Gj (gsew 3 Sc (Ja Gf))
  (Gj (Gb7 PassesOwn.never rfl (Zg (gow z29 (Gg6 Al) hr (Ga (gw 0 Sc) Gf Gg))) (ggw 4 Sc)
  (Gj (Gto ⟨rfl,rfl,rfl⟩ T.xt.cat (gG z29) Gfc (fun pn xe XQ L=>(Gy (Gb6 (Hcr 2 Sc T.xt.xns L (Gfa Al) hr (Ga (gw 0 Sc) (Ga (gw 1 Sc) (Ga (gw 4 Sc) Gf Gg) Gg) Gg)) (Gaz rfl (Jb (ggw 5 Sc) (Jb (ggw 6 Sc) (Jb (ggw 7 Sc) Xy)))))))
  (fun a=>(Gy Gcs)))
  (Gy (Gbe (Gad (gw 3 Sc) (Ga (Hj (Ga (gw 4 Sc) (Ga (gw 5 Sc) (Ga (gw 6 Sc) (Ga (gw 7 Sc) Gf Gg) Gg) Gg) Gg)) Gf Ht))))))
  (Gy (Ku (gw 3 Sc)))))
def Uu:Sv:=(sret (b1 Yu (ac (cmp (isrc (cl 3 (Gh Wb) (ac XH (ac XI (ac (cn (.fv "deed_done")) an))))) [none,none,none,none,some 2] (gt (gcons (gn 0) (gcons (gn 1) (gcons (gn 2) (gcons (gn 3) gnil)))) 4) ttrue (o2 (Gb8 false) XI XR)) an)))
def Uv:Fn:=fnB 3 Uu
def Gd9:FnS ["canal","stand","there"] ["canal","stand","there"] (Gc Vu):=kdF
abbrev z30:=Gc Vu
def Gda(Al:All P w K mg base):Cal P w K mg base "stays_among" ["canal","stand","there"] Uv 7:=by
 have Sc:=Gd9;have T:=Al.t;refine calw (b:=Uu) 6 Al.h.h_stays_among Al.g Sc rfl fun _ _ _ _ _ _ _ hr=>?_
 conv=>arg 3;whnf
 refine GSs.h ?_;exact(Gy (Ku (Ggu rfl (gG z30) T.b_all (Ga (Glk (N':=["deed","behind","price","gain","there"]) (pk:=[none,none,none,none,some 2]) Sc (Zg (gow z30 (Gg7 Al) hr (Ga (gw 0 Sc) (Ga (gw 1 Sc) (Ga (Gzl T.fv_deed_done (gG z30) (by decide +kernel)) Gf Gg) Gg) Gg))) (fun cl s2 H2 C fp=>(Gaz rfl (Jb (Xl 0) (Jb (Xl 1) (Jb (Xl 2) (Jb (Xl 3) Xy)))))) (fun cl s2 H2 C fp=>Uq) (fun cl s2 H2 C fp=>(Gpn hr (Yp 1) (Yp 4)))) Gf Wf))))
def Hw:Sv:=(sif (to (tt (cl 2 (Gh Vp) (ac XH (ac XJ an)))) (tn (tt (cl 3 (Gh Uv) (ac XH (ac XJ (ac XR an)))))))
  (sret XS)
  skip)
abbrev YK:=tn (tt (o1 (isD "list") XM))
abbrev YY:=isrc XM
def Jp:Sv:=(sq (sif (to YK (tn (tt (b1 Yu (ac (cmp YY [none,some 0] (gn 0) ttrue (cl 2 (Gh Kc) (ac XI (ac XH an)))) an)))))
  (sret XS)
  skip)
  (sq (sa (dcm YY [none] (gn 0) ttrue XH X8) (gn 4))
  (sq (sif (to (tb (o2 ltD (b1 Gdw (ac XR an)) (b1 Hb (ac XM an)))) (tb (o2 (Gb8 true) XI XR)))
  (sret XS)
  skip)
  (sq (sfor YY (gn 3) Hw)
  (sret X8)))))
def Hm:Fn:=fnB 5 Jp
def Gea:FnS ["canal","stand","thing","one","there"] ["canal","stand","thing"] (Gc Vv):=kdF
abbrev z31:=Gc Vv
def Gdb(Al:All P w K mg base):Cal P w K mg base "shows_never" ["canal","stand","thing"] Hm 8:=by
 have Sc:=Gea;have T:=Al.t;refine calw (b:=Jp) 7 Al.h.h_shows_never Al.g Sc rfl fun _ _ _ _ _ _ _ hr=>?_
 conv=>arg 3;whnf
 refine GSs.h ?_;exact(Gj (Va (GW.jt (Gdu (Gay (Wq (Gkl (gG z31) (gG z31) Gif T.b_isinstance T.b_list (gw 2 Sc)))) (Gb5 (Gay (Wq (Ggu rfl (gG z31) T.b_all (Ga (Glk (N':=["one","canal"]) (pk:=[none,some 0]) Sc (Zg (gw 2 Sc)) (fun cl s2 H2 C fp=>(Xl 0)) (fun cl s2 H2 C fp=>Uq) (fun cl s2 H2 C fp=>(Gzs (Ggz Al) hr (Ga (Yp 1) (Ga (Yp 0) Gf Gg) Gg)))) Gf Wf)))))))
  (Gy (Ku Gai))
  Js)
  (Gj (Hcw 4 (N':=["one"]) (pk:=[none]) Sc (Zg (gw 2 Sc)) (fun cl s2 H2 C fp=>(Xl 0)) (fun cl s2 H2 C fp=>Uq) (fun cl s2 H2 C fp=>(Yp 0)) (fun cl s2 H2 C fp=>Gai) hr)
  (Gj (Va (GW.jt (Gdu (Gvv (Glq (gG z31) T.b_len (Ga (gw 4 Sc) Gf Gg)) (Kr (gG z31) T.b_len (Ga (gw 2 Sc) Gf Gg))) (Gb5 (Gpm hr (gw 1 Sc) (gw 4 Sc)))))
  (Gy (Ku Gai))
  Js)
  (Gj (Gb7 PassesOwn.never rfl (Zg (gw 2 Sc)) (ggw 3 Sc)
  (Gy (Va (GW.jt (Gdu (Wq (gow z31 (Gd2 Al) hr (Ga (gw 0 Sc) (Ga (gw 3 Sc) Gf Gg) Gg))) (Gb5 (Gay (Wq (gow z31 (Gda Al) hr (Ga (gw 0 Sc) (Ga (gw 3 Sc) (Ga (gw 4 Sc) Gf Gg) Gg) Gg)))))))
  (Gy (Ku Gai))
  Js)))
  (Gy (Ku Gai))))))
def Ve:Sv:=(sret (ls (ac (b1 Uf (ac (sl2 XH onone (osome (cn (.int 63)))) an)) (ac XC (ac XC an)))))
def Wj:Fn:=fnB 1 Ve
def Gg8:FnS ["_law_script"] ["_law_script"] (Gc Gbi):=kdF
def Gfd(Al:All P w K mg base):Cal P w K mg base "_law_tape" ["_law_script"] Wj 1:=by
 have Sc:=Gg8;have T:=Al.t;refine calw (b:=Ve) 0 Al.h.h__law_tape Al.g Sc rfl fun _ _ _ _ _ _ _ hr=>?_
 conv=>arg 3;whnf
 refine GSs.h ?_;exact gy
abbrev YM:=cn (.int 8)
abbrev ZG:=cn (.int 10)
abbrev QL:=cn (.int 18)
def Kx:Sv:=(sq (sif (tb (o2 gtD Y8 XC))
  (sq (sa (o2 Xw Y8 XI) (gn 2))
  (sq (ss (o2 Wg Y8 XI) XH XG Jg)
  (sret XM)))
  skip)
  (sq (sa YX (gn 3))
  (sq (ss (o2 Gr XJ XE) XH XE Jg)
  (sq (sa XC (gn 4))
  (sq (sif (tb (o2 gtD (b1 Hb (ac XZ an)) XC))
  (sa (o2 getD XZ (o2 Xw XJ (b1 Hb (ac XZ an)))) (gn 4))
  skip)
  (sq (sif (ta (tb (o2 ltD XJ (b1 Hb (ac XZ an)))) (tb (o2 geD XR (o2 Ggm ZG QL))))
  (sq (ss (o2 Wg XR XI) XH XG Jg)
  (sret (o2 Xw XR XI)))
  skip)
  (sq (sa (o2 Xw (o2 Je (o2 Gr (o2 Xw XR (cn (.int 1000003))) XE) (o2 Gr (o2 Gr (o2 Je (o2 Je (cn (.int 7919)) XJ) XJ) (o2 Je (cn (.int 104729)) XJ)) (cn (.int 12345)))) (cn (.int 2147483647))) (gn 5))
  (sq (sa (o2 Xw (o2 Gr (o2 Gr (o2 Je X0 X0) (o2 Je (cn (.int 48271)) XJ)) (o2 Xw XR (cn (.int 65537)))) (cn (.int 2147483629))) (gn 5))
  (sret (o2 Xw (o2 Wg X0 YM) XI))))))))))
def Ge:Fn:=fnB 6 Kx
def Gg9:FnS ["_law_tape_here","_law_many","_law_digit","_law_at","_law_cell","_law_mixed"] ["_law_tape_here","_law_many"] (Gc Gbj):=kdF
def Gq(Al:All P w K mg base):Cal P w K mg base "_law_draw" ["_law_tape_here","_law_many"] Ge 1:=by
 have Sc:=Gg9;have T:=Al.t;refine calw (b:=Kx) 0 Al.h.h__law_draw Al.g Sc rfl fun _ _ _ _ _ _ _ hr=>?_
 conv=>arg 3;whnf
 refine GSs.h ?_;exact gy
abbrev ZN:=cn (.str "end")
abbrev XX:=tp (ac ZN an)
abbrev Y0:=cn (.str "chamber")
abbrev X7:=tp (ac Y0 an)
abbrev YB:=cn (.str "down")
abbrev YE:=cn (.str "up")
abbrev YH:=cn (.int 5)
def Xe:Sv:=(sq (sa (o2 getD (ls (ac YZ (ac YH (ac XC an)))) (cl 2 (Gh Ge) (ac XH (ac XU an)))) (gn 1))
  (sq (sa (tp (ac YA (ac (o2 Gr XU (cl 2 (Gh Ge) (ac XH (ac XY an)))) (ac XC (ac XE (ac XI an)))))) (gn 2))
  (sq (sa (tp (ac XX (ac X7 (ac XM (ac X7 (ac XX an)))))) (gn 3))
  (sq (sa (tp (ac XC (ac (cl 2 (Gh Ge) (ac XH (ac XG an))) (ac (o2 getD XM XE) (ac (cl 2 (Gh Ge) (ac XH (ac XG an))) (ac XC an)))))) (gn 4))
  (sret (tp (ac (tp (ac XJ (ac (tp (ac YE (ac YE (ac YB (ac YB an))))) an))) (ac (tp (ac XR (ac (tp (ac XC (ac XE (ac XC (ac XC (ac XC an)))))) (ac (tp (ac XC (ac XC (ac XC (ac XE (ac XC an)))))) an)))) an))))))))
def Qh:Fn:=fnB 5 Xe
def Geb:FnS ["_law_tape_here","_law_price","_law_pound","_law_places","_law_levels"] ["_law_tape_here"] (Gc Zr):=kdF
def Gdc(Al:All P w K mg base):Cal P w K mg base "_law_facing" ["_law_tape_here"] Qh 2:=by
 have Sc:=Geb;refine calw (b:=Xe) 1 Al.h.h__law_facing Al.g Sc rfl fun _ _ _ _ _ _ _ hr=>?_
 conv=>arg 3;whnf
 refine GSs.h ?_;have:=Gq Al;exact gy
abbrev ZO:=tp (ac XE (ac XC an))
def Vm:Sv:=(sq (sa (b1 Gmz (ac XG (ac XI an))) (gn 2))
  (sq (sa (ls (ac (tp (ac XC (ac XC an))) (ac (tp (ac XC (ac XC an))) (ac (tp (ac XM (ac XC an))) (ac (tp (ac XC (ac XM an))) (ac ZO (ac (tp (ac XC (ac XE an))) (ac (tp (ac XE (ac (o2 Uy XM XE) an))) (ac (tp (ac (o2 Uy XM XE) (ac XE an))) an))))))))) (gn 3))
  (sret (o2 getD XJ (cl 2 (Gh Ge) (ac XH (ac YM an)))))))
def Qj:Fn:=fnB 4 Vm
def Gcc:FnS ["_law_tape_here","_law_room","_law_two","_law_some"] ["_law_tape_here","_law_room"] (Gc Ui):=kdF
abbrev z35:=Gc Ui
def Gbq(Al:All P w K mg base):Cal P w K mg base "_law_in_pound" ["_law_tape_here","_law_room"] Qj 2:=by
 have Sc:=Gcc;have T:=Al.t;refine calw (b:=Vm) 1 Al.h.h__law_in_pound Al.g Sc rfl fun _ _ _ _ _ _ _ hr=>?_
 conv=>arg 3;whnf
 refine GSs.h ?_;exact(Gj (gsew 2 Sc (Gzr rfl (gG z35) T.b_min (Ga ge_int (Ga (gw 1 Sc) Gf Gg) Gb)))
  (Gj (gsew 3 Sc (Ja (Ga (Hj (Ga ge_int (Ga ge_int Gf Gb) Gb)) (Ga (Hj (Ga ge_int (Ga ge_int Gf Gb) Gb)) (Ga (Hj (Ga (gw 2 Sc) (Ga ge_int Gf Gb) Gg)) (Ga (Hj (Ga ge_int (Ga (gw 2 Sc) Gf Gg) Gb)) (Ga (Hj (Ga ge_int (Ga ge_int Gf Gb) Gb)) (Ga (Hj (Ga ge_int (Ga ge_int Gf Gb) Gb)) (Ga (Hj (Ga ge_int (Ga (Xx (gw 2 Sc) ge_int) Gf Hu) Gb)) (Ga (Hj (Ga (Xx (gw 2 Sc) ge_int) (Ga ge_int Gf Gb) Hu)) Gf Ht) Ht) Ht) Ht) Ht) Ht) Ht) Ht)))
  (Gy (Ku (He (gw 3 Sc) (gow z35 (Gq Al) hr (Ga (gw 0 Sc) (Ga ge_int Gf Gb) Gg)))))))
abbrev YC:=ls (ac XC an)
abbrev YQ:=tp (ac XX (ac X7 (ac (tp (ac YA (ac XE (ac XR (ac XM (ac YZ an)))))) (ac X7 (ac XX an)))))
abbrev YR:=ls (ac XC (ac XE (ac XJ (ac XE (ac XC an)))))
abbrev ZH:=tp (ac YG (ac (tp (ac YB (ac YE (ac YB (ac YE an))))) an))
abbrev Z1:=ls (ac XG (ac XG (ac XU an)))
abbrev Z2:=ls (ac XC (ac XU (ac XE an)))
abbrev Z3:=ls (ac XC (ac XC (ac XY an)))
abbrev Z4:=ls (ac XC (ac XC (ac XE an)))
def Qk:Sv:=(sq (sa (o2 getD Z1 (cl 2 (Gh Ge) (ac XH (ac XU an)))) (gn 2))
  (sq (sa (cl 2 (Gh Ge) (ac XH (ac XG an))) (gn 3))
  (sq (sa (o2 getD Z4 (cl 2 (Gh Ge) (ac XH (ac XU an)))) (gn 4))
  (sq (sa (cl 2 (Gh Ge) (ac XH (ac XG an))) (gn 5))
  (sq (sa (ls (ac YR (ac (o2 Je YC YH) (ac (o2 Je YC YH) an)))) (gn 6))
  (sq (ss XM (o2 getD X9 XI) XG Jg)
  (sq (ss XE (o2 getD X9 (o2 Uy XU XI)) (o2 getD Z2 XI) Jg)
  (sq (ss X0 (o2 getD X9 XI) (o2 getD Z3 XI) Jg)
  (sq (sif (tb (o2 eqD (cl 2 (Gh Ge) (ac XH (ac XU an))) XC))
  (sq (sa XG (gn 2))
  (sa (ls (ac YR (ac (ls (ac X0 (ac XE (ac XE (ac XC (ac XC an)))))) (ac (ls (ac XC (ac XC (ac XE (ac XE (ac XC an)))))) an)))) (gn 6)))
  skip)
  (sq (sa YQ (gn 7))
  (sret (tp (ac ZH (ac (b1 Qr (ac (cmp (isrc X9) [none] (gn 0) ttrue (b1 Qr (ac XH an))) an)) an))))))))))))))
def Jk:Fn:=fnB 8 Qk
def Gcd:FnS ["_law_tape_here","_law_word","_law_room","_law_level","_law_deep","_law_more","_law_rows","_law_places"] ["_law_tape_here","_law_word"] (Gc Xm):=kdF
def Gbr(Al:All P w K mg base):Cal P w K mg base "_law_kept_out" ["_law_tape_here","_law_word"] Jk 2:=by
 have Sc:=Gcd;have T:=Al.t;refine calw (b:=Qk) 1 Al.h.h__law_kept_out Al.g Sc rfl fun _ _ _ _ _ _ _ hr=>?_
 conv=>arg 3;whnf
 refine GSs.h ?_;have:=Gq Al;have W1:=nn ["_law_row"];exact gy
abbrev YD:=vr 11
abbrev YJ:=vr 9
abbrev YL:=vr 10
abbrev YW:=tp (ac XE an)
abbrev Y2:=vr 12
def Km:Sv:=(sq (ss (cl 2 (Gh Ge) (ac XH (ac (o2 Gr (o2 getD (o2 Gr (o2 getD YL YJ) YW) XE) XE) an))) (o2 getD YD XC) YJ Jg)
  (sq (sa (cl 2 (Gh Ge) (ac XH (ac XU an))) (gn 12))
  (sif (tb (o2 gtD (b1 Hb (ac (o2 getD YL YJ) an)) XE))
  (ss2 (cl 2 (Gh Qj) (ac XH (ac XM an))) (o2 getD YD XE) YJ (o2 getD YD XG) YJ)
  (sif (tb (o2 gtD Y2 XC))
  (ss XE (o2 getD YD Y2) YJ Jg)
  skip))))
abbrev XV:=ls (ac YE (ac YB an))
abbrev YO:=o2 inP XI (ls (ac XC (ac XE (ac XG (ac XU an)))))
abbrev YS:=vr 8
abbrev Y9:=ls (ac XX an)
abbrev ZE:=vr 13
abbrev ZS:=ls (ac XE (ac XG (ac XG (ac XU an))))
abbrev ZT:=ls (ac XC (ac XC (ac XE (ac XR an))))
abbrev ZU:=ls (ac XC (ac XC (ac XE (ac XG an))))
abbrev Z5:=ls (ac X9 (ac X0 (ac X9 an)))
abbrev QF:=ls (ac YE an)
abbrev QG:=ls (ac YB an)
def Vs:Sv:=(sq (sa (cl 2 (Gh Ge) (ac XH (ac YM an))) (gn 1))
  (sq (sif (tb (o2 gtD XI YH))
  (sret (cl 2 (Gh Jk) (ac XH (ac (o2 Uy XI YH) an))))
  skip)
  (sq (sa (o2 Gr XE (cl 2 (Gh Ge) (ac XH (ac XG an)))) (gn 2))
  (sq (sa (o2 getD (ls (ac YZ (ac XU (ac XC (ac (o2 Gr XE (cl 2 (Gh Ge) (ac XH (ac (cn (.int 98)) an)))) an))))) (cl 2 (Gh Ge) (ac XH (ac XY an)))) (gn 3))
  (sq (sa (o2 Gr XE (cl 2 (Gh Ge) (ac XH (ac XG an)))) (gn 4))
  (sq (sa (tp (ac YA (ac XR (ac (o2 getD ZT (cl 2 (Gh Ge) (ac XH (ac XY an)))) (ac XM (ac XJ an)))))) (gn 5))
  (sq (sa X7 (gn 6))
  (sq (sa Z5 (gn 7))
  (sq (sif (tb YO)
  (sa (o2 Je (ls (ac X9 an)) (o2 getD ZS XI)) (gn 7))
  skip)
  (sq (sa (cmp (ir1 (ac (o2 Gr (b1 Hb (ac YG an)) XE) an)) [none,some 0] (gn 0) ttrue (o2 getD XV (cl 2 (Gh Ge) (ac XI (ac XG an))))) (gn 8))
  (sq (sif (tb (o2 eqD (cl 2 (Gh Ge) (ac XH (ac XG an))) XC))
  (sa (o2 Gr (o2 Gr QF (o2 Je (ls (ac (o2 getD XV (cl 2 (Gh Ge) (ac XH (ac XG an)))) an)) (o2 Uy (b1 Hb (ac YG an)) XE))) QG) (gn 8))
  skip)
  (sq (sa (o2 Gr (o2 Gr Y9 YG) Y9) (gn 10))
  (sq (sa (ls (ac (o2 Je YC (b1 Hb (ac YL an))) (ac (o2 Je YC (b1 Hb (ac YL an))) (ac (o2 Je YC (b1 Hb (ac YL an))) an)))) (gn 11))
  (sq (sfor (ir2 (ac XE (ac (o2 Uy (b1 Hb (ac YL an)) XE) an))) (gn 9) Km)
  (sq (sa (o2 getD (ls (ac ZO (ac (tp (ac XG (ac (o2 Uy (b1 Hb (ac YL an)) XE) an))) an))) (cl 2 (Gh Ge) (ac XH (ac XG an)))) (gt (gcons (gn 9) (gcons (gn 13) gnil)) 2))
  (sq (ss (o2 getD ZU (cl 2 (Gh Ge) (ac XH (ac XY an)))) (o2 getD YD YJ) ZE Jg)
  (sq (ss (o2 Wg (cl 2 (Gh Ge) (ac XH (ac XY an))) XU) (o2 getD YD XG) XC Jg)
  (sq (ss (o2 Wg (cl 2 (Gh Ge) (ac XH (ac XY an))) XU) (o2 getD YD XE) (o1 Gds XE) Jg)
  (sq (sif (tb (o2 eqD (cl 2 (Gh Ge) (ac XH (ac YM an))) XC))
  (sret (cl 1 (Gh Qh) (ac XH an)))
  skip)
  (sret (tp (ac (tp (ac (b1 Qr (ac YL an)) (ac (b1 Qr (ac YS an)) an))) (ac (b1 Qr (ac (cmp (isrc YD) [none] (gn 0) ttrue (b1 Qr (ac XH an))) an)) an)))))))))))))))))))))))
def Kf:Fn:=fnB 14 Vs
def Gfe:FnS ["_law_tape_here","_law_kind","_law_room","_law_price","_law_brim","_law_pound","_law_chamber","_law_inner","_law_gates","_law_k","_law_places","_law_rows","_law_way","_law_end"] ["_law_tape_here"] (Gc Wz):=kdF
abbrev z37:=Gc Wz
def Gec(Al:All P w K mg base):Cal P w K mg base "_law_small" ["_law_tape_here"] Kf 3:=by
 have Sc:=Gfe;have T:=Al.t;refine calw (b:=Vs) 2 Al.h.h__law_small Al.g Sc rfl fun _ _ _ _ _ _ _ hr=>?_
 conv=>arg 3;whnf
 refine GSs.h ?_;exact(Gj (gsew 1 Sc (gow z37 (Gq Al) hr (Ga (gw 0 Sc) (Ga ge_int Gf Gb) Gg)))
  (Gj (Va (Glj (gw 1 Sc) ge_int)
  (Gy (Ku (gow z37 (Gbr Al) hr (Ga (gw 0 Sc) (Ga (Xx (gw 1 Sc) ge_int) Gf Hu) Gg))))
  Js)
  (Gj (gsew 2 Sc (Jh ge_int (gow z37 (Gq Al) hr (Ga (gw 0 Sc) (Ga ge_int Gf Gb) Gg))))
  (Gj (gsew 3 Sc (He (Ja (Ga Gki (Ga ge_int (Ga ge_int (Ga (Jh ge_int (gow z37 (Gq Al) hr (Ga (gw 0 Sc) (Ga ge_int Gf Gb) Gg))) Gf Hu) Gb) Gb) Gb)) (gow z37 (Gq Al) hr (Ga (gw 0 Sc) (Ga ge_int Gf Gb) Gg))))
  (Gj (gsew 4 Sc (Jh ge_int (gow z37 (Gq Al) hr (Ga (gw 0 Sc) (Ga ge_int Gf Gb) Gg))))
  (Gj (gsew 5 Sc (Hj (Ga Jz (Ga (gw 4 Sc) (Ga (He (Ja (Ga ge_int (Ga ge_int (Ga ge_int (Ga (gw 4 Sc) Gf Gg) Gb) Gb) Gb)) (gow z37 (Gq Al) hr (Ga (gw 0 Sc) (Ga ge_int Gf Gb) Gg))) (Ga (gw 2 Sc) (Ga (gw 3 Sc) Gf Gg) Gg) Go) Gg) Gb)))
  (Gj (gsew 6 Sc (Hj (Ga Jz Gf Gb)))
  (Gj (gsew 7 Sc (Ja (Ga (gw 6 Sc) (Ga (gw 5 Sc) (Ga (gw 6 Sc) Gf Gg) Gg) Gg)))
  (Gj (Va (Gpj hr (gw 1 Sc) (Ja (Ga ge_int (Ga ge_int (Ga ge_int (Ga ge_int Gf Gb) Gb) Gb) Gb)))
  (Gy (gsew 7 Sc (Gax (Ja (Ga (gw 6 Sc) Gf Gg)) (He (Ja (Ga ge_int (Ga ge_int (Ga ge_int (Ga ge_int Gf Gb) Gb) Gb) Gb)) (gw 1 Sc)))))
  Js)
  (Gj (Gfs 8 (N':=["_law_k","_law_tape_here"]) (pk:=[none,some 0]) Sc (Uh (gG z37) T.b_range (Ga (Jh (Kr (gG z37) T.b_len (Ga (gw 7 Sc) Gf Gg)) ge_int) Gf Hu)) (fun cl s2 H2 C fp=>(Xl 0)) (fun cl s2 H2 C fp=>Uq) (fun cl s2 H2 C fp=>(He (Ja (Ga Jz (Ga Jz Gf Gb) Gb)) (Gzs (Gq Al) hr (Ga (Yp 1) (Ga ge_int Gf Gb) Gg)))))
  (Gj (Va (Gpa hr.units (gow z37 (Gq Al) hr (Ga (gw 0 Sc) (Ga ge_int Gf Gb) Gg)) ge_int)
  (Gy (gsew 8 Sc (Jh (Jh (Ja (Ga Jz Gf Gb)) (Gax (Ja (Ga (He (Ja (Ga Jz (Ga Jz Gf Gb) Gb)) (gow z37 (Gq Al) hr (Ga (gw 0 Sc) (Ga ge_int Gf Gb) Gg))) Gf Go)) (Xx (Kr (gG z37) T.b_len (Ga (gw 7 Sc) Gf Gg)) ge_int))) (Ja (Ga Jz Gf Gb)))))
  Js)
  (Gj (gsew 10 Sc (Jh (Jh (Ja (Ga (Hj (Ga Jz Gf Gb)) Gf Ht)) (gw 7 Sc)) (Ja (Ga (Hj (Ga Jz Gf Gb)) Gf Ht))))
  (Gj (gsew 11 Sc (Ja (Ga (Gax (Ja (Ga ge_int Gf Gb)) (Kr (gG z37) T.b_len (Ga (gw 10 Sc) Gf Gg))) (Ga (Gax (Ja (Ga ge_int Gf Gb)) (Kr (gG z37) T.b_len (Ga (gw 10 Sc) Gf Gg))) (Ga (Gax (Ja (Ga ge_int Gf Gb)) (Kr (gG z37) T.b_len (Ga (gw 10 Sc) Gf Gg))) Gf Hu) Hu) Hu)))
  (Gj (Gb7 PassesOwn.never rfl (Gfr (gG z37) T.b_range (Ga ge_int (Ga (Xx (Kr (gG z37) T.b_len (Ga (gw 10 Sc) Gf Gg)) ge_int) Gf Hu) Gb)) (ggw 9 Sc)
  (Gj (Xk (gow z37 (Gq Al) hr (Ga (gw 0 Sc) (Ga (Jh (He (Jh (He (gw 10 Sc) (gw 9 Sc)) (Hj (Ga ge_int Gf Gb))) ge_int) ge_int) Gf Hu) Gg)) (He (gw 11 Sc) ge_int) (gw 9 Sc))
  (Gj (gsew 12 Sc (gow z37 (Gq Al) hr (Ga (gw 0 Sc) (Ga ge_int Gf Gb) Gg)))
  (Gy (Va (Glj (Kr (gG z37) T.b_len (Ga (He (gw 10 Sc) (gw 9 Sc)) Gf Go)) ge_int)
  (Gy (Gtv (gow z37 (Gbq Al) hr (Ga (gw 0 Sc) (Ga (gw 2 Sc) Gf Gg) Gg)) (He (gw 11 Sc) ge_int) (gw 9 Sc) (He (gw 11 Sc) ge_int) (gw 9 Sc)))
  (Gy (Va (Glj (gw 12 Sc) ge_int)
  (Gy (Xk ge_int (He (gw 11 Sc) (gw 12 Sc)) (gw 9 Sc)))
  Js)))))))
  (Gj (Gb6 (He (Ja (Ga (Hj (Ga ge_int (Ga ge_int Gf Gb) Gb)) (Ga (Hj (Ga ge_int (Ga (Xx (Kr (gG z37) T.b_len (Ga (gw 10 Sc) Gf Gg)) ge_int) Gf Hu) Gb)) Gf Ht) Ht)) (gow z37 (Gq Al) hr (Ga (gw 0 Sc) (Ga ge_int Gf Gb) Gg))) (Gaz rfl (Jb (ggw 9 Sc) (Jb (ggw 13 Sc) Xy))))
  (Gj (Xk (He (Ja (Ga ge_int (Ga ge_int (Ga ge_int (Ga ge_int Gf Gb) Gb) Gb) Gb)) (gow z37 (Gq Al) hr (Ga (gw 0 Sc) (Ga ge_int Gf Gb) Gg))) (He (gw 11 Sc) (gw 9 Sc)) (gw 13 Sc))
  (Gj (Xk (Ggs (gow z37 (Gq Al) hr (Ga (gw 0 Sc) (Ga ge_int Gf Gb) Gg)) ge_int) (He (gw 11 Sc) ge_int) ge_int)
  (Gj (Xk (Ggs (gow z37 (Gq Al) hr (Ga (gw 0 Sc) (Ga ge_int Gf Gb) Gg)) ge_int) (He (gw 11 Sc) ge_int) (Gkj ge_int))
  (Gj (Va (Gpa hr.units (gow z37 (Gq Al) hr (Ga (gw 0 Sc) (Ga ge_int Gf Gb) Gg)) ge_int)
  (Gy (Ku (gow z37 (Gdc Al) hr (Ga (gw 0 Sc) Gf Gg))))
  Js)
  (Gy (Ku (Hj (Ga (Hj (Ga (Zf (gG z37) T.b_tuple (Ga (gw 10 Sc) Gf Gg)) (Ga (Zf (gG z37) T.b_tuple (Ga (gw 8 Sc) Gf Gg)) Gf Up) Up)) (Ga (Zf (gG z37) T.b_tuple (Ga (Glk (N':=["_law_row"]) (pk:=[none]) Sc (Zg (gw 11 Sc)) (fun cl s2 H2 C fp=>(Xl 0)) (fun cl s2 H2 C fp=>Uq) (fun cl s2 H2 C fp=>(Zf Gvw T.b_tuple (Ga (Yp 0) Gf Gg)))) Gf Wf)) Gf Up) Ht)))))))))))))))))))))))
def Yh:Sv:=(sret (va (o1 (isD "int") XH) (vn (o1 (isD "bool") XH))))
def Kg:Fn:=fnB 1 Yh
def Gff:FnS ["_law_thing"] ["_law_thing"] (Gc Gan):=kdF
def Ged(Al:All P w K mg base):Cal P w K mg base "_law_whole" ["_law_thing"] Kg 1:=by
 have Sc:=Gff;have T:=Al.t;refine calw (b:=Yh) 0 Al.h.h__law_whole Al.g Sc rfl fun _ _ _ _ _ _ _ hr=>?_
 conv=>arg 3;whnf
 refine GSs.h ?_;exact gy
abbrev ZQ:=o2 getD YS XC
def Jv:Sv:=(sif (ta (tb (o2 eqD (o2 getD (o2 getD X0 ZE) XC) YA)) (tb (o2 ltD (o2 getD ZQ ZE) (o2 getD (o2 getD X0 ZE) XG))))
  (sret (cn (.str "shallow")))
  skip)
abbrev ZJ:=o2 getD YS YJ
abbrev QE:=o2 getD X0 YD
def Zx:Sv:=(sq (sa XZ (gn 5))
  (sq (sa XM (gt (gcons (gn 6) (gcons (gn 7) gnil)) 2))
  (sq (sa (cmp ZV [none] (gn 0) ttrue (b1 Uf (ac XH an))) (gn 8))
  (sq (sa (o2 getD (ls (ac XG (ac XE an))) (b1 Gev (ac (o2 eqD X9 YF) an))) (gn 9))
  (sq (sa (o2 Gr YG (b1 Gev (ac (o2 eqD X9 ZM) an))) (gn 10))
  (sq (sa (o2 Uy (o2 Gr (o2 Je XG YG) XE) YL) (gn 11))
  (sq (sif (tb (o2 eqD (o2 getD ZJ YL) XC))
  (sret (cn (.str "nobarge")))
  skip)
  (sq (sa (o2 Gr (o2 getD (o2 getD YS XE) YD) (o2 getD (o2 getD YS XG) YD)) (gn 12))
  (sq (sif (ta (tb (o2 eqD (o2 getD QE XC) Y0)) (tb (o2 gtD Y2 XC)))
  (sret (cn (.str "noroom")))
  skip)
  (sq (sif (ta (tb (o2 eqD (o2 getD QE XC) YA)) (tb (o2 geD Y2 (o2 getD QE XU))))
  (sret (cn (.str "noroom")))
  skip)
  (sq (sif (ta (tb (o2 eqD (o2 getD (o2 getD X0 XJ) XC) Y0)) (tb (o2 gtD (o2 getD ZQ XJ) XC)))
  (sret (cn (.str "uneven")))
  skip)
  (sq (sif (ta (tb (o2 eqD (o2 getD (o2 getD X0 XR) XC) Y0)) (tb (o2 eqD (o2 getD ZQ XR) XC)))
  (sret (cn (.str "uneven")))
  skip)
  (sq (sfor (isrc (ls (ac XJ (ac XR an)))) (gn 13) Jv)
  (sq (ss (o2 Uy (o2 getD ZJ YL) XE) ZJ YL Jg)
  (sq (ss (o2 Gr (o2 getD ZJ YD) XE) ZJ YD Jg)
  (sq (sa (b1 Gev (ac (o2 eqD YD (o2 getD (ls (ac XC (ac (o2 Uy (b1 Hb (ac X0 an)) XE) an))) (b1 Gev (ac (o2 eqD X9 YF) an)))) an)) (gn 14))
  (sret (tp (ac (tp (ac (b1 Qr (ac ZQ an)) (ac (b1 Qr (ac (o2 getD YS XE) an)) (ac (b1 Qr (ac (o2 getD YS XG) an)) an)))) (ac XC (ac (vr 14) an)))))))))))))))))))))
def Wl:Fn:=fnB 15 Zx
def Gha:FnS ["_law_canal_here","_law_stand_here","_law_deed","_law_up","_law_down","_law_places","_law_word","_law_n","_law_rows","_law_own","_law_start","_law_goal","_law_there","_law_at","_law_gain"] ["_law_canal_here","_law_stand_here","_law_deed","_law_up","_law_down"] (Gc Gbk):=kdF
def Gfg(Al:All P w K mg base):Cal P w K mg base "_law_gone" ["_law_canal_here","_law_stand_here","_law_deed","_law_up","_law_down"] Wl 1:=by
 have Sc:=Gha;have T:=Al.t;refine calw (b:=Zx) 0 Al.h.h__law_gone Al.g Sc rfl fun _ _ _ _ _ _ _ hr=>?_
 conv=>arg 3;whnf
 refine GSs.h ?_;have W1:=nn ["_law_row"];exact gy
def Qo:Sv:=(sq (sa XH (gt (gcons (gn 3) (gcons (gn 4) gnil)) 2))
  (sq (sa XM (gt (gcons (gn 5) (gcons (gn 6) gnil)) 2))
  (sq (sa (b1 Uf (ac YN an)) (gn 7))
  (sq (sif (tb (o2 eqD X0 ZD))
  (sq (sif (to (tb (o2 ltD X9 XC)) (to (tb (o2 geD X9 (b1 Hb (ac XJ an)))) (tb (o2 neD (o2 getD Y5 XC) YA))))
  (sret (cn (.str "nospring")))
  skip)
  (sq (sif (tb (o2 Ggn (o2 getD Y5 XY) YZ))
  (sret (cn (.str "nospring")))
  skip)
  (sq (sif (tb (o2 eqD (o2 getD YG X9) (o2 getD Y5 XE)))
  (sret (cn (.str "full")))
  skip)
  (sq (ss (o2 Gr (o2 getD YG X9) XE) YG X9 Jg)
  (sret (tp (ac (tp (ac (b1 Qr (ac YG an)) (ac Y7 (ac Y6 an)))) (ac (o2 getD Y5 XY) (ac XC an)))))))))
  skip)
  (sq (sif (to (tb (o2 ltD X9 XC)) (tb (o2 geD X9 (b1 Hb (ac XR an)))))
  (sret (cn (.str "nogate")))
  skip)
  (sq (sa (o2 Gr X9 (b1 Gev (ac (o2 eqD QD YE) an))) (gn 8))
  (sq (sa (o2 Uy (o2 Gr (o2 Je XG X9) XE) YS) (gn 9))
  (sq (sif (tb (o2 neD X0 ZF))
  (sret (cl 5 (Gh Wl) (ac XH (ac XI (ac XM (ac YS (ac YJ an)))))))
  skip)
  (sq (sif (tb (o2 neD (o2 getD (o2 getD XJ YS) XC) ZN))
  (sq (sif (tb (o2 eqD (o2 getD YG YS) XC))
  (sret (cn (.str "dry")))
  skip)
  (ss (o2 Uy (o2 getD YG YS) XE) YG YS Jg))
  skip)
  (sq (sif (tb (o2 neD (o2 getD (o2 getD XJ YJ) XC) ZN))
  (sq (sif (tb (o2 eqD (o2 getD YG YJ) (o2 getD (o2 Gr (o2 getD XJ YJ) YW) XE)))
  (sret (cn (.str "full")))
  skip)
  (ss (o2 Gr (o2 getD YG YJ) XE) YG YJ Jg))
  skip)
  (sret (tp (ac (tp (ac (b1 Qr (ac YG an)) (ac Y7 (ac Y6 an)))) (ac XC (ac XC an)))))))))))))))
def Hk:Fn:=fnB 10 Qo
def Gi6:FnS ["_law_canal_here","_law_stand_here","_law_deed","_law_places","_law_gates","_law_word","_law_n","_law_levels","_law_up","_law_down"] ["_law_canal_here","_law_stand_here","_law_deed"] (Gc Gcv):=kdF
def Ghb(Al:All P w K mg base):Cal P w K mg base "_law_due" ["_law_canal_here","_law_stand_here","_law_deed"] Hk 2:=by
 have Sc:=Gi6;have T:=Al.t;refine calw (b:=Qo) 1 Al.h.h__law_due Al.g Sc rfl fun _ _ _ _ _ _ _ hr=>?_
 conv=>arg 3;whnf
 refine GSs.h ?_;have:=Gfg Al;exact gy
def Qi:Sv:=(sq (sa (cl 3 (Gh Hk) (ac XH (ac XI (ac (tp (ac XJ (ac XR an))) an)))) (gn 5))
  (sif (tn (tt (o1 (isD "str") X0)))
  (sx (mt Gba XM (ac (tp (ac (tp (ac XJ (ac XR an))) (ac X0 an))) an)))
  skip))
def Uw:Sv:=(sfor (ir1 (ac (b1 Hb (ac XZ an)) an)) (gn 4) Qi)
def Ga5:Sv:=(sq (sa ZP (gn 2))
  (sq (sfor (isrc (ls (ac ZF (ac ZD (ac YF (ac ZM an)))))) (gn 3) Uw)
  (sret XM)))
def Kh:Fn:=fnB 6 Ga5
def Gi7:FnS ["_law_canal_here","_law_stand_here","_law_found","_law_word","_law_n","_law_told"] ["_law_canal_here","_law_stand_here"] (Gc Gcw):=kdF
def Gbs(Al:All P w K mg base):Cal P w K mg base "_law_can" ["_law_canal_here","_law_stand_here"] Kh 3:=by
 have Sc:=Gi7;have T:=Al.t;refine calw (b:=Ga5) 2 Al.h.h__law_can Al.g Sc rfl fun _ _ _ _ _ _ _ hr=>?_
 conv=>arg 3;whnf
 refine GSs.h ?_;have:=Ghb Al;exact gy
abbrev Z9:=o2 getD YG XC
def Hn:Sv:=(sif (tb (o2 (Gb8 true) Z9 XR))
  (sq (ss X8 XR Z9 dsetD)
  (sq (sx (mt Gba XJ (ac Z9 an)))
  (sif (tb (o2 gtD (b1 Hb (ac XJ an)) XM))
  (sret YZ)
  skip)))
  skip)
def Hz:Sv:=(sq (sfor (isrc (cl 2 (Gh Kh) (ac XH (ac ZR an)))) (gt (gcons (gn 6) (gcons (gn 7) gnil)) 2) Hn)
  (sa (o2 Gr X0 XE) (gn 5)))
def Jq:Ev Bool:=(tb (o2 ltD X0 (b1 Hb (ac XJ an))))
abbrev QH:=ls (ac XI an)
def Yi:Sv:=(sq (sa QH (gn 3))
  (sq (sa (Gfu XI X8) (gn 4))
  (sq (sa XC (gn 5))
  (sq (whN Jq Hz 3000)
  (sret XJ)))))
def Hx:Fn:=fnB 8 Yi
def Gi8:FnS ["_law_canal_here","_law_stand_here","_law_most","_law_found","_law_known","_law_at","_law_deed","_law_told"] ["_law_canal_here","_law_stand_here","_law_most"] (Gc Gcx):=kdF
def Gbt(Al:All P w K mg base):Cal P w K mg base "_law_met" ["_law_canal_here","_law_stand_here","_law_most"] Hx 4:=by
 have Sc:=Gi8;have T:=Al.t;refine calw (b:=Yi) 3 Al.h.h__law_met Al.g Sc rfl fun _ _ _ _ _ _ _ hr=>?_
 conv=>arg 3;whnf
 refine GSs.h ?_;have:=Gbs Al;exact gy
def Wc:Sv:=(sret (o2 eqD (o2 Gr (b1 Gaw (ac (sl2 YX onone (osome (o1 Gds XE))) an)) (b1 Gaw (ac (sl2 Y8 ZB onone) an))) XC))
def Jj:Fn:=fnB 1 Wc
def Gdd:FnS ["_law_stand_here"] ["_law_stand_here"] (Gc Yr):=kdF
def Gce(Al:All P w K mg base):Cal P w K mg base "_law_through" ["_law_stand_here"] Jj 1:=by
 have Sc:=Gdd;have T:=Al.t;refine calw (b:=Wc) 0 Al.h.h__law_through Al.g Sc rfl fun _ _ _ _ _ _ _ hr=>?_
 conv=>arg 3;whnf
 refine GSs.h ?_;exact gy
abbrev ZY:=tn (tt (o1 (isD "tuple") XM))
def Hd:Sv:=(sq (sif (to ZY (tb (o2 neD (b1 Hb (ac XM an)) (b1 Hb (ac XZ an)))))
  (sret XS)
  skip)
  (sif (tn (tt (b1 Yu (ac (cmp YY [none] (gn 0) ttrue (va (cl 1 (Gh Kg) (ac XH an)) YT)) an))))
  (sret XS)
  skip))
abbrev Z8:=o2 getD YN XJ
abbrev QA:=o2 getD XR XC
def Gw:Sv:=(sq (sa (o2 Gr (o2 getD Y7 XJ) (o2 getD Y6 XJ)) (gn 5))
  (sq (sif (ta (tb (o2 eqD QA ZN)) (tb (o2 gtD Z8 XC)))
  (sret XS)
  skip)
  (sq (sif (ta (tb (o2 eqD QA Y0)) (to (tb (o2 gtD Z8 XE)) (tb (o2 gtD X0 XE))))
  (sret XS)
  skip)
  (sif (ta (tb (o2 eqD QA YA)) (to (tb (o2 gtD Z8 (o2 getD XR XE))) (tb (o2 gtD X0 (o2 getD XR XU)))))
  (sret XS)
  skip))))
abbrev Z0:=tn (tt (o1 (isD "tuple") XI))
def Ql:Sv:=(sq (sif (to Z0 (tb (o2 neD (b1 Hb (ac XI an)) XU)))
  (sret XS)
  skip)
  (sq (sfor ZV (gn 2) Hd)
  (sq (sfor (ienumerate (ac XZ an)) (gt (gcons (gn 3) (gcons (gn 4) gnil)) 2) Gw)
  (sret (o2 leD (o2 Gr (b1 Gaw (ac Y7 an)) (b1 Gaw (ac Y6 an))) (cn (.int 60)))))))
def Jf:Fn:=fnB 6 Ql
def Gcf:FnS ["_law_canal_here","_law_thing","_law_row","_law_k","_law_place","_law_here"] ["_law_canal_here","_law_thing"] (Gc Xn):=kdF
def Gbu(Al:All P w K mg base):Cal P w K mg base "_law_is_stand" ["_law_canal_here","_law_thing"] Jf 2:=by
 have Sc:=Gcf;have T:=Al.t;refine calw (b:=Ql) 1 Al.h.h__law_is_stand Al.g Sc rfl fun _ _ _ _ _ _ _ hr=>?_
 conv=>arg 3;whnf
 refine GSs.h ?_;have:=Ged Al;have W1:=nn ["_law_one"];exact gy
def Hv:Sv:=(sif (tb (o2 Hcs (o2 getD X0 XC) XM))
  (sret XS)
  skip)
def Jl:Sv:=(sq (sif (to (tn (tt (cl 2 (Gh Jf) (ac XH (ac XJ an))))) (tt (cl 1 (Gh Jj) (ac XJ an))))
  (sret XS)
  skip)
  (sq (sif (tb (o2 neD (mt Giw XM (ac XJ an)) XE))
  (sret XS)
  skip)
  (sfor (isrc (cl 2 (Gh Kh) (ac XH (ac XJ an)))) (gt (gcons (gn 4) (gcons (gn 5) gnil)) 2) Hv)))
def Qz:Sv:=(sq (sif YK
  (sret XS)
  skip)
  (sq (sfor YY (gn 3) Jl)
  (sret (o2 inP XI XM))))
def Ji:Fn:=fnB 6 Qz
def Gfh:FnS ["_law_canal_here","_law_stand_here","_law_thing","_law_one","_law_deed","_law_told"] ["_law_canal_here","_law_stand_here","_law_thing"] (Gc Gao):=kdF
def Gee(Al:All P w K mg base):Cal P w K mg base "_law_shows" ["_law_canal_here","_law_stand_here","_law_thing"] Ji 4:=by
 have Sc:=Gfh;have T:=Al.t;refine calw (b:=Qz) 3 Al.h.h__law_shows Al.g Sc rfl fun _ _ _ _ _ _ _ hr=>?_
 conv=>arg 3;whnf
 refine GSs.h ?_;have:=Gbu Al;have:=Gce Al;have:=Gbs Al;exact gy
abbrev Y1:=sl2 XI onone QJ
abbrev Y3:=o2 getD XJ XE
abbrev Y4:=o2 getD XJ XC
abbrev ZI:=osome XG
abbrev ZK:=o2 getD XJ XG
abbrev Z6:=tb (o2 eqD XR (cn (.int 9)))
def Jw:Sv:=(sq (sa (cl 2 (Gh Ge) (ac (vr 0) (ac (b1 Hb (ac (vr 1) an)) an))) (gn 2))
  (sq (sa (o2 getD (vr 1) (vr 2)) (gn 3))
  (sq (sa (cl 2 (Gh Ge) (ac (vr 0) (ac (cn (.int 12)) an))) (gn 4))
  (sq (sa (ls (ac (tp (ac (o2 getD (vr 3) (cn (.int 0))) (ac (o2 getD (vr 3) (cn (.int 1))) an))) (ac (b1 Uf (ac (vr 3) an)) (ac (tp (ac (o2 getD (vr 3) (cn (.int 0))) (ac (o2 getD (vr 3) (cn (.int 1))) (ac (b1 Uf (ac (o2 getD (vr 3) (cn (.int 2))) an)) an)))) (ac (tp (ac (o2 getD (vr 3) (cn (.int 0))) (ac (o2 getD (vr 3) (cn (.int 2))) (ac (o2 getD (vr 3) (cn (.int 1))) an)))) (ac (tp (ac (o2 Gr (tp (ac (cn (.int 0)) (ac (cn (.bl true)) an))) (sl2 (o2 getD (vr 3) (cn (.int 0))) (osome (cn (.int 2))) onone)) (ac (o2 getD (vr 3) (cn (.int 1))) (ac (o2 getD (vr 3) (cn (.int 2))) an)))) (ac (tp (ac (o2 Gr (tp (ac (cn (.int 0)) (ac (cn (.int 2)) an))) (sl2 (o2 getD (vr 3) (cn (.int 0))) (osome (cn (.int 2))) onone)) (ac (o2 getD (vr 3) (cn (.int 1))) (ac (o2 getD (vr 3) (cn (.int 2))) an)))) (ac (cn .non) (ac (cn (.int 0)) an))))))))) (gn 5))
  (sq (sif (tb (o2 ltD (vr 4) (cn (.int 8))))
  (sret (o2 Gr (o2 Gr (sl2 (vr 1) onone (osome (vr 2))) (ls (ac (o2 getD (vr 5) (vr 4)) an))) (sl2 (vr 1) (osome (o2 Gr (vr 2) (cn (.int 1)))) onone)))
  skip)
  (sq (sif (tb (o2 eqD (vr 4) (cn (.int 8))))
  (sret (o2 Gr (sl2 (vr 1) onone (osome (vr 2))) (sl2 (vr 1) (osome (o2 Gr (vr 2) (cn (.int 1)))) onone)))
  skip)
  (sq (sif (tb (o2 eqD (vr 4) (cn (.int 9))))
  (sret (o2 Gr (vr 1) (ls (ac (vr 3) an))))
  skip)
  (sq (sif (tb (o2 eqD (vr 4) (cn (.int 10))))
  (sret (b1 Qr (ac (vr 1) an)))
  skip)
  (sret (o2 getD (ls (ac (cn .non) (ac (ls an) (ac (cn (.str "")) (ac (ls (ac (ls an) an)) (ac (tp an) an)))))) (cl 2 (Gh Ge) (ac (vr 0) (ac (cn (.int 5)) an)))))))))))))
def Wm:Fn:=fnB 6 Jw
def Ghc:FnS ["_law_tape_here","_law_list","_law_at","_law_one","_law_way","_law_some"] ["_law_tape_here","_law_list"] (Gc Gbl):=kdF
def Gfi(Al:All P w K mg base):Cal P w K mg base "_law_bent" ["_law_tape_here","_law_list"] Wm 2:=by
 have Sc:=Ghc;have T:=Al.t;refine calw (b:=Jw) 1 Al.h.h__law_bent Al.g Sc rfl fun _ _ _ _ _ _ _ hr=>?_
 conv=>arg 3;whnf
 refine GSs.h ?_;have:=Gq Al;exact gy
def Xp:Sv:=(sx (mt Gba YJ (ac (cl 2 (Gh Wm) (ac XI (ac XR an))) an)))
def Xq:Sv:=(sq (sa (b1 Yo (ac (vr 15) an)) (gn 16))
  (sq (sa (cl 3 (Gh Hm) (ac XM (ac XJ (ac (vr 15) an)))) (gn 17))
  (sq (sif (to (tn (tt (o1 (isD "bool") (vr 17)))) (tb (o2 neD (b1 Yo (ac (vr 15) an)) (vr 16))))
  (sret XS)
  skip)
  (sif (tb (o2 neD (vr 17) (cl 3 (Gh Ji) (ac XM (ac XJ (ac (vr 15) an))))))
  (sret XS)
  skip))))
abbrev ZA:=cn (.int 100)
abbrev Z7:=ir1 (ac XY an)
abbrev QI:=tp (ac (cn (.int 61)) an)
abbrev QK:=osome X0
def Gls:Sv:=(sq (sa (cl 1 (Gh Wj) (ac XH an)) (gn 1))
  (sq (sa (cl 1 (Gh Kf) (ac XI an)) (gt (gcons (gn 2) (gcons (gn 3) gnil)) 2))
  (sq (sa (cl 3 (Gh Hx) (ac XM (ac XJ (ac ZA an)))) (gn 4))
  (sq (sif (tb (o2 Ggn XR YZ))
  (sret X8)
  skip)
  (sq (sa (cl 2 (Gh Ge) (ac XI (ac (b1 Hb (ac XR an)) an))) (gn 5))
  (sq (sa (o2 Gr (sl2 XR QK onone) (sl2 XR onone QK)) (gn 6))
  (sq (sa (cl 3 (Gh Hx) (ac XM (ac (o2 getD XR X0) (ac ZA an)))) (gn 7))
  (sq (sa (tp (ac Y4 (ac Y3 (ac (o2 Gr (o2 Je (tp (ac XC an)) (o2 Uy (b1 Hb (ac ZK an)) XE)) YW) an)))) (gn 8))
  (sq (sa (ls (ac XR (ac X9 (ac YG (ac (o2 Gr (b1 Giu (ac XR an)) (ls (ac YS an))) an))))) (gn 9))
  (sq (sfor Z7 (gn 10) Xp)
  (sq (sa XJ (gt (gcons (gn 11) (gcons (gn 12) (gcons (gn 13) gnil))) 3))
  (sq (sa (ls (ac (tp (ac (o2 Gr (o2 Gr (sl2 YD onone ZB) (tp (ac ZG an))) (sl2 YD ZI onone)) (ac Y2 (ac ZE an)))) (ac (tp (ac YD (ac (o2 Gr (o2 Gr (sl2 Y2 onone ZB) (tp (ac XG an))) (sl2 Y2 ZI onone)) (ac ZE an)))) (ac (tp (ac YD (ac (o2 Gr QI (sl2 Y2 ZB onone)) (ac ZE an)))) (ac (tp (ac (o2 Gr (sl2 YD onone (osome (o1 Gds XE))) YW) (ac Y2 (ac ZE an)))) an))))) (gn 14))
  (sq (sx (mt Gba YJ (ac (o2 Gr XR (ls (ac (o2 getD (vr 14) (cl 2 (Gh Ge) (ac XI (ac XY an)))) an))) an)))
  (sq (sfor (isrc YJ) (gn 15) Xq)
  (sret X8)))))))))))))))
def Gbv:Fn:=fnB 18 Gls
def Gzy:FnS ["_law_script","_law_tape_here","_law_canal_here","_law_stand_here","_law_own","_law_at","_law_turned","_law_other","_law_more","_law_things","_law_k","_law_levels","_law_rights","_law_lefts","_law_odd","_law_thing","_law_kept","_law_found"] ["_law_script"] (Gc Gdx):=kdF
abbrev z47:=Gc Gdx
def Gt2(Al:All P w K mg base)(F:Fun K "law" "law" Gdx f fd):FnOk P w K mg base CX0 9 f fd ["_law_script"] (spD K 1 Gbv):=by
 have Sc:=Gzy;have T:=Al.t;refine Gvd (b:=Gls) F Sc.s fun cdv A outer s H E hr=>?_
 conv=>arg 3;whnf
 refine GSs.h ?_;exact(Gj (gsew 1 Sc (gow z47 (Gfd Al) hr (Ga (gw 0 Sc) Gf Gg)))
  (Gj (Gb6 (gow z47 (Gec Al) hr (Ga (gw 1 Sc) Gf Gg)) (Gaz rfl (Jb (ggw 2 Sc) (Jb (ggw 3 Sc) Xy))))
  (Gj (gsew 4 Sc (gow z47 (Gbt Al) hr (Ga (gw 2 Sc) (Ga (gw 3 Sc) (Ga ge_int Gf Gb) Gg) Gg)))
  (Gj (Va (Gpc (gw 4 Sc) Gki)
  (Gy (Ku Gai))
  Js)
  (Gj (gsew 5 Sc (gow z47 (Gq Al) hr (Ga (gw 1 Sc) (Ga (Kr (gG z47) T.b_len (Ga (gw 4 Sc) Gf Gg)) Gf Up) Gg)))
  (Gj (gsew 6 Sc (Jh (Jt (gw 4 Sc) (Qt (gw 5 Sc)) Qs) (Jt (gw 4 Sc) Qs (Qt (gw 5 Sc)))))
  (Gj (gsew 7 Sc (gow z47 (Gbt Al) hr (Ga (gw 2 Sc) (Ga (He (gw 4 Sc) (gw 5 Sc)) (Ga ge_int Gf Gb) Go) Gg)))
  (Gj (gsew 8 Sc (Hj (Ga (He (gw 3 Sc) ge_int) (Ga (He (gw 3 Sc) ge_int) (Ga (Jh (Gax (Hj (Ga ge_int Gf Gb)) (Xx (Kr (gG z47) T.b_len (Ga (He (gw 3 Sc) ge_int) Gf Go)) ge_int)) (Hj (Ga ge_int Gf Gb))) Gf Hu) Go) Go)))
  (Gj (gsew 9 Sc (Ja (Ga (gw 4 Sc) (Ga (gw 6 Sc) (Ga (gw 7 Sc) (Ga (Jh (Glr (gG z47) T.b_list (gG z47) T.b_reversed (Ga (gw 4 Sc) Gf Gg)) (Ja (Ga (gw 8 Sc) Gf Gg))) Gf Hu) Gg) Gg) Gg)))
  (Gj (Gb7 PassesOwn.never rfl (Uh (gG z47) T.b_range (Ga ge_int Gf Gb)) (ggw 10 Sc)
  (Gy (Gbe (Gad (gw 9 Sc) (Ga (gow z47 (Gfi Al) hr (Ga (gw 1 Sc) (Ga (gw 4 Sc) Gf Gg) Gg)) Gf Up)))))
  (Gj (Gb6 (gw 3 Sc) (Gaz rfl (Jb (ggw 11 Sc) (Jb (ggw 12 Sc) (Jb (ggw 13 Sc) Xy)))))
  (Gj (gsew 14 Sc (Ja (Ga (Hj (Ga (Jh (Jh (Jt (gw 11 Sc) Qs (Qt ge_int)) (Hj (Ga ge_int Gf Gb))) (Jt (gw 11 Sc) (Qt ge_int) Qs)) (Ga (gw 12 Sc) (Ga (gw 13 Sc) Gf Gg) Gg) Hu)) (Ga (Hj (Ga (gw 11 Sc) (Ga (Jh (Jh (Jt (gw 12 Sc) Qs (Qt ge_int)) (Hj (Ga ge_int Gf Gb))) (Jt (gw 12 Sc) (Qt ge_int) Qs)) (Ga (gw 13 Sc) Gf Gg) Hu) Gg)) (Ga (Hj (Ga (gw 11 Sc) (Ga (Jh (Hj (Ga ge_int Gf Gb)) (Jt (gw 12 Sc) (Qt ge_int) Qs)) (Ga (gw 13 Sc) Gf Gg) Hu) Gg)) (Ga (Hj (Ga (Jh (Jt (gw 11 Sc) Qs (Qt (Gkj ge_int))) (Hj (Ga ge_int Gf Gb))) (Ga (gw 12 Sc) (Ga (gw 13 Sc) Gf Gg) Gg) Hu)) Gf Ht) Ht) Ht) Ht)))
  (Gj (Gbe (Gad (gw 9 Sc) (Ga (Jh (gw 4 Sc) (Ja (Ga (He (gw 14 Sc) (gow z47 (Gq Al) hr (Ga (gw 1 Sc) (Ga ge_int Gf Gb) Gg))) Gf Go))) Gf Hu)))
  (Gj (Gb7 PassesOwn.never rfl (Zg (gw 9 Sc)) (ggw 15 Sc)
  (Gj (gsew 16 Sc (Ggt hr (gG z47) T.b_repr (Ga (gw 15 Sc) Gf Gg)))
  (Gj (gsew 17 Sc (gow z47 (Gdb Al) hr (Ga (gw 2 Sc) (Ga (gw 3 Sc) (Ga (gw 15 Sc) Gf Gg) Gg) Gg)))
  (Gj (Va (GW.jt (Gdu (Gay (Wq (Gkl (gG z47) (gG z47) Gie T.b_isinstance T.b_bool (gw 17 Sc)))) (Gb5 (Gpb hr.units (Ggt hr (gG z47) T.b_repr (Ga (gw 15 Sc) Gf Gg)) (gw 16 Sc)))))
  (Gy (Ku Gai))
  Js)
  (Gy (Va (Gpb hr.units (gw 17 Sc) (gow z47 (Gee Al) hr (Ga (gw 2 Sc) (Ga (gw 3 Sc) (Ga (gw 15 Sc) Gf Gg) Gg) Gg)))
  (Gy (Ku Gai))
  Js))))))
  (Gy (Ku Gai))))))))))))))))
end
def Gzz{l:PySem.W.OpenLaw}{K:BM}(X:K.In h)(G:h.Ns mainGlobals mg)(hfa:mg "law"=some (.ref fa))(HS:Hs K)(ka_CHAMBER:PySem.W.nsIn K mainGlobals "CHAMBER"=some (some (.ref kp_CHAMBER)))(kl_CHAMBER:K.lookup kp_CHAMBER=some {cls:=.type "tuple",dict:=none,data:=.seq #[.str "chamber" kt_CHAMBER] kn_CHAMBER,slots:=ks_CHAMBER})(ka_END:PySem.W.nsIn K mainGlobals "END"=some (some (.ref kp_END)))(kl_END:K.lookup kp_END=some {cls:=.type "tuple",dict:=none,data:=.seq #[.str "end" kt_END] kn_END,slots:=ks_END})(ka_MOST_BARGES:PySem.W.nsIn K mainGlobals "MOST_BARGES"=some (some (.int 60 kt_MOST_BARGES)))(ka_UP:PySem.W.nsIn K mainGlobals "UP"=some (some (.str "up" kt_UP)))(ca_SummitError:PySem.W.nsIn K mainGlobals "SummitError"=some (some (.ref cc_SummitError)))(ca_NoGate:PySem.W.nsIn K mainGlobals "NoGate"=some (some (.ref cc_NoGate)))(ca_Dry:PySem.W.nsIn K mainGlobals "Dry"=some (some (.ref cc_Dry)))(ca_Full:PySem.W.nsIn K mainGlobals "Full"=some (some (.ref cc_Full)))(ca_NoSpring:PySem.W.nsIn K mainGlobals "NoSpring"=some (some (.ref cc_NoSpring)))(ca_NoBarge:PySem.W.nsIn K mainGlobals "NoBarge"=some (some (.ref cc_NoBarge)))(ca_NoRoom:PySem.W.nsIn K mainGlobals "NoRoom"=some (some (.ref cc_NoRoom)))(ca_Uneven:PySem.W.nsIn K mainGlobals "Uneven"=some (some (.ref cc_Uneven)))(ca_Shallow:PySem.W.nsIn K mainGlobals "Shallow"=some (some (.ref cc_Shallow)))(xtb:Go3 K cc_SummitError [("NoGate",cc_NoGate),("Dry",cc_Dry),("Full",cc_Full),("NoSpring",cc_NoSpring),("NoBarge",cc_NoBarge),("NoRoom",cc_NoRoom),("Uneven",cc_Uneven),("Shallow",cc_Shallow)] [("NoGate",cc_NoGate),("Dry",cc_Dry),("Full",cc_Full),("NoSpring",cc_NoSpring),("NoBarge",cc_NoBarge),("NoRoom",cc_NoRoom),("Uneven",cc_Uneven),("Shallow",cc_Shallow)]=true)(iI:PySem.W.findIn K (.ref cc_SummitError) "__init__"=some (some (.ref fi)))(lI:K.lookup fi=some ⟨.type "function",odI,.func (PySem.W.fnOf "__init__" "SummitError.__init__" (Jr Ur) (Hl Ur) (Gc Ur) .none kVI dcI pmI anI cdI ctI),slI⟩)(cI:PySem.W.codeIn K cdI "SummitError.__init__"=true)(kI:PySem.W.keepIn K (.ref fi)=true)(cx_Dry:Gew K cc_Dry fi=true)(cx_Full:Gew K cc_Full fi=true)(cx_NoBarge:Gew K cc_NoBarge fi=true)(cx_NoGate:Gew K cc_NoGate fi=true)(cx_NoRoom:Gew K cc_NoRoom fi=true)(cx_NoSpring:Gew K cc_NoSpring fi=true)(cx_Shallow:Gew K cc_Shallow fi=true)(cx_Uneven:Gew K cc_Uneven fi=true)
  : ∃fd:FuncData,(∀(s:BO)(v:BN),BindsTo s fd ⟨[v],[]⟩ [("_law_script",v)])/\∀base:Heap,K.In base->base.Ns mainGlobals mg->FnOk l.prog w K mg base CX0 9 fa fd ["_law_script"] (spD K 1 Gbv):=by
 obtain⟨_,_,_,_,_,_,_,_,_,k_law,c_law,l_law⟩:=HS.h_law.fnx X G hfa;have F:=Ggc (st:=Gdx) l_law c_law k_law;have T:Txt K mg:=⟨PySem.W.mg_none_of X G HS.z_ValueError,PySem.W.mg_none_of X G HS.z_all,PySem.W.mg_none_of X G HS.z_bool,PySem.W.mg_none_of X G HS.z_enumerate,PySem.W.mg_none_of X G HS.z_int,PySem.W.mg_none_of X G HS.z_isinstance,PySem.W.mg_none_of X G HS.z_len,PySem.W.mg_none_of X G HS.z_list,PySem.W.mg_none_of X G HS.z_min,PySem.W.mg_none_of X G HS.z_range,PySem.W.mg_none_of X G HS.z_repr,PySem.W.mg_none_of X G HS.z_reversed,PySem.W.mg_none_of X G HS.z_str,PySem.W.mg_none_of X G HS.z_sum,PySem.W.mg_none_of X G HS.z_tuple,Gph X G ka_CHAMBER kl_CHAMBER,Gph X G ka_END kl_END,Gtp X G ka_MOST_BARGES,Gtq X G ka_UP,HS.h_deed_done.fv X G,Hch X G ca_SummitError xtb⟩
 have hVE:mg "ValueError"=none:=PySem.W.mg_none_of X G HS.z_ValueError;have ini:∀base:Heap,IniX l.prog w K mg base fi 1:=fun base=>ini_mk (st:=Ur) lI cI kI sc_init (Gm9 hVE) (fun _ _ _ _ _ _ us hl=>match us,hl with|[_,_],_=>rfl);exact⟨_,fun s v=>.of_eq rfl,fun base _ _=>Gt2 ⟨HS,⟨h,X,G⟩,T,Ze X G (ini base) ca_Dry cx_Dry,Ze X G (ini base) ca_Full cx_Full,Ze X G (ini base) ca_NoBarge cx_NoBarge,Ze X G (ini base) ca_NoGate cx_NoGate,Ze X G (ini base) ca_NoRoom cx_NoRoom,Ze X G (ini base) ca_NoSpring cx_NoSpring,Ze X G (ini base) ca_Shallow cx_Shallow,Ze X G (ini base) ca_Uneven cx_Uneven⟩ F⟩
end Law
namespace WM
noncomputable def stp(b l d:Int):Int:=min b (l+d)
def F(b:Int)(ds:List Int)(x:Int):Int:=ds.foldl (stp b) x
def AP(ds:List Int)(x:Int):Prop:=∀j,1<=j->j<=ds.length->0<=x+(ds.take j).sum
inductive R where
 |dry (k:Nat)|lev (l:Int)
noncomputable def R.bind(o:R)(g:Int->R):R:=match o with
 |.dry k=>.dry k
 |.lev l=>g l
def wl(b:Int):List Int->Nat->Int->R
 |[],_,x=>.lev x
 |d::r,k,x=>if stp b x d<0 then .dry k else wl b r (k+1) (stp b x d)
def most(b:Int)(ds:List Int):Int:=F b ds.tail b
noncomputable def start(ds:List Int)(mn:Int):Int:=max 0 (-mn)
structure IsMin(ds:List Int)(mn:Int):Prop where
 le:∀j,1<=j->j<=ds.length->mn<=(ds.take j).sum
 at':∃j,1<=j/\j<=ds.length/\mn=(ds.take j).sum
end WM
namespace DL
open PySem PySem.Spec PyProof.Rows L2
variable{d:D}{f fa:Ev D}{k:Nat}
section
variable{U:Lc}{S:Sto}{Z β:Type}
@[simp] theorem Gm{g:Z->Sto->Out β}:(Out.ok a S).bind g=g a S:=rfl
@[simp] theorem Hc4:(Out.bad:Out Z).bind g=.bad:=rfl
@[simp] theorem Ha{g:Z->Sto->OS}:bindS (Out.ok a S) U g=g a S:=rfl
@[simp] theorem Ha1:bindS (Out.bad:Out Z) U g=.bad:=rfl
@[simp] theorem Zy:vr i U S=match U[i]? with
 |some (some d)=>.ok d S
 |_=>.bad:=rfl
@[simp] theorem Gaq:cn d U S=.ok d S:=rfl
@[simp] theorem Gbw:an U S=.ok [] S:=rfl
@[simp] theorem Vf{g:Ev (List D)}:ac f g U S=(f U S).bind fun x S1=>(g U S1).bind fun xs S2=>.ok (x::xs) S2:=rfl
@[simp] theorem Ua{o:D->D->Sto->Out D}{fb:Ev D}:o2 o fa fb U S=(fa U S).bind fun x S1=>(fb U S1).bind fun y S2=>o x y S2:=rfl
@[simp] theorem Hc5{o:D->Sto->Out D}:o1 o fa U S=(fa U S).bind fun x S1=>o x S1:=rfl
@[simp] theorem Gcz{f:Ev (List D)}:b1 o f U S=(f U S).bind o:=rfl
@[simp] theorem Hc6{n:Nat}{fn:Fn}{t:Ev (List D)}:cl n fn t U S=(t U S).bind fun ds S1=>if ds.length=n then fn ds S1 else .bad:=rfl
@[simp] theorem Gpv:Gh fn ds S=match fn ds S with
 |.ok d S'=>.ok d S'
 |_=>.bad:=rfl
@[simp] theorem Hc7:tb f U S=(f U S).bind fun x S1=>match x with
 |.bl b=>.ok b S1
 |_=>.bad:=rfl
@[simp] theorem Gi9:tt f U S=(f U S).bind fun x S1=>match Kt x S1 with
 |some b=>.ok b S1
 |none=>.bad:=rfl
@[simp] theorem Gja{f:Ev Bool}:tn f U S=(f U S).bind fun b S1=>.ok (!b) S1:=rfl
@[simp] theorem He3{f g:Ev Bool}:ta f g U S=(f U S).bind fun b S1=>if b=true then g U S1 else .ok false S1:=rfl
@[simp] theorem Hc8{f g:Ev Bool}:to f g U S=(f U S).bind fun b S1=>if b=true then .ok true S1 else g U S1:=rfl
@[simp] theorem Gvy:va f g U S=(f U S).bind fun x S1=>match x with
 |.bl b=>if b=true then g U S1 else .ok (.bl false) S1
 |_=>.bad:=rfl
@[simp] theorem He4:vo f g U S=(f U S).bind fun x S1=>match x with
 |.bl b=>if b=true then .ok (.bl true) S1 else g U S1
 |_=>.bad:=rfl
@[simp] theorem He5:vn f U S=(f U S).bind fun x S1=>match x with
 |.bl b=>.ok (.bl (!b)) S1
 |_=>.bad:=rfl
@[simp] theorem He6{c:Ev Bool}{g:Ev D}:ie c f g U S=(c U S).bind fun b S1=>if b=true then f U S1 else g U S1:=rfl
@[simp] theorem He7{f:Ev (List D)}:tp f U S=(f U S).bind fun xs S1=>if xs.length<=1000000 then .ok (.tup xs) S1 else .bad:=rfl
@[simp] theorem Gpw{f:Ev (List D)}:ls f U S=(f U S).bind fun xs S1=>if xs.length<=1000000 then .ok (.lst S1.length) (S1++[⟨false,xs⟩])else .bad:=rfl
@[simp] theorem Gpx{fe:Ev D}{fl fh:Ev (BQ Int)}:sl2 fe fl fh U S=(fe U S).bind fun x S1=>(fl U S1).bind fun l S2=>(fh U S2).bind fun u S3=>Wp x l u S3:=rfl
@[simp] theorem Gjb:onone U S=.ok none S:=rfl
@[simp] theorem Gjc:osome f U S=(f U S).bind fun x S1=>match x with
 |.int i=>.ok (some i) S1
 |_=>.bad:=rfl
@[simp] theorem Hc9{o:D->List D->Sto->Out D}{fo:Ev D}{f:Ev (List D)}:mt o fo f U S=(fo U S).bind fun x S1=>if isLst x S1=true then(f U S1).bind fun xs S2=>o x xs S2 else .bad:=rfl
@[simp] theorem He8{o:D->D->Sto->Out D}{fb:Ev D}:ch o o' fa fb fc U S=(fa U S).bind fun x S1=>(fb U S1).bind fun y S2=>(o x y S2).bind fun z S3=>match z with
 |.bl b=>if b=true then(fc U S3).bind fun w S4=>o' y w S4 else .ok (.bl false) S3
 |_=>.bad:=rfl
@[simp] theorem Gc0{f:Sv}:sq f g U S=match f U S with
 |.nx U' S'=>g U' S'
 |.rt d S'=>.rt d S'
 |.bk U' S'=>.bk U' S'
 |.ct U' S'=>.ct U' S'
 |.exc x U' S'=>.exc x U' S'
 |.bad=>.bad:=rfl
@[simp] theorem Ub:sa f g U S=bindS (f U S) U fun d S1=>match g d U with
 |some U'=>.nx U' S1
 |none=>.bad:=rfl
@[simp] theorem Hda:gn i d U=some (U.set i (some d)):=rfl
@[simp] theorem Yj:sret f U S=bindS (f U S) U fun d S1=>.rt d S1:=rfl
@[simp] theorem Gef{c:Ev Bool}{f g:Sv}:sif c f g U S=bindS (c U S) U fun b S1=>if b=true then f U S1 else g U S1:=rfl
@[simp] theorem Hdb:sx f U S=bindS (f U S) U fun _ S1=>.nx U S1:=rfl
@[simp] theorem Hdu:skip U S=.nx U S:=rfl
@[simp] theorem Gvz{fo fi:Ev D}:ss f fo fi o U S=bindS (f U S) U fun d S1=>bindS (fo U S1) U fun x S2=>bindS (fi U S2) U fun y S3=>match o x y d S3 with
 |some S4=>.nx U S4
 |none=>.bad:=rfl
@[simp] theorem Her:sag i g f U S=match U[i]? with
 |some (some (.int a))=>bindS (f U S) U fun d S1=>match d with
  |.int b=>.nx (U.set i (some (.int (g a b)))) S1
  |_=>.bad
 |_=>.bad:=rfl
@[simp] theorem Uc:isrc f U S=(f U S).bind Yx:=rfl
@[simp] theorem Ki{f:Ev Src}:sfor f g b U S=bindS (f U S) U fun s S1=>Jd s.nxt g b s.fuel 0 U S1:=rfl
section
variable{i j:Int}
@[simp] theorem Hes:Gr (.int i) (.int j) S=.ok (.int (i+j)) S:=rfl
@[simp] theorem Gku:Uy (.int i) (.int j) S=.ok (.int (i-j)) S:=rfl
@[simp] theorem He9:Gds (.int i) S=.ok (.int (-i)) S:=rfl
def Gv0(h1 : -(2^64)<j)(h2:j<2^64):Je (.int i) (.int j) S=.ok (.int (i*j)) S:=by
 show(if(-(2^64)<i/\i<2^64)\/(-(2^64)<j/\j<2^64)then Out.ok (D.int (i*j)) S else .bad)=_;rw[if_pos (.inr ⟨h1,h2⟩)]
def Gfy(h1 : -(2^64)<i)(h2:i<2^64):Je (.int i) (.int j) S=.ok (.int (i*j)) S:=by
 show(if(-(2^64)<i/\i<2^64)\/(-(2^64)<j/\j<2^64)then Out.ok (D.int (i*j)) S else .bad)=_;rw[if_pos (.inl ⟨h1,h2⟩)]
def Gcg(h:0<j):Xw (.int i) (.int j) S=.ok (.int (i%j)) S:=by
 show(if decide (0<j)=true then Out.ok (D.int (i%j)) S else .bad)=_;rw[if_pos (by simpa using h)]
def Ghd(h:0<j)(h2:j<2^200):Wg (.int i) (.int j) S=.ok (.int (i / j)) S:=by
 show(if decide (0<j/\j<2^200)=true then Out.ok (D.int (i / j)) S else .bad)=_;rw[if_pos (decide_eq_true ⟨h,h2⟩)]
def Gkv{n:Nat}(h:(n:Int)<=1000000)(h2:i.natAbs<2^64):Ggm (.int i) (.int n) S=.ok (.int (i^n)) S:=by
 show(if decide (0<=(n:Int)/\(n:Int)<=1000000/\i.natAbs<2^64)=true then Out.ok (D.int (i^(n:Int).toNat)) S else .bad)=_;rw[if_pos (decide_eq_true ⟨by omega,h,h2⟩)];rfl
@[simp] def Hfa:Ggm (.int 10) (.int 6) S=.ok (.int 1000000) S:=Gkv (n:=6) (by decide) (by decide)
@[simp] def Het:Ggm (.int 10) (.int 15) S=.ok (.int 1000000000000000) S:=Gkv (n:=15) (by decide) (by decide)
@[simp] def Heu:Ggm (.int 10) (.int 18) S=.ok (.int 1000000000000000000) S:=Gkv (n:=18) (by decide) (by decide)
@[simp] theorem Hfb:ltD (.int i) (.int j) S=.ok (.bl (decide (i<j))) S:=rfl
@[simp] theorem Hfc:leD (.int i) (.int j) S=.ok (.bl (decide (i<=j))) S:=rfl
@[simp] theorem Hfd:gtD (.int i) (.int j) S=.ok (.bl (decide (j<i))) S:=rfl
@[simp] theorem Hfe:geD (.int i) (.int j) S=.ok (.bl (decide (j<=i))) S:=rfl
@[simp] def Hev:Gmz [.int i,.int j] S=.ok (.int (min i j)) S:=by
 show Out.ok (D.int (if j<i then j else i)) S=_;congr 2;omega
@[simp] def Hew:Hej [.int i,.int j] S=.ok (.int (max i j)) S:=by
 show Out.ok (D.int (if j>i then j else i)) S=_;congr 2;omega
@[simp] def Gv1:eqD (.int i) (.int j) S=.ok (.bl (decide (i=j))) S:=by
 simp only[eqD,toP];simp[SeqAt.shaped,PyData.eqv];rfl
@[simp] def Hff:neD (.int i) (.int j) S=.ok (.bl (!decide (i=j))) S:=by
 simp only[neD,toP];simp[SeqAt.shaped,PyData.eqv];rfl
def Qq(hx:PyData.strOk x=true)(hy:PyData.strOk y=true):eqD (.str x) (.str y) S=.ok (.bl (x==y)) S:=by
 simp only[eqD,toP];simp[SeqAt.shaped,PyData.eqv,PyData.canLay0,PyData.depth,hx,hy]
end
@[simp] theorem Hdc{l:List D}:Hb [.tup l] S=.ok (.int l.length) S:=rfl
def Gar{c:Cell}(h:S[k]?=some c):Hb [.lst k] S=.ok (.int c.xs.length) S:=by
 show(match S[k]? with|some c=>Out.ok (D.int c.xs.length) S|none=>.bad)=_;rw[h]
def Jx{c:Cell}(h:S[k]?=some c)(e:atI c.xs i=some d):getD (.lst k) (.int i) S=.ok d S:=by
 show(match S[k]? with|some c=>(match atI c.xs i with|some d=>Out.ok d S|none=>.bad)|none=>.bad)=_;rw[h];show(match atI c.xs i with|some d=>Out.ok d S|none=>.bad)=_;rw[e]
def Hy(e:atI l i=some d):getD (.tup l) (.int i) S=.ok d S:=by
 show(match atI l i with|some d=>Out.ok d S|none=>.bad)=_;rw[e]
def Hc{l:List Z}{i:Int}{d:Z}(h0:0<=i)(e:l[i.toNat]?=some d):atI l i=some d:=by
 unfold atI ixN;have:i.toNat<l.length:=(Aa.mp e).1;rw[if_pos h0,if_pos (by omega)];exact e
def Glt{xs:List D}{i:Int}(h:S[k]?=some ⟨false,xs⟩)(h0:0<=i)(h1:i<xs.length):Jg (.lst k) (.int i) d S=some (S.set k ⟨false,xs.set i.toNat d⟩):=by
 show(match S[k]? with|some c=>(match ixN c.xs.length i with|some j=>if c.fz=false then some (S.set k ⟨false,c.xs.set j d⟩)else none|none=>none)|none=>none)=_;rw[h];show(match ixN xs.length i with|some j=>if false=false then some (S.set k ⟨false,xs.set j d⟩)else none|none=>none)=_;unfold ixN;rw[if_pos h0,if_pos h1];rfl
@[simp] def Gv2{l:List Int}:Gaw [.tup (l.map D.int)] S=.ok (.int l.sum) S:=by
 have:∀l:List Int,Yz (l.map D.int)=some l:=fun l=>by
  induction l with
  |nil=>rfl
  |cons a r ih=>show(Yz (r.map D.int)).map (a::·)=_;rw[ih];rfl
 show(match (some (l.map D.int)).bind Yz with|some ns=>Out.ok (D.int ns.sum) S|none=>.bad)=_;rw[Bs,this]
end
end DL
namespace Law
open PySem PySem.Spec PyProof.Rows L2 DL
variable{m t k j q n N:Nat}{b u:Bool}{ds xs A B C:List D}{S S' S1 S2:Sto}{d y:D}{f:Sv}{U U':Lc}{c:Cell}{a r v lH lL:Int}{x:XD}{L M:List Int}{nxt:Nat->Sto->BQ D}{Z:Type}
noncomputable def fin(o:OS):Out D:=match o with
 |.rt d S'=>.ok d S'
 |.nx _ S'=>.ok .non S'
 |.exc x _ S'=>.exc x S'
 |_=>.bad
theorem Gs{b:Sv}:fnB m b ds S=fin (b (ds.map some++List.replicate (m-ds.length) none) S):=rfl
@[simp] theorem Gz0:fin (.rt d S)=.ok d S:=rfl
def Gi{g:Sv}(h:f U S=.nx U' S'):fin (sq f g U S)=fin (g U' S'):=by rw[Gc0,h]
def Hq(h:f U S=.rt d S'):fin (sq f g U S)=.ok d S':=by rw[Gc0,h];rfl
structure Dp(S:Sto)(t k:Nat)(n:Nat):Prop where
 ex:∃(a b:Int)(xs:List Int),S[t]?=some ⟨false,[.lst k,.int a,.int b]⟩/\S[k]?=some ⟨false,xs.map D.int⟩/\0<=a/\a<=n
 ne:t≠k
structure Kp(S S':Sto)(t k:Nat):Prop where
 len:S.length<=S'.length
 get:∀i,i<S.length->i≠t->i≠k->S'[i]?=S[i]?
def Kp.refl:Kp S S t k:=⟨Ac _,fun _ _ _ _=>rfl⟩
def Kp.trans(a:Kp S S1 t k)(b:Kp S1 S2 t k):Kp S S2 t k:=⟨Ak a.len b.len,fun i h h1 h2=>(b.get i (Ag h a.len) h1 h2).trans (a.get i h h1 h2)⟩
def Kp.set(h:j=t\/j=k):Kp S (S.set j c) t k:=⟨by simp,fun i _ h1 h2=>by
 rw[Ah];rcases h with h|h
 ·rw[h];exact Ne.symm h1
 ·rw[h]; exact Ne.symm h2⟩
def Kp.app:Kp S (S++[c]) t k:=⟨by simp,fun i h _ _=>by rw[AD h]⟩
def Kp.at(a:Kp S S' t k)(e:S[q]?=some c)(h1:q≠t)(h2:q≠k):S'[q]?=some c:=(a.get q (Aa.mp e).1 h1 h2).trans e
def Gu:(S++[c])[S.length]?=some c:=by rw[Bq (Ac _)];simp
def Gz{d:Cell}(e:S[q]?=some d):(S++[c])[q]?=some d:=by
 rw[AD (Aa.mp e).1];exact e
def Dp.app(h:Dp S t k n):Dp (S++[c]) t k n:=by
 obtain⟨⟨a,b,xs,e1,e2,h⟩,ne⟩:=h;exact⟨⟨a,b,xs,Gz e1,Gz e2,h⟩,ne⟩
def Dp.lt(h:Dp S t k n):t<S.length/\k<S.length:=by
 obtain⟨⟨a,b,xs,e1,e2,h⟩,ne⟩:=h;exact⟨(Aa.mp e1).1,(Aa.mp e2).1⟩
def Dp.set(h:Dp S t k n)(h1:q≠t)(h2:q≠k):Dp (S.set q c) t k n:=by
 obtain⟨⟨a,b,xs,e1,e2,h⟩,ne⟩:=h;exact⟨⟨a,b,xs,by rw[Ah h1];exact e1,by rw[Ah h2];exact e2,h⟩,ne⟩
def Dp.mono(h:Dp S t k n)(hm:n<=m):Dp S t k m:=by
 obtain⟨⟨a,b,xs,e1,e2,h0,h1⟩,ne⟩:=h;exact⟨⟨a,b,xs,e1,e2,h0,by omega⟩,ne⟩
abbrev YI:=o2 DL.getD XH XC
def Gz1:Sv:=(sq (sif (ta (tb (o2 ltD XJ (b1 Hb (ac YI an)))) (tb (o2 geD XR (o2 Ggm ZG QL))))
  (sq (ss (o2 Wg XR XI) XH XG Jg)
  (sret (o2 Xw XR XI)))
  DL.skip)
  (sq (sa (o2 Xw (o2 Je (o2 Gr (o2 Xw XR (cn (.int 1000003))) XE) (o2 Gr (o2 Gr (o2 Je (o2 Je (cn (.int 7919)) XJ) XJ) (o2 Je (cn (.int 104729)) XJ)) (cn (.int 12345)))) (cn (.int 2147483647))) (gn 5))
  (sq (sa (o2 Xw (o2 Gr (o2 Gr (o2 Je X0 X0) (o2 Je (cn (.int 48271)) XJ)) (o2 Xw XR (cn (.int 65537)))) (cn (.int 2147483629))) (gn 5))
  (sret (o2 Xw (o2 Wg X0 YM) XI)))))
def Gz2{m b c:Int}{xs:List Int}(e1:S[t]?=some ⟨false,[.lst k,.int (a+1),.int b]⟩)(e2:S[k]?=some ⟨false,xs.map D.int⟩)(ne:t≠k)(ha:0<=a)(han:a<=n)(hn:n<2^60)(hm:0<m)(hm2:m<2^200):
  ∃r S',fin (Gz1 [some (.lst t),some (.int m),g2,some (.int a),some (.int c),none] S)=.ok (.int r) S'/\0<=r/\r<m/\Dp S' t k (n+1)/\Kp S S' t k:=by
 have g0:DL.getD (.lst t) (.int 0) S=.ok (.lst k) S:=Jx e1 rfl;have ln:Hb [.lst k] S=.ok (.int xs.length) S:=by rw[Gar e2];simp
 have lt:t<S.length:=(Aa.mp e1).1;have s2:Jg (.lst t) (.int 2) (.int (c / m)) S=some (S.set t ⟨false,[.lst k,.int (a+1),.int (c / m)]⟩):=Glt e1 (by decide) (by simp);by_cases h:a<xs.length/\1000000000000000000<=c
 ·refine⟨c%m,S.set t ⟨false,[.lst k,.int (a+1),.int (c / m)]⟩,?_,Bk _ (by omega),Bx _ hm,⟨⟨a+1,c / m,xs,As lt,by rw[Ah ne];exact e2,by omega,by omega⟩,ne⟩,Kp.set (.inl rfl)⟩;unfold Gz1;exact Hq (by simp[g0,ln,h.1,h.2,Ghd hm hm2,s2,Gcg hm])
 ·have sqr:∀x:Int,Je (.int (x%2147483647)) (.int (x%2147483647)) S=.ok (.int (x%2147483647*(x%2147483647))) S:=fun x=>Gv0 (by omega) (by omega);have m1:Je (.int (7919*a)) (.int a) S=.ok (.int (7919*a*a)) S:=Gv0 (by omega) (by omega);have m2:∀y:Int,Je (.int (c%1000003+1)) (.int y) S=.ok (.int ((c%1000003+1)*y)) S:=fun y=>Gfy (by omega) (by omega);obtain⟨z,hz⟩:∃z:Int,z=((c%1000003+1)*(7919*a*a+104729*a+12345))%2147483647:=⟨_,rfl⟩
  obtain⟨y,hy⟩:∃y:Int,y=(z*z+48271*a+c%65537)%2147483629:=⟨_,rfl⟩
  have mz:Je (.int z) (.int z) S=.ok (.int (z*z)) S:=by rw[hz];exact sqr _
  have e1':sif (ta (tb (o2 ltD XJ (b1 Hb (ac YI an)))) (tb (o2 geD XR (o2 Ggm ZG QL)))) (sq (ss (o2 Wg XR XI) XH XG Jg) (sret (o2 Xw XR XI))) DL.skip [some (.lst t),some (.int m),g2,some (.int a),some (.int c),none] S=.nx [some (.lst t),some (.int m),g2,some (.int a),some (.int c),none] S:=by
   by_cases c1:a<xs.length
   ·have c2:¬1000000000000000000<=c:=fun z=>h ⟨c1,z⟩;simp[g0,ln,c1,c2]
   ·simp[g0,ln,c1]
  refine⟨y / 8%m,S,?_,Bk _ (by omega),Bx _ hm,⟨⟨a+1,b,xs,e1,e2,by omega,by omega⟩,ne⟩,.refl⟩;unfold Gz1;rw[Gi e1'];refine(Gi (U':=[some (.lst t),some (.int m),g2,some (.int a),some (.int c),some (.int z)]) (S':=S) (by rw[hz];simp[Gcg,Gfy,m1,m2])).trans ?_;refine(Gi (U':=[some (.lst t),some (.int m),g2,some (.int a),some (.int c),some (.int y)]) (S':=S) (by rw[hy];simp[Gcg,Gfy,mz])).trans ?_;simp[Ghd,Gcg hm]
def Kj{m:Int}(h:Dp S t k n)(hn:n<2^60)(hm:0<m)(hm2:m<2^200):∃r S',Ge [.lst t,.int m] S=.ok (.int r) S'/\0<=r/\r<m/\Dp S' t k (n+1)/\Kp S S' t k:=by
 obtain⟨⟨a,b,xs,e1,e2,ha,han⟩,ne⟩:=h;have lt:t<S.length:=(Aa.mp e1).1;have g1:DL.getD (.lst t) (.int 1) S=.ok (.int a) S:=Jx e1 rfl;have g2:DL.getD (.lst t) (.int 2) S=.ok (.int b) S:=Jx e1 rfl;have s1:Jg (.lst t) (.int 1) (.int (a+1)) S=some (S.set t ⟨false,[.lst k,.int (a+1),.int b]⟩):=Glt e1 (by decide) (by simp);have s2:Jg (.lst t) (.int 2) (.int (b / m)) S=some (S.set t ⟨false,[.lst k,.int a,.int (b / m)]⟩):=Glt e1 (by decide) (by simp);have hf:∀X,Ge [.lst t,.int m] S=X↔fin (Kx [some (.lst t),some (.int m),none,none,none,none] S)=X:=fun X=>by rw[show Ge [.lst t,.int m] S=fin (Kx [some (.lst t),some (.int m),none,none,none,none] S)from Gs (m:=6) (b:=Kx)]
 by_cases c:0<b
 ·refine⟨b%m,S.set t ⟨false,[.lst k,.int a,.int (b / m)]⟩,(hf _).mpr ?_,Bk _ (by omega),Bx _ hm,⟨⟨a,b / m,xs,As lt,by rw[Ah ne];exact e2,ha,by omega⟩,ne⟩,Kp.set (.inl rfl)⟩;unfold Kx;exact Hq (by simp[g2,c,Gcg hm,Ghd hm hm2,s2])
 ·have e1':(S.set t ⟨false,[.lst k,.int (a+1),.int b]⟩)[t]?=some ⟨false,[.lst k,.int (a+1),.int b]⟩:=As lt;have e2':(S.set t ⟨false,[.lst k,.int (a+1),.int b]⟩)[k]?=some ⟨false,xs.map D.int⟩:=by rw[Ah ne];exact e2
  have kp:Kp S (S.set t ⟨false,[.lst k,.int (a+1),.int b]⟩) t k:=Kp.set (.inl rfl);generalize S.set t ⟨false,[.lst k,.int (a+1),.int b]⟩=S1 at *;have g0:DL.getD (.lst t) (.int 0) S1=.ok (.lst k) S1:=Jx e1' rfl;have ln:Hb [.lst k] S1=.ok (.int xs.length) S1:=by rw[Gar e2'];simp
  obtain⟨cl',ec⟩:∃cl':Int,sif (tb (o2 gtD (b1 Hb (ac YI an)) XC)) (sa (o2 DL.getD YI (o2 Xw XJ (b1 Hb (ac YI an)))) (gn 4)) DL.skip [some (.lst t),some (.int m),none,some (.int a),some (.int 0),none] S1=.nx [some (.lst t),some (.int m),none,some (.int a),some (.int cl'),none] S1:=by
   by_cases c2:0<xs.length
   ·have c3:(0:Int)<xs.length:=by omega
    have lti:(a%(xs.length:Int)).toNat<xs.length:=by
     have:=Bx a c3;have:=Bk a (by omega:(xs.length:Int)≠0);omega
    have gi:DL.getD (.lst k) (.int (a%(xs.length:Int))) S1=.ok (.int xs[(a%(xs.length:Int)).toNat]) S1:=Jx e2' (Hc (Bk a (by omega)) (by simp[lti]));exact⟨xs[(a%(xs.length:Int)).toNat],by simp[g0,ln,c2,Gcg c3,gi]⟩
   ·exact⟨0,by simp[g0,ln,c2]⟩
  obtain⟨r,S',h1,h2,h3,h4,h5⟩:=Gz2 (c:=cl') (g2:=none) e1' e2' ne ha han hn hm hm2;refine⟨r,S',(hf _).mpr ?_,h2,h3,h4,kp.trans h5⟩;unfold Kx;refine(Gi (U':=[some (.lst t),some (.int m),none,none,none,none]) (S':=S) (by simp[g2,c])).trans ?_;refine(Gi (U':=[some (.lst t),some (.int m),none,some (.int a),none,none]) (S':=S) (by simp[g1])).trans ?_;refine(Gi (U':=[some (.lst t),some (.int m),none,some (.int a),none,none]) (S':=S1) (by simp[s1])).trans ?_;refine(Gi (U':=[some (.lst t),some (.int m),none,some (.int a),some (.int 0),none]) (S':=S1) (by simp)).trans ?_;rw[Gi ec];exact h1
def pick{x:D}(s:Kp (S++[⟨false,xs⟩]) S1 t k)(h:t<S.length/\k<S.length)(e:atI xs r=some x):DL.getD (.lst S.length) (.int r) S1=.ok x S1:=
 Jx (c:=⟨false,xs⟩) (s.at Gu (by omega) (by omega)) e
def Ux{m:Int}(h:Dp S t k n)(hn:n<2^60)(hm:m=xs.length)(h0:0<xs.length)(h1:xs.length<1000):∃r x S1,Ge [.lst t,.int m] (S++[⟨false,xs⟩])=.ok (.int r) S1/\DL.getD (.lst S.length) (.int r) S1=.ok x S1/\x∈xs/\Dp S1 t k (n+1)/\Kp S S1 t k:=by
 obtain⟨r,S1,e1,r0,r1,d1,k1⟩:=Kj (m:=m) (h.app (c:=⟨false,xs⟩)) hn (by omega) (by omega);have hlt:r.toNat<xs.length:=by omega
 have ea:atI xs r=some xs[r.toNat]:=Hc r0 (by simp[hlt]);exact⟨r,_,S1,e1,pick k1 h.lt ea,AY hlt,d1,Kp.app.trans k1⟩
inductive Pl where
 |e|c|p (br de ro:Int) (pr:D)
variable{p pH pL:Pl}{ps:List Pl}
noncomputable def Pl.toD:Pl->D
 |.e=>.tup [.str "end"]
 |.c=>.tup [.str "chamber"]
 |.p br de ro pr=>.tup [.str "pound",.int br,.int de,.int ro,pr]
def Pl.ok:Pl->Prop
 |.p br de ro pr=>1<=br/\br<=9/\0<=de/\de<=br/\1<=ro/\ro<=4/\(pr=.non\/∃i,pr=.int i/\0<=i/\i<=99)
 |_=>True
def Gv3(e:S[q]?=some ⟨false,xs⟩)(h:xs.length<1000000):Gba (.lst q) [d] S=.ok .non (S.set q ⟨false,xs++[d]⟩):=by
 simp only[Gba,e];simp[h]
def isL(e:S[q]?=some c):isLst (.lst q) S=true:=by simp only[isLst,e]
def Ud{nxt:Nat->Sto->BQ D}{g:Tg}{b:Sv}{l:List D}(I:Nat->Lc->Sto->Prop)(hn:∀k U S,I k U S->nxt k S=l[k]?)(hs:∀k d U S,l[k]?=some d->I k U S->∃U1 U2 S2,g d U=some U1/\b U1 S=.nx U2 S2/\I (k+1) U2 S2):
  ∀(n k:Nat)(U:Lc)(S:Sto),k<=l.length->I k U S->l.length<n+k->∃U' S',Jd nxt g b n k U S=.nx U' S'/\I l.length U' S'
 |0,k,U,S,h1,_,h2=>by omega
 |n+1,k,U,S,h1,hI,h2=>by
  unfold Jd;rw[hn k U S hI];cases z:l[k]? with
  |none=>
   have:k=l.length:=by have:=AV.mp z;omega
   subst this;exact⟨U,S,rfl,hI⟩
  |some d=>
   obtain⟨U1,U2,S2,h3,h4,h5⟩:=hs k d U S z hI;have hk:k<l.length:=(Aa.mp z).1;obtain⟨U',S',h6,h7⟩:=Ud I hn hs n (k+1) U2 S2 hk h5 (by omega);refine⟨U',S',?_,h7⟩;simp only[h3,h4];exact h6
noncomputable def Ghe(l:List D):Src:=⟨fun k _=>l[k]?,l.length+1⟩
def Uk(i n:Nat):Src:=⟨fun k S=>(S[i]?).bind fun c=>c.xs[k]?,n+1⟩
theorem Hdd:Yx (.tup l) S=.ok (Ghe l) S:=rfl
def Zz(e:S[i]?=some c):Yx (.lst i) S=.ok (Uk i c.xs.length) S:=by
 simp only[Yx,e];rfl
def Gv4{l:List D}:l.length<(Ghe l).fuel+0:=AM _
def Ghf:(rsrc 0 n).nxt k S=((List.range n).map fun k:Nat=>D.int (k:Int))[k]?:=by
 show(if k<n then some (D.int (0+k))else none)=_;rw[Ar];by_cases c:k<n
 ·rw[if_pos c,By c];simp
 ·rw[if_neg c,Bj (by simp;omega)];rfl
def Gpy(h:((List.range n).map fun k:Nat=>D.int (k:Int))[k]?=some d):k<n/\d=.int k:=by
 have hk:k<n:=by have:=(Aa.mp h).1;simpa using this
 rw[Ar,By hk]at h;exact⟨hk,(Ab h).symm⟩
def Ghg{f:Ev (List D)}(h:f U S=.ok [.int n] S')(hn:n<=1000000):ir1 f U S=.ok (rsrc 0 n) S':=by
 unfold ir1;rw[h];show(if -1000000000000<=(n:Int)/\(n:Int)<=1000000000000 then Out.ok (rsrc 0 (n:Int).toNat) S' else .bad)=_;rw[if_pos (by omega)];rfl
def Kp.setq{S0:Sto}(a:Kp S0 S t k)(h:S0.length<=q):Kp S0 (S.set q c) t k:=⟨by simp; exact a.len,fun i hi h1 h2=>by
 rw[Ah (by omega)]; exact a.get i hi h1 h2⟩
def We{a b:List D}(h1:S[i]?=some ⟨false,a⟩)(h2:S[j]?=some ⟨false,b⟩)(h:a.length+b.length<=1000000):Gr (.lst i) (.lst j) S=.ok (.lst S.length) (S++[⟨false,a++b⟩]):=by
 simp only[Gr,h1,h2];simp[h]
def Ghh(e:S[i]?=some ⟨false,[d]⟩)(hn:n<=1000):Je (.lst i) (.int n) S=.ok (.lst S.length) (S++[⟨false,List.replicate n d⟩]):=by
 have fl:∀n:Nat,(List.replicate n [d]).flatten=List.replicate n d:=fun n=>by
  induction n with
  |zero=>rfl
  |succ n ih=>rw[AX,A5,ih];rfl
 simp only[Je,e];rw[if_pos (by simp;omega)];simp[fl]
def Yt(e:S[q]?=some c):Qr [.lst q] S=.ok (.tup c.xs) S:=by
 simp only[Qr,e]
noncomputable def Pl.isC:Pl->Bool
 |.c=>true
 |_=>false
noncomputable def Pl.isE:Pl->Bool
 |.e=>true
 |_=>false
def stok(s:String):PyData.strOk (Str.ofString s)=true:=by
 unfold PyData.strOk;have hc:∀c:Char,c.toNat<1114112:=fun c=>by
  rcases c.valid with h|⟨_,h⟩
  ·exact Ag h (by decide)
  ·exact h
 rw[Str.ofString_eq_toList];simp[hc]
def Gdg(h:p.ok):eqD p.toD (.tup [.str "chamber"]) S=.ok (.bl p.isC) S:=by
 have n1:(Str.ofString "end"==Str.ofString "chamber")=false:=by decide +kernel
 have n2:(Str.ofString "pound"==Str.ofString "chamber")=false:=by decide +kernel
 cases p with
 |e=>simp[Pl.toD,eqD,toP,Jy,SeqAt.shaped,PyData.canLay0,PyData.canLayAll0,PyData.depth,PyData.depthAll,stok,PyData.eqv,PyData.eqvAll,n1,Pl.isC]
 |c=>simp[Pl.toD,eqD,toP,Jy,SeqAt.shaped,PyData.canLay0,PyData.canLayAll0,PyData.depth,PyData.depthAll,stok,PyData.eqv,PyData.eqvAll,Pl.isC]
 |p br de ro pr=>
  obtain⟨_,_,_,_,_,_,h⟩:=h;rcases h with rfl|⟨i,rfl,_⟩
  ·simp[Pl.toD,eqD,toP,Jy,SeqAt.shaped,PyData.canLay0,PyData.canLayAll0,PyData.depth,PyData.depthAll,stok,PyData.eqv,PyData.eqvAll,n2,Pl.isC]
  ·simp[Pl.toD,eqD,toP,Jy,SeqAt.shaped,PyData.canLay0,PyData.canLayAll0,PyData.depth,PyData.depthAll,stok,PyData.eqv,PyData.eqvAll,n2,Pl.isC]
def Ghi(h:p.ok):eqD p.toD (.tup [.str "end"]) S=.ok (.bl p.isE) S:=by
 have n1:(Str.ofString "chamber"==Str.ofString "end")=false:=by decide +kernel
 have n2:(Str.ofString "pound"==Str.ofString "end")=false:=by decide +kernel
 cases p with
 |e=>simp[Pl.toD,eqD,toP,Jy,SeqAt.shaped,PyData.canLay0,PyData.canLayAll0,PyData.depth,PyData.depthAll,stok,PyData.eqv,PyData.eqvAll,Pl.isE]
 |c=>simp[Pl.toD,eqD,toP,Jy,SeqAt.shaped,PyData.canLay0,PyData.canLayAll0,PyData.depth,PyData.depthAll,stok,PyData.eqv,PyData.eqvAll,n1,Pl.isE]
 |p br de ro pr=>
  obtain⟨_,_,_,_,_,_,h⟩:=h;rcases h with rfl|⟨i,rfl,_⟩
  ·simp[Pl.toD,eqD,toP,Jy,SeqAt.shaped,PyData.canLay0,PyData.canLayAll0,PyData.depth,PyData.depthAll,stok,PyData.eqv,PyData.eqvAll,n2,Pl.isE]
  ·simp[Pl.toD,eqD,toP,Jy,SeqAt.shaped,PyData.canLay0,PyData.canLayAll0,PyData.depth,PyData.depthAll,stok,PyData.eqv,PyData.eqvAll,n2,Pl.isE]
def Gbx{a:Nat}{e:Ev D}(h:e U S=.ok d S2)(q:S2[a]?=some ⟨false,xs⟩)(hl:xs.length<1000000):cbody a ttrue e U S=.nx U (S2.set a ⟨false,xs++[d]⟩):=by
 show bindS (ttrue U S) U _=_;show bindS (e U S) U _=_;rw[h];simp only[Ha,q];rw[if_pos (by simp[hl])]
def Ghj{f:Ev Src}{pk:List (BQ Nat)}{c:Ev Bool}{s:Src}(h:f U S=.ok s S1)(l:Jd s.nxt g (cbody S1.length c e) s.fuel 0 (pkS pk U) (S1++[⟨false,[]⟩])=.nx U' S'):cmp f pk g c e U S=.ok (.lst S1.length) S':=by
 unfold cmp;rw[h];simp only[Gm,l]
structure Ex(S S':Sto):Prop where
 len:S.length<=S'.length
 get:∀i,i<S.length->S'[i]?=S[i]?
def Ex.refl:Ex S S:=⟨Ac _,fun _ _=>rfl⟩
def Ex.trans(a:Ex S S1)(b:Ex S1 S2):Ex S S2:=⟨Ak a.len b.len,fun i h=>(b.get i (Ag h a.len)).trans (a.get i h)⟩
def Ex.app:Ex S (S++[c]):=⟨by simp,fun i h=>by rw[AD h]⟩
def Ex.setq{S0:Sto}(a:Ex S0 S)(h:S0.length<=q):Ex S0 (S.set q c):=⟨by simp;exact a.len,fun i hi=>by rw[Ah (by omega)];exact a.get i hi⟩
def Ex.kp(a:Ex S S'):Kp S S' t k:=⟨a.len,fun i h _ _=>a.get i h⟩
def Ex.at(a:Ex S S')(e:S[q]?=some c):S'[q]?=some c:=(a.get q (Aa.mp e).1).trans e
def Dp.ext(h:Dp S t k n)(x:Ex S S'):Dp S' t k n:=by
 obtain⟨⟨a,b,xs,e1,e2,h⟩,ne⟩:=h;exact⟨⟨a,b,xs,x.at e1,x.at e2,h⟩,ne⟩
def Glu:∀bs:List Bool,Gcq (bs.map D.bl)=some bs
 |[]=>rfl
 |b::r=>by
  show(match Gcq (r.map D.bl)with|some r=>some (b::r)|none=>none)=_;rw[Glu r]
def Gv5{bs:List Bool}(e:S[i]?=some ⟨false,bs.map D.bl⟩):Yu [.lst i] S=.ok (.bl (bs.all id)) S:=by
 simp only[Yu,e,Glu]
def Geg{l:List D}{pk:List (BQ Nat)}{e:Ev D}{f:Ev D}(rest:Lc)(v:D->Bool)(hf:f U S=.ok (.tup l) S)(hp:pkS pk U=none::rest)(hl:l.length<1000)(he:∀d∈l,∀S':Sto,Ex S S'->∃S'',e (some d::rest) S'=.ok (.bl (v d)) S''/\Ex S' S''):
  ∃S',(cmp (isrc f) pk (gn 0) ttrue e U S).bind (fun x S1=>Yu [x] S1)=.ok (.bl (l.all v)) S'/\Ex S S':=by
 obtain⟨U',S',el,g,hU,hq,hx⟩:=Ud (nxt:=(Ghe l).nxt) (g:=gn 0) (b:=cbody S.length ttrue e) (l:=l)
  (fun i U S'=>∃g,U=g::rest/\S'[S.length]?=some ⟨false,((l.take i).map v).map D.bl⟩/\Ex S S')
  (fun _ _ _ _=>rfl) (fun i d U S' hd ⟨g,h1,h2,h3⟩=>by
   subst h1;have hi:i<l.length:=(Aa.mp hd).1;obtain⟨S'',e1,e2⟩:=he d (Ao hd) S' h3;have q'':=e2.at h2;have lq:S.length<S''.length:=(Aa.mp q'').1;refine⟨_,_,_,rfl,Gbx e1 q'' (by simp;omega),some d,rfl,?_,(h3.trans e2).setq (Ac _)⟩;rw[As lq];have:l.take (i+1)=l.take i++[d]:=by rw[A8,hd];rfl
   rw[this];simp) (Ghe l).fuel 0 (none::rest) (S++[⟨false,[]⟩]) (At _) ⟨none,rfl,by simp[Gu],Ex.app⟩ Gv4
 rw[Bl]at hq;have hc:=Ghj (pk:=pk) (U:=U) (S:=S) (f:=isrc f) (s:=Ghe l) (S1:=S) (by rw[Uc,hf];rfl) (by rw[hp];exact el);refine⟨S',?_,hx⟩;rw[hc,Gm,Gv5 hq];simp[AZ]
noncomputable def isInt:D->Bool
 |.int _=>true
 |_=>false
noncomputable def Gch(m:Nat):D->Bool
 |.tup l=>l.length==m
 |_=>false
def Ghk{nxt:Nat->Sto->BQ D}{g:Tg}{b:Sv}{l:List D}(gd:Nat->D->Bool)(I:Nat->Lc->Sto->Prop)(hn:∀k U S,I k U S->nxt k S=l[k]?)
  (hs:∀k d U S,l[k]?=some d->I k U S->∃U1,g d U=some U1/\((gd k d=true/\∃U2,b U1 S=.nx U2 S/\I (k+1) U2 S)\/(gd k d=false/\b U1 S=.rt (.bl false) S))):
  ∀(n k:Nat)(U:Lc)(S:Sto),k<=l.length->I k U S->l.length<n+k→
   ((∀j d,k<=j->l[j]?=some d->gd j d=true)/\∃U',Jd nxt g b n k U S=.nx U' S/\I l.length U' S)\/((∃j d,k<=j/\l[j]?=some d/\gd j d=false)/\Jd nxt g b n k U S=.rt (.bl false) S)
 |0,k,U,S,h1,_,h2=>by omega
 |n+1,k,U,S,h1,hI,h2=>by
  unfold Jd;rw[hn k U S hI];cases z:l[k]? with
  |none=>
   have:k=l.length:=by have:=AV.mp z;omega
   subst this;refine .inl ⟨fun j d hj hd=>?_,U,rfl,hI⟩;have:=(Aa.mp hd).1;omega
  |some d=>
   have hk:k<l.length:=(Aa.mp z).1;obtain⟨U1,e1,h⟩:=hs k d U S z hI;rcases h with⟨hg,U2,e2,hI2⟩|⟨hg,e2⟩
   ·simp only[e1,e2];rcases Ghk gd I hn hs n (k+1) U2 S hk hI2 (by omega)with⟨h3,U',e4,h5⟩|⟨⟨j,d',hj,hd',hg'⟩,e4⟩
    ·refine .inl ⟨fun j d' hj hd'=>?_,U',e4,h5⟩;by_cases hjk:j=k
     ·subst hjk;rw[z]at hd';cases hd';exact hg
     ·exact h3 j d' (by omega) hd'
    ·exact .inr ⟨⟨j,d',by omega,hd',hg'⟩,e4⟩
   ·simp only[e1,e2];exact .inr ⟨⟨k,d,Ac _,z,hg⟩,by first|rfl|trivial⟩
def Vn{a b:List D}(h:a.length+b.length<=1000000):Gr (.tup a) (.tup b) S=.ok (.tup (a++b)) S:=by
 show(if a.length+b.length<=1000000 then Out.ok (D.tup (a++b)) S else .bad)=_;rw[if_pos h]
def Yk{a b:Str}(h1:PyData.strOk a=true)(h2:PyData.strOk b=true):PyData.strOk (a++b)=true:=by
 unfold PyData.strOk at *;show((a.cps++b.cps).all fun x=>decide (x<1114112))=true;rw[Array.all_append,h1,h2];rfl
def Glv:∀ts:List Str,(∀t∈ts,PyData.strOk t=true/\t.length<=n)->PyData.strOk (Str.join ", " ts)=true/\(Str.join ", " ts).length<=(n+2)*ts.length
 |[],_=>⟨by decide +kernel,by show(Str.join ", " []).length<=_;exact Nat.le_of_eq (by rfl)⟩
 |[x],h=>by
  obtain⟨h1,h2⟩:=h x Aw;exact⟨h1,by show x.length<=_;simp;omega⟩
 |x::y::r,h=>by
  obtain⟨h1,h2⟩:=h x Aw;obtain⟨h3,h4⟩:=Glv (y::r) fun t ht=>h t (Au _ ht);have e:Str.join ", " (x::y::r)=x++", "++Str.join ", " (y::r):=rfl;refine⟨by rw[e];exact Yk (Yk h1 (stok _)) h3,?_⟩;rw[e,Str.length_append,Str.length_append];have e2:((", ":String):Str).length=2:=rfl;rw[e2];simp only[Bi]at h4⊢;have:(n+2)*(r.length+1+1)=(n+2)*(r.length+1)+(n+2):=by rw[Nat.mul_add (n+2) (r.length+1) 1];omega
  omega
def Gz3{ts:List Str}(h:∀t∈ts,PyData.strOk t=true/\t.length<=n):PyData.strOk (tupleText ts)=true/\(tupleText ts).length<=(n+2)*ts.length+3:=by
 obtain⟨h1,h2⟩:=Glv ts h;unfold tupleText;refine⟨Yk (Yk (stok _) h1) (stok _),?_⟩;rw[Str.length_append,Str.length_append];have e1:(("(":String):Str).length=1:=rfl;have e2:∀b:Bool,(((if b=true then ",)" else ")":String):Str)).length<=2:=fun b=>by cases b<;>decide +kernel
 have:=e2 (ts.length==1);rw[e1];omega
def Yl:∀L:List PyData,(PyData.shownAll L).length=L.length
 |[]=>rfl
 |a::L=>by show(PyData.shown a::PyData.shownAll L).length=_;simp[Yl L]
theorem Gci:Uf [.tup l] S=.ok (.lst S.length) (S++[⟨false,l⟩]):=rfl
def Gpz{x:D}:Wp (.tup (x::l)) (some 1) none S=.ok (.tup l) S:=by
 have e1:HT.sIx (x::l).length 0 (some 1)=1:=by
  have:=HT.Vo (x::l).length 0 1;rw[show((1:Nat):Int)=1 from rfl]at this;rw[this];simp
 show(if HT.sIx (x::l).length 0 (some 1)=0/\HT.sIx (x::l).length (x::l).length none=(x::l).length then Out.ok (D.tup (x::l)) S else .ok (.tup (DL.Kl (x::l) (some 1) none)) S)=_;rw[if_neg (by rw[e1];simp)];unfold DL.Kl;rw[e1,HT.Qd];simp
def Glw:∀(ts:List Str)(k:Nat)(acc:Str),PyData.strOk acc=true->(∀t∈ts,PyData.strOk t=true/\t.length<=n)->PyData.strOk (textFrom k acc ts)=true/\(textFrom k acc ts).length<=acc.length+(n+2)*ts.length
 |[],k,acc,h,_=>⟨h,by show acc.length<=_;simp⟩
 |t::ts,k,acc,h,ht=>by
  obtain⟨a,b⟩:=ht t Aw;have e2:∀b:Bool,(((if b=true then ", " else "":String):Str)).length<=2:=fun b=>by cases b<;>decide +kernel
  obtain⟨c,d⟩:=Glw ts (k+1) (acc++((if k>0 then ", " else "":String):Str)++t) (Yk (Yk h (stok _)) a) fun u hu=>ht u (Au _ hu);refine⟨c,Ak d ?_⟩;have:=e2 (decide (k>0));rw[Str.length_append,Str.length_append,Bi];have hx:(n+2)*(ts.length+1)=(n+2)*ts.length+(n+2):=by rw[Nat.mul_add];omega
  by_cases c:k>0
  ·rw[decide_eq_true c]at this;simp only[if_true]at this;rw[if_pos c];omega
  ·rw[decide_eq_false c]at this;simp only[AE,if_false]at this;rw[if_neg c];omega
def Gz4{ts:List Str}(h:∀t∈ts,PyData.strOk t=true/\t.length<=n):PyData.strOk (listText ts)=true/\(listText ts).length<=(n+2)*ts.length+3:=by
 obtain⟨a,b⟩:=Glw ts 0 "[" (stok _) h;unfold listText;refine⟨Yk a (stok _),?_⟩;rw[Str.length_append];have e1:(("[":String):Str).length=1:=rfl;have e2:(("]":String):Str).length=1:=rfl;rw[e2];rw[e1]at b;omega
def Gt3(s:String):(Str.ofString s).length=s.toList.length:=by
 rw[Str.ofString_eq_toList];show(Array.size _)=_;simp
def Gt4{i:Int}(h:i.natAbs<10^60):(Str.ofString (toString i)).length<=61:=by
 rw[Gt3];cases i with
 |ofNat m=>
  show(Nat.repr m).toList.length<=61;have:=(Nat.length_toDigits_le_iff (b:=10) (n:=m) (k:=60) (by decide) (by decide)).mpr h;simp only[Nat.repr,String.toList_ofList];omega
 |negSucc m=>
  show("-"++Nat.repr (m+1)).toList.length<=61;have:=(Nat.length_toDigits_le_iff (b:=10) (n:=m+1) (k:=60) (by decide) (by decide)).mpr h;simp only[Nat.repr,String.toList_append,String.toList_ofList,AG];have:("-":String).toList.length=1:=rfl;omega
structure Gp(p:PyData)(b e:Nat):Prop where
 sh:p.showable=true
 nd:p.hasDict=false
 dp:p.depth<=e
 ok:PyData.strOk p.shown=true
 le:p.shown.length<=b
def Gp.mono{p:PyData}{b:Nat}(h:Gp p b e)(h1:b<=b')(h2:e<=e'):Gp p b' e':=⟨h.sh,h.nd,Ak h.dp h2,h.ok,Ak h.le h1⟩
def Gkw{b:Nat}:∀{ps:List PyData},(∀p∈ps,Gp p b e)->PyData.showableAll ps=true/\PyData.hasDictAll ps=false/\PyData.depthAll ps<=e/\∀t∈PyData.shownAll ps,PyData.strOk t=true/\t.length<=b
 |[],_=>⟨rfl,rfl,At _,fun t ht=>by cases ht⟩
 |p::r,h=>by
  have hp:=h p Aw;obtain⟨a1,a2,a3,a4⟩:=Gkw (ps:=r) fun q hq=>h q (Au _ hq);refine⟨?_,?_,?_,?_⟩
  ·show(p.showable&&PyData.showableAll r)=true;rw[hp.sh,a1];rfl
  ·show(p.hasDict||PyData.hasDictAll r)=false;rw[hp.nd,a2];rfl
  ·show max p.depth (PyData.depthAll r)<=e;exact Nat.max_le.mpr ⟨hp.dp,a3⟩
  ·intro t ht;have ht:t∈p.shown::PyData.shownAll r:=ht;rcases Ad.mp ht with rfl|ht
   ·exact⟨hp.ok,hp.le⟩
   ·exact a4 t ht
def Gp0{ps:List PyData}{b:Nat}(h:∀p∈ps,Gp p b e):Gp (.tuple ps) ((b+2)*ps.length+3) (e+1):=by
 obtain⟨a1,a2,a3,a4⟩:=Gkw h;obtain⟨c1,c2⟩:=Gz3 a4;rw[Yl]at c2;refine⟨by simpa[PyData.showable]using a1,by simpa[PyData.hasDict]using a2,by simp only[PyData.depth];omega,?_,?_⟩
 ·show PyData.strOk (tupleText (PyData.shownAll ps))=true;exact c1
 ·show(tupleText (PyData.shownAll ps)).length<=_;exact c2
def Gp1{ps:List PyData}{b:Nat}(h:∀p∈ps,Gp p b e):Gp (.list ps) ((b+2)*ps.length+3) (e+1):=by
 obtain⟨a1,a2,a3,a4⟩:=Gkw h;obtain⟨c1,c2⟩:=Gz4 a4;rw[Yl]at c2;refine⟨by simpa[PyData.showable]using a1,by simpa[PyData.hasDict]using a2,by simp only[PyData.depth];omega,?_,?_⟩
 ·show PyData.strOk (listText (PyData.shownAll ps))=true;exact c1
 ·show(listText (PyData.shownAll ps)).length<=_;exact c2
def Sho(S:Sto)(d:D)(b e:Nat):Prop:=∃p,(∀S',Ex S S'->∀n,e<n->toP S' n d=some p)/\Gp p b e
def Ghl{b:Nat}:∀{l:List D},(∀d∈l,Sho S d b e)->∃ps,(∀S',Ex S S'->∀n,e<n->Jy (toP S' n) l=some ps)/\ps.length=l.length/\∀p∈ps,Gp p b e
 |[],_=>⟨[],fun _ _ _ _=>rfl,rfl,fun p hp=>by cases hp⟩
 |d::l,h=>by
  obtain⟨p,a,g⟩:=h d Aw;obtain⟨ps,a2,a3,a4⟩:=Ghl (l:=l) fun q hq=>h q (Au _ hq);refine⟨p::ps,fun S' x n hn=>?_,by simp[a3],fun q hq=>?_⟩
  ·simp only[Jy,a S' x n hn,a2 S' x n hn]
  ·rcases Ad.mp hq with rfl|hq
   ·exact g
   ·exact a4 q hq
def Gt5{l:List D}{b:Nat}(h:∀d∈l,Sho S d b e):Sho S (.tup l) ((b+2)*l.length+3) (e+1):=by
 obtain⟨ps,a,hl,g⟩:=Ghl h;refine⟨.tuple ps,fun S' x n hn=>?_,by rw[<- hl];exact Gp0 g⟩;obtain⟨m,rfl⟩:∃m,n=m+1:=⟨n-1,by omega⟩
 show(Jy (toP S' m) l).map PyData.tuple=_;rw[a S' x m (by omega)];rfl
def Gt6{i:Int}(h:i.natAbs<10^60):Sho S (.int i) 61 0:=by
 refine⟨.int i,fun S' _ n hn=>?_,⟨?_,rfl,Ac _,?_,?_⟩⟩
 ·obtain⟨m,rfl⟩:∃m,n=m+1:=⟨n-1,by omega⟩
  rfl
 ·show decide (i.natAbs.log2<1920)=true;refine decide_eq_true ?_;by_cases c:i.natAbs=0
  ·rw[c];decide
  ·refine Ag ((Nat.log2_lt c).mpr (show i.natAbs<2^200 from Bb h (by decide))) (by decide)
 ·show PyData.strOk (Str.ofString (toString i))=true;exact stok _
 ·show(Str.ofString (toString i)).length<=61;exact Gt4 h
def Gz5{v:Bool}:Sho S (.bl v) 61 0:=by
 refine⟨.bool v,fun S' _ n hn=>?_,⟨rfl,rfl,Ac _,?_,?_⟩⟩
 ·obtain⟨m,rfl⟩:∃m,n=m+1:=⟨n-1,by omega⟩
  rfl
 ·cases v<;>decide +kernel
 ·cases v<;>decide +kernel
def Glx:Sho S .non 61 0:=by
 refine⟨.none,fun S' _ n hn=>?_,⟨rfl,rfl,Ac _,by decide +kernel,by decide +kernel⟩⟩;obtain⟨m,rfl⟩:∃m,n=m+1:=⟨n-1,by omega⟩
 rfl
def Gz6:Sho S (.str "") 61 0:=by
 refine⟨.str "",fun S' _ n hn=>?_,⟨by decide +kernel,rfl,Ac _,by decide +kernel,by decide +kernel⟩⟩;obtain⟨m,rfl⟩:∃m,n=m+1:=⟨n-1,by omega⟩
 rfl
def Sho.repr{b:Nat}(h:Sho S d b e)(h1:b<=1000000)(h2:e<40):∃s:Str,PyData.strOk s=true/\∀S',Ex S S'->Yo [d] S'=.ok (.str s) S':=by
 obtain⟨p,a,g⟩:=h;refine⟨p.shown,g.ok,fun S' x=>?_⟩;have ha:=a S' x 40 h2;have big:∀(q:PyData),q=p->(if(q.showable&&!q.hasDict&&decide (q.depth<=60))=true/\q.shown.length<=1000000 then Out.ok (D.str q.shown) S' else .bad)=.ok (.str p.shown) S':=fun q hq=>by
  subst hq;rw[if_pos];refine⟨?_,Ak g.le h1⟩;rw[g.sh,g.nd];have:=g.dp;simp;omega
 cases d with
 |non=>cases (Ab ha);rfl
 |bl v=>cases (Ab ha);cases v<;>rfl
 |int i=>
  cases (Ab ha);have:i.natAbs.log2<1920:=of_decide_eq_true g.sh;show(if i.natAbs.log2<1920 then Out.ok (D.str (toString i)) S' else .bad)=_;rw[if_pos this];rfl
 |str z=>
  cases (Ab ha);have:(reprText z).length<=1000000:=Ak g.le h1;show(if(reprText z).length<=1000000 then Out.ok (D.str (reprText z)) S' else .bad)=_;rw[if_pos this];rfl
 |tup l=>
  show(match toP S' 40 (.tup l) with
   |some p=>if(p.showable&&!p.hasDict&&decide (p.depth<=60))=true/\p.shown.length<=1000000 then Out.ok (D.str p.shown) S' else .bad
   | none=>.bad)=_
  rw[ha];exact big p rfl
 |lst i=>
  show(match toP S' 40 (.lst i) with
   |some p=>if(p.showable&&!p.hasDict&&decide (p.depth<=60))=true/\p.shown.length<=1000000 then Out.ok (D.str p.shown) S' else .bad
   | none=>.bad)=_
  rw[ha];exact big p rfl
 |exn _ _=>cases ha
 |fv _=>cases ha
 |dct _=>cases ha
def Gas{c:Ev Bool}{g:Sv}(h:c U S=.ok true S1):sif c f g U S=f U S1:=by
 rw[Gef,h,Ha,if_pos rfl]
def Gfz{c:Ev Bool}{g:Sv}(h:c U S=.ok false S1):sif c f g U S=g U S1:=by
 rw[Gef,h,Ha,if_neg (by decide)]
def Gc1{g:Sv}(h:f U S=.nx U' S1):sq f g U S=g U' S1:=by rw[Gc0,h]
def Hde(h:f U S=.rt y S1):sq f g U S=.rt y S1:=by rw[Gc0,h]
def Hex{lo hi:BQ Int}(e:S[q]?=some c):Wp (.lst q) lo hi S=.ok (.lst S.length) (S++[⟨false,DL.Kl c.xs lo hi⟩]):=by
 simp only[Wp,e]
def Gz7(e:S[q]?=some c):Uf [.lst q] S=.ok (.lst S.length) (S++[⟨false,c.xs⟩]):=by
 simp only[Uf,e]
def Gt7{ns:List Int}{lo hi:BQ Int}:∃ys:List Int,DL.Kl (ns.map D.int) lo hi=ys.map D.int:=
 ⟨(ns.drop (HT.sIx (ns.map D.int).length 0 lo)).take (HT.sIx (ns.map D.int).length (ns.map D.int).length hi-HT.sIx (ns.map D.int).length 0 lo),by unfold DL.Kl;rw[List.map_take,List.map_drop]⟩
def Gt8{ns:List Int}(e:S[q]?=some ⟨fz,ns.map D.int⟩):∃(t k:Nat)(S':Sto),Wj [.lst q] S=.ok (.lst t) S'/\Dp S' t k 0:=by
 obtain⟨ys,hy⟩:=Gt7 (ns:=ns) (lo:=none) (hi:=some 63);have s1:Wp (.lst q) none (some 63) S=.ok (.lst S.length) (S++[⟨false,ys.map D.int⟩]):=by rw[Hex e,hy]
 have q1:(S++[⟨false,ys.map D.int⟩])[S.length]?=some (⟨false,ys.map D.int⟩:Cell):=Gu;generalize hS1:S++[⟨false,ys.map D.int⟩]=S1 at *;have s3:Uf [.lst S.length] S1=.ok (.lst S1.length) (S1++[⟨false,ys.map D.int⟩]):=Gz7 q1;have q3:(S1++[⟨false,ys.map D.int⟩])[S1.length]?=some (⟨false,ys.map D.int⟩:Cell):=Gu;have l3:(S1++[(⟨false,ys.map D.int⟩:Cell)]).length=S1.length+1:=by simp
 generalize hS3:S1++[⟨false,ys.map D.int⟩]=S3 at *;refine⟨S3.length,S1.length,S3++[⟨false,[.lst S1.length,.int 0,.int 0]⟩],?_,⟨⟨0,0,ys,Gu,Gz q3,by decide,by decide⟩,by omega⟩⟩;refine(Gs (m:=1) (b:=Ve)).trans ?_;show fin (Ve [some (.lst q)] S)=_;unfold Ve;simp[s1,s3]
def vOk(cr:Int)(p:Pl)(l r f:Int):Prop:=0<=l/\0<=r/\0<=f/\match p with
 |.e=>l=0/\r<=cr/\f<=cr
 |.c=>l<=1/\r+f<=1
 |.p br _ ro _=>l<=br/\r+f<=ro
def s1:eqD (.str "end") (.str "chamber") S=.ok (.bl false) S:=by rw[Qq (stok _) (stok _)];rfl
def s2:eqD (.str "end") (.str "pound") S=.ok (.bl false) S:=by rw[Qq (stok _) (stok _)];rfl
def s3:eqD (.str "chamber") (.str "chamber") S=.ok (.bl true) S:=by rw[Qq (stok _) (stok _)];rfl
def s4:eqD (.str "chamber") (.str "pound") S=.ok (.bl false) S:=by rw[Qq (stok _) (stok _)];rfl
def s5:eqD (.str "pound") (.str "chamber") S=.ok (.bl false) S:=by rw[Qq (stok _) (stok _)];rfl
def s6:eqD (.str "pound") (.str "pound") S=.ok (.bl true) S:=by rw[Qq (stok _) (stok _)];rfl
def s7:eqD (.str "end") (.str "end") S=.ok (.bl true) S:=by rw[Qq (stok _) (stok _)];rfl
def s8:eqD (.str "chamber") (.str "end") S=.ok (.bl false) S:=by rw[Qq (stok _) (stok _)];rfl
def s9:eqD (.str "pound") (.str "end") S=.ok (.bl false) S:=by rw[Qq (stok _) (stok _)];rfl
def p0e:DL.getD (.tup (d::l)) (.int 0) S=.ok d S:=Hy (Hc (by decide) rfl)
def p1e{e:D}:DL.getD (.tup (e::d::l)) (.int 1) S=.ok d S:=Hy (Hc (by decide) rfl)
def p3e{a b c:D}:DL.getD (.tup (a::b::c::d::l)) (.int 3) S=.ok d S:=Hy (Hc (by decide) rfl)
theorem Gly:Gev [.bl b] S=.ok (.int (if b then 1 else 0)) S:=rfl
structure StR(cr:Int)(ps:List Pl)(L R F:List Int):Prop where
 lL:L.length=ps.length
 lR:R.length=ps.length
 lF:F.length=ps.length
 at':∀(i:Nat)(p:Pl),ps[i]?=some p->∃l r f,L[i]?=some l/\R[i]?=some r/\F[i]?=some f/\vOk cr p l r f
def stD(L R F:List Int):D:=.tup [.tup (L.map D.int),.tup (R.map D.int),.tup (F.map D.int)]
noncomputable def wat:Pl->Int
 |.e=>0
 |.c=>1
 |.p br _ _ _=>br
def Gjd(h:p.ok):Ka [p.toD] S=.ok (.int (wat p)) S:=by
 have e1:=fun S=>Ghi (S:=S) h;have e2:=fun S=>Gdg (S:=S) h;cases p with
 |e=>simp[Ka,fnB,Qu,c_END,c_CHAMBER,e1,Pl.isE,wat]
 |c=>simp[Ka,fnB,Qu,c_END,c_CHAMBER,e1,e2,Pl.isE,Pl.isC,wat]
 |p br de ro pr=>
  have g:∀S,DL.getD (Pl.toD (.p br de ro pr)) (.int 1) S=.ok (.int br) S:=fun S=>p1e;simp[Ka,fnB,Qu,c_END,c_CHAMBER,e1,e2,Pl.isE,Pl.isC,wat,g]
def Kk(h:L[k]?=some i):DL.getD (.tup (L.map D.int)) (.int k) S=.ok (.int i) S:=
 Hy (Hc (by omega) (by rw[AK,Ar,h];rfl))
def Gf0{g:Tg}{b:Sv}(h:nxt k S=some d)(h2:g d U=some U1)(h3:b U1 S=.nx U2 S2):Jd nxt g b (n+1) k U S=Jd nxt g b n (k+1) U2 S2:=by
 conv=>lhs;unfold Jd
 simp only[h,h2,h3]
def Gnd{b:Sv}(h:nxt k S=none):Jd nxt g b (n+1) k U S=.nx U S:=by
 conv=>lhs;unfold Jd
 simp only[h]
def Hdf(h:PyData.strOk s=true):neD (.str s) (.str s) S=.ok (.bl false) S:=by
 simp only[neD,toP];simp[SeqAt.shaped,PyData.eqv,PyData.canLay0,PyData.depth,h]
def Gt9(h:k<M.length):Wp (.tup (M.map D.int)) none (some (k:Int)) S=.ok (.tup ((M.take k).map D.int)) S:=by
 have e2:HT.sIx (M.map D.int).length (M.map D.int).length (some (k:Int))=k:=by
  rw[HT.Vo,Ai];omega
 show(if HT.sIx (M.map D.int).length 0 none=0/\HT.sIx (M.map D.int).length (M.map D.int).length (some (k:Int))=(M.map D.int).length then Out.ok (D.tup (M.map D.int)) S else .ok (.tup (DL.Kl (M.map D.int) none (some (k:Int)))) S)=_;rw[if_neg (by rw[e2,Ai];omega)];unfold DL.Kl;rw[e2,HT.Qd,List.map_take];rfl
def Gua(h:k<M.length):Wp (.tup (M.map D.int)) (some ((k:Int)+1)) none S=.ok (.tup ((M.drop (k+1)).map D.int)) S:=by
 have e1:HT.sIx (M.map D.int).length 0 (some ((k:Int)+1))=k+1:=by
  have:=HT.Vo (M.map D.int).length 0 (k+1);rw[show((k+1:Nat):Int)=(k:Int)+1 from by push_cast;rfl]at this;rw[this,Ai];omega
 show(if HT.sIx (M.map D.int).length 0 (some ((k:Int)+1))=0/\HT.sIx (M.map D.int).length (M.map D.int).length none=(M.map D.int).length then Out.ok (D.tup (M.map D.int)) S else .ok (.tup (DL.Kl (M.map D.int) (some ((k:Int)+1)) none)) S)=_;rw[if_neg (by rw[e1];omega)];unfold DL.Kl;rw[e1,HT.Qd,List.map_drop,BL (by simp)]
def Gdh{m:Int}(h:M[k]?=some r)(hl:M.length<=1000):Qp [.tup (M.map D.int),.int k,.int m] S=.ok (.tup ((M.set k (r+m)).map D.int)) S:=by
 have hk:k<M.length:=(Aa.mp h).1;have g:=Kk (S:=S) h;have a1:Gr (.tup ((M.take k).map D.int)) (.tup [.int (r+m)]) S=.ok (.tup ((M.take k).map D.int++[.int (r+m)])) S:=Vn (by simp;omega);have a2:Gr (.tup ((M.take k).map D.int++[.int (r+m)])) (.tup ((M.drop (k+1)).map D.int)) S=.ok (.tup ((M.take k).map D.int++[.int (r+m)]++(M.drop (k+1)).map D.int)) S:=Vn (by simp;omega);refine(Gs (m:=3) (b:=Vc)).trans ?_;show fin (Vc [some (.tup (M.map D.int)),some (.int k),some (.int m)] S)=_;have e:(M.take k).map D.int++[.int (r+m)]++(M.drop (k+1)).map D.int=(M.set k (r+m)).map D.int:=by
  rw[List.set_eq_take_append_cons_drop,if_pos hk];simp
 rw[e]at a2;simp[Vc,Gt9 hk,Gua hk,g,a1,a2,-List.map_take,-List.map_drop,-List.map_set]
def Ghm{f:Fn}(h:f ds S=.exc x S')(hy:x.cls∈ys):gX ys f ds S=.exc x S':=by
 simp only[gX,h,if_pos hy]
def Glz{f:Fn}(h:f ds S=.ok d S'):gX ys f ds S=.ok d S':=by
 simp only[gX,h]
@[simp] theorem Hdg{β:Type}:(Out.exc x S:Out Z).bind g=.exc x S:=rfl
@[simp] theorem Gne:bindS (Out.exc x S:Out Z) U g=.exc x U S:=rfl
def words:List D:=[.str "nogate",.str "dry",.str "full",.str "nospring",.str "nobarge",.str "noroom",.str "uneven",.str "shallow",.str "falls",.str "notext",.str "toomany",.str "noline"]
def Ul(y:Str):D:=match (ys.zip words).lookup y with
 |some w=>w
 |none=>.non
def Gz8{fb:Sv}(h:fb U S=.nx U' S'):Gbd ys hh fb U S=.nx U' S':=by simp only[Gbd,h]
def Gub{hh:XD->Sv}{fb:Sv}(h:fb U S=.exc x U' S')(hy:x.cls∈ys):Gbd ys hh fb U S=hh x U' S':=by simp only[Gbd,h,if_pos hy]
noncomputable def gd(u:Bool):D:=.str (if u=true then "up" else "down")
def cD(ps:List Pl)(us:List Bool):D:=.tup [.tup (ps.map Pl.toD),.tup (us.map gd)]
def Gje:∀{gs:List D},(∀g∈gs,g=.str "up"\/g=.str "down")->∃us:List Bool,gs=us.map gd
 |[],_=>⟨[],rfl⟩
 |g::r,h=>by
  obtain⟨us,e⟩:=Gje fun x hx=>h x (Au _ hx);rcases h g Aw with z|z
  ·exact⟨true::us,by rw[e,z];rfl⟩
  ·exact⟨false::us,by rw[e,z];rfl⟩
inductive Res where
 |no (y:Str)|yes (d:D)
noncomputable def Res.out(r:Res)(S:Sto):Out D:=match r with
 |.no y=>.exc ⟨y,none⟩ S
 |.yes d=>.ok d S
def Res.toD:Res->D
 |.no y=>Ul y
 |.yes d=>d
def Res.ok:Res->Prop
 |.no y=>y∈ys
 |.yes _=>True
section
variable{ps:List Pl}{us:List Bool}{L R F:List Int}{S:Sto}
def cd0:DL.getD (cD ps us) (.int 0) S=.ok (.tup (ps.map Pl.toD)) S:=Hy (Hc (by decide) rfl)
def cd1:DL.getD (cD ps us) (.int 1) S=.ok (.tup (us.map gd)) S:=Hy (Hc (by decide) rfl)
def st0:DL.getD (stD L R F) (.int 0) S=.ok (.tup (L.map D.int)) S:=Hy (Hc (by decide) rfl)
def st1:DL.getD (stD L R F) (.int 1) S=.ok (.tup (R.map D.int)) S:=Hy (Hc (by decide) rfl)
def st2:DL.getD (stD L R F) (.int 2) S=.ok (.tup (F.map D.int)) S:=Hy (Hc (by decide) rfl)
def Wn(h:ps[k]?=some p):DL.getD (.tup (ps.map Pl.toD)) (.int k) S=.ok p.toD S:=
 Hy (Hc (by omega) (by rw[AK,Ar,h];rfl))
def Gl0(h:us[k]?=some u):DL.getD (.tup (us.map gd)) (.int k) S=.ok (gd u) S:=
 Hy (Hc (by omega) (by rw[AK,Ar,h];rfl))
def Gl1:eqD (gd u) (.str "up") S=.ok (.bl u) S:=by
 cases u
 ·show eqD (.str "down") (.str "up") S=_;rw[Qq (stok _) (stok _)];rfl
 ·show eqD (.str "up") (.str "up") S=_;rw[Qq (stok _) (stok _)];rfl
noncomputable def hiI(u:Bool)(k:Nat):Nat:=if u=true then k+1 else k
noncomputable def loI(u:Bool)(k:Nat):Nat:=if u=true then k else k+1
def Gcj(h:us[k]?=some u):Zv [cD ps us,.int k] S=.ok (.int (hiI u k)) S:=by
 refine(Gs (m:=2) (b:=Zu)).trans ?_;show fin (Zu [some (cD ps us),some (.int k)] S)=_;have g:=Gl1 (u:=u) (S:=S);cases u<;>simp[Zu,cd1,Gl0 h,c_UP,g,hiI]
def Geh(h:us[k]?=some u):Gbp [cD ps us,.int k] S=.ok (.int (loI u k)) S:=by
 refine(Gs (m:=2) (b:=Gbo)).trans ?_;show fin (Gbo [some (cD ps us),some (.int k)] S)=_;have g:=Gl1 (u:=u) (S:=S);cases u<;>simp[Gbo,cd1,Gl0 h,c_UP,g,loI]
set_option tactic.hygienic true
def Ue{x:D}(e:eqD x y S=.ok (.bl b) S):neD x y S=.ok (.bl (!b)) S:=by
 unfold eqD at e;unfold neD;split at e
 ·rename_i P Q z1 z2;by_cases hs:(SeqAt.shaped P&&SeqAt.shaped Q)=true
  ·rw[if_pos hs]at e;have:PyData.eqv P Q=b:=by injection e with e _;injection e
   rw[if_pos hs,this]
  ·rw[if_neg hs]at e;cases e
 ·cases e
set_option tactic.hygienic false
def Gp2(h:p.ok):neD p.toD (.tup [.str "end"]) S=.ok (.bl (!p.isE)) S:=Ue (Ghi h)
def Gnf(h:p.ok):Gdz [p.toD,.int l] S=.ok (.bl (!p.isE&&decide (l=0))) S:=by
 refine(Gs (m:=2) (b:=Zt)).trans ?_;show fin (Zt [some p.toD,some (.int l)] S)=_;have n:=Gp2 (S:=S) h;cases z:p.isE<;>rw[z]at n<;>simp[Zt,c_END,n]
def Gei(h:p.ok):Gae [p.toD,.int l] S=.ok (.bl (!p.isE&&decide (wat p<=l))) S:=by
 refine(Gs (m:=2) (b:=Xo)).trans ?_;show fin (Xo [some p.toD,some (.int l)] S)=_;have n:=Gp2 (S:=S) h;have wa:=Gjd (S:=S) h;cases z:p.isE<;>rw[z]at n<;>simp[Xo,c_END,n,wa]
noncomputable def spr:Pl->Bool
 |.p _ _ _ (.int _)=>true
 |_=>false
def Gng(h:p.ok):Ya [p.toD] S=.ok (.bl (spr p)) S:=by
 refine(Gs (m:=1) (b:=Jo)).trans ?_;show fin (Jo [some p.toD] S)=_;cases p with
 |e=>
  have g:DL.getD (Pl.toD .e) (.int 0) S=.ok (.str "end") S:=Hy (Hc (by decide) rfl);simp[Jo,g,s2,spr]
 |c=>
  have g:DL.getD (Pl.toD .c) (.int 0) S=.ok (.str "chamber") S:=Hy (Hc (by decide) rfl);simp[Jo,g,s4,spr]
 |p br de ro pr=>
  have g:DL.getD (Pl.toD (.p br de ro pr)) (.int 0) S=.ok (.str "pound") S:=Hy (Hc (by decide) rfl);have g4:DL.getD (Pl.toD (.p br de ro pr)) (.int 4) S=.ok pr S:=Hy (Hc (by decide) rfl);obtain⟨_,_,_,_,_,_,hpr⟩:=h;rcases hpr with rfl|⟨i,rfl,_⟩
  ·simp[Jo,g,g4,s6,spr,Gfq]
  ·simp[Jo,g,g4,s6,spr,Gfq]
def Gl2{n:Int}:Vq [cD ps us,.int n] S=if 0<=n/\n<us.length then .ok .non S else .exc ⟨"NoGate",none⟩ S:=by
 refine(Gs (m:=2) (b:=Ke)).trans ?_;show fin (Ke [some (cD ps us),some (.int n)] S)=_;by_cases h1:0<=n
 ·by_cases h2:n<us.length
  ·rw[if_pos ⟨h1,h2⟩];simp[Ke,cd1,h1,h2,fin]
  ·rw[if_neg (fun z=>h2 z.2)];simp[Ke,cd1,h1,h2,fin,srs]
 ·rw[if_neg (fun z=>h1 z.1)];simp[Ke,cd1,h1,fin,srs]
end
noncomputable def hol:Pl->Int->Bool
 |.e,_=>true
 |.c,b=>decide (b<=1)
 |.p _ _ ro _,b=>decide (b<=ro)
def Gjf{b:Int}(h:p.ok):Yc [p.toD,.int b] S=.ok (.bl (hol p b)) S:=by
 have e1:=fun S=>Ghi (S:=S) h;have e2:=fun S=>Gdg (S:=S) h;cases p with
 |e=>simp[Yc,fnB,Gbn,c_END,c_CHAMBER,e1,Pl.isE,hol]
 |c=>simp[Yc,fnB,Gbn,c_END,c_CHAMBER,e1,e2,Pl.isE,Pl.isC,hol]
 |p br de ro pr=>
  have g:∀S,DL.getD (Pl.toD (.p br de ro pr)) (.int 3) S=.ok (.int ro) S:=fun S=>p3e;simp[Yc,fnB,Gbn,c_END,c_CHAMBER,e1,e2,Pl.isE,Pl.isC,hol,g]
noncomputable def wd(b:Bool):D:=.str (if b=true then "right" else "left")
def sel(b:Bool)(R F:List Int):List Int:=if b=true then R else F
def Gaf:eqD (wd b) (.str "right") S=.ok (.bl b) S:=by
 cases b
 ·show eqD (.str "left") (.str "right") S=_;rw[Qq (stok _) (stok _)];rfl
 ·show eqD (.str "right") (.str "right") S=_;rw[Qq (stok _) (stok _)];rfl
def Gp3{R F:List Int}:Wh [stD L R F,wd b] S=.ok (.tup ((sel b R F).map D.int)) S:=by
 refine(Gs (m:=2) (b:=Vb)).trans ?_;show fin (Vb [some (stD L R F),some (wd b)] S)=_;have w:=Gaf (S:=S) (b:=b);have g1:DL.getD (stD L R F) (.int 1) S=.ok (.tup (R.map D.int)) S:=p1e;have g2:DL.getD (stD L R F) (.int 2) S=.ok (.tup (F.map D.int)) S:=Hy (Hc (by decide) rfl);cases b<;>simp[Vb,w,g1,g2,sel]
structure Rw(S:Sto)(q x y z:Nat)(A B C:List D):Prop where
 q0:S[q]?=some ⟨false,[.lst x,.lst y,.lst z]⟩
 q1:S[x]?=some ⟨false,A⟩
 q2:S[y]?=some ⟨false,B⟩
 q3:S[z]?=some ⟨false,C⟩
def Gp4{f:Ev D}(hf:f U S=.ok (.tup [.tup A,.tup B,.tup C]) S):∃S',cmp (isrc f) [none] (gn 0) ttrue (b1 Uf (ac XH an)) U S=.ok (.lst S.length) S'/\Rw S' S.length (S.length+1) (S.length+2) (S.length+3) A B C/\Ex S S':=by
 have w:∀(l:Sto)(j:Nat),(S++l)[S.length+j]?=l[j]?:=fun l j=>by rw[Bq (by omega)];congr 1;omega
 have w0:∀l:Sto,(S++l)[S.length]?=l[0]?:=fun l=>w l 0;have st:∀(l:Sto)(c:Cell),(S++l).set S.length c=S++l.set 0 c:=fun l c=>by rw[List.set_append_right _ _ (Ac _),Nat.sub_self]
 refine⟨S++[⟨false,[.lst (S.length+1),.lst (S.length+2),.lst (S.length+3)]⟩,⟨false,A⟩,⟨false,B⟩,⟨false,C⟩],?_,⟨w0 _,w _ 1,w _ 2,w _ 3⟩,⟨by simp,fun i hi=>by rw[AD hi]⟩⟩;simp[cmp,hf,Yx,Jd,cbody,ttrue,Gci,w0,st,pkS]
def Gl3{x y:Nat}{f:Ev D}(h:Rw S q x y z A B C)(hf:f U S=.ok (.lst q) S):∃S',b1 Qr (ac (cmp (isrc f) [none] (gn 0) ttrue (b1 Qr (ac XH an))) an) U S=.ok (.tup [.tup A,.tup B,.tup C]) S'/\Ex S S':=by
 have w0:∀c:Cell,(S++[c])[S.length]?=some c:=fun c=>Gu;have st:∀c e:Cell,(S++[c]).set S.length e=S++[e]:=fun c e=>by rw[List.set_append_right _ _ (Ac _),Nat.sub_self];rfl
 have k0:=fun c:Cell=>(Ex.app (S:=S) (c:=c)).at h.q0;have k1:=fun c:Cell=>Yt ((Ex.app (S:=S) (c:=c)).at h.q1);have k2:=fun c:Cell=>Yt ((Ex.app (S:=S) (c:=c)).at h.q2);have k3:=fun c:Cell=>Yt ((Ex.app (S:=S) (c:=c)).at h.q3);have k4:=fun c:Cell=>Yt (w0 c);refine⟨S++[⟨false,[.tup A,.tup B,.tup C]⟩],?_,Ex.app⟩;simp[cmp,hf,Yx,h.q0,Jd,cbody,ttrue,k0,k1,k2,k3,k4,w0,st,pkS]
def Rw.ex{x y:Nat}(h:Rw S q x y z A B C)(e:Ex S S'):Rw S' q x y z A B C:=⟨e.at h.q0,e.at h.q1,e.at h.q2,e.at h.q3⟩
def Gej:("NoGate":Str)∈ys/\("Dry":Str)∈ys/\("Full":Str)∈ys/\("NoSpring":Str)∈ys:=by decide +kernel
def adw(p:Pl)(L:List Int)(i:Nat)(l d:Int):List Int:=if p.isE=true then L else L.set i (l+d)
@[simp] theorem Hfg{g:Tgs}:gt g n (.tup ds) U=if ds.length=n then g ds U else none:=rfl
@[simp] theorem Hfh{g:Tg}{c:Tgs}:gcons g c (d::ds) U=(g d U).bind fun U'=>c ds U':=rfl
@[simp] theorem Hfi:gnil [] U=some U:=rfl
section
variable{ps:List Pl}{us:List Bool}{L R F:List Int}{S:Sto}
def Guc(hu:us[k]?=some u)(h1:ps[hiI u k]?=some pH)(h2:ps[loI u k]?=some pL)(h3:L[hiI u k]?=some lH)(h4:L[loI u k]?=some lL)(ok1:pH.ok)(ok2:pL.ok):
  Vd [cD ps us,stD L R F,.int k] S=if(!pH.isE&&decide (lH=0))=true then .exc ⟨"Dry",none⟩ S else if(!pL.isE&&decide (wat pL<=lL))=true then .exc ⟨"Full",none⟩ S else .ok .non S:=by
 have hk:k<us.length:=(Aa.mp hu).1;have cg:=Gl2 (ps:=ps) (us:=us) (n:=(k:Int)) (S:=S);rw[if_pos ⟨by omega,by omega⟩]at cg;have cg:=Glz cg;have hi:=Gcj (ps:=ps) (S:=S) hu;have lo:=Geh (ps:=ps) (S:=S) hu;have dry:=Gnf (l:=lH) (S:=S) ok1;have ful:=Gei (l:=lL) (S:=S) ok2;have g1:=Wn (S:=S) h1;have g2:=Wn (S:=S) h2;have g3:=Kk (S:=S) h3;have g4:=Kk (S:=S) h4;have c0:=cd0 (ps:=ps) (us:=us) (S:=S);have s0:=st0 (L:=L) (R:=R) (F:=F) (S:=S);unfold Vd;rw[Gs];generalize cD ps us=cd at *;generalize stD L R F=sd at *;generalize pH.toD=pa at *;generalize pL.toD=pb at *;generalize (!pH.isE&&decide (lH=0))=b1 at *;generalize (!pL.isE&&decide (wat pL<=lL))=b2 at *;cases b1<;>cases b2<;>simp[Wi,cg,spar,c0,s0,hi,lo,g1,g2,g3,g4,dry,ful,Kt,srs,fin]
def Gv6{i:Nat}{l d:Int}(hp:ps[i]?=some p)(hl:L[i]?=some l)(ok:p.ok)(hL:L.length<=1000):Qx [cD ps us,.tup (L.map D.int),.int i,.int d] S=.ok (.tup ((adw p L i l d).map D.int)) S:=by
 have e:=Ghi (S:=S) ok;have mo:=Gdh (S:=S) (m:=d) hl hL;have g:=Wn (S:=S) hp;have c0:=cd0 (ps:=ps) (us:=us) (S:=S);unfold adw Qx;rw[Gs];cases z:p.isE<;>rw[z]at e<;>simp[Ye,c0,g,c_END,e,mo,-List.map_set]
def Gud{d:Int}:(adw p L i l d).length=L.length:=by unfold adw;split<;>simp
def Gkx{d:Int}(h:i≠j):(adw p L i l d)[j]?=L[j]?:=by
 unfold adw;split
 ·rfl
 ·exact Ah h
def Gp5:hiI u k≠loI u k:=by cases u<;>simp[hiI,loI]
def Hdh(hu:us[k]?=some u)(h1:ps[hiI u k]?=some pH)(h2:ps[loI u k]?=some pL)(h3:L[hiI u k]?=some lH)(h4:L[loI u k]?=some lL)(ok1:pH.ok)(ok2:pL.ok)(hL:L.length<=1000):
  Yf [cD ps us,stD L R F,.int k] S=.ok (stD (adw pL (adw pH L (hiI u k) lH (-1)) (loI u k) lL 1) R F) S:=by
 have hi:=Gcj (ps:=ps) (S:=S) hu;have lo:=Geh (ps:=ps) (S:=S) hu;have w1:=Gv6 (us:=us) (d := -1) (S:=S) h1 h3 ok1 hL;have w2:=Gv6 (us:=us) (L:=adw pH L (hiI u k) lH (-1)) (d:=1) (S:=S) h2 ((Gkx Gp5).trans h4) ok2 (by rw[Gud];exact hL);unfold Yf;rw[Gs];simp[Ga4,stD,hi,w1,lo,w2]
def Gz9:eqD (.str "let") (.str "let") S=.ok (.bl true) S:=by rw[Qq (stok _) (stok _)];rfl
def Haa:eqD (.str "feed") (.str "let") S=.ok (.bl false) S:=by rw[Qq (stok _) (stok _)];rfl
def Gue:eqD (.str "feed") (.str "feed") S=.ok (.bl true) S:=by rw[Qq (stok _) (stok _)];rfl
def Hdi:eqD (.str "let") (.str "feed") S=.ok (.bl false) S:=by rw[Qq (stok _) (stok _)];rfl
def Gnh(u:Bool)(k:Nat)(pH pL:Pl)(lH lL:Int)(L R F:List Int):Res:=
 if(!pH.isE&&decide (lH=0))=true then .no "Dry" else if(!pL.isE&&decide (wat pL<=lL))=true then .no "Full" else .yes (.tup [stD (adw pL (adw pH L (hiI u k) lH (-1)) (loI u k) lL 1) R F,.int 0,.int 0])
def dd_let(hu:us[k]?=some u)(h1:ps[hiI u k]?=some pH)(h2:ps[loI u k]?=some pL)(h3:L[hiI u k]?=some lH)(h4:L[loI u k]?=some lL)(ok1:pH.ok)(ok2:pL.ok)(hL:L.length<=1000):
  Gx [cD ps us,stD L R F,.tup [.str "let",.int k]] S=(Gnh u k pH pL lH lL L R F).out S:=by
 have cl':=Guc (R:=R) (F:=F) (S:=S) hu h1 h2 h3 h4 ok1 ok2;have ld:=Hdh (R:=R) (F:=F) (S:=S) hu h1 h2 h3 h4 ok1 ok2 hL;unfold Gx Gnh;rw[Gs];generalize cD ps us=cd at *;generalize stD L R F=sd at *;generalize (!pH.isE&&decide (lH=0))=b1 at *;generalize (!pL.isE&&decide (wat pL<=lL))=b2 at *;cases b1<;>cases b2<;>simp[Jc,Gz9,gX,cl',Gej,ld,fin,Res.out]
def dd_nogate{n:Int}(h:¬(0<=n/\n<us.length)):Gx [cD ps us,stD L R F,.tup [.str "let",.int n]] S=.exc ⟨"NoGate",none⟩ S:=by
 have cg:=Gl2 (ps:=ps) (us:=us) (n:=n) (S:=S);rw[if_neg h]at cg;simp[Gx,Gs,Jc,Gz9,gX,Vd,Wi,cg,Gej,fin]
def Gaa(k:Nat)(p:Pl)(l:Int)(L R F:List Int):Res:=match p with
 |.p br _ _ (.int i)=>if br<=l then .no "Full" else .yes (.tup [stD (L.set k (l+1)) R F,.int i,.int 0])
 |_=>.no "NoSpring"
def Gv7:DL.getD (Pl.toD (.p br de ro pr)) (.int 4) S=.ok pr S:=Hy (Hc (by decide) rfl)
def dd_feed(hp:ps[k]?=some p)(hl:L[k]?=some l)(ok:p.ok)(hL:L.length<=1000):Gx [cD ps us,stD L R F,.tup [.str "feed",.int k]] S=(Gaa k p l L R F).out S:=by
 have hk:k<ps.length:=(Aa.mp hp).1;have sp:=Gng (S:=S) ok;have fu:=Gei (l:=l) (S:=S) ok;have g1:=Wn (S:=S) hp;have g2:=Kk (S:=S) hl;have c0:=cd0 (ps:=ps) (us:=us) (S:=S);have mo:=Gdh (S:=S) (m:=1) hl hL;have cf:Vr [cD ps us,stD L R F,.int k] S=if spr p=true then(if(!p.isE&&decide (wat p<=l))=true then .exc ⟨"Full",none⟩ S else .ok .non S)else .exc ⟨"NoSpring",none⟩ S:=by
  have s0:=st0 (L:=L) (R:=R) (F:=F) (S:=S);unfold Vr;rw[Gs];generalize cD ps us=cd at *;generalize stD L R F=sd at *;generalize p.toD=pd at *;generalize (!p.isE&&decide (wat p<=l))=b2 at *;generalize spr p=b1 at *;cases b1<;>cases b2<;>simp[Yd,spar,c0,s0,g1,g2,sp,fu,Kt,srs,fin,hk]
 have no:spr p=false->Gx [cD ps us,stD L R F,.tup [.str "feed",.int k]] S=.exc ⟨"NoSpring",none⟩ S:=fun z=>by
  rw[z]at cf;simp[Gx,Gs,Jc,Haa,Gue,gX,cf,Gej,fin]
 cases p with
 |e=>exact no rfl
 |c=>exact no rfl
 |p br de ro pr=>
  rcases ok.2.2.2.2.2.2 with rfl|⟨i,rfl,_⟩
  ·exact no rfl
  ·have pp:=Gv7 (br:=br) (de:=de) (ro:=ro) (pr:=.int i) (S:=S);generalize Pl.toD (.p br de ro (.int i))=pd at *;by_cases c:br<=l
   ·simp[spr,Pl.isE,wat,c]at cf;simp[Gx,Gs,Jc,Haa,Gue,gX,cf,Gej,fin,Gaa,c,Res.out]
   ·simp[spr,Pl.isE,wat,c]at cf;unfold stD at cf;simp[Gx,Gs,Jc,Haa,Gue,gX,cf,fin,Gaa,c,Res.out,stD,mo,g1,c0,pp,-List.map_set]
end
def Gp6:("NoGate":Str)∈ys/\("NoBarge":Str)∈ys/\("NoRoom":Str)∈ys/\("Uneven":Str)∈ys/\("Shallow":Str)∈ys:=by decide +kernel
noncomputable def stI(b:Bool)(k:Nat):Nat:=if b=true then k else k+1
noncomputable def glI(b:Bool)(k:Nat):Nat:=if b=true then k+1 else k
abbrev dM(b:Bool)(n:Int):D:=.tup [wd b,.int n]
noncomputable def shal:Pl->Int->Bool
 |.p _ de _ _,l=>decide (l<de)
 |_,_=>false
section
variable{ps:List Pl}{us:List Bool}{L R F:List Int}{S:Sto}{b:Bool}
def Gp7:eqD (wd b) (.str "let") S=.ok (.bl false) S:=by cases b<;>exact(Qq (stok _) (stok _)).trans rfl
def Ghn:eqD (wd b) (.str "feed") S=.ok (.bl false) S:=by cases b<;>exact(Qq (stok _) (stok _)).trans rfl
def Hab:eqD (wd b) (.str "left") S=.ok (.bl (!b)) S:=by cases b<;>exact(Qq (stok _) (stok _)).trans rfl
def Gjg:Qf [dM b k] S=.ok (.int (stI b k:Nat)) S:=by
 have w:=Gaf (b:=b) (S:=S);cases b<;>simp[Qf,Gs,Xd,w,stI]
def Gck:Ju [dM b k] S=.ok (.int (glI b k:Nat)) S:=by
 have w:=Gaf (b:=b) (S:=S);cases b<;>simp[Ju,Gs,Vx,w,glI]
def Gp8:stI b k≠glI b k:=by cases b<;>simp[stI,glI]
def Gl4:Qv [p.toD,.int l] S=.ok (.bl (shal p l)) S:=by
 have g:∀{x:D}{r:List D},DL.getD (.tup (x::r)) (.int 0) S=.ok x S:=Hy (Hc (by decide) rfl);have g2:∀{x y z:D}{r:List D},DL.getD (.tup (x::y::z::r)) (.int 2) S=.ok z S:=Hy (Hc (by decide) rfl);cases p<;>simp[Qv,Gs,Yb,Pl.toD,g,g2,s2,s4,s6,shal]
def Guf(hu:us[k]?=some u)(h1:ps[hiI u k]?=some pH)(h2:ps[loI u k]?=some pL)(h3:L[hiI u k]?=some lH)(h4:L[loI u k]?=some lL)(ok1:pH.ok)(ok2:pL.ok):
  Ut [cD ps us,.tup (L.map D.int),.int k] S=if(pH.isC&&decide (lH=1))=true then .exc ⟨"Uneven",none⟩ S else if(pL.isC&&decide (lL=0))=true then .exc ⟨"Uneven",none⟩ S else if(shal pH lH||shal pL lL)=true then .exc ⟨"Shallow",none⟩ S else .ok .non S:=by
 have hi:=Gcj (ps:=ps) (S:=S) hu;have lo:=Geh (ps:=ps) (S:=S) hu;have g1:=Wn (S:=S) h1;have g2:=Wn (S:=S) h2;have g3:=Kk (S:=S) h3;have g4:=Kk (S:=S) h4;have c1:=Gdg (S:=S) ok1;have c2:=Gdg (S:=S) ok2;have sh1:=Gl4 (p:=pH) (l:=lH) (S:=S);have sh2:=Gl4 (p:=pL) (l:=lL) (S:=S);have c0:=cd0 (ps:=ps) (us:=us) (S:=S);unfold Ut;rw[Gs];generalize cD ps us=cd at *;generalize pH.toD=pa at *;generalize pL.toD=pb at *;generalize D.tup (L.map D.int)=ld at *;generalize shal pH lH=x1 at *;generalize shal pL lL=x2 at *;generalize pH.isC=b1 at *;generalize pL.isC=b2 at *;by_cases e1:lH=1<;>by_cases e2:lL=0<;>(try simp only[e1]at sh1)<;>(try simp only[e2]at sh2)<;>cases b1<;>cases b2<;>cases x1<;>cases x2<;>simp[Xc,c0,hi,lo,g1,g2,g3,g4,c1,c2,c_CHAMBER,sh1,sh2,Kt,srs,fin,e1,e2]
structure Mv(ps:List Pl)(us:List Bool)(L R F:List Int)(b:Bool)(k:Nat)(u:Bool)(pH pL pG:Pl)(lH lL a g r1 f1:Int):Prop where
 hu:us[k]?=some u
 h1:ps[hiI u k]?=some pH
 h2:ps[loI u k]?=some pL
 h3:L[hiI u k]?=some lH
 h4:L[loI u k]?=some lL
 ok1:pH.ok
 ok2:pL.ok
 hG:ps[glI b k]?=some pG
 okG:pG.ok
 ha:(sel b R F)[stI b k]?=some a
 hg:(sel b R F)[glI b k]?=some g
 hr:R[glI b k]?=some r1
 hf:F[glI b k]?=some f1
 hn:us.length+1=ps.length
 lM:(sel b R F).length<=1000
def Qb(b:Bool)(R F:List Int)(k:Nat)(a g:Int):List Int:=((sel b R F).set (stI b k) (a + -1)).set (glI b k) (g+1)
def Gp9(b:Bool)(L R F:List Int)(k:Nat)(a g:Int):D:=stD L (if b=true then Qb b R F k a g else R) (if b=true then F else Qb b R F k a g)
def Gjh(pH pL pG:Pl)(lH lL a r1 f1:Int):BQ Str:=
 if a=0 then some "NoBarge" else if(hol pG (r1+f1+1))=false then some "NoRoom" else if(pH.isC&&decide (lH=1))=true then some "Uneven" else if(pL.isC&&decide (lL=0))=true then some "Uneven" else if(shal pH lH||shal pL lL)=true then some "Shallow" else none
def Gf1(m:Nat)(b:Bool)(k:Nat)(pH pL pG:Pl)(lH lL a g r1 f1:Int)(L R F:List Int):Res:=match Gjh pH pL pG lH lL a r1 f1 with
 |some y=>.no y
 |none=>.yes (.tup [Gp9 b L R F k a g,.int 0,.int (if(glI b k:Int)=(if b=true then(m:Int)-1 else 0)then 1 else 0)])
variable{k:Nat}{u:Bool}{pH pL pG:Pl}{lH lL a g r1 f1:Int}
def Gl5{y:Str}(h:Gjh pH pL pG lH lL a r1 f1=some y):y∈ys:=by
 unfold Gjh at h
 repeat' split at h
 all_goals cases h<;>simp[Gp6]
def Gqa(v:Mv ps us L R F b k u pH pL pG lH lL a g r1 f1):Qa [cD ps us,stD L R F,dM b k] S=match Gjh pH pL pG lH lL a r1 f1 with
  |some y=>.exc ⟨y,none⟩ S
  |none=>.ok .non S:=by
 have hk:k<us.length:=(Aa.mp v.hu).1;have cg:=Gl2 (ps:=ps) (us:=us) (n:=(k:Int)) (S:=S);rw[if_pos ⟨by omega,by omega⟩]at cg;have bo:=Gp3 (b:=b) (L:=L) (R:=R) (F:=F) (S:=S);have ah:=Gjg (b:=b) (k:=k) (S:=S);have be:=Gck (b:=b) (k:=k) (S:=S);have ga:=Kk (S:=S) v.ha;have gG:=Wn (S:=S) v.hG;have gr:=Kk (S:=S) v.hr;have gf:=Kk (S:=S) v.hf;have ho:=Gjf (b:=r1+f1+1) (S:=S) v.okG;have cw:=Guf (S:=S) v.hu v.h1 v.h2 v.h3 v.h4 v.ok1 v.ok2;have c0:=cd0 (ps:=ps) (us:=us) (S:=S);have s0:=st0 (L:=L) (R:=R) (F:=F) (S:=S);have s1:=st1 (L:=L) (R:=R) (F:=F) (S:=S);have s2:=st2 (L:=L) (R:=R) (F:=F) (S:=S);unfold Qa Gjh;rw[Gs];generalize cD ps us=cd at *;generalize stD L R F=sd at *;generalize pG.toD=pd at *;generalize hol pG (r1+f1+1)=b3 at *;generalize (pH.isC&&decide (lH=1))=b4 at *;generalize (pL.isC&&decide (lL=0))=b5 at *;generalize (shal pH lH||shal pL lL)=b6 at *;have m1:=Gp6;by_cases e1:a=0
 ·simp[Kz,gX,cg,bo,ah,ga,e1,srs,fin]
 ·cases b3
  ·simp[Kz,gX,cg,bo,ah,ga,e1,srs,fin,be,c0,gG,s1,s2,gr,gf,ho,Kt]
  ·cases b4<;>cases b5<;>cases b6<;>simp[Kz,gX,cg,bo,ah,ga,e1,srs,fin,be,c0,gG,s0,s1,s2,gr,gf,ho,Kt,cw,Gp6]
def Gqb(v:Mv ps us L R F b k u pH pL pG lH lL a g r1 f1):Gdf [stD L R F,dM b k] S=.ok (Gp9 b L R F k a g) S:=by
 have bo:=Gp3 (b:=b) (L:=L) (R:=R) (F:=F) (S:=S);have ah:=Gjg (b:=b) (k:=k) (S:=S);have be:=Gck (b:=b) (k:=k) (S:=S);have m1:=Gdh (S:=S) (m := -1) v.ha v.lM;have hg':((sel b R F).set (stI b k) (a + -1))[glI b k]?=some g:=(Ah Gp8).trans v.hg;have m2:=Gdh (S:=S) (m:=1) hg' (by rw[Bg];exact v.lM);have wb:Us [stD L R F,wd b,.tup ((Qb b R F k a g).map D.int)] S=.ok (Gp9 b L R F k a g) S:=by
  have w:=Gaf (S:=S) (b:=b);cases b<;>simp[Us,Gs,Xa,w,Gp9,stD]
 have d0:DL.getD (dM b k) (.int 0) S=.ok (wd b) S:=Hy (Hc (by decide) rfl);unfold Qb at wb;generalize stD L R F=sd at *;simp[Gdf,Gs,Gg3,d0,bo,ah,m1,m2,be,wb,-List.map_set]
def Gug:Qy [cD ps us,dM b k] S=.ok (.bl (decide ((glI b k:Int)=(if b=true then(ps.length:Int)-1 else 0)))) S:=by
 have be:=Gck (b:=b) (k:=k) (S:=S);have d0:DL.getD (dM b k) (.int 0) S=.ok (wd b) S:=Hy (Hc (by decide) rfl);have w:=Gaf (S:=S) (b:=b);cases b<;>simp[Qy,Gs,Vy,be,d0,w,cd0]
def dd_move(v:Mv ps us L R F b k u pH pL pG lH lL a g r1 f1):Gx [cD ps us,stD L R F,dM b k] S=(Gf1 ps.length b k pH pL pG lH lL a g r1 f1 L R F).out S:=by
 have cm:=Gqa (S:=S) v;have mo:=Gqb (S:=S) v;have la:=Gug (ps:=ps) (us:=us) (b:=b) (k:=k) (S:=S);have wl:=Gp7 (b:=b) (S:=S);have wf:=Ghn (b:=b) (S:=S);unfold Gf1 Gx;rw[Gs];generalize cD ps us=cd at *;generalize stD L R F=sd at *;cases z:Gjh pH pL pG lH lL a r1 f1 with
 |some y=>
  rw[z]at cm;simp[Jc,wl,wf,Ghm cm (Gl5 z),fin,Res.out]
 |none=>
  rw[z]at cm;by_cases c:(glI b k:Int)=(if b=true then(ps.length:Int)-1 else 0)
  ·rw[decide_eq_true c]at la;simp[Jc,wl,wf,Glz cm,fin,Res.out,mo,la,Kt,c]
  ·rw[decide_eq_false c]at la;simp[Jc,wl,wf,Glz cm,fin,Res.out,mo,la,Kt,c]
def dd_mnogate{n:Int}(h:¬(0<=n/\n<us.length)):Gx [cD ps us,stD L R F,dM b n] S=.exc ⟨"NoGate",none⟩ S:=by
 have cg:=Gl2 (ps:=ps) (us:=us) (n:=n) (S:=S);rw[if_neg h]at cg;have cg:=Ghm cg Gp6.1;have wl:=Gp7 (b:=b) (S:=S);have wf:=Ghn (b:=b) (S:=S);have cm:Qa [cD ps us,stD L R F,dM b n] S=.exc ⟨"NoGate",none⟩ S:=by
  simp[Qa,Gs,Kz,cg,fin]
 simp[Gx,Gs,Jc,wl,wf,Ghm cm Gp6.1,fin]
end
noncomputable def pn:Pl->Str
 |.e=>"end"
 |.c=>"chamber"
 |.p _ _ _ _=>"pound"
noncomputable def isP:Pl->Bool
 |.p _ _ _ _=>true
 |_=>false
section
variable{ps:List Pl}{us:List Bool}{L R F:List Int}{S:Sto}
def pl0:DL.getD p.toD (.int 0) S=.ok (.str (pn p)) S:=by cases p<;>exact Hy (Hc (by decide) rfl)
def Gqc:neD (.str (pn p)) (.str "pound") S=.ok (.bl (!isP p)) S:=by
 cases p
 ·exact Ue s2
 ·exact Ue s4
 ·exact Ue s6
def Gl6:neD (.str (pn p)) (.str "end") S=.ok (.bl (!p.isE)) S:=by
 cases p
 ·exact Ue s7
 ·exact Ue s8
 ·exact Ue s9
abbrev dL(w:Str)(n:Int):D:=.tup [.str w,.int n]
def Um{i:Nat}{l:Int}(h:S[q]?=some ⟨false,M.map D.int⟩)(hl:M[i]?=some l):DL.getD (.lst q) (.int i) S=.ok (.int l) S:=Jx h (Hc (by omega) (by rw[AK,Ar,hl];rfl))
def lst_set{i:Nat}{l:Int}(h:S[q]?=some ⟨false,M.map D.int⟩)(hl:M[i]?=some l):Jg (.lst q) (.int i) (.int v) S=some (S.set q ⟨false,(M.set i v).map D.int⟩):=by
 have hi:i<M.length:=(Aa.mp hl).1;rw[Glt h (by omega) (by simp;omega),AK,List.map_set]
def Gho:Ul "NoSpring"=.str "nospring"/\Ul "Full"=.str "full"/\Ul "Dry"=.str "dry"/\Ul "NoGate"=.str "nogate":=⟨rfl,rfl,rfl,rfl⟩
def Gek{i:Nat}{l d:Int}(hq:S[q]?=some ⟨false,M.map D.int⟩)(hl:M[i]?=some l)(hv:⇑(v=l+d)):∃S2,(p.isE=true->S2=S)/\(p.isE=false->Jg (.lst q) (.int i) (.int v) S=some S2)/\S2[q]?=some ⟨false,(adw p M i l d).map D.int⟩/\∀{T:Sto},T.length<=q->Ex T S->Ex T S2:=by
 subst hv;unfold adw;cases p.isE
 ·exact⟨_,nofun,fun _=>lst_set hq hl,As (Aa.mp hq).1,fun h x=>x.setq h⟩
 ·exact⟨S,fun _=>rfl,nofun,hq,fun _ x=>x⟩
def Gqd(hp:ps[k]?=some p)(hl:L[k]?=some l)(ok:p.ok)(hw:l<=wat p):∃S',Hk [cD ps us,stD L R F,dL "feed" k] S=.ok (Gaa k p l L R F).toD S'/\Ex S S':=by
 have hk:(k:Int)<ps.length:=by have:=(Aa.mp hp).1;omega
 have h1:¬((ps.length:Int)<=k)/\¬(k:Int)<0:=by omega
 have q0:=Gu (S:=S) (c:=⟨false,L.map D.int⟩);have x1:=Ex.app (S:=S) (c:=⟨false,L.map D.int⟩);have li:=Gci (l:=L.map D.int) (S:=S);generalize S++[(⟨false,L.map D.int⟩:Cell)]=S1 at *;obtain⟨S2,_,st,q2,x2⟩:=Gek (p:=p) (d:=1) q0 hl;have gl:=Um q0 hl;have tu:=Yt q2;have s0:=st0 (L:=L) (R:=R) (F:=F) (S:=S);have s1:=fun S=>st1 (L:=L) (R:=R) (F:=F) (S:=S);have s2:=fun S=>st2 (L:=L) (R:=R) (F:=F) (S:=S);have g1:=fun S=>Wn (ps:=ps) (S:=S) hp;have n:=fun S=>Gqc (p:=p) (S:=S);have g0:=fun S=>pl0 (p:=p) (S:=S);generalize stD L R F=sd at *;simp[Hk,Gs,Qo,cD,s0,li,Gue,h1,g1,g0,n];cases p with
 |e=>exact⟨S1,by simp[isP,Gaa,Res.toD,Gho],x1⟩
 |c=>exact⟨S1,by simp[isP,Gaa,Res.toD,Gho],x1⟩
 |p br de ro pr=>
  have p4:=fun S=>Gv7 (br:=br) (de:=de) (ro:=ro) (pr:=pr) (S:=S);have p1:∀S,DL.getD (Pl.toD (.p br de ro pr)) (.int 1) S=.ok (.int br) S:=fun S=>Hy (Hc (by decide) rfl);have hw':l<=br:=hw;simp[isP];rcases ok.2.2.2.2.2.2 with rfl|⟨i,rfl,_⟩
  ·exact⟨S1,by simp[g1,p4,Gaa,Res.toD,Gho,show∀S,Ggn .non .non S=.ok (.bl true) S from fun _=>rfl],x1⟩
  ·generalize Pl.toD (.p br de ro (.int i))=pd at *;have ii:∀S,Ggn (.int i) .non S=.ok (.bl false) S:=fun _=>rfl;simp[g1,p4,p1,ii,gl];by_cases c:l=br
   ·subst c;exact⟨S1,by simp[Gaa,Res.toD,Gho],x1⟩
   ·have c':¬br<=l:=by omega
    exact⟨S2,by simp[g1,gl,s1,s2,Gaa,Res.toD,p4,c,c',st rfl,tu,stD,adw,Pl.isE,-List.map_set],x2 (Ac _) x1⟩
def Hey:neD (.str "let") (.str "let") S=.ok (.bl false) S:=Ue Gz9
def due_let_no{n:Int}(h:¬(0<=n/\n<us.length)):∃S',Hk [cD ps us,stD L R F,dL "let" n] S=.ok (Ul "NoGate") S'/\Ex S S':=by
 refine⟨S++[⟨false,L.map D.int⟩],?_,Ex.app⟩;have h2:¬n<0->(us.length:Int)<=n:=by omega
 by_cases h1:n<0<;>simp[Hk,Gs,Qo,cD,st0,Gci,Hdi,h1,h2,Gho]
def Hdj(hE:p.isE=false):∃d,Gr p.toD (.tup [.int 1]) S=.ok d S/\DL.getD d (.int 1) S=.ok (.int (wat p)) S:=by
 cases p with
 |e=>cases hE
 |c=>exact⟨_,Vn (by simp),Hy (Hc (by decide) rfl)⟩
 |p br de ro pr=>exact⟨_,Vn (by simp),Hy (Hc (by decide) rfl)⟩
def Hdk:(k:Int)+(if u=true then 1 else 0)=(hiI u k:Nat):=by cases u<;>simp[hiI]
def Hdl:2*(k:Int)+1-(hiI u k:Nat)=(loI u k:Nat):=by cases u<;>simp[hiI,loI]<;>omega
def Guh(hu:us[k]?=some u)(h1:ps[hiI u k]?=some pH)(h2:ps[loI u k]?=some pL)(h3:L[hiI u k]?=some lH)(h4:L[loI u k]?=some lL)(hw:lL<=wat pL)(hk:k<=1000):
  ∃S',Hk [cD ps us,stD L R F,dL "let" k] S=.ok (Gnh u k pH pL lH lL L R F).toD S'/\Ex S S':=by
 have hk1:¬((us.length:Int)<=k)/\¬(k:Int)<0:=by have:=(Aa.mp hu).1;omega
 have q0:=Gu (S:=S) (c:=⟨false,L.map D.int⟩);have x1:=Ex.app (S:=S) (c:=⟨false,L.map D.int⟩);have li:=Gci (l:=L.map D.int) (S:=S);generalize S++[(⟨false,L.map D.int⟩:Cell)]=S1 at *;obtain⟨S2,i2,st2',q2,x2⟩:=Gek (p:=pH) (d := -1) (v:=lH-1) q0 h3;obtain⟨S3,i3,st3',q3,x3⟩:=Gek (p:=pL) (d:=1) q2 ((Gkx Gp5).trans h4);have x2:=x2 (Ac _) x1;have x3:=x3 (Ac _) x2;have mu:Je (.int 2) (.int (k:Int)) S1=.ok (.int (2*(k:Int))) S1:=Gfy (by decide) (by decide);have gg:=Gl0 (S:=S1) hu;have gu:=Gl1 (u:=u) (S:=S1);have gH:=Wn (S:=S1) h1;have gL:=Wn (S:=S2) h2;have l1:=Um q0 h3;have l2:=Um q2 ((Gkx Gp5).trans h4);have n1:=Gl6 (p:=pH) (S:=S1);have n2:=Gl6 (p:=pL) (S:=S2);have tu:=Yt q3;have s0:=st0 (L:=L) (R:=R) (F:=F) (S:=S);have s1:=st1 (L:=L) (R:=R) (F:=F) (S:=S3);have s2:=st2 (L:=L) (R:=R) (F:=F) (S:=S3);have a1:=pl0 (p:=pH) (S:=S1);have a2:=pl0 (p:=pL) (S:=S2);have hi:=Hdk (k:=k) (u:=u);have lo:=Hdl (k:=k) (u:=u);have w1:pL.isE=false->∃d,Gr pL.toD (.tup [.int 1]) S2=.ok d S2/\DL.getD d (.int 1) S2=.ok (.int (wat pL)) S2:=Hdj;unfold Gnh Hk;rw[Gs];generalize stD L R F=sd at *;generalize gd u=gu' at *;generalize pH.toD=pa at *;generalize pL.toD=pb at *;generalize pn pH=na at *;generalize pn pL=nb at *;generalize adw pL (adw pH L (hiI u k) lH (-1)) (loI u k) lL 1=LL at *;generalize pH.isE=b1 at *;generalize pL.isE=b2 at *;simp[Qo,cD,s0,li,Hdi,hk1,gg,gu,Gly,hi,mu,lo,Hey,gH,a1,n1];by_cases c1:b1=false/\lH=0
 ·obtain⟨rfl,rfl⟩:=c1;exact⟨S1,by simp[l1,Res.toD,Gho],x1⟩
 ·by_cases c2:b2=false/\lL=wat pL
  ·obtain⟨rfl,rfl⟩:=c2;obtain⟨d,w1,w2⟩:=w1 rfl;refine⟨S2,?_,x2⟩;cases b1
   ·have c1:¬lH=0:=fun z=>c1 ⟨rfl,z⟩;simp[l1,c1,st2' rfl,gL,a2,n2,l2,w1,w2,Res.toD,Gho]
   ·obtain rfl:=i2 rfl;simp[gL,a2,n2,l2,w1,w2,Res.toD,Gho]
  ·refine⟨S3,?_,x3⟩;cases b2
   ·have c2:¬lL=wat pL:=fun z=>c2 ⟨rfl,z⟩;have c3:¬wat pL<=lL:=by omega
    obtain⟨d,w1,w2⟩:=w1 rfl;cases b1
    ·have c1:¬lH=0:=fun z=>c1 ⟨rfl,z⟩;simp[l1,c1,st2' rfl,s1,s2,gL,a2,n2,l2,w1,w2,c2,c3,st3' rfl,tu,Res.toD,stD]
    ·obtain rfl:=i2 rfl;simp[s1,s2,gL,a2,n2,l2,w1,w2,c2,c3,st3' rfl,tu,Res.toD,stD]
   ·obtain rfl:=i3 rfl;cases b1
    ·have c1:¬lH=0:=fun z=>c1 ⟨rfl,z⟩;simp[l1,c1,st2' rfl,s1,s2,gL,a2,n2,tu,Res.toD,stD]
    ·obtain rfl:=i2 rfl;simp[s1,s2,gL,a2,n2,tu,Res.toD,stD]
end
def Hac:eqD (.str (pn p)) (.str "chamber") S=.ok (.bl p.isC) S:=by
 cases p
 ·exact s1
 ·exact s3
 ·exact s5
def Had:eqD (.str (pn p)) (.str "pound") S=.ok (.bl (isP p)) S:=by
 cases p
 ·exact s2
 ·exact s4
 ·exact s6
def Gl7{g:Tg}{b:Sv}(h:nxt k S=some d)(h2:g d U=some U1)(h3:b U1 S=.rt y S2):Jd nxt g b (n+1) k U S=.rt y S2:=by
 conv=>lhs;unfold Jd
 simp only[h,h2,h3]
def Hez{b:Sv}{x r:D}(hq:S[q]?=some ⟨false,[x,y]⟩)(h1:b (U.set i (some x)) S=if c1=true then .rt r S else .nx (U.set i (some x)) S)(h2:b ((U.set i (some x)).set i (some y)) S=if c2=true then .rt r S else .nx ((U.set i (some x)).set i (some y)) S):Jd (Uk q 2).nxt (gn i) b (Uk q 2).fuel 0 U S=if(c1||c2)=true then .rt r S else .nx ((U.set i (some x)).set i (some y)) S:=by
 have nx:∀j,(Uk q 2).nxt j S=[x,y][j]?:=fun j=>by
  show(S[q]?).bind (fun c=>c.xs[j]?)=_;rw[hq];rfl
 rw[show(Uk q 2).fuel=3 from rfl];cases c1
 ·rw[Gf0 (nx 0) rfl h1];cases c2
  ·rw[Gf0 (nx 1) rfl h2,Gnd (nx 2)];rfl
  ·exact Gl7 (nx 1) rfl h2
 ·exact Gl7 (nx 0) rfl h1
noncomputable def kk(b:Bool):Int:=if b=true then 1 else 2
noncomputable def Gab(b:Bool)(n:Nat):Nat:=if b=true then n+2 else n+3
section
variable{q:Nat}{A B C:List D}{S:Sto}
def rw0(h:Rw S q (q+1) (q+2) (q+3) A B C):DL.getD (.lst q) (.int 0) S=.ok (.lst (q+1)) S:=Jx h.q0 rfl
def rw1(h:Rw S q (q+1) (q+2) (q+3) A B C):DL.getD (.lst q) (.int 1) S=.ok (.lst (q+2)) S:=Jx h.q0 rfl
def rw2(h:Rw S q (q+1) (q+2) (q+3) A B C):DL.getD (.lst q) (.int 2) S=.ok (.lst (q+3)) S:=Jx h.q0 rfl
def rwk(h:Rw S q (q+1) (q+2) (q+3) A B C):DL.getD (.lst q) (.int (kk b)) S=.ok (.lst (Gab b q)) S:=by
 cases b
 ·exact rw2 h
 ·exact rw1 h
end
abbrev RwI(S:Sto)(q:Nat)(L R F:List Int):Prop:=Rw S q (q+1) (q+2) (q+3) (L.map D.int) (R.map D.int) (F.map D.int)
def Ghp{R F:List Int}(h:RwI S q L R F):S[Gab b q]?=some ⟨false,(sel b R F).map D.int⟩:=by
 cases b
 ·exact h.q3
 ·exact h.q2
def Gqe{R F:List Int}(h:RwI S q L R F):RwI (S.set (Gab b q) ⟨false,M.map D.int⟩) q L (if b=true then M else R) (if b=true then F else M):=by
 have lt:∀{i:Nat}{c:Cell},S[i]?=some c->i<S.length:=fun e=>(Aa.mp e).1;cases b<;>refine⟨?_,?_,?_,?_⟩<;>first|(rw[Ah (by simp[Gab])];first|exact h.q0|exact h.q1|exact h.q2|exact h.q3)|exact As (lt (by first|exact h.q2|exact h.q3))
section
variable{ps:List Pl}{us:List Bool}{L R F:List Int}{S:Sto}{b:Bool}{k:Nat}{u:Bool}{pH pL pG:Pl}{lH lL a g r1 f1:Int}
def He0:Ul "NoBarge"=.str "nobarge"/\Ul "NoRoom"=.str "noroom"/\Ul "Uneven"=.str "uneven"/\Ul "Shallow"=.str "shallow":=⟨rfl,rfl,rfl,rfl⟩
def He1:(k:Int)+(if b=false then 1 else 0)=(stI b k:Nat):=by cases b<;>simp[stI]
def He2:2*(k:Int)+1-(stI b k:Nat)=(glI b k:Nat):=by cases b<;>simp[stI,glI]<;>omega
def Gui(v:Mv ps us L R F b k u pH pL pG lH lL a g r1 f1)(hc:pH.isC=true->0<=lH/\lH<=1):∃S',Wl [cD ps us,stD L R F,dM b k,.int (hiI u k),.int (loI u k)] S=.ok (Gf1 ps.length b k pH pL pG lH lL a g r1 f1 L R F).toD S'/\Ex S S':=by
 obtain⟨S1,e1,w1,x1⟩:=Gp4 (A:=L.map D.int) (B:=R.map D.int) (C:=F.map D.int) (f:=vr 1) (U:=[some (cD ps us),some (stD L R F),some (dM b k),some (.int (hiI u k)),some (.int (loI u k)),some (.tup (ps.map Pl.toD)),some (wd b),some (.int k),none,none,none,none,none,none,none]) (S:=S) rfl;have gk:DL.getD (.lst S1.length) (.int (if b=true then 1 else 0)) (S1++[⟨false,[.int 2,.int 1]⟩])=.ok (.int (kk b)) (S1++[⟨false,[.int 2,.int 1]⟩]):=Jx Gu (by cases b<;>rfl);have x12:=x1.trans (Ex.app (c:=⟨false,[.int 2,.int 1]⟩));have w2:RwI (S1++[⟨false,[.int 2,.int 1]⟩]) S.length L R F:=Rw.ex w1 Ex.app;generalize h2:S1++[(⟨false,[.int 2,.int 1]⟩:Cell)]=S2 at *;have q3:=Gu (S:=S2) (c:=⟨false,[.int (hiI u k),.int (loI u k)]⟩);have x13:=x12.trans (Ex.app (c:=⟨false,[.int (hiI u k),.int (loI u k)]⟩));have w3:RwI (S2++[⟨false,[.int (hiI u k),.int (loI u k)]⟩]) S.length L R F:=Rw.ex w2 Ex.app;generalize h3:S2++[(⟨false,[.int (hiI u k),.int (loI u k)]⟩:Cell)]=S3 at *;have lrow:S.length<=Gab b S.length:=by cases b<;>simp[Gab]
 have t4:=lst_set (v:=a-1) (Ghp (b:=b) w3) v.ha;have w4:=Gqe (b:=b) (M:=(sel b R F).set (stI b k) (a-1)) w3;have x4:=x13.setq (c:=⟨false,((sel b R F).set (stI b k) (a-1)).map D.int⟩) lrow;have q4:=As (a:=(⟨false,((sel b R F).set (stI b k) (a-1)).map D.int⟩:Cell)) (Aa.mp (Ghp (b:=b) w3)).1;generalize S3.set (Gab b S.length) ⟨false,((sel b R F).set (stI b k) (a-1)).map D.int⟩=S4 at *;have hg':((sel b R F).set (stI b k) (a-1))[glI b k]?=some g:=(Ah Gp8).trans v.hg;have g5:=Um q4 hg';have w5:RwI (S4.set (Gab b S.length) ⟨false,(Qb b R F k a g).map D.int⟩) S.length L (if b=true then Qb b R F k a g else R) (if b=true then F else Qb b R F k a g):=by
  have:=Gqe (b:=b) (M:=Qb b R F k a g) w4;cases b<;>exact this
 have x5:=x4.setq (c:=⟨false,(Qb b R F k a g).map D.int⟩) lrow;have t5:Jg (.lst (Gab b S.length)) (.int (glI b k)) (.int (g+1)) S4=some (S4.set (Gab b S.length) ⟨false,(Qb b R F k a g).map D.int⟩):=lst_set (v:=g+1) q4 hg';generalize S4.set (Gab b S.length) ⟨false,(Qb b R F k a g).map D.int⟩=S5 at *;have gv:DL.getD (.lst S5.length) (.int (if b=true then 1 else 0)) (S5++[⟨false,[.int 0,.int ((ps.length:Int)-1)]⟩])=.ok (.int (if b=true then(ps.length:Int)-1 else 0)) (S5++[⟨false,[.int 0,.int ((ps.length:Int)-1)]⟩]):=Jx Gu (by cases b<;>rfl);have x6:=x5.trans (Ex.app (c:=⟨false,[.int 0,.int ((ps.length:Int)-1)]⟩));have w6:RwI (S5++[⟨false,[.int 0,.int ((ps.length:Int)-1)]⟩]) S.length L (if b=true then Qb b R F k a g else R) (if b=true then F else Qb b R F k a g):=Rw.ex w5 Ex.app;generalize h6:S5++[(⟨false,[.int 0,.int ((ps.length:Int)-1)]⟩:Cell)]=S6 at *;have wr:=fun S=>Gaf (b:=b) (S:=S);have wl:=fun S=>Hab (b:=b) (S:=S);have mu:Je (.int 2) (.int (k:Int)) S2=.ok (.int (2*(k:Int))) S2:=Gfy (by decide) (by decide);have f1':=He1 (b:=b) (k:=k);have f2':=He2 (b:=b) (k:=k);have r2:=rwk (b:=b) w2;have r3:=rwk (b:=b) w3;have r4:=rwk (b:=b) w4;have a2:=Um (Ghp (b:=b) w2) v.ha;have a3:=Um (Ghp (b:=b) w3) v.ha;have b0:=rw0 w2;have b1:=rw1 w2;have b2:=rw2 w2;have d0:=rw0 w6;have d1:=rw1 w6;have d2:=rw2 w6;have u0:=Yt w6.q1;have u1:=Yt w6.q2;have u2:=Yt w6.q3;have gr:=Um w2.q2 v.hr;have gf:=Um w2.q3 v.hf;have gG:=Wn (S:=S2) v.hG;have gH:=fun S=>Wn (ps:=ps) (S:=S) v.h1;have gL:=fun S=>Wn (ps:=ps) (S:=S) v.h2;have lH2:=Um w2.q1 v.h3;have lL2:=Um w2.q1 v.h4;have lH3:=Um w3.q1 v.h3;have lL3:=Um w3.q1 v.h4;have c3:=rw0 w3;have c0:=cd0 (ps:=ps) (us:=us) (S:=S);have z0:=fun S (p:Pl)=>pl0 (p:=p) (S:=S);have zc:=fun S (p:Pl)=>Hac (p:=p) (S:=S);have zp:=fun S (p:Pl)=>Had (p:=p) (S:=S);have p3:∀S br de ro pr,DL.getD (Pl.toD (.p br de ro pr)) (.int 3) S=.ok (.int ro) S:=fun _ _ _ _ _=>Hy (Hc (by decide) rfl);have p2:∀S br de ro pr,DL.getD (Pl.toD (.p br de ro pr)) (.int 2) S=.ok (.int de) S:=fun _ _ _ _ _=>Hy (Hc (by decide) rfl);have sh:∀(p:Pl)(i:Nat)(l:Int)(U:Lc),ps[i]?=some p->L[i]?=some l->U[5]?=some (some (.tup (ps.map Pl.toD)))->U[8]?=some (some (.lst S.length))->U[13]?=some (some (.int i))->Jv U S3=if shal p l=true then .rt (.str "shallow") S3 else .nx U S3:=fun p i l U hp hl h5 h8 h13=>by
  have gp:=Wn (S:=S3) hp;have gl:=Um w3.q1 hl;cases p with
  |e=>simp[Jv,h5,h8,h13,gp,z0,zp,isP,shal]
  |c=>simp[Jv,h5,h8,h13,gp,z0,zp,isP,shal]
  |p br de ro pr=>
   by_cases c:l<de<;>simp[Jv,h5,h8,h13,gp,z0,zp,isP,shal,c3,gl,p2,c]
 have sr:=Zz q3;have lp:=Hez (S:=S3) (q:=S2.length) (i:=13) (b:=Jv) (U:=[some (cD ps us),some (stD L R F),some (dM b k),some (.int (hiI u k)),some (.int (loI u k)),some (.tup (ps.map Pl.toD)),some (wd b),some (.int k),some (.lst S.length),some (.int (kk b)),some (.int (stI b k)),some (.int (glI b k)),some (.int (r1+f1)),none,none]) q3 (sh pH _ lH _ v.h1 v.h3 rfl rfl rfl) (sh pL _ lL _ v.h2 v.h4 rfl rfl rfl);have zz:∀{S:Sto}{b:Bool}{c:Prop} [Decidable c],(if b=true then Out.ok (decide c) S else Out.ok false S)=Out.ok (b&&decide c) S:=fun{_}{b}=>by cases b<;>simp
 have i3:(pH.isC=true/\0<lH)↔(pH.isC=true/\lH=1):=⟨fun z=>⟨z.1,by have:=hc z.1;omega⟩,fun z=>⟨z.1,by omega⟩⟩
 have rm:(isP pG=false/\((pG.isC=true/\0<r1+f1)↔hol pG (r1+f1+1)=false))\/(isP pG=true/\pG.isC=false/\∃ro:Int,DL.getD pG.toD (.int 3) S2=.ok (.int ro) S2/\(ro<=r1+f1↔hol pG (r1+f1+1)=false)):=by
  cases pG with
  |e=>exact .inl ⟨rfl,by simp[hol,Pl.isC]⟩
  |c=>exact .inl ⟨rfl,by simp[hol,Pl.isC];omega⟩
  |p br de ro pr=>exact .inr ⟨rfl,rfl,ro,p3 ..,by simp[hol];omega⟩
 have hw:=He0;unfold Gf1 Gjh Wl;rw[Gs];clear x1 w1 w2 w3 w4 w5 p3 p2 sh v hc x4 x5 hg';generalize cD ps us=cd at *;generalize stD L R F=sd at *;simp[*,Zx,Gly];by_cases c1:a=0
 ·subst c1;exact⟨S2,by simp[*,Res.toD],x12⟩
 ·simp[*];refine⟨if hol pG (r1+f1+1)=false\/(pH.isC=true/\lH=1)\/(pL.isC=true/\lL=0)then S2 else if shal pH lH=true\/shal pL lL=true then S3 else S6,?_,by split;exact x12;split;exact x13;exact x6⟩;rcases rm with⟨hP,i2⟩|⟨hP,hC,ro,g3,i2⟩<;>by_cases c2:hol pG (r1+f1+1)=false<;>by_cases c3:pH.isC=true/\lH=1<;>by_cases c4:pL.isC=true/\lL=0<;>by_cases c5:shal pH lH=true\/shal pL lL=true<;>simp[*,Gly,Res.toD,Gp9,stD]
def due_mno{n:Int}(h:¬(0<=n/\n<us.length)):∃S',Hk [cD ps us,stD L R F,dM b n] S=.ok (Ul "NoGate") S'/\Ex S S':=by
 refine⟨S++[⟨false,L.map D.int⟩],?_,Ex.app⟩;have h2:¬n<0->(us.length:Int)<=n:=by omega
 by_cases h1:n<0<;>simp[Hk,Gs,Qo,cD,st0,Gci,Ghn,h1,h2,Gho]
def Gqf(v:Mv ps us L R F b k u pH pL pG lH lL a g r1 f1)(hc:pH.isC=true->0<=lH/\lH<=1):∃S',Hk [cD ps us,stD L R F,dM b k] S=.ok (Gf1 ps.length b k pH pL pG lH lL a g r1 f1 L R F).toD S'/\Ex S S':=by
 have hk1:¬((us.length:Int)<=k)/\¬(k:Int)<0:=by have:=(Aa.mp v.hu).1;omega
 have x1:=Ex.app (S:=S) (c:=⟨false,L.map D.int⟩);have li:=Gci (l:=L.map D.int) (S:=S);generalize S++[(⟨false,L.map D.int⟩:Cell)]=S1 at *;obtain⟨S2,e2,x2⟩:=Gui (S:=S1) v hc;refine⟨S2,?_,x1.trans x2⟩;have mu:Je (.int 2) (.int (k:Int)) S1=.ok (.int (2*(k:Int))) S1:=Gfy (by decide) (by decide);have gg:=Gl0 (S:=S1) v.hu;have gu:=Gl1 (u:=u) (S:=S1);have hi:=Hdk (k:=k) (u:=u);have lo:=Hdl (k:=k) (u:=u);have nl:=Ue (Gp7 (b:=b) (S:=S1));have wf:=Ghn (b:=b) (S:=S1);have s0:=st0 (L:=L) (R:=R) (F:=F) (S:=S);generalize stD L R F=sd at *;generalize gd u=g' at *;unfold cD at e2;simp[Hk,Gs,Qo,cD,s0,li,wf,hk1,gg,gu,Gly,hi,mu,lo,nl,e2]
end
def Gqg{y:Str}(h:y∈ys):∃w,Ul y=.str w:=by
 simp only[ys,Ad,A7,or_false]at h;rcases h with rfl|rfl|rfl|rfl|rfl|rfl|rfl|rfl<;>exact⟨_,rfl⟩
structure StF(ps:List Pl)(L R F:List Int):Prop where
 lL:L.length=ps.length
 lR:R.length=ps.length
 lF:F.length=ps.length
 nL:∀i∈L,0<=i
 nR:∀i∈R,0<=i
 nF:∀i∈F,0<=i
 at':∀(i:Nat)(p:Pl)(l r f:Int),ps[i]?=some p->L[i]?=some l->R[i]?=some r->F[i]?=some f->l<=wat p/\hol p (r+f)=true
 sum:R.sum+F.sum<=900
def Ghq:∀{M:List Int}{i:Nat}{a v:Int},M[i]?=some a->(M.set i v).sum=M.sum-a+v
 |[],i,a,v,h=>by simp at h
 |x::M,0,a,v,h=>by
  cases (Ab h);rw[List.set_cons_zero,A0,A0];omega
 |x::M,i+1,a,v,h=>by
  have:=Ghq (M:=M) (i:=i) (v:=v) (by simpa using h);rw[List.set_cons_succ,A0,A0,this];omega
def Ghr(h:∀j∈M,0<=j)(hv:0<=v):∀j∈M.set i v,0<=j:=fun j hj=>by
 rcases List.mem_or_eq_of_mem_set hj with z|z
 ·exact h j z
 ·rw[z];exact hv
def Ghs{x:Int}(h:(M.set i v)[j]?=some x):(j=i/\x=v)\/(j≠i/\M[j]?=some x):=by
 by_cases c:j=i
 ·subst c;have hl:j<M.length:=by
   have:=(Aa.mp h).1;simpa using this
  rw[As hl]at h;exact .inl ⟨rfl,(Ab h).symm⟩
 ·rw[Ah (Ne.symm c)]at h;exact .inr ⟨c,h⟩
section
variable{ps:List Pl}{us:List Bool}{L R F:List Int}
def StF.setL(h:StF ps L R F)(hp:ps[i]?=some p)(h0:0<=v)(h1:v<=wat p):StF ps (L.set i v) R F:=by
 refine⟨by rw[Bg];exact h.lL,h.lR,h.lF,Ghr h.nL h0,h.nR,h.nF,fun j q l r f e1 e2 e3 e4=>?_,h.sum⟩;rcases Ghs e2 with⟨rfl,rfl⟩|⟨_,e2⟩
 ·rw[hp]at e1;cases e1;have hj:j<L.length:=by rw[h.lL];exact(Aa.mp hp).1
  exact⟨h1,(h.at' j p _ r f hp (Af hj) e3 e4).2⟩
 ·exact h.at' j q l r f e1 e2 e3 e4
def StF.adw{d:Int}(h:StF ps L R F)(hp:ps[i]?=some p)(hb:p.isE=false->0<=l+d/\l+d<=wat p):StF ps (Law.adw p L i l d) R F:=by
 unfold Law.adw;split
 ·exact h
 ·rename_i c;have:=hb (by simpa using c);exact h.setL hp this.1 this.2
def Ght{b:Int}(h:hol p b=true)(hab:a<=b):hol p a=true:=by
 cases p with
 |e=>rfl
 |c=>
  have:b<=1:=by simpa[hol]using h
  simp[hol];omega
 |p br de ro pr=>
  have:b<=ro:=by simpa[hol]using h
  simp[hol];omega
def StF.move(h:StF ps L R F)(hG:ps[glI b k]?=some pG)(ha:(sel b R F)[stI b k]?=some a)(hg:(sel b R F)[glI b k]?=some g)(hr:R[glI b k]?=some r1)(hf:F[glI b k]?=some f1)(h1:1<=a)(h2:hol pG (r1+f1+1)=true):
  StF ps L (if b=true then Qb b R F k a g else R) (if b=true then F else Qb b R F k a g):=by
 have hg':((sel b R F).set (stI b k) (a + -1))[glI b k]?=some g:=(Ah Gp8).trans hg;have hsum:(Qb b R F k a g).sum=(sel b R F).sum:=by
  unfold Qb;rw[Ghq hg',Ghq ha];omega
 have at2:∀(j:Nat)(x:Int),(Qb b R F k a g)[j]?=some x->(j=glI b k/\x=g+1)\/(j≠glI b k/\∃y,(sel b R F)[j]?=some y/\x<=y):=fun j x e=>by
  rcases Ghs e with⟨c,e⟩|⟨c,e⟩
  ·exact .inl ⟨c,e⟩
  ·rcases Ghs e with⟨c',e⟩|⟨c',e⟩
   ·exact .inr ⟨c,a,by rw[c'];exact ha,by omega⟩
   ·exact .inr ⟨c,x,e,Int.le_refl _⟩
 have nn:∀{M:List Int},sel b R F=M->(∀i∈M,0<=i)->∀i∈Qb b R F k a g,0<=i:=fun e n=>by
  unfold Qb;rw[e];exact Ghr (Ghr n (by omega)) (by have:=n g (by rw[<- e];exact Ao hg);omega)
 have ln:(Qb b R F k a g).length=(sel b R F).length:=by unfold Qb;rw[Bg,Bg]
 cases b
 ·have e:sel false R F=F:=rfl;rw[e]at hsum at2 ln hg;refine⟨h.lL,h.lR,by simp only[AE,if_false];rw[ln];exact h.lF,h.nL,h.nR,nn e h.nF,fun j q l r f e1 e2 e3 e4=>?_,by simp only[AE,if_false];rw[hsum];exact h.sum⟩;simp only[AE,if_false]at e3 e4;rcases at2 j f e4 with⟨c,rfl⟩|⟨_,y,ey,hy⟩
  ·rw[c]at e1 e2 e3;rw[hG]at e1;cases e1;rw[hr]at e3;cases e3;rw[hf]at hg;cases hg;exact⟨(h.at' _ _ _ _ _ hG e2 hr hf).1,Ght h2 (by omega)⟩
  ·have:=h.at' j q l r y e1 e2 e3 ey;exact⟨this.1,Ght this.2 (by omega)⟩
 ·have e:sel true R F=R:=rfl;rw[e]at hsum at2 ln hg;refine⟨h.lL,by simp only[if_true];rw[ln];exact h.lR,h.lF,h.nL,nn e h.nR,h.nF,fun j q l r f e1 e2 e3 e4=>?_,by simp only[if_true];rw[hsum];exact h.sum⟩;simp only[if_true]at e3 e4;rcases at2 j r e3 with⟨c,rfl⟩|⟨_,y,ey,hy⟩
  ·rw[c]at e1 e2 e4;rw[hG]at e1;cases e1;rw[hf]at e4;cases e4;rw[hr]at hg;cases hg;exact⟨(h.at' _ _ _ _ _ hG e2 hr hf).1,Ght h2 (by omega)⟩
  ·have:=h.at' j q l y f e1 e2 ey e4;exact⟨this.1,Ght this.2 (by omega)⟩
end
inductive Kd(ps:List Pl):Res->Prop where
 |no {y:Str} (h:y∈ys):Kd ps (.no y)
 |yes {A B C:List Int} {p g:Int} (h:StF ps A B C) (p0:0<=p/\p<=1000) (g0:0<=g/\g<=1):Kd ps (.yes (.tup [stD A B C,.int p,.int g]))
structure Rs(ps:List Pl)(us:List Bool)(L R F:List Int)(dd:D)(r:Res):Prop where
 did:∀S,Gx [cD ps us,stD L R F,dd] S=r.out S
 due:∀S,∃S',Hk [cD ps us,stD L R F,dd] S=.ok r.toD S'/\Ex S S'
 kd:Kd ps r
section
variable{cr:Int}{ps:List Pl}{us:List Bool}{L R F:List Int}
def Gky{f:Int}(h:vOk cr p l r f):l<=wat p:=by
 have:=h.2.2.2;cases p with
 |e=>simp only at this;simp[wat,this.1]
 |c=>simp only at this;simp[wat,this.1]
 |p br de ro pr=>simp only at this;simp[wat,this.1]
def Hae(hp:∀p∈ps,p.ok)(hl:ps.length<=13)(hu:us.length+1=ps.length)(st:StR cr ps L R F)(sf:StF ps L R F)(hk:k<us.length):∃r,Rs ps us L R F (.tup [.str "let",.int k]) r:=by
 have eu:=Af hk;generalize us[k]=u at eu;have hH:hiI u k<ps.length:=by cases u<;>simp[hiI]<;>omega
 have hL:loI u k<ps.length:=by cases u<;>simp[loI]<;>omega
 have eH:=Af hH;have eL:=Af hL;obtain⟨lH,_,_,a1,_,_,a4⟩:=st.at' _ _ eH;obtain⟨lL,_,_,b1,_,_,b4⟩:=st.at' _ _ eL;have k1:=hp _ (Ao eH);have k2:=hp _ (Ao eL);have w1:=Gky a4;have w2:=Gky b4;have n1:=a4.1;have n2:=b4.1;generalize ps[hiI u k]=pH at eH k1 w1;generalize ps[loI u k]=pL at eL k2 w2;refine⟨Gnh u k pH pL lH lL L R F,fun S=>dd_let eu eH eL a1 b1 k1 k2 (by rw[st.lL];omega),fun S=>Guh eu eH eL a1 b1 w2 (by omega),?_⟩;unfold Gnh;split
 ·exact .no Gej.2.1
 ·rename_i c1;split
  ·exact .no Gej.2.2.1
  ·rename_i c2;refine .yes ((sf.adw eH fun z=>?_).adw eL fun z=>?_) (by decide) (by decide)
   ·have:lH≠0:=by simpa[z]using c1
    exact⟨by omega,by omega⟩
   ·have:¬wat pL<=lL:=by simpa[z]using c2
    exact⟨by omega,by omega⟩
set_option tactic.hygienic true
def Guj(hp:∀p∈ps,p.ok)(hl:ps.length<=13)(st:StR cr ps L R F)(sf:StF ps L R F)(hk:k<ps.length):∃r,Rs ps us L R F (.tup [.str "feed",.int k]) r:=by
 have e:=Af hk;obtain⟨l,_,_,a1,_,_,a4⟩:=st.at' _ _ e;have k1:=hp _ (Ao e);have w1:=Gky a4;have n1:=a4.1;generalize ps[k]=p at e k1 w1;refine⟨Gaa k p l L R F,fun S=>dd_feed e a1 k1 (by rw[st.lL];omega),fun S=>Gqd e a1 k1 w1,?_⟩;unfold Gaa;split
 ·rename_i br de ro i;split
  ·exact .no Gej.2.2.1
  ·rename_i c;have w1:l<=br:=w1;have pb:0<=i/\i<=1000:=by
    obtain⟨_,_,_,_,_,_,hpr⟩:=k1;rcases hpr with h|⟨j,h,h1,h2⟩
    ·cases h
    ·cases h;omega
   exact .yes (sf.setL e (by omega) (show l+1<=br by omega)) pb (by decide)
 ·exact .no Gej.2.2.2
set_option tactic.hygienic false
def Gl8(hp:∀p∈ps,p.ok)(hl:ps.length<=13)(hu:us.length+1=ps.length)(st:StR cr ps L R F)(sf:StF ps L R F)(b:Bool)(hk:k<us.length):∃r,Rs ps us L R F (dM b k) r:=by
 have eu:=Af hk;generalize us[k]=u at eu;have hH:hiI u k<ps.length:=by cases u<;>simp[hiI]<;>omega
 have hL:loI u k<ps.length:=by cases u<;>simp[loI]<;>omega
 have hG:glI b k<ps.length:=by cases b<;>simp[glI]<;>omega
 have hS:stI b k<ps.length:=by cases b<;>simp[stI]<;>omega
 have lM:(sel b R F).length=ps.length:=by
  unfold sel;split
  ·exact st.lR
  ·exact st.lF
 have nM:∀i∈sel b R F,0<=i:=by
  unfold sel;split
  ·exact sf.nR
  ·exact sf.nF
 have eH:=Af hH;have eL:=Af hL;have eG:=Af hG;have aH:=Af (l:=L) (i:=hiI u k) (by rw[st.lL];exact hH);have aL:=Af (l:=L) (i:=loI u k) (by rw[st.lL];exact hL);have aS:=Af (l:=sel b R F) (i:=stI b k) (by rw[lM];exact hS);have aG:=Af (l:=sel b R F) (i:=glI b k) (by rw[lM];exact hG);have aR:=Af (l:=R) (i:=glI b k) (by rw[st.lR];exact hG);have aF:=Af (l:=F) (i:=glI b k) (by rw[st.lF];exact hG);have v:Mv ps us L R F b k u ps[hiI u k] ps[loI u k] ps[glI b k] _ _ _ _ _ _:=⟨eu,eH,eL,aH,aL,hp _ (AY hH),hp _ (AY hL),eG,hp _ (AY hG),aS,aG,aR,aF,hu,by omega⟩
 have hc:(ps[hiI u k]).isC=true->0<=L[hiI u k]'(by rw[st.lL];exact hH)/\L[hiI u k]'(by rw[st.lL];exact hH)<=1:=fun z=>by
  obtain⟨l',_,_,q1,_,_,q4⟩:=st.at' _ _ eH;rw[aH]at q1;cases q1;obtain⟨c1,_,_,c2⟩:=q4;cases y:ps[hiI u k]with
  |c=>rw[y]at c2;exact⟨c1,c2.1⟩
  |e=>rw[y]at z;cases z
  |p _ _ _ _=>rw[y]at z;cases z
 have na:=nM _ (Ao aS);refine⟨_,fun S=>dd_move v,fun S=>Gqf v hc,?_⟩;unfold Gf1;split
 ·rename_i y z;exact .no (Gl5 z)
 ·rename_i z;unfold Gjh at z;split at z
  ·cases z
  ·rename_i c1;split at z
   ·cases z
   ·rename_i c2;exact .yes (sf.move eG aS aG aR aF (by omega) (by simpa using c2)) (by decide) ((fun(c:Prop)(_:Decidable c)=>show 0<=(if c then(1:Int)else 0)/\(if c then(1:Int)else 0)<=1 by split<;>decide) _ _)
end
inductive Wd where
 |l|f|r|e
variable{w:Wd}
def Wd.toD:Wd->D
 |.l=>.str "let"
 |.f=>.str "feed"
 |.r=>wd true
 |.e=>wd false
abbrev ddOf(p:Wd×Nat):D:=.tup [p.1.toD,.int p.2]
noncomputable def Res.isY:Res->Bool
 |.yes _=>true
 |.no _=>false
def Gqh{s:Src}{l:List D}{fs:Ev Src}{pk:List (BQ Nat)}{e:Ev D}(rest:Lc)(v:D->D)(hf:fs U S=.ok s S)(hn:∀k(S':Sto),Ex S S'->s.nxt k S'=l[k]?)(hfu:l.length<s.fuel)(hp:pkS pk U=none::rest)(hl:l.length<1000)(he:∀d∈l,∀S':Sto,Ex S S'->∃S'',e (some d::rest) S'=.ok (v d) S''/\Ex S' S''):
  ∃S',cmp fs pk (gn 0) ttrue e U S=.ok (.lst S.length) S'/\S'[S.length]?=some ⟨false,l.map v⟩/\Ex S S':=by
 obtain⟨U',S',el,g,hU,hq,hx⟩:=Ud (nxt:=s.nxt) (g:=gn 0) (b:=cbody S.length ttrue e) (l:=l)
  (fun i U S'=>∃g,U=g::rest/\S'[S.length]?=some ⟨false,(l.take i).map v⟩/\Ex S S')
  (fun k U S' ⟨_,_,_,h3⟩=>hn k S' h3) (fun i d U S' hd ⟨g,h1,h2,h3⟩=>by
   subst h1;have hi:i<l.length:=(Aa.mp hd).1;obtain⟨S'',e1,e2⟩:=he d (Ao hd) S' h3;have q'':=e2.at h2;have lq:S.length<S''.length:=(Aa.mp q'').1;refine⟨_,_,_,rfl,Gbx e1 q'' (by simp;omega),some d,rfl,?_,(h3.trans e2).setq (Ac _)⟩;rw[As lq];have:l.take (i+1)=l.take i++[d]:=by rw[A8,hd];rfl
   rw[this];simp) s.fuel 0 (none::rest) (S++[⟨false,[]⟩]) (At _) ⟨none,rfl,by simp[Gu],Ex.app⟩ (by omega)
 rw[Bl]at hq;exact⟨S',Ghj (pk:=pk) (U:=U) (S:=S) (f:=fs) (s:=s) (S1:=S) (g:=gn 0) (c:=ttrue) (e:=e) hf (by rw[hp];exact el),hq,hx⟩
section
def Gac:∀{M:List Int},(∀j∈M,0<=j)->0<=M.sum
 |[],_=>Int.le_refl _
 |x::M,h=>by
  have a:=Gac (M:=M) fun j hj=>h j (Au _ hj);have b:=h x Aw;rw[A0];omega
def Gel:∀{M:List Int}{i:Nat}{a:Int},(∀j∈M,0<=j)->M[i]?=some a->a<=M.sum
 |[],i,a,_,h=>by simp at h
 |x::M,0,a,hn,h=>by
  cases (Ab h);have:=Gac (M:=M) fun j hj=>hn j (Au _ hj);rw[A0];omega
 |x::M,i+1,a,hn,h=>by
  have c:=Gel (M:=M) (i:=i) (a:=a) (fun j hj=>hn j (Au _ hj)) (by simpa using h);have b:=hn x Aw;rw[A0];omega
def StF.toR{R F:List Int}(h:StF ps L R F):StR 900 ps L R F:=by
 refine⟨h.lL,h.lR,h.lF,fun i p hp=>?_⟩;have hi:=(Aa.mp hp).1;obtain⟨l,e1⟩:∃l,L[i]?=some l:=⟨_,Af (by rw[h.lL];exact hi)⟩
 obtain⟨r,e2⟩:∃l,R[i]?=some l:=⟨_,Af (by rw[h.lR];exact hi)⟩
 obtain⟨f,e3⟩:∃l,F[i]?=some l:=⟨_,Af (by rw[h.lF];exact hi)⟩
 obtain⟨a,b⟩:=h.at' i p _ _ _ hp e1 e2 e3;have n1:=h.nL _ (Ao e1);have n2:=h.nR _ (Ao e2);have n3:=h.nF _ (Ao e3);have s2:=Gel h.nR e2;have s3:=Gel h.nF e3;have t2:=Gac h.nR;have t3:=Gac h.nF;have s:=h.sum;refine⟨l,r,f,e1,e2,e3,n1,n2,n3,?_⟩;cases p with
 |e=>
  have a:l<=0:=a;exact⟨by omega,by omega,by omega⟩
 |c=>
  have a:l<=1:=a;have b:r+f<=1:=by simpa[hol]using b
  exact⟨a,b⟩
 |p br de ro pr=>
  have a:l<=br:=a;have b:r+f<=ro:=by simpa[hol]using b
  exact⟨a,b⟩
end
def Guk{us:List Bool}{R F:List Int}(hp:∀p∈ps,p.ok)(hl:ps.length<=13)(hu:us.length+1=ps.length)(st:StR cr ps L R F)(sf:StF ps L R F):
  ∃res:Wd×Nat->Res,(∀w k,k<ps.length->Rs ps us L R F (ddOf (w,k)) (res (w,k)))/\∀w,w≠.f->(res (w,us.length)).isY=false:=by
 have one:∀w k,k<ps.length->∃r,Rs ps us L R F (ddOf (w,k)) r/\(w≠.f->k=us.length->r.isY=false):=fun w k hk=>by
  cases w with
  |f=>
   obtain⟨r,h⟩:=Guj (us:=us) hp hl st sf hk;exact⟨r,h,fun z=>absurd rfl z⟩
  |l=>
   by_cases c:k<us.length
   ·obtain⟨r,h⟩:=Hae hp hl hu st sf c;exact⟨r,h,fun _ z=>by omega⟩
   ·exact⟨.no "NoGate",⟨fun S=>dd_nogate (by omega),fun S=>due_let_no (by omega),.no Gej.1⟩,fun _ _=>rfl⟩
  |r=>
   by_cases c:k<us.length
   ·obtain⟨r,h⟩:=Gl8 hp hl hu st sf true c;exact⟨r,h,fun _ z=>by omega⟩
   ·exact⟨.no "NoGate",⟨fun S=>dd_mnogate (by omega),fun S=>due_mno (by omega),.no Gej.1⟩,fun _ _=>rfl⟩
  |e=>
   by_cases c:k<us.length
   ·obtain⟨r,h⟩:=Gl8 hp hl hu st sf false c;exact⟨r,h,fun _ z=>by omega⟩
   ·exact⟨.no "NoGate",⟨fun S=>dd_mnogate (by omega),fun S=>due_mno (by omega),.no Gej.1⟩,fun _ _=>rfl⟩
 have all:∀p:Wd×Nat,∃r,p.2<ps.length->Rs ps us L R F (ddOf p) r/\(p.1≠.f->p.2=us.length->r.isY=false):=fun p=>by
  by_cases h:p.2<ps.length
  ·obtain⟨r,h1⟩:=one p.1 p.2 h;exact⟨r,fun _=>h1⟩
  ·exact⟨.no "NoGate",fun z=>absurd z h⟩
 obtain⟨res,h⟩:=Classical.axiomOfChoice all;exact⟨res,fun w k hk=>(h (w,k) hk).1,fun w hw=>(h (w,us.length) (by show us.length<ps.length;omega)).2 hw rfl⟩
noncomputable def prs(w:Wd)(n:Nat):List (Wd×Nat):=(List.range n).map fun k=>(w,k)
def prP(m N:Nat):List (Wd×Nat):=((prs .l m++prs .f N)++prs .r m)++prs .e m
def prL(N:Nat):List (Wd×Nat):=((prs .l N++prs .f N)++prs .r N)++prs .e N
def prs_last{res:Wd×Nat->Res}(h:(res (w,m)).isY=false):(prs w (m+1)).filter (fun p=>(res p).isY)=(prs w m).filter (fun p=>(res p).isY):=by
 unfold prs;rw[List.range_succ,A9,Bm];simp[h]
def Gul{res:Wd×Nat->Res}(h:∀w,w≠.f->(res (w,m)).isY=false):(prP m (m+1)).filter (fun p=>(res p).isY)=(prL (m+1)).filter (fun p=>(res p).isY):=by
 unfold prP prL;simp only[Bm];rw[prs_last (h .l (fun z=>nomatch z)),prs_last (h .r (fun z=>nomatch z)),prs_last (h .e (fun z=>nomatch z))]
instance:DecidableEq Wd:=fun a b=>by cases a<;>cases b<;>first|exact .isTrue rfl|exact .isFalse (fun z=>nomatch z)
def Gji{nxt:Nat->Sto->BQ D}{g:Tg}{b:Sv}{l:List D}(I:Nat->Lc->Sto->Prop)(hn:∀k U S,I k U S->nxt k S=l[k]?)(hs:∀k d U S,l[k]?=some d->I k U S->∃U1 U2 S2,g d U=some U1/\(b U1 S=.nx U2 S2\/b U1 S=.ct U2 S2)/\I (k+1) U2 S2):
  ∀(n k:Nat)(U:Lc)(S:Sto),k<=l.length->I k U S->l.length<n+k->∃U' S',Jd nxt g b n k U S=.nx U' S'/\I l.length U' S'
 |0,k,U,S,h1,_,h2=>by omega
 |n+1,k,U,S,h1,hI,h2=>by
  unfold Jd;rw[hn k U S hI];cases z:l[k]? with
  |none=>
   have:k=l.length:=by have:=AV.mp z;omega
   subst this;exact⟨U,S,rfl,hI⟩
  |some d=>
   obtain⟨U1,U2,S2,h3,h4,h5⟩:=hs k d U S z hI;have hk:k<l.length:=(Aa.mp z).1;obtain⟨U',S',h6,h7⟩:=Gji I hn hs n (k+1) U2 S2 hk h5 (by omega);refine⟨U',S',?_,h7⟩;rcases h4 with h4|h4
   ·simp only[h3,h4];exact h6
   ·simp only[h3,h4];exact h6
def Gby{e:Ev (List D)}(hs:s=w.toD)(h:e U S=.ok [.int N] S)(hN:N<=100):∃S',cmp (ir1 e) [none] (gn 0) ttrue (tp (ac (cn s) (ac XH an))) U S=.ok (.lst S.length) S'/\S'[S.length]?=some ⟨false,(prs w N).map ddOf⟩/\Ex S S':=by
 subst hs;obtain⟨S',e1,h1,x1⟩:=Gqh (s:=rsrc 0 N) (l:=(List.range N).map fun k:Nat=>D.int (k:Int)) (fs:=ir1 e) (pk:=[none]) (e:=tp (ac (cn w.toD) (ac XH an))) (U:=U) (S:=S) [] (fun d=>.tup [w.toD,d]) (Ghg h (by omega)) (fun k S' _=>Ghf) (by simp[rsrc]) rfl (by simp;omega) (fun d _ S' x=>⟨S',by simp,.refl⟩);refine⟨S',e1,?_,x1⟩;rw[h1];unfold prs;rw[Bz,Bz];rfl
def Haf{us:List Bool}(hl:ps.length<=13)(hu:us.length+1=ps.length):∃q S',Yg [cD ps us] S=.ok (.lst q) S'/\S'[q]?=some ⟨false,(prP us.length ps.length).map ddOf⟩/\Ex S S'/\S.length<=q:=by
 obtain⟨S1,e1,h1,x1⟩:=Gby (w:=.l) (s:=.str "let") (e:=ac (b1 Hb (ac XM an)) an) (U:=[some (cD ps us),some (.tup (ps.map Pl.toD)),some (.tup (us.map gd)),none,none,none,none]) (N:=us.length) (S:=S) rfl (by simp) (by omega);obtain⟨S2,e2,h2,x2⟩:=Gby (w:=.f) (s:=.str "feed") (e:=ac (b1 Hb (ac XI an)) an) (U:=[some (cD ps us),some (.tup (ps.map Pl.toD)),some (.tup (us.map gd)),some (.lst S.length),none,none,none]) (N:=ps.length) (S:=S1) rfl (by simp) (by omega);obtain⟨S3,e3,h3,x3⟩:=Gby (w:=.r) (s:=.str "right") (e:=ac (b1 Hb (ac XM an)) an) (U:=[some (cD ps us),some (.tup (ps.map Pl.toD)),some (.tup (us.map gd)),some (.lst S.length),some (.lst S1.length),none,none]) (N:=us.length) (S:=S2) rfl (by simp) (by omega);obtain⟨S4,e4,h4,x4⟩:=Gby (w:=.e) (s:=.str "left") (e:=ac (b1 Hb (ac XM an)) an) (U:=[some (cD ps us),some (.tup (ps.map Pl.toD)),some (.tup (us.map gd)),some (.lst S.length),some (.lst S1.length),some (.lst S2.length),none]) (N:=us.length) (S:=S3) rfl (by simp) (by omega);have ln:∀w n,((prs w n).map ddOf).length=n:=fun w n=>by simp[prs]
 have a1:=We (((x2.trans x3).trans x4).at h1) ((x3.trans x4).at h2) (by rw[ln,ln];omega);have a2:=We (S:=S4++[⟨false,(prs .l us.length).map ddOf++(prs .f ps.length).map ddOf⟩]) Gu (Gz (x4.at h3)) (by rw[AG,ln,ln,ln];omega);have a3:=We (S:=(S4++[⟨false,(prs .l us.length).map ddOf++(prs .f ps.length).map ddOf⟩])++[⟨false,((prs .l us.length).map ddOf++(prs .f ps.length).map ddOf)++(prs .r us.length).map ddOf⟩]) Gu (Gz (Gz h4)) (by rw[AG,AG,ln,ln,ln,ln];omega);refine⟨((S4++[(⟨false,(prs .l us.length).map ddOf++(prs .f ps.length).map ddOf⟩:Cell)])++[(⟨false,((prs .l us.length).map ddOf++(prs .f ps.length).map ddOf)++(prs .r us.length).map ddOf⟩:Cell)]).length,S4++[⟨false,(prs .l us.length).map ddOf++(prs .f ps.length).map ddOf⟩]++[⟨false,((prs .l us.length).map ddOf++(prs .f ps.length).map ddOf)++(prs .r us.length).map ddOf⟩]++[⟨false,(((prs .l us.length).map ddOf++(prs .f ps.length).map ddOf)++(prs .r us.length).map ddOf)++(prs .e us.length).map ddOf⟩],?_,?_,(((((x1.trans x2).trans x3).trans x4).trans Ex.app).trans Ex.app).trans Ex.app,?_⟩
 rotate_left
 ·rw[Gu];unfold prP;rw[A9,A9,A9]
 ·have:=x1.len;have:=x2.len;have:=x3.len;have:=x4.len;rw[AG,AG];omega
 refine(Gs (m:=7) (b:=Vz)).trans ?_;show fin (Vz [some (cD ps us),none,none,none,none,none,none] S)=_;unfold Vz;refine(Gi (U':=[some (cD ps us),some (.tup (ps.map Pl.toD)),some (.tup (us.map gd)),none,none,none,none]) (S':=S) rfl).trans ?_;refine(Gi (U':=[some (cD ps us),some (.tup (ps.map Pl.toD)),some (.tup (us.map gd)),some (.lst S.length),none,none,none]) (S':=S1) (by rw[Ub,e1];rfl)).trans ?_;refine(Gi (U':=[some (cD ps us),some (.tup (ps.map Pl.toD)),some (.tup (us.map gd)),some (.lst S.length),some (.lst S1.length),none,none]) (S':=S2) (by rw[Ub,e2];rfl)).trans ?_;refine(Gi (U':=[some (cD ps us),some (.tup (ps.map Pl.toD)),some (.tup (us.map gd)),some (.lst S.length),some (.lst S1.length),some (.lst S2.length),none]) (S':=S3) (by rw[Ub,e3];rfl)).trans ?_;refine(Gi (U':=[some (cD ps us),some (.tup (ps.map Pl.toD)),some (.tup (us.map gd)),some (.lst S.length),some (.lst S1.length),some (.lst S2.length),some (.lst S3.length)]) (S':=S4) (by rw[Ub,e4];rfl)).trans ?_;simp only[Yj,Ua,Zy,AO,AS,Gm,a1,a2,a3];rfl
def Hag{l:List D}{b:Nat}(h:∀d∈l,Sho S d b e)(h1:(b+2)*l.length+3<=1000000)(h2:e+1<39):∃s:Str,PyData.strOk s=true/\∀(S':Sto)(q:Nat)(fz:Bool),Ex S S'->S'[q]?=some ⟨fz,l⟩->Yo [.lst q] S'=.ok (.str s) S':=by
 obtain⟨ps,a,hl,g⟩:=Ghl h;have g:=Gp1 g;rw[hl]at g;refine⟨(PyData.list ps).shown,g.ok,fun S' q fz x hq=>?_⟩;have ha:toP S' 40 (.lst q)=some (.list ps):=by
  show(match S'[q]? with|some c=>(Jy (toP S' 39) c.xs).map PyData.list|none=>none)=_;rw[hq];show(Jy (toP S' 39) l).map PyData.list=_;rw[a S' x 39 (by omega)];rfl
 show(match toP S' 40 (.lst q) with
   |some p=>if(p.showable&&!p.hasDict&&decide (p.depth<=60))=true/\p.shown.length<=1000000 then Out.ok (D.str p.shown) S' else .bad
   | none=>.bad)=_
 rw[ha];show(if((PyData.list ps).showable&&!(PyData.list ps).hasDict&&decide ((PyData.list ps).depth<=60))=true/\(PyData.list ps).shown.length<=1000000 then Out.ok (D.str (PyData.list ps).shown) S' else .bad)=_;rw[if_pos];refine⟨?_,Ak g.le h1⟩;rw[g.sh,g.nd];have:=g.dp;simp;omega
def apd(h:S[q]?=some ⟨false,xs⟩)(hl:xs.length<1000000):Gba (.lst q) [d] S=.ok .non (S.set q ⟨false,xs++[d]⟩):=by
 simp only[Gba,h];simp[hl]
noncomputable def Res.three:Res->List D
 |.yes (.tup l)=>l
 |_=>[]
def st4(res:Wd×Nat->Res)(p:Wd×Nat):D:=.tup (ddOf p::(res p).three)
def Gum{l:List Z}{p:Z}{f:Z->Bool}(h:l[k]?=some p):(l.take (k+1)).filter f=(l.take k).filter f++if f p=true then[p]else[]:=by
 rw[A8,h,Bm];show _++[p].filter f=_;rw[List.filter_cons];rfl
def Gdi{p:Wd×Nat}(h:p∈prs w n):p.2<n:=by
 obtain⟨k,hk,rfl⟩:=AH.mp h;exact AQ.mp hk
def Gqi{p:Wd×Nat}(hm:m<=N)(h:p∈prP m N):p.2<N:=by
 unfold prP at h;simp only[Ay]at h;rcases h with((h|h)|h)|h
 ·have:=Gdi h;omega
 ·have:=Gdi h;omega
 ·have:=Gdi h;omega
 ·have:=Gdi h;omega
def Gag:(prs w n).length=n:=by simp[prs]
def Gl9:(prP m N).length=m+N+m+m:=by
 unfold prP;rw[AG,AG,AG,Gag,Gag,Gag,Gag]
def Gqj{x:Str}{fn:Fn}{t:Ev (List D)}(h:U[2]?=some (some (.fv x)))(ht:t U S=.ok ds S1)(hl:ds.length=n):clv 2 x n fn t U S=fn ds S1:=by
 unfold clv;rw[h];simp only[if_true,ht,Gm,hl]
section
variable{ps:List Pl}{us:List Bool}{L R F:List Int}{res:Wd×Nat->Res}
abbrev rs8(ps:List Pl)(us:List Bool)(L R F:List Int)(x3 x4 x5 x6 x7:BQ D):Lc:=[some (cD ps us),some (stD L R F),some (.fv "deed_done"),x3,x4,x5,x6,x7]
def Gun{p:Wd×Nat}{y:Str}(did:Gx [cD ps us,stD L R F,ddOf p] S=.exc ⟨y,none⟩ S)(hy:y∈ys):Ko (rs8 ps us L R F x3 (some (ddOf p)) x5 x6 x7) S=.ct (rs8 ps us L R F x3 (some (ddOf p)) x5 x6 x7) S:=by
 unfold Ko;have e:Qg (rs8 ps us L R F x3 (some (ddOf p)) x5 x6 x7) S=.exc ⟨y,none⟩ (rs8 ps us L R F x3 (some (ddOf p)) x5 x6 x7) S:=by
  have ec:clv 2 "deed_done" 3 (gX ys Gx) (ac XH (ac XI (ac XR an))) (rs8 ps us L R F x3 (some (ddOf p)) x5 x6 x7) S=gX ys Gx [cD ps us,stD L R F,ddOf p] S:=Gqj (ds:=[cD ps us,stD L R F,ddOf p]) (S1:=S) rfl (by simp) rfl;unfold Qg;rw[Ub,ec,Ghm did hy,Gne]
 rw[Gc0,Gub e hy];rfl
def Gqk{p:Wd×Nat}{a b c:D}(did:Gx [cD ps us,stD L R F,ddOf p] S=.ok (.tup [a,b,c]) S)(hq:S[q]?=some ⟨false,xs⟩)(hl:xs.length<1000000):Ko (rs8 ps us L R F (some (.lst q)) (some (ddOf p)) x5 x6 x7) S=.nx (rs8 ps us L R F (some (.lst q)) (some (ddOf p)) (some a) (some b) (some c)) (S.set q ⟨false,xs++[.tup [ddOf p,a,b,c]]⟩):=by
 unfold Ko;have e:Qg (rs8 ps us L R F (some (.lst q)) (some (ddOf p)) x5 x6 x7) S=.nx (rs8 ps us L R F (some (.lst q)) (some (ddOf p)) (some a) (some b) (some c)) S:=by
  have ec:clv 2 "deed_done" 3 (gX ys Gx) (ac XH (ac XI (ac XR an))) (rs8 ps us L R F (some (.lst q)) (some (ddOf p)) x5 x6 x7) S=gX ys Gx [cD ps us,stD L R F,ddOf p] S:=Gqj (ds:=[cD ps us,stD L R F,ddOf p]) (S1:=S) rfl (by simp) rfl;unfold Qg;rw[Ub,ec,Glz did,Ha];rfl
 rw[Gc1 (Gz8 e)];have il:isLst (.lst q) S=true:=by simp[isLst,hq]
 simp[apd hq hl,il]
def Gql(hl:ps.length<=13)(hu:us.length+1=ps.length)(hr:∀w k,k<ps.length->Rs ps us L R F (ddOf (w,k)) (res (w,k))):
  ∃S',Wb [cD ps us,stD L R F,.fv "deed_done"] S=.ok (.lst S.length) S'/\S'[S.length]?=some ⟨false,((prP us.length ps.length).filter fun p=>(res p).isY).map (st4 res)⟩/\Ex S S':=by
 have q1:(S++[(⟨false,[]⟩:Cell)])[S.length]?=some ⟨false,[]⟩:=Gu;have x1:Ex S (S++[⟨false,[]⟩]):=Ex.app;have l1:S.length<(S++[(⟨false,[]⟩:Cell)]).length:=by simp
 have e0:sa ZP (gn 3) (rs8 ps us L R F none none none none none) S=.nx (rs8 ps us L R F (some (.lst S.length)) none none none none) (S++[⟨false,[]⟩]):=by simp
 generalize S++[(⟨false,[]⟩:Cell)]=S1 at q1 x1 l1 e0;obtain⟨q,S2,e2,h2,x2,lq⟩:=Haf (S:=S1) hl hu;have pl:=Gl9 (m:=us.length) (N:=ps.length);obtain⟨U',S',ef,g4,g5,g6,g7,hU,hq3,hq0,x⟩:=Gji (nxt:=(Uk q ((prP us.length ps.length).map ddOf).length).nxt) (g:=gn 4) (b:=Ko) (l:=(prP us.length ps.length).map ddOf)
  (fun k U S'=>∃g4 g5 g6 g7,U=rs8 ps us L R F (some (.lst S.length)) g4 g5 g6 g7/\S'[S.length]?=some ⟨false,(((prP us.length ps.length).take k).filter fun p=>(res p).isY).map (st4 res)⟩/\S'[q]?=some ⟨false,(prP us.length ps.length).map ddOf⟩/\Ex S S')
  (fun k U S' ⟨_,_,_,_,_,_,h,_⟩=>by
   show(S'[q]?).bind (fun c=>c.xs[k]?)=_;rw[h]; rfl)
  (fun k d U S' hd ⟨g4,g5,g6,g7,h1,h3,h4,h5⟩=>by
   subst h1;rw[Ar]at hd;cases hk:(prP us.length ps.length)[k]? with
   |none=>rw[hk]at hd;cases hd
   |some p=>
    rw[hk]at hd;cases (Ab hd);have rs:Rs ps us L R F (ddOf p) (res p):=hr p.1 p.2 (Gqi (by omega) (Ao hk));have tk:((prP us.length ps.length).take (k+1)).filter (fun p=>(res p).isY)=((prP us.length ps.length).take k).filter (fun p=>(res p).isY)++if(res p).isY=true then[p]else[]:=Gum hk;have did:=rs.did S';have kd:=rs.kd;have l3:((((prP us.length ps.length).take k).filter fun p=>(res p).isY).map (st4 res)).length<1000:=by
     rw[Ai];have:=BA (fun p=>(res p).isY) ((prP us.length ps.length).take k);have:=List.length_take_le k (prP us.length ps.length);have:((prP us.length ps.length).take k).length<=(prP us.length ps.length).length:=by rw[AT];omega
     omega
    cases hres:res p with
    |no y=>
     rw[hres]at did kd;cases kd with
     |no hy=>
      refine⟨rs8 ps us L R F (some (.lst S.length)) (some (ddOf p)) g5 g6 g7,_,S',rfl,.inr (Gun did hy),_,_,_,_,rfl,?_,h4,h5⟩;have hy0:(res p).isY=false:=by rw[hres];rfl
      rw[tk,if_neg (by rw[hy0];decide),Bd];exact h3
    |yes d=>
     rw[hres]at did kd;cases kd with
     |yes hst _ _=>
      have ls:S.length<S'.length:=(Aa.mp h3).1;refine⟨rs8 ps us L R F (some (.lst S.length)) (some (ddOf p)) g5 g6 g7,_,_,rfl,.inl (Gqk did h3 (by omega)),_,_,_,_,rfl,?_,?_,h5.setq (Ac _)⟩
      ·have hy1:(res p).isY=true:=by rw[hres];rfl
       rw[As ls,tk,if_pos hy1,A9,AB,Br,show st4 res p=.tup (ddOf p::(res p).three)from rfl,hres];rfl
      ·rw[Ah (by omega)];exact h4) (((prP us.length ps.length).map ddOf).length+1) 0 (rs8 ps us L R F (some (.lst S.length)) none none none none) S2 (At _) ⟨none,none,none,none,rfl,x2.at q1,h2,x1.trans x2⟩ (AM _)
 subst hU;rw[Ai,Bl]at hq3;refine⟨S',?_,hq3,x⟩;refine(Gs (m:=8) (b:=Wa)).trans ?_;show fin (Wa (rs8 ps us L R F none none none none none) S)=_;unfold Wa;refine(Gi e0).trans ?_;refine(Gi (U':=rs8 ps us L R F (some (.lst S.length)) g4 g5 g6 g7) (S':=S') ?_).trans ?_
 ·rw[Ki,Uc];have:cl 1 (Gh Yg) (ac XH an) (rs8 ps us L R F (some (.lst S.length)) none none none none) S1=.ok (.lst q) S2:=by simp[e2]
  rw[this,Gm,Zz h2,Ha];exact ef
 simp
end
end Law
namespace BF
variable{Z:Type}[DecidableEq Z]
def Gqm:∀{l m:List Z},l.Nodup->(∀x∈l,x∈m)->l.length<=m.length
 |[],m,_,_=>At _
 |a::r,m,h,hm=>by
  obtain⟨h1,h2⟩:=Be.mp h;have ha:=hm a Aw;have:=Gqm (l:=r) (m:=m.erase a) h2 fun x hx=>(List.mem_erase_of_ne (show x≠a from fun e=>h1 (by rw[<- e];exact hx))).mpr (hm x (Au _ hx));rw[List.length_erase_of_mem ha]at this;have:=List.length_pos_of_mem ha;simp;omega
noncomputable def Vg(t:List Z)(b:Z):List Z:=if b∈t then t else t++[b]
def addA(t:List Z)(bs:List Z):List Z:=bs.foldl Vg t
def Gqn{t:List Z}{b x:Z}:x∈Vg t b↔x∈t\/x=b:=by
 unfold Vg;by_cases h:b∈t
 ·rw[if_pos h];exact⟨.inl,fun z=>z.elim id fun e=>e▸h⟩
 ·rw[if_neg h];simp
def Guo{t:List Z}{b:Z}(h:t.Nodup):(Vg t b).Nodup:=by
 unfold Vg;by_cases hb:b∈t
 ·rw[if_pos hb];exact h
 ·rw[if_neg hb];refine List.nodup_append.mpr ⟨h,by simp,fun x hx y hy=>?_⟩;rw[AA.mp hy];exact fun e=>hb (e▸hx)
def Gqo{t:List Z}:∃r,Vg t b=t++r:=by
 unfold Vg;split
 ·exact⟨[],by simp⟩
 ·exact⟨[b],rfl⟩
def Xr{b:Z}:addA t (b::bs)=addA (Vg t b) bs:=rfl
def Gf2{bs:List Z}:addA t (bs++[b])=Vg (addA t bs) b:=by unfold addA;rw[List.foldl_append];rfl
def Vh:∀{bs t:List Z}{x:Z},x∈addA t bs↔x∈t\/x∈bs
 |[],t,x=>by simp[addA]
 |b::bs,t,x=>by
  rw[Xr,Vh,Gqn,Ad];exact⟨fun h=>h.elim (fun h=>h.elim .inl fun e=>.inr (.inl e)) fun h=>.inr (.inr h),fun h=>h.elim (fun h=>.inl (.inl h)) fun h=>h.elim (fun e=>.inl (.inr e)) .inr⟩
def Ghu:∀{bs t:List Z},t.Nodup->(addA t bs).Nodup
 |[],t,h=>h
 |b::bs,t,h=>by rw[Xr];exact Ghu (Guo h)
def Gem:∀{bs t:List Z},∃r,addA t bs=t++r
 |[],t=>⟨[],by simp[addA]⟩
 |b::bs,t=>by
  obtain⟨r,h⟩:=Gqo (t:=t) (b:=b);obtain⟨q,h2⟩:=Gem (bs:=bs) (t:=Vg t b);exact⟨r++q,by rw[Xr,h2,h,Bh]⟩
inductive Rch(step:Z->List Z)(s:Z):Z->Prop
 |nil:Rch step s s
 |cons {x y:Z} (h:Rch step s x) (k:y∈step x):Rch step s y
structure Bf(step:Z->List Z)(s:Z)(t:List Z)(n:Nat):Prop where
 nd:t.Nodup
 hd:s∈t
 re:∀x∈t,Rch step s x
 cl:∀i,i<n->∀x,t[i]?=some x->∀b∈step x,b∈t
 le:n<=t.length
def Bf.one:Bf step s [s] 0:=⟨by simp,by simp,fun x hx=>by rw[AA.mp hx];exact .nil,fun i h=>by omega,by simp⟩
def Bf.next{step:Z->List Z}{t:List Z}(h:Bf step s t n)(hx:t[n]?=some x):Bf step s (addA t (step x)) (n+1):=by
 obtain⟨r,hr⟩:=Gem (bs:=step x) (t:=t);have hn:=(Aa.mp hx).1;refine⟨Ghu h.nd,Vh.mpr (.inl h.hd),fun y hy=>?_,fun i hi y hy b hb=>?_,by rw[hr];simp;omega⟩
 ·rcases Vh.mp hy with hy|hy
  ·exact h.re y hy
  ·exact .cons (h.re x (Ao hx)) hy
 ·rw[hr,AD (by omega)]at hy;by_cases e:i=n
  ·subst e;rw[hx]at hy;cases hy;exact Vh.mpr (.inr hb)
  ·exact Vh.mpr (.inl (h.cl i (by omega) y hy b hb))
end BF
namespace Law
open PySem PySem.Spec PyProof.Rows L2 DL
abbrev S3:=List Int×List Int×List Int
def stE(s:S3):D:=stD s.1 s.2.1 s.2.2
noncomputable def kS(s:S3):NK:=.t [.t (s.1.map .i),.t (s.2.1.map .i),.t (s.2.2.map .i)]
def Gma:∀(l:List Int),nkOs (l.map D.int)=some (l.map NK.i)
 |[]=>rfl
 |a::r=>by simp only[AB,nkOs,nkO,Gma r,Bs,Option.map_some]
def Gmb(s:S3):nkO (stE s)=some (kS s):=by
 unfold stE stD kS;simp only[nkO,nkOs,Gma,Bs,Option.map_some]
def Gah:∀{l m:List Int},l.map NK.i=m.map NK.i->l=m
 |[],[],_=>rfl
 |[],_::_,h=>by simp at h
 |_::_,[],h=>by simp at h
 |a::r,b::q,h=>by
  simp only[AB,List.cons.injEq,NK.i.injEq]at h;rw[h.1,Gah h.2]
def Gqp(h:kS a=kS b):a=b:=by
 obtain⟨a1,a2,a3⟩:=a;obtain⟨b1,b2,b3⟩:=b;simp only[kS,NK.t.injEq,List.cons.injEq,and_true]at h;obtain⟨h1,h2,h3⟩:=h;rw[Gah h1,Gah h2,Gah h3]
def Gmc:∀(l:List Int),PyData.depthAll (pks (l.map NK.i))=0
 |[]=>rfl
 |a::r=>by simp only[AB,pks,pk,PyData.depthAll,PyData.depth,Gmc r];rfl
def Gup(h:stE a=stE b):a=b:=by
 have:=Gmb a;rw[h,Gmb b]at this;exact(Gqp (Ab this)).symm
def Gcl:Gis (stE s)=some (kS s):=by
 have e:Gis (stE s)=(match nkO (stE s)with|some Y=>if(pk Y).depth<=8 then some Y else none|none=>none):=rfl;rw[e,Gmb];have:(pk (kS s)).depth<=8:=by
  simp only[kS,pk,pks,PyData.depth,PyData.depthAll,Gmc];decide
 simp only[this,if_true]
def Hah{S:Sto}(e:S[f]?=some ⟨false,xs⟩)(k:Gis x=some Y):Gb8 neg x (.dct f) S=.ok (.bl (if neg=true then !(dlook Y xs).isSome else(dlook Y xs).isSome)) S:=by
 simp only[Gb8,e,k,if_true]
def Gqq{S:Sto}{xs:List D}(e:S[f]?=some ⟨false,xs⟩)(k:Gis x=some Y)(h:dlook Y xs=none)(hl:xs.length<1000000):dsetD (.dct f) x z S=some (S.set f ⟨false,xs++[.tup [x,z]]⟩):=by
 have:dput Y x z xs=xs++[.tup [x,z]]:=by unfold dput;rw[h];rfl
 simp only[dsetD,e,k,this,hl,and_self,if_true]
def sdP(s:S3):D:=.tup [stE s,.bl true]
def Xs:∀{t:List S3},(dlook (kS s) (t.map sdP)).isSome=decide (s∈t)
 |[]=>rfl
 |x::t=>by
  show(if nkO (stE x)=some (kS s)then some (D.bl true)else dlook (kS s) (t.map sdP)).isSome=_;rw[Gmb];by_cases c:x=s
  ·subst c;simp
  ·have:¬some (kS x)=some (kS s):=fun z=>c (Gqp (Ab z));rw[if_neg this,Xs (t:=t)];have c':¬s=x:=fun z=>c z.symm;simp[c']
def Gni{t:List S3}(h:s∉t):dlook (kS s) (t.map sdP)=none:=by
 have:=Xs (s:=s) (t:=t);rw[decide_eq_false h]at this;exact Option.isNone_iff_eq_none.mp (by rw[Option.isNone_iff_eq_none];exact Option.not_isSome_iff_eq_none.mp (by rw[this];decide))
structure Cn(ps:List Pl)(us:List Bool):Prop where
 hp:∀p∈ps,p.ok
 hl:ps.length<=13
 hu:us.length+1=ps.length
abbrev Gd(ps:List Pl)(s:S3):Prop:=StF ps s.1 s.2.1 s.2.2
def PR(ps:List Pl)(us:List Bool)(s:S3)(res:Wd×Nat->Res):Prop:=(∀w k,k<ps.length->Rs ps us s.1 s.2.1 s.2.2 (ddOf (w,k)) (res (w,k)))/\∀w,w≠.f->(res (w,us.length)).isY=false
open Classical in
noncomputable def resOf (ps:List Pl) (us:List Bool) (s:S3):Wd×Nat->Res:=if h:∃res,PR ps us s res then Classical.choose h else fun _=>.no "NoGate"
open Classical in
noncomputable def bh (r:Res):S3:=if h:∃s:S3,∃p g:Int,r=.yes (.tup [stE s,.int p,.int g])then Classical.choose h else([],[],[])
def Hdm:bh (.yes (.tup [stE s,.int p,.int g]))=s:=by
 have h:∃s':S3,∃p' g':Int,Res.yes (.tup [stE s,.int p,.int g])=.yes (.tup [stE s',.int p',.int g']):=⟨s,p,g,rfl⟩
 unfold bh;rw[dif_pos h];obtain⟨p',g',e⟩:=Classical.choose_spec h;injection e with e;injection e with e;simp only[List.cons.injEq]at e;exact(Gup e.1).symm
noncomputable def yesL (ps:List Pl) (us:List Bool) (s:S3):List (Wd×Nat):=(prP us.length ps.length).filter fun p=>(resOf ps us s p).isY
noncomputable def stepS (ps:List Pl) (us:List Bool) (s:S3):List S3:=(yesL ps us s).map fun p=>bh (resOf ps us s p)
section
variable{ps:List Pl}{us:List Bool}{s s0:S3}{S:Sto}
def Ghv(C:Cn ps us)(g:Gd ps s):PR ps us s (resOf ps us s):=by
 have h:∃res,PR ps us s res:=Guk C.hp C.hl C.hu g.toR g;unfold resOf;rw[dif_pos h];exact Classical.choose_spec h
set_option tactic.hygienic true
def Gcm(C:Cn ps us)(g:Gd ps s)(h:p∈yesL ps us s):∃(s':S3)(pr ga:Int),resOf ps us s p=.yes (.tup [stE s',.int pr,.int ga])/\bh (resOf ps us s p)=s'/\Gd ps s'/\st4 (resOf ps us s) p=.tup [ddOf p,stE s',.int pr,.int ga]:=by
 obtain⟨hp,hy⟩:=List.mem_filter.mp h;have rs:=(Ghv C g).1 p.1 p.2 (Gqi (by have:=C.hu;omega) hp);have kd:=rs.kd;cases hres:resOf ps us s p with
 |no y=>rw[hres]at hy;cases hy
 |yes d=>
  rw[show(p.1,p.2)=p from rfl,hres]at kd;cases kd with
  |yes hst hp0 hg0=>
   rename_i A B C' a g';refine⟨(A,B,C'),a,g',rfl,Hdm (s:=(A,B,C')),hst,?_⟩;show D.tup (ddOf p::(resOf ps us s p).three)=_;rw[hres];rfl
set_option tactic.hygienic false
def Guq(C:Cn ps us)(g:Gd ps s)(h:x∈stepS ps us s):Gd ps x:=by
 obtain⟨p,hp,rfl⟩:=AH.mp h;obtain⟨s',_,_,_,e,h',_⟩:=Gcm C g hp;rw[e];exact h'
def Gqr(C:Cn ps us)(g:Gd ps s0)(h:BF.Rch (stepS ps us) s0 x):Gd ps x:=by
 induction h with
 |nil=>exact g
 |cons _ k ih=>exact Guq C ih k
def Gur:(yesL ps us s).length<=us.length+ps.length+us.length+us.length:=by
 have:=BA (fun p=>(resOf ps us s p).isY) (prP us.length ps.length);rw[Gl9]at this;exact this
def Gus(C:Cn ps us)(g:Gd ps s):yesL ps us s=(prL ps.length).filter fun p=>(resOf ps us s p).isY:=by
 have:=Gul (res:=resOf ps us s) (m:=us.length) (Ghv C g).2;unfold yesL;rw[<- C.hu];exact this
def Gjj(C:Cn ps us)(g:Gd ps s):∃S',Wb [cD ps us,stE s,.fv "deed_done"] S=.ok (.lst S.length) S'/\S'[S.length]?=some ⟨false,(yesL ps us s).map (st4 (resOf ps us s))⟩/\Ex S S':=Gql C.hl C.hu (Ghv C g).1
end
end Law
namespace Law
open PySem PySem.Spec PyProof.Rows L2 DL BF
variable{a f m j k q n b y z t W:Nat}{S1 S' S0 S SB:Sto}{c x d:D}{xs:List D}{x5 x4 x6 x7 x3 x8 x10:BQ D}{p:Pl}{U:Lc}{L M:List Int}{ps:List Pl}{v de ro:Int}{lo hi:BQ Int}
section
variable{ps:List Pl}{us:List Bool}{s s0 x:S3}{S:Sto}{t:List S3}{n:Nat}
structure K2(a f:Nat)(S S':Sto):Prop where
 len:S.length<=S'.length
 get:∀i,i<S.length->i≠a->i≠f->S'[i]?=S[i]?
def K2.refl:K2 a f S S:=⟨Ac _,fun _ _ _ _=>rfl⟩
def K2.trans(h:K2 a f S S1)(g:K2 a f S1 S2):K2 a f S S2:=⟨Ak h.len g.len,fun i hi h1 h2=>(g.get i (Ag hi h.len) h1 h2).trans (h.get i hi h1 h2)⟩
def K2.set{c:Cell}(h:i=a\/i=f):K2 a f S (S.set i c):=⟨by simp,fun j _ h1 h2=>by rw[Ah];rcases h with h|h<;>(subst h;first|exact Ne.symm h1|exact Ne.symm h2)⟩
def Ex.k2(h:Ex S S'):K2 a f S S':=⟨h.len,fun i hi _ _=>h.get i hi⟩
def K2.at{c:Cell}(h:K2 a f S S')(e:S[i]?=some c)(h1:i≠a)(h2:i≠f):S'[i]?=some c:=(h.get i (Aa.mp e).1 h1 h2).trans e
def K2.ex(x:Ex S0 S)(h:K2 a f S S')(ha:S0.length<=a)(hf:S0.length<=f):Ex S0 S':=⟨Ak x.len h.len,fun i hi=>(h.get i (Ag hi x.len) (by omega) (by omega)).trans (x.get i hi)⟩
noncomputable def bq (ps:List Pl) (us:List Bool) (s0:S3):Nat->List S3
 |0=>[s0]
 |n+1=>match (bq ps us s0 n)[n]? with
  |some x=>addA (bq ps us s0 n) (stepS ps us x)
  |none=>bq ps us s0 n
def Ghw(h:(bq ps us s0 n)[n]?=some x):bq ps us s0 (n+1)=addA (bq ps us s0 n) (stepS ps us x):=by
 show(match (bq ps us s0 n)[n]? with|some x=>addA (bq ps us s0 n) (stepS ps us x)|none=>bq ps us s0 n)=_;rw[h]
def Hai:∃r,bq ps us s0 (n+1)=bq ps us s0 n++r:=by
 cases h:(bq ps us s0 n)[n]? with
 |some x=>rw[Ghw h];exact Gem
 |none=>
  refine⟨[],?_⟩;show(match (bq ps us s0 n)[n]? with|some x=>addA (bq ps us s0 n) (stepS ps us x)|none=>bq ps us s0 n)=_;rw[h];simp
def Gut(d:Nat):∃r,bq ps us s0 (n+d)=bq ps us s0 n++r:=by
 induction d with
 |zero=>exact⟨[],by simp⟩
 |succ d ih=>
  obtain⟨r,h⟩:=ih;obtain⟨q,h2⟩:=Hai (ps:=ps) (us:=us) (s0:=s0) (n:=n+d);exact⟨r++q,by rw[show n+(d+1)=n+d+1 from rfl,h2,h,Bh]⟩
def Hdn(h:n<=m):(bq ps us s0 n).length<=(bq ps us s0 m).length:=by
 obtain⟨r,e⟩:=Gut (ps:=ps) (us:=us) (s0:=s0) (n:=n) (m-n);rw[show n+(m-n)=m by omega]at e;rw[e];simp
def Gjk:∀n,(∀j,j<n->j<(bq ps us s0 j).length)->Bf (stepS ps us) s0 (bq ps us s0 n) n
 |0,_=>Bf.one
 |n+1,h=>by
  have hn:=Af (h n (by omega));rw[Ghw hn];exact(Gjk n (fun j hj=>h j (by omega))).next hn
structure Dn(ps:List Pl)(us:List Bool)(s0:S3)(m:Nat):Prop where
 len:(bq ps us s0 m).length=m
 go:∀j,j<m->j<(bq ps us s0 j).length
def Dn.gd(d:Dn ps us s0 m)(C:Cn ps us)(g:Gd ps s0)(hj:j<=m)(hx:x∈bq ps us s0 j):Gd ps x:=Gqr C g ((Gjk j (fun i hi=>d.go i (by omega))).re x hx)
end
def Gkz{nxt:Nat->Sto->BQ D}{g:Tg}{b:Sv}{l:List D}(I:Nat->Lc->Sto->Prop)(P:D->Sto->Prop)(hn:∀k U S,I k U S->nxt k S=l[k]?)
  (hs:∀k d U S,l[k]?=some d->I k U S->∃U1,g d U=some U1/\((∃U2 S2,(b U1 S=.nx U2 S2\/b U1 S=.ct U2 S2)/\I (k+1) U2 S2)\/∃r S2,b U1 S=.rt r S2/\P r S2)):
  ∀(n k:Nat)(U:Lc)(S:Sto),k<=l.length->I k U S->l.length<n+k→
   (∃U' S',Jd nxt g b n k U S=.nx U' S'/\I l.length U' S')\/∃r S',Jd nxt g b n k U S=.rt r S'/\P r S'
 |0,k,U,S,h1,_,h2=>by omega
 |n+1,k,U,S,h1,hI,h2=>by
  unfold Jd;rw[hn k U S hI];cases z:l[k]? with
  |none=>
   have:k=l.length:=by have:=AV.mp z;omega
   subst this;exact .inl ⟨U,S,rfl,hI⟩
  |some d=>
   have hk:k<l.length:=(Aa.mp z).1;obtain⟨U1,e1,h⟩:=hs k d U S z hI;rcases h with⟨U2,S2,e2|e2,hI2⟩|⟨r,S2,e2,p⟩
   ·simp only[e1,e2];exact Gkz I P hn hs n (k+1) U2 S2 hk hI2 (by omega)
   ·simp only[e1,e2];exact Gkz I P hn hs n (k+1) U2 S2 hk hI2 (by omega)
   ·simp only[e1,e2];exact .inr ⟨r,S2,rfl,p⟩
section
variable{ps:List Pl}{us:List Bool}{s s0 x:S3}{S:Sto}{n:Nat}
noncomputable def canD (ps:List Pl) (us:List Bool) (s:S3) (p:Wd×Nat):D:=.tup [ddOf p,(resOf ps us s p).toD]
abbrev rc(ps:List Pl)(us:List Bool)(s:S3)(q:Nat)(x3 x4 x5:BQ D):Lc:=[some (cD ps us),some (stE s),some (.lst q),x3,x4,x5]
set_option tactic.hygienic true
def Guu(C:Cn ps us)(g:Gd ps s){w:Wd}(hk:k<ps.length)(hq:S[q]?=some ⟨false,xs⟩)(hx:xs.length<1000):
  ∃S' y5,Qi (rc ps us s q (some w.toD) (some (.int k)) x5) S=.nx (rc ps us s q (some w.toD) (some (.int k)) y5) S'/\S'[q]?=some ⟨false,xs++([(w,k)].filter fun p=>(resOf ps us s p).isY).map (canD ps us s)⟩/\K2 q q S S':=by
 have rs:=(Ghv C g).1 w k hk;obtain⟨S1,e1,x1⟩:=rs.due S;have e1:Hk [cD ps us,stE s,.tup [w.toD,.int k]] S=.ok (resOf ps us s (w,k)).toD S1:=e1;have q1:=x1.at hq;have il:isLst (.lst q) S1=true:=by simp[isLst,q1]
 have lq:q<S1.length:=(Aa.mp q1).1;have kd:=rs.kd;cases hres:resOf ps us s (w,k)with
 |no y=>
  rw[hres]at kd e1;cases kd with
  |no hy=>
   obtain⟨v,hv⟩:=Gqg hy;have hy0:([(w,k)].filter fun p=>(resOf ps us s p).isY)=[]:=by simp[hres,Res.isY]
   rw[hy0];refine⟨S1,some (.str v),?_,by simpa using q1,x1.k2⟩;have e1:Hk [cD ps us,stE s,.tup [w.toD,.int k]] S=.ok (.str v) S1:=by rw[e1];show Out.ok (Ul y) S1=_;rw[hv]
   unfold rc;generalize stE s=sd at *;generalize cD ps us=cd at *;generalize w.toD=wdd at *;simp[Qi,e1,isD,isT,tyN,Kt]
 |yes d=>
  rw[hres]at kd e1;have hy1:([(w,k)].filter fun p=>(resOf ps us s p).isY)=[(w,k)]:=by simp[hres,Res.isY]
  rw[hy1];cases kd with
  |yes hst hp0 hg0=>
   rename_i A B C' a g';have e1:Hk [cD ps us,stE s,.tup [w.toD,.int k]] S=.ok (.tup [stE (A,B,C'),.int a,.int g']) S1:=e1;have ap:=apd (d:=.tup [.tup [w.toD,.int k],.tup [stE (A,B,C'),.int a,.int g']]) q1 (by omega);have ec:([(w,k)].map (canD ps us s))=[.tup [.tup [w.toD,.int k],.tup [stE (A,B,C'),.int a,.int g']]]:=by
    simp only[AB,Br,canD,hres];rfl
   rw[ec];refine⟨S1.set q ⟨false,xs++[.tup [.tup [w.toD,.int k],.tup [stE (A,B,C'),.int a,.int g']]]⟩,some (.tup [stE (A,B,C'),.int a,.int g']),?_,As lq,x1.k2.trans (K2.set (.inl rfl))⟩;generalize (⟨false,xs++[.tup [.tup [w.toD,.int k],.tup [stE (A,B,C'),.int a,.int g']]]⟩:Cell)=cc at *;unfold rc;generalize stE s=sd at *;generalize stE (A,B,C')=sd2 at *;generalize cD ps us=cd at *;generalize w.toD=wdd at *;simp[Qi,e1,isD,isT,tyN,Kt,il,ap]
set_option tactic.hygienic false
def Haj(C:Cn ps us)(g:Gd ps s){w:Wd}(hq:S[q]?=some ⟨false,xs⟩)(hx:xs.length<=900):
  ∃S' y4 y5,Uw (rc ps us s q (some w.toD) x4 x5) S=.nx (rc ps us s q (some w.toD) y4 y5) S'/\S'[q]?=some ⟨false,xs++((prs w ps.length).filter fun p=>(resOf ps us s p).isY).map (canD ps us s)⟩/\K2 q q S S':=by
 have h13:=C.hl;obtain⟨U',S',ef,y4,y5,hU,h1,h2⟩:=Ud (nxt:=(rsrc 0 ps.length).nxt) (g:=gn 4) (b:=Qi) (l:=(List.range ps.length).map fun k:Nat=>D.int (k:Int))
  (fun k U S'=>∃y4 y5,U=rc ps us s q (some w.toD) y4 y5/\S'[q]?=some ⟨false,xs++((prs w k).filter fun p=>(resOf ps us s p).isY).map (canD ps us s)⟩/\K2 q q S S')
  (fun k _ S' _=>Ghf)
  (fun k d U S' hd ⟨y4,y5,e,h1,h2⟩=>by
   obtain⟨hk,rfl⟩:=Gpy hd;subst e;have lf:(((prs w k).filter fun p=>(resOf ps us s p).isY).map (canD ps us s)).length<=k:=by
    rw[Ai];refine Ak (BA _ _) ?_;rw[Gag];exact Ac _
   obtain⟨S2,z5,e1,e2,e3⟩:=Guu (w:=w) (x5:=y5) C g hk h1 (by rw[AG];omega);refine⟨rc ps us s q (some w.toD) (some (.int k)) y5,_,S2,rfl,e1,some (.int k),z5,rfl,?_,h2.trans e3⟩;rw[e2];have:prs w (k+1)=prs w k++[(w,k)]:=by unfold prs;rw[List.range_succ];simp
   rw[this,Bm,A9,Bh])
  (rsrc 0 ps.length).fuel 0 (rc ps us s q (some w.toD) x4 x5) S (At _) ⟨x4,x5,rfl,by simpa[prs]using hq,K2.refl⟩ (by simp[rsrc])
 subst hU;refine⟨S',y4,y5,?_,by simpa using h1,h2⟩;have hr:ir1 (ac (b1 Hb (ac YI an)) an) (rc ps us s q (some w.toD) x4 x5) S=.ok (rsrc 0 ps.length) S:=Ghg (by
  have c0:=cd0 (ps:=ps) (us:=us) (S:=S);have ln:Hb [.tup (ps.map Pl.toD)] S=.ok (.int (ps.length:Int)) S:=by simp[Hb]
  unfold rc;generalize stE s=sd at *;generalize cD ps us=cd at *;generalize ps.map Pl.toD=pd at *;simp[c0,ln]) (by omega)
 unfold Uw;rw[Ki,hr,Ha];exact ef
noncomputable def Ws:List Wd:=[.l,.f,.r,.e]
def Gqs(C:Cn ps us)(g:Gd ps s):∃S',Kh [cD ps us,stE s] S=.ok (.lst S.length) S'/\S'[S.length]?=some ⟨false,(yesL ps us s).map (canD ps us s)⟩/\Ex S S':=by
 have h13:=C.hl;have q1:(S++[⟨false,[]⟩])[S.length]?=some ⟨false,[]⟩:=Gu;have l1:(S++[(⟨false,[]⟩:Cell)]).length=S.length+1:=by simp
 have x1:Ex S (S++[⟨false,[]⟩]):=Ex.app;have s1:sa ZP (gn 2) [some (cD ps us),some (stE s),none,none,none,none] S=.nx (rc ps us s S.length none none none) (S++[⟨false,[]⟩]):=by simp
 generalize S++[(⟨false,[]⟩:Cell)]=S1 at *;have q2:(S1++[⟨false,Ws.map Wd.toD⟩])[S1.length]?=some ⟨false,Ws.map Wd.toD⟩:=Gu;have x2:Ex S1 (S1++[⟨false,Ws.map Wd.toD⟩]):=Ex.app;have s2:ls (ac ZF (ac ZD (ac YF (ac ZM an)))) (rc ps us s S.length none none none) S1=.ok (.lst S1.length) (S1++[⟨false,Ws.map Wd.toD⟩]):=by
  have:Ws.map Wd.toD=[.str "let",.str "feed",.str "right",.str "left"]:=rfl;rw[this];simp
 generalize S1++[(⟨false,Ws.map Wd.toD⟩:Cell)]=S2 at *;have sr:=Zz q2;have lW:(Ws.map Wd.toD).length=4:=rfl;simp only[lW]at sr;obtain⟨U',S',ef,y3,y4,y5,hU,h1,h2⟩:=Ud (nxt:=(Uk S1.length 4).nxt) (g:=gn 3) (b:=Uw) (l:=Ws.map Wd.toD)
  (fun k U S'=>∃y3 y4 y5,U=rc ps us s S.length y3 y4 y5/\S'[S.length]?=some ⟨false,(((Ws.take k).flatMap fun w=>prs w ps.length).filter fun p=>(resOf ps us s p).isY).map (canD ps us s)⟩/\K2 S.length S.length S2 S')
  (fun k _ S' ⟨_,_,_,_,_,h⟩=>by
   show(S'[S1.length]?).bind (fun c=>c.xs[k]?)=_;rw[h.at q2 (by omega) (by omega)]; rfl)
  (fun k d U S' hd ⟨y3,y4,y5,e,h1,h2⟩=>by
   subst e;rw[Ar]at hd;cases hk:Ws[k]? with
   |none=>rw[hk]at hd;cases hd
   |some w=>
    rw[hk]at hd;cases (Ab hd);have k4:k<4:=(Aa.mp hk).1;have lf:((((Ws.take k).flatMap fun w=>prs w ps.length).filter fun p=>(resOf ps us s p).isY).map (canD ps us s)).length<=900:=by
     rw[Ai];refine Ak (BA _ _) ?_;rcases(by omega:k=0\/k=1\/k=2\/k=3)with rfl|rfl|rfl|rfl<;>(simp[Ws,Gag]<;>omega)
    obtain⟨S3',z4,z5,e1,e2,e3⟩:=Haj (w:=w) (x4:=y4) (x5:=y5) C g h1 lf;refine⟨rc ps us s S.length (some w.toD) y4 y5,_,S3',rfl,e1,some w.toD,z4,z5,rfl,?_,h2.trans e3⟩;rw[e2,<- A9,<- Bm];have:(Ws.take (k+1)).flatMap (fun w=>prs w ps.length)=(Ws.take k).flatMap (fun w=>prs w ps.length)++prs w ps.length:=by
     rw[A8,hk,List.flatMap_append];simp
    rw[this])
  5 0 (rc ps us s S.length none none none) S2 (At _) ⟨none,none,none,rfl,by simpa using x2.at q1,K2.refl⟩ (by rw[lW];omega)
 subst hU;rw[lW]at h1;have e4:(Ws.take 4).flatMap (fun w=>prs w ps.length)=prL ps.length:=by simp[Ws,prL]
 rw[e4,<- Gus C g]at h1;refine⟨S',?_,h1,K2.ex (x1.trans x2) h2 (Ac _) (Ac _)⟩;unfold Kh;rw[Gs];simp only[Ga5];refine(Gi s1).trans ?_;refine(Gi (U':=rc ps us s S.length y3 y4 y5) (S':=S') ?_).trans ?_
 ·rw[Ki,Uc,s2,Gm,sr,Ha];exact ef
 ·simp
end
section
variable{ps:List Pl}{us:List Bool}{s s0 x:S3}{S:Sto}{t:List S3}{n:Nat}
abbrev rw'(ps:List Pl)(us:List Bool)(s0:S3)(most:Nat)(a f:Nat)(n:Nat)(x6 x7:BQ D):Lc:=[some (cD ps us),some (stE s0),some (.int most),some (.lst a),some (.dct f),some (.int n),x6,x7]
def Hak(C:Cn ps us)(g:Gd ps x){most:Nat}{p:Wd×Nat}(hp:p∈yesL ps us x)(ha:S[a]?=some ⟨false,t.map stE⟩)(hf:S[f]?=some ⟨false,t.map sdP⟩)(ne:a≠f)(hl:t.length<=most)(hm:most<10000):
  (∃S',Hn (rw' ps us s0 most a f n (some (ddOf p)) (some (resOf ps us x p).toD)) S=.nx (rw' ps us s0 most a f n (some (ddOf p)) (some (resOf ps us x p).toD)) S'/\S'[a]?=some ⟨false,(Vg t (bh (resOf ps us x p))).map stE⟩/\S'[f]?=some ⟨false,(Vg t (bh (resOf ps us x p))).map sdP⟩/\(Vg t (bh (resOf ps us x p))).length<=most/\K2 a f S S')∨
  (∃S',Hn (rw' ps us s0 most a f n (some (ddOf p)) (some (resOf ps us x p).toD)) S=.rt .non S'/\K2 a f S S'):=by
 obtain⟨s',pr,ga,e1,e2,_,_⟩:=Gcm C g hp;have e3:(resOf ps us x p).toD=.tup [stE s',.int pr,.int ga]:=by rw[e1];rfl
 rw[e3,e2];have iq:=Hah (neg:=true) hf (Gcl (s:=s'));rw[Xs]at iq;simp only[if_true]at iq;have g0':∀S,DL.getD (.tup [stE s',.int pr,.int ga]) (.int 0) S=.ok (stE s') S:=fun S=>p0e;by_cases c:s'∈t
 ·left;have h1:Vg t s'=t:=if_pos c;rw[h1];refine⟨S,?_,ha,hf,hl,K2.refl⟩;unfold rw';generalize D.tup [stE s',.int pr,.int ga]=td at *;generalize stE s'=sd at *;generalize stE s0=sd0 at *;generalize cD ps us=cd at *;generalize ddOf p=dp at *;simp[Hn,g0',iq,c]
 ·have h1:Vg t s'=t++[s']:=if_neg c;rw[h1];have ds:=Gqq (z:=.bl true) hf (Gcl (s:=s')) (Gni c) (by simp;omega);have lf:f<S.length:=(Aa.mp hf).1;have h2:t.map sdP++[.tup [stE s',.bl true]]=(t++[s']).map sdP:=by simp[sdP]
  rw[h2]at ds;have f1:(S.set f ⟨false,(t++[s']).map sdP⟩)[f]?=some ⟨false,(t++[s']).map sdP⟩:=As lf;have a1:(S.set f ⟨false,(t++[s']).map sdP⟩)[a]?=some ⟨false,t.map stE⟩:=by rw[Ah (Ne.symm ne)];exact ha
  have k1:K2 a f S (S.set f ⟨false,(t++[s']).map sdP⟩):=K2.set (.inr rfl);generalize S.set f ⟨false,(t++[s']).map sdP⟩=S1 at *;have la:a<S1.length:=(Aa.mp a1).1;have ap:=apd (d:=stE s') a1 (by simp;omega);have h3:t.map stE++[stE s']=(t++[s']).map stE:=by simp
  rw[h3]at ap;have il:isLst (.lst a) S1=true:=by simp[isLst,a1]
  have a2:(S1.set a ⟨false,(t++[s']).map stE⟩)[a]?=some ⟨false,(t++[s']).map stE⟩:=As la;have f2:(S1.set a ⟨false,(t++[s']).map stE⟩)[f]?=some ⟨false,(t++[s']).map sdP⟩:=by rw[Ah ne];exact f1
  have k2:K2 a f S (S1.set a ⟨false,(t++[s']).map stE⟩):=k1.trans (K2.set (.inl rfl));have ln:=Gar a2;simp only[Ai]at ln;generalize S1.set a ⟨false,(t++[s']).map stE⟩=S2 at *;by_cases cl:(t++[s']).length<=most
  ·left;refine⟨S2,?_,a2,f2,cl,k2⟩;have cl':¬(most:Int)<(((t++[s']).length:Nat):Int):=by omega
   unfold rw';generalize D.tup [stE s',.int pr,.int ga]=td at *;generalize (((t++[s']).length:Nat):Int)=mm at *;generalize (most:Int)=mo at *;generalize stE s'=sd at *;generalize stE s0=sd0 at *;generalize cD ps us=cd at *;generalize ddOf p=dp at *;simp[Hn,g0',iq,c,ds,il,ap,ln,cl']
  ·right;refine⟨S2,?_,k2⟩;have cl':(most:Int)<(((t++[s']).length:Nat):Int):=by omega
   unfold rw';generalize D.tup [stE s',.int pr,.int ga]=td at *;generalize (((t++[s']).length:Nat):Int)=mm at *;generalize (most:Int)=mo at *;generalize stE s'=sd at *;generalize stE s0=sd0 at *;generalize cD ps us=cd at *;generalize ddOf p=dp at *;simp[Hn,g0',iq,c,ds,il,ap,ln,cl']
abbrev g2m:Tg:=gt (gcons (gn 6) (gcons (gn 7) gnil)) 2
def Hdo(C:Cn ps us)(g:Gd ps x){most:Nat}(ha:S[a]?=some ⟨false,t.map stE⟩)(hf:S[f]?=some ⟨false,t.map sdP⟩)(hq:S[q]?=some ⟨false,(yesL ps us x).map (canD ps us x)⟩)(ne:a≠f)(qa:q≠a)(qf:q≠f)(hl:t.length<=most)(hm:most<10000):
  (∃S' y6 y7,Jd (Uk q (yesL ps us x).length).nxt g2m Hn ((yesL ps us x).length+1) 0 (rw' ps us s0 most a f n x6 x7) S=.nx (rw' ps us s0 most a f n y6 y7) S'/\S'[a]?=some ⟨false,(addA t (stepS ps us x)).map stE⟩/\S'[f]?=some ⟨false,(addA t (stepS ps us x)).map sdP⟩/\(addA t (stepS ps us x)).length<=most/\K2 a f S S')∨
  (∃S',Jd (Uk q (yesL ps us x).length).nxt g2m Hn ((yesL ps us x).length+1) 0 (rw' ps us s0 most a f n x6 x7) S=.rt .non S'/\K2 a f S S'):=by
 have main:=Gkz (nxt:=(Uk q (yesL ps us x).length).nxt) (g:=g2m) (b:=Hn) (l:=(yesL ps us x).map (canD ps us x))
  (fun k U S'=>∃y6 y7,U=rw' ps us s0 most a f n y6 y7/\S'[a]?=some ⟨false,(addA t ((stepS ps us x).take k)).map stE⟩/\S'[f]?=some ⟨false,(addA t ((stepS ps us x).take k)).map sdP⟩/\(addA t ((stepS ps us x).take k)).length<=most/\K2 a f S S')
  (fun r S'=>r=.non/\K2 a f S S')
  (fun k U S' ⟨_,_,_,_,_,_,h⟩=>by
   show(S'[q]?).bind (fun c=>c.xs[k]?)=_;rw[h.at hq qa qf]; rfl)
  (fun k d U S' hd ⟨y6,y7,e,h1,h2,h3,h4⟩=>by
   subst e;rw[Ar]at hd;cases hk:(yesL ps us x)[k]? with
   |none=>rw[hk]at hd;cases hd
   |some p=>
    rw[hk]at hd;cases (Ab hd);have hp:=Ao hk;have tk:addA t ((stepS ps us x).take (k+1))=Vg (addA t ((stepS ps us x).take k)) (bh (resOf ps us x p)):=by
     rw[<- Gf2,A8];congr 1;congr 1;unfold stepS;rw[Ar,hk];rfl
    rw[tk];refine⟨rw' ps us s0 most a f n (some (ddOf p)) (some (resOf ps us x p).toD),rfl,?_⟩;rcases Hak (s0:=s0) (n:=n) C g hp h1 h2 ne h3 hm with⟨S2,b1',b2,b3,b4,b5⟩|⟨S2,b1',b2⟩
    ·exact .inl ⟨_,S2,.inl b1',_,_,rfl,b2,b3,b4,h4.trans b5⟩
    ·exact .inr ⟨_,S2,b1',rfl,h4.trans b2⟩)
  ((yesL ps us x).length+1) 0 (rw' ps us s0 most a f n x6 x7) S (At _) ⟨x6,x7,rfl,ha,hf,hl,K2.refl⟩ (by simp)
 rcases main with⟨U',S',ef,y6,y7,hU,h1,h2,h3,h4⟩|⟨r,S',ef,hr,h4⟩
 ·have tkl:(stepS ps us x).take (((yesL ps us x).map (canD ps us x)).length)=stepS ps us x:=BL (by simp[stepS]);rw[tkl]at h1 h2 h3;subst hU;exact .inl ⟨S',y6,y7,ef,h1,h2,h3,h4⟩
 ·subst hr;exact .inr ⟨S',ef,h4⟩
def IW(S0:Sto)(ps:List Pl)(us:List Bool)(s0:S3)(most:Nat)(j:Nat)(U:Lc)(S:Sto):Prop:=
 (∃x6 x7,U=rw' ps us s0 most S0.length (S0.length+1) j x6 x7)/\S[S0.length]?=some ⟨false,(bq ps us s0 j).map stE⟩/\S[S0.length+1]?=some ⟨false,(bq ps us s0 j).map sdP⟩/\(bq ps us s0 j).length<=most/\(∀i,i<j->i<(bq ps us s0 i).length)/\Ex S0 S
def Guv{most:Nat}(h:IW S0 ps us s0 most j U S):Jq U S=.ok (decide (j<(bq ps us s0 j).length)) S:=by
 obtain⟨⟨x6,x7,rfl⟩,ha,_⟩:=h;have ln:=Gar ha;simp only[Ai]at ln;generalize (bq ps us s0 j).length=m at *;unfold rw';generalize stE s0=sd0 at *;generalize cD ps us=cd at *;simp[Jq,ln]
def Guw(C:Cn ps us)(g0':Gd ps s0){most:Nat}(h:IW S0 ps us s0 most j U S)(hj:j<(bq ps us s0 j).length)(hm:most<10000):(∃U2 S2,Hz U S=.nx U2 S2/\IW S0 ps us s0 most (j+1) U2 S2)\/∃S2,Hz U S=.rt .non S2/\Ex S0 S2:=by
 obtain⟨⟨x6,x7,rfl⟩,ha,hf,hl,hg,ex⟩:=h;have hx:=Af hj;generalize hxx:(bq ps us s0 j)[j]=x at hx;have g:Gd ps x:=Gqr C g0' ((Gjk j hg).re x (Ao hx));have gj:DL.getD (.lst S0.length) (.int (j:Int)) S=.ok (stE x) S:=Jx ha (Hc (by omega) (by rw[AK,Ar,hx];rfl));obtain⟨S1,e1,q1,x1⟩:=Gqs (S:=S) C g;have la:S0.length<S.length:=(Aa.mp ha).1;have lf:S0.length+1<S.length:=(Aa.mp hf).1;have sr:=Zz q1;simp only[Ai]at sr;have ec:cl 2 (Gh Kh) (ac XH (ac (o2 DL.getD XJ X0) an)) (rw' ps us s0 most S0.length (S0.length+1) j x6 x7) S=.ok (.lst S.length) S1:=by
  unfold rw';generalize stE x=sx at *;generalize stE s0=sd0 at *;generalize cD ps us=cd at *;simp[gj,e1]
 have f3:(sfor (isrc (cl 2 (Gh Kh) (ac XH (ac (o2 DL.getD XJ X0) an)))) g2m Hn) (rw' ps us s0 most S0.length (S0.length+1) j x6 x7) S=Jd (Uk S.length (yesL ps us x).length).nxt g2m Hn ((yesL ps us x).length+1) 0 (rw' ps us s0 most S0.length (S0.length+1) j x6 x7) S1:=by
  rw[Ki,Uc,ec,Gm,sr,Ha];rfl
 rcases Hdo (s0:=s0) (n:=j) (x6:=x6) (x7:=x7) C g (x1.at ha) (x1.at hf) q1 (by omega) (by omega) (by omega) hl hm with⟨S2,y6,y7,e2,a2,f2,l2,k2⟩|⟨S2,e2,k2⟩
 ·left;rw[<- Ghw hx]at a2 f2 l2;refine⟨rw' ps us s0 most S0.length (S0.length+1) (j+1) y6 y7,S2,?_,⟨y6,y7,rfl⟩,a2,f2,l2,fun i hi=>?_,K2.ex (ex.trans x1) k2 (Ac _) (by omega)⟩
  ·unfold Hz;rw[Gc1 (f3.trans e2)];have:((j+1:Nat):Int)=(j:Int)+1:=by push_cast;rfl
   unfold rw';rw[this];generalize stE s0=sd0 at *;generalize cD ps us=cd at *;simp
  ·by_cases c:i<j
   ·exact hg i c
   ·rw[show i=j by omega];exact hj
 ·right;refine⟨S2,?_,K2.ex (ex.trans x1) k2 (Ac _) (by omega)⟩;unfold Hz;rw[Hde (f3.trans e2)]
def Gv8(C:Cn ps us)(g0':Gd ps s0){most:Nat}(hm:most<10000):∀(fuel j:Nat)(U:Lc)(S:Sto),IW S0 ps us s0 most j U S->most<fuel+j→
  (∃m U' S',Dn ps us s0 m/\m<=most/\whN Jq Hz fuel U S=.nx U' S'/\IW S0 ps us s0 most m U' S')\/∃S',whN Jq Hz fuel U S=.rt .non S'/\Ex S0 S'
 |0,j,U,S,h,hf=>by
  have:=(Gjk j h.2.2.2.2.1).le;have:=h.2.2.2.1;omega
 |fuel+1,j,U,S,h,hf=>by
  have et:=Guv h;have le:=(Gjk j h.2.2.2.2.1).le;by_cases c:j<(bq ps us s0 j).length
  ·rw[decide_eq_true c]at et;rcases Guw C g0' h c hm with⟨U2,S2,e1,h2⟩|⟨S2,e1,h2⟩
   ·have ew:whN Jq Hz (fuel+1) U S=whN Jq Hz fuel U2 S2:=by
     rw[whN,et];simp only[bindS,if_true,e1]
    rw[ew];exact Gv8 C g0' hm fuel (j+1) U2 S2 h2 (by omega)
   ·right;exact⟨S2,by rw[whN,et];simp only[bindS,if_true,e1],h2⟩
  ·rw[decide_eq_false c]at et;left;refine⟨j,U,S,⟨by omega,h.2.2.2.2.1⟩,Ak le h.2.2.2.1,by rw[whN,et];simp only[bindS,AE,if_false],h⟩
def Gmd(C:Cn ps us)(g0':Gd ps s0){most:Nat}(h1:1<=most)(hm:most<2000):(∃m S',Dn ps us s0 m/\m<=most/\Hx [cD ps us,stE s0,.int most] S=.ok (.lst S.length) S'/\S'[S.length]?=some ⟨false,(bq ps us s0 m).map stE⟩/\Ex S S')\/∃S',Hx [cD ps us,stE s0,.int most] S=.ok .non S'/\Ex S S':=by
 have q1:(S++[⟨false,[stE s0]⟩])[S.length]?=some ⟨false,[stE s0]⟩:=Gu;have l1:(S++[(⟨false,[stE s0]⟩:Cell)]).length=S.length+1:=by simp
 have x1:Ex S (S++[⟨false,[stE s0]⟩]):=Ex.app;have s1:sa QH (gn 3) [some (cD ps us),some (stE s0),some (.int most),none,none,none,none,none] S=.nx [some (cD ps us),some (stE s0),some (.int most),some (.lst S.length),none,none,none,none] (S++[⟨false,[stE s0]⟩]):=by
  generalize stE s0=sd0 at *;generalize cD ps us=cd at *;simp
 generalize S++[(⟨false,[stE s0]⟩:Cell)]=S1 at *;have q2:(S1++[⟨false,[]⟩])[S1.length]?=some ⟨false,[]⟩:=Gu;have ds:=Gqq (z:=.bl true) q2 (Gcl (s:=s0)) rfl (by simp);have lq:S1.length<(S1++[(⟨false,[]⟩:Cell)]).length:=by simp
 have s2:sa (Gfu XI X8) (gn 4) [some (cD ps us),some (stE s0),some (.int most),some (.lst S.length),none,none,none,none] S1=.nx [some (cD ps us),some (stE s0),some (.int most),some (.lst S.length),some (.dct S1.length),none,none,none] ((S1++[(⟨false,[]⟩:Cell)]).set S1.length ⟨false,[]++[.tup [stE s0,.bl true]]⟩):=by
  generalize (S1++[(⟨false,[]⟩:Cell)]).set S1.length ⟨false,[]++[.tup [stE s0,.bl true]]⟩=SS at *;generalize stE s0=sd0 at *;generalize cD ps us=cd at *;simp[Gfu,ds]
 have q3:((S1++[(⟨false,[]⟩:Cell)]).set S1.length ⟨false,[]++[.tup [stE s0,.bl true]]⟩)[S1.length]?=some ⟨false,[sdP s0]⟩:=As lq;have x3:Ex S1 ((S1++[(⟨false,[]⟩:Cell)]).set S1.length ⟨false,[]++[.tup [stE s0,.bl true]]⟩):=Ex.app.setq (Ac _);generalize (S1++[(⟨false,[]⟩:Cell)]).set S1.length ⟨false,[]++[.tup [stE s0,.bl true]]⟩=S2 at *;rw[l1]at q3 s2;have I0:IW S ps us s0 most 0 (rw' ps us s0 most S.length (S.length+1) 0 none none) S2:=⟨⟨none,none,rfl⟩,x3.at q1,q3,h1,fun i hi=>absurd hi (Nat.not_lt_zero _),x1.trans x3⟩
 have s3:sa XC (gn 5) [some (cD ps us),some (stE s0),some (.int most),some (.lst S.length),some (.dct (S.length+1)),none,none,none] S2=.nx (rw' ps us s0 most S.length (S.length+1) 0 none none) S2:=by simp
 have pre:∀X:Sv,fin ((sq (sa QH (gn 3)) (sq (sa (Gfu XI X8) (gn 4)) (sq (sa XC (gn 5)) X))) [some (cD ps us),some (stE s0),some (.int most),none,none,none,none,none] S)=fin (X (rw' ps us s0 most S.length (S.length+1) 0 none none) S2):=fun X=>(Gi s1).trans ((Gi s2).trans (Gi s3));rcases Gv8 C g0' (show most<10000 by omega) 3000 0 _ S2 I0 (by omega)with⟨m,U',S',d,hm',ew,hI⟩|⟨S',ew,ex⟩
 ·left;obtain⟨⟨x6,x7,rfl⟩,ha,_,_,_,ex⟩:=hI;refine⟨m,S',d,hm',?_,ha,ex⟩;unfold Hx;rw[Gs];simp only[Yi];refine(pre _).trans ((Gi ew).trans ?_);simp
 ·right;refine⟨S',?_,ex⟩;unfold Hx;rw[Gs];simp only[Yi];refine(pre _).trans ((Hq ew).trans ?_);rfl
end
def nf0(d:D):Prop:=(∀s,d≠.fv s)/\∀i,d≠.dct i
def nf1(d:D):Prop:=nf0 d/\∀l,d=.tup l->∀x∈l,nf0 x
def nf2(d:D):Prop:=nf0 d/\∀l,d=.tup l->∀x∈l,nf1 x
def Gqt(hx:nf0 x):Qn [x] S=.ok (.bl (isInt x)) S:=by
 cases x<;>first|exact absurd rfl (hx.1 _)|exact absurd rfl (hx.2 _)|simp[Qn,fnB,Ga2,isD,isT,tyN,isInt]
def Gjl(hx:nf0 x):Kv [x,.int m] S=.ok (.bl (Gch m x)) S:=by
 cases x with
 |tup l=>
  by_cases h:l.length=m
  ·simp[Kv,fnB,Vw,isD,isT,tyN,Gch,h]
  ·have h':¬(l.length:Int)=m:=by omega
   simp[Kv,fnB,Vw,isD,isT,tyN,Gch,h,h']
 |fv _=>exact absurd rfl (hx.1 _)
 |dct _=>exact absurd rfl (hx.2 _)
 |_=>simp[Kv,fnB,Vw,isD,isT,tyN,Gch]
noncomputable def nnI:D->Bool
 |.int i=>decide (0<=i)
 |_=>false
def cnt(m:Nat):D->Bool
 |.tup l=>l.length==m&&l.all nnI
 |_=>false
def Gnj(hx:nf1 x)(hm:m<1000):∃S',Kb [x,.int m] S=.ok (.bl (cnt m x)) S'/\Ex S S':=by
 have tw:=fun S=>Gjl (x:=x) (m:=m) (S:=S) hx.1;by_cases c:Gch m x=true
 ·cases x with
  |tup l=>
   have hl:l.length=m:=by simpa[Gch]using c
   obtain⟨S',e1,e2⟩:=Geg (l:=l) (pk:=[none]) (e:=va (cl 1 (Gh Qn) (ac XH an)) YT) (U:=[some (.tup l),some (.int m)]) (f:=vr 0) (S:=S) [] nnI (by simp) rfl (by omega) fun d hd S' _=>by
    refine⟨S',?_,.refl⟩;have w:=fun S=>Gqt (x:=d) (S:=S) (hx.2 l rfl d hd);cases d<;>simp[w,isInt,nnI]
   refine⟨S',?_,e2⟩;refine(Gs (m:=2) (b:=Ky)).trans ?_;show fin (Ky [some (.tup l),some (.int m)] S)=_;unfold Ky;have e1':b1 Yu (ac (cmp (isrc XH) [none] (gn 0) ttrue (va (cl 1 (Gh Qn) (ac XH an)) YT)) an) [some (.tup l),some (.int m)] S=.ok (.bl (l.all nnI)) S':=by
    rw[Gcz,Vf,<- e1];cases z:cmp (isrc XH) [none] (gn 0) ttrue (va (cl 1 (Gh Qn) (ac XH an)) YT) [some (.tup l),some (.int m)] S with
    |ok d S1=>simp
    |exc x S1=>rfl
    |bad=>rfl
   have hc:cnt m (.tup l)=l.all nnI:=by simp[cnt,hl]
   rw[Yj,Gvy,hc];simp only[Hc6,Gpv,Vf,Gbw,Zy,Gm,AS,AO,Bi,List.length_nil,Nat.reduceAdd,if_true,tw,c,e1',Ha,Gz0]
  |_=>cases c
 ·have c:Gch m x=false:=by simpa using c
  have hc:cnt m x=false:=by
   cases x with
   |tup l=>
    have:¬l.length=m:=by simpa[Gch]using c
    simp[cnt,this]
   |_=>rfl
  refine⟨S,?_,.refl⟩;rw[hc];simp[Kb,fnB,Ky,tw,c]
noncomputable def Gc2(l:List D):List D:=l.mapIdx fun k d=>.tup [.int k,d]
noncomputable def Gnk(l:List D):Src:=⟨fun k _=>(l[k]?).map fun d=>.tup [.int k,d],l.length+1⟩
def Gjm{f:Ev (List D)}(h:f U S=.ok [.tup l] S'):ienumerate f U S=.ok (Gnk l) S':=by
 unfold ienumerate;rw[h];rfl
def Gjn:(Gnk l).nxt k S=(Gc2 l)[k]?:=by
 show(l[k]?).map (fun d=>D.tup [.int k,d])=_;unfold Gc2;rw[List.getElem?_mapIdx]
def Xt{l:List D}:(Gc2 l).length=l.length:=by unfold Gc2;simp
def Gme{l:List D}(h:(Gc2 l)[k]?=some d):∃e,l[k]?=some e/\d=.tup [.int k,e]:=by
 unfold Gc2 at h;rw[List.getElem?_mapIdx]at h;cases z:l[k]? with
 |none=>rw[z]at h;cases h
 |some e=>rw[z]at h;cases h;exact⟨e,rfl,rfl⟩
def Gv9:D->Int
 |.int i=>i
 |_=>0
def Gmf:∀{l:List D},l.all nnI=true->∃L:List Int,l=L.map D.int/\∀i∈L,0<=i
 |[],_=>⟨[],rfl,fun i h=>by cases h⟩
 |d::l,h=>by
  rw[BB,Am]at h;obtain⟨L,e,hL⟩:=Gmf h.2;cases d with
  |int i=>
   have hi:0<=i:=by simpa[nnI]using h.1
   exact⟨i::L,by rw[e]; rfl,fun j hj=>by
    rcases Ad.mp hj with rfl|hj
    ·exact hi
    ·exact hL j hj⟩
  |_=>cases h.1
def gk(ps:List Pl)(L R F:List Int)(k:Nat):Bool:=match ps[k]?,L[k]?,R[k]?,F[k]? with
 |some p,some l,some r,some f=>decide (l<=wat p)&&hol p (r+f)
 |_,_,_,_=>true
def Vi:D->List Int
 |.tup l=>l.map Gv9
 |_=>[]
def Kq:Vi (.tup (L.map D.int))=L:=by
 show(L.map D.int).map Gv9=L;rw[Bz];exact List.map_id'' (fun _=>rfl) L
def Ym(h:cnt m d=true):∃L:List Int,d=.tup (L.map D.int)/\L.length=m/\∀i∈L,0<=i:=by
 cases d with
 |tup l=>
  have h:(l.length==m&&l.all nnI)=true:=h;rw[Am]at h;obtain⟨L,e,hL⟩:=Gmf h.2;refine⟨L,by rw[e],?_,hL⟩;have:l.length=m:=by simpa using h.1
  rw[e]at this;simpa using this
 |_=>cases h
def Vt(ps:List Pl):D->Bool
 |.tup [a,b,c]=>((cnt ps.length a&&cnt ps.length b)&&cnt ps.length c)&&((List.range ps.length).all (gk ps (Vi a) (Vi b) (Vi c))&&decide ((Vi b).sum+(Vi c).sum<=60))
 |_=>false
def Gjo{gd:D}(hx:nf2 x)(hp:∀p∈ps,p.ok)(hl:ps.length<=13):∃S',Kc [.tup [.tup (ps.map Pl.toD),gd],x] S=.ok (.bl (Vt ps x)) S'/\Ex S S':=by
 have tw:∀S,Kv [x,.int 3] S=.ok (.bl (Gch 3 x)) S:=fun S=>Gjl (x:=x) (m:=3) (S:=S) hx.1;have hf:∀X,Kc [.tup [.tup (ps.map Pl.toD),gd],x] S=X↔fin (Kw [some (.tup [.tup (ps.map Pl.toD),gd]),some x,none,none,none,none,none,none] S)=X:=fun X=>by rw[show Kc [.tup [.tup (ps.map Pl.toD),gd],x] S=fin (Kw [some (.tup [.tup (ps.map Pl.toD),gd]),some x,none,none,none,none,none,none] S)from Gs (m:=8) (b:=Kw)]
 have e0:sa YI (gn 2) [some (.tup [.tup (ps.map Pl.toD),gd]),some x,none,none,none,none,none,none] S=.nx [some (.tup [.tup (ps.map Pl.toD),gd]),some x,some (.tup (ps.map Pl.toD)),none,none,none,none,none] S:=by simp[p0e]
 by_cases c3:Gch 3 x=true
 ·cases x with
  |tup l=>
   have hl3:l.length=3:=by simpa[Gch]using c3
   obtain⟨a,b,c,rfl⟩:∃a b c,l=[a,b,c]:=by
    match l,hl3 with
    |[a,b,c],_=>exact⟨a,b,c,rfl⟩
   obtain⟨S1,ec,x1⟩:=Geg (l:=[a,b,c]) (pk:=[none,some 2]) (e:=cl 2 (Gh Kb) (ac XH (ac (b1 Hb (ac XI an)) an))) (U:=[some (.tup [.tup (ps.map Pl.toD),gd]),some (.tup [a,b,c]),some (.tup (ps.map Pl.toD)),none,none,none,none,none]) (f:=vr 1) (S:=S) [some (.tup (ps.map Pl.toD))] (cnt ps.length) (by simp) rfl (by simp) fun d hd S' _=>by
    obtain⟨S'',q1,q2⟩:=Gnj (x:=d) (m:=ps.length) (S:=S') (hx.2 _ rfl d hd) (by omega);exact⟨S'',by simp[q1],q2⟩
   have ec':b1 Yu (ac (cmp ZV [none,some 2] (gn 0) ttrue (cl 2 (Gh Kb) (ac XH (ac (b1 Hb (ac XI an)) an)))) an) [some (.tup [.tup (ps.map Pl.toD),gd]),some (.tup [a,b,c]),some (.tup (ps.map Pl.toD)),none,none,none,none,none] S=.ok (.bl ([a,b,c].all (cnt ps.length))) S1:=by
    rw[Gcz,Vf,<- ec];cases z:cmp ZV [none,some 2] (gn 0) ttrue (cl 2 (Gh Kb) (ac XH (ac (b1 Hb (ac XI an)) an))) [some (.tup [.tup (ps.map Pl.toD),gd]),some (.tup [a,b,c]),some (.tup (ps.map Pl.toD)),none,none,none,none,none] S with
    |ok d S1=>simp
    |exc x S1=>rfl
    |bad=>rfl
   have hall:[a,b,c].all (cnt ps.length)=((cnt ps.length a&&cnt ps.length b)&&cnt ps.length c):=by simp[Bool.and_assoc]
   by_cases cc:((cnt ps.length a&&cnt ps.length b)&&cnt ps.length c)=true
   ·have cc':=cc;rw[Am,Am]at cc';obtain⟨L,rfl,lL,nL⟩:=Ym cc'.1.1;obtain⟨R,rfl,lR,nR⟩:=Ym cc'.1.2;obtain⟨F,rfl,lF,nF⟩:=Ym cc'.2;have hst:Vt ps (.tup [.tup (L.map D.int),.tup (R.map D.int),.tup (F.map D.int)])=((List.range ps.length).all (gk ps L R F)&&decide (R.sum+F.sum<=60)):=by
     simp only[Vt,Kq,cc,AJ]
    have chk:=Ghk (nxt:=(Gnk (ps.map Pl.toD)).nxt) (g:=gt (gcons (gn 6) (gcons (gn 7) gnil)) 2) (b:=Qe) (l:=Gc2 (ps.map Pl.toD)) (fun k _=>gk ps L R F k)
     (fun k U S'=>S'=S1/\∃g6 g7,U=[some (.tup [.tup (ps.map Pl.toD),gd]),some (.tup [.tup (L.map D.int),.tup (R.map D.int),.tup (F.map D.int)]),some (.tup (ps.map Pl.toD)),some (.tup (L.map D.int)),some (.tup (R.map D.int)),some (.tup (F.map D.int)),g6,g7])
     (fun k _ _ _=>Gjn) (fun k d U S' hd ⟨hS,g6,g7,h1⟩=>by
      subst h1 hS;obtain⟨e,he,rfl⟩:=Gme hd;rw[Ar]at he;cases hpk:ps[k]? with
      |none=>rw[hpk]at he;cases he
      |some p=>
       rw[hpk]at he;cases (Ab he);have hk:k<ps.length:=(Aa.mp hpk).1;have hL:L[k]?=some L[k]:=Af (by omega);have hR:R[k]?=some R[k]:=Af (by omega);have hF:F[k]?=some F[k]:=Af (by omega);have ok:=hp p (Ao hpk);have g1:=Kk (S:=S') hL;have g2:=Kk (S:=S') hR;have g3:=Kk (S:=S') hF;have w:=Gjd (S:=S') ok;have ho:=Gjf (S:=S') (b:=R[k]+F[k]) ok;have hg:gk ps L R F k=(decide (L[k]<=wat p)&&hol p (R[k]+F[k])):=by simp only[gk,hpk,hL,hR,hF]
       refine⟨_,rfl,?_⟩;by_cases q1:L[k]<=wat p
       ·have q1':¬wat p<L[k]:=by omega
        by_cases q2:hol p (R[k]+F[k])=true
        ·exact .inl ⟨by rw[hg];simp[q1,q2],[some (.tup [.tup (ps.map Pl.toD),gd]),some (.tup [.tup (L.map D.int),.tup (R.map D.int),.tup (F.map D.int)]),some (.tup (ps.map Pl.toD)),some (.tup (L.map D.int)),some (.tup (R.map D.int)),some (.tup (F.map D.int)),some (.int k),some p.toD],by simp[Qe,g1,w,q1',g2,g3,ho,q2,Kt],rfl,_,_,rfl⟩
        ·have q2:hol p (R[k]+F[k])=false:=by simpa using q2
         exact .inr ⟨by rw[hg];simp[q1,q2],by simp[Qe,g1,w,q1',g2,g3,ho,q2,Kt]⟩
       ·have q1':wat p<L[k]:=by omega
        exact .inr ⟨by rw[hg]; simp[q1],by simp[Qe,g1,w,q1']⟩) (Gnk (ps.map Pl.toD)).fuel 0 [some (.tup [.tup (ps.map Pl.toD),gd]),some (.tup [.tup (L.map D.int),.tup (R.map D.int),.tup (F.map D.int)]),some (.tup (ps.map Pl.toD)),some (.tup (L.map D.int)),some (.tup (R.map D.int)),some (.tup (F.map D.int)),none,none] S1 (At _) ⟨rfl,none,none,rfl⟩ (by rw[Xt]; exact AM _)
    have es:=Gjm (f:=ac XM an) (U:=[some (.tup [.tup (ps.map Pl.toD),gd]),some (.tup [.tup (L.map D.int),.tup (R.map D.int),.tup (F.map D.int)]),some (.tup (ps.map Pl.toD)),some (.tup (L.map D.int)),some (.tup (R.map D.int)),some (.tup (F.map D.int)),none,none]) (S:=S1) (S':=S1) (l:=ps.map Pl.toD) (by simp);refine⟨S1,(hf _).mpr ?_,x1⟩;rw[hst];unfold Kw;rw[Gi e0];refine(Gi (U':=[some (.tup [.tup (ps.map Pl.toD),gd]),some (.tup [.tup (L.map D.int),.tup (R.map D.int),.tup (F.map D.int)]),some (.tup (ps.map Pl.toD)),none,none,none,none,none]) (S':=S) (by simp[tw,c3,Kt])).trans ?_;refine(Gi (U':=[some (.tup [.tup (ps.map Pl.toD),gd]),some (.tup [.tup (L.map D.int),.tup (R.map D.int),.tup (F.map D.int)]),some (.tup (ps.map Pl.toD)),none,none,none,none,none]) (S':=S1) (by rw[Gef,Gja,Gi9,ec',hall,cc];rfl)).trans ?_;refine(Gi (U':=[some (.tup [.tup (ps.map Pl.toD),gd]),some (.tup [.tup (L.map D.int),.tup (R.map D.int),.tup (F.map D.int)]),some (.tup (ps.map Pl.toD)),some (.tup (L.map D.int)),some (.tup (R.map D.int)),some (.tup (F.map D.int)),none,none]) (S':=S1) (by simp[gt,gcons,gnil])).trans ?_;rcases chk with⟨good,U',ef,_,g6,g7,hU⟩|⟨⟨j,d,_,hd,hg⟩,ef⟩
    ·have hgk:(List.range ps.length).all (gk ps L R F)=true:=by
      rw[AF];intro k hk;have hk:k<ps.length:=AQ.mp hk;exact good k _ (At _) (Af (by rw[Xt];simpa using hk))
     rw[hgk,AJ];refine(Gi (U':=U') (S':=S1) (by rw[Ki,es];exact ef)).trans ?_;rw[hU];simp[c_MOST_BARGES]
    ·have hgk:(List.range ps.length).all (gk ps L R F)=false:=by
      rw[BC];have hj:j<ps.length:=by have:=(Aa.mp hd).1;rw[Xt]at this;simpa using this
      exact⟨j,AQ.mpr hj,by simpa using hg⟩
     rw[hgk,AN];exact Hq (by rw[Ki,es];exact ef)
   ·have cc:((cnt ps.length a&&cnt ps.length b)&&cnt ps.length c)=false:=by simpa using cc
    refine⟨S1,(hf _).mpr ?_,x1⟩;have hst:Vt ps (.tup [a,b,c])=false:=by
     show(((cnt ps.length a&&cnt ps.length b)&&cnt ps.length c)&&_)=false;rw[cc,AN]
    rw[hst];unfold Kw;rw[Gi e0];refine(Gi (U':=[some (.tup [.tup (ps.map Pl.toD),gd]),some (.tup [a,b,c]),some (.tup (ps.map Pl.toD)),none,none,none,none,none]) (S':=S) (by simp[tw,c3,Kt])).trans ?_;exact Hq (by rw[Gef,Gja,Gi9,ec',hall,cc];rfl)
  |_=>cases c3
 ·have c3:Gch 3 x=false:=by simpa using c3
  refine⟨S,(hf _).mpr ?_,.refl⟩;have hst:Vt ps x=false:=by
   cases x with
   |tup l=>
    have hl3:¬l.length=3:=by simpa[Gch]using c3
    unfold Vt;split
    ·rename_i e;cases e;exact absurd rfl hl3
    ·rfl
   |_=>rfl
  rw[hst];unfold Kw;rw[Gi e0];exact Hq (by simp[tw,c3,Kt])
def Hdp(h:k<M.length):Wp (.tup (M.map D.int)) none (some (k:Int)) S=.ok (.tup ((M.take k).map D.int)) S:=by
 have e2:HT.sIx (M.map D.int).length (M.map D.int).length (some (k:Int))=k:=by
  rw[HT.Vo,Ai];omega
 show(if HT.sIx (M.map D.int).length 0 none=0/\HT.sIx (M.map D.int).length (M.map D.int).length (some (k:Int))=(M.map D.int).length then Out.ok (D.tup (M.map D.int)) S else .ok (.tup (DL.Kl (M.map D.int) none (some (k:Int)))) S)=_;rw[if_neg (by rw[e2,Ai];omega)];unfold DL.Kl;rw[e2,HT.Qd,List.map_take];rfl
def Gux(h:1<=M.length):Wp (.tup (M.map D.int)) none (some (-1)) S=.ok (.tup ((M.take (M.length-1)).map D.int)) S:=by
 have e2:HT.sIx (M.map D.int).length (M.map D.int).length (some (-1))=M.length-1:=by
  show(if(-1:Int)<0 then((-1:Int)+((M.map D.int).length:Int)).toNat else min (-1:Int).toNat (M.map D.int).length)=_;rw[if_pos (by decide)];simp;omega
 show(if HT.sIx (M.map D.int).length 0 none=0/\HT.sIx (M.map D.int).length (M.map D.int).length (some (-1))=(M.map D.int).length then Out.ok (D.tup (M.map D.int)) S else .ok (.tup (DL.Kl (M.map D.int) none (some (-1)))) S)=_;rw[if_neg (by rw[e2,Ai];omega)];unfold DL.Kl;rw[e2,HT.Qd,List.map_take];rfl
def Gmg(h:1<=M.length):Wp (.tup (M.map D.int)) (some 1) none S=.ok (.tup ((M.drop 1).map D.int)) S:=by
 cases M with
 |nil=>simp at h
 |cons a M=>exact Gpz
def thr(R F:List Int):Bool:=decide ((R.take (R.length-1)).sum=0)&&decide ((F.drop 1).sum=0)
def Gk0{ps:List D}{gd:D}{R F:List Int}(h1:1<=ps.length)(lR:R.length=ps.length)(lF:F.length=ps.length):Vp [.tup [.tup ps,gd],stD L R F] S=.ok (.bl (thr R F)) S:=by
 obtain⟨k,hk⟩:∃k:Nat,ps.length=k+1:=⟨ps.length-1,by omega⟩
 have g0:DL.getD (.tup [.tup ps,gd]) (.int 0) S=.ok (.tup ps) S:=Hy rfl;have g1:DL.getD (stD L R F) (.int 1) S=.ok (.tup (R.map D.int)) S:=Hy rfl;have g2:DL.getD (stD L R F) (.int 2) S=.ok (.tup (F.map D.int)) S:=Hy rfl;have ln:Hb [.tup ps] S=.ok (.int ((k:Int)+1)) S:=by rw[Hdc,hk];rfl
 have s1:Wp (.tup (R.map D.int)) none (some (k:Int)) S=.ok (.tup ((R.take k).map D.int)) S:=Hdp (by omega);have s2:Wp (.tup (F.map D.int)) (some 1) none S=.ok (.tup ((F.drop 1).map D.int)) S:=Gmg (by omega);have hR:R.length-1=k:=by omega
 unfold thr;rw[hR];refine(Gs (m:=5) (b:=Qw)).trans ?_;show fin (Qw [some (.tup [.tup ps,gd]),some (stD L R F),none,none,none] S)=_;unfold Qw;refine(Gi (U':=[some (.tup [.tup ps,gd]),some (stD L R F),some (.int k),none,none]) (S':=S) (by
  simp only[Ub,Ua,Gcz,Vf,Gbw,Zy,Gaq,AS,AO,Gm,g0,ln,Gku,Ha,Hda];rw[show(k:Int)+1-1=k by omega];rfl)).trans ?_
 refine(Gi (U':=[some (.tup [.tup ps,gd]),some (stD L R F),some (.int k),some (.tup (R.map D.int)),some (.tup (F.map D.int))]) (S':=S) (by
  unfold spar;simp only[Ua,Vf,Gbw,Zy,Gaq,AS,AO,Gm,g1,g2,Ha];rfl)).trans ?_
 have v1:o2 eqD (b1 Gaw (ac (sl2 XJ onone QJ) an)) XC [some (.tup [.tup ps,gd]),some (stD L R F),some (.int k),some (.tup (R.map D.int)),some (.tup (F.map D.int))] S=.ok (.bl (decide ((R.take k).sum=0))) S:=by
  simp only[Ua,Gcz,Vf,Gbw,Gpx,Gjc,Gjb,Zy,Gaq,AS,AO,Gm,s1,Gv2,Gv1]
 have v2:o2 eqD (b1 Gaw (ac (sl2 XR ZB onone) an)) XC [some (.tup [.tup ps,gd]),some (stD L R F),some (.int k),some (.tup (R.map D.int)),some (.tup (F.map D.int))] S=.ok (.bl (decide ((F.drop 1).sum=0))) S:=by
  simp only[Ua,Gcz,Vf,Gbw,Gpx,Gjc,Gjb,Zy,Gaq,AS,AO,Gm,s2,Gv2,Gv1]
 rw[Yj,Gvy,v1,Gm];cases z:decide ((R.take k).sum=0)with
 |false=>rfl
 |true=>simp only[v2,Ha,AJ];rfl
def Geo{nxt:Nat->Sto->BQ D}{g:Tg}{b:Sv}{l:List D}(gd:D->Bool)(I:Nat->Lc->Sto->Prop)(J:Sto->Prop)(hn:∀k U S,I k U S->nxt k S=l[k]?)
  (hs:∀k d U S,l[k]?=some d->I k U S->∃U1,g d U=some U1/\((gd d=true/\∃U2 S2,b U1 S=.nx U2 S2/\I (k+1) U2 S2)\/(gd d=false/\∃S2,b U1 S=.rt (.bl false) S2/\J S2))):
  ∀(n k:Nat)(U:Lc)(S:Sto),k<=l.length->I k U S->l.length<n+k→
   ((l.drop k).all gd=true/\∃U' S',Jd nxt g b n k U S=.nx U' S'/\I l.length U' S')\/((l.drop k).all gd=false/\∃S',Jd nxt g b n k U S=.rt (.bl false) S'/\J S')
 |0,k,U,S,h1,_,h2=>by omega
 |n+1,k,U,S,h1,hI,h2=>by
  unfold Jd;rw[hn k U S hI];cases z:l[k]? with
  |none=>
   have:k=l.length:=by have:=AV.mp z;omega
   subst this;exact .inl ⟨by simp,U,S,rfl,hI⟩
  |some d=>
   have hk:k<l.length:=(Aa.mp z).1;have ed:l.drop k=d::l.drop (k+1):=by
    rw[List.drop_eq_getElem_cons hk];congr 1;exact Ab ((Af hk).symm.trans z)
   rw[ed,BB];obtain⟨U1,e1,h⟩:=hs k d U S z hI;rcases h with⟨hg,U2,S2,e2,hI2⟩|⟨hg,S2,e2,hJ⟩
   ·simp only[e1,e2,hg,AJ];exact Geo gd I J hn hs n (k+1) U2 S2 hk hI2 (by omega)
   ·simp only[e1,e2,hg,AN];exact .inr ⟨trivial,S2,rfl,hJ⟩
def Gnl(hx:nf0 x):Kg [x] S=.ok (.bl (isInt x)) S:=by
 cases x<;>first|exact absurd rfl (hx.1 _)|exact absurd rfl (hx.2 _)|simp[Kg,fnB,Yh,isD,isT,tyN,isInt,Kt]
section
variable{ps:List Pl}{us:List Bool}{S:Sto}
noncomputable abbrev rL(c x:D)(x2 x3 x4 x5:BQ D):Lc:=[some c,some x,x2,x3,x4,x5]
def lrow{lp:List D}(hx:nf1 r)(hc:∀S,DL.getD c (.int 0) S=.ok (.tup lp) S)(hm:lp.length<1000):
  (cnt lp.length r=true/\∃S',Hd (rL c x (some r) x3 x4 x5) S=.nx (rL c x (some r) x3 x4 x5) S'/\Ex S S')\/(cnt lp.length r=false/\∃S',Hd (rL c x (some r) x3 x4 x5) S=.rt (.bl false) S'/\Ex S S'):=by
 cases r with
 |tup l=>
  by_cases hl:l.length=lp.length
  ·obtain⟨S',e1,x1⟩:=Geg (l:=l) (pk:=[none]) (e:=va (cl 1 (Gh Kg) (ac XH an)) YT) (U:=rL c x (some (.tup l)) x3 x4 x5) (f:=vr 2) (S:=S) [] nnI (by simp) rfl (by omega) fun d hd S' _=>by
    refine⟨S',?_,.refl⟩;have w:=fun S=>Gnl (x:=d) (S:=S) (hx.2 l rfl d hd);cases d<;>simp[w,isInt,nnI]
   have e1':b1 Yu (ac (cmp YY [none] (gn 0) ttrue (va (cl 1 (Gh Kg) (ac XH an)) YT)) an) (rL c x (some (.tup l)) x3 x4 x5) S=.ok (.bl (l.all nnI)) S':=by
    rw[Gcz,Vf,<- e1];cases z:cmp YY [none] (gn 0) ttrue (va (cl 1 (Gh Kg) (ac XH an)) YT) (rL c x (some (.tup l)) x3 x4 x5) S with
    |ok d S1=>simp
    |exc x S1=>rfl
    |bad=>rfl
   have hcn:cnt lp.length (.tup l)=l.all nnI:=by simp[cnt,hl]
   have p1:(sif (to ZY (tb (o2 neD (b1 Hb (ac XM an)) (b1 Hb (ac YI an))))) (sret XS) DL.skip) (rL c x (some (.tup l)) x3 x4 x5) S=.nx (rL c x (some (.tup l)) x3 x4 x5) S:=by
    simp[isD,isT,tyN,Kt,hc,hl]
   unfold Hd;rw[Gc1 p1,hcn,Gef,Gja,Gi9,e1'];cases l.all nnI with
   |true=>exact .inl ⟨rfl,S',rfl,x1⟩
   |false=>exact .inr ⟨rfl,S',rfl,x1⟩
  ·have hl':¬(l.length:Int)=lp.length:=by omega
   refine .inr ⟨by simp[cnt,hl],S,?_,.refl⟩;simp[Hd,isD,isT,tyN,Kt,hc,hl']
 |fv s=>exact absurd rfl (hx.1.1 s)
 |dct s=>exact absurd rfl (hx.1.2 s)
 |_=>exact .inr ⟨rfl,S,by simp[Hd,isD,isT,tyN,Kt],.refl⟩
def lstep{R F:List Int}{f:Int}(ok:p.ok)(hL:L[k]?=some l)(hR:R[k]?=some r)(hF:F[k]?=some f)(hl:0<=l):
  ((decide (l<=wat p)&&hol p (r+f))=true/\Gw (rL c (stD L R F) x2 (some (.int k)) (some p.toD) x5) S=.nx (rL c (stD L R F) x2 (some (.int k)) (some p.toD) (some (.int (r+f)))) S)∨
  ((decide (l<=wat p)&&hol p (r+f))=false/\Gw (rL c (stD L R F) x2 (some (.int k)) (some p.toD) x5) S=.rt (.bl false) S):=by
 have a0:∀S,DL.getD (stD L R F) (.int 0) S=.ok (.tup (L.map D.int)) S:=fun S=>p0e;have a1:∀S,DL.getD (stD L R F) (.int 1) S=.ok (.tup (R.map D.int)) S:=fun S=>p1e;have a2:∀S,DL.getD (stD L R F) (.int 2) S=.ok (.tup (F.map D.int)) S:=fun S=>Hy (Hc (by decide) rfl);have b0:=fun S=>Kk (S:=S) hL;have b1':=fun S=>Kk (S:=S) hR;have b2:=fun S=>Kk (S:=S) hF;cases p with
 |e=>
  have g:∀S,DL.getD (Pl.toD .e) (.int 0) S=.ok (.str "end") S:=fun S=>p0e;by_cases q:l<=0
  ·have q':¬0<l:=by omega
   exact .inl ⟨by simp[wat,hol,q],by simp[Gw,a0,a1,a2,b0,b1',b2,g,s7,s1,s2,q']⟩
  ·have q':0<l:=by omega
   exact .inr ⟨by simp[wat,q],by simp[Gw,a0,a1,a2,b0,b1',b2,g,s7,q']⟩
 |c=>
  have g:∀S,DL.getD (Pl.toD .c) (.int 0) S=.ok (.str "chamber") S:=fun S=>p0e;by_cases q:l<=1
  ·have q':¬1<l:=by omega
   by_cases q2:r+f<=1
   ·have q2':¬1<r+f:=by omega
    exact .inl ⟨by simp[wat,hol,q,q2],by simp[Gw,a0,a1,a2,b0,b1',b2,g,s8,s3,s4,q',q2']⟩
   ·have q2':1<r+f:=by omega
    exact .inr ⟨by simp[wat,hol,q,q2],by simp[Gw,a0,a1,a2,b0,b1',b2,g,s8,s3,q',q2']⟩
  ·have q':1<l:=by omega
   exact .inr ⟨by simp[wat,q],by simp[Gw,a0,a1,a2,b0,b1',b2,g,s8,s3,q']⟩
 |p br de ro pr=>
  have g:∀S,DL.getD (Pl.toD (.p br de ro pr)) (.int 0) S=.ok (.str "pound") S:=fun S=>p0e;have g1:∀S,DL.getD (Pl.toD (.p br de ro pr)) (.int 1) S=.ok (.int br) S:=fun S=>p1e;have g3':∀S,DL.getD (Pl.toD (.p br de ro pr)) (.int 3) S=.ok (.int ro) S:=fun S=>p3e;by_cases q:l<=br
  ·have q':¬br<l:=by omega
   by_cases q2:r+f<=ro
   ·have q2':¬ro<r+f:=by omega
    exact .inl ⟨by simp[wat,hol,q,q2],by simp[Gw,a0,a1,a2,b0,b1',b2,g,g1,g3',s9,s5,s6,q',q2']⟩
   ·have q2':ro<r+f:=by omega
    exact .inr ⟨by simp[wat,hol,q,q2],by simp[Gw,a0,a1,a2,b0,b1',b2,g,g1,g3',s9,s5,s6,q',q2']⟩
  ·have q':br<l:=by omega
   exact .inr ⟨by simp[wat,q],by simp[Gw,a0,a1,a2,b0,b1',b2,g,g1,s9,s5,s6,q']⟩
set_option tactic.hygienic true
def Hal(hx:nf2 x)(hp:∀p∈ps,p.ok)(hl:ps.length<=13):∃S',Jf [cD ps us,x] S=.ok (.bl (Vt ps x)) S'/\Ex S S':=by
 have hc:∀S,DL.getD (cD ps us) (.int 0) S=.ok (.tup (ps.map Pl.toD)) S:=fun S=>p0e;unfold Jf;rw[Gs];generalize cD ps us=cc at hc;show∃S',fin (Ql (rL cc x none none none none) S)=_/\_;unfold Ql;cases x with
 |fv s=>exact absurd rfl (hx.1.1 s)
 |dct s=>exact absurd rfl (hx.1.2 s)
 |tup l=>
  by_cases hl3:l.length=3
  ·obtain⟨a,b,c,rfl⟩:∃a b c,l=[a,b,c]:=by
    match l,hl3 with
    |[a,b,c],_=>exact⟨a,b,c,rfl⟩
   have p1:(sif (to (tn (tt (o1 (isD "tuple") (vr 1)))) (tb (o2 neD (b1 Hb (ac (vr 1) an)) (cn (.int 3))))) (sret (cn (.bl false))) DL.skip) (rL cc (.tup [a,b,c]) none none none none) S=.nx (rL cc (.tup [a,b,c]) none none none none) S:=by
    simp[isD,isT,tyN,Kt]
   have ln:(ps.map Pl.toD).length=ps.length:=Ai ..;have sf:sfor (isrc (vr 1)) (gn 2) Hd (rL cc (.tup [a,b,c]) none none none none) S=Jd (Ghe [a,b,c]).nxt (gn 2) Hd (Ghe [a,b,c]).fuel 0 (rL cc (.tup [a,b,c]) none none none none) S:=by
    rw[Ki,Uc];simp[Hdd]
   have chk:=Geo (nxt:=(Ghe [a,b,c]).nxt) (g:=gn 2) (b:=Hd) (l:=[a,b,c]) (cnt ps.length) (fun _ U S'=>Ex S S'/\∃ x2,U=rL cc (.tup [a,b,c]) x2 none none none) (fun S'=>Ex S S') (fun _ _ _ _=>rfl) (fun k d U S' hd ⟨hS,x2,h1⟩=>by
    subst h1;refine⟨rL cc (.tup [a,b,c]) (some d) none none none,rfl,?_⟩;have:=lrow (x:=.tup [a,b,c]) (x3:=none) (x4:=none) (x5:=none) (S:=S') (hx.2 _ rfl d (Ao hd)) hc (by rw[ln];omega);rw[ln]at this;rcases this with⟨h1,S2,h2,h3⟩|⟨h1,S2,h2,h3⟩
    ·exact .inl ⟨h1,_,S2,h2,hS.trans h3,_,rfl⟩
    ·exact .inr ⟨h1,S2,h2,hS.trans h3⟩) (Ghe [a,b,c]).fuel 0 _ S (At _) ⟨.refl,none,rfl⟩ Gv4
   rw[BD]at chk;have hall:[a,b,c].all (cnt ps.length)=((cnt ps.length a&&cnt ps.length b)&&cnt ps.length c):=by simp[Bool.and_assoc]
   rw[hall]at chk;rcases chk with⟨cc',U',S1,ef,x1,x2,rfl⟩|⟨cc',S1,ef,x1⟩
   ·have cc2:=cc';rw[Am,Am]at cc2;obtain⟨L,rfl,lL,nL⟩:=Ym cc2.1.1;obtain⟨R,rfl,lR,nR⟩:=Ym cc2.1.2;obtain⟨F,rfl,lF,nF⟩:=Ym cc2.2;have hst:Vt ps (.tup [.tup (L.map D.int),.tup (R.map D.int),.tup (F.map D.int)])=((List.range ps.length).all (gk ps L R F)&&decide (R.sum+F.sum<=60)):=by
     simp only[Vt,Kq,cc',AJ]
    rw[hst];have chk:=Ghk (nxt:=(Gnk (ps.map Pl.toD)).nxt) (g:=gt (gcons (gn 3) (gcons (gn 4) gnil)) 2) (b:=Gw) (l:=Gc2 (ps.map Pl.toD)) (fun k _=>gk ps L R F k)
     (fun k U S'=>S'=S1/\∃x3 x4 x5,U=rL cc (stD L R F) x2 x3 x4 x5)
     (fun k _ _ _=>Gjn) (fun k d U S' hd ⟨hS,x3,x4,x5,h1⟩=>by
      subst h1 hS;obtain⟨e,he,rfl⟩:=Gme hd;rw[Ar]at he;cases hpk:ps[k]? with
      |none=>rw[hpk]at he;cases he
      |some p=>
       rw[hpk]at he;cases (Ab he);have hk:k<ps.length:=(Aa.mp hpk).1;have hL:L[k]?=some L[k]:=Af (by omega);have hR:R[k]?=some R[k]:=Af (by omega);have hF:F[k]?=some F[k]:=Af (by omega);have hg:gk ps L R F k=(decide (L[k]<=wat p)&&hol p (R[k]+F[k])):=by simp only[gk,hpk,hL,hR,hF]
       rw[hg];refine⟨rL cc (stD L R F) x2 (some (.int k)) (some p.toD) x5,rfl,?_⟩;rcases lstep (c:=cc) (x2:=x2) (x5:=x5) (S:=S') (hp p (Ao hpk)) hL hR hF (nL _ (AY (by omega)))with⟨h1,h2⟩|⟨h1,h2⟩
       ·exact .inl ⟨h1,_,h2,rfl,_,_,_,rfl⟩
       ·exact .inr ⟨h1,h2⟩) (Gnk (ps.map Pl.toD)).fuel 0 (rL cc (stD L R F) x2 none none none) S1 (At _) ⟨rfl,none,none,none,rfl⟩ (by rw[Xt]; exact AM _)
    have es:=Gjm (f:=ac (o2 DL.getD (vr 0) (cn (.int 0))) an) (U:=rL cc (stD L R F) x2 none none none) (S:=S1) (S':=S1) (l:=ps.map Pl.toD) (by simp[hc]);refine⟨S1,?_,x1⟩;refine(Gi p1).trans ((Gi (sf.trans ef)).trans ?_);rcases chk with⟨good,U',ef,_,x3,x4,x5,hU⟩|⟨⟨j,d,_,hd,hg⟩,ef⟩
    ·have hgk:(List.range ps.length).all (gk ps L R F)=true:=by
      rw[AF];intro k hk;have hk:k<ps.length:=AQ.mp hk;exact good k _ (At _) (Af (by rw[Xt];simpa using hk))
     rw[hgk,AJ];subst hU;refine(Gi (U':=rL cc (stD L R F) x2 x3 x4 x5) (S':=S1) (by rw[Ki];show bindS (ienumerate _ (rL cc (stD L R F) x2 none none none) S1) _ _=_;rw[es];exact ef)).trans ?_;have a1:DL.getD (stD L R F) (.int 1) S1=.ok (.tup (R.map D.int)) S1:=p1e;have a2:DL.getD (stD L R F) (.int 2) S1=.ok (.tup (F.map D.int)) S1:=Hy (Hc (by decide) rfl);generalize stD L R F=sd at *;simp[a1,a2,fin]
    ·have hgk:(List.range ps.length).all (gk ps L R F)=false:=by
      rw[BC];have hj:=(Aa.mp hd).1;rw[Xt,Ai]at hj;exact⟨j,AQ.mpr hj,by simpa using hg⟩
     rw[hgk,AN];refine Hq ?_;rw[Ki];show bindS (ienumerate _ (rL cc (stD L R F) x2 none none none) S1) _ _=_;rw[es,Ha];exact ef
   ·have hst:Vt ps (.tup [a,b,c])=false:=by simp only[Vt,cc',AN]
    rw[hst];refine⟨S1,?_,x1⟩;refine(Gi p1).trans (Hq ?_);rw[sf,ef]
  ·have hst:Vt ps (.tup l)=false:=by
    match l,hl3 with
    |[],_=>rfl
    |[_],_=>rfl
    |[_,_],_=>rfl
    |_::_::_::_::_,_=>rfl
    |[_,_,_],h=>exact absurd rfl h
   rw[hst];have hl':¬((l.length:Int)=3):=by omega
   exact⟨S,Hq (by simp[isD,isT,tyN,Kt,hl']),.refl⟩
 |_=>exact⟨S,Hq (by simp[isD,isT,tyN,Kt];rfl),.refl⟩
set_option tactic.hygienic false
end
def Gjp{S:Sto}{n:Nat}:∀L:List Int,Jy (toP S (n+1)) (L.map D.int)=some (L.map PyData.int)
 |[]=>rfl
 |i::L=>by
  have:=Gjp (S:=S) (n:=n) L;rw[AB,AB];simp only[Jy,this];rfl
def Gjq:∀L:List Int,PyData.canLayAll0 (L.map .int)=true
 |[]=>rfl
 |i::L=>by simp[PyData.canLayAll0,PyData.canLay0,Gjq L]
def Gjr:∀L:List Int,PyData.depthAll (L.map .int)=0
 |[]=>rfl
 |i::L=>by simp[PyData.depthAll,PyData.depth,Gjr L]
def Gjs:∀L M:List Int,PyData.eqvAll (L.map .int) (M.map .int)=decide (L=M)
 |[],[]=>by simp[PyData.eqvAll]
 |[],j::M=>by simp[PyData.eqvAll]
 |i::L,[]=>by simp[PyData.eqvAll]
 |i::L,j::M=>by
  simp only[AB,PyData.eqvAll,PyData.eqv,Gjs L M];by_cases h1:i=j<;>by_cases h2:L=M<;>simp[h1,h2]
noncomputable def pdS(s:S3):PyData:=.tuple [.tuple (s.1.map .int),.tuple (s.2.1.map .int),.tuple (s.2.2.map .int)]
def Ghx:toP S (n+3) (stE s)=some (pdS s):=by
 have h:∀L:List Int,toP S (n+2) (.tup (L.map D.int))=some (.tuple (L.map PyData.int)):=fun L=>by
  show(Jy (toP S (n+1)) (L.map D.int)).map PyData.tuple=_;rw[Gjp (n:=n)];rfl
 show(Jy (toP S (n+2)) [.tup (s.1.map D.int),.tup (s.2.1.map D.int),.tup (s.2.2.map D.int)]).map PyData.tuple=_;simp only[Jy,h];rfl
def Gk1{a b:S3}:PyData.eqv (pdS a) (pdS b)=decide (a=b):=by
 obtain⟨a1,a2,a3⟩:=a;obtain⟨b1,b2,b3⟩:=b;simp only[pdS,PyData.eqv,PyData.eqvAll,Gjs,Bool.and_true];by_cases h1:a1=b1<;>by_cases h2:a2=b2<;>by_cases h3:a3=b3<;>simp[h1,h2,h3]
def Ham:PyData.canLay0 (pdS s)=true:=by simp[pdS,PyData.canLay0,PyData.canLayAll0,Gjq]
def Han:(pdS s).depth=2:=by simp[pdS,PyData.depth,PyData.depthAll,Gjr]
def Lq(S:Sto)(d:D)(b e:Nat):Prop:=∃p,(∀S',Ex S S'->∀n,e<n->toP S' n d=some p)/\Gp p b e/\p.canLay0=true
def Lq.sho(h:Lq S d b e):Sho S d b e:=let⟨p,a,g,_⟩:=h;⟨p,a,g⟩
def Lq.ext(h:Lq S d b e)(x:Ex S S1):Lq S1 d b e:=let⟨p,a,g⟩:=h;⟨p,fun S' x' n hn=>a S' (x.trans x') n hn,g⟩
def Lq.mono(h:Lq S d b e)(h1:b<=b')(h2:e<=e'):Lq S d b' e':=let⟨p,a,g,l⟩:=h;⟨p,fun S' x n hn=>a S' x n (by omega),g.mono h1 h2,l⟩
def Ghy:∀{l:List D},(∀d∈l,Lq S d b e)->∃ps,(∀S',Ex S S'->∀n,e<n->Jy (toP S' n) l=some ps)/\ps.length=l.length/\(∀p∈ps,Gp p b e)/\PyData.canLayAll0 ps=true/\∀(k:Nat)(d:D),l[k]?=some d->∃p,ps[k]?=some p/\∀S',Ex S S'->∀n,e<n->toP S' n d=some p
 |[],_=>⟨[],fun _ _ _ _=>rfl,rfl,fun p hp=>(nomatch hp),rfl,fun k d h=>by simp at h⟩
 |d::l,h=>by
  obtain⟨p,a,g,y⟩:=h d Aw;obtain⟨ps,a2,a3,a4,a5,a6⟩:=Ghy (l:=l) fun q hq=>h q (Au _ hq);refine⟨p::ps,fun S' x n hn=>?_,by simp[a3],fun q hq=>?_,by simp[PyData.canLayAll0,y,a5],fun k d' hd=>?_⟩
  ·simp only[Jy,a S' x n hn,a2 S' x n hn]
  ·rcases Ad.mp hq with rfl|hq
   ·exact g
   ·exact a4 q hq
  ·cases k with
   |zero=>cases (Ab hd);exact⟨p,rfl,a⟩
   |succ k=>exact a6 k d' hd
def Gqu{l:List D}(h:∀d∈l,Lq S d b e):Lq S (.tup l) ((b+2)*l.length+3) (e+1):=by
 obtain⟨ps,a,hl,g,y,_⟩:=Ghy h;refine⟨.tuple ps,fun S' x n hn=>?_,by rw[<- hl];exact Gp0 g,y⟩;obtain⟨m,rfl⟩:∃m,n=m+1:=⟨n-1,by omega⟩
 show(Jy (toP S' m) l).map PyData.tuple=_;rw[a S' x m (by omega)];rfl
def Gqv{l:List D}(hq:S[q]?=some ⟨fz,l⟩)(h:∀d∈l,Lq S d b e):Lq S (.lst q) ((b+2)*l.length+3) (e+1):=by
 obtain⟨ps,a,hl,g,y,_⟩:=Ghy h;refine⟨.list ps,fun S' x n hn=>?_,by rw[<- hl];exact Gp1 g,y⟩;obtain⟨m,rfl⟩:∃m,n=m+1:=⟨n-1,by omega⟩
 show(match S'[q]? with|some c=>(Jy (toP S' m) c.xs).map PyData.list|none=>none)=_;rw[x.at hq];show(Jy (toP S' m) l).map PyData.list=_;rw[a S' x m (by omega)];rfl
def Gqw(h:Sho S d b 0)(hc:∀p,toP S 1 d=some p->p.canLay0=true):Lq S d b 0:=let⟨p,a,g⟩:=h;⟨p,a,g,hc p (a S .refl 1 (by decide))⟩
def Gqx{i:Int}(h:i.natAbs<10^60):Lq S (.int i) 61 0:=Gqw (Gt6 h) fun p e=>by cases (Ab (show some (PyData.int i)=some p from e));rfl
def Hdq{v:Bool}:Lq S (.bl v) 61 0:=Gqw Gz5 fun p e=>by cases (Ab (show some (PyData.bool v)=some p from e));rfl
def Hao:Lq S .non 61 0:=Gqw Glx fun p e=>by cases (Ab (show some PyData.none=some p from e));rfl
structure It(S:Sto)(x:D):Prop where
 nf:nf2 x
 h:Lq S x 4000 4
def It.ext(h:It S x)(e:Ex S S1):It S1 x:=⟨h.nf,h.h.ext e⟩
structure Li(S:Sto)(q:Nat)(xs:List D)(pl:List PyData):Prop where
 c:S[q]?=some ⟨false,xs⟩
 it:∀x∈xs,It S x
 ln:xs.length<=200
 rd:∀S',Ex S S'->toP S' 40 (.lst q)=some (.list pl)
 sh:SeqAt.shaped (.list pl)=true
 at':∀(k:Nat)(d:D),xs[k]?=some d->∃p,pl[k]?=some p/\∀S',Ex S S'->∀n,4<n->toP S' n d=some p
 le:pl.length=xs.length
def Li.mk'(c:S[q]?=some ⟨false,xs⟩)(it:∀x∈xs,It S x)(ln:xs.length<=200):∃pl,Li S q xs pl:=by
 obtain⟨ps,a,hl,g,y,z⟩:=Ghy (fun d hd=>(it d hd).h);have dp:∀{l:List PyData},(∀p∈l,Gp p 4000 4)->PyData.depthAll l<=4:=fun{l}=>by
  induction l with
  |nil=>intro _;simp[PyData.depthAll]
  |cons p l ih=>
   intro h;have h1:=(h p Aw).dp;have h2:=ih fun q hq=>h q (Au _ hq);simp only[PyData.depthAll];omega
 refine⟨ps,c,it,ln,fun S' x=>?_,?_,z,hl⟩
 ·show(match S'[q]? with|some c=>(Jy (toP S' 39) c.xs).map PyData.list|none=>none)=_;rw[x.at c];show(Jy (toP S' 39) xs).map PyData.list=_;rw[a S' x 39 (by decide)];rfl
 ·have:=dp g;simp[SeqAt.shaped,PyData.canLay0,y,PyData.depth];omega
def Li.ext(h:Li S q xs pl)(e:Ex S S1):Li S1 q xs pl:=⟨e.at h.c,fun x hx=>(h.it x hx).ext e,h.ln,fun S' x=>h.rd S' (e.trans x),h.sh,fun k d hd=>let⟨p,a,b⟩:=h.at' k d hd;⟨p,a,fun S' x n hn=>b S' (e.trans x) n hn⟩,h.le⟩
section
variable{ps:List Pl}{us:List Bool}{s s0:S3}{S:Sto}{q:Nat}{xs:List D}{pl:List PyData}
def Gqy:SeqAt.shaped (pdS s)=true:=by simp[SeqAt.shaped,Ham,Han]
def Hdr(h:Li S q xs pl):Giw (.lst q) [stE s] S=.ok (.int ((pl.countP fun z=>PyData.eqv z (pdS s):Nat):Int)) S:=by
 have e2:toP S 40 (stE s)=some (pdS s):=Ghx (n:=37);simp only[Giw,h.rd S .refl,e2];rw[if_pos (by rw[Gqy,h.sh];rfl)]
def Hds(neg:Bool)(h:Li S q xs pl):Gex neg (stE s) (.lst q) S=.ok (.bl (if neg=true then !(pl.any fun z=>PyData.eqv z (pdS s))else pl.any fun z=>PyData.eqv z (pdS s))) S:=by
 have e2:toP S 40 (stE s)=some (pdS s):=Ghx (n:=37);simp only[Gex,h.rd S .refl,e2];rw[if_pos (by rw[Gqy,h.sh];rfl)]
def all_mem{f g:Z->Bool}:∀{l:List Z},(∀x∈l,f x=g x)->l.all f=l.all g
 |[],_=>rfl
 |a::l,h=>by rw[BB,BB,h a Aw,all_mem fun x hx=>h x (Au _ hx)]
def sOf:D->S3
 |.tup [a,b,c]=>(Vi a,Vi b,Vi c)
 |_=>([],[],[])
def Xf:sOf (stE s)=s:=by
 show(Vi (.tup (s.1.map D.int)),Vi (.tup (s.2.1.map D.int)),Vi (.tup (s.2.2.map D.int)))=s;rw[Kq,Kq,Kq]
def Ghz(h:Vt ps x=true):x=stE (sOf x)/\Gd ps (sOf x):=by
 obtain⟨a,b,c,rfl⟩:∃a b c,x=.tup [a,b,c]:=by
  unfold Vt at h;split at h
  ·exact⟨_,_,_,rfl⟩
  ·cases h
 have h:(((cnt ps.length a&&cnt ps.length b)&&cnt ps.length c)&&((List.range ps.length).all (gk ps (Vi a) (Vi b) (Vi c))&&decide ((Vi b).sum+(Vi c).sum<=60)))=true:=h;simp only[Am]at h;obtain⟨⟨⟨h1,h2⟩,h3⟩,h4,h5⟩:=h;obtain⟨L,rfl,lL,nL⟩:=Ym h1;obtain⟨R,rfl,lR,nR⟩:=Ym h2;obtain⟨F,rfl,lF,nF⟩:=Ym h3;rw[Kq,Kq]at h5;rw[Kq,Kq,Kq]at h4;have e:sOf (.tup [.tup (L.map D.int),.tup (R.map D.int),.tup (F.map D.int)])=(L,R,F):=Xf (s:=(L,R,F));rw[e];refine⟨rfl,lL,lR,lF,nL,nR,nF,fun i p l r f e1 e2 e3 e4=>?_,?_⟩
 ·have:=AF.mp h4 i (AQ.mpr (Aa.mp e1).1);simp only[gk,e1,e2,e3,e4,Am,decide_eq_true_eq]at this;exact this
 ·have:=of_decide_eq_true h5;show R.sum+F.sum<=900;omega
def Guy(g:Gd ps s)(h1:1<=ps.length):Jj [stE s] S=.ok (.bl (thr s.2.1 s.2.2)) S:=by
 have a1:DL.getD (stE s) (.int 1) S=.ok (.tup (s.2.1.map D.int)) S:=p1e;have a2:DL.getD (stE s) (.int 2) S=.ok (.tup (s.2.2.map D.int)) S:=Hy (Hc (by decide) rfl);have b1':=Gux (M:=s.2.1) (S:=S) (by rw[g.lR];exact h1);have b2:=Gmg (M:=s.2.2) (S:=S) (by rw[g.lF];exact h1);have n1:=Gac (M:=s.2.1.take (s.2.1.length-1)) fun j hj=>g.nR j (BE hj);have n2:=Gac (M:=s.2.2.drop 1) fun j hj=>g.nF j (BG hj);have e:decide ((s.2.1.take (s.2.1.length-1)).sum+(s.2.2.drop 1).sum=0)=thr s.2.1 s.2.2:=by
  have:∀A B:Int,0<=A->0<=B->decide (A+B=0)=(decide (A=0)&&decide (B=0)):=fun A B h1 h2=>by
   rw[Bu];simp only[decide_eq_true_eq,Am];omega
  exact this _ _ n1 n2
 rw[<- e];unfold Jj;rw[Gs];generalize stE s=sd at *;generalize s.2.1.take (s.2.1.length-1)=M1 at *;generalize s.2.2.drop 1=M2 at *;simp[Wc,a1,a2,b1',b2,fin]
noncomputable def gl (ps:List Pl) (us:List Bool) (pl:List PyData) (x:D):Bool:=Vt ps x&&(!thr (sOf x).2.1 (sOf x).2.2&&(decide ((pl.countP fun z=>PyData.eqv z (pdS (sOf x)))=1)&&(stepS ps us (sOf x)).all fun y=>pl.any fun z=>PyData.eqv z (pdS y)))
noncomputable abbrev rS(c st d:D)(x3 x4 x5:BQ D):Lc:=[some c,some st,some d,x3,x4,x5]
def Hap{st:D}(C:Cn ps us)(g:Gd ps s)(h:Li S q xs pl){w:Nat}(hw:S[w]?=some ⟨false,(yesL ps us s).map (canD ps us s)⟩):
  ((stepS ps us s).all (fun y=>pl.any fun z=>PyData.eqv z (pdS y))=true/\∃y4 y5,Jd (Uk w (yesL ps us s).length).nxt (gt (gcons (gn 4) (gcons (gn 5) gnil)) 2) Hv ((yesL ps us s).length+1) 0 (rS c st (.lst q) x3 x4 x5) S=.nx (rS c st (.lst q) x3 y4 y5) S)∨
  ((stepS ps us s).all (fun y=>pl.any fun z=>PyData.eqv z (pdS y))=false/\Jd (Uk w (yesL ps us s).length).nxt (gt (gcons (gn 4) (gcons (gn 5) gnil)) 2) Hv ((yesL ps us s).length+1) 0 (rS c st (.lst q) x3 x4 x5) S=.rt (.bl false) S):=by
 have ea:(stepS ps us s).all (fun y=>pl.any fun z=>PyData.eqv z (pdS y))=((yesL ps us s).map (canD ps us s)).all fun d=>pl.any fun z=>PyData.eqv z (pdS (match d with|.tup [_,.tup (t::_)]=>sOf t|_=>([],[],[]))):=by
  unfold stepS;rw[AZ,AZ];refine all_mem fun p hp=>?_;obtain⟨s',pr,ga,e1,e2,_,_⟩:=Gcm C g hp;show(pl.any fun z=>PyData.eqv z (pdS (bh (resOf ps us s p))))=_;rw[e2];show _=pl.any fun z=>PyData.eqv z (pdS (match canD ps us s p with|.tup [_,.tup (t::_)]=>sOf t|_=>([],[],[])));unfold canD;rw[e1];show _=pl.any fun z=>PyData.eqv z (pdS (sOf (stE s')));rw[Xf]
 rw[ea];have chk:=Geo (nxt:=(Uk w (yesL ps us s).length).nxt) (g:=gt (gcons (gn 4) (gcons (gn 5) gnil)) 2) (b:=Hv) (l:=(yesL ps us s).map (canD ps us s)) (fun d=>pl.any fun z=>PyData.eqv z (pdS (match d with|.tup [_,.tup (t::_)]=>sOf t|_=>([],[],[]))))
  (fun _ U S'=>S'=S/\∃y4 y5,U=rS c st (.lst q) x3 y4 y5) (fun S'=>S'=S)
  (fun k _ S' ⟨e,_⟩=>by
   subst e;show(S'[w]?).bind (fun c=>c.xs[k]?)=_;rw[hw]; rfl)
  (fun k d U S' hd ⟨e,y4,y5,e'⟩=>by
   subst e e';rw[Ar]at hd;cases hk:(yesL ps us s)[k]? with
   |none=>rw[hk]at hd;cases hd
   |some p=>
    rw[hk]at hd;cases (Ab hd);obtain⟨s',pr,ga,e1,e2,_,_⟩:=Gcm C g (Ao hk);have ecd:canD ps us s p=.tup [ddOf p,.tup [stE s',.int pr,.int ga]]:=by unfold canD;rw[e1];rfl
    rw[ecd];show∃U1,_/\(((pl.any fun z=>PyData.eqv z (pdS (sOf (stE s'))))=true/\_)\/((pl.any fun z=>PyData.eqv z (pdS (sOf (stE s'))))=false/\_))
    rw[Xf];refine⟨rS c st (.lst q) x3 (some (ddOf p)) (some (.tup [stE s',.int pr,.int ga])),rfl,?_⟩;have g0':DL.getD (.tup [stE s',.int pr,.int ga]) (.int 0) S'=.ok (stE s') S':=p0e;have ip:=Hds (s:=s') true h;generalize D.tup [stE s',.int pr,.int ga]=td at *;generalize stE s'=sd at *;cases hb:pl.any fun z=>PyData.eqv z (pdS s')with
    |true=>
     rw[hb]at ip;exact .inl ⟨rfl,rS c st (.lst q) x3 (some (ddOf p)) (some td),S',by simp[Hv,g0',ip],rfl,_,_,rfl⟩
    |false=>
     rw[hb]at ip;exact .inr ⟨rfl,S',by simp[Hv,g0',ip],rfl⟩)
  ((yesL ps us s).length+1) 0 (rS c st (.lst q) x3 x4 x5) S (At _) ⟨rfl,x4,x5,rfl⟩ (by simp)
 rw[BD]at chk;rcases chk with⟨h1,U',S',ef,e,y4,y5,rfl⟩|⟨h1,S',ef,e⟩
 ·subst e;exact .inl ⟨h1,y4,y5,ef⟩
 ·subst e;exact .inr ⟨h1,ef⟩
set_option tactic.hygienic true
def Gqz(C:Cn ps us)(h1:1<=ps.length)(h:Li S q xs pl):∃S',Ji [cD ps us,stE s0,.lst q] S=.ok (.bl (xs.all (gl ps us pl)&&pl.any fun z=>PyData.eqv z (pdS s0))) S'/\Ex S S':=by
 have il:isD "list" (.lst q) S=.ok (.bl true) S:=by simp[isD,isT,h.c,tyN]
 have sr:=Zz h.c;simp only at sr;have chk:=Geo (nxt:=(Uk q xs.length).nxt) (g:=gn 3) (b:=Jl) (l:=xs) (gl ps us pl) (fun _ U S'=>Ex S S'/\∃x3 x4 x5,U=rS (cD ps us) (stE s0) (.lst q) x3 x4 x5) (fun S'=>Ex S S')
  (fun k _ S' ⟨e,_⟩=>by
   show(S'[q]?).bind (fun c=>c.xs[k]?)=_;rw[e.at h.c]; rfl)
  (fun k d U S' hd ⟨ex,x3,x4,x5,e'⟩=>by
   subst e';have h':=h.ext ex;have im:=Ao hd;refine⟨rS (cD ps us) (stE s0) (.lst q) (some d) x4 x5,rfl,?_⟩;obtain⟨S1,e1,x1⟩:=Hal (ps:=ps) (us:=us) (S:=S') (h.it d im).nf C.hp C.hl;cases hst:Vt ps d with
   |false=>
    refine .inr ⟨by unfold gl;rw[hst];rfl,S1,?_,ex.trans x1⟩;rw[hst]at e1;unfold Jl;rw[Gc0];have:(sif (to (tn (tt (cl 2 (Gh Jf) (ac (vr 0) (ac (vr 3) an))))) (tt (cl 1 (Gh Jj) (ac (vr 3) an)))) (sret (cn (.bl false))) DL.skip) (rS (cD ps us) (stE s0) (.lst q) (some d) x4 x5) S'=.rt (.bl false) S1:=by
     generalize stE s0=sd0 at *;generalize cD ps us=cd at *;simp[e1,Kt]
    rw[this]
   |true=>
    obtain⟨ed,gd⟩:=Ghz hst;rw[hst]at e1;generalize hs:sOf d=s at *;subst ed;have lt:=Guy (S:=S1) gd h1;have eg:gl ps us pl (stE s)=(!thr s.2.1 s.2.2&&(decide ((pl.countP fun z=>PyData.eqv z (pdS s))=1)&&(stepS ps us s).all fun y=>pl.any fun z=>PyData.eqv z (pdS y))):=by
     unfold gl;rw[hst,Xf,AJ]
    rw[eg];unfold Jl;cases ht:thr s.2.1 s.2.2 with
    |true=>
     rw[ht]at lt;refine .inr ⟨rfl,S1,?_,ex.trans x1⟩;have:(sif (to (tn (tt (cl 2 (Gh Jf) (ac (vr 0) (ac (vr 3) an))))) (tt (cl 1 (Gh Jj) (ac (vr 3) an)))) (sret (cn (.bl false))) DL.skip) (rS (cD ps us) (stE s0) (.lst q) (some (stE s)) x4 x5) S'=.rt (.bl false) S1:=by
      generalize stE s0=sd0 at *;generalize stE s=sd at *;generalize cD ps us=cd at *;simp[e1,Kt,lt]
     rw[Gc0,this]
    |false=>
     rw[ht]at lt;have p1:(sif (to (tn (tt (cl 2 (Gh Jf) (ac (vr 0) (ac (vr 3) an))))) (tt (cl 1 (Gh Jj) (ac (vr 3) an)))) (sret (cn (.bl false))) DL.skip) (rS (cD ps us) (stE s0) (.lst q) (some (stE s)) x4 x5) S'=.nx (rS (cD ps us) (stE s0) (.lst q) (some (stE s)) x4 x5) S1:=by
      generalize stE s0=sd0 at *;generalize stE s=sd at *;generalize cD ps us=cd at *;simp[e1,Kt,lt]
     rw[Gc1 p1];have h1':=h'.ext x1;have cp:=Hdr (s:=s) h1';have ill:isLst (.lst q) S1=true:=by simp[isLst,h1'.c]
     by_cases hc:(pl.countP fun z=>PyData.eqv z (pdS s))=1
     ·have p2:(sif (tb (o2 neD (mt Giw (vr 2) (ac (vr 3) an)) (cn (.int 1)))) (sret (cn (.bl false))) DL.skip) (rS (cD ps us) (stE s0) (.lst q) (some (stE s)) x4 x5) S1=.nx (rS (cD ps us) (stE s0) (.lst q) (some (stE s)) x4 x5) S1:=by
       rw[hc]at cp;generalize stE s0=sd0 at *;generalize stE s=sd at *;generalize cD ps us=cd at *;simp[ill,cp]
      rw[Gc1 p2,decide_eq_true hc,Bool.not_false,AJ,AJ];obtain⟨S2,e2,q2,x2⟩:=Gqs (S:=S1) C gd;have sr2:=Zz q2;simp only[Ai]at sr2;have f3:sfor (isrc (cl 2 (Gh Kh) (ac (vr 0) (ac (vr 3) an)))) (gt (gcons (gn 4) (gcons (gn 5) gnil)) 2) Hv (rS (cD ps us) (stE s0) (.lst q) (some (stE s)) x4 x5) S1=Jd (Uk S1.length (yesL ps us s).length).nxt (gt (gcons (gn 4) (gcons (gn 5) gnil)) 2) Hv ((yesL ps us s).length+1) 0 (rS (cD ps us) (stE s0) (.lst q) (some (stE s)) x4 x5) S2:=by
       have ec:cl 2 (Gh Kh) (ac (vr 0) (ac (vr 3) an)) (rS (cD ps us) (stE s0) (.lst q) (some (stE s)) x4 x5) S1=.ok (.lst S1.length) S2:=by
        generalize stE s0=sd0 at *;generalize stE s=sd at *;generalize cD ps us=cd at *;simp[e2]
       rw[Ki,Uc,ec,Gm,sr2,Ha];rfl
      rw[f3];rcases Hap (c:=cD ps us) (st:=stE s0) (x3:=some (stE s)) (x4:=x4) (x5:=x5) C gd (h1'.ext x2) q2 with⟨a,y4,y5,ef⟩|⟨a,ef⟩
      ·exact .inl ⟨a,_,S2,ef,(ex.trans x1).trans x2,_,_,_,rfl⟩
      ·exact .inr ⟨a,S2,ef,(ex.trans x1).trans x2⟩
     ·rw[decide_eq_false hc];refine .inr ⟨by simp,S1,?_,ex.trans x1⟩;have hc':¬(((pl.countP fun z=>PyData.eqv z (pdS s):Nat):Int)=1):=by omega
      have:(sif (tb (o2 neD (mt Giw (vr 2) (ac (vr 3) an)) (cn (.int 1)))) (sret (cn (.bl false))) DL.skip) (rS (cD ps us) (stE s0) (.lst q) (some (stE s)) x4 x5) S1=.rt (.bl false) S1:=by
       generalize ((pl.countP fun z=>PyData.eqv z (pdS s):Nat):Int)=nn at *;generalize stE s0=sd0 at *;generalize stE s=sd at *;generalize cD ps us=cd at *;simp[ill,cp,hc']
      rw[Gc0,this])
  (xs.length+1) 0 (rS (cD ps us) (stE s0) (.lst q) none none none) S (At _) ⟨.refl,none,none,none,rfl⟩ (by simp)
 rw[BD]at chk;have p0:(sif (tn (tt (o1 (isD "list") (vr 2)))) (sret (cn (.bl false))) DL.skip) (rS (cD ps us) (stE s0) (.lst q) none none none) S=.nx (rS (cD ps us) (stE s0) (.lst q) none none none) S:=by
  generalize stE s0=sd0 at *;generalize cD ps us=cd at *;simp[il,Kt]
 have sf:sfor (isrc (vr 2)) (gn 3) Jl (rS (cD ps us) (stE s0) (.lst q) none none none) S=Jd (Uk q xs.length).nxt (gn 3) Jl (xs.length+1) 0 (rS (cD ps us) (stE s0) (.lst q) none none none) S:=by
  rw[Ki,Uc];show bindS (Out.bind (.ok (.lst q) S) Yx) _ _=_;rw[Gm,sr,Ha];rfl
 unfold Ji;rw[Gs];show∃S',fin (Qz (rS (cD ps us) (stE s0) (.lst q) none none none) S)=_/\_;unfold Qz;rcases chk with⟨a,U',S',ef,ex,x3,x4,x5,rfl⟩|⟨a,S',ef,ex⟩
 ·refine⟨S',?_,ex⟩;rw[a,AJ];refine(Gi p0).trans ((Gi (sf.trans ef)).trans ?_);have ip:=Hds (s:=s0) false (h.ext ex);have ip:inP (stE s0) (.lst q) S'=.ok (.bl (pl.any fun z=>PyData.eqv z (pdS s0))) S':=ip;generalize stE s0=sd0 at *;generalize cD ps us=cd at *;simp[ip,fin]
 ·refine⟨S',?_,ex⟩;rw[a,AN];exact(Gi p0).trans (Hq (sf.trans ef))
set_option tactic.hygienic false
end
def Gq0{src:Src}{l:List D}{fs:Ev Src}{pk:List (BQ Nat)}{g:Tg}{e:Ev D}(v:D->Bool)(I:Lc->Prop)(hf:fs U S0=.ok src S)(hn:∀k(S':Sto),Ex S S'->src.nxt k S'=l[k]?)(hfu:l.length<src.fuel)(hp:I (pkS pk U))(hl:l.length<1000)(he:∀d∈l,∀(U':Lc),I U'->∃U1,g d U'=some U1/\I U1/\∀S':Sto,Ex S S'->∃S'',e U1 S'=.ok (.bl (v d)) S''/\Ex S' S''):
  ∃S',b1 Yu (ac (cmp fs pk g ttrue e) an) U S0=.ok (.bl (l.all v)) S'/\Ex S S':=by
 obtain⟨U',S',el,hi,hq,hx⟩:=Ud (nxt:=src.nxt) (g:=g) (b:=cbody S.length ttrue e) (l:=l)
  (fun i U S'=>I U/\S'[S.length]?=some ⟨false,((l.take i).map v).map D.bl⟩/\Ex S S')
  (fun k _ S' ⟨_,_,x⟩=>hn k S' x) (fun i d U S' hd ⟨h1,h2,h3⟩=>by
   have hi:i<l.length:=(Aa.mp hd).1;obtain⟨U1,e0,i1,ee⟩:=he d (Ao hd) U h1;obtain⟨S'',e1,e2⟩:=ee S' h3;have q'':=e2.at h2;have lq:S.length<S''.length:=(Aa.mp q'').1;refine⟨U1,U1,_,e0,Gbx e1 q'' (by simp;omega),i1,?_,(h3.trans e2).setq (Ac _)⟩;rw[As lq];have:l.take (i+1)=l.take i++[d]:=by rw[A8,hd];rfl
   rw[this];simp) src.fuel 0 (pkS pk U) (S++[⟨false,[]⟩]) (At _) ⟨hp,by simp[Gu],Ex.app⟩ (by omega)
 rw[Bl]at hq;refine⟨S',?_,hx⟩;rw[Gcz,Vf,Ghj hf el,Gm,Gbw,Gm,Gm,Gv5 hq];simp[AZ]
section
variable{ps:List Pl}{us:List Bool}{s s0:S3}{S:Sto}{q f:Nat}{xs:List D}{pl:List PyData}{t:List S3}
def Gf3:∀(t:List S3),(t.map sdP).map (drepl Y (.bl true))=t.map sdP
 |[]=>rfl
 |a::t=>by
  rw[AB,AB,Gf3 t];congr 1;show(if nkO (stE a)=some Y then D.tup [stE a,.bl true]else D.tup [stE a,.bl true])=_;split<;>rfl
def Haq(hf:S[f]?=some ⟨false,t.map sdP⟩)(hl:t.length<1000000):dsetD (.dct f) (stE s) (.bl true) S=some (S.set f ⟨false,(Vg t s).map sdP⟩):=by
 have e:dput (kS s) (stE s) (.bl true) (t.map sdP)=(Vg t s).map sdP:=by
  unfold dput Vg;rw[Xs];by_cases c:s∈t
  ·rw[if_pos (decide_eq_true c),if_pos c,Gf3]
  ·rw[if_neg (by simpa using c),if_neg c];simp[sdP]
 have hl':(t.map sdP).length<1000000:=by simpa using hl
 simp only[dsetD,hf,Gcl,e,hl',and_self,if_true]
def Gjt:∀(bs t:List S3),(addA t bs).length<=t.length+bs.length:=fun bs=>by
 induction bs with
 |nil=>intro t;simp[addA]
 |cons b bs ih=>
  intro t;rw[Xr];have:=ih (Vg t b);have h1:(Vg t b).length<=t.length+1:=by unfold Vg;split<;>simp
  simp;omega
def Har{F:Ev D}(hF:F U S=.ok (.lst q) S)(hq:S[q]?=some ⟨false,t.map stE⟩)(ht:t.length<=1000)(hp:pkS [none] U=[none]):
  ∃S',dcm (isrc F) [none] (gn 0) ttrue XH X8 U S=.ok (.dct S.length) S'/\S'[S.length]?=some ⟨false,(addA [] t).map sdP⟩/\Ex S S':=by
 have sr:=Zz hq;simp only[Ai]at sr;obtain⟨U',S',el,y,hU,hq',hx⟩:=Ud (nxt:=(Uk q t.length).nxt) (g:=gn 0) (b:=Zi S.length ttrue XH X8) (l:=t.map stE)
  (fun i U S'=>∃y,U=[y]/\S'[S.length]?=some ⟨false,(addA [] (t.take i)).map sdP⟩/\Ex S S')
  (fun k _ S' ⟨_,_,_,x⟩=>by
   show(S'[q]?).bind (fun c=>c.xs[k]?)=_;rw[x.at hq];rfl) (fun i d U S' hd ⟨y,h1,h2,h3⟩=>by
   subst h1;rw[Ar]at hd;cases hk:t[i]? with
   |none=>rw[hk]at hd;cases hd
   |some s=>
    rw[hk]at hd;cases (Ab hd);have lq:S.length<S'.length:=(Aa.mp h2).1;have tk:addA [] (t.take (i+1))=Vg (addA [] (t.take i)) s:=by rw[A8,hk];exact Gf2
    have ds:=Haq (s:=s) h2 (by have:=Gjt (t.take i) [];have:=List.length_take_le i t;simp at *;omega);refine⟨[some (stE s)],[some (stE s)],_,rfl,?_,some (stE s),rfl,by rw[tk];exact As lq,h3.setq (Ac _)⟩;unfold Zi;show bindS (Out.ok true S') _ _=_;rw[Ha,if_pos rfl];show bindS (Out.ok (stE s) S') _ _=_;rw[Ha];show bindS (Out.ok (D.bl true) S') _ _=_;rw[Ha,ds])
  (t.length+1) 0 [none] (S++[⟨false,[]⟩]) (At _) ⟨none,rfl,by simp[Gu,addA],Ex.app⟩ (by simp)
 rw[Ai,Bl]at hq';refine⟨S',?_,hq',hx⟩;unfold dcm;rw[Uc,hF,Gm,sr,Gm,hp];show(match Jd (Uk q t.length).nxt (gn 0) (Zi S.length ttrue XH X8) (t.length+1) 0 [none] (S++[⟨false,[]⟩])with|.nx _ S'=>Out.ok (D.dct S.length) S'|_=>.bad)=_;rw[el]
def Gq1(C:Cn ps us)(g:Gd ps s)(hf:S[f]?=some ⟨false,t.map sdP⟩):∃S',Uv [cD ps us,stE s,.dct f] S=.ok (.bl ((stepS ps us s).all fun y=>decide (y∈t))) S'/\Ex S S':=by
 obtain⟨S1,e1,q1,x1⟩:=Gjj (S:=S) C g;have sr:=Zz q1;simp only[Ai]at sr;have h13:=C.hl;have hu:=C.hu;have yl:=Gur (ps:=ps) (us:=us) (s:=s);have hsrc:isrc (cl 3 (Gh Wb) (ac XH (ac XI (ac (cn (.fv "deed_done")) an)))) [some (cD ps us),some (stE s),some (.dct f)] S=.ok (Uk S.length (yesL ps us s).length) S1:=by
  generalize stE s=sd at *;generalize cD ps us=cd at *;simp[e1,sr]
 have ea:(stepS ps us s).all (fun y=>decide (y∈t))=((yesL ps us s).map (st4 (resOf ps us s))).all fun d=>decide ((match d with|.tup (_::x::_)=>sOf x|_=>([],[],[]))∈t):=by
  unfold stepS;rw[AZ,AZ];refine all_mem fun p hp=>?_;obtain⟨s',pr,ga,e1,e2,_,e4⟩:=Gcm C g hp;show decide (bh (resOf ps us s p)∈t)=decide ((match st4 (resOf ps us s) p with|.tup (_::x::_)=>sOf x|_=>([],[],[]))∈t);rw[e2,e4];show _=decide (sOf (stE s')∈t);rw[Xf]
 rw[ea];obtain⟨S2,e2,x2⟩:=Gq0 (src:=Uk S.length (yesL ps us s).length) (l:=(yesL ps us s).map (st4 (resOf ps us s))) (pk:=[none,none,none,none,some 2]) (g:=gt (gcons (gn 0) (gcons (gn 1) (gcons (gn 2) (gcons (gn 3) gnil)))) 4) (e:=o2 (Gb8 false) XI XR) (fun d=>decide ((match d with|.tup (_::x::_)=>sOf x|_=>([],[],[]))∈t)) (fun U=>∃y0 y1 y2 y3,U=[y0,y1,y2,y3,some (.dct f)]) hsrc
  (fun k S' x=>by
   show(S'[S.length]?).bind (fun c=>c.xs[k]?)=_;rw[x.at q1]; rfl) (by simp[Uk]) ⟨none,none,none,none,rfl⟩ (by simp; omega)
  (fun d hd U' ⟨y0,y1,y2,y3,e⟩=>by
   subst e;obtain⟨p,hp,rfl⟩:=AH.mp hd;obtain⟨s',pr,ga,_,_,_,e4⟩:=Gcm C g hp;rw[e4];refine⟨[some (ddOf p),some (stE s'),some (.int pr),some (.int ga),some (.dct f)],rfl,⟨_,_,_,_,rfl⟩,fun S' x=>⟨S',?_,.refl⟩⟩;show _=Out.ok (D.bl (decide (sOf (stE s')∈t))) S';rw[Xf];have iq:=Hah (neg:=false) ((x1.trans x).at hf) (Gcl (s:=s'));rw[Xs]at iq;simp only[AE,if_false]at iq;generalize stE s'=sd at *;simp[iq])
 refine⟨S2,?_,x1.trans x2⟩;unfold Uv;rw[Gs];show fin (Uu [some (cD ps us),some (stE s),some (.dct f)] S)=_;unfold Uu;rw[Yj,e2];rfl
noncomputable def gp1 (ps:List Pl) (us:List Bool) (t:List S3) (s:S3):Bool:=!thr s.2.1 s.2.2&&(stepS ps us s).all fun y=>decide (y∈t)
noncomputable abbrev rP(c st d:D)(x3 x4:BQ D):Lc:=[some c,some st,some d,x3,x4]
def Gf4(C:Cn ps us)(h1:1<=ps.length)(h:Li S q xs pl):∃S',(to (tn (tt (o1 (isD "list") (vr 2)))) (tn (tt (b1 Yu (ac (cmp (isrc (vr 2)) [none,some 0] (gn 0) ttrue (cl 2 (Gh Kc) (ac (vr 1) (ac (vr 0) an)))) an))))) (rP (cD ps us) (stE s0) (.lst q) none none) S=.ok (!xs.all (Vt ps)) S'/\Ex S S':=by
 have il:isD "list" (.lst q) S=.ok (.bl true) S:=by simp[isD,isT,h.c,tyN]
 have sr:=Zz h.c;simp only at sr;have ln:=h.ln;obtain⟨S2,e2,x2⟩:=Gq0 (src:=Uk q xs.length) (l:=xs) (fs:=isrc (vr 2)) (pk:=[none,some 0]) (g:=gn 0) (e:=cl 2 (Gh Kc) (ac (vr 1) (ac (vr 0) an))) (U:=rP (cD ps us) (stE s0) (.lst q) none none) (S0:=S) (S:=S) (Vt ps) (fun U=>∃y0,U=[y0,some (cD ps us)])
  (by
   rw[Uc];show Out.bind (Out.ok (D.lst q) S) Yx=_;rw[Gm,sr])
  (fun k S' x=>by
   show(S'[q]?).bind (fun c=>c.xs[k]?)=_;rw[x.at h.c]; rfl) (by simp[Uk]) ⟨none,rfl⟩ (by omega)
  (fun d hd U' ⟨y0,e⟩=>by
   subst e;refine⟨[some d,some (cD ps us)],rfl,⟨_,rfl⟩,fun S' x=>?_⟩;obtain⟨S'',q1,q2⟩:=Gjo (gd:=.tup (us.map gd)) (S:=S') (h.it d hd).nf C.hp C.hl;have q1:Kc [cD ps us,d] S'=.ok (.bl (Vt ps d)) S'':=q1;refine⟨S'',?_,q2⟩;generalize cD ps us=cd at *;simp[q1])
 refine⟨S2,?_,x2⟩;rw[Hc8,Gja,Gi9];have:o1 (isD "list") (vr 2) (rP (cD ps us) (stE s0) (.lst q) none none) S=.ok (.bl true) S:=by
  rw[Hc5];show Out.bind (Out.ok (D.lst q) S) _=_;rw[Gm,il]
 rw[this,Gm];show Out.bind (Out.bind (Out.ok true S) _) _=_;rw[Gm,Gm];show(tn _) _ S=_;rw[Gja,Gi9,e2,Gm];show Out.bind (Out.ok (xs.all (Vt ps)) S2) _=_;rw[Gm]
def Gq2(C:Cn ps us)(h1:1<=ps.length)(h:Li S q xs pl)(hb:xs.all (Vt ps)=false):∃S',Hm [cD ps us,stE s0,.lst q] S=.ok (.bl false) S'/\Ex S S':=by
 obtain⟨S',e,x⟩:=Gf4 (s0:=s0) C h1 h;refine⟨S',?_,x⟩;rw[hb]at e;unfold Hm;rw[Gs];show fin (Jp (rP (cD ps us) (stE s0) (.lst q) none none) S)=_;unfold Jp;refine Hq ?_;rw[Gas e];rfl
set_option tactic.hygienic true
def Gnm(C:Cn ps us)(h1:1<=ps.length)(h:Li S q (t.map stE) pl)(hb:(t.map stE).all (Vt ps)=true):∃S',Hm [cD ps us,stE s0,.lst q] S=.ok (.bl (decide (t.length<=(addA [] t).length)&&(decide (s0∈t)&&t.all (gp1 ps us t)))) S'/\Ex S S':=by
 obtain⟨S1,e1,x1⟩:=Gf4 (s0:=s0) C h1 h;rw[hb]at e1;have ht:t.length<=200:=by simpa using h.ln
 have gdt:∀s∈t,Gd ps s:=fun s hs=>by
  have:=AF.mp hb (stE s) (List.mem_map_of_mem hs);have:=(Ghz this).2;rw[Xf]at this;exact this
 have hq1:=x1.at h.c;obtain⟨S2,e2,q2,x2⟩:=Har (U:=rP (cD ps us) (stE s0) (.lst q) none none) (F:=vr 2) rfl hq1 (by omega) rfl;have hq2:=x2.at hq1;have p1:(sif (to (tn (tt (o1 (isD "list") (vr 2)))) (tn (tt (b1 Yu (ac (cmp (isrc (vr 2)) [none,some 0] (gn 0) ttrue (cl 2 (Gh Kc) (ac (vr 1) (ac (vr 0) an)))) an))))) (sret (cn (.bl false))) DL.skip) (rP (cD ps us) (stE s0) (.lst q) none none) S=.nx (rP (cD ps us) (stE s0) (.lst q) none none) S1:=by
  rw[Gfz e1];rfl
 have p2:(sa (dcm (isrc (vr 2)) [none] (gn 0) ttrue (vr 0) (cn (.bl true))) (gn 4)) (rP (cD ps us) (stE s0) (.lst q) none none) S1=.nx (rP (cD ps us) (stE s0) (.lst q) none (some (.dct S1.length))) S2:=by
  rw[Ub,e2];rfl
 have ld:Gdw [.dct S1.length] S2=.ok (.int ((addA [] t).length:Int)) S2:=by simp[Gdw,q2]
 have ll:=Gar hq2;simp only[Ai]at ll;have iq:=Hah (neg:=true) q2 (Gcl (s:=s0));rw[Xs]at iq;simp only[if_true]at iq;have hm:(s0∈addA [] t)↔s0∈t:=by rw[Vh];simp
 unfold Hm;rw[Gs];show∃S',fin (Jp (rP (cD ps us) (stE s0) (.lst q) none none) S)=_/\_;unfold Jp;by_cases c1:(addA [] t).length<t.length
 ·refine⟨S2,?_,x1.trans x2⟩;rw[decide_eq_false (by omega),AN];refine(Gi p1).trans ((Gi p2).trans (Hq ?_));have c1':((addA [] t).length:Int)<(t.length:Int):=by omega
  generalize ((addA [] t).length:Int)=n1 at *;generalize (t.length:Int)=n2 at *;generalize stE s0=sd0 at *;generalize cD ps us=cd at *;simp[ld,ll,c1']
 ·rw[decide_eq_true (by omega),AJ];have c1':¬((addA [] t).length:Int)<(t.length:Int):=by omega
  by_cases c2:s0∈t
  ·rw[decide_eq_true c2,AJ];rw[decide_eq_true (hm.mpr c2)]at iq;have p3:(sif (to (tb (o2 ltD (b1 Gdw (ac (vr 4) an)) (b1 Hb (ac (vr 2) an)))) (tb (o2 (Gb8 true) (vr 1) (vr 4)))) (sret (cn (.bl false))) DL.skip) (rP (cD ps us) (stE s0) (.lst q) none (some (.dct S1.length))) S2=.nx (rP (cD ps us) (stE s0) (.lst q) none (some (.dct S1.length))) S2:=by
    generalize ((addA [] t).length:Int)=n1 at *;generalize (t.length:Int)=n2 at *;generalize stE s0=sd0 at *;generalize cD ps us=cd at *;simp[ld,ll,c1',iq]
   have sr:=Zz hq2;simp only[Ai]at sr;have chk:=Geo (nxt:=(Uk q t.length).nxt) (g:=gn 3) (b:=Hw) (l:=t.map stE) (fun d=>gp1 ps us t (sOf d)) (fun _ U S'=>Ex S2 S'/\∃x3,U=rP (cD ps us) (stE s0) (.lst q) x3 (some (.dct S1.length))) (fun S'=>Ex S2 S')
    (fun k _ S' ⟨x,_⟩=>by
     show(S'[q]?).bind (fun c=>c.xs[k]?)=_;rw[x.at hq2]; rfl)
    (fun k d U S' hd ⟨x,x3,e⟩=>by
     subst e;obtain⟨s,hs,rfl⟩:=AH.mp (Ao hd);rw[Xf];refine⟨rP (cD ps us) (stE s0) (.lst q) (some (stE s)) (some (.dct S1.length)),rfl,?_⟩;have g:=gdt s hs;have th:Vp [cD ps us,stE s] S'=.ok (.bl (thr s.2.1 s.2.2)) S':=Gk0 (gd:=.tup (us.map gd)) (by simpa using h1) (by rw[g.lR];simp) (by rw[g.lF];simp);unfold gp1;cases ht:thr s.2.1 s.2.2 with
     |true=>
      rw[ht]at th;refine .inr ⟨rfl,S',?_,x⟩;generalize stE s0=sd0 at *;generalize stE s=sd at *;generalize cD ps us=cd at *;simp[Hw,th,Kt]
     |false=>
      rw[ht]at th;obtain⟨S3',e3,x3'⟩:=Gq1 (S:=S') C g (x.at q2);have em:(stepS ps us s).all (fun y=>decide (y∈addA [] t))=(stepS ps us s).all fun y=>decide (y∈t):=all_mem fun y _=>decide_eq_decide.mpr (by rw[Vh];simp);rw[em]at e3;rw[Bool.not_false,AJ];cases hb':(stepS ps us s).all fun y=>decide (y∈t)with
      |true=>
       rw[hb']at e3;refine .inl ⟨rfl,rP (cD ps us) (stE s0) (.lst q) (some (stE s)) (some (.dct S1.length)),S3',?_,x.trans x3',_,rfl⟩;generalize stE s0=sd0 at *;generalize stE s=sd at *;generalize cD ps us=cd at *;simp[Hw,th,Kt,e3]
      |false=>
       rw[hb']at e3;refine .inr ⟨rfl,S3',?_,x.trans x3'⟩;generalize stE s0=sd0 at *;generalize stE s=sd at *;generalize cD ps us=cd at *;simp[Hw,th,Kt,e3])
    (t.length+1) 0 (rP (cD ps us) (stE s0) (.lst q) none (some (.dct S1.length))) S2 (At _) ⟨.refl,none,rfl⟩ (by simp)
   rw[BD,AZ]at chk;have em:t.all ((fun d=>gp1 ps us t (sOf d))∘stE)=t.all (gp1 ps us t):=all_mem fun y _=>by show gp1 ps us t (sOf (stE y))=_;rw[Xf]
   rw[em]at chk;have sf:sfor (isrc (vr 2)) (gn 3) Hw (rP (cD ps us) (stE s0) (.lst q) none (some (.dct S1.length))) S2=Jd (Uk q t.length).nxt (gn 3) Hw (t.length+1) 0 (rP (cD ps us) (stE s0) (.lst q) none (some (.dct S1.length))) S2:=by
    rw[Ki,Uc];show bindS (Out.bind (Out.ok (D.lst q) S2) Yx) _ _=_;rw[Gm,sr,Ha];rfl
   rcases chk with⟨a,U',S',ef,ex,x3,rfl⟩|⟨a,S',ef,ex⟩
   ·refine⟨S',?_,(x1.trans x2).trans ex⟩;rw[a];refine(Gi p1).trans ((Gi p2).trans ((Gi p3).trans ((Gi (sf.trans ef)).trans ?_)));simp
   ·refine⟨S',?_,(x1.trans x2).trans ex⟩;rw[a];exact(Gi p1).trans ((Gi p2).trans ((Gi p3).trans (Hq (sf.trans ef))))
  ·rw[decide_eq_false c2,AN];rw[decide_eq_false (fun z=>c2 (hm.mp z))]at iq;refine⟨S2,?_,x1.trans x2⟩;refine(Gi p1).trans ((Gi p2).trans (Hq ?_));generalize ((addA [] t).length:Int)=n1 at *;generalize (t.length:Int)=n2 at *;generalize stE s0=sd0 at *;generalize cD ps us=cd at *;simp[ld,ll,c1',iq]
set_option tactic.hygienic false
def Gmh:∀{t:List S3}{u:List S3},t.length+u.length<=(addA u t).length->addA u t=u++t
 |[],u,_=>by simp[addA]
 |a::t,u,h=>by
  rw[Xr]at h⊢;have h1:=Gjt t (Vg u a);by_cases c:a∈u
  ·have:Vg u a=u:=if_pos c;rw[this]at h h1;simp at h;omega
  ·have e:Vg u a=u++[a]:=if_neg c;rw[e]at h⊢;rw[Gmh (by simp at h⊢;omega)];simp
def Has{t:List S3}:t.length<=(addA [] t).length↔t.Nodup:=by
 constructor
 ·intro h;have:=Gmh (t:=t) (u:=[]) (by simpa using h);have n:(addA [] t).Nodup:=Ghu List.nodup_nil;rw[this]at n;simpa using n
 ·intro h;exact Gqm h fun x hx=>Vh.mpr (.inr hx)
def Gju:∀{t:List S3}{s:S3},((t.map pdS).countP fun z=>PyData.eqv z (pdS s))=t.count s
 |[],s=>rfl
 |a::t,s=>by
  rw[AB,List.countP_cons,Gju,List.count_cons,Gk1];simp
def Gq3{t:List S3}:((t.map pdS).any fun z=>PyData.eqv z (pdS s))=decide (s∈t):=by
 rw[List.any_map];by_cases c:s∈t
 ·rw[decide_eq_true c,List.any_eq_true];exact⟨s,c,by show PyData.eqv (pdS s) (pdS s)=true;rw[Gk1];simp⟩
 ·rw[decide_eq_false c,List.any_eq_false];intro x hx;show¬PyData.eqv (pdS x) (pdS s)=true;rw[Gk1];simp;exact fun z=>c (z▸hx)
def Gq4{t:List S3}:t.Nodup↔∀s∈t,t.count s=1:=by
 rw[List.nodup_iff_count];constructor
 ·intro h s hs;have:=h s;have:=List.count_pos_iff.mpr hs;omega
 ·intro h s;by_cases c:s∈t
  ·rw[h s c];exact Ac _
  ·rw[List.count_eq_zero_of_not_mem c];exact At _
def both(C:Cn ps us)(h1:1<=ps.length)(h:Li S q xs pl):∃b S',Hm [cD ps us,stE s0,.lst q] S=.ok (.bl b) S'/\Ex S S'/\∀S1,Ex S S1->∃S2,Ji [cD ps us,stE s0,.lst q] S1=.ok (.bl b) S2/\Ex S1 S2:=by
 cases hb:xs.all (Vt ps)with
 |false=>
  obtain⟨S',e,x⟩:=Gq2 (s0:=s0) C h1 h hb;refine⟨false,S',e,x,fun S1 x1=>?_⟩;obtain⟨S2,e2,x2⟩:=Gqz (s0:=s0) C h1 (h.ext x1);have:xs.all (gl ps us pl)=false:=by
   obtain⟨d,hd,hn⟩:=BC.mp hb;refine BC.mpr ⟨d,hd,?_⟩;unfold gl;rw[show Vt ps d=false by simpa using hn];simp
  rw[this,AN]at e2;exact⟨S2,e2,x2⟩
 |true=>
  obtain⟨t,rfl⟩:∃t:List S3,xs=t.map stE:=by
   refine⟨xs.map sOf,?_⟩;rw[Bz];have:xs.map id=xs.map (stE∘sOf):=List.map_congr_left fun d hd=>(Ghz (AF.mp hb d hd)).1;simpa using this
  have epl:pl=t.map pdS:=by
   refine List.ext_getElem? fun k=>?_;rw[Ar];cases hk:t[k]? with
   |none=>
    rw[Bj]
    ·rfl
    ·rw[h.le,Ai];exact AV.mp hk
   |some s=>
    obtain⟨p,hp,hr⟩:=h.at' k (stE s) (by rw[Ar,hk];rfl);have:=hr S .refl 40 (by decide);rw[Ghx (n:=37)]at this;rw[hp,<- Ab this];rfl
  subst epl;obtain⟨S',e,x⟩:=Gnm (s0:=s0) C h1 h hb;refine⟨_,S',e,x,fun S1 x1=>?_⟩;obtain⟨S2,e2,x2⟩:=Gqz (s0:=s0) C h1 (h.ext x1);refine⟨S2,?_,x2⟩;rw[e2];congr 2;rw[Gq3,AZ];have eg:t.all (gl ps us (t.map pdS)∘stE)=t.all fun s=>(decide (t.count s=1)&&gp1 ps us t s):=all_mem fun s hs=>by
   show gl ps us (t.map pdS) (stE s)=_;unfold gl gp1;have:=AF.mp hb (stE s) (List.mem_map_of_mem hs);rw[this,Xf,Gju,AJ];have ea:((stepS ps us s).all fun y=>(t.map pdS).any fun z=>PyData.eqv z (pdS y))=(stepS ps us s).all fun y=>decide (y∈t):=all_mem fun y _=>Gq3;rw[ea];cases thr s.2.1 s.2.2<;>cases decide (t.count s=1)<;>simp
  rw[eg];have en:decide (t.length<=(addA [] t).length)=t.all fun s=>decide (t.count s=1):=by
   rw[Bu,decide_eq_true_eq,Has,Gq4,AF];simp
  rw[en];have e3:(t.all fun s=>(decide (t.count s=1)&&gp1 ps us t s))=((t.all fun s=>decide (t.count s=1))&&t.all (gp1 ps us t)):=by
   rw[Bu];simp only[AF,Am];exact⟨fun z=>⟨fun s hs=>(z s hs).1,fun s hs=>(z s hs).2⟩,fun z s hs=>⟨z.1 s hs,z.2 s hs⟩⟩
  rw[e3];cases (t.all fun s=>decide (t.count s=1))<;>cases (t.all (gp1 ps us t))<;>cases decide (s0∈t)<;>rfl
end
def Sc(x:D):Prop:=(∃i:Int,x=.int i/\i.natAbs<10^60)\/∃b,x=.bl b
inductive Rq(S:Sto)(N:Nat->Prop):D->Prop
 |tup {xs:List D} (h:∀x∈xs,Sc x) (hl:xs.length<=16):Rq S N (.tup xs)
 |lst {q:Nat} {xs:List D} (hq:S[q]?=some ⟨false,xs⟩) (nt:N q) (h:∀x∈xs,Sc x) (hl:xs.length<=16):Rq S N (.lst q)
inductive Iq(S:Sto)(N:Nat->Prop):D->Prop
 |tup {xs:List D} (h:∀x∈xs,Rq S N x) (hl:xs.length<=3):Iq S N (.tup xs)
 |lst {q:Nat} {xs:List D} (hq:S[q]?=some ⟨false,xs⟩) (nt:N q) (h:∀x∈xs,Rq S N x) (hl:xs.length<=3):Iq S N (.lst q)
 |non:Iq S N .non
 |int:Iq S N (.int 0)
inductive Th(S:Sto)(N:Nat->Prop):D->Prop
 |lst {q:Nat} {xs:List D} (hq:S[q]?=some ⟨false,xs⟩) (nt:N q) (h:∀x∈xs,Iq S N x) (hl:xs.length<=120):Th S N (.lst q)
 |tup {xs:List D} (h:∀x∈xs,Iq S N x) (hl:xs.length<=120):Th S N (.tup xs)
 |non:Th S N .non
 |str:Th S N (.str "")
section
variable{S S':Sto}{t k n:Nat}{N:Nat->Prop}{x:D}
def Rq.kp(h:Rq S N x)(e:Kp S S' t k)(hN:∀q,N q->q≠t/\q≠k):Rq S' N x:=by
 cases h with
 |tup h hl=>exact .tup h hl
 |lst hq nt h hl=>exact .lst (e.at hq (hN _ nt).1 (hN _ nt).2) nt h hl
def Iq.kp(h:Iq S N x)(e:Kp S S' t k)(hN:∀q,N q->q≠t/\q≠k):Iq S' N x:=by
 cases h with
 |tup h hl=>exact .tup (fun y hy=>(h y hy).kp e hN) hl
 |lst hq nt h hl=>exact .lst (e.at hq (hN _ nt).1 (hN _ nt).2) nt (fun y hy=>(h y hy).kp e hN) hl
 |non=>exact .non
 |int=>exact .int
def Th.kp(h:Th S N x)(e:Kp S S' t k)(hN:∀q,N q->q≠t/\q≠k):Th S' N x:=by
 cases h with
 |tup h hl=>exact .tup (fun y hy=>(h y hy).kp e hN) hl
 |lst hq nt h hl=>exact .lst (e.at hq (hN _ nt).1 (hN _ nt).2) nt (fun y hy=>(h y hy).kp e hN) hl
 |non=>exact .non
 |str=>exact .str
def Sc.nf(h:Sc x):nf0 x:=by
 rcases h with⟨i,rfl,_⟩|⟨b,rfl⟩<;>exact⟨(fun _ z=>nomatch z),(fun _ z=>nomatch z)⟩
def Sc.lq(h:Sc x):Lq S x 61 0:=by
 rcases h with⟨i,rfl,hi⟩|⟨b,rfl⟩
 ·exact Gqx hi
 ·exact Hdq
def Rq.it(h:Rq S N x):nf1 x/\Lq S x 1100 1:=by
 cases h with
 |tup h hl=>
  rename_i xs;refine⟨⟨⟨(fun _ z=>nomatch z),(fun _ z=>nomatch z)⟩,fun l e y hy=>?_⟩,(Gqu fun y hy=>(h y hy).lq).mono ?_ (Ac _)⟩
  ·cases e;exact(h y hy).nf
  ·have:=BH 63 hl;omega
 |lst hq nt h hl=>
  rename_i q xs;refine⟨⟨⟨(fun _ z=>nomatch z),(fun _ z=>nomatch z)⟩,(fun l e=>nomatch e)⟩,(Gqv hq fun y hy=>(h y hy).lq).mono ?_ (Ac _)⟩;have:=BH 63 hl;omega
def Iq.it(h:Iq S N x):It S x:=by
 cases h with
 |tup h hl=>
  refine⟨⟨⟨(fun _ z=>nomatch z),(fun _ z=>nomatch z)⟩,fun l e y hy=>by cases e;exact(h y hy).it.1⟩,(Gqu fun y hy=>(h y hy).it.2).mono ?_ (by decide)⟩;have:=BH 1102 hl;omega
 |lst hq nt h hl=>
  refine⟨⟨⟨(fun _ z=>nomatch z),(fun _ z=>nomatch z)⟩,(fun l e=>nomatch e)⟩,(Gqv hq fun y hy=>(h y hy).it.2).mono ?_ (by decide)⟩;have:=BH 1102 hl;omega
 |non=>exact⟨⟨⟨(fun _ z=>nomatch z),(fun _ z=>nomatch z)⟩,(fun l e=>nomatch e)⟩,Hao.mono (by decide) (by decide)⟩
 |int=>exact⟨⟨⟨(fun _ z=>nomatch z),(fun _ z=>nomatch z)⟩,(fun l e=>nomatch e)⟩,(Gqx (by decide)).mono (by decide) (by decide)⟩
def Gh0(h:∀ i∈M,i.natAbs<10^60)(hl:M.length<=16):Rq S N (.tup (M.map D.int)):=.tup (fun y hy=>by
 obtain⟨i,hi,rfl⟩:=AH.mp hy;exact .inl ⟨i,rfl,h i hi⟩) (by simpa using hl)
def Gep{l:List D}:∃l',Wp (.tup l) lo hi S=.ok (.tup l') S/\(∀y∈l',y∈l)/\l'.length<=l.length:=by
 show∃l',(if HT.sIx l.length 0 lo=0/\HT.sIx l.length l.length hi=l.length then Out.ok (D.tup l) S else .ok (.tup (DL.Kl l lo hi)) S)=_/\_;split
 ·exact⟨l,rfl,fun _ h=>h,Ac _⟩
 ·refine⟨_,rfl,fun y hy=>BG (BE hy),?_⟩;unfold DL.Kl;rw[AT,Ba];omega
def Gdj{l:List D}:(∀y∈DL.Kl l lo hi,y∈l)/\(DL.Kl l lo hi).length<=l.length:=by
 refine⟨fun y hy=>BG (BE hy),?_⟩;unfold DL.Kl;rw[AT,Ba];omega
end
section
variable{ps:List Pl}{us:List Bool}{s s0:S3}{S:Sto}{t k n w:Nat}{u:List S3}{N:Nat->Prop}
def Geq(C:Cn ps us)(g:Gd ps s):(∀i∈s.1,i.natAbs<10^60)/\(∀i∈s.2.1,i.natAbs<10^60)/\∀i∈s.2.2,i.natAbs<10^60:=by
 have su:=g.sum;have t2:=Gac g.nR;have t3:=Gac g.nF;have big:(10000:Nat)<10^60:=by decide
 refine⟨fun i hi=>?_,fun i hi=>?_,fun i hi=>?_⟩
 ·have n1:=g.nL i hi;obtain⟨k,hk⟩:=Bc.mp hi;have kl:=(Aa.mp hk).1;rw[g.lL]at kl;have e1:=Af kl;have e2:s.2.1[k]?=some _:=Af (by rw[g.lR];exact kl);have e3:s.2.2[k]?=some _:=Af (by rw[g.lF];exact kl);have h:=(g.at' k _ _ _ _ e1 hk e2 e3).1;have ok:=C.hp _ (AY kl);generalize ps[k]=pl at *;have:i<=9:=by
   cases pl with
   |e=>simp[wat]at h;omega
   |c=>simp[wat]at h;omega
   |p br de ro pr=>
    simp only[wat,Pl.ok]at h ok;omega
  exact Bb (by omega:i.natAbs<10000) big
 ·obtain⟨k,hk⟩:=Bc.mp hi;have:=Gel g.nR hk;have:=g.nR i hi;exact Bb (by omega:i.natAbs<10000) big
 ·obtain⟨k,hk⟩:=Bc.mp hi;have:=Gel g.nF hk;have:=g.nF i hi;exact Bb (by omega:i.natAbs<10000) big
def Ger(C:Cn ps us)(g:Gd ps s):Rq S N (.tup (s.1.map D.int))/\Rq S N (.tup (s.2.1.map D.int))/\Rq S N (.tup (s.2.2.map D.int)):=by
 obtain⟨a,b,c⟩:=Geq C g;have h13:=C.hl;exact⟨Gh0 a (by rw[g.lL];omega),Gh0 b (by rw[g.lR];omega),Gh0 c (by rw[g.lF];omega)⟩
def Guz(C:Cn ps us)(g:Gd ps s):Iq S N (stE s):=by
 obtain⟨a,b,c⟩:=Ger (S:=S) (N:=N) C g;exact .tup (xs:=[.tup (s.1.map D.int),.tup (s.2.1.map D.int),.tup (s.2.2.map D.int)]) (fun y hy=>by
  simp only[Ad,Av,or_false]at hy;rcases hy with rfl|rfl|rfl
  ·exact a
  ·exact b
  ·exact c) (by simp)
noncomputable abbrev rb(t w:Nat)(x2 x3 x4 x5:BQ D):Lc:=[some (.lst t),some (.lst w),x2,x3,x4,x5]
abbrev YU:=o2 DL.getD XJ XE
abbrev YV:=o2 DL.getD XJ XC
abbrev ZC:=o2 DL.getD XJ XG
def bsE:Ev D:=ls (ac (tp (ac YV (ac YU an))) (ac (b1 Uf (ac XJ an)) (ac (tp (ac YV (ac YU (ac (b1 Uf (ac ZC an)) an)))) (ac (tp (ac YV (ac ZC (ac YU an)))) (ac (tp (ac (o2 Gr (tp (ac XC (ac X8 an))) (sl2 YV ZI onone)) (ac YU (ac ZC an)))) (ac (tp (ac (o2 Gr (tp (ac XC (ac XG an))) (sl2 YV ZI onone)) (ac YU (ac ZC an)))) (ac YZ (ac XC an))))))))
def Gu0(C:Cn ps us)(g:Gd ps s)(lt:t<S.length/\k<S.length)(hF:∀q,S.length<=q->N q):∃(xs:List D)(q:Nat)(S':Sto),bsE (rb t w x2 (some (stE s)) x4 x5) S=.ok (.lst q) S'/\S'[q]?=some ⟨false,xs⟩/\q≠t/\q≠k/\xs.length=8/\(∀x∈xs,Iq S' N x)/\Ex S S':=by
 have h13:=C.hl;have g0':∀S,DL.getD (stE s) (.int 0) S=.ok (.tup (s.1.map D.int)) S:=fun S=>p0e;have g1':∀S,DL.getD (stE s) (.int 1) S=.ok (.tup (s.2.1.map D.int)) S:=fun S=>p1e;have g2':∀S,DL.getD (stE s) (.int 2) S=.ok (.tup (s.2.2.map D.int)) S:=fun S=>Hy (Hc (by decide) rfl);have l1:Uf [stE s] S=.ok (.lst S.length) (S++[⟨false,[.tup (s.1.map D.int),.tup (s.2.1.map D.int),.tup (s.2.2.map D.int)]⟩]):=rfl;have q1:(S++[(⟨false,[.tup (s.1.map D.int),.tup (s.2.1.map D.int),.tup (s.2.2.map D.int)]⟩:Cell)])[S.length]?=some ⟨false,[.tup (s.1.map D.int),.tup (s.2.1.map D.int),.tup (s.2.2.map D.int)]⟩:=Gu;have x1:Ex S (S++[⟨false,[.tup (s.1.map D.int),.tup (s.2.1.map D.int),.tup (s.2.2.map D.int)]⟩]):=Ex.app;have n1:S.length<(S++[(⟨false,[.tup (s.1.map D.int),.tup (s.2.1.map D.int),.tup (s.2.2.map D.int)]⟩:Cell)]).length:=by simp
 generalize S++[(⟨false,[.tup (s.1.map D.int),.tup (s.2.1.map D.int),.tup (s.2.2.map D.int)]⟩:Cell)]=S1 at *;have l2:Uf [.tup (s.2.2.map D.int)] S1=.ok (.lst S1.length) (S1++[⟨false,s.2.2.map D.int⟩]):=rfl;have q2:(S1++[(⟨false,s.2.2.map D.int⟩:Cell)])[S1.length]?=some ⟨false,s.2.2.map D.int⟩:=Gu;have x2':Ex S1 (S1++[⟨false,s.2.2.map D.int⟩]):=Ex.app;have n2:S1.length<(S1++[(⟨false,s.2.2.map D.int⟩:Cell)]).length:=by simp
 generalize S1++[(⟨false,s.2.2.map D.int⟩:Cell)]=S2 at *;obtain⟨l',e3,m3,n3⟩:=Gep (S:=S2) (l:=s.1.map D.int) (lo:=some 2) (hi:=none);have a1:∀a:D,Gr (.tup [.int 0,a]) (.tup l') S2=.ok (.tup ([.int 0,a]++l')) S2:=fun a=>Vn (by simp at n3⊢;rw[g.lL]at n3;omega);obtain⟨xs,hxs⟩:∃xs:List D,xs=[.tup [.tup (s.1.map D.int),.tup (s.2.1.map D.int)],.lst S.length,.tup [.tup (s.1.map D.int),.tup (s.2.1.map D.int),.lst S1.length],.tup [.tup (s.1.map D.int),.tup (s.2.2.map D.int),.tup (s.2.1.map D.int)],.tup [.tup ([.int 0,.bl true]++l'),.tup (s.2.1.map D.int),.tup (s.2.2.map D.int)],.tup [.tup ([.int 0,.int 2]++l'),.tup (s.2.1.map D.int),.tup (s.2.2.map D.int)],.non,.int 0]:=⟨_,rfl⟩
 have a3:∀S':Sto,Rq S' N (.tup (s.1.map D.int))/\Rq S' N (.tup (s.2.1.map D.int))/\Rq S' N (.tup (s.2.2.map D.int)):=fun S'=>Ger C g;have sc:∀ a:D,Sc a->Rq (S2++[⟨false,xs⟩]) N (.tup ([.int 0,a]++l')):=fun a ha=>.tup (fun y hy=>by
  simp only[List.cons_append,List.nil_append,Ad]at hy;rcases hy with rfl|rfl|hy
  ·exact .inl ⟨0,rfl,by decide⟩
  ·exact ha
  ·obtain⟨i,hi,rfl⟩:=AH.mp (m3 y hy);exact .inl ⟨i,rfl,(Geq C g).1 i hi⟩) (by simp at n3 ⊢; rw[g.lL] at n3; omega)
 refine⟨xs,S2.length,S2++[⟨false,xs⟩],?_,Gu,by omega,by omega,by rw[hxs];rfl,fun y hy=>?_,(x1.trans x2').trans Ex.app⟩
 ·rw[hxs];unfold bsE;generalize stE s=sd at *;generalize s.1.map D.int=M1 at *;generalize s.2.1.map D.int=M2 at *;generalize s.2.2.map D.int=M3 at *;simp[g0',g1',g2',l1,l2,e3,a1]
 ·obtain⟨r1,r2,r3⟩:=a3 (S2++[⟨false,xs⟩]);have three:∀ {a b c:D},Rq (S2++[⟨false,xs⟩]) N a->Rq (S2++[⟨false,xs⟩]) N b->Rq (S2++[⟨false,xs⟩]) N c->Iq (S2++[⟨false,xs⟩]) N (.tup [a,b,c]):=fun ha hb hc=>.tup (fun y hy=>by
   simp only[Ad,Av,or_false]at hy;rcases hy with rfl|rfl|rfl
   ·exact ha
   ·exact hb
   ·exact hc) (by simp)
  have hy':=hy;rw[hxs]at hy';simp only[Ad,Av,or_false]at hy';rcases hy' with rfl|rfl|rfl|rfl|rfl|rfl|rfl|rfl
  ·exact .tup (fun y hy=>by
    simp only[Ad,Av,or_false]at hy;rcases hy with rfl|rfl
    ·exact r1
    ·exact r2) (by simp)
  ·exact .lst (Gz (x2'.at q1)) (hF _ (by omega)) (fun y hy=>by
    simp only[Ad,Av,or_false]at hy;rcases hy with rfl|rfl|rfl
    ·exact r1
    ·exact r2
    ·exact r3) (by simp)
  ·exact three r1 r2 (.lst (Gz q2) (hF _ (by omega)) (fun y hy=>by
    obtain⟨i,hi,rfl⟩:=AH.mp hy;exact .inl ⟨i,rfl,(Geq C g).2.2 i hi⟩) (by simp; rw[g.lF]; omega))
  ·exact three r1 r3 r2
  ·exact three (sc _ (.inr ⟨true,rfl⟩)) r2 r3
  ·exact three (sc _ (.inl ⟨2,rfl,by decide⟩)) r2 r3
  ·exact .non
  ·exact .int
set_option tactic.hygienic true
def Gu1(C:Cn ps us)(gu:∀s∈u,Gd ps s)(hu:u.length<=100)(h1:1<=u.length)(d:Dp S t k n)(hn:n<2^55)(hN:∀q,N q->q≠t/\q≠k)(hF:∀q,S.length<=q->N q)(hw:S[w]?=some ⟨false,u.map stE⟩)(wt:w≠t)(wk:w≠k):
  ∃dd S',Wm [.lst t,.lst w] S=.ok dd S'/\Th S' N dd/\Dp S' t k (n+3)/\Kp S S' t k:=by
 have ln:=Gar hw;simp only[Ai]at ln;obtain⟨r1,S1,e1,a1,b1',d1,k1⟩:=Kj (m:=(u.length:Int)) d (by omega) (by omega) (by omega);obtain⟨at',rfl⟩:∃at':Nat,r1=at':=⟨r1.toNat,by omega⟩
 have ha:=Af (show at'<u.length by omega);generalize u[at']=s at ha;have g:=gu s (Ao ha);have hw1:=k1.at hw wt wk;have gs:DL.getD (.lst w) (.int (at':Int)) S1=.ok (stE s) S1:=Jx hw1 (Hc (by omega) (by rw[AK,Ar,ha];rfl));obtain⟨r2,S2,e2,a2,b2,d2,k2⟩:=Kj (m:=12) d1 (by omega) (by decide) (by decide);obtain⟨wy,rfl⟩:∃wy:Nat,r2=wy:=⟨r2.toNat,by omega⟩
 have hw2:=k2.at hw1 wt wk;have lt2:=d2.lt;have l12:=(k1.trans k2).len;obtain⟨xs,q,S3,e3,q3,qt,qk,lx,hx,x3⟩:=Gu0 (w:=w) (x2:=some (.int at')) (x4:=some (.int wy)) (x5:=none) C g lt2 (fun q hq=>hF q (by omega));have hw3:=x3.at hw2;have d3:Dp S3 t k (n+1+1):=d2.ext x3;have lt3:=d3.lt;have k3:Kp S S3 t k:=(k1.trans k2).trans x3.kp;have l3:=x3.len;obtain⟨E,hE⟩:∃E,E=rb t w (some (.int at')) (some (stE s)) (some (.int wy)) (some (.lst q)):=⟨_,rfl⟩
 have pre:∀X:Sv,fin ((sq (sa (cl 2 (Gh Ge) (ac (vr 0) (ac (b1 Hb (ac (vr 1) an)) an))) (gn 2)) (sq (sa (o2 DL.getD (vr 1) (vr 2)) (gn 3)) (sq (sa (cl 2 (Gh Ge) (ac (vr 0) (ac (cn (.int 12)) an))) (gn 4)) (sq (sa bsE (gn 5)) X)))) (rb t w none none none none) S)=fin (X E S3):=fun X=>by
  rw[hE];refine(Gi (U':=rb t w (some (.int at')) none none none) (S':=S1) (by
   generalize (u.length:Int)=ul at *;simp[ln,e1])).trans ?_
  refine(Gi (U':=rb t w (some (.int at')) (some (stE s)) none none) (S':=S1) (by
   generalize stE s=sd at *;generalize (at':Int)=aa at *;simp[gs])).trans ?_
  refine(Gi (U':=rb t w (some (.int at')) (some (stE s)) (some (.int wy)) none) (S':=S2) (by
   generalize stE s=sd at *;generalize (wy:Int)=aa at *;simp[e2])).trans ?_
  exact Gi (by rw[Ub,e3];rfl)
 have iu:∀S':Sto,∀y∈u.map stE,Iq S' N y:=fun S' y hy=>by
  obtain⟨s',hs',rfl⟩:=AH.mp hy;exact Guz C (gu s' hs')
 obtain⟨A,hA⟩:∃A,A=DL.Kl (u.map stE) none (some (at':Int)):=⟨_,rfl⟩
 obtain⟨B,hB⟩:∃B,B=DL.Kl (u.map stE) (some ((at':Int)+1)) none:=⟨_,rfl⟩
 have cA:=Gdj (l:=u.map stE) (lo:=none) (hi:=some (at':Int));have cB:=Gdj (l:=u.map stE) (lo:=some ((at':Int)+1)) (hi:=none);rw[<- hA]at cA;rw[<- hB]at cB;simp only[Ai]at cA cB;have cAB:A.length+B.length<=u.length:=by
  rw[hA,hB];unfold DL.Kl;have:((at':Int)+1)=((at'+1:Nat):Int):=by omega
  rw[this,HT.Vo,HT.Vo,HT.Qd,HT.Qd];simp only[AT,Ba,Ai];omega
 have sA:∀S',S'[w]?=some ⟨false,u.map stE⟩->Wp (.lst w) none (some (at':Int)) S'=.ok (.lst S'.length) (S'++[⟨false,A⟩]):=fun S' h=>by rw[hA];simp only[Wp,h]
 have sB:∀S',S'[w]?=some ⟨false,u.map stE⟩->Wp (.lst w) (some ((at':Int)+1)) none S'=.ok (.lst S'.length) (S'++[⟨false,B⟩]):=fun S' h=>by rw[hB];simp only[Wp,h]
 have q4:(S3++[(⟨false,A⟩:Cell)])[S3.length]?=some ⟨false,A⟩:=Gu;have hw4:=Gz (c:=⟨false,A⟩) hw3;have d4:Dp (S3++[⟨false,A⟩]) t k (n+1+1):=d3.app;have l4:(S3++[(⟨false,A⟩:Cell)]).length=S3.length+1:=by simp
 have sA3:=sA S3 hw3;have q34:=Gz (c:=⟨false,A⟩) q3;have hx4:∀x∈xs,Iq (S3++[⟨false,A⟩]) N x:=fun x h=>(hx x h).kp (t:=t) (k:=k) Kp.app hN;have k4:Kp S (S3++[⟨false,A⟩]) t k:=k3.trans Kp.app;have iA:∀S':Sto,∀y∈A,Iq S' N y:=fun S' y hy=>iu S' y (cA.1 y hy);have iB:∀S':Sto,∀y∈B,Iq S' N y:=fun S' y hy=>iu S' y (cB.1 y hy);unfold Wm;rw[Gs];show∃dd S',fin (Jw (rb t w none none none none) S)=_/\_;by_cases c8:wy<8
 .
  have hy:=Af (show wy<xs.length by omega);generalize xs[wy]=y at hy;have iy:=hx4 y (Ao hy);have gy:DL.getD (.lst q) (.int (wy:Int)) (S3++[⟨false,A⟩])=.ok y (S3++[⟨false,A⟩]):=Jx q34 (Hc (by omega) (by rw[AK];exact hy));generalize S3++[(⟨false,A⟩:Cell)]=S4 at *;have q5:(S4++[(⟨false,[y]⟩:Cell)])[S4.length]?=some ⟨false,[y]⟩:=Gu;have a5:=We (Gz (c:=⟨false,[y]⟩) q4) q5 (by simp;omega);have hw5:=Gz (c:=⟨false,[y]⟩) hw4;have k5:Kp S4 (S4++[⟨false,[y]⟩]) t k:=Kp.app;have d5:Dp (S4++[⟨false,[y]⟩]) t k (n+1+1):=d4.app;have l5:(S4++[(⟨false,[y]⟩:Cell)]).length=S4.length+1:=by simp
  have s5:ls (ac (o2 DL.getD (vr 5) (vr 4)) an) E S4=.ok (.lst S4.length) (S4++[⟨false,[y]⟩]):=by
   rw[hE];generalize stE s=sd at *;generalize (wy:Int)=ww at *;simp[gy]
  have s3:sl2 (vr 1) onone (osome (vr 2)) E S3=.ok (.lst S3.length) S4:=by
   rw[hE];generalize stE s=sd at *;generalize (at':Int)=aa at *;simp[sA3]
  generalize S4++[(⟨false,[y]⟩:Cell)]=S5 at *;have q6:(S5++[(⟨false,A++[y]⟩:Cell)])[S5.length]?=some ⟨false,A++[y]⟩:=Gu;have hw6:=Gz (c:=⟨false,A++[y]⟩) hw5;have k6:Kp S5 (S5++[⟨false,A++[y]⟩]) t k:=Kp.app;have d6:Dp (S5++[⟨false,A++[y]⟩]) t k (n+1+1):=d5.app;have l6:(S5++[(⟨false,A++[y]⟩:Cell)]).length=S5.length+1:=by simp
  generalize S5++[(⟨false,A++[y]⟩:Cell)]=S6 at *;have sB6:=sB S6 hw6;have s6:sl2 (vr 1) (osome (o2 Gr (vr 2) (cn (.int 1)))) onone E S6=.ok (.lst S6.length) (S6++[⟨false,B⟩]):=by
   rw[hE];generalize stE s=sd at *;generalize (at':Int)=aa at *;simp[sB6]
  have q7:(S6++[(⟨false,B⟩:Cell)])[S6.length]?=some ⟨false,B⟩:=Gu;have a7:=We (Gz (c:=⟨false,B⟩) q6) q7 (by simp;omega);have k7:Kp S6 (S6++[⟨false,B⟩]) t k:=Kp.app;have d7:Dp (S6++[⟨false,B⟩]) t k (n+1+1):=d6.app;have l7:(S6++[(⟨false,B⟩:Cell)]).length=S6.length+1:=by simp
  generalize S6++[(⟨false,B⟩:Cell)]=S7 at *;refine⟨.lst S7.length,S7++[⟨false,A++[y]++B⟩],?_,.lst Gu (hF _ (by omega)) (fun z hz=>?_) (by simp;omega),d7.app.mono (by omega),((k4.trans (k5.trans k6)).trans k7).trans Kp.app⟩
  ·unfold Jw;refine(pre _).trans ?_;refine Hq ?_;have c8':(wy:Int)<8:=by omega
   rw[Gas (S1:=S3) (by
    rw[hE];generalize stE s=sd at *;generalize (wy:Int)=ww at *;simp[c8']),Yj,Ua,Ua,s3,Gm,s5,Gm,a5,Gm,s6,Gm,a7,Ha]
  ·rcases Ay.mp hz with hz|hz
   ·rcases Ay.mp hz with hz|hz
    ·exact iA _ z hz
    ·rw[AA.mp hz];exact((iy.kp (k5.trans k6) hN).kp k7 hN).kp (t:=t) (k:=k) Kp.app hN
   ·exact iB _ z hz
 ·have c8':¬(wy:Int)<8:=by omega
  by_cases e8:wy=8
  ·generalize S3++[(⟨false,A⟩:Cell)]=S4 at *;have sB4:=sB S4 hw4;have q5:(S4++[(⟨false,B⟩:Cell)])[S4.length]?=some ⟨false,B⟩:=Gu;have a5:=We (Gz (c:=⟨false,B⟩) q4) q5 (by omega);have k5:Kp S4 (S4++[⟨false,B⟩]) t k:=Kp.app;have d5:Dp (S4++[⟨false,B⟩]) t k (n+1+1):=d4.app;have l5:(S4++[(⟨false,B⟩:Cell)]).length=S4.length+1:=by simp
   generalize S4++[(⟨false,B⟩:Cell)]=S5 at *;refine⟨.lst S5.length,S5++[⟨false,A++B⟩],?_,.lst Gu (hF _ (by omega)) (fun z hz=>?_) (by simp;omega),d5.app.mono (by omega),(k4.trans k5).trans Kp.app⟩
   ·unfold Jw;refine(pre _).trans ?_;have e8':(wy:Int)=8:=by omega
    rw[hE];generalize stE s=sd at *;generalize (at':Int)=aa at *;generalize (wy:Int)=ww at *;refine(Gi (U':=rb t w (some (.int aa)) (some sd) (some (.int ww)) (some (.lst q))) (S':=S3) (by simp[c8'])).trans (Hq ?_);simp[e8',sA3,sB4,a5]
   ·rcases Ay.mp hz with hz|hz
    ·exact iA _ z hz
    ·exact iB _ z hz
  ·have e8':¬(wy:Int)=8:=by omega
   have pre2:∀X:Sv,fin ((sq (sif (tb (o2 ltD (vr 4) (cn (.int 8)))) (sret (o2 Gr (o2 Gr (sl2 (vr 1) onone (osome (vr 2))) (ls (ac (o2 DL.getD (vr 5) (vr 4)) an))) (sl2 (vr 1) (osome (o2 Gr (vr 2) (cn (.int 1)))) onone))) DL.skip) (sq (sif (tb (o2 eqD (vr 4) (cn (.int 8)))) (sret (o2 Gr (sl2 (vr 1) onone (osome (vr 2))) (sl2 (vr 1) (osome (o2 Gr (vr 2) (cn (.int 1)))) onone))) DL.skip) X)) E S3)=fin (X E S3):=fun X=>by
    rw[hE];generalize stE s=sd at *;generalize (at':Int)=aa at *;generalize (wy:Int)=ww at *;exact(Gi (U':=rb t w (some (.int aa)) (some sd) (some (.int ww)) (some (.lst q))) (S':=S3) (by simp[c8'])).trans (Gi (by simp[e8']))
   by_cases e9:wy=9
   ·have q5:(S3++[(⟨false,[stE s]⟩:Cell)])[S3.length]?=some ⟨false,[stE s]⟩:=Gu;have a5:=We (Gz (c:=⟨false,[stE s]⟩) hw3) q5 (by simp;omega);have k5:Kp S3 (S3++[⟨false,[stE s]⟩]) t k:=Kp.app;have d5:Dp (S3++[⟨false,[stE s]⟩]) t k (n+1+1):=d3.app;have l5:(S3++[(⟨false,[stE s]⟩:Cell)]).length=S3.length+1:=by simp
    have s5:ls (ac (vr 3) an) E S3=.ok (.lst S3.length) (S3++[⟨false,[stE s]⟩]):=by
     rw[hE];generalize stE s=sd at *;simp
    generalize S3++[(⟨false,[stE s]⟩:Cell)]=S5 at *;refine⟨.lst S5.length,S5++[⟨false,u.map stE++[stE s]⟩],?_,.lst Gu (hF _ (by omega)) (fun z hz=>?_) (by simp;omega),d5.app.mono (by omega),(k3.trans k5).trans Kp.app⟩
    ·unfold Jw;refine(pre _).trans ((pre2 _).trans (Hq ?_));have e9':(wy:Int)=9:=by omega
     rw[Gas (S1:=S3) (by rw[hE];simp[e9']),Yj,Ua];have:vr 1 E S3=.ok (.lst w) S3:=by rw[hE];rfl
     rw[this,Gm,s5,Gm,a5,Ha]
    ·rcases Ay.mp hz with hz|hz
     ·exact iu _ z hz
     ·rw[AA.mp hz];exact Guz C g
   ·have e9':¬(wy:Int)=9:=by omega
    have p9:(sif (tb (o2 eqD (vr 4) (cn (.int 9)))) (sret (o2 Gr (vr 1) (ls (ac (vr 3) an)))) DL.skip) E S3=.nx E S3:=by
     rw[hE];generalize stE s=sd at *;generalize (wy:Int)=ww at *;simp[e9']
    by_cases e10:wy=10
    ·refine⟨.tup (u.map stE),S3,?_,.tup (iu S3) (by simp;omega),d3.mono (by omega),k3⟩;unfold Jw;refine(pre _).trans ((pre2 _).trans ((Gi p9).trans (Hq ?_)));have e10':(wy:Int)=10:=by omega
     have tl:=Yt hw3;simp only at tl;rw[hE];generalize stE s=sd at *;generalize (wy:Int)=ww at *;simp[e10',tl]
    ·have e10':¬(wy:Int)=10:=by omega
     have q5:(S3++[(⟨false,[]⟩:Cell)])[S3.length]?=some ⟨false,[]⟩:=Gu;have k5:Kp S3 (S3++[⟨false,[]⟩]) t k:=Kp.app;have d5:Dp (S3++[⟨false,[]⟩]) t k (n+1+1):=d3.app;have l5:(S3++[(⟨false,[]⟩:Cell)]).length=S3.length+1:=by simp
     have s5:ls an E S3=.ok (.lst S3.length) (S3++[⟨false,[]⟩]):=by simp
     generalize S3++[(⟨false,[]⟩:Cell)]=S5 at *;have q6:(S5++[(⟨false,[]⟩:Cell)])[S5.length]?=some ⟨false,[]⟩:=Gu;have k6:Kp S5 (S5++[⟨false,[]⟩]) t k:=Kp.app;have d6:Dp (S5++[⟨false,[]⟩]) t k (n+1+1):=d5.app;have l6:(S5++[(⟨false,[]⟩:Cell)]).length=S5.length+1:=by simp
     have q56:=Gz (c:=⟨false,[]⟩) q5;have s6:ls an E S5=.ok (.lst S5.length) (S5++[⟨false,[]⟩]):=by simp
     generalize S5++[(⟨false,[]⟩:Cell)]=S6 at *;have q7:(S6++[(⟨false,[.lst S5.length]⟩:Cell)])[S6.length]?=some ⟨false,[.lst S5.length]⟩:=Gu;have k7:Kp S6 (S6++[⟨false,[.lst S5.length]⟩]) t k:=Kp.app;have d7:Dp (S6++[⟨false,[.lst S5.length]⟩]) t k (n+1+1):=d6.app;have l7:(S6++[(⟨false,[.lst S5.length]⟩:Cell)]).length=S6.length+1:=by simp
     have q57:=Gz (c:=⟨false,[.lst S5.length]⟩) q56;have q67:=Gz (c:=⟨false,[.lst S5.length]⟩) q6;have s7:ls (ac (ls an) an) E S5=.ok (.lst S6.length) (S6++[⟨false,[.lst S5.length]⟩]):=by
      rw[Gpw,Vf,s6];simp
     generalize S6++[(⟨false,[.lst S5.length]⟩:Cell)]=S7 at *;obtain⟨r,dd,S8,e8,g8,h8,d8,k8⟩:=Ux (m:=5) (xs:=[.non,.lst S3.length,.str "",.lst S6.length,.tup []]) d7 (by omega) rfl (by simp) (by simp);refine⟨dd,S8,?_,?_,d8.mono (by omega),(k3.trans (k5.trans k6)).trans (k7.trans k8)⟩
     ·unfold Jw;refine(pre _).trans ((pre2 _).trans ((Gi p9).trans ((Gi (U':=E) (S':=S3) (by
       rw[hE];generalize stE s=sd at *;generalize (wy:Int)=ww at *;simp[e10'])).trans ?_)))
      have ev0:vr 0 E S7=.ok (.lst t) S7:=by rw[hE];rfl
      have el:ls (ac (cn .non) (ac (ls an) (ac (cn (.str "")) (ac (ls (ac (ls an) an)) (ac (tp an) an))))) E S3=.ok (.lst S7.length) (S7++[⟨false,[.non,.lst S3.length,.str "",.lst S6.length,.tup []]⟩]):=by
       rw[Gpw,Vf,Gaq,Gm,Vf,s5,Gm,Vf,Gaq,Gm,Vf,s7,Gm];simp
      have ed:cl 2 (Gh Ge) (ac (vr 0) (ac (cn (.int 5)) an)) E (S7++[⟨false,[.non,.lst S3.length,.str "",.lst S6.length,.tup []]⟩])=.ok (.int r) S8:=by
       rw[hE];simp[e8]
      rw[Yj,Ua,el,Gm,ed,Gm,g8];rfl
     ·have km:Kp S7 S8 t k:=k8;simp only[Ad,Av,or_false]at h8;rcases h8 with rfl|rfl|rfl|rfl|rfl
      ·exact .non
      ·exact .lst (km.at q57 (by omega) (by omega)) (hF _ (by omega)) (fun z hz=>nomatch hz) (by simp)
      ·exact .str
      ·refine .lst (km.at q7 (by omega) (by omega)) (hF _ (by omega)) (fun z hz=>?_) (by simp);rw[AA.mp hz];exact .lst (km.at q67 (by omega) (by omega)) (hF _ (by omega)) (fun z hz=>nomatch hz) (by simp)
      ·exact .tup (fun z hz=>nomatch hz) (by simp)
set_option tactic.hygienic false
end
def Gmi:Prop:=∀{S:Sto}{t k:Nat},Dp S t k 0->∃(ps:List Pl)(us:List Bool)(s0:S3)(S':Sto)(n:Nat),Kf [.lst t] S=.ok (.tup [cD ps us,stE s0]) S'/\Cn ps us/\3<=ps.length/\Gd ps s0/\Dp S' t k n/\n<2^50
def Dn.pos(d:Dn ps us s0 m):1<=m:=by
 have h:=Hdn (ps:=ps) (us:=us) (s0:=s0) (At m);rw[d.len]at h;exact h
structure Rr(S:Sto)(t k q x y z:Nat)(s:S3):Prop where
 rw:Rw S q x y z (s.1.map D.int) (s.2.1.map D.int) (s.2.2.map D.int)
 ne:q≠x/\q≠y/\q≠z/\x≠y/\x≠z/\y≠z
 nt:q≠t/\x≠t/\y≠t/\z≠t/\q≠k/\x≠k/\y≠k/\z≠k
structure Ms(SB S:Sto)(t k n q x y z:Nat)(s:S3):Prop where
 d:Dp S t k n
 kp:Kp SB S t k
 rr:Rr S t k q x y z s
 lo:SB.length<=q/\SB.length<=x/\SB.length<=y/\SB.length<=z
noncomputable def up3(i:Nat)(s:S3)(j:Nat)(v:Int):S3:=if i=0 then(s.1.set j v,s.2.1,s.2.2)else if i=1 then(s.1,s.2.1.set j v,s.2.2)else(s.1,s.2.1,s.2.2.set j v)
section
variable{SB S S':Sto}{t k n q x y z:Nat}{s:S3}
def Rr.kp(h:Rr S t k q x y z s)(kp:Kp S S' t k):Rr S' t k q x y z s:=
 ⟨⟨kp.at h.rw.q0 h.nt.1 h.nt.2.2.2.2.1,kp.at h.rw.q1 h.nt.2.1 h.nt.2.2.2.2.2.1,kp.at h.rw.q2 h.nt.2.2.1 h.nt.2.2.2.2.2.2.1,kp.at h.rw.q3 h.nt.2.2.2.1 h.nt.2.2.2.2.2.2.2⟩,h.ne,h.nt⟩
def Ms.ex(h:Ms SB S t k n q x y z s)(e:Ex S S'):Ms SB S' t k n q x y z s:=⟨h.d.ext e,h.kp.trans e.kp,h.rr.kp e.kp,h.lo⟩
def Ms.draw(h:Ms SB S t k n q x y z s){m:Int}(hn:n<2^60)(hm:0<m)(hm2:m<2^200):∃r S',Ge [.lst t,.int m] S=.ok (.int r) S'/\0<=r/\r<m/\Ms SB S' t k (n+1) q x y z s:=by
 obtain⟨r,S',e,a,b,d,kp⟩:=Kj h.d hn hm hm2;exact⟨r,S',e,a,b,d,h.kp.trans kp,h.rr.kp kp,h.lo⟩
def Ms.pick(h:Ms SB S t k n q x y z s){m:Int}(hn:n<2^60)(hm:m=xs.length)(h0:0<xs.length)(h1:xs.length<1000):∃r d S',Ge [.lst t,.int m] (S++[⟨false,xs⟩])=.ok (.int r) S'/\DL.getD (.lst S.length) (.int r) S'=.ok d S'/\d∈xs/\Ms SB S' t k (n+1) q x y z s:=by
 obtain⟨r,d,S',e,g,hd,dd,kp⟩:=Ux h.d hn hm h0 h1;exact⟨r,d,S',e,g,hd,dd,h.kp.trans kp,h.rr.kp kp,h.lo⟩
def Gq5{c:Nat}(h:S[c]?=some ⟨false,M.map D.int⟩)(h0:0<M.length):Jg (.lst c) (.int (-1)) (.int v) S=some (S.set c ⟨false,(M.set (M.length-1) v).map D.int⟩):=by
 have e:ixN (M.map D.int).length (-1)=some (M.length-1):=by
  simp only[ixN,Ai];rw[if_neg (by omega),if_pos (by omega)];congr 1;omega
 unfold Jg;simp only[h];rw[e];simp[List.map_set]
def Ms.put(h:Ms SB S t k n q x y z s){i:Nat}(hi:i<3)(l0:j<s.1.length)(l1:j<s.2.1.length)(l2:j<s.2.2.length):∃c S',DL.getD (.lst q) (.int (i:Int)) S=.ok (.lst c) S/\Jg (.lst c) (.int (j:Int)) (.int v) S=some S'/\(j+1=s.2.1.length->i=1->Jg (.lst c) (.int (-1)) (.int v) S=some S')/\Ms SB S' t k n q x y z (up3 i s j v):=by
 obtain⟨d,kp,⟨⟨r0,r1,r2,r3⟩,ne,nt⟩,lo⟩:=h;obtain⟨n1,n2,n3,n4,n5,n6⟩:=ne;obtain⟨t1,t2,t3,t4,t5,t6,t7,t8⟩:=nt;rcases(by omega:i=0\/i=1\/i=2)with rfl|rfl|rfl
 ·have lx:x<S.length:=(Aa.mp r1).1;refine⟨x,S.set x ⟨false,(s.1.set j v).map D.int⟩,Jx r0 rfl,lst_set r1 (Af l0),fun _ z=>absurd z (by decide),d.set t2 t6,kp.setq lo.2.1,⟨⟨?_,?_,?_,?_⟩,⟨n1,n2,n3,n4,n5,n6⟩,⟨t1,t2,t3,t4,t5,t6,t7,t8⟩⟩,lo⟩
  ·rw[Ah (Ne.symm n1)];exact r0
  ·exact As lx
  ·rw[Ah n4];exact r2
  ·rw[Ah n5];exact r3
 ·have lx:y<S.length:=(Aa.mp r2).1;refine⟨y,S.set y ⟨false,(s.2.1.set j v).map D.int⟩,Jx r0 rfl,lst_set r2 (Af l1),fun e _=>by rw[Gq5 r2 (by omega),show s.2.1.length-1=j by omega],d.set t3 t7,kp.setq lo.2.2.1,⟨⟨?_,?_,?_,?_⟩,⟨n1,n2,n3,n4,n5,n6⟩,⟨t1,t2,t3,t4,t5,t6,t7,t8⟩⟩,lo⟩
  ·rw[Ah (Ne.symm n2)];exact r0
  ·rw[Ah (Ne.symm n4)];exact r1
  ·exact As lx
  ·rw[Ah n6];exact r3
 ·have lx:z<S.length:=(Aa.mp r3).1;refine⟨z,S.set z ⟨false,(s.2.2.set j v).map D.int⟩,Jx r0 rfl,lst_set r3 (Af l2),fun _ z=>absurd z (by decide),d.set t4 t8,kp.setq lo.2.2.2,⟨⟨?_,?_,?_,?_⟩,⟨n1,n2,n3,n4,n5,n6⟩,⟨t1,t2,t3,t4,t5,t6,t7,t8⟩⟩,lo⟩
  ·rw[Ah (Ne.symm n3)];exact r0
  ·rw[Ah (Ne.symm n5)];exact r1
  ·rw[Ah (Ne.symm n6)];exact r2
  ·exact As lx
end
structure Ok3(ps:List Pl)(s:S3):Prop where
 l0:s.1.length=ps.length
 l1:s.2.1.length=ps.length
 l2:s.2.2.length=ps.length
 at':∀(i:Nat)(p:Pl)(l r f:Int),ps[i]?=some p->s.1[i]?=some l->s.2.1[i]?=some r->s.2.2[i]?=some f->0<=l/\l<=wat p/\0<=r/\r<=3/\0<=f/\f<=3/\hol p (r+f)=true
section
variable{ps:List Pl}{us:List Bool}{s:S3}
def Gh1{x:Int}(h:(M.set j v)[i]?=some x):(i=j/\x=v)\/(i≠j/\M[i]?=some x):=Ghs h
def Ok3.put(h:Ok3 ps s){f:Int}(hp:ps[j]?=some p)(hr:s.2.1[j]?=some r)(hf:s.2.2[j]?=some f)(h0:0<=v)(h1:i=0->v<=wat p)(h2:i≠0->v<=3)(h3:i=1->hol p (v+f)=true)(h4:2<=i->hol p (r+v)=true):Ok3 ps (up3 i s j v):=by
 unfold up3;split
 ·rename_i e;refine⟨by simpa using h.l0,h.l1,h.l2,fun a p' l r' f' e1 e2 e3 e4=>?_⟩;rcases Gh1 e2 with⟨rfl,rfl⟩|⟨_,e2⟩
  ·rw[hp]at e1;cases (Ab e1);have lj:a<s.1.length:=by rw[h.l0];exact(Aa.mp hp).1
   have:=h.at' a p _ r' f' hp (Af lj) e3 e4;exact⟨h0,h1 e,this.2.2⟩
  ·exact h.at' a p' l r' f' e1 e2 e3 e4
 ·split
  ·rename_i e;refine⟨h.l0,by simpa using h.l1,h.l2,fun a p' l r' f' e1 e2 e3 e4=>?_⟩;rcases Gh1 e3 with⟨rfl,rfl⟩|⟨_,e3⟩
   ·rw[hp]at e1;cases (Ab e1);rw[hf]at e4;cases (Ab e4);have:=h.at' a p l r f hp e2 hr hf;exact⟨this.1,this.2.1,h0,h2 (by omega),this.2.2.2.2.1,this.2.2.2.2.2.1,h3 e⟩
   ·exact h.at' a p' l r' f' e1 e2 e3 e4
  ·refine⟨h.l0,h.l1,by simpa using h.l2,fun a p' l r' f' e1 e2 e3 e4=>?_⟩;rcases Gh1 e4 with⟨rfl,rfl⟩|⟨_,e4⟩
   ·rw[hp]at e1;cases (Ab e1);rw[hr]at e3;cases (Ab e3);have:=h.at' a p l r f hp e2 hr hf;exact⟨this.1,this.2.1,this.2.2.1,this.2.2.2.1,h0,h2 (by omega),h4 (by omega)⟩
   ·exact h.at' a p' l r' f' e1 e2 e3 e4
def Gk2:∀{M:List Int},(∀i∈M,i<=3)->M.sum<=3*(M.length:Int)
 |[],_=>by simp
 |a::M,h=>by
  have h1:=h a Aw;have h2:=Gk2 (M:=M) fun i hi=>h i (Au _ hi);simp only[A0,Bi]
  push_cast
  omega
def Ok3.gd(h:Ok3 ps s)(hl:ps.length<=13):Gd ps s:=by
 have all:∀i,i<ps.length->∃p l r f,ps[i]?=some p/\s.1[i]?=some l/\s.2.1[i]?=some r/\s.2.2[i]?=some f:=fun i hi=>⟨_,_,_,_,Af hi,Af (by rw[h.l0];exact hi),Af (by rw[h.l1];exact hi),Af (by rw[h.l2];exact hi)⟩
 have mL:∀v∈s.1,0<=v:=fun v hv=>by
  obtain⟨i,hi⟩:=Bc.mp hv;obtain⟨p,l,r,f,e1,e2,e3,e4⟩:=all i (by rw[<- h.l0];exact(Aa.mp hi).1);exact(h.at' i p v r f e1 hi e3 e4).1
 have mR:∀v∈s.2.1,0<=v/\v<=3:=fun v hv=>by
  obtain⟨i,hi⟩:=Bc.mp hv;obtain⟨p,l,r,f,e1,e2,e3,e4⟩:=all i (by rw[<- h.l1];exact(Aa.mp hi).1);have:=h.at' i p l v f e1 e2 hi e4;omega
 have mF:∀v∈s.2.2,0<=v/\v<=3:=fun v hv=>by
  obtain⟨i,hi⟩:=Bc.mp hv;obtain⟨p,l,r,f,e1,e2,e3,e4⟩:=all i (by rw[<- h.l2];exact(Aa.mp hi).1);have:=h.at' i p l r v e1 e2 e3 hi;omega
 refine⟨h.l0,h.l1,h.l2,mL,fun v hv=>(mR v hv).1,fun v hv=>(mF v hv).1,fun i p l r f e1 e2 e3 e4=>?_,?_⟩
 ·have:=h.at' i p l r f e1 e2 e3 e4;exact⟨this.2.1,this.2.2.2.2.2.2⟩
 ·have a:=Gk2 fun v hv=>(mR v hv).2;have b:=Gk2 fun v hv=>(mF v hv).2;rw[h.l1]at a;rw[h.l2]at b;omega
end
section
variable{SB S S':Sto}{t k n q x y z P:Nat}{s:S3}{ps:List Pl}{room:Int}
def Ms.mono(h:Ms SB S t k n q x y z s)(hm:n<=m):Ms SB S t k m q x y z s:=⟨h.d.mono hm,h.kp,h.rr,h.lo⟩
def Gq6(h:Ms SB S t k n q x y z s)(hn:n<2^59)(hr:room=1\/room=2):∃(a b:Int)(S':Sto),Qj [.lst t,.int room] S=.ok (.tup [.int a,.int b]) S'/\0<=a/\0<=b/\a+b<=room/\Ms SB S' t k (n+1) q x y z s:=by
 obtain⟨w,hw,w1,w2⟩:∃w:Int,min 2 room=w/\1<=w/\w<=room:=⟨_,rfl,by omega,by omega⟩
 obtain⟨r,d,S1,e1,g1',hd,m1⟩:=h.pick (m:=8) (xs:=[.tup [.int 0,.int 0],.tup [.int 0,.int 0],.tup [.int w,.int 0],.tup [.int 0,.int w],.tup [.int 1,.int 0],.tup [.int 0,.int 1],.tup [.int 1,.int (w-1)],.tup [.int (w-1),.int 1]]) (by omega) rfl (by simp) (by simp);obtain⟨a,b,rfl,a0,b0,ab⟩:∃a b:Int,d=.tup [.int a,.int b]/\0<=a/\0<=b/\a+b<=room:=by
  simp only[Ad,Av,or_false]at hd;rcases hd with rfl|rfl|rfl|rfl|rfl|rfl|rfl|rfl<;>exact⟨_,_,rfl,by omega,by omega,by omega⟩
 refine⟨a,b,S1,?_,a0,b0,ab,m1⟩;unfold Qj;rw[Gs];simp only[Vm];refine(Gi (U':=[some (.lst t),some (.int room),some (.int w),none]) (S':=S) (by simp[hw])).trans ?_;refine(Gi (U':=[some (.lst t),some (.int room),some (.int w),some (.lst S.length)]) (S':=S++[⟨false,[.tup [.int 0,.int 0],.tup [.int 0,.int 0],.tup [.int w,.int 0],.tup [.int 0,.int w],.tup [.int 1,.int 0],.tup [.int 0,.int 1],.tup [.int 1,.int (w-1)],.tup [.int (w-1),.int 1]]⟩]) (by simp)).trans ?_;simp[e1,g1',fin]
noncomputable abbrev re(t P q:Nat)(room:Int)(x1 x3 x4 x5 x6 x7 x8 x9 x12 x13:BQ D):Lc:=[some (.lst t),x1,some (.int room),x3,x4,x5,x6,x7,x8,x9,some (.lst P),some (.lst q),x12,x13]
abbrev ZW:=o2 DL.getD YL YJ
def Gk3(h:Ms SB S t k n q x y z s)(hn:n<2^58)(hP:SB[P]?=some ⟨false,ps.map Pl.toD⟩)(Pt:P≠t)(Pk:P≠k)(hr:room=1\/room=2)(o:Ok3 ps s)(hp:ps[j]?=some p)(ok:p.ok)(hE:p.isE=false)(hro:∀br de ro pr,p=.p br de ro pr->ro=room)(z1:s.2.1[j]?=some 0)(z2:s.2.2[j]?=some 0):
  ∃S' y12 s',Km (re t P q room x1 x3 x4 x5 x6 x7 x8 (some (.int j)) x12 x13) S=.nx (re t P q room x1 x3 x4 x5 x6 x7 x8 (some (.int j)) y12 x13) S'/\Ms SB S' t k (n+3) q x y z s'/\Ok3 ps s'/\∀i,i≠j->s'.2.1[i]?=s.2.1[i]?/\s'.2.2[i]?=s.2.2[i]?:=by
 have jl:=(Aa.mp hp).1;have gP:∀{S':Sto}{n':Nat}{s':S3},Ms SB S' t k n' q x y z s'->DL.getD (.lst P) (.int (j:Int)) S'=.ok p.toD S':=fun m=>Jx (m.kp.at hP Pt Pk) (Hc (by omega) (by rw[AK,Ar,hp];rfl));obtain⟨d,w1,w2⟩:=Hdj (S:=S) hE;have wp:0<=wat p/\wat p<=9:=by
  cases p with
  |e=>exact⟨by decide,by decide⟩
  |c=>exact⟨by decide,by decide⟩
  |p br de ro pr=>simp only[wat,Pl.ok]at ok⊢;omega
 obtain⟨v,S1,e1,v0,v1,m1⟩:=h.draw (m:=wat p+1) (by omega) (by omega) (by omega);obtain⟨c,S2,g2,s2,_,m2⟩:=m1.put (i:=0) (j:=j) (v:=v) (by decide) (by rw[o.l0];exact jl) (by rw[o.l1];exact jl) (by rw[o.l2];exact jl);have g2:DL.getD (.lst q) (.int 0) S1=.ok (.lst c) S1:=g2;have o2':Ok3 ps (up3 0 s j v):=o.put hp z1 z2 v0 (fun _=>by omega) (fun z=>absurd rfl z) (fun z=>absurd z (by decide)) (fun z=>absurd z (by decide));have e0:up3 0 s j v=(s.1.set j v,s.2.1,s.2.2):=rfl;rw[e0]at m2 o2';have p1:(ss (cl 2 (Gh Ge) (ac XH (ac (o2 Gr (o2 DL.getD (o2 Gr ZW YW) XE) XE) an))) (o2 DL.getD YD XC) YJ Jg) (re t P q room x1 x3 x4 x5 x6 x7 x8 (some (.int j)) x12 x13) S=.nx (re t P q room x1 x3 x4 x5 x6 x7 x8 (some (.int j)) x12 x13) S2:=by
  have gp:=gP h;simp[gp,w1,w2,e1,g2,s2]
 obtain⟨wy,S3,e3,y0,y1,m3⟩:=m2.draw (m:=3) (by omega) (by decide) (by decide);have p2:(sa (cl 2 (Gh Ge) (ac XH (ac XU an))) (gn 12)) (re t P q room x1 x3 x4 x5 x6 x7 x8 (some (.int j)) x12 x13) S2=.nx (re t P q room x1 x3 x4 x5 x6 x7 x8 (some (.int j)) (some (.int wy)) x13) S3:=by
  simp[e3]
 have gp3:=gP m3;unfold Km;rw[Gc1 p1,Gc1 p2];have o3l:=o2'.l0;have o3l1:=o2'.l1;have o3l2:=o2'.l2;cases p with
 |e=>cases hE
 |c=>
  have l1:Hb [Pl.c.toD] S3=.ok (.int 1) S3:=rfl;have ct:tb (o2 gtD (b1 Hb (ac ZW an)) XE) (re t P q room x1 x3 x4 x5 x6 x7 x8 (some (.int j)) (some (.int wy)) x13) S3=.ok false S3:=by
   simp[gp3,l1]
  rw[Gfz ct];by_cases cw:0<wy
  ·obtain⟨i,rfl⟩:∃i:Nat,wy=i:=⟨wy.toNat,by omega⟩
   obtain⟨c4,S4,g4,s4,_,m4⟩:=m3.put (i:=i) (j:=j) (v:=1) (by omega) (by rw[o3l];exact jl) (by rw[o3l1];exact jl) (by rw[o3l2];exact jl);have o4:Ok3 ps (up3 i (s.1.set j v,s.2.1,s.2.2) j 1):=o2'.put hp z1 z2 (by decide) (fun z=>absurd z (by omega)) (fun _=>by decide) (fun _=>rfl) (fun _=>rfl);refine⟨S4,some (.int i),_,?_,m4.mono (by omega),o4,fun a ha=>?_⟩
   ·have ci:0<i:=by omega
    rw[Gas (S1:=S3) (by simp[ci])];simp[g4,s4]
   ·unfold up3;rw[if_neg (by omega)];split
    ·exact⟨Ah (Ne.symm ha),rfl⟩
    ·exact⟨rfl,Ah (Ne.symm ha)⟩
  ·refine⟨S3,some (.int wy),_,?_,m3.mono (by omega),o2',fun a ha=>⟨rfl,rfl⟩⟩;rw[Gfz (S1:=S3) (by simp[cw])];rfl
 |p br de ro pr=>
  have ero:=hro br de ro pr rfl;have l1:Hb [(Pl.p br de ro pr).toD] S3=.ok (.int 5) S3:=rfl;have ct:tb (o2 gtD (b1 Hb (ac ZW an)) XE) (re t P q room x1 x3 x4 x5 x6 x7 x8 (some (.int j)) (some (.int wy)) x13) S3=.ok true S3:=by
   simp[gp3,l1]
  rw[Gas ct];obtain⟨a,b,S4,e4,a0,b0,ab,m4⟩:=Gq6 m3 (by omega) hr;obtain⟨c5,S5,g5,s5,_,m5⟩:=m4.put (i:=1) (j:=j) (v:=a) (by decide) (by rw[o3l];exact jl) (by rw[o3l1];exact jl) (by rw[o3l2];exact jl);have o5:Ok3 ps (up3 1 (s.1.set j v,s.2.1,s.2.2) j a):=o2'.put hp z1 z2 a0 (fun z=>absurd z (by decide)) (fun _=>by omega) (fun _=>by show decide (a+0<=ro)=true;exact decide_eq_true (by omega)) (fun z=>absurd z (by decide));have e5:up3 1 (s.1.set j v,s.2.1,s.2.2) j a=(s.1.set j v,s.2.1.set j a,s.2.2):=rfl;rw[e5]at m5 o5;have zj:(s.2.1.set j a)[j]?=some a:=As (by rw[o.l1];exact jl);obtain⟨c6,S6,g6,s6,_,m6⟩:=m5.put (i:=2) (j:=j) (v:=b) (by decide) (by rw[o5.l0];exact jl) (by rw[o5.l1];exact jl) (by rw[o5.l2];exact jl);have o6:Ok3 ps (up3 2 (s.1.set j v,s.2.1.set j a,s.2.2) j b):=o5.put hp zj z2 b0 (fun z=>absurd z (by decide)) (fun _=>by omega) (fun z=>absurd z (by decide)) (fun _=>by show decide (a+b<=ro)=true;exact decide_eq_true (by omega));have g5:DL.getD (.lst q) (.int 1) S4=.ok (.lst c5) S4:=g5;have g6:DL.getD (.lst q) (.int 2) S5=.ok (.lst c6) S5:=g6;refine⟨S6,some (.int wy),_,?_,m6.mono (by omega),o6,fun i ha=>⟨Ah (Ne.symm ha),Ah (Ne.symm ha)⟩⟩;simp[ss2,e4,g5,s5,g6,s6]
end
def LE(e:Ev D)(U:Lc)(S:Sto)(xs:List D):Prop:=∃a S',e U S=.ok (.lst a) S'/\S'[a]?=some ⟨false,xs⟩/\Ex S S'
def LN(e:Ev D)(U:Lc)(S:Sto)(xs:List D):Prop:=∃a S',e U S=.ok (.lst a) S'/\S'[a]?=some ⟨false,xs⟩/\Ex S S'/\S.length<=a
section
variable{e1 e2:Ev D}{U:Lc}{S:Sto}{xs ys:List D}{d:D}
def LN.le(h:LN e1 U S xs):LE e1 U S xs:=let⟨a,S',h1,h2,h3,_⟩:=h;⟨a,S',h1,h2,h3⟩
def Gh2(h1:LE e1 U S xs)(h2:∀S',Ex S S'->LE e2 U S' ys)(hl:xs.length+ys.length<=1000000):LN (o2 Gr e1 e2) U S (xs++ys):=by
 obtain⟨a,S1,f1,q1,x1⟩:=h1;obtain⟨b,S2,f2,q2,x2⟩:=h2 S1 x1;have ad:=We (x2.at q1) q2 hl;exact⟨S2.length,_,by simp[f1,f2,ad],Gu,(x1.trans x2).trans Ex.app,Ak x1.len x2.len⟩
def le_ls{f:Ev (List D)}(h:f U S=.ok xs S)(hl:xs.length<=1000000):LN (ls f) U S xs:=⟨S.length,S++[⟨false,xs⟩],by simp[h,hl],Gu,Ex.app,Ac _⟩
def Hat(h1:LE e1 U S [d])(h2:∀S',Ex S S'->e2 U S'=.ok (.int n) S')(hn:n<=1000):LN (o2 Je e1 e2) U S (List.replicate n d):=by
 obtain⟨a,S1,f1,q1,x1⟩:=h1;have m:=Ghh q1 hn;exact⟨S1.length,_,by simp[f1,h2 S1 x1,m],Gu,x1.trans Ex.app,x1.len⟩
def le_vr(h:U[i]?=some (some (.lst a)))(q:S[a]?=some ⟨false,xs⟩):LE (vr i) U S xs:=⟨a,S,by simp[h],q,Ex.refl⟩
end
section
variable{e1 e2 e3:Ev D}{U:Lc}{S:Sto}{t k n:Nat}{A B C:List Int}
def Gq7(d:Dp S t k n)(h1:LN e1 U S (A.map D.int))(h2:∀S',Ex S S'->LN e2 U S' (B.map D.int))(h3:∀S',Ex S S'->LN e3 U S' (C.map D.int)):∃q x y z S',ls (ac e1 (ac e2 (ac e3 an))) U S=.ok (.lst q) S'/\Ms S S' t k n q x y z (A,B,C)/\Ex S S':=by
 obtain⟨x,S1,f1,q1,x1,l1⟩:=h1;obtain⟨y,S2,f2,q2,x2,l2⟩:=h2 S1 x1;obtain⟨z,S3,f3,q3,x3,l3⟩:=h3 S2 (x1.trans x2);have a1:x<S1.length:=(Aa.mp q1).1;have a2:y<S2.length:=(Aa.mp q2).1;have a3:z<S3.length:=(Aa.mp q3).1;have lt:=d.lt;have n1:=x1.len;have n2:=x2.len;have n3:=x3.len;have ex:Ex S (S3++[⟨false,[.lst x,.lst y,.lst z]⟩]):=(x1.trans (x2.trans x3)).trans Ex.app;refine⟨S3.length,x,y,z,S3++[⟨false,[.lst x,.lst y,.lst z]⟩],by simp[f1,f2,f3],⟨d.ext ex,ex.kp,⟨⟨Gu,Gz (x3.at (x2.at q1)),Gz (x3.at q2),Gz q3⟩,by omega,by omega⟩,by omega⟩,ex⟩
def zero_row{N:Nat}{e:Ev D}(h:∀S',Ex S S'->e U S'=.ok (.int N) S')(hN:N<=1000):LN (o2 Je YC e) U S ((List.replicate N (0:Int)).map D.int):=by
 have:=Hat (e1:=ls (ac XC an)) (e2:=e) (U:=U) (S:=S) (d:=.int 0) (n:=N) (LN.le (le_ls (by simp) (by simp))) h hN;rw[List.map_replicate];exact this
end
section
variable{S:Sto}{t k n:Nat}
def ok5{b1:Int}(h0:a0=0)(h1:0<=a1/\a1<=1)(h2:0<=a2/\a2<=1)(h3:0<=a3/\a3<=1)(h4:a4=0)(hb:(0<=b0/\b0<=3)/\(0<=b1/\b1<=3)/\(0<=b2/\b2<=3)/\(0<=b3/\b3<=3)/\0<=b4/\b4<=3)(hc:(0<=c0/\c0<=3)/\(0<=c1/\c1<=3)/\(0<=c2/\c2<=3)/\(0<=c3/\c3<=3)/\0<=c4/\c4<=3)(s1:b1+c1<=1)(s2:b2+c2<=ro)(s3:b3+c3<=1):Ok3 [.e,.c,.p 1 de ro .non,.c,.e] ([a0,a1,a2,a3,a4],[b0,b1,b2,b3,b4],[c0,c1,c2,c3,c4]):=by
 refine⟨rfl,rfl,rfl,fun i p l r f e1 e2 e3 e4=>?_⟩;have hi:i<5:=(Aa.mp e1).1;rcases(by omega:i=0\/i=1\/i=2\/i=3\/i=4)with rfl|rfl|rfl|rfl|rfl<;>
  (cases (Ab e1);cases (Ab e2);cases (Ab e3);cases (Ab e4);simp[wat,hol];omega)
noncomputable abbrev rk(t:Nat)(w:Int)(x2 x3 x4 x5 x6 x7:BQ D):Lc:=[some (.lst t),some (.int w),x2,x3,x4,x5,x6,x7]
def Gjv{x:Nat}(M:Ms SB S t k n q x y z s)(hro:2<=ro/\ro<=3)(hde:0<=de/\de<=1)(o:Ok3 [.e,.c,.p 1 de ro .non,.c,.e] s):∃ S',fin ((sq (sa YQ (gn 7))
  (sret (tp (ac ZH (ac (b1 Qr (ac (cmp (isrc X9) [none] (gn 0) ttrue (b1 Qr (ac XH an))) an)) an))))) (rk t w (some (.int ro)) (some (.int lv)) (some (.int de)) (some (.int mo)) (some (.lst q)) none) S)=.ok (.tup [cD [.e,.c,.p 1 de ro .non,.c,.e] [false,true,false,true],stE s]) S'/\Ex S S':=by
 obtain⟨S',e,x'⟩:=Gl3 (f:=vr 6) (U:=rk t w (some (.int ro)) (some (.int lv)) (some (.int de)) (some (.int mo)) (some (.lst q)) (some (.tup [.tup [.str "end"],.tup [.str "chamber"],.tup [.str "pound",.int 1,.int de,.int ro,.non],.tup [.str "chamber"],.tup [.str "end"]]))) M.rr.rw rfl;refine⟨S',?_,x'⟩;refine(Gi (U':=rk t w (some (.int ro)) (some (.int lv)) (some (.int de)) (some (.int mo)) (some (.lst q)) (some (.tup [.tup [.str "end"],.tup [.str "chamber"],.tup [.str "pound",.int 1,.int de,.int ro,.non],.tup [.str "chamber"],.tup [.str "end"]]))) (S':=S) (by simp)).trans ?_;generalize b1 Qr (ac (cmp (isrc X9) [none] (gn 0) ttrue (b1 Qr (ac XH an))) an)=E at e⊢;unfold rk at e⊢;simp[e];exact⟨rfl,rfl⟩
def Gmj{s:S3}:(up3 i s j v).1.length=s.1.length/\(up3 i s j v).2.1.length=s.2.1.length/\(up3 i s j v).2.2.length=s.2.2.length:=by
 unfold up3;split
 ·simp
 ·split<;>simp
def Gq8{i x:Nat}{s:S3}{lv mo:Int}(M:Ms SB S t k n q x y z s)(hi:i<3)(i1:1<=i)(ha:a<5)(hb:b<5)(l0:s.1.length=5)(l1:s.2.1.length=5)(l2:s.2.2.length=5)(at1:atI [D.int 0,.int 3,.int 1] (i:Int)=some (.int (a:Int)))(at2:atI [D.int 0,.int 0,.int 4] (i:Int)=some (.int (b:Int))):
  ∃S',(∀X:Sv,fin ((sq (ss XM (o2 DL.getD X9 XI) XG Jg) (sq (ss XE (o2 DL.getD X9 (o2 Uy XU XI)) (o2 DL.getD Z2 XI) Jg) (sq (ss X0 (o2 DL.getD X9 XI) (o2 DL.getD Z3 XI) Jg) X))) (rk t i (some (.int ro)) (some (.int lv)) (some (.int de)) (some (.int mo)) (some (.lst q)) none) S)=fin (X (rk t i (some (.int ro)) (some (.int lv)) (some (.int de)) (some (.int mo)) (some (.lst q)) none) S'))/\Ms SB S' t k n q x y z (up3 i (up3 (3-i) (up3 i s 2 ro) a 1) b mo):=by
 obtain⟨c6,S6,g6,s6,_,M6⟩:=M.put (i:=i) (j:=2) (v:=ro) hi (by omega) (by omega) (by omega);have u6:=Gmj (i:=i) (j:=2) (s:=s) (v:=ro);have s6:Jg (.lst c6) (.int 2) (.int ro) S=some S6:=s6;have ne3:((3:Int)-(i:Int))=((3-i:Nat):Int):=by omega
 obtain⟨c7,_,g7,_,_,_⟩:=M6.put (i:=3-i) (j:=a) (v:=1) (by omega) (by omega) (by omega) (by omega);have M6':=M6.ex (Ex.app (c:=⟨false,[.int 0,.int 3,.int 1]⟩));have q6:(S6++[(⟨false,[.int 0,.int 3,.int 1]⟩:Cell)])[S6.length]?=some ⟨false,[.int 0,.int 3,.int 1]⟩:=Gu;have p6:∀U':Lc,ls (ac XC (ac XU (ac XE an))) U' S6=.ok (.lst S6.length) (S6++[⟨false,[.int 0,.int 3,.int 1]⟩]):=fun U'=>by simp
 generalize S6++[(⟨false,[.int 0,.int 3,.int 1]⟩:Cell)]=S6' at *;have i6:DL.getD (.lst S6.length) (.int (i:Int)) S6'=.ok (.int (a:Int)) S6':=Jx q6 at1;obtain⟨c7',S7,g7',s7,_,M7⟩:=M6'.put (i:=3-i) (j:=a) (v:=1) (by omega) (by omega) (by omega) (by omega);have ec:c7=c7':=by
  have r:=M6.rr.rw.q0;have r':=M6'.rr.rw.q0;have e1:DL.getD (.lst q) (.int ((3-i:Nat):Int)) S6=.ok (.lst c7) S6:=g7;simp only[DL.getD,r]at e1;have e2:=g7';simp only[DL.getD,r']at e2;cases hh:atI [D.lst x,.lst y,.lst z] ((3-i:Nat):Int)with
  |none=>rw[hh]at e1;cases e1
  |some d=>
   rw[hh]at e1 e2;injection e1 with e1 _;injection e2 with e2 _;rw[e1]at e2;injection e2
 subst ec;have u7:=Gmj (i:=3-i) (j:=a) (s:=up3 i s 2 ro) (v:=1);have M7':=M7.ex (Ex.app (c:=⟨false,[.int 0,.int 0,.int 4]⟩));obtain⟨c8,_,g8,_,_,_⟩:=M7.put (i:=i) (j:=b) (v:=mo) hi (by omega) (by omega) (by omega);have q7:(S7++[(⟨false,[.int 0,.int 0,.int 4]⟩:Cell)])[S7.length]?=some ⟨false,[.int 0,.int 0,.int 4]⟩:=Gu;have p7:∀U':Lc,ls (ac XC (ac XC (ac XY an))) U' S7=.ok (.lst S7.length) (S7++[⟨false,[.int 0,.int 0,.int 4]⟩]):=fun U'=>by simp
 generalize S7++[(⟨false,[.int 0,.int 0,.int 4]⟩:Cell)]=S7' at *;have i7:DL.getD (.lst S7.length) (.int (i:Int)) S7'=.ok (.int (b:Int)) S7':=Jx q7 at2;obtain⟨c8',S8,g8',s8,_,M8⟩:=M7'.put (i:=i) (j:=b) (v:=mo) hi (by omega) (by omega) (by omega);have ec:c8=c8':=by
  have r:=M7.rr.rw.q0;have r':=M7'.rr.rw.q0;have e1:=g8;simp only[DL.getD,r]at e1;have e2:=g8';simp only[DL.getD,r']at e2;cases hh:atI [D.lst x,.lst y,.lst z] (i:Int)with
  |none=>rw[hh]at e1;cases e1
  |some d=>
   rw[hh]at e1 e2;injection e1 with e1 _;injection e2 with e2 _;rw[e1]at e2;injection e2
 subst ec;refine⟨S8,fun X=>?_,M8⟩;generalize hii:(i:Int)=ii at *;refine(Gi (U':=rk t ii (some (.int ro)) (some (.int lv)) (some (.int de)) (some (.int mo)) (some (.lst q)) none) (S':=S6) (by simp[g6,s6])).trans ?_;refine(Gi (U':=rk t ii (some (.int ro)) (some (.int lv)) (some (.int de)) (some (.int mo)) (some (.lst q)) none) (S':=S7) ?_).trans ?_
 ·rw[Gvz];simp only[Gaq,Ha,Ua,Zy,Gku,ne3,g7,p6,Gm,i6,s7,AO,AS]
 refine(Gi (U':=rk t ii (some (.int ro)) (some (.int lv)) (some (.int de)) (some (.int mo)) (some (.lst q)) none) (S':=S8) ?_);rw[Gvz];simp only[Gaq,Ha,Ua,Zy,g8,p7,Gm,i7,s8,AO,AS]
def Gjw(d:Dp S t k n)(hn:n<2^40)(hw:w=1\/w=2):∃(ps:List Pl)(us:List Bool)(s0:S3)(S':Sto)(n':Nat),Jk [.lst t,.int w] S=.ok (.tup [cD ps us,stE s0]) S'/\Cn ps us/\3<=ps.length/\Gd ps s0/\Dp S' t k n'/\n'<2^50:=by
 obtain⟨r1,y1,S1,e1,g1',h1,d1,k1⟩:=Ux (m:=3) (xs:=[.int 2,.int 2,.int 3]) d (by omega) rfl (by simp) (by simp);obtain⟨ro,rfl,ro1,ro2⟩:∃ro:Int,y1=.int ro/\2<=ro/\ro<=3:=by
  simp only[Ad,Av,or_false]at h1;rcases h1 with rfl|rfl|rfl<;>exact⟨_,rfl,by decide,by decide⟩
 obtain⟨lv,S2,e2,v0,v1,d2,k2⟩:=Kj (m:=2) d1 (by omega) (by decide) (by decide);obtain⟨r3,y3,S3,e3,g3',h3,d3,k3⟩:=Ux (m:=3) (xs:=[.int 0,.int 0,.int 1]) d2 (by omega) rfl (by simp) (by simp);obtain⟨de,rfl,de1,de2⟩:∃de:Int,y3=.int de/\0<=de/\de<=1:=by
  simp only[Ad,Av,or_false]at h3;rcases h3 with rfl|rfl|rfl<;>exact⟨_,rfl,by decide,by decide⟩
 obtain⟨mo,S4,e4,o0,o1,d4,k4⟩:=Kj (m:=2) d3 (by omega) (by decide) (by decide);obtain⟨i,rfl⟩:∃i:Nat,w=i:=⟨w.toNat,by omega⟩
 have i12:i=1\/i=2:=by omega
 obtain⟨q,x,y,z,S5,e5,M5,x5⟩:=Gq7 (e1:=ls (ac XC (ac XE (ac XJ (ac XE (ac XC an)))))) (e2:=o2 Je YC YH) (e3:=o2 Je YC YH) (U:=rk t i (some (.int ro)) (some (.int lv)) (some (.int de)) (some (.int mo)) none none) (A:=[0,1,lv,1,0]) (B:=List.replicate 5 0) (C:=List.replicate 5 0) d4
  (le_ls (by simp) (by simp)) (fun S' _=>zero_row (fun S' _=>rfl) (by decide)) (fun S' _=>zero_row (fun S' _=>rfl) (by decide))
 obtain⟨a,b,a5,b5,at1,at2,ok⟩:∃a b:Nat,a<5/\b<5/\atI [D.int 0,.int 3,.int 1] (i:Int)=some (.int (a:Int))/\atI [D.int 0,.int 0,.int 4] (i:Int)=some (.int (b:Int))/\Ok3 [.e,.c,.p 1 de ro .non,.c,.e] (up3 i (up3 (3-i) (up3 i ([0,1,lv,1,0],List.replicate 5 0,List.replicate 5 0) 2 ro) a 1) b mo):=by
  rcases i12 with rfl|rfl
  ·refine⟨3,0,by decide,by decide,rfl,rfl,?_⟩;show Ok3 _ ([0,1,lv,1,0],[mo,0,ro,0,0],[0,0,0,1,0]);exact ok5 rfl (by omega) (by omega) (by omega) rfl (by omega) (by omega) (by omega) (by omega) (by omega)
  ·refine⟨1,4,by decide,by decide,rfl,rfl,?_⟩;show Ok3 _ ([0,1,lv,1,0],[0,1,0,0,0],[0,0,ro,0,mo]);exact ok5 rfl (by omega) (by omega) (by omega) rfl (by omega) (by omega) (by omega) (by omega) (by omega)
 obtain⟨S6,e6,M6⟩:=Gq8 (ro:=ro) (lv:=lv) (de:=de) (mo:=mo) M5 (show i<3 by omega) (by omega) a5 b5 rfl rfl rfl at1 at2;obtain⟨r7,S7,e7,u0,u1,M7⟩:=M6.draw (m:=3) (by omega) (by decide) (by decide);have C:∀ ro:Int,2<=ro->ro<=3->Cn [.e,.c,.p 1 de ro .non,.c,.e] [false,true,false,true]:=fun ro h1 h2=>⟨fun p hp=>by
  simp only[Ad,Av,or_false]at hp;rcases hp with rfl|rfl|rfl|rfl|rfl
  ·trivial
  ·trivial
  ·exact⟨by decide,by decide,de1,de2,by omega,by omega,.inl rfl⟩
  ·trivial
  ·trivial,(by show 5<=13; decide),rfl⟩
 have st:∀(X:Sv),fin ((sq (sa (o2 DL.getD Z1 (cl 2 (Gh Ge) (ac XH (ac XU an)))) (gn 2)) (sq (sa (cl 2 (Gh Ge) (ac XH (ac XG an))) (gn 3)) (sq (sa (o2 DL.getD Z4 (cl 2 (Gh Ge) (ac XH (ac XU an)))) (gn 4)) (sq (sa (cl 2 (Gh Ge) (ac XH (ac XG an))) (gn 5)) (sq (sa (ls (ac YR (ac (o2 Je YC YH) (ac (o2 Je YC YH) an)))) (gn 6)) X))))) (rk t i none none none none none none) S)=fin (X (rk t i (some (.int ro)) (some (.int lv)) (some (.int de)) (some (.int mo)) (some (.lst q)) none) S5):=fun X=>by
  refine(Gi (U':=rk t i (some (.int ro)) none none none none none) (S':=S1) (by simp[e1,g1'])).trans ?_;refine(Gi (U':=rk t i (some (.int ro)) (some (.int lv)) none none none none) (S':=S2) (by simp[e2])).trans ?_;refine(Gi (U':=rk t i (some (.int ro)) (some (.int lv)) (some (.int de)) none none none) (S':=S3) (by simp[e3,g3'])).trans ?_;refine(Gi (U':=rk t i (some (.int ro)) (some (.int lv)) (some (.int de)) (some (.int mo)) none none) (S':=S4) (by simp[e4])).trans ?_;exact Gi (U':=rk t i (some (.int ro)) (some (.int lv)) (some (.int de)) (some (.int mo)) (some (.lst q)) none) (S':=S5) (by rw[Ub,e5];rfl)
 by_cases c7:r7=0
 ·subst c7;obtain⟨q',x',y',z',S8,e8,M8,x8⟩:=Gq7 (e1:=ls (ac XC (ac XE (ac XJ (ac XE (ac XC an)))))) (e2:=ls (ac X0 (ac XE (ac XE (ac XC (ac XC an)))))) (e3:=ls (ac XC (ac XC (ac XE (ac XE (ac XC an)))))) (U:=rk t i (some (.int 2)) (some (.int lv)) (some (.int de)) (some (.int mo)) (some (.lst q)) none) (A:=[0,1,lv,1,0]) (B:=[mo,1,1,0,0]) (C:=[0,0,1,1,0]) M7.d
   (le_ls (by simp) (by simp)) (fun S' _=>le_ls (by simp) (by simp)) (fun S' _=>le_ls (by simp) (by simp))
  have ok':Ok3 [.e,.c,.p 1 de 2 .non,.c,.e] ([0,1,lv,1,0],[mo,1,1,0,0],[0,0,1,1,0]):=ok5 rfl (by omega) (by omega) (by omega) rfl (by omega) (by omega) (by omega) (by omega) (by omega);obtain⟨S9,e9,x9⟩:=Gjv (w:=i) (lv:=lv) (mo:=mo) M8 (by omega) (by omega) ok';refine⟨_,_,_,S9,n+5,?_,C 2 (by decide) (by decide),(by show 3<=5;decide),ok'.gd (by show 5<=13;decide),(M8.ex x9).d.mono (by omega),by omega⟩;unfold Jk;rw[Gs];simp only[Qk];refine(st _).trans ((e6 _).trans ?_);refine(Gi (U':=rk t i (some (.int 2)) (some (.int lv)) (some (.int de)) (some (.int mo)) (some (.lst q')) none) (S':=S8) ?_).trans e9;rw[Gas (S1:=S7) (by simp[e7]),Gc1 (U':=rk t i (some (.int 2)) (some (.int lv)) (some (.int de)) (some (.int mo)) (some (.lst q)) none) (S1:=S7) (by simp),Ub,e8];rfl
 ·obtain⟨S9,e9,x9⟩:=Gjv (w:=i) (lv:=lv) (mo:=mo) M7 (by omega) (by omega) ok;refine⟨_,_,_,S9,n+5,?_,C ro ro1 ro2,(by show 3<=5;decide),ok.gd (by show 5<=13;decide),(M7.ex x9).d.mono (by omega),by omega⟩;unfold Jk;rw[Gs];simp only[Qk];refine(st _).trans ((e6 _).trans ?_);refine(Gi (U':=rk t i (some (.int ro)) (some (.int lv)) (some (.int de)) (some (.int mo)) (some (.lst q)) none) (S':=S7) ?_).trans e9;rw[Gfz (S1:=S7) (by simp[e7,c7])];rfl
end
def Hau{f:Ev (List D)}{i:Nat}{j:Int}(h:f U S=.ok [.int i,.int j] S')(hj:j=(i:Int)+n)(hi:i<=1000000)(hn:n<=1000000):ir2 f U S=.ok (rsrc i n) S':=by
 unfold ir2;rw[h];show(if(-1000000000000<=(i:Int)/\(i:Int)<=1000000000000) /\ -1000000000000<=j/\j<=1000000000000 then Out.ok (rsrc i (j-i).toNat) S' else .bad)=_;rw[if_pos (by omega),show(j-(i:Int)).toNat=n by omega]
def Gq9:(rsrc i n).nxt k S=((List.range n).map fun k:Nat=>D.int ((i:Int)+k))[k]?:=by
 show(if k<n then some (D.int ((i:Int)+k))else none)=_;rw[Ar];by_cases c:k<n
 ·rw[if_pos c,By c];rfl
 ·rw[if_neg c,Bj (by simp;omega)];rfl
section
variable{S:Sto}{t k n:Nat}
def in4{c:Int}(h:S[a]?=some ⟨false,[.int 0,.int 1,.int 2,.int 3]⟩)(h0:0<=c)(h5:c<=5):inP (.int c) (.lst a) S=.ok (.bl (decide (c<=3))) S:=by
 have e2:toP S 40 (.lst a)=some (.list [.int 0,.int 1,.int 2,.int 3]):=by
  show(match S[a]? with|some c=>(Jy (toP S 39) c.xs).map PyData.list|none=>none)=_;rw[h];rfl
 show Gex false (.int c) (.lst a) S=_;unfold Gex;rw[e2];rcases(by omega:c=0\/c=1\/c=2\/c=3\/c=4\/c=5)with rfl|rfl|rfl|rfl|rfl|rfl<;>rfl
abbrev ud:List D:=[.str "up",.str "down"]
def Gwa(h:g∈ud):g=.str "up"\/g=.str "down":=by simpa using h
def Hav{f:Ev Src}(d:Dp S t k n)(hn:n<2^50)(hN:N<=100)(hf:f U S=.ok (rsrc 0 N) S)(hp:pkS [none,some 0] U=[none,some (.lst t)]):
  ∃(gs:List D)(S':Sto),cmp f [none,some 0] (gn 0) ttrue (o2 DL.getD XV (cl 2 (Gh Ge) (ac XI (ac XG an)))) U S=.ok (.lst S.length) S'/\S'[S.length]?=some ⟨false,gs⟩/\gs.length=N/\(∀g∈gs,g=.str "up"\/g=.str "down")/\Dp S' t k (n+N)/\Kp S S' t k:=by
 have lt:=d.lt;obtain⟨U',S',ef,y0,gs,rfl,q,l,b,d',kp⟩:=Ud (nxt:=(rsrc 0 N).nxt) (g:=gn 0) (b:=cbody S.length ttrue (o2 DL.getD XV (cl 2 (Gh Ge) (ac XI (ac XG an))))) (l:=(List.range N).map fun k:Nat=>D.int (k:Int))
  (fun i U S'=>∃(y0:BQ D)(gs:List D),U=[y0,some (.lst t)]/\S'[S.length]?=some ⟨false,gs⟩/\gs.length=i/\(∀g∈gs,g=.str "up"\/g=.str "down")/\Dp S' t k (n+i)/\Kp S S' t k)
  (fun i _ S _=>Ghf) (fun i dt U S1 hd ⟨y0,gs,e,q,l,b,d1,kp⟩=>by
   obtain⟨hi,rfl⟩:=Gpy hd;subst e;obtain⟨r,g,S2,e1,e2,hg,d2,k2⟩:=Ux (m:=2) (xs:=ud) d1 (by omega) rfl (by decide) (by decide);have q2:=k2.at q (by omega) (by omega);have l2:S.length<S2.length:=(Aa.mp q2).1;refine⟨[some (.int i),some (.lst t)],[some (.int i),some (.lst t)],S2.set S.length ⟨false,gs++[g]⟩,rfl,Gbx (by simp[e1,e2]) q2 (by omega),some (.int i),gs++[g],rfl,As l2,by simp[l],fun g' hg'=>?_,(d2.set (by omega) (by omega)).mono (by omega),(kp.trans k2).setq (Ac _)⟩;rcases Ay.mp hg' with h|h
   ·exact b g' h
   ·rw[AA.mp h]; exact Gwa hg)
  (rsrc 0 N).fuel 0 [none,some (.lst t)] (S++[⟨false,[]⟩]) (At _) ⟨none,[],rfl,Gu,rfl,by simp,d.app,Kp.app⟩ (by simp[rsrc])
 exact⟨gs,S',Ghj hf (by rw[hp];exact ef),q,by simpa using l,b,by simpa using d',kp⟩
def Haw{I:Nat}(d:Dp S t k n)(hn:n<2^50)(r0:U[0]?=some (some (.lst t)))(r7:U[7]?=some (some (.lst I)))(hI:S[I]?=some ⟨false,xs⟩)(hx:xs.length=m+1)(hm:m<=50)(It:I≠t)(Ik:I≠k):
  ∃(G:Nat)(gs:List D)(S':Sto),(o2 Gr (o2 Gr (ls (ac (cn (.str "up")) an)) (o2 Je (ls (ac (o2 DL.getD (ls (ac (cn (.str "up")) (ac (cn (.str "down")) an))) (cl 2 (Gh Ge) (ac (vr 0) (ac (cn (.int 2)) an)))) an)) (o2 Uy (b1 Hb (ac (vr 7) an)) (cn (.int 1))))) (ls (ac (cn (.str "down")) an))) U S=.ok (.lst G) S'/\S'[G]?=some ⟨false,gs⟩/\gs.length=m+2/\(∀g∈gs,g=.str "up"\/g=.str "down")/\Dp S' t k (n+1)/\Kp S S' t k/\S.length<=G:=by
 have lt:=d.lt;have q1:(S++[(⟨false,[.str "up"]⟩:Cell)])[S.length]?=some ⟨false,[.str "up"]⟩:=Gu;have k1:Kp S (S++[⟨false,[.str "up"]⟩]) t k:=Kp.app;have d1:Dp (S++[⟨false,[.str "up"]⟩]) t k n:=d.app;have s1:ls (ac (cn (.str "up")) an) U S=.ok (.lst S.length) (S++[⟨false,[.str "up"]⟩]):=by simp
 have I1:=Gz (c:=⟨false,[.str "up"]⟩) hI;generalize S++[(⟨false,[.str "up"]⟩:Cell)]=S1 at *;obtain⟨r,g,S2,e1,e2,hg,d2,k2⟩:=Ux (m:=2) (xs:=ud) d1 (by omega) rfl (by decide) (by decide);have s2:ls (ac (o2 DL.getD (ls (ac (cn (.str "up")) (ac (cn (.str "down")) an))) (cl 2 (Gh Ge) (ac (vr 0) (ac (cn (.int 2)) an)))) an) U S1=.ok (.lst S2.length) (S2++[⟨false,[g]⟩]):=by simp[r0,e1,e2]
 have q2:=k2.at q1 (by omega) (by omega);have I2:=k2.at I1 It Ik;have q3:(S2++[(⟨false,[g]⟩:Cell)])[S2.length]?=some ⟨false,[g]⟩:=Gu;have I3:=Gz (c:=⟨false,[g]⟩) I2;have q2':=Gz (c:=⟨false,[g]⟩) q2;have d3:Dp (S2++[⟨false,[g]⟩]) t k (n+1):=d2.app;have k3:Kp S (S2++[⟨false,[g]⟩]) t k:=(k1.trans k2).trans Kp.app;generalize S2++[(⟨false,[g]⟩:Cell)]=S3 at *;have ln:=Gar I3;simp only[hx]at ln;have sb:((m+1:Nat):Int)-1=(m:Int):=by omega
 have ml:=Ghh (n:=m) q3 (by omega);have q4:(S3++[(⟨false,List.replicate m g⟩:Cell)])[S3.length]?=some ⟨false,List.replicate m g⟩:=Gu;have a4:=We (Gz (c:=⟨false,List.replicate m g⟩) q2') q4 (by simp;omega);have d4:Dp (S3++[⟨false,List.replicate m g⟩]) t k (n+1):=d3.app;have k4:Kp S (S3++[⟨false,List.replicate m g⟩]) t k:=k3.trans Kp.app;generalize S3++[(⟨false,List.replicate m g⟩:Cell)]=S4 at *;have q5:(S4++[(⟨false,[.str "up"]++List.replicate m g⟩:Cell)])[S4.length]?=some ⟨false,[.str "up"]++List.replicate m g⟩:=Gu;have d5:Dp (S4++[⟨false,[.str "up"]++List.replicate m g⟩]) t k (n+1):=d4.app;have k5:Kp S (S4++[⟨false,[.str "up"]++List.replicate m g⟩]) t k:=k4.trans Kp.app;generalize S4++[(⟨false,[.str "up"]++List.replicate m g⟩:Cell)]=S5 at *;have q6:(S5++[(⟨false,[.str "down"]⟩:Cell)])[S5.length]?=some ⟨false,[.str "down"]⟩:=Gu;have a6:=We (Gz (c:=⟨false,[.str "down"]⟩) q5) q6 (by simp;omega);have s6:ls (ac (cn (.str "down")) an) U S5=.ok (.lst S5.length) (S5++[⟨false,[.str "down"]⟩]):=by simp
 have d6:Dp (S5++[⟨false,[.str "down"]⟩]) t k (n+1):=d5.app;have k6:Kp S (S5++[⟨false,[.str "down"]⟩]) t k:=k5.trans Kp.app;generalize S5++[(⟨false,[.str "down"]⟩:Cell)]=S6 at *;refine⟨S6.length,[.str "up"]++List.replicate m g++[.str "down"],S6++[⟨false,[.str "up"]++List.replicate m g++[.str "down"]⟩],?_,Gu,by simp,fun g' hg'=>?_,d6.app,k6.trans Kp.app,k6.len⟩
 ·rw[Ua,Ua,s1,Gm,Ua,s2,Gm];simp only[Ua,Gcz,Vf,Gbw,Zy,r7,Gaq,Gm,ln,Gku,sb,ml,a4,s6,a6]
 ·simp only[Ay,AA,List.mem_replicate]at hg';rcases hg' with(h|h)|h
  ·exact .inl h
  ·rw[h.2];exact Gwa hg
  ·exact .inr h
end
def sm0:Sv:=(sa (cmp (ir1 (ac (o2 Gr (b1 Hb (ac YG an)) XE) an)) [none,some 0] (gn 0) ttrue (o2 DL.getD XV (cl 2 (Gh Ge) (ac XI (ac XG an))))) (gn 8))
def sm1:Sv:=(sif (tb (o2 eqD (cl 2 (Gh Ge) (ac XH (ac XG an))) XC))
  (sa (o2 Gr (o2 Gr QF (o2 Je (ls (ac (o2 DL.getD XV (cl 2 (Gh Ge) (ac XH (ac XG an)))) an)) (o2 Uy (b1 Hb (ac YG an)) XE))) QG) (gn 8))
  DL.skip)
def sm2:Sv:=(sa (o2 Gr (o2 Gr Y9 YG) Y9) (gn 10))
def sm3:Sv:=(sa (ls (ac (o2 Je YC (b1 Hb (ac YL an))) (ac (o2 Je YC (b1 Hb (ac YL an))) (ac (o2 Je YC (b1 Hb (ac YL an))) an)))) (gn 11))
def sm4:Sv:=(sfor (ir2 (ac XE (ac (o2 Uy (b1 Hb (ac YL an)) XE) an))) (gn 9) Km)
def sm5:Sv:=(sa (o2 DL.getD (ls (ac ZO (ac (tp (ac XG (ac (o2 Uy (b1 Hb (ac YL an)) XE) an))) an))) (cl 2 (Gh Ge) (ac XH (ac XG an)))) (gt (gcons (gn 9) (gcons (gn 13) gnil)) 2))
def sm6:Sv:=(ss (o2 DL.getD ZU (cl 2 (Gh Ge) (ac XH (ac XY an)))) (o2 DL.getD YD YJ) ZE Jg)
def sm7:Sv:=(ss (o2 Wg (cl 2 (Gh Ge) (ac XH (ac XY an))) XU) (o2 DL.getD YD XG) XC Jg)
def sm8:Sv:=(ss (o2 Wg (cl 2 (Gh Ge) (ac XH (ac XY an))) XU) (o2 DL.getD YD XE) (o1 Gds XE) Jg)
def sm9:Sv:=(sret (tp (ac (tp (ac (b1 Qr (ac YL an)) (ac (b1 Qr (ac YS an)) an))) (ac (b1 Qr (ac (cmp (isrc YD) [none] (gn 0) ttrue (b1 Qr (ac XH an))) an)) an))))
def smF:Sv:=(sif (tb (o2 eqD (cl 2 (Gh Ge) (ac XH (ac YM an))) XC)) (sret (cl 1 (Gh Qh) (ac XH an))) DL.skip)
def smR:Sv:=(sq sm0 (sq sm1 (sq sm2 (sq sm3 (sq sm4 (sq sm5 (sq sm6 (sq sm7 (sq sm8 (sq smF sm9))))))))))
def okF(h1:0<=a1/\a1<=1)(h2:0<=br)(h3:0<=a3/\a3<=1):Ok3 [.e,.c,.p br 0 1 pr,.c,.e] ([0,a1,br,a3,0],[0,1,0,0,0],[0,0,0,1,0]):=by
 refine⟨rfl,rfl,rfl,fun i p l r f e1 e2 e3 e4=>?_⟩;have hi:i<5:=(Aa.mp e1).1;rcases(by omega:i=0\/i=1\/i=2\/i=3\/i=4)with rfl|rfl|rfl|rfl|rfl<;>
  (cases (Ab e1);cases (Ab e2);cases (Ab e3);cases (Ab e4);simp[wat,hol];try omega)
def Gnn(d:Dp S t k n)(hn:n<2^49):∃(ps:List Pl)(us:List Bool)(s0:S3)(S':Sto)(n':Nat),Qh [.lst t] S=.ok (.tup [cD ps us,stE s0]) S'/\Cn ps us/\3<=ps.length/\Gd ps s0/\Dp S' t k n'/\n'<2^50:=by
 obtain⟨r1,pr,S1,e1,g1',h1,d1,k1⟩:=Ux (m:=3) (xs:=[.non,.int 5,.int 0]) d (by omega) rfl (by simp) (by simp);have hpr:pr=.non\/∃i,pr=.int i/\0<=i/\i<=99:=by
  simp only[Ad,Av,or_false]at h1;rcases h1 with rfl|rfl|rfl
  ·exact .inl rfl
  ·exact .inr ⟨5,rfl,by decide,by decide⟩
  ·exact .inr ⟨0,rfl,by decide,by decide⟩
 obtain⟨r2,S2,e2,a2,b2,d2,k2⟩:=Kj (m:=4) d1 (by omega) (by decide) (by decide);obtain⟨r3,S3,e3,a3,b3,d3,k3⟩:=Kj (m:=2) d2 (by omega) (by decide) (by decide);obtain⟨r4,S4,e4,a4,b4,d4,k4⟩:=Kj (m:=2) d3 (by omega) (by decide) (by decide);obtain⟨br,hbr⟩:∃br:Int,3+r2=br:=⟨_,rfl⟩
 have gp:∀S,DL.getD (.tup [.str "pound",.int br,.int 0,.int 1,pr]) (.int 1) S=.ok (.int br) S:=fun S=>Hy (Hc (by decide) rfl);refine⟨[.e,.c,.p br 0 1 pr,.c,.e],[true,true,false,false],([0,r3,br,r4,0],[0,1,0,0,0],[0,0,0,1,0]),S4,n+4,?_,⟨fun p hp=>?_,(by show 5<=13;decide),rfl⟩,(by show 3<=5;decide),(okF (by omega) (by omega) (by omega)).gd (by show 5<=13;decide),d4.mono (by omega),by omega⟩
 ·unfold Qh;rw[Gs];simp only[Xe];refine(Gi (U':=[some (.lst t),some pr,none,none,none]) (S':=S1) (by simp[e1,g1'])).trans ?_;refine(Gi (U':=[some (.lst t),some pr,some (.tup [.str "pound",.int br,.int 0,.int 1,pr]),none,none]) (S':=S2) (by simp[e2,hbr])).trans ?_;refine(Gi (U':=[some (.lst t),some pr,some (.tup [.str "pound",.int br,.int 0,.int 1,pr]),some (.tup [.tup [.str "end"],.tup [.str "chamber"],.tup [.str "pound",.int br,.int 0,.int 1,pr],.tup [.str "chamber"],.tup [.str "end"]]),none]) (S':=S2) (by simp)).trans ?_;refine(Gi (U':=[some (.lst t),some pr,some (.tup [.str "pound",.int br,.int 0,.int 1,pr]),some (.tup [.tup [.str "end"],.tup [.str "chamber"],.tup [.str "pound",.int br,.int 0,.int 1,pr],.tup [.str "chamber"],.tup [.str "end"]]),some (.tup [.int 0,.int r3,.int br,.int r4,.int 0])]) (S':=S4) (by simp[e3,e4,gp])).trans ?_;simp;exact⟨rfl,rfl⟩
 ·simp only[Ad,Av,or_false]at hp;rcases hp with rfl|rfl|rfl|rfl|rfl
  ·trivial
  ·trivial
  ·exact⟨by omega,by omega,by decide,by omega,by decide,by decide,hpr⟩
  ·trivial
  ·trivial
section
variable{S:Sto}{t k n I:Nat}{mid:List Pl}{room:Int}{x1 x3 x4 x5 x6:BQ D}
noncomputable abbrev r0(t I:Nat)(room:Int)(x1 x3 x4 x5 x6 x8 x10:BQ D):Lc:=[some (.lst t),x1,some (.int room),x3,x4,x5,x6,some (.lst I),x8,none,x10,none,none,none]
def Gra(d:Dp S t k n)(hn:n<2^45)(hI:S[I]?=some ⟨false,mid.map Pl.toD⟩)(It:I≠t)(Ik:I≠k)(m1:1<=mid.length)(m3:mid.length<=3):
  ∃(G:Nat)(gs:List D)(S':Sto),(∀X:Sv,fin ((sq sm0 (sq sm1 X)) (r0 t I room x1 x3 x4 x5 x6 none none) S)=fin (X (r0 t I room x1 x3 x4 x5 x6 (some (.lst G)) none) S'))/\S'[G]?=some ⟨false,gs⟩/\gs.length=mid.length+1/\(∀g∈gs,g=.str "up"\/g=.str "down")/\Dp S' t k (n+10)/\Kp S S' t k/\S.length<=G:=by
 have lt:=d.lt;have ln:=Gar hI;simp only[Ai]at ln;obtain⟨gs,S1,e1,q1,l1,b1',d1,k1⟩:=Hav (f:=ir1 (ac (o2 Gr (b1 Hb (ac YG an)) XE) an)) (U:=r0 t I room x1 x3 x4 x5 x6 none none) (N:=mid.length+1) d (by omega) (by omega) (Ghg (n:=mid.length+1) (by simp[ln]) (by omega)) rfl;have s1:sm0 (r0 t I room x1 x3 x4 x5 x6 none none) S=.nx (r0 t I room x1 x3 x4 x5 x6 (some (.lst S.length)) none) S1:=by
  unfold sm0;rw[Ub,e1];rfl
 obtain⟨r,S2,e2,y0,y1,d2,k2⟩:=Kj (m:=2) d1 (by omega) (by decide) (by decide);by_cases c:r=0
 ·subst c;obtain⟨G,gs',S3,e3,q3,l3,b3,d3,k3,lG⟩:=Haw (U:=r0 t I room x1 x3 x4 x5 x6 (some (.lst S.length)) none) (m:=mid.length-1) d2 (by omega) rfl rfl ((k1.trans k2).at hI It Ik) (by simp;omega) (by omega) It Ik;refine⟨G,gs',S3,fun X=>(Gi s1).trans (Gi ?_),q3,by omega,b3,d3.mono (by omega),k1.trans (k2.trans k3),Ak (k1.trans k2).len lG⟩;unfold sm1;rw[Gas (S1:=S2) (by simp[e2]),Ub,e3];rfl
 ·refine⟨S.length,gs,S2,fun X=>(Gi s1).trans (Gi ?_),k2.at q1 (by omega) (by omega),l1,b1',d2.mono (by omega),k1.trans k2,Ac _⟩;unfold sm1;rw[Gfz (S1:=S2) (by simp[e2,c])];rfl
def Gh3{x:Nat}{s:S3}(M:Ms SB S t k n q x y z s)(o:Ok3 ps s){i:Nat}(hi:i<3)(i1:1<=i)(hp:ps[j]?=some .e)(v0:0<=v)(v3:v<=3):∃c S',DL.getD (.lst q) (.int (i:Int)) S=.ok (.lst c) S/\Jg (.lst c) (.int (j:Int)) (.int v) S=some S'/\(j+1=ps.length->i=1->Jg (.lst c) (.int (-1)) (.int v) S=some S')/\Ms SB S' t k n q x y z (up3 i s j v)/\Ok3 ps (up3 i s j v):=by
 have jl:=(Aa.mp hp).1;obtain⟨c,S',g1,g2,g3,M'⟩:=M.put (i:=i) (j:=j) (v:=v) hi (by rw[o.l0];exact jl) (by rw[o.l1];exact jl) (by rw[o.l2];exact jl);rw[o.l1]at g3;refine⟨c,S',g1,g2,g3,M',o.put hp (Af (by rw[o.l1];exact jl)) (Af (by rw[o.l2];exact jl)) v0 (fun z=>absurd z (by omega)) (fun _=>v3) (fun _=>rfl) (fun _=>rfl)⟩
def Gk4(d:Dp S t k n)(hn:n<2^44)(hI:S[I]?=some ⟨false,mid.map Pl.toD⟩)(It:I≠t)(Ik:I≠k)(m1:1<=mid.length)(m3:mid.length<=3)(hr:room=1\/room=2)(hmid:∀p∈mid,p.ok/\p.isE=false/\∀br de ro pr,p=.p br de ro pr->ro=room):
  ∃(ps:List Pl)(us:List Bool)(s0:S3)(S':Sto)(n':Nat),fin (smR (r0 t I room x1 x3 x4 x5 x6 none none) S)=.ok (.tup [cD ps us,stE s0]) S'/\Cn ps us/\3<=ps.length/\Gd ps s0/\Dp S' t k n'/\n'<2^50:=by
 have lt:=d.lt;obtain⟨G,gs,S2,hX,qG,lg,bg,d2,k2,lG⟩:=Gra (x1:=x1) (x3:=x3) (x4:=x4) (x5:=x5) (x6:=x6) (room:=room) d (by omega) hI It Ik m1 m3;obtain⟨us,rfl⟩:=Gje bg;rw[Ai]at lg;have hI2:=k2.at hI It Ik;obtain⟨ps,hps⟩:∃ps:List Pl,ps=.e::(mid++[.e]):=⟨_,rfl⟩
 have pl:ps.length=mid.length+2:=by rw[hps];simp
 have pe0:ps[0]?=some .e:=by rw[hps];rfl
 have pem:ps[mid.length+1]?=some .e:=by rw[hps];simp
 have pin:∀i,i<mid.length->∃p,ps[i+1]?=some p/\p∈mid:=fun i hi=>⟨mid[i],by rw[hps,AO,AD hi,Af hi],AY hi⟩
 have pok:∀p∈ps,p.ok:=fun p hp=>by
  rw[hps]at hp;rcases Ad.mp hp with rfl|hp
  ·trivial
  ·rcases Ay.mp hp with hp|hp
   ·exact(hmid p hp).1
   ·rw[AA.mp hp];trivial
 obtain⟨P,S3,e3,q3,x3',l3⟩:LN (o2 Gr (o2 Gr Y9 YG) Y9) (r0 t I room x1 x3 x4 x5 x6 (some (.lst G)) none) S2 (([.tup [.str "end"]]++mid.map Pl.toD)++[.tup [.str "end"]]):=
  Gh2 (LN.le (Gh2 (LN.le (le_ls (by simp) (by simp))) (fun S' x=>le_vr rfl (x.at hI2)) (by simp;omega))) (fun S' x=>LN.le (le_ls (by simp) (by simp))) (by simp;omega)
 have ep:([D.tup [.str "end"]]++mid.map Pl.toD)++[.tup [.str "end"]]=ps.map Pl.toD:=by rw[hps];simp[Pl.toD]
 rw[ep]at q3;have s3:sm2 (r0 t I room x1 x3 x4 x5 x6 (some (.lst G)) none) S2=.nx (r0 t I room x1 x3 x4 x5 x6 (some (.lst G)) (some (.lst P))) S3:=by
  unfold sm2;rw[Ub,e3];rfl
 have d3:Dp S3 t k (n+10):=d2.ext x3';have lt3:=d3.lt;have qG3:=x3'.at qG;have lnP:∀S':Sto,S'[P]?=some ⟨false,ps.map Pl.toD⟩->Hb [.lst P] S'=.ok (.int ((mid.length+2:Nat):Int)) S':=fun S' h=>by rw[Gar h];simp only[Ai,pl]
 have Pt:P≠t:=by have:=k2.len;omega
 have Pk:P≠k:=by have:=k2.len;omega
 have Gt:G≠t:=by omega
 have Gk:G≠k:=by omega
 have zl:∀S',Ex S3 S'->b1 Hb (ac YL an) (r0 t I room x1 x3 x4 x5 x6 (some (.lst G)) (some (.lst P))) S'=.ok (.int ((mid.length+2:Nat):Int)) S':=fun S' x=>by
  have:=lnP S' (x.at q3);generalize ((mid.length+2:Nat):Int)=nn at *;simp[this]
 obtain⟨q,x,y,z,S4,e4,M4,x4'⟩:=Gq7 (A:=List.replicate (mid.length+2) 0) (B:=List.replicate (mid.length+2) 0) (C:=List.replicate (mid.length+2) 0) (U:=r0 t I room x1 x3 x4 x5 x6 (some (.lst G)) (some (.lst P))) d3 (zero_row zl (by omega)) (fun S' h=>zero_row (fun S'' h'=>zl S'' (h.trans h')) (by omega)) (fun S' h=>zero_row (fun S'' h'=>zl S'' (h.trans h')) (by omega));have s4:sm3 (r0 t I room x1 x3 x4 x5 x6 (some (.lst G)) (some (.lst P))) S3=.nx (re t P q room x1 x3 x4 x5 x6 (some (.lst I)) (some (.lst G)) none none none) S4:=by
  unfold sm3;rw[Ub,e4];rfl
 have o4:Ok3 ps (List.replicate (mid.length+2) 0,List.replicate (mid.length+2) 0,List.replicate (mid.length+2) 0):=by
  refine⟨by simp[pl],by simp[pl],by simp[pl],fun i p l r f h1 h2 h3 h4=>?_⟩;have e2:=Bn (Ao h2);have e3:=Bn (Ao h3);have e4:=Bn (Ao h4);subst e2 e3 e4;have ok:=pok p (Ao h1);cases p with
  |e=>simp[wat,hol]
  |c=>simp[wat,hol]
  |p br de ro pr=>simp only[Pl.ok]at ok;simp[wat,hol];omega
 obtain⟨U',S5,ef,y9,y12,s5,hU,M5,o5,_⟩:=Ud (nxt:=(rsrc ((1:Nat):Int) mid.length).nxt) (g:=gn 9) (b:=Km) (l:=(List.range mid.length).map fun i:Nat=>D.int (((1:Nat):Int)+i))
  (fun i U S'=>∃y9 y12 s',U=re t P q room x1 x3 x4 x5 x6 (some (.lst I)) (some (.lst G)) y9 y12 none/\Ms S3 S' t k (n+10+3*i) q x y z s'/\Ok3 ps s'/\∀a,i+1<=a->a<mid.length+2->s'.2.1[a]?=some 0/\s'.2.2[a]?=some 0)
  (fun i _ S' _=>Gq9) (fun i dt U S' hd ⟨y9,y12,s',e,M,o,zz⟩=>by
   have hi:i<mid.length:=by have:=(Aa.mp hd).1;simpa using this
   rw[Ar,By hi]at hd;have hd:D.int (((1:Nat):Int)+(i:Int))=dt:=Ab hd;rw[show((1:Nat):Int)+(i:Int)=((i+1:Nat):Int) by omega]at hd;subst hd e;obtain⟨p,hp,hpm⟩:=pin i hi;obtain⟨z1,z2⟩:=zz (i+1) (Ac _) (by omega);obtain⟨h1,h2,h3⟩:=hmid p hpm;obtain⟨S6,w12,s6,e6,M6,o6,k6⟩:=Gk3 (x1:=x1) (x3:=x3) (x4:=x4) (x5:=x5) (x6:=x6) (x7:=some (.lst I)) (x8:=some (.lst G)) (x12:=y12) (x13:=none) M (by omega) q3 Pt Pk hr o hp h1 h2 h3 z1 z2;refine⟨re t P q room x1 x3 x4 x5 x6 (some (.lst I)) (some (.lst G)) (some (.int ((i+1:Nat):Int))) y12 none,_,S6,rfl,e6,_,w12,s6,rfl,M6.mono (by omega),o6,fun a ha hb=>?_⟩;obtain⟨k61,k62⟩:=k6 a (by omega);rw[k61,k62];exact zz a (by omega) hb)
  (rsrc ((1:Nat):Int) mid.length).fuel 0 (re t P q room x1 x3 x4 x5 x6 (some (.lst I)) (some (.lst G)) none none none) S4 (At _) ⟨none,none,_,rfl,M4,o4,fun a _ hb=>by simp[hb]⟩ (by simp[rsrc])
 subst hU;rw[Ai,List.length_range]at M5;have s5':sm4 (re t P q room x1 x3 x4 x5 x6 (some (.lst I)) (some (.lst G)) none none none) S4=.nx (re t P q room x1 x3 x4 x5 x6 (some (.lst I)) (some (.lst G)) y9 y12 none) S5:=by
  have hs:ir2 (ac XE (ac (o2 Uy (b1 Hb (ac YL an)) XE) an)) (re t P q room x1 x3 x4 x5 x6 (some (.lst I)) (some (.lst G)) none none none) S4=.ok (rsrc ((1:Nat):Int) mid.length) S4:=Hau (i:=1) (n:=mid.length) (j:=((mid.length+2:Nat):Int)-1) (by
   have:=lnP S4 (M4.kp.at q3 Pt Pk);generalize ((mid.length+2:Nat):Int)=nn at *;simp[this]) (by omega) (by omega) (by omega)
  unfold sm4;rw[Ki,hs,Ha];exact ef
 obtain⟨r6,d6,S6,e6,g6,h6,M6⟩:=M5.pick (m:=2) (xs:=[.tup [.int 1,.int 0],.tup [.int 2,.int (((mid.length+2:Nat):Int)-1)]]) (by omega) rfl (by simp) (by simp);obtain⟨i6,j6,rfl,hi6,hi6',pj6⟩:∃i6 j6:Nat,d6=.tup [.int i6,.int j6]/\i6<3/\1<=i6/\ps[j6]?=some .e:=by
  simp only[Ad,Av,or_false]at h6;rcases h6 with rfl|rfl
  ·exact⟨1,0,rfl,by decide,by decide,pe0⟩
  ·exact⟨2,mid.length+1,by rw[show((mid.length+2:Nat):Int)-1=((mid.length+1:Nat):Int) by omega];rfl,by decide,by decide,pem⟩
 have s6:sm5 (re t P q room x1 x3 x4 x5 x6 (some (.lst I)) (some (.lst G)) y9 y12 none) S5=.nx (re t P q room x1 x3 x4 x5 x6 (some (.lst I)) (some (.lst G)) (some (.int i6)) y12 (some (.int j6))) S6:=by
  have:=lnP S5 (M5.kp.at q3 Pt Pk);unfold sm5;generalize ((mid.length+2:Nat):Int)=nn at *;generalize (i6:Int)=ii at *;generalize (j6:Int)=jj at *;simp[this,e6,g6,gt,gcons,gnil]
 obtain⟨r7,d7,S7,e7,g7,h7,M7⟩:=M6.pick (m:=4) (xs:=[.int 0,.int 0,.int 1,.int 2]) (by omega) rfl (by simp) (by simp);obtain⟨v7,rfl,v70,v73⟩:∃v7:Int,d7=.int v7/\0<=v7/\v7<=3:=by
  simp only[Ad,Av,or_false]at h7;rcases h7 with rfl|rfl|rfl|rfl<;>exact⟨_,rfl,by decide,by decide⟩
 obtain⟨c8,S8,g8,t8,_,M8,o8⟩:=Gh3 M7 o5 hi6 hi6' pj6 v70 v73;have s8:sm6 (re t P q room x1 x3 x4 x5 x6 (some (.lst I)) (some (.lst G)) (some (.int i6)) y12 (some (.int j6))) S6=.nx (re t P q room x1 x3 x4 x5 x6 (some (.lst I)) (some (.lst G)) (some (.int i6)) y12 (some (.int j6))) S8:=by
  unfold sm6;generalize (i6:Int)=ii at *;generalize (j6:Int)=jj at *;simp[e7,g7,g8,t8]
 have dv:∀(r:Int)(S:Sto),Wg (.int r) (.int 3) S=.ok (.int (r / 3)) S:=fun r S=>Ghd (by decide) (by decide);obtain⟨r9,S9,e9,r90,r91,M9⟩:=M8.draw (m:=4) (by omega) (by decide) (by decide);obtain⟨c10,S10,g10,t10,_,M10,o10⟩:=Gh3 (i:=2) (j:=0) (v:=r9 / 3) M9 o8 (by decide) (by decide) pe0 (by omega) (by omega);have g10:DL.getD (.lst q) (.int 2) S9=.ok (.lst c10) S9:=g10;have t10:Jg (.lst c10) (.int 0) (.int (r9 / 3)) S9=some S10:=t10;have s10:sm7 (re t P q room x1 x3 x4 x5 x6 (some (.lst I)) (some (.lst G)) (some (.int i6)) y12 (some (.int j6))) S8=.nx (re t P q room x1 x3 x4 x5 x6 (some (.lst I)) (some (.lst G)) (some (.int i6)) y12 (some (.int j6))) S10:=by
  unfold sm7;generalize (i6:Int)=ii at *;generalize (j6:Int)=jj at *;simp[e9,dv,g10,t10]
 obtain⟨r11,S11,e11,r110,r111,M11⟩:=M10.draw (m:=4) (by omega) (by decide) (by decide);obtain⟨c12,S12,g12,_,t12,M12,o12⟩:=Gh3 (i:=1) (j:=mid.length+1) (v:=r11 / 3) M11 o10 (by decide) (by decide) pem (by omega) (by omega);have g12:DL.getD (.lst q) (.int 1) S11=.ok (.lst c12) S11:=g12;have t12:=t12 (by omega) rfl;have s12:sm8 (re t P q room x1 x3 x4 x5 x6 (some (.lst I)) (some (.lst G)) (some (.int i6)) y12 (some (.int j6))) S10=.nx (re t P q room x1 x3 x4 x5 x6 (some (.lst I)) (some (.lst G)) (some (.int i6)) y12 (some (.int j6))) S12:=by
  unfold sm8;generalize (i6:Int)=ii at *;generalize (j6:Int)=jj at *;simp[e11,dv,g12,t12]
 obtain⟨r14,S14,e14,r140,r141,M14⟩:=M12.draw (m:=8) (by omega) (by decide) (by decide);by_cases c14:r14=0
 ·subst c14;obtain⟨ps',us',s',S',n',f,C',g3,g',dd',hn'⟩:=Gnn M14.d (by omega);refine⟨ps',us',s',S',n',?_,C',g3,g',dd',hn'⟩;unfold smR;refine(hX _).trans ((Gi s3).trans ((Gi s4).trans ((Gi s5').trans ((Gi s6).trans ((Gi s8).trans ((Gi s10).trans ((Gi s12).trans ?_)))))));refine Hq ?_;unfold smF;generalize stE s'=sd at *;generalize cD ps' us'=cd at *;simp[e14,f]
 have s14:smF (re t P q room x1 x3 x4 x5 x6 (some (.lst I)) (some (.lst G)) (some (.int i6)) y12 (some (.int j6))) S12=.nx (re t P q room x1 x3 x4 x5 x6 (some (.lst I)) (some (.lst G)) (some (.int i6)) y12 (some (.int j6))) S14:=by
  unfold smF;generalize (i6:Int)=ii at *;generalize (j6:Int)=jj at *;simp[e14,c14]
 obtain⟨S13,e13,x13⟩:=Gl3 (f:=vr 11) (U:=re t P q room x1 x3 x4 x5 x6 (some (.lst I)) (some (.lst G)) (some (.int i6)) y12 (some (.int j6))) M14.rr.rw rfl;have tp1:=Yt (M14.kp.at q3 Pt Pk);have tg1:=Yt (M14.kp.at qG3 Gt Gk);simp only at tp1 tg1;refine⟨ps,us,_,S13,n+30,?_,⟨pok,by omega,by omega⟩,by omega,o12.gd (by omega),(M14.ex x13).d.mono (by omega),by omega⟩;unfold smR;refine(hX _).trans ((Gi s3).trans ((Gi s4).trans ((Gi s5').trans ((Gi s6).trans ((Gi s8).trans ((Gi s10).trans ((Gi s12).trans ((Gi s14).trans ?_))))))));unfold sm9;generalize b1 Qr (ac (cmp (isrc YD) [none] (gn 0) ttrue (b1 Qr (ac XH an))) an)=E at e13⊢;unfold cD;generalize ps.map Pl.toD=PD at *;generalize us.map gd=GD at *;unfold re at e13⊢;simp[tp1,tg1,e13];rfl
end
noncomputable abbrev rh(t:Nat)(x1 x2 x3 x4 x5 x6 x7:BQ D):Lc:=[some (.lst t),x1,x2,x3,x4,x5,x6,x7,none,none,none,none,none,none]
set_option tactic.hygienic true
def Grb:Gmi:=fun{S t k} d=>by
 have lt:=d.lt;obtain⟨kd,S1,e1,a1,b1',d1,k1⟩:=Kj (m:=8) d (by decide) (by decide) (by decide);have s1:(sa (cl 2 (Gh Ge) (ac (vr 0) (ac (cn (.int 8)) an))) (gn 1)) (rh t none none none none none none none) S=.nx (rh t (some (.int kd)) none none none none none none) S1:=by simp[e1]
 by_cases c:5<kd
 ·obtain⟨ps,us,s0,S',n',f,C,g3,g,dd,hn⟩:=Gjw (w:=kd-5) d1 (by decide) (by omega);refine⟨ps,us,s0,S',n',?_,C,g3,g,dd,hn⟩;unfold Kf;rw[Gs];simp only[Vs];refine(Gi s1).trans ?_;refine Hq ?_;generalize stE s0=sd at *;generalize cD ps us=cd at *;simp[c,f]
 ·have s1':(sif (tb (o2 gtD (vr 1) (cn (.int 5)))) (sret (cl 2 (Gh Jk) (ac (vr 0) (ac (o2 Uy (vr 1) (cn (.int 5))) an)))) DL.skip) (rh t (some (.int kd)) none none none none none none) S1=.nx (rh t (some (.int kd)) none none none none none none) S1:=by simp[c]
  obtain⟨r2,S2,e2,a2,b2,d2,k2⟩:=Kj (m:=2) d1 (by decide) (by decide) (by decide);obtain⟨room,hroom⟩:∃room:Int,1+r2=room:=⟨_,rfl⟩
  have hr:room=1\/room=2:=by omega
  have s2:(sa (o2 Gr (cn (.int 1)) (cl 2 (Gh Ge) (ac (vr 0) (ac (cn (.int 2)) an)))) (gn 2)) (rh t (some (.int kd)) none none none none none none) S1=.nx (rh t (some (.int kd)) (some (.int room)) none none none none none) S2:=by simp[e2,hroom]
  obtain⟨r3,S3,e3,a3,b3,d3,k3⟩:=Kj (m:=98) d2 (by decide) (by decide) (by decide);obtain⟨r4,pr,S4,e4,g4,h4,d4,k4⟩:=Ux (m:=4) (xs:=[.non,.int 3,.int 0,.int (1+r3)]) d3 (by decide) rfl (by simp) (by simp);have hpr:pr=.non\/∃i,pr=.int i/\0<=i/\i<=99:=by
   simp only[Ad,Av,or_false]at h4;rcases h4 with rfl|rfl|rfl|rfl
   ·exact .inl rfl
   ·exact .inr ⟨3,rfl,by decide,by decide⟩
   ·exact .inr ⟨0,rfl,by decide,by decide⟩
   ·exact .inr ⟨_,rfl,by omega,by omega⟩
  have s4:(sa (o2 DL.getD (ls (ac (cn .non) (ac (cn (.int 3)) (ac (cn (.int 0)) (ac (o2 Gr (cn (.int 1)) (cl 2 (Gh Ge) (ac (vr 0) (ac (cn (.int 98)) an)))) an))))) (cl 2 (Gh Ge) (ac (vr 0) (ac (cn (.int 4)) an)))) (gn 3)) (rh t (some (.int kd)) (some (.int room)) none none none none none) S2=.nx (rh t (some (.int kd)) (some (.int room)) (some pr) none none none none) S4:=by simp[e3,e4,g4]
  obtain⟨r5,S5,e5,a5,b5,d5,k5⟩:=Kj (m:=2) d4 (by decide) (by decide) (by decide);obtain⟨br,hbr⟩:∃br:Int,1+r5=br:=⟨_,rfl⟩
  have s5:(sa (o2 Gr (cn (.int 1)) (cl 2 (Gh Ge) (ac (vr 0) (ac (cn (.int 2)) an)))) (gn 4)) (rh t (some (.int kd)) (some (.int room)) (some pr) none none none none) S4=.nx (rh t (some (.int kd)) (some (.int room)) (some pr) (some (.int br)) none none none) S5:=by simp[e5,hbr]
  obtain⟨r6,de',S6,e6,g6,h6,d6,k6⟩:=Ux (m:=4) (xs:=[.int 0,.int 0,.int 1,.int br]) d5 (by decide) rfl (by simp) (by simp);obtain⟨de,rfl,de1,de2⟩:∃de:Int,de'=.int de/\0<=de/\de<=br:=by
   simp only[Ad,Av,or_false]at h6;rcases h6 with rfl|rfl|rfl|rfl<;>exact⟨_,rfl,by omega,by omega⟩
  have s6:(sa (tp (ac (cn (.str "pound")) (ac (vr 4) (ac (o2 DL.getD (ls (ac (cn (.int 0)) (ac (cn (.int 0)) (ac (cn (.int 1)) (ac (vr 4) an))))) (cl 2 (Gh Ge) (ac (vr 0) (ac (cn (.int 4)) an)))) (ac (vr 2) (ac (vr 3) an)))))) (gn 5)) (rh t (some (.int kd)) (some (.int room)) (some pr) (some (.int br)) none none none) S5=.nx (rh t (some (.int kd)) (some (.int room)) (some pr) (some (.int br)) (some (Pl.p br de room pr).toD) none none) S6:=by simp[e6,g6,Pl.toD]
  have s7:(sa (tp (ac (cn (.str "chamber")) an)) (gn 6)) (rh t (some (.int kd)) (some (.int room)) (some pr) (some (.int br)) (some (Pl.p br de room pr).toD) none none) S6=.nx (rh t (some (.int kd)) (some (.int room)) (some pr) (some (.int br)) (some (Pl.p br de room pr).toD) (some Pl.c.toD) none) S6:=by simp[Pl.toD]
  have okP:(Pl.p br de room pr).ok:=⟨by omega,by omega,de1,de2,by omega,by omega,hpr⟩
  have q8:(S6++[(⟨false,[Pl.c.toD,(Pl.p br de room pr).toD,Pl.c.toD]⟩:Cell)])[S6.length]?=some ⟨false,[Pl.c.toD,(Pl.p br de room pr).toD,Pl.c.toD]⟩:=Gu;have d8:Dp (S6++[⟨false,[Pl.c.toD,(Pl.p br de room pr).toD,Pl.c.toD]⟩]) t k 6:=d6.app;have lt6:=d6.lt;have l8:S6.length<=(S6++[(⟨false,[Pl.c.toD,(Pl.p br de room pr).toD,Pl.c.toD]⟩:Cell)]).length:=by simp
  have s8:(sa (ls (ac (vr 6) (ac (vr 5) (ac (vr 6) an)))) (gn 7)) (rh t (some (.int kd)) (some (.int room)) (some pr) (some (.int br)) (some (Pl.p br de room pr).toD) (some Pl.c.toD) none) S6=.nx (rh t (some (.int kd)) (some (.int room)) (some pr) (some (.int br)) (some (Pl.p br de room pr).toD) (some Pl.c.toD) (some (.lst S6.length))) (S6++[⟨false,[Pl.c.toD,(Pl.p br de room pr).toD,Pl.c.toD]⟩]):=by
   generalize Pl.c.toD=cc at *;generalize (Pl.p br de room pr).toD=pp at *;simp
  generalize S6++[(⟨false,[Pl.c.toD,(Pl.p br de room pr).toD,Pl.c.toD]⟩:Cell)]=S8 at *;have q9:(S8++[(⟨false,[.int 0,.int 1,.int 2,.int 3]⟩:Cell)])[S8.length]?=some ⟨false,[.int 0,.int 1,.int 2,.int 3]⟩:=Gu;have i9:=in4 (c:=kd) q9 a1 (by omega);have q89:=Gz (c:=⟨false,[.int 0,.int 1,.int 2,.int 3]⟩) q8;have d9:Dp (S8++[⟨false,[.int 0,.int 1,.int 2,.int 3]⟩]) t k 6:=d8.app;have l9:S6.length<=(S8++[(⟨false,[.int 0,.int 1,.int 2,.int 3]⟩:Cell)]).length:=by simp;omega
  have ct:tb (o2 inP (vr 1) (ls (ac (cn (.int 0)) (ac (cn (.int 1)) (ac (cn (.int 2)) (ac (cn (.int 3)) an)))))) (rh t (some (.int kd)) (some (.int room)) (some pr) (some (.int br)) (some (Pl.p br de room pr).toD) (some Pl.c.toD) (some (.lst S6.length))) S8=.ok (decide (kd<=3)) (S8++[⟨false,[.int 0,.int 1,.int 2,.int 3]⟩]):=by
   simp only[Hc7,Ua,Zy,AO,AS,Gpw,Vf,Gaq,Gbw,Gm];rw[if_pos (by decide),Gm,i9];rfl
  generalize S8++[(⟨false,[.int 0,.int 1,.int 2,.int 3]⟩:Cell)]=S9 at *;have fins:∀(I:Nat)(S':Sto)(mid:List Pl),(sif (tb (o2 inP (vr 1) (ls (ac (cn (.int 0)) (ac (cn (.int 1)) (ac (cn (.int 2)) (ac (cn (.int 3)) an))))))) (sa (o2 Je (ls (ac (vr 6) an)) (o2 DL.getD (ls (ac (cn (.int 1)) (ac (cn (.int 2)) (ac (cn (.int 2)) (ac (cn (.int 3)) an))))) (vr 1))) (gn 7)) DL.skip) (rh t (some (.int kd)) (some (.int room)) (some pr) (some (.int br)) (some (Pl.p br de room pr).toD) (some Pl.c.toD) (some (.lst S6.length))) S8=.nx (rh t (some (.int kd)) (some (.int room)) (some pr) (some (.int br)) (some (Pl.p br de room pr).toD) (some Pl.c.toD) (some (.lst I))) S'->S'[I]?=some ⟨false,mid.map Pl.toD⟩->Dp S' t k 6->I≠t->I≠k->1<=mid.length->mid.length<=3->(∀p∈mid,p.ok/\p.isE=false/\∀b' d' ro' pr',p=.p b' d' ro' pr'->ro'=room)→
    ∃(ps:List Pl)(us:List Bool)(s0:Law.S3)(S':Sto)(n:Nat),Kf [.lst t] S=.ok (.tup [cD ps us,stE s0]) S'/\Cn ps us/\3<=ps.length/\Gd ps s0/\Dp S' t k n/\n<2^50:=fun I S' mid h9 hI dd It Ik m1 m3 hm=>by
   obtain⟨ps,us,s0,S'',n',f,C,g3,g,dd',hn⟩:=Gk4 (x1:=some (.int kd)) (x3:=some pr) (x4:=some (.int br)) (x5:=some (Pl.p br de room pr).toD) (x6:=some Pl.c.toD) dd (by decide) hI It Ik m1 m3 hr hm;refine⟨ps,us,s0,S'',n',?_,C,g3,g,dd',hn⟩;unfold Kf;rw[Gs];simp only[Vs];exact(Gi s1).trans ((Gi s1').trans ((Gi s2).trans ((Gi s4).trans ((Gi s5).trans ((Gi s6).trans ((Gi s7).trans ((Gi s8).trans ((Gi h9).trans f))))))))
  by_cases c3:kd<=3
  ·rw[decide_eq_true c3]at ct;have q10:(S9++[(⟨false,[Pl.c.toD]⟩:Cell)])[S9.length]?=some ⟨false,[Pl.c.toD]⟩:=Gu;have d10:Dp (S9++[⟨false,[Pl.c.toD]⟩]) t k 6:=d9.app;have l10:(S9++[(⟨false,[Pl.c.toD]⟩:Cell)]).length=S9.length+1:=by simp
   have s10:ls (ac (vr 6) an) (rh t (some (.int kd)) (some (.int room)) (some pr) (some (.int br)) (some (Pl.p br de room pr).toD) (some Pl.c.toD) (some (.lst S6.length))) S9=.ok (.lst S9.length) (S9++[⟨false,[Pl.c.toD]⟩]):=by
    generalize Pl.c.toD=cc at *;simp
   generalize S9++[(⟨false,[Pl.c.toD]⟩:Cell)]=S10 at *;have q11:(S10++[(⟨false,[.int 1,.int 2,.int 2,.int 3]⟩:Cell)])[S10.length]?=some ⟨false,[.int 1,.int 2,.int 2,.int 3]⟩:=Gu;have q10':=Gz (c:=⟨false,[.int 1,.int 2,.int 2,.int 3]⟩) q10;have d11:Dp (S10++[⟨false,[.int 1,.int 2,.int 2,.int 3]⟩]) t k 6:=d10.app;have s11:ls (ac (cn (.int 1)) (ac (cn (.int 2)) (ac (cn (.int 2)) (ac (cn (.int 3)) an)))) (rh t (some (.int kd)) (some (.int room)) (some pr) (some (.int br)) (some (Pl.p br de room pr).toD) (some Pl.c.toD) (some (.lst S6.length))) S10=.ok (.lst S10.length) (S10++[⟨false,[.int 1,.int 2,.int 2,.int 3]⟩]):=by simp
   have l11:(S10++[(⟨false,[.int 1,.int 2,.int 2,.int 3]⟩:Cell)]).length=S10.length+1:=by simp
   generalize S10++[(⟨false,[.int 1,.int 2,.int 2,.int 3]⟩:Cell)]=S11 at *;obtain⟨m,g11,m1,m3⟩:∃m:Nat,DL.getD (.lst S10.length) (.int kd) S11=.ok (.int (m:Int)) S11/\1<=m/\m<=3:=by
    rcases(by omega:kd=0\/kd=1\/kd=2\/kd=3)with h|h|h|h<;>rw[h]
    ·exact⟨1,Jx q11 rfl,by decide,by decide⟩
    ·exact⟨2,Jx q11 rfl,by decide,by decide⟩
    ·exact⟨2,Jx q11 rfl,by decide,by decide⟩
    ·exact⟨3,Jx q11 rfl,by decide,by decide⟩
   have ml:=Ghh (n:=m) q10' (by omega);refine fins S11.length (S11++[⟨false,List.replicate m Pl.c.toD⟩]) (List.replicate m .c) ?_ (by rw[List.map_replicate];exact Gu) d11.app (by omega) (by omega) (by simpa using m1) (by simpa using m3) (fun p hp=>by rw[Bn hp];exact⟨trivial,rfl,fun _ _ _ _ z=>nomatch z⟩);rw[Gas ct,Ub,Ua,s10,Gm,Ua,s11,Gm];simp only[Zy,AO,AS,Gm,g11,ml,Ha];rfl
  ·rw[decide_eq_false c3]at ct;exact fins S6.length S9 [.c,.p br de room pr,.c] (by rw[Gfz ct]; rfl) q89 d9 (by omega) (by omega) (by show 1<=3; decide) (by show 3<=3; decide) (fun p hp=>by
    simp only[Ad,Av,or_false]at hp;rcases hp with rfl|rfl|rfl
    ·exact⟨trivial,rfl,fun _ _ _ _ z=>nomatch z⟩
    ·exact⟨okP,rfl,fun _ _ _ _ z=>by injection z with _ _ z _;exact z.symm⟩
    ·exact⟨trivial,rfl,fun _ _ _ _ z=>nomatch z⟩)
set_option tactic.hygienic false
section
variable{ps:List Pl}{us:List Bool}{s0:S3}{S:Sto}{N:Nat->Prop}{x:D}
def Gmk(h:∀S',isD "list" x S'=.ok (.bl false) S'):Hm [cD ps us,stE s0,x] S=.ok (.bl false) S/\Ji [cD ps us,stE s0,x] S=.ok (.bl false) S:=by
 constructor
 ·unfold Hm;rw[Gs];unfold Jp;refine Hq ?_;rw[Gas (S1:=S)]
  ·rfl
  ·generalize stE s0=sd at *;generalize cD ps us=cd at *;simp[h,Kt]
 ·unfold Ji;rw[Gs];unfold Qz;refine Hq ?_;rw[Gas (S1:=S)]
  ·rfl
  ·generalize stE s0=sd at *;generalize cD ps us=cd at *;simp[h,Kt]
set_option tactic.hygienic true
def Gu2(C:Cn ps us)(h:Th S N x):∃(b:Bool)(s:Str)(S':Sto),PyData.strOk s=true/\(∀S',Ex S S'->Yo [x] S'=.ok (.str s) S')/\Hm [cD ps us,stE s0,x] S=.ok (.bl b) S'/\Ex S S'/\∀S1,Ex S S1->∃S2,Ji [cD ps us,stE s0,x] S1=.ok (.bl b) S2/\Ex S1 S2:=by
 have h1:1<=ps.length:=by have:=C.hu;omega
 have oth:∀{b e:Nat},(∀S',isD "list" x S'=.ok (.bl false) S')->Sho S x b e->b<=1000000->e<40->∃(b:Bool)(s:Str)(S':Sto),PyData.strOk s=true/\(∀S',Ex S S'->Yo [x] S'=.ok (.str s) S')/\Hm [cD ps us,stE s0,x] S=.ok (.bl b) S'/\Ex S S'/\∀S1,Ex S S1->∃S2,Ji [cD ps us,stE s0,x] S1=.ok (.bl b) S2/\Ex S1 S2:=fun hi hs hb he=>by
  obtain⟨s,a,r⟩:=hs.repr hb he;exact⟨false,s,S,a,r,(Gmk hi).1,.refl,fun S1 _=>⟨S1,(Gmk hi).2,.refl⟩⟩
 cases h with
 |lst hq nt hi hl=>
  rename_i q xs;obtain⟨pl,L⟩:=Li.mk' hq (fun y hy=>(hi y hy).it) (by omega);obtain⟨b,S',e,x1,hS⟩:=both (s0:=s0) C h1 L;obtain⟨s,a,r⟩:=Hag (S:=S) (l:=xs) (b:=4000) (e:=4) (fun d hd=>(hi d hd).it.h.sho) (by omega) (by decide);exact⟨b,s,S',a,fun S' x=>r S' q false x (x.at hq),e,x1,hS⟩
 |tup hi hl=>
  rename_i xs;exact oth (fun S'=>by simp[isD,isT,tyN]) (Gt5 (b:=4000) (e:=4) fun d hd=>(hi d hd).it.h.sho) (by omega) (by decide)
 |non=>exact oth (fun S'=>by simp[isD,isT,tyN]) Glx (by decide) (by decide)
 |str=>exact oth (fun S'=>by simp[isD,isT,tyN]) Gz6 (by decide) (by decide)
set_option tactic.hygienic false
noncomputable abbrev rLw(q t:Nat)(c st:D)(x4 x5 x6 x7 x8 x9 x10 x11 x12 x13 x14 x15 x16 x17:BQ D):Lc:=[some (.lst q),some (.lst t),some c,some st,x4,x5,x6,x7,x8,x9,x10,x11,x12,x13,x14,x15,x16,x17]
def Grc(C:Cn ps us)(h:Th S N x):
  ∃y16 y17 S',Xq (rLw q t (cD ps us) (stE s0) x4 x5 x6 x7 x8 x9 x10 x11 x12 x13 x14 (some x) x16 x17) S=.nx (rLw q t (cD ps us) (stE s0) x4 x5 x6 x7 x8 x9 x10 x11 x12 x13 x14 (some x) y16 y17) S'/\Ex S S':=by
 obtain⟨b,s,S1,so,re,e1,x1,hS⟩:=Gu2 (s0:=s0) C h;obtain⟨S2,e2,x2⟩:=hS S1 x1;refine⟨some (.str s),some (.bl b),S2,?_,x1.trans x2⟩;have r0:=re S .refl;have r1:=re S1 x1;have ns:=Hdf (S:=S1) so;have ib:isD "bool" (.bl b) S1=.ok (.bl true) S1:=by simp[isD,isT,tyN]
 have nb:neD (.bl b) (.bl b) S2=.ok (.bl false) S2:=by cases b<;>rfl
 generalize stE s0=sd at *;generalize cD ps us=cd at *;simp[Xq,r0,e1,ib,r1,ns,e2,nb,Kt]
end
section
variable{ps:List Pl}{us:List Bool}{s0 s:S3}{S:Sto}{N:Nat->Prop}{U:Lc}{xs:List D}
def Gwb{oa ob:Ev (BQ Int)}(h:LE e U S xs)(ha:∀S',Ex S S'->oa U S'=.ok lo S')(hb:∀S',Ex S S'->ob U S'=.ok hi S'):LN (sl2 e oa ob) U S (DL.Kl xs lo hi):=by
 obtain⟨a,S',e1,q1,x1⟩:=h;refine⟨S'.length,S'++[⟨false,DL.Kl xs lo hi⟩],?_,Gu,x1.trans Ex.app,x1.len⟩;show Out.bind (e U S) _=_;rw[e1,Gm,ha S' x1,Gm,hb S' x1,Gm];show Wp (.lst a) lo hi S'=_;simp only[Wp,q1]
def Hax(h:U[i]?=some (some (.lst a)))(q:S[a]?=some ⟨false,xs⟩):LN (b1 Giu (ac (vr i) an)) U S xs.reverse:=
 ⟨S.length,S++[⟨false,xs.reverse⟩],by simp[h,Giu,q],Gu,Ex.app,Ac _⟩
def Grd(C:Cn ps us)(g:Gd ps s):∃dd S',Hx [cD ps us,stE s,.int 100] S=.ok dd S'/\(∀N:Nat->Prop,(∀q,S.length<=q->q<S'.length->N q)->Th S' N dd)/\Ex S S':=by
 rcases Gmd (S:=S) (most:=100) C g (by decide) (by decide)with⟨m,S3,d,hm,f3,q3,x3⟩|⟨S3,f3,x3⟩
 ·exact⟨_,S3,f3,fun N hN=>.lst q3 (hN _ (Ac _) (Aa.mp q3).1) (fun y hy=>by
   obtain⟨s',hs',rfl⟩:=AH.mp hy;exact Guz C (d.gd C g (Ac _) hs')) (by rw[Ai,d.len]; omega),x3⟩
 ·exact⟨.non,S3,f3,fun _ _=>.non,x3⟩
def Gre:∃l',Wp (.tup l) none (some 1) S=.ok (.tup l') S/\(∀y∈l',y∈l)/\l'.length<=1:=by
 have e:HT.sIx l.length l.length (some 1)=min 1 l.length:=HT.Vo _ _ 1;show∃l',(if HT.sIx l.length 0 none=0/\HT.sIx l.length l.length (some 1)=l.length then Out.ok (D.tup l) S else .ok (.tup (DL.Kl l none (some 1))) S)=_/\_;rw[e];split
 ·rename_i c;exact⟨l,rfl,fun _ h=>h,by omega⟩
 ·refine⟨_,rfl,fun y hy=>BG (BE hy),?_⟩;unfold DL.Kl;rw[e,AT,HT.Qd];omega
def rq_of{l:List D}(hM:∀ i∈M,i.natAbs<10^60)(h:∀ y∈l,y∈M.map D.int\/∃ i:Int,y=.int i/\i.natAbs<10^60)(hl:l.length<=16):Rq S N (.tup l):=.tup (fun y hy=>by
 rcases h y hy with h|⟨i,rfl,hi⟩
 ·obtain⟨i,hi,rfl⟩:=AH.mp h;exact .inl ⟨i,rfl,hM i hi⟩
 ·exact .inl ⟨i,rfl,hi⟩) hl
def iq3{a b:D}(ha:Rq S N a)(hb:Rq S N b)(hc:Rq S N c):Iq S N (.tup [a,b,c]):=.tup (fun y hy=>by
 simp only[Ad,Av,or_false]at hy;rcases hy with rfl|rfl|rfl
 ·exact ha
 ·exact hb
 ·exact hc) (by simp)
def moE:Ev D:=tp (ac YV (ac YU (ac (o2 Gr (o2 Je (tp (ac XC an)) (o2 Uy (b1 Hb (ac ZC an)) XE)) YW) an)))
def Grf(C:Cn ps us)(g:Gd ps s0)(g3:3<=ps.length):∃mr,moE (rLw q t c (stE s0) x4 x5 x6 x7 none none none none none none none none none none) S=.ok mr S/\∀S N,Iq S N mr:=by
 have h13:=C.hl;have lf:=g.lF;obtain⟨a,b,_⟩:=Geq C g;obtain⟨QB,hZ⟩:∃QB:List D,QB=(List.replicate (s0.2.2.length-1) [D.int 0]).flatten:=⟨_,rfl⟩
 have zl:QB.length=s0.2.2.length-1:=by rw[hZ];simp
 have zm:∀y∈QB,y=.int 0:=fun y hy=>by
  rw[hZ]at hy;obtain⟨l,h1,h2⟩:=List.mem_flatten.mp hy;rw[Bn h1]at h2;exact AA.mp h2
 refine⟨.tup [.tup (s0.1.map D.int),.tup (s0.2.1.map D.int),.tup (QB++[.int 1])],?_,fun S N=>iq3 (Ger C g).1 (Ger C g).2.1 (rq_of (M:=[]) (by simp) (fun y hy=>.inr ?_) (by simp;omega))⟩
 ·have p0:DL.getD (stE s0) (.int 0) S=.ok (.tup (s0.1.map D.int)) S:=p0e;have p1:DL.getD (stE s0) (.int 1) S=.ok (.tup (s0.2.1.map D.int)) S:=p1e;have p2:DL.getD (stE s0) (.int 2) S=.ok (.tup (s0.2.2.map D.int)) S:=Hy (Hc (by decide) rfl);have ln:Hb [.tup (s0.2.2.map D.int)] S=.ok (.int (s0.2.2.length:Int)) S:=by simp
  have ml:Je (.tup [.int 0]) (.int ((s0.2.2.length:Int)-1)) S=.ok (.tup QB) S:=by
   show(if 0<[D.int 0].length/\(2<=(s0.2.2.length:Int)-1/\(s0.2.2.length:Int)-1<=1000000)/\[D.int 0].length*((s0.2.2.length:Int)-1).toNat<=1000000 then Out.ok (D.tup (List.replicate ((s0.2.2.length:Int)-1).toNat [D.int 0]).flatten) S else .bad)=_;rw[if_pos ⟨by decide,by omega,by simp only[List.length_singleton];omega⟩,hZ,show((s0.2.2.length:Int)-1).toNat=s0.2.2.length-1 by omega]
  have ad:Gr (.tup QB) (.tup [.int 1]) S=.ok (.tup (QB++[.int 1])) S:=Vn (by simp;omega);unfold moE;generalize stE s0=sd at *;generalize (s0.2.2.length:Int)=nn at *;generalize QB++[.int 1]=ZZ at *;generalize s0.1.map D.int=M1 at *;generalize s0.2.1.map D.int=M2 at *;generalize s0.2.2.map D.int=M3 at *;simp[p0,p1,p2,ln,ml,ad]
 ·rcases Ay.mp hy with h|h
  ·exact⟨0,zm y h,by decide⟩
  ·exact⟨1,AA.mp h,by decide⟩
end
section
variable{ps:List Pl}{us:List Bool}{s0 s:S3}{S:Sto}{N:Nat->Prop}{U:Lc}{xs:List D}
def odE:Ev D:=ls (ac (tp (ac (o2 Gr (o2 Gr (sl2 YD onone ZB) (tp (ac ZG an))) (sl2 YD ZI onone)) (ac Y2 (ac ZE an)))) (ac (tp (ac YD (ac (o2 Gr (o2 Gr (sl2 Y2 onone ZB) (tp (ac XG an))) (sl2 Y2 ZI onone)) (ac ZE an)))) (ac (tp (ac YD (ac (o2 Gr QI (sl2 Y2 ZB onone)) (ac ZE an)))) (ac (tp (ac (o2 Gr (sl2 YD onone (osome (o1 Gds XE))) YW) (ac Y2 (ac ZE an)))) an))))
def Hay(C:Cn ps us)(g:Gd ps s0):∃xs,odE (rLw q t c sd x4 x5 x6 x7 x8 x9 x10 (some (.tup (s0.1.map D.int))) (some (.tup (s0.2.1.map D.int))) (some (.tup (s0.2.2.map D.int))) none none none none) S=.ok (.lst S.length) (S++[⟨false,xs⟩])/\xs.length=4/\∀x∈xs,∀S N,Iq S N x:=by
 have h13:=C.hl;obtain⟨a,b,_⟩:=Geq C g;obtain⟨A1,e1,m1,n1⟩:=Gre (S:=S) (l:=s0.1.map D.int);obtain⟨A2,e2,m2,n2⟩:=Gep (S:=S) (l:=s0.1.map D.int) (lo:=some 2) (hi:=none);obtain⟨A3,e3,m3,n3⟩:=Gep (S:=S) (l:=s0.1.map D.int) (lo:=none) (hi:=some (-1));obtain⟨B1,e4,m4,n4⟩:=Gre (S:=S) (l:=s0.2.1.map D.int);obtain⟨B2,e5,m5,n5⟩:=Gep (S:=S) (l:=s0.2.1.map D.int) (lo:=some 2) (hi:=none);obtain⟨B3,e6,m6,n6⟩:=Gep (S:=S) (l:=s0.2.1.map D.int) (lo:=some 1) (hi:=none);rw[Ai,g.lL]at n2 n3;rw[Ai,g.lR]at n5 n6;have t1:Gr (.tup A1) (.tup [.int 10]) S=.ok (.tup (A1++[.int 10])) S:=Vn (by simp;omega);have t2:Gr (.tup (A1++[.int 10])) (.tup A2) S=.ok (.tup (A1++[.int 10]++A2)) S:=Vn (by simp;omega);have t3:Gr (.tup B1) (.tup [.int 2]) S=.ok (.tup (B1++[.int 2])) S:=Vn (by simp;omega);have t4:Gr (.tup (B1++[.int 2])) (.tup B2) S=.ok (.tup (B1++[.int 2]++B2)) S:=Vn (by simp;omega);have t5:Gr (.tup [.int 61]) (.tup B3) S=.ok (.tup ([.int 61]++B3)) S:=Vn (by simp;omega);have t6:Gr (.tup A3) (.tup [.int 1]) S=.ok (.tup (A3++[.int 1])) S:=Vn (by simp;omega);have c1:∀ S N,Rq S N (.tup (A1++[.int 10]++A2)):=fun S N=>rq_of a (fun y hy=>by
  rcases Ay.mp hy with h|h
  ·rcases Ay.mp h with h|h
   ·exact .inl (m1 y h)
   ·exact .inr ⟨10,AA.mp h,by decide⟩
  ·exact .inl (m2 y h)) (by simp; omega)
 have c2:∀ S N,Rq S N (.tup (B1++[.int 2]++B2)):=fun S N=>rq_of b (fun y hy=>by
  rcases Ay.mp hy with h|h
  ·rcases Ay.mp h with h|h
   ·exact .inl (m4 y h)
   ·exact .inr ⟨2,AA.mp h,by decide⟩
  ·exact .inl (m5 y h)) (by simp; omega)
 have c3:∀ S N,Rq S N (.tup ([.int 61]++B3)):=fun S N=>rq_of b (fun y hy=>by
  rcases Ay.mp hy with h|h
  ·exact .inr ⟨61,AA.mp h,by decide⟩
  ·exact .inl (m6 y h)) (by simp; omega)
 have c4:∀ S N,Rq S N (.tup (A3++[.int 1])):=fun S N=>rq_of a (fun y hy=>by
  rcases Ay.mp hy with h|h
  ·exact .inl (m3 y h)
  ·exact .inr ⟨1,AA.mp h,by decide⟩) (by simp; omega)
 refine⟨[.tup [.tup (A1++[.int 10]++A2),.tup (s0.2.1.map D.int),.tup (s0.2.2.map D.int)],.tup [.tup (s0.1.map D.int),.tup (B1++[.int 2]++B2),.tup (s0.2.2.map D.int)],.tup [.tup (s0.1.map D.int),.tup ([.int 61]++B3),.tup (s0.2.2.map D.int)],.tup [.tup (A3++[.int 1]),.tup (s0.2.1.map D.int),.tup (s0.2.2.map D.int)]],?_,rfl,fun x hx S N=>?_⟩
 ·unfold odE;generalize A1++[.int 10]++A2=X1 at *;generalize A1++[.int 10]=X2 at *;generalize B1++[.int 2]++B2=X3 at *;generalize B1++[.int 2]=X4 at *;generalize [.int 61]++B3=X5 at *;generalize A3++[.int 1]=X6 at *;generalize s0.1.map D.int=M1 at *;generalize s0.2.1.map D.int=M2 at *;generalize s0.2.2.map D.int=M3 at *;simp[e1,e2,e3,e4,e5,e6,t1,t2,t3,t4,t5,t6]
 ·obtain⟨r1,r2,r3⟩:=Ger (S:=S) (N:=N) C g;simp only[Ad,Av,or_false]at hx;rcases hx with rfl|rfl|rfl|rfl
  ·exact iq3 (c1 _ _) r2 r3
  ·exact iq3 r1 (c2 _ _) r3
  ·exact iq3 r1 (c3 _ _) r3
  ·exact iq3 (c4 _ _) r2 r3
end
def tuE:Ev D:=o2 Gr (sl2 XR QK onone) (sl2 XR onone QK)
def rvE:Ev D:=o2 Gr (b1 Giu (ac XR an)) (ls (ac YS an))
def apS:Sv:=sx (mt Gba (vr 9) (ac (o2 Gr (vr 4) (ls (ac (o2 DL.getD (vr 14) (cl 2 (Gh Ge) (ac (vr 1) (ac (cn (.int 4)) an)))) an))) an))
abbrev ZX:=o2 DL.getD XR X0
def bR:Sv:=(sq (sa (cl 2 (Gh Ge) (ac XI (ac (b1 Hb (ac XR an)) an))) (gn 5))
  (sq (sa tuE (gn 6))
  (sq (sa (cl 3 (Gh Hx) (ac XM (ac ZX (ac ZA an)))) (gn 7))
  (sq (sa moE (gn 8))
  (sq (sa (ls (ac XR (ac X9 (ac YG (ac rvE an))))) (gn 9))
  (sq (sfor Z7 (gn 10) Xp)
  (sq (sa XJ (gt (gcons (gn 11) (gcons (gn 12) (gcons (gn 13) gnil))) 3))
  (sq (sa odE (gn 14))
  (sq apS
  (sq (sfor (isrc YJ) (gn 15) Xq)
  (sret X8)))))))))))
abbrev rW(q t:Nat)(ps:List Pl)(us:List Bool)(s0:S3)(x4 x5 x6 x7 x8 x9 x10:BQ D):Lc:=rLw q t (cD ps us) (stE s0) x4 x5 x6 x7 x8 x9 x10 none none none none none none none
section
variable{ps:List Pl}{us:List Bool}{s0 s:S3}{S:Sto}{U:Lc}{t k n w q:Nat}{u:List S3}
structure Ths(S:Sto)(t k n w W:Nat)(u:List S3)(xs:List D)(m:Nat):Prop where
 c:S[W]?=some ⟨false,xs⟩
 th:∀x∈xs,Th S (fun q=>q≠t/\q≠k/\q≠W) x
 ln:xs.length=m
 w:S[w]?=some ⟨false,u.map stE⟩
 d:Dp S t k n
def hN3:∀q,(q≠t/\q≠k/\q≠W)->q≠t/\q≠k:=fun _ h=>⟨h.1,h.2.1⟩
def Ths.kp(h:Ths S t k n w W u xs m)(e:Kp S S' t k)(d:Dp S' t k n')(Wt:W≠t)(Wk:W≠k)(wt:w≠t)(wk:w≠k):Ths S' t k n' w W u xs m:=⟨e.at h.c Wt Wk,fun x hx=>(h.th x hx).kp e hN3,h.ln,e.at h.w wt wk,d⟩
def Ths.add(h:Ths S t k n w W u xs m)(hx:Th S (fun q=>q≠t/\q≠k/\q≠W) x)(Wt:W≠t)(Wk:W≠k)(ww:w≠W):Ths (S.set W ⟨false,xs++[x]⟩) t k n w W u (xs++[x]) (m+1):=
 ⟨As (Aa.mp h.c).1,fun y hy=>by
  have:Th S (fun q=>q≠t/\q≠k/\q≠W) y:=by
   rcases Ay.mp hy with hy|hy
   ·exact h.th y hy
   ·rw[AA.mp hy];exact hx
  exact this.kp (t:=W) (k:=W) (Kp.set (.inl rfl)) fun _ z=>⟨z.2.2,z.2.2⟩,by simp[h.ln],by rw[Ah (Ne.symm ww)]; exact h.w,h.d.set Wt Wk⟩
def Ges(C:Cn ps us)(gu:∀s∈u,Gd ps s):∀y∈u.map stE,Iq S N y:=fun y hy=>by
 obtain⟨s',hs',rfl⟩:=AH.mp hy;exact Guz C (gu s' hs')
def Gu3(C:Cn ps us)(g:Gd ps s0)(g3:3<=ps.length)(gu:∀s∈u,Gd ps s)(hu:u.length<=100)(h1:1<=u.length)(d:Dp S t k n)(hn:n<2^52)(hw:S[w]?=some ⟨false,u.map stE⟩)(wt:w≠t)(wk:w≠k):
  ∃x5 x6 x7 x8 W xs S',(∀X:Sv,fin ((sq (sa (cl 2 (Gh Ge) (ac XI (ac (b1 Hb (ac XR an)) an))) (gn 5)) (sq (sa tuE (gn 6)) (sq (sa (cl 3 (Gh Hx) (ac XM (ac ZX (ac ZA an)))) (gn 7)) (sq (sa moE (gn 8)) (sq (sa (ls (ac XR (ac X9 (ac YG (ac rvE an))))) (gn 9)) X))))) (rW q t ps us s0 (some (.lst w)) none none none none none none) S)=fin (X (rW q t ps us s0 (some (.lst w)) x5 x6 x7 x8 (some (.lst W)) none) S'))/\Ths S' t k (n+1) w W u xs 4/\W≠t/\W≠k/\w≠W:=by
 have ln:=Gar hw;simp only[Ai]at ln;obtain⟨r,S4,f4,r0,r1,d4,k4⟩:=Kj (m:=(u.length:Int)) d (by omega) (by omega) (by omega);obtain⟨at',rfl⟩:∃at':Nat,r=at':=⟨r.toNat,by omega⟩
 have ha:=Af (show at'<u.length by omega);generalize u[at']=s at ha;have gs:=gu s (Ao ha);have w4:=k4.at hw wt wk;have lt4:=d4.lt;have lw4:=(Aa.mp w4).1;have p5:(sa (cl 2 (Gh Ge) (ac XI (ac (b1 Hb (ac XR an)) an))) (gn 5)) (rW q t ps us s0 (some (.lst w)) none none none none none none) S=.nx (rW q t ps us s0 (some (.lst w)) (some (.int at')) none none none none none) S4:=by
  generalize (u.length:Int)=ul at *;generalize stE s0=sd at *;generalize cD ps us=cd at *;simp[ln,f4]
 have cA:=Gdj (l:=u.map stE) (lo:=some (at':Int)) (hi:=none);have cB:=Gdj (l:=u.map stE) (lo:=none) (hi:=some (at':Int));have cAB:(DL.Kl (u.map stE) (some (at':Int)) none).length+(DL.Kl (u.map stE) none (some (at':Int))).length<=u.length:=by
  unfold DL.Kl;rw[HT.Vo,HT.Vo,HT.Qd,HT.Qd];simp only[AT,Ba,Ai];omega
 obtain⟨tu,S5,e5,q5,x5,l5⟩:LN tuE (rW q t ps us s0 (some (.lst w)) (some (.int at')) none none none none none) S4 (DL.Kl (u.map stE) (some (at':Int)) none++DL.Kl (u.map stE) none (some (at':Int))):=
  Gh2 (LN.le (Gwb (le_vr rfl w4) (fun S' _=>by simp) (fun S' _=>by simp))) (fun S' x=>LN.le (Gwb (le_vr rfl (x.at w4)) (fun _ _=>by simp) (fun _ _=>by simp))) (by omega)
 have p6:(sa tuE (gn 6)) (rW q t ps us s0 (some (.lst w)) (some (.int at')) none none none none none) S4=.nx (rW q t ps us s0 (some (.lst w)) (some (.int at')) (some (.lst tu)) none none none none) S5:=by rw[Ub,e5];rfl
 have w5:=x5.at w4;have lx5:=x5.len;have gs5:DL.getD (.lst w) (.int (at':Int)) S5=.ok (stE s) S5:=Jx w5 (Hc (by omega) (by rw[AK,Ar,ha];rfl));obtain⟨ot,S6,e6,h6,x6⟩:=Grd (S:=S5) (us:=us) C gs;have p7:(sa (cl 3 (Gh Hx) (ac XM (ac ZX (ac ZA an)))) (gn 7)) (rW q t ps us s0 (some (.lst w)) (some (.int at')) (some (.lst tu)) none none none none) S5=.nx (rW q t ps us s0 (some (.lst w)) (some (.int at')) (some (.lst tu)) (some ot) none none none) S6:=by
  unfold rW;generalize (at':Int)=aa at *;generalize stE s0=sd at *;generalize stE s=sd2 at *;generalize cD ps us=cd at *;simp[gs5,e6]
 obtain⟨mr,e8,h8⟩:=Grf (S:=S6) (q:=q) (t:=t) (c:=cD ps us) (x4:=some (.lst w)) (x5:=some (.int at')) (x6:=some (.lst tu)) (x7:=some ot) C g g3;have p8:(sa moE (gn 8)) (rW q t ps us s0 (some (.lst w)) (some (.int at')) (some (.lst tu)) (some ot) none none none) S6=.nx (rW q t ps us s0 (some (.lst w)) (some (.int at')) (some (.lst tu)) (some ot) (some mr) none none) S6:=by rw[Ub,e8];rfl
 have w6:=x6.at w5;have q6:=x6.at q5;have lx6:=x6.len;obtain⟨rv,S7,e7,q7,x7,l7⟩:LN rvE (rW q t ps us s0 (some (.lst w)) (some (.int at')) (some (.lst tu)) (some ot) (some mr) none none) S6 ((u.map stE).reverse++[mr]):=
  Gh2 (LN.le (Hax rfl w6)) (fun S' x=>LN.le (le_ls (by simp) (by simp))) (by simp;omega)
 have lx7:=x7.len;have p9:(sa (ls (ac XR (ac X9 (ac YG (ac rvE an))))) (gn 9)) (rW q t ps us s0 (some (.lst w)) (some (.int at')) (some (.lst tu)) (some ot) (some mr) none none) S6=.nx (rW q t ps us s0 (some (.lst w)) (some (.int at')) (some (.lst tu)) (some ot) (some mr) (some (.lst S7.length)) none) (S7++[⟨false,[.lst w,.lst tu,ot,.lst rv]⟩]):=by
  unfold rW at e7⊢;generalize rvE=E at *;generalize stE s0=sd at *;generalize cD ps us=cd at *;simp[e7]
 have lq5:=(Aa.mp q5).1;have lq7:=(Aa.mp q7).1;have k7:Kp S6 (S7++[⟨false,[.lst w,.lst tu,ot,.lst rv]⟩]) t k:=x7.kp.trans Kp.app;refine⟨_,_,_,_,S7.length,_,S7++[⟨false,[.lst w,.lst tu,ot,.lst rv]⟩],fun X=>(Gi p5).trans ((Gi p6).trans ((Gi p7).trans ((Gi p8).trans (Gi p9)))),⟨Gu,fun x hx=>?_,rfl,Gz (x7.at w6),((((d4.ext x5).ext x6).ext x7).app)⟩,by omega,by omega,by omega⟩;simp only[Ad,Av,or_false]at hx;rcases hx with rfl|rfl|rfl|rfl
 ·exact .lst (Gz (x7.at w6)) ⟨wt,wk,by omega⟩ (Ges C gu) (by simp;omega)
 ·refine .lst (Gz (x7.at q6)) ⟨by omega,by omega,by omega⟩ (fun y hy=>?_) (by rw[AG];omega);rcases Ay.mp hy with hy|hy
  ·exact Ges C gu y (cA.1 y hy)
  ·exact Ges C gu y (cB.1 y hy)
 ·exact(h6 _ fun q a b=>⟨by omega,by omega,by omega⟩).kp k7 hN3
 ·refine .lst (Gz q7) ⟨by omega,by omega,by omega⟩ (fun y hy=>?_) (by simp;omega);rcases Ay.mp hy with hy|hy
  ·exact Ges C gu y (List.mem_reverse.mp hy)
  ·rw[AA.mp hy];exact h8 _ _
def Grg(C:Cn ps us)(gu:∀s∈u,Gd ps s)(hu:u.length<=100)(h1:1<=u.length)(hn:n<2^54)(h:Ths S t k n w W u xs m)(hm:m<=100)(Wt:W≠t)(Wk:W≠k)(ww:w≠W)(wt:w≠t)(wk:w≠k):
  ∃xs' S',Xp (rW q t ps us s0 (some (.lst w)) x5 x6 x7 x8 (some (.lst W)) x10) S=.nx (rW q t ps us s0 (some (.lst w)) x5 x6 x7 x8 (some (.lst W)) x10) S'/\Ths S' t k (n+3) w W u xs' (m+1):=by
 have lt:=h.d.lt;have lW:=(Aa.mp h.c).1;obtain⟨dd,S1,e1,h1',d1,k1⟩:=Gu1 (N:=fun q=>q≠t/\q≠k/\q≠W) C gu hu h1 h.d (by omega) hN3 (fun q hq=>⟨by omega,by omega,by omega⟩) h.w wt wk;have H:=h.kp k1 d1 Wt Wk wt wk;have lx:=h.ln;have il:isLst (.lst W) S=true:=isL h.c;have ap:=Gv3 (d:=dd) H.c (by omega);refine⟨_,_,?_,H.add h1' Wt Wk ww⟩;generalize (⟨false,xs++[dd]⟩:Cell)=cc at *;unfold rW;generalize stE s0=sd at *;generalize cD ps us=cd at *;simp[Xp,il,e1,ap]
end
section
variable{ps:List Pl}{us:List Bool}{s0 s:S3}{S:Sto}{U:Lc}{t k n w q W m:Nat}{u:List S3}{xs:List D}{x5 x6 x7 x8 x10:BQ D}
set_option tactic.hygienic true
def Grh(C:Cn ps us)(gu:∀s∈u,Gd ps s)(hu:u.length<=100)(h1:1<=u.length)(hn:n<2^53)(h:Ths S t k n w W u xs 4)(Wt:W≠t)(Wk:W≠k)(ww:w≠W)(wt:w≠t)(wk:w≠k):
  ∃y10 xs' S',(sfor (ir1 (ac (cn (.int 4)) an)) (gn 10) Xp) (rW q t ps us s0 (some (.lst w)) x5 x6 x7 x8 (some (.lst W)) x10) S=.nx (rW q t ps us s0 (some (.lst w)) x5 x6 x7 x8 (some (.lst W)) y10) S'/\Ths S' t k (n+12) w W u xs' 8:=by
 obtain⟨U',S',ef,y10,xs',hU,H⟩:=Ud (nxt:=(rsrc ((0:Nat):Int) 4).nxt) (g:=gn 10) (b:=Xp) (l:=(List.range 4).map fun k:Nat=>D.int (((0:Nat):Int)+k))
  (fun i U S'=>∃y10 xs',U=rW q t ps us s0 (some (.lst w)) x5 x6 x7 x8 (some (.lst W)) y10/\Ths S' t k (n+3*i) w W u xs' (4+i)/\i<=4)
  (fun i _ S' _=>Gq9)
  (fun i d U S' hd ⟨y10,xs',e,H,hi⟩=>by
   subst e;have i4:i<4:=by simpa using(Aa.mp hd).1
   obtain⟨xs2,S2,e2,H2⟩:=Grg (q:=q) (s0:=s0) (x5:=x5) (x6:=x6) (x7:=x7) (x8:=x8) (x10:=some d) C gu hu h1 (by omega) H (by omega) Wt Wk ww wt wk;exact⟨rW q t ps us s0 (some (.lst w)) x5 x6 x7 x8 (some (.lst W)) (some d),_,S2,rfl,e2,some d,xs2,rfl,by rw[show n+3*(i+1)=n+3*i+3 by omega,show 4+(i+1)=4+i+1 by omega]; exact H2,by omega⟩)
  5 0 (rW q t ps us s0 (some (.lst w)) x5 x6 x7 x8 (some (.lst W)) x10) S (At _) ⟨x10,xs,rfl,h,by decide⟩ (by simp)
 subst hU;have l4:((List.range 4).map fun k:Nat=>D.int (((0:Nat):Int)+k)).length=4:=by simp
 rw[l4]at H;refine⟨y10,xs',S',?_,H.1⟩;rw[Ki,Ghg (n:=4) (S':=S) (by simp) (by decide),Ha];exact ef
set_option tactic.hygienic false
abbrev rV(q t:Nat)(ps:List Pl)(us:List Bool)(s0:S3)(w:Nat)(x5 x6 x7 x8 x10:BQ D)(W:Nat)(x14 x15 x16 x17:BQ D):Lc:=rLw q t (cD ps us) (stE s0) (some (.lst w)) x5 x6 x7 x8 (some (.lst W)) x10 (some (.tup (s0.1.map D.int))) (some (.tup (s0.2.1.map D.int))) (some (.tup (s0.2.2.map D.int))) x14 x15 x16 x17
set_option tactic.hygienic true
def Gu4(C:Cn ps us)(g:Gd ps s0)(gu:∀s∈u,Gd ps s)(hu:u.length<=100)(hn:n<2^54)(h:Ths S t k n w W u xs m)(hm:m<=100)(Wt:W≠t)(Wk:W≠k)(ww:w≠W)(wt:w≠t)(wk:w≠k):
  ∃x14 xs' S',(∀X:Sv,fin ((sq (sa odE (gn 14)) (sq apS X)) (rV q t ps us s0 w x5 x6 x7 x8 x10 W none none none none) S)=fin (X (rV q t ps us s0 w x5 x6 x7 x8 x10 W x14 none none none) S'))/\Ths S' t k (n+1) w W u xs' (m+1):=by
 have lt:=h.d.lt;have lW:=(Aa.mp h.c).1;obtain⟨ys,e1,ly,hy⟩:=Hay (S:=S) (q:=q) (t:=t) (c:=cD ps us) (sd:=stE s0) (x4:=some (.lst w)) (x5:=x5) (x6:=x6) (x7:=x7) (x8:=x8) (x9:=some (.lst W)) (x10:=x10) C g;obtain⟨r,od,S1,f1,g1',m1,d1,k1⟩:=Ux (m:=4) (xs:=ys) h.d (by omega) (by omega) (by omega) (by omega);have H:=h.kp k1 d1 Wt Wk wt wk;have lk:=k1.len;have H2:Ths (S1++[⟨false,[od]⟩]) t k (n+1) w W u xs m:=H.kp Kp.app d1.app Wt Wk wt wk;have q2:(S1++[(⟨false,[od]⟩:Cell)])[S1.length]?=some ⟨false,[od]⟩:=Gu;have l2:(S1++[(⟨false,[od]⟩:Cell)]).length=S1.length+1:=by simp
 have a2:=We H2.w q2 (by simp;omega);have il:isLst (.lst W) (S++[⟨false,ys⟩])=true:=isL (Gz h.c);have ev:ls (ac (o2 DL.getD (vr 14) (cl 2 (Gh Ge) (ac (vr 1) (ac (cn (.int 4)) an)))) an) (rV q t ps us s0 w x5 x6 x7 x8 x10 W (some (.lst S.length)) none none none) (S++[⟨false,ys⟩])=.ok (.lst S1.length) (S1++[⟨false,[od]⟩]):=by
  unfold rV;generalize stE s0=sd at *;generalize cD ps us=cd at *;generalize S++[(⟨false,ys⟩:Cell)]=S0 at *;simp[f1,g1']
 generalize S1++[(⟨false,[od]⟩:Cell)]=S2 at *;have H3:Ths (S2++[⟨false,u.map stE++[od]⟩]) t k (n+1) w W u xs m:=H2.kp Kp.app H2.d.app Wt Wk wt wk;have q3:(S2++[(⟨false,u.map stE++[od]⟩:Cell)])[S2.length]?=some ⟨false,u.map stE++[od]⟩:=Gu;have lx:=h.ln;have ap:=Gv3 (d:=.lst S2.length) H3.c (by omega);have t3:Th (S2++[⟨false,u.map stE++[od]⟩]) (fun q=>q≠t/\q≠k/\q≠W) (.lst S2.length):=.lst q3 ⟨by omega,by omega,by omega⟩ (fun y hy'=>by
  rcases Ay.mp hy' with hz|hz
  ·exact Ges C gu y hz
  ·rw[AA.mp hz]; exact hy od m1 _ _) (by simp; omega)
 refine⟨some (.lst S.length),_,_,fun X=>?_,H3.add t3 Wt Wk ww⟩;refine(Gi (U':=rV q t ps us s0 w x5 x6 x7 x8 x10 W (some (.lst S.length)) none none none) (S':=S++[⟨false,ys⟩]) (by rw[Ub,e1];rfl)).trans (Gi ?_);unfold apS;have v4:vr 4 (rV q t ps us s0 w x5 x6 x7 x8 x10 W (some (.lst S.length)) none none none) (S++[⟨false,ys⟩])=.ok (.lst w) (S++[⟨false,ys⟩]):=rfl;have v9:vr 9 (rV q t ps us s0 w x5 x6 x7 x8 x10 W (some (.lst S.length)) none none none) (S++[⟨false,ys⟩])=.ok (.lst W) (S++[⟨false,ys⟩]):=rfl;have ea:o2 Gr (vr 4) (ls (ac (o2 DL.getD (vr 14) (cl 2 (Gh Ge) (ac (vr 1) (ac (cn (.int 4)) an)))) an)) (rV q t ps us s0 w x5 x6 x7 x8 x10 W (some (.lst S.length)) none none none) (S++[⟨false,ys⟩])=.ok (.lst S2.length) (S2++[⟨false,u.map stE++[od]⟩]):=by rw[Ua,v4,Gm,ev,Gm,a2]
 rw[Hdb,Hc9,v9,Gm,if_pos il,Vf,ea,Gm,Gbw,Gm,Gm,ap,Ha]
set_option tactic.hygienic false
def Gri(C:Cn ps us)(h:Ths S t k n w W u xs m):∃y15 y16 y17 S',(sfor (isrc YJ) (gn 15) Xq) (rV q t ps us s0 w x5 x6 x7 x8 x10 W x14 none none none) S=.nx (rV q t ps us s0 w x5 x6 x7 x8 x10 W x14 y15 y16 y17) S':=by
 have sr:=Zz h.c;simp only at sr;obtain⟨U',S',ef,y15,y16,y17,hU,x⟩:=Ud (nxt:=(Uk W xs.length).nxt) (g:=gn 15) (b:=Xq) (l:=xs)
  (fun i U S'=>∃y15 y16 y17,U=rV q t ps us s0 w x5 x6 x7 x8 x10 W x14 y15 y16 y17/\Ex S S')
  (fun i _ S' ⟨_,_,_,_,x⟩=>by
   show(S'[W]?).bind (fun c=>c.xs[i]?)=_;rw[x.at h.c]; rfl)
  (fun i d U S' hd ⟨y15,y16,y17,e,x⟩=>by
   subst e;have th:=(h.th d (Ao hd)).kp (x.kp (t:=t) (k:=k)) hN3;obtain⟨z16,z17,S2,e2,x2⟩:=Grc (s0:=s0) (q:=q) (t:=t) (x4:=some (.lst w)) (x5:=x5) (x6:=x6) (x7:=x7) (x8:=x8) (x9:=some (.lst W)) (x10:=x10) (x11:=some (.tup (s0.1.map D.int))) (x12:=some (.tup (s0.2.1.map D.int))) (x13:=some (.tup (s0.2.2.map D.int))) (x14:=x14) (x16:=y16) (x17:=y17) C th;exact⟨rV q t ps us s0 w x5 x6 x7 x8 x10 W x14 (some d) y16 y17,_,S2,rfl,e2,_,_,_,rfl,x.trans x2⟩)
  (xs.length+1) 0 (rV q t ps us s0 w x5 x6 x7 x8 x10 W x14 none none none) S (At _) ⟨none,none,none,rfl,.refl⟩ (by omega)
 subst hU;refine⟨y15,y16,y17,S',?_⟩;rw[Ki,Uc];show bindS (Out.bind (Out.ok (D.lst W) S) Yx) _ _=_;rw[Gm,sr,Ha];exact ef
def Haz(C:Cn ps us)(g:Gd ps s0)(g3:3<=ps.length)(gu:∀s∈u,Gd ps s)(hu:u.length<=100)(h1:1<=u.length)(d:Dp S t k n)(hn:n<2^51)(hw:S[w]?=some ⟨false,u.map stE⟩)(wt:w≠t)(wk:w≠k):
  ∃S',fin (bR (rW q t ps us s0 (some (.lst w)) none none none none none none) S)=.ok (.bl true) S':=by
 obtain⟨x5,x6,x7,x8,W,xs,S1,e1,H1,Wt,Wk,ww⟩:=Gu3 (q:=q) (us:=us) C g g3 gu hu h1 d (by omega) hw wt wk;obtain⟨y10,xs2,S2,e2,H2⟩:=Grh (q:=q) (s0:=s0) (x5:=x5) (x6:=x6) (x7:=x7) (x8:=x8) (x10:=none) C gu hu h1 (by omega) H1 Wt Wk ww wt wk;obtain⟨x14,xs3,S3,e3,H3⟩:=Gu4 (q:=q) (x5:=x5) (x6:=x6) (x7:=x7) (x8:=x8) (x10:=y10) C g gu hu (by omega) H2 (by decide) Wt Wk ww wt wk;obtain⟨y15,y16,y17,S4,e4⟩:=Gri (q:=q) (s0:=s0) (x5:=x5) (x6:=x6) (x7:=x7) (x8:=x8) (x10:=y10) (x14:=x14) C H3;have e5:(sa XJ (gt (gcons (gn 11) (gcons (gn 12) (gcons (gn 13) gnil))) 3)) (rW q t ps us s0 (some (.lst w)) x5 x6 x7 x8 (some (.lst W)) y10) S2=.nx (rV q t ps us s0 w x5 x6 x7 x8 y10 W none none none none) S2:=rfl;refine⟨S4,?_⟩;unfold bR;exact(e1 _).trans ((Gi e2).trans ((Gi e5).trans ((e3 _).trans ((Gi e4).trans (by simp)))))
end
def Grj(hs:Gmi){ns:List Int}(e:S[q]?=some ⟨fz,ns.map D.int⟩):∃S',Gbv [.lst q] S=.ok (.bl true) S':=by
 obtain⟨t,k,S1,f1,d1⟩:=Gt8 e;obtain⟨ps,us,s0,S2,n,f2,C,g3,g,d2,hn⟩:=hs d1;have b1':(sa (cl 1 (Gh Wj) (ac XH an)) (gn 1)) [some (.lst q),none,none,none,none,none,none,none,none,none,none,none,none,none,none,none,none,none] S=.nx [some (.lst q),some (.lst t),none,none,none,none,none,none,none,none,none,none,none,none,none,none,none,none] S1:=by simp[f1]
 have b2':(sa (cl 1 (Gh Kf) (ac XI an)) (gt (gcons (gn 2) (gcons (gn 3) gnil)) 2)) [some (.lst q),some (.lst t),none,none,none,none,none,none,none,none,none,none,none,none,none,none,none,none] S1=.nx (rW q t ps us s0 none none none none none none none) S2:=by
  unfold rW;generalize stE s0=sd0 at *;generalize cD ps us=cd at *;simp[f2,gt,gcons,gnil]
 have go:∀X:D,∀S3,Hx [cD ps us,stE s0,.int 100] S2=.ok X S3->(sa (cl 3 (Gh Hx) (ac XM (ac XJ (ac ZA an)))) (gn 4)) (rW q t ps us s0 none none none none none none none) S2=.nx (rW q t ps us s0 (some X) none none none none none none) S3:=fun X S3 f3=>by
  unfold rW;generalize stE s0=sd0 at *;generalize cD ps us=cd at *;simp[f3]
 rcases Gmd (S:=S2) (most:=100) C g (by decide) (by decide)with⟨m,S3,d,hm,f3,q3,x3⟩|⟨S3,f3,x3⟩
 ·have m1:=d.pos;have lt:=d2.lt;obtain⟨S',e4⟩:=Haz (q:=q) (u:=bq ps us s0 m) C g g3 (fun s hs=>d.gd C g (Ac _) hs) (by rw[d.len];omega) (by rw[d.len];omega) (d2.ext x3) (by omega) q3 (by omega) (by omega);refine⟨S',?_⟩;have nn:Ggn (.lst S2.length) .non S3=.ok (.bl false) S3:=rfl;unfold Gbv;rw[Gs];unfold Gls;refine(Gi b1').trans ((Gi b2').trans ((Gi (go _ _ f3)).trans ((Gi (U':=rW q t ps us s0 (some (.lst S2.length)) none none none none none none) (S':=S3) (by simp[nn])).trans ?_)));exact e4
 ·refine⟨S3,?_⟩;have nn:Ggn .non .non S3=.ok (.bl true) S3:=rfl;unfold Gbv;rw[Gs];unfold Gls;refine(Gi b1').trans ((Gi b2').trans ((Gi (go _ _ f3)).trans (Hq ?_)));simp[nn]
end Law
namespace Law
open PySem PySem.Spec PyProof.Rows L2 DL
def Ha0{S:Sto}{ns:List Int}(e:S[q]?=some ⟨fz,ns.map D.int⟩):∃S',Gbv [.lst q] S=.ok (.bl true) S':=Grj Grb e
def Gjx{K:BM}{mp:List BP}{H:Hp}:∀ns:List Int,RepL K mp H (ns.map D.int) (ns.map V.int)
 |[]=>RepL.nil
 |a::r=>RepL.cons rfl (Gjx r)
theorem hsp(K:BM)(H:Hp)(a:BP)(ns:List Int)(hl:ns.length<=63)(hO:Only H)(hS:SqL K H a (ns.map V.int)):spD K 1 Gbv [.ref a] H (fun v _=>v=.bl true) fun _ _ _=>False:=by
 have hF:SqF K H a (ns.map V.int):=by
  rcases hS with(h|h)|h
  ·rcases hO a with z|⟨o,xs,z⟩
   ·rw[z]at h;cases h
   ·rw[z]at h;cases h
  ·exact .inl h
  ·exact .inr h
 obtain⟨S',e⟩:=Ha0 (S:=[⟨true,ns.map D.int⟩]) (q:=0) (fz:=true) (ns:=ns) rfl;refine⟨[a],[.lst 0],[⟨true,ns.map D.int⟩],⟨rfl,fun i b c h1 h2=>?_,fun i j b ci cj h1 h2 h3 h4 h5 h6=>?_⟩,RepL.cons ⟨a,rfl,rfl,fun⟨_,z⟩=>by rcases hO a with y|⟨o,xs,y⟩<;>(rw[y]at z;cases z)⟩ RepL.nil,rfl,?_⟩
 ·cases i with
  |zero=>
   cases (Ab h1);cases (Ab h2);exact .inl ⟨ns.map V.int,Gjx ns,(if_pos rfl).mpr hF⟩
  |succ i=>simp at h1
 ·cases i with
  |zero=>cases (Ab h3);cases h5
  |succ i=>simp at h1
 ·show Gvc K [a] H (Gbv [.lst 0] [⟨true,ns.map D.int⟩]) _;rw[e];exact fun mp' H' v _ _ h=>h
end Law
def PySem.W.Fast.tw13446827560008642097:Nat:=0
def PySem.W.Fast.tw8299797137036798563:Nat:=0
def PySem.W.Fast.tw8757474853752959250:Nat:=0
def PySem.W.Fast.tw2231842894323278689:Nat:=0
def PySem.W.Fast.tw17961102849011807081:Nat:=0
def PySem.W.Fast.tw3173271980930158818:Nat:=0
def PySem.W.Fast.tw5486522754919051206:Nat:=0
def PySem.W.Fast.tw4878607402779447975:Nat:=0
def PySem.W.Fast.tw10249576050097801390:Nat:=0
def PySem.W.Fast.tw9771638330796396342:Nat:=0
def PySem.W.Fast.tw13242670686798161935:Nat:=0
def PySem.W.Fast.tw10614603769734919950:Nat:=0
def PySem.W.Fast.tw9838148104480501573:Nat:=0
def PySem.W.Fast.tw3669518969803860379:Nat:=0
def PySem.W.Fast.tw10388490662378930478:Nat:=0
def PySem.W.Fast.tw2171439325899897442:Nat:=0
def PySem.W.Fast.tw17665655702362785281:Nat:=0
def PySem.W.Fast.tw16105059320189627701:Nat:=0
def PySem.W.Fast.tw17409419650854593862:Nat:=0
def PySem.W.Fast.tw9083653599529296122:Nat:=0
def PySem.W.Fast.tw17453289459120658844:Nat:=0
def PySem.W.Fast.tw1874040065093198678:Nat:=0
def PySem.W.Fast.tw7558721489827880554:Nat:=0
def PySem.W.Fast.tw16089285956156905831:Nat:=0
def PySem.W.Fast.tw2143234183471843933:Nat:=0
def PySem.W.Fast.tw3727774452227303693:Nat:=0
def PySem.W.Fast.tw10782498752136866029:Nat:=0
def PySem.W.Fast.tw3975861399514432642:Nat:=0
def PySem.W.Fast.tw17270301136386515532:Nat:=0
def PySem.W.Fast.tw7112163574202842748:Nat:=0
def PySem.W.Fast.tw11990111188718071805:Nat:=0
def PySem.W.Fast.tw4377875531880593871:Nat:=0
def PySem.W.Fast.tw7538037104196617358:Nat:=0
def PySem.W.Fast.tw15569644631951034629:Nat:=0
def PySem.W.Fast.tw12572986048301133264:Nat:=0
def PySem.W.Fast.tw7963963720280299704:Nat:=0
def PySem.W.Fast.tw10350665597427684466:Nat:=0
def PySem.W.Fast.tw5047812991590043400:Nat:=0
def PySem.W.Fast.tw13722878186735237489:Nat:=0
def PySem.W.Fast.tw194734478911497875:Nat:=0
def PySem.W.Fast.tw2226607211516816818:Nat:=0
def PySem.W.Fast.tw17470075378500666577:Nat:=0
def PySem.W.Fast.tw10530636993423277099:Nat:=0
def PySem.W.Fast.tw10160122122205850742:Nat:=0
def PySem.W.Fast.tw14671359508353667500:Nat:=0
def PySem.W.Fast.tw14957999258818159311:Nat:=0
def PySem.W.Fast.tw11442644206633647769:Nat:=0
def PySem.W.Fast.tw7544747615583709427:Nat:=0
def PySem.W.Fast.tw5255069543699560416:Nat:=0
def PySem.W.Fast.tw9922266638816184640:Nat:=0
def PySem.W.Fast.tw13607248031035811599:Nat:=0
def PySem.W.Fast.tw18391449775087353411:Nat:=0
def PySem.W.Fast.tw15523252052180271699:Nat:=0
def PySem.W.Fast.tw9115876988681776812:Nat:=0
def PySem.W.Fast.tw12103499696627802284:Nat:=0
def PySem.W.Fast.tw2134085359326032935:Nat:=0
def PySem.W.Fast.tw4605244284810389695:Nat:=0
def PySem.W.Fast.tw10439762933090389249:Nat:=0
def PySem.W.Fast.tw4103172334287458913:Nat:=0
def PySem.W.Fast.tw10303564480456310470:Nat:=0
def PySem.W.Fast.tw10274248878215791828:Nat:=0
def PySem.W.Fast.tw615119745047503585:Nat:=0
def PySem.W.Fast.tw9425621173993472764:Nat:=0
def PySem.W.Fast.tw2510998741504948909:Nat:=0
def PySem.W.Fast.tw14570149608779884003:Nat:=0
def PySem.W.Fast.tw13246620069427214453:Nat:=0
def PySem.W.Fast.tw15877678238634599637:Nat:=0
def PySem.W.Fast.tw3929975202575821111:Nat:=0
def PySem.W.Fast.tw17723858261989696765:Nat:=0
def PySem.W.Fast.tw16000629263105109143:Nat:=0
def PySem.W.Fast.tw10111869441577474813:Nat:=0
def PySem.W.Fast.tw5647409942455363826:Nat:=0
def PySem.W.Fast.tw539787055852830084:Nat:=0
def PySem.W.Fast.tw13679525417262845794:Nat:=0
def PySem.W.Fast.tw14153922220630986106:Nat:=0
def PySem.W.Fast.tw7467031516688235113:Nat:=0
def PySem.W.Fast.tw8537275539789858967:Nat:=0
def PySem.W.Fast.tw8778956492961154987:Nat:=0
def PySem.W.Fast.tw10497581945305335112:Nat:=0
def PySem.W.Fast.tw10549629969107279380:Nat:=0
def PySem.W.Fast.tw10868386029443225274:Nat:=0
def PySem.W.Fast.tw13709416584384419465:Nat:=0
def PySem.W.Fast.tw7259506023658788567:Nat:=0
def PySem.W.Fast.tw2925001298997953482:Nat:=0
def PySem.W.Fast.tw5269517275784150564:Nat:=0
def PySem.W.Fast.tw9643619902034175059:Nat:=0
def PySem.W.Fast.tw18075511133886574184:Nat:=0
def PySem.W.Fast.tw9230023756584256140:Nat:=0
def PySem.W.Fast.tw9113202206256618212:Nat:=0
def PySem.W.Fast.tw9546187525212732961:Nat:=0
def PySem.W.Fast.tw11308526464043449388:Nat:=0
def PySem.W.Fast.tw10685635955130086388:Nat:=0
def PySem.W.Fast.tw2200170663660118092:Nat:=0
open PySem PySem.W PyProof.Rows
set_option maxHeartbeats 0 in
theorem PySem.Challenge.cw_summitwater_k21_who_never_comes_through_holds : PySem.Challenge.rw_summitwater_k21_who_never_comes_through.Holds := by
 w_on;o_law;k_head;(case hw=>w_witness2)
 k_fill
 refine L2.Gn7 (l:=PySem.Challenge.rw_summitwater_k21_who_never_comes_through) (n:=63) (k:=9) (x:="_law_script") (CX:=L2.CX0) (sp:=fun K=>DL.spD K 1 Law.Gbv) rfl (by decide) rfl ⟨rfl,by decide,by decide,rfl⟩ (fun w h QC=>PySem.W.kIn_of QC) ?F Law.hsp (fun _ _ _ _ z=>z)
 case F=>
  intro w mg fa h KX G hmg;refine' Law.Gzz KX G hmg ?HS ?x0 ?x1 ?x2 ?x3 ?x4 ?x5 ?x6 ?x7 ?x8 ?x9 ?x10 ?x11 ?x12 ?x13 ?x14 ?x15 ?x16 ?x17 ?x18 ?x19 ?x20 ?x21 ?x22 ?x23 ?x24 ?x25 ?x26 ?x27
  (case HS=>constructor<;>first|(refine' DL.fhd_mk ?a ?l ?c ?k ?t;(case a=>k_is);(case l=>k_is);(case c=>k_is);(case k=>k_is);(case t=>k_is))|(refine' DL.Hcp ?a ?l ?c ?k;(case a=>k_is);(case l=>k_is);(case c=>k_is);(case k=>k_is))|k_is)
  (case x0=>k_is)
  (case x1=>k_is)
  (case x2=>k_is)
  (case x3=>k_is)
  (case x4=>k_is)
  (case x5=>k_is)
  (case x6=>k_is)
  (case x7=>k_is)
  (case x8=>k_is)
  (case x9=>k_is)
  (case x10=>k_is)
  (case x11=>k_is)
  (case x12=>k_is)
  (case x13=>k_is)
  (case x14=>k_is)
  (case x15=>kernel_rfl!)
  (case x16=>k_is)
  (case x17=>k_is)
  (case x18=>k_is)
  (case x19=>k_is)
  (case x20=>kernel_rfl!)
  (case x21=>kernel_rfl!)
  (case x22=>kernel_rfl!)
  (case x23=>kernel_rfl!)
  (case x24=>kernel_rfl!)
  (case x25=>kernel_rfl!)
  (case x26=>kernel_rfl!)
  (case x27=>kernel_rfl!)
